import PyProof.Rows.All
import Wide.All
import OpenK.AllK
import Wide.FinOn
import PyProof.ExcClass
import HandS.Defaults
import HandS.Head0
import HandS.Head1
import HandS.Head2
import HandS.HeadHook4
import HandS.HeadNt
import HandS.ClsMeth
import KE.KSuper
import HandS.More
import HandS.ForMost
import HandS.Wide
import HandS.Gcd
import HandS.Codes
import HandS.IsInst
import HandS.Property
import HandS.OwnEq
import KE.KEqSeq
import KE.KOpsOwn
import PyProof.InstEq
import HandS.Star
import HandS.Exc
import HandS.TryMany
import HandS.EndTab
import HandS.List
import PyProof.ReprRoads
import HandS.FStr
import HandS.Strs
import KE.KFmtOwn
import KE.RegKIsAll
import KE.KNestM
import PySem.Challenge.RW_anyfifth_k37_heights
set_option Elab.async false
set_option maxRecDepth 100000
set_option maxHeartbeats 4000000
/-! A head by looks: what the end leans on is looked at behind one run of the top, in the kernel; facts of any kind as Bools, defs at any address, tables of code objects. -/
namespace Hz
open PySem PySem.W PySem.Calls PyProof.Rows He L2
/-- hands a number on once it is one -/
def withN {α : Type} (n : Nat) (k : Nat → α) : α := HandSHeadRun.frNat n k
/-- a set of addresses -/
inductive Tr where
  | nil
  | node (b : Bool) (l r : Tr)
def Tr.has : Tr → Nat → Bool
  | .nil, _ => false
  | .node b l r, i => match Nat.beq i 0 with
    | true => b
    | false => match Nat.beq (i % 2) 1 with
      | true => withN (i / 2) fun i => l.has i
      | false => withN (i / 2 - 1) fun i => r.has i
def Tr.arms : Tr → Bool × Tr × Tr
  | .nil => (false, .nil, .nil)
  | .node b l r => (b, l, r)
def Tr.put : Nat → Tr → Nat → Tr
  | 0, t, _ => t
  | n + 1, t, i => match t.arms with
    | (b, l, r) => match Nat.beq i 0 with
      | true => .node true l r
      | false => match Nat.beq (i % 2) 1 with
        | true => withN (i / 2) fun i => .node b (l.put n i) r
        | false => withN (i / 2 - 1) fun i => .node b l (r.put n i)
/-- the addresses that are not yet in the set -/
def sift : List Addr → Tr → List Addr → List Addr × Tr
  | [], t, r => (r, t)
  | a :: as, t, r => withN a fun a => match t.has a with
    | true => sift as t r
    | false => sift as (t.put 40 a) (a :: r)
/-- n rounds from the addresses that came last -/
def rounds (g : Addr → Option Obj) : Nat → List Addr → Tr → List Addr → List Addr
  | 0, _, _, all => all
  | n + 1, new, t, all => match sift (new.flatMap fun a => match g a with
      | some o => refsD o
      | none => []) t [] with
    | (nx, t2) => rounds g n nx t2 (nx ++ all)
/-- from what these names stand for -/
def reach (g : Addr → Option Obj) (xs : List Str) (n : Nat) : List Addr := match sift [mainGlobals, cStatics] .nil [] with
  | (first, t) => match sift (xs.map fun x => ga (frG g [mainGlobals]) x) t [] with
    | (nx, t) => rounds g n nx t (nx ++ first)
/-- the objects there -/
def objs (g : Addr → Option Obj) (xs : List Str) (n : Nat) : Frag := frT g (reach g xs n)
/-- hands a list of objects on once its cells stand -/
def laid {α : Type} : Frag → (Frag → α) → α
  | [], k => k []
  | (a, o) :: r, k => withN a fun a => laid r fun r => k ((a, o) :: r)
theorem withN_eq {α : Type} (n : Nat) (k : Nat → α) : withN n k = k n := HandSHeadRun.frNat_eq n k
theorem laid_eq {α : Type} : ∀ (K : Frag) (k : Frag → α), laid K k = k K
  | [], _ => rfl
  | (a, o) :: r, k => by
    show (withN a fun a => laid r fun r => k ((a, o) :: r)) = _
    rw [withN_eq, laid_eq r]
/-! ### what is looked at -/
def sees (fs : List (Frag → Bool)) (ds : List He5.DefA) (tf : List Defn) (g : Addr → Option Obj) (K : Frag) : AlD :=
  ((fs.all fun f => f K) && ((ds.all fun d => d.ok K) && tabsB g tf K), ds.map fun d => He5.fnA K (d.at_ K))
def due (ds : List He5.DefA) : AlD := (true, ds.map He5.DefA.val)
structure Says (fs : List (Frag → Bool)) (ds : List He5.DefA) (tf : List Defn) (h : Heap) (K : Frag) : Prop where
  f : ∀ f ∈ fs, f K = true
  d : ∀ d ∈ ds, d.ok K = true
  e : (ds.map fun d => He5.fnA K (d.at_ K)) = ds.map He5.DefA.val
  hd : ∀ p ∈ tf, codeHdIn K (cT K p).1 (cT K p).2 = true
  out : ∀ p ∈ tf, K.lookup (cT K p).2 = none
  em : ∀ p ∈ tf, h.get? (cT K p).2 = some (tabObj #[])
theorem says_of {xs : List Str} {n : Nat} {fs : List (Frag → Bool)} {ds : List He5.DefA} {tf : List Defn} {h : Heap} (e : laid (objs h.get? xs n) (sees fs ds tf h.get?) = due ds) : Says fs ds tf h (objs h.get? xs n) := by
  rw [laid_eq] at e
  have e1 := congrArg (fun z : AlD => z.1) e
  have e2 := congrArg (fun z : AlD => z.2) e
  obtain ⟨h1, h2⟩ := ba (show ((fs.all fun f => f (objs h.get? xs n)) && ((ds.all fun d => d.ok (objs h.get? xs n)) && tabsB h.get? tf (objs h.get? xs n))) = true from e1)
  obtain ⟨h2, h3⟩ := ba h2
  have key : ∀ p ∈ tf, codeHdIn (objs h.get? xs n) (cT (objs h.get? xs n) p).1 (cT (objs h.get? xs n) p).2 = true ∧ ∃ o, h.get? (cT (objs h.get? xs n) p).2 = some o ∧ emptyTab o = true := fun p hp => by
    obtain ⟨h4, h5⟩ := ba (List.all_eq_true.mp h3 p hp)
    refine ⟨h4, ?_⟩
    cases q : h.get? (cT (objs h.get? xs n) p).2 with
    | none => rw [q] at h5; cases h5
    | some o => rw [q] at h5; exact ⟨o, rfl, h5⟩
  refine ⟨fun f hf => List.all_eq_true.mp h1 f hf, fun d hd => List.all_eq_true.mp h2 d hd, e2, fun p hp => (key p hp).1, fun p hp => ?_, fun p hp => ?_⟩
  · obtain ⟨_, o, q, z⟩ := key p hp
    exact frT_none q z
  · obtain ⟨_, o, q, z⟩ := key p hp
    rw [q, emptyTab_eq z]
def hook (xs : List Str) (n : Nat) (fs : List (Frag → Bool)) (ds : List He5.DefA) (tf : List Defn) : PySem.W.Hook where
  α := AlD
  obs := fun s => laid (objs s.heap.get? xs n) (sees fs ds tf s.heap.get?)
  val := fun _ => due ds
  says := fun _ h => ∃ K : Frag, K.In h ∧ Says fs ds tf h K
  of := fun _ _ e => ⟨_, frT_in, says_of e⟩
  keeps := fun _ _ _ ⟨K, hK, c⟩ k => ⟨K, Frag.In.keeps hK k, ⟨c.f, c.d, c.e, c.hd, c.out, fun p hp => k _ _ (c.em p hp)⟩⟩
/-- the same off the tree -/
def ob (xs : List Str) (n : Nat) (fs : List (Frag → Bool)) (ds : List He5.DefA) (tf : List Defn) (s : SharedT) : AlD := laid (objs (HandSHeadRun.getT s) xs n) (sees fs ds tf (HandSHeadRun.getT s))
theorem ob_eq (xs : List Str) (n : Nat) (fs : List (Frag → Bool)) (ds : List He5.DefA) (tf : List Defn) (s : SharedT) : ob xs n fs ds tf s = (hook xs n fs ds tf).obs s.abs := by
  have e : HandSHeadRun.getT s = s.abs.heap.get? := funext (HandSHeadRun.getT_eq s)
  unfold ob
  rw [e]
  rfl
section
variable {fs : List (Frag → Bool)} {ds : List He5.DefA} {tf : List Defn} {h : Heap} {K : Frag}
theorem Says.fact (c : Says fs ds tf h K) (i : Nat) {f : Frag → Bool} (e : fs[i]? = some f := by rfl) : f K = true := c.f f (List.mem_of_getElem? e)
theorem Says.def_ (c : Says fs ds tf h K) (i : Nat) {d : He5.DefA} (e : ds[i]? = some d := by rfl) : ∃ fd, FunD K d.name d.qual d.params d.body d.scope (d.dvs K) (d.kws K) (d.at_ K) fd := by
  have e2 : (ds.map fun d => He5.fnA K (d.at_ K))[i]? = (ds.map He5.DefA.val)[i]? := by rw [c.e]
  rw [List.getElem?_map, List.getElem?_map, e] at e2
  exact He5.DefA.funD (Option.some.inj e2) (c.d d (List.mem_of_getElem? e))
end
/-- a def's code object, by its name -/
theorem code_at {K : Frag} {x qual : Str} {params : Arguments} {body : List Stmt} {scope : Scope} {dvs : List V} {kws : List (Str × V)} {f : Addr} {fd : FuncData} {p : Str × Option Str} (F : FunD K x qual params body scope dvs kws f fd) (e : fAd K p = f := by rfl) : fd.code = .ref (cT K p).1 := by
  obtain ⟨oc, od, dV, kV, doc, pm, an, cdv, ct, osl, rfl, lk, hcd, _, _⟩ := F.ex
  obtain ⟨c, rfl⟩ := codeIn_ref hcd
  rw [← e] at lk
  show Value.ref c = .ref (codeOf K p)
  rw [codeOf_eq lk rfl]
/-! ### kinds of facts -/
def bO (a : Option (Option Value)) (b : Option (Option Value)) : Bool := eqO a b
theorem bO_ok {a b : Option (Option Value)} (h : bO a b = true) : a = b := eqO_ok h
def bV (a b : Option Value) : Bool := decide (a = b)
theorem bV_ok {a b : Option Value} (h : bV a b = true) : a = b := of_decide_eq_true h
def bB (a b : Option Bool) : Bool := decide (a = b)
theorem bB_ok {a b : Option Bool} (h : bB a b = true) : a = b := of_decide_eq_true h
/-- there is an answer -/
def bS (a : Option (Option Value)) : Bool := a.isSome
theorem bS_ok {a : Option (Option Value)} (h : bS a = true) : ∃ o, a = some o := by
  cases a with
  | none => cases h
  | some o => exact ⟨o, rfl⟩
/-- a record's first item -/
def bR (a : Option (List Value)) (f : Addr) : Bool := match a with
  | some (.ref x :: _) => decide (x = f)
  | _ => false
theorem bR_ok {a : Option (List Value)} {f : Addr} (h : bR a f = true) : ∃ rest, a = some (.ref f :: rest) := by
  unfold bR at h
  split at h
  · rename_i x r
    exact ⟨r, by rw [of_decide_eq_true h]⟩
  · cases h
/-- an error class with an __init__ of its own, below ValueError -/
def bE (K : Frag) (C : Addr) : Bool := match K.lookup C with
  | some ⟨.type t, _, .cls cd, sl⟩ => decide (t = "type") && ((cd.hasDict && !cd.hasDel) && ((match cd.mro with
      | .ref c :: bm => decide (c = C) && HandSPX.refsVE bm
      | _ => false) && (match sl.toList with
      | [_, _, _, _, some (.builtin b), _] => decide (b = "ValueError.__new__")
      | _ => false)))
  | _ => false
theorem bE_ok {K : Frag} {C : Addr} (h : bE K C = true) : ∃ nm q N bs bm sn sub ab col dd k0 k1 k2 k3 k5, K.lookup C = some (excClassObj nm q C N bs bm true sn sub ab col dd k0 k1 k2 k3 k5 "ValueError.__new__") ∧ HandSPX.refsVE bm = true := by
  unfold bE at h
  cases q : K.lookup C with
  | none => rw [q] at h; cases h
  | some o =>
    obtain ⟨oc, od, dt, sl⟩ := o
    rw [q] at h
    cases oc with
    | type t =>
      cases dt with
      | cls cd =>
        obtain ⟨nm, bs, mro, ns, qn, hdct, sn, sub, ab, col, hdel⟩ := cd
        obtain ⟨h1, h⟩ := ba h
        obtain ⟨h2, h⟩ := ba h
        obtain ⟨h3, h4⟩ := ba h
        obtain ⟨h5, h6⟩ := ba h2
        have e1 : t = "type" := of_decide_eq_true h1
        have e2 : hdct = true := h5
        have e3 : hdel = false := by
          cases hdel with
          | false => rfl
          | true => cases h6
        clear h2 h
        subst e1 e2 e3
        cases mro with
        | nil => cases h3
        | cons m bm =>
          cases m with
          | ref c =>
            obtain ⟨h7, h8⟩ := ba (show (decide (c = C) && HandSPX.refsVE bm) = true from h3)
            have e4 : c = C := of_decide_eq_true h7
            subst e4
            clear h3 h7 h1
            split at h4
            · rename_i k0 k1 k2 k3 b k5 es
              have e5 : b = "ValueError.__new__" := of_decide_eq_true h4
              have e6 : sl = #[k0, k1, k2, k3, some (.builtin b), k5] := by
                rw [← Array.toArray_toList (xs := sl), es]
              subst e5 e6
              exact ⟨nm, qn, ns, bs, bm, sn, sub, ab, col, od, k0, k1, k2, k3, k5, rfl, h8⟩
            · cases h4
          | _ => cases h3
      | _ => cases h
    | _ => cases dt <;> cases h
/-! ### looks one behind another -/
theorem sees_app {fs fs' : List (Frag → Bool)} {ds ds' : List He5.DefA} {tf tf' : List Defn} {g : Addr → Option Obj} {K : Frag} (h : sees fs ds tf g K = due ds) (h' : sees fs' ds' tf' g K = due ds') : sees (fs ++ fs') (ds ++ ds') (tf ++ tf') g K = due (ds ++ ds') := by
  have a1 := congrArg (fun z : AlD => z.1) h
  have a2 := congrArg (fun z : AlD => z.2) h
  have b1 := congrArg (fun z : AlD => z.1) h'
  have b2 := congrArg (fun z : AlD => z.2) h'
  have a1 : ((fs.all fun f => f K) && ((ds.all fun d => d.ok K) && tabsB g tf K)) = true := a1
  have b1 : ((fs'.all fun f => f K) && ((ds'.all fun d => d.ok K) && tabsB g tf' K)) = true := b1
  have a2 : (ds.map fun d => He5.fnA K (d.at_ K)) = ds.map He5.DefA.val := a2
  have b2 : (ds'.map fun d => He5.fnA K (d.at_ K)) = ds'.map He5.DefA.val := b2
  obtain ⟨p1, p2⟩ := ba a1
  obtain ⟨p2, p3⟩ := ba p2
  obtain ⟨q1, q2⟩ := ba b1
  obtain ⟨q2, q3⟩ := ba q2
  have p3 : (tf.all _) = true := p3
  have q3 : (tf'.all _) = true := q3
  unfold sees due tabsB
  rw [List.all_append, List.all_append, List.all_append, List.map_append, List.map_append, p1, p2, p3, q1, q2, q3, a2, b2]
  rfl
theorem ob_app {xs : List Str} {n : Nat} {fs fs' : List (Frag → Bool)} {ds ds' : List He5.DefA} {tf tf' : List Defn} {s : SharedT} (h : ob xs n fs ds tf s = due ds) (h' : ob xs n fs' ds' tf' s = due ds') : ob xs n (fs ++ fs') (ds ++ ds') (tf ++ tf') s = due (ds ++ ds') := by
  unfold ob at *
  rw [laid_eq] at *
  exact sees_app h h'
theorem map_app {α : Type} {A : Option α} {k : α → SharedT} {xs : List Str} {n : Nat} {fs fs' : List (Frag → Bool)} {ds ds' : List He5.DefA} {tf tf' : List Defn} (h : A.map (fun z => ob xs n fs ds tf (k z)) = some (due ds)) (h' : A.map (fun z => ob xs n fs' ds' tf' (k z)) = some (due ds')) : A.map (fun z => ob xs n (fs ++ fs') (ds ++ ds') (tf ++ tf') (k z)) = some (due (ds ++ ds')) := by
  obtain ⟨z, e, h⟩ := Option.map_eq_some_iff.mp h
  rw [e] at h' ⊢
  exact congrArg some (ob_app h (Option.some.inj h'))
end Hz
set_option linter.all false
set_option maxRecDepth 100000
set_option maxHeartbeats 4000000
/-! A head whose opening imports: the opening, the fence, the top, all in one run over the heap as a tree. -/
noncomputable section
namespace Hz
open PySem PySem.W PySem.Calls PyProof.Rows HandSHeadRun
/-- the opening, to where the program is through -/
def impF (st : SharedT → Thread → Option (SharedT × Thread)) : Nat → SharedT → Thread → Option SharedT
  | 0, _, _ => none
  | m + 1, s, t => match t.atExitBegin with
    | some [] => some s
    | some (_ :: _) => none
    | none => match st s t with
      | some (s', t') => frS s' fun s' => impF st m s' t'
      | none => none
theorem impF_ok {tb : String → Option Builtin} {p : Program} {w : World} : ∀ {m : Nat} {s s' : SharedT} {t : Thread}, impF (stepT (denote tb) p w) m s t = some s' → importEnds tb p w m s.abs t = some s'.abs
  | 0, _, _, _, h => by cases h
  | m + 1, s, s', t, h => by
    unfold impF at h
    unfold importEnds
    cases ha : t.atExitBegin with
    | some l =>
      rw [ha] at h
      cases l with
      | nil =>
        cases h
        rfl
      | cons x xs => cases h
    | none =>
      rw [ha] at h
      dsimp only at h ⊢
      cases hs : stepT (denote tb) p w s t with
      | none =>
        rw [hs] at h
        cases h
      | some r =>
        obtain ⟨s2, t2⟩ := r
        rw [hs] at h
        have h3 : (frS s2 fun s' => impF (stepT (denote tb) p w) m s' t2) = some s' := h
        rw [frS_eq] at h3
        rw [stepT_spec hs]
        exact impF_ok h3
/-- the fence of one module, on the tree -/
def fenceT (m : Str) (s : SharedT) : Option SharedT := match boundIn s.abs.heap sysModules m, tameNamesOf? m with
  | some (.ref a), some row => (match getT s a with
    | some o => (match o.dict with
      | some D => (match getT s D, s.tree.get D with
        | some od, some _ => (fenceDict? m row od).map fun u => { s with tree := s.tree.set D fun _ => u }
        | _, _ => none)
      | none => none)
    | none => none)
  | _, _ => none
theorem fenceT_ok {m : Str} {s s' : SharedT} (h : fenceT m s = some s') : fenceModule? m s.abs = some s'.abs := by
  unfold fenceT at h
  unfold fenceModule?
  split at h
  · rename_i a row e1 e2
    rw [e1, e2]
    dsimp only
    rw [← getT_eq]
    split at h
    · rename_i o e3
      rw [e3]
      dsimp only
      split at h
      · rename_i D e4
        rw [e4]
        dsimp only
        rw [← getT_eq]
        split at h
        · rename_i od u e5 e6
          rw [e5]
          dsimp only
          cases e7 : fenceDict? m row od with
          | none =>
            rw [e7] at h
            cases h
          | some v =>
            rw [e7] at h
            cases h
            refine congrArg some ?_
            show (⟨(absHeap s.tree s.n s.life).update D fun _ => v, s.gens, s.drawn, s.toks, s.os⟩ : Shared) = ⟨absHeap (s.tree.set D fun _ => v) s.n s.life, s.gens, s.drawn, s.toks, s.os⟩
            rw [absHeap_set e6]
        · cases h
      · cases h
    · cases h
  · cases h
def fencesT : List Str → SharedT → Option SharedT
  | [], s => some s
  | m :: r, s => match fenceT m s with
    | some s' => fencesT r s'
    | none => none
theorem fencesT_ok : ∀ {l : List Str} {s s' : SharedT}, fencesT l s = some s' → fenceAll? l s.abs = some s'.abs
  | [], _, _, h => by
    cases h
    rfl
  | m :: r, s, s', h => by
    unfold fencesT at h
    unfold fenceAll?
    split at h
    · rename_i u e
      rw [fenceT_ok e]
      exact fencesT_ok h
    · cases h
/-- ahead of the boot -/
def zeroT (p : Program) : SharedT := ⟨.nil, 0, (start p).1.heap.life, (start p).1.gens, (start p).1.drawn, (start p).1.toks, (start p).1.os⟩
theorem zeroT_abs (p : Program) : (zeroT p).abs = (start p).1 := rfl
/-- all of it: the state behind the fence, the state behind the top -/
def allF (st0 st : SharedT → Thread → Option (SharedT × Thread)) (M0 M1 : Nat) (p : Program) : Option (SharedT × SharedT) := match impF st0 M0 (zeroT (opening p)) (start (opening p)).2 with
  | some s => (match fencesT (importedModules p.main.body) s with
    | some f => frS f fun f => (match goF st f.n (f.abs.heap.nsMap mainGlobals "__annotations__") M1 f (topStub p) with
      | some e => some (f, e)
      | none => none)
    | none => none)
  | none => none
def looksA (p : Program) (f e : Shared) : Bool := (f.heap.isNs mainGlobals && f.gens.size == 0) && (staticsOk (importedModules p.main.body) f.heap e.heap && namesBound p e.heap && gensDone e && laidKept f.heap e.heap)
theorem importEnds_le {tb : String → Option Builtin} {p : Program} {w : World} {M N : Nat} {s r : Shared} {t : Thread} (le : Nat.ble M N = true) (h : importEnds tb p w M s t = some r) : importEnds tb p w N s t = some r := by
  have := importEnds_mono (N - M) _ _ _ _ h
  rwa [show M + (N - M) = N by have := Nat.le_of_ble_eq_true le; omega] at this
theorem topRun_le {tb : String → Option Builtin} {p : Program} {w : World} {n0 M N : Nat} {ann : Option Value} {s r : Shared} {t : Thread} (le : Nat.ble M N = true) (h : topRun tb p w n0 ann M s t = some r) : topRun tb p w n0 ann N s t = some r := by
  have := topRun_mono (N - M) _ _ _ _ h
  rwa [show M + (N - M) = N by have := Nat.le_of_ble_eq_true le; omega] at this
theorem left_all {p q : Program} {loose : List Str} {Xt : Shared → Bool} {α : Type} {Yf : Shared → α} {Ya : World → α} {N M0 M1 : Nat}
    (hnp : p.main.body.any namesNumpy = false) (le0 : Nat.ble M0 N = true) (le1 : Nat.ble M1 N = true)
    (run : ∀ w : World, (allF (stepT (denote treeTable) (opening p) w) (stepT (denote treeTable) p w) M0 M1 p).map (fun z => (looksA p z.1.abs z.2.abs, openSeen q loose (importedModules p.main.body) Xt true z.2.abs, Yf z.2.abs)) = some (true, openGood q loose, Ya w)) :
    LeftO p q loose Xt Yf Ya N true := fun w => by
  obtain ⟨⟨f, e⟩, hs, hv⟩ := Option.map_eq_some_iff.mp (run w)
  obtain ⟨l1, l2, l3⟩ : _ ∧ _ ∧ _ := by simpa only [Prod.mk.injEq] using hv
  unfold allF at hs
  split at hs
  · rename_i s e1
    split at hs
    · rename_i f2 e2
      rw [frS_eq] at hs
      split at hs
      · rename_i e3 e4
        cases hs
        have i1 := importEnds_le le0 (impF_ok e1)
        rw [zeroT_abs] at i1
        have i2 : fenceModules? p s.abs = some f.abs := by
          unfold fenceModules?
          rw [fencesT_ok e2]
          show (if p.main.body.any namesNumpy then _ else _) = _
          rw [hnp]
          rfl
        have a : fencedOpening treeTable p w N = some f.abs := by
          unfold fencedOpening
          rw [i1]
          exact i2
        have r := topRun_le le1 (goF_ok e4)
        obtain ⟨k1, k2⟩ := Bool.and_eq_true_iff.mp (show ((f.abs.heap.isNs mainGlobals && f.abs.gens.size == 0) && (staticsOk (importedModules p.main.body) f.abs.heap e.abs.heap && namesBound p e.abs.heap && gensDone e.abs && laidKept f.abs.heap e.abs.heap)) = true from l1)
        have t : topFrom treeTable p w N f.abs = some e.abs := by
          unfold topFrom
          rw [k1]
          have sz : f.abs.heap.objs.size = f.n := absHeap_size _ _ _
          dsimp only
          rw [sz, r]
          show (match staticsOk (importedModules p.main.body) f.abs.heap e.abs.heap && namesBound p e.abs.heap && gensDone e.abs && laidKept f.abs.heap e.abs.heap with | true => some e.abs | false => none) = _
          rw [k2]
        unfold openEnds
        rw [a]
        show (topFrom treeTable p w N _).map _ = _
        rw [t]
        exact congrArg some (Prod.ext l2 l3)
      · cases hs
    · cases hs
  · cases hs
/-- the run's equation at a world -/
def RunAll (r : OpenRow) (q : Program) (H : Hook) (ob : SharedT → H.α) (M0 M1 : Nat) (loose : List Str) (w : World) : Prop :=
  (allF (stepQ (denQ tabQ) (opening r.prog) w) (stepQ (denQ tabQ) r.prog w) M0 M1 r.prog).map (fun z => (looksA r.prog z.1.abs z.2.abs, seenQ q loose (importedModules r.prog.main.body) (fun s => xlAt q [] s && recOk r.toRowW.records s) z.2.abs, ob z.2)) = some (true, openGood q loose, H.val w)
/-- .. from its parts -/
theorem run_of {r : OpenRow} {q : Program} {H : Hook} {ob : SharedT → H.α} {M0 M1 : Nat} {loose : List Str} {w : World}
    (hL : (allF (stepQ (denQ tabQ) (opening r.prog) w) (stepQ (denQ tabQ) r.prog w) M0 M1 r.prog).map (fun z => looksA r.prog z.1.abs z.2.abs) = some true)
    (hS : (allF (stepQ (denQ tabQ) (opening r.prog) w) (stepQ (denQ tabQ) r.prog w) M0 M1 r.prog).map (fun z => seenQ q loose (importedModules r.prog.main.body) (fun s => xlAt q [] s && recOk r.toRowW.records s) z.2.abs) = some (openGood q loose))
    (hF : (allF (stepQ (denQ tabQ) (opening r.prog) w) (stepQ (denQ tabQ) r.prog w) M0 M1 r.prog).map (fun z => ob z.2) = some (H.val w)) : RunAll r q H ob M0 M1 loose w := by
  unfold RunAll
  obtain ⟨z, e, h1⟩ := Option.map_eq_some_iff.mp hL
  rw [e] at hS hF ⊢
  have h2 := Option.some.inj hS
  have h3 := Option.some.inj hF
  exact congrArg some (Prod.ext h1 (Prod.ext h2 h3))
theorem allQ_eq (M0 M1 : Nat) (p : Program) (w : World) : allF (stepT (denote treeTable) (opening p) w) (stepT (denote treeTable) p w) M0 M1 p = allF (stepQ (denQ tabQ) (opening p) w) (stepQ (denQ tabQ) p w) M0 M1 p := by
  rw [stepQ_eq, denQ_eq, tabQ_eq]
theorem head_all {r : OpenRow} {q : Program} {H : Hook} {ob : SharedT → H.α} {M0 M1 : Nat} {loose : List Str} {d : DefRec} {kwd : List (Str × PySem.Expr)} (ho : ∀ s : SharedT, ob s = H.obs s.abs)
    (hnp : r.prog.main.body.any namesNumpy = false) (run : ∀ w, RunAll r q H ob M0 M1 loose w)
    (hdef : defOf q r.name = some (d, kwd)) (hp : r.prog.theDef r.name = some (d.params, d.body, d.scope)) (hk : kwWritten? d.params.kwonlyargs d.params.kw_defaults = some kwd)
    (hwr : (!r.writes || r.records.isEmpty) = true) (k1 : r.wellSaid = true) (ok : (chainsOk q && opensWell r.prog && (frees r.toRowW && r.within.isEmpty)) = true) (hb : r.prog.bare) (hw : r.toRowW.promised)
    (call : WalkO q loose (XL q []) H.says r.toRowW d kwd fun f vs => PySem.call f vs) : r.Holds := by
  have left : LeftO r.prog q loose (fun s => xlAt q [] s && recOk r.toRowW.records s) H.obs H.val (M0 + M1) true :=
    left_all hnp (M0 := M0) (M1 := M1) (Nat.ble_eq_true_of_le (by omega)) (Nat.ble_eq_true_of_le (by omega)) fun w => by
      have z := run w
      have eo : ob = fun s => H.obs s.abs := funext ho
      unfold RunAll at z
      rw [eo] at z
      simp only [allQ_eq, seenQ_eq]
      exact z
  exact holds_open (r := r) (q := q) (loose := loose) (XP := XL q []) (YP := H.says) (d := d) (kwd := kwd) left H.of H.keeps (fun s z => xl_of s (Bool.and_eq_true_iff.mp z).1) XL.keeps hdef hp hk (fun s z => recFacts_of (Bool.and_eq_true_iff.mp z).2) hwr k1 ok hb hw call
end Hz
set_option linter.all false
set_option maxRecDepth 100000
set_option maxHeartbeats 4000000
/-! Facts of the head: defs that bear the cell of their class (super()). -/
namespace Hz
open PySem PySem.W PySem.Calls PyProof.Rows He L2
/-- one such def: where it stands, its class -/
structure DefS where
  at_ : Frag → Addr
  D : Frag → Addr
  name : Str
  qual : Str
  params : Arguments
  body : List Stmt
  scope : Scope
def fnS (K : Frag) (a : Addr) : FnW := match K.lookup a with
  | some ⟨_, _, .func fd, _⟩ => some (fd.name, fd.qualname, fd.params, fd.body, fd.scope, fd.globals, [], fd.builtins)
  | _ => none
/-- its cell -/
def clo (K : Frag) (a : Addr) : Addr := match K.lookup a with
  | some ⟨_, _, .func fd, _⟩ => (match fd.closure with
    | [(_, c)] => c
    | _ => 0)
  | _ => 0
def cellIs (K : Frag) (c D : Addr) : Bool := match K.lookup c with
  | some ⟨_, _, .cell (some (.ref D')), _⟩ => decide (D' = D)
  | _ => false
theorem cellIs_ok {K : Frag} {c D : Addr} (h : cellIs K c D = true) : ∃ cl cld csl, K.lookup c = some ⟨cl, cld, .cell (some (.ref D)), csl⟩ := by
  unfold cellIs at h
  split at h
  · rename_i cl cld D' csl e
    have e2 : D' = D := of_decide_eq_true h
    subst e2
    exact ⟨_, _, _, e⟩
  · cases h
def fileIs (K : Frag) (cd : Value) (file : Str) : Bool := match cd with
  | .ref c => (match K.lookup c with
    | some ⟨_, _, .fields vs, _⟩ => (match (vs[2]? : Option Value) with
      | some (.str f _) => file == f
      | _ => false)
    | _ => false)
  | _ => false
theorem fileIs_ok {K : Frag} {cd : Value} {file : Str} (h : fileIs K cd file = true) : ∃ c ccl cdd vs ccs f tf, cd = .ref c ∧ K.lookup c = some ⟨ccl, cdd, .fields vs, ccs⟩ ∧ vs[2]? = some (.str f tf) ∧ (file == f) = true := by
  unfold fileIs at h
  split at h
  · rename_i c
    split at h
    · rename_i a b vs d e
      split at h
      · rename_i f tf e2
        exact ⟨c, _, _, vs, _, f, tf, rfl, e, e2, h⟩
      · cases h
    · cases h
  · cases h
def isN : Value → Bool
  | .none => true
  | _ => false
theorem isN_ok {v : Value} (h : isN v = true) : v = .none := by
  cases v <;> first | rfl | cases h
def oneC (K : Frag) (l : List (Str × Addr)) (D : Addr) : Bool := match l with
  | [(x, c)] => decide (x = "__class__") && cellIs K c D
  | _ => false
theorem oneC_ok {K : Frag} {l : List (Str × Addr)} {D : Addr} (h : oneC K l D = true) : ∃ c, l = [(("__class__" : Str), c)] ∧ cellIs K c D = true := by
  unfold oneC at h
  split at h
  · rename_i x c
    obtain ⟨h1, h2⟩ := ba h
    have e : x = "__class__" := of_decide_eq_true h1
    subst e
    exact ⟨c, rfl, h2⟩
  · cases h
def DefS.val (d : DefS) : FnW := some (d.name, d.qual, d.params, .stmts d.body, d.scope, mainGlobals, [], builtinsNs)
def DefS.ok (file : Str) (K : Frag) (d : DefS) : Bool := keepIn K (.ref (d.at_ K)) && (match K.lookup (d.at_ K) with
  | some ⟨_, _, .func fd, _⟩ => codeIn K fd.code d.qual && (fileIs K fd.code file && (isN fd.defaults && (oneC K fd.closure (d.D K) && (clsIn K (d.D K)).isSome)))
  | _ => false)
def seesS (file : Str) (es : List DefS) (K : Frag) : AlD := (es.all fun d => d.ok file K, es.map fun d => fnS K (d.at_ K))
def dueS (es : List DefS) : AlD := (true, es.map DefS.val)
def SaysS (file : Str) (es : List DefS) (K : Frag) : Prop := seesS file es K = dueS es
def hookS (xs : List Str) (n : Nat) (fs : List (Frag → Bool)) (ds : List He5.DefA) (tf : List Defn) (file : Str) (es : List DefS) : PySem.W.Hook where
  α := AlD × AlD
  obs := fun s => (laid (objs s.heap.get? xs n) (sees fs ds tf s.heap.get?), laid (objs s.heap.get? xs n) (seesS file es))
  val := fun _ => (due ds, dueS es)
  says := fun _ h => ∃ K : Frag, K.In h ∧ Says fs ds tf h K ∧ SaysS file es K
  of := fun _ _ e => ⟨_, frT_in, says_of (congrArg Prod.fst e), by
    have e2 := congrArg Prod.snd e
    dsimp only at e2
    rw [laid_eq] at e2
    exact e2⟩
  keeps := fun _ _ _ ⟨K, hK, c, z⟩ k => ⟨K, Frag.In.keeps hK k, ⟨c.f, c.d, c.e, c.hd, c.out, fun p hp => k _ _ (c.em p hp)⟩, z⟩
def obS (xs : List Str) (n : Nat) (file : Str) (es : List DefS) (s : SharedT) : AlD := laid (objs (HandSHeadRun.getT s) xs n) (seesS file es)
theorem obS_eq (xs : List Str) (n : Nat) (fs : List (Frag → Bool)) (ds : List He5.DefA) (tf : List Defn) (file : Str) (es : List DefS) (s : SharedT) : (ob xs n fs ds tf s, obS xs n file es s) = (hookS xs n fs ds tf file es).obs s.abs := by
  have e : HandSHeadRun.getT s = s.abs.heap.get? := funext (HandSHeadRun.getT_eq s)
  unfold ob obS
  rw [e]
  rfl
theorem map_pair {α β γ : Type} {A : Option α} {f : α → β} {g : α → γ} {b : β} {c : γ} (h : A.map f = some b) (h' : A.map g = some c) : A.map (fun z => (f z, g z)) = some (b, c) := by
  obtain ⟨z, e, h⟩ := Option.map_eq_some_iff.mp h
  rw [e] at h' ⊢
  exact congrArg some (Prod.ext h (Option.some.inj h'))
/-- C.m is the def at f -/
def bCF (K : Frag) (C : Addr) (m : Str) (f : Addr) : Bool := match findCls K (.ref C) (.type "type") m with
  | some (.val (.ref g)) => decide (g = f)
  | _ => false
theorem bCF_ok {K : Frag} {C f : Addr} {m : Str} (h : bCF K C m f = true) : ClX.CVal K C (.type "type") m (.ref f) (.ref f) := by
  unfold bCF at h
  split at h
  · rename_i g e
    have e2 : g = f := of_decide_eq_true h
    subst e2
    exact ⟨e, rfl⟩
  · cases h
end Hz
set_option linter.all false
set_option maxRecDepth 100000
set_option maxHeartbeats 4000000
namespace Toy
open PySem PySem.W PySem.Calls PyProof.Rows L2
/-! ### the head -/
def ztop (i : Nat) : Stmt := PySem.Challenge.pw_anyfifth_k37_heights.main.body.getD i (.Pass ⟨0, 0, 0, 0⟩)
abbrev zCR (K : PySem.W.Frag) : Addr := He.ga K "Ratio"
abbrev zCT (K : PySem.W.Frag) : Addr := He.ga K "Tone"
abbrev zCH (K : PySem.W.Frag) : Addr := He.ga K "Height"
abbrev zCM (K : PySem.W.Frag) : Addr := He.ga K "Moving"
abbrev zCN (K : PySem.W.Frag) : Addr := He.ga K "Note"
abbrev zCTm (K : PySem.W.Frag) : Addr := He.ga K "Term"
abbrev zgAdd (K : PySem.W.Frag) : Addr := He.ma K (zCR K) "__radd__"
abbrev zgSub (K : PySem.W.Frag) : Addr := He.ma K (zCR K) "__rsub__"
abbrev zgMult (K : PySem.W.Frag) : Addr := He.ma K (zCR K) "__rmul__"
abbrev zgNn (K : PySem.W.Frag) : Addr := He.ma K (zCN K) "note"
abbrev zgNp (K : PySem.W.Frag) : Addr := He.ma K (zCN K) "position"
abbrev zgNv (K : PySem.W.Frag) : Addr := He.ma K (zCN K) "moved"
abbrev zgNi (K : PySem.W.Frag) : Addr := He.ma K (zCN K) "mirrored"
abbrev zgMn (K : PySem.W.Frag) : Addr := He.ma K (zCM K) "note"
abbrev zgMp (K : PySem.W.Frag) : Addr := He.ma K (zCM K) "position"
abbrev zgMv (K : PySem.W.Frag) : Addr := He.ma K (zCM K) "moved"
abbrev zgMi (K : PySem.W.Frag) : Addr := He.ma K (zCM K) "mirrored"
abbrev zf0 (K : PySem.W.Frag) : Addr := He.ga K "is_int"
abbrev zp1 (K : PySem.W.Frag) : Addr := He.ma K (zCR K) "is_number"
abbrev zf1 (K : PySem.W.Frag) : Addr := He5.wf K (zCR K) "staticmethod" "is_number"
abbrev zf2 (K : PySem.W.Frag) : Addr := He.ga K "parts_of"
abbrev zf3 (K : PySem.W.Frag) : Addr := He.ga K "is_from_to"
abbrev zf4 (K : PySem.W.Frag) : Addr := He.ma K (zCR K) "__init__"
abbrev zf5 (K : PySem.W.Frag) : Addr := He.ma K (zCR K) "__eq__"
abbrev zp6 (K : PySem.W.Frag) : Addr := He.ma K (zCR K) "is_fifth"
abbrev zf6 (K : PySem.W.Frag) : Addr := He5.wf K (zCR K) "staticmethod" "is_fifth"
abbrev zf7 (K : PySem.W.Frag) : Addr := He.ma K (zCR K) "__add__"
abbrev zf8 (K : PySem.W.Frag) : Addr := He.ma K (zCR K) "__sub__"
abbrev zf9 (K : PySem.W.Frag) : Addr := He.ma K (zCR K) "__mul__"
abbrev zf10 (K : PySem.W.Frag) : Addr := He.ma K (zCR K) "__rmul__"
abbrev zf11 (K : PySem.W.Frag) : Addr := He.ma K (zCR K) "__neg__"
abbrev zf12 (K : PySem.W.Frag) : Addr := He.ma K (zCR K) "__rsub__"
abbrev zf13 (K : PySem.W.Frag) : Addr := He.ma K (zCT K) "__init__"
abbrev zf14 (K : PySem.W.Frag) : Addr := He.ma K (zCT K) "__eq__"
abbrev zf15 (K : PySem.W.Frag) : Addr := He.ma K (He.ga K "Tone") "__call__"
abbrev zf16 (K : PySem.W.Frag) : Addr := He.ma K (He.ga K "Term") "__init__"
abbrev zf17 (K : PySem.W.Frag) : Addr := He.ma K (zCN K) "__init__"
abbrev zf18 (K : PySem.W.Frag) : Addr := He.ma K (zCM K) "__init__"
abbrev zp19 (K : PySem.W.Frag) : Addr := He.ma K (zCN K) "is_moving"
abbrev zf19 (K : PySem.W.Frag) : Addr := He5.wf K (zCN K) "property" "is_moving"
abbrev zp20 (K : PySem.W.Frag) : Addr := He.ma K (zCM K) "is_moving"
abbrev zf20 (K : PySem.W.Frag) : Addr := He5.wf K (zCM K) "property" "is_moving"
abbrev zf21 (K : PySem.W.Frag) : Addr := He.ma K (He.ga K "Term") "note"
abbrev zf22 (K : PySem.W.Frag) : Addr := He.ma K (He.ga K "Term") "position"
abbrev zf23 (K : PySem.W.Frag) : Addr := He.ga K "_alike"
abbrev zf24 (K : PySem.W.Frag) : Addr := He.ma K (He.ga K "Term") "moved"
abbrev zf25 (K : PySem.W.Frag) : Addr := He.ma K (He.ga K "Term") "mirrored"
abbrev zf26 (K : PySem.W.Frag) : Addr := He.ma K (He.ga K "Term") "__eq__"
abbrev zf27 (K : PySem.W.Frag) : Addr := He.ga K "is_near"
abbrev zf28 (K : PySem.W.Frag) : Addr := He.ma K (zCH K) "__init__"
abbrev zf29 (K : PySem.W.Frag) : Addr := He.ma K (zCH K) "pitch"
abbrev zf30 (K : PySem.W.Frag) : Addr := He.ma K (zCH K) "moved"
abbrev zf31 (K : PySem.W.Frag) : Addr := He.ma K (zCH K) "mirrored"
abbrev zf32 (K : PySem.W.Frag) : Addr := He.ma K (zCH K) "__eq__"
abbrev zf33 (K : PySem.W.Frag) : Addr := He.ga K "_law_pen"
abbrev zf34 (K : PySem.W.Frag) : Addr := He.ga K "_law_draw"
abbrev zf35 (K : PySem.W.Frag) : Addr := He.ga K "_law_pick"
abbrev zf36 (K : PySem.W.Frag) : Addr := He.ga K "_law_fraction"
abbrev zf37 (K : PySem.W.Frag) : Addr := He.ga K "_law_number"
abbrev zf38 (K : PySem.W.Frag) : Addr := He.ga K "_law_term"
abbrev zf39 (K : PySem.W.Frag) : Addr := He.ga K "_law_tone"
abbrev zf40 (K : PySem.W.Frag) : Addr := He.ga K "_law_real_term"
abbrev zf41 (K : PySem.W.Frag) : Addr := He.ga K "_law_real_height"
abbrev zf42 (K : PySem.W.Frag) : Addr := He.ga K "_law_key"
abbrev zf43 (K : PySem.W.Frag) : Addr := He.ga K "_law_pitch_right"
abbrev zf44 (K : PySem.W.Frag) : Addr := He.ga K "_law_kept_right"
abbrev zf45 (K : PySem.W.Frag) : Addr := He.ga K "law"
def zd0 : He5.DefA := ⟨zf0, "is_int", "is_int", defArgs (ztop 18), defBody (ztop 18), defScope (ztop 18), [], []⟩
def zd1 : He5.DefA := ⟨zf1, "is_number", "Ratio.is_number", defArgs (inClass (ztop 23) 1), defBody (inClass (ztop 23) 1), defScope (inClass (ztop 23) 1), [], []⟩
def zd2 : He5.DefA := ⟨zf2, "parts_of", "parts_of", defArgs (ztop 24), defBody (ztop 24), defScope (ztop 24), [], []⟩
def zd3 : He5.DefA := ⟨zf3, "is_from_to", "is_from_to", defArgs (ztop 21), defBody (ztop 21), defScope (ztop 21), [], []⟩
def zd4 : He5.DefA := ⟨zf4, "__init__", "Ratio.__init__", defArgs (inClass (ztop 23) 0), defBody (inClass (ztop 23) 0), defScope (inClass (ztop 23) 0), [.int 1], []⟩
def zd5 : He5.DefA := ⟨zf5, "__eq__", "Ratio.__eq__", defArgs (inClass (ztop 23) 21), defBody (inClass (ztop 23) 21), defScope (inClass (ztop 23) 21), [], []⟩
def zd6 : He5.DefA := ⟨zf6, "is_fifth", "Ratio.is_fifth", defArgs (inClass (ztop 23) 2), defBody (inClass (ztop 23) 2), defScope (inClass (ztop 23) 2), [], []⟩
def zd7 : He5.DefA := ⟨zf7, "__add__", "Ratio.__add__", defArgs (inClass (ztop 23) 8), defBody (inClass (ztop 23) 8), defScope (inClass (ztop 23) 8), [], []⟩
def zd8 : He5.DefA := ⟨zf8, "__sub__", "Ratio.__sub__", defArgs (inClass (ztop 23) 10), defBody (inClass (ztop 23) 10), defScope (inClass (ztop 23) 10), [], []⟩
def zd9 : He5.DefA := ⟨zf9, "__mul__", "Ratio.__mul__", defArgs (inClass (ztop 23) 12), defBody (inClass (ztop 23) 12), defScope (inClass (ztop 23) 12), [], []⟩
def zd10 : He5.DefA := ⟨zf10, "__rmul__", "Ratio.__rmul__", defArgs (inClass (ztop 23) 13), defBody (inClass (ztop 23) 13), defScope (inClass (ztop 23) 13), [], []⟩
def zd11 : He5.DefA := ⟨zf11, "__neg__", "Ratio.__neg__", defArgs (inClass (ztop 23) 18), defBody (inClass (ztop 23) 18), defScope (inClass (ztop 23) 18), [], []⟩
def zd12 : He5.DefA := ⟨zf12, "__rsub__", "Ratio.__rsub__", defArgs (inClass (ztop 23) 11), defBody (inClass (ztop 23) 11), defScope (inClass (ztop 23) 11), [], []⟩
def zd13 : He5.DefA := ⟨zf13, "__init__", "Tone.__init__", defArgs (inClass (ztop 74) 0), defBody (inClass (ztop 74) 0), defScope (inClass (ztop 74) 0), [.int 0], []⟩
def zd14 : He5.DefA := ⟨zf14, "__eq__", "Tone.__eq__", defArgs (inClass (ztop 74) 10), defBody (inClass (ztop 74) 10), defScope (inClass (ztop 74) 10), [], []⟩
def zd15 : He5.DefA := ⟨zf15, "__call__", "Tone.__call__", defArgs (inClass (ztop 74) 2), defBody (inClass (ztop 74) 2), defScope (inClass (ztop 74) 2), [], []⟩
def zd16 : He5.DefA := ⟨zf16, "__init__", "Term.__init__", defArgs (inClass (ztop 78) 0), defBody (inClass (ztop 78) 0), defScope (inClass (ztop 78) 0), [], []⟩
def zd17 : He5.DefA := ⟨zf17, "__init__", "Note.__init__", defArgs (inClass (ztop 79) 0), defBody (inClass (ztop 79) 0), defScope (inClass (ztop 79) 0), [], []⟩
def zd18 : He5.DefA := ⟨zf18, "__init__", "Moving.__init__", defArgs (inClass (ztop 80) 0), defBody (inClass (ztop 80) 0), defScope (inClass (ztop 80) 0), [], []⟩
def zd19 : He5.DefA := ⟨zf19, "is_moving", "Note.is_moving", defArgs (inClass (ztop 79) 1), defBody (inClass (ztop 79) 1), defScope (inClass (ztop 79) 1), [], []⟩
def zd20 : He5.DefA := ⟨zf20, "is_moving", "Moving.is_moving", defArgs (inClass (ztop 80) 1), defBody (inClass (ztop 80) 1), defScope (inClass (ztop 80) 1), [], []⟩
def zd21 : He5.DefA := ⟨zf21, "note", "Term.note", defArgs (inClass (ztop 78) 2), defBody (inClass (ztop 78) 2), defScope (inClass (ztop 78) 2), [], []⟩
def zd22 : He5.DefA := ⟨zf22, "position", "Term.position", defArgs (inClass (ztop 78) 3), defBody (inClass (ztop 78) 3), defScope (inClass (ztop 78) 3), [], []⟩
def zd23 : He5.DefA := ⟨zf23, "_alike", "_alike", defArgs (ztop 83), defBody (ztop 83), defScope (ztop 83), [], []⟩
def zd24 : He5.DefA := ⟨zf24, "moved", "Term.moved", defArgs (inClass (ztop 78) 4), defBody (inClass (ztop 78) 4), defScope (inClass (ztop 78) 4), [], []⟩
def zd25 : He5.DefA := ⟨zf25, "mirrored", "Term.mirrored", defArgs (inClass (ztop 78) 5), defBody (inClass (ztop 78) 5), defScope (inClass (ztop 78) 5), [], []⟩
def zd26 : He5.DefA := ⟨zf26, "__eq__", "Term.__eq__", defArgs (inClass (ztop 78) 6), defBody (inClass (ztop 78) 6), defScope (inClass (ztop 78) 6), [], []⟩
def zd27 : He5.DefA := ⟨zf27, "is_near", "is_near", defArgs (ztop 82), defBody (ztop 82), defScope (ztop 82), [], []⟩
def zd28 : He5.DefA := ⟨zf28, "__init__", "Height.__init__", defArgs (inClass (ztop 81) 0), defBody (inClass (ztop 81) 0), defScope (inClass (ztop 81) 0), [], []⟩
def zd29 : He5.DefA := ⟨zf29, "pitch", "Height.pitch", defArgs (inClass (ztop 81) 1), defBody (inClass (ztop 81) 1), defScope (inClass (ztop 81) 1), [], []⟩
def zd30 : He5.DefA := ⟨zf30, "moved", "Height.moved", defArgs (inClass (ztop 81) 2), defBody (inClass (ztop 81) 2), defScope (inClass (ztop 81) 2), [], []⟩
def zd31 : He5.DefA := ⟨zf31, "mirrored", "Height.mirrored", defArgs (inClass (ztop 81) 3), defBody (inClass (ztop 81) 3), defScope (inClass (ztop 81) 3), [], []⟩
def zd32 : He5.DefA := ⟨zf32, "__eq__", "Height.__eq__", defArgs (inClass (ztop 81) 4), defBody (inClass (ztop 81) 4), defScope (inClass (ztop 81) 4), [], []⟩
def zd33 : He5.DefA := ⟨zf33, "_law_pen", "_law_pen", defArgs (ztop 85), defBody (ztop 85), defScope (ztop 85), [], []⟩
def zd34 : He5.DefA := ⟨zf34, "_law_draw", "_law_draw", defArgs (ztop 86), defBody (ztop 86), defScope (ztop 86), [], []⟩
def zd35 : He5.DefA := ⟨zf35, "_law_pick", "_law_pick", defArgs (ztop 87), defBody (ztop 87), defScope (ztop 87), [], []⟩
def zd36 : He5.DefA := ⟨zf36, "_law_fraction", "_law_fraction", defArgs (ztop 88), defBody (ztop 88), defScope (ztop 88), [], []⟩
def zd37 : He5.DefA := ⟨zf37, "_law_number", "_law_number", defArgs (ztop 89), defBody (ztop 89), defScope (ztop 89), [], []⟩
def zd38 : He5.DefA := ⟨zf38, "_law_term", "_law_term", defArgs (ztop 90), defBody (ztop 90), defScope (ztop 90), [], []⟩
def zd39 : He5.DefA := ⟨zf39, "_law_tone", "_law_tone", defArgs (ztop 92), defBody (ztop 92), defScope (ztop 92), [], []⟩
def zd40 : He5.DefA := ⟨zf40, "_law_real_term", "_law_real_term", defArgs (ztop 91), defBody (ztop 91), defScope (ztop 91), [], []⟩
def zd41 : He5.DefA := ⟨zf41, "_law_real_height", "_law_real_height", defArgs (ztop 93), defBody (ztop 93), defScope (ztop 93), [], []⟩
def zd42 : He5.DefA := ⟨zf42, "_law_key", "_law_key", defArgs (ztop 94), defBody (ztop 94), defScope (ztop 94), [], []⟩
def zd43 : He5.DefA := ⟨zf43, "_law_pitch_right", "_law_pitch_right", defArgs (ztop 95), defBody (ztop 95), defScope (ztop 95), [], []⟩
def zd44 : He5.DefA := ⟨zf44, "_law_kept_right", "_law_kept_right", defArgs (ztop 96), defBody (ztop 96), defScope (ztop 96), [], []⟩
def zd45 : He5.DefA := ⟨zf45, "law", "law", defArgs (ztop 97), defBody (ztop 97), defScope (ztop 97), [], []⟩
def zfs0_0 : List (PySem.W.Frag → Bool) := [fun K => Hz.bO (PySem.W.nsIn K mainGlobals "Ratio") (some (some (.ref (zCR K)))),
  fun K => PySem.W.plainGet K (zCR K) Str.empty,
  fun K => PySem.W.hasDictIn K (zCR K),
  fun K => PySem.W.plainOver K (zCR K),
  fun K => Hz.bO (PySem.W.findIn K (.ref (zCR K)) "__setattr__") (some (some (.builtin "object.__setattr__"))),
  fun K => PySem.W.readsIn K (zCR K) (.type "type"),
  fun K => Hz.bO (PySem.W.specialIn K (.ref (zCR K)) "__getattribute__") (some (some (.builtin "type.__getattribute__"))),
  fun K => Hz.bO (PySem.W.findIn K (.ref (zCR K)) "__class__") (some (some (.builtin "object.__class__"))),
  fun K => Hz.bB (PySem.W.mroIn K (zCR K) (.type "object")) (some true),
  fun K => Hz.bB (PySem.W.subIn K (.ref (zCR K)) (.type "int")) (some false),
  fun K => PySem.W.notFirst K (zCR K) (.type "int"),
  fun K => PySem.W.notFirst K (zCR K) (.ref (zCR K)),
  fun K => Hz.bB (PySem.W.kitOne K (.ref (zCR K)) (.type "int")) (some false),
  fun K => Hz.bB (PySem.W.kitOne K (.ref (zCR K)) (.type "bool")) (some false),
  fun K => Hz.bB (PySem.W.kitOne K (.type "int") (.ref (zCR K))) (some false),
  fun K => Hz.bB (PySem.W.kitOne K (.ref (zCR K)) (.ref (zCR K))) (some true),
  fun K => Hz.bO (PySem.W.findIn K (.ref (zCR K)) "top") (some none),
  fun K => Hz.bO (PySem.W.findIn K (.ref (zCR K)) "bottom") (some none),
  fun K => PySem.W.makesIn K (zCR K),
  fun K => PySem.W.keepIn K (.ref (zCR K))]
def zfs0_1 : List (PySem.W.Frag → Bool) := [fun K => Hz.bO (PySem.W.nsIn K mainGlobals "Tone") (some (some (.ref (zCT K)))),
  fun K => PySem.W.plainGet K (zCT K) Str.empty,
  fun K => PySem.W.hasDictIn K (zCT K),
  fun K => PySem.W.plainOver K (zCT K),
  fun K => Hz.bO (PySem.W.findIn K (.ref (zCT K)) "__setattr__") (some (some (.builtin "object.__setattr__"))),
  fun K => PySem.W.readsIn K (zCT K) (.type "type"),
  fun K => Hz.bO (PySem.W.specialIn K (.ref (zCT K)) "__getattribute__") (some (some (.builtin "type.__getattribute__"))),
  fun K => Hz.bO (PySem.W.findIn K (.ref (zCT K)) "__class__") (some (some (.builtin "object.__class__"))),
  fun K => Hz.bB (PySem.W.mroIn K (zCT K) (.type "object")) (some true),
  fun K => Hz.bB (PySem.W.subIn K (.ref (zCT K)) (.type "int")) (some false),
  fun K => PySem.W.notFirst K (zCT K) (.type "int"),
  fun K => PySem.W.notFirst K (zCT K) (.ref (zCT K)),
  fun K => Hz.bB (PySem.W.kitOne K (.ref (zCT K)) (.type "int")) (some false),
  fun K => Hz.bB (PySem.W.kitOne K (.ref (zCT K)) (.type "bool")) (some false),
  fun K => Hz.bB (PySem.W.kitOne K (.type "int") (.ref (zCT K))) (some false),
  fun K => Hz.bB (PySem.W.kitOne K (.ref (zCT K)) (.ref (zCT K))) (some true),
  fun K => Hz.bO (PySem.W.findIn K (.ref (zCT K)) "octaves") (some none),
  fun K => Hz.bO (PySem.W.findIn K (.ref (zCT K)) "fifths") (some none),
  fun K => PySem.W.makesIn K (zCT K),
  fun K => PySem.W.keepIn K (.ref (zCT K))]
def zfs0_2 : List (PySem.W.Frag → Bool) := [fun K => Hz.bO (PySem.W.nsIn K mainGlobals "Height") (some (some (.ref (zCH K)))),
  fun K => PySem.W.plainGet K (zCH K) Str.empty]
def zfs0 : List (PySem.W.Frag → Bool) := zfs0_0 ++ (zfs0_1 ++ (zfs0_2))
def zds0_0 : List (He5.DefA) := [zd0,
  zd1,
  zd2,
  zd3,
  zd4,
  zd5,
  zd6]
def zds0 : List (He5.DefA) := zds0_0
def zfs1_0 : List (PySem.W.Frag → Bool) := [fun K => PySem.W.hasDictIn K (zCH K),
  fun K => PySem.W.plainOver K (zCH K),
  fun K => Hz.bO (PySem.W.findIn K (.ref (zCH K)) "__setattr__") (some (some (.builtin "object.__setattr__"))),
  fun K => PySem.W.readsIn K (zCH K) (.type "type"),
  fun K => Hz.bO (PySem.W.specialIn K (.ref (zCH K)) "__getattribute__") (some (some (.builtin "type.__getattribute__"))),
  fun K => Hz.bO (PySem.W.findIn K (.ref (zCH K)) "__class__") (some (some (.builtin "object.__class__"))),
  fun K => Hz.bB (PySem.W.mroIn K (zCH K) (.type "object")) (some true),
  fun K => Hz.bB (PySem.W.subIn K (.ref (zCH K)) (.type "int")) (some false),
  fun K => PySem.W.notFirst K (zCH K) (.type "int"),
  fun K => PySem.W.notFirst K (zCH K) (.ref (zCH K)),
  fun K => Hz.bB (PySem.W.kitOne K (.ref (zCH K)) (.type "int")) (some false),
  fun K => Hz.bB (PySem.W.kitOne K (.ref (zCH K)) (.type "bool")) (some false),
  fun K => Hz.bB (PySem.W.kitOne K (.type "int") (.ref (zCH K))) (some false),
  fun K => Hz.bB (PySem.W.kitOne K (.ref (zCH K)) (.ref (zCH K))) (some true),
  fun K => Hz.bO (PySem.W.findIn K (.ref (zCH K)) "tone") (some none),
  fun K => Hz.bO (PySem.W.findIn K (.ref (zCH K)) "term") (some none),
  fun K => PySem.W.makesIn K (zCH K),
  fun K => PySem.W.keepIn K (.ref (zCH K)),
  fun K => Hz.bO (PySem.W.nsIn K mainGlobals "Moving") (some (some (.ref (zCM K)))),
  fun K => PySem.W.plainGet K (zCM K) Str.empty]
def zfs1_1 : List (PySem.W.Frag → Bool) := [fun K => PySem.W.hasDictIn K (zCM K),
  fun K => PySem.W.plainOver K (zCM K),
  fun K => Hz.bO (PySem.W.findIn K (.ref (zCM K)) "__setattr__") (some (some (.builtin "object.__setattr__"))),
  fun K => PySem.W.readsIn K (zCM K) (.type "type"),
  fun K => Hz.bO (PySem.W.specialIn K (.ref (zCM K)) "__getattribute__") (some (some (.builtin "type.__getattribute__"))),
  fun K => Hz.bO (PySem.W.findIn K (.ref (zCM K)) "__class__") (some (some (.builtin "object.__class__"))),
  fun K => Hz.bB (PySem.W.mroIn K (zCM K) (.type "object")) (some true),
  fun K => Hz.bB (PySem.W.subIn K (.ref (zCM K)) (.type "int")) (some false),
  fun K => PySem.W.notFirst K (zCM K) (.type "int"),
  fun K => PySem.W.notFirst K (zCM K) (.ref (zCM K)),
  fun K => Hz.bB (PySem.W.kitOne K (.ref (zCM K)) (.type "int")) (some false),
  fun K => Hz.bB (PySem.W.kitOne K (.ref (zCM K)) (.type "bool")) (some false),
  fun K => Hz.bB (PySem.W.kitOne K (.type "int") (.ref (zCM K))) (some false),
  fun K => Hz.bB (PySem.W.kitOne K (.ref (zCM K)) (.ref (zCM K))) (some true),
  fun K => Hz.bO (PySem.W.findIn K (.ref (zCM K)) "number") (some none),
  fun K => PySem.W.makesIn K (zCM K),
  fun K => PySem.W.keepIn K (.ref (zCM K)),
  fun K => Hz.bO (PySem.W.nsIn K mainGlobals "Note") (some (some (.ref (zCN K)))),
  fun K => PySem.W.plainGet K (zCN K) Str.empty,
  fun K => PySem.W.hasDictIn K (zCN K)]
def zfs1_2 : List (PySem.W.Frag → Bool) := [fun K => PySem.W.plainOver K (zCN K),
  fun K => Hz.bO (PySem.W.findIn K (.ref (zCN K)) "__setattr__") (some (some (.builtin "object.__setattr__")))]
def zfs1 : List (PySem.W.Frag → Bool) := zfs1_0 ++ (zfs1_1 ++ (zfs1_2))
def zds1_0 : List (He5.DefA) := [zd7,
  zd8,
  zd9,
  zd10,
  zd11,
  zd12,
  zd13,
  zd14]
def zds1 : List (He5.DefA) := zds1_0
def zfs2_0 : List (PySem.W.Frag → Bool) := [fun K => PySem.W.readsIn K (zCN K) (.type "type"),
  fun K => Hz.bO (PySem.W.specialIn K (.ref (zCN K)) "__getattribute__") (some (some (.builtin "type.__getattribute__"))),
  fun K => Hz.bO (PySem.W.findIn K (.ref (zCN K)) "__class__") (some (some (.builtin "object.__class__"))),
  fun K => Hz.bB (PySem.W.mroIn K (zCN K) (.type "object")) (some true),
  fun K => Hz.bB (PySem.W.subIn K (.ref (zCN K)) (.type "int")) (some false),
  fun K => PySem.W.notFirst K (zCN K) (.type "int"),
  fun K => PySem.W.notFirst K (zCN K) (.ref (zCN K)),
  fun K => Hz.bB (PySem.W.kitOne K (.ref (zCN K)) (.type "int")) (some false),
  fun K => Hz.bB (PySem.W.kitOne K (.ref (zCN K)) (.type "bool")) (some false),
  fun K => Hz.bB (PySem.W.kitOne K (.type "int") (.ref (zCN K))) (some false),
  fun K => Hz.bB (PySem.W.kitOne K (.ref (zCN K)) (.ref (zCN K))) (some true),
  fun K => Hz.bO (PySem.W.findIn K (.ref (zCN K)) "number") (some none),
  fun K => PySem.W.makesIn K (zCN K),
  fun K => PySem.W.keepIn K (.ref (zCN K)),
  fun K => Hz.bO (PySem.W.specialIn K (.builtin "object.__class__") "__get__") (some (some (.builtin "getset_descriptor.__get__"))),
  fun K => Hz.bB (PySem.W.takesIn K (.builtin "object.__class__")) (some true),
  fun K => Hz.bO (PySem.W.nsIn K mainGlobals "int") (some none),
  fun K => Hz.bO (PySem.W.nsIn K mainGlobals "len") (some none),
  fun K => Hz.bO (PySem.W.nsIn K mainGlobals "abs") (some none),
  fun K => Hz.bO (PySem.W.nsIn K mainGlobals "list") (some none)]
def zfs2_1 : List (PySem.W.Frag → Bool) := [fun K => Hz.bO (PySem.W.nsIn K mainGlobals "range") (some none),
  fun K => Hz.bO (PySem.W.nsIn K mainGlobals "isinstance") (some none),
  fun K => Hz.bO (PySem.W.nsIn K mainGlobals "bool") (some none),
  fun K => Hz.bO (PySem.W.nsIn K mainGlobals "super") (some none),
  fun K => Hz.bO (PySem.W.nsIn K mainGlobals "gcd") (some (some (.builtin "math.gcd"))),
  fun K => Hz.bO (PySem.W.nsIn K mainGlobals "Term") (some (some (.ref (zCTm K)))),
  fun K => Hz.bO (PySem.W.findIn K (.ref (zCR K)) "__ne__") (some (some (.builtin "object.__ne__"))),
  fun K => Hz.bB (PySem.W.subIn K (.ref (zCR K)) (.type "object")) (some true),
  fun K => Hz.bB (PySem.W.subIn K (.type "int") (.ref (zCR K))) (some false),
  fun K => PySem.W.selfFirst K (zCR K),
  fun K => Hz.bS (PySem.W.findIn K (.type "int") "__add__"),
  fun K => Hz.bS (PySem.W.findIn K (.type "int") "__radd__"),
  fun K => Hz.bO (PySem.W.findIn K (.ref (zCR K)) "__radd__") (some (some (.ref (zgAdd K)))),
  fun K => Hz.bS (PySem.W.findIn K (.type "int") "__sub__"),
  fun K => Hz.bS (PySem.W.findIn K (.type "int") "__rsub__"),
  fun K => Hz.bO (PySem.W.findIn K (.ref (zCR K)) "__rsub__") (some (some (.ref (zgSub K)))),
  fun K => Hz.bS (PySem.W.findIn K (.type "int") "__mul__"),
  fun K => Hz.bS (PySem.W.findIn K (.type "int") "__rmul__"),
  fun K => Hz.bO (PySem.W.findIn K (.ref (zCR K)) "__rmul__") (some (some (.ref (zgMult K)))),
  fun K => Hz.bO (PySem.W.findIn K (.ref (zCM K)) "note") (some (some (.ref (zgMn K))))]
def zfs2_2 : List (PySem.W.Frag → Bool) := [fun K => Hz.bO (PySem.W.findIn K (.ref (zCM K)) "position") (some (some (.ref (zgMp K)))),
  fun K => Hz.bO (PySem.W.findIn K (.ref (zCM K)) "moved") (some (some (.ref (zgMv K))))]
def zfs2 : List (PySem.W.Frag → Bool) := zfs2_0 ++ (zfs2_1 ++ (zfs2_2))
def zds2_0 : List (He5.DefA) := [zd15,
  zd16,
  zd17,
  zd18,
  zd19,
  zd20,
  zd21,
  zd22]
def zds2 : List (He5.DefA) := zds2_0
def zfs3_0 : List (PySem.W.Frag → Bool) := [fun K => Hz.bO (PySem.W.findIn K (.ref (zCM K)) "mirrored") (some (some (.ref (zgMi K)))),
  fun K => Hz.bO (PySem.W.findIn K (.ref (zCM K)) "__eq__") (some (some (.ref (zf26 K)))),
  fun K => PySem.W.isFn K (.ref (zgMn K)),
  fun K => PySem.W.isFn K (.ref (zgMp K)),
  fun K => PySem.W.isFn K (.ref (zgMv K)),
  fun K => PySem.W.isFn K (.ref (zgMi K)),
  fun K => Hz.bO (PySem.W.findIn K (.ref (zCM K)) "__ne__") (some (some (.builtin "object.__ne__"))),
  fun K => Hz.bB (PySem.W.subIn K (.ref (zCM K)) (.type "object")) (some true),
  fun K => Hz.bB (PySem.W.mroIn K (zCM K) (.ref (zCM K))) (some true),
  fun K => Hz.bO (PySem.W.findIn K (.ref (zCN K)) "note") (some (some (.ref (zgNn K)))),
  fun K => Hz.bO (PySem.W.findIn K (.ref (zCN K)) "position") (some (some (.ref (zgNp K)))),
  fun K => Hz.bO (PySem.W.findIn K (.ref (zCN K)) "moved") (some (some (.ref (zgNv K)))),
  fun K => Hz.bO (PySem.W.findIn K (.ref (zCN K)) "mirrored") (some (some (.ref (zgNi K)))),
  fun K => Hz.bO (PySem.W.findIn K (.ref (zCN K)) "__eq__") (some (some (.ref (zf26 K)))),
  fun K => PySem.W.isFn K (.ref (zgNn K)),
  fun K => PySem.W.isFn K (.ref (zgNp K)),
  fun K => PySem.W.isFn K (.ref (zgNv K)),
  fun K => PySem.W.isFn K (.ref (zgNi K)),
  fun K => Hz.bO (PySem.W.findIn K (.ref (zCN K)) "__ne__") (some (some (.builtin "object.__ne__"))),
  fun K => Hz.bB (PySem.W.subIn K (.ref (zCN K)) (.type "object")) (some true)]
def zfs3_1 : List (PySem.W.Frag → Bool) := [fun K => Hz.bB (PySem.W.mroIn K (zCN K) (.ref (zCN K))) (some true),
  fun K => Hz.bO (PySem.W.ks_superIn K (zCN K) (zCN K) "note") (some (some (.ref (zf21 K)))),
  fun K => Hz.bO (PySem.W.ks_superIn K (zCN K) (zCN K) "position") (some (some (.ref (zf22 K)))),
  fun K => Hz.bO (PySem.W.ks_superIn K (zCN K) (zCN K) "moved") (some (some (.ref (zf24 K)))),
  fun K => Hz.bO (PySem.W.ks_superIn K (zCN K) (zCN K) "mirrored") (some (some (.ref (zf25 K)))),
  fun K => Hz.bO (PySem.W.ks_superIn K (zCM K) (zCM K) "note") (some (some (.ref (zf21 K)))),
  fun K => Hz.bO (PySem.W.ks_superIn K (zCM K) (zCM K) "position") (some (some (.ref (zf22 K)))),
  fun K => Hz.bO (PySem.W.ks_superIn K (zCM K) (zCM K) "moved") (some (some (.ref (zf24 K)))),
  fun K => Hz.bO (PySem.W.ks_superIn K (zCM K) (zCM K) "mirrored") (some (some (.ref (zf25 K)))),
  fun K => Hz.bV (PySem.W.typeIn K (.ref (zf21 K))) (some (.type "function")),
  fun K => PySem.W.fnIn K (zf21 K),
  fun K => Hz.bV (PySem.W.typeIn K (.ref (zf22 K))) (some (.type "function")),
  fun K => PySem.W.fnIn K (zf22 K),
  fun K => Hz.bV (PySem.W.typeIn K (.ref (zf24 K))) (some (.type "function")),
  fun K => PySem.W.fnIn K (zf24 K),
  fun K => Hz.bV (PySem.W.typeIn K (.ref (zf25 K))) (some (.type "function")),
  fun K => PySem.W.fnIn K (zf25 K),
  fun K => PySem.W.isFn K (.ref (zf26 K)),
  fun K => Hz.bO (PySem.W.nsIn K cStatics "thirdparty.any") (some none),
  fun K => Hz.bCF K (zCTm K) "__init__" (zf16 K)]
def zfs3_2 : List (PySem.W.Frag → Bool) := [fun K => PySem.W.readsIn K (zCTm K) (.type "type"),
  fun K => Hz.bO (PySem.W.specialIn K (.ref (zCTm K)) "__getattribute__") (some (some (.builtin "type.__getattribute__")))]
def zfs3 : List (PySem.W.Frag → Bool) := zfs3_0 ++ (zfs3_1 ++ (zfs3_2))
def zds3_0 : List (He5.DefA) := [zd23,
  zd24,
  zd25,
  zd26,
  zd27,
  zd28,
  zd29]
def zds3 : List (He5.DefA) := zds3_0
def zfs4_0 : List (PySem.W.Frag → Bool) := [fun K => PySem.W.isFn K (.ref (zf15 K)),
  fun K => Hz.bB (PySem.W.kitOne K (.ref (zCN K)) (.ref (zCM K))) (some false),
  fun K => Hz.bB (PySem.W.kitOne K (.ref (zCM K)) (.ref (zCTm K))) (some true),
  fun K => Hz.bB (PySem.W.kitOne K (.ref (zCN K)) (.ref (zCTm K))) (some true),
  fun K => PySem.W.notFirst K (zCM K) (.ref (zCN K)),
  fun K => PySem.W.notFirst K (zCN K) (.ref (zCM K)),
  fun K => Hz.bO (PySem.W.findIn K (.ref (zCT K)) "__call__") (some (some (.ref (zf15 K)))),
  fun K => PySem.W.fnIn K (zf15 K),
  fun K => Hz.bO (PySem.W.findIn K (.ref (zCT K)) "__ne__") (some (some (.builtin "object.__ne__"))),
  fun K => Hz.bB (PySem.W.subIn K (.ref (zCT K)) (.type "object")) (some true),
  fun K => Hz.bO (PySem.W.findIn K (.ref (zCH K)) "__ne__") (some (some (.builtin "object.__ne__"))),
  fun K => Hz.bB (PySem.W.subIn K (.ref (zCH K)) (.type "object")) (some true),
  fun K => Hz.bB (PySem.W.kitOne K (.type "NoneType") (.ref (zCH K))) (some false),
  fun K => PySem.W.notFirst K (zCH K) (.type "NoneType"),
  fun K => Hz.bB (PySem.W.kitOne K (.type "tuple") (.ref (zCH K))) (some false),
  fun K => PySem.W.notFirst K (zCH K) (.type "tuple"),
  fun K => Hz.bB (PySem.W.kitOne K (.ref (zCT K)) (.ref (zCH K))) (some false),
  fun K => PySem.W.notFirst K (zCH K) (.ref (zCT K)),
  fun K => Hz.bB (PySem.W.kitOne K (.ref (zCM K)) (.ref (zCH K))) (some false),
  fun K => PySem.W.notFirst K (zCH K) (.ref (zCM K))]
def zfs4_1 : List (PySem.W.Frag → Bool) := [fun K => Hz.bB (PySem.W.kitOne K (.ref (zCN K)) (.ref (zCH K))) (some false),
  fun K => PySem.W.notFirst K (zCH K) (.ref (zCN K)),
  fun K => Hz.bO (PySem.W.nsIn K mainGlobals "is_int") (some (some (.ref (zf0 K)))),
  fun K => He5.wrapB K (zCR K) "staticmethod" "staticmethod.__get__" "is_number",
  fun K => Hz.bO (PySem.W.nsIn K mainGlobals "parts_of") (some (some (.ref (zf2 K)))),
  fun K => Hz.bO (PySem.W.nsIn K mainGlobals "is_from_to") (some (some (.ref (zf3 K)))),
  fun K => Hz.bO (PySem.W.findIn K (.ref (zCR K)) "__init__") (some (some (.ref (zf4 K)))),
  fun K => PySem.W.isFn K (.ref (zf4 K)),
  fun K => Hz.bO (PySem.W.findIn K (.ref (zCR K)) "__eq__") (some (some (.ref (zf5 K)))),
  fun K => PySem.W.isFn K (.ref (zf5 K)),
  fun K => He5.wrapB K (zCR K) "staticmethod" "staticmethod.__get__" "is_fifth",
  fun K => Hz.bO (PySem.W.findIn K (.ref (zCR K)) "__add__") (some (some (.ref (zf7 K)))),
  fun K => PySem.W.isFn K (.ref (zf7 K)),
  fun K => Hz.bO (PySem.W.findIn K (.ref (zCR K)) "__sub__") (some (some (.ref (zf8 K)))),
  fun K => PySem.W.isFn K (.ref (zf8 K)),
  fun K => Hz.bO (PySem.W.findIn K (.ref (zCR K)) "__mul__") (some (some (.ref (zf9 K)))),
  fun K => PySem.W.isFn K (.ref (zf9 K)),
  fun K => Hz.bO (PySem.W.findIn K (.ref (zCR K)) "__rmul__") (some (some (.ref (zf10 K)))),
  fun K => PySem.W.isFn K (.ref (zf10 K)),
  fun K => Hz.bO (PySem.W.findIn K (.ref (zCR K)) "__neg__") (some (some (.ref (zf11 K))))]
def zfs4_2 : List (PySem.W.Frag → Bool) := [fun K => PySem.W.isFn K (.ref (zf11 K)),
  fun K => Hz.bO (PySem.W.findIn K (.ref (zCR K)) "__rsub__") (some (some (.ref (zf12 K))))]
def zfs4 : List (PySem.W.Frag → Bool) := zfs4_0 ++ (zfs4_1 ++ (zfs4_2))
def zds4_0 : List (He5.DefA) := [zd30,
  zd31,
  zd32,
  zd33,
  zd34,
  zd35,
  zd36,
  zd37]
def zds4 : List (He5.DefA) := zds4_0
def zfs5_0 : List (PySem.W.Frag → Bool) := [fun K => PySem.W.isFn K (.ref (zf12 K)),
  fun K => Hz.bO (PySem.W.findIn K (.ref (zCT K)) "__init__") (some (some (.ref (zf13 K)))),
  fun K => PySem.W.isFn K (.ref (zf13 K)),
  fun K => Hz.bO (PySem.W.findIn K (.ref (zCT K)) "__eq__") (some (some (.ref (zf14 K)))),
  fun K => PySem.W.isFn K (.ref (zf14 K)),
  fun K => Hz.bO (PySem.W.findIn K (.ref (zCN K)) "__init__") (some (some (.ref (zf17 K)))),
  fun K => PySem.W.isFn K (.ref (zf17 K)),
  fun K => Hz.bO (PySem.W.findIn K (.ref (zCM K)) "__init__") (some (some (.ref (zf18 K)))),
  fun K => PySem.W.isFn K (.ref (zf18 K)),
  fun K => Hz.bO (PySem.W.findIn K (.ref (zCN K)) "is_moving") (some (some (.ref (zp19 K)))),
  fun K => Hz.bO (PySem.W.specialIn K (.ref (zp19 K)) "__get__") (some (some (.builtin "property.__get__"))),
  fun K => Hz.bB (PySem.W.takesIn K (.ref (zp19 K))) (some true),
  fun K => Hz.bR (PySem.W.recIn K (zp19 K) "property") (zf19 K),
  fun K => Hz.bO (PySem.W.findIn K (.ref (zCM K)) "is_moving") (some (some (.ref (zp20 K)))),
  fun K => Hz.bO (PySem.W.specialIn K (.ref (zp20 K)) "__get__") (some (some (.builtin "property.__get__"))),
  fun K => Hz.bB (PySem.W.takesIn K (.ref (zp20 K))) (some true),
  fun K => Hz.bR (PySem.W.recIn K (zp20 K) "property") (zf20 K),
  fun K => Hz.bO (PySem.W.nsIn K mainGlobals "_alike") (some (some (.ref (zf23 K)))),
  fun K => Hz.bO (PySem.W.nsIn K mainGlobals "is_near") (some (some (.ref (zf27 K)))),
  fun K => Hz.bO (PySem.W.findIn K (.ref (zCH K)) "__init__") (some (some (.ref (zf28 K))))]
def zfs5_1 : List (PySem.W.Frag → Bool) := [fun K => PySem.W.isFn K (.ref (zf28 K)),
  fun K => Hz.bO (PySem.W.findIn K (.ref (zCH K)) "pitch") (some (some (.ref (zf29 K)))),
  fun K => PySem.W.isFn K (.ref (zf29 K)),
  fun K => Hz.bO (PySem.W.findIn K (.ref (zCH K)) "moved") (some (some (.ref (zf30 K)))),
  fun K => PySem.W.isFn K (.ref (zf30 K)),
  fun K => Hz.bO (PySem.W.findIn K (.ref (zCH K)) "mirrored") (some (some (.ref (zf31 K)))),
  fun K => PySem.W.isFn K (.ref (zf31 K)),
  fun K => Hz.bO (PySem.W.findIn K (.ref (zCH K)) "__eq__") (some (some (.ref (zf32 K)))),
  fun K => PySem.W.isFn K (.ref (zf32 K)),
  fun K => Hz.bO (PySem.W.nsIn K mainGlobals "_law_pen") (some (some (.ref (zf33 K)))),
  fun K => Hz.bO (PySem.W.nsIn K mainGlobals "_law_draw") (some (some (.ref (zf34 K)))),
  fun K => Hz.bO (PySem.W.nsIn K mainGlobals "_law_pick") (some (some (.ref (zf35 K)))),
  fun K => Hz.bO (PySem.W.nsIn K mainGlobals "_law_fraction") (some (some (.ref (zf36 K)))),
  fun K => Hz.bO (PySem.W.nsIn K mainGlobals "_law_number") (some (some (.ref (zf37 K)))),
  fun K => Hz.bO (PySem.W.nsIn K mainGlobals "_law_term") (some (some (.ref (zf38 K)))),
  fun K => Hz.bO (PySem.W.nsIn K mainGlobals "_law_tone") (some (some (.ref (zf39 K)))),
  fun K => Hz.bO (PySem.W.nsIn K mainGlobals "_law_real_term") (some (some (.ref (zf40 K)))),
  fun K => Hz.bO (PySem.W.nsIn K mainGlobals "_law_real_height") (some (some (.ref (zf41 K)))),
  fun K => Hz.bO (PySem.W.nsIn K mainGlobals "_law_key") (some (some (.ref (zf42 K)))),
  fun K => Hz.bO (PySem.W.nsIn K mainGlobals "_law_pitch_right") (some (some (.ref (zf43 K))))]
def zfs5_2 : List (PySem.W.Frag → Bool) := [fun K => Hz.bO (PySem.W.nsIn K mainGlobals "_law_kept_right") (some (some (.ref (zf44 K)))),
  fun K => Hz.bO (PySem.W.nsIn K mainGlobals "law") (some (some (.ref (zf45 K))))]
def zfs5 : List (PySem.W.Frag → Bool) := zfs5_0 ++ (zfs5_1 ++ (zfs5_2))
def zds5_0 : List (He5.DefA) := [zd38,
  zd39,
  zd40,
  zd41,
  zd42,
  zd43,
  zd44,
  zd45]
def zds5 : List (He5.DefA) := zds5_0
def zfs : List (PySem.W.Frag → Bool) := zfs0 ++ (zfs1 ++ (zfs2 ++ (zfs3 ++ (zfs4 ++ (zfs5)))))
def zds : List He5.DefA := zds0 ++ (zds1 ++ (zds2 ++ (zds3 ++ (zds4 ++ (zds5)))))
def ze0 : Hz.DefS := ⟨zgNn, zCN, "note", "Note.note", defArgs (inClass (ztop 79) 2), defBody (inClass (ztop 79) 2), defScope (inClass (ztop 79) 2)⟩
def ze1 : Hz.DefS := ⟨zgNp, zCN, "position", "Note.position", defArgs (inClass (ztop 79) 3), defBody (inClass (ztop 79) 3), defScope (inClass (ztop 79) 3)⟩
def ze2 : Hz.DefS := ⟨zgNv, zCN, "moved", "Note.moved", defArgs (inClass (ztop 79) 4), defBody (inClass (ztop 79) 4), defScope (inClass (ztop 79) 4)⟩
def ze3 : Hz.DefS := ⟨zgNi, zCN, "mirrored", "Note.mirrored", defArgs (inClass (ztop 79) 5), defBody (inClass (ztop 79) 5), defScope (inClass (ztop 79) 5)⟩
def ze4 : Hz.DefS := ⟨zgMn, zCM, "note", "Moving.note", defArgs (inClass (ztop 80) 2), defBody (inClass (ztop 80) 2), defScope (inClass (ztop 80) 2)⟩
def ze5 : Hz.DefS := ⟨zgMp, zCM, "position", "Moving.position", defArgs (inClass (ztop 80) 3), defBody (inClass (ztop 80) 3), defScope (inClass (ztop 80) 3)⟩
def ze6 : Hz.DefS := ⟨zgMv, zCM, "moved", "Moving.moved", defArgs (inClass (ztop 80) 4), defBody (inClass (ztop 80) 4), defScope (inClass (ztop 80) 4)⟩
def ze7 : Hz.DefS := ⟨zgMi, zCM, "mirrored", "Moving.mirrored", defArgs (inClass (ztop 80) 5), defBody (inClass (ztop 80) 5), defScope (inClass (ztop 80) 5)⟩
def zes : List Hz.DefS := [ze0, ze1, ze2, ze3, ze4, ze5, ze6, ze7]
def zxs : List Str := ([Str.ofString "Ratio", Str.ofString "Tone", Str.ofString "Height", Str.ofString "Moving", Str.ofString "Note", Str.ofString "Term", Str.ofString "is_int", Str.ofString "parts_of", Str.ofString "is_from_to", Str.ofString "_alike", Str.ofString "is_near", Str.ofString "_law_pen", Str.ofString "_law_draw", Str.ofString "_law_pick", Str.ofString "_law_fraction", Str.ofString "_law_number", Str.ofString "_law_term", Str.ofString "_law_tone", Str.ofString "_law_real_term", Str.ofString "_law_real_height"] : List Str) ++ ([Str.ofString "_law_key", Str.ofString "_law_pitch_right", Str.ofString "_law_kept_right", Str.ofString "law"] : List Str)
def ztf0 : List He.Defn := []
def ztf : List He.Defn := ztf0 ++ ([] ++ ([] ++ ([] ++ ([] ++ ([])))))
abbrev zR : OpenRow := OpenLaw.row PySem.Challenge.rw_anyfifth_k37_heights
abbrev zq : Program := PySem.W.view zR.prog [97]
abbrev zfile : Str := zR.prog.main.file
abbrev zhk : PySem.W.Hook := Hz.hookS zxs 4 zfs zds ztf zfile zes
def zob (s : PySem.W.SharedT) : He.AlD × He.AlD := (Hz.ob zxs 4 zfs zds ztf s, Hz.obS zxs 4 zfile zes s)
theorem zob_eq (s : PySem.W.SharedT) : zob s = zhk.obs s.abs := Hz.obS_eq _ _ _ _ _ _ _ s
def znames : List PySem.Str := ([PySem.Str.ofString "gcd", PySem.Str.ofString "_wall", PySem.Str.ofString "FifthError", PySem.Str.ofString "BadInput", PySem.Str.ofString "Refused", PySem.Str.ofString "BadRatio", PySem.Str.ofString "BadFifth", PySem.Str.ofString "BadNumber", PySem.Str.ofString "BadPiece", PySem.Str.ofString "BadTruth", PySem.Str.ofString "BadTone", PySem.Str.ofString "BadTerm", PySem.Str.ofString "BadRegion", PySem.Str.ofString "BadText", PySem.Str.ofString "NoDivisor", PySem.Str.ofString "TooMany", PySem.Str.ofString "is_int", PySem.Str.ofString "written", PySem.Str.ofString "integer_in", PySem.Str.ofString "is_from_to"] : List PySem.Str) ++ ([PySem.Str.ofString "Ratio", PySem.Str.ofString "parts_of", PySem.Str.ofString "ratio_in", PySem.Str.ofString "_lead", PySem.Str.ofString "_quotient", PySem.Str.ofString "Piece", PySem.Str.ofString "path", PySem.Str.ofString "_is_left_end", PySem.Str.ofString "_is_right_end", PySem.Str.ofString "_is_from_one_on", PySem.Str.ofString "_are_neighbours", PySem.Str.ofString "_spot", PySem.Str.ofString "Row", PySem.Str.ofString "WHOLE", PySem.Str.ofString "is_branch", PySem.Str.ofString "nodes_of", PySem.Str.ofString "leaves_of", PySem.Str.ofString "sizes_of", PySem.Str.ofString "node_at", PySem.Str.ofString "half_ends"] : List PySem.Str) ++ ([PySem.Str.ofString "piece_of", PySem.Str.ofString "NONE", PySem.Str.ofString "EVERY", PySem.Str.ofString "AND", PySem.Str.ofString "OR", PySem.Str.ofString "LESS", PySem.Str.ofString "UNLIKE", PySem.Str.ofString "branch_of", PySem.Str.ofString "halves_of", PySem.Str.ofString "combined", PySem.Str.ofString "mirror_of", PySem.Str.ofString "truth_at", PySem.Str.ofString "above_tree", PySem.Str.ofString "below_tree", PySem.Str.ofString "tree_of", PySem.Str.ofString "tree_in", PySem.Str.ofString "words_of", PySem.Str.ofString "_node_in", PySem.Str.ofString "_turns_to", PySem.Str.ofString "Region"] : List PySem.Str) ++ ([PySem.Str.ofString "_is_in_octave", PySem.Str.ofString "_level_of", PySem.Str.ofString "_check_levels", PySem.Str.ofString "_is_within", PySem.Str.ofString "_tree_of_only", PySem.Str.ofString "Tone", PySem.Str.ofString "tone_in", PySem.Str.ofString "_into_octave", PySem.Str.ofString "Term", PySem.Str.ofString "Note", PySem.Str.ofString "Moving", PySem.Str.ofString "Height", PySem.Str.ofString "is_near", PySem.Str.ofString "_alike", PySem.Str.ofString "_law_pen", PySem.Str.ofString "_law_draw", PySem.Str.ofString "_law_pick", PySem.Str.ofString "_law_fraction", PySem.Str.ofString "_law_number", PySem.Str.ofString "_law_term"] : List PySem.Str) ++ ([PySem.Str.ofString "_law_real_term", PySem.Str.ofString "_law_tone", PySem.Str.ofString "_law_real_height", PySem.Str.ofString "_law_key", PySem.Str.ofString "_law_pitch_right", PySem.Str.ofString "_law_kept_right"] : List PySem.Str)
set_option maxRecDepth 100000 in
set_option maxHeartbeats 0 in
theorem zG (w : World) : (Hz.allF (HandSHeadRun.stepQ (HandSHeadRun.denQ HandSHeadRun.tabQ) (opening zR.prog) w) (HandSHeadRun.stepQ (HandSHeadRun.denQ HandSHeadRun.tabQ) zR.prog w) 2000 20000 zR.prog).map (fun z => Hz.obS zxs 4 zfile zes z.2) = some (Hz.dueS zes) := by
  kernel_rfl
set_option maxRecDepth 100000 in
set_option maxHeartbeats 0 in
theorem zL (w : World) : (Hz.allF (HandSHeadRun.stepQ (HandSHeadRun.denQ HandSHeadRun.tabQ) (opening zR.prog) w) (HandSHeadRun.stepQ (HandSHeadRun.denQ HandSHeadRun.tabQ) zR.prog w) 2000 20000 zR.prog).map (fun z => Hz.looksA zR.prog z.1.abs z.2.abs) = some true := by
  kernel_rfl
set_option maxRecDepth 100000 in
set_option maxHeartbeats 0 in
theorem zS (w : World) : (Hz.allF (HandSHeadRun.stepQ (HandSHeadRun.denQ HandSHeadRun.tabQ) (opening zR.prog) w) (HandSHeadRun.stepQ (HandSHeadRun.denQ HandSHeadRun.tabQ) zR.prog w) 2000 20000 zR.prog).map (fun z => HandSHeadRun.seenQ zq znames (importedModules zR.prog.main.body) (fun s => xlAt zq [] s && recOk zR.toRowW.records s) z.2.abs) = some (openGood zq znames) := by
  kernel_rfl
set_option maxRecDepth 100000 in
set_option maxHeartbeats 0 in
theorem zF0 (w : World) : (Hz.allF (HandSHeadRun.stepQ (HandSHeadRun.denQ HandSHeadRun.tabQ) (opening zR.prog) w) (HandSHeadRun.stepQ (HandSHeadRun.denQ HandSHeadRun.tabQ) zR.prog w) 2000 20000 zR.prog).map (fun z => Hz.ob zxs 4 zfs0 zds0 ztf0 z.2) = some (Hz.due zds0) := by
  kernel_rfl
set_option maxRecDepth 100000 in
set_option maxHeartbeats 0 in
theorem zF1 (w : World) : (Hz.allF (HandSHeadRun.stepQ (HandSHeadRun.denQ HandSHeadRun.tabQ) (opening zR.prog) w) (HandSHeadRun.stepQ (HandSHeadRun.denQ HandSHeadRun.tabQ) zR.prog w) 2000 20000 zR.prog).map (fun z => Hz.ob zxs 4 zfs1 zds1 [] z.2) = some (Hz.due zds1) := by
  kernel_rfl
set_option maxRecDepth 100000 in
set_option maxHeartbeats 0 in
theorem zF2 (w : World) : (Hz.allF (HandSHeadRun.stepQ (HandSHeadRun.denQ HandSHeadRun.tabQ) (opening zR.prog) w) (HandSHeadRun.stepQ (HandSHeadRun.denQ HandSHeadRun.tabQ) zR.prog w) 2000 20000 zR.prog).map (fun z => Hz.ob zxs 4 zfs2 zds2 [] z.2) = some (Hz.due zds2) := by
  kernel_rfl
set_option maxRecDepth 100000 in
set_option maxHeartbeats 0 in
theorem zF3 (w : World) : (Hz.allF (HandSHeadRun.stepQ (HandSHeadRun.denQ HandSHeadRun.tabQ) (opening zR.prog) w) (HandSHeadRun.stepQ (HandSHeadRun.denQ HandSHeadRun.tabQ) zR.prog w) 2000 20000 zR.prog).map (fun z => Hz.ob zxs 4 zfs3 zds3 [] z.2) = some (Hz.due zds3) := by
  kernel_rfl
set_option maxRecDepth 100000 in
set_option maxHeartbeats 0 in
theorem zF4 (w : World) : (Hz.allF (HandSHeadRun.stepQ (HandSHeadRun.denQ HandSHeadRun.tabQ) (opening zR.prog) w) (HandSHeadRun.stepQ (HandSHeadRun.denQ HandSHeadRun.tabQ) zR.prog w) 2000 20000 zR.prog).map (fun z => Hz.ob zxs 4 zfs4 zds4 [] z.2) = some (Hz.due zds4) := by
  kernel_rfl
set_option maxRecDepth 100000 in
set_option maxHeartbeats 0 in
theorem zF5 (w : World) : (Hz.allF (HandSHeadRun.stepQ (HandSHeadRun.denQ HandSHeadRun.tabQ) (opening zR.prog) w) (HandSHeadRun.stepQ (HandSHeadRun.denQ HandSHeadRun.tabQ) zR.prog w) 2000 20000 zR.prog).map (fun z => Hz.ob zxs 4 zfs5 zds5 [] z.2) = some (Hz.due zds5) := by
  kernel_rfl
theorem zrun (w : World) : Hz.RunAll zR zq zhk zob 2000 20000 znames w := Hz.run_of (zL w) (zS w) (Hz.map_pair (Hz.map_app (zF0 w) (Hz.map_app (zF1 w) (Hz.map_app (zF2 w) (Hz.map_app (zF3 w) (Hz.map_app (zF4 w) (zF5 w)))))) (zG w))
end Toy
set_option maxRecDepth 100000
set_option maxHeartbeats 4000000
/-! Rules of our own: static methods, comparisons by the text's own operators. -/
namespace Own
open PySem PySem.Spec PyProof.Rows L2
open AutoSeq1 (wpAny_loadPart')

section
variable {X : Cx} {pins : List (Addr × Obj)} {σ : L2.St} {H : Hp} {s : Shared} {C p f : Addr} {mc : Value} {m : Str} {A : Around} {E : Value → Shared → Prop}
/-- C.m is a static method: its record at p, its def at f -/
structure SMet (K : PySem.W.Frag) (C : Addr) (mc : Value) (m : Str) (p f : Addr) : Prop where
  at_ : PySem.W.findCls K (.ref C) mc m = some (.get (.builtin "staticmethod.__get__") (.ref p) .none (.ref C))
  rc : ∃ rest, PySem.W.recIn K p "staticmethod" = some (.ref f :: rest)
  kp : PySem.W.keepIn K (.ref f) = true
theorem getsm_ok {b : Bool} {Q : Value → Shared → Prop} (I : Inv X pins σ H s) (r : ClX.CRead X.K C mc) (k : SMet X.K C mc m p f) (h : ∀ s', Inv X pins σ H s' → Q (.ref f) s') : wpAny (model X.prog X.w) A (getAttr (.ref C) m b) Q E s := by
  obtain ⟨rest, hp⟩ := k.rc
  refine PySem.W.cls_bind I.kIn r.rd k.at_ ?_
  refine wpAny_call (PySem.W.sm_get (s := { s with toks := s.toks + 1 }) I.kIn hp (PySem.W.handed_on rfl ?_))
  exact h _ (I.tok _)
def tSMeth (C : Addr) (sp : Sp) (E : XK) (ta : TE) (t : TA) : TE := fun σ H Q => ta σ H fun x H1 => x = .ref C ∧ t σ H1 fun vs H2 => sp (vs ++ []) H2 Q E
end
section
variable {X : Cx} {CX : CXT} {k : Nat} {C p f : Addr} {mc : Value} {sp : Sp} {E : XK} {o e : Expr} {es : List Expr} {m : Str} {pos apos : Pos} {ta : TE} {t : TA} {pl : Sem Bool} {fd : FuncData} {ps : List Str}
theorem pe_smeth (r : ClX.CRead X.K C mc) (c : SMet X.K C mc m p f) (F : FnOk X.prog X.w X.K X.mg X.base CX k f fd ps sp) (hr : Room k X.A) (hb : Binds X.K fd ps []) (hx : Passes CX X E) (he : PE X o ta) (ha : PA X (e :: es) t)
    (hst : starEach (e :: es) X.env = (false, eval e X.env) :: starEach es X.env := by rfl) (hpl : (backTo pos (starEach es X.env)).any (·.1) = false := by rfl)
    (ht : eval (.Call (.Attribute o m apos) (e :: es) [] pos) X.env = (do
      let ov ← eval o X.env
      standAt apos.atName
      let (f, first) ← holding [ov] (getMethod ov m pl)
      callWith pos f first (backTo pos (starEach (e :: es) X.env)) (backToKw pos (keywordEach [] X.env))) := by rfl) :
    PE X (.Call (.Attribute o m apos) (e :: es) [] pos) (tSMeth C sp E ta t) := by
  refine ⟨fun pins s σ H Q I h => ?_⟩
  refine PySem.W.methodCall_KW (pl := pl) (thn (he.run pins s σ H _ I h) fun u s1 ⟨x, H1, I1, rx, ex, q⟩ => ?_) ht
  subst ex
  obtain rfl : u = Value.ref C := rx
  refine PySem.W.method_cls I1.kIn r.ga (getsm_ok I1 r c fun s2 I2 => ?_)
  refine PySem.W.callWith_K (first := []) (h₀ := X.base) I.ok.mod.kin c.kp (thn (ha.run pos pins s2 σ H1 _ I2 q) fun us s3 ⟨vs, H2, I3, rv, q2⟩ => ⟨I3.kIn, ?_⟩) hst hpl
  exact run_fn F hr hb .nil hx I3 rv q2
end

theorem pe_gref {X : Cx} {x : Str} {a : Addr} {pos : Pos} (hg : Gl X x) (hm : X.mg x = some (.ref a)) (hd : (x == ("__debug__" : Str)) = false := by decide) : PE X (.Name x pos) (tC (.ref a)) := pe_glob hg hm rfl hd
/-! ### calls with keywords alone -/
def tMethK0 (C : Addr) (m : Str) (n : Nat) (sp : Sp) (gV : List V → List V → List V) (E : XK) (ta : TE) (tk : TA) : TE := fun σ H Q => ta σ H fun x H1 => ∃ a dx fs, x = .ref a ∧ H1 a = some (.ins C dx fs) ∧ fs.lookup m = none ∧
  tk σ H1 fun zs H2 => zs.length = n ∧ sp (gV [x] zs) H2 Q E
section
variable {X : Cx} {CX : CXT} {k : Nat} {C p f : Addr} {sp : Sp} {E : XK} {o : Expr} {m : Str} {pos apos : Pos} {ta : TE} {tk : TA} {pl : Sem Bool} {fd : FuncData} {ps ks : List Str} {kws : List Keyword}
  {g : List Value → List Value → List Value} {gV : List V → List V → List V}
theorem pe_methK0 (he : PE X o ta) (c : Cls X.K C) (hm : Meth X.K C m f) (F : FnOk X.prog X.w X.K X.mg X.base CX k f fd ps sp) (hr : Room k X.A) (hb : KBn X.K fd ps 1 ks g gV) (hx : Passes CX X E) (hkw : PK X kws tk)
    (hall : (backToKw pos (keywordEach kws X.env)).all (·.1.isSome) = true := by rfl) (hks : (backToKw pos (keywordEach kws X.env)).filterMap (·.1) = ks := by rfl)
    (hpl : ((backTo pos (starEach [] X.env)).any (·.1) || (backToKw pos (keywordEach kws X.env)).any (·.1.isNone)) = false := by rfl)
    (ht : eval (.Call (.Attribute o m apos) [] kws pos) X.env = (do
      let ov ← eval o X.env
      standAt apos.atName
      let (f, first) ← holding [ov] (getMethod ov m pl)
      callWith pos f first (backTo pos (starEach [] X.env)) (backToKw pos (keywordEach kws X.env))) := by rfl) :
    PE X (.Call (.Attribute o m apos) [] kws pos) (tMethK0 C m ks.length sp gV E ta tk) := by
  refine ⟨fun pins s σ H Q I h => ?_⟩
  refine PySem.W.methodCall_KW (pl := pl) (thn (he.run pins s σ H _ I h) fun u s1 ⟨x, H1, I1, rx, a, dx, fs, ex, ea, l, q⟩ => ?_) ht
  subst ex
  obtain rfl : u = Value.ref a := rx
  refine getmeth_ok I1 ea c hm l ?_
  refine PySem.W.callWith_KW0 (first := [.ref a]) (h₀ := X.base) I.ok.mod.kin hm.kp hall (thn (hkw.run pos pins s1 σ H1 _ I1 q) fun ws s2 ⟨zs, H2, I2, rz, hl, q2⟩ => ⟨I2.kIn, ?_⟩) hpl
  rw [hks]
  exact run_fnN (us := [.ref a]) (vs := [.ref a]) F hr hb hx I2 (.cons rfl .nil) rz rfl hl q2
end
/-! ### comparisons by own operators -/
section
variable {X : Cx} {CX : CXT} {k : Nat} {C f : Addr} {fd : FuncData} {ps : List Str} {sp : Sp} {E : XK} {op : CmpOp}
/-- the left one is an instance with the operator -/
def rOwnC (K : PySem.W.Frag) (C : Addr) (sp : Sp) (E : XK) : R2 := fun x y H Q => ∃ a dx fs t, x = .ref a ∧ H a = some (.ins C dx fs) ∧ TyX K H y t ∧ PySem.W.notFirst K C t = true ∧ sp [x, y] H (fun v H' => (∃ b, v = .bl b) ∧ Q v H') E
theorem op_ownC (F : FnOk X.prog X.w X.K X.mg X.base CX k f fd ps sp) (hr : Room k X.A) (hs : PySem.W.findIn X.K (.ref C) (cmpInfo op).2.1 = some (some (.ref f))) (hf : PySem.W.isFn X.K (.ref f) = true) (hb : Binds X.K fd ps []) (hx : Passes CX X E)
    (hop : ∀ a b, compareOp op a b = richCompare op a b := by intros; rfl) : OpR X (compareOp op) (rOwnC X.K C sp E) := by
  intro pins s σ H x y u v Q I rx ry h
  obtain ⟨a, dx, fs, t, rfl, ha, ty, nf, hsp⟩ := h
  cases rx
  obtain ⟨mA, J, _⟩ := ins_get I.hok ha
  obtain ⟨od, J, _⟩ := J.look
  obtain ⟨m, hF⟩ := I.fr
  obtain ⟨Pk, Z, pk, _⟩ := kit_of I ry ty
  rw [hop]
  refine PySem.W.cmp_K (op := op) (tb := t) hr.units0 hF I.ok.mod.kin J (Z.ty _ _ I.kIn pk) nf hs hf ?_
  have r2 : Vals [V.ref a, y] [Value.ref a, v] := .cons rfl (.cons ry .nil)
  refine wpAny_mono (run_fn F hr hb .nil hx I r2 hsp) (fun w s' q => ?_) fun _ _ e => e
  obtain ⟨v', H', I', rv, ⟨b, rfl⟩, q⟩ := q
  cases rv
  exact ⟨.bl b, H', I', rfl, q⟩

/-- an int on the left, an instance with the reflected operator on the right -/
def rReflC (C : Addr) (sp : Sp) (E : XK) : R2 := fun x y H Q => ∃ i a dx fs, x = .int i ∧ y = .ref a ∧ H a = some (.ins C dx fs) ∧ sp [y, x] H (fun v H' => (∃ b, v = .bl b) ∧ Q v H') E
theorem op_reflC {id : String} {B : Builtin} (F : FnOk X.prog X.w X.K X.mg X.base CX k f fd ps sp) (hr : Room k X.A) (hs : PySem.W.findIn X.K (.ref C) (cmpInfo op).2.2 = some (some (.ref f))) (hf : PySem.W.isFn X.K (.ref f) = true)
    (hsub : PySem.W.subIn X.K (.ref C) (.type "int") = some false) (hb : Binds X.K fd ps []) (hx : Passes CX X E)
    (slot : Slot "int" (cmpInfo op).2.1 id) (entry : entryFor table id = some B) (args : ∀ a b, argsOk id ⟨[a, b], []⟩)
    (dec : ∀ (b : Int) (u : Tok) (l : Addr) (C dx : Addr), Meets (B ⟨[.int b u, .ref l], []⟩) (fun _ R s => s.heap.get? l = some (PySem.W.instObj C dx) ∧ R (.ok (.ret .notImplemented)) s))
    (hne : op ≠ .Eq ∧ op ≠ .NotEq) (hop : ∀ a b, compareOp op a b = richCompare op a b := by intros; rfl) : OpR X (compareOp op) (rReflC C sp E) := by
  intro pins s σ H x y u v Q I rx ry h
  obtain ⟨i, a, dx, fs, rfl, rfl, ha, hsp⟩ := h
  obtain ⟨t, rfl⟩ := rx
  cases ry
  obtain ⟨mA, O, _⟩ := ins_get I.hok ha
  obtain ⟨od, J, _⟩ := O.look
  have ho : s.heap.get? a = some (PySem.W.instObj C dx) := by
    obtain ⟨_, _, _, e, _⟩ := I.hok a _ ha
    exact e
  have KX := I.kIn
  rw [hop]
  have one : wpAny (model X.prog X.w) X.A (tryCompare (.ref a) (cmpInfo op).2.2 (.int i t)) (fun r s' => ∃ v, r = some v ∧ EP X pins σ Q v s') X.xe s := by
    unfold tryCompare
    have r2 : Vals [V.ref a, V.int i] [Value.ref a, Value.int i t] := .cons rfl (.cons ⟨t, rfl⟩ .nil)
    refine wpAny_bind (PySem.W.ifBound_K KX J hs hf (wpAny_mono (run_fn F hr hb .nil hx I r2 hsp) (fun v s' hv => ?_) fun _ _ e => e))
    obtain ⟨v', H', I', rv, ⟨b, rfl⟩, q⟩ := hv
    cases rv
    exact wpAny_pure ⟨_, rfl, .bl b, H', I', rfl, q⟩
  have hT := typeIs_int s i t
  unfold richCompare
  simp only [hT.oneThing_none]
  refine wpAny_holding (wpAny_bind (wpAny_cRoomFor hr.units0 ?_))
  refine wpAny_bind (wpAny_typeOf hT (wpAny_bind (J.type.here ?_)))
  have hne1 : (Value.type "int" != Value.ref C) = true := rfl
  simp only [hne1, if_true]
  refine wpAny_bind ((PySem.W.looks_subIn KX hsub).here ?_)
  simp only [Bool.false_eq_true, if_false, Bool.not_false, if_true]
  refine wpAny_bind (m := tryCompare (.int i t) _ (.ref a)) (wpAny_tryCompare_declines hT slot (call_meets slot hT entry (args _ _) (dec i t a C dx) ⟨ho, rfl, ?_⟩))
  refine wpAny_bind (wpAny_mono one (fun r s' z => ?_) fun _ _ e => e)
  obtain ⟨v, rfl, hq⟩ := z
  exact wpAny_pure hq
end
theorem int_le_dec (b : Int) (u : Tok) (l : Addr) (C dx : Addr) :
    Meets (Builtin.«int.__le__» ⟨[.int b u, .ref l], []⟩) (fun _ R s => s.heap.get? l = some (PySem.W.instObj C dx) ∧ R (.ok (.ret .notImplemented)) s) :=
  .of_wp fun prog w A R s h => by obtain ⟨hp, g, d, tk, os⟩ := s; obtain ⟨hl, h⟩ := h; wp_walk using wpAny_loadPart' hl, wpAny_load hl; exact ⟨_, rfl, h⟩
theorem int_lt_dec (b : Int) (u : Tok) (l : Addr) (C dx : Addr) :
    Meets (Builtin.«int.__lt__» ⟨[.int b u, .ref l], []⟩) (fun _ R s => s.heap.get? l = some (PySem.W.instObj C dx) ∧ R (.ok (.ret .notImplemented)) s) :=
  .of_wp fun prog w A R s h => by obtain ⟨hp, g, d, tk, os⟩ := s; obtain ⟨hl, h⟩ := h; wp_walk using wpAny_loadPart' hl, wpAny_load hl; exact ⟨_, rfl, h⟩
end Own
set_option maxRecDepth 100000
set_option maxHeartbeats 4000000
/-! Rules of our own: arithmetic by the text's own operators, != by its own ==, abs and minus. -/
namespace Own
open PySem PySem.Spec PyProof.Rows L2
open AutoSeq1 (wpAny_loadPart')
theorem relV_back {v : V} {u : Value} {s' : Shared} {Q : Value → Shared → Prop} (r : RelV v u) (q : Q u s') : PySem.W.CmpBack Q u s' := by
  cases v <;> first | (obtain ⟨t, rfl⟩ := r; exact q) | (obtain rfl := r; exact q)
section
variable {X : Cx} {CX : CXT} {k : Nat} {C f : Addr} {fd : FuncData} {ps : List Str} {sp : Sp} {E : XK} {op : Operator}
/-- an own method in the place of an operator: an instance at the left, the same class or an int at the right -/
def rOwnB (C : Addr) (sp : Sp) (E : XK) : R2 := fun x y H Q => ∃ a dx fs, x = .ref a ∧ H a = some (.ins C dx fs) ∧ ((∃ j, y = .int j) ∨ ∃ b dy gs, y = .ref b ∧ H b = some (.ins C dy gs)) ∧ sp [x, y] H Q E
theorem op_ownB {fo ro rc : Option Value} (F : FnOk X.prog X.w X.K X.mg X.base CX k f fd ps sp) (hr : Room k X.A) (hs : PySem.W.findIn X.K (.ref C) (PySem.dunder op.info.2) = some (some (.ref f))) (hf : PySem.W.isFn X.K (.ref f) = true)
    (hc : PySem.W.selfFirst X.K C = true) (hR : PySem.W.findIn X.K (.ref C) (dunderR op.info.2) = some rc) (hp : rc = none ∨ ∃ g : Addr, rc = some (.ref g)) (h1 : PySem.W.findIn X.K (.type "int") (PySem.dunder op.info.2) = some fo)
    (h2 : PySem.W.findIn X.K (.type "int") (dunderR op.info.2) = some ro) (hsub : PySem.W.subIn X.K (.type "int") (.ref C) = some false) (hb : Binds X.K fd ps []) (hx : Passes CX X E) : OpR X (binaryOp op) (rOwnB C sp E) := by
  intro pins s σ H x y u v Q I rx ry h
  obtain ⟨a, dx, fs, rfl, ha, hy, hsp⟩ := h
  cases rx
  obtain ⟨mA, J, _⟩ := ins_get I.hok ha
  obtain ⟨od, J, _⟩ := J.look
  obtain ⟨m, hF⟩ := I.fr
  have r2 : Vals [V.ref a, y] [Value.ref a, v] := .cons rfl (.cons ry .nil)
  have fin : wpAny (model X.prog X.w) X.A (call (.ref f) [.ref a, v]) (PySem.W.CmpBack (EP X pins σ Q)) X.xe s := wpAny_mono (run_fn F hr hb .nil hx I r2 hsp) (fun w s' q => by
    obtain ⟨v', H', I', rv, q⟩ := q
    exact relV_back rv ⟨v', H', I', rv, q⟩) fun _ _ e => e
  rcases hy with ⟨j, rfl⟩ | ⟨b, dy, gs, rfl, hb'⟩
  · obtain ⟨t, rfl⟩ := ry
    exact PySem.W.ksp_binT (T := "int") hF I.ok.mod.kin J rfl hc hs hf hR hp h1 h2 hsub fin
  · cases ry
    obtain ⟨mB, J', _⟩ := ins_get I.hok hb'
    obtain ⟨od', J', _⟩ := J'.look
    exact PySem.W.binop_K hF I.ok.mod.kin J J'.type hc hs hf fin

/-- an int at the left, an instance with the reflected operator at the right -/
def rReflB (C : Addr) (sp : Sp) (E : XK) : R2 := fun x y H Q => ∃ i a dx fs, x = .int i ∧ y = .ref a ∧ H a = some (.ins C dx fs) ∧ sp [y, x] H Q E
theorem op_reflB {f0 : Addr} {id : String} {B : Builtin} (F : FnOk X.prog X.w X.K X.mg X.base CX k f fd ps sp) (hr : Room k X.A) (hs : PySem.W.findIn X.K (.ref C) (dunderR op.info.2) = some (some (.ref f))) (hf : PySem.W.isFn X.K (.ref f) = true)
    (hs0 : PySem.W.findIn X.K (.ref C) (PySem.dunder op.info.2) = some (some (.ref f0))) (hc : PySem.W.selfFirst X.K C = true) (hsub : PySem.W.subIn X.K (.ref C) (.type "int") = some false) (hb : Binds X.K fd ps []) (hx : Passes CX X E)
    (fills : fillsNumberSlot (.type "int") op.info.2 = pure true) (slot : Slot "int" (PySem.dunder op.info.2) id) (entry : entryFor table id = some B) (args : ∀ a b, argsOk id ⟨[a, b], []⟩)
    (dec : ∀ (b : Int) (u : Tok) (l : Addr) (C dx : Addr), Meets (B ⟨[.int b u, .ref l], []⟩) (fun _ R s => s.heap.get? l = some (PySem.W.instObj C dx) ∧ R (.ok (.ret .notImplemented)) s)) : OpR X (binaryOp op) (rReflB C sp E) := by
  intro pins s σ H x y u v Q I rx ry h
  obtain ⟨i, a, dx, fs, rfl, rfl, ha, hsp⟩ := h
  obtain ⟨t, rfl⟩ := rx
  cases ry
  obtain ⟨mA, O, _⟩ := ins_get I.hok ha
  obtain ⟨od, J, _⟩ := O.look
  have ho : s.heap.get? a = some (PySem.W.instObj C dx) := by
    obtain ⟨_, _, _, e, _⟩ := I.hok a _ ha
    exact e
  have KX := I.kIn
  obtain ⟨cd, rest, hcd, hm⟩ := PySem.W.ksp_first hc
  rcases hi : op.info with ⟨sym, nm⟩
  rw [hi] at hs hs0 fills slot
  dsimp only at hs hs0 fills slot
  have one : wpAny (model X.prog X.w) X.A (tryMethod (.ref a) (dunderR nm) (.int i t)) (fun r s' => ∃ v, r = some v ∧ EP X pins σ Q v s') X.xe s := by
    have r2 : Vals [V.ref a, V.int i] [Value.ref a, Value.int i t] := .cons rfl (.cons ⟨t, rfl⟩ .nil)
    refine PySem.W.ksp_try KX J hs hf (wpAny_mono (run_fn F hr hb .nil hx I r2 hsp) (fun v s' hv => ?_) fun _ _ e => e)
    obtain ⟨v', H', I', rv, q⟩ := hv
    exact relV_back rv ⟨v', H', I', rv, q⟩
  have hT := typeIs_int s i t
  have L3 : PySem.W.Looks (model X.prog X.w) s.heap (fillsNumberSlot (.ref C) nm) true := PySem.W.fills_K KX hcd hm hs0
  have hne : (Value.type "int" == Value.ref C) = false := Bool.eq_false_iff.mpr fun q => by cases beq_iff_eq.mp q
  have hpy : numberSlotInPython (.type "int") nm = pure false := rfl
  simp only [binaryOp, hi]
  refine wpAny_holding (wpAny_bind ?_)
  unfold binaryOp1
  refine wpAny_bind (wpAny_typeOf hT (wpAny_bind (J.type.here (wpAny_bind (wpAny_of_eq fills ?_)))))
  simp only [hne, Bool.false_eq_true, if_false]
  refine wpAny_bind (L3.here ?_)
  simp only [Bool.and_self, if_true]
  refine wpAny_bind ((PySem.W.looks_subIn KX hsub).here ?_)
  simp only [Bool.false_eq_true, if_false, pure_bind, Bool.not_false, Bool.and_self, if_true, hpy]
  refine wpAny_bind (wpAny_tryMethod_declines hT slot (call_meets slot hT entry (args _ _) (dec i t a C dx) ⟨ho, rfl, ?_⟩))
  dsimp only
  refine wpAny_bind (wpAny_mono one (fun r s' z => ?_) fun _ _ e => e)
  obtain ⟨v, rfl, hq⟩ := z
  exact wpAny_bind (wpAny_rule (wpAny_pure (wpAny_pure hq)))

/-- minus an instance -/
def rNeg (C : Addr) (sp : Sp) (E : XK) : V → Hp → VK → Prop := fun x H Q => ∃ a dx fs, x = .ref a ∧ H a = some (.ins C dx fs) ∧ sp [x] H Q E
theorem un_ownNeg (F : FnOk X.prog X.w X.K X.mg X.base CX k f fd ps sp) (hr : Room k X.A) (hs : PySem.W.findIn X.K (.ref C) "__neg__" = some (some (.ref f))) (hf : PySem.W.isFn X.K (.ref f) = true) (hb : Binds X.K fd ps []) (hx : Passes CX X E) :
    UnR X (unaryOp .USub) (rNeg C sp E) := by
  intro pins s σ H x v Q I rx h
  obtain ⟨a, dx, fs, rfl, ha, hsp⟩ := h
  cases rx
  obtain ⟨mA, J, _⟩ := ins_get I.hok ha
  obtain ⟨od, J, _⟩ := J.look
  obtain ⟨m, hF⟩ := I.fr
  exact PySem.W.ksp_neg hF I.ok.mod.kin J hs hf (run_fn F hr hb .nil hx I (vs := [.ref a]) (.cons rfl .nil) hsp)

/-- at any place below the body -/
theorem run_fnA {pins : List (Addr × Obj)} {σ : L2.St} {H : Hp} {s : Shared} {Q : VK} {us : List Value} {vs : List V} {A : Around} (F : FnOk X.prog X.w X.K X.mg X.base CX k f fd ps sp) (hr : Room k A) (hA : A.frames = X.A.frames) (hb : Binds X.K fd ps []) (hx : Passes CX X E)
    (I : Inv X pins σ H s) (r : Vals vs us) (h : sp vs H Q E) : wpAny (model X.prog X.w) A (call (.ref f) us) (EP X pins σ Q) X.xe s := by
  have hl : us.length = ps.length := by rw [← r.length]; exact F.len _ _ _ _ h
  have e0 : Env0 X.prog X.w X.K X.mg X.base A X.stack s H := by
    have e := I.env0
    exact ⟨by rw [hA]; exact e.frames, e.mod, e.bs, e.bsz, e.funs, e.frf, e.hok, e.bare⟩
  refine wpAny_call (codeAny_mono (F.run A X.stack s H ⟨us, []⟩ us vs Q E hr e0 (by
    have := hb s us I.kIn (by rw [List.append_nil]; exact hl)
    rwa [List.append_nil] at this) r h) fun r s' hq => ?_)
  cases r with
  | error e => exact hx pins σ H s e s' I hq
  | ok fl =>
    cases fl with
    | ret u => exact I.after hq
    | next => exact False.elim hq
    | brk => exact False.elim hq
    | cont => exact False.elim hq

/-! ### == and != by an own == -/
/-- an own ==: gives a bool -/
def rEqL (C : Addr) (sp : Sp) (E : XK) (g : Bool → Bool) : R2 := fun x y H Q => ∃ a dx fs, x = .ref a ∧ H a = some (.ins C dx fs) ∧ ((∃ j, y = .int j) ∨ ∃ b dy gs, y = .ref b ∧ H b = some (.ins C dy gs)) ∧ sp [x, y] H (fun v H' => ∃ b, v = .bl b ∧ Q (.bl (g b)) H') E
def rEqR (C : Addr) (sp : Sp) (E : XK) (g : Bool → Bool) : R2 := fun x y H Q => ∃ i a dx fs, x = .int i ∧ y = .ref a ∧ H a = some (.ins C dx fs) ∧ sp [y, x] H (fun v H' => ∃ b, v = .bl b ∧ Q (.bl (g b)) H') E
theorem op_eqL (F : FnOk X.prog X.w X.K X.mg X.base CX k f fd ps sp) (hr : Room k X.A) (hs : PySem.W.findIn X.K (.ref C) "__eq__" = some (some (.ref f))) (hf : PySem.W.isFn X.K (.ref f) = true) (hn : PySem.W.notFirst X.K C (.type "int") = true) (hb : Binds X.K fd ps []) (hx : Passes CX X E) :
    OpR X (compareOp .Eq) (rEqL C sp E fun b => b) := by
  intro pins s σ H x y u v Q I rx ry h
  obtain ⟨a, dx, fs, rfl, ha, hy, hsp⟩ := h
  cases rx
  obtain ⟨mA, J, _⟩ := ins_get I.hok ha
  obtain ⟨od, J, _⟩ := J.look
  obtain ⟨m, hF⟩ := I.fr
  have r2 : Vals [V.ref a, y] [Value.ref a, v] := .cons rfl (.cons ry .nil)
  have fin : wpAny (model X.prog X.w) X.A (call (.ref f) [.ref a, v]) (PySem.W.CmpBack (EP X pins σ Q)) X.xe s := wpAny_mono (run_fn F hr hb .nil hx I r2 hsp) (fun w s' q => by
    obtain ⟨v', H', I', rv, b, rfl, q⟩ := q
    cases rv
    exact ⟨.bl b, H', I', rfl, q⟩) fun _ _ e => e
  show wpAny (model X.prog X.w) X.A (richCompare .Eq (.ref a) v) (EP X pins σ Q) X.xe s
  rcases hy with ⟨j, rfl⟩ | ⟨b, dy, gs, rfl, hb'⟩
  · obtain ⟨t, rfl⟩ := ry
    exact PySem.W.cmp_K (op := .Eq) (tb := .type "int") hr.units0 hF I.ok.mod.kin J (PySem.W.Looks.of_pure rfl) hn hs hf fin
  · cases ry
    obtain ⟨mB, J', _⟩ := ins_get I.hok hb'
    obtain ⟨od', J', _⟩ := J'.look
    exact PySem.W.cmp_K (op := .Eq) (tb := .ref C) hr.units0 hF I.ok.mod.kin J J'.type (by simp [PySem.W.notFirst]) hs hf fin
theorem bind_ne (self : Value) : bindSpecial (.builtin "object.__ne__") self = pure (.builtin "object.__ne__", [self]) :=
  (Slot.of (T := "object") (name := "__ne__") (owner := "object") (n := "__ne__") (by rw [typeLookup_type, builtinLookup_eq_fast]; kernel_rfl) (by decide +kernel) (by decide +kernel) (by decide +kernel)
    (.inl (by decide +kernel)) (by rw [isSubtype_type]; kernel_rfl)).bind self
theorem plain_ne : plainId "object.__ne__" = true := by decide +kernel
/-- x.__ne__(y) of an instance without its own one -/
theorem try_ne {pins : List (Addr × Obj)} {σ : L2.St} {H : Hp} {s : Shared} {a dx : Addr} {fs : List (Str × V)} {y : V} {v : Value} {Q : VK} (F : FnOk X.prog X.w X.K X.mg X.base CX k f fd ps sp) (hr : Room (k + 1) X.A) (hs : PySem.W.findIn X.K (.ref C) "__eq__" = some (some (.ref f)))
    (hn : PySem.W.findIn X.K (.ref C) "__ne__" = some (some (.builtin "object.__ne__"))) (hO : PySem.W.subIn X.K (.ref C) (.type "object") = some true) (hf : PySem.W.isFn X.K (.ref f) = true) (hb : Binds X.K fd ps []) (hx : Passes CX X E) (I : Inv X pins σ H s)
    (ha : H a = some (.ins C dx fs)) (ry : RelV y v) (hsp : sp [.ref a, y] H (fun v H' => ∃ b, v = .bl b ∧ Q (.bl (!b)) H') E) :
    wpAny (model X.prog X.w) X.A (tryCompare (.ref a) "__ne__" v) (fun r s' => ∃ w, r = some w ∧ EP X pins σ Q w s') X.xe s := by
  obtain ⟨mA, J, _⟩ := ins_get I.hok ha
  obtain ⟨od, J, _⟩ := J.look
  have KX := I.kIn
  have r2 : Vals [V.ref a, y] [Value.ref a, v] := .cons rfl (.cons ry .nil)
  have inner : wpAny (model X.prog X.w) X.A.in1 (Builtin.«object.__ne__» ⟨[.ref a, v], []⟩) (fun fin s' => ∃ b, fin = .done (.ret (.bool b)) ∧ EP X pins σ Q (.bool b) s') X.xe s := by
    unfold Builtin.«object.__ne__»
    repeat (first | with_reducible refine wpAny_cRoomFor hr.in1.units0 ?_ | ((fail_if_success (with_reducible show wpAny _ _ (callSpecialIfBound? _ _ _) _ _ _)); wp_step))
    refine (PySem.W.ifBound_K KX J hs hf (wpAny_mono (run_fnA F hr.in1 rfl hb hx I r2 hsp) (fun w s' q => ?_) fun _ _ e => e))
    obtain ⟨v', H', I', rv, b, rfl, q⟩ := q
    cases rv
    exact wpAny_bind (wpAny_truthy_bool (wpAny_pure ⟨_, rfl, .bl (!b), H', I', rfl, q⟩))
  unfold tryCompare
  simp only [callSpecialIfBound?, bindSpecialIfBound?]
  refine wpAny_bind (wpAny_holding (wpAny_bind (wpAny_bind (wpAny_bind (J.type.here ((PySem.W.looks_findIn KX hn).here ?_))))))
  refine wpAny_bind (wpAny_askSetting (wpAny_ite ?_))
  have t2 : PySem.W.Looks (model X.prog X.w) s.heap (isInstance (.ref a) (.type "object")) true := J.type.andThen (PySem.W.looks_subIn KX hO)
  have fin : wpAny (model X.prog X.w) X.A (call (.builtin "object.__ne__") ([.ref a] ++ [v]) >>= fun v => pure (some v)) (fun r s' => wpAny (model X.prog X.w) X.A (match (motive := Option Value → Sem (Option Value)) r with
      | some .notImplemented | none => pure none
      | some v => pure (some v)) (fun r s' => ∃ w, r = some w ∧ EP X pins σ Q w s') X.xe s') X.xe s := by
    refine wpAny_bind (wpAny_call (codeAny_call_builtin plain_ne PySem.F.cmpEntry_ne (PySem.W.check_slot PySem.F.cmpKind_ne PySem.F.cmpSplit_ne t2 (PySem.F.cmpArgs_ne _ _) (wpAny_mono inner (fun fin s' q => ?_) fun _ _ e => e))))
    obtain ⟨b, rfl, q⟩ := q
    exact wpAny_pure (wpAny_pure ⟨_, rfl, q⟩)
  split
  · exact wpAny_bind (wpAny_of_eq (bind_ne _) (wpAny_pure (by exact fin)))
  · exact wpAny_tryCatch (wpAny_bind (wpAny_of_eq (bind_ne _) (wpAny_pure (by exact fin))))
end
end Own
set_option maxRecDepth 100000
set_option maxHeartbeats 4000000
namespace Own
open PySem PySem.Spec PyProof.Rows L2
open AutoSeq1 (wpAny_loadPart')
section
variable {X : Cx} {CX : CXT} {k : Nat} {C f : Addr} {fd : FuncData} {ps : List Str} {sp : Sp} {E : XK}
theorem op_neL (F : FnOk X.prog X.w X.K X.mg X.base CX k f fd ps sp) (hr : Room (k + 1) X.A) (hs : PySem.W.findIn X.K (.ref C) "__eq__" = some (some (.ref f))) (hn : PySem.W.findIn X.K (.ref C) "__ne__" = some (some (.builtin "object.__ne__")))
    (hO : PySem.W.subIn X.K (.ref C) (.type "object") = some true) (hf : PySem.W.isFn X.K (.ref f) = true) (hN : PySem.W.notFirst X.K C (.type "int") = true) (hb : Binds X.K fd ps []) (hx : Passes CX X E) : OpR X (compareOp .NotEq) (rEqL C sp E fun b => !b) := by
  intro pins s σ H x y u v Q I rx ry h
  obtain ⟨a, dx, fs, rfl, ha, hy, hsp⟩ := h
  cases rx
  have one := try_ne F hr hs hn hO hf hb hx I ha ry hsp
  obtain ⟨mA, J, _⟩ := ins_get I.hok ha
  obtain ⟨od, J, _⟩ := J.look
  have KX := I.kIn
  have go : ∀ t : Value, PySem.W.Looks (model X.prog X.w) s.heap (typeOf v) t → PySem.W.notFirst X.K C t = true → wpAny (model X.prog X.w) X.A (richCompare .NotEq (.ref a) v) (EP X pins σ Q) X.xe s := fun t hT hn => by
    unfold richCompare
    simp only [oneThing_ref, cmpInfo_NotEq]
    refine wpAny_holding (wpAny_bind (wpAny_cRoomFor hr.units0 ?_))
    refine wpAny_bind (J.type.here (wpAny_bind (hT.here ?_)))
    split
    · rename_i q
      have e : PySem.W.subIn X.K t (.ref C) = some false := by
        rcases Bool.or_eq_true_iff.mp hn with e | e
        · rw [beq_iff_eq.mp e] at q; simp at q
        · exact beq_iff_eq.mp e
      refine wpAny_bind ((PySem.W.looks_subIn KX e).here ?_)
      simp only [Bool.false_eq_true, if_false]
      refine wpAny_bind (wpAny_mono one (fun r s' z => ?_) fun _ _ e => e)
      obtain ⟨v, rfl, hq⟩ := z
      exact wpAny_pure hq
    · refine wpAny_bind (wpAny_pure ?_)
      simp only [Bool.false_eq_true, if_false]
      refine wpAny_bind (wpAny_mono one (fun r s' z => ?_) fun _ _ e => e)
      obtain ⟨v, rfl, hq⟩ := z
      exact wpAny_pure hq
  show wpAny (model X.prog X.w) X.A (richCompare .NotEq (.ref a) v) (EP X pins σ Q) X.xe s
  rcases hy with ⟨j, rfl⟩ | ⟨b, dy, gs, rfl, hb'⟩
  · obtain ⟨t, rfl⟩ := ry
    exact go (.type "int") (PySem.W.Looks.of_pure rfl) hN
  · cases ry
    obtain ⟨mB, J', _⟩ := ins_get I.hok hb'
    obtain ⟨od', J', _⟩ := J'.look
    exact go (.ref C) J'.type (by simp [PySem.W.notFirst])
/-- int == instance, int != instance: the int declines -/
theorem refl_cmp {op : CmpOp} {pins : List (Addr × Obj)} {σ : L2.St} {H : Hp} {s : Shared} {i : Int} {t : Tok} {a dx : Addr} {fs : List (Str × V)} {Q : VK} {id : String} {B : Builtin} (hr : Room k X.A) (I : Inv X pins σ H s) (ha : H a = some (.ins C dx fs))
    (hsub : PySem.W.subIn X.K (.ref C) (.type "int") = some false) (slot : Slot "int" (cmpInfo op).2.1 id) (entry : entryFor table id = some B) (args : ∀ a b, argsOk id ⟨[a, b], []⟩)
    (dec : ∀ (b : Int) (u : Tok) (l : Addr) (C dx : Addr), Meets (B ⟨[.int b u, .ref l], []⟩) (fun _ R s => s.heap.get? l = some (PySem.W.instObj C dx) ∧ R (.ok (.ret .notImplemented)) s))
    (one : wpAny (model X.prog X.w) X.A (tryCompare (.ref a) (cmpInfo op).2.2 (.int i t)) (fun r s' => ∃ v, r = some v ∧ EP X pins σ Q v s') X.xe s) :
    wpAny (model X.prog X.w) X.A (richCompare op (.int i t) (.ref a)) (EP X pins σ Q) X.xe s := by
  obtain ⟨mA, O, _⟩ := ins_get I.hok ha
  obtain ⟨od, J, _⟩ := O.look
  have ho : s.heap.get? a = some (PySem.W.instObj C dx) := by
    obtain ⟨_, _, _, e, _⟩ := I.hok a _ ha
    exact e
  have KX := I.kIn
  have hT := typeIs_int s i t
  unfold richCompare
  simp only [hT.oneThing_none]
  refine wpAny_holding (wpAny_bind (wpAny_cRoomFor hr.units0 ?_))
  refine wpAny_bind (wpAny_typeOf hT (wpAny_bind (J.type.here ?_)))
  have hne1 : (Value.type "int" != Value.ref C) = true := rfl
  simp only [hne1, if_true]
  refine wpAny_bind ((PySem.W.looks_subIn KX hsub).here ?_)
  simp only [Bool.false_eq_true, if_false, Bool.not_false, if_true]
  refine wpAny_bind (m := tryCompare (.int i t) _ (.ref a)) (wpAny_tryCompare_declines hT slot (call_meets slot hT entry (args _ _) (dec i t a C dx) ⟨ho, rfl, ?_⟩))
  refine wpAny_bind (wpAny_mono one (fun r s' z => ?_) fun _ _ e => e)
  obtain ⟨v, rfl, hq⟩ := z
  exact wpAny_pure hq
theorem int_eq_dec (b : Int) (u : Tok) (l : Addr) (C dx : Addr) :
    Meets (Builtin.«int.__eq__» ⟨[.int b u, .ref l], []⟩) (fun _ R s => s.heap.get? l = some (PySem.W.instObj C dx) ∧ R (.ok (.ret .notImplemented)) s) :=
  .of_wp fun prog w A R s h => by obtain ⟨hp, g, d, tk, os⟩ := s; obtain ⟨hl, h⟩ := h; wp_walk using wpAny_loadPart' hl, wpAny_load hl; exact ⟨_, rfl, h⟩
theorem int_ne_dec (b : Int) (u : Tok) (l : Addr) (C dx : Addr) :
    Meets (Builtin.«int.__ne__» ⟨[.int b u, .ref l], []⟩) (fun _ R s => s.heap.get? l = some (PySem.W.instObj C dx) ∧ R (.ok (.ret .notImplemented)) s) :=
  .of_wp fun prog w A R s h => by obtain ⟨hp, g, d, tk, os⟩ := s; obtain ⟨hl, h⟩ := h; wp_walk using wpAny_loadPart' hl, wpAny_load hl; exact ⟨_, rfl, h⟩
theorem int_ge_dec (b : Int) (u : Tok) (l : Addr) (C dx : Addr) :
    Meets (Builtin.«int.__ge__» ⟨[.int b u, .ref l], []⟩) (fun _ R s => s.heap.get? l = some (PySem.W.instObj C dx) ∧ R (.ok (.ret .notImplemented)) s) :=
  .of_wp fun prog w A R s h => by obtain ⟨hp, g, d, tk, os⟩ := s; obtain ⟨hl, h⟩ := h; wp_walk using wpAny_loadPart' hl, wpAny_load hl; exact ⟨_, rfl, h⟩
theorem int_gt_dec (b : Int) (u : Tok) (l : Addr) (C dx : Addr) :
    Meets (Builtin.«int.__gt__» ⟨[.int b u, .ref l], []⟩) (fun _ R s => s.heap.get? l = some (PySem.W.instObj C dx) ∧ R (.ok (.ret .notImplemented)) s) :=
  .of_wp fun prog w A R s h => by obtain ⟨hp, g, d, tk, os⟩ := s; obtain ⟨hl, h⟩ := h; wp_walk using wpAny_loadPart' hl, wpAny_load hl; exact ⟨_, rfl, h⟩
theorem int_add_dec (b : Int) (u : Tok) (l : Addr) (C dx : Addr) :
    Meets (Builtin.«int.__add__» ⟨[.int b u, .ref l], []⟩) (fun _ R s => s.heap.get? l = some (PySem.W.instObj C dx) ∧ R (.ok (.ret .notImplemented)) s) :=
  .of_wp fun prog w A R s h => by obtain ⟨hp, g, d, tk, os⟩ := s; obtain ⟨hl, h⟩ := h; wp_walk using wpAny_loadPart' hl, wpAny_load hl; exact ⟨_, rfl, h⟩
theorem int_sub_dec (b : Int) (u : Tok) (l : Addr) (C dx : Addr) :
    Meets (Builtin.«int.__sub__» ⟨[.int b u, .ref l], []⟩) (fun _ R s => s.heap.get? l = some (PySem.W.instObj C dx) ∧ R (.ok (.ret .notImplemented)) s) :=
  .of_wp fun prog w A R s h => by obtain ⟨hp, g, d, tk, os⟩ := s; obtain ⟨hl, h⟩ := h; wp_walk using wpAny_loadPart' hl, wpAny_load hl; exact ⟨_, rfl, h⟩
theorem int_mul_dec (b : Int) (u : Tok) (l : Addr) (C dx : Addr) :
    Meets (Builtin.«int.__mul__» ⟨[.int b u, .ref l], []⟩) (fun _ R s => s.heap.get? l = some (PySem.W.instObj C dx) ∧ R (.ok (.ret .notImplemented)) s) :=
  .of_wp fun prog w A R s h => by obtain ⟨hp, g, d, tk, os⟩ := s; obtain ⟨hl, h⟩ := h; wp_walk using wpAny_loadPart' hl, wpAny_load hl; exact ⟨_, rfl, h⟩
theorem op_eqR (F : FnOk X.prog X.w X.K X.mg X.base CX k f fd ps sp) (hr : Room k X.A) (hs : PySem.W.findIn X.K (.ref C) "__eq__" = some (some (.ref f))) (hf : PySem.W.isFn X.K (.ref f) = true) (hsub : PySem.W.subIn X.K (.ref C) (.type "int") = some false) (hb : Binds X.K fd ps []) (hx : Passes CX X E) :
    OpR X (compareOp .Eq) (rEqR C sp E fun b => b) := by
  intro pins s σ H x y u v Q I rx ry h
  obtain ⟨i, a, dx, fs, rfl, rfl, ha, hsp⟩ := h
  obtain ⟨t, rfl⟩ := rx
  cases ry
  obtain ⟨mA, O, _⟩ := ins_get I.hok ha
  obtain ⟨od, J, _⟩ := O.look
  refine refl_cmp (op := .Eq) hr I ha hsub PySem.F.slot_int_eq PySem.F.entry_int_eq PySem.F.args_int_eq_2 int_eq_dec ?_
  unfold tryCompare
  have r2 : Vals [V.ref a, V.int i] [Value.ref a, Value.int i t] := .cons rfl (.cons ⟨t, rfl⟩ .nil)
  refine wpAny_bind (PySem.W.ifBound_K I.kIn J hs hf (wpAny_mono (run_fn F hr hb .nil hx I r2 hsp) (fun v s' hv => ?_) fun _ _ e => e))
  obtain ⟨v', H', I', rv, b, rfl, q⟩ := hv
  cases rv
  exact wpAny_pure ⟨_, rfl, .bl b, H', I', rfl, q⟩
theorem op_neR (F : FnOk X.prog X.w X.K X.mg X.base CX k f fd ps sp) (hr : Room (k + 1) X.A) (hs : PySem.W.findIn X.K (.ref C) "__eq__" = some (some (.ref f))) (hn : PySem.W.findIn X.K (.ref C) "__ne__" = some (some (.builtin "object.__ne__")))
    (hO : PySem.W.subIn X.K (.ref C) (.type "object") = some true) (hf : PySem.W.isFn X.K (.ref f) = true) (hsub : PySem.W.subIn X.K (.ref C) (.type "int") = some false) (hb : Binds X.K fd ps []) (hx : Passes CX X E) : OpR X (compareOp .NotEq) (rEqR C sp E fun b => !b) := by
  intro pins s σ H x y u v Q I rx ry h
  obtain ⟨i, a, dx, fs, rfl, rfl, ha, hsp⟩ := h
  obtain ⟨t, rfl⟩ := rx
  cases ry
  exact refl_cmp (op := .NotEq) (hr.mono (Nat.le_succ k)) I ha hsub PySem.F.slot_int_ne PySem.F.entry_int_ne PySem.F.args_int_ne_2 int_ne_dec (try_ne F hr hs hn hO hf hb hx I ha (y := .int i) ⟨t, rfl⟩ hsp)
/-- abs of an instance -/
def rAbs (C : Addr) (sp : Sp) (E : XK) : List V → Hp → VK → Prop := fun xs H Q => ∃ a dx fs, xs = [.ref a] ∧ H a = some (.ins C dx fs) ∧ sp [.ref a] H Q E
theorem call_ownAbs (F : FnOk X.prog X.w X.K X.mg X.base CX k f fd ps sp) (hr : Room (k + 1) X.A) (hs : PySem.W.findIn X.K (.ref C) "__abs__" = some (some (.ref f))) (hf : PySem.W.isFn X.K (.ref f) = true) (hb : Binds X.K fd ps []) (hx : Passes CX X E) :
    CallR X (.builtin "abs") (rAbs C sp E) := by
  intro pins s σ H xs us Q I r h
  obtain ⟨a, dx, fs, rfl, ha, hsp⟩ := h
  obtain ⟨u, rfl, ru⟩ := vals1 r
  obtain rfl : u = Value.ref a := ru
  obtain ⟨mA, J, _⟩ := ins_get I.hok ha
  obtain ⟨od, J, _⟩ := J.look
  have inner : wpAny (model X.prog X.w) X.A.in1 (Builtin.«abs» ⟨[.ref a], []⟩) (fun fin s' => ∃ v, fin = .done (.ret v) ∧ EP X pins σ Q v s') X.xe s := by
    unfold Builtin.«abs»
    repeat (first | ((fail_if_success (with_reducible show wpAny _ _ (callSpecial? _ _ _) _ _ _)); wp_step))
    refine PySem.W.special_fn I.kIn J hs (beq_iff_eq.mp hf) (wpAny_mono (run_fnA F hr.in1 rfl hb hx I (vs := [.ref a]) (.cons rfl .nil) hsp) (fun w s' q => ?_) fun _ _ e => e)
    exact wpAny_pure ⟨_, rfl, q⟩
  refine wpAny_call (codeAny_call_builtin (b := Builtin.«abs») (by decide +kernel) (entryFor_of_tree (by kernel_rfl)) ?_)
  have hchk : checkBuiltinCall "abs" ⟨[.ref a], []⟩ = pure () := by kernel_rfl
  refine wpAny_of_eq hchk (wpAny_mono inner (fun fin s' q => ?_) fun _ _ e => e)
  obtain ⟨v, rfl, q⟩ := q
  exact q
end
end Own
set_option maxRecDepth 100000
set_option maxHeartbeats 4000000
namespace Toy
open PySem L2
def top (i : Nat) : Stmt := PySem.Challenge.pw_anyfifth_k37_heights.main.body.getD i (.Pass ⟨0, 0, 0, 0⟩)

structure Bl (mg : Str → Option Value) : Prop where
  int : mg "int" = none
  len : mg "len" = none
  abs : mg "abs" = none
  list : mg "list" = none
  range : mg "range" = none
  isinstance : mg "isinstance" = none
  bool : mg "bool" = none
  gcd : mg "gcd" = some (.builtin "math.gcd")

/-- all but what stands at p is as it was -/
def But (p : Addr) (H H' : Hp) : Prop := ∀ b o, H b = some o → b ≠ p → H' b = some o
theorem But.refl {p : Addr} {H : Hp} : But p H H := fun _ _ h _ => h
theorem But.upd {p : Addr} {H H1 : Hp} {o : HO} (h : But p H H1) : But p H (upd H1 p o) := fun b u e n => by rw [upd_ne n]; exact h b u e n
theorem But.new {p q : Addr} {H H1 : Hp} {o : HO} (h : But p H H1) (hq : H1 q = none) : But p H (L2.upd H1 q o) := fun b u e n => by
  rw [upd_ne (ne_of_none (h b u e n) hq)]; exact h b u e n
theorem But.trans {p : Addr} {H H1 H2 : Hp} (a : But p H H1) (b : But p H1 H2) : But p H H2 := fun c u e n => b c u (a c u e n) n
theorem But.same {p : Addr} {H H' : Hp} (h : Same H H') : But p H H' := fun b o e _ => h b o e

/-- the state of the drawing at p, behind at most k draws -/
structure PenW (H : Hp) (p c : Addr) (ns : List Int) (b l : Int) : Prop where
  hp : H p = some (.lst [.ref c, .int b, .int l])
  hc : H c = some (.lst (ns.map V.int))
  ln : ns.length ≤ 63
  b0 : 0 ≤ b
def Pen (H : Hp) (p c : Addr) (k : Nat) : Prop := ∃ ns b l, PenW H p c ns b l ∧ b ≤ k
theorem PenW.ne {H : Hp} {p c : Addr} {ns : List Int} {b l : Int} (h : PenW H p c ns b l) : c ≠ p := by
  intro e
  have h1 := h.hp
  have h2 := h.hc
  rw [e, h1] at h2
  have h3 := Option.some.inj h2
  injection h3 with h4
  cases ns with
  | nil => cases h4
  | cons a r => injection h4 with h5 h6; cases h5
theorem PenW.put {H : Hp} {p c : Addr} {ns : List Int} {b l b' l' : Int} (h : PenW H p c ns b l) (hb : 0 ≤ b') : PenW (upd H p (.lst [.ref c, .int b', .int l'])) p c ns b' l' :=
  ⟨upd_same, by rw [upd_ne h.ne]; exact h.hc, h.ln, hb⟩
theorem PenW.new {H : Hp} {p c q : Addr} {ns : List Int} {b l : Int} {o : HO} (h : PenW H p c ns b l) (hq : H q = none) : PenW (upd H q o) p c ns b l :=
  ⟨by rw [upd_ne (ne_of_none h.hp hq)]; exact h.hp, by rw [upd_ne (ne_of_none h.hc hq)]; exact h.hc, h.ln, h.b0⟩
theorem Pen.same {H H' : Hp} {p c : Addr} {k : Nat} (h : Pen H p c k) (e : Same H H') : Pen H' p c k := by
  obtain ⟨ns, b, l, h, hk⟩ := h
  exact ⟨ns, b, l, ⟨e _ _ h.hp, e _ _ h.hc, h.ln, h.b0⟩, hk⟩
theorem Pen.mono {H : Hp} {p c : Addr} {k j : Nat} (h : Pen H p c k) (e : k ≤ j) : Pen H p c j := by
  obtain ⟨ns, b, l, h, hk⟩ := h
  exact ⟨ns, b, l, h, by omega⟩
theorem dpInts {K : PySem.W.Frag} {H : Hp} : ∀ ns : List Int, DpAll K H (ns.map V.int) (ns.map PyData.int)
  | [] => .nil
  | n :: r => .cons (.int n) (dpInts r)
theorem shInts (ns : List Int) : SeqAt.shaped (.list (ns.map PyData.int)) = true := PySem.W.ke_shaped_ints ns
theorem eqvNil (ns : List Int) : PyData.eqv (.list (ns.map PyData.int)) (.list []) = decide (ns = []) := by
  cases ns <;> rfl
theorem modB (a : Int) {m : Int} (h : 0 < m) : 0 ≤ a % m ∧ a % m < m := ⟨Int.emod_nonneg _ (by omega), Int.emod_lt_of_pos _ h⟩
theorem wide_m {i m : Int} (h : 0 < m) (hb : m.natAbs < 2 ^ 2000) : CDivW i m := wide_div h hb (by decide) (by decide)

theorem atI_in {α : Type} {xs : List α} {i : Int} (h0 : 0 ≤ i) (h1 : i < (xs.length : Int)) : atI xs i = some (xs[i.toNat]'(by omega)) := by
  have e : i = ((i.toNat : Nat) : Int) := by omega
  exact (congrArg (atI xs) e).trans (atI_nat (List.getElem?_eq_getElem (by omega)))

theorem p0 {j : Int} (h : decide (0 < j) = true) : 0 < j := of_decide_eq_true h
theorem mulB {x y M N : Int} (hx : 0 ≤ x) (hxM : x ≤ M) (hy : 0 ≤ y) (hyN : y ≤ N) : 0 ≤ x * y ∧ x * y ≤ M * N := ⟨Int.mul_nonneg hx hy, Int.mul_le_mul hxM hyN hy (by omega)⟩
abbrev sDraw : Stmt := top 86
def spDraw : Sp := fun vs H Q _ => ∃ (p c : Addr) (m : Int) (k : Nat), vs = [.ref p, .int m] ∧ Pen H p c k ∧ k ≤ 1000000 ∧ 0 < m ∧ m.natAbs < 2 ^ 2000 ∧
  ∀ r H', 0 ≤ r → r < m → Pen H' p c (k + 1) → But p H H' → Q (.int r) H'
section
variable {P : Program} {w : World} {K : PySem.W.Frag} {mg : Str → Option Value} {base : Heap}
theorem scD : FnScope ["_law_pen_here", "_law_many", "_law_digit", "_law_used", "_law_cell", "_law_great", "_law_mixed"] ["_law_pen_here", "_law_many"] (defScope sDraw) :=
  ⟨rfl, rfl, rfl, by decide +kernel, rfl, by decide +kernel, by decide +kernel⟩
theorem ok_draw {f : Addr} {fd : FuncData} (F : Fun K "_law_draw" "_law_draw" sDraw f fd) (T : Bl mg) : FnOk P w K mg base CX0 1 f fd ["_law_pen_here", "_law_many"] spDraw := by
  refine F.ok scD (fun vs H Q E h => ?_) (fun cdv A outer s H vs Q E hr h => ?_)
  · obtain ⟨p, c, m, k, rfl, _⟩ := h
    rfl
  · obtain ⟨p, c, m, k, rfl, ⟨ns, b, l, W, hb⟩, hk, hm, hmb, q⟩ := h
    have nd := scD.nd
    refine ⟨_, pss_cons (ps_if (pt_cmpR op_gt (pe_ix ix_list (pv 0) pe_int (fun _ _ => rfl)) pe_int (nomark _)) (pss_cons (ps_set (i := 2) nd rfl (Or.inl rfl) (pe_op op_mod (pe_callTy call_int1 (by rfl) T.int (by decide +kernel) (pa_cons (pe_ix ix_list (pv 0) pe_int (fun _ _ => rfl)) pa_nil)) (pv 1)))
      (pss_cons (ps_asg (pe_op op_fdivW (pe_callTy call_int1 (by rfl) T.int (by decide +kernel) (pa_cons (pe_ix ix_list (pv 0) pe_int (fun _ _ => rfl)) pa_nil)) (pv 1)) (pg_sub (pv 0) pe_int set_list))
      (pss_one (ps_ret (pv 2))))) pss_nil)
      (pss_cons (ps_set (i := 3) nd rfl (Or.inl rfl) (pe_ix ix_list (pv 0) pe_int (fun _ _ => rfl)))
      (pss_cons (ps_asg (pe_op op_add (pv 3) pe_int) (pg_sub (pv 0) pe_int set_list))
      (pss_cons (ps_set (i := 4) nd rfl (Or.inl rfl) (pe_op op_add (pe_op op_mul pe_int (pv 3)) pe_int))
      (C8.pss_cut (ps_if (pt_cmpR (op_neD hr.units) (pe_ix ix_list (pv 0) pe_int (fun _ _ => rfl)) (pe_lst pa_nil) (nomark _)) (pss_one (ps_set (i := 4) nd rfl (Or.inl rfl) (pe_ix ix_list (pe_ix ix_list (pv 0) pe_int (fun _ _ => rfl)) (pe_op op_mod (pe_callTy call_int1 (by rfl) T.int (by decide +kernel) (pa_cons (pv 3) pa_nil)) (pe_callB call_len (by rfl) T.len (by decide +kernel) (pa_cons (pe_ix ix_list (pv 0) pe_int (fun _ _ => rfl)) pa_nil))) (fun _ _ => rfl)))) pss_nil)
      (pss_cons (ps_if (PW.pt (pw_and (pt_cmpR op_lt (pv 3) (pe_callB call_len (by rfl) T.len (by decide +kernel) (pa_cons (pe_ix ix_list (pv 0) pe_int (fun _ _ => rfl)) pa_nil)) (nomark _)) (pw_and1 (pt_cmpR op_ge (pe_callB call_abs (by rfl) T.abs (by decide +kernel) (pa_cons (pv 4) pa_nil)) (pe_op op_pow pe_int pe_int) (nomark _))))) (pss_cons (ps_set (i := 5) nd rfl (Or.inl rfl) (pe_op op_add (pe_op op_mul pe_int (pe_op op_sub (pe_callB call_abs (by rfl) T.abs (by decide +kernel) (pa_cons (pv 4) pa_nil)) (pe_op op_pow pe_int pe_int))) (pe_callTy call_int1 (by rfl) T.int (by decide +kernel) (pa_cons (pe_cmpR op_lt (pv 4) pe_int (nomark _)) pa_nil))))
      (pss_cons (ps_asg (pe_op op_fdivW (pe_callTy call_int1 (by rfl) T.int (by decide +kernel) (pa_cons (pv 5) pa_nil)) (pv 1)) (pg_sub (pv 0) pe_int set_list))
      (pss_one (ps_ret (pe_op op_mod (pe_callTy call_int1 (by rfl) T.int (by decide +kernel) (pa_cons (pv 5) pa_nil)) (pv 1)))))) pss_nil)
      (pss_cons (ps_set (i := 6) nd rfl (Or.inl rfl) (pe_op op_mod (pe_callTy call_int1 (by rfl) T.int (by decide +kernel) (pa_cons (pe_op op_pow (pe_op op_add (pe_op op_add (pe_op op_mod (pe_callTy call_int1 (by rfl) T.int (by decide +kernel) (pa_cons (pv 4) pa_nil)) pe_int) (pe_op op_mul pe_int (pv 3))) pe_int) pe_int) pa_nil)) pe_int))
      (pss_cons (ps_set (i := 6) nd rfl (Or.inl rfl) (pe_op op_mod (pe_callTy call_int1 (by rfl) T.int (by decide +kernel) (pa_cons (pe_op op_pow (pe_op op_add (pe_op op_add (pe_op op_mul (pv 6) (pe_op op_add (pe_op op_mul pe_int (pv 3)) pe_int)) (pe_op op_mul (pe_op op_mul pe_int (pv 3)) (pv 3))) pe_int) pe_int) pa_nil)) pe_int))
      (pss_one (ps_ret (pe_op op_mod (pe_callTy call_int1 (by rfl) T.int (by decide +kernel) (pa_cons (pe_op op_fdivW (pv 6) pe_int) pa_nil)) (pv 1))))))))))), ?_⟩
    have hp := W.hp
    -- what is left of a great cell
    refine ⟨_, rfl, p, _, _, _, rfl, rfl, SqL.of hp, rfl, _, _, rfl, rfl, _, rfl, ?_⟩
    refine ite2 (fun _ => ?_) (fun _ => ?_)
    · refine ⟨_, rfl, p, _, _, _, rfl, rfl, SqL.of hp, rfl, .inl ⟨_, rfl, _, rfl, _, _, rfl, rfl, hm, ?_⟩⟩
      refine ⟨_, rfl, p, _, _, _, rfl, rfl, SqL.of hp, rfl, .inl ⟨_, rfl, _, rfl, _, _, rfl, rfl, wide_m hm hmb, ?_⟩⟩
      refine ⟨_, rfl, p, _, _, _, rfl, rfl, hp, rfl, ?_⟩
      refine ⟨_, rfl, ?_⟩
      exact q _ _ (modB _ hm).1 (modB _ hm).2 ⟨ns, b, _, W.put W.b0, by omega⟩ (But.refl.upd)
    · -- begun; the count goes up; cell
      refine ⟨_, rfl, p, _, _, _, rfl, rfl, SqL.of hp, rfl, ?_⟩
      refine ⟨_, rfl, _, _, rfl, rfl, ?_⟩
      refine ⟨_, rfl, p, _, _, _, rfl, rfl, hp, rfl, ?_⟩
      refine ⟨_, rfl, _, _, rfl, rfl, .inl ⟨by decide, by decide⟩, _, _, rfl, rfl, ?_⟩
      have W1 : PenW (upd H p (.lst [.ref c, .int (b + 1), .int l])) p c ns (b + 1) l := W.put (by have := W.b0; omega)
      refine ⟨fun σ' H' => ∃ z : Int, σ' = [some (.ref p), some (.int m), none, some (.int b), some (.int z), none, none] ∧ PenW H' p c ns (b + 1) l ∧ But p H H', ?_, ?_⟩
      · -- a cell of the script
        refine ⟨_, rfl, p, _, _, _, rfl, rfl, SqL.of W1.hp, rfl, by decide, fun e he => ?_⟩
        refine ⟨_, _, .lst (SqL.of (W1.new he).hc) (dpInts ns), .lst (SqL.of upd_same) .nil, shInts ns, by decide, _, rfl, ?_⟩
        have W2 := W1.new (o := .lst []) he
        have B2 : But p H (upd (upd H p (.lst [.ref c, .int (b + 1), .int l])) e (.lst [])) := (But.refl.upd).new he
        rw [eqvNil]
        by_cases hn : ns = []
        · rw [decide_eq_true hn]
          refine iteF ?_
          exact ⟨_, rfl, W2, B2⟩
        · rw [decide_eq_false hn]
          refine iteT ?_
          have hl0 : 0 < ns.length := List.length_pos_iff.mpr hn
          have hm0 : (0 : Int) < ((ns.map V.int).length : Int) := by rw [List.length_map]; omega
          refine ⟨_, rfl, p, _, _, _, rfl, rfl, SqL.of W2.hp, rfl, _, rfl, .inl ⟨_, rfl, _, rfl, p, _, _, _, rfl, rfl, SqL.of W2.hp, rfl, _, _, rfl, .inl ⟨_, SqL.of W2.hc, rfl⟩, _, _, rfl, rfl, hm0, ?_⟩⟩
          obtain ⟨z, hz⟩ : ∃ z, (ns.map V.int)[(b % ((ns.map V.int).length : Int)).toNat]'(by have := modB b hm0; omega) = .int z := ⟨_, List.getElem_map ..⟩
          exact ⟨c, _, _, .int z, rfl, rfl, SqL.of W2.hc, by rw [atI_in (modB b hm0).1 (modB b hm0).2, hz], ⟨_, rfl, W2, B2⟩⟩
      · rintro σ' H' ⟨z, rfl, W2, B2⟩
        have hp2 := W2.hp
        have hb1 := W.b0
        have hb2 : b ≤ 1000000 := by omega
        -- a great cell
        refine ⟨_, rfl, _, rfl, p, _, _, _, rfl, rfl, SqL.of hp2, rfl, _, _, rfl, .inl ⟨_, SqL.of W2.hc, rfl⟩, _, _, rfl, rfl, _, rfl, ?_⟩
        refine ite2 (fun _ => ?_) (fun _ => ?_)
        · refine ⟨_, rfl, _, rfl, _, _, rfl, rfl, ⟨by decide, by decide, by decide⟩, _, _, rfl, rfl, _, rfl, ?_⟩
          refine ite2 (fun _ => ?_) (fun _ => ?_)
          · refine ⟨_, rfl, _, rfl, _, _, rfl, rfl, ⟨by decide, by decide, by decide⟩, _, _, rfl, rfl, _, _, rfl, rfl, .inl ⟨by decide, by decide⟩, ?_⟩
            refine ⟨_, rfl, _, _, rfl, rfl, .inr ⟨_, rfl, _, _, rfl, rfl, ?_⟩⟩
            refine ⟨_, rfl, .inl ⟨_, rfl, _, rfl, _, _, rfl, rfl, wide_m hm hmb, ?_⟩⟩
            refine ⟨_, rfl, p, _, _, _, rfl, rfl, hp2, rfl, ?_⟩
            refine ⟨_, rfl, .inl ⟨_, rfl, _, rfl, _, _, rfl, rfl, hm, ?_⟩⟩
            exact q _ _ (modB _ hm).1 (modB _ hm).2 ⟨ns, b + 1, _, W2.put W2.b0, by omega⟩ B2.upd
          · refine ⟨_, rfl, .inl ⟨_, rfl, _, _, rfl, rfl, p0 rfl, _, rfl, _, _, rfl, rfl, .inl ⟨by decide, by decide⟩, _, _, rfl, rfl, _, _, rfl, rfl, _, _, rfl, rfl, ⟨by decide, by decide, ?_⟩, .inl ⟨_, rfl, _, _, rfl, rfl, p0 rfl, ?_⟩⟩⟩
            · have h1 := modB z (m := 2147483549) (by decide)
              omega
            have hx := modB ((z % 2147483549 + 72702 * b + 730) ^ (5 : Int).toNat) (m := 2147483629) (by decide)
            generalize hxe : (z % 2147483549 + 72702 * b + 730) ^ (5 : Int).toNat % 2147483629 = x at hx
            have p1 := mulB hx.1 (show x ≤ 2147483629 by omega) (show 0 ≤ 2 * b + 107 by omega) (show 2 * b + 107 ≤ 2100000 by omega)
            have p2 := mulB (show 0 ≤ 34034 * b by omega) (show 34034 * b ≤ 100000000000 by omega) hb1 hb2
            refine ⟨_, rfl, _, rfl, _, _, rfl, rfl, .inl ⟨by decide, by decide⟩, _, _, rfl, rfl, _, _, rfl, rfl, .inl ?_, _, rfl, _, _, rfl, rfl, .inl ⟨by decide, by decide⟩, _, rfl, _, _, rfl, rfl, .inl ?_, _, _, rfl, rfl, _, _, rfl, rfl, _, _, rfl, rfl, ⟨by decide, by decide, ?_⟩, .inl ⟨_, rfl, _, _, rfl, rfl, p0 rfl, ?_⟩⟩
            · rw [hxe]; omega
            · omega
            · rw [hxe]; omega
            refine ⟨_, rfl, _, _, rfl, rfl, ⟨by decide, by decide⟩, .inl ⟨_, rfl, _, rfl, _, _, rfl, rfl, hm, ?_⟩⟩
            exact q _ _ (modB _ hm).1 (modB _ hm).2 ⟨ns, b + 1, _, W2, by omega⟩ B2
        · refine ⟨_, rfl, .inl ⟨_, rfl, _, _, rfl, rfl, p0 rfl, _, rfl, _, _, rfl, rfl, .inl ⟨by decide, by decide⟩, _, _, rfl, rfl, _, _, rfl, rfl, _, _, rfl, rfl, ⟨by decide, by decide, ?_⟩, .inl ⟨_, rfl, _, _, rfl, rfl, p0 rfl, ?_⟩⟩⟩
          · have h1 := modB z (m := 2147483549) (by decide)
            omega
          have hx := modB ((z % 2147483549 + 72702 * b + 730) ^ (5 : Int).toNat) (m := 2147483629) (by decide)
          generalize hxe : (z % 2147483549 + 72702 * b + 730) ^ (5 : Int).toNat % 2147483629 = x at hx
          have p1 := mulB hx.1 (show x ≤ 2147483629 by omega) (show 0 ≤ 2 * b + 107 by omega) (show 2 * b + 107 ≤ 2100000 by omega)
          have p2 := mulB (show 0 ≤ 34034 * b by omega) (show 34034 * b ≤ 100000000000 by omega) hb1 hb2
          refine ⟨_, rfl, _, rfl, _, _, rfl, rfl, .inl ⟨by decide, by decide⟩, _, _, rfl, rfl, _, _, rfl, rfl, .inl ?_, _, rfl, _, _, rfl, rfl, .inl ⟨by decide, by decide⟩, _, rfl, _, _, rfl, rfl, .inl ?_, _, _, rfl, rfl, _, _, rfl, rfl, _, _, rfl, rfl, ⟨by decide, by decide, ?_⟩, .inl ⟨_, rfl, _, _, rfl, rfl, p0 rfl, ?_⟩⟩
          · rw [hxe]; omega
          · omega
          · rw [hxe]; omega
          refine ⟨_, rfl, _, _, rfl, rfl, ⟨by decide, by decide⟩, .inl ⟨_, rfl, _, rfl, _, _, rfl, rfl, hm, ?_⟩⟩
          exact q _ _ (modB _ hm).1 (modB _ hm).2 ⟨ns, b + 1, _, W2, by omega⟩ B2
end

/-! ### callees -/
structure Cal (P : Program) (w : World) (K : PySem.W.Frag) (mg : Str → Option Value) (base : Heap) (k : Nat) (x : Str) (f : Addr) (fd : FuncData) (ps : List Str) (sp : Sp) : Prop where
  F : FnOk P w K mg base CX0 k f fd ps sp
  mgf : mg x = some (.ref f)
  kp : PySem.W.keepIn K (.ref f) = true
  b : Binds K fd ps []
structure Mak (P : Program) (w : World) (K : PySem.W.Frag) (mg : Str → Option Value) (base : Heap) (k : Nat) (x : Str) (C f : Addr) (fd : FuncData) (ps : List Str) (sp : Sp) : Prop where
  M : Mk K C f
  F : FnOk P w K mg base CX0 k f fd ps sp
  mgC : mg x = some (.ref C)
  b : Binds K fd ps []
structure Sta (P : Program) (w : World) (K : PySem.W.Frag) (mg : Str → Option Value) (base : Heap) (k : Nat) (C : Addr) (m : Str) (p f : Addr) (fd : FuncData) (ps : List Str) (sp : Sp) : Prop where
  s : Own.SMet K C (.type "type") m p f
  F : FnOk P w K mg base CX0 k f fd ps sp
  b : Binds K fd ps []
structure Dot (P : Program) (w : World) (K : PySem.W.Frag) (mg : Str → Option Value) (base : Heap) (k : Nat) (C : Addr) (m : Str) (f : Addr) (fd : FuncData) (ps : List Str) (sp : Sp) : Prop where
  m : Meth K C m f
  F : FnOk P w K mg base CX0 k f fd ps sp
  b : Binds K fd ps []
/-- facts of an own class -/
structure ClT (K : PySem.W.Frag) (mg : Str → Option Value) (C : Addr) (x : Str) : Prop where
  cl : Cls K C
  mgC : mg x = some (.ref C)
  rd : ClX.CRead K C (.type "type")
  ca : PySem.W.findIn K (.ref C) "__class__" = some (some (.builtin "object.__class__"))
  cn : PySem.W.specialIn K (.builtin "object.__class__") "__get__" = some (some (.builtin "getset_descriptor.__get__"))
  ct : PySem.W.takesIn K (.builtin "object.__class__") = some true
  cm : PySem.W.mroIn K C (.type "object") = some true
  kI : PySem.W.kitOne K (.ref C) (.type "int") = some false
  kB : PySem.W.kitOne K (.ref C) (.type "bool") = some false
  kS : PySem.W.kitOne K (.ref C) (.ref C) = some true
  iK : PySem.W.kitOne K (.type "int") (.ref C) = some false
  sI : PySem.W.subIn K (.ref C) (.type "int") = some false
  nI : PySem.W.notFirst K C (.type "int") = true
  nC : PySem.W.notFirst K C (.ref C) = true
theorem ClT.ty {K : PySem.W.Frag} {mg : Str → Option Value} {C a dx : Addr} {x : Str} {H : Hp} {fs : List (Str × V)} (T : ClT K mg C x) (h : H a = some (.ins C dx fs)) : TyX K H (.ref a) (.ref C) :=
  .base (.ins h T.cl T.ca T.cn T.ct T.cm)
structure RatT (K : PySem.W.Frag) (mg : Str → Option Value) (C : Addr) : Prop extends ClT K mg C "Ratio" where
  nT : NoAttr K C "top"
  nB : NoAttr K C "bottom"
structure PieT (K : PySem.W.Frag) (mg : Str → Option Value) (C : Addr) : Prop extends ClT K mg C "Piece" where
  nL : NoAttr K C "left"
  nR : NoAttr K C "right"

/-! ### ratios -/
theorem tb_ne : ¬ (("bottom" : Str) = "top") := by decide +kernel
theorem bt_ne : ¬ (("top" : Str) = "bottom") := by decide +kernel
def ratF (n d : Int) : List (Str × V) := putF "bottom" (.int d) (putF "top" (.int n) [])
theorem ratF_top (n d : Int) : (ratF n d).lookup ("top" : Str) = some (.int n) := by
  unfold ratF
  rw [lookup_putF, if_neg bt_ne, lookup_putF, if_pos rfl]
theorem ratF_bot (n d : Int) : (ratF n d).lookup ("bottom" : Str) = some (.int d) := by
  unfold ratF
  rw [lookup_putF, if_pos rfl]
/-- a Ratio n / d stands at a -/
def RatAt (C : Addr) (H : Hp) (a : Addr) (n d : Int) : Prop := ∃ dx, H a = some (.ins C dx (ratF n d))
theorem RatAt.same {C : Addr} {H H' : Hp} {a : Addr} {n d : Int} (h : RatAt C H a n d) (e : Same H H') : RatAt C H' a n d := let ⟨dx, h⟩ := h; ⟨dx, e _ _ h⟩
theorem RatAt.but {C p : Addr} {H H' : Hp} {a : Addr} {n d : Int} (h : RatAt C H a n d) (e : But p H H') (hp : a ≠ p) : RatAt C H' a n d := let ⟨dx, h⟩ := h; ⟨dx, e _ _ h hp⟩
/-- a number: an int or a Ratio -/
inductive NumAt (C : Addr) (H : Hp) : V → Int → Int → Prop
  | int (i : Int) : NumAt C H (.int i) i 1
  | rat {a : Addr} {n d : Int} (h : RatAt C H a n d) : NumAt C H (.ref a) n d
theorem NumAt.same {C : Addr} {H H' : Hp} {v : V} {n d : Int} (h : NumAt C H v n d) (e : Same H H') : NumAt C H' v n d := by
  cases h with
  | int => exact .int _
  | rat h => exact .rat (h.same e)
theorem same_new {H : Hp} {p : Addr} {o : HO} (h : H p = none) : Same H (upd H p o) := fun b u e => by rw [upd_ne (ne_of_none e h)]; exact e
theorem same_two {H : Hp} {p q : Addr} {o u : HO} (h : H p = none) (h2 : H q = none) (n : p ≠ q) : Same H (upd (upd H p o) q u) := (same_new h).trans (same_new (by rw [upd_ne n.symm]; exact h2))
/-- small enough to reckon with -/
def Sz (z : Int) : Prop := z.natAbs < 2 ^ 8000
theorem Sz.mul {i j : Int} (a : Sz i) (b : Sz j) : CMulW i j := wide_mul a b (by decide) (by decide) (by decide)
theorem Sz.of {z : Int} (h : z.natAbs < 10 ^ 250) : Sz z := Nat.lt_trans h (by decide +kernel)

section
variable {P : Program} {w : World} {K : PySem.W.Frag} {mg : Str → Option Value} {base : Heap} {C : Addr}
def isIntK (K : PySem.W.Frag) (t : Value) (b : Bool) : Prop := ∃ b1 b2, PySem.W.kitOne K t (.type "int") = some b1 ∧ PySem.W.kitOne K t (.type "bool") = some b2 ∧ b = (b1 && !b2)
theorem isIntK_int : isIntK K (.type "int") true := ⟨true, false, kit_ty (by decide +kernel), kit_ty (by decide +kernel), rfl⟩
theorem isIntK_own {x : Str} (T : ClT K mg C x) : isIntK K (.ref C) false := ⟨false, false, T.kI, T.kB, rfl⟩
def spIsInt (K : PySem.W.Frag) : Sp := fun vs H Q _ => ∃ v t b, vs = [v] ∧ TyX K H v t ∧ isIntK K t b ∧ Q (.bl b) H

abbrev sIsInt : Stmt := top 18
theorem scII : FnScope ["value"] ["value"] (defScope sIsInt) := ⟨rfl, rfl, rfl, by decide +kernel, rfl, by decide +kernel, by decide +kernel⟩
theorem ok_isint {f : Addr} {fd : FuncData} (F : Fun K "is_int" "is_int" sIsInt f fd) (T : Bl mg) : FnOk P w K mg base CX0 1 f fd ["value"] (spIsInt K) := by
  refine F.ok scII (fun vs H Q E h => ?_) (fun cdv A outer s H vs Q E hr h => ?_)
  · obtain ⟨v, t, b, rfl, _⟩ := h
    rfl
  · obtain ⟨v, t, b, rfl, ty, ⟨b1, b2, h1, h2, rfl⟩, q⟩ := h
    have nd := scII.nd
    refine ⟨_, pss_one (ps_ret (pe_and (pe_callB call_isi (by rfl) T.isinstance (by decide +kernel) (pa_cons (pv 0) (pa_cons (pe_bltn (v := .ty "int") (u := .type "int") (by rfl) T.int (by decide +kernel) rfl) pa_nil))) (pe_one (pe_not (pe_callB call_isi (by rfl) T.isinstance (by decide +kernel) (pa_cons (pv 0) (pa_cons (pe_bltn (v := .ty "bool") (u := .type "bool") (by rfl) T.bool (by decide +kernel) rfl) pa_nil))))))), ?_⟩
    refine ⟨_, rfl, _, _, t, _, b1, rfl, .ty _, ty, h1, _, rfl, ?_⟩
    cases b1 with
    | true =>
      refine iteT ?_
      exact ⟨_, rfl, _, _, t, _, b2, rfl, .ty _, ty, h2, _, rfl, q⟩
    | false => exact iteF q

def spIsNum (K : PySem.W.Frag) (C : Addr) : Sp := fun vs H Q _ => ∃ v t b c, vs = [v] ∧ TyX K H v t ∧ isIntK K t b ∧ PySem.W.kitOne K t (.ref C) = some c ∧ Q (.bl (b || c)) H
theorem NumAt.spNum {x : Str} {H : Hp} {v : V} {n d : Int} {Q : VK} {E : XK} (T : ClT K mg C x) (h : NumAt C H v n d) (q : Q (.bl true) H) : spIsNum K C [v] H Q E := by
  cases h with
  | int => exact ⟨_, _, _, _, rfl, .base (.int _), isIntK_int, T.iK, q⟩
  | rat h => obtain ⟨dx, h⟩ := h; exact ⟨_, _, _, _, rfl, T.ty h, isIntK_own T, T.kS, q⟩
abbrev sIsNum : Stmt := inClass (top 23) 1
theorem scIN : FnScope ["value"] ["value"] (defScope sIsNum) := ⟨rfl, rfl, rfl, by decide +kernel, rfl, by decide +kernel, by decide +kernel⟩
theorem ok_isnum {f f1 : Addr} {fd fd1 : FuncData} (F : Fun K "is_number" "Ratio.is_number" sIsNum f fd) (T : Bl mg) (T_Ratio : RatT K mg C) (C_is_int : Cal P w K mg base 1 "is_int" f1 fd1 ["value"] (spIsInt K)) :
    FnOk P w K mg base CX0 2 f fd ["value"] (spIsNum K C) := by
  refine F.ok scIN (fun vs H Q E h => ?_) (fun cdv A outer s H vs Q E hr h => ?_)
  · obtain ⟨v, t, b, c, rfl, _⟩ := h
    rfl
  · obtain ⟨v, t, b, c, rfl, ty, hb, hc, q⟩ := h
    have nd := scIN.nd
    refine ⟨_, pss_one (ps_ret (pe_or (pe_call C_is_int.F (hr.mono (by decide)) (by rfl) C_is_int.mgf C_is_int.kp C_is_int.b .nil pass0 (pa_cons (pv 0) pa_nil)) (pe_one (pe_callB call_isi (by rfl) T.isinstance (by decide +kernel) (pa_cons (pv 0) (pa_cons (Own.pe_gref (by rfl) T_Ratio.mgC) pa_nil)))))), ?_⟩
    refine ⟨_, rfl, _, t, b, rfl, ty, hb, _, rfl, ?_⟩
    cases b with
    | true => exact iteT q
    | false =>
      refine iteF ?_
      exact ⟨_, rfl, _, _, t, _, c, rfl, .own _, ty, hc, q⟩

def spParts (C : Addr) : Sp := fun vs H Q _ => ∃ v n d, vs = [v] ∧ NumAt C H v n d ∧ ∀ p, H p = none → Q (.ref p) (upd H p (.tup [.int n, .int d]))
abbrev sParts : Stmt := top 24
theorem scPa : FnScope ["number"] ["number"] (defScope sParts) := ⟨rfl, rfl, rfl, by decide +kernel, rfl, by decide +kernel, by decide +kernel⟩
theorem ok_parts {f : Addr} {fd : FuncData} (F : Fun K "parts_of" "parts_of" sParts f fd) (T : Bl mg) (T_Ratio : RatT K mg C) : FnOk P w K mg base CX0 1 f fd ["number"] (spParts C) := by
  refine F.ok scPa (fun vs H Q E h => ?_) (fun cdv A outer s H vs Q E hr h => ?_)
  · obtain ⟨v, n, d, rfl, _⟩ := h
    rfl
  · obtain ⟨v, n, d, rfl, hn, q⟩ := h
    have nd := scPa.nd
    refine ⟨_, pss_cons (ps_if (pt_val (pe_callB call_isi (by rfl) T.isinstance (by decide +kernel) (pa_cons (pv 0) (pa_cons (Own.pe_gref (by rfl) T_Ratio.mgC) pa_nil)))) (pss_one (ps_ret (pe_tup (pa_cons (pe_fld (pv 0) rfl) (pa_cons (pe_fld (pv 0) rfl) pa_nil))))) pss_nil)
      (pss_one (ps_ret (pe_tup (pa_cons (pv 0) (pa_cons pe_int pa_nil))))), ?_⟩
    cases hn with
    | int =>
      refine ⟨_, rfl, _, _, _, _, false, rfl, .own _, .base (.int _), T_Ratio.iK, _, rfl, iteF ?_⟩
      exact ⟨_, rfl, (by decide : 2 ≤ sizeLine), fun p hp => q p hp⟩
    | rat h =>
      obtain ⟨dx, h⟩ := h
      refine ⟨_, rfl, _, _, _, _, true, rfl, .own _, T_Ratio.ty h, T_Ratio.kS, _, rfl, iteT ?_⟩
      exact ⟨_, rfl, _, C, dx, _, _, rfl, h, T_Ratio.cl, T_Ratio.nT, ratF_top _ _, _, rfl, _, C, dx, _, _, rfl, h, T_Ratio.cl, T_Ratio.nB, ratF_bot _ _, (by decide : 2 ≤ sizeLine), fun p hp => q p hp⟩

def spLead (C : Addr) : Sp := fun vs H Q _ => ∃ v u n d m e, vs = [v, u] ∧ NumAt C H v n d ∧ NumAt C H u m e ∧ (Sz n ∧ Sz d ∧ Sz m ∧ Sz e) ∧ ∀ H', Same H H' → Q (.int (n * e - m * d)) H'
abbrev sLead : Stmt := top 26
theorem scLe : FnScope ["one", "other", "top", "bottom", "other_top", "other_bottom"] ["one", "other"] (defScope sLead) := ⟨rfl, rfl, rfl, by decide +kernel, rfl, by decide +kernel, by decide +kernel⟩
theorem ok_lead {f f1 : Addr} {fd fd1 : FuncData} (F : Fun K "_lead" "_lead" sLead f fd) (C_parts_of : Cal P w K mg base 1 "parts_of" f1 fd1 ["number"] (spParts C)) : FnOk P w K mg base CX0 2 f fd ["one", "other"] (spLead C) := by
  refine F.ok scLe (fun vs H Q E h => ?_) (fun cdv A outer s H vs Q E hr h => ?_)
  · obtain ⟨v, u, n, d, m, e, rfl, _⟩ := h
    rfl
  · obtain ⟨v, u, n, d, m, e, rfl, hv, hu, ⟨z1, z2, z3, z4⟩, q⟩ := h
    have nd := scLe.nd
    refine ⟨_, pss_cons (ps_asg (pe_call C_parts_of.F (hr.mono (by decide)) (by rfl) C_parts_of.mgf C_parts_of.kp C_parts_of.b .nil pass0 (pa_cons (pv 0) pa_nil)) (pg_tup (by rfl) (pgs_cons (pg_name (i := 2) nd rfl (Or.inl rfl)) (pgs_cons (pg_name (i := 3) nd rfl (Or.inl rfl)) pgs_nil))))
      (pss_cons (ps_asg (pe_call C_parts_of.F (hr.mono (by decide)) (by rfl) C_parts_of.mgf C_parts_of.kp C_parts_of.b .nil pass0 (pa_cons (pv 1) pa_nil)) (pg_tup (by rfl) (pgs_cons (pg_name (i := 4) nd rfl (Or.inl rfl)) (pgs_cons (pg_name (i := 5) nd rfl (Or.inl rfl)) pgs_nil))))
      (pss_one (ps_ret (pe_op op_sub (pe_op op_mulW (pv 2) (pv 5)) (pe_op op_mulW (pv 4) (pv 3)))))), ?_⟩
    refine ⟨_, rfl, _, _, _, rfl, hv, fun p hp => ⟨_, _, rfl, SqT.of upd_same, rfl, _, _, rfl, _, _, rfl, rfl, ?_⟩⟩
    have s1 : Same H (upd H p (.tup [.int n, .int d])) := same_new hp
    refine ⟨_, rfl, _, _, _, rfl, hu.same s1, fun p2 hp2 => ⟨_, _, rfl, SqT.of upd_same, rfl, _, _, rfl, _, _, rfl, rfl, ?_⟩⟩
    exact ⟨_, rfl, _, rfl, _, _, rfl, rfl, z1.mul z4, _, rfl, _, rfl, _, _, rfl, rfl, z3.mul z2, _, _, rfl, rfl, q _ (s1.trans (same_new hp2))⟩
end
end Toy
set_option maxRecDepth 100000
set_option maxHeartbeats 4000000
namespace Toy
open PySem L2
/-! ### a ratio made -/
theorem vint_ne {b c : Int} (h : b ≠ c) : ¬ (decide (V.int b = V.int c) = true) := fun e => h (V.int.inj (of_decide_eq_true e))
def CDivZ (_ j : Int) : Prop := j ≠ 0 ∧ j.natAbs.log2 < 9000
theorem op_fdivZ {X : Cx} : OpR X (binaryOp .FloorDiv) (rI CDivZ fun i j => .int (i.fdiv j)) := opI fun i j _ _ _ _ _ hc q => PyProof.Rows.floordiv_int hc.1 q (.inl (PyProof.noPylong_of_log2 hc.2))
def gcdI (t b : Int) : Int := ((Nat.gcd t.natAbs b.natAbs : Nat) : Int)
def lowD (t b : Int) : Int := if 0 < b then gcdI t b else -gcdI t b
def lowT (t b : Int) : Int := t.fdiv (lowD t b)
def lowB (t b : Int) : Int := b.fdiv (lowD t b)
theorem gcdI_pos {t b : Int} (h : b ≠ 0) : 0 < gcdI t b := by
  have h1 : 0 < b.natAbs := by omega
  have h2 := Nat.gcd_pos_of_pos_right t.natAbs h1
  unfold gcdI
  omega
theorem gcdI_neg {t b : Int} (h : b ≠ 0) : -gcdI t b ≠ 0 := by
  have := gcdI_pos (t := t) h
  omega
theorem gcdI_le {t b : Int} (h : b ≠ 0) : (gcdI t b).natAbs ≤ b.natAbs := by
  have h1 : 0 < b.natAbs := by omega
  have h2 := Nat.gcd_le_right t.natAbs h1
  unfold gcdI
  omega
theorem Sz.div {i j : Int} (h : j ≠ 0) (z : Sz j) : CDivZ i j := ⟨h, Nat.lt_trans (PySem.Flt.log2_lt_of (by decide) z) (by decide)⟩
theorem Sz.gcd {t b : Int} (h : b ≠ 0) (z : Sz b) : Sz (gcdI t b) := Nat.lt_of_le_of_lt (gcdI_le h) z
theorem Sz.neg {b : Int} (z : Sz b) : Sz (-b) := by unfold Sz; rw [Int.natAbs_neg]; exact z
theorem lowT_one {t b : Int} (h : 0 < b) (g : gcdI t b = 1) : lowT t b = t := by
  unfold lowT lowD
  rw [if_pos h, g]
  exact Int.fdiv_one t
theorem lowB_one {t b : Int} (h : 0 < b) (g : gcdI t b = 1) : lowB t b = b := by
  unfold lowB lowD
  rw [if_pos h, g]
  exact Int.fdiv_one b
theorem iteNot {b : Bool} {A B : Prop} (h : b = true) (x : B) : if (!b) = true then A else B := by
  subst h
  exact iteF x
theorem NumAt.info {K : PySem.W.Frag} {mg : Str → Option Value} {C : Addr} {x : Str} {H : Hp} {v : V} {n d : Int} (T : ClT K mg C x) (h : NumAt C H v n d) :
    ∃ t b c, TyX K H v t ∧ isIntK K t b ∧ PySem.W.kitOne K t (.ref C) = some c ∧ (b || c) = true := by
  cases h with
  | int => exact ⟨_, _, _, .base (.int _), isIntK_int, T.iK, rfl⟩
  | rat h => obtain ⟨dx, h⟩ := h; exact ⟨_, _, _, T.ty h, isIntK_own T, T.kS, rfl⟩
section
variable {P : Program} {w : World} {K : PySem.W.Frag} {mg : Str → Option Value} {base : Heap} {C : Addr}
def spRInit (C : Addr) : Sp := fun vs H Q _ => ∃ x dx t b, vs = [.ref x, .int t, .int b] ∧ H x = some (.ins C dx []) ∧ b ≠ 0 ∧ Sz b ∧ ∀ H', RatAt C H' x (lowT t b) (lowB t b) → (∀ c o, H c = some o → c ≠ x → H' c = some o) → Q .non H'
theorem spRInit.make {H1 : Hp} {t b : Int} {Q : VK} {E : XK} (hb : b ≠ 0) (hz : Sz b) (q : ∀ x H', H1 x = none → Same H1 H' → RatAt C H' x (lowT t b) (lowB t b) → Q (.ref x) H') :
    ∀ x dx, H1 x = none → H1 dx = none → dx ≠ x → spRInit C [.ref x, .int t, .int b] (upd (upd H1 dx (.own x)) x (.ins C dx [])) (fun v H2 => v = .non ∧ Q (.ref x) H2) E := fun x dx hx hdx hne =>
  ⟨x, dx, t, b, rfl, upd_same, hb, hz, fun H' hR hk => ⟨rfl, q x H' hx (fun c o e => hk c o (by rw [upd_ne (ne_of_none e hx), upd_ne (ne_of_none e hdx)]; exact e) (ne_of_none e hx)) hR⟩⟩
abbrev sRInit : Stmt := inClass (top 23) 0
theorem scRI : FnScope ["self", "top", "bottom", "divisor"] ["self", "top", "bottom"] (defScope sRInit) := ⟨rfl, rfl, rfl, by decide +kernel, rfl, by decide +kernel, by decide +kernel⟩
theorem ok_rinit {f f1 : Addr} {fd fd1 : FuncData} (F : FunD K "__init__" "Ratio.__init__" (defArgs sRInit) (defBody sRInit) (defScope sRInit) [.int 1] [] f fd) (T : Bl mg) (T_Ratio : RatT K mg C) (C_is_int : Cal P w K mg base 1 "is_int" f1 fd1 ["value"] (spIsInt K)) :
    FnOk P w K mg base CX0 2 f fd ["self", "top", "bottom"] (spRInit C) := by
  refine F.ok scRI (fun vs H Q E h => ?_) (fun cdv A outer s H vs Q E hr h => ?_)
  · obtain ⟨x, dx, t, b, rfl, _⟩ := h
    rfl
  · obtain ⟨x, dx, t, b, rfl, hx, hb, hz, q⟩ := h
    have nd := scRI.nd
    refine ⟨_, pss_cons (ps_if (pt_not (pt_val (pe_call C_is_int.F (hr.mono (by decide)) (by rfl) C_is_int.mgf C_is_int.kp C_is_int.b .nil pass0 (pa_cons (pv 1) pa_nil)))) pss_never pss_nil)
      (pss_cons (ps_if (pt_not (pt_val (pe_call C_is_int.F (hr.mono (by decide)) (by rfl) C_is_int.mgf C_is_int.kp C_is_int.b .nil pass0 (pa_cons (pv 2) pa_nil)))) pss_never pss_nil)
      (pss_cons (ps_if (pt_cmpR op_eq (pv 2) pe_int (nomark _)) pss_never pss_nil)
      (pss_cons (ps_set (i := 3) nd rfl (Or.inl rfl) (pe_ifExp (pt_cmpR op_gt (pv 2) pe_int (nomark _)) (pe_callBfun cr_gcd (by rfl) T.gcd (pa_cons (pv 1) (pa_cons (pv 2) pa_nil))) (pe_un un_neg (pe_callBfun cr_gcd (by rfl) T.gcd (pa_cons (pv 1) (pa_cons (pv 2) pa_nil))))))
      (pss_cons (ps_fld (pv 0) (pe_op op_fdivZ (pv 1) (pv 3)) rfl)
      (pss_one (ps_fld (pv 0) (pe_op op_fdivZ (pv 2) (pv 3)) rfl)))))), ?_⟩
    refine ⟨_, rfl, _, _, true, rfl, .base (.int _), isIntK_int, _, rfl, iteF ?_⟩
    refine ⟨_, rfl, _, _, true, rfl, .base (.int _), isIntK_int, _, rfl, iteF ?_⟩
    refine ⟨_, rfl, rfl, _, rfl, ?_⟩
    refine ite2 (fun e => absurd e (vint_ne hb)) (fun _ => ?_)
    refine ⟨_, rfl, _, _, rfl, rfl, _, rfl, ?_⟩
    have fin : ∀ z : Int, z = lowD t b → Q .non (upd (upd H x (.ins C dx (putF "top" (.int (t.fdiv z)) []))) x (.ins C dx (putF "bottom" (.int (b.fdiv z)) (putF "top" (.int (t.fdiv z)) [])))) := fun z e =>
      q _ ⟨dx, by rw [e]; exact upd_same⟩ fun c o h n => by rw [upd_ne n, upd_ne n]; exact h
    refine ite2 (fun hp => ?_) (fun hp => ?_)
    · have hp1 : 0 < b := of_decide_eq_true hp
      refine ⟨_, rfl, _, rfl, _, _, rfl, ?_⟩
      refine ⟨_, rfl, _, rfl, _, _, rfl, rfl, (Sz.gcd hb hz).div (by have := gcdI_pos (t := t) hb; exact Int.ne_of_gt this), _, rfl, x, C, dx, _, rfl, hx, T_Ratio.cl, T_Ratio.nT, (by decide : 0 < 1000), ?_⟩
      refine ⟨_, rfl, _, rfl, _, _, rfl, rfl, (Sz.gcd hb hz).div (by have := gcdI_pos (t := t) hb; exact Int.ne_of_gt this), _, rfl, x, C, dx, _, rfl, upd_same, T_Ratio.cl, T_Ratio.nB, (by decide : 1 < 1000), ?_⟩
      exact fin _ (by unfold lowD; rw [if_pos hp1]; rfl)
    · have hp1 : ¬ 0 < b := fun e => hp (decide_eq_true e)
      refine ⟨_, rfl, _, rfl, _, _, rfl, _, rfl, ?_⟩
      refine ⟨_, rfl, _, rfl, _, _, rfl, rfl, (Sz.gcd hb hz).neg.div (gcdI_neg hb), _, rfl, x, C, dx, _, rfl, hx, T_Ratio.cl, T_Ratio.nT, (by decide : 0 < 1000), ?_⟩
      refine ⟨_, rfl, _, rfl, _, _, rfl, rfl, (Sz.gcd hb hz).neg.div (gcdI_neg hb), _, rfl, x, C, dx, _, rfl, upd_same, T_Ratio.cl, T_Ratio.nB, (by decide : 1 < 1000), ?_⟩
      exact fin _ (by unfold lowD; rw [if_neg hp1]; rfl)

/-- comparisons -/
def spCmp (C : Addr) (g : Int → Bool) : Sp := fun vs H Q _ => ∃ v u n d m e, vs = [v, u] ∧ NumAt C H v n d ∧ NumAt C H u m e ∧ (Sz n ∧ Sz d ∧ Sz m ∧ Sz e) ∧ ∀ H', Same H H' → Q (.bl (g (n * e - m * d))) H'
structure Opr (P : Program) (w : World) (K : PySem.W.Frag) (mg : Str → Option Value) (base : Heap) (k : Nat) (C : Addr) (m : Str) (f : Addr) (fd : FuncData) (ps : List Str) (sp : Sp) : Prop where
  at_ : PySem.W.findIn K (.ref C) m = some (some (.ref f))
  fn : PySem.W.isFn K (.ref f) = true
  F : FnOk P w K mg base CX0 k f fd ps sp
  b : Binds K fd ps []
abbrev sLt : Stmt := inClass (top 23) 22
theorem scLt : FnScope ["self", "other"] ["self", "other"] (defScope sLt) := ⟨rfl, rfl, rfl, by decide +kernel, rfl, by decide +kernel, by decide +kernel⟩
theorem ok_lt {f p1 f1 f2 : Addr} {fd fd1 fd2 : FuncData} (F : Fun K "__lt__" "Ratio.__lt__" sLt f fd) (T_Ratio : RatT K mg C)
    (S_Ratio_is_number : Sta P w K mg base 2 C "is_number" p1 f1 fd1 ["value"] (spIsNum K C)) (C__lead : Cal P w K mg base 2 "_lead" f2 fd2 ["one", "other"] (spLead C)) : FnOk P w K mg base CX0 3 f fd ["self", "other"] (spCmp C fun z => decide (z < 0)) := by
  refine F.ok scLt (fun vs H Q E h => ?_) (fun cdv A outer s H vs Q E hr h => ?_)
  · obtain ⟨v, u, n, d, m, e, rfl, _⟩ := h
    rfl
  · obtain ⟨v, u, n, d, m, e, rfl, hv, hu, hz, q⟩ := h
    have nd := scLt.nd
    refine ⟨_, pss_cons (ps_if (pt_not (pt_val (Own.pe_smeth T_Ratio.rd S_Ratio_is_number.s S_Ratio_is_number.F (hr.mono (by decide)) S_Ratio_is_number.b pass0 (Own.pe_gref (by rfl) T_Ratio.mgC) (pa_cons (pv 1) pa_nil)))) pss_never pss_nil)
      (pss_one (ps_ret (pe_cmpR op_lt (pe_call C__lead.F (hr.mono (by decide)) (by rfl) C__lead.mgf C__lead.kp C__lead.b .nil pass0 (pa_cons (pv 0) (pa_cons (pv 1) pa_nil))) pe_int (nomark _)))), ?_⟩
    obtain ⟨t, b, c, ty, hb, hc, hbc⟩ := hu.info T_Ratio.toClT
    refine ⟨rfl, _, rfl, _, t, b, c, rfl, ty, hb, hc, _, rfl, iteNot hbc ?_⟩
    exact ⟨_, rfl, _, rfl, v, u, n, d, m, e, rfl, hv, hu, hz, fun H' s1 => ⟨_, _, rfl, rfl, q H' s1⟩⟩
abbrev sLeq : Stmt := inClass (top 23) 23
theorem scLeq : FnScope ["self", "other"] ["self", "other"] (defScope sLeq) := ⟨rfl, rfl, rfl, by decide +kernel, rfl, by decide +kernel, by decide +kernel⟩
theorem ok_le {f p1 f1 f2 : Addr} {fd fd1 fd2 : FuncData} (F : Fun K "__le__" "Ratio.__le__" sLeq f fd) (T_Ratio : RatT K mg C)
    (S_Ratio_is_number : Sta P w K mg base 2 C "is_number" p1 f1 fd1 ["value"] (spIsNum K C)) (C__lead : Cal P w K mg base 2 "_lead" f2 fd2 ["one", "other"] (spLead C)) : FnOk P w K mg base CX0 3 f fd ["self", "other"] (spCmp C fun z => decide (z ≤ 0)) := by
  refine F.ok scLeq (fun vs H Q E h => ?_) (fun cdv A outer s H vs Q E hr h => ?_)
  · obtain ⟨v, u, n, d, m, e, rfl, _⟩ := h
    rfl
  · obtain ⟨v, u, n, d, m, e, rfl, hv, hu, hz, q⟩ := h
    have nd := scLeq.nd
    refine ⟨_, pss_cons (ps_if (pt_not (pt_val (Own.pe_smeth T_Ratio.rd S_Ratio_is_number.s S_Ratio_is_number.F (hr.mono (by decide)) S_Ratio_is_number.b pass0 (Own.pe_gref (by rfl) T_Ratio.mgC) (pa_cons (pv 1) pa_nil)))) pss_never pss_nil)
      (pss_one (ps_ret (pe_cmpR op_le (pe_call C__lead.F (hr.mono (by decide)) (by rfl) C__lead.mgf C__lead.kp C__lead.b .nil pass0 (pa_cons (pv 0) (pa_cons (pv 1) pa_nil))) pe_int (nomark _)))), ?_⟩
    obtain ⟨t, b, c, ty, hb, hc, hbc⟩ := hu.info T_Ratio.toClT
    refine ⟨rfl, _, rfl, _, t, b, c, rfl, ty, hb, hc, _, rfl, iteNot hbc ?_⟩
    exact ⟨_, rfl, _, rfl, v, u, n, d, m, e, rfl, hv, hu, hz, fun H' s1 => ⟨_, _, rfl, rfl, q H' s1⟩⟩
abbrev sGt : Stmt := inClass (top 23) 24
theorem scGt : FnScope ["self", "other"] ["self", "other"] (defScope sGt) := ⟨rfl, rfl, rfl, by decide +kernel, rfl, by decide +kernel, by decide +kernel⟩
theorem ok_gt {f p1 f1 f2 : Addr} {fd fd1 fd2 : FuncData} (F : Fun K "__gt__" "Ratio.__gt__" sGt f fd) (T_Ratio : RatT K mg C)
    (S_Ratio_is_number : Sta P w K mg base 2 C "is_number" p1 f1 fd1 ["value"] (spIsNum K C)) (C__lead : Cal P w K mg base 2 "_lead" f2 fd2 ["one", "other"] (spLead C)) : FnOk P w K mg base CX0 3 f fd ["self", "other"] (spCmp C fun z => decide (0 < z)) := by
  refine F.ok scGt (fun vs H Q E h => ?_) (fun cdv A outer s H vs Q E hr h => ?_)
  · obtain ⟨v, u, n, d, m, e, rfl, _⟩ := h
    rfl
  · obtain ⟨v, u, n, d, m, e, rfl, hv, hu, hz, q⟩ := h
    have nd := scGt.nd
    refine ⟨_, pss_cons (ps_if (pt_not (pt_val (Own.pe_smeth T_Ratio.rd S_Ratio_is_number.s S_Ratio_is_number.F (hr.mono (by decide)) S_Ratio_is_number.b pass0 (Own.pe_gref (by rfl) T_Ratio.mgC) (pa_cons (pv 1) pa_nil)))) pss_never pss_nil)
      (pss_one (ps_ret (pe_cmpR op_gt (pe_call C__lead.F (hr.mono (by decide)) (by rfl) C__lead.mgf C__lead.kp C__lead.b .nil pass0 (pa_cons (pv 0) (pa_cons (pv 1) pa_nil))) pe_int (nomark _)))), ?_⟩
    obtain ⟨t, b, c, ty, hb, hc, hbc⟩ := hu.info T_Ratio.toClT
    refine ⟨rfl, _, rfl, _, t, b, c, rfl, ty, hb, hc, _, rfl, iteNot hbc ?_⟩
    exact ⟨_, rfl, _, rfl, v, u, n, d, m, e, rfl, hv, hu, hz, fun H' s1 => ⟨_, _, rfl, rfl, q H' s1⟩⟩
abbrev sGe : Stmt := inClass (top 23) 25
theorem scGe : FnScope ["self", "other"] ["self", "other"] (defScope sGe) := ⟨rfl, rfl, rfl, by decide +kernel, rfl, by decide +kernel, by decide +kernel⟩
theorem ok_ge {f p1 f1 f2 : Addr} {fd fd1 fd2 : FuncData} (F : Fun K "__ge__" "Ratio.__ge__" sGe f fd) (T_Ratio : RatT K mg C)
    (S_Ratio_is_number : Sta P w K mg base 2 C "is_number" p1 f1 fd1 ["value"] (spIsNum K C)) (C__lead : Cal P w K mg base 2 "_lead" f2 fd2 ["one", "other"] (spLead C)) : FnOk P w K mg base CX0 3 f fd ["self", "other"] (spCmp C fun z => decide (0 ≤ z)) := by
  refine F.ok scGe (fun vs H Q E h => ?_) (fun cdv A outer s H vs Q E hr h => ?_)
  · obtain ⟨v, u, n, d, m, e, rfl, _⟩ := h
    rfl
  · obtain ⟨v, u, n, d, m, e, rfl, hv, hu, hz, q⟩ := h
    have nd := scGe.nd
    refine ⟨_, pss_cons (ps_if (pt_not (pt_val (Own.pe_smeth T_Ratio.rd S_Ratio_is_number.s S_Ratio_is_number.F (hr.mono (by decide)) S_Ratio_is_number.b pass0 (Own.pe_gref (by rfl) T_Ratio.mgC) (pa_cons (pv 1) pa_nil)))) pss_never pss_nil)
      (pss_one (ps_ret (pe_cmpR op_ge (pe_call C__lead.F (hr.mono (by decide)) (by rfl) C__lead.mgf C__lead.kp C__lead.b .nil pass0 (pa_cons (pv 0) (pa_cons (pv 1) pa_nil))) pe_int (nomark _)))), ?_⟩
    obtain ⟨t, b, c, ty, hb, hc, hbc⟩ := hu.info T_Ratio.toClT
    refine ⟨rfl, _, rfl, _, t, b, c, rfl, ty, hb, hc, _, rfl, iteNot hbc ?_⟩
    exact ⟨_, rfl, _, rfl, v, u, n, d, m, e, rfl, hv, hu, hz, fun H' s1 => ⟨_, _, rfl, rfl, q H' s1⟩⟩

end
end Toy
set_option maxRecDepth 100000
set_option maxHeartbeats 4000000
namespace Toy
open PySem L2
open Rat (divInt)
/-! ### numbers of the program as rationals -/
theorem gcdI_eq (t b : Int) : gcdI t b = (Int.gcd b t : Int) := by
  unfold gcdI Int.gcd
  rw [Nat.gcd_comm]
theorem low_num {t b : Int} (h : b ≠ 0) : lowT t b = (divInt t b).num := by
  rw [Rat.num_divInt]
  unfold lowT lowD
  rw [gcdI_eq]
  have hg : (0 : Int) < (Int.gcd b t : Int) := by
    rw [← gcdI_eq]; exact gcdI_pos h
  by_cases hb : 0 < b
  · rw [if_pos hb, Int.sign_eq_one_of_pos hb, Int.one_mul, Int.fdiv_eq_ediv_of_nonneg _ (by omega)]
  · have hb2 : b < 0 := by omega
    rw [if_neg hb, Int.sign_eq_neg_one_of_neg hb2, Int.neg_one_mul, ← Int.fdiv_eq_ediv_of_nonneg _ (by omega), ← Int.neg_fdiv_neg, Int.neg_neg]
theorem low_den {t b : Int} (h : b ≠ 0) : lowB t b = ((divInt t b).den : Int) := by
  rw [Rat.den_divInt, if_neg h]
  unfold lowB lowD
  rw [gcdI_eq]
  have hg : (0 : Int) < (Int.gcd b t : Int) := by
    rw [← gcdI_eq]; exact gcdI_pos h
  rw [Int.natCast_ediv]
  by_cases hb : 0 < b
  · rw [if_pos hb, Int.fdiv_eq_ediv_of_nonneg _ (by omega), Int.natAbs_of_nonneg (by omega)]
  · rw [if_neg hb, show ((b.natAbs : Nat) : Int) = -b by omega, ← Int.fdiv_eq_ediv_of_nonneg _ (by omega), ← Int.neg_fdiv_neg, Int.neg_neg]
/-- a number below 2 ^ k over one below 2 ^ k -/
def Sq (k : Nat) (q : Rat) : Prop := q.num.natAbs < 2 ^ k ∧ q.den < 2 ^ k
theorem Sq.mono {j k : Nat} {q : Rat} (h : Sq j q) (e : j ≤ k) : Sq k q := ⟨Nat.lt_of_lt_of_le h.1 (Nat.pow_le_pow_right (by decide) e), Nat.lt_of_lt_of_le h.2 (Nat.pow_le_pow_right (by decide) e)⟩
theorem Sq.n {k : Nat} {q : Rat} (h : Sq k q) (e : k ≤ 8000) : Sz q.num := (h.mono e).1
theorem Sq.d {k : Nat} {q : Rat} (h : Sq k q) (e : k ≤ 8000) : Sz (q.den : Int) := (h.mono e).2
theorem num_le (t b : Int) : (divInt t b).num.natAbs ≤ t.natAbs := by
  rw [Rat.num_divInt]
  refine Nat.le_trans (Int.natAbs_ediv_le_natAbs _ _) ?_
  rw [Int.natAbs_mul]
  rcases Int.lt_trichotomy b 0 with h | h | h
  · rw [Int.sign_eq_neg_one_of_neg h]; simp
  · subst h; simp
  · rw [Int.sign_eq_one_of_pos h]; simp
theorem den_le {t b : Int} (h : b ≠ 0) : (divInt t b).den ≤ b.natAbs := by
  rw [Rat.den_divInt, if_neg h]
  exact Nat.div_le_self _ _
theorem Sq.of {k : Nat} {t b : Int} (h : b ≠ 0) (ht : t.natAbs < 2 ^ k) (hb : b.natAbs < 2 ^ k) : Sq k (divInt t b) := ⟨Nat.lt_of_le_of_lt (num_le t b) ht, Nat.lt_of_le_of_lt (den_le h) hb⟩
theorem den_ne (q : Rat) : (q.den : Int) ≠ 0 := by have := q.den_pos; omega
theorem den_pos (q : Rat) : (0 : Int) < (q.den : Int) := by have := q.den_pos; omega
theorem q_add (p q : Rat) : divInt (p.num * q.den + q.num * p.den) (p.den * q.den) = p + q := by
  conv => rhs; rw [← Rat.num_divInt_den p, ← Rat.num_divInt_den q]
  rw [Rat.divInt_add_divInt _ _ (den_ne p) (den_ne q)]
theorem q_sub (p q : Rat) : divInt (p.num * q.den - q.num * p.den) (p.den * q.den) = p - q := by
  conv => rhs; rw [← Rat.num_divInt_den p, ← Rat.num_divInt_den q]
  rw [Rat.divInt_sub_divInt _ _ (den_ne p) (den_ne q)]
theorem q_mul (p q : Rat) : divInt (p.num * q.num) (p.den * q.den) = p * q := by
  conv => rhs; rw [← Rat.num_divInt_den p, ← Rat.num_divInt_den q]
  rw [Rat.divInt_mul_divInt]
theorem q_div {p q : Rat} : divInt (p.num * q.den) (p.den * q.num) = p / q := by
  rw [Rat.divInt_eq_div]
  conv => rhs; rw [← Rat.num_divInt_den p, ← Rat.num_divInt_den q]
  rw [Rat.divInt_eq_div, Rat.divInt_eq_div, Rat.intCast_mul, Rat.intCast_mul]
  have h1 : ((p.den : Int) : Rat) ≠ 0 := by simpa using den_ne p
  have h2 : ((q.den : Int) : Rat) ≠ 0 := by simpa using den_ne q
  grind
theorem q_neg (p : Rat) : divInt (-p.num) p.den = -p := by
  conv => rhs; rw [← Rat.num_divInt_den p]
  rw [Rat.neg_divInt]
theorem fdiv_pos (n d k : Int) (hd : 0 < d) (hk : 0 < k) : (n * k).fdiv (d * k) = n / d := by
  rw [Int.fdiv_eq_ediv_of_nonneg _ (by exact Int.le_of_lt (Int.mul_pos hd hk)), Int.mul_ediv_mul_of_pos_left _ _ hk]
theorem q_fdiv {t b : Int} (h : b ≠ 0) : t.fdiv b = (divInt t b).floor := by
  obtain ⟨m, hm, e1, e2⟩ := Rat.divInt_num_den (n := t) (n' := (divInt t b).num) (d' := (divInt t b).den) (z' := (divInt t b).den_nz) (c := (divInt t b).reduced) h rfl
  rw [Rat.floor_def]
  have hd := den_pos (divInt t b)
  generalize (divInt t b).num = n at *
  generalize ((divInt t b).den : Int) = d at *
  rw [e1, e2]
  by_cases hp : 0 < m
  · exact fdiv_pos n d m hd hp
  · rw [← Int.neg_fdiv_neg, ← Int.mul_neg, ← Int.mul_neg]
    exact fdiv_pos n d (-m) hd (by omega)
theorem q_lt (p q : Rat) : decide (p.num * q.den - q.num * p.den < 0) = decide (p < q) := decide_eq_decide.mpr ⟨fun h => (Rat.lt_iff p q).mpr (by omega), fun h => by have := (Rat.lt_iff p q).mp h; omega⟩
theorem q_le (p q : Rat) : decide (p.num * q.den - q.num * p.den ≤ 0) = decide (p ≤ q) := decide_eq_decide.mpr ⟨fun h => (Rat.le_iff p q).mpr (by omega), fun h => by have := (Rat.le_iff p q).mp h; omega⟩
theorem q_gt (p q : Rat) : decide (0 < p.num * q.den - q.num * p.den) = decide (q < p) := decide_eq_decide.mpr ⟨fun h => (Rat.lt_iff q p).mpr (by omega), fun h => by have := (Rat.lt_iff q p).mp h; omega⟩
theorem q_ge (p q : Rat) : decide (0 ≤ p.num * q.den - q.num * p.den) = decide (q ≤ p) := decide_eq_decide.mpr ⟨fun h => (Rat.le_iff q p).mpr (by omega), fun h => by have := (Rat.le_iff q p).mp h; omega⟩
theorem q_eq (p q : Rat) : (decide (p.num = q.num) && decide ((p.den : Int) = q.den)) = decide (p = q) := by
  by_cases h : p = q
  · subst h; simp
  · rw [decide_eq_false h]
    by_cases h1 : p.num = q.num
    · have h2 : (p.den : Int) ≠ q.den := fun e => h (Rat.ext h1 (by exact_mod_cast e))
      simp [h2]
    · simp [h1]
/-! ### sizes -/
theorem mul_lt {i j : Int} {a b : Nat} (ha : i.natAbs < 2 ^ a) (hb : j.natAbs < 2 ^ b) : (i * j).natAbs < 2 ^ (a + b) := wide_lt ha hb
theorem den_abs (q : Rat) : ((q.den : Int)).natAbs = q.den := Int.natAbs_natCast _
theorem add_lt {i j : Int} {a : Nat} (ha : i.natAbs < 2 ^ a) (hb : j.natAbs < 2 ^ a) : (i + j).natAbs < 2 ^ (a + 1) := by
  have := Int.natAbs_add_le i j
  rw [Nat.pow_succ]
  omega
theorem sub_lt {i j : Int} {a : Nat} (ha : i.natAbs < 2 ^ a) (hb : j.natAbs < 2 ^ a) : (i - j).natAbs < 2 ^ (a + 1) := by
  have := Int.natAbs_sub_le i j
  rw [Nat.pow_succ]
  omega
theorem Sq.dd {k : Nat} {q : Rat} (h : Sq k q) : ((q.den : Int)).natAbs < 2 ^ k := by rw [den_abs]; exact h.2
section
variable {j k : Nat} {p q : Rat}
theorem Sq.dm (a : Sq j p) (b : Sq k q) : ((p.den : Int) * q.den).natAbs < 2 ^ (j + k) := mul_lt a.dd b.dd
theorem Sq.tadd (a : Sq j p) (b : Sq k q) : (p.num * q.den + q.num * p.den).natAbs < 2 ^ (j + k + 1) := add_lt (mul_lt a.1 b.dd) (by rw [Nat.add_comm]; exact mul_lt b.1 a.dd)
theorem Sq.tsub (a : Sq j p) (b : Sq k q) : (p.num * q.den - q.num * p.den).natAbs < 2 ^ (j + k + 1) := sub_lt (mul_lt a.1 b.dd) (by rw [Nat.add_comm]; exact mul_lt b.1 a.dd)
theorem dm_ne (p q : Rat) : (p.den : Int) * q.den ≠ 0 := Int.mul_ne_zero (den_ne p) (den_ne q)
theorem Sq.add (a : Sq j p) (b : Sq k q) : Sq (j + k + 1) (p + q) := by rw [← q_add]; exact Sq.of (dm_ne p q) (a.tadd b) (Nat.lt_of_lt_of_le (a.dm b) (Nat.pow_le_pow_right (by decide) (by omega)))
theorem Sq.sub (a : Sq j p) (b : Sq k q) : Sq (j + k + 1) (p - q) := by rw [← q_sub]; exact Sq.of (dm_ne p q) (a.tsub b) (Nat.lt_of_lt_of_le (a.dm b) (Nat.pow_le_pow_right (by decide) (by omega)))
theorem Sq.mul (a : Sq j p) (b : Sq k q) : Sq (j + k) (p * q) := by rw [← q_mul]; exact Sq.of (dm_ne p q) (mul_lt a.1 b.1) (a.dm b)
theorem num_ne {q : Rat} (h : q ≠ 0) : q.num ≠ 0 := fun e => h (Rat.num_eq_zero.mp e)
theorem dn_ne (p : Rat) {q : Rat} (h : q ≠ 0) : (p.den : Int) * q.num ≠ 0 := Int.mul_ne_zero (den_ne p) (num_ne h)
theorem Sq.div (a : Sq j p) (b : Sq k q) (h : q ≠ 0) : Sq (j + k) (p / q) := by rw [← q_div]; exact Sq.of (dn_ne p h) (mul_lt a.1 b.dd) (mul_lt a.dd b.1)
theorem Sq.neg (a : Sq j p) : Sq j (-p) := by
  refine ⟨?_, a.2⟩
  show (-p.num).natAbs < _
  rw [Int.natAbs_neg]
  exact a.1
theorem Sq.abs (a : Sq j p) : Sq j p.abs := by
  unfold Rat.abs
  split
  · exact a
  · exact a.neg
theorem Sq.int {i : Int} (h : i.natAbs < 2 ^ k) (h0 : 0 < k) : Sq k (i : Rat) := ⟨by rw [Rat.num_intCast]; exact h, by rw [Rat.den_intCast]; exact Nat.one_lt_two_pow (by omega)⟩
end
end Toy
set_option maxRecDepth 100000
set_option maxHeartbeats 4000000
namespace Toy
open PySem L2
open Rat (divInt)
/-! ### what the operators of Ratio promise, in rationals -/
def RatQ (C : Addr) (H : Hp) (a : Addr) (q : Rat) : Prop := RatAt C H a q.num q.den
inductive NumQ (C : Addr) (H : Hp) : V → Rat → Prop
  | int (i : Int) : NumQ C H (.int i) (i : Rat)
  | rat {a : Addr} {q : Rat} (h : RatQ C H a q) : NumQ C H (.ref a) q
theorem RatQ.same {C : Addr} {H H' : Hp} {a : Addr} {q : Rat} (h : RatQ C H a q) (e : Same H H') : RatQ C H' a q := RatAt.same h e
theorem RatQ.but {C p : Addr} {H H' : Hp} {a : Addr} {q : Rat} (h : RatQ C H a q) (e : But p H H') (hp : a ≠ p) : RatQ C H' a q := RatAt.but h e hp
theorem NumQ.same {C : Addr} {H H' : Hp} {v : V} {q : Rat} (h : NumQ C H v q) (e : Same H H') : NumQ C H' v q := by
  cases h with
  | int => exact .int _
  | rat h => exact .rat (h.same e)
theorem NumQ.at_ {C : Addr} {H : Hp} {v : V} {q : Rat} (h : NumQ C H v q) : NumAt C H v q.num q.den := by
  cases h with
  | int i => exact .int i
  | rat h => exact .rat h
theorem RatQ.ins {C : Addr} {H : Hp} {a : Addr} {q : Rat} (h : RatQ C H a q) : ∃ dx fs, H a = some (.ins C dx fs) := let ⟨dx, h⟩ := h; ⟨dx, _, h⟩
/-- an int or an instance, as the operators' rules ask -/
theorem NumQ.ri {C : Addr} {H : Hp} {v : V} {q : Rat} (h : NumQ C H v q) : (∃ j, v = .int j) ∨ ∃ b dy gs, v = .ref b ∧ H b = some (.ins C dy gs) := by
  cases h with
  | int i => exact .inl ⟨i, rfl⟩
  | rat h => obtain ⟨dx, h⟩ := h; exact .inr ⟨_, dx, _, rfl, h⟩
theorem NumQ.cases {C : Addr} {H : Hp} {v : V} {q : Rat} (h : NumQ C H v q) : (∃ i : Int, v = .int i ∧ q = i) ∨ ∃ a, v = .ref a ∧ RatQ C H a q := by
  cases h with
  | int i => exact .inl ⟨i, rfl, rfl⟩
  | rat h => exact .inr ⟨_, rfl, h⟩
section
variable {P : Program} {w : World} {K : PySem.W.Frag} {mg : Str → Option Value} {base : Heap} {C : Addr}
theorem mkQ {H1 : Hp} {t b : Int} {Q : VK} {E : XK} {q : Rat} (hb : b ≠ 0) (hz : Sz b) (e : divInt t b = q) (k : ∀ x H', Same H1 H' → RatQ C H' x q → Q (.ref x) H') :
    ∀ x dx, H1 x = none → H1 dx = none → dx ≠ x → spRInit C [.ref x, .int t, .int b] (upd (upd H1 dx (.own x)) x (.ins C dx [])) (fun v H2 => v = .non ∧ Q (.ref x) H2) E :=
  spRInit.make hb hz fun x H' _ s r => k x H' s (by rw [low_num hb, low_den hb, e] at r; exact r)
/-- a Ratio and a number, a Ratio out -/
def spBin (C : Addr) (G : Rat → Rat → Prop) (f : Rat → Rat → Rat) : Sp := fun vs H Q _ => ∃ a u p q, vs = [.ref a, u] ∧ RatQ C H a p ∧ NumQ C H u q ∧ (Sq 3900 p ∧ Sq 3900 q) ∧ G p q ∧ ∀ x H', Same H H' → RatQ C H' x (f p q) → Q (.ref x) H'
def spUn (C : Addr) (f : Rat → Rat) : Sp := fun vs H Q _ => ∃ a p, vs = [.ref a] ∧ RatQ C H a p ∧ Sq 3900 p ∧ ∀ x H', Same H H' → RatQ C H' x (f p) → Q (.ref x) H'
abbrev GT : Rat → Rat → Prop := fun _ _ => True
theorem z4 {p : Rat} (h : Sq 3900 p) : Sz p.num ∧ Sz (p.den : Int) := ⟨h.n (by decide), h.d (by decide)⟩
theorem szd {p q : Rat} (a : Sq 3900 p) (b : Sq 3900 q) : Sz ((p.den : Int) * q.den) := Nat.lt_of_lt_of_le (a.dm b) (Nat.pow_le_pow_right (by decide) (by decide))
abbrev sAdd : Stmt := inClass (top 23) 8
theorem scAdd : FnScope ["self", "other", "top", "bottom"] ["self", "other"] (defScope sAdd) := ⟨rfl, rfl, rfl, by decide +kernel, rfl, by decide +kernel, by decide +kernel⟩
theorem ok_add {f p1 f1 f2 f3 : Addr} {fd fd1 fd2 fd3 : FuncData} (F : Fun K "__add__" "Ratio.__add__" sAdd f fd) (T_Ratio : RatT K mg C) (S_Ratio_is_number : Sta P w K mg base 2 C "is_number" p1 f1 fd1 ["value"] (spIsNum K C)) (C_parts_of : Cal P w K mg base 1 "parts_of" f2 fd2 ["number"] (spParts C)) (M_Ratio : Mak P w K mg base 2 "Ratio" C f3 fd3 ["self", "top", "bottom"] (spRInit C)) :
    FnOk P w K mg base CX0 4 f fd ["self", "other"] (spBin C GT fun p q => p + q) := by
  refine F.ok scAdd (fun vs H Q E h => ?_) (fun cdv A outer s H vs Q E hr h => ?_)
  · obtain ⟨a, u, p, q, rfl, _⟩ := h
    rfl
  · obtain ⟨a, u, p, q, rfl, hp, hq, ⟨zp, zq⟩, hG, k⟩ := h
    have nd := scAdd.nd
    refine ⟨_, pss_cons (ps_if (pt_not (pt_val (Own.pe_smeth T_Ratio.rd S_Ratio_is_number.s S_Ratio_is_number.F (hr.mono (by decide)) S_Ratio_is_number.b pass0 (Own.pe_gref (by rfl) T_Ratio.mgC) (pa_cons (pv 1) pa_nil)))) pss_never pss_nil)
      (pss_cons (ps_asg (pe_call C_parts_of.F (hr.mono (by decide)) (by rfl) C_parts_of.mgf C_parts_of.kp C_parts_of.b .nil pass0 (pa_cons (pv 1) pa_nil)) (pg_tup (by rfl) (pgs_cons (pg_name (i := 2) nd rfl (Or.inl rfl)) (pgs_cons (pg_name (i := 3) nd rfl (Or.inl rfl)) pgs_nil))))
      (pss_one (ps_ret (pe_make M_Ratio.M M_Ratio.F (hr.mono (by decide)) (by rfl) M_Ratio.mgC M_Ratio.b .nil pass0 (pa_cons (pe_op op_add (pe_op op_mulW (pe_fld (pv 0) rfl) (pv 3)) (pe_op op_mulW (pv 2) (pe_fld (pv 0) rfl))) (pa_cons (pe_op op_mulW (pe_fld (pv 0) rfl) (pv 3)) pa_nil)))))), ?_⟩
    have hv := hq.at_
    obtain ⟨dx, h0⟩ := id hp
    obtain ⟨t, b, c, ty, hb, hc, hbc⟩ := hv.info T_Ratio.toClT
    refine ⟨rfl, _, rfl, _, t, b, c, rfl, ty, hb, hc, _, rfl, iteNot hbc ?_⟩
    refine ⟨_, rfl, _, _, _, rfl, hv, fun p1 hp1 => ⟨_, _, rfl, SqT.of upd_same, rfl, _, _, rfl, _, _, rfl, rfl, ?_⟩⟩
    have s1 : Same H (upd H p1 (.tup [.int q.num, .int (q.den : Int)])) := same_new hp1
    have h1 := s1 _ _ h0
    refine ⟨_, rfl, _, C, dx, _, _, rfl, h1, T_Ratio.cl, T_Ratio.nT, ratF_top _ _, _, rfl, _, _, rfl, rfl, ((z4 zp).1.mul (z4 zq).2), _, rfl, _, rfl, _, C, dx, _, _, rfl, h1, T_Ratio.cl, T_Ratio.nB, ratF_bot _ _, _, _, rfl, rfl, ((z4 zq).1.mul (z4 zp).2), _, _, rfl, rfl, _, rfl, _, C, dx, _, _, rfl, h1, T_Ratio.cl, T_Ratio.nB, ratF_bot _ _, _, rfl, _, _, rfl, rfl, ((z4 zp).2.mul (z4 zq).2), ?_⟩
    exact mkQ (dm_ne p q) (szd zp zq) (q_add p q) fun x H' s2 r => k x H' (s1.trans s2) r
abbrev sSub : Stmt := inClass (top 23) 10
theorem scSub : FnScope ["self", "other", "top", "bottom"] ["self", "other"] (defScope sSub) := ⟨rfl, rfl, rfl, by decide +kernel, rfl, by decide +kernel, by decide +kernel⟩
theorem ok_sub {f p1 f1 f2 f3 : Addr} {fd fd1 fd2 fd3 : FuncData} (F : Fun K "__sub__" "Ratio.__sub__" sSub f fd) (T_Ratio : RatT K mg C) (S_Ratio_is_number : Sta P w K mg base 2 C "is_number" p1 f1 fd1 ["value"] (spIsNum K C)) (C_parts_of : Cal P w K mg base 1 "parts_of" f2 fd2 ["number"] (spParts C)) (M_Ratio : Mak P w K mg base 2 "Ratio" C f3 fd3 ["self", "top", "bottom"] (spRInit C)) :
    FnOk P w K mg base CX0 4 f fd ["self", "other"] (spBin C GT fun p q => p - q) := by
  refine F.ok scSub (fun vs H Q E h => ?_) (fun cdv A outer s H vs Q E hr h => ?_)
  · obtain ⟨a, u, p, q, rfl, _⟩ := h
    rfl
  · obtain ⟨a, u, p, q, rfl, hp, hq, ⟨zp, zq⟩, hG, k⟩ := h
    have nd := scSub.nd
    refine ⟨_, pss_cons (ps_if (pt_not (pt_val (Own.pe_smeth T_Ratio.rd S_Ratio_is_number.s S_Ratio_is_number.F (hr.mono (by decide)) S_Ratio_is_number.b pass0 (Own.pe_gref (by rfl) T_Ratio.mgC) (pa_cons (pv 1) pa_nil)))) pss_never pss_nil)
      (pss_cons (ps_asg (pe_call C_parts_of.F (hr.mono (by decide)) (by rfl) C_parts_of.mgf C_parts_of.kp C_parts_of.b .nil pass0 (pa_cons (pv 1) pa_nil)) (pg_tup (by rfl) (pgs_cons (pg_name (i := 2) nd rfl (Or.inl rfl)) (pgs_cons (pg_name (i := 3) nd rfl (Or.inl rfl)) pgs_nil))))
      (pss_one (ps_ret (pe_make M_Ratio.M M_Ratio.F (hr.mono (by decide)) (by rfl) M_Ratio.mgC M_Ratio.b .nil pass0 (pa_cons (pe_op op_sub (pe_op op_mulW (pe_fld (pv 0) rfl) (pv 3)) (pe_op op_mulW (pv 2) (pe_fld (pv 0) rfl))) (pa_cons (pe_op op_mulW (pe_fld (pv 0) rfl) (pv 3)) pa_nil)))))), ?_⟩
    have hv := hq.at_
    obtain ⟨dx, h0⟩ := id hp
    obtain ⟨t, b, c, ty, hb, hc, hbc⟩ := hv.info T_Ratio.toClT
    refine ⟨rfl, _, rfl, _, t, b, c, rfl, ty, hb, hc, _, rfl, iteNot hbc ?_⟩
    refine ⟨_, rfl, _, _, _, rfl, hv, fun p1 hp1 => ⟨_, _, rfl, SqT.of upd_same, rfl, _, _, rfl, _, _, rfl, rfl, ?_⟩⟩
    have s1 : Same H (upd H p1 (.tup [.int q.num, .int (q.den : Int)])) := same_new hp1
    have h1 := s1 _ _ h0
    refine ⟨_, rfl, _, C, dx, _, _, rfl, h1, T_Ratio.cl, T_Ratio.nT, ratF_top _ _, _, rfl, _, _, rfl, rfl, ((z4 zp).1.mul (z4 zq).2), _, rfl, _, rfl, _, C, dx, _, _, rfl, h1, T_Ratio.cl, T_Ratio.nB, ratF_bot _ _, _, _, rfl, rfl, ((z4 zq).1.mul (z4 zp).2), _, _, rfl, rfl, _, rfl, _, C, dx, _, _, rfl, h1, T_Ratio.cl, T_Ratio.nB, ratF_bot _ _, _, rfl, _, _, rfl, rfl, ((z4 zp).2.mul (z4 zq).2), ?_⟩
    exact mkQ (dm_ne p q) (szd zp zq) (q_sub p q) fun x H' s2 r => k x H' (s1.trans s2) r
abbrev sMul : Stmt := inClass (top 23) 12
theorem scMul : FnScope ["self", "other", "top", "bottom"] ["self", "other"] (defScope sMul) := ⟨rfl, rfl, rfl, by decide +kernel, rfl, by decide +kernel, by decide +kernel⟩
theorem ok_mul {f p1 f1 f2 f3 : Addr} {fd fd1 fd2 fd3 : FuncData} (F : Fun K "__mul__" "Ratio.__mul__" sMul f fd) (T_Ratio : RatT K mg C) (S_Ratio_is_number : Sta P w K mg base 2 C "is_number" p1 f1 fd1 ["value"] (spIsNum K C)) (C_parts_of : Cal P w K mg base 1 "parts_of" f2 fd2 ["number"] (spParts C)) (M_Ratio : Mak P w K mg base 2 "Ratio" C f3 fd3 ["self", "top", "bottom"] (spRInit C)) :
    FnOk P w K mg base CX0 4 f fd ["self", "other"] (spBin C GT fun p q => p * q) := by
  refine F.ok scMul (fun vs H Q E h => ?_) (fun cdv A outer s H vs Q E hr h => ?_)
  · obtain ⟨a, u, p, q, rfl, _⟩ := h
    rfl
  · obtain ⟨a, u, p, q, rfl, hp, hq, ⟨zp, zq⟩, hG, k⟩ := h
    have nd := scMul.nd
    refine ⟨_, pss_cons (ps_if (pt_not (pt_val (Own.pe_smeth T_Ratio.rd S_Ratio_is_number.s S_Ratio_is_number.F (hr.mono (by decide)) S_Ratio_is_number.b pass0 (Own.pe_gref (by rfl) T_Ratio.mgC) (pa_cons (pv 1) pa_nil)))) pss_never pss_nil)
      (pss_cons (ps_asg (pe_call C_parts_of.F (hr.mono (by decide)) (by rfl) C_parts_of.mgf C_parts_of.kp C_parts_of.b .nil pass0 (pa_cons (pv 1) pa_nil)) (pg_tup (by rfl) (pgs_cons (pg_name (i := 2) nd rfl (Or.inl rfl)) (pgs_cons (pg_name (i := 3) nd rfl (Or.inl rfl)) pgs_nil))))
      (pss_one (ps_ret (pe_make M_Ratio.M M_Ratio.F (hr.mono (by decide)) (by rfl) M_Ratio.mgC M_Ratio.b .nil pass0 (pa_cons (pe_op op_mulW (pe_fld (pv 0) rfl) (pv 2)) (pa_cons (pe_op op_mulW (pe_fld (pv 0) rfl) (pv 3)) pa_nil)))))), ?_⟩
    have hv := hq.at_
    obtain ⟨dx, h0⟩ := id hp
    obtain ⟨t, b, c, ty, hb, hc, hbc⟩ := hv.info T_Ratio.toClT
    refine ⟨rfl, _, rfl, _, t, b, c, rfl, ty, hb, hc, _, rfl, iteNot hbc ?_⟩
    refine ⟨_, rfl, _, _, _, rfl, hv, fun p1 hp1 => ⟨_, _, rfl, SqT.of upd_same, rfl, _, _, rfl, _, _, rfl, rfl, ?_⟩⟩
    have s1 : Same H (upd H p1 (.tup [.int q.num, .int (q.den : Int)])) := same_new hp1
    have h1 := s1 _ _ h0
    refine ⟨_, rfl, _, C, dx, _, _, rfl, h1, T_Ratio.cl, T_Ratio.nT, ratF_top _ _, _, rfl, _, _, rfl, rfl, ((z4 zp).1.mul (z4 zq).1), _, rfl, _, C, dx, _, _, rfl, h1, T_Ratio.cl, T_Ratio.nB, ratF_bot _ _, _, rfl, _, _, rfl, rfl, ((z4 zp).2.mul (z4 zq).2), ?_⟩
    exact mkQ (dm_ne p q) (szd zp zq) (q_mul p q) fun x H' s2 r => k x H' (s1.trans s2) r
end
end Toy
set_option maxRecDepth 100000
set_option maxHeartbeats 4000000
set_option exponentiation.threshold 3000
namespace Toy
open PySem L2
open Rat (divInt)
theorem q_abs (p : Rat) : divInt (if p.num < 0 then -p.num else p.num) p.den = p.abs := by
  by_cases h : p.num < 0
  · rw [if_pos h, q_neg, Rat.abs, if_neg]
    intro z
    have := Rat.num_nonneg.mpr z
    omega
  · rw [if_neg h, Rat.num_divInt_den, Rat.abs, if_pos (Rat.num_nonneg.mp (by omega))]
theorem eqvT (n m x y : Int) : PyData.eqv (.tuple [.int n, .int m]) (.tuple [.int x, .int y]) = (decide (n = x) && decide (m = y)) := by
  show (n == x && (m == y && true)) = _
  rw [Bool.and_true]
  rfl
section
variable {P : Program} {w : World} {K : PySem.W.Frag} {mg : Str → Option Value} {base : Heap} {C : Addr}
/-- facts for an operator of Ratio with a Ratio at the left -/
structure BinF (K : PySem.W.Frag) (C : Addr) (op : Operator) : Prop where
  hc : PySem.W.selfFirst K C = true
  hR : ∃ rc, PySem.W.findIn K (.ref C) (dunderR op.info.2) = some rc ∧ (rc = none ∨ ∃ g : Addr, rc = some (.ref g))
  h1 : ∃ fo, PySem.W.findIn K (.type "int") (PySem.dunder op.info.2) = some fo
  h2 : ∃ ro, PySem.W.findIn K (.type "int") (dunderR op.info.2) = some ro
  hs : PySem.W.subIn K (.type "int") (.ref C) = some false
theorem op_B {X : Cx} {CX : CXT} {k : Nat} {f : Addr} {fd : FuncData} {ps : List Str} {sp : Sp} {E : XK} {op : Operator} (B : BinF X.K C op) (F : FnOk X.prog X.w X.K X.mg X.base CX k f fd ps sp) (hr : Room k X.A)
    (hs : PySem.W.findIn X.K (.ref C) (PySem.dunder op.info.2) = some (some (.ref f))) (hf : PySem.W.isFn X.K (.ref f) = true) (hb : Binds X.K fd ps []) (hx : Passes CX X E) : OpR X (binaryOp op) (Own.rOwnB C sp E) := by
  obtain ⟨rc, hR, hp⟩ := B.hR
  obtain ⟨fo, h1⟩ := B.h1
  obtain ⟨ro, h2⟩ := B.h2
  exact Own.op_ownB F hr hs hf B.hc hR hp h1 h2 B.hs hb hx
abbrev sNeg : Stmt := inClass (top 23) 18
theorem scNeg : FnScope ["self"] ["self"] (defScope sNeg) := ⟨rfl, rfl, rfl, by decide +kernel, rfl, by decide +kernel, by decide +kernel⟩
theorem ok_neg {f f3 : Addr} {fd fd3 : FuncData} (F : Fun K "__neg__" "Ratio.__neg__" sNeg f fd) (T_Ratio : RatT K mg C) (M_Ratio : Mak P w K mg base 2 "Ratio" C f3 fd3 ["self", "top", "bottom"] (spRInit C)) :
    FnOk P w K mg base CX0 4 f fd ["self"] (spUn C fun p => -p) := by
  refine F.ok scNeg (fun vs H Q E h => ?_) (fun cdv A outer s H vs Q E hr h => ?_)
  · obtain ⟨a, p, rfl, _⟩ := h
    rfl
  · obtain ⟨a, p, rfl, hp, zp, k⟩ := h
    have nd := scNeg.nd
    refine ⟨_, pss_one (ps_ret (pe_make M_Ratio.M M_Ratio.F (hr.mono (by decide)) (by rfl) M_Ratio.mgC M_Ratio.b .nil pass0 (pa_cons (pe_un un_neg (pe_fld (pv 0) rfl)) (pa_cons (pe_fld (pv 0) rfl) pa_nil)))), ?_⟩
    obtain ⟨dx, h1⟩ := id hp
    refine ⟨_, rfl, _, C, dx, _, _, rfl, h1, T_Ratio.cl, T_Ratio.nT, ratF_top _ _, _, rfl, _, rfl, _, C, dx, _, _, rfl, h1, T_Ratio.cl, T_Ratio.nB, ratF_bot _ _, ?_⟩
    exact mkQ (den_ne p) (z4 zp).2 (q_neg p) k
abbrev sAbs : Stmt := inClass (top 23) 19
theorem scAbs : FnScope ["self"] ["self"] (defScope sAbs) := ⟨rfl, rfl, rfl, by decide +kernel, rfl, by decide +kernel, by decide +kernel⟩
theorem ok_abs {f f3 : Addr} {fd fd3 : FuncData} (F : Fun K "__abs__" "Ratio.__abs__" sAbs f fd) (T : Bl mg) (T_Ratio : RatT K mg C) (M_Ratio : Mak P w K mg base 2 "Ratio" C f3 fd3 ["self", "top", "bottom"] (spRInit C)) :
    FnOk P w K mg base CX0 4 f fd ["self"] (spUn C Rat.abs) := by
  refine F.ok scAbs (fun vs H Q E h => ?_) (fun cdv A outer s H vs Q E hr h => ?_)
  · obtain ⟨a, p, rfl, _⟩ := h
    rfl
  · obtain ⟨a, p, rfl, hp, zp, k⟩ := h
    have nd := scAbs.nd
    refine ⟨_, pss_one (ps_ret (pe_make M_Ratio.M M_Ratio.F (hr.mono (by decide)) (by rfl) M_Ratio.mgC M_Ratio.b .nil pass0 (pa_cons (pe_callB call_abs (by rfl) T.abs (by decide +kernel) (pa_cons (pe_fld (pv 0) rfl) pa_nil)) (pa_cons (pe_fld (pv 0) rfl) pa_nil)))), ?_⟩
    obtain ⟨dx, h1⟩ := id hp
    refine ⟨_, rfl, _, C, dx, _, _, rfl, h1, T_Ratio.cl, T_Ratio.nT, ratF_top _ _, _, rfl, _, rfl, _, C, dx, _, _, rfl, h1, T_Ratio.cl, T_Ratio.nB, ratF_bot _ _, ?_⟩
    exact mkQ (den_ne p) (z4 zp).2 (q_abs p) k
/-- == with a number -/
def spEqQ (C : Addr) : Sp := fun vs H Q _ => ∃ a u p q, vs = [.ref a, u] ∧ RatQ C H a p ∧ NumQ C H u q ∧ ∀ H', Same H H' → Q (.bl (decide (p = q))) H'
abbrev sEq : Stmt := inClass (top 23) 21
theorem scEq : FnScope ["self", "other"] ["self", "other"] (defScope sEq) := ⟨rfl, rfl, rfl, by decide +kernel, rfl, by decide +kernel, by decide +kernel⟩
theorem ok_eq {f p1 f1 f2 : Addr} {fd fd1 fd2 : FuncData} (F : Fun K "__eq__" "Ratio.__eq__" sEq f fd) (T_Ratio : RatT K mg C) (S_Ratio_is_number : Sta P w K mg base 2 C "is_number" p1 f1 fd1 ["value"] (spIsNum K C)) (C_parts_of : Cal P w K mg base 1 "parts_of" f2 fd2 ["number"] (spParts C)) :
    FnOk P w K mg base CX0 3 f fd ["self", "other"] (spEqQ C) := by
  refine F.ok scEq (fun vs H Q E h => ?_) (fun cdv A outer s H vs Q E hr h => ?_)
  · obtain ⟨a, u, p, q, rfl, _⟩ := h
    rfl
  · obtain ⟨a, u, p, q, rfl, hp, hq, k⟩ := h
    have nd := scEq.nd
    refine ⟨_, pss_cons (ps_if (pt_not (pt_val (Own.pe_smeth T_Ratio.rd S_Ratio_is_number.s S_Ratio_is_number.F (hr.mono (by decide)) S_Ratio_is_number.b pass0 (Own.pe_gref (by rfl) T_Ratio.mgC) (pa_cons (pv 1) pa_nil)))) (pss_one (ps_ret pe_bl)) pss_nil)
      (pss_one (ps_ret (pe_cmpR (op_eqD hr.units) (pe_call C_parts_of.F (hr.mono (by decide)) (by rfl) C_parts_of.mgf C_parts_of.kp C_parts_of.b .nil pass0 (pa_cons (pv 0) pa_nil)) (pe_call C_parts_of.F (hr.mono (by decide)) (by rfl) C_parts_of.mgf C_parts_of.kp C_parts_of.b .nil pass0 (pa_cons (pv 1) pa_nil)) (nomark _)))), ?_⟩
    obtain ⟨t, b, c, ty, hb, hc, hbc⟩ := hq.at_.info T_Ratio.toClT
    refine ⟨rfl, _, rfl, _, t, b, c, rfl, ty, hb, hc, _, rfl, iteNot hbc ?_⟩
    refine ⟨_, rfl, _, _, _, rfl, (NumQ.rat hp).at_, fun x1 hx1 => ?_⟩
    have s1 : Same H (upd H x1 (.tup [.int p.num, .int (p.den : Int)])) := same_new hx1
    refine ⟨_, rfl, _, _, _, rfl, (hq.same s1).at_, fun x2 hx2 => ?_⟩
    have s2 := same_new (o := .tup [.int q.num, .int (q.den : Int)]) hx2
    refine ⟨_, _, .tup (SqT.of (s2 _ _ upd_same)) (.cons (.int _) (.cons (.int _) .nil)), .tup (SqT.of upd_same) (.cons (.int _) (.cons (.int _) .nil)), rfl, rfl, ?_⟩
    rw [eqvT, q_eq]
    exact k _ (s1.trans s2)
/-- the whole quotient -/
def spQuo (C : Addr) : Sp := fun vs H Q _ => ∃ v u p q, vs = [v, u] ∧ NumQ C H v p ∧ NumQ C H u q ∧ (Sq 3900 p ∧ Sq 3900 q) ∧ q ≠ 0 ∧ ∀ H', Same H H' → Q (.int (p / q).floor) H'
abbrev sQuo : Stmt := top 27
theorem scQuo : FnScope ["one", "other", "top", "bottom", "other_top", "other_bottom"] ["one", "other"] (defScope sQuo) := ⟨rfl, rfl, rfl, by decide +kernel, rfl, by decide +kernel, by decide +kernel⟩
theorem ok_quo {f f2 : Addr} {fd fd2 : FuncData} (F : Fun K "_quotient" "_quotient" sQuo f fd) (C_parts_of : Cal P w K mg base 1 "parts_of" f2 fd2 ["number"] (spParts C)) :
    FnOk P w K mg base CX0 2 f fd ["one", "other"] (spQuo C) := by
  refine F.ok scQuo (fun vs H Q E h => ?_) (fun cdv A outer s H vs Q E hr h => ?_)
  · obtain ⟨v, u, p, q, rfl, _⟩ := h
    rfl
  · obtain ⟨v, u, p, q, rfl, hp, hq, ⟨zp, zq⟩, h0, k⟩ := h
    have nd := scQuo.nd
    refine ⟨_, pss_cons (ps_asg (pe_call C_parts_of.F (hr.mono (by decide)) (by rfl) C_parts_of.mgf C_parts_of.kp C_parts_of.b .nil pass0 (pa_cons (pv 0) pa_nil)) (pg_tup (by rfl) (pgs_cons (pg_name (i := 2) nd rfl (Or.inl rfl)) (pgs_cons (pg_name (i := 3) nd rfl (Or.inl rfl)) pgs_nil))))
      (pss_cons (ps_asg (pe_call C_parts_of.F (hr.mono (by decide)) (by rfl) C_parts_of.mgf C_parts_of.kp C_parts_of.b .nil pass0 (pa_cons (pv 1) pa_nil)) (pg_tup (by rfl) (pgs_cons (pg_name (i := 4) nd rfl (Or.inl rfl)) (pgs_cons (pg_name (i := 5) nd rfl (Or.inl rfl)) pgs_nil))))
      (pss_cons (ps_if (pt_cmpR op_eq (pv 4) pe_int (nomark _)) pss_never pss_nil)
      (pss_one (ps_ret (pe_op op_fdivZ (pe_op op_mulW (pv 2) (pv 5)) (pe_op op_mulW (pv 3) (pv 4))))))), ?_⟩
    refine ⟨_, rfl, _, _, _, rfl, hp.at_, fun x1 hx1 => ⟨_, _, rfl, SqT.of upd_same, rfl, _, _, rfl, _, _, rfl, rfl, ?_⟩⟩
    have s1 : Same H (upd H x1 (.tup [.int p.num, .int (p.den : Int)])) := same_new hx1
    refine ⟨_, rfl, _, _, _, rfl, (hq.same s1).at_, fun x2 hx2 => ⟨_, _, rfl, SqT.of upd_same, rfl, _, _, rfl, _, _, rfl, rfl, ?_⟩⟩
    have s2 := same_new (o := .tup [.int q.num, .int (q.den : Int)]) hx2
    refine ⟨_, rfl, rfl, _, rfl, ?_⟩
    refine ite2 (fun e => absurd e (vint_ne (num_ne h0))) (fun _ => ?_)
    have hd : (p.den : Int) * q.num ≠ 0 := dn_ne p h0
    have zd : Sz ((p.den : Int) * q.num) := Nat.lt_of_lt_of_le (mul_lt zp.dd zq.1) (Nat.pow_le_pow_right (by decide) (by decide))
    refine ⟨_, rfl, _, rfl, _, _, rfl, rfl, (z4 zp).1.mul (z4 zq).2, _, rfl, _, rfl, _, _, rfl, rfl, (z4 zp).2.mul (z4 zq).1, _, _, rfl, rfl, zd.div hd, ?_⟩
    show Q (.int ((p.num * (q.den : Int)).fdiv ((p.den : Int) * q.num))) _
    rw [q_fdiv hd, q_div]
    exact k _ (s1.trans s2)
abbrev sRAdd : Stmt := inClass (top 23) 9
theorem scRAdd : FnScope ["self", "other"] ["self", "other"] (defScope sRAdd) := ⟨rfl, rfl, rfl, by decide +kernel, rfl, by decide +kernel, by decide +kernel⟩
theorem ok_radd {f g : Addr} {fd gd : FuncData} (F : Fun K "__radd__" "Ratio.__radd__" sRAdd f fd) (B : BinF K C .Add) (O : Opr P w K mg base 4 C "__add__" g gd ["self", "other"] (spBin C GT fun p q => p + q)) :
    FnOk P w K mg base CX0 5 f fd ["self", "other"] (spBin C GT fun p q => p + q) := by
  refine F.ok scRAdd (fun vs H Q E h => ?_) (fun cdv A outer s H vs Q E hr h => ?_)
  · obtain ⟨a, u, p, q, rfl, _⟩ := h
    rfl
  · obtain ⟨a, u, p, q, rfl, hp, hq, z, g, k⟩ := h
    have nd := scRAdd.nd
    refine ⟨_, pss_one (ps_ret (pe_op (op_B B O.F (hr.mono (by decide)) O.at_ O.fn O.b pass0) (pv 0) (pv 1))), ?_⟩
    obtain ⟨dx, fs, h1⟩ := hp.ins
    exact ⟨_, rfl, _, rfl, a, dx, fs, rfl, h1, hq.ri, a, u, p, q, rfl, hp, hq, z, g, k⟩
abbrev sRMul : Stmt := inClass (top 23) 13
theorem scRMul : FnScope ["self", "other"] ["self", "other"] (defScope sRMul) := ⟨rfl, rfl, rfl, by decide +kernel, rfl, by decide +kernel, by decide +kernel⟩
theorem ok_rmul {f g : Addr} {fd gd : FuncData} (F : Fun K "__rmul__" "Ratio.__rmul__" sRMul f fd) (B : BinF K C .Mult) (O : Opr P w K mg base 4 C "__mul__" g gd ["self", "other"] (spBin C GT fun p q => p * q)) :
    FnOk P w K mg base CX0 5 f fd ["self", "other"] (spBin C GT fun p q => p * q) := by
  refine F.ok scRMul (fun vs H Q E h => ?_) (fun cdv A outer s H vs Q E hr h => ?_)
  · obtain ⟨a, u, p, q, rfl, _⟩ := h
    rfl
  · obtain ⟨a, u, p, q, rfl, hp, hq, z, g, k⟩ := h
    have nd := scRMul.nd
    refine ⟨_, pss_one (ps_ret (pe_op (op_B B O.F (hr.mono (by decide)) O.at_ O.fn O.b pass0) (pv 0) (pv 1))), ?_⟩
    obtain ⟨dx, fs, h1⟩ := hp.ins
    exact ⟨_, rfl, _, rfl, a, dx, fs, rfl, h1, hq.ri, a, u, p, q, rfl, hp, hq, z, g, k⟩
abbrev sFDiv : Stmt := inClass (top 23) 14
theorem scFDiv : FnScope ["self", "other"] ["self", "other"] (defScope sFDiv) := ⟨rfl, rfl, rfl, by decide +kernel, rfl, by decide +kernel, by decide +kernel⟩
theorem ok_fdiv {f p1 f1 f2 : Addr} {fd fd1 fd2 : FuncData} (F : Fun K "__floordiv__" "Ratio.__floordiv__" sFDiv f fd) (T_Ratio : RatT K mg C) (S_Ratio_is_number : Sta P w K mg base 2 C "is_number" p1 f1 fd1 ["value"] (spIsNum K C)) (C__quotient : Cal P w K mg base 2 "_quotient" f2 fd2 ["one", "other"] (spQuo C)) :
    FnOk P w K mg base CX0 3 f fd ["self", "other"] (spQuo C) := by
  refine F.ok scFDiv (fun vs H Q E h => ?_) (fun cdv A outer s H vs Q E hr h => ?_)
  · obtain ⟨v, u, p, q, rfl, _⟩ := h
    rfl
  · obtain ⟨v, u, p, q, rfl, hp, hq, z, h0, k⟩ := h
    have nd := scFDiv.nd
    refine ⟨_, pss_cons (ps_if (pt_not (pt_val (Own.pe_smeth T_Ratio.rd S_Ratio_is_number.s S_Ratio_is_number.F (hr.mono (by decide)) S_Ratio_is_number.b pass0 (Own.pe_gref (by rfl) T_Ratio.mgC) (pa_cons (pv 1) pa_nil)))) pss_never pss_nil)
      (pss_one (ps_ret (pe_call C__quotient.F (hr.mono (by decide)) (by rfl) C__quotient.mgf C__quotient.kp C__quotient.b .nil pass0 (pa_cons (pv 0) (pa_cons (pv 1) pa_nil))))), ?_⟩
    obtain ⟨t, b, c, ty, hb, hc, hbc⟩ := hq.at_.info T_Ratio.toClT
    refine ⟨rfl, _, rfl, _, t, b, c, rfl, ty, hb, hc, _, rfl, iteNot hbc ?_⟩
    exact ⟨_, rfl, _, rfl, v, u, p, q, rfl, hp, hq, z, h0, k⟩
/-- a number as a Ratio -/
def spOfQ (C : Addr) : Sp := fun vs H Q _ => ∃ v q, vs = [v] ∧ NumQ C H v q ∧ ∀ r H', RatQ C H' r q → Same H H' → Q (.ref r) H'
theorem gcdI_one (i : Int) : gcdI i 1 = 1 := by
  unfold gcdI
  show ((Nat.gcd i.natAbs 1 : Nat) : Int) = 1
  rw [Nat.gcd_one_right]
  rfl
theorem Sz1 : Sz 1 := by unfold Sz; decide +kernel
theorem q_int (i : Int) : divInt i 1 = (i : Rat) := by
  rw [Rat.divInt_eq_div]
  have h : ((1 : Int) : Rat) = 1 := rfl
  grind
abbrev sOf : Stmt := inClass (top 23) 3
theorem scOf : FnScope ["number"] ["number"] (defScope sOf) := ⟨rfl, rfl, rfl, by decide +kernel, rfl, by decide +kernel, by decide +kernel⟩
theorem ok_of {f f1 f2 : Addr} {fd fd1 fd2 : FuncData} {dvs : List Value} (F : Fun K "of" "Ratio.of" sOf f fd) (T : Bl mg) (T_Ratio : RatT K mg C) (C_is_int : Cal P w K mg base 1 "is_int" f1 fd1 ["value"] (spIsInt K))
    (M_Ratio : Mak P w K mg base 2 "Ratio" C f2 fd2 ["self", "top", "bottom"] (spRInit C)) (hd : Vals [V.int 1] dvs) (hb1 : Binds K fd2 ["self", "top", "bottom"] dvs) : FnOk P w K mg base CX0 4 f fd ["number"] (spOfQ C) := by
  refine F.ok scOf (fun vs H Q E h => ?_) (fun cdv A outer s H vs Q E hr h => ?_)
  · obtain ⟨v, q, rfl, _⟩ := h
    rfl
  · obtain ⟨v, q, rfl, hv, k⟩ := h
    have nd := scOf.nd
    refine ⟨_, pss_cons (ps_if (pt_val (pe_callB call_isi (by rfl) T.isinstance (by decide +kernel) (pa_cons (pv 0) (pa_cons (Own.pe_gref (by rfl) T_Ratio.mgC) pa_nil)))) (pss_one (ps_ret (pv 0))) pss_nil)
      (pss_cons (ps_if (pt_not (pt_val (pe_call C_is_int.F (hr.mono (by decide)) (by rfl) C_is_int.mgf C_is_int.kp C_is_int.b .nil pass0 (pa_cons (pv 0) pa_nil)))) pss_never pss_nil)
      (pss_one (ps_ret (pe_make M_Ratio.M M_Ratio.F (hr.mono (by decide)) (by rfl) M_Ratio.mgC hb1 hd pass0 (pa_cons (pv 0) pa_nil))))), ?_⟩
    rcases hv.cases with ⟨i, rfl, rfl⟩ | ⟨a, rfl, hR⟩
    · refine ⟨_, rfl, _, _, _, _, false, rfl, .own _, .base (.int _), T_Ratio.iK, _, rfl, iteF ?_⟩
      refine ⟨_, rfl, _, _, true, rfl, .base (.int _), isIntK_int, _, rfl, iteF ?_⟩
      exact ⟨_, rfl, mkQ (by decide) Sz1 (q_int i) fun x H' s1 hR => k x H' hR s1⟩
    · obtain ⟨dx, h⟩ := id hR
      refine ⟨_, rfl, _, _, _, _, true, rfl, .own _, T_Ratio.ty h, T_Ratio.kS, _, rfl, iteT ?_⟩
      exact ⟨_, rfl, k a H hR (Same.refl H)⟩
/-- the rest -/
def qmod (p q : Rat) : Rat := p - ((p / q).floor : Rat) * q
def spMod (C : Addr) : Sp := spBin C (fun p q => q ≠ 0 ∧ Sq 1000 p ∧ Sq 1000 q) qmod
/-- int at the left, the reflected operator -/
theorem op_R {X : Cx} {CX : CXT} {k : Nat} {f f0 : Addr} {fd : FuncData} {ps : List Str} {sp : Sp} {E : XK} {op : Operator} {id : String} {Bi : Builtin} (B : BinF X.K C op) (F : FnOk X.prog X.w X.K X.mg X.base CX k f fd ps sp) (hr : Room k X.A)
    (hs : PySem.W.findIn X.K (.ref C) (dunderR op.info.2) = some (some (.ref f))) (hf : PySem.W.isFn X.K (.ref f) = true) (hs0 : PySem.W.findIn X.K (.ref C) (PySem.dunder op.info.2) = some (some (.ref f0))) (hsub : PySem.W.subIn X.K (.ref C) (.type "int") = some false)
    (hb : Binds X.K fd ps []) (hx : Passes CX X E) (fills : fillsNumberSlot (.type "int") op.info.2 = pure true) (slot : Slot "int" (PySem.dunder op.info.2) id) (entry : entryFor table id = some Bi) (args : ∀ a b, argsOk id ⟨[a, b], []⟩)
    (dec : ∀ (b : Int) (u : Tok) (l : Addr) (C dx : Addr), Meets (Bi ⟨[.int b u, .ref l], []⟩) (fun _ R s => s.heap.get? l = some (PySem.W.instObj C dx) ∧ R (.ok (.ret .notImplemented)) s)) : OpR X (binaryOp op) (Own.rReflB C sp E) :=
  Own.op_reflB F hr hs hf hs0 B.hc hsub hb hx fills slot entry args dec
theorem floor_sz {p q : Rat} (zp : Sq 1000 p) (zq : Sq 1000 q) (h : q ≠ 0) : (p / q).floor.natAbs < 2 ^ 2001 := by
  have h1 := (zp.div zq h).1
  rw [Rat.floor_def]
  have h2 := Int.natAbs_ediv_le_natAbs (p / q).num ((p / q).den : Int)
  exact Nat.lt_of_le_of_lt h2 (Nat.lt_of_lt_of_le h1 (Nat.pow_le_pow_right (by decide) (by decide)))
abbrev sMod : Stmt := inClass (top 23) 16
theorem scMod : FnScope ["self", "other"] ["self", "other"] (defScope sMod) := ⟨rfl, rfl, rfl, by decide +kernel, rfl, by decide +kernel, by decide +kernel⟩
theorem ok_mod {f p1 f1 f2 f3 p3 f4 f5 f6 : Addr} {fd fd1 fd2 fd3 fd4 fd5 fd6 : FuncData} (F : Fun K "__mod__" "Ratio.__mod__" sMod f fd) (T_Ratio : RatT K mg C) (S_Ratio_is_number : Sta P w K mg base 2 C "is_number" p1 f1 fd1 ["value"] (spIsNum K C)) (C__quotient : Cal P w K mg base 2 "_quotient" f2 fd2 ["one", "other"] (spQuo C))
    (S_Ratio_of : Sta P w K mg base 4 C "of" p3 f3 fd3 ["number"] (spOfQ C)) (BM : BinF K C .Mult) (BS : BinF K C .Sub) (O_mul : Opr P w K mg base 4 C "__mul__" f4 fd4 ["self", "other"] (spBin C GT fun p q => p * q)) (O_rmul : Opr P w K mg base 5 C "__rmul__" f5 fd5 ["self", "other"] (spBin C GT fun p q => p * q))
    (O_sub : Opr P w K mg base 4 C "__sub__" f6 fd6 ["self", "other"] (spBin C GT fun p q => p - q)) :
    FnOk P w K mg base CX0 6 f fd ["self", "other"] (spMod C) := by
  refine F.ok scMod (fun vs H Q E h => ?_) (fun cdv A outer s H vs Q E hr h => ?_)
  · obtain ⟨v, u, p, q, rfl, _⟩ := h
    rfl
  · obtain ⟨v, u, p, q, rfl, hp, hq, z, ⟨h0, yp, yq⟩, k⟩ := h
    have nd := scMod.nd
    refine ⟨_, pss_cons (ps_if (pt_not (pt_val (Own.pe_smeth T_Ratio.rd S_Ratio_is_number.s S_Ratio_is_number.F (hr.mono (by decide)) S_Ratio_is_number.b pass0 (Own.pe_gref (by rfl) T_Ratio.mgC) (pa_cons (pv 1) pa_nil)))) pss_never pss_nil)
      (pss_one (ps_ret (pe_op (op_B BS O_sub.F (hr.mono (by decide)) O_sub.at_ O_sub.fn O_sub.b pass0) (pv 0) (pe_op (op_R BM O_rmul.F (hr.mono (by decide)) O_rmul.at_ O_rmul.fn O_mul.at_ T_Ratio.sI O_rmul.b pass0 PySem.F.fills_int_mul PySem.F.slot_int_mul PySem.F.entry_int_mul PySem.F.args_int_mul_2 Own.int_mul_dec) (pe_call C__quotient.F (hr.mono (by decide)) (by rfl) C__quotient.mgf C__quotient.kp C__quotient.b .nil pass0 (pa_cons (pv 0) (pa_cons (pv 1) pa_nil))) (Own.pe_smeth T_Ratio.rd S_Ratio_of.s S_Ratio_of.F (hr.mono (by decide)) S_Ratio_of.b pass0 (Own.pe_gref (by rfl) T_Ratio.mgC) (pa_cons (pv 1) pa_nil)))))), ?_⟩
    obtain ⟨t, b, c, ty, hb, hc, hbc⟩ := hq.at_.info T_Ratio.toClT
    refine ⟨rfl, _, rfl, _, t, b, c, rfl, ty, hb, hc, _, rfl, iteNot hbc ?_⟩
    refine ⟨_, rfl, _, rfl, _, rfl, _, _, p, q, rfl, .rat hp, hq, z, h0, fun H1 s1 => ?_⟩
    refine ⟨rfl, _, rfl, _, q, rfl, hq.same s1, fun r H2 hr2 s2 => ?_⟩
    obtain ⟨dx, fs, h1⟩ := hr2.ins
    have zf : Sq 2001 ((p / q).floor : Rat) := Sq.int (floor_sz yp yq h0) (by decide)
    refine ⟨_, r, dx, fs, rfl, rfl, h1, r, _, q, _, rfl, hr2, .int _, ⟨z.2, zf.mono (by decide)⟩, True.intro, fun x H3 s3 hx => ?_⟩
    have hp3 := hp.same (s1.trans (s2.trans s3))
    obtain ⟨dv, gs, hv1⟩ := hp3.ins
    obtain ⟨dx2, fs2, hx2⟩ := hx.ins
    refine ⟨v, dv, gs, rfl, hv1, .inr ⟨x, dx2, fs2, rfl, hx2⟩, v, _, p, _, rfl, hp3, .rat hx, ⟨z.1, (yq.mul zf).mono (by decide)⟩, True.intro, fun y H4 s4 hy => ?_⟩
    refine k y H4 (s1.trans (s2.trans (s3.trans s4))) ?_
    unfold qmod
    rw [Rat.mul_comm _ q]
    exact hy
end
end Toy
set_option maxRecDepth 100000
set_option maxHeartbeats 4000000
set_option exponentiation.threshold 3000
namespace Toy
open PySem L2
open Rat (divInt)
/-! ### comparisons, read in rationals -/
theorem q_self {q : Rat} (h : (q.den : Int) = 1) : q = (q.num : Rat) := by
  apply Rat.ext
  · rw [Rat.num_intCast]
  · rw [Rat.den_intCast]
    omega
section
variable {P : Program} {w : World} {K : PySem.W.Frag} {mg : Str → Option Value} {base : Heap} {C : Addr} {H : Hp} {a : Addr} {u : V} {p q : Rat} {Q : VK} {E : XK} {g g1 g2 : Int → Bool} {r : Bool}
theorem cmpL (T : RatT K mg C) (hp : RatQ C H a p) (hq : NumQ C H u q) (zp : Sq 3900 p) (zq : Sq 3900 q) (e : g (p.num * q.den - q.num * p.den) = r) (k : ∀ H', Same H H' → Q (.bl r) H') : Own.rOwnC K C (spCmp C g) E (.ref a) u H Q := by
  obtain ⟨dx, h⟩ := id hp
  have ty : ∃ t, TyX K H u t ∧ PySem.W.notFirst K C t = true := by
    rcases hq.cases with ⟨i, rfl, _⟩ | ⟨b, rfl, hb⟩
    · exact ⟨_, .base (.int _), T.nI⟩
    · obtain ⟨dy, h2⟩ := hb
      exact ⟨_, T.ty h2, T.nC⟩
  obtain ⟨t, t1, t2⟩ := ty
  exact ⟨a, dx, _, t, rfl, h, t1, t2, _, _, _, _, _, _, rfl, (NumQ.rat hp).at_, hq.at_, ⟨(z4 zp).1, (z4 zp).2, (z4 zq).1, (z4 zq).2⟩, fun H' s => ⟨⟨_, rfl⟩, by rw [e]; exact k H' s⟩⟩
theorem cmpB (T : RatT K mg C) (hp : RatQ C H a p) (hq : NumQ C H u q) (zp : Sq 3900 p) (zq : Sq 3900 q) (e1 : g1 (q.num * p.den - p.num * q.den) = r) (e2 : g2 (p.num * q.den - q.num * p.den) = r) (k : ∀ H', Same H H' → Q (.bl r) H') :
    Own.rOwnC K C (spCmp C g1) E u (.ref a) H Q ∨ Own.rReflC C (spCmp C g2) E u (.ref a) H Q := by
  rcases hq.cases with ⟨i, rfl, rfl⟩ | ⟨b, rfl, hb⟩
  · obtain ⟨dx, h⟩ := id hp
    exact .inr ⟨i, a, dx, _, rfl, rfl, h, _, _, _, _, _, _, rfl, (NumQ.rat hp).at_, hq.at_, ⟨(z4 zp).1, (z4 zp).2, (z4 zq).1, (z4 zq).2⟩, fun H' s => ⟨⟨_, rfl⟩, by rw [e2]; exact k H' s⟩⟩
  · exact .inl (cmpL T hb (.rat hp) zq zp e1 k)
theorem eqLq {g : Bool → Bool} (hp : RatQ C H a p) (hq : NumQ C H u q) (k : ∀ H', Same H H' → Q (.bl (g (decide (p = q)))) H') : Own.rEqL C (spEqQ C) E g (.ref a) u H Q := by
  obtain ⟨dx, h⟩ := id hp
  exact ⟨a, dx, _, rfl, h, hq.ri, a, u, p, q, rfl, hp, hq, fun H' s => ⟨_, rfl, k H' s⟩⟩
theorem eqBq {g : Bool → Bool} (hp : RatQ C H a p) (hq : NumQ C H u q) (k : ∀ H', Same H H' → Q (.bl (g (decide (p = q)))) H') : Own.rEqL C (spEqQ C) E g u (.ref a) H Q ∨ Own.rEqR C (spEqQ C) E g u (.ref a) H Q := by
  rcases hq.cases with ⟨i, rfl, rfl⟩ | ⟨b, rfl, hb⟩
  · obtain ⟨dx, h⟩ := id hp
    exact .inr ⟨i, a, dx, _, rfl, rfl, h, a, _, p, _, rfl, hp, hq, fun H' s => ⟨_, rfl, k H' s⟩⟩
  · refine .inl (eqLq hb (.rat hp) fun H' s => ?_)
    rw [show decide (q = p) = decide (p = q) from decide_eq_decide.mpr eq_comm]
    exact k H' s
theorem mk_same {H1 H' : Hp} {x dx C : Addr} (hx : H1 x = none) (hdx : H1 dx = none) (hk : ∀ c o, (upd (upd H1 dx (.own x)) x (.ins C dx [])) c = some o → c ≠ x → H' c = some o) : Same H1 H' := fun c o e =>
  hk c o (by rw [upd_ne (ne_of_none e hx), upd_ne (ne_of_none e hdx)]; exact e) (ne_of_none e hx)
theorem asQ {x : Addr} {t b : Int} (hb : b ≠ 0) (e : divInt t b = q) (h : RatAt C H x (lowT t b) (lowB t b)) : RatQ C H x q := by
  rw [low_num hb, low_den hb, e] at h
  exact h
theorem dec_sub1 (x y : Int) : decide (x - y < 0) = decide (x < y) := decide_eq_decide.mpr (by omega)
theorem dec_sub2 (x y : Int) : decide (x - y ≤ 0) = decide (x ≤ y) := decide_eq_decide.mpr (by omega)
theorem dec_sub3 (x y : Int) : decide (0 < x - y) = decide (y < x) := decide_eq_decide.mpr (by omega)
theorem dec_sub4 (x y : Int) : decide (0 ≤ x - y) = decide (y ≤ x) := decide_eq_decide.mpr (by omega)
end
end Toy
set_option maxRecDepth 100000
set_option maxHeartbeats 4000000
set_option exponentiation.threshold 3000
namespace Toy
open PySem L2
open Rat (divInt)
theorem vdec (a b : Int) : decide (V.int a = V.int b) = decide (a = b) := by
  by_cases h : a = b
  · rw [decide_eq_true h, decide_eq_true (congrArg V.int h)]
  · rw [decide_eq_false h, decide_eq_false fun e => h (V.int.inj e)]
theorem iteTb {b : Bool} {A B : Prop} (h : b = true) (x : A) : if b = true then A else B := by
  subst h
  exact iteT x
theorem iteFb {b : Bool} {A B : Prop} (h : b = false) (x : B) : if b = true then A else B := by
  subst h
  exact iteF x
theorem cm {i j : Int} (h : i.natAbs ≤ 1000000000) : CMul i j := .inl ⟨by omega, by omega⟩
theorem cmr {i j : Int} (h : j.natAbs ≤ 1000000000) : CMul i j := .inr ⟨by omega, by omega⟩
theorem Sz.divW {i j : Int} (h0 : 0 < j) (z : Sz j) : CDivW i j := wide_div h0 z (by decide) (by decide)
theorem gcd_step {x y : Int} (hx : 0 ≤ x) (hy : 0 < y) : gcdI y (x % y) = gcdI x y := by
  obtain ⟨n, rfl⟩ := Int.eq_ofNat_of_zero_le hx
  obtain ⟨m, rfl⟩ := Int.eq_ofNat_of_zero_le (show 0 ≤ y by omega)
  unfold gcdI
  have e : ((n : Int) % (m : Int)) = ((n % m : Nat) : Int) := rfl
  rw [e, Int.natAbs_natCast, Int.natAbs_natCast, Int.natAbs_natCast, Nat.gcd_comm n m, Nat.gcd_rec m n, Nat.gcd_comm m]
theorem gcd_zero {x : Int} (hx : 0 ≤ x) : gcdI x 0 = x := by
  unfold gcdI
  show ((Nat.gcd x.natAbs 0 : Nat) : Int) = x
  rw [Nat.gcd_zero_right]
  omega
section
variable {P : Program} {w : World} {K : PySem.W.Frag} {mg : Str → Option Value} {base : Heap} {C : Addr}
def spPen (K : PySem.W.Frag) : Sp := fun vs H Q _ => ∃ (a : Addr) (ns : List Int), vs = [.ref a] ∧ SqL K H a (ns.map V.int) ∧ ns.length ≤ 63 ∧ ∀ p c H', Same H H' → H p = none → Pen H' p c 0 → Q (.ref p) H'
abbrev sPen : Stmt := top 85
theorem scPe : FnScope ["_law_script"] ["_law_script"] (defScope sPen) := ⟨rfl, rfl, rfl, by decide +kernel, rfl, by decide +kernel, by decide +kernel⟩
theorem cutV_ints (ns : List Int) (lo hi : Option Int) : ∃ ms : List Int, cutV (ns.map V.int) lo hi = ms.map V.int ∧ ms.length ≤ ns.length := by
  refine ⟨(ns.drop (HT.sIx (ns.map V.int).length 0 lo)).take (HT.sIx (ns.map V.int).length (ns.map V.int).length hi - HT.sIx (ns.map V.int).length 0 lo), ?_, ?_⟩
  · unfold cutV
    rw [← List.map_drop, ← List.map_take]
  · rw [List.length_take, List.length_drop]
    omega
theorem ok_pen {f : Addr} {fd : FuncData} (F : Fun K "_law_pen" "_law_pen" sPen f fd) (T : Bl mg) : FnOk P w K mg base CX0 1 f fd ["_law_script"] (spPen K) := by
  refine F.ok scPe (fun vs H Q E h => ?_) (fun cdv A outer s H vs Q E hr h => ?_)
  · obtain ⟨a, ns, rfl, _⟩ := h
    rfl
  · obtain ⟨a, ns, rfl, hS, hl, q⟩ := h
    have nd := scPe.nd
    refine ⟨_, pss_one (ps_ret (pe_lst (pa_cons (pe_callTy call_list_of (by rfl) T.list (by decide +kernel) (pa_cons (pe_slice sl_list (pv 0) po_none (po_some pe_int)) pa_nil)) (pa_cons pe_int (pa_cons pe_int pa_nil))))), ?_⟩
    obtain ⟨ms, e, hm⟩ := cutV_ints ns none (some 63)
    refine ⟨_, rfl, _, rfl, a, _, rfl, hS, fun c1 h1 => ⟨c1, _, rfl, .inl (SqL.of upd_same), fun c2 h2 => ⟨(by decide : 3 ≤ sizeLine), fun p hp => ?_⟩⟩⟩
    have s1 : Same H (upd H c1 (.lst (cutV (ns.map V.int) none (some 63)))) := same_new h1
    have s2 := s1.trans (same_new (o := .lst (cutV (ns.map V.int) none (some 63))) h2)
    have s3 := s2.trans (same_new (o := .lst [.ref c2, .int 0, .int 0]) hp)
    refine q p c2 _ s3 (s2.free hp) ⟨ms, 0, 0, ⟨upd_same, ?_, by omega, by decide⟩, by decide⟩
    have n2 : c2 ≠ p := by
      intro e2
      rw [← e2, upd_same] at hp
      cases hp
    rw [upd_ne n2, upd_same, e]
def spPick : Sp := fun vs H Q _ => ∃ p c s xs k, vs = [.ref p, .ref s] ∧ Pen H p c k ∧ k ≤ 1000000 ∧ H s = some (.lst xs) ∧ s ≠ p ∧ 0 < xs.length ∧ xs.length ≤ 1000 ∧ ∀ v H', v ∈ xs → Pen H' p c (k + 1) → But p H H' → Q v H'
abbrev sPick : Stmt := top 87
theorem scPk : FnScope ["_law_pen_here", "_law_some"] ["_law_pen_here", "_law_some"] (defScope sPick) := ⟨rfl, rfl, rfl, by decide +kernel, rfl, by decide +kernel, by decide +kernel⟩
theorem small_i {z : Int} (h : z.natAbs ≤ 1000000000) : z.natAbs < 2 ^ 2000 := Nat.lt_of_le_of_lt h (by decide +kernel)
theorem small_len {n : Nat} (h : n ≤ 1000000000) : (n : Int).natAbs < 2 ^ 2000 := Nat.lt_of_le_of_lt (show (n : Int).natAbs ≤ 1000000000 by omega) (by decide +kernel)
theorem ok_pick {f f1 : Addr} {fd fd1 : FuncData} (F : Fun K "_law_pick" "_law_pick" sPick f fd) (T : Bl mg) (C__law_draw : Cal P w K mg base 1 "_law_draw" f1 fd1 ["_law_pen_here", "_law_many"] spDraw) : FnOk P w K mg base CX0 2 f fd ["_law_pen_here", "_law_some"] spPick := by
  refine F.ok scPk (fun vs H Q E h => ?_) (fun cdv A outer s H vs Q E hr h => ?_)
  · obtain ⟨p, c, l, xs, k, rfl, _⟩ := h
    rfl
  · obtain ⟨p, c, l, xs, k, rfl, hP, hk, hl, hne, h0, h1, q⟩ := h
    have nd := scPk.nd
    refine ⟨_, pss_one (ps_ret (pe_ix ix_list (pv 1) (pe_call C__law_draw.F (hr.mono (by decide)) (by rfl) C__law_draw.mgf C__law_draw.kp C__law_draw.b .nil pass0 (pa_cons (pv 0) (pa_cons (pe_callB call_len (by rfl) T.len (by decide +kernel) (pa_cons (pv 1) pa_nil)) pa_nil))) (fun _ _ => rfl))), ?_⟩
    refine ⟨_, rfl, _, rfl, _, rfl, _, _, rfl, .inl ⟨_, SqL.of hl, rfl⟩, p, c, _, k, rfl, hP, hk, by omega, small_len (by omega), fun r H' r0 r1 hP' hB => ?_⟩
    exact ⟨l, xs, r, _, rfl, rfl, SqL.of (hB _ _ hl hne), atI_in r0 r1, q _ H' (List.getElem_mem _) hP' hB⟩

theorem Pen.ne_none {H : Hp} {p c a : Addr} {k : Nat} (h : Pen H p c k) (e : H a = none) : a ≠ p := by
  obtain ⟨_, _, _, W, _⟩ := h
  exact (ne_of_none W.hp e).symm
theorem Pen.ne_cell {H : Hp} {p c a : Addr} {k : Nat} (h : Pen H p c k) (e : H a = none) : a ≠ c := by
  obtain ⟨_, _, _, W, _⟩ := h
  exact (ne_of_none W.hc e).symm
theorem Pen.put {H : Hp} {p c a : Addr} {o : HO} {k : Nat} (h : Pen H p c k) (h1 : a ≠ p) (h2 : a ≠ c) : Pen (upd H a o) p c k := by
  obtain ⟨ns, b, l, W, hk⟩ := h
  exact ⟨ns, b, l, ⟨by rw [upd_ne h1.symm]; exact W.hp, by rw [upd_ne h2.symm]; exact W.hc, W.ln, W.b0⟩, hk⟩
theorem small_t {m : Int} (h0 : 0 < m) (h : m ≤ 10 ^ 38) : m.natAbs < 2 ^ 2000 := Nat.lt_of_le_of_lt (show m.natAbs ≤ 10 ^ 38 by omega) (by decide +kernel)
/-- a drawn integer -/
def spInteger : Sp := fun vs H Q _ => ∃ p c k, vs = [.ref p] ∧ Pen H p c k ∧ k ≤ 900000 ∧ ∀ z H', z.natAbs < 10 ^ 38 → Pen H' p c (k + 3) → But p H H' → Q (.int z) H'
/-- a drawn pair, the second not 0 -/
def spPair : Sp := fun vs H Q _ => ∃ p c k, vs = [.ref p] ∧ Pen H p c k ∧ k ≤ 800000 ∧ ∀ t b x H', t.natAbs < 10 ^ 38 → b.natAbs < 10 ^ 38 → b ≠ 0 → Pen H' p c (k + 6) → But p H H' → H' x = some (.tup [.int t, .int b]) → Q (.ref x) H'
/-- lowest terms -/
def spLowest : Sp := fun vs H Q _ => ∃ t b, vs = [.int t, .int b] ∧ b ≠ 0 ∧ Sz t ∧ Sz b ∧ ∀ c, H c = none → Q (.ref c) (upd H c (.tup [.int (divInt t b).num, .int ((divInt t b).den : Int)]))
theorem low_pos {t b : Int} (h : 0 < b) : (1 * t) / gcdI t b = (divInt t b).num ∧ (1 * b) / gcdI t b = ((divInt t b).den : Int) := by
  have hg := gcdI_pos (t := t) (b := b) (by omega)
  rw [← low_num (by omega), ← low_den (by omega), Int.one_mul, Int.one_mul]
  unfold lowT lowB lowD
  rw [if_pos h, Int.fdiv_eq_ediv_of_nonneg _ (by omega), Int.fdiv_eq_ediv_of_nonneg _ (by omega)]
  exact ⟨rfl, rfl⟩
theorem low_neg {t b : Int} (h : b < 0) : (-1 * t) / gcdI t b = (divInt t b).num ∧ (-1 * b) / gcdI t b = ((divInt t b).den : Int) := by
  have hg := gcdI_pos (t := t) (b := b) (by omega)
  rw [← low_num (by omega), ← low_den (by omega)]
  unfold lowT lowB lowD
  rw [if_neg (by omega), ← Int.fdiv_eq_ediv_of_nonneg _ (by omega), ← Int.fdiv_eq_ediv_of_nonneg _ (by omega), ← Int.neg_fdiv_neg t, ← Int.neg_fdiv_neg b, Int.neg_neg, Int.neg_one_mul, Int.neg_one_mul]
  exact ⟨rfl, rfl⟩
end
end Toy
set_option maxRecDepth 100000
set_option maxHeartbeats 4000000
set_option exponentiation.threshold 9000
namespace Toy
open PySem L2
open Rat (divInt)
/-! ### tones and terms -/
structure TonT (K : PySem.W.Frag) (mg : Str → Option Value) (C : Addr) : Prop extends ClT K mg C "Tone" where
  nO : NoAttr K C "octaves"
  nF : NoAttr K C "fifths"
def tonF (o k : Int) : List (Str × V) := putF "fifths" (.int k) (putF "octaves" (.int o) [])
theorem of_ne : ¬ (("octaves" : Str) = "fifths") := by decide +kernel
theorem tonF_oct (o k : Int) : (tonF o k).lookup ("octaves" : Str) = some (.int o) := by
  unfold tonF
  rw [lookup_putF, if_neg of_ne, lookup_putF, if_pos rfl]
theorem tonF_fif (o k : Int) : (tonF o k).lookup ("fifths" : Str) = some (.int k) := by
  unfold tonF
  rw [lookup_putF, if_pos rfl]
def TonAt (C : Addr) (H : Hp) (a : Addr) (o k : Int) : Prop := ∃ dx, H a = some (.ins C dx (tonF o k))
theorem TonAt.same {C : Addr} {H H' : Hp} {a : Addr} {o k : Int} (h : TonAt C H a o k) (e : Same H H') : TonAt C H' a o k := let ⟨dx, h⟩ := h; ⟨dx, e _ _ h⟩
def terF (b : Int) : List (Str × V) := putF "number" (.int b) []
theorem terF_num (b : Int) : (terF b).lookup ("number" : Str) = some (.int b) := by
  unfold terF
  rw [lookup_putF, if_pos rfl]
/-- where the parts of the class of terms stand: Term, Moving, Note, the property and its getter, the methods -/
structure TAd where
  tm : Addr
  cm : Addr
  cn : Addr
  pm : Bool → Addr
  im : Bool → Addr
  nt : Bool → Addr
  po : Bool → Addr
  mo : Bool → Addr
  mi : Bool → Addr
  eq : Addr
/-- the class of a term -/
abbrev tcl (A : TAd) (m : Bool) : Addr := if m then A.cm else A.cn
/-- of the terms of one class alone -/
def OnM (A : TAd) (m : Bool) (sp : Sp) : Sp := fun vs H Q E => (∃ a dx fs, vs.head? = some (.ref a) ∧ H a = some (.ins (tcl A m) dx fs)) ∧ sp vs H Q E
/-- a class of terms: Moving (m) or Note -/
structure TerC (K : PySem.W.Frag) (A : TAd) (C : Addr) (m : Bool) : Prop where
  cl : Cls K C
  nN : NoAttr K C "number"
  ty : ∀ {H : Hp} {a dx : Addr} {fs : List (Str × V)}, H a = some (.ins C dx fs) → TyX K H (.ref a) (.ref C)
  kM : PySem.W.kitOne K (.ref C) (.ref A.cm) = some m
  kT : PySem.W.kitOne K (.ref C) (.ref A.tm) = some true
  pm : PropOf K C "is_moving" (A.pm m) (A.im m)
  mn : Meth K C "note" (A.nt m)
  mp : Meth K C "position" (A.po m)
  mv : Meth K C "moved" (A.mo m)
  mi : Meth K C "mirrored" (A.mi m)
  eq : PySem.W.findIn K (.ref C) "__eq__" = some (some (.ref A.eq))
  ne : PySem.W.findIn K (.ref C) "__ne__" = some (some (.builtin "object.__ne__"))
  sO : PySem.W.subIn K (.ref C) (.type "object") = some true
  nI : PySem.W.notFirst K C (.type "int") = true
  nM : PySem.W.notFirst K C (.ref A.cm) = true
  nC : PySem.W.notFirst K C (.ref A.cn) = true
  cls : C = if m then A.cm else A.cn
def TerAt (C : Addr) (H : Hp) (a : Addr) (b : Int) : Prop := ∃ dx, H a = some (.ins C dx (terF b))
theorem TerAt.same {C : Addr} {H H' : Hp} {a : Addr} {b : Int} (h : TerAt C H a b) (e : Same H H') : TerAt C H' a b := let ⟨dx, h⟩ := h; ⟨dx, e _ _ h⟩
section
variable {P : Program} {w : World} {K : PySem.W.Frag} {mg : Str → Option Value} {base : Heap} {C CT : Addr} {A : TAd}
def spFromTo : Sp := fun vs H Q _ => ∃ v lo hi : Int, vs = [.int v, .int lo, .int hi] ∧ Q (.bl (decide (lo ≤ v) && decide (v ≤ hi))) H
abbrev sFromTo : Stmt := top 21
theorem scFT : FnScope ["value", "low", "high"] ["value", "low", "high"] (defScope sFromTo) := ⟨rfl, rfl, rfl, by decide +kernel, rfl, by decide +kernel, by decide +kernel⟩
theorem ok_fromto {f f1 : Addr} {fd fd1 : FuncData} (F : Fun K "is_from_to" "is_from_to" sFromTo f fd) (C_is_int : Cal P w K mg base 1 "is_int" f1 fd1 ["value"] (spIsInt K)) : FnOk P w K mg base CX0 2 f fd ["value", "low", "high"] spFromTo := by
  refine F.ok scFT (fun vs H Q E h => ?_) (fun cdv A outer s H vs Q E hr h => ?_)
  · obtain ⟨v, lo, hi, rfl, _⟩ := h
    rfl
  · obtain ⟨v, lo, hi, rfl, q⟩ := h
    have nd := scFT.nd
    refine ⟨_, pss_one (ps_ret (pe_and (pe_call C_is_int.F (hr.mono (by decide)) (by rfl) C_is_int.mgf C_is_int.kp C_is_int.b .nil pass0 (pa_cons (pv 0) pa_nil)) (pe_one (pe_chain op_le op_le (pv 1) (pv 0) (pv 2))))), ?_⟩
    refine ⟨_, rfl, _, _, true, rfl, .base (.int _), isIntK_int, _, rfl, iteT ?_⟩
    refine ⟨_, rfl, _, rfl, _, _, rfl, rfl, _, rfl, ?_⟩
    by_cases h1 : lo ≤ v
    · refine iteTb (decide_eq_true h1) ?_
      rw [decide_eq_true h1, Bool.true_and] at q
      exact ⟨_, rfl, _, _, rfl, rfl, q⟩
    · refine iteFb (decide_eq_false h1) ?_
      rw [decide_eq_false h1, Bool.false_and] at q
      exact q
def spIsFifth (C : Addr) : Sp := fun vs H Q _ => ∃ a q, vs = [.ref a] ∧ RatQ C H a q ∧ Q (.bl (decide (0 < q.num) && decide (q.num < (q.den : Int)))) H
abbrev sIsFifth : Stmt := inClass (top 23) 2
theorem scIF : FnScope ["value"] ["value"] (defScope sIsFifth) := ⟨rfl, rfl, rfl, by decide +kernel, rfl, by decide +kernel, by decide +kernel⟩
theorem ok_isfifth {f : Addr} {fd : FuncData} (F : Fun K "is_fifth" "Ratio.is_fifth" sIsFifth f fd) (T : Bl mg) (T_Ratio : RatT K mg C) : FnOk P w K mg base CX0 1 f fd ["value"] (spIsFifth C) := by
  refine F.ok scIF (fun vs H Q E h => ?_) (fun cdv A outer s H vs Q E hr h => ?_)
  · obtain ⟨a, q, rfl, _⟩ := h
    rfl
  · obtain ⟨a, q, rfl, ⟨dx, h⟩, k⟩ := h
    have nd := scIF.nd
    refine ⟨_, pss_one (ps_ret (pe_and (pe_callB call_isi (by rfl) T.isinstance (by decide +kernel) (pa_cons (pv 0) (pa_cons (Own.pe_gref (by rfl) T_Ratio.mgC) pa_nil))) (pe_one (pe_chain op_lt op_lt pe_int (pe_fld (pv 0) rfl) (pe_fld (pv 0) rfl))))), ?_⟩
    refine ⟨_, rfl, _, _, _, _, true, rfl, .own _, T_Ratio.ty h, T_Ratio.kS, _, rfl, iteT ?_⟩
    refine ⟨_, rfl, _, C, dx, _, _, rfl, h, T_Ratio.cl, T_Ratio.nT, ratF_top _ _, _, _, rfl, rfl, _, rfl, ?_⟩
    by_cases h1 : 0 < q.num
    · refine iteTb (decide_eq_true h1) ?_
      rw [decide_eq_true h1, Bool.true_and] at k
      exact ⟨_, rfl, _, C, dx, _, _, rfl, h, T_Ratio.cl, T_Ratio.nB, ratF_bot _ _, _, _, rfl, rfl, k⟩
    · refine iteFb (decide_eq_false h1) ?_
      rw [decide_eq_false h1, Bool.false_and] at k
      exact k
def spTonI (C : Addr) : Sp := fun vs H Q _ => ∃ x dx o k, vs = [.ref x, .int o, .int k] ∧ H x = some (.ins C dx []) ∧ ∀ H', TonAt C H' x o k → (∀ c o, H c = some o → c ≠ x → H' c = some o) → Q .non H'
abbrev sTonI : Stmt := inClass (top 74) 0
theorem scTI : FnScope ["self", "octaves", "fifths"] ["self", "octaves", "fifths"] (defScope sTonI) := ⟨rfl, rfl, rfl, by decide +kernel, rfl, by decide +kernel, by decide +kernel⟩
theorem ok_toni {f f1 : Addr} {fd fd1 : FuncData} (F : FunD K "__init__" "Tone.__init__" (defArgs sTonI) (defBody sTonI) (defScope sTonI) [.int 0] [] f fd) (T_Tone : TonT K mg CT) (C_is_int : Cal P w K mg base 1 "is_int" f1 fd1 ["value"] (spIsInt K)) : FnOk P w K mg base CX0 2 f fd ["self", "octaves", "fifths"] (spTonI CT) := by
  refine F.ok scTI (fun vs H Q E h => ?_) (fun cdv A outer s H vs Q E hr h => ?_)
  · obtain ⟨x, dx, o, k, rfl, _⟩ := h
    rfl
  · obtain ⟨x, dx, o, k, rfl, hx, q⟩ := h
    have nd := scTI.nd
    refine ⟨_, pss_cons (ps_if (pt_not (pt_val (pe_call C_is_int.F (hr.mono (by decide)) (by rfl) C_is_int.mgf C_is_int.kp C_is_int.b .nil pass0 (pa_cons (pv 1) pa_nil)))) pss_never pss_nil)
      (pss_cons (ps_if (pt_not (pt_val (pe_call C_is_int.F (hr.mono (by decide)) (by rfl) C_is_int.mgf C_is_int.kp C_is_int.b .nil pass0 (pa_cons (pv 2) pa_nil)))) pss_never pss_nil)
      (pss_cons (ps_fld (pv 0) (pv 1) rfl)
      (pss_one (ps_fld (pv 0) (pv 2) rfl)))), ?_⟩
    refine ⟨_, rfl, _, _, true, rfl, .base (.int _), isIntK_int, _, rfl, iteF ?_⟩
    refine ⟨_, rfl, _, _, true, rfl, .base (.int _), isIntK_int, _, rfl, iteF ?_⟩
    refine ⟨_, rfl, _, rfl, x, CT, dx, _, rfl, hx, T_Tone.cl, T_Tone.nO, (by decide : 0 < 1000), ?_⟩
    refine ⟨_, rfl, _, rfl, x, CT, dx, _, rfl, upd_same, T_Tone.cl, T_Tone.nF, (by decide : 1 < 1000), ?_⟩
    exact q _ ⟨dx, upd_same⟩ fun c o h n => by rw [upd_ne n, upd_ne n]; exact h
/-- == with another Tone -/
def spTonEq (CT : Addr) : Sp := fun vs H Q _ => ∃ a b o k o' k', vs = [.ref a, .ref b] ∧ TonAt CT H a o k ∧ TonAt CT H b o' k' ∧ Q (.bl (decide (o = o') && decide (k = k'))) H
abbrev sTonE : Stmt := inClass (top 74) 10
theorem scTE : FnScope ["self", "other"] ["self", "other"] (defScope sTonE) := ⟨rfl, rfl, rfl, by decide +kernel, rfl, by decide +kernel, by decide +kernel⟩
theorem ok_toneq {f : Addr} {fd : FuncData} (F : Fun K "__eq__" "Tone.__eq__" sTonE f fd) (T : Bl mg) (T_Tone : TonT K mg CT) : FnOk P w K mg base CX0 1 f fd ["self", "other"] (spTonEq CT) := by
  refine F.ok scTE (fun vs H Q E h => ?_) (fun cdv A outer s H vs Q E hr h => ?_)
  · obtain ⟨a, b, o, k, o', k', rfl, _⟩ := h
    rfl
  · obtain ⟨a, b, o, k, o', k', rfl, ⟨dx, h1⟩, ⟨dy, h2⟩, q⟩ := h
    have nd := scTE.nd
    refine ⟨_, pss_cons (ps_if (pt_not (pt_val (pe_callB call_isi (by rfl) T.isinstance (by decide +kernel) (pa_cons (pv 1) (pa_cons (Own.pe_gref (by rfl) T_Tone.mgC) pa_nil))))) (pss_one (ps_ret pe_bl)) pss_nil)
      (pss_one (ps_ret (pe_and (pe_cmpR op_eq (pe_fld (pv 0) rfl) (pe_fld (pv 1) rfl) (nomark _)) (pe_one (pe_cmpR op_eq (pe_fld (pv 0) rfl) (pe_fld (pv 1) rfl) (nomark _)))))), ?_⟩
    refine ⟨_, rfl, _, _, _, _, true, rfl, .own _, T_Tone.ty h2, T_Tone.kS, _, rfl, iteF ?_⟩
    refine ⟨_, rfl, _, CT, dx, _, _, rfl, h1, T_Tone.cl, T_Tone.nO, tonF_oct _ _, _, rfl, _, CT, dy, _, _, rfl, h2, T_Tone.cl, T_Tone.nO, tonF_oct _ _, rfl, _, rfl, ?_⟩
    by_cases e : o = o'
    · refine iteTb (by rw [vdec]; exact decide_eq_true e) ?_
      refine ⟨_, rfl, _, CT, dx, _, _, rfl, h1, T_Tone.cl, T_Tone.nF, tonF_fif _ _, _, rfl, _, CT, dy, _, _, rfl, h2, T_Tone.cl, T_Tone.nF, tonF_fif _ _, rfl, ?_⟩
      rw [vdec]
      rw [decide_eq_true e, Bool.true_and] at q
      exact q
    · refine iteFb (by rw [vdec]; exact decide_eq_false e) ?_
      rw [decide_eq_false e, Bool.false_and] at q
      exact q
end
end Toy
set_option maxRecDepth 100000
set_option maxHeartbeats 4000000
/-! x(*y, e, ..): a starred argument first, others behind it. -/
namespace Own
open PySem PySem.Spec PyProof.Rows L2 StX
theorem args_sf {M : Model} {A : Around} {E : Value → Shared → Prop} {s : Shared} {f : Value} {x : Sem Value} {y : Bool × Sem Value} {rest : List (Bool × Sem Value)} {Q : Args → Shared → Prop}
    (h : wpAny M A (spliced ((true, x) :: y :: rest)) (fun vs s' => Q ⟨vs, []⟩ s') E s) : wpAny M A (evalArgs f true ((true, x) :: y :: rest) []) Q E s := by
  unfold evalArgs
  show wpAny M A (spliced ((true, x) :: y :: rest) >>= _) Q E s
  refine wpAny_bind (wpAny_mono h (fun vs s' q => ?_) fun _ _ x => x)
  exact wpAny_holding (wpAny_bind (wpAny_pure (wpAny_bind (wpAny_pure (wpAny_pure q)))))
section
variable {X : Cx} {CX : CXT} {k : Nat} {f : Addr} {sp : Sp} {E : XK} {x : Str} {e e2 : Expr} {es : List Expr} {te : TE} {t : TA} {p sp_ pos : Pos}
theorem pe_callSF (F : FnR X.prog X.w X.K X.mg X.base CX k f sp) (hr : Room k X.A) (hk : PySem.W.keepIn X.K (.ref f) = true) (hg : Gl X x) (hm : X.mg x = some (.ref f)) (hx : Passes CX X E) (he : PE X e te) (ha : PA X (e2 :: es) t) (hd : (x == ("__debug__" : Str)) = false := by decide)
    (hst : starEach (.Starred e sp_ :: e2 :: es) X.env = (true, eval e X.env) :: (false, eval e2 X.env) :: starEach es X.env := by rfl) (hs2 : starEach (.Starred e sp_ :: e2 :: es) X.env = (true, eval e X.env) :: starEach (e2 :: es) X.env := by rfl) :
    PE X (.Call (.Name x p) (.Starred e sp_ :: e2 :: es) [] pos) (fun σ H Q => te σ H fun y H1 => ∃ a xs, y = V.ref a ∧ (SqT X.K H1 a xs ∨ SqL X.K H1 a xs) ∧ t σ H1 fun ys H2 => sp (xs ++ ys) H2 Q E) := by
  refine ⟨fun pins s σ H Q I h => ?_⟩
  refine wpAny_Call_Name_kw (ld_glob I hg hm ?_ hd)
  have go : wpAny (model X.prog X.w) X.A (spliced (backTo pos (starEach (.Starred e sp_ :: e2 :: es) X.env))) (fun vs s1 => X.K.In s1.heap ∧ wpAny (model X.prog X.w) X.A (call (.ref f) ([] ++ vs)) (EP X pins σ Q) X.xe s1) X.xe s := by
    refine PySem.W.items_star (thn (he.run pins s σ H _ I h) fun v s1 z => ?_) hs2
    obtain ⟨y, H1, I1, ry, a, xs, ey, hxs, q⟩ := z
    subst ey
    obtain rfl : v = Value.ref a := ry
    refine star_any I1 hxs fun us s2 I2 rv => ?_
    refine thn (ha.run pos pins s2 σ H1 _ I2 q) fun ws s3 z => ?_
    obtain ⟨vs, H3, I3, r3, q3⟩ := z
    exact ⟨I3.kIn, wpAny_call (run_fnR F hr hx I3 (rv.append r3) q3)⟩
  rw [hst] at go ⊢
  exact PySem.W.ks_call rfl (PySem.W.keeps_K hk) (args_sf go)
end
/-! f(k = v, ..) with keywords alone -/
def tCallK0 (n : Nat) (sp : Sp) (gV : List V → List V → List V) (E : XK) (tk : TA) : TE := fun σ H Q => tk σ H fun zs H1 => zs.length = n ∧ sp (gV [] zs) H1 Q E
section
variable {X : Cx} {CX : CXT} {k : Nat} {f : Addr} {fd : FuncData} {sp : Sp} {E : XK} {x : Str} {p pos : Pos} {ps ks : List Str} {kws : List Keyword} {tk : TA} {g : List Value → List Value → List Value} {gV : List V → List V → List V}
theorem pe_callK0 (F : FnOk X.prog X.w X.K X.mg X.base CX k f fd ps sp) (hr : Room k X.A) (hg : Gl X x) (hm : X.mg x = some (.ref f)) (hk : PySem.W.keepIn X.K (.ref f) = true) (hb : KBn X.K fd ps 0 ks g gV) (hx : Passes CX X E) (hkw : PK X kws tk)
    (hall : (backToKw pos (keywordEach kws X.env)).all (·.1.isSome) = true := by rfl) (hks : (backToKw pos (keywordEach kws X.env)).filterMap (·.1) = ks := by rfl)
    (hdb : (x == ("__debug__" : Str)) = false := by decide) (hpl : ((backTo pos (starEach [] X.env)).any (·.1) || (backToKw pos (keywordEach kws X.env)).any (·.1.isNone)) = false := by rfl) :
    PE X (.Call (.Name x p) [] kws pos) (tCallK0 ks.length sp gV E tk) := by
  refine ⟨fun pins s σ H Q I h => ?_⟩
  refine wpAny_Call_Name_kw (ld_glob I hg hm ?_ hdb)
  refine PySem.W.callWith_KW0 (first := []) (h₀ := X.base) I.ok.mod.kin hk hall (thn (hkw.run pos pins s σ H _ I h) fun ws s2 ⟨zs, H2, I2, rz, hl, q2⟩ => ⟨I2.kIn, ?_⟩) hpl
  rw [hks]
  exact run_fnN (us := []) (vs := []) F hr hb hx I2 .nil rz rfl hl q2
end
end Own
set_option maxRecDepth 100000
set_option maxHeartbeats 4000000
/-! Several except clauses, with and without a name. -/
namespace Own
open PySem PySem.Spec PyProof.Rows L2
/-- an exception of the body, come down, ahead of a clause -/
structure Dn (X : Cx) (pins : List (Addr × Obj)) (a : Addr) (cls : Value) (d : Option Addr) (σ : L2.St) (H : Hp) (B : Heap) (sI s : Shared) : Prop where
  J : Inv X pins σ H sI
  nb : ∀ b o, sI.heap.get? b = some o → b ∉ frs X.stack → B.get? b = some o
  up : sI.heap.UpToSlots s.heap
  fl : HandSPX.FlyingZ B (X.env :: X.outer) a (Zc cls d) s.heap
  na : H a = none
  os : s.os = sI.os
  ag : AllBare s.gens
section
variable {X : Cx} {pins : List (Addr × Obj)} {a : Addr} {cls : Value} {d : Option Addr} {σ : L2.St} {H : Hp} {B : Heap} {sI s : Shared}
theorem Dn.inv (k : Dn X pins a cls d σ H B sI s) : Inv X pins σ H s := k.J.landed k.nb k.fl.1 k.up k.os k.ag
theorem Dn.out (k : Dn X pins a cls d σ H B sI s) : a ∉ frs (X.env :: X.outer) := fun hm => by
  obtain ⟨oe, vs, he, _, hd⟩ := k.fl.there
  obtain ⟨_, o', e', hnf⟩ := k.fl.2.2.1.mem hm
  rw [he] at e'; cases e'
  exact hnf _ hd
theorem Dn.nL (k : Dn X pins a cls d σ H B sI s) (hf : X.env.frame = some X.env.locals) : a ≠ X.env.locals := fun z => k.out (by
  rw [z]
  exact List.mem_filterMap.mpr ⟨X.env, List.mem_cons_self, hf⟩)
theorem Dn.nF (k : Dn X pins a cls d σ H B sI s) : a ∉ X.fs := fun hm => by
  obtain ⟨e, he, q⟩ := List.mem_filterMap.mp hm
  exact k.out (List.mem_filterMap.mpr ⟨e, List.mem_cons_of_mem _ he, q⟩)
/-- what the clauses hds do with an exception for which w holds -/
def Cl (X : Cx) (hds : List ExceptHandler) (w : Ends → WX) : Prop :=
  ∀ (pins : List (Addr × Obj)) (a : Addr) (cls : Value) (d : Option Addr) (σ : L2.St) (H : Hp) (B : Heap) (sI s : Shared) (D : Ends), Dn X pins a cls d σ H B sI s → w D cls d σ H →
    wpAny (model X.prog X.w) X.A (handleBy (.ref a) X.env hds) (SP X pins D) X.xe s
theorem cl_nil {Wout : WX} (hs : X.stack = X.env :: X.outer) (hf : X.env.frame = some X.env.locals) (tk : Takes X Wout) : Cl X [] fun _ => Wout := by
  intro pins a cls d σ H B sI s D k w
  refine wpAny_handleBy_nil ?_
  obtain ⟨k1, k2, k3, oe, vs, T, oT, ts', he, hz, hd, h1, hr⟩ := id k.fl
  unfold PySem.passOn
  refine wpAny_bind (wpAny_field he hd h1 ?_)
  rw [if_neg (show ¬ ((Value.ref T == Value.none) = true) from by simp)]
  have go : wpAny (model X.prog X.w) X.A (setFlight (.ref a) X.env.frame) (fun _ s2 => wpAny (model X.prog X.w) X.A (throw (.ref a) : Sem Flow) (SP X pins D) X.xe s2) X.xe s := by
    rw [hf]
    exact HandSPX.setFlight_upZ k.fl fun h2 hh up => wpAny_throw (tk _ _ ⟨a, B, sI, pins, σ, H, cls, d, rfl, k.J, k.nb, k.up.trans up, .inr (.inr (by rw [hs]; exact hh)), k.na, k.os, k.ag, w⟩)
  first
    | exact wpAny_bind (wpAny_pure (wpAny_bind go))
    | exact wpAny_bind go
/-- the clause's class is looked up and compared -/
theorem Dn.ask {x : Str} {np : Pos} {c : Value} {b : Bool} {Q : Bool → Shared → Prop} {E : Value → Shared → Prop} (k : Dn X pins a cls d σ H B sI s) (hf : X.env.frame = some X.env.locals) (hc : Names X x c) (hb : PySem.W.exmOne X.K cls c = some b) (q : Q b s) :
    wpAny (model X.prog X.w) (X.A.mark (some (.ref a))) (eval (.Name x np) X.env) (fun c s₁ => wpAny (model X.prog X.w) (X.A.mark (some (.ref a))) (excMatches (.ref a) c) Q E s₁) E s := by
  obtain ⟨oe, vs, he, hz, hd⟩ := k.fl.there
  have S := k.inv.suite he hd k.na (k.nL hf) k.nF
  have ty : PySem.W.Looks (model X.prog X.w) s.heap (typeOf (.ref a)) cls := fun A Q E s k q => wpAny_typeOf_ref (k _ _ he) (by rw [hz.1]; exact q)
  have em := PySem.W.exm_one (M := model X.prog X.w) k.inv.kIn ty hb
  obtain ⟨hg, hdb, hm | ⟨hm, hv, hnn⟩⟩ := hc
  · exact ld_glob (X := X.suite a ((a, oe) :: (X.pn ++ pins))) S hg hm (em.here q) hdb
  · exact ld_blt (X := X.suite a ((a, oe) :: (X.pn ++ pins))) S hg hm hv (em.here q) hnn hdb
theorem cl_on {x : Str} {c : Value} {ts : Addr → Value → Option Addr → TS} {b₀ : Stmt} {suite : List Stmt} {np pos : Pos} {hds : List ExceptHandler} {w : Ends → WX} (hf : X.env.frame = some X.env.locals) (hc : Names X x c)
    (hsu : ∀ (a : Addr) (oe : Obj) (cls : Value) (d : Option Addr) (pn : List (Addr × Obj)), Zc cls d oe → (∃ vs, oe.data = .fields vs) → PSs (X.suite a ((a, oe) :: pn)) (b₀ :: suite) (ts a cls d)) (r : Cl X hds w) :
    Cl X (.ExceptHandler (some (.Name x np)) none (b₀ :: suite) pos :: hds) fun D cls d σ H => ∃ b, PySem.W.exmOne X.K cls c = some b ∧ (b = true → ∀ a, H a = none → ts a cls d D σ H) ∧ (b = false → w D cls d σ H) := by
  intro pins a cls d σ H B sI s D k ⟨b, hb, yes, no⟩
  refine wpAny_handleBy_cons (codeAny_handlers_test (k.ask hf hc hb ?_)) (by intro q; cases q)
  cases b with
  | false => exact r pins a cls d σ H B sI s D k (no rfl)
  | true =>
    refine codeAny_handlers_suite (HandSPX.lands_againZ k.fl fun h2 fl2 up2 => ?_)
    have k2 : Dn X pins a cls d σ H B sI { s with heap := h2 } := ⟨k.J, k.nb, k.up.trans up2, fl2, k.na, k.os, k.ag⟩
    obtain ⟨oe, vs, he, hz, hd⟩ := fl2.there
    have S := k2.inv.suite he hd k.na (k.nL hf) k.nF
    refine wpAny_mono ((hsu a oe cls d (X.pn ++ pins) hz ⟨_, hd⟩).run [] _ σ H _ S (yes rfl a k.na)) (fun f s3 hsp => ?_) (fun _ _ z => False.elim z)
    have ok := k.J.ok
    cases f with
    | next => obtain ⟨σ3, H3, S3, q3⟩ := hsp; exact ⟨σ3, H3, S3.unsuite ok, q3⟩
    | brk => obtain ⟨σ3, H3, S3, q3⟩ := hsp; exact ⟨σ3, H3, S3.unsuite ok, q3⟩
    | cont => obtain ⟨σ3, H3, S3, q3⟩ := hsp; exact ⟨σ3, H3, S3.unsuite ok, q3⟩
    | ret u => obtain ⟨v3, σ3, H3, S3, r3, q3⟩ := hsp; exact ⟨v3, σ3, H3, S3.unsuite ok, r3, q3⟩
/-- what is wanted behind a suite whose name goes -/
def Ends.gone (D : Ends) (i : Nat) : Ends := { nx := fun σ H => D.nx (σ.set i none) H, rt := D.rt, bk := fun σ H => D.bk (σ.set i none) H, ct := fun σ H => D.ct (σ.set i none) H }
theorem cl_as {x n : Str} {c : Value} {i : Nat} {ts : Addr → Value → Option Addr → TS} {b₀ : Stmt} {suite : List Stmt} {np pos : Pos} {hds : List ExceptHandler} {w : Ends → WX} (hf : X.env.frame = some X.env.locals) (hN : X.N.Nodup) (hi : X.N[i]? = some n) (hln : X.env.kindOf n = some .local) (hc : Names X x c)
    (hsu : ∀ (a : Addr) (oe : Obj) (cls : Value) (d : Option Addr) (pn : List (Addr × Obj)), Zc cls d oe → (∃ vs, oe.data = .fields vs) → PSs (X.suite a ((a, oe) :: pn)) (b₀ :: suite) (ts a cls d)) (r : Cl X hds w) :
    Cl X (.ExceptHandler (some (.Name x np)) (some n) (b₀ :: suite) pos :: hds) fun D cls d σ H => ∃ b, PySem.W.exmOne X.K cls c = some b ∧ (b = true → σ.length = X.N.length → ∀ a, H a = none → ts a cls d (Ends.gone D i) (σ.set i (some (.ref a))) H) ∧ (b = false → w D cls d σ H) := by
  intro pins a cls d σ H B sI s D k ⟨b, hb, yes, no⟩
  refine wpAny_handleBy_cons (codeAny_handlers_test (k.ask hf hc hb ?_)) (by intro q; cases q)
  cases b with
  | false => exact r pins a cls d σ H B sI s D k (no rfl)
  | true =>
    refine codeAny_handlers_suite_as (HandSPX.lands_againZ k.fl fun h2 fl2 up2 => ?_)
    have k2 : Dn X pins a cls d σ H B sI { s with heap := h2 } := ⟨k.J, k.nb, k.up.trans up2, fl2, k.na, k.os, k.ag⟩
    obtain ⟨oe, vs, he, hz, hd⟩ := fl2.there
    have S := k2.inv.suite he hd k.na (k.nL hf) k.nF
    have ok := k.J.ok
    refine store_ok (X := X.suite a ((a, oe) :: (X.pn ++ pins))) (v := .ref a) S hN hi (.inl hln) rfl (fun s3 S3 => ?_) (.inr hln)
    refine wpAny_mono ((hsu a oe cls d (X.pn ++ pins) hz ⟨_, hd⟩).run [] s3 _ H _ S3 (yes rfl k.J.len a k.na)) (fun f s4 hsp => ?_) (fun _ _ z => False.elim z)
    have bye : ∀ {σ4 : L2.St} {H4 : Hp} {Q : Shared → Prop}, Inv (X.suite a ((a, oe) :: (X.pn ++ pins))) [] σ4 H4 s4 → (∀ s5, Inv X pins (σ4.set i none) H4 s5 → Q s5) →
        wpAny (model X.prog X.w) X.A (do bindName X.env n .none; unbindBehindTheSuite X.env n pos) (fun _ s5 => Q s5) X.xe s4 := fun {σ4 H4 Q} S4 hq => gone_ok (S4.unsuite ok) hN hi hln hq
    cases f with
    | next => obtain ⟨σ4, H4, S4, q4⟩ := hsp; exact bye S4 fun s5 J5 => ⟨_, _, J5, q4⟩
    | brk => obtain ⟨σ4, H4, S4, q4⟩ := hsp; exact bye S4 fun s5 J5 => ⟨_, _, J5, q4⟩
    | cont => obtain ⟨σ4, H4, S4, q4⟩ := hsp; exact bye S4 fun s5 J5 => ⟨_, _, J5, q4⟩
    | ret u => obtain ⟨v4, σ4, H4, S4, r4, q4⟩ := hsp; exact bye S4 fun s5 J5 => ⟨_, _, _, J5, r4, q4⟩
end
section
variable {X : Cx} {body : List Stmt} {h₀ : ExceptHandler} {hds : List ExceptHandler} {pos : Pos} {tb : WX → TS} {w : Ends → WX}
theorem ps_try_cl (hs : X.stack = X.env :: X.outer) (hf : X.env.frame = some X.env.locals)
    (hb : ∀ (W : WX) (pn : List (Addr × Obj)) (xe : Value → Shared → Prop), Takes (X.tr pn xe) W → PassesOwn (model X.prog X.w) X.A X.env xe → PSs (X.tr pn xe) body (tb W)) (hh : Cl X (h₀ :: hds) w) :
    PS X (.Try body (h₀ :: hds) [] [] pos) (fun D σ H => tb (w D) D σ H) := by
  refine ⟨fun pins s σ H D I h => ?_⟩
  have ok := I.ok
  have hfr : X.A.frames = some (X.env :: X.outer) := by rw [ok.frames, hs]
  refine wpAny_Try_except ?_
  have catch_ : Takes (X.tr (X.pn ++ pins) fun e s₁ => wpAny (model X.prog X.w) X.A (noteFrame e X.env) (fun _ s₂ => wpAny (model X.prog X.w) X.A (setFlight e none) (fun _ s₃ =>
      wpAny (model X.prog X.w) X.A (handleBy e X.env (h₀ :: hds)) (SP X pins D) X.xe s₃) X.xe s₂) X.xe s₁) (w D) := fun u s' xx => by
    obtain ⟨a, B, sI, pins', σ', H', cls, d, rfl, J', nb, up, sky, na, os, ag, ww⟩ := xx
    have sky' : Sky B (X.env :: X.outer) a (Zc cls d) X.env.locals s'.heap := by rw [← hs]; exact sky
    exact Sky.land Zc.steady hfr hf sky' fun h3 fl3 up3 => hh pins a cls d σ' H' B sI _ D ⟨J'.ofTry ok, nb, up.trans up3, fl3, na, os, ag⟩ ww
  refine wpAny_mono ((hb (w D) (X.pn ++ pins) _ catch_ PassesOwn.looking).run [] s σ H D (I.toTry _) h) (fun f s1 hsp => ?_) (fun e s1 he => he)
  cases f with
  | next => obtain ⟨σ', H', J', q⟩ := hsp; exact wpAny_execs_nil ⟨σ', H', J'.ofTry ok, q⟩
  | brk => obtain ⟨σ', H', J', q⟩ := hsp; exact ⟨σ', H', J'.ofTry ok, q⟩
  | cont => obtain ⟨σ', H', J', q⟩ := hsp; exact ⟨σ', H', J'.ofTry ok, q⟩
  | ret u => obtain ⟨v, σ', H', J', r, q⟩ := hsp; exact ⟨v, σ', H', J'.ofTry ok, r, q⟩
end
end Own
set_option maxRecDepth 100000
set_option maxHeartbeats 4000000
/-! Promises of defs that are called where no object is being shown (for repr), and the end of such a law, with tables of code objects. -/
namespace Own
open PySem PySem.Spec PyProof.Rows L2
structure FnG (P : Program) (w : World) (K : PySem.W.Frag) (mg : Str → Option Value) (base : Heap) (CX : CXT) (k : Nat) (f : Addr) (fd : FuncData) (ps : List Str) (sp : Sp) : Prop where
  len : ∀ vs H Q E, sp vs H Q E → vs.length = ps.length
  run : ∀ (A : Around) (outer : List Env) (s : Shared) (H : Hp) (args : Args) (us : List Value) (vs : List V) (Q : VK) (E : XK), A.guards = some [] → Room k A → Env0 P w K mg base A outer s H → BindsTo s fd args (ps.zip us) → Vals vs us →
    sp vs H Q E → codeAny (model P w) A (.call (.ref f) args) (CR CX outer P w H s Q E) s
section
variable {P : Program} {w : World} {K : PySem.W.Frag} {mg : Str → Option Value} {base : Heap} {x qual : Str} {st : Stmt} {f c : Addr} {fd : FuncData} {N ps : List Str} {k : Nat} {sp : Sp}
theorem okG (F : Fun K x qual st f fd) (S : FnScope N ps (defScope st)) (len : ∀ vs H Q E, sp vs H Q E → vs.length = ps.length)
    (hbody : ∀ (cdv : Value) (A : Around) (outer : List Env) (s : Shared) (H : Hp) (vs : List V) (Q : VK) (E : XK), A.guards = some [] → Room k (A.deeper (envOfC qual (defScope st) s.heap.objs.size f cdv)) → sp vs H Q E →
      ∃ t, PSs (cxOf CX0 P w K mg base N qual (defScope st) f cdv A outer s H E).nox (defBody st) t ∧ t { nx := fun _ H' => Q .non H', rt := Q } (start N vs) H) : FnG P w K mg base CX0 (k + 1) f fd ps sp := by
  obtain ⟨oc, od, kV, doc, pm, an, cdv, ct, osl, rfl, lk, hcd⟩ := F.ex
  refine ⟨len, fun A outer s H args us vs Q E hg hr e0 hb r hsp => LamX.run_ofS lk hcd S hr e0 hb r (len _ _ _ _ hsp) fun hr2 => ?_⟩
  obtain ⟨t, h, q⟩ := hbody cdv A outer s H vs Q E hg hr2 hsp
  exact ⟨t, h.nox, q⟩
/-- its code object is known -/
theorem okC (F : Fun K x qual st f fd) (hc : fd.code = .ref c) (S : FnScope N ps (defScope st)) (len : ∀ vs H Q E, sp vs H Q E → vs.length = ps.length)
    (hbody : ∀ (A : Around) (outer : List Env) (s : Shared) (H : Hp) (vs : List V) (Q : VK) (E : XK), Room k (A.deeper (envOfC qual (defScope st) s.heap.objs.size f (.ref c))) → sp vs H Q E →
      ∃ t, PSs (cxOf CX0 P w K mg base N qual (defScope st) f (.ref c) A outer s H E).nox (defBody st) t ∧ t { nx := fun _ H' => Q .non H', rt := Q } (start N vs) H) : FnOk P w K mg base CX0 (k + 1) f fd ps sp := by
  obtain ⟨oc, od, kV, doc, pm, an, cdv, ct, osl, rfl, lk, hcd⟩ := F.ex
  obtain rfl : cdv = .ref c := hc
  refine fn_of lk hcd S len fun A outer s H vs Q E hr hsp => ?_
  obtain ⟨t, h, q⟩ := hbody A outer s H vs Q E hr hsp
  exact ⟨t, h.nox, q⟩
end
section
variable {X : Cx} {CX : CXT} {k : Nat} {f : Addr} {fd : FuncData} {ps : List Str} {sp : Sp} {E : XK} {x : Str} {e : Expr} {es : List Expr} {t : TA} {p pos : Pos}
theorem run_fnG {pins : List (Addr × Obj)} {σ : L2.St} {H : Hp} {s : Shared} {Q : VK} {us : List Value} {vs : List V} (F : FnG X.prog X.w X.K X.mg X.base CX k f fd ps sp) (hg : X.A.guards = some []) (hr : Room k X.A) (hb : Binds X.K fd ps []) (hx : Passes CX X E)
    (I : Inv X pins σ H s) (r : Vals vs us) (h : sp vs H Q E) : wpAny (model X.prog X.w) X.A (call (.ref f) us) (EP X pins σ Q) X.xe s := by
  have hl : us.length = ps.length := by rw [← r.length]; exact F.len _ _ _ _ h
  have hb2 : BindsTo s fd ⟨us, []⟩ (ps.zip us) := by
    have := hb s us I.kIn (by rw [List.append_nil]; exact hl)
    rwa [List.append_nil] at this
  refine wpAny_call (codeAny_mono (F.run X.A X.stack s H ⟨us, []⟩ us vs Q E hg hr I.env0 hb2 r h) fun r s' hq => ?_)
  match r, hq with
  | .error e, hq => exact hx pins σ H s e s' I hq
  | .ok (.ret u), hq => exact I.after hq
  | .ok .next, hq => exact False.elim hq
  | .ok .brk, hq => exact False.elim hq
  | .ok .cont, hq => exact False.elim hq
theorem pe_callG (F : FnG X.prog X.w X.K X.mg X.base CX k f fd ps sp) (hg : X.A.guards = some []) (hr : Room k X.A) (hn : Gl X x) (hm : X.mg x = some (.ref f)) (hk : PySem.W.keepIn X.K (.ref f) = true) (hb : Binds X.K fd ps []) (hx : Passes CX X E)
    (ha : PA X (e :: es) t) (hdb : (x == ("__debug__" : Str)) = false := by decide) (he : starEach (e :: es) X.env = (false, eval e X.env) :: starEach es X.env := by rfl) (hpl : (backTo pos (starEach es X.env)).any (·.1) = false := by rfl) :
    PE X (.Call (.Name x p) (e :: es) [] pos) (fun σ H Q => t σ H fun vs H1 => sp vs H1 Q E) := by
  refine ⟨fun pins s σ H Q I h => wpAny_Call_Name_kw (ld_glob I hn hm ?_ hdb)⟩
  refine PySem.W.callWith_K (h₀ := X.base) I.ok.mod.kin hk (thn (ha.run pos pins s σ H _ I h) fun us s1 z => ?_) he hpl
  obtain ⟨vs, H1, I1, r, q⟩ := z
  exact ⟨I1.kIn, run_fnG F hg hr hb hx I1 r q⟩
/-- repr of data -/
def rRepr (K : PySem.W.Frag) : List V → Hp → VK → Prop := fun xs H Q => ∃ a d, xs = [.ref a] ∧ Dp K H (.ref a) d ∧ d.showable = true ∧ d.hasDict = false ∧ d.depth ≤ 60 ∧ d.shown.length ≤ sizeLine ∧ Q (.str d.shown) H
theorem call_repr (hg : X.A.guards = some []) (hu : X.A.units + 64 < cLine) : CallR X (.builtin "repr") (rRepr X.K) := by
  intro pins s σ H xs us Q I r h
  obtain ⟨a, d, rfl, hd, h1, h2, h3, h4, q⟩ := h
  obtain ⟨u, rfl, ru⟩ := vals1 r
  obtain rfl : u = Value.ref a := ru
  obtain ⟨as, rd⟩ := Dp.reads I d _ _ hd rfl
  exact repr_of_reads' rd h1 (fun e => by rw [h2] at e; cases e) hg (by omega) (fun _ _ e => e) (fun h' u tk hk => ⟨.str d.shown, H, I.kept hk, ⟨u, rfl⟩, q⟩) h4
end

/-! ### the end -/
/-- what is tracked at the law's entry: the tables, and the script unless it is the module's own -/
structure Ent (P : Program) (w : World) (K : PySem.W.Frag) (a : Addr) (cs : List (Addr × Addr)) (h : Heap) (ns : List Int) (H : Hp) : Prop where
  tab : ∀ p ∈ cs, H p.2 = some (.tbl #[])
  scr : SqL K H a (ns.map V.int)
  ok : HOk P w H h
  out : ∀ b u, H b = some u → K.lookup b = none
  only : ∀ b u, H b = some u → (u = .tbl #[] ∧ b ∈ cs.map (·.2)) ∨ (∃ xs o, u = .frz o (.lst xs) ∧ b = a)
theorem ent {P : Program} {w : World} {K : PySem.W.Frag} {a : Addr} {cs : List (Addr × Addr)} {h : Heap} {vs : List Value} {ns : List Int} (KX : K.In h) (hT : ∀ p ∈ cs, h.get? p.2 = some { cls := .none, data := .fields #[] }) (nT : ∀ p ∈ cs, K.lookup p.2 = none)
    (ha : h.get? a = some { cls := .type "list", data := .seq vs.toArray }) (hi : IntsAre vs ns) (hl : ns.length ≤ sizeLine) : ∃ H, Ent P w K a cs h ns H := by
  have rv := vals_ints hi
  have inT : ∀ b, b ∈ cs.map (·.2) → h.get? b = some { cls := .none, data := .fields #[] } ∧ K.lookup b = none := fun b m => by
    obtain ⟨p, hp, rfl⟩ := List.mem_map.mp m
    exact ⟨hT p hp, nT p hp⟩
  have aT : a ∉ cs.map (·.2) := fun m => by
    have z := (inT a m).1
    rw [ha] at z
    exact nomatch congrArg Obj.cls (Option.some.inj z)
  have hm : ∀ p ∈ cs, p.2 ∈ cs.map (·.2) := fun p hp => List.mem_map_of_mem hp
  by_cases hk : K.lookup a = none
  · refine ⟨fun b => if b ∈ cs.map (·.2) then some (.tbl #[]) else if b = a then some (.frz { cls := .type "list", data := .seq vs.toArray } (.lst (ns.map V.int))) else none,
      fun p hp => if_pos (hm p hp), .inl (.inr ⟨{ cls := .type "list", data := .seq vs.toArray }, ?_⟩), fun b u e => ?_, fun b u e => ?_, fun b u e => ?_⟩
    · show (if a ∈ cs.map (·.2) then _ else _) = _
      rw [if_neg aT, if_pos rfl]
    · by_cases m : b ∈ cs.map (·.2)
      · rw [if_pos m] at e
        cases e
        exact (inT b m).1
      · rw [if_neg m] at e
        by_cases eb : b = a
        · rw [if_pos eb] at e
          cases e
          subst eb
          exact ⟨ha, by rw [List.length_map]; exact hl, vs, _, rv, ha⟩
        · rw [if_neg eb] at e
          cases e
    · by_cases m : b ∈ cs.map (·.2)
      · exact (inT b m).2
      · rw [if_neg m] at e
        by_cases eb : b = a
        · rw [eb]; exact hk
        · rw [if_neg eb] at e
          cases e
    · by_cases m : b ∈ cs.map (·.2)
      · rw [if_pos m] at e
        cases e
        exact .inl ⟨rfl, m⟩
      · rw [if_neg m] at e
        by_cases eb : b = a
        · rw [if_pos eb] at e
          cases e
          exact .inr ⟨_, _, rfl, eb⟩
        · rw [if_neg eb] at e
          cases e
  · obtain ⟨o, ho⟩ := Option.ne_none_iff_exists'.mp hk
    have e0 := KX a o ho
    rw [ha] at e0
    cases e0
    refine ⟨fun b => if b ∈ cs.map (·.2) then some (.tbl #[]) else none, fun p hp => if_pos (hm p hp), .inr ⟨_, vs.toArray, _, ho, rfl, rfl, rfl, by rw [List.size_toArray, hi.length]; exact hl, by simpa using rv⟩, fun b u e => ?_, fun b u e => ?_, fun b u e => ?_⟩
    · by_cases m : b ∈ cs.map (·.2)
      · rw [if_pos m] at e
        cases e
        exact (inT b m).1
      · rw [if_neg m] at e
        cases e
    · by_cases m : b ∈ cs.map (·.2)
      · exact (inT b m).2
      · rw [if_neg m] at e
        cases e
    · by_cases m : b ∈ cs.map (·.2)
      · rw [if_pos m] at e
        cases e
        exact .inl ⟨rfl, m⟩
      · rw [if_neg m] at e
        cases e
end Own
set_option maxRecDepth 100000
set_option maxHeartbeats 4000000
/-! str(x), f"{x}" and x in y by own methods; repr of any plain value. -/
namespace Own
open PySem PySem.Spec PyProof.Rows L2
section
variable {X : Cx} {CX : CXT} {k : Nat} {C f : Addr} {fd : FuncData} {ps : List Str} {sp : Sp} {E : XK}
/-- str of an instance whose class has __str__ -/
def rStr (C : Addr) (sp : Sp) (E : XK) : List V → Hp → VK → Prop := fun xs H Q => ∃ a dx fs, xs = [.ref a] ∧ H a = some (.ins C dx fs) ∧ sp [.ref a] H (fun v H' => (∃ y, v = .str y) ∧ Q v H') E
theorem call_ownStr (F : FnOk X.prog X.w X.K X.mg X.base CX k f fd ps sp) (hr : Room (k + 2) X.A) (hs : PySem.W.findIn X.K (.ref C) "__str__" = some (some (.ref f))) (hf : PySem.W.isFn X.K (.ref f) = true) (hb : Binds X.K fd ps []) (hx : Passes CX X E) :
    CallR X (.type "str") (rStr C sp E) := by
  intro pins s σ H xs us Q I r h
  obtain ⟨a, dx, fs, rfl, ha, hsp⟩ := h
  obtain ⟨u, rfl, ru⟩ := vals1 r
  obtain rfl : u = Value.ref a := ru
  obtain ⟨mA, J, _⟩ := ins_get I.hok ha
  obtain ⟨od, J, _⟩ := J.look
  have hr2 : Room k X.A.in1.in1 := (Room.in1 (k := k + 1) hr).in1
  refine PySem.W.kso_call hr2.units0 I.kIn J hs hf (wpAny_mono (run_fnA F hr2 rfl hb hx I (vs := [.ref a]) (.cons rfl .nil) hsp) (fun w s' q => ?_) fun _ _ e => e)
  obtain ⟨v', H', I', rv, ⟨y, rfl⟩, q⟩ := q
  obtain ⟨t, rfl⟩ := rv
  exact ⟨.str y, H', I', ⟨t, rfl⟩, q⟩
/-- f"{x}" of such an instance -/
def tFmtO (C : Addr) (sp : Sp) (E : XK) (te : TE) : TE := fun σ H Q => te σ H fun x H1 => ∃ a dx fs, x = .ref a ∧ H1 a = some (.ins C dx fs) ∧ sp [.ref a] H1 (fun v H' => (∃ y, v = .str y) ∧ Q v H') E
theorem pe_fmtO {e : Expr} {te : TE} {pos : Pos} (he : PE X e te) (F : FnOk X.prog X.w X.K X.mg X.base CX k f fd ps sp) (hr : Room (k + 1) X.A) (hs : PySem.W.findIn X.K (.ref C) "__str__" = some (some (.ref f))) (hf : PySem.W.isFn X.K (.ref f) = true)
    (hfm : PySem.W.findIn X.K (.ref C) "__format__" = some (some (.builtin "object.__format__"))) (hm : PySem.W.mroIn X.K C (.type "object") = some true) (hb : Binds X.K fd ps []) (hx : Passes CX X E) : PE X (.FormattedValue e (-1) none pos) (tFmtO C sp E te) := by
  refine ⟨fun pins s σ H Q I h => ?_⟩
  refine wpAny_FormattedValue_plain (thn (he.run pins s σ H _ I h) fun v s1 hv => ?_)
  obtain ⟨x, H1, I1, r1, a, dx, fs, rfl, ha, hsp⟩ := hv
  obtain rfl : v = Value.ref a := r1
  obtain ⟨mA, J, _⟩ := ins_get I1.hok ha
  obtain ⟨od, J, _⟩ := J.look
  have hr1 : Room k X.A.in1 := hr.in1
  refine PySem.W.kfo_fieldS hr1.units0 I1.kIn J hfm hm hs hf (wpAny_mono (run_fnA F hr1 rfl hb hx (I1.tok _) (vs := [.ref a]) (.cons rfl .nil) hsp) (fun w s' q => ?_) fun _ _ e => e)
  obtain ⟨v', H', I', rv, ⟨y, rfl⟩, q⟩ := q
  obtain ⟨t, rfl⟩ := rv
  exact ⟨.str y, H', I', ⟨t, rfl⟩, q⟩
/-- x in y, y an instance whose class has __contains__ -/
def rIn (C : Addr) (sp : Sp) (E : XK) : R2 := fun x y H Q => ∃ a dx fs, y = .ref a ∧ H a = some (.ins C dx fs) ∧ sp [y, x] H (fun v H' => ∃ b, v = .bl b ∧ Q (.bl b) H') E
theorem op_inOwn (F : FnOk X.prog X.w X.K X.mg X.base CX k f fd ps sp) (hr : Room k X.A) (hs : PySem.W.findIn X.K (.ref C) "__contains__" = some (some (.ref f))) (hf : PySem.W.isFn X.K (.ref f) = true) (hb : Binds X.K fd ps []) (hx : Passes CX X E) :
    OpR X (compareOp .In) (rIn C sp E) := by
  intro pins s σ H x y u v Q I rx ry h
  obtain ⟨a, dx, fs, rfl, ha, hsp⟩ := h
  obtain rfl : v = Value.ref a := ry
  obtain ⟨mA, J, _⟩ := ins_get I.hok ha
  obtain ⟨od, J, _⟩ := J.look
  have KX := I.kIn
  have hty := beq_iff_eq.mp hf
  show wpAny _ _ (do return Value.bool (← contains (.ref a) u)) _ _ _
  refine wpAny_bind ?_
  unfold contains
  refine wpAny_holding ?_
  show wpAny _ _ (do if (← specialOf (.ref a) "__contains__") == some .none then _ else _) _ _ _
  refine wpAny_bind (wpAny_bind (J.type.here ((PySem.W.looks_findIn KX hs).here ?_)))
  have hne : ((some (Value.ref f) : Option Value) == some Value.none) = false := rfl
  simp only [hne, Bool.false_eq_true, if_false]
  unfold callSpecialUnlessNone?
  refine wpAny_bind (wpAny_bind (wpAny_bind (J.type.here ((PySem.W.looks_findIn KX hs).here ?_))))
  dsimp only
  refine wpAny_holding (wpAny_bind ((PySem.W.bind_fn KX _ hty).here ?_))
  have hne2 : (Value.ref f == Value.none) = false := rfl
  simp only [hne2, Bool.false_eq_true, if_false]
  have r2 : Vals [V.ref a, x] [Value.ref a, u] := .cons rfl (.cons rx .nil)
  refine wpAny_bind (wpAny_mono (run_fn F hr hb .nil hx I r2 hsp) (fun w s' q => ?_) fun _ _ e => e)
  obtain ⟨v', H', I', rv, b, rfl, q⟩ := q
  obtain rfl : w = Value.bool b := rv
  refine wpAny_pure ?_
  show wpAny _ _ (truthy (.bool b)) _ _ _
  exact wpAny_pure (wpAny_pure ⟨.bl b, H', I', rfl, q⟩)
end
/-- what repr shows of a plain value -/
inductive ReprOf (K : PySem.W.Frag) (H : Hp) : V → Str → Prop
  | non : ReprOf K H .non "None"
  | bl (b : Bool) : ReprOf K H (.bl b) (if b then "True" else "False")
  | int (i : Int) (h : i.natAbs.log2 < 1920) : ReprOf K H (.int i) (toString i : String)
  | str (x : Str) (h : (reprText x).length ≤ sizeLine) : ReprOf K H (.str x) (reprText x)
  | dat {a : Addr} {d : PyData} (h : Dp K H (.ref a) d) (h1 : d.showable = true) (h2 : d.hasDict = false) (h3 : d.depth ≤ 60) (h4 : d.shown.length ≤ sizeLine) : ReprOf K H (.ref a) d.shown
  | dct {a : Addr} (h : H a = some (.dK [])) : ReprOf K H (.ref a) (PyData.dict []).shown
def rReprA (K : PySem.W.Frag) : List V → Hp → VK → Prop := fun xs H Q => ∃ v t, xs = [v] ∧ ReprOf K H v t ∧ Q (.str t) H
section
variable {X : Cx}
theorem call_reprA (hg : X.A.guards = some []) (hu : X.A.units + 64 < cLine) : CallR X (.builtin "repr") (rReprA X.K) := by
  intro pins s σ H xs us Q I r h
  obtain ⟨v, t, rfl, hv, q⟩ := h
  obtain ⟨u, rfl, ru⟩ := vals1 r
  cases hv with
  | non =>
    obtain rfl : u = Value.none := ru
    exact PySem.P.repr_of_none ⟨.str _, H, I.tok _, ⟨_, rfl⟩, q⟩
  | bl b =>
    obtain rfl : u = Value.bool b := ru
    exact PySem.P.repr_of_bool ⟨.str _, H, I.tok _, ⟨_, rfl⟩, q⟩
  | int i h =>
    obtain ⟨tk, rfl⟩ := ru
    exact PySem.P.repr_of_int h ⟨.str _, H, I.tok _, ⟨_, rfl⟩, q⟩
  | str x h =>
    obtain ⟨tk, rfl⟩ := ru
    exact PySem.P.repr_of_str (h := ⟨.str _, H, I.tok _, ⟨_, rfl⟩, q⟩) (hsz := h)
  | dat h h1 h2 h3 h4 =>
    rename_i a d
    obtain rfl : u = Value.ref a := ru
    obtain ⟨as, rd⟩ := Dp.reads I d _ _ h rfl
    exact repr_of_reads' rd h1 (fun e => by rw [h2] at e; cases e) hg (by omega) (fun _ _ e => e) (fun h' u tk hk => ⟨.str d.shown, H, I.kept hk, ⟨u, rfl⟩, q⟩) h4
  | dct h =>
    rename_i a
    obtain rfl : u = Value.ref a := ru
    obtain ⟨_, hsm, vs, hkv, o, es, ep, e1, e2, e3, _, e5, _⟩ := dk_of I.hok h
    cases hkv
    have e6 : es.toList = [] := by
      cases hl : es.toList with
      | nil => rfl
      | cons x r => rw [hl] at e5; cases e5
    have rd : Reads s.heap (.ref a) (.dict []) (a :: [] ++ []) := Reads.dict e1 e2.1 e3 (by rw [e6]; exact .nil) (by rw [e6]; exact .nil)
    have hn : sysModules ∉ (a :: [] ++ [] : List Addr) := fun m => by
      rcases List.mem_cons.mp m with e | e
      · rw [e] at hsm
        simp at hsm
      · cases e
    exact repr_of_reads' rd (by rfl) (fun _ => hn) hg (by have : (PyData.dict []).depth ≤ 60 := by decide +kernel
                                                          omega) (fun _ _ e => e) (fun h' u tk hk => ⟨.str (PyData.dict []).shown, H, I.kept hk, ⟨u, rfl⟩, q⟩) (by decide +kernel)
end
end Own
set_option maxRecDepth 100000
set_option maxHeartbeats 4000000
/-! x op= y, x of an own class without a method in place. -/
namespace Own
open PySem PySem.Spec PyProof.Rows L2
open PySem.W (Looks findIn)
/-- no class of the line has the name -/
def noIn (K : PySem.W.Frag) (C : Addr) (i : Str) : Bool := match PySem.W.clsIn K C with
  | some cd => cd.mro.all fun c => match findIn K c i with | some none => true | _ => false
  | none => false
section
variable {M : Model} {h : Heap} {K : PySem.W.Frag} {C : Addr} {nm : String} {add : Bool}
theorem noI (X : K.In h) (hn : noIn K C (dunderI nm) = true) : Looks M h (fillsInplaceSlot (.ref C) nm add) false := by
  unfold noIn at hn
  cases hcd : PySem.W.clsIn K C with
  | none => rw [hcd] at hn; cases hn
  | some cd =>
    rw [hcd] at hn
    dsimp only at hn
    intro A Q E s k q
    have Lm : Looks M h (mroOf (.ref C)) cd.mro := (PySem.W.looks_clsIn X hcd).andThen (f := fun cd => pure cd.mro) .now
    have Lm' := Lm.keeps k
    obtain ⟨hh, g, d, tt, os⟩ := s
    have X' : K.In hh := X.keeps k
    unfold fillsInplaceSlot
    refine wpAny_bind (Lm'.at ?_)
    generalize cd.mro = cs at hn ⊢
    clear Lm Lm'
    induction cs with
    | nil => exact wpAny_pure q
    | cons c r ih =>
      rw [List.all_cons, Bool.and_eq_true] at hn
      obtain ⟨h1, h2⟩ := hn
      rw [List.anyM_cons]
      refine wpAny_bind (wpAny_bind ?_)
      cases hf : findIn K c (dunderI nm) with
      | none => rw [hf] at h1; cases h1
      | some o =>
        cases o with
        | some x => rw [hf] at h1; cases h1
        | none =>
          have L : Looks M hh (typeLookup c (dunderI nm)) none := PySem.W.looks_findIn X' hf
          refine L.at (wpAny_pure ?_)
          exact ih h2
end
section
variable {X : Cx} {CX : CXT} {k : Nat} {C f : Addr} {fd : FuncData} {ps : List Str} {sp : Sp} {E : XK} {op : Operator}
theorem ip_own {fo ro rc : Option Value} (F : FnOk X.prog X.w X.K X.mg X.base CX k f fd ps sp) (hr : Room k X.A) (hs : findIn X.K (.ref C) (PySem.dunder op.info.2) = some (some (.ref f))) (hf : PySem.W.isFn X.K (.ref f) = true)
    (hc : PySem.W.selfFirst X.K C = true) (hR : findIn X.K (.ref C) (dunderR op.info.2) = some rc) (hp : rc = none ∨ ∃ g : Addr, rc = some (.ref g)) (h1 : findIn X.K (.type "int") (PySem.dunder op.info.2) = some fo)
    (h2 : findIn X.K (.type "int") (dunderR op.info.2) = some ro) (hsub : PySem.W.subIn X.K (.type "int") (.ref C) = some false) (hno : noIn X.K C (dunderI op.info.2) = true) (hb : Binds X.K fd ps []) (hx : Passes CX X E) : OpR X (inplaceOp op) (rOwnB C sp E) := by
  intro pins s σ H x y u v Q I rx ry h
  obtain ⟨a, dx, fs, rfl, ha, hy, hsp⟩ := h
  cases rx
  obtain ⟨mA, O, _⟩ := ins_get I.hok ha
  obtain ⟨od, J, _⟩ := O.look
  have KX := I.kIn
  obtain ⟨cd, rest, hcd, hm⟩ := PySem.W.ksp_first hc
  have one : wpAny (model X.prog X.w) X.A (tryMethod (.ref a) (PySem.dunder op.info.2) v) (fun r s' => ∃ z, r = some z ∧ EP X pins σ Q z s') X.xe s := by
    have r2 : Vals [V.ref a, y] [Value.ref a, v] := .cons rfl (.cons ry .nil)
    refine PySem.W.ksp_try KX J hs hf (wpAny_mono (run_fn F hr hb .nil hx I r2 hsp) (fun w s' q => ?_) fun _ _ e => e)
    obtain ⟨v', H', I', rv, q⟩ := q
    exact relV_back rv ⟨v', H', I', rv, q⟩
  have L3 : Looks (model X.prog X.w) s.heap (fillsNumberSlot (.ref C) op.info.2) true := PySem.W.fills_K KX hcd hm hs
  have L6 : Looks (model X.prog X.w) s.heap (numberSlotInPython (.ref C) op.info.2) true := PySem.W.ksp_inPy KX hs hR hp
  unfold inplaceOp
  refine wpAny_holding (wpAny_bind (J.type.here (wpAny_bind ((noI KX hno).here ?_))))
  simp only [Bool.false_eq_true, if_false, pure_bind]
  refine wpAny_bind ?_
  suffices hb1 : wpAny (model X.prog X.w) X.A (binaryOp1 op.info.2 (.ref a) v) (fun r s' => ∃ z, r = some z ∧ EP X pins σ Q z s') X.xe s from
    wpAny_mono hb1 (fun r s' z => by
      obtain ⟨z, rfl, hq⟩ := z
      exact wpAny_pure hq) fun _ _ e => e
  unfold binaryOp1
  refine wpAny_bind (J.type.here ?_)
  rcases hy with ⟨j, rfl⟩ | ⟨b, dy, gs, rfl, hb'⟩
  · obtain ⟨t, rfl⟩ := ry
    have L4 : Looks (model X.prog X.w) s.heap (fillsNumberSlot (.type "int") op.info.2) _ := PySem.W.ksp_fillsT KX h1 h2
    have hne : (Value.ref C == Value.type "int") = false := Bool.eq_false_iff.mpr fun q => by cases beq_iff_eq.mp q
    have hpy : numberSlotInPython (.type "int") op.info.2 = pure false := rfl
    refine wpAny_bind (wpAny_of_eq (show typeOf (.int j t) = pure (.type "int") from rfl) (wpAny_bind (L3.here ?_)))
    simp only [hne, Bool.false_eq_true, if_false]
    refine wpAny_bind (L4.here ?_)
    generalize ((fo.isSome && !isSeqSlot fo) || (ro.isSome && !isSeqSlot ro)) = rt
    cases rt with
    | false =>
      simp only [Bool.and_false, Bool.false_and, Bool.false_eq_true, if_false, if_true, pure_bind]
      refine wpAny_bind (wpAny_mono one (fun r s' z => ?_) fun _ _ e => e)
      obtain ⟨z, rfl, hq⟩ := z
      exact wpAny_pure ⟨_, rfl, hq⟩
    | true =>
      simp only [Bool.and_self, if_true]
      refine wpAny_bind ((PySem.W.looks_subIn KX hsub).here ?_)
      simp only [Bool.false_eq_true, if_false, pure_bind, Bool.not_false, Bool.and_self, if_true]
      refine wpAny_bind (L6.here ?_)
      simp only [hpy, pure_bind, Bool.not_false, if_true]
      refine wpAny_bind ((PySem.W.looks_findIn KX h2).here ?_)
      refine wpAny_bind (wpAny_mono one (fun r s' z => ?_) fun _ _ e => e)
      obtain ⟨z, rfl, hq⟩ := z
      exact wpAny_pure ⟨_, rfl, hq⟩
  · cases ry
    obtain ⟨mB, O', _⟩ := ins_get I.hok hb'
    obtain ⟨od', J', _⟩ := O'.look
    refine wpAny_bind (J'.type.here (wpAny_bind (L3.here ?_)))
    simp only [beq_self_eq_true, if_true, pure_bind, Bool.and_false, Bool.false_and, Bool.false_eq_true, if_false]
    refine wpAny_bind (wpAny_mono one (fun r s' z => ?_) fun _ _ e => e)
    obtain ⟨z, rfl, hq⟩ := z
    exact wpAny_pure ⟨_, rfl, hq⟩
end
end Own
set_option maxRecDepth 100000
set_option maxHeartbeats 4000000
/-! x op= e by an own method that only raises; what is wanted behind it may speak of the names. -/
namespace Own
open PySem PySem.Spec PyProof.Rows L2
open PySem.W (Looks findIn)
section
variable {X : Cx} {k : Nat} {C f : Addr} {fd : FuncData} {ps : List Str} {sp : Sp} {op : Operator} {W : WX} {i : Nat} {n : Str} {e : Expr} {te : TE} {pos pos' : Pos}
theorem ps_ipL {fo ro rc : Option Value} (tk : Takes X W) (hN : X.N.Nodup) (hi : X.N[i]? = some n) (hx : X.env.scope.names.lookup n = some .local) (he : PE X e te) (F : FnOk X.prog X.w X.K X.mg X.base (L2.CX X.prog X.w) k f fd ps sp) (hr : Room k X.A)
    (hs : findIn X.K (.ref C) (PySem.dunder op.info.2) = some (some (.ref f))) (hf : PySem.W.isFn X.K (.ref f) = true)
    (hc : PySem.W.selfFirst X.K C = true) (hR : findIn X.K (.ref C) (dunderR op.info.2) = some rc) (hp : rc = none ∨ ∃ g : Addr, rc = some (.ref g)) (h1 : findIn X.K (.type "int") (PySem.dunder op.info.2) = some fo)
    (h2 : findIn X.K (.type "int") (dunderR op.info.2) = some ro) (hsub : PySem.W.subIn X.K (.type "int") (.ref C) = some false) (hno : noIn X.K C (dunderI op.info.2) = true) (hb : Binds X.K fd ps []) :
    PS X (.AugAssign (.Name n pos') op e pos) (fun _ σ H => ∃ a, σ[i]? = some (some (.ref a)) ∧ te σ H fun y H1 => ∃ dx fs, H1 a = some (.ins C dx fs) ∧ ((∃ j, y = .int j) ∨ ∃ b dy gs, y = .ref b ∧ H1 b = some (.ins C dy gs)) ∧ sp [.ref a, y] H1 (fun _ _ => False) fun cls d H2 => W cls d σ H2) := by
  refine ⟨fun pins s σ H D I h => ?_⟩
  obtain ⟨a, ea, h⟩ := h
  obtain ⟨m, hn, hl⟩ := id I.loc
  obtain ⟨u, ru, l⟩ := hl i n (.ref a) hi ea (.inl hx)
  obtain rfl : u = Value.ref a := ru
  have hk : X.env.kindOf n = some .local := hx
  rcases l with ⟨_, hm⟩ | ⟨hk', _⟩
  · refine wpAny_AugAssign_Name (wpAny_loadName_local I.ok.kind hk hn hm ?_)
    refine wpAny_mono (he.run pins s σ H _ I h) (fun v t z => ?_) fun _ _ e => e
    obtain ⟨y, H1, J, ry, dx, fs, ha, hy, hsp⟩ := z
    obtain ⟨mA, O, _⟩ := ins_get J.hok ha
    obtain ⟨od, L, _⟩ := O.look
    have KX := J.kIn
    obtain ⟨cd, rest, hcd, hmro⟩ := PySem.W.ksp_first hc
    have one : wpAny (model X.prog X.w) X.A (tryMethod (.ref a) (PySem.dunder op.info.2) v) (fun r s' => ∃ z, r = some z ∧ False) X.xe t := by
      have r2 : Vals [V.ref a, y] [Value.ref a, v] := .cons rfl (.cons ry .nil)
      have hlen : [Value.ref a, v].length = ps.length := by rw [← r2.length]; exact F.len _ _ _ _ hsp
      refine PySem.W.ksp_try KX L hs hf (wpAny_call (codeAny_mono (F.run X.A X.stack t H1 ⟨[Value.ref a, v], []⟩ _ _ _ _ hr J.env0 (hb t _ KX hlen) r2 hsp) fun r s' q => ?_))
      cases r with
      | error x => exact tk x s' (XE.of_call J (fun _ _ _ z => z) q)
      | ok fl => cases fl with
        | ret w => exact absurd (J.after q) (fun ⟨_, _, _, _, z⟩ => z)
        | next => exact False.elim q
        | brk => exact False.elim q
        | cont => exact False.elim q
    have L3 : Looks (model X.prog X.w) t.heap (fillsNumberSlot (.ref C) op.info.2) true := PySem.W.fills_K KX hcd hmro hs
    have L6 : Looks (model X.prog X.w) t.heap (numberSlotInPython (.ref C) op.info.2) true := PySem.W.ksp_inPy KX hs hR hp
    have one' : ∀ {Q : Option Value → Shared → Prop}, wpAny (model X.prog X.w) X.A (tryMethod (.ref a) (PySem.dunder op.info.2) v) Q X.xe t := wpAny_mono one (fun r s' ⟨_, _, z⟩ => z.elim) fun _ _ e => e
    unfold inplaceOp
    refine wpAny_holding (wpAny_bind (L.type.here (wpAny_bind ((noI KX hno).here ?_))))
    simp only [Bool.false_eq_true, if_false]
    refine wpAny_bind ?_
    unfold binaryOp1
    refine wpAny_bind (L.type.here ?_)
    rcases hy with ⟨j, rfl⟩ | ⟨b, dy, gs, rfl, hb'⟩
    · obtain ⟨tok, rfl⟩ := ry
      have L4 : Looks (model X.prog X.w) t.heap (fillsNumberSlot (.type "int") op.info.2) _ := PySem.W.ksp_fillsT KX h1 h2
      have hne : (Value.ref C == Value.type "int") = false := Bool.eq_false_iff.mpr fun q => by cases beq_iff_eq.mp q
      have hpy : numberSlotInPython (.type "int") op.info.2 = pure false := rfl
      refine wpAny_bind (wpAny_of_eq (show typeOf (.int j tok) = pure (.type "int") from rfl) (wpAny_bind (L3.here ?_)))
      simp only [hne, Bool.false_eq_true, if_false]
      refine wpAny_bind (L4.here ?_)
      generalize ((fo.isSome && !isSeqSlot fo) || (ro.isSome && !isSeqSlot ro)) = rt
      cases rt with
      | false =>
        simp only [Bool.and_false, Bool.false_and, Bool.false_eq_true, if_false, if_true, pure_bind]
        exact wpAny_bind one'
      | true =>
        simp only [Bool.and_self, if_true]
        refine wpAny_bind ((PySem.W.looks_subIn KX hsub).here ?_)
        simp only [Bool.false_eq_true, if_false, pure_bind, Bool.not_false, Bool.and_self, if_true]
        refine wpAny_bind (L6.here ?_)
        simp only [hpy, pure_bind, Bool.not_false, if_true]
        exact wpAny_bind ((PySem.W.looks_findIn KX h2).here (wpAny_bind one'))
    · cases ry
      obtain ⟨mB, O', _⟩ := ins_get J.hok hb'
      obtain ⟨od', J', _⟩ := O'.look
      refine wpAny_bind (J'.type.here (wpAny_bind (L3.here ?_)))
      simp only [beq_self_eq_true, if_true, pure_bind, Bool.and_false, Bool.false_and, Bool.false_eq_true, if_false]
      exact wpAny_bind one'
  · rw [hk] at hk'
    rcases hk' with z | z <;> cases z
end
end Own
set_option maxRecDepth 100000
set_option maxHeartbeats 4000000
namespace Own
open PySem PySem.Spec PyProof.Rows L2
def tSMethK0 (C : Addr) (n : Nat) (sp : Sp) (gV : List V → List V → List V) (E : XK) (ta : TE) (tk : TA) : TE := fun σ H Q => ta σ H fun x H1 => x = .ref C ∧ tk σ H1 fun zs H2 => zs.length = n ∧ sp (gV [] zs) H2 Q E
section
variable {X : Cx} {CX : CXT} {k : Nat} {C p f : Addr} {mc : Value} {sp : Sp} {E : XK} {o : Expr} {m : Str} {pos apos : Pos} {ta : TE} {tk : TA} {pl : Sem Bool} {fd : FuncData} {ps ks : List Str} {kws : List Keyword} {g : List Value → List Value → List Value} {gV : List V → List V → List V}
theorem pe_smethK0 (r : ClX.CRead X.K C mc) (c : SMet X.K C mc m p f) (F : FnOk X.prog X.w X.K X.mg X.base CX k f fd ps sp) (hr : Room k X.A) (hb : KBn X.K fd ps 0 ks g gV) (hx : Passes CX X E) (he : PE X o ta) (hkw : PK X kws tk)
    (hall : (backToKw pos (keywordEach kws X.env)).all (·.1.isSome) = true := by rfl) (hks : (backToKw pos (keywordEach kws X.env)).filterMap (·.1) = ks := by rfl)
    (hpl : ((backTo pos (starEach [] X.env)).any (·.1) || (backToKw pos (keywordEach kws X.env)).any (·.1.isNone)) = false := by rfl)
    (ht : eval (.Call (.Attribute o m apos) [] kws pos) X.env = (do
      let ov ← eval o X.env
      standAt apos.atName
      let (f, first) ← holding [ov] (getMethod ov m pl)
      callWith pos f first (backTo pos (starEach [] X.env)) (backToKw pos (keywordEach kws X.env))) := by rfl) :
    PE X (.Call (.Attribute o m apos) [] kws pos) (tSMethK0 C ks.length sp gV E ta tk) := by
  refine ⟨fun pins s σ H Q I h => ?_⟩
  refine PySem.W.methodCall_KW (pl := pl) (thn (he.run pins s σ H _ I h) fun u s1 z => ?_) ht
  obtain ⟨x, H1, I1, rx, ex, q⟩ := z
  subst ex
  obtain rfl : u = Value.ref C := rx
  refine PySem.W.method_cls I1.kIn r.ga (getsm_ok I1 r c fun s2 I2 => ?_)
  refine PySem.W.callWith_KW0 (first := []) (h₀ := X.base) I.ok.mod.kin c.kp hall (thn (hkw.run pos pins s2 σ H1 _ I2 q) fun ws s3 z => ?_) hpl
  obtain ⟨zs, H2, I3, rz, hl, q2⟩ := z
  refine ⟨I3.kIn, ?_⟩
  rw [hks]
  exact run_fnN (us := []) (vs := []) F hr hb hx I3 .nil rz rfl hl q2
end
end Own
set_option maxRecDepth 100000
set_option maxHeartbeats 4000000
/-! o.f(e, ..), where the object's own attribute f is an instance that may be called. -/
namespace Own
open PySem PySem.Spec PyProof.Rows L2
def tCallF (X : Cx) (D : Addr) (m : Str) (sp : Sp) (E : XK) (ta : TE) (t : TA) : TE := fun σ H Q => ta σ H fun x H1 => ∃ a C dx fs b, x = .ref a ∧ H1 a = some (.ins C dx fs) ∧ Cls X.K C ∧ NoAttr X.K C m ∧ fs.lookup m = some (.ref b) ∧ t σ H1 fun vs H2 => (∃ dy gs, H2 b = some (.ins D dy gs)) ∧ sp (.ref b :: vs) H2 Q E
section
variable {X : Cx} {CX : CXT} {k : Nat} {D g : Addr} {sp : Sp} {E : XK} {o e : Expr} {es : List Expr} {m : Str} {pos apos : Pos} {ta : TE} {t : TA} {pl : Sem Bool} {fd : FuncData} {ps : List Str}
theorem pe_callF (he : PE X o ta) (c : StX.CallO X.K D g) (F : FnR X.prog X.w X.K X.mg X.base CX k g sp) (hr : Room k X.A) (hx : Passes CX X E) (ha : PA X (e :: es) t)
    (hst : starEach (e :: es) X.env = (false, eval e X.env) :: starEach es X.env := by rfl) (hpl : (backTo pos (starEach es X.env)).any (·.1) = false := by rfl)
    (ht : eval (.Call (.Attribute o m apos) (e :: es) [] pos) X.env = (do
      let ov ← eval o X.env
      standAt apos.atName
      let (f, first) ← holding [ov] (getMethod ov m pl)
      callWith pos f first (backTo pos (starEach (e :: es) X.env)) (backToKw pos (keywordEach [] X.env))) := by rfl) :
    PE X (.Call (.Attribute o m apos) (e :: es) [] pos) (tCallF X D m sp E ta t) := by
  refine ⟨fun pins s σ H Q I h => ?_⟩
  refine PySem.W.methodCall_KW (pl := pl) (thn (he.run pins s σ H _ I h) fun u s1 z => ?_) ht
  obtain ⟨x, H1, I1, rx, a, C, dx, fs, b, ex, ea, cc, na, l, q⟩ := z
  subst ex
  obtain rfl : u = Value.ref a := rx
  obtain ⟨mA, O, _⟩ := ins_get I1.hok ea
  obtain ⟨od, J, _⟩ := O.look
  refine PySem.W.method_usual I1.kIn J (PySem.W.plainGet_of (cc.get m)).1 (PySem.W.plainGet_of (cc.get m)).2 na rfl ?_
  refine getattr_ok I1 ea cc na l fun u' s2 I2 ru => ?_
  obtain rfl : u' = Value.ref b := ru
  refine StX.callO_with (thn (ha.run pos pins s2 σ H1 _ I2 q) fun us s3 z => ?_) hst hpl
  obtain ⟨vs, H2, I3, r, hb, q2⟩ := z
  have hi : StX.InsC X H2 b D := .inr hb
  obtain ⟨ox, od2, J2, hd⟩ := StX.insC_at I3 hi
  exact ⟨⟨D, ox, od2, J2, hd⟩, StX.run_callO c F hr hx I3 hi r q2⟩
end
end Own
set_option linter.all false
set_option maxRecDepth 100000
set_option maxHeartbeats 4000000
/-! A def whose body is `return super().m(..)`: its promise by that of the method which is found behind its class. -/
namespace Own
open PySem PySem.Spec PyProof.Rows L2 ClX
/-- the names of such a def: the parameters first, the cell of the class free -/
structure SScope (N P : List Str) (sc : Scope) : Prop where
  kind : sc.kind = .function
  co : sc.isCoroutine = false
  gen : sc.isGenerator = false
  nd : N.Nodup
  pre : N.take P.length = P
  par : ∀ x ∈ P, sc.names.lookup x = some .local
  nocell : ∀ y ∈ sc.names, y.2 ≠ .cell
  free : ∀ y ∈ sc.names, y.2 = .free → y.1 = "__class__"
  su : sc.names.lookup ("super" : Str) = some .globalImplicit
  cl : sc.names.lookup ("__class__" : Str) = some .free
theorem rev_lookup : ∀ {ps : List Str} {us : List Value} {i : Nat} {y : Str} {u : Value}, ps.Nodup → ps[i]? = some y → us[i]? = some u → (ps.zip us).reverse.lookup y = some u
  | [], _, _, _, _, _, h, _ => by simp at h
  | _ :: _, [], _, _, _, _, _, h => by simp at h
  | p :: ps, v :: us, 0, y, u, nd, h, g => by
    simp only [List.getElem?_cons_zero, Option.some.injEq] at h g
    subst h
    subst g
    rw [List.zip_cons_cons, List.reverse_cons, List.lookup_append]
    have hn : (ps.zip us).reverse.lookup p = none := by
      rw [List.lookup_eq_none_iff]
      intro q hq
      have hm := List.mem_reverse.mp hq
      have := (List.of_mem_zip (show (q.1, q.2) ∈ ps.zip us from hm)).1
      have ne : p ≠ q.1 := fun e => (List.nodup_cons.mp nd).1 (e ▸ this)
      simpa using ne
    rw [hn]
    simp
  | p :: ps, v :: us, i + 1, y, u, nd, h, g => by
    simp only [List.getElem?_cons_succ] at h g
    rw [List.zip_cons_cons, List.reverse_cons, List.lookup_append, rev_lookup (List.nodup_cons.mp nd).2 h g]
    rfl
def cxS (P : Program) (w : World) (K : PySem.W.Frag) (mg : Str → Option Value) (base : Heap) (N : List Str) (qual : Str) (scope : Scope) (f : Addr) (cd : Value) (cc : Addr) (A : Around) (outer : List Env) (s : Shared) (H : Hp) : Cx :=
  { cxOf CX0 P w K mg base N qual scope f cd A outer s H E0 with
    A := A.deeper (PySem.W.ksEnv qual scope s.heap.objs.size f cd cc)
    env := PySem.W.ksEnv qual scope s.heap.objs.size f cd cc
    stack := PySem.W.ksEnv qual scope s.heap.objs.size f cd cc :: outer
    fn := fun x => x != "__class__"
    xe := fun _ _ => False }
section
variable {P : Program} {w : World} {K : PySem.W.Frag} {mg : Str → Option Value} {base : Heap} {N ps : List Str} {name qual m : Str} {params : Arguments} {scope : Scope} {f f2 cc cda C D : Addr} {A : Around} {outer : List Env} {s : Shared} {H : Hp}
theorem inv_startS {us : List Value} {vs : List V} {cd : Value} {D' : Option Value} {cl : Value} {cld : Option Addr} {csl : Array (Option Value)} {h₀ : Heap} {tk : Nat} (S : SScope N ps scope) (hd : A.handled = none) (e0 : Env0 P w K mg base A outer s H) (hl : vs.length = ps.length) (r : Vals vs us)
    (hcell : K.lookup cc = some ⟨cl, cld, .cell D', csl⟩) (hns : h₀.Ns s.heap.objs.size (fun x => (ps.zip us).reverse.lookup x)) (hk : ∀ b o, s.heap.get? b = some o → h₀.get? b = some o) :
    Inv (cxS P w K mg base N qual scope f cd cc A outer s H) [] (L2.start N vs) H { s with heap := h₀, toks := tk } := by
  have hpl : ps.length ≤ N.length := by have := congrArg List.length S.pre; rw [List.length_take] at this; omega
  have noA : ∀ b : Addr, b ∉ (cxS P w K mg base N qual scope f cd cc A outer s H).ex := fun b z => absurd (show b ∈ ([] : List Addr) from z) (by simp)
  have one : ∀ {x : Str} {c : Addr}, ([("__class__", cc)] : List (Str × Addr)).lookup x = some c → x = "__class__" ∧ c = cc := fun {x c} h => by
    have hm := PySem.mem_of_lookup h
    rw [List.mem_singleton] at hm
    exact ⟨congrArg Prod.fst hm, congrArg Prod.snd hm⟩
  have bcc := e0.mod.kin _ _ hcell
  have scc := e0.bs _ _ bcc
  refine ⟨⟨e0.mod, S.kind, rfl, rfl, Nat.le_refl _, fun y z c h1 h2 => ?_, fun y hy => ?_, fun y c h1 h2 => ?_, fun _ => hd, Around.frames_deeper e0.frames, .inr ⟨rfl, rfl⟩, fun b z => absurd z (noA b), e0.bs, e0.bsz, fun b _ _ => noA b, fun b z => absurd z (noA b), e0.funs, e0.frf⟩,
    rfl, e0.bare, Un.kept hk, ⟨_, hns, fun i y v h1 h2 h3 => ?_⟩, fun y c h => ?_, e0.hok.fresh (Nat.le_refl _), fun y c h => ?_, fun p hp => absurd (show p ∈ ([] : List (Addr × Obj)) from hp) (by simp), e0.hok.kept hk, ?_⟩
  · rw [(one h1).1, (one h2).1]
  · have hy : scope.names.lookup y = some .cell ∨ scope.names.lookup y = some .free := hy
    rcases hy with hy | hy
    · exact absurd rfl (S.nocell _ (PySem.mem_of_lookup hy))
    · have e := S.free _ (PySem.mem_of_lookup hy) rfl
      have e : y = "__class__" := e
      subst e
      exact ⟨cc, rfl⟩
  · have e := (one h2).1
    subst e
    cases h1
  · have hi : i < vs.length := by
      unfold L2.start at h2
      by_cases hi : i < vs.length
      · exact hi
      · rw [List.getElem?_append_right (by simpa using hi)] at h2
        rw [List.getElem?_replicate] at h2
        split at h2 <;> cases h2
    have ha : vs[i]? = some v := by
      unfold L2.start at h2
      rw [List.getElem?_append_left (by simpa using hi), List.getElem?_map] at h2
      cases e : vs[i]? with
      | none => rw [e] at h2; cases h2
      | some a => rw [e] at h2; cases h2; rfl
    obtain ⟨u, hu, rv⟩ := r.get ha
    have hp : ps[i]? = some y := by
      rw [← S.pre, List.getElem?_take_of_lt (by omega)]; exact h1
    have ndP : ps.Nodup := by rw [← S.pre]; exact S.nd.sublist (List.take_sublist _ _)
    exact ⟨u, rv, .inl ⟨S.par y (List.mem_of_getElem? hp), rev_lookup ndP hp hu⟩⟩
  · obtain ⟨_, e⟩ := one h
    subst e
    exact ⟨D', _, hk _ _ scc.1, rfl⟩
  · obtain ⟨_, e⟩ := one h
    subst e
    exact scc.2
  · unfold L2.start
    show _ = N.length
    rw [List.length_append, List.length_map, List.length_replicate]
    omega
/-- what of the text such a def must have -/
structure SupF (P : Program) (K : PySem.W.Frag) (mg : Str → Option Value) (f cc D : Addr) (name qual : Str) (params : Arguments) (body : List Stmt) (scope : Scope) (fd : FuncData) (ar : Arg) : Prop where
  ex : ∃ (oc : Value) (od : Option Addr) (dV kV doc pm ct : Value) (an : Option Addr) (cda : Addr) (osl : Array (Option Value)) (ccl : Value) (cdd : Option Addr) (vs : Array Value) (ccs : Array (Option Value)) (file : Str) (tf : Tok),
    fd = PySem.W.ksFn name qual params body scope dV kV doc pm an (.ref cda) ct cc ∧ K.lookup f = some ⟨oc, od, .func fd, osl⟩ ∧ PySem.W.codeIn K (.ref cda) qual = true ∧ K.lookup cda = some ⟨ccl, cdd, .fields vs, ccs⟩ ∧ vs[2]? = some (.str file tf) ∧ ((P.main.file : Str) == file) = true
  cell : ∃ (cl : Value) (cld : Option Addr) (csl : Array (Option Value)), K.lookup cc = some ⟨cl, cld, .cell (some (.ref D)), csl⟩
  cls : (PySem.W.clsIn K D).isSome = true
  first : (params.posonlyargs ++ params.args).head? = some ar
  no : mg "super" = none
  top : (P.main.scope.names.lookup ("super" : Str)).isSome = false
  any : PySem.W.nsIn K cStatics "thirdparty.any" = some none
/-- the base of the attribute: the object that super() makes, pinned -/
theorem super_obj {fd : FuncData} {body : List Stmt} {ar : Arg} {p0 p1 : Pos} {whole : Sem Value} {cdv : Value} {pins : List (Addr × Obj)} {σ : L2.St} {H' : Hp} {s1 : Shared} {a dx : Addr} {fs : List (Str × V)} {Q : Value → Shared → Prop} {E : Value → Shared → Prop}
    (F : SupF P K mg f cc D name qual params body scope fd ar) (hcd : fd.code = cdv) (S : SScope N ps scope) (hm : (m == ("__class__" : Str)) = false) (hsub : PySem.W.mroIn K C (.ref D) = some true) (hN : N[0]? = some ar.arg) (hpar : scope.names.lookup ar.arg = some .local)
    (I : Inv (cxS P w K mg base N qual scope f cdv cc A outer s H) pins σ H' s1) (hσ : σ[0]? = some (some (.ref a))) (ha : H' a = some (.ins C dx fs))
    (h : ∀ s2, Inv (cxS P w K mg base N qual scope f cdv cc A outer s H) ((s1.heap.objs.size, PySem.W.ks_superObj D a C) :: pins) σ H' s2 → Q (.ref s1.heap.objs.size) s2) :
    _root_.PySem.wpAt (model P w) (A.deeper (PySem.W.ksEnv qual scope s.heap.objs.size f cdv cc)) (.func body (PySem.W.ksEnv qual scope s.heap.objs.size f cdv cc)) (attributeBase (.Call (.Name "super" p0) [] [] p1) m (PySem.W.ksEnv qual scope s.heap.objs.size f cdv cc) whole) Q E s1 := by
  obtain ⟨oc, od, dV, kV, doc, pm, ct, an, cda, osl, ccl, cdd, vs, ccs, file, tf, rfl, lk, hco, hcode, hvs, hfile⟩ := F.ex
  obtain rfl : Value.ref cda = cdv := hcd
  obtain ⟨cl, cld, csl, hcell⟩ := F.cell
  have X : K.In s1.heap := I.kIn
  obtain ⟨cdD, hD⟩ := Option.isSome_iff_exists.mp F.cls
  obtain ⟨mb, hb1, hb2⟩ := I.ok.mod.blt
  obtain ⟨oD, hD1, hD2⟩ : ∃ oD, s1.heap.get? D = some oD ∧ oD.data = .cls cdD := by
    unfold PySem.W.clsIn at hD
    split at hD
    · rename_i c d cd' sl ho
      cases hD
      exact ⟨_, X _ _ ho, rfl⟩
    · cases hD
  obtain ⟨mA, J, _⟩ := ins_get I.hok ha
  obtain ⟨od2, J2, _⟩ := J.look
  refine PySem.ks_wpAt_super_base (env := PySem.W.ksEnv qual scope s.heap.objs.size f (.ref cda) cc) S.su S.cl hm rfl (X _ _ lk) rfl F.first rfl (X _ _ hcode) rfl hvs hfile F.top ?_
  refine PySem.W.ks_loadName_global S.kind S.su (Calls.loadGlobal_builtin (env := PySem.W.ksEnv qual scope s.heap.objs.size f (.ref cda) cc) (I.ok.mod.glob.keeps I.bk) F.no (hb1.keeps I.bk) ((hb2 _ (by decide)).trans (show bootBuiltins "super" = some (.type "super") by decide +kernel)) ⟨rfl, ?_⟩)
  refine wpAny_loadName_free S.kind S.cl rfl ⟨_, X _ _ hcell, rfl⟩ ?_
  obtain ⟨mm, hn, hlook⟩ := I.loc
  obtain ⟨u, hu, hl⟩ := hlook 0 ar.arg (.ref a) hN hσ (.inl hpar)
  obtain rfl : u = Value.ref a := hu
  have hm2 : mm ar.arg = some (.ref a) := by
    rcases hl with ⟨_, e⟩ | ⟨e, _⟩
    · exact e
    · have e : scope.names.lookup ar.arg = some .cell ∨ scope.names.lookup ar.arg = some .free := e
      rw [hpar] at e
      rcases e with e | e <;> cases e
  refine wpAny_loadName_local S.kind hpar hn hm2 ?_
  refine PySem.ks_wpAny_isType_cls hD1 hD2 ⟨rfl, ?_⟩
  obtain ⟨hh, g, d, t, os⟩ := s1
  refine PySem.ks_wpAny_call_super hD1 hD2 J2.at_ J2.cls (fun c e => ?_) (PySem.W.looks_mroIn X hsub) (fun h' e k => ?_)
  · have := J2.no
    unfold PySem.W.notCls at this
    rw [e] at this
    exact Bool.noConfusion this
  · exact h _ (ClX.pin_new I k (Nat.le_refl _) e (fun v z => nomatch z))
theorem fn_super {k : Nat} {fd : FuncData} {body : List Stmt} {ar : Arg} {p0 p1 apos pos rpos : Pos} {e : Expr} {es : List Expr} {t : TA} {pl : Sem Bool} {sp sp' : Sp}
    (F : SupF P K mg f cc D name qual params body scope fd ar) (S : SScope N ps scope) (hbd : body = [.Return (some (.Call (.Attribute (.Call (.Name "super" p0) [] [] p1) m apos) (e :: es) [] pos)) rpos])
    (hm : (m == ("__class__" : Str)) = false) (hsub : PySem.W.mroIn K C (.ref D) = some true) (hN : N[0]? = some ar.arg) (hpar : scope.names.lookup ar.arg = some .local)
    (hs : PySem.W.ks_superIn K C D m = some (some (.ref f2))) (ht : PySem.W.typeIn K (.ref f2) = some (.type "function")) (hfi : PySem.W.fnIn K f2 = true) (F2 : FnR P w K mg base CX0 k f2 sp)
    (ha : ∀ cdv A outer s H, PA (cxS P w K mg base N qual scope f cdv cc A outer s H) (e :: es) t) (len : ∀ vs H Q E, sp' vs H Q E → vs.length = ps.length)
    (hsp : ∀ vs H Q E, sp' vs H Q E → ∃ a dx fs, (L2.start N vs)[0]? = some (some (.ref a)) ∧ H a = some (.ins C dx fs) ∧ t (L2.start N vs) H fun us H1 => sp (.ref a :: us) H1 Q E)
    (he : ∀ env : Env, eval (.Call (.Attribute (.Call (.Name "super" p0) [] [] p1) m apos) (e :: es) [] pos) env = (do
      let ov ← attributeBase (.Call (.Name "super" p0) [] [] p1) m env (eval (.Call (.Name "super" p0) [] [] p1) env)
      standAt apos.atName
      let (f, first) ← holding [ov] (getMethod ov m pl)
      callWith pos f first (backTo pos (starEach (e :: es) env)) []))
    (hst : ∀ env : Env, starEach (e :: es) env = (false, eval e env) :: starEach es env) (hpl : ∀ env : Env, (backTo pos (starEach es env)).any (·.1) = false) :
    FnOk P w K mg base CX0 (k + 1) f fd ps sp' := by
  refine ⟨len, fun A outer s H args us vs Q E hr e0 hb' r hp' => ?_⟩
  have F' := F
  obtain ⟨oc, od, dV, kV, doc, pm, ct, an, cda, osl, ccl, cdd, vs0, ccs, file, tf, rfl, lk, hcd, hcode, hvs, hfile⟩ := F.ex
  obtain ⟨cl, cld, csl, hcell⟩ := F.cell
  have KX : K.In s.heap := e0.mod.kin.keeps fun b o e => (e0.bs b o e).1
  have lim : s.heap.NoLimit := e0.mod.nolimit.keeps fun b o e => (e0.bs b o e).1
  obtain ⟨a, dx, fs, hσ, ha0, q⟩ := hsp _ _ _ _ hp'
  refine PySem.ks_codeAny_call_defAt (fd := PySem.W.ksFn name qual params body scope dV kV doc pm an (.ref cda) ct cc) (body := body) (binds := ps.zip us) hr.depth (KX _ _ lk) rfl lim (PySem.W.codeRec_of KX hcd) rfl hb' S.nocell (fun y hy => S.par _ (List.of_mem_zip (show (y.1, y.2) ∈ ps.zip us from hy)).1) (fun h₀ hns hk => ?_) S.co S.gen S.kind
  have I := inv_startS (P := P) (w := w) (mg := mg) (base := base) (qual := qual) (f := f) (A := A) (outer := outer) (cd := .ref cda) (tk := s.toks + (ps.zip us).length) S hr.hd e0 (len _ _ _ _ hp') r hcell hns hk
  have hr2 : Room k (cxS P w K mg base N qual scope f (.ref cda) cc A outer s H).A := hr.deeper _
  show _root_.PySem.wpAt (model P w) (A.deeper (PySem.W.ksEnv qual scope s.heap.objs.size f (.ref cda) cc)) (.func body (PySem.W.ksEnv qual scope s.heap.objs.size f (.ref cda) cc)) (execs body (PySem.W.ksEnv qual scope s.heap.objs.size f (.ref cda) cc)) _ _ _
  have go : _root_.PySem.wpAt (model P w) (A.deeper (PySem.W.ksEnv qual scope s.heap.objs.size f (.ref cda) cc)) (.func body (PySem.W.ksEnv qual scope s.heap.objs.size f (.ref cda) cc)) (eval (.Call (.Attribute (.Call (.Name "super" p0) [] [] p1) m apos) (e :: es) [] pos) (PySem.W.ksEnv qual scope s.heap.objs.size f (.ref cda) cc))
      (fun v s' => CE outer P w H s Q v s') (fun _ _ => False) { s with heap := h₀, toks := s.toks + (ps.zip us).length } := by
    refine PySem.ks_wpAt_MethodCall (pl := pl) (super_obj F' rfl S hm hsub hN hpar I hσ ha0 fun s2 I2 => ?_) (he _)
    have hso := ClX.pin_at I2
    have X2 : K.In s2.heap := I2.kIn
    obtain ⟨mA, J, _⟩ := ins_get I2.hok ha0
    obtain ⟨od2, J2, _⟩ := J.look
    obtain ⟨cdC, hc⟩ : ∃ cd, PySem.W.clsIn K C = some cd := by
      cases z : PySem.W.clsIn K C with
      | none => unfold PySem.W.ks_superIn at hs; rw [z] at hs; cases hs
      | some cd => exact ⟨cd, rfl⟩
    unfold PySem.W.ks_superIn at hs
    rw [hc] at hs
    obtain ⟨of, hof, hofc⟩ : ∃ of, s2.heap.get? f2 = some of ∧ of.cls = .type "function" := by
      have ht' : (K.lookup f2).map (·.cls) = some (.type "function") := ht
      cases z : K.lookup f2 with
      | none => rw [z] at ht'; cases ht'
      | some of => rw [z] at ht'; exact ⟨of, X2 _ _ z, Option.some.inj ht'⟩
    obtain ⟨hh, g, d, t', os⟩ := s2
    refine PySem.ks_wpAny_getMethod_super hso (PySem.W.looks_opaque X2 F'.any) (l₀ := cdC.mro) (fun A Q E s k q => wpAny_bind ((PySem.W.looks_clsIn X2 hc) A _ E s k (wpAny_pure q))) rfl X2 hs hof hofc (PySem.W.ks_ne X2 J2 hc) hm ?_
    have I3 := ClX.pin_new (t' := t' + 1) (o := PySem.W.methodObj (.ref f2) (.ref a)) I2 (h' := hh.push { cls := .type "method", data := .fields #[.ref f2, .ref a] }) (fun b o e => Heap.get?_push_of_some _ e) (Nat.le_refl _) (Heap.get?_push_at rfl rfl) (fun v z => nomatch z)
    have fin : ∀ {v : Value} {s' : Shared} {pins : List (Addr × Obj)}, EP (cxS P w K mg base N qual scope f (.ref cda) cc A outer s H) pins (L2.start N vs) Q v s' → CE outer P w H s Q v s' := fun ⟨v', H', J, rv, q'⟩ => ⟨v', H', J.os, J.bare, J.base, J.hok, rv, q'⟩
    refine ClX.callwith_cm (g := f2) (C := a) I3 (ClX.base_none I2 (Nat.le_refl _)) hfi (thn ((ha (.ref cda) A outer s H).run pos _ _ _ H _ I3 q) fun us s4 ⟨ws, H2, I4, rv, q2⟩ => ⟨⟨ClX.pin_at I4, I4.kIn⟩, ?_⟩) (hst _) (hpl _)
    exact wpAny_mono (ClX.run_cm F2 hr2 (fun _ _ _ _ _ _ _ h => h.elim) I4 rv q2) (fun _ _ z => fin z) fun _ _ z => z
  subst hbd
  refine PySem.ks_wpAt_execs_cons (PySem.ks_wpAt_Return_some (PySem.ks_wpAt_mono go (fun v s' h => h) fun _ _ z => z.elim))
theorem fn_super0 {k : Nat} {fd : FuncData} {body : List Stmt} {ar : Arg} {p0 p1 apos pos rpos : Pos} {pl : Sem Bool} {sp sp' : Sp}
    (F : SupF P K mg f cc D name qual params body scope fd ar) (S : SScope N ps scope) (hbd : body = [.Return (some (.Call (.Attribute (.Call (.Name "super" p0) [] [] p1) m apos) [] [] pos)) rpos])
    (hm : (m == ("__class__" : Str)) = false) (hsub : PySem.W.mroIn K C (.ref D) = some true) (hN : N[0]? = some ar.arg) (hpar : scope.names.lookup ar.arg = some .local)
    (hs : PySem.W.ks_superIn K C D m = some (some (.ref f2))) (ht : PySem.W.typeIn K (.ref f2) = some (.type "function")) (hfi : PySem.W.fnIn K f2 = true) (F2 : FnR P w K mg base CX0 k f2 sp)
    (len : ∀ vs H Q E, sp' vs H Q E → vs.length = ps.length)
    (hsp : ∀ vs H Q E, sp' vs H Q E → ∃ a dx fs, (L2.start N vs)[0]? = some (some (.ref a)) ∧ H a = some (.ins C dx fs) ∧ sp [.ref a] H Q E)
    (he : ∀ env : Env, eval (.Call (.Attribute (.Call (.Name "super" p0) [] [] p1) m apos) [] [] pos) env = (do
      let ov ← attributeBase (.Call (.Name "super" p0) [] [] p1) m env (eval (.Call (.Name "super" p0) [] [] p1) env)
      standAt apos.atName
      let (f, first) ← holding [ov] (getMethod ov m pl)
      callWith pos f first (backTo pos (starEach [] env)) [])) :
    FnOk P w K mg base CX0 (k + 1) f fd ps sp' := by
  refine ⟨len, fun A outer s H args us vs Q E hr e0 hb' r hp' => ?_⟩
  have F' := F
  obtain ⟨oc, od, dV, kV, doc, pm, ct, an, cda, osl, ccl, cdd, vs0, ccs, file, tf, rfl, lk, hcd, hcode, hvs, hfile⟩ := F.ex
  obtain ⟨cl, cld, csl, hcell⟩ := F.cell
  have KX : K.In s.heap := e0.mod.kin.keeps fun b o e => (e0.bs b o e).1
  have lim : s.heap.NoLimit := e0.mod.nolimit.keeps fun b o e => (e0.bs b o e).1
  obtain ⟨a, dx, fs, hσ, ha0, q⟩ := hsp _ _ _ _ hp'
  refine PySem.ks_codeAny_call_defAt (fd := PySem.W.ksFn name qual params body scope dV kV doc pm an (.ref cda) ct cc) (body := body) (binds := ps.zip us) hr.depth (KX _ _ lk) rfl lim (PySem.W.codeRec_of KX hcd) rfl hb' S.nocell (fun y hy => S.par _ (List.of_mem_zip (show (y.1, y.2) ∈ ps.zip us from hy)).1) (fun h₀ hns hk => ?_) S.co S.gen S.kind
  have I := inv_startS (P := P) (w := w) (mg := mg) (base := base) (qual := qual) (f := f) (A := A) (outer := outer) (cd := .ref cda) (tk := s.toks + (ps.zip us).length) S hr.hd e0 (len _ _ _ _ hp') r hcell hns hk
  have hr2 : Room k (cxS P w K mg base N qual scope f (.ref cda) cc A outer s H).A := hr.deeper _
  show _root_.PySem.wpAt (model P w) (A.deeper (PySem.W.ksEnv qual scope s.heap.objs.size f (.ref cda) cc)) (.func body (PySem.W.ksEnv qual scope s.heap.objs.size f (.ref cda) cc)) (execs body (PySem.W.ksEnv qual scope s.heap.objs.size f (.ref cda) cc)) _ _ _
  have go : _root_.PySem.wpAt (model P w) (A.deeper (PySem.W.ksEnv qual scope s.heap.objs.size f (.ref cda) cc)) (.func body (PySem.W.ksEnv qual scope s.heap.objs.size f (.ref cda) cc)) (eval (.Call (.Attribute (.Call (.Name "super" p0) [] [] p1) m apos) [] [] pos) (PySem.W.ksEnv qual scope s.heap.objs.size f (.ref cda) cc))
      (fun v s' => CE outer P w H s Q v s') (fun _ _ => False) { s with heap := h₀, toks := s.toks + (ps.zip us).length } := by
    refine PySem.ks_wpAt_MethodCall (pl := pl) (super_obj F' rfl S hm hsub hN hpar I hσ ha0 fun s2 I2 => ?_) (he _)
    have hso := ClX.pin_at I2
    have X2 : K.In s2.heap := I2.kIn
    obtain ⟨mA, J, _⟩ := ins_get I2.hok ha0
    obtain ⟨od2, J2, _⟩ := J.look
    obtain ⟨cdC, hc⟩ : ∃ cd, PySem.W.clsIn K C = some cd := by
      cases z : PySem.W.clsIn K C with
      | none => unfold PySem.W.ks_superIn at hs; rw [z] at hs; cases hs
      | some cd => exact ⟨cd, rfl⟩
    unfold PySem.W.ks_superIn at hs
    rw [hc] at hs
    obtain ⟨of, hof, hofc⟩ : ∃ of, s2.heap.get? f2 = some of ∧ of.cls = .type "function" := by
      have ht' : (K.lookup f2).map (·.cls) = some (.type "function") := ht
      cases z : K.lookup f2 with
      | none => rw [z] at ht'; cases ht'
      | some of => rw [z] at ht'; exact ⟨of, X2 _ _ z, Option.some.inj ht'⟩
    obtain ⟨hh, g, d, t', os⟩ := s2
    refine PySem.ks_wpAny_getMethod_super hso (PySem.W.looks_opaque X2 F'.any) (l₀ := cdC.mro) (fun A Q E s k q => wpAny_bind ((PySem.W.looks_clsIn X2 hc) A _ E s k (wpAny_pure q))) rfl X2 hs hof hofc (PySem.W.ks_ne X2 J2 hc) hm ?_
    have I3 := ClX.pin_new (t' := t' + 1) (o := PySem.W.methodObj (.ref f2) (.ref a)) I2 (h' := hh.push { cls := .type "method", data := .fields #[.ref f2, .ref a] }) (fun b o e => Heap.get?_push_of_some _ e) (Nat.le_refl _) (Heap.get?_push_at rfl rfl) (fun v z => nomatch z)
    have fin : ∀ {v : Value} {s' : Shared} {pins : List (Addr × Obj)}, EP (cxS P w K mg base N qual scope f (.ref cda) cc A outer s H) pins (L2.start N vs) Q v s' → CE outer P w H s Q v s' := fun ⟨v', H', J, rv, q'⟩ => ⟨v', H', J.os, J.bare, J.base, J.hok, rv, q'⟩
    refine PySem.W.callWith_M0 (g := f2) (self := .ref a) ⟨ClX.pin_at I3, I3.kIn⟩ hfi ?_
    exact wpAny_mono (ClX.run_cm (us := []) (vs := []) F2 hr2 (fun _ _ _ _ _ _ _ h => h.elim) I3 .nil q) (fun _ _ z => fin z) fun _ _ z => z
  subst hbd
  refine PySem.ks_wpAt_execs_cons (PySem.ks_wpAt_Return_some (PySem.ks_wpAt_mono go (fun v s' h => h) fun _ _ z => z.elim))
end
section
variable {X : Cx} {CX : CXT} {k : Nat} {C f : Addr} {mc : Value} {sp : Sp} {E : XK} {o e : Expr} {es : List Expr} {m : Str} {pos apos : Pos} {ta : TE} {t : TA} {pl : Sem Bool} {fd : FuncData} {ps : List Str}
/-- C.m(e, ..), m a def of the class at C -/
theorem pe_cfun (r : ClX.CRead X.K C mc) (c : ClX.CVal X.K C mc m (.ref f) (.ref f)) (kp : PySem.W.keepIn X.K (.ref f) = true) (F : FnOk X.prog X.w X.K X.mg X.base CX k f fd ps sp) (hr : Room k X.A) (hb : Binds X.K fd ps []) (hx : Passes CX X E) (he : PE X o ta) (ha : PA X (e :: es) t)
    (hst : starEach (e :: es) X.env = (false, eval e X.env) :: starEach es X.env := by rfl) (hpl : (backTo pos (starEach es X.env)).any (·.1) = false := by rfl)
    (ht : eval (.Call (.Attribute o m apos) (e :: es) [] pos) X.env = (do
      let ov ← eval o X.env
      standAt apos.atName
      let (f, first) ← holding [ov] (getMethod ov m pl)
      callWith pos f first (backTo pos (starEach (e :: es) X.env)) (backToKw pos (keywordEach [] X.env))) := by rfl) :
    PE X (.Call (.Attribute o m apos) (e :: es) [] pos) (tSMeth C sp E ta t) := by
  refine ⟨fun pins s σ H Q I h => ?_⟩
  refine PySem.W.methodCall_KW (pl := pl) (thn (he.run pins s σ H _ I h) fun u s1 ⟨x, H1, I1, rx, ex, q⟩ => ?_) ht
  subst ex
  obtain rfl : u = Value.ref C := rx
  refine PySem.W.method_cls I1.kIn r.ga (ClX.getcval_ok I1 r c fun s2 I2 => ?_)
  refine PySem.W.callWith_K (first := []) (h₀ := X.base) I.ok.mod.kin kp (thn (ha.run pos pins s2 σ H1 _ I2 q) fun us s3 ⟨vs, H2, I3, rv, q2⟩ => ⟨I3.kIn, ?_⟩) hst hpl
  exact run_fn F hr hb .nil hx I3 rv q2
end
end Own
set_option maxRecDepth 100000
set_option maxHeartbeats 4000000
set_option exponentiation.threshold 9000
namespace Toy
open PySem L2
open Rat (divInt)
section
variable {P : Program} {w : World} {K : PySem.W.Frag} {mg : Str → Option Value} {base : Heap} {C CT : Addr} {A : TAd}
theorem and2 {a b : Bool} (h : a = true) (g : b = true) : (a && b) = true := by rw [h, g]; rfl
theorem bq {sp : Sp} {E : XK} {H : Hp} {a : Addr} {u : V} {p q : Rat} {Q : VK} (hp : RatQ C H a p) (hq : NumQ C H u q) (k : sp [.ref a, u] H Q E) : Own.rOwnB C sp E (.ref a) u H Q := by
  obtain ⟨dx, fs, h⟩ := hp.ins
  exact ⟨a, dx, fs, rfl, h, hq.ri, k⟩
theorem terF_no (b : Int) {m : Str} (h : ¬ m = "number") : (terF b).lookup m = none := by
  unfold terF
  rw [lookup_putF, if_neg h]
  rfl
structure Fif (q : Rat) : Prop where
  pos : 0 < q.num
  lt : q.num < (q.den : Int)
  z : Sq 200 q
/-- the pitch of a tone -/
def spTonC (CT C : Addr) : Sp := fun vs H Q _ => ∃ a f o k q, vs = [.ref a, .ref f] ∧ TonAt CT H a o k ∧ RatQ C H f q ∧ Fif q ∧ (o.natAbs < 2 ^ 200 ∧ k.natAbs < 2 ^ 200) ∧ ∀ x H', Same H H' → RatQ C H' x ((k : Rat) * q + (o : Rat)) → Q (.ref x) H'
abbrev sTonC : Stmt := inClass (top 74) 2
theorem scTC : FnScope ["self", "fifth"] ["self", "fifth"] (defScope sTonC) := ⟨rfl, rfl, rfl, by decide +kernel, rfl, by decide +kernel, by decide +kernel⟩
theorem ok_tonc {f p1 f1 g1 g2 g3 : Addr} {fd fd1 gd1 gd2 gd3 : FuncData} (F : Fun K "__call__" "Tone.__call__" sTonC f fd) (T_Ratio : RatT K mg C) (T_Tone : TonT K mg CT) (S_Ratio_is_fifth : Sta P w K mg base 1 C "is_fifth" p1 f1 fd1 ["value"] (spIsFifth C)) (BA : BinF K C .Add) (BM : BinF K C .Mult)
    (O_add : Opr P w K mg base 4 C "__add__" g1 gd1 ["self", "other"] (spBin C GT fun p q => p + q)) (O_mul : Opr P w K mg base 4 C "__mul__" g2 gd2 ["self", "other"] (spBin C GT fun p q => p * q)) (O_rmul : Opr P w K mg base 5 C "__rmul__" g3 gd3 ["self", "other"] (spBin C GT fun p q => p * q)) :
    FnOk P w K mg base CX0 6 f fd ["self", "fifth"] (spTonC CT C) := by
  refine F.ok scTC (fun vs H Q E h => ?_) (fun cdv Ar outer s H vs Q E hr h => ?_)
  · obtain ⟨a, f, o, k, q, rfl, _⟩ := h
    rfl
  · obtain ⟨a, f, o, k, q, rfl, ⟨dx, h1⟩, hq, fq, ⟨zo, zk⟩, kk⟩ := h
    have nd := scTC.nd
    have yq : Sq 3900 q := fq.z.mono (by decide)
    refine ⟨_, pss_cons (ps_if (pt_not (pt_val (Own.pe_smeth T_Ratio.rd S_Ratio_is_fifth.s S_Ratio_is_fifth.F (hr.mono (by decide)) S_Ratio_is_fifth.b pass0 (Own.pe_gref (by rfl) T_Ratio.mgC) (pa_cons (pv 1) pa_nil)))) pss_never pss_nil)
      (pss_one (ps_ret (pe_op (op_B BA O_add.F (hr.mono (by decide)) O_add.at_ O_add.fn O_add.b pass0) (pe_op (op_R BM O_rmul.F (hr.mono (by decide)) O_rmul.at_ O_rmul.fn O_mul.at_ T_Ratio.sI O_rmul.b pass0 PySem.F.fills_int_mul PySem.F.slot_int_mul PySem.F.entry_int_mul PySem.F.args_int_mul_2 Own.int_mul_dec) (pe_fld (pv 0) rfl) (pv 1)) (pe_fld (pv 0) rfl)))), ?_⟩
    refine ⟨rfl, _, rfl, f, q, rfl, hq, _, rfl, iteNot (and2 (decide_eq_true fq.pos) (decide_eq_true fq.lt)) ?_⟩
    obtain ⟨df, fs, hf⟩ := hq.ins
    have yk : Sq 201 ((k : Int) : Rat) := (Sq.int zk (by decide)).mono (by decide)
    have yo : Sq 201 ((o : Int) : Rat) := (Sq.int zo (by decide)).mono (by decide)
    refine ⟨_, rfl, _, CT, dx, _, _, rfl, h1, T_Tone.cl, T_Tone.nF, tonF_fif _ _, _, rfl, k, f, df, fs, rfl, rfl, hf, f, .int k, q, _, rfl, hq, .int k, ⟨yq, yk.mono (by decide)⟩, trivial, fun x2 H2 s2 hx2 => ?_⟩
    have h12 := s2 _ _ h1
    refine ⟨_, rfl, _, CT, dx, _, _, rfl, h12, T_Tone.cl, T_Tone.nO, tonF_oct _ _, bq hx2 (.int o) ⟨x2, .int o, _, _, rfl, hx2, .int o, ⟨(fq.z.mul yk).mono (by decide), yo.mono (by decide)⟩, trivial, fun x3 H3 s3 hx3 => ?_⟩⟩
    refine kk _ _ (s2.trans s3) ?_
    rw [show (k : Rat) * q = q * (k : Rat) from Rat.mul_comm _ _]
    exact hx3
/-! ### terms -/
def spTerI (K : PySem.W.Frag) (A : TAd) : Sp := fun vs H Q _ => ∃ x dx C m b, TerC K A C m ∧ vs = [.ref x, .int b] ∧ H x = some (.ins C dx []) ∧ (-12 ≤ b ∧ b ≤ 12) ∧ ∀ H', TerAt C H' x b → (∀ c o, H c = some o → c ≠ x → H' c = some o) → Q .non H'
abbrev sTerI : Stmt := inClass (top 78) 0
theorem scMI : FnScope ["self", "number"] ["self", "number"] (defScope sTerI) := ⟨rfl, rfl, rfl, by decide +kernel, rfl, by decide +kernel, by decide +kernel⟩
theorem ok_teri {f f1 : Addr} {fd fd1 : FuncData} (F : Fun K "__init__" "Term.__init__" sTerI f fd) (C_is_from_to : Cal P w K mg base 2 "is_from_to" f1 fd1 ["value", "low", "high"] spFromTo) : FnOk P w K mg base CX0 3 f fd ["self", "number"] (spTerI K A) := by
  refine F.ok scMI (fun vs H Q E h => ?_) (fun cdv Ar outer s H vs Q E hr h => ?_)
  · obtain ⟨x, dx, C, m, b, tc, rfl, _⟩ := h
    rfl
  · obtain ⟨x, dx, C, m, b, tc, rfl, hx, ⟨b1, b2⟩, q⟩ := h
    have nd := scMI.nd
    refine ⟨_, pss_cons (ps_if (pt_not (pt_val (pe_call C_is_from_to.F (hr.mono (by decide)) (by rfl) C_is_from_to.mgf C_is_from_to.kp C_is_from_to.b .nil pass0 (pa_cons (pv 1) (pa_cons (pe_un un_neg pe_int) (pa_cons pe_int pa_nil)))))) pss_never pss_nil)
      (pss_one (ps_fld (pv 0) (pv 1) rfl)), ?_⟩
    refine ⟨_, rfl, 12, rfl, b, -12, 12, rfl, _, rfl, iteNot (and2 (decide_eq_true b1) (decide_eq_true b2)) ?_⟩
    refine ⟨_, rfl, _, rfl, x, C, dx, _, rfl, hx, tc.cl, tc.nN, (by decide : 0 < 1000), ?_⟩
    exact q _ ⟨dx, upd_same⟩ fun c o h n => by rw [upd_ne n]; exact h
def spMv (K : PySem.W.Frag) (A : TAd) : Sp := fun vs H Q _ => ∃ x C m b, TerC K A C m ∧ vs = [.ref x] ∧ TerAt C H x b ∧ Q (.bl m) H
theorem onM (ts : ∀ m, TerC K A (tcl A m) m) {H : Hp} {x dx dy : Addr} {fs gs : List (Str × V)} {m m0 : Bool} (tc : TerC K A C m) (h : H x = some (.ins C dx fs)) (g : H x = some (.ins (tcl A m0) dy gs)) : m = m0 := by
  rw [h] at g
  have e : C = tcl A m0 := by cases g; rfl
  have k1 := tc.kM
  rw [e, (ts m0).kM] at k1
  exact (Option.some.inj k1).symm
abbrev sNoMv : Stmt := inClass (top 79) 1
theorem scNoMv : FnScope ["self"] ["self"] (defScope sNoMv) := ⟨rfl, rfl, rfl, by decide +kernel, rfl, by decide +kernel, by decide +kernel⟩
theorem ok_NoMv {f : Addr} {fd : FuncData} (F : Fun K "is_moving" "Note.is_moving" sNoMv f fd) (ts : ∀ m, TerC K A (tcl A m) m) : FnOk P w K mg base CX0 1 f fd ["self"] (OnM A false (spMv K A)) := by
  refine F.ok scNoMv (fun vs H Q E h => ?_) (fun cdv Ar outer s H vs Q E hr h => ?_)
  · obtain ⟨_, x, C, m, b, tc, rfl, _⟩ := h
    rfl
  · obtain ⟨⟨a, dy, gs, e, ha⟩, x, C, m, b, tc, rfl, ⟨dx, hx⟩, q⟩ := h
    have e : some (V.ref x) = some (.ref a) := e
    cases e
    have em := onM ts tc hx ha
    subst em
    exact ⟨_, (pss_one (ps_ret pe_bl)), q⟩
abbrev sNoI : Stmt := inClass (top 79) 0
theorem scNoI : FnScope ["self", "number"] ["self", "number"] (defScope sNoI) := ⟨rfl, rfl, rfl, by decide +kernel, rfl, by decide +kernel, by decide +kernel⟩
theorem ok_NoI {f f1 : Addr} {fd fd1 : FuncData} (F : Fun K "__init__" "Note.__init__" sNoI f fd) (r : ClX.CRead K A.tm (.type "type")) (mT : mg "Term" = some (.ref A.tm)) (cv : ClX.CVal K A.tm (.type "type") "__init__" (.ref f1) (.ref f1)) (kp : PySem.W.keepIn K (.ref f1) = true) (F1 : FnOk P w K mg base CX0 3 f1 fd1 ["self", "number"] (spTerI K A)) (b1 : Binds K fd1 ["self", "number"] []) :
    FnOk P w K mg base CX0 4 f fd ["self", "number"] (spTerI K A) := by
  refine F.ok scNoI (fun vs H Q E h => ?_) (fun cdv Ar outer s H vs Q E hr h => ?_)
  · obtain ⟨x, dx, C, m, b, tc, rfl, _⟩ := h
    rfl
  · obtain ⟨x, dx, C, m, b, tc, rfl, hx, hb, q⟩ := h
    refine ⟨_, (pss_one (ps_expr (Own.pe_cfun r cv kp F1 (hr.mono (by decide)) b1 pass0 (Own.pe_gref (by rfl) mT) (pa_cons (pv 0) (pa_cons (pv 1) pa_nil))))), ?_⟩
    exact ⟨rfl, _, rfl, _, rfl, x, dx, C, m, b, tc, rfl, hx, hb, q⟩
abbrev sMoMv : Stmt := inClass (top 80) 1
theorem scMoMv : FnScope ["self"] ["self"] (defScope sMoMv) := ⟨rfl, rfl, rfl, by decide +kernel, rfl, by decide +kernel, by decide +kernel⟩
theorem ok_MoMv {f : Addr} {fd : FuncData} (F : Fun K "is_moving" "Moving.is_moving" sMoMv f fd) (ts : ∀ m, TerC K A (tcl A m) m) : FnOk P w K mg base CX0 1 f fd ["self"] (OnM A true (spMv K A)) := by
  refine F.ok scMoMv (fun vs H Q E h => ?_) (fun cdv Ar outer s H vs Q E hr h => ?_)
  · obtain ⟨_, x, C, m, b, tc, rfl, _⟩ := h
    rfl
  · obtain ⟨⟨a, dy, gs, e, ha⟩, x, C, m, b, tc, rfl, ⟨dx, hx⟩, q⟩ := h
    have e : some (V.ref x) = some (.ref a) := e
    cases e
    have em := onM ts tc hx ha
    subst em
    exact ⟨_, (pss_one (ps_ret pe_bl)), q⟩
abbrev sMoI : Stmt := inClass (top 80) 0
theorem scMoI : FnScope ["self", "number"] ["self", "number"] (defScope sMoI) := ⟨rfl, rfl, rfl, by decide +kernel, rfl, by decide +kernel, by decide +kernel⟩
theorem ok_MoI {f f1 : Addr} {fd fd1 : FuncData} (F : Fun K "__init__" "Moving.__init__" sMoI f fd) (r : ClX.CRead K A.tm (.type "type")) (mT : mg "Term" = some (.ref A.tm)) (cv : ClX.CVal K A.tm (.type "type") "__init__" (.ref f1) (.ref f1)) (kp : PySem.W.keepIn K (.ref f1) = true) (F1 : FnOk P w K mg base CX0 3 f1 fd1 ["self", "number"] (spTerI K A)) (b1 : Binds K fd1 ["self", "number"] []) :
    FnOk P w K mg base CX0 4 f fd ["self", "number"] (spTerI K A) := by
  refine F.ok scMoI (fun vs H Q E h => ?_) (fun cdv Ar outer s H vs Q E hr h => ?_)
  · obtain ⟨x, dx, C, m, b, tc, rfl, _⟩ := h
    rfl
  · obtain ⟨x, dx, C, m, b, tc, rfl, hx, hb, q⟩ := h
    refine ⟨_, (pss_one (ps_expr (Own.pe_cfun r cv kp F1 (hr.mono (by decide)) b1 pass0 (Own.pe_gref (by rfl) mT) (pa_cons (pv 0) (pa_cons (pv 1) pa_nil))))), ?_⟩
    exact ⟨rfl, _, rfl, _, rfl, x, dx, C, m, b, tc, rfl, hx, hb, q⟩
def spNote (K : PySem.W.Frag) (A : TAd) : Sp := fun vs H Q _ => ∃ x C m b n, TerC K A C m ∧ vs = [.ref x, .int n] ∧ TerAt C H x b ∧ Q (.int (if m then n + b else b)) H
abbrev sNote : Stmt := inClass (top 78) 2
theorem scNt : FnScope ["self", "n"] ["self", "n"] (defScope sNote) := ⟨rfl, rfl, rfl, by decide +kernel, rfl, by decide +kernel, by decide +kernel⟩
theorem ok_note {f f1 : Addr} {fd fd1 : FuncData} {fdM : Bool → FuncData} (F : Fun K "note" "Term.note" sNote f fd) (C_is_int : Cal P w K mg base 1 "is_int" f1 fd1 ["value"] (spIsInt K)) (FM : ∀ m, FnOk P w K mg base CX0 1 (A.im m) (fdM m) ["self"] (OnM A m (spMv K A))) (bM : ∀ m, Binds K (fdM m) ["self"] []) : FnOk P w K mg base CX0 3 f fd ["self", "n"] (spNote K A) := by
  refine F.ok scNt (fun vs H Q E h => ?_) (fun cdv Ar outer s H vs Q E hr h => ?_)
  · obtain ⟨x, C, m, b, n, tc, rfl, _⟩ := h
    rfl
  · obtain ⟨x, C, m, b, n, tc, rfl, hx, q⟩ := h
    have nd := scNt.nd
    refine ⟨_, pss_cons (ps_if (pt_not (pt_val (pe_call C_is_int.F (hr.mono (by decide)) (by rfl) C_is_int.mgf C_is_int.kp C_is_int.b .nil pass0 (pa_cons (pv 1) pa_nil)))) pss_never pss_nil)
      (pss_one (ps_ret (pe_ifExp (pt_val (pe_prop (pv 0) tc.cl tc.pm (FM m) (hr.mono (by decide)) (bM m) .nil pass0 rfl)) (pe_op op_add (pv 1) (pe_fld (pv 0) rfl)) (pe_fld (pv 0) rfl)))), ?_⟩
    obtain ⟨dx, h⟩ := id hx
    refine ⟨_, rfl, _, _, true, rfl, .base (.int _), isIntK_int, _, rfl, iteF ?_⟩
    have ec := tc.cls
    refine ⟨_, rfl, x, dx, _, rfl, h, ⟨x, dx, _, rfl, by rw [← show C = tcl A m from ec]; exact h⟩, x, C, m, b, tc, rfl, hx, _, rfl, ?_⟩
    cases m with
    | true =>
      refine iteT ?_
      exact ⟨_, rfl, _, rfl, _, C, dx, _, _, rfl, h, tc.cl, tc.nN, terF_num _, _, _, rfl, rfl, q⟩
    | false =>
      refine iteF ?_
      exact ⟨_, rfl, _, C, dx, _, _, rfl, h, tc.cl, tc.nN, terF_num _, q⟩
/-- where a note stands at a fraction -/
def posQ (z : Int) (q : Rat) : Rat := divInt (z * q.num % q.den) q.den
def spPos (K : PySem.W.Frag) (A : TAd) (C : Addr) : Sp := fun vs H Q _ => ∃ x f D m b n q, TerC K A D m ∧ vs = [.ref x, .int n, .ref f] ∧ TerAt D H x b ∧ RatQ C H f q ∧ Fif q ∧ (b.natAbs < 2 ^ 200 ∧ n.natAbs < 2 ^ 200) ∧ ∀ y H', Same H H' → RatQ C H' y (posQ (if m then n + b else b) q) → Q (.ref y) H'
abbrev sPos : Stmt := inClass (top 78) 3
theorem scPs : FnScope ["self", "n", "fifth", "note"] ["self", "n", "fifth"] (defScope sPos) := ⟨rfl, rfl, rfl, by decide +kernel, rfl, by decide +kernel, by decide +kernel⟩
theorem ok_pos {f p1 f1 f2 : Addr} {fd fd1 fd2 : FuncData} {fdN : Bool → FuncData} (F : Fun K "position" "Term.position" sPos f fd) (T_Ratio : RatT K mg C) (S_Ratio_is_fifth : Sta P w K mg base 1 C "is_fifth" p1 f1 fd1 ["value"] (spIsFifth C)) (FN : ∀ m, FnOk P w K mg base CX0 4 (A.nt m) (fdN m) ["self", "n"] (OnM A m (spNote K A))) (bN : ∀ m, Binds K (fdN m) ["self", "n"] [])
    (M_Ratio : Mak P w K mg base 2 "Ratio" C f2 fd2 ["self", "top", "bottom"] (spRInit C)) : FnOk P w K mg base CX0 5 f fd ["self", "n", "fifth"] (spPos K A C) := by
  refine F.ok scPs (fun vs H Q E h => ?_) (fun cdv Ar outer s H vs Q E hr h => ?_)
  · obtain ⟨x, f, D, m, b, n, q, tc, rfl, _⟩ := h
    rfl
  · obtain ⟨x, f, D, m, b, n, q, tc, rfl, hx, hq, fq, ⟨zb, zn⟩, k⟩ := h
    have nd := scPs.nd
    refine ⟨_, pss_cons (ps_set (i := 3) nd rfl (Or.inl rfl) (pe_meth (pv 0) tc.cl tc.mn (FN m) (hr.mono (by decide)) (bN m) .nil pass0 (pa_cons (pv 1) pa_nil)))
      (pss_cons (ps_if (pt_not (pt_val (Own.pe_smeth T_Ratio.rd S_Ratio_is_fifth.s S_Ratio_is_fifth.F (hr.mono (by decide)) S_Ratio_is_fifth.b pass0 (Own.pe_gref (by rfl) T_Ratio.mgC) (pa_cons (pv 2) pa_nil)))) pss_never pss_nil)
      (pss_one (ps_ret (pe_make M_Ratio.M M_Ratio.F (hr.mono (by decide)) (by rfl) M_Ratio.mgC M_Ratio.b .nil pass0 (pa_cons (pe_op op_mod (pe_op op_mulW (pv 3) (pe_fld (pv 2) rfl)) (pe_fld (pv 2) rfl)) (pa_cons (pe_fld (pv 2) rfl) pa_nil)))))), ?_⟩
    obtain ⟨dx, h⟩ := id hx
    obtain ⟨df, hf⟩ := id hq
    have yq : Sq 3900 q := fq.z.mono (by decide)
    refine ⟨_, rfl, x, dx, _, rfl, h, terF_no _ (by decide +kernel), _, rfl, ⟨x, dx, _, rfl, by rw [← show D = tcl A m from tc.cls]; exact h⟩, x, D, m, b, n, tc, rfl, hx, ?_⟩
    refine ⟨rfl, _, rfl, f, q, rfl, hq, _, rfl, iteNot (and2 (decide_eq_true fq.pos) (decide_eq_true fq.lt)) ?_⟩
    have zz : Sz (if m then n + b else b) := by
      unfold Sz
      refine Nat.lt_of_lt_of_le (m := 2 ^ 201) ?_ (Nat.pow_le_pow_right (by decide) (by decide))
      have e : (2 : Nat) ^ 201 = 2 ^ 200 + 2 ^ 200 := by decide +kernel
      split <;> omega
    have dp : (0 : Int) < q.den := by have := q.den_pos; omega
    refine ⟨_, rfl, _, rfl, _, C, df, _, _, rfl, hf, T_Ratio.cl, T_Ratio.nT, ratF_top _ _, _, _, rfl, rfl, zz.mul (z4 yq).1, _, rfl, _, C, df, _, _, rfl, hf, T_Ratio.cl, T_Ratio.nB, ratF_bot _ _, _, _, rfl, rfl, dp, _, rfl, _, C, df, _, _, rfl, hf, T_Ratio.cl, T_Ratio.nB, ratF_bot _ _, ?_⟩
    exact mkQ (den_ne q) (z4 yq).2 rfl k
end
end Toy
set_option maxRecDepth 100000
set_option maxHeartbeats 4000000
set_option exponentiation.threshold 9000
namespace Toy
open PySem L2
open Rat (divInt)
def TerM (A : TAd) (H : Hp) (y : Addr) (m : Bool) (b : Int) : Prop := TerAt (tcl A m) H y b
theorem TerM.same {A : TAd} {H H' : Hp} {y : Addr} {m : Bool} {b : Int} (h : TerM A H y m b) (e : Same H H') : TerM A H' y m b := TerAt.same h e
structure MgT (mg : Str → Option Value) (x : Str) (C : Addr) : Prop where
  mgC : mg x = some (.ref C)
section
variable {P : Program} {w : World} {K : PySem.W.Frag} {mg : Str → Option Value} {base : Heap} {C CT : Addr} {A : TAd}
def spAlike (A : TAd) : Sp := fun vs H Q _ => ∃ x m b z, vs = [.ref x, .int z] ∧ TerM A H x m b ∧ (-12 ≤ z ∧ z ≤ 12) ∧ ∀ y H', Same H H' → TerM A H' y m z → Q (.ref y) H'
abbrev sAlike : Stmt := top 83
theorem scAl : FnScope ["term", "number"] ["term", "number"] (defScope sAlike) := ⟨rfl, rfl, rfl, by decide +kernel, rfl, by decide +kernel, by decide +kernel⟩
theorem ok_alike {f f1 f2 : Addr} {fd fd1 fd2 : FuncData} {fdM : Bool → FuncData} (F : Fun K "_alike" "_alike" sAlike f fd) (ts : ∀ m, TerC K A (tcl A m) m) (FM : ∀ m, FnOk P w K mg base CX0 1 (A.im m) (fdM m) ["self"] (OnM A m (spMv K A))) (bM : ∀ m, Binds K (fdM m) ["self"] []) (M_Moving : Mak P w K mg base 4 "Moving" A.cm f1 fd1 ["self", "number"] (spTerI K A)) (M_Note : Mak P w K mg base 4 "Note" A.cn f2 fd2 ["self", "number"] (spTerI K A)) :
    FnOk P w K mg base CX0 6 f fd ["term", "number"] (spAlike A) := by
  refine F.ok scAl (fun vs H Q E h => ?_) (fun cdv Ar outer s H vs Q E hr h => ?_)
  · obtain ⟨x, m, b, z, rfl, _⟩ := h
    rfl
  · obtain ⟨x, m, b, z, rfl, hx, hz, k⟩ := h
    have nd := scAl.nd
    refine ⟨_, pss_one (ps_ret (pe_ifExp (pt_val (pe_prop (pv 0) (ts m).cl (ts m).pm (FM m) (hr.mono (by decide)) (bM m) .nil pass0 rfl)) (pe_make M_Moving.M M_Moving.F (hr.mono (by decide)) (by rfl) M_Moving.mgC M_Moving.b .nil pass0 (pa_cons (pv 1) pa_nil)) (pe_make M_Note.M M_Note.F (hr.mono (by decide)) (by rfl) M_Note.mgC M_Note.b .nil pass0 (pa_cons (pv 1) pa_nil)))), ?_⟩
    obtain ⟨dx, h⟩ := id hx
    refine ⟨_, rfl, x, dx, _, rfl, h, ⟨x, dx, _, rfl, h⟩, x, _, m, b, ts m, rfl, hx, _, rfl, ?_⟩
    cases m with
    | true =>
      refine iteT ⟨_, rfl, ?_⟩
      intro y dy hy hdy hne
      exact ⟨y, dy, A.cm, true, z, ts true, rfl, upd_same, hz, fun H' hT hk => ⟨rfl, k y H' (mk_same hy hdy hk) hT⟩⟩
    | false =>
      refine iteF ⟨_, rfl, ?_⟩
      intro y dy hy hdy hne
      exact ⟨y, dy, A.cn, false, z, ts false, rfl, upd_same, hz, fun H' hT hk => ⟨rfl, k y H' (mk_same hy hdy hk) hT⟩⟩
def spTMoved (A : TAd) : Sp := fun vs H Q _ => ∃ x m b z, vs = [.ref x, .int z] ∧ TerM A H x m b ∧ (-12 ≤ b + z ∧ b + z ≤ 12) ∧ ∀ y H', Same H H' → TerM A H' y m (b + z) → Q (.ref y) H'
abbrev sTMoved : Stmt := inClass (top 78) 4
theorem scTM : FnScope ["self", "number"] ["self", "number"] (defScope sTMoved) := ⟨rfl, rfl, rfl, by decide +kernel, rfl, by decide +kernel, by decide +kernel⟩
theorem ok_tmoved {f f1 f2 : Addr} {fd fd1 fd2 : FuncData} (F : Fun K "moved" "Term.moved" sTMoved f fd) (ts : ∀ m, TerC K A (tcl A m) m) (C_is_int : Cal P w K mg base 1 "is_int" f1 fd1 ["value"] (spIsInt K)) (C__alike : Cal P w K mg base 6 "_alike" f2 fd2 ["term", "number"] (spAlike A)) :
    FnOk P w K mg base CX0 7 f fd ["self", "number"] (spTMoved A) := by
  refine F.ok scTM (fun vs H Q E h => ?_) (fun cdv Ar outer s H vs Q E hr h => ?_)
  · obtain ⟨x, m, b, z, rfl, _⟩ := h
    rfl
  · obtain ⟨x, m, b, z, rfl, hx, hz, k⟩ := h
    have nd := scTM.nd
    refine ⟨_, pss_cons (ps_if (pt_not (pt_val (pe_call C_is_int.F (hr.mono (by decide)) (by rfl) C_is_int.mgf C_is_int.kp C_is_int.b .nil pass0 (pa_cons (pv 1) pa_nil)))) pss_never pss_nil)
      (pss_one (ps_ret (pe_call C__alike.F (hr.mono (by decide)) (by rfl) C__alike.mgf C__alike.kp C__alike.b .nil pass0 (pa_cons (pv 0) (pa_cons (pe_op op_add (pe_fld (pv 0) rfl) (pv 1)) pa_nil))))), ?_⟩
    obtain ⟨dx, h⟩ := id hx
    refine ⟨_, rfl, _, _, true, rfl, .base (.int _), isIntK_int, _, rfl, iteF ?_⟩
    exact ⟨_, rfl, _, rfl, _, _, dx, _, _, rfl, h, (ts m).cl, (ts m).nN, terF_num _, _, rfl, _, _, rfl, rfl, x, m, b, _, rfl, hx, hz, k⟩
def spTMir (A : TAd) : Sp := fun vs H Q _ => ∃ x m b, vs = [.ref x] ∧ TerM A H x m b ∧ (-12 ≤ b ∧ b ≤ 12) ∧ ∀ y H', Same H H' → TerM A H' y m (-b) → Q (.ref y) H'
abbrev sTMir : Stmt := inClass (top 78) 5
theorem scTR : FnScope ["self"] ["self"] (defScope sTMir) := ⟨rfl, rfl, rfl, by decide +kernel, rfl, by decide +kernel, by decide +kernel⟩
theorem ok_tmir {f f2 : Addr} {fd fd2 : FuncData} (F : Fun K "mirrored" "Term.mirrored" sTMir f fd) (ts : ∀ m, TerC K A (tcl A m) m) (C__alike : Cal P w K mg base 6 "_alike" f2 fd2 ["term", "number"] (spAlike A)) :
    FnOk P w K mg base CX0 7 f fd ["self"] (spTMir A) := by
  refine F.ok scTR (fun vs H Q E h => ?_) (fun cdv Ar outer s H vs Q E hr h => ?_)
  · obtain ⟨x, m, b, rfl, _⟩ := h
    rfl
  · obtain ⟨x, m, b, rfl, hx, hz, k⟩ := h
    have nd := scTR.nd
    refine ⟨_, pss_one (ps_ret (pe_call C__alike.F (hr.mono (by decide)) (by rfl) C__alike.mgf C__alike.kp C__alike.b .nil pass0 (pa_cons (pv 0) (pa_cons (pe_un un_neg (pe_fld (pv 0) rfl)) pa_nil)))), ?_⟩
    obtain ⟨dx, h⟩ := id hx
    exact ⟨_, rfl, _, rfl, _, _, dx, _, _, rfl, h, (ts m).cl, (ts m).nN, terF_num _, _, rfl, x, m, b, _, rfl, hx, ⟨by omega, by omega⟩, k⟩
def spTEq (A : TAd) : Sp := fun vs H Q _ => ∃ x y m b m' b', vs = [.ref x, .ref y] ∧ TerM A H x m b ∧ TerM A H y m' b' ∧ Q (.bl (decide (m = m') && decide (b = b'))) H
abbrev sTEq : Stmt := inClass (top 78) 6
theorem scTQ : FnScope ["self", "other"] ["self", "other"] (defScope sTEq) := ⟨rfl, rfl, rfl, by decide +kernel, rfl, by decide +kernel, by decide +kernel⟩
theorem ok_teq {f : Addr} {fd : FuncData} {fdM : Bool → FuncData} (F : Fun K "__eq__" "Term.__eq__" sTEq f fd) (T : Bl mg) (T_Term : MgT mg "Term" A.tm) (ts : ∀ m, TerC K A (tcl A m) m) (FM : ∀ m, FnOk P w K mg base CX0 1 (A.im m) (fdM m) ["self"] (OnM A m (spMv K A))) (bM : ∀ m, Binds K (fdM m) ["self"] []) : FnOk P w K mg base CX0 3 f fd ["self", "other"] (spTEq A) := by
  refine F.ok scTQ (fun vs H Q E h => ?_) (fun cdv Ar outer s H vs Q E hr h => ?_)
  · obtain ⟨x, y, m, b, m', b', rfl, _⟩ := h
    rfl
  · obtain ⟨x, y, m, b, m', b', rfl, hx, hy, q⟩ := h
    have nd := scTQ.nd
    refine ⟨_, pss_cons (ps_if (pt_not (pt_val (pe_callB call_isi (by rfl) T.isinstance (by decide +kernel) (pa_cons (pv 1) (pa_cons (Own.pe_gref (by rfl) T_Term.mgC) pa_nil))))) (pss_one (ps_ret pe_bl)) pss_nil)
      (pss_one (ps_ret (pe_and (pe_cmpR op_eq (pe_prop (pv 0) (ts m).cl (ts m).pm (FM m) (hr.mono (by decide)) (bM m) .nil pass0 rfl) (pe_prop (pv 1) (ts m').cl (ts m').pm (FM m') (hr.mono (by decide)) (bM m') .nil pass0 rfl) (nomark _)) (pe_one (pe_cmpR op_eq (pe_fld (pv 0) rfl) (pe_fld (pv 1) rfl) (nomark _)))))), ?_⟩
    obtain ⟨dx, h1⟩ := id hx
    obtain ⟨dy, h2⟩ := id hy
    refine ⟨_, rfl, _, _, _, _, true, rfl, .own _, (ts m').ty h2, (ts m').kT, _, rfl, iteF ?_⟩
    refine ⟨_, rfl, x, dx, _, rfl, h1, ⟨x, dx, _, rfl, h1⟩, x, _, m, b, ts m, rfl, hx, _, rfl, y, dy, _, rfl, h2, ⟨y, dy, _, rfl, h2⟩, y, _, m', b', ts m', rfl, hy, rfl, _, rfl, ?_⟩
    by_cases e : m = m'
    · refine iteTb (by rw [e]; exact decide_eq_true rfl) ?_
      rw [decide_eq_true e, Bool.true_and] at q
      refine ⟨_, rfl, _, _, dx, _, _, rfl, h1, (ts m).cl, (ts m).nN, terF_num _, _, rfl, _, _, dy, _, _, rfl, h2, (ts m').cl, (ts m').nN, terF_num _, rfl, ?_⟩
      rw [vdec]
      exact q
    · refine iteFb (decide_eq_false fun z => e (by cases z; rfl)) ?_
      rw [decide_eq_false e, Bool.false_and] at q
      exact q
end
end Toy
set_option maxRecDepth 100000
set_option maxHeartbeats 4000000
set_option exponentiation.threshold 9000
namespace Toy
open PySem L2
open Rat (divInt)
structure HeiT (K : PySem.W.Frag) (mg : Str → Option Value) (C : Addr) : Prop extends ClT K mg C "Height" where
  nT : NoAttr K C "tone"
  nM : NoAttr K C "term"
def heiF (t r : Addr) : List (Str × V) := putF "term" (.ref r) (putF "tone" (.ref t) [])
theorem tt_ne : ¬ (("tone" : Str) = "term") := by decide +kernel
theorem heiF_tone (t r : Addr) : (heiF t r).lookup ("tone" : Str) = some (.ref t) := by
  unfold heiF
  rw [lookup_putF, if_neg tt_ne, lookup_putF, if_pos rfl]
theorem heiF_term (t r : Addr) : (heiF t r).lookup ("term" : Str) = some (.ref r) := by
  unfold heiF
  rw [lookup_putF, if_pos rfl]
def Hei (CH CT : Addr) (A : TAd) (H : Hp) (x : Addr) (o k : Int) (m : Bool) (b : Int) : Prop := ∃ dx t r, H x = some (.ins CH dx (heiF t r)) ∧ TonAt CT H t o k ∧ TerM A H r m b
theorem Hei.same {CH CT : Addr} {A : TAd} {H H' : Hp} {x : Addr} {o k : Int} {m : Bool} {b : Int} (h : Hei CH CT A H x o k m b) (e : Same H H') : Hei CH CT A H' x o k m b := let ⟨dx, t, r, h1, h2, h3⟩ := h; ⟨dx, t, r, e _ _ h1, h2.same e, h3.same e⟩
structure Near (o k : Int) : Prop where
  o1 : -20 ≤ o
  o2 : o ≤ 20
  k1 : -20 ≤ k
  k2 : k ≤ 20
section
variable {P : Program} {w : World} {K : PySem.W.Frag} {mg : Str → Option Value} {base : Heap} {C CT CH : Addr} {A : TAd}
def spNear (CT : Addr) : Sp := fun vs H Q _ => ∃ t o k, vs = [.ref t] ∧ TonAt CT H t o k ∧ Near o k ∧ Q (.bl true) H
abbrev sNear : Stmt := top 82
theorem scNr : FnScope ["tone"] ["tone"] (defScope sNear) := ⟨rfl, rfl, rfl, by decide +kernel, rfl, by decide +kernel, by decide +kernel⟩
theorem ok_near {f f1 : Addr} {fd fd1 : FuncData} (F : Fun K "is_near" "is_near" sNear f fd) (T_Tone : TonT K mg CT) (C_is_from_to : Cal P w K mg base 2 "is_from_to" f1 fd1 ["value", "low", "high"] spFromTo) : FnOk P w K mg base CX0 3 f fd ["tone"] (spNear CT) := by
  refine F.ok scNr (fun vs H Q E h => ?_) (fun cdv Ar outer s H vs Q E hr h => ?_)
  · obtain ⟨t, o, k, rfl, _⟩ := h
    rfl
  · obtain ⟨t, o, k, rfl, ⟨dx, h⟩, N, q⟩ := h
    have nd := scNr.nd
    refine ⟨_, pss_one (ps_ret (pe_and (pe_call C_is_from_to.F (hr.mono (by decide)) (by rfl) C_is_from_to.mgf C_is_from_to.kp C_is_from_to.b .nil pass0 (pa_cons (pe_fld (pv 0) rfl) (pa_cons (pe_un un_neg pe_int) (pa_cons pe_int pa_nil)))) (pe_one (pe_call C_is_from_to.F (hr.mono (by decide)) (by rfl) C_is_from_to.mgf C_is_from_to.kp C_is_from_to.b .nil pass0 (pa_cons (pe_fld (pv 0) rfl) (pa_cons (pe_un un_neg pe_int) (pa_cons pe_int pa_nil))))))), ?_⟩
    refine ⟨_, rfl, _, CT, dx, _, _, rfl, h, T_Tone.cl, T_Tone.nO, tonF_oct _ _, 20, rfl, o, -20, 20, rfl, _, rfl, iteTb (and2 (decide_eq_true N.o1) (decide_eq_true N.o2)) ?_⟩
    refine ⟨_, rfl, _, CT, dx, _, _, rfl, h, T_Tone.cl, T_Tone.nF, tonF_fif _ _, 20, rfl, k, -20, 20, rfl, ?_⟩
    rw [decide_eq_true N.k1, decide_eq_true N.k2]
    exact q
def spHeiI (CH CT : Addr) (A : TAd) : Sp := fun vs H Q _ => ∃ x dx t r o k m b, vs = [.ref x, .ref t, .ref r] ∧ H x = some (.ins CH dx []) ∧ TonAt CT H t o k ∧ Near o k ∧ TerM A H r m b ∧ ∀ H', H' x = some (.ins CH dx (heiF t r)) → (∀ c o, H c = some o → c ≠ x → H' c = some o) → Q .non H'
abbrev sHeiI : Stmt := inClass (top 81) 0
theorem scHI : FnScope ["self", "tone", "term"] ["self", "tone", "term"] (defScope sHeiI) := ⟨rfl, rfl, rfl, by decide +kernel, rfl, by decide +kernel, by decide +kernel⟩
theorem ok_heii {f f1 : Addr} {fd fd1 : FuncData} (F : Fun K "__init__" "Height.__init__" sHeiI f fd) (T : Bl mg) (T_Tone : TonT K mg CT) (T_Term : MgT mg "Term" A.tm) (T_Height : HeiT K mg CH) (ts : ∀ m, TerC K A (tcl A m) m) (C_is_near : Cal P w K mg base 3 "is_near" f1 fd1 ["tone"] (spNear CT)) : FnOk P w K mg base CX0 4 f fd ["self", "tone", "term"] (spHeiI CH CT A) := by
  refine F.ok scHI (fun vs H Q E h => ?_) (fun cdv Ar outer s H vs Q E hr h => ?_)
  · obtain ⟨x, dx, t, r, o, k, m, b, rfl, _⟩ := h
    rfl
  · obtain ⟨x, dx, t, r, o, k, m, b, rfl, hx, ht, N, hm, q⟩ := h
    have nd := scHI.nd
    refine ⟨_, pss_cons (ps_if (PW.pt (pw_or (pt_not (pt_val (pe_callB call_isi (by rfl) T.isinstance (by decide +kernel) (pa_cons (pv 1) (pa_cons (Own.pe_gref (by rfl) T_Tone.mgC) pa_nil))))) (pw_or1 (pt_not (pt_val (pe_call C_is_near.F (hr.mono (by decide)) (by rfl) C_is_near.mgf C_is_near.kp C_is_near.b .nil pass0 (pa_cons (pv 1) pa_nil))))))) pss_never pss_nil)
      (pss_cons (ps_if (pt_not (pt_val (pe_callB call_isi (by rfl) T.isinstance (by decide +kernel) (pa_cons (pv 2) (pa_cons (Own.pe_gref (by rfl) T_Term.mgC) pa_nil))))) pss_never pss_nil)
      (pss_cons (ps_fld (pv 0) (pv 1) rfl)
      (pss_one (ps_fld (pv 0) (pv 2) rfl)))), ?_⟩
    obtain ⟨dt, ht1⟩ := id ht
    obtain ⟨dr, hr1⟩ := id hm
    refine ⟨_, rfl, _, _, _, _, true, rfl, .own _, T_Tone.ty ht1, T_Tone.kS, _, rfl, iteFb rfl ?_⟩
    refine ⟨_, rfl, t, o, k, rfl, ht, N, _, rfl, iteFb rfl ?_⟩
    refine ⟨_, rfl, _, _, _, _, true, rfl, .own _, (ts m).ty hr1, (ts m).kT, _, rfl, iteF ?_⟩
    refine ⟨_, rfl, _, rfl, x, CH, dx, _, rfl, hx, T_Height.cl, T_Height.nT, (by decide : 0 < 1000), ?_⟩
    refine ⟨_, rfl, _, rfl, x, CH, dx, _, rfl, upd_same, T_Height.cl, T_Height.nM, (by decide : 1 < 1000), ?_⟩
    exact q _ upd_same fun c o h n => by rw [upd_ne n, upd_ne n]; exact h
theorem posQ_sq {q : Rat} (z : Int) (h : Sq 200 q) : Sq 200 (posQ z q) := by
  have hp : (0 : Int) < q.den := by have := q.den_pos; omega
  have h1 := modB (z * q.num) hp
  refine Sq.of (den_ne q) ?_ h.dd
  exact Nat.lt_of_le_of_lt (by omega) h.dd
theorem near_lt {z : Int} (h1 : -20 ≤ z) (h2 : z ≤ 20) : z.natAbs < 2 ^ 5 := Nat.lt_of_le_of_lt (by omega) (show 20 < 2 ^ 5 by decide)
/-- the pitch of a height -/
def pitQ (o k : Int) (m : Bool) (b n : Int) (q : Rat) : Rat := posQ (if m then n + b else b) q + ((k : Rat) * q + (o : Rat))
theorem pit_sq {o k : Int} {q : Rat} (N : Near o k) (h : Sq 200 q) : Sq 220 ((k : Rat) * q + (o : Rat)) := (((Sq.int (near_lt N.k1 N.k2) (by decide)).mul h).add (Sq.int (near_lt N.o1 N.o2) (by decide))).mono (by decide)
def spPitch (CH CT C : Addr) (A : TAd) : Sp := fun vs H Q _ => ∃ x f o k m b n q, vs = [.ref x, .int n, .ref f] ∧ Hei CH CT A H x o k m b ∧ Near o k ∧ (-12 ≤ b ∧ b ≤ 12) ∧ n.natAbs < 2 ^ 200 ∧ RatQ C H f q ∧ Fif q ∧ ∀ y H', Same H H' → RatQ C H' y (pitQ o k m b n q) → Q (.ref y) H'
abbrev sPitch : Stmt := inClass (top 81) 1
theorem scPi : FnScope ["self", "n", "fifth"] ["self", "n", "fifth"] (defScope sPitch) := ⟨rfl, rfl, rfl, by decide +kernel, rfl, by decide +kernel, by decide +kernel⟩
theorem ok_pitch {f fc g1 : Addr} {fd fdc gd1 : FuncData} {fdP : Bool → FuncData} (F : Fun K "pitch" "Height.pitch" sPitch f fd) (T_Height : HeiT K mg CH) (ts : ∀ m, TerC K A (tcl A m) m) (FP : ∀ m, FnOk P w K mg base CX0 6 (A.po m) (fdP m) ["self", "n", "fifth"] (OnM A m (spPos K A C))) (bP : ∀ m, Binds K (fdP m) ["self", "n", "fifth"] [])
    (CO : StX.CallO K CT fc) (FC : FnOk P w K mg base CX0 6 fc fdc ["self", "fifth"] (spTonC CT C)) (bC : Binds K fdc ["self", "fifth"] []) (BA : BinF K C .Add) (O_add : Opr P w K mg base 4 C "__add__" g1 gd1 ["self", "other"] (spBin C GT fun p q => p + q)) :
    FnOk P w K mg base CX0 7 f fd ["self", "n", "fifth"] (spPitch CH CT C A) := by
  refine F.ok scPi (fun vs H Q E h => ?_) (fun cdv Ar outer s H vs Q E hr h => ?_)
  · obtain ⟨x, f, o, k, m, b, n, q, rfl, _⟩ := h
    rfl
  · obtain ⟨x, f, o, k, m, b, n, q, rfl, ⟨dx, t, r, hx, ht, hm⟩, N, ⟨b1, b2⟩, zn, hq, fq, kk⟩ := h
    have nd := scPi.nd
    refine ⟨_, pss_one (ps_ret (pe_op (op_B BA O_add.F (hr.mono (by decide)) O_add.at_ O_add.fn O_add.b pass0) (pe_meth (pe_fld (pv 0) rfl) (ts m).cl (ts m).mp (FP m) (hr.mono (by decide)) (bP m) .nil pass0 (pa_cons (pv 1) (pa_cons (pv 2) pa_nil))) (Own.pe_callF (pv 0) CO (FC.raw bC .nil) (hr.mono (by decide)) pass0 (pa_cons (pv 2) pa_nil)))), ?_⟩
    obtain ⟨dr, hr1⟩ := id hm
    have zb : b.natAbs < 2 ^ 200 := Nat.lt_of_le_of_lt (show b.natAbs ≤ 12 by omega) (by decide +kernel)
    have l5 : (2 : Nat) ^ 5 ≤ 2 ^ 200 := Nat.pow_le_pow_right (by decide) (by decide)
    refine ⟨_, rfl, _, CH, dx, _, _, rfl, hx, T_Height.cl, T_Height.nM, heiF_term _ _, r, dr, _, rfl, hr1, terF_no _ (by decide +kernel), _, rfl, _, rfl, ⟨r, dr, _, rfl, hr1⟩, r, f, _, m, b, n, q, ts m, rfl, hm, hq, fq, ⟨zb, zn⟩, fun y1 H1 s1 hy1 => ?_⟩
    have ht1 := ht.same s1
    obtain ⟨dt, ht2⟩ := id ht1
    refine ⟨_, rfl, x, CH, dx, _, t, rfl, s1 _ _ hx, T_Height.cl, T_Height.nT, heiF_tone _ _, _, rfl, ⟨dt, _, ht2⟩, t, f, o, k, q, rfl, ht1, hq.same s1, fq, ⟨Nat.lt_of_lt_of_le (near_lt N.o1 N.o2) l5, Nat.lt_of_lt_of_le (near_lt N.k1 N.k2) l5⟩, fun y2 H2 s2 hy2 => ?_⟩
    have hy12 := hy1.same s2
    exact bq hy12 (.rat hy2) ⟨y1, .ref y2, _, _, rfl, hy12, .rat hy2, ⟨(posQ_sq _ fq.z).mono (by decide), (pit_sq N fq.z).mono (by decide)⟩, trivial, fun y3 H3 s3 hy3 => kk y3 H3 (s1.trans (s2.trans s3)) hy3⟩
def spHMoved (CH CT : Addr) (A : TAd) : Sp := fun vs H Q _ => ∃ x o k m b z, vs = [.ref x, .int z] ∧ Hei CH CT A H x o k m b ∧ Near o k ∧ (-12 ≤ b + z ∧ b + z ≤ 12) ∧ ∀ y H', Same H H' → Hei CH CT A H' y o k m (b + z) → Q (.ref y) H'
abbrev sHMoved : Stmt := inClass (top 81) 2
theorem scHM : FnScope ["self", "number"] ["self", "number"] (defScope sHMoved) := ⟨rfl, rfl, rfl, by decide +kernel, rfl, by decide +kernel, by decide +kernel⟩
theorem ok_hmoved {f f1 : Addr} {fd fd1 : FuncData} {fdV : Bool → FuncData} (F : Fun K "moved" "Height.moved" sHMoved f fd) (T_Height : HeiT K mg CH) (ts : ∀ m, TerC K A (tcl A m) m) (FV : ∀ m, FnOk P w K mg base CX0 8 (A.mo m) (fdV m) ["self", "number"] (OnM A m (spTMoved A))) (bV : ∀ m, Binds K (fdV m) ["self", "number"] [])
    (M_Height : Mak P w K mg base 4 "Height" CH f1 fd1 ["self", "tone", "term"] (spHeiI CH CT A)) : FnOk P w K mg base CX0 9 f fd ["self", "number"] (spHMoved CH CT A) := by
  refine F.ok scHM (fun vs H Q E h => ?_) (fun cdv Ar outer s H vs Q E hr h => ?_)
  · obtain ⟨x, o, k, m, b, z, rfl, _⟩ := h
    rfl
  · obtain ⟨x, o, k, m, b, z, rfl, ⟨dx, t, r, hx, ht, hm⟩, N, hb, kk⟩ := h
    have nd := scHM.nd
    refine ⟨_, pss_one (ps_ret (pe_make M_Height.M M_Height.F (hr.mono (by decide)) (by rfl) M_Height.mgC M_Height.b .nil pass0 (pa_cons (pe_fld (pv 0) rfl) (pa_cons (pe_meth (pe_fld (pv 0) rfl) (ts m).cl (ts m).mv (FV m) (hr.mono (by decide)) (bV m) .nil pass0 (pa_cons (pv 1) pa_nil)) pa_nil)))), ?_⟩
    obtain ⟨dr, hr1⟩ := id hm
    refine ⟨_, rfl, _, CH, dx, _, _, rfl, hx, T_Height.cl, T_Height.nT, heiF_tone _ _, _, rfl, _, CH, dx, _, _, rfl, hx, T_Height.cl, T_Height.nM, heiF_term _ _, r, dr, _, rfl, hr1, terF_no _ (by decide +kernel), _, rfl, ⟨r, dr, _, rfl, hr1⟩, r, m, b, z, rfl, hm, hb, fun r1 H1 s1 hr2 => ?_⟩
    intro y dy hy hdy hne
    have g := same_two (o := .own y) (u := .ins CH dy []) hdy hy hne
    refine ⟨y, dy, t, r1, o, k, m, b + z, rfl, upd_same, (ht.same s1).same g, N, hr2.same g, fun H' h1 hk => ⟨rfl, ?_⟩⟩
    have s2 := mk_same hy hdy hk
    exact kk y H' (s1.trans s2) ⟨dy, t, r1, h1, (ht.same s1).same s2, hr2.same s2⟩
def spHMir (CH CT : Addr) (A : TAd) : Sp := fun vs H Q _ => ∃ x o k m b, vs = [.ref x] ∧ Hei CH CT A H x o k m b ∧ Near (o + k) (-k) ∧ (-12 ≤ b ∧ b ≤ 12) ∧ ∀ y H', Same H H' → Hei CH CT A H' y (o + k) (-k) m (-b) → Q (.ref y) H'
abbrev sHMir : Stmt := inClass (top 81) 3
theorem scHR : FnScope ["self", "octaves", "fifths"] ["self"] (defScope sHMir) := ⟨rfl, rfl, rfl, by decide +kernel, rfl, by decide +kernel, by decide +kernel⟩
theorem ok_hmir {f f1 f2 : Addr} {fd fd1 fd2 : FuncData} {fdI : Bool → FuncData} (F : Fun K "mirrored" "Height.mirrored" sHMir f fd) (T_Height : HeiT K mg CH) (T_Tone : TonT K mg CT) (ts : ∀ m, TerC K A (tcl A m) m) (FI : ∀ m, FnOk P w K mg base CX0 8 (A.mi m) (fdI m) ["self"] (OnM A m (spTMir A))) (bI : ∀ m, Binds K (fdI m) ["self"] [])
    (M_Tone : Mak P w K mg base 2 "Tone" CT f2 fd2 ["self", "octaves", "fifths"] (spTonI CT)) (M_Height : Mak P w K mg base 4 "Height" CH f1 fd1 ["self", "tone", "term"] (spHeiI CH CT A)) : FnOk P w K mg base CX0 9 f fd ["self"] (spHMir CH CT A) := by
  refine F.ok scHR (fun vs H Q E h => ?_) (fun cdv Ar outer s H vs Q E hr h => ?_)
  · obtain ⟨x, o, k, m, b, rfl, _⟩ := h
    rfl
  · obtain ⟨x, o, k, m, b, rfl, ⟨dx, t, r, hx, ht, hm⟩, N, hb, kk⟩ := h
    have nd := scHR.nd
    refine ⟨_, pss_cons (ps_par (i := 1) (j := 2) (by rfl) nd rfl rfl (by decide) rfl rfl (pa_cons (pe_fld (pe_fld (pv 0) rfl) rfl) (pa_cons (pe_fld (pe_fld (pv 0) rfl) rfl) pa_nil)) (by rfl))
      (pss_one (ps_ret (pe_make M_Height.M M_Height.F (hr.mono (by decide)) (by rfl) M_Height.mgC M_Height.b .nil pass0 (pa_cons (pe_make M_Tone.M M_Tone.F (hr.mono (by decide)) (by rfl) M_Tone.mgC M_Tone.b .nil pass0 (pa_cons (pe_op op_add (pv 1) (pv 2)) (pa_cons (pe_un un_neg (pv 2)) pa_nil))) (pa_cons (pe_meth0 (pe_fld (pv 0) rfl) (ts m).cl (ts m).mi (FI m) (hr.mono (by decide)) (bI m) .nil pass0) pa_nil))))), ?_⟩
    obtain ⟨dt, ht1⟩ := id ht
    refine ⟨_, rfl, _, CH, dx, _, _, rfl, hx, T_Height.cl, T_Height.nT, heiF_tone _ _, _, CT, dt, _, _, rfl, ht1, T_Tone.cl, T_Tone.nO, tonF_oct _ _, _, rfl, _, CH, dx, _, _, rfl, hx, T_Height.cl, T_Height.nT, heiF_tone _ _, _, CT, dt, _, _, rfl, ht1, T_Tone.cl, T_Tone.nF, tonF_fif _ _, _, _, rfl, ?_⟩
    refine ⟨_, rfl, _, rfl, _, _, rfl, rfl, _, rfl, _, rfl, ?_⟩
    intro y1 dy1 hy1 hdy1 hne1
    refine ⟨y1, dy1, o + k, -k, rfl, upd_same, fun H1 hT1 hk1 => ⟨rfl, ?_⟩⟩
    have s1 := mk_same hy1 hdy1 hk1
    have hm1 := hm.same s1
    obtain ⟨dr, hr1⟩ := id hm1
    refine ⟨_, rfl, _, CH, dx, _, _, rfl, s1 _ _ hx, T_Height.cl, T_Height.nM, heiF_term _ _, r, dr, _, rfl, hr1, terF_no _ (by decide +kernel), ⟨r, dr, _, rfl, hr1⟩, r, m, b, rfl, hm1, hb, fun r2 H2 s2 hr2 => ?_⟩
    intro y dy hy hdy hne
    have g := same_two (o := .own y) (u := .ins CH dy []) hdy hy hne
    refine ⟨y, dy, y1, r2, o + k, -k, m, -b, rfl, upd_same, (hT1.same s2).same g, N, hr2.same g, fun H' h1 hk => ⟨rfl, ?_⟩⟩
    have s3 := mk_same hy hdy hk
    exact kk y H' (s1.trans (s2.trans s3)) ⟨dy, y1, r2, h1, (hT1.same s2).same s3, hr2.same s3⟩
end
end Toy
set_option maxRecDepth 100000
set_option maxHeartbeats 4000000
set_option exponentiation.threshold 9000
namespace Toy
open PySem L2
open Rat (divInt)
section
variable {P : Program} {w : World} {K : PySem.W.Frag} {mg : Str → Option Value} {base : Heap} {C CT CH : Addr} {A : TAd}
theorem TerC.nf {m : Bool} {D : Addr} (T : TerC K A D m) (m' : Bool) : PySem.W.notFirst K D (.ref (tcl A m')) = true := by
  cases m' with
  | true => exact T.nM
  | false => exact T.nC
def spHEq (K : PySem.W.Frag) (CH CT : Addr) (A : TAd) : Sp := fun vs H Q _ => ∃ x v o k m b, vs = [.ref x, v] ∧ Hei CH CT A H x o k m b ∧
  ((∃ y o' k' m' b', v = .ref y ∧ Hei CH CT A H y o' k' m' b' ∧ Q (.bl ((decide (o = o') && decide (k = k')) && (decide (m = m') && decide (b = b')))) H) ∨ ∃ t, TyX K H v t ∧ PySem.W.kitOne K t (.ref CH) = some false ∧ Q (.bl false) H)
abbrev sHEq : Stmt := inClass (top 81) 4
theorem scHQ : FnScope ["self", "other"] ["self", "other"] (defScope sHEq) := ⟨rfl, rfl, rfl, by decide +kernel, rfl, by decide +kernel, by decide +kernel⟩
theorem ok_heq {f f1 : Addr} {fd fd1 fdQ : FuncData} (F : Fun K "__eq__" "Height.__eq__" sHEq f fd) (T : Bl mg) (T_Tone : TonT K mg CT) (T_Height : HeiT K mg CH) (ts : ∀ m, TerC K A (tcl A m) m) (O_toneq : Opr P w K mg base 1 CT "__eq__" f1 fd1 ["self", "other"] (spTonEq CT))
    (FQ : FnOk P w K mg base CX0 3 A.eq fdQ ["self", "other"] (spTEq A)) (fnQ : PySem.W.isFn K (.ref A.eq) = true) (bQ : Binds K fdQ ["self", "other"] []) : FnOk P w K mg base CX0 4 f fd ["self", "other"] (spHEq K CH CT A) := by
  refine F.ok scHQ (fun vs H Q E h => ?_) (fun cdv Ar outer s H vs Q E hr h => ?_)
  · obtain ⟨x, v, o, k, m, b, rfl, _⟩ := h
    rfl
  · obtain ⟨x, v, o, k, m, b, rfl, ⟨dx, t, r, hx, ht, hm⟩, h⟩ := h
    have nd := scHQ.nd
    refine ⟨_, pss_cons (ps_if (pt_not (pt_val (pe_callB call_isi (by rfl) T.isinstance (by decide +kernel) (pa_cons (pv 1) (pa_cons (Own.pe_gref (by rfl) T_Height.mgC) pa_nil))))) (pss_one (ps_ret pe_bl)) pss_nil)
      (pss_one (ps_ret (pe_and (pe_cmpR (Own.op_ownC O_toneq.F (hr.mono (by decide)) O_toneq.at_ O_toneq.fn O_toneq.b pass0) (pe_fld (pv 0) rfl) (pe_fld (pv 1) rfl) (nomark _)) (pe_one (pe_cmpR (Own.op_ownC FQ (hr.mono (by decide)) (ts m).eq fnQ bQ pass0) (pe_fld (pv 0) rfl) (pe_fld (pv 1) rfl) (nomark _)))))), ?_⟩
    rcases h with ⟨y, o', k', m', b', rfl, ⟨dy, t', r', hy, ht', hm'⟩, q⟩ | ⟨tt, ty, no, q⟩
    · refine ⟨_, rfl, _, _, _, _, true, rfl, .own _, T_Height.ty hy, T_Height.kS, _, rfl, iteF ?_⟩
      obtain ⟨dt, ht1⟩ := id ht
      obtain ⟨dt', ht1'⟩ := id ht'
      refine ⟨_, rfl, _, CH, dx, _, _, rfl, hx, T_Height.cl, T_Height.nT, heiF_tone _ _, _, rfl, _, CH, dy, _, _, rfl, hy, T_Height.cl, T_Height.nT, heiF_tone _ _, t, dt, _, _, rfl, ht1, T_Tone.ty ht1', T_Tone.nC, t, t', o, k, o', k', rfl, ht, ht', ⟨_, rfl⟩, _, rfl, ?_⟩
      obtain ⟨dr, hr1⟩ := id hm
      obtain ⟨dr', hr1'⟩ := id hm'
      cases e : (decide (o = o') && decide (k = k')) with
      | true =>
        refine iteTb rfl ?_
        rw [e, Bool.true_and] at q
        exact ⟨_, rfl, _, CH, dx, _, _, rfl, hx, T_Height.cl, T_Height.nM, heiF_term _ _, _, rfl, _, CH, dy, _, _, rfl, hy, T_Height.cl, T_Height.nM, heiF_term _ _, r, dr, _, _, rfl, hr1, (ts m').ty hr1', (ts m).nf m', r, r', m, b, m', b', rfl, hm, hm', ⟨_, rfl⟩, q⟩
      | false =>
        refine iteFb rfl ?_
        rw [e, Bool.false_and] at q
        exact q
    · exact ⟨_, rfl, _, _, _, _, false, rfl, .own _, ty, no, _, rfl, iteT q⟩
/-! ### what the law draws -/
def sg (m : Bool) : Str := if m then "n" else "f"
def TermT (H : Hp) (t : Addr) (m : Bool) (c : Int) : Prop := H t = some (.tup [.str (sg m), .int c])
def ToneT (H : Hp) (t : Addr) (o k : Int) : Prop := H t = some (.tup [.int o, .int k])
def spLTerm : Sp := fun vs H Q _ => ∃ p cc k far, vs = [.ref p, .int far] ∧ Pen H p cc k ∧ k ≤ 900000 ∧ 0 ≤ far ∧ far ≤ 20 ∧ ∀ t m c H', -far ≤ c → c ≤ far → Pen H' p cc (k + 2) → But p H H' → TermT H' t m c → Q (.ref t) H'
abbrev sLTerm : Stmt := top 90
theorem scLT : FnScope ["_law_pen_here", "_law_far"] ["_law_pen_here", "_law_far"] (defScope sLTerm) := ⟨rfl, rfl, rfl, by decide +kernel, rfl, by decide +kernel, by decide +kernel⟩
theorem szs {z : Int} (h : z.natAbs ≤ 1000000) : Sz z := by
  unfold Sz
  exact Nat.lt_of_le_of_lt h (by decide +kernel)
theorem pen_ne {H : Hp} {p c l : Addr} {k : Nat} (h : Pen H p c k) (hl : H l = none) : l ≠ p := by
  obtain ⟨_, _, _, W, _⟩ := h
  exact fun z => by
    rw [z, W.hp] at hl
    cases hl
theorem ok_lterm {f f1 f2 : Addr} {fd fd1 fd2 : FuncData} (F : Fun K "_law_term" "_law_term" sLTerm f fd) (C__law_draw : Cal P w K mg base 1 "_law_draw" f1 fd1 ["_law_pen_here", "_law_many"] spDraw) (C__law_pick : Cal P w K mg base 2 "_law_pick" f2 fd2 ["_law_pen_here", "_law_some"] spPick) : FnOk P w K mg base CX0 3 f fd ["_law_pen_here", "_law_far"] spLTerm := by
  refine F.ok scLT (fun vs H Q E h => ?_) (fun cdv Ar outer s H vs Q E hr h => ?_)
  · obtain ⟨p, cc, k, far, rfl, _⟩ := h
    rfl
  · obtain ⟨p, cc, k, far, rfl, hP, hk, f0, f1, q⟩ := h
    have nd := scLT.nd
    refine ⟨_, pss_one (ps_ret (pe_tup (pa_cons (pe_call C__law_pick.F (hr.mono (by decide)) (by rfl) C__law_pick.mgf C__law_pick.kp C__law_pick.b .nil pass0 (pa_cons (pv 0) (pa_cons (pe_lst (pa_cons pe_str (pa_cons pe_str pa_nil))) pa_nil))) (pa_cons (pe_op op_sub (pe_call C__law_draw.F (hr.mono (by decide)) (by rfl) C__law_draw.mgf C__law_draw.kp C__law_draw.b .nil pass0 (pa_cons (pv 0) (pa_cons (pe_op op_add (pe_op op_mulW pe_int (pv 1)) pe_int) pa_nil))) (pv 1)) pa_nil)))), ?_⟩
    refine ⟨_, rfl, (by decide : 2 ≤ sizeLine), fun l hl => ⟨p, cc, l, _, k, rfl, hP.same (same_new hl), by omega, upd_same, pen_ne hP hl, (by decide : 0 < 2), (by decide : 2 ≤ 1000), fun v H1 hv P1 B1 => ?_⟩⟩
    obtain ⟨m, rfl⟩ : ∃ m, v = .str (sg m) := by
      rcases List.mem_cons.mp hv with rfl | hv
      · exact ⟨true, rfl⟩
      rcases List.mem_cons.mp hv with rfl | hv
      · exact ⟨false, rfl⟩
      cases hv
    have B01 : But p H H1 := (But.same (same_new hl)).trans B1
    refine ⟨_, rfl, _, rfl, _, _, rfl, rfl, (szs (by decide)).mul (szs (by omega)), _, _, rfl, rfl, p, cc, _, k + 1, rfl, P1, by omega, by omega, Nat.lt_of_le_of_lt (show (2 * far + 1).natAbs ≤ 41 by omega) (by decide +kernel), fun z H2 z0 z1 P2 B2 => ?_⟩
    refine ⟨_, rfl, _, _, rfl, rfl, (by decide : 2 ≤ sizeLine), fun t ht => ?_⟩
    exact q t m (z - far) _ (by omega) (by omega) (P2.same (same_new ht)) ((B01.trans B2).new ht) upd_same
def spLTone : Sp := fun vs H Q _ => ∃ p cc k far, vs = [.ref p, .int far] ∧ Pen H p cc k ∧ k ≤ 900000 ∧ 0 ≤ far ∧ far ≤ 20 ∧ ∀ t o j H', (-far ≤ o ∧ o ≤ far) → (-far ≤ j ∧ j ≤ far) → Pen H' p cc (k + 2) → But p H H' → ToneT H' t o j → Q (.ref t) H'
abbrev sLTone : Stmt := top 92
theorem scLO : FnScope ["_law_pen_here", "_law_far"] ["_law_pen_here", "_law_far"] (defScope sLTone) := ⟨rfl, rfl, rfl, by decide +kernel, rfl, by decide +kernel, by decide +kernel⟩
theorem ok_ltone {f f1 : Addr} {fd fd1 : FuncData} (F : Fun K "_law_tone" "_law_tone" sLTone f fd) (C__law_draw : Cal P w K mg base 1 "_law_draw" f1 fd1 ["_law_pen_here", "_law_many"] spDraw) : FnOk P w K mg base CX0 2 f fd ["_law_pen_here", "_law_far"] spLTone := by
  refine F.ok scLO (fun vs H Q E h => ?_) (fun cdv Ar outer s H vs Q E hr h => ?_)
  · obtain ⟨p, cc, k, far, rfl, _⟩ := h
    rfl
  · obtain ⟨p, cc, k, far, rfl, hP, hk, f0, f1, q⟩ := h
    have nd := scLO.nd
    refine ⟨_, pss_one (ps_ret (pe_tup (pa_cons (pe_op op_sub (pe_call C__law_draw.F (hr.mono (by decide)) (by rfl) C__law_draw.mgf C__law_draw.kp C__law_draw.b .nil pass0 (pa_cons (pv 0) (pa_cons (pe_op op_add (pe_op op_mulW pe_int (pv 1)) pe_int) pa_nil))) (pv 1)) (pa_cons (pe_op op_sub (pe_call C__law_draw.F (hr.mono (by decide)) (by rfl) C__law_draw.mgf C__law_draw.kp C__law_draw.b .nil pass0 (pa_cons (pv 0) (pa_cons (pe_op op_add (pe_op op_mulW pe_int (pv 1)) pe_int) pa_nil))) (pv 1)) pa_nil)))), ?_⟩
    have bd : (2 * far + 1).natAbs < 2 ^ 2000 := Nat.lt_of_le_of_lt (show (2 * far + 1).natAbs ≤ 41 by omega) (by decide +kernel)
    refine ⟨_, rfl, _, rfl, _, _, rfl, rfl, (szs (by decide)).mul (szs (by omega)), _, _, rfl, rfl, p, cc, _, k, rfl, hP, by omega, by omega, bd, fun z H1 z0 z1 P1 B1 => ?_⟩
    refine ⟨_, rfl, _, _, rfl, rfl, _, rfl, _, rfl, _, _, rfl, rfl, (szs (by decide)).mul (szs (by omega)), _, _, rfl, rfl, p, cc, _, k + 1, rfl, P1, by omega, by omega, bd, fun y H2 y0 y1 P2 B2 => ?_⟩
    refine ⟨_, rfl, _, _, rfl, rfl, (by decide : 2 ≤ sizeLine), fun t ht => ?_⟩
    exact q t (z - far) (y - far) _ ⟨by omega, by omega⟩ ⟨by omega, by omega⟩ (P2.same (same_new ht)) ((B1.trans B2).new ht) upd_same
end
end Toy
set_option maxRecDepth 100000
set_option maxHeartbeats 4000000
set_option exponentiation.threshold 9000
namespace Toy
open PySem L2
open Rat (divInt)
section
variable {P : Program} {w : World} {K : PySem.W.Frag} {mg : Str → Option Value} {base : Heap} {C CT CH : Addr} {A : TAd}
theorem sg_dec (m : Bool) : decide (V.str (sg m) = V.str "n") = m := by cases m <;> decide +kernel
def spRTerm (A : TAd) : Sp := fun vs H Q _ => ∃ t m c, vs = [.ref t] ∧ TermT H t m c ∧ (-12 ≤ c ∧ c ≤ 12) ∧ ∀ y H', Same H H' → TerM A H' y m c → Q (.ref y) H'
abbrev sRTerm : Stmt := top 91
theorem scRT : FnScope ["_law_term_here"] ["_law_term_here"] (defScope sRTerm) := ⟨rfl, rfl, rfl, by decide +kernel, rfl, by decide +kernel, by decide +kernel⟩
theorem ok_rterm {f f1 f2 : Addr} {fd fd1 fd2 : FuncData} (F : Fun K "_law_real_term" "_law_real_term" sRTerm f fd) (ts : ∀ m, TerC K A (tcl A m) m) (M_Moving : Mak P w K mg base 4 "Moving" A.cm f1 fd1 ["self", "number"] (spTerI K A)) (M_Note : Mak P w K mg base 4 "Note" A.cn f2 fd2 ["self", "number"] (spTerI K A)) :
    FnOk P w K mg base CX0 6 f fd ["_law_term_here"] (spRTerm A) := by
  refine F.ok scRT (fun vs H Q E h => ?_) (fun cdv Ar outer s H vs Q E hr h => ?_)
  · obtain ⟨t, m, c, rfl, _⟩ := h
    rfl
  · obtain ⟨t, m, c, rfl, h, hc, k⟩ := h
    have nd := scRT.nd
    refine ⟨_, pss_one (ps_ret (pe_ifExp (pt_cmpR op_eq (pe_ix ix_tup (pv 0) pe_int (fun _ _ => rfl)) pe_str (nomark _)) (pe_make M_Moving.M M_Moving.F (hr.mono (by decide)) (by rfl) M_Moving.mgC M_Moving.b .nil pass0 (pa_cons (pe_ix ix_tup (pv 0) pe_int (fun _ _ => rfl)) pa_nil)) (pe_make M_Note.M M_Note.F (hr.mono (by decide)) (by rfl) M_Note.mgC M_Note.b .nil pass0 (pa_cons (pe_ix ix_tup (pv 0) pe_int (fun _ _ => rfl)) pa_nil)))), ?_⟩
    refine ⟨_, rfl, t, _, _, _, rfl, rfl, SqT.of h, rfl, rfl, _, rfl, ?_⟩
    rw [sg_dec]
    cases m with
    | true =>
      refine iteTb rfl ⟨_, rfl, t, _, _, _, rfl, rfl, SqT.of h, rfl, ?_⟩
      intro y dy hy hdy hne
      exact ⟨y, dy, A.cm, true, c, ts true, rfl, upd_same, hc, fun H' hT hk => ⟨rfl, k y H' (mk_same hy hdy hk) hT⟩⟩
    | false =>
      refine iteFb rfl ⟨_, rfl, t, _, _, _, rfl, rfl, SqT.of h, rfl, ?_⟩
      intro y dy hy hdy hne
      exact ⟨y, dy, A.cn, false, c, ts false, rfl, upd_same, hc, fun H' hT hk => ⟨rfl, k y H' (mk_same hy hdy hk) hT⟩⟩
def spRHei (CH CT : Addr) (A : TAd) : Sp := fun vs H Q _ => ∃ t1 t2 o k m c, vs = [.ref t1, .ref t2] ∧ ToneT H t1 o k ∧ TermT H t2 m c ∧ Near o k ∧ (-12 ≤ c ∧ c ≤ 12) ∧ ∀ y H', Same H H' → Hei CH CT A H' y o k m c → Q (.ref y) H'
abbrev sRHei : Stmt := top 93
theorem scRH : FnScope ["_law_tone_here", "_law_term_here"] ["_law_tone_here", "_law_term_here"] (defScope sRHei) := ⟨rfl, rfl, rfl, by decide +kernel, rfl, by decide +kernel, by decide +kernel⟩
theorem ok_rhei {f f1 f2 f3 : Addr} {fd fd1 fd2 fd3 : FuncData} (F : Fun K "_law_real_height" "_law_real_height" sRHei f fd) (C__law_real_term : Cal P w K mg base 6 "_law_real_term" f3 fd3 ["_law_term_here"] (spRTerm A)) (M_Tone : Mak P w K mg base 2 "Tone" CT f2 fd2 ["self", "octaves", "fifths"] (spTonI CT)) (M_Height : Mak P w K mg base 4 "Height" CH f1 fd1 ["self", "tone", "term"] (spHeiI CH CT A)) :
    FnOk P w K mg base CX0 7 f fd ["_law_tone_here", "_law_term_here"] (spRHei CH CT A) := by
  refine F.ok scRH (fun vs H Q E h => ?_) (fun cdv Ar outer s H vs Q E hr h => ?_)
  · obtain ⟨t1, t2, o, k, m, c, rfl, _⟩ := h
    rfl
  · obtain ⟨t1, t2, o, k, m, c, rfl, h1, h2, N, hc, kk⟩ := h
    have nd := scRH.nd
    refine ⟨_, pss_one (ps_ret (pe_make M_Height.M M_Height.F (hr.mono (by decide)) (by rfl) M_Height.mgC M_Height.b .nil pass0 (pa_cons (pe_make M_Tone.M M_Tone.F (hr.mono (by decide)) (by rfl) M_Tone.mgC M_Tone.b .nil pass0 (pa_cons (pe_ix ix_tup (pv 0) pe_int (fun _ _ => rfl)) (pa_cons (pe_ix ix_tup (pv 0) pe_int (fun _ _ => rfl)) pa_nil))) (pa_cons (pe_call C__law_real_term.F (hr.mono (by decide)) (by rfl) C__law_real_term.mgf C__law_real_term.kp C__law_real_term.b .nil pass0 (pa_cons (pv 1) pa_nil)) pa_nil)))), ?_⟩
    refine ⟨_, rfl, t1, _, _, _, rfl, rfl, SqT.of h1, rfl, _, rfl, t1, _, _, _, rfl, rfl, SqT.of h1, rfl, ?_⟩
    intro y1 dy1 hy1 hdy1 hne1
    refine ⟨y1, dy1, o, k, rfl, upd_same, fun H1 hT1 hk1 => ⟨rfl, ?_⟩⟩
    have s1 := mk_same hy1 hdy1 hk1
    refine ⟨_, rfl, t2, m, c, rfl, s1 _ _ h2, hc, fun r2 H2 s2 hr2 => ?_⟩
    intro y dy hy hdy hne
    have g := same_two (o := .own y) (u := .ins CH dy []) hdy hy hne
    refine ⟨y, dy, y1, r2, o, k, m, c, rfl, upd_same, (hT1.same s2).same g, N, hr2.same g, fun H' h1 hk => ⟨rfl, ?_⟩⟩
    have s3 := mk_same hy hdy hk
    exact kk y H' (s1.trans (s2.trans s3)) ⟨dy, y1, r2, h1, (hT1.same s2).same s3, hr2.same s3⟩
def spKey : Sp := fun vs H Q _ => ∃ t m c n tp b, vs = [.ref t, .int n, .int tp, .int b] ∧ TermT H t m c ∧ 0 < b ∧ (Sz ((if m then n else 0) + c) ∧ Sz tp) ∧ Q (.int (((if m then n else 0) + c) * tp % b)) H
abbrev sKey : Stmt := top 94
theorem scKy : FnScope ["_law_term_here", "_law_n", "_law_top", "_law_bottom"] ["_law_term_here", "_law_n", "_law_top", "_law_bottom"] (defScope sKey) := ⟨rfl, rfl, rfl, by decide +kernel, rfl, by decide +kernel, by decide +kernel⟩
theorem ok_key {f : Addr} {fd : FuncData} (F : Fun K "_law_key" "_law_key" sKey f fd) (T : Bl mg) : FnOk P w K mg base CX0 1 f fd ["_law_term_here", "_law_n", "_law_top", "_law_bottom"] spKey := by
  refine F.ok scKy (fun vs H Q E h => ?_) (fun cdv Ar outer s H vs Q E hr h => ?_)
  · obtain ⟨t, m, c, n, tp, b, rfl, _⟩ := h
    rfl
  · obtain ⟨t, m, c, n, tp, b, rfl, h, hb, ⟨z1, z2⟩, q⟩ := h
    have nd := scKy.nd
    refine ⟨_, pss_one (ps_ret (pe_op op_mod (pe_callTy call_int1 (by rfl) T.int (by decide +kernel) (pa_cons (pe_op op_mulW (pe_op op_add (pe_ifExp (pt_cmpR op_eq (pe_ix ix_tup (pv 0) pe_int (fun _ _ => rfl)) pe_str (nomark _)) (pv 1) pe_int) (pe_ix ix_tup (pv 0) pe_int (fun _ _ => rfl))) (pv 2)) pa_nil)) (pv 3))), ?_⟩
    refine ⟨_, rfl, t, _, _, _, rfl, rfl, SqT.of h, rfl, rfl, _, rfl, ?_⟩
    rw [sg_dec]
    cases m with
    | true =>
      refine iteTb rfl ⟨_, rfl, _, rfl, t, _, _, _, rfl, rfl, SqT.of h, rfl, _, _, rfl, rfl, _, rfl, _, _, rfl, rfl, z1.mul z2, .inl ⟨_, rfl, _, rfl, _, _, rfl, rfl, hb, q⟩⟩
    | false =>
      refine iteFb rfl ⟨_, rfl, t, _, _, _, rfl, rfl, SqT.of h, rfl, _, _, rfl, rfl, _, rfl, _, _, rfl, rfl, z1.mul z2, .inl ⟨_, rfl, _, rfl, _, _, rfl, rfl, hb, q⟩⟩
def spLNum : Sp := fun vs H Q _ => ∃ p cc k, vs = [.ref p] ∧ Pen H p cc k ∧ k ≤ 900000 ∧ ∀ z H', z.natAbs ≤ 10 ^ 40 → Pen H' p cc (k + 3) → But p H H' → Q (.int z) H'
abbrev sLNum : Stmt := top 89
theorem scLN : FnScope ["_law_pen_here", "_law_near"] ["_law_pen_here"] (defScope sLNum) := ⟨rfl, rfl, rfl, by decide +kernel, rfl, by decide +kernel, by decide +kernel⟩
theorem ok_lnum {f f1 f2 : Addr} {fd fd1 fd2 : FuncData} (F : Fun K "_law_number" "_law_number" sLNum f fd) (C__law_draw : Cal P w K mg base 1 "_law_draw" f1 fd1 ["_law_pen_here", "_law_many"] spDraw) (C__law_pick : Cal P w K mg base 2 "_law_pick" f2 fd2 ["_law_pen_here", "_law_some"] spPick) : FnOk P w K mg base CX0 3 f fd ["_law_pen_here"] spLNum := by
  refine F.ok scLN (fun vs H Q E h => ?_) (fun cdv Ar outer s H vs Q E hr h => ?_)
  · obtain ⟨p, cc, k, rfl, _⟩ := h
    rfl
  · obtain ⟨p, cc, k, rfl, hP, hk, q⟩ := h
    have nd := scLN.nd
    refine ⟨_, pss_cons (ps_set (i := 1) nd rfl (Or.inl rfl) (pe_lst (pa_cons pe_int (pa_cons pe_int (pa_cons (pe_un un_neg pe_int) (pa_cons pe_int (pa_cons (pe_un un_neg pe_int) (pa_cons (pe_op op_sub (pe_call C__law_draw.F (hr.mono (by decide)) (by rfl) C__law_draw.mgf C__law_draw.kp C__law_draw.b .nil pass0 (pa_cons (pv 0) (pa_cons pe_int pa_nil))) pe_int) pa_nil))))))))
      (pss_one (ps_ret (pe_call C__law_pick.F (hr.mono (by decide)) (by rfl) C__law_pick.mgf C__law_pick.kp C__law_pick.b .nil pass0 (pa_cons (pv 0) (pa_cons (pe_op op_cat (pv 1) (pe_lst (pa_cons (pe_op op_pow pe_int pe_int) (pa_cons (pe_op op_sub pe_int (pe_op op_pow pe_int pe_int)) (pa_cons (pe_call C__law_draw.F (hr.mono (by decide)) (by rfl) C__law_draw.mgf C__law_draw.kp C__law_draw.b .nil pass0 (pa_cons (pv 0) (pa_cons (pe_op op_pow pe_int pe_int) pa_nil))) pa_nil))))) pa_nil))))), ?_⟩
    refine ⟨1, rfl, 7, rfl, _, rfl, p, cc, 60, k, rfl, hP, by omega, by decide, by decide +kernel, fun a H1 a0 a1 P1 B1 => ⟨_, _, rfl, rfl, (by decide : 6 ≤ sizeLine), fun l1 hl1 => ?_⟩⟩
    have n1 := pen_ne P1 hl1
    have P1' := P1.same (same_new (o := .lst [.int 0, .int 1, .int (-1), .int 5, .int (-7), .int (a - 30)]) hl1)
    refine ⟨_, rfl, _, rfl, _, _, rfl, rfl, ⟨by decide, by decide, by decide⟩, _, _, rfl, rfl, ⟨by decide, by decide, by decide⟩, _, _, rfl, rfl, _, rfl, _, _, rfl, rfl, ⟨by decide, by decide, by decide⟩, p, cc, _, k + 1, rfl, P1', by omega, by decide, by decide +kernel, fun e H2 e0 e1 P2 B2 => ⟨(by decide : 3 ≤ sizeLine), fun l2 hl2 => ?_⟩⟩
    have hl12 := same_new (o := .lst [.int (10 ^ 39), .int (1 - 10 ^ 40), .int e]) hl2 _ _ (B2 _ _ upd_same n1)
    refine ⟨l1, l2, _, _, rfl, rfl, hl12, upd_same, (by decide : 9 ≤ sizeLine), fun l3 hl3 => ?_⟩
    have P3 := P2.same (same_new (o := .lst [.int (10 ^ 39), .int (1 - 10 ^ 40), .int e]) hl2)
    refine ⟨p, cc, l3, _, k + 2, rfl, P3.same (same_new hl3), by omega, upd_same, pen_ne P3 hl3, (by decide : 0 < 9), (by decide : 9 ≤ 1000), fun v H4 hv P4 B4 => ?_⟩
    obtain ⟨z, rfl, hz⟩ : ∃ z : Int, v = .int z ∧ z.natAbs ≤ 10 ^ 40 := by
      simp only [List.mem_cons, List.not_mem_nil, or_false, List.cons_append, List.nil_append] at hv
      have ea : (a - 30).natAbs ≤ 10 ^ 40 := by omega
      have ee : e.natAbs ≤ 10 ^ 40 := by
        replace e1 : e < 10 ^ 20 := e1
        omega
      rcases hv with h | h | h | h | h | h | h | h | h
      · exact ⟨_, h, by decide +kernel⟩
      · exact ⟨_, h, by decide +kernel⟩
      · exact ⟨_, h, by decide +kernel⟩
      · exact ⟨_, h, by decide +kernel⟩
      · exact ⟨_, h, by decide +kernel⟩
      · exact ⟨_, h, ea⟩
      · exact ⟨_, h, by decide +kernel⟩
      · exact ⟨_, h, by decide +kernel⟩
      · exact ⟨_, h, ee⟩
    have BB : But p H H4 := (((((B1.new hl1).trans B2).new hl2).new hl3)).trans B4
    exact q z H4 hz P4 BB
end
end Toy
set_option maxRecDepth 100000
set_option maxHeartbeats 4000000
set_option exponentiation.threshold 9000
namespace Toy
open PySem L2
open Rat (divInt)
section
variable {P : Program} {w : World} {K : PySem.W.Frag} {mg : Str → Option Value} {base : Heap}
theorem szk {z : Int} (h : z.natAbs < 10 ^ 250) : Sz z := Sz.of h
def FrT (p : Addr) (H : Hp) (v : V) : Prop := ∃ (a : Addr) (t b : Int), v = .ref a ∧ H a = some (.tup [.int t, .int b]) ∧ 0 < t ∧ t < b ∧ b < 10 ^ 40 ∧ a ≠ p
def FrAll (p : Addr) (H : Hp) (vs : List V) : Prop := ∀ v ∈ vs, FrT p H v
theorem FrAll.same {p : Addr} {H H' : Hp} {vs : List V} (h : FrAll p H vs) (s : Same H H') : FrAll p H' vs := fun v hv => let ⟨a, t, b, e, h1, r⟩ := h v hv; ⟨a, t, b, e, s _ _ h1, r⟩
theorem FrAll.snoc {p cc a : Addr} {H : Hp} {vs : List V} {k : Nat} {t b : Int} (h : FrAll p H vs) (hP : Pen H p cc k) (ha : H a = none) (h1 : 0 < t) (h2 : t < b) (h3 : b < 10 ^ 40) : FrAll p (upd H a (.tup [.int t, .int b])) (vs ++ [.ref a]) := fun v hv => by
  rcases List.mem_append.mp hv with hv | hv
  · exact (h.same (same_new ha)) v hv
  · rw [List.mem_singleton.mp hv]
    exact ⟨a, t, b, rfl, upd_same, h1, h2, h3, pen_ne hP ha⟩
def spLFrac : Sp := fun vs H Q _ => ∃ p cc k, vs = [.ref p] ∧ Pen H p cc k ∧ k ≤ 900000 ∧ ∀ a t b H', 0 < t → t < b → b < 10 ^ 40 → Pen H' p cc (k + 1) → But p H H' → H' a = some (.tup [.int t, .int b]) → Q (.ref a) H'
abbrev sLFrac : Stmt := top 88
theorem scLF : FnScope ["_law_pen_here", "_law_near", "_law_far"] ["_law_pen_here"] (defScope sLFrac) := ⟨rfl, rfl, rfl, by decide +kernel, rfl, by decide +kernel, by decide +kernel⟩
theorem ok_lfrac {f f2 : Addr} {fd fd2 : FuncData} (F : Fun K "_law_fraction" "_law_fraction" sLFrac f fd) (C__law_pick : Cal P w K mg base 2 "_law_pick" f2 fd2 ["_law_pen_here", "_law_some"] spPick) : FnOk P w K mg base CX0 3 f fd ["_law_pen_here"] spLFrac := by
  refine F.ok scLF (fun vs H Q E h => ?_) (fun cdv Ar outer s H vs Q E hr h => ?_)
  · obtain ⟨p, cc, k, rfl, _⟩ := h
    rfl
  · obtain ⟨p, cc, k, rfl, P0, hk, q⟩ := h
    have nd := scLF.nd
    refine ⟨_, pss_cons (ps_set (i := 1) nd rfl (Or.inl rfl) (pe_lst (pa_cons (pe_tup (pa_cons pe_int (pa_cons pe_int pa_nil))) (pa_cons (pe_tup (pa_cons pe_int (pa_cons pe_int pa_nil))) (pa_cons (pe_tup (pa_cons pe_int (pa_cons pe_int pa_nil))) (pa_cons (pe_tup (pa_cons pe_int (pa_cons pe_int pa_nil))) (pa_cons (pe_tup (pa_cons pe_int (pa_cons pe_int pa_nil))) (pa_cons (pe_tup (pa_cons pe_int (pa_cons pe_int pa_nil))) (pa_cons (pe_tup (pa_cons pe_int (pa_cons pe_int pa_nil))) (pa_cons (pe_tup (pa_cons pe_int (pa_cons pe_int pa_nil))) (pa_cons (pe_tup (pa_cons pe_int (pa_cons pe_int pa_nil))) (pa_cons (pe_tup (pa_cons pe_int (pa_cons pe_int pa_nil))) pa_nil))))))))))))
      (pss_cons (ps_set (i := 2) nd rfl (Or.inl rfl) (pe_lst (pa_cons (pe_tup (pa_cons (pe_op op_pow pe_int pe_int) (pa_cons (pe_op op_add (pe_op op_mulW pe_int (pe_op op_pow pe_int pe_int)) pe_int) pa_nil))) (pa_cons (pe_tup (pa_cons (pe_op op_sub (pe_op op_pow pe_int pe_int) pe_int) (pa_cons (pe_op op_pow pe_int pe_int) pa_nil))) (pa_cons (pe_tup (pa_cons pe_int (pa_cons (pe_op op_sub (pe_op op_pow pe_int pe_int) pe_int) pa_nil))) (pa_cons (pe_tup (pa_cons pe_int (pa_cons (pe_op op_pow pe_int pe_int) pa_nil))) pa_nil))))))
      (pss_one (ps_ret (pe_call C__law_pick.F (hr.mono (by decide)) (by rfl) C__law_pick.mgf C__law_pick.kp C__law_pick.b .nil pass0 (pa_cons (pv 0) (pa_cons (pe_op op_cat (pv 1) (pv 2)) pa_nil)))))), ?_⟩
    have A0 : FrAll p H [] := fun v hv => nomatch hv
    have B0 : But p H H := But.refl
    refine ⟨(by decide : 2 ≤ sizeLine), fun a1 h1 => ?_⟩
    have A1 := A0.snoc P0 h1 (t := 1) (b := 2) (by decide +kernel) (by decide +kernel) (by decide +kernel)
    have P1 := P0.same (same_new (o := .tup [.int 1, .int 2]) h1)
    have B1 := B0.new (o := .tup [.int 1, .int 2]) h1
    refine ⟨(by decide : 2 ≤ sizeLine), fun a2 h2 => ?_⟩
    have A2 := A1.snoc P1 h2 (t := 1) (b := 3) (by decide +kernel) (by decide +kernel) (by decide +kernel)
    have P2 := P1.same (same_new (o := .tup [.int 1, .int 3]) h2)
    have B2 := B1.new (o := .tup [.int 1, .int 3]) h2
    refine ⟨(by decide : 2 ≤ sizeLine), fun a3 h3 => ?_⟩
    have A3 := A2.snoc P2 h3 (t := 2) (b := 3) (by decide +kernel) (by decide +kernel) (by decide +kernel)
    have P3 := P2.same (same_new (o := .tup [.int 2, .int 3]) h3)
    have B3 := B2.new (o := .tup [.int 2, .int 3]) h3
    refine ⟨(by decide : 2 ≤ sizeLine), fun a4 h4 => ?_⟩
    have A4 := A3.snoc P3 h4 (t := 2) (b := 5) (by decide +kernel) (by decide +kernel) (by decide +kernel)
    have P4 := P3.same (same_new (o := .tup [.int 2, .int 5]) h4)
    have B4 := B3.new (o := .tup [.int 2, .int 5]) h4
    refine ⟨(by decide : 2 ≤ sizeLine), fun a5 h5 => ?_⟩
    have A5 := A4.snoc P4 h5 (t := 3) (b := 5) (by decide +kernel) (by decide +kernel) (by decide +kernel)
    have P5 := P4.same (same_new (o := .tup [.int 3, .int 5]) h5)
    have B5 := B4.new (o := .tup [.int 3, .int 5]) h5
    refine ⟨(by decide : 2 ≤ sizeLine), fun a6 h6 => ?_⟩
    have A6 := A5.snoc P5 h6 (t := 1) (b := 7) (by decide +kernel) (by decide +kernel) (by decide +kernel)
    have P6 := P5.same (same_new (o := .tup [.int 1, .int 7]) h6)
    have B6 := B5.new (o := .tup [.int 1, .int 7]) h6
    refine ⟨(by decide : 2 ≤ sizeLine), fun a7 h7 => ?_⟩
    have A7 := A6.snoc P6 h7 (t := 4) (b := 7) (by decide +kernel) (by decide +kernel) (by decide +kernel)
    have P7 := P6.same (same_new (o := .tup [.int 4, .int 7]) h7)
    have B7 := B6.new (o := .tup [.int 4, .int 7]) h7
    refine ⟨(by decide : 2 ≤ sizeLine), fun a8 h8 => ?_⟩
    have A8 := A7.snoc P7 h8 (t := 5) (b := 12) (by decide +kernel) (by decide +kernel) (by decide +kernel)
    have P8 := P7.same (same_new (o := .tup [.int 5, .int 12]) h8)
    have B8 := B7.new (o := .tup [.int 5, .int 12]) h8
    refine ⟨(by decide : 2 ≤ sizeLine), fun a9 h9 => ?_⟩
    have A9 := A8.snoc P8 h9 (t := 7) (b := 12) (by decide +kernel) (by decide +kernel) (by decide +kernel)
    have P9 := P8.same (same_new (o := .tup [.int 7, .int 12]) h9)
    have B9 := B8.new (o := .tup [.int 7, .int 12]) h9
    refine ⟨(by decide : 2 ≤ sizeLine), fun a10 h10 => ?_⟩
    have A10 := A9.snoc P9 h10 (t := 11) (b := 19) (by decide +kernel) (by decide +kernel) (by decide +kernel)
    have P10 := P9.same (same_new (o := .tup [.int 11, .int 19]) h10)
    have B10 := B9.new (o := .tup [.int 11, .int 19]) h10
    refine ⟨(by decide : 10 ≤ sizeLine), fun l1 hl1 => ?_⟩
    have n1 := pen_ne P10 hl1
    have g11 := same_new (o := .lst [.ref a1, .ref a2, .ref a3, .ref a4, .ref a5, .ref a6, .ref a7, .ref a8, .ref a9, .ref a10]) hl1
    have A11 := A10.same g11
    have P11 := P10.same g11
    have B11 := B10.new (o := .lst [.ref a1, .ref a2, .ref a3, .ref a4, .ref a5, .ref a6, .ref a7, .ref a8, .ref a9, .ref a10]) hl1
    refine ⟨_, _, rfl, rfl, ⟨by decide, by decide, by decide⟩, _, _, rfl, rfl, ⟨by decide, by decide, by decide⟩, _, _, rfl, rfl, (szk (by decide +kernel)).mul (szk (by decide +kernel)), _, _, rfl, rfl, (by decide : 2 ≤ sizeLine), fun a12 h12 => ?_⟩
    have A12 := A11.snoc P11 h12 (t := (10 ^ 30)) (b := (2 * 10 ^ 30 + 1)) (by decide +kernel) (by decide +kernel) (by decide +kernel)
    have P12 := P11.same (same_new (o := .tup [.int (10 ^ 30), .int (2 * 10 ^ 30 + 1)]) h12)
    have B12 := B11.new (o := .tup [.int (10 ^ 30), .int (2 * 10 ^ 30 + 1)]) h12
    refine ⟨_, _, rfl, rfl, ⟨by decide, by decide, by decide⟩, _, _, rfl, rfl, _, _, rfl, rfl, ⟨by decide, by decide, by decide⟩, (by decide : 2 ≤ sizeLine), fun a13 h13 => ?_⟩
    have A13 := A12.snoc P12 h13 (t := (10 ^ 38 - 1)) (b := (10 ^ 38)) (by decide +kernel) (by decide +kernel) (by decide +kernel)
    have P13 := P12.same (same_new (o := .tup [.int (10 ^ 38 - 1), .int (10 ^ 38)]) h13)
    have B13 := B12.new (o := .tup [.int (10 ^ 38 - 1), .int (10 ^ 38)]) h13
    refine ⟨_, _, rfl, rfl, ⟨by decide, by decide, by decide⟩, _, _, rfl, rfl, (by decide : 2 ≤ sizeLine), fun a14 h14 => ?_⟩
    have A14 := A13.snoc P13 h14 (t := 1) (b := (10 ^ 39 - 1)) (by decide +kernel) (by decide +kernel) (by decide +kernel)
    have P14 := P13.same (same_new (o := .tup [.int 1, .int (10 ^ 39 - 1)]) h14)
    have B14 := B13.new (o := .tup [.int 1, .int (10 ^ 39 - 1)]) h14
    refine ⟨_, _, rfl, rfl, ⟨by decide, by decide, by decide⟩, (by decide : 2 ≤ sizeLine), fun a15 h15 => ?_⟩
    have A15 := A14.snoc P14 h15 (t := 7) (b := (10 ^ 25)) (by decide +kernel) (by decide +kernel) (by decide +kernel)
    have P15 := P14.same (same_new (o := .tup [.int 7, .int (10 ^ 25)]) h15)
    have B15 := B14.new (o := .tup [.int 7, .int (10 ^ 25)]) h15
    refine ⟨(by decide : 4 ≤ sizeLine), fun l2 hl2 => ?_⟩
    have g16 := same_new (o := .lst [.ref a12, .ref a13, .ref a14, .ref a15]) hl2
    have A16 := A15.same g16
    have P16 := P15.same g16
    have B16 := B15.new (o := .lst [.ref a12, .ref a13, .ref a14, .ref a15]) hl2
    have hl12 := g16 _ _ (same_new h15 _ _ (same_new h14 _ _ (same_new h13 _ _ (same_new h12 _ _ upd_same))))
    refine ⟨_, rfl, _, rfl, _, rfl, l1, l2, _, _, rfl, rfl, hl12, upd_same, (by decide : 14 ≤ sizeLine), fun l3 hl3 => ?_⟩
    have g17 := same_new (o := .lst ([.ref a1, .ref a2, .ref a3, .ref a4, .ref a5, .ref a6, .ref a7, .ref a8, .ref a9, .ref a10] ++ [.ref a12, .ref a13, .ref a14, .ref a15])) hl3
    have A17 := A16.same g17
    refine ⟨p, cc, l3, _, k, rfl, P16.same g17, by omega, upd_same, pen_ne P16 hl3, (by decide : 0 < 14), (by decide : 14 ≤ 1000), fun v H4 hv P4 B4 => ?_⟩
    obtain ⟨a, t, b, rfl, ha, t0, tb, b1, an⟩ := A17 v (by simpa using hv)
    exact q a t b H4 t0 tb b1 P4 ((B16.new hl3).trans B4) (B4 _ _ ha an)
end
end Toy
set_option maxRecDepth 100000
set_option maxHeartbeats 4000000
set_option exponentiation.threshold 9000
namespace Toy
open PySem L2
open Rat (divInt)
section
variable {P : Program} {w : World} {K : PySem.W.Frag} {mg : Str → Option Value} {base : Heap} {C CT CH : Addr} {A : TAd}
theorem rT {g : Bool → Bool} {E : XK} {H : Hp} {Q : VK} {a b : Addr} {o k o' k' : Int} (h : TonAt CT H a o k) (h' : TonAt CT H b o' k') (q : Q (.bl (g (decide (o = o') && decide (k = k')))) H) : Own.rEqL CT (spTonEq CT) E g (.ref a) (.ref b) H Q := by
  obtain ⟨dx, h1⟩ := id h
  obtain ⟨dy, h2⟩ := id h'
  exact ⟨a, dx, _, rfl, h1, .inr ⟨b, dy, _, rfl, h2⟩, a, b, o, k, o', k', rfl, h, h', _, rfl, q⟩
theorem rM {g : Bool → Bool} {E : XK} {H : Hp} {Q : VK} {a b : Addr} {m : Bool} {c c' : Int} (h : TerM A H a m c) (h' : TerM A H b m c') (q : Q (.bl (g (decide (c = c')))) H) : Own.rEqL (tcl A m) (spTEq A) E g (.ref a) (.ref b) H Q := by
  obtain ⟨dx, h1⟩ := id h
  obtain ⟨dy, h2⟩ := id h'
  refine ⟨a, dx, _, rfl, h1, .inr ⟨b, dy, _, rfl, h2⟩, a, b, m, c, m, c', rfl, h, h', _, rfl, ?_⟩
  rw [decide_eq_true (rfl : m = m), Bool.true_and]
  exact q
theorem rH {g : Bool → Bool} {E : XK} {H : Hp} {Q : VK} {x y : Addr} {o k o' k' : Int} {m m' : Bool} {c c' : Int} (h : Hei CH CT A H x o k m c) (h' : Hei CH CT A H y o' k' m' c') (q : Q (.bl (g ((decide (o = o') && decide (k = k')) && (decide (m = m') && decide (c = c'))))) H) : Own.rEqL CH (spHEq K CH CT A) E g (.ref x) (.ref y) H Q := by
  obtain ⟨dx, t, r, h1, _⟩ := id h
  obtain ⟨dy, t', r', h2, _⟩ := id h'
  exact ⟨x, dx, _, rfl, h1, .inr ⟨y, dy, _, rfl, h2⟩, x, .ref y, o, k, m, c, rfl, h, .inl ⟨y, o', k', m', c', rfl, h', _, rfl, q⟩⟩
theorem Hei.but {H H' : Hp} {p x : Addr} {xs : List V} {o k : Int} {m : Bool} {c : Int} (h : Hei CH CT A H x o k m c) (hp : H p = some (.lst xs)) (b : But p H H') : Hei CH CT A H' x o k m c := by
  obtain ⟨dx, t, r, h1, ⟨dt, h2⟩, dr, h3⟩ := h
  exact ⟨dx, t, r, b _ _ h1 (ne_of h1 hp (fun z => nomatch z)), ⟨dt, b _ _ h2 (ne_of h2 hp (fun z => nomatch z))⟩, dr, b _ _ h3 (ne_of h3 hp (fun z => nomatch z))⟩
theorem Pen.lst {H : Hp} {p c : Addr} {k : Nat} (h : Pen H p c k) : ∃ xs, H p = some (.lst xs) := by
  obtain ⟨_, _, _, W, _⟩ := h
  exact ⟨_, W.hp⟩
theorem tup_ne {H : Hp} {p x : Addr} {xs ys : List V} (hp : H p = some (.lst xs)) (h : H x = some (.tup ys)) : x ≠ p := ne_of h hp (fun z => nomatch z)
theorem heiF_no (t r : Addr) {m : Str} (h1 : ¬ m = "term") (h2 : ¬ m = "tone") : (heiF t r).lookup m = none := by
  unfold heiF
  rw [lookup_putF, if_neg h1, lookup_putF, if_neg h2]
  rfl
def spLKept (CH CT : Addr) (A : TAd) : Sp := fun vs H Q _ => ∃ p cc k x t1 t2 o j m c, vs = [.ref p, .ref x, .ref t1, .ref t2] ∧ Pen H p cc k ∧ k ≤ 900000 ∧ Hei CH CT A H x o j m c ∧ ToneT H t1 o j ∧ TermT H t2 m c ∧ Near o j ∧ (-12 ≤ c ∧ c ≤ 12) ∧ ∀ H', Pen H' p cc (k + 1) → But p H H' → Q (.bl true) H'
abbrev sLKept : Stmt := top 96
theorem scLK : FnScope ["_law_pen_here", "_law_made", "_law_tone_here", "_law_term_here", "_law_more", "_law_due"] ["_law_pen_here", "_law_made", "_law_tone_here", "_law_term_here"] (defScope sLKept) := ⟨rfl, rfl, rfl, by decide +kernel, rfl, by decide +kernel, by decide +kernel⟩
theorem ok_lkept {f f1 f2 f3 f4 f5 f6 f7 f8 : Addr} {fd fd1 fd2 fd3 fd4 fd5 fd6 fd7 fd8 fdQ : FuncData} (F : Fun K "_law_kept_right" "_law_kept_right" sLKept f fd) (T : Bl mg) (T_Tone : TonT K mg CT) (T_Height : HeiT K mg CH) (ts : ∀ m, TerC K A (tcl A m) m)
    (hneT : PySem.W.findIn K (.ref CT) "__ne__" = some (some (.builtin "object.__ne__"))) (hOT : PySem.W.subIn K (.ref CT) (.type "object") = some true) (hneH : PySem.W.findIn K (.ref CH) "__ne__" = some (some (.builtin "object.__ne__"))) (hOH : PySem.W.subIn K (.ref CH) (.type "object") = some true)
    (O_toneq : Opr P w K mg base 1 CT "__eq__" f1 fd1 ["self", "other"] (spTonEq CT)) (FQ : FnOk P w K mg base CX0 3 A.eq fdQ ["self", "other"] (spTEq A)) (fnQ : PySem.W.isFn K (.ref A.eq) = true) (bQ : Binds K fdQ ["self", "other"] []) (O_heq : Opr P w K mg base 4 CH "__eq__" f2 fd2 ["self", "other"] (spHEq K CH CT A))
    (D_moved : Dot P w K mg base 9 CH "moved" f3 fd3 ["self", "number"] (spHMoved CH CT A)) (D_mir : Dot P w K mg base 9 CH "mirrored" f4 fd4 ["self"] (spHMir CH CT A)) (M_Tone : Mak P w K mg base 2 "Tone" CT f5 fd5 ["self", "octaves", "fifths"] (spTonI CT))
    (C__law_draw : Cal P w K mg base 1 "_law_draw" f6 fd6 ["_law_pen_here", "_law_many"] spDraw) (C__law_real_term : Cal P w K mg base 6 "_law_real_term" f7 fd7 ["_law_term_here"] (spRTerm A)) (C__law_real_height : Cal P w K mg base 7 "_law_real_height" f8 fd8 ["_law_tone_here", "_law_term_here"] (spRHei CH CT A)) :
    FnOk P w K mg base CX0 10 f fd ["_law_pen_here", "_law_made", "_law_tone_here", "_law_term_here"] (spLKept CH CT A) := by
  refine F.ok scLK (fun vs H Q E h => ?_) (fun cdv Ar outer s H vs Q E hr h => ?_)
  · obtain ⟨p, cc, k, x, t1, t2, o, j, m, c, rfl, _⟩ := h
    rfl
  · obtain ⟨p, cc, k, x, t1, t2, o, j, m, c, rfl, hP, hk, hh, h1, h2, N, ⟨c1, c2⟩, q⟩ := h
    have nd := scLK.nd
    refine ⟨_, pss_cons (ps_if (PW.pt (pw_or (pt_cmpR (Own.op_neL O_toneq.F (hr.mono (by decide)) O_toneq.at_ hneT hOT O_toneq.fn T_Tone.nI O_toneq.b pass0) (pe_fld (pv 1) rfl) (pe_make M_Tone.M M_Tone.F (hr.mono (by decide)) (by rfl) M_Tone.mgC M_Tone.b .nil pass0 (pa_cons (pe_ix ix_tup (pv 2) pe_int (fun _ _ => rfl)) (pa_cons (pe_ix ix_tup (pv 2) pe_int (fun _ _ => rfl)) pa_nil))) (nomark _)) (pw_or1 (pt_cmpR (Own.op_neL FQ (hr.mono (by decide)) (ts m).eq (ts m).ne (ts m).sO fnQ (ts m).nI bQ pass0) (pe_fld (pv 1) rfl) (pe_call C__law_real_term.F (hr.mono (by decide)) (by rfl) C__law_real_term.mgf C__law_real_term.kp C__law_real_term.b .nil pass0 (pa_cons (pv 3) pa_nil)) (nomark _))))) (pss_one (ps_ret pe_bl)) pss_nil)
      (pss_cons (ps_set (i := 4) nd rfl (Or.inl rfl) (pe_op op_sub (pe_op op_sub (pe_call C__law_draw.F (hr.mono (by decide)) (by rfl) C__law_draw.mgf C__law_draw.kp C__law_draw.b .nil pass0 (pa_cons (pv 0) (pa_cons pe_int pa_nil))) pe_int) (pe_ix ix_tup (pv 3) pe_int (fun _ _ => rfl))))
      (pss_cons (ps_if (pt_cmpR (Own.op_neL O_heq.F (hr.mono (by decide)) O_heq.at_ hneH hOH O_heq.fn T_Height.nI O_heq.b pass0) (pe_meth (pv 1) T_Height.cl D_moved.m D_moved.F (hr.mono (by decide)) D_moved.b .nil pass0 (pa_cons (pv 4) pa_nil)) (pe_call C__law_real_height.F (hr.mono (by decide)) (by rfl) C__law_real_height.mgf C__law_real_height.kp C__law_real_height.b .nil pass0 (pa_cons (pv 2) (pa_cons (pe_tup (pa_cons (pe_ix ix_tup (pv 3) pe_int (fun _ _ => rfl)) (pa_cons (pe_op op_add (pe_ix ix_tup (pv 3) pe_int (fun _ _ => rfl)) (pv 4)) pa_nil))) pa_nil))) (nomark _)) (pss_one (ps_ret pe_bl)) pss_nil)
      (pss_cons (ps_if (pt_cmpR (Own.op_neL O_heq.F (hr.mono (by decide)) O_heq.at_ hneH hOH O_heq.fn T_Height.nI O_heq.b pass0) (pe_meth (pe_meth (pv 1) T_Height.cl D_moved.m D_moved.F (hr.mono (by decide)) D_moved.b .nil pass0 (pa_cons (pv 4) pa_nil)) T_Height.cl D_moved.m D_moved.F (hr.mono (by decide)) D_moved.b .nil pass0 (pa_cons (pe_op op_sub pe_int (pv 4)) pa_nil)) (pv 1) (nomark _)) (pss_one (ps_ret pe_bl)) pss_nil)
      (C8.pss_cut (ps_if (pt_cmpR op_le (pe_callB call_abs (by rfl) T.abs (by decide +kernel) (pa_cons (pe_op op_add (pe_ix ix_tup (pv 2) pe_int (fun _ _ => rfl)) (pe_ix ix_tup (pv 2) pe_int (fun _ _ => rfl))) pa_nil)) pe_int (nomark _)) (pss_cons (ps_set (i := 5) nd rfl (Or.inl rfl) (pe_call C__law_real_height.F (hr.mono (by decide)) (by rfl) C__law_real_height.mgf C__law_real_height.kp C__law_real_height.b .nil pass0 (pa_cons (pe_tup (pa_cons (pe_op op_add (pe_ix ix_tup (pv 2) pe_int (fun _ _ => rfl)) (pe_ix ix_tup (pv 2) pe_int (fun _ _ => rfl))) (pa_cons (pe_op op_sub pe_int (pe_ix ix_tup (pv 2) pe_int (fun _ _ => rfl))) pa_nil))) (pa_cons (pe_tup (pa_cons (pe_ix ix_tup (pv 3) pe_int (fun _ _ => rfl)) (pa_cons (pe_op op_sub pe_int (pe_ix ix_tup (pv 3) pe_int (fun _ _ => rfl))) pa_nil))) pa_nil))))
      (pss_one (ps_if (PW.pt (pw_or (pt_cmpR (Own.op_neL O_heq.F (hr.mono (by decide)) O_heq.at_ hneH hOH O_heq.fn T_Height.nI O_heq.b pass0) (pe_meth0 (pv 1) T_Height.cl D_mir.m D_mir.F (hr.mono (by decide)) D_mir.b .nil pass0) (pv 5) (nomark _)) (pw_or1 (pt_cmpR (Own.op_neL O_heq.F (hr.mono (by decide)) O_heq.at_ hneH hOH O_heq.fn T_Height.nI O_heq.b pass0) (pe_meth0 (pv 5) T_Height.cl D_mir.m D_mir.F (hr.mono (by decide)) D_mir.b .nil pass0) (pv 1) (nomark _))))) (pss_one (ps_ret pe_bl)) pss_nil))) pss_nil)
      (pss_one (ps_ret (pe_and (pe_cmpR (Own.op_eqL O_toneq.F (hr.mono (by decide)) O_toneq.at_ O_toneq.fn T_Tone.nI O_toneq.b pass0) (pe_fld (pv 1) rfl) (pe_make M_Tone.M M_Tone.F (hr.mono (by decide)) (by rfl) M_Tone.mgC M_Tone.b .nil pass0 (pa_cons (pe_ix ix_tup (pv 2) pe_int (fun _ _ => rfl)) (pa_cons (pe_ix ix_tup (pv 2) pe_int (fun _ _ => rfl)) pa_nil))) (nomark _)) (pe_one (pe_cmpR (Own.op_eqL FQ (hr.mono (by decide)) (ts m).eq fnQ (ts m).nI bQ pass0) (pe_fld (pv 1) rfl) (pe_call C__law_real_term.F (hr.mono (by decide)) (by rfl) C__law_real_term.mgf C__law_real_term.kp C__law_real_term.b .nil pass0 (pa_cons (pv 3) pa_nil)) (nomark _)))))))))), ?_⟩
    obtain ⟨dx, t, r, hx, ht, hm⟩ := id hh
    refine ⟨_, rfl, _, CH, dx, _, _, rfl, hx, T_Height.cl, T_Height.nT, heiF_tone _ _, _, rfl, t1, _, _, _, rfl, rfl, SqT.of h1, rfl, _, rfl, t1, _, _, _, rfl, rfl, SqT.of h1, rfl, ?_⟩
    intro y1 dy1 hy1 hdy1 hne1
    refine ⟨y1, dy1, o, j, rfl, upd_same, fun H1 hT1 hk1 => ⟨rfl, ?_⟩⟩
    have s1 := mk_same hy1 hdy1 hk1
    refine rT (ht.same s1) hT1 ?_
    refine ⟨_, rfl, iteFb (by rw [decide_eq_true rfl, decide_eq_true rfl]; rfl) ?_⟩
    refine ⟨_, rfl, _, CH, dx, _, _, rfl, s1 _ _ hx, T_Height.cl, T_Height.nM, heiF_term _ _, _, rfl, t2, m, c, rfl, s1 _ _ h2, ⟨c1, c2⟩, fun r2 H2 s2 hr2 => ?_⟩
    have s02 := s1.trans s2
    refine rM (hm.same s02) hr2 ⟨_, rfl, iteFb (by rw [decide_eq_true rfl]; rfl) ?_⟩
    have P2 := hP.same s02
    refine ⟨_, rfl, p, cc, 25, k, rfl, P2, by omega, by decide, by decide +kernel, fun a H3 a0 a1 P3 B3 => ?_⟩
    obtain ⟨pxs, hpx⟩ := P2.lst
    have hh3 := (hh.same s02).but hpx B3
    have h13 : ToneT H3 t1 o j := B3 _ _ (s02 _ _ h1) (tup_ne hpx (s02 _ _ h1))
    have h23 : TermT H3 t2 m c := B3 _ _ (s02 _ _ h2) (tup_ne hpx (s02 _ _ h2))
    refine ⟨_, _, rfl, rfl, _, rfl, t2, _, _, _, rfl, rfl, SqT.of h23, rfl, _, _, rfl, rfl, ?_⟩
    have hz : -12 ≤ c + (a - 12 - c) ∧ c + (a - 12 - c) ≤ 12 := ⟨by omega, by omega⟩
    obtain ⟨dx3, t3, r3, hx3, _⟩ := id hh3
    refine ⟨_, rfl, x, dx3, _, rfl, hx3, heiF_no _ _ (by decide +kernel) (by decide +kernel), _, rfl, x, o, j, m, c, _, rfl, hh3, N, hz, fun y4 H4 s4 hy4 => ?_⟩
    have h14 : ToneT H4 t1 o j := s4 _ _ h13
    have h24 : TermT H4 t2 m c := s4 _ _ h23
    refine ⟨_, rfl, _, rfl, t2, _, _, _, rfl, rfl, SqT.of h24, rfl, _, rfl, t2, _, _, _, rfl, rfl, SqT.of h24, rfl, _, rfl, _, _, rfl, rfl, (by decide : 2 ≤ sizeLine), fun e5 he5 => ?_⟩
    have s5 := same_new (o := .tup [.str (sg m), .int (c + (a - 12 - c))]) he5
    refine ⟨t1, e5, o, j, m, _, rfl, s5 _ _ h14, upd_same, N, hz, fun y6 H6 s6 hy6 => ?_⟩
    refine rH (hy4.same (s5.trans s6)) hy6 ⟨_, rfl, iteFb (by simp) ?_⟩
    have s36 := s4.trans (s5.trans s6)
    have hh6 := hh3.same s36
    obtain ⟨dx6, t6, r6, hx6, _⟩ := id hh6
    refine ⟨_, rfl, x, dx6, _, rfl, hx6, heiF_no _ _ (by decide +kernel) (by decide +kernel), _, rfl, x, o, j, m, c, _, rfl, hh6, N, hz, fun y7 H7 s7 hy7 => ?_⟩
    obtain ⟨dy7, t7, r7, hi7, _⟩ := id hy7
    refine ⟨y7, dy7, _, rfl, hi7, heiF_no _ _ (by decide +kernel) (by decide +kernel), _, rfl, _, _, rfl, rfl, y7, o, j, m, _, _, rfl, hy7, N, ⟨by omega, by omega⟩, fun y8 H8 s8 hy8 => ?_⟩
    have s38 := s36.trans (s7.trans s8)
    have hh8 := hh3.same s38
    have ec : c + (a - 12 - c) + (0 - (a - 12 - c)) = c := by omega
    rw [ec] at hy8
    refine ⟨_, rfl, rH hy8 hh8 ⟨_, rfl, iteFb (by simp) ?_⟩⟩
    have h18 : ToneT H8 t1 o j := s38 _ _ h13
    have h28 : TermT H8 t2 m c := s38 _ _ h23
    refine ⟨fun σ H' => ∃ v5, σ = [some (.ref p), some (.ref x), some (.ref t1), some (.ref t2), some (.int (a - 12 - c)), v5] ∧ Same H3 H', ?_, ?_⟩
    · refine ⟨_, rfl, t1, _, _, _, rfl, rfl, SqT.of h18, rfl, _, rfl, t1, _, _, _, rfl, rfl, SqT.of h18, rfl, _, _, rfl, rfl, _, rfl, _, _, rfl, rfl, _, rfl, ?_⟩
      by_cases h20 : (if o + j < 0 then -(o + j) else o + j) ≤ 20
      · refine iteTb (decide_eq_true h20) ?_
        have hN : Near (o + j) (-j) := by
          have n1 := N.k1
          have n2 := N.k2
          refine ⟨?_, ?_, by omega, by omega⟩ <;> (split at h20 <;> omega)
        refine ⟨_, rfl, t1, _, _, _, rfl, rfl, SqT.of h18, rfl, _, rfl, t1, _, _, _, rfl, rfl, SqT.of h18, rfl, _, _, rfl, rfl, _, rfl, t1, _, _, _, rfl, rfl, SqT.of h18, rfl, _, _, rfl, rfl, (by decide : 2 ≤ sizeLine), fun e9 he9 => ?_⟩
        have s9 := same_new (o := .tup [.int (o + j), .int (0 - j)]) he9
        have h29 := s9 _ _ h28
        refine ⟨_, rfl, t2, _, _, _, rfl, rfl, SqT.of h29, rfl, _, rfl, t2, _, _, _, rfl, rfl, SqT.of h29, rfl, _, _, rfl, rfl, (by decide : 2 ≤ sizeLine), fun e10 he10 => ?_⟩
        have s10 := same_new (o := .tup [.str (sg m), .int (0 - c)]) he10
        have hN' : Near (o + j) (0 - j) := by rw [Int.zero_sub]; exact hN
        refine ⟨e9, e10, o + j, 0 - j, m, 0 - c, rfl, s10 _ _ upd_same, upd_same, hN', ⟨by omega, by omega⟩, fun y11 H11 s11 hy11 => ?_⟩
        have s311 := s38.trans (s9.trans (s10.trans s11))
        have hh11 := hh3.same s311
        obtain ⟨dxa, ta, ra, hxa, _⟩ := id hh11
        refine ⟨_, rfl, x, dxa, _, rfl, hxa, heiF_no _ _ (by decide +kernel) (by decide +kernel), x, o, j, m, c, rfl, hh11, hN, ⟨c1, c2⟩, fun y12 H12 s12 hy12 => ?_⟩
        rw [← Int.zero_sub j, ← Int.zero_sub c] at hy12
        refine ⟨_, rfl, rH hy12 (hy11.same s12) ⟨_, rfl, iteFb (by simp) ?_⟩⟩
        have hy112 := hy11.same s12
        obtain ⟨dyb, tb, rb, hyb, _⟩ := id hy112
        refine ⟨_, rfl, y11, dyb, _, rfl, hyb, heiF_no _ _ (by decide +kernel) (by decide +kernel), y11, o + j, 0 - j, m, 0 - c, rfl, hy112, ⟨by have := N.o1; omega, by have := N.o2; omega, by have := N.k1; omega, by have := N.k2; omega⟩, ⟨by omega, by omega⟩, fun y13 H13 s13 hy13 => ?_⟩
        have s1113 := s12.trans s13
        have e1 : o + j + (0 - j) = o := by omega
        have e2 : -(0 - j) = j := by omega
        have e3 : -(0 - c) = c := by omega
        rw [e1, e2, e3] at hy13
        refine ⟨_, rfl, rH hy13 (hh11.same s1113) ⟨_, rfl, iteFb (by simp) ?_⟩⟩
        exact ⟨_, rfl, s311.trans s1113⟩
      · refine iteFb (decide_eq_false h20) ?_
        exact ⟨_, rfl, s38⟩
    · rintro σ H9 ⟨v5, rfl, s39⟩
      have hh9 := hh3.same s39
      obtain ⟨dx9, t9, r9, hx9, ht9, hm9⟩ := id hh9
      have h19 : ToneT H9 t1 o j := s39 _ _ h13
      have h29 : TermT H9 t2 m c := s39 _ _ h23
      refine ⟨_, rfl, _, CH, dx9, _, _, rfl, hx9, T_Height.cl, T_Height.nT, heiF_tone _ _, _, rfl, t1, _, _, _, rfl, rfl, SqT.of h19, rfl, _, rfl, t1, _, _, _, rfl, rfl, SqT.of h19, rfl, ?_⟩
      intro y10 dy10 hy10 hdy10 hne10
      refine ⟨y10, dy10, o, j, rfl, upd_same, fun Ha hTa hka => ⟨rfl, ?_⟩⟩
      have sa := mk_same hy10 hdy10 hka
      refine rT (ht9.same sa) hTa ⟨_, rfl, iteTb (by simp) ?_⟩
      refine ⟨_, rfl, _, CH, dx9, _, _, rfl, sa _ _ hx9, T_Height.cl, T_Height.nM, heiF_term _ _, _, rfl, t2, m, c, rfl, sa _ _ h29, ⟨c1, c2⟩, fun rb Hb sb hrb => ?_⟩
      have sab := sa.trans sb
      refine rM (hm9.same sab) hrb ?_
      rw [decide_eq_true rfl]
      exact q Hb (P3.same (s39.trans sab)) (((But.same s02).trans B3).trans (But.same (s39.trans sab)))
end
end Toy
set_option maxRecDepth 100000
set_option maxHeartbeats 4000000
set_option exponentiation.threshold 9000
namespace Toy
open PySem L2
open Rat (divInt)
theorem cross (t : Int) {b : Int} (h : b ≠ 0) : (divInt t b).num * b = t * ((divInt t b).den : Int) :=
  (Rat.divInt_eq_divInt_iff (den_ne _) h).mp (Rat.num_divInt_den _)
theorem cross_eq {x y a b z : Int} (hx : 0 < x) (hy : 0 < y) (h : a * y = b * x) : (z * a % x) * y = (z * b % y) * x := by
  rw [Int.mul_comm (z * a % x) y, ← Int.mul_emod_mul_of_pos (z * a) x hy, Int.mul_comm (z * b % y) x, ← Int.mul_emod_mul_of_pos (z * b) y hx, show y * (z * a) = x * (z * b) by grind, Int.mul_comm y x]
theorem posQ_of {t b : Int} (hb : 0 < b) (z : Int) : posQ z (divInt t b) = divInt (z * t % b) b := by
  have hd : (0 : Int) < ((divInt t b).den : Int) := by have := (divInt t b).den_pos; omega
  unfold posQ
  rw [Rat.divInt_eq_divInt_iff (Int.ne_of_gt hd) (Int.ne_of_gt hb)]
  exact cross_eq hd hb (cross t (Int.ne_of_gt hb))
theorem pit_due {t b : Int} (hb : 0 < b) (o k c n : Int) (m : Bool) : divInt (o * b + k * t + ((if m then n else 0) + c) * t % b) b = pitQ o k m c n (divInt t b) := by
  unfold pitQ
  rw [posQ_of hb]
  have ez : (if m then n else 0) + c = (if m then n + c else c) := by cases m <;> simp
  rw [ez]
  generalize ((if m then n + c else c) * t % b) = e
  rw [Rat.divInt_eq_div, Rat.divInt_eq_div, Rat.divInt_eq_div]
  have hb' : ((b : Int) : Rat) ≠ 0 := fun z => by have := Rat.intCast_eq_zero_iff.mp z; omega
  rw [Rat.intCast_add, Rat.intCast_add, Rat.intCast_mul, Rat.intCast_mul]
  grind
theorem cross1 (q : Rat) : (-q + ((1 : Int) : Rat)).num * (q.den : Int) = ((q.den : Int) - q.num) * ((-q + ((1 : Int) : Rat)).den : Int) := by
  have e : -q + ((1 : Int) : Rat) = divInt ((q.den : Int) - q.num) q.den := by
    have h := Rat.divInt_eq_div ((q.den : Int) - q.num) (q.den : Int)
    rw [h, Rat.intCast_sub]
    have h2 := Rat.num_divInt_den q
    rw [Rat.divInt_eq_div] at h2
    have hd : (((q.den : Int) : Int) : Rat) ≠ 0 := fun z => den_ne q (Rat.intCast_eq_zero_iff.mp z)
    have h3 : ((1 : Int) : Rat) = 1 := rfl
    rw [h3]
    grind
  rw [e]
  exact cross _ (den_ne q)
theorem posQ_mir (z : Int) (q : Rat) : posQ (-z) (-q + ((1 : Int) : Rat)) = posQ z q := by
  have c := cross1 q
  generalize (-q + ((1 : Int) : Rat)) = r at c
  have hq : (0 : Int) < (q.den : Int) := by have := q.den_pos; omega
  have hr : (0 : Int) < (r.den : Int) := by have := r.den_pos; omega
  unfold posQ
  rw [Rat.divInt_eq_divInt_iff (Int.ne_of_gt hr) (Int.ne_of_gt hq)]
  rw [cross_eq (z := -z) hr hq c]
  have e : -z * ((q.den : Int) - q.num) % (q.den : Int) = z * q.num % (q.den : Int) := by
    rw [show -z * ((q.den : Int) - q.num) = z * q.num + (q.den : Int) * -z by grind]
    exact Int.add_mul_emod_self_left _ _ _
  rw [e]
theorem pit_mir (o k c n : Int) (m : Bool) (q : Rat) : pitQ (o + k) (-k) m (-c) (0 - n) (-q + ((1 : Int) : Rat)) = pitQ o k m c n q := by
  unfold pitQ
  have ez : (if m then 0 - n + -c else -c) = -(if m then n + c else c) := by cases m <;> simp <;> omega
  rw [ez, posQ_mir, Rat.intCast_add, Rat.intCast_neg]
  have h3 : ((1 : Int) : Rat) = 1 := rfl
  rw [h3]
  grind
theorem fif_of {t b : Int} (h0 : 0 < t) (h1 : t < b) (h2 : b < 10 ^ 40) : Fif (divInt t b) ∧ Sq 140 (divInt t b) := by
  have hb : b ≠ 0 := by omega
  have c := cross t hb
  have hd : (0 : Int) < ((divInt t b).den : Int) := by have := (divInt t b).den_pos; omega
  have z : Sq 140 (divInt t b) := Sq.of hb (Nat.lt_of_lt_of_le (show t.natAbs < 10 ^ 40 by omega) (by decide +kernel)) (Nat.lt_of_lt_of_le (show b.natAbs < 10 ^ 40 by omega) (by decide +kernel))
  have p1 : 0 < t * ((divInt t b).den : Int) := Int.mul_pos h0 hd
  have p2 : t * ((divInt t b).den : Int) < b * ((divInt t b).den : Int) := Int.mul_lt_mul_of_pos_right h1 hd
  refine ⟨⟨?_, ?_, z.mono (by decide)⟩, z⟩
  · rw [← c] at p1
    exact Int.pos_of_mul_pos_left p1 (by omega)
  · rw [← c, Int.mul_comm b] at p2
    exact Int.lt_of_mul_lt_mul_right p2 (by omega)
theorem fif_mir {q : Rat} (h : Fif q) (z : Sq 140 q) : Fif (-q + ((1 : Int) : Rat)) := by
  have c := cross1 q
  have zz : Sq 200 (-q + ((1 : Int) : Rat)) := (z.neg.add (Sq.int (k := 1) (i := 1) (by decide) (by decide))).mono (by decide)
  generalize (-q + ((1 : Int) : Rat)) = r at c zz
  have hq : (0 : Int) < (q.den : Int) := by have := q.den_pos; omega
  have hr : (0 : Int) < (r.den : Int) := by have := r.den_pos; omega
  have p1 : 0 < ((q.den : Int) - q.num) * (r.den : Int) := Int.mul_pos (by have := h.lt; omega) hr
  have p2 : ((q.den : Int) - q.num) * (r.den : Int) < (q.den : Int) * (r.den : Int) := Int.mul_lt_mul_of_pos_right (by have := h.pos; omega) hr
  refine ⟨?_, ?_, zz⟩
  · rw [← c] at p1
    exact Int.pos_of_mul_pos_left p1 (by omega)
  · rw [← c, Int.mul_comm (q.den : Int)] at p2
    exact Int.lt_of_mul_lt_mul_right p2 (by omega)
end Toy
set_option maxRecDepth 100000
set_option maxHeartbeats 4000000
set_option exponentiation.threshold 9000
namespace Toy
open PySem L2
open Rat (divInt)
section
variable {P : Program} {w : World} {K : PySem.W.Frag} {mg : Str → Option Value} {base : Heap} {C CT CH : Addr} {A : TAd}
theorem zbig {z : Int} (h : z.natAbs ≤ 2 * 10 ^ 40) : Sz z := Sz.of (Nat.lt_of_le_of_lt h (by decide +kernel))
def spLPitch (CH CT : Addr) (A : TAd) : Sp := fun vs H Q _ => ∃ p cc k x t1 t2 o j m c, vs = [.ref p, .ref x, .ref t1, .ref t2] ∧ Pen H p cc k ∧ k ≤ 800000 ∧ Hei CH CT A H x o j m c ∧ ToneT H t1 o j ∧ TermT H t2 m c ∧ Near o j ∧ (-12 ≤ c ∧ c ≤ 12) ∧ ∀ H', Pen H' p cc (k + 20) → But p H H' → Q (.bl true) H'
abbrev sLPitch : Stmt := top 95
theorem scLP : FnScope ["_law_pen_here", "_law_made", "_law_tone_here", "_law_term_here", "_law_again", "_law_top", "_law_bottom", "_law_n", "_law_fifth", "_law_due"] ["_law_pen_here", "_law_made", "_law_tone_here", "_law_term_here"] (defScope sLPitch) := ⟨rfl, rfl, rfl, by decide +kernel, rfl, by decide +kernel, by decide +kernel⟩
theorem ok_lpitch {f f1 f2 f3 f4 f5 f6 f7 f8 f9 : Addr} {fd fd1 fd2 fd3 fd4 fd5 fd6 fd7 fd8 fd9 : FuncData} (F : Fun K "_law_pitch_right" "_law_pitch_right" sLPitch f fd) (T : Bl mg) (T_Ratio : RatT K mg C) (T_Height : HeiT K mg CH)
    (hneR : PySem.W.findIn K (.ref C) "__ne__" = some (some (.builtin "object.__ne__"))) (hOR : PySem.W.subIn K (.ref C) (.type "object") = some true)
    (O_eq : Opr P w K mg base 3 C "__eq__" f1 fd1 ["self", "other"] (spEqQ C)) (BS : BinF K C .Sub) (O_sub : Opr P w K mg base 4 C "__sub__" f2 fd2 ["self", "other"] (spBin C GT fun p q => p - q)) (O_rsub : Opr P w K mg base 5 C "__rsub__" f3 fd3 ["self", "other"] (spBin C GT fun p q => -p + q))
    (D_pitch : Dot P w K mg base 7 CH "pitch" f4 fd4 ["self", "n", "fifth"] (spPitch CH CT C A)) (D_mir : Dot P w K mg base 9 CH "mirrored" f5 fd5 ["self"] (spHMir CH CT A)) (M_Ratio : Mak P w K mg base 2 "Ratio" C f6 fd6 ["self", "top", "bottom"] (spRInit C))
    (C__law_fraction : Cal P w K mg base 3 "_law_fraction" f7 fd7 ["_law_pen_here"] spLFrac) (C__law_number : Cal P w K mg base 3 "_law_number" f8 fd8 ["_law_pen_here"] spLNum) (C__law_key : Cal P w K mg base 1 "_law_key" f9 fd9 ["_law_term_here", "_law_n", "_law_top", "_law_bottom"] spKey) :
    FnOk P w K mg base CX0 10 f fd ["_law_pen_here", "_law_made", "_law_tone_here", "_law_term_here"] (spLPitch CH CT A) := by
  refine F.ok scLP (fun vs H Q E h => ?_) (fun cdv Ar outer s H vs Q E hr h => ?_)
  · obtain ⟨p, cc, k, x, t1, t2, o, j, m, c, rfl, _⟩ := h
    rfl
  · obtain ⟨p, cc, k, x, t1, t2, o, j, m, c, rfl, hP, hk, hh, h1, h2, N, ⟨c1, c2⟩, kq⟩ := h
    have nd := scLP.nd
    refine ⟨_, pss_cons (ps_for PassesOwn.never rfl (pi_range1 (by rfl) T.range (pa_cons pe_int pa_nil)) (pg_name (i := 4) nd rfl (Or.inl rfl)) (pss_cons (ps_asg (pe_call C__law_fraction.F (hr.mono (by decide)) (by rfl) C__law_fraction.mgf C__law_fraction.kp C__law_fraction.b .nil pass0 (pa_cons (pv 0) pa_nil)) (pg_tup (by rfl) (pgs_cons (pg_name (i := 5) nd rfl (Or.inl rfl)) (pgs_cons (pg_name (i := 6) nd rfl (Or.inl rfl)) pgs_nil))))
      (pss_cons (ps_set (i := 7) nd rfl (Or.inl rfl) (pe_call C__law_number.F (hr.mono (by decide)) (by rfl) C__law_number.mgf C__law_number.kp C__law_number.b .nil pass0 (pa_cons (pv 0) pa_nil)))
      (pss_cons (ps_set (i := 8) nd rfl (Or.inl rfl) (pe_make M_Ratio.M M_Ratio.F (hr.mono (by decide)) (by rfl) M_Ratio.mgC M_Ratio.b .nil pass0 (pa_cons (pv 5) (pa_cons (pv 6) pa_nil))))
      (pss_cons (ps_set (i := 9) nd rfl (Or.inl rfl) (pe_make M_Ratio.M M_Ratio.F (hr.mono (by decide)) (by rfl) M_Ratio.mgC M_Ratio.b .nil pass0 (pa_cons (pe_op op_add (pe_op op_add (pe_op op_mulW (pe_ix ix_tup (pv 2) pe_int (fun _ _ => rfl)) (pv 6)) (pe_op op_mulW (pe_ix ix_tup (pv 2) pe_int (fun _ _ => rfl)) (pv 5))) (pe_call C__law_key.F (hr.mono (by decide)) (by rfl) C__law_key.mgf C__law_key.kp C__law_key.b .nil pass0 (pa_cons (pv 3) (pa_cons (pv 7) (pa_cons (pv 5) (pa_cons (pv 6) pa_nil)))))) (pa_cons (pv 6) pa_nil))))
      (pss_cons (ps_if (PW.pt (pw_or (pt_cmpR (Own.op_neL O_eq.F (hr.mono (by decide)) O_eq.at_ hneR hOR O_eq.fn T_Ratio.nI O_eq.b pass0) (pe_meth (pv 1) T_Height.cl D_pitch.m D_pitch.F (hr.mono (by decide)) D_pitch.b .nil pass0 (pa_cons (pv 7) (pa_cons (pv 8) pa_nil))) (pv 9) (nomark _)) (pw_or1 (pt_not (pt_val (pe_callB call_isi (by rfl) T.isinstance (by decide +kernel) (pa_cons (pe_meth (pv 1) T_Height.cl D_pitch.m D_pitch.F (hr.mono (by decide)) D_pitch.b .nil pass0 (pa_cons (pv 7) (pa_cons (pv 8) pa_nil))) (pa_cons (Own.pe_gref (by rfl) T_Ratio.mgC) pa_nil)))))))) (pss_one (ps_ret pe_bl)) pss_nil)
      (pss_one (ps_if (PW.pt (pw_and (pt_cmpR op_le (pe_callB call_abs (by rfl) T.abs (by decide +kernel) (pa_cons (pe_op op_add (pe_ix ix_tup (pv 2) pe_int (fun _ _ => rfl)) (pe_ix ix_tup (pv 2) pe_int (fun _ _ => rfl))) pa_nil)) pe_int (nomark _)) (pw_and1 (pt_cmpR (Own.op_neL O_eq.F (hr.mono (by decide)) O_eq.at_ hneR hOR O_eq.fn T_Ratio.nI O_eq.b pass0) (pe_meth (pe_meth0 (pv 1) T_Height.cl D_mir.m D_mir.F (hr.mono (by decide)) D_mir.b .nil pass0) T_Height.cl D_pitch.m D_pitch.F (hr.mono (by decide)) D_pitch.b .nil pass0 (pa_cons (pe_op op_sub pe_int (pv 7)) (pa_cons (pe_op (op_R BS O_rsub.F (hr.mono (by decide)) O_rsub.at_ O_rsub.fn O_sub.at_ T_Ratio.sI O_rsub.b pass0 PySem.F.fills_int_sub PySem.F.slot_int_sub PySem.F.entry_int_sub PySem.F.args_int_sub_2 Own.int_sub_dec) pe_int (pv 8)) pa_nil))) (pv 9) (nomark _))))) (pss_one (ps_ret pe_bl)) pss_nil))))))))
      (pss_one (ps_ret pe_bl)), ?_⟩
    refine ⟨5, rfl, by decide, by decide, ?_⟩
    refine for_range (lo := 0) (n := 5) (fun i σ H' => ∃ v4 v5 v6 v7 v8 v9, σ = [some (.ref p), some (.ref x), some (.ref t1), some (.ref t2), v4, v5, v6, v7, v8, v9] ∧ Pen H' p cc (k + 4 * i) ∧ But p H H' ∧ Hei CH CT A H' x o j m c ∧ ToneT H' t1 o j ∧ TermT H' t2 m c) ⟨_, _, _, _, _, _, rfl, hP, But.refl, hh, h1, h2⟩ ?_ ?_
    · rintro i σ H1 hi ⟨v4, v5, v6, v7, v8, v9, rfl, P1, B1, hh1, h11, h21⟩
      refine ⟨_, rfl, p, cc, _, rfl, P1, by omega, fun a t b H2 t0 tb b1 P2 B2 ha => ⟨_, _, rfl, SqT.of ha, rfl, _, _, rfl, _, _, rfl, rfl, ?_⟩⟩
      refine ⟨_, rfl, p, cc, _, rfl, P2, by omega, fun n H3 hn P3 B3 => ?_⟩
      obtain ⟨px1, hp1⟩ := P1.lst
      obtain ⟨px2, hp2⟩ := P2.lst
      have hh3 := (hh1.but hp1 B2).but hp2 B3
      have h13 : ToneT H3 t1 o j := B3 _ _ (B2 _ _ h11 (tup_ne hp1 h11)) (tup_ne hp2 (B2 _ _ h11 (tup_ne hp1 h11)))
      have h23 : TermT H3 t2 m c := B3 _ _ (B2 _ _ h21 (tup_ne hp1 h21)) (tup_ne hp2 (B2 _ _ h21 (tup_ne hp1 h21)))
      have B13 := (B1.trans B2).trans B3
      have hb0 : b ≠ 0 := by omega
      have hbp : 0 < b := by omega
      have zb : Sz b := zbig (by omega)
      have ztt : Sz t := zbig (by omega)
      obtain ⟨fq, z140⟩ := fif_of t0 tb b1
      have yq : Sq 3900 (divInt t b) := z140.mono (by decide)
      refine ⟨_, rfl, _, rfl, ?_⟩
      intro x4 dx4 hx4 hdx4 hne4
      refine ⟨x4, dx4, t, b, rfl, upd_same, hb0, zb, fun H4 hR4 hk4 => ⟨rfl, ?_⟩⟩
      have s4 := mk_same hx4 hdx4 hk4
      have hq4 : RatQ C H4 x4 (divInt t b) := asQ hb0 rfl hR4
      have h14 : ToneT H4 t1 o j := s4 _ _ h13
      have h24 : TermT H4 t2 m c := s4 _ _ h23
      have zo : Sz o := szs (by have := N.o1; have := N.o2; omega)
      have zj : Sz j := szs (by have := N.k1; have := N.k2; omega)
      have znc : Sz ((if m then n else 0) + c) := zbig (by
        have : (n + c).natAbs ≤ 2 * 10 ^ 40 := by omega
        have : (0 + c).natAbs ≤ 2 * 10 ^ 40 := by omega
        cases m <;> simp only [if_true, if_false, Bool.false_eq_true] <;> assumption)
      refine ⟨_, rfl, t1, _, _, _, rfl, rfl, SqT.of h14, rfl, _, rfl, _, _, rfl, rfl, zo.mul zb, _, rfl, t1, _, _, _, rfl, rfl, SqT.of h14, rfl, _, rfl, _, _, rfl, rfl, zj.mul ztt, _, _, rfl, rfl, _, rfl, _, rfl, _, rfl, _, rfl, t2, m, c, n, t, b, rfl, h24, hbp, ⟨znc, ztt⟩, _, _, rfl, rfl, _, rfl, ?_⟩
      intro x5 dx5 hx5 hdx5 hne5
      refine ⟨x5, dx5, _, b, rfl, upd_same, hb0, zb, fun H5 hR5 hk5 => ⟨rfl, ?_⟩⟩
      have s5 := mk_same hx5 hdx5 hk5
      have hd5 : RatQ C H5 x5 (pitQ o j m c n (divInt t b)) := asQ hb0 (pit_due hbp o j c n m) hR5
      have s35 := s4.trans s5
      have hh5 := hh3.same s35
      have hq5 := hq4.same s5
      generalize divInt t b = q at *
      obtain ⟨dx, tt, rr, hx, _⟩ := id hh5
      have hn' : n.natAbs < 2 ^ 200 := Nat.lt_of_le_of_lt hn (by decide +kernel)
      refine ⟨_, rfl, x, dx, _, rfl, hx, heiF_no _ _ (by decide +kernel) (by decide +kernel), _, rfl, _, rfl, x, x4, o, j, m, c, n, q, rfl, hh5, N, ⟨c1, c2⟩, hn', hq5, fq, fun y6 H6 s6 hy6 => ?_⟩
      refine ⟨_, rfl, eqLq hy6 (.rat (hd5.same s6)) fun H7 s7 => ⟨_, rfl, iteFb (by rw [decide_eq_true rfl]; rfl) ?_⟩⟩
      have s57 := s6.trans s7
      refine ⟨_, rfl, x, dx, _, rfl, s57 _ _ hx, heiF_no _ _ (by decide +kernel) (by decide +kernel), _, rfl, _, rfl, x, x4, o, j, m, c, n, q, rfl, hh5.same s57, N, ⟨c1, c2⟩, hn', hq5.same s57, fq, fun y8 H8 s8 hy8 => ?_⟩
      obtain ⟨dy8, hi8⟩ := id hy8
      refine ⟨_, _, _, _, true, rfl, .own _, T_Ratio.ty hi8, T_Ratio.kS, _, rfl, iteFb rfl ?_⟩
      have s58 := s57.trans s8
      have s38 := s35.trans s58
      have h18 : ToneT H8 t1 o j := s38 _ _ h13
      have nxt : ∀ H', Same H3 H' → ∃ v4 v5 v6 v7 v8 v9, [some (V.ref p), some (V.ref x), some (V.ref t1), some (V.ref t2), some (V.int (0 + (i : Int))), some (V.int t), some (V.int b), some (V.int n), some (V.ref x4), some (V.ref x5)] = [some (V.ref p), some (V.ref x), some (V.ref t1), some (V.ref t2), v4, v5, v6, v7, v8, v9] ∧ Pen H' p cc (k + 4 * (i + 1)) ∧ But p H H' ∧ Hei CH CT A H' x o j m c ∧ ToneT H' t1 o j ∧ TermT H' t2 m c := fun H' s => ⟨_, _, _, _, _, _, rfl, (P3.same s).mono (by omega), B13.trans (But.same s), hh3.same s, s _ _ h13, s _ _ h23⟩
      refine ⟨_, rfl, t1, _, _, _, rfl, rfl, SqT.of h18, rfl, _, rfl, t1, _, _, _, rfl, rfl, SqT.of h18, rfl, _, _, rfl, rfl, _, rfl, _, _, rfl, rfl, _, rfl, ?_⟩
      by_cases h20 : (if o + j < 0 then -(o + j) else o + j) ≤ 20
      · refine iteTb (decide_eq_true h20) ?_
        have hN : Near (o + j) (-j) := by
          have n1 := N.k1
          have n2 := N.k2
          refine ⟨?_, ?_, by omega, by omega⟩ <;> (split at h20 <;> omega)
        refine ⟨_, rfl, x, dx, _, rfl, s58 _ _ hx, heiF_no _ _ (by decide +kernel) (by decide +kernel), x, o, j, m, c, rfl, hh5.same s58, hN, ⟨c1, c2⟩, fun y9 H9 s9 hy9 => ?_⟩
        obtain ⟨dy9, t9, r9, hi9, _⟩ := id hy9
        have hq9 := hq5.same (s58.trans s9)
        obtain ⟨df, fs, hf⟩ := hq9.ins
        refine ⟨y9, dy9, _, rfl, hi9, heiF_no _ _ (by decide +kernel) (by decide +kernel), _, rfl, _, _, rfl, rfl, _, rfl, 1, x4, df, fs, rfl, rfl, hf, x4, .int 1, q, _, rfl, hq9, .int 1, ⟨yq, Sq.int (by decide +kernel) (by decide)⟩, trivial, fun y10 H10 s10 hy10 => ?_⟩
        refine ⟨y9, y10, o + j, -j, m, -c, 0 - n, _, rfl, hy9.same s10, hN, ⟨by omega, by omega⟩, by omega, hy10, fif_mir fq z140, fun y11 H11 s11 hy11 => ?_⟩
        rw [pit_mir] at hy11
        have s811 := s9.trans (s10.trans s11)
        refine ⟨_, rfl, eqLq hy11 (.rat (hd5.same (s58.trans s811))) fun H12 s12 => ⟨_, rfl, iteFb (by rw [decide_eq_true rfl]; rfl) ?_⟩⟩
        exact nxt H12 (s38.trans (s811.trans s12))
      · exact iteFb (decide_eq_false h20) (nxt H8 s38)
    · rintro σ H1 ⟨v4, v5, v6, v7, v8, v9, rfl, P1, B1, _⟩
      exact kq H1 P1 B1
end
end Toy
set_option maxRecDepth 100000
set_option maxHeartbeats 4000000
set_option exponentiation.threshold 9000
namespace Toy
open PySem L2
open Rat (divInt)
theorem _root_.Own.op_ownK {X : Cx} {CX : CXT} {K : PySem.W.Frag} {k : Nat} {C f : Addr} {fd : FuncData} {ps : List Str} {sp : Sp} {E : XK} {op : CmpOp} (e : X.K = K) (F : FnOk X.prog X.w K X.mg X.base CX k f fd ps sp) (hr : Room k X.A) (hs : PySem.W.findIn K (.ref C) (cmpInfo op).2.1 = some (some (.ref f))) (hf : PySem.W.isFn K (.ref f) = true) (hb : Binds K fd ps []) (hx : Passes CX X E)
    (hop : ∀ a b, compareOp op a b = richCompare op a b := by intros; rfl) : OpR X (compareOp op) (Own.rOwnC K C sp E) := by
  subst e
  exact Own.op_ownC F hr hs hf hb hx hop
section
variable {P : Program} {w : World} {K : PySem.W.Frag} {mg : Str → Option Value} {base : Heap} {C CT CH : Addr} {A : TAd}
/-- what is no Height -/
structure HNo (K : PySem.W.Frag) (CH CT : Addr) (A : TAd) : Prop where
  non : PySem.W.kitOne K (.type "NoneType") (.ref CH) = some false
  tup : PySem.W.kitOne K (.type "tuple") (.ref CH) = some false
  ton : PySem.W.kitOne K (.ref CT) (.ref CH) = some false
  ter : ∀ m, PySem.W.kitOne K (.ref (tcl A m)) (.ref CH) = some false
  fnon : PySem.W.notFirst K CH (.type "NoneType") = true
  ftup : PySem.W.notFirst K CH (.type "tuple") = true
  fton : PySem.W.notFirst K CH (.ref CT) = true
  fter : ∀ m, PySem.W.notFirst K CH (.ref (tcl A m)) = true
theorem rHno (T : HeiT K mg CH) {E : XK} {H : Hp} {Q : VK} {x : Addr} {v : V} {t : Value} {o k : Int} {m : Bool} {c : Int} (h : Hei CH CT A H x o k m c) (ty : TyX K H v t) (no : PySem.W.kitOne K t (.ref CH) = some false) (nf : PySem.W.notFirst K CH t = true) (q : Q (.bl false) H) : Own.rOwnC K CH (spHEq K CH CT A) E (.ref x) v H Q := by
  obtain ⟨dx, tt, r, h1, _⟩ := id h
  exact ⟨x, dx, _, t, rfl, h1, ty, nf, x, v, o, k, m, c, rfl, h, .inr ⟨t, ty, no, ⟨_, rfl⟩, q⟩⟩
theorem eqvST (m m' : Bool) (c c' : Int) : PyData.eqv (.tuple [.str (sg m), .int c]) (.tuple [.str (sg m'), .int c']) = (decide (m = m') && decide (c = c')) := by
  have e : PyData.eqv (.tuple [.str (sg m), .int c]) (.tuple [.str (sg m'), .int c']) = (PyData.eqv (.str (sg m)) (.str (sg m')) && PyData.eqv (.int c) (.int c')) := by simp [PyData.eqv, PyData.eqvAll]
  have e1 : PyData.eqv (.int c) (.int c') = decide (c = c') := by
    rw [show PyData.eqv (.int c) (.int c') = (c == c') by simp [PyData.eqv], Bool.eq_iff_iff]
    simp
  rw [e, e1]
  congr 1
  cases m <;> cases m' <;> decide +kernel
theorem shST (m : Bool) (c : Int) : SeqAt.shaped (.tuple [.str (sg m), .int c]) = true := by
  cases m <;> simp [SeqAt.shaped, PyData.canLay0, PyData.canLayAll0, PyData.depth, PyData.depthAll, sg] <;> decide +kernel
def spLaw (K : PySem.W.Frag) : Sp := fun vs H Q _ => ∃ (a : Addr) (ns : List Int), vs = [.ref a] ∧ SqL K H a (ns.map V.int) ∧ ns.length ≤ 63 ∧ ∀ H', Q (.bl true) H'
abbrev sLaw : Stmt := top 97
theorem scL : FnScope ["_law_script", "_law_pen_here", "_law_turn", "_law_tone_here", "_law_term_here", "_law_made", "_law_near", "_law_other", "_law_like", "_law_thing"] ["_law_script"] (defScope sLaw) := ⟨rfl, rfl, rfl, by decide +kernel, rfl, by decide +kernel, by decide +kernel⟩
theorem ok_law {f f1 f2 f3 f4 f5 f6 f7 f8 g1 g2 g3 g4 g5 g6 : Addr} {fd fd1 fd2 fd3 fd4 fd5 fd6 fd7 fd8 gd1 gd2 gd3 gd4 gd5 gd6 : FuncData} (F : Fun K "law" "law" sLaw f fd) (T : Bl mg) (T_Ratio : RatT K mg C) (T_Tone : TonT K mg CT) (T_Height : HeiT K mg CH) (ts : ∀ m, TerC K A (tcl A m) m) (hno : HNo K CH CT A)
    (hneH : PySem.W.findIn K (.ref CH) "__ne__" = some (some (.builtin "object.__ne__"))) (hOH : PySem.W.subIn K (.ref CH) (.type "object") = some true) (O_heq : Opr P w K mg base 4 CH "__eq__" f2 fd2 ["self", "other"] (spHEq K CH CT A)) (O_eq : Opr P w K mg base 3 C "__eq__" f1 fd1 ["self", "other"] (spEqQ C))
    (D_pitch : Dot P w K mg base 7 CH "pitch" f4 fd4 ["self", "n", "fifth"] (spPitch CH CT C A)) (M_Ratio : Mak P w K mg base 2 "Ratio" C f5 fd5 ["self", "top", "bottom"] (spRInit C)) (M_Tone : Mak P w K mg base 2 "Tone" CT f6 fd6 ["self", "octaves", "fifths"] (spTonI CT)) (M_Height : Mak P w K mg base 4 "Height" CH f7 fd7 ["self", "tone", "term"] (spHeiI CH CT A)) (M_Note : Mak P w K mg base 4 "Note" A.cn f8 fd8 ["self", "number"] (spTerI K A))
    (C__law_pen : Cal P w K mg base 1 "_law_pen" f3 fd3 ["_law_script"] (spPen K)) (C__law_pick : Cal P w K mg base 2 "_law_pick" g1 gd1 ["_law_pen_here", "_law_some"] spPick) (C__law_tone : Cal P w K mg base 2 "_law_tone" g2 gd2 ["_law_pen_here", "_law_far"] spLTone) (C__law_term : Cal P w K mg base 3 "_law_term" g3 gd3 ["_law_pen_here", "_law_far"] spLTerm)
    (C__law_real_height : Cal P w K mg base 7 "_law_real_height" g4 gd4 ["_law_tone_here", "_law_term_here"] (spRHei CH CT A)) (C__law_kept_right : Cal P w K mg base 10 "_law_kept_right" g5 gd5 ["_law_pen_here", "_law_made", "_law_tone_here", "_law_term_here"] (spLKept CH CT A)) (C__law_pitch_right : Cal P w K mg base 10 "_law_pitch_right" g6 gd6 ["_law_pen_here", "_law_made", "_law_tone_here", "_law_term_here"] (spLPitch CH CT A)) :
    FnOk P w K mg base CX0 11 f fd ["_law_script"] (spLaw K) := by
  refine F.ok scL (fun vs H Q E h => ?_) (fun cdv Ar outer s H vs Q E hr h => ?_)
  · obtain ⟨a, ns, rfl, _⟩ := h
    rfl
  · obtain ⟨a, ns, rfl, hS, hl, kq⟩ := h
    have nd := scL.nd
    refine ⟨_, pss_cons (ps_set (i := 1) nd rfl (Or.inl rfl) (pe_call C__law_pen.F (hr.mono (by decide)) (by rfl) C__law_pen.mgf C__law_pen.kp C__law_pen.b .nil pass0 (pa_cons (pv 0) pa_nil)))
      (pss_cons (ps_for PassesOwn.never rfl (pi_range1 (by rfl) T.range (pa_cons pe_int pa_nil)) (pg_name (i := 2) nd rfl (Or.inl rfl)) (pss_cons (ps_par (i := 3) (j := 4) (by rfl) nd rfl rfl (by decide) rfl rfl (pa_cons (pe_call C__law_tone.F (hr.mono (by decide)) (by rfl) C__law_tone.mgf C__law_tone.kp C__law_tone.b .nil pass0 (pa_cons (pv 1) (pa_cons (pe_call C__law_pick.F (hr.mono (by decide)) (by rfl) C__law_pick.mgf C__law_pick.kp C__law_pick.b .nil pass0 (pa_cons (pv 1) (pa_cons (pe_lst (pa_cons pe_int (pa_cons pe_int pa_nil))) pa_nil))) pa_nil))) (pa_cons (pe_call C__law_term.F (hr.mono (by decide)) (by rfl) C__law_term.mgf C__law_term.kp C__law_term.b .nil pass0 (pa_cons (pv 1) (pa_cons pe_int pa_nil))) pa_nil)) (by rfl))
      (pss_cons (ps_set (i := 5) nd rfl (Or.inr rfl) (pe_call C__law_real_height.F (hr.mono (by decide)) (by rfl) C__law_real_height.mgf C__law_real_height.kp C__law_real_height.b .nil pass0 (pa_cons (pv 3) (pa_cons (pv 4) pa_nil))))
      (pss_cons (ps_if (PW.pt (pw_or (pt_not (pt_val (pe_call C__law_kept_right.F (hr.mono (by decide)) (by rfl) C__law_kept_right.mgf C__law_kept_right.kp C__law_kept_right.b .nil pass0 (pa_cons (pv 1) (pa_cons (pv 5) (pa_cons (pv 3) (pa_cons (pv 4) pa_nil))))))) (pw_or1 (pt_not (pt_val (pe_call C__law_pitch_right.F (hr.mono (by decide)) (by rfl) C__law_pitch_right.mgf C__law_pitch_right.kp C__law_pitch_right.b .nil pass0 (pa_cons (pv 1) (pa_cons (pv 5) (pa_cons (pv 3) (pa_cons (pv 4) pa_nil)))))))))) (pss_one (ps_ret pe_bl)) pss_nil)
      (pss_cons (ps_par (i := 6) (j := 7) (by rfl) nd rfl rfl (by decide) rfl rfl (pa_cons (pe_call C__law_tone.F (hr.mono (by decide)) (by rfl) C__law_tone.mgf C__law_tone.kp C__law_tone.b .nil pass0 (pa_cons (pv 1) (pa_cons pe_int pa_nil))) (pa_cons (pe_call C__law_term.F (hr.mono (by decide)) (by rfl) C__law_term.mgf C__law_term.kp C__law_term.b .nil pass0 (pa_cons (pv 1) (pa_cons pe_int pa_nil))) pa_nil)) (by rfl))
      (pss_cons (ps_set (i := 8) nd rfl (Or.inl rfl) (pe_cmpR (Own.op_eqL O_heq.F (hr.mono (by decide)) O_heq.at_ O_heq.fn T_Height.nI O_heq.b pass0) (pe_call C__law_real_height.F (hr.mono (by decide)) (by rfl) C__law_real_height.mgf C__law_real_height.kp C__law_real_height.b .nil pass0 (pa_cons (pv 6) (pa_cons (pv 7) pa_nil))) (pe_call C__law_real_height.F (hr.mono (by decide)) (by rfl) C__law_real_height.mgf C__law_real_height.kp C__law_real_height.b .nil pass0 (pa_cons (pv 3) (pa_cons (pv 4) pa_nil))) (nomark _)))
      (pss_cons (ps_if (PW.pt (pw_or (pt_cmpR op_ne (pv 8) (pe_and (pe_cmpR (op_eqD hr.units) (pv 6) (pv 3) (nomark _)) (pe_one (pe_cmpR (op_eqD hr.units) (pv 7) (pv 4) (nomark _)))) (nomark _)) (pw_or1 (pt_cmpR (Own.op_neL O_heq.F (hr.mono (by decide)) O_heq.at_ hneH hOH O_heq.fn T_Height.nI O_heq.b pass0) (pv 5) (pe_make M_Height.M M_Height.F (hr.mono (by decide)) (by rfl) M_Height.mgC M_Height.b .nil pass0 (pa_cons (pe_fld (pv 5) rfl) (pa_cons (pe_fld (pv 5) rfl) pa_nil))) (nomark _))))) (pss_one (ps_ret pe_bl)) pss_nil)
      (pss_cons (ps_if (pt_cmpR (Own.op_eqL O_heq.F (hr.mono (by decide)) O_heq.at_ O_heq.fn T_Height.nI O_heq.b pass0) (pv 5) (pe_call C__law_real_height.F (hr.mono (by decide)) (by rfl) C__law_real_height.mgf C__law_real_height.kp C__law_real_height.b .nil pass0 (pa_cons (pe_tup (pa_cons (pe_ix ix_tup (pv 3) pe_int (fun _ _ => rfl)) (pa_cons (pe_op op_sub (pe_op op_sub pe_int (pe_ix ix_tup (pv 3) pe_int (fun _ _ => rfl))) (pe_callTy call_int1 (by rfl) T.int (by decide +kernel) (pa_cons (pe_cmpR op_eq (pe_ix ix_tup (pv 3) pe_int (fun _ _ => rfl)) pe_int (nomark _)) pa_nil))) pa_nil))) (pa_cons (pv 4) pa_nil))) (nomark _)) (pss_one (ps_ret pe_bl)) pss_nil)
      (pss_one (ps_if (pt_cmpR (op_neD hr.units) (pe_lc (own := [("_law_thing", 9)]) (g := gName 9) rfl nd (pi_list (pe_lst (pa_cons pe_non (pa_cons (pe_fld (pv 5) rfl) (pa_cons (pe_fld (pv 5) rfl) (pa_cons (pe_tup (pa_cons (pe_fld (pv 5) rfl) (pa_cons (pe_fld (pv 5) rfl) pa_nil))) (pa_cons pe_int pa_nil))))))) (blkOk_by (N := ["_law_script", "_law_pen_here", "_law_turn", "_law_tone_here", "_law_term_here", "_law_made", "_law_near", "_law_other", "_law_like", "_law_thing"]) (sc := defScope (top 97)) (by decide +kernel)) (fun _ _ _ _ _ => pg_name (i := 9) nd rfl (Or.inl rfl)) (fun _ _ _ _ _ => pts_one (pt_cmpR (Own.op_ownK (K := K) (k := 4) (op := .Eq) rfl O_heq.F (hr.mono (by decide)) O_heq.at_ O_heq.fn O_heq.b pass0) (pv 5) (pv 9) (nomark _))) (fun _ _ _ _ _ => (pv 9))) (pe_lst pa_nil) (nomark _)) (pss_one (ps_ret pe_bl)) pss_nil))))))))))
      (pss_one (ps_ret (pe_cmpR (Own.op_eqL O_eq.F (hr.mono (by decide)) O_eq.at_ O_eq.fn T_Ratio.nI O_eq.b pass0) (pe_meth (pe_make M_Height.M M_Height.F (hr.mono (by decide)) (by rfl) M_Height.mgC M_Height.b .nil pass0 (pa_cons (pe_make M_Tone.M M_Tone.F (hr.mono (by decide)) (by rfl) M_Tone.mgC M_Tone.b .nil pass0 (pa_cons pe_int (pa_cons (pe_un un_neg pe_int) pa_nil))) (pa_cons (pe_make M_Note.M M_Note.F (hr.mono (by decide)) (by rfl) M_Note.mgC M_Note.b .nil pass0 (pa_cons pe_int pa_nil)) pa_nil))) T_Height.cl D_pitch.m D_pitch.F (hr.mono (by decide)) D_pitch.b .nil pass0 (pa_cons pe_int (pa_cons (pe_make M_Ratio.M M_Ratio.F (hr.mono (by decide)) (by rfl) M_Ratio.mgC M_Ratio.b .nil pass0 (pa_cons pe_int (pa_cons pe_int pa_nil))) pa_nil))) pe_int (nomark _))))), ?_⟩
    refine ⟨_, rfl, a, ns, rfl, hS, hl, fun p cc H0 s0 hp0 hP0 => ?_⟩
    refine ⟨7, rfl, by decide, by decide, ?_⟩
    refine for_range (lo := 0) (n := 7) (fun i σ H' => ∃ v2 v3 v4 v5 v6 v7 v8 v9, σ = [some (.ref a), some (.ref p), v2, v3, v4, v5, v6, v7, v8, v9] ∧ Pen H' p cc (40 * i)) ⟨_, _, _, _, _, _, _, _, rfl, hP0⟩ ?_ ?_
    · rintro i σ H1 hi ⟨v2, v3, v4, v5, v6, v7, v8, v9, rfl, P1⟩
      refine ⟨_, rfl, _, rfl, (by decide : 2 ≤ sizeLine), fun l hl => ⟨p, cc, l, _, _, rfl, P1.same (same_new hl), by omega, upd_same, pen_ne P1 hl, (by decide : 0 < 2), (by decide : 2 ≤ 1000), fun v H2 hv P2 B2 => ?_⟩⟩
      obtain ⟨far, rfl, far0, far1⟩ : ∃ z : Int, v = .int z ∧ 0 ≤ z ∧ z ≤ 20 := by
        rcases List.mem_cons.mp hv with rfl | hv
        · exact ⟨2, rfl, by decide, by decide⟩
        rcases List.mem_cons.mp hv with rfl | hv
        · exact ⟨20, rfl, by decide, by decide⟩
        cases hv
      refine ⟨p, cc, _, far, rfl, P2, by omega, far0, far1, fun t1 o j H3 ho hj P3 B3 ht1 => ?_⟩
      refine ⟨_, rfl, p, cc, _, 12, rfl, P3, by omega, by decide, by decide, fun t2 m c H4 c1 c2 P4 B4 ht2 => ⟨_, _, rfl, ?_⟩⟩
      have N : Near o j := ⟨by omega, by omega, by omega, by omega⟩
      obtain ⟨px3, hp3⟩ := P3.lst
      have h14 : ToneT H4 t1 o j := B4 _ _ ht1 (tup_ne hp3 ht1)
      refine ⟨_, rfl, _, rfl, t1, t2, o, j, m, c, rfl, h14, ht2, N, ⟨c1, c2⟩, fun x H5 s5 hh5 => ?_⟩
      have P5 := P4.same s5
      have h15 : ToneT H5 t1 o j := s5 _ _ h14
      have h25 : TermT H5 t2 m c := s5 _ _ ht2
      refine ⟨_, rfl, _, rfl, _, rfl, _, rfl, p, cc, _, x, t1, t2, o, j, m, c, rfl, P5, by omega, hh5, h15, h25, N, ⟨c1, c2⟩, fun H6 P6 B6 => ⟨_, rfl, iteFb rfl ?_⟩⟩
      obtain ⟨px5, hp5⟩ := P5.lst
      have hh6 := hh5.but hp5 B6
      have h16 : ToneT H6 t1 o j := B6 _ _ h15 (tup_ne hp5 h15)
      have h26 : TermT H6 t2 m c := B6 _ _ h25 (tup_ne hp5 h25)
      refine ⟨_, rfl, _, rfl, _, rfl, _, rfl, p, cc, _, x, t1, t2, o, j, m, c, rfl, P6, by omega, hh6, h16, h26, N, ⟨c1, c2⟩, fun H7 P7 B7 => ⟨_, rfl, iteFb rfl ?_⟩⟩
      obtain ⟨px6, hp6⟩ := P6.lst
      have hh7 := hh6.but hp6 B7
      have h17 : ToneT H7 t1 o j := B7 _ _ h16 (tup_ne hp6 h16)
      have h27 : TermT H7 t2 m c := B7 _ _ h26 (tup_ne hp6 h26)
      refine ⟨_, rfl, p, cc, _, 1, rfl, P7, by omega, by decide, by decide, fun u1 o' j' H8 ho' hj' P8 B8 hu1 => ?_⟩
      obtain ⟨px7, hp7⟩ := P7.lst
      have hh8 := hh7.but hp7 B8
      have h18 : ToneT H8 t1 o j := B8 _ _ h17 (tup_ne hp7 h17)
      have h28 : TermT H8 t2 m c := B8 _ _ h27 (tup_ne hp7 h27)
      refine ⟨_, rfl, p, cc, _, 1, rfl, P8, by omega, by decide, by decide, fun u2 m' c' H9 c1' c2' P9 B9 hu2 => ⟨_, _, rfl, ?_⟩⟩
      obtain ⟨px8, hp8⟩ := P8.lst
      have hh9 := hh8.but hp8 B9
      have h19 : ToneT H9 t1 o j := B9 _ _ h18 (tup_ne hp8 h18)
      have h29 : TermT H9 t2 m c := B9 _ _ h28 (tup_ne hp8 h28)
      have k19 : ToneT H9 u1 o' j' := B9 _ _ hu1 (tup_ne hp8 hu1)
      refine ⟨_, rfl, _, rfl, u1, u2, o', j', m', c', rfl, k19, hu2, ⟨by omega, by omega, by omega, by omega⟩, ⟨by omega, by omega⟩, fun y1 H10 s10 hy1 => ?_⟩
      have h110 : ToneT H10 t1 o j := s10 _ _ h19
      have h210 : TermT H10 t2 m c := s10 _ _ h29
      refine ⟨_, rfl, _, rfl, t1, t2, o, j, m, c, rfl, h110, h210, N, ⟨c1, c2⟩, fun y2 H11 s11 hy2 => ?_⟩
      refine rH (hy1.same s11) hy2 ?_
      have s911 := s10.trans s11
      have hx11 := hh9.same s911
      have P11 := P9.same s911
      have h111 : ToneT H11 t1 o j := s911 _ _ h19
      have h211 : TermT H11 t2 m c := s911 _ _ h29
      have k111 : ToneT H11 u1 o' j' := s911 _ _ k19
      have k211 : TermT H11 u2 m' c' := s911 _ _ hu2
      refine ⟨_, rfl, _, rfl, _, rfl, _, _, .tup (SqT.of k111) (.cons (.int _) (.cons (.int _) .nil)), .tup (SqT.of h111) (.cons (.int _) (.cons (.int _) .nil)), rfl, rfl, ?_⟩
      rw [eqvT]
      refine ⟨_, rfl, ?_⟩
      cases e1 : (decide (o' = o) && decide (j' = j)) with
      | true =>
        refine iteTb rfl ⟨_, rfl, _, rfl, _, _, .tup (SqT.of k211) (.cons (.str _) (.cons (.int _) .nil)), .tup (SqT.of h211) (.cons (.str _) (.cons (.int _) .nil)), shST _ _, shST _ _, ?_⟩
        rw [eqvST]
        refine ⟨rfl, _, rfl, iteFb (by simp) ?_⟩
        have hh := hx11
        obtain ⟨dx, tt, rr, hx, htt, hrr⟩ := id hh
        refine ⟨_, rfl, _, rfl, _, CH, dx, _, _, rfl, hx, T_Height.cl, T_Height.nT, heiF_tone _ _, _, rfl, _, CH, dx, _, _, rfl, hx, T_Height.cl, T_Height.nM, heiF_term _ _, ?_⟩
        intro z dz hz hdz hnz
        have g := same_two (o := .own z) (u := .ins CH dz []) hdz hz hnz
        refine ⟨z, dz, tt, rr, o, j, m, c, rfl, upd_same, htt.same g, N, hrr.same g, fun H12 hz12 hk12 => ⟨rfl, ?_⟩⟩
        have s12 := mk_same hz hdz hk12
        refine rH (hh.same s12) ⟨dz, tt, rr, hz12, htt.same s12, hrr.same s12⟩ ⟨_, rfl, iteFb (by simp) ?_⟩
        have h112 : ToneT H12 t1 o j := s12 _ _ h111
        have h212 : TermT H12 t2 m c := s12 _ _ h211
        refine ⟨_, rfl, _, rfl, t1, _, _, _, rfl, rfl, SqT.of h112, rfl, _, rfl, t1, _, _, _, rfl, rfl, SqT.of h112, rfl, _, _, rfl, rfl, _, rfl, t1, _, _, _, rfl, rfl, SqT.of h112, rfl, rfl, .inr ⟨_, rfl, _, _, rfl, rfl, (by decide : 2 ≤ sizeLine), fun e13 he13 => ?_⟩⟩
        have s13 := same_new (o := .tup [.int o, .int (0 - j - (if decide (V.int j = V.int 0) = true then 1 else 0))]) he13
        have hjj : ∃ z : Int, (0 - j - (if decide (V.int j = V.int 0) = true then 1 else 0)) = z ∧ z ≠ j ∧ Near o z := by
          rw [vdec]
          refine ⟨_, rfl, ?_, N.o1, N.o2, ?_, ?_⟩ <;> have n1 := N.k1 <;> have n2 := N.k2 <;> by_cases h0 : j = 0 <;> simp [h0] <;> omega
        obtain ⟨jz, ejz, nejz, Nz⟩ := hjj
        refine ⟨_, rfl, e13, t2, o, jz, m, c, rfl, by rw [← ejz]; exact upd_same, s13 _ _ h212, Nz, ⟨c1, c2⟩, fun y13 H13 s14 hy13 => ?_⟩
        have s1113 := s12.trans (s13.trans s14)
        have hh13 := hh.same s1113
        refine rH hh13 hy13 ⟨_, rfl, iteFb (by rw [show decide (j = jz) = false from decide_eq_false fun z => nejz z.symm]; simp) ?_⟩
        obtain ⟨dxa, ta, ra, hxa, hta, hra⟩ := id hh13
        refine ⟨_, rfl, _, CH, dxa, _, _, rfl, hxa, T_Height.cl, T_Height.nT, heiF_tone _ _, _, rfl, _, CH, dxa, _, _, rfl, hxa, T_Height.cl, T_Height.nM, heiF_term _ _, _, rfl, _, CH, dxa, _, _, rfl, hxa, T_Height.cl, T_Height.nT, heiF_tone _ _, _, rfl, _, CH, dxa, _, _, rfl, hxa, T_Height.cl, T_Height.nM, heiF_term _ _, (by decide : 2 ≤ sizeLine), fun e14 he14 => ⟨(by decide : 5 ≤ sizeLine), fun l15 hl15 => ⟨l15, rfl, ⟨_, SqL.of upd_same⟩, fun D hD => ?_⟩⟩⟩
        have s15 := same_new (o := .tup [.ref ta, .ref ra]) he14
        have s16 := same_new (o := .lst [.non, .ref ta, .ref ra, .ref e14, .int 0]) hl15
        have s17 := same_new (o := .lst []) hD
        have hD1 := s17 _ _ (s16 _ _ upd_same)
        refine lc_list (te := tVar 9) (g := gName 9) (tt := tTest (tOp (Own.rOwnC K CH (spHEq K CH CT A) E0) (tVar 5) (tVar 9))) (xs := [.non, .ref ta, .ref ra, .ref e14, .int 0]) (K := K) (a := l15) (fun _ H' => H' D = some (.lst []) ∧ Same _ H') ⟨upd_same, Same.refl _⟩ (fun _ H' _ h => SqL.of (h.2 _ _ (s17 _ _ upd_same))) ?_ ?_
        · rintro q v H' hv ⟨hDD, hSS⟩
          have sA := s15.trans (s16.trans (s17.trans hSS))
          have hhA := hh13.same sA
          refine ⟨rfl, _, rfl, _, rfl, ?_⟩
          match q, hv with
          | 0, hv => cases hv; exact rHno T_Height hhA (.base .non) hno.non hno.fnon ⟨_, rfl, iteFb rfl ⟨hDD, hSS⟩⟩
          | 1, hv =>
            cases hv
            obtain ⟨dq, hq⟩ := hta.same sA
            exact rHno T_Height hhA (T_Tone.ty hq) hno.ton hno.fton ⟨_, rfl, iteFb rfl ⟨hDD, hSS⟩⟩
          | 2, hv =>
            cases hv
            obtain ⟨dq, hq⟩ := hra.same sA
            exact rHno T_Height hhA ((ts m).ty hq) (hno.ter m) (hno.fter m) ⟨_, rfl, iteFb rfl ⟨hDD, hSS⟩⟩
          | 3, hv => cases hv; exact rHno T_Height hhA (.base (.tup (hSS _ _ hD1))) hno.tup hno.ftup ⟨_, rfl, iteFb rfl ⟨hDD, hSS⟩⟩
          | 4, hv => cases hv; exact rHno T_Height hhA (.base (.int 0)) T_Height.iK T_Height.nI ⟨_, rfl, iteFb rfl ⟨hDD, hSS⟩⟩
        rintro H16 ⟨hD16, hS16⟩
        refine ⟨(by decide : 0 ≤ sizeLine), fun e17 he17 => ⟨_, _, .lst (SqL.of (same_new he17 _ _ hD16)) .nil, .lst (SqL.of upd_same) .nil, rfl, rfl, _, rfl, iteFb rfl ?_⟩⟩
        exact ⟨_, _, _, _, _, _, _, _, rfl, (P11.same (s1113.trans ((s15.trans (s16.trans (s17.trans hS16))).trans (same_new he17)))).mono (by omega)⟩
      | false =>
        refine iteFb rfl ⟨rfl, _, rfl, iteFb (by simp) ?_⟩
        have hh := hx11
        obtain ⟨dx, tt, rr, hx, htt, hrr⟩ := id hh
        refine ⟨_, rfl, _, rfl, _, CH, dx, _, _, rfl, hx, T_Height.cl, T_Height.nT, heiF_tone _ _, _, rfl, _, CH, dx, _, _, rfl, hx, T_Height.cl, T_Height.nM, heiF_term _ _, ?_⟩
        intro z dz hz hdz hnz
        have g := same_two (o := .own z) (u := .ins CH dz []) hdz hz hnz
        refine ⟨z, dz, tt, rr, o, j, m, c, rfl, upd_same, htt.same g, N, hrr.same g, fun H12 hz12 hk12 => ⟨rfl, ?_⟩⟩
        have s12 := mk_same hz hdz hk12
        refine rH (hh.same s12) ⟨dz, tt, rr, hz12, htt.same s12, hrr.same s12⟩ ⟨_, rfl, iteFb (by simp) ?_⟩
        have h112 : ToneT H12 t1 o j := s12 _ _ h111
        have h212 : TermT H12 t2 m c := s12 _ _ h211
        refine ⟨_, rfl, _, rfl, t1, _, _, _, rfl, rfl, SqT.of h112, rfl, _, rfl, t1, _, _, _, rfl, rfl, SqT.of h112, rfl, _, _, rfl, rfl, _, rfl, t1, _, _, _, rfl, rfl, SqT.of h112, rfl, rfl, .inr ⟨_, rfl, _, _, rfl, rfl, (by decide : 2 ≤ sizeLine), fun e13 he13 => ?_⟩⟩
        have s13 := same_new (o := .tup [.int o, .int (0 - j - (if decide (V.int j = V.int 0) = true then 1 else 0))]) he13
        have hjj : ∃ z : Int, (0 - j - (if decide (V.int j = V.int 0) = true then 1 else 0)) = z ∧ z ≠ j ∧ Near o z := by
          rw [vdec]
          refine ⟨_, rfl, ?_, N.o1, N.o2, ?_, ?_⟩ <;> have n1 := N.k1 <;> have n2 := N.k2 <;> by_cases h0 : j = 0 <;> simp [h0] <;> omega
        obtain ⟨jz, ejz, nejz, Nz⟩ := hjj
        refine ⟨_, rfl, e13, t2, o, jz, m, c, rfl, by rw [← ejz]; exact upd_same, s13 _ _ h212, Nz, ⟨c1, c2⟩, fun y13 H13 s14 hy13 => ?_⟩
        have s1113 := s12.trans (s13.trans s14)
        have hh13 := hh.same s1113
        refine rH hh13 hy13 ⟨_, rfl, iteFb (by rw [show decide (j = jz) = false from decide_eq_false fun z => nejz z.symm]; simp) ?_⟩
        obtain ⟨dxa, ta, ra, hxa, hta, hra⟩ := id hh13
        refine ⟨_, rfl, _, CH, dxa, _, _, rfl, hxa, T_Height.cl, T_Height.nT, heiF_tone _ _, _, rfl, _, CH, dxa, _, _, rfl, hxa, T_Height.cl, T_Height.nM, heiF_term _ _, _, rfl, _, CH, dxa, _, _, rfl, hxa, T_Height.cl, T_Height.nT, heiF_tone _ _, _, rfl, _, CH, dxa, _, _, rfl, hxa, T_Height.cl, T_Height.nM, heiF_term _ _, (by decide : 2 ≤ sizeLine), fun e14 he14 => ⟨(by decide : 5 ≤ sizeLine), fun l15 hl15 => ⟨l15, rfl, ⟨_, SqL.of upd_same⟩, fun D hD => ?_⟩⟩⟩
        have s15 := same_new (o := .tup [.ref ta, .ref ra]) he14
        have s16 := same_new (o := .lst [.non, .ref ta, .ref ra, .ref e14, .int 0]) hl15
        have s17 := same_new (o := .lst []) hD
        have hD1 := s17 _ _ (s16 _ _ upd_same)
        refine lc_list (te := tVar 9) (g := gName 9) (tt := tTest (tOp (Own.rOwnC K CH (spHEq K CH CT A) E0) (tVar 5) (tVar 9))) (xs := [.non, .ref ta, .ref ra, .ref e14, .int 0]) (K := K) (a := l15) (fun _ H' => H' D = some (.lst []) ∧ Same _ H') ⟨upd_same, Same.refl _⟩ (fun _ H' _ h => SqL.of (h.2 _ _ (s17 _ _ upd_same))) ?_ ?_
        · rintro q v H' hv ⟨hDD, hSS⟩
          have sA := s15.trans (s16.trans (s17.trans hSS))
          have hhA := hh13.same sA
          refine ⟨rfl, _, rfl, _, rfl, ?_⟩
          match q, hv with
          | 0, hv => cases hv; exact rHno T_Height hhA (.base .non) hno.non hno.fnon ⟨_, rfl, iteFb rfl ⟨hDD, hSS⟩⟩
          | 1, hv =>
            cases hv
            obtain ⟨dq, hq⟩ := hta.same sA
            exact rHno T_Height hhA (T_Tone.ty hq) hno.ton hno.fton ⟨_, rfl, iteFb rfl ⟨hDD, hSS⟩⟩
          | 2, hv =>
            cases hv
            obtain ⟨dq, hq⟩ := hra.same sA
            exact rHno T_Height hhA ((ts m).ty hq) (hno.ter m) (hno.fter m) ⟨_, rfl, iteFb rfl ⟨hDD, hSS⟩⟩
          | 3, hv => cases hv; exact rHno T_Height hhA (.base (.tup (hSS _ _ hD1))) hno.tup hno.ftup ⟨_, rfl, iteFb rfl ⟨hDD, hSS⟩⟩
          | 4, hv => cases hv; exact rHno T_Height hhA (.base (.int 0)) T_Height.iK T_Height.nI ⟨_, rfl, iteFb rfl ⟨hDD, hSS⟩⟩
        rintro H16 ⟨hD16, hS16⟩
        refine ⟨(by decide : 0 ≤ sizeLine), fun e17 he17 => ⟨_, _, .lst (SqL.of (same_new he17 _ _ hD16)) .nil, .lst (SqL.of upd_same) .nil, rfl, rfl, _, rfl, iteFb rfl ?_⟩⟩
        exact ⟨_, _, _, _, _, _, _, _, rfl, (P11.same (s1113.trans ((s15.trans (s16.trans (s17.trans hS16))).trans (same_new he17)))).mono (by omega)⟩
    · rintro σ H1 ⟨v2, v3, v4, v5, v6, v7, v8, v9, rfl, P1⟩
      refine ⟨20, rfl, ?_⟩
      intro x1 dx1 hx1 hdx1 hne1
      refine ⟨x1, dx1, 20, -20, rfl, upd_same, fun H2 hT2 hk2 => ⟨rfl, ?_⟩⟩
      have s2 := mk_same hx1 hdx1 hk2
      intro x3 dx3 hx3 hdx3 hne3
      refine ⟨x3, dx3, A.cn, false, 0, ts false, rfl, upd_same, ⟨by decide, by decide⟩, fun H3 hT3 hk3 => ⟨rfl, ?_⟩⟩
      have s3 := mk_same hx3 hdx3 hk3
      intro x4 dx4 hx4 hdx4 hne4
      have g4 := same_two (o := .own x4) (u := .ins CH dx4 []) hdx4 hx4 hne4
      have N4 : Near 20 (-20) := ⟨by decide, by decide, by decide, by decide⟩
      have hm3 : TerM A H3 x3 false 0 := hT3
      refine ⟨x4, dx4, x1, x3, 20, -20, false, 0, rfl, upd_same, (hT2.same s3).same g4, N4, hm3.same g4, fun H4 h14 hk4 => ⟨rfl, ?_⟩⟩
      have s4 := mk_same hx4 hdx4 hk4
      have hh4 : Hei CH CT A H4 x4 20 (-20) false 0 := ⟨dx4, x1, x3, h14, (hT2.same s3).same s4, hm3.same s4⟩
      refine ⟨x4, dx4, _, rfl, h14, heiF_no _ _ (by decide +kernel) (by decide +kernel), ?_⟩
      intro x5 dx5 hx5 hdx5 hne5
      refine ⟨x5, dx5, 1, 2, rfl, upd_same, by decide, zbig (by decide +kernel), fun H5 hR5 hk5 => ⟨rfl, ?_⟩⟩
      have s5 := mk_same hx5 hdx5 hk5
      have hq5 : RatQ C H5 x5 (divInt 1 2) := asQ (by decide) rfl hR5
      have ff := fif_of (t := 1) (b := 2) (by decide) (by decide) (by decide +kernel)
      refine ⟨x4, x5, 20, -20, false, 0, 0, divInt 1 2, rfl, hh4.same s5, N4, ⟨by decide, by decide⟩, by decide +kernel, hq5, ff.1, fun y6 H6 s6 hy6 => ?_⟩
      refine eqLq hy6 (.int 10) fun H7 s7 => ?_
      rw [show decide (pitQ 20 (-20) false 0 0 (divInt 1 2) = ((10 : Int) : Rat)) = true by decide +kernel]
      exact kq _
end
end Toy
set_option maxRecDepth 100000
set_option maxHeartbeats 4000000
set_option exponentiation.threshold 9000
namespace Toy
open PySem L2
section
variable {P : Program} {w : World} {K : PySem.W.Frag} {mg : Str → Option Value} {base : Heap} {C CN CB : Addr}
abbrev sRSub : Stmt := inClass (top 23) 11
theorem scRSub : FnScope ["self", "other"] ["self", "other"] (defScope sRSub) := ⟨rfl, rfl, rfl, by decide +kernel, rfl, by decide +kernel, by decide +kernel⟩
theorem ok_rsub {f g g2 : Addr} {fd gd gd2 : FuncData} (F : Fun K "__rsub__" "Ratio.__rsub__" sRSub f fd) (B : BinF K C .Add) (O_add : Opr P w K mg base 4 C "__add__" g gd ["self", "other"] (spBin C GT fun p q => p + q)) (O_neg : Opr P w K mg base 4 C "__neg__" g2 gd2 ["self"] (spUn C fun p => -p)) :
    FnOk P w K mg base CX0 5 f fd ["self", "other"] (spBin C GT fun p q => -p + q) := by
  refine F.ok scRSub (fun vs H Q E h => ?_) (fun cdv A outer s H vs Q E hr h => ?_)
  · obtain ⟨a, u, p, q, rfl, _⟩ := h
    rfl
  · obtain ⟨a, u, p, q, rfl, hp, hq, z, g, k⟩ := h
    have nd := scRSub.nd
    refine ⟨_, pss_one (ps_ret (pe_op (op_B B O_add.F (hr.mono (by decide)) O_add.at_ O_add.fn O_add.b pass0) (pe_un (Own.un_ownNeg O_neg.F (hr.mono (by decide)) O_neg.at_ O_neg.fn O_neg.b pass0) (pv 0)) (pv 1))), ?_⟩
    obtain ⟨dx, fs, h1⟩ := hp.ins
    refine ⟨_, rfl, a, dx, fs, rfl, h1, a, p, rfl, hp, z.1, fun x H1 s1 hx => ?_⟩
    obtain ⟨dx1, fs1, h2⟩ := hx.ins
    exact ⟨_, rfl, x, dx1, fs1, rfl, h2, (hq.same s1).ri, x, u, -p, q, rfl, hx, hq.same s1, ⟨z.1.neg, z.2⟩, g, fun y H2 s2 hy => k y H2 (s1.trans s2) hy⟩
end
end Toy
set_option maxRecDepth 100000
set_option maxHeartbeats 4000000
set_option exponentiation.threshold 9000
namespace Toy
open PySem L2
open Rat (divInt)
section
variable {P : Program} {w : World} {K : PySem.W.Frag} {mg : Str → Option Value} {base : Heap} {C CT : Addr} {A : TAd}
abbrev sNoNote : Stmt := inClass (top 79) 2
theorem scNoNote : Own.SScope ["self", "n", "__class__"] ["self", "n"] (defScope sNoNote) := ⟨rfl, rfl, rfl, by decide +kernel, rfl, by decide +kernel, by decide +kernel, by decide +kernel, rfl, rfl⟩
theorem ok_NoNote {f f2 cc : Addr} {fd fd2 : FuncData} {ar : Arg} (F : Own.SupF P K mg f cc (tcl A false) "note" "Note.note" (defArgs sNoNote) (defBody sNoNote) (defScope sNoNote) fd ar) (har : ar.arg = "self") (hsub : PySem.W.mroIn K (tcl A false) (.ref (tcl A false)) = some true)
    (hs : PySem.W.ks_superIn K (tcl A false) (tcl A false) "note" = some (some (.ref f2))) (ht : PySem.W.typeIn K (.ref f2) = some (.type "function")) (hfi : PySem.W.fnIn K f2 = true) (F2 : FnOk P w K mg base CX0 3 f2 fd2 ["self", "n"] (spNote K A)) (b2 : Binds K fd2 ["self", "n"] []) :
    FnOk P w K mg base CX0 4 f fd ["self", "n"] (OnM A false (spNote K A)) := by
  refine Own.fn_super F scNoNote rfl (by decide) hsub (by rw [har]; rfl) (by rw [har]; rfl) hs ht hfi (F2.raw b2 .nil) (fun _ _ _ _ _ => (pa_cons (pv 1) pa_nil)) (fun vs H Q E h => ?_) (fun vs H Q E h => ?_) (fun _ => rfl) (fun _ => rfl) (fun _ => rfl)
  · obtain ⟨_, x, D, m, b, n, tc, rfl, _⟩ := h
    rfl
  · obtain ⟨⟨a, dx, gs, e, ha⟩, x, D, m, b, n, tc, rfl, hx, q⟩ := h
    have e : some (V.ref x) = some (.ref a) := e
    have e2 : x = a := by cases e; rfl
    subst e2
    exact ⟨x, dx, gs, rfl, ha, ⟨_, rfl, x, D, m, b, n, tc, rfl, hx, q⟩⟩
abbrev sNoPos : Stmt := inClass (top 79) 3
theorem scNoPos : Own.SScope ["self", "n", "fifth", "__class__"] ["self", "n", "fifth"] (defScope sNoPos) := ⟨rfl, rfl, rfl, by decide +kernel, rfl, by decide +kernel, by decide +kernel, by decide +kernel, rfl, rfl⟩
theorem ok_NoPos {f f2 cc : Addr} {fd fd2 : FuncData} {ar : Arg} (F : Own.SupF P K mg f cc (tcl A false) "position" "Note.position" (defArgs sNoPos) (defBody sNoPos) (defScope sNoPos) fd ar) (har : ar.arg = "self") (hsub : PySem.W.mroIn K (tcl A false) (.ref (tcl A false)) = some true)
    (hs : PySem.W.ks_superIn K (tcl A false) (tcl A false) "position" = some (some (.ref f2))) (ht : PySem.W.typeIn K (.ref f2) = some (.type "function")) (hfi : PySem.W.fnIn K f2 = true) (F2 : FnOk P w K mg base CX0 5 f2 fd2 ["self", "n", "fifth"] (spPos K A C)) (b2 : Binds K fd2 ["self", "n", "fifth"] []) :
    FnOk P w K mg base CX0 6 f fd ["self", "n", "fifth"] (OnM A false (spPos K A C)) := by
  refine Own.fn_super F scNoPos rfl (by decide) hsub (by rw [har]; rfl) (by rw [har]; rfl) hs ht hfi (F2.raw b2 .nil) (fun _ _ _ _ _ => (pa_cons (pv 1) (pa_cons (pv 2) pa_nil))) (fun vs H Q E h => ?_) (fun vs H Q E h => ?_) (fun _ => rfl) (fun _ => rfl) (fun _ => rfl)
  · obtain ⟨_, x, f5, D, m, b, n, q5, tc, rfl, _⟩ := h
    rfl
  · obtain ⟨⟨a, dx, gs, e, ha⟩, x, f5, D, m, b, n, q5, tc, rfl, hx, q⟩ := h
    have e : some (V.ref x) = some (.ref a) := e
    have e2 : x = a := by cases e; rfl
    subst e2
    exact ⟨x, dx, gs, rfl, ha, ⟨_, rfl, _, rfl, x, f5, D, m, b, n, q5, tc, rfl, hx, q⟩⟩
abbrev sNoTMoved : Stmt := inClass (top 79) 4
theorem scNoTMoved : Own.SScope ["self", "number", "__class__"] ["self", "number"] (defScope sNoTMoved) := ⟨rfl, rfl, rfl, by decide +kernel, rfl, by decide +kernel, by decide +kernel, by decide +kernel, rfl, rfl⟩
theorem ok_NoTMoved {f f2 cc : Addr} {fd fd2 : FuncData} {ar : Arg} (F : Own.SupF P K mg f cc (tcl A false) "moved" "Note.moved" (defArgs sNoTMoved) (defBody sNoTMoved) (defScope sNoTMoved) fd ar) (har : ar.arg = "self") (hsub : PySem.W.mroIn K (tcl A false) (.ref (tcl A false)) = some true)
    (hs : PySem.W.ks_superIn K (tcl A false) (tcl A false) "moved" = some (some (.ref f2))) (ht : PySem.W.typeIn K (.ref f2) = some (.type "function")) (hfi : PySem.W.fnIn K f2 = true) (F2 : FnOk P w K mg base CX0 7 f2 fd2 ["self", "number"] (spTMoved A)) (b2 : Binds K fd2 ["self", "number"] []) :
    FnOk P w K mg base CX0 8 f fd ["self", "number"] (OnM A false (spTMoved A)) := by
  refine Own.fn_super F scNoTMoved rfl (by decide) hsub (by rw [har]; rfl) (by rw [har]; rfl) hs ht hfi (F2.raw b2 .nil) (fun _ _ _ _ _ => (pa_cons (pv 1) pa_nil)) (fun vs H Q E h => ?_) (fun vs H Q E h => ?_) (fun _ => rfl) (fun _ => rfl) (fun _ => rfl)
  · obtain ⟨_, x, m, b, z, rfl, _⟩ := h
    rfl
  · obtain ⟨⟨a, dx, gs, e, ha⟩, x, m, b, z, rfl, hx, q⟩ := h
    have e : some (V.ref x) = some (.ref a) := e
    have e2 : x = a := by cases e; rfl
    subst e2
    exact ⟨x, dx, gs, rfl, ha, ⟨_, rfl, x, m, b, z, rfl, hx, q⟩⟩
abbrev sNoTMir : Stmt := inClass (top 79) 5
theorem scNoTMir : Own.SScope ["self", "__class__"] ["self"] (defScope sNoTMir) := ⟨rfl, rfl, rfl, by decide +kernel, rfl, by decide +kernel, by decide +kernel, by decide +kernel, rfl, rfl⟩
theorem ok_NoTMir {f f2 cc : Addr} {fd fd2 : FuncData} {ar : Arg} (F : Own.SupF P K mg f cc (tcl A false) "mirrored" "Note.mirrored" (defArgs sNoTMir) (defBody sNoTMir) (defScope sNoTMir) fd ar) (har : ar.arg = "self") (hsub : PySem.W.mroIn K (tcl A false) (.ref (tcl A false)) = some true)
    (hs : PySem.W.ks_superIn K (tcl A false) (tcl A false) "mirrored" = some (some (.ref f2))) (ht : PySem.W.typeIn K (.ref f2) = some (.type "function")) (hfi : PySem.W.fnIn K f2 = true) (F2 : FnOk P w K mg base CX0 7 f2 fd2 ["self"] (spTMir A)) (b2 : Binds K fd2 ["self"] []) :
    FnOk P w K mg base CX0 8 f fd ["self"] (OnM A false (spTMir A)) := by
  refine Own.fn_super0 F scNoTMir rfl (by decide) hsub (by rw [har]; rfl) (by rw [har]; rfl) hs ht hfi (F2.raw b2 .nil) (fun vs H Q E h => ?_) (fun vs H Q E h => ?_) (fun _ => rfl)
  · obtain ⟨_, x, m, b, rfl, _⟩ := h
    rfl
  · obtain ⟨⟨a, dx, gs, e, ha⟩, x, m, b, rfl, hx, q⟩ := h
    have e : some (V.ref x) = some (.ref a) := e
    have e2 : x = a := by cases e; rfl
    subst e2
    exact ⟨x, dx, gs, rfl, ha, ⟨x, m, b, rfl, hx, q⟩⟩
abbrev sMoNote : Stmt := inClass (top 80) 2
theorem scMoNote : Own.SScope ["self", "n", "__class__"] ["self", "n"] (defScope sMoNote) := ⟨rfl, rfl, rfl, by decide +kernel, rfl, by decide +kernel, by decide +kernel, by decide +kernel, rfl, rfl⟩
theorem ok_MoNote {f f2 cc : Addr} {fd fd2 : FuncData} {ar : Arg} (F : Own.SupF P K mg f cc (tcl A true) "note" "Moving.note" (defArgs sMoNote) (defBody sMoNote) (defScope sMoNote) fd ar) (har : ar.arg = "self") (hsub : PySem.W.mroIn K (tcl A true) (.ref (tcl A true)) = some true)
    (hs : PySem.W.ks_superIn K (tcl A true) (tcl A true) "note" = some (some (.ref f2))) (ht : PySem.W.typeIn K (.ref f2) = some (.type "function")) (hfi : PySem.W.fnIn K f2 = true) (F2 : FnOk P w K mg base CX0 3 f2 fd2 ["self", "n"] (spNote K A)) (b2 : Binds K fd2 ["self", "n"] []) :
    FnOk P w K mg base CX0 4 f fd ["self", "n"] (OnM A true (spNote K A)) := by
  refine Own.fn_super F scMoNote rfl (by decide) hsub (by rw [har]; rfl) (by rw [har]; rfl) hs ht hfi (F2.raw b2 .nil) (fun _ _ _ _ _ => (pa_cons (pv 1) pa_nil)) (fun vs H Q E h => ?_) (fun vs H Q E h => ?_) (fun _ => rfl) (fun _ => rfl) (fun _ => rfl)
  · obtain ⟨_, x, D, m, b, n, tc, rfl, _⟩ := h
    rfl
  · obtain ⟨⟨a, dx, gs, e, ha⟩, x, D, m, b, n, tc, rfl, hx, q⟩ := h
    have e : some (V.ref x) = some (.ref a) := e
    have e2 : x = a := by cases e; rfl
    subst e2
    exact ⟨x, dx, gs, rfl, ha, ⟨_, rfl, x, D, m, b, n, tc, rfl, hx, q⟩⟩
abbrev sMoPos : Stmt := inClass (top 80) 3
theorem scMoPos : Own.SScope ["self", "n", "fifth", "__class__"] ["self", "n", "fifth"] (defScope sMoPos) := ⟨rfl, rfl, rfl, by decide +kernel, rfl, by decide +kernel, by decide +kernel, by decide +kernel, rfl, rfl⟩
theorem ok_MoPos {f f2 cc : Addr} {fd fd2 : FuncData} {ar : Arg} (F : Own.SupF P K mg f cc (tcl A true) "position" "Moving.position" (defArgs sMoPos) (defBody sMoPos) (defScope sMoPos) fd ar) (har : ar.arg = "self") (hsub : PySem.W.mroIn K (tcl A true) (.ref (tcl A true)) = some true)
    (hs : PySem.W.ks_superIn K (tcl A true) (tcl A true) "position" = some (some (.ref f2))) (ht : PySem.W.typeIn K (.ref f2) = some (.type "function")) (hfi : PySem.W.fnIn K f2 = true) (F2 : FnOk P w K mg base CX0 5 f2 fd2 ["self", "n", "fifth"] (spPos K A C)) (b2 : Binds K fd2 ["self", "n", "fifth"] []) :
    FnOk P w K mg base CX0 6 f fd ["self", "n", "fifth"] (OnM A true (spPos K A C)) := by
  refine Own.fn_super F scMoPos rfl (by decide) hsub (by rw [har]; rfl) (by rw [har]; rfl) hs ht hfi (F2.raw b2 .nil) (fun _ _ _ _ _ => (pa_cons (pv 1) (pa_cons (pv 2) pa_nil))) (fun vs H Q E h => ?_) (fun vs H Q E h => ?_) (fun _ => rfl) (fun _ => rfl) (fun _ => rfl)
  · obtain ⟨_, x, f5, D, m, b, n, q5, tc, rfl, _⟩ := h
    rfl
  · obtain ⟨⟨a, dx, gs, e, ha⟩, x, f5, D, m, b, n, q5, tc, rfl, hx, q⟩ := h
    have e : some (V.ref x) = some (.ref a) := e
    have e2 : x = a := by cases e; rfl
    subst e2
    exact ⟨x, dx, gs, rfl, ha, ⟨_, rfl, _, rfl, x, f5, D, m, b, n, q5, tc, rfl, hx, q⟩⟩
abbrev sMoTMoved : Stmt := inClass (top 80) 4
theorem scMoTMoved : Own.SScope ["self", "number", "__class__"] ["self", "number"] (defScope sMoTMoved) := ⟨rfl, rfl, rfl, by decide +kernel, rfl, by decide +kernel, by decide +kernel, by decide +kernel, rfl, rfl⟩
theorem ok_MoTMoved {f f2 cc : Addr} {fd fd2 : FuncData} {ar : Arg} (F : Own.SupF P K mg f cc (tcl A true) "moved" "Moving.moved" (defArgs sMoTMoved) (defBody sMoTMoved) (defScope sMoTMoved) fd ar) (har : ar.arg = "self") (hsub : PySem.W.mroIn K (tcl A true) (.ref (tcl A true)) = some true)
    (hs : PySem.W.ks_superIn K (tcl A true) (tcl A true) "moved" = some (some (.ref f2))) (ht : PySem.W.typeIn K (.ref f2) = some (.type "function")) (hfi : PySem.W.fnIn K f2 = true) (F2 : FnOk P w K mg base CX0 7 f2 fd2 ["self", "number"] (spTMoved A)) (b2 : Binds K fd2 ["self", "number"] []) :
    FnOk P w K mg base CX0 8 f fd ["self", "number"] (OnM A true (spTMoved A)) := by
  refine Own.fn_super F scMoTMoved rfl (by decide) hsub (by rw [har]; rfl) (by rw [har]; rfl) hs ht hfi (F2.raw b2 .nil) (fun _ _ _ _ _ => (pa_cons (pv 1) pa_nil)) (fun vs H Q E h => ?_) (fun vs H Q E h => ?_) (fun _ => rfl) (fun _ => rfl) (fun _ => rfl)
  · obtain ⟨_, x, m, b, z, rfl, _⟩ := h
    rfl
  · obtain ⟨⟨a, dx, gs, e, ha⟩, x, m, b, z, rfl, hx, q⟩ := h
    have e : some (V.ref x) = some (.ref a) := e
    have e2 : x = a := by cases e; rfl
    subst e2
    exact ⟨x, dx, gs, rfl, ha, ⟨_, rfl, x, m, b, z, rfl, hx, q⟩⟩
abbrev sMoTMir : Stmt := inClass (top 80) 5
theorem scMoTMir : Own.SScope ["self", "__class__"] ["self"] (defScope sMoTMir) := ⟨rfl, rfl, rfl, by decide +kernel, rfl, by decide +kernel, by decide +kernel, by decide +kernel, rfl, rfl⟩
theorem ok_MoTMir {f f2 cc : Addr} {fd fd2 : FuncData} {ar : Arg} (F : Own.SupF P K mg f cc (tcl A true) "mirrored" "Moving.mirrored" (defArgs sMoTMir) (defBody sMoTMir) (defScope sMoTMir) fd ar) (har : ar.arg = "self") (hsub : PySem.W.mroIn K (tcl A true) (.ref (tcl A true)) = some true)
    (hs : PySem.W.ks_superIn K (tcl A true) (tcl A true) "mirrored" = some (some (.ref f2))) (ht : PySem.W.typeIn K (.ref f2) = some (.type "function")) (hfi : PySem.W.fnIn K f2 = true) (F2 : FnOk P w K mg base CX0 7 f2 fd2 ["self"] (spTMir A)) (b2 : Binds K fd2 ["self"] []) :
    FnOk P w K mg base CX0 8 f fd ["self"] (OnM A true (spTMir A)) := by
  refine Own.fn_super0 F scMoTMir rfl (by decide) hsub (by rw [har]; rfl) (by rw [har]; rfl) hs ht hfi (F2.raw b2 .nil) (fun vs H Q E h => ?_) (fun vs H Q E h => ?_) (fun _ => rfl)
  · obtain ⟨_, x, m, b, rfl, _⟩ := h
    rfl
  · obtain ⟨⟨a, dx, gs, e, ha⟩, x, m, b, rfl, hx, q⟩ := h
    have e : some (V.ref x) = some (.ref a) := e
    have e2 : x = a := by cases e; rfl
    subst e2
    exact ⟨x, dx, gs, rfl, ha, ⟨x, m, b, rfl, hx, q⟩⟩
theorem binds_s {x qual : Str} {params : Arguments} {body : List Stmt} {scope : Scope} {cc : Addr} {fd : FuncData} {ps : List Str} (h : ∃ kV doc pm an cdv ct, fd = PySem.W.ksFn x qual params body scope .none kV doc pm an cdv ct cc)
    (hb : ∀ (kV doc pm : Value) (an : Option Addr) (cdv ct : Value) (us : List Value), us.length = ps.length → bindArgs (PySem.W.ksFn x qual params body scope .none kV doc pm an cdv ct cc) ⟨us, []⟩ = pure (ps.zip us)) : Binds K fd ps [] := by
  obtain ⟨kV, doc, pm, an, cdv, ct, rfl⟩ := h
  exact .all (hb kV doc pm an cdv ct)
end
end Toy
set_option maxRecDepth 100000
set_option maxHeartbeats 4000000
namespace Own
open PySem PySem.Spec PyProof.Rows L2
open LamX (TabB)
section
variable {P : Program} {w : World} {K : PySem.W.Frag} {a : Addr} {cs : List (Addr × Addr)} {h : Heap} {vs : List Value} {ns : List Int} {H : Hp}
theorem Ent.none (T : Ent P w K a cs h ns H) (ha : h.get? a = some { cls := .type "list", data := .seq vs.toArray }) {b : Addr} {o : Obj} (e : h.get? b = some o) (h1 : ∀ vs n, o.data ≠ .seq vs n) (h2 : o.data ≠ .fields #[]) : H b = none := by
  cases q : H b with
  | none => rfl
  | some u =>
    rcases T.only b u q with ⟨rfl, _⟩ | ⟨_, _, _, rfl⟩
    · have z : h.get? b = some { cls := .none, data := .fields #[] } := T.ok b _ q
      rw [e] at z
      cases z
      exact absurd rfl h2
    · rw [ha] at e
      cases e
      exact absurd rfl (h1 _ _)
theorem Ent.dict (T : Ent P w K a cs h ns H) (ha : h.get? a = some { cls := .type "list", data := .seq vs.toArray }) {b : Addr} {o : Obj} {es : Array DictEntry} {n : Nat} (e : h.get? b = some o) (d : o.data = .dict es n) : H b = .none := T.none ha e (fun vs n z => nomatch d.symm.trans z) fun z => nomatch d.symm.trans z
theorem Ent.nsp (T : Ent P w K a cs h ns H) (ha : h.get? a = some { cls := .type "list", data := .seq vs.toArray }) {b : Addr} {m : Str → Option Value} (x : h.Ns b m) : (hidT h H).Ns b m := by
  obtain ⟨o, es, n, e, d, r⟩ := x
  exact ⟨o, es, n, hidT_get e (T.dict ha e d), d, r⟩
theorem Ent.kin (T : Ent P w K a cs h ns H) (KX : K.In h) : K.In (hidT h H) := fun b o e => hidT_get (KX b o e) (by
  cases q : H b with
  | none => rfl
  | some u => rw [T.out b u q] at e; cases e)
theorem Ent.tabB (T : Ent P w K a cs h ns H) (ha : h.get? a = some { cls := .type "list", data := .seq vs.toArray }) {mg : Str → Option Value} (hg : h.Ns mainGlobals mg) {c p : Addr} (hP : h.get? p = some { cls := .none, data := .fields #[] }) (C : PySem.W.CodeHd h c p)
    (hbm : ∃ (bm : Addr) (ob : Obj), mg "__builtins__" = some (.ref bm) ∧ bm ≠ builtinsNs ∧ h.get? bm = some ob ∧ ob.cls = .type "module" ∧ ob.dict = some builtinsNs ∧ ob.data = .plain) : TabB (hidT h H) mg c p := by
  obtain ⟨og, es, n, eg, dg, _⟩ := hg
  refine ⟨?_, ?_, fun z => ?_⟩
  · obtain ⟨o, us, file, tf, flags, tg, inF, text, tt, e, r1, r2, r3, r⟩ := C
    refine ⟨o, us, file, tf, flags, tg, inF, text, tt, hidT_get e (T.none ha e (fun _ _ z => nomatch r2.symm.trans z) fun z => ?_), r1, r2, r3, r⟩
    have z2 := r2.symm.trans z
    cases z2
    simp at r3
  · obtain ⟨bm, ob, b1, b2, b3, b4, b5, b6⟩ := hbm
    refine ⟨bm, ob, b1, b2, fun z => ?_, fun z => ?_, hidT_get b3 (T.none ha b3 (fun _ _ z => nomatch b6.symm.trans z) fun z => nomatch b6.symm.trans z), b4, b5, b6⟩
    · rw [z, eg] at b3
      cases b3
      exact nomatch dg.symm.trans b6
    · rw [z, hP] at b3
      cases b3
      exact nomatch b6
  · rw [z, hP] at eg
    cases eg
    exact nomatch dg
/-- from the law's promise, at the heap behind the top -/
theorem law_callG {mg mb : Str → Option Value} {k : Nat} {fa : Addr} {fd : FuncData} {x : Str} {sp : Sp} {s : Shared} (KX : K.In s.heap) (hg : s.heap.Ns mainGlobals mg) (hb : s.heap.Ns builtinsNs mb) (hbb : ∀ x : Str, x ≠ "__name__" → mb x = bootBuiltins x) (hlim : s.heap.NoLimit)
    (hgn : s.gens = #[]) (hT : ∀ p ∈ cs, s.heap.get? p.2 = some { cls := .none, data := .fields #[] }) (nT : ∀ p ∈ cs, K.lookup p.2 = none) (C : ∀ p ∈ cs, PySem.W.CodeHd s.heap p.1 p.2)
    (hbm : ∃ (bm : Addr) (ob : Obj), mg "__builtins__" = some (.ref bm) ∧ bm ≠ builtinsNs ∧ s.heap.get? bm = some ob ∧ ob.cls = .type "module" ∧ ob.dict = some builtinsNs ∧ ob.data = .plain)
    (ha : s.heap.get? a = some { cls := .type "list", data := .seq vs.toArray }) (hi : IntsAre vs ns) (hl : ns.length ≤ sizeLine) (hr : Room k callerA)
    (F : ∀ base : Heap, K.In base → base.Ns mainGlobals mg → (∀ p ∈ cs, TabB base mg p.1 p.2) → FnG P w K mg base CX0 k fa fd [x] sp) (hbind : ∀ (s : Shared) (u : Value), BindsTo s fd ⟨[u], []⟩ [(x, u)])
    (hsp : ∀ H : Hp, (∀ p ∈ cs, H p.2 = some (.tbl #[])) → SqL K H a (ns.map V.int) → sp [.ref a] H (fun v _ => v = .bl true) fun _ _ _ => False) :
    codeAny (model P w) callerA (.call (.ref fa) ⟨[.ref a], []⟩) (fun r s' => r = .ok (.ret (.bool true)) ∧ OldK s.heap s'.heap ∧ s'.os = s.os ∧ AllBare s'.gens) s := by
  obtain ⟨H, T⟩ := ent (P := P) (w := w) KX hT nT ha hi hl
  have KB := T.kin KX
  have GB := T.nsp ha hg
  have TB : ∀ p ∈ cs, TabB (hidT s.heap H) mg p.1 p.2 := fun p hp => T.tabB ha hg (hT p hp) (C p hp) hbm
  have M : L2.Mod K mg (hidT s.heap H) := ⟨KB, GB, ⟨mb, T.nsp ha hb, hbb⟩, by obtain ⟨mc, q1, q2⟩ := hlim; exact ⟨mc, T.nsp ha q1, q2⟩⟩
  have e0 : Env0 P w K mg (hidT s.heap H) callerA [] s H := { frames := rfl, mod := M, bs := fun b o e => of_hidT e, bsz := Nat.le_of_eq (hidT_size _ _), funs := trivial, frf := fun b m => absurd (show b ∈ ([] : List Addr) from m) List.not_mem_nil, hok := T.ok, bare := .of_eq hgn }
  refine codeAny_mono ((F _ KB GB TB).run callerA [] s H ⟨[.ref a], []⟩ [.ref a] [.ref a] _ _ rfl hr e0 (hbind s (.ref a)) (.cons rfl .nil) (hsp H T.tab T.scr)) fun r s' q => ?_
  match r, q with
  | .error e, q => exact False.elim q
  | .ok .next, q => exact False.elim q
  | .ok .brk, q => exact False.elim q
  | .ok .cont, q => exact False.elim q
  | .ok (.ret u), q =>
    obtain ⟨v, H', os, bare, un, ok', rv, qv⟩ := q
    obtain rfl : v = .bl true := qv
    obtain rfl : u = Value.bool true := rv
    have old : ∀ b o, s.heap.get? b = some o → (s'.heap.get? b = some o ∧ b ∉ cs.map (·.2)) ∨ (∃ p ∈ cs, p.2 = b ∧ o = { cls := .none, data := .fields #[] } ∧ ∃ more : Array Value, s'.heap.get? b = some { cls := .none, data := .fields more }) := fun b o e => by
      by_cases m : b ∈ cs.map (·.2)
      · obtain ⟨p, hp, rfl⟩ := List.mem_map.mp m
        obtain ⟨more, z⟩ := un.tbls p.2 #[] (T.tab p hp)
        rw [hT p hp] at e
        cases e
        exact .inr ⟨p, hp, rfl, rfl, _, ok' p.2 _ z⟩
      · refine .inl ⟨?_, m⟩
        cases q : H b with
        | none => exact un.keep b o e q (fun z => nomatch (show b ∈ ([] : List Addr) from z)) (fun z => nomatch (show b ∈ ([] : List Addr) from z))
        | some u =>
          rcases T.only b u q with ⟨_, m2⟩ | ⟨xs, ob, rfl, rfl⟩
          · exact absurd m2 m
          · have z1 := (T.ok _ _ q).1
            have z2 := (ok' _ _ (un.frzs _ ob _ q)).1
            rw [e] at z1
            cases z1
            exact z2
    refine ⟨rfl, ⟨fun b o e => ?_, fun b o e => ?_⟩, os, bare⟩
    · rcases old b o e with ⟨z, _⟩ | ⟨p, hp, rfl, rfl, more, z⟩
      · exact .inl z
      · exact .inr (.inl ⟨((C p hp).tab (hT p hp)).isCodeTable, rfl, #[], more, rfl, by rw [Array.empty_append]; exact z⟩)
    · rcases old b o e with ⟨z, _⟩ | ⟨p, hp, rfl, rfl, more, z⟩
      · exact ⟨_, z⟩
      · exact ⟨_, z⟩
end
/-- what is known of the law at the head's heap h; tabs: code objects and tables of the defs that make lambdas -/
structure LawG (l : PySem.W.OpenLaw) (w : World) (K : PySem.W.Frag) (k n : Nat) (x : Str) (mg : Str → Option Value) (fa : Addr) (h : Heap) (tabs : List (Addr × Addr)) : Prop where
  at_ : ∀ p ∈ tabs, PySem.W.CodeHd h p.1 p.2 ∧ h.get? p.2 = some (PySem.W.tabObj #[])
  out : ∀ p ∈ tabs, K.lookup p.2 = none
  pr : ∃ (fd : FuncData) (sp : Sp), (∀ (s : Shared) (u : Value), BindsTo s fd ⟨[u], []⟩ [(x, u)]) ∧
    (∀ (H : Hp) (a : Addr) (ns : List Int), ns.length ≤ n → (∀ p ∈ tabs, H p.2 = some (.tbl #[])) → SqL K H a (ns.map V.int) → sp [.ref a] H (fun v _ => v = .bl true) fun _ _ _ => False) ∧
    ∀ base : Heap, K.In base → base.Ns mainGlobals mg → (∀ p ∈ tabs, TabB base mg p.1 p.2) → FnG l.prog w K mg base CX0 k fa fd [x] sp
theorem walk_ofG {l : PySem.W.OpenLaw} {n k : Nat} {q : Program} {loose : List Str} {XP : (Str → Option Value) → Heap → Prop} {YP : World → Heap → Prop} {d : DefRec} {K : Params → PySem.W.Frag} {x : Str}
    (hn : l.most = some n) (hn2 : n ≤ sizeLine) (hdf : d.params.defaults = []) (hr : Room k callerA) (hY : ∀ (w : World) (h : Heap), YP w h → (K w.params).In h)
    (F : ∀ (w : World) (mg : Str → Option Value) (fa : Addr) (h : Heap), YP w h → (K w.params).In h → h.Ns mainGlobals mg → mg d.name = some (.ref fa) → ∃ tabs, LawG l w (K w.params) k n x mg fa h tabs) :
    PySem.W.WalkO q loose XP YP l.row.toRowW d [] (fun f vs => PySem.call f vs) := by
  refine Att.attach_call hn hdf fun w s₀ s₁ mg mb fa o pm cd doc a vs ns G Y ho hd hcd hmg hobj hints hlen hg => ?_
  have KX := hY w _ Y
  obtain ⟨tabs, L⟩ := F w mg fa _ Y KX G.T.g hmg
  obtain ⟨fd, sp, hb, hsp, hF⟩ := L.pr
  exact law_callG KX G.T.g G.T.b G.T.builtins G.T.nolimit hg (fun p hp => (L.at_ p hp).2) L.out (fun p hp => (L.at_ p hp).1) G.T.bmain hobj hints (Nat.le_trans hlen hn2) hr hF hb fun H h1 h2 => hsp H a ns hlen h1 h2
end Own
set_option linter.all false
set_option maxRecDepth 100000
set_option maxHeartbeats 4000000
/-! What the head says of defs that bear the cell of their class. -/
namespace Hz
open PySem PySem.W PySem.Calls PyProof.Rows He L2
theorem DefS.sup {P : Program} {mg : Str → Option Value} {K : Frag} {d : DefS} {ar : Arg} (e : fnS K (d.at_ K) = d.val) (c : d.ok P.main.file K = true) (first : (d.params.posonlyargs ++ d.params.args).head? = some ar) (no : mg "super" = none) (top : (P.main.scope.names.lookup ("super" : Str)).isSome = false)
    (any : nsIn K cStatics "thirdparty.any" = some none) : ∃ fd, Own.SupF P K mg (d.at_ K) (clo K (d.at_ K)) (d.D K) d.name d.qual d.params d.body d.scope fd ar ∧ keepIn K (.ref (d.at_ K)) = true ∧
      ∃ kV doc pm an cdv ct, fd = ksFn d.name d.qual d.params d.body d.scope .none kV doc pm an cdv ct (clo K (d.at_ K)) := by
  obtain ⟨kp, c2⟩ := ba c
  unfold fnS at e
  cases q : K.lookup (d.at_ K) with
  | none => rw [q] at c2; cases c2
  | some o =>
    obtain ⟨oc, od, dt, osl⟩ := o
    rw [q] at c2 e
    cases dt with
    | func fd =>
      obtain ⟨n1, n2, n3, n4, n5, n6, n7, n8, n9, n10, n11, n12, n13, n14, n15⟩ := fd
      have e2 : (some (n1, n2, n3, n4, n5, n6, [], n15) : FnW) = some (d.name, d.qual, d.params, .stmts d.body, d.scope, mainGlobals, [], builtinsNs) := e
      simp only [Option.some.injEq, Prod.mk.injEq] at e2
      obtain ⟨h1, h2, h3, h4, h5, h6, _, h8⟩ := e2
      subst h1 h2 h3 h4 h5 h6 h8
      have c3 : (codeIn K n13 d.qual && (fileIs K n13 P.main.file && (isN n8 && (oneC K n7 (d.D K) && (clsIn K (d.D K)).isSome)))) = true := c2
      obtain ⟨k1, k2⟩ := ba c3
      obtain ⟨kF, kG⟩ := ba k2
      obtain ⟨kN, kH⟩ := ba kG
      obtain ⟨k4, k5⟩ := ba kH
      clear k2 kG kH c3 c2
      have e8 := isN_ok kN
      subst e8
      obtain ⟨cc, e7, k6⟩ := oneC_ok k4
      subst e7
      obtain ⟨ca, ccl, cdd, vs, ccs, f, tf, e13, kc, kv, kf⟩ := fileIs_ok kF
      subst e13
      have ec : clo K (d.at_ K) = cc := by unfold clo; rw [q]
      rw [ec]
      exact ⟨_, ⟨⟨oc, od, _, n9, n10, n11, n14, n12, ca, osl, ccl, cdd, vs, ccs, f, tf, rfl, q, k1, kc, kv, kf⟩, cellIs_ok k6, k5, first, no, top, any⟩, kp, n9, n10, n11, n12, _, n14, rfl⟩
    | _ => cases c2
theorem SaysS.sup {P : Program} {mg : Str → Option Value} {es : List DefS} {K : Frag} (c : SaysS P.main.file es K) (i : Nat) {d : DefS} {ar : Arg} (first : (d.params.posonlyargs ++ d.params.args).head? = some ar) (no : mg "super" = none) (top : (P.main.scope.names.lookup ("super" : Str)).isSome = false)
    (any : nsIn K cStatics "thirdparty.any" = some none) (h : es[i]? = some d := by rfl) : ∃ fd, Own.SupF P K mg (d.at_ K) (clo K (d.at_ K)) (d.D K) d.name d.qual d.params d.body d.scope fd ar ∧ keepIn K (.ref (d.at_ K)) = true ∧
      ∃ kV doc pm an cdv ct, fd = ksFn d.name d.qual d.params d.body d.scope .none kV doc pm an cdv ct (clo K (d.at_ K)) := by
  have c1 : (es.all fun d => d.ok P.main.file K) = true := congrArg (fun z : AlD => z.1) c
  have c2 : es.map (fun d => fnS K (d.at_ K)) = es.map DefS.val := congrArg (fun z : AlD => z.2) c
  have e2 : (es.map fun d => fnS K (d.at_ K))[i]? = (es.map DefS.val)[i]? := by rw [c2]
  rw [List.getElem?_map, List.getElem?_map, h] at e2
  exact DefS.sup (Option.some.inj e2) (List.all_eq_true.mp c1 d (List.mem_of_getElem? h)) first no top any
end Hz
set_option maxRecDepth 100000
set_option maxHeartbeats 4000000
namespace Hz
open PySem PySem.W PySem.Calls PyProof.Rows He L2
/-! ### the end -/
theorem walk {l : OpenLaw} {n k : Nat} {q : Program} {loose : List Str} {XP : (Str → Option Value) → Heap → Prop} {YP : World → Heap → Prop} {d : DefRec} {x : Str}
    (hn : l.most = some n) (hn2 : n ≤ sizeLine) (hdf : d.params.defaults = []) (hr : Room k callerA)
    (F : ∀ (w : World) (mg : Str → Option Value) (fa : Addr) (h : Heap), YP w h → h.Ns mainGlobals mg → mg d.name = some (.ref fa) → ∃ K : Frag, K.In h ∧ ∃ tabs, Own.LawG l w K k n x mg fa h tabs) :
    WalkO q loose XP YP l.row.toRowW d [] (fun f vs => PySem.call f vs) := by
  refine Att.attach_call hn hdf fun w s₀ s₁ mg mb fa o pm cd doc a vs ns G Y ho hd hcd hmg hobj hints hlen hg => ?_
  obtain ⟨K, KX, tabs, L⟩ := F w mg fa _ Y G.T.g hmg
  obtain ⟨fd, sp, hb, hsp, hF⟩ := L.pr
  exact Own.law_callG KX G.T.g G.T.b G.T.builtins G.T.nolimit hg (fun p hp => (L.at_ p hp).2) L.out (fun p hp => (L.at_ p hp).1) G.T.bmain hobj hints (Nat.le_trans hlen hn2) hr hF hb fun H h1 h2 => hsp H a ns hlen h1 h2
end Hz
set_option maxRecDepth 100000
set_option maxHeartbeats 4000000
namespace Toy
open PySem L2
/-! ### the end -/
structure MovT (K : PySem.W.Frag) (mg : Str → Option Value) (C : Addr) : Prop extends ClT K mg C "Moving" where
  nN : NoAttr K C "number"
structure NotT (K : PySem.W.Frag) (mg : Str → Option Value) (C : Addr) : Prop extends ClT K mg C "Note" where
  nN : NoAttr K C "number"
theorem FnOk.toG {P : Program} {w : World} {K : PySem.W.Frag} {mg : Str → Option Value} {base : Heap} {CX : CXT} {k : Nat} {f : Addr} {fd : FuncData} {ps : List Str} {sp : Sp} (F : FnOk P w K mg base CX k f fd ps sp) : Own.FnG P w K mg base CX k f fd ps sp := ⟨F.len, fun A outer s H args us vs Q E _ hr => F.run A outer s H args us vs Q E hr⟩
theorem all_mk {l : PySem.W.OpenLaw} {w : World} {K : PySem.W.Frag} {h : Heap} {mg : Str → Option Value} {fa : Addr} (X : K.In h) (G : h.Ns mainGlobals mg) (hfa : mg "law" = some (.ref fa)) (c : Hz.Says zfs zds ztf h K) (c2 : Hz.SaysS zfile zes K) (hfile : l.prog.main.file = zfile) (htop : (l.prog.main.scope.names.lookup ("super" : Str)).isSome = false) :
    ∃ tabs, Own.LawG l w K 11 63 "_law_script" mg fa h tabs := by
  have aCR : PySem.W.nsIn K mainGlobals "Ratio" = some (some (.ref (zCR K))) := Hz.bO_ok (c.fact 0)
  have pgCR : PySem.W.plainGet K (zCR K) Str.empty = true := c.fact 1
  have hdCR : PySem.W.hasDictIn K (zCR K) = true := c.fact 2
  have poCR : PySem.W.plainOver K (zCR K) = true := c.fact 3
  have saCR : PySem.W.findIn K (.ref (zCR K)) "__setattr__" = some (some (.builtin "object.__setattr__")) := Hz.bO_ok (c.fact 4)
  have rdCR : PySem.W.readsIn K (zCR K) (.type "type") = true := c.fact 5
  have gaCR : PySem.W.specialIn K (.ref (zCR K)) "__getattribute__" = some (some (.builtin "type.__getattribute__")) := Hz.bO_ok (c.fact 6)
  have caCR : PySem.W.findIn K (.ref (zCR K)) "__class__" = some (some (.builtin "object.__class__")) := Hz.bO_ok (c.fact 7)
  have cmCR : PySem.W.mroIn K (zCR K) (.type "object") = some true := Hz.bB_ok (c.fact 8)
  have sICR : PySem.W.subIn K (.ref (zCR K)) (.type "int") = some false := Hz.bB_ok (c.fact 9)
  have nICR : PySem.W.notFirst K (zCR K) (.type "int") = true := c.fact 10
  have nCCR : PySem.W.notFirst K (zCR K) (.ref (zCR K)) = true := c.fact 11
  have kICR : PySem.W.kitOne K (.ref (zCR K)) (.type "int") = some false := Hz.bB_ok (c.fact 12)
  have kBCR : PySem.W.kitOne K (.ref (zCR K)) (.type "bool") = some false := Hz.bB_ok (c.fact 13)
  have iKCR : PySem.W.kitOne K (.type "int") (.ref (zCR K)) = some false := Hz.bB_ok (c.fact 14)
  have kSCR : PySem.W.kitOne K (.ref (zCR K)) (.ref (zCR K)) = some true := Hz.bB_ok (c.fact 15)
  have n_topCR : PySem.W.findIn K (.ref (zCR K)) "top" = some none := Hz.bO_ok (c.fact 16)
  have n_bottomCR : PySem.W.findIn K (.ref (zCR K)) "bottom" = some none := Hz.bO_ok (c.fact 17)
  have mkCR : PySem.W.makesIn K (zCR K) = true := c.fact 18
  have kcCR : PySem.W.keepIn K (.ref (zCR K)) = true := c.fact 19
  have aCT : PySem.W.nsIn K mainGlobals "Tone" = some (some (.ref (zCT K))) := Hz.bO_ok (c.fact 20)
  have pgCT : PySem.W.plainGet K (zCT K) Str.empty = true := c.fact 21
  have hdCT : PySem.W.hasDictIn K (zCT K) = true := c.fact 22
  have poCT : PySem.W.plainOver K (zCT K) = true := c.fact 23
  have saCT : PySem.W.findIn K (.ref (zCT K)) "__setattr__" = some (some (.builtin "object.__setattr__")) := Hz.bO_ok (c.fact 24)
  have rdCT : PySem.W.readsIn K (zCT K) (.type "type") = true := c.fact 25
  have gaCT : PySem.W.specialIn K (.ref (zCT K)) "__getattribute__" = some (some (.builtin "type.__getattribute__")) := Hz.bO_ok (c.fact 26)
  have caCT : PySem.W.findIn K (.ref (zCT K)) "__class__" = some (some (.builtin "object.__class__")) := Hz.bO_ok (c.fact 27)
  have cmCT : PySem.W.mroIn K (zCT K) (.type "object") = some true := Hz.bB_ok (c.fact 28)
  have sICT : PySem.W.subIn K (.ref (zCT K)) (.type "int") = some false := Hz.bB_ok (c.fact 29)
  have nICT : PySem.W.notFirst K (zCT K) (.type "int") = true := c.fact 30
  have nCCT : PySem.W.notFirst K (zCT K) (.ref (zCT K)) = true := c.fact 31
  have kICT : PySem.W.kitOne K (.ref (zCT K)) (.type "int") = some false := Hz.bB_ok (c.fact 32)
  have kBCT : PySem.W.kitOne K (.ref (zCT K)) (.type "bool") = some false := Hz.bB_ok (c.fact 33)
  have iKCT : PySem.W.kitOne K (.type "int") (.ref (zCT K)) = some false := Hz.bB_ok (c.fact 34)
  have kSCT : PySem.W.kitOne K (.ref (zCT K)) (.ref (zCT K)) = some true := Hz.bB_ok (c.fact 35)
  have n_octavesCT : PySem.W.findIn K (.ref (zCT K)) "octaves" = some none := Hz.bO_ok (c.fact 36)
  have n_fifthsCT : PySem.W.findIn K (.ref (zCT K)) "fifths" = some none := Hz.bO_ok (c.fact 37)
  have mkCT : PySem.W.makesIn K (zCT K) = true := c.fact 38
  have kcCT : PySem.W.keepIn K (.ref (zCT K)) = true := c.fact 39
  have aCH : PySem.W.nsIn K mainGlobals "Height" = some (some (.ref (zCH K))) := Hz.bO_ok (c.fact 40)
  have pgCH : PySem.W.plainGet K (zCH K) Str.empty = true := c.fact 41
  have hdCH : PySem.W.hasDictIn K (zCH K) = true := c.fact 42
  have poCH : PySem.W.plainOver K (zCH K) = true := c.fact 43
  have saCH : PySem.W.findIn K (.ref (zCH K)) "__setattr__" = some (some (.builtin "object.__setattr__")) := Hz.bO_ok (c.fact 44)
  have rdCH : PySem.W.readsIn K (zCH K) (.type "type") = true := c.fact 45
  have gaCH : PySem.W.specialIn K (.ref (zCH K)) "__getattribute__" = some (some (.builtin "type.__getattribute__")) := Hz.bO_ok (c.fact 46)
  have caCH : PySem.W.findIn K (.ref (zCH K)) "__class__" = some (some (.builtin "object.__class__")) := Hz.bO_ok (c.fact 47)
  have cmCH : PySem.W.mroIn K (zCH K) (.type "object") = some true := Hz.bB_ok (c.fact 48)
  have sICH : PySem.W.subIn K (.ref (zCH K)) (.type "int") = some false := Hz.bB_ok (c.fact 49)
  have nICH : PySem.W.notFirst K (zCH K) (.type "int") = true := c.fact 50
  have nCCH : PySem.W.notFirst K (zCH K) (.ref (zCH K)) = true := c.fact 51
  have kICH : PySem.W.kitOne K (.ref (zCH K)) (.type "int") = some false := Hz.bB_ok (c.fact 52)
  have kBCH : PySem.W.kitOne K (.ref (zCH K)) (.type "bool") = some false := Hz.bB_ok (c.fact 53)
  have iKCH : PySem.W.kitOne K (.type "int") (.ref (zCH K)) = some false := Hz.bB_ok (c.fact 54)
  have kSCH : PySem.W.kitOne K (.ref (zCH K)) (.ref (zCH K)) = some true := Hz.bB_ok (c.fact 55)
  have n_toneCH : PySem.W.findIn K (.ref (zCH K)) "tone" = some none := Hz.bO_ok (c.fact 56)
  have n_termCH : PySem.W.findIn K (.ref (zCH K)) "term" = some none := Hz.bO_ok (c.fact 57)
  have mkCH : PySem.W.makesIn K (zCH K) = true := c.fact 58
  have kcCH : PySem.W.keepIn K (.ref (zCH K)) = true := c.fact 59
  have aCM : PySem.W.nsIn K mainGlobals "Moving" = some (some (.ref (zCM K))) := Hz.bO_ok (c.fact 60)
  have pgCM : PySem.W.plainGet K (zCM K) Str.empty = true := c.fact 61
  have hdCM : PySem.W.hasDictIn K (zCM K) = true := c.fact 62
  have poCM : PySem.W.plainOver K (zCM K) = true := c.fact 63
  have saCM : PySem.W.findIn K (.ref (zCM K)) "__setattr__" = some (some (.builtin "object.__setattr__")) := Hz.bO_ok (c.fact 64)
  have rdCM : PySem.W.readsIn K (zCM K) (.type "type") = true := c.fact 65
  have gaCM : PySem.W.specialIn K (.ref (zCM K)) "__getattribute__" = some (some (.builtin "type.__getattribute__")) := Hz.bO_ok (c.fact 66)
  have caCM : PySem.W.findIn K (.ref (zCM K)) "__class__" = some (some (.builtin "object.__class__")) := Hz.bO_ok (c.fact 67)
  have cmCM : PySem.W.mroIn K (zCM K) (.type "object") = some true := Hz.bB_ok (c.fact 68)
  have sICM : PySem.W.subIn K (.ref (zCM K)) (.type "int") = some false := Hz.bB_ok (c.fact 69)
  have nICM : PySem.W.notFirst K (zCM K) (.type "int") = true := c.fact 70
  have nCCM : PySem.W.notFirst K (zCM K) (.ref (zCM K)) = true := c.fact 71
  have kICM : PySem.W.kitOne K (.ref (zCM K)) (.type "int") = some false := Hz.bB_ok (c.fact 72)
  have kBCM : PySem.W.kitOne K (.ref (zCM K)) (.type "bool") = some false := Hz.bB_ok (c.fact 73)
  have iKCM : PySem.W.kitOne K (.type "int") (.ref (zCM K)) = some false := Hz.bB_ok (c.fact 74)
  have kSCM : PySem.W.kitOne K (.ref (zCM K)) (.ref (zCM K)) = some true := Hz.bB_ok (c.fact 75)
  have n_numberCM : PySem.W.findIn K (.ref (zCM K)) "number" = some none := Hz.bO_ok (c.fact 76)
  have mkCM : PySem.W.makesIn K (zCM K) = true := c.fact 77
  have kcCM : PySem.W.keepIn K (.ref (zCM K)) = true := c.fact 78
  have aCN : PySem.W.nsIn K mainGlobals "Note" = some (some (.ref (zCN K))) := Hz.bO_ok (c.fact 79)
  have pgCN : PySem.W.plainGet K (zCN K) Str.empty = true := c.fact 80
  have hdCN : PySem.W.hasDictIn K (zCN K) = true := c.fact 81
  have poCN : PySem.W.plainOver K (zCN K) = true := c.fact 82
  have saCN : PySem.W.findIn K (.ref (zCN K)) "__setattr__" = some (some (.builtin "object.__setattr__")) := Hz.bO_ok (c.fact 83)
  have rdCN : PySem.W.readsIn K (zCN K) (.type "type") = true := c.fact 84
  have gaCN : PySem.W.specialIn K (.ref (zCN K)) "__getattribute__" = some (some (.builtin "type.__getattribute__")) := Hz.bO_ok (c.fact 85)
  have caCN : PySem.W.findIn K (.ref (zCN K)) "__class__" = some (some (.builtin "object.__class__")) := Hz.bO_ok (c.fact 86)
  have cmCN : PySem.W.mroIn K (zCN K) (.type "object") = some true := Hz.bB_ok (c.fact 87)
  have sICN : PySem.W.subIn K (.ref (zCN K)) (.type "int") = some false := Hz.bB_ok (c.fact 88)
  have nICN : PySem.W.notFirst K (zCN K) (.type "int") = true := c.fact 89
  have nCCN : PySem.W.notFirst K (zCN K) (.ref (zCN K)) = true := c.fact 90
  have kICN : PySem.W.kitOne K (.ref (zCN K)) (.type "int") = some false := Hz.bB_ok (c.fact 91)
  have kBCN : PySem.W.kitOne K (.ref (zCN K)) (.type "bool") = some false := Hz.bB_ok (c.fact 92)
  have iKCN : PySem.W.kitOne K (.type "int") (.ref (zCN K)) = some false := Hz.bB_ok (c.fact 93)
  have kSCN : PySem.W.kitOne K (.ref (zCN K)) (.ref (zCN K)) = some true := Hz.bB_ok (c.fact 94)
  have n_numberCN : PySem.W.findIn K (.ref (zCN K)) "number" = some none := Hz.bO_ok (c.fact 95)
  have mkCN : PySem.W.makesIn K (zCN K) = true := c.fact 96
  have kcCN : PySem.W.keepIn K (.ref (zCN K)) = true := c.fact 97
  have cn : PySem.W.specialIn K (.builtin "object.__class__") "__get__" = some (some (.builtin "getset_descriptor.__get__")) := Hz.bO_ok (c.fact 98)
  have ct : PySem.W.takesIn K (.builtin "object.__class__") = some true := Hz.bB_ok (c.fact 99)
  have z_int : PySem.W.nsIn K mainGlobals "int" = some none := Hz.bO_ok (c.fact 100)
  have z_len : PySem.W.nsIn K mainGlobals "len" = some none := Hz.bO_ok (c.fact 101)
  have z_abs : PySem.W.nsIn K mainGlobals "abs" = some none := Hz.bO_ok (c.fact 102)
  have z_list : PySem.W.nsIn K mainGlobals "list" = some none := Hz.bO_ok (c.fact 103)
  have z_range : PySem.W.nsIn K mainGlobals "range" = some none := Hz.bO_ok (c.fact 104)
  have z_isinstance : PySem.W.nsIn K mainGlobals "isinstance" = some none := Hz.bO_ok (c.fact 105)
  have z_bool : PySem.W.nsIn K mainGlobals "bool" = some none := Hz.bO_ok (c.fact 106)
  have z_super : PySem.W.nsIn K mainGlobals "super" = some none := Hz.bO_ok (c.fact 107)
  have z_gcd : PySem.W.nsIn K mainGlobals "gcd" = some (some (.builtin "math.gcd")) := Hz.bO_ok (c.fact 108)
  have aCTm : PySem.W.nsIn K mainGlobals "Term" = some (some (.ref (zCTm K))) := Hz.bO_ok (c.fact 109)
  have neR : PySem.W.findIn K (.ref (zCR K)) "__ne__" = some (some (.builtin "object.__ne__")) := Hz.bO_ok (c.fact 110)
  have sO : PySem.W.subIn K (.ref (zCR K)) (.type "object") = some true := Hz.bB_ok (c.fact 111)
  have sIR : PySem.W.subIn K (.type "int") (.ref (zCR K)) = some false := Hz.bB_ok (c.fact 112)
  have sf : PySem.W.selfFirst K (zCR K) = true := c.fact 113
  obtain ⟨o1Add, i1Add⟩ := Hz.bS_ok (c.fact 114)
  obtain ⟨o2Add, i2Add⟩ := Hz.bS_ok (c.fact 115)
  have rAdd : PySem.W.findIn K (.ref (zCR K)) "__radd__" = some (some (.ref (zgAdd K))) := Hz.bO_ok (c.fact 116)
  obtain ⟨o1Sub, i1Sub⟩ := Hz.bS_ok (c.fact 117)
  obtain ⟨o2Sub, i2Sub⟩ := Hz.bS_ok (c.fact 118)
  have rSub : PySem.W.findIn K (.ref (zCR K)) "__rsub__" = some (some (.ref (zgSub K))) := Hz.bO_ok (c.fact 119)
  obtain ⟨o1Mult, i1Mult⟩ := Hz.bS_ok (c.fact 120)
  obtain ⟨o2Mult, i2Mult⟩ := Hz.bS_ok (c.fact 121)
  have rMult : PySem.W.findIn K (.ref (zCR K)) "__rmul__" = some (some (.ref (zgMult K))) := Hz.bO_ok (c.fact 122)
  have tnCM : PySem.W.findIn K (.ref (zCM K)) "note" = some (some (.ref (zgMn K))) := Hz.bO_ok (c.fact 123)
  have toCM : PySem.W.findIn K (.ref (zCM K)) "position" = some (some (.ref (zgMp K))) := Hz.bO_ok (c.fact 124)
  have tvCM : PySem.W.findIn K (.ref (zCM K)) "moved" = some (some (.ref (zgMv K))) := Hz.bO_ok (c.fact 125)
  have trCM : PySem.W.findIn K (.ref (zCM K)) "mirrored" = some (some (.ref (zgMi K))) := Hz.bO_ok (c.fact 126)
  have tqCM : PySem.W.findIn K (.ref (zCM K)) "__eq__" = some (some (.ref (zf26 K))) := Hz.bO_ok (c.fact 127)
  have fngMn : PySem.W.isFn K (.ref (zgMn K)) = true := c.fact 128
  have fngMp : PySem.W.isFn K (.ref (zgMp K)) = true := c.fact 129
  have fngMv : PySem.W.isFn K (.ref (zgMv K)) = true := c.fact 130
  have fngMi : PySem.W.isFn K (.ref (zgMi K)) = true := c.fact 131
  have teCM : PySem.W.findIn K (.ref (zCM K)) "__ne__" = some (some (.builtin "object.__ne__")) := Hz.bO_ok (c.fact 132)
  have tsCM : PySem.W.subIn K (.ref (zCM K)) (.type "object") = some true := Hz.bB_ok (c.fact 133)
  have hsbCM : PySem.W.mroIn K (zCM K) (.ref (zCM K)) = some true := Hz.bB_ok (c.fact 134)
  have tnCN : PySem.W.findIn K (.ref (zCN K)) "note" = some (some (.ref (zgNn K))) := Hz.bO_ok (c.fact 135)
  have toCN : PySem.W.findIn K (.ref (zCN K)) "position" = some (some (.ref (zgNp K))) := Hz.bO_ok (c.fact 136)
  have tvCN : PySem.W.findIn K (.ref (zCN K)) "moved" = some (some (.ref (zgNv K))) := Hz.bO_ok (c.fact 137)
  have trCN : PySem.W.findIn K (.ref (zCN K)) "mirrored" = some (some (.ref (zgNi K))) := Hz.bO_ok (c.fact 138)
  have tqCN : PySem.W.findIn K (.ref (zCN K)) "__eq__" = some (some (.ref (zf26 K))) := Hz.bO_ok (c.fact 139)
  have fngNn : PySem.W.isFn K (.ref (zgNn K)) = true := c.fact 140
  have fngNp : PySem.W.isFn K (.ref (zgNp K)) = true := c.fact 141
  have fngNv : PySem.W.isFn K (.ref (zgNv K)) = true := c.fact 142
  have fngNi : PySem.W.isFn K (.ref (zgNi K)) = true := c.fact 143
  have teCN : PySem.W.findIn K (.ref (zCN K)) "__ne__" = some (some (.builtin "object.__ne__")) := Hz.bO_ok (c.fact 144)
  have tsCN : PySem.W.subIn K (.ref (zCN K)) (.type "object") = some true := Hz.bB_ok (c.fact 145)
  have hsbCN : PySem.W.mroIn K (zCN K) (.ref (zCN K)) = some true := Hz.bB_ok (c.fact 146)
  have hsu0 : PySem.W.ks_superIn K (zCN K) (zCN K) "note" = some (some (.ref (zf21 K))) := Hz.bO_ok (c.fact 147)
  have hsu1 : PySem.W.ks_superIn K (zCN K) (zCN K) "position" = some (some (.ref (zf22 K))) := Hz.bO_ok (c.fact 148)
  have hsu2 : PySem.W.ks_superIn K (zCN K) (zCN K) "moved" = some (some (.ref (zf24 K))) := Hz.bO_ok (c.fact 149)
  have hsu3 : PySem.W.ks_superIn K (zCN K) (zCN K) "mirrored" = some (some (.ref (zf25 K))) := Hz.bO_ok (c.fact 150)
  have hsu4 : PySem.W.ks_superIn K (zCM K) (zCM K) "note" = some (some (.ref (zf21 K))) := Hz.bO_ok (c.fact 151)
  have hsu5 : PySem.W.ks_superIn K (zCM K) (zCM K) "position" = some (some (.ref (zf22 K))) := Hz.bO_ok (c.fact 152)
  have hsu6 : PySem.W.ks_superIn K (zCM K) (zCM K) "moved" = some (some (.ref (zf24 K))) := Hz.bO_ok (c.fact 153)
  have hsu7 : PySem.W.ks_superIn K (zCM K) (zCM K) "mirrored" = some (some (.ref (zf25 K))) := Hz.bO_ok (c.fact 154)
  have htynote : PySem.W.typeIn K (.ref (zf21 K)) = some (.type "function") := Hz.bV_ok (c.fact 155)
  have hfnnote : PySem.W.fnIn K (zf21 K) = true := c.fact 156
  have htyposition : PySem.W.typeIn K (.ref (zf22 K)) = some (.type "function") := Hz.bV_ok (c.fact 157)
  have hfnposition : PySem.W.fnIn K (zf22 K) = true := c.fact 158
  have htymoved : PySem.W.typeIn K (.ref (zf24 K)) = some (.type "function") := Hz.bV_ok (c.fact 159)
  have hfnmoved : PySem.W.fnIn K (zf24 K) = true := c.fact 160
  have htymirrored : PySem.W.typeIn K (.ref (zf25 K)) = some (.type "function") := Hz.bV_ok (c.fact 161)
  have hfnmirrored : PySem.W.fnIn K (zf25 K) = true := c.fact 162
  have fnQ : PySem.W.isFn K (.ref (zf26 K)) = true := c.fact 163
  have zany : PySem.W.nsIn K cStatics "thirdparty.any" = some none := Hz.bO_ok (c.fact 164)
  have cfT : Hz.bCF K (zCTm K) "__init__" (zf16 K) = true := c.fact 165
  have rdTm : PySem.W.readsIn K (zCTm K) (.type "type") = true := c.fact 166
  have gaTm : PySem.W.specialIn K (.ref (zCTm K)) "__getattribute__" = some (some (.builtin "type.__getattribute__")) := Hz.bO_ok (c.fact 167)
  have cof : PySem.W.isFn K (.ref (zf15 K)) = true := c.fact 168
  have tk0 : PySem.W.kitOne K (.ref (zCN K)) (.ref (zCM K)) = some false := Hz.bB_ok (c.fact 169)
  have tk1 : PySem.W.kitOne K (.ref (zCM K)) (.ref (zCTm K)) = some true := Hz.bB_ok (c.fact 170)
  have tk2 : PySem.W.kitOne K (.ref (zCN K)) (.ref (zCTm K)) = some true := Hz.bB_ok (c.fact 171)
  have tf1 : PySem.W.notFirst K (zCM K) (.ref (zCN K)) = true := c.fact 172
  have tf0 : PySem.W.notFirst K (zCN K) (.ref (zCM K)) = true := c.fact 173
  have coa : PySem.W.findIn K (.ref (zCT K)) "__call__" = some (some (.ref (zf15 K))) := Hz.bO_ok (c.fact 174)
  have coi : PySem.W.fnIn K (zf15 K) = true := c.fact 175
  have hneT : PySem.W.findIn K (.ref (zCT K)) "__ne__" = some (some (.builtin "object.__ne__")) := Hz.bO_ok (c.fact 176)
  have hOT : PySem.W.subIn K (.ref (zCT K)) (.type "object") = some true := Hz.bB_ok (c.fact 177)
  have hneH : PySem.W.findIn K (.ref (zCH K)) "__ne__" = some (some (.builtin "object.__ne__")) := Hz.bO_ok (c.fact 178)
  have hOH : PySem.W.subIn K (.ref (zCH K)) (.type "object") = some true := Hz.bB_ok (c.fact 179)
  have hk1 : PySem.W.kitOne K (.type "NoneType") (.ref (zCH K)) = some false := Hz.bB_ok (c.fact 180)
  have hf1 : PySem.W.notFirst K (zCH K) (.type "NoneType") = true := c.fact 181
  have hk2 : PySem.W.kitOne K (.type "tuple") (.ref (zCH K)) = some false := Hz.bB_ok (c.fact 182)
  have hf2 : PySem.W.notFirst K (zCH K) (.type "tuple") = true := c.fact 183
  have hk3 : PySem.W.kitOne K (.ref (zCT K)) (.ref (zCH K)) = some false := Hz.bB_ok (c.fact 184)
  have hf3 : PySem.W.notFirst K (zCH K) (.ref (zCT K)) = true := c.fact 185
  have hk4 : PySem.W.kitOne K (.ref (zCM K)) (.ref (zCH K)) = some false := Hz.bB_ok (c.fact 186)
  have hf4 : PySem.W.notFirst K (zCH K) (.ref (zCM K)) = true := c.fact 187
  have hk5 : PySem.W.kitOne K (.ref (zCN K)) (.ref (zCH K)) = some false := Hz.bB_ok (c.fact 188)
  have hf5 : PySem.W.notFirst K (zCH K) (.ref (zCN K)) = true := c.fact 189
  have a0 : PySem.W.nsIn K mainGlobals "is_int" = some (some (.ref (zf0 K))) := Hz.bO_ok (c.fact 190)
  obtain ⟨a1, rest1, r1⟩ := He5.wrapB_ok (c.fact 191)
  have a2 : PySem.W.nsIn K mainGlobals "parts_of" = some (some (.ref (zf2 K))) := Hz.bO_ok (c.fact 192)
  have a3 : PySem.W.nsIn K mainGlobals "is_from_to" = some (some (.ref (zf3 K))) := Hz.bO_ok (c.fact 193)
  have a4 : PySem.W.findIn K (.ref (zCR K)) "__init__" = some (some (.ref (zf4 K))) := Hz.bO_ok (c.fact 194)
  have i4 : PySem.W.isFn K (.ref (zf4 K)) = true := c.fact 195
  have a5 : PySem.W.findIn K (.ref (zCR K)) "__eq__" = some (some (.ref (zf5 K))) := Hz.bO_ok (c.fact 196)
  have i5 : PySem.W.isFn K (.ref (zf5 K)) = true := c.fact 197
  obtain ⟨a6, rest6, r6⟩ := He5.wrapB_ok (c.fact 198)
  have a7 : PySem.W.findIn K (.ref (zCR K)) "__add__" = some (some (.ref (zf7 K))) := Hz.bO_ok (c.fact 199)
  have i7 : PySem.W.isFn K (.ref (zf7 K)) = true := c.fact 200
  have a8 : PySem.W.findIn K (.ref (zCR K)) "__sub__" = some (some (.ref (zf8 K))) := Hz.bO_ok (c.fact 201)
  have i8 : PySem.W.isFn K (.ref (zf8 K)) = true := c.fact 202
  have a9 : PySem.W.findIn K (.ref (zCR K)) "__mul__" = some (some (.ref (zf9 K))) := Hz.bO_ok (c.fact 203)
  have i9 : PySem.W.isFn K (.ref (zf9 K)) = true := c.fact 204
  have a10 : PySem.W.findIn K (.ref (zCR K)) "__rmul__" = some (some (.ref (zf10 K))) := Hz.bO_ok (c.fact 205)
  have i10 : PySem.W.isFn K (.ref (zf10 K)) = true := c.fact 206
  have a11 : PySem.W.findIn K (.ref (zCR K)) "__neg__" = some (some (.ref (zf11 K))) := Hz.bO_ok (c.fact 207)
  have i11 : PySem.W.isFn K (.ref (zf11 K)) = true := c.fact 208
  have a12 : PySem.W.findIn K (.ref (zCR K)) "__rsub__" = some (some (.ref (zf12 K))) := Hz.bO_ok (c.fact 209)
  have i12 : PySem.W.isFn K (.ref (zf12 K)) = true := c.fact 210
  have a13 : PySem.W.findIn K (.ref (zCT K)) "__init__" = some (some (.ref (zf13 K))) := Hz.bO_ok (c.fact 211)
  have i13 : PySem.W.isFn K (.ref (zf13 K)) = true := c.fact 212
  have a14 : PySem.W.findIn K (.ref (zCT K)) "__eq__" = some (some (.ref (zf14 K))) := Hz.bO_ok (c.fact 213)
  have i14 : PySem.W.isFn K (.ref (zf14 K)) = true := c.fact 214
  have a17 : PySem.W.findIn K (.ref (zCN K)) "__init__" = some (some (.ref (zf17 K))) := Hz.bO_ok (c.fact 215)
  have i17 : PySem.W.isFn K (.ref (zf17 K)) = true := c.fact 216
  have a18 : PySem.W.findIn K (.ref (zCM K)) "__init__" = some (some (.ref (zf18 K))) := Hz.bO_ok (c.fact 217)
  have i18 : PySem.W.isFn K (.ref (zf18 K)) = true := c.fact 218
  have a19 : PySem.W.findIn K (.ref (zCN K)) "is_moving" = some (some (.ref (zp19 K))) := Hz.bO_ok (c.fact 219)
  have g19 : PySem.W.specialIn K (.ref (zp19 K)) "__get__" = some (some (.builtin "property.__get__")) := Hz.bO_ok (c.fact 220)
  have t19 : PySem.W.takesIn K (.ref (zp19 K)) = some true := Hz.bB_ok (c.fact 221)
  obtain ⟨rest19, r19⟩ := Hz.bR_ok (c.fact 222)
  have a20 : PySem.W.findIn K (.ref (zCM K)) "is_moving" = some (some (.ref (zp20 K))) := Hz.bO_ok (c.fact 223)
  have g20 : PySem.W.specialIn K (.ref (zp20 K)) "__get__" = some (some (.builtin "property.__get__")) := Hz.bO_ok (c.fact 224)
  have t20 : PySem.W.takesIn K (.ref (zp20 K)) = some true := Hz.bB_ok (c.fact 225)
  obtain ⟨rest20, r20⟩ := Hz.bR_ok (c.fact 226)
  have a23 : PySem.W.nsIn K mainGlobals "_alike" = some (some (.ref (zf23 K))) := Hz.bO_ok (c.fact 227)
  have a27 : PySem.W.nsIn K mainGlobals "is_near" = some (some (.ref (zf27 K))) := Hz.bO_ok (c.fact 228)
  have a28 : PySem.W.findIn K (.ref (zCH K)) "__init__" = some (some (.ref (zf28 K))) := Hz.bO_ok (c.fact 229)
  have i28 : PySem.W.isFn K (.ref (zf28 K)) = true := c.fact 230
  have a29 : PySem.W.findIn K (.ref (zCH K)) "pitch" = some (some (.ref (zf29 K))) := Hz.bO_ok (c.fact 231)
  have i29 : PySem.W.isFn K (.ref (zf29 K)) = true := c.fact 232
  have a30 : PySem.W.findIn K (.ref (zCH K)) "moved" = some (some (.ref (zf30 K))) := Hz.bO_ok (c.fact 233)
  have i30 : PySem.W.isFn K (.ref (zf30 K)) = true := c.fact 234
  have a31 : PySem.W.findIn K (.ref (zCH K)) "mirrored" = some (some (.ref (zf31 K))) := Hz.bO_ok (c.fact 235)
  have i31 : PySem.W.isFn K (.ref (zf31 K)) = true := c.fact 236
  have a32 : PySem.W.findIn K (.ref (zCH K)) "__eq__" = some (some (.ref (zf32 K))) := Hz.bO_ok (c.fact 237)
  have i32 : PySem.W.isFn K (.ref (zf32 K)) = true := c.fact 238
  have a33 : PySem.W.nsIn K mainGlobals "_law_pen" = some (some (.ref (zf33 K))) := Hz.bO_ok (c.fact 239)
  have a34 : PySem.W.nsIn K mainGlobals "_law_draw" = some (some (.ref (zf34 K))) := Hz.bO_ok (c.fact 240)
  have a35 : PySem.W.nsIn K mainGlobals "_law_pick" = some (some (.ref (zf35 K))) := Hz.bO_ok (c.fact 241)
  have a36 : PySem.W.nsIn K mainGlobals "_law_fraction" = some (some (.ref (zf36 K))) := Hz.bO_ok (c.fact 242)
  have a37 : PySem.W.nsIn K mainGlobals "_law_number" = some (some (.ref (zf37 K))) := Hz.bO_ok (c.fact 243)
  have a38 : PySem.W.nsIn K mainGlobals "_law_term" = some (some (.ref (zf38 K))) := Hz.bO_ok (c.fact 244)
  have a39 : PySem.W.nsIn K mainGlobals "_law_tone" = some (some (.ref (zf39 K))) := Hz.bO_ok (c.fact 245)
  have a40 : PySem.W.nsIn K mainGlobals "_law_real_term" = some (some (.ref (zf40 K))) := Hz.bO_ok (c.fact 246)
  have a41 : PySem.W.nsIn K mainGlobals "_law_real_height" = some (some (.ref (zf41 K))) := Hz.bO_ok (c.fact 247)
  have a42 : PySem.W.nsIn K mainGlobals "_law_key" = some (some (.ref (zf42 K))) := Hz.bO_ok (c.fact 248)
  have a43 : PySem.W.nsIn K mainGlobals "_law_pitch_right" = some (some (.ref (zf43 K))) := Hz.bO_ok (c.fact 249)
  have a44 : PySem.W.nsIn K mainGlobals "_law_kept_right" = some (some (.ref (zf44 K))) := Hz.bO_ok (c.fact 250)
  have a45 : PySem.W.nsIn K mainGlobals "law" = some (some (.ref (zf45 K))) := Hz.bO_ok (c.fact 251)
  have c2s : Hz.SaysS l.prog.main.file zes K := by rw [hfile]; exact c2
  obtain ⟨fds0, Fs0, ks0, hfs0⟩ := Hz.SaysS.sup (P := l.prog) (mg := mg) c2s 0 rfl (PySem.W.mg_none_of X G z_super) htop zany
  obtain ⟨fds1, Fs1, ks1, hfs1⟩ := Hz.SaysS.sup (P := l.prog) (mg := mg) c2s 1 rfl (PySem.W.mg_none_of X G z_super) htop zany
  obtain ⟨fds2, Fs2, ks2, hfs2⟩ := Hz.SaysS.sup (P := l.prog) (mg := mg) c2s 2 rfl (PySem.W.mg_none_of X G z_super) htop zany
  obtain ⟨fds3, Fs3, ks3, hfs3⟩ := Hz.SaysS.sup (P := l.prog) (mg := mg) c2s 3 rfl (PySem.W.mg_none_of X G z_super) htop zany
  obtain ⟨fds4, Fs4, ks4, hfs4⟩ := Hz.SaysS.sup (P := l.prog) (mg := mg) c2s 4 rfl (PySem.W.mg_none_of X G z_super) htop zany
  obtain ⟨fds5, Fs5, ks5, hfs5⟩ := Hz.SaysS.sup (P := l.prog) (mg := mg) c2s 5 rfl (PySem.W.mg_none_of X G z_super) htop zany
  obtain ⟨fds6, Fs6, ks6, hfs6⟩ := Hz.SaysS.sup (P := l.prog) (mg := mg) c2s 6 rfl (PySem.W.mg_none_of X G z_super) htop zany
  obtain ⟨fds7, Fs7, ks7, hfs7⟩ := Hz.SaysS.sup (P := l.prog) (mg := mg) c2s 7 rfl (PySem.W.mg_none_of X G z_super) htop zany
  have e := hfa.symm.trans (PySem.W.mg_of X G a45)
  cases e
  have T : Bl mg := ⟨PySem.W.mg_none_of X G z_int, PySem.W.mg_none_of X G z_len, PySem.W.mg_none_of X G z_abs, PySem.W.mg_none_of X G z_list, PySem.W.mg_none_of X G z_range, PySem.W.mg_none_of X G z_isinstance, PySem.W.mg_none_of X G z_bool, PySem.W.mg_of X G z_gcd⟩
  have T_Ratio : RatT K mg (zCR K) := ⟨⟨⟨pgCR, hdCR, poCR, saCR⟩, PySem.W.mg_of X G aCR, ⟨rdCR, gaCR⟩, caCR, cn, ct, cmCR, kICR, kBCR, kSCR, iKCR, sICR, nICR, nCCR⟩, n_topCR, n_bottomCR⟩
  have T_Tone : TonT K mg (zCT K) := ⟨⟨⟨pgCT, hdCT, poCT, saCT⟩, PySem.W.mg_of X G aCT, ⟨rdCT, gaCT⟩, caCT, cn, ct, cmCT, kICT, kBCT, kSCT, iKCT, sICT, nICT, nCCT⟩, n_octavesCT, n_fifthsCT⟩
  have T_Height : HeiT K mg (zCH K) := ⟨⟨⟨pgCH, hdCH, poCH, saCH⟩, PySem.W.mg_of X G aCH, ⟨rdCH, gaCH⟩, caCH, cn, ct, cmCH, kICH, kBCH, kSCH, iKCH, sICH, nICH, nCCH⟩, n_toneCH, n_termCH⟩
  have T_Moving : MovT K mg (zCM K) := ⟨⟨⟨pgCM, hdCM, poCM, saCM⟩, PySem.W.mg_of X G aCM, ⟨rdCM, gaCM⟩, caCM, cn, ct, cmCM, kICM, kBCM, kSCM, iKCM, sICM, nICM, nCCM⟩, n_numberCM⟩
  have T_Note : NotT K mg (zCN K) := ⟨⟨⟨pgCN, hdCN, poCN, saCN⟩, PySem.W.mg_of X G aCN, ⟨rdCN, gaCN⟩, caCN, cn, ct, cmCN, kICN, kBCN, kSCN, iKCN, sICN, nICN, nCCN⟩, n_numberCN⟩
  have BA : BinF K (zCR K) .Add := ⟨sf, ⟨_, rAdd, .inr ⟨_, rfl⟩⟩, ⟨_, i1Add⟩, ⟨_, i2Add⟩, sIR⟩
  have BS : BinF K (zCR K) .Sub := ⟨sf, ⟨_, rSub, .inr ⟨_, rfl⟩⟩, ⟨_, i1Sub⟩, ⟨_, i2Sub⟩, sIR⟩
  have BM : BinF K (zCR K) .Mult := ⟨sf, ⟨_, rMult, .inr ⟨_, rfl⟩⟩, ⟨_, i1Mult⟩, ⟨_, i2Mult⟩, sIR⟩
  obtain ⟨fdz0, Fz0⟩ := c.def_ 0 (d := zd0) rfl
  have k0 := Fz0.kp
  have F0 : Fun K "is_int" "is_int" sIsInt (zf0 K) fdz0 := He5.fun_of Fz0
  have b0 := F0.binds (ps := ["value"]) fun _ _ _ _ _ _ us hl => match us, hl with | [_], _ => rfl
  obtain ⟨fdz1, Fz1⟩ := c.def_ 1 (d := zd1) rfl
  have k1 := Fz1.kp
  have F1 : Fun K "is_number" "Ratio.is_number" sIsNum (zf1 K) fdz1 := He5.fun_of Fz1
  have b1 := F1.binds (ps := ["value"]) fun _ _ _ _ _ _ us hl => match us, hl with | [_], _ => rfl
  obtain ⟨fdz2, Fz2⟩ := c.def_ 2 (d := zd2) rfl
  have k2 := Fz2.kp
  have F2 : Fun K "parts_of" "parts_of" sParts (zf2 K) fdz2 := He5.fun_of Fz2
  have b2 := F2.binds (ps := ["number"]) fun _ _ _ _ _ _ us hl => match us, hl with | [_], _ => rfl
  obtain ⟨fdz3, Fz3⟩ := c.def_ 3 (d := zd3) rfl
  have k3 := Fz3.kp
  have F3 : Fun K "is_from_to" "is_from_to" sFromTo (zf3 K) fdz3 := He5.fun_of Fz3
  have b3 := F3.binds (ps := ["value", "low", "high"]) fun _ _ _ _ _ _ us hl => match us, hl with | [_, _, _], _ => rfl
  obtain ⟨fdz4, Fz4⟩ := c.def_ 4 (d := zd4) rfl
  have k4 := Fz4.kp
  have F4 : FunD K "__init__" "Ratio.__init__" (defArgs sRInit) (defBody sRInit) (defScope sRInit) [.int 1] [] (zf4 K) fdz4 := Fz4
  obtain ⟨ds4, hds4, b4⟩ := F4.binds1 (ps := ["self", "top", "bottom"]) 3 1 (fun z => nomatch z) rfl fun _ _ _ _ _ _ _ us its hu hi => match us, hu, its, hi with | [_, _, _], _, [_], _ => ⟨_, rfl, rfl⟩
  cases hds4
  obtain ⟨dv4, hdv4, bd4⟩ := F4.binds1 (ps := ["self", "top", "bottom"]) 2 0 (fun z => nomatch z) rfl fun _ _ _ _ _ _ _ us its hu hi => match us, hu, its, hi with | [_, _], _, [_], _ => ⟨_, rfl, rfl⟩
  obtain ⟨fdz5, Fz5⟩ := c.def_ 5 (d := zd5) rfl
  have k5 := Fz5.kp
  have F5 : Fun K "__eq__" "Ratio.__eq__" sEq (zf5 K) fdz5 := He5.fun_of Fz5
  have b5 := F5.binds (ps := ["self", "other"]) fun _ _ _ _ _ _ us hl => match us, hl with | [_, _], _ => rfl
  obtain ⟨fdz6, Fz6⟩ := c.def_ 6 (d := zd6) rfl
  have k6 := Fz6.kp
  have F6 : Fun K "is_fifth" "Ratio.is_fifth" sIsFifth (zf6 K) fdz6 := He5.fun_of Fz6
  have b6 := F6.binds (ps := ["value"]) fun _ _ _ _ _ _ us hl => match us, hl with | [_], _ => rfl
  obtain ⟨fdz7, Fz7⟩ := c.def_ 7 (d := zd7) rfl
  have k7 := Fz7.kp
  have F7 : Fun K "__add__" "Ratio.__add__" sAdd (zf7 K) fdz7 := He5.fun_of Fz7
  have b7 := F7.binds (ps := ["self", "other"]) fun _ _ _ _ _ _ us hl => match us, hl with | [_, _], _ => rfl
  obtain ⟨fdz8, Fz8⟩ := c.def_ 8 (d := zd8) rfl
  have k8 := Fz8.kp
  have F8 : Fun K "__sub__" "Ratio.__sub__" sSub (zf8 K) fdz8 := He5.fun_of Fz8
  have b8 := F8.binds (ps := ["self", "other"]) fun _ _ _ _ _ _ us hl => match us, hl with | [_, _], _ => rfl
  obtain ⟨fdz9, Fz9⟩ := c.def_ 9 (d := zd9) rfl
  have k9 := Fz9.kp
  have F9 : Fun K "__mul__" "Ratio.__mul__" sMul (zf9 K) fdz9 := He5.fun_of Fz9
  have b9 := F9.binds (ps := ["self", "other"]) fun _ _ _ _ _ _ us hl => match us, hl with | [_, _], _ => rfl
  obtain ⟨fdz10, Fz10⟩ := c.def_ 10 (d := zd10) rfl
  have k10 := Fz10.kp
  have F10 : Fun K "__rmul__" "Ratio.__rmul__" sRMul (zf10 K) fdz10 := He5.fun_of Fz10
  have b10 := F10.binds (ps := ["self", "other"]) fun _ _ _ _ _ _ us hl => match us, hl with | [_, _], _ => rfl
  obtain ⟨fdz11, Fz11⟩ := c.def_ 11 (d := zd11) rfl
  have k11 := Fz11.kp
  have F11 : Fun K "__neg__" "Ratio.__neg__" sNeg (zf11 K) fdz11 := He5.fun_of Fz11
  have b11 := F11.binds (ps := ["self"]) fun _ _ _ _ _ _ us hl => match us, hl with | [_], _ => rfl
  obtain ⟨fdz12, Fz12⟩ := c.def_ 12 (d := zd12) rfl
  have k12 := Fz12.kp
  have F12 : Fun K "__rsub__" "Ratio.__rsub__" sRSub (zf12 K) fdz12 := He5.fun_of Fz12
  have b12 := F12.binds (ps := ["self", "other"]) fun _ _ _ _ _ _ us hl => match us, hl with | [_, _], _ => rfl
  obtain ⟨fdz13, Fz13⟩ := c.def_ 13 (d := zd13) rfl
  have k13 := Fz13.kp
  have F13 : FunD K "__init__" "Tone.__init__" (defArgs sTonI) (defBody sTonI) (defScope sTonI) [.int 0] [] (zf13 K) fdz13 := Fz13
  obtain ⟨ds13, hds13, b13⟩ := F13.binds1 (ps := ["self", "octaves", "fifths"]) 3 1 (fun z => nomatch z) rfl fun _ _ _ _ _ _ _ us its hu hi => match us, hu, its, hi with | [_, _, _], _, [_], _ => ⟨_, rfl, rfl⟩
  cases hds13
  obtain ⟨dv13, hdv13, bd13⟩ := F13.binds1 (ps := ["self", "octaves", "fifths"]) 2 0 (fun z => nomatch z) rfl fun _ _ _ _ _ _ _ us its hu hi => match us, hu, its, hi with | [_, _], _, [_], _ => ⟨_, rfl, rfl⟩
  obtain ⟨fdz14, Fz14⟩ := c.def_ 14 (d := zd14) rfl
  have k14 := Fz14.kp
  have F14 : Fun K "__eq__" "Tone.__eq__" sTonE (zf14 K) fdz14 := He5.fun_of Fz14
  have b14 := F14.binds (ps := ["self", "other"]) fun _ _ _ _ _ _ us hl => match us, hl with | [_, _], _ => rfl
  obtain ⟨fdz15, Fz15⟩ := c.def_ 15 (d := zd15) rfl
  have k15 := Fz15.kp
  have F15 : Fun K "__call__" "Tone.__call__" sTonC (zf15 K) fdz15 := He5.fun_of Fz15
  have b15 := F15.binds (ps := ["self", "fifth"]) fun _ _ _ _ _ _ us hl => match us, hl with | [_, _], _ => rfl
  obtain ⟨fdz16, Fz16⟩ := c.def_ 16 (d := zd16) rfl
  have k16 := Fz16.kp
  have F16 : Fun K "__init__" "Term.__init__" sTerI (zf16 K) fdz16 := He5.fun_of Fz16
  have b16 := F16.binds (ps := ["self", "number"]) fun _ _ _ _ _ _ us hl => match us, hl with | [_, _], _ => rfl
  obtain ⟨fdz17, Fz17⟩ := c.def_ 17 (d := zd17) rfl
  have k17 := Fz17.kp
  have F17 : Fun K "__init__" "Note.__init__" sNoI (zf17 K) fdz17 := He5.fun_of Fz17
  have b17 := F17.binds (ps := ["self", "number"]) fun _ _ _ _ _ _ us hl => match us, hl with | [_, _], _ => rfl
  obtain ⟨fdz18, Fz18⟩ := c.def_ 18 (d := zd18) rfl
  have k18 := Fz18.kp
  have F18 : Fun K "__init__" "Moving.__init__" sMoI (zf18 K) fdz18 := He5.fun_of Fz18
  have b18 := F18.binds (ps := ["self", "number"]) fun _ _ _ _ _ _ us hl => match us, hl with | [_, _], _ => rfl
  obtain ⟨fdz19, Fz19⟩ := c.def_ 19 (d := zd19) rfl
  have k19 := Fz19.kp
  have F19 : Fun K "is_moving" "Note.is_moving" sNoMv (zf19 K) fdz19 := He5.fun_of Fz19
  have b19 := F19.binds (ps := ["self"]) fun _ _ _ _ _ _ us hl => match us, hl with | [_], _ => rfl
  obtain ⟨fdz20, Fz20⟩ := c.def_ 20 (d := zd20) rfl
  have k20 := Fz20.kp
  have F20 : Fun K "is_moving" "Moving.is_moving" sMoMv (zf20 K) fdz20 := He5.fun_of Fz20
  have b20 := F20.binds (ps := ["self"]) fun _ _ _ _ _ _ us hl => match us, hl with | [_], _ => rfl
  obtain ⟨fdz21, Fz21⟩ := c.def_ 21 (d := zd21) rfl
  have k21 := Fz21.kp
  have F21 : Fun K "note" "Term.note" sNote (zf21 K) fdz21 := He5.fun_of Fz21
  have b21 := F21.binds (ps := ["self", "n"]) fun _ _ _ _ _ _ us hl => match us, hl with | [_, _], _ => rfl
  obtain ⟨fdz22, Fz22⟩ := c.def_ 22 (d := zd22) rfl
  have k22 := Fz22.kp
  have F22 : Fun K "position" "Term.position" sPos (zf22 K) fdz22 := He5.fun_of Fz22
  have b22 := F22.binds (ps := ["self", "n", "fifth"]) fun _ _ _ _ _ _ us hl => match us, hl with | [_, _, _], _ => rfl
  obtain ⟨fdz23, Fz23⟩ := c.def_ 23 (d := zd23) rfl
  have k23 := Fz23.kp
  have F23 : Fun K "_alike" "_alike" sAlike (zf23 K) fdz23 := He5.fun_of Fz23
  have b23 := F23.binds (ps := ["term", "number"]) fun _ _ _ _ _ _ us hl => match us, hl with | [_, _], _ => rfl
  obtain ⟨fdz24, Fz24⟩ := c.def_ 24 (d := zd24) rfl
  have k24 := Fz24.kp
  have F24 : Fun K "moved" "Term.moved" sTMoved (zf24 K) fdz24 := He5.fun_of Fz24
  have b24 := F24.binds (ps := ["self", "number"]) fun _ _ _ _ _ _ us hl => match us, hl with | [_, _], _ => rfl
  obtain ⟨fdz25, Fz25⟩ := c.def_ 25 (d := zd25) rfl
  have k25 := Fz25.kp
  have F25 : Fun K "mirrored" "Term.mirrored" sTMir (zf25 K) fdz25 := He5.fun_of Fz25
  have b25 := F25.binds (ps := ["self"]) fun _ _ _ _ _ _ us hl => match us, hl with | [_], _ => rfl
  obtain ⟨fdz26, Fz26⟩ := c.def_ 26 (d := zd26) rfl
  have k26 := Fz26.kp
  have F26 : Fun K "__eq__" "Term.__eq__" sTEq (zf26 K) fdz26 := He5.fun_of Fz26
  have b26 := F26.binds (ps := ["self", "other"]) fun _ _ _ _ _ _ us hl => match us, hl with | [_, _], _ => rfl
  obtain ⟨fdz27, Fz27⟩ := c.def_ 27 (d := zd27) rfl
  have k27 := Fz27.kp
  have F27 : Fun K "is_near" "is_near" sNear (zf27 K) fdz27 := He5.fun_of Fz27
  have b27 := F27.binds (ps := ["tone"]) fun _ _ _ _ _ _ us hl => match us, hl with | [_], _ => rfl
  obtain ⟨fdz28, Fz28⟩ := c.def_ 28 (d := zd28) rfl
  have k28 := Fz28.kp
  have F28 : Fun K "__init__" "Height.__init__" sHeiI (zf28 K) fdz28 := He5.fun_of Fz28
  have b28 := F28.binds (ps := ["self", "tone", "term"]) fun _ _ _ _ _ _ us hl => match us, hl with | [_, _, _], _ => rfl
  obtain ⟨fdz29, Fz29⟩ := c.def_ 29 (d := zd29) rfl
  have k29 := Fz29.kp
  have F29 : Fun K "pitch" "Height.pitch" sPitch (zf29 K) fdz29 := He5.fun_of Fz29
  have b29 := F29.binds (ps := ["self", "n", "fifth"]) fun _ _ _ _ _ _ us hl => match us, hl with | [_, _, _], _ => rfl
  obtain ⟨fdz30, Fz30⟩ := c.def_ 30 (d := zd30) rfl
  have k30 := Fz30.kp
  have F30 : Fun K "moved" "Height.moved" sHMoved (zf30 K) fdz30 := He5.fun_of Fz30
  have b30 := F30.binds (ps := ["self", "number"]) fun _ _ _ _ _ _ us hl => match us, hl with | [_, _], _ => rfl
  obtain ⟨fdz31, Fz31⟩ := c.def_ 31 (d := zd31) rfl
  have k31 := Fz31.kp
  have F31 : Fun K "mirrored" "Height.mirrored" sHMir (zf31 K) fdz31 := He5.fun_of Fz31
  have b31 := F31.binds (ps := ["self"]) fun _ _ _ _ _ _ us hl => match us, hl with | [_], _ => rfl
  obtain ⟨fdz32, Fz32⟩ := c.def_ 32 (d := zd32) rfl
  have k32 := Fz32.kp
  have F32 : Fun K "__eq__" "Height.__eq__" sHEq (zf32 K) fdz32 := He5.fun_of Fz32
  have b32 := F32.binds (ps := ["self", "other"]) fun _ _ _ _ _ _ us hl => match us, hl with | [_, _], _ => rfl
  obtain ⟨fdz33, Fz33⟩ := c.def_ 33 (d := zd33) rfl
  have k33 := Fz33.kp
  have F33 : Fun K "_law_pen" "_law_pen" sPen (zf33 K) fdz33 := He5.fun_of Fz33
  have b33 := F33.binds (ps := ["_law_script"]) fun _ _ _ _ _ _ us hl => match us, hl with | [_], _ => rfl
  obtain ⟨fdz34, Fz34⟩ := c.def_ 34 (d := zd34) rfl
  have k34 := Fz34.kp
  have F34 : Fun K "_law_draw" "_law_draw" sDraw (zf34 K) fdz34 := He5.fun_of Fz34
  have b34 := F34.binds (ps := ["_law_pen_here", "_law_many"]) fun _ _ _ _ _ _ us hl => match us, hl with | [_, _], _ => rfl
  obtain ⟨fdz35, Fz35⟩ := c.def_ 35 (d := zd35) rfl
  have k35 := Fz35.kp
  have F35 : Fun K "_law_pick" "_law_pick" sPick (zf35 K) fdz35 := He5.fun_of Fz35
  have b35 := F35.binds (ps := ["_law_pen_here", "_law_some"]) fun _ _ _ _ _ _ us hl => match us, hl with | [_, _], _ => rfl
  obtain ⟨fdz36, Fz36⟩ := c.def_ 36 (d := zd36) rfl
  have k36 := Fz36.kp
  have F36 : Fun K "_law_fraction" "_law_fraction" sLFrac (zf36 K) fdz36 := He5.fun_of Fz36
  have b36 := F36.binds (ps := ["_law_pen_here"]) fun _ _ _ _ _ _ us hl => match us, hl with | [_], _ => rfl
  obtain ⟨fdz37, Fz37⟩ := c.def_ 37 (d := zd37) rfl
  have k37 := Fz37.kp
  have F37 : Fun K "_law_number" "_law_number" sLNum (zf37 K) fdz37 := He5.fun_of Fz37
  have b37 := F37.binds (ps := ["_law_pen_here"]) fun _ _ _ _ _ _ us hl => match us, hl with | [_], _ => rfl
  obtain ⟨fdz38, Fz38⟩ := c.def_ 38 (d := zd38) rfl
  have k38 := Fz38.kp
  have F38 : Fun K "_law_term" "_law_term" sLTerm (zf38 K) fdz38 := He5.fun_of Fz38
  have b38 := F38.binds (ps := ["_law_pen_here", "_law_far"]) fun _ _ _ _ _ _ us hl => match us, hl with | [_, _], _ => rfl
  obtain ⟨fdz39, Fz39⟩ := c.def_ 39 (d := zd39) rfl
  have k39 := Fz39.kp
  have F39 : Fun K "_law_tone" "_law_tone" sLTone (zf39 K) fdz39 := He5.fun_of Fz39
  have b39 := F39.binds (ps := ["_law_pen_here", "_law_far"]) fun _ _ _ _ _ _ us hl => match us, hl with | [_, _], _ => rfl
  obtain ⟨fdz40, Fz40⟩ := c.def_ 40 (d := zd40) rfl
  have k40 := Fz40.kp
  have F40 : Fun K "_law_real_term" "_law_real_term" sRTerm (zf40 K) fdz40 := He5.fun_of Fz40
  have b40 := F40.binds (ps := ["_law_term_here"]) fun _ _ _ _ _ _ us hl => match us, hl with | [_], _ => rfl
  obtain ⟨fdz41, Fz41⟩ := c.def_ 41 (d := zd41) rfl
  have k41 := Fz41.kp
  have F41 : Fun K "_law_real_height" "_law_real_height" sRHei (zf41 K) fdz41 := He5.fun_of Fz41
  have b41 := F41.binds (ps := ["_law_tone_here", "_law_term_here"]) fun _ _ _ _ _ _ us hl => match us, hl with | [_, _], _ => rfl
  obtain ⟨fdz42, Fz42⟩ := c.def_ 42 (d := zd42) rfl
  have k42 := Fz42.kp
  have F42 : Fun K "_law_key" "_law_key" sKey (zf42 K) fdz42 := He5.fun_of Fz42
  have b42 := F42.binds (ps := ["_law_term_here", "_law_n", "_law_top", "_law_bottom"]) fun _ _ _ _ _ _ us hl => match us, hl with | [_, _, _, _], _ => rfl
  obtain ⟨fdz43, Fz43⟩ := c.def_ 43 (d := zd43) rfl
  have k43 := Fz43.kp
  have F43 : Fun K "_law_pitch_right" "_law_pitch_right" sLPitch (zf43 K) fdz43 := He5.fun_of Fz43
  have b43 := F43.binds (ps := ["_law_pen_here", "_law_made", "_law_tone_here", "_law_term_here"]) fun _ _ _ _ _ _ us hl => match us, hl with | [_, _, _, _], _ => rfl
  obtain ⟨fdz44, Fz44⟩ := c.def_ 44 (d := zd44) rfl
  have k44 := Fz44.kp
  have F44 : Fun K "_law_kept_right" "_law_kept_right" sLKept (zf44 K) fdz44 := He5.fun_of Fz44
  have b44 := F44.binds (ps := ["_law_pen_here", "_law_made", "_law_tone_here", "_law_term_here"]) fun _ _ _ _ _ _ us hl => match us, hl with | [_, _, _, _], _ => rfl
  obtain ⟨fdz45, Fz45⟩ := c.def_ 45 (d := zd45) rfl
  have k45 := Fz45.kp
  have F45 : Fun K "law" "law" sLaw (zf45 K) fdz45 := He5.fun_of Fz45
  have b45 := F45.binds (ps := ["_law_script"]) fun _ _ _ _ _ _ us hl => match us, hl with | [_], _ => rfl
  have bLaw := FunD.bindsA (ps := ["_law_script"]) Fz45 fun _ _ _ _ _ _ us hl => match us, hl with | [_], _ => rfl
  refine ⟨[], fun z hz => ?_, fun z hz => ?_, fdz45, (spLaw K), fun s v => bLaw s [v] rfl, fun H a ns hl hT hS => ⟨a, ns, rfl, hS, hl, fun _ => rfl⟩, fun base _ _ TBs => ?_⟩
  · exact absurd hz (List.not_mem_nil)
  · exact absurd hz (List.not_mem_nil)
  have C_is_int : Cal l.prog w K mg base 1 "is_int" (zf0 K) _ ["value"] (spIsInt K) := ⟨(ok_isint F0 T), PySem.W.mg_of X G a0, k0, b0⟩
  have S_Ratio_is_number : Sta l.prog w K mg base 2 (zCR K) "is_number" (zp1 K) (zf1 K) _ ["value"] (spIsNum K (zCR K)) := ⟨⟨a1, ⟨_, r1⟩, k1⟩, (ok_isnum F1 T T_Ratio C_is_int), b1⟩
  have C_parts_of : Cal l.prog w K mg base 1 "parts_of" (zf2 K) _ ["number"] (spParts (zCR K)) := ⟨(ok_parts F2 T T_Ratio), PySem.W.mg_of X G a2, k2, b2⟩
  have C_is_from_to : Cal l.prog w K mg base 2 "is_from_to" (zf3 K) _ ["value", "low", "high"] spFromTo := ⟨(ok_fromto F3 C_is_int), PySem.W.mg_of X G a3, k3, b3⟩
  have M_Ratio : Mak l.prog w K mg base 2 "Ratio" (zCR K) (zf4 K) _ ["self", "top", "bottom"] (spRInit (zCR K)) := ⟨⟨mkCR, a4, i4, kcCR⟩, (ok_rinit F4 T T_Ratio C_is_int), PySem.W.mg_of X G aCR, b4⟩
  have O_eq : Opr l.prog w K mg base 3 (zCR K) "__eq__" (zf5 K) _ ["self", "other"] (spEqQ (zCR K)) := ⟨a5, i5, (ok_eq F5 T_Ratio S_Ratio_is_number C_parts_of), b5⟩
  have S_Ratio_is_fifth : Sta l.prog w K mg base 1 (zCR K) "is_fifth" (zp6 K) (zf6 K) _ ["value"] (spIsFifth (zCR K)) := ⟨⟨a6, ⟨_, r6⟩, k6⟩, (ok_isfifth F6 T T_Ratio), b6⟩
  have O_add : Opr l.prog w K mg base 4 (zCR K) "__add__" (zf7 K) _ ["self", "other"] (spBin (zCR K) GT fun p q => p + q) := ⟨a7, i7, (ok_add F7 T_Ratio S_Ratio_is_number C_parts_of M_Ratio), b7⟩
  have O_sub : Opr l.prog w K mg base 4 (zCR K) "__sub__" (zf8 K) _ ["self", "other"] (spBin (zCR K) GT fun p q => p - q) := ⟨a8, i8, (ok_sub F8 T_Ratio S_Ratio_is_number C_parts_of M_Ratio), b8⟩
  have O_mul : Opr l.prog w K mg base 4 (zCR K) "__mul__" (zf9 K) _ ["self", "other"] (spBin (zCR K) GT fun p q => p * q) := ⟨a9, i9, (ok_mul F9 T_Ratio S_Ratio_is_number C_parts_of M_Ratio), b9⟩
  have O_rmul : Opr l.prog w K mg base 5 (zCR K) "__rmul__" (zf10 K) _ ["self", "other"] (spBin (zCR K) GT fun p q => p * q) := ⟨a10, i10, (ok_rmul F10 BM O_mul), b10⟩
  have O_neg : Opr l.prog w K mg base 4 (zCR K) "__neg__" (zf11 K) _ ["self"] (spUn (zCR K) fun p => -p) := ⟨a11, i11, (ok_neg F11 T_Ratio M_Ratio), b11⟩
  have O_rsub : Opr l.prog w K mg base 5 (zCR K) "__rsub__" (zf12 K) _ ["self", "other"] (spBin (zCR K) GT fun p q => -p + q) := ⟨a12, i12, (ok_rsub F12 BA O_add O_neg), b12⟩
  have M_Tone : Mak l.prog w K mg base 2 "Tone" (zCT K) (zf13 K) _ ["self", "octaves", "fifths"] (spTonI (zCT K)) := ⟨⟨mkCT, a13, i13, kcCT⟩, (ok_toni F13 T_Tone C_is_int), PySem.W.mg_of X G aCT, b13⟩
  have O_toneq : Opr l.prog w K mg base 1 (zCT K) "__eq__" (zf14 K) _ ["self", "other"] (spTonEq (zCT K)) := ⟨a14, i14, (ok_toneq F14 T T_Tone), b14⟩
  have FE15 : FnOk l.prog w K mg base CX0 6 (zf15 K) _ ["self", "fifth"] (spTonC (zCT K) (zCR K)) := (ok_tonc F15 T_Ratio T_Tone S_Ratio_is_fifth BA BM O_add O_mul O_rmul)
  have FE16 : FnOk l.prog w K mg base CX0 3 (zf16 K) _ ["self", "number"] (spTerI K (⟨(zCTm K), (zCM K), (zCN K), (fun m => cond m (zp20 K) (zp19 K)), (fun m => cond m (zf20 K) (zf19 K)), (fun m => cond m (zgMn K) (zgNn K)), (fun m => cond m (zgMp K) (zgNp K)), (fun m => cond m (zgMv K) (zgNv K)), (fun m => cond m (zgMi K) (zgNi K)), (zf26 K)⟩ : TAd)) := (ok_teri F16 C_is_from_to)
  have M_Note : Mak l.prog w K mg base 4 "Note" (zCN K) (zf17 K) _ ["self", "number"] (spTerI K (⟨(zCTm K), (zCM K), (zCN K), (fun m => cond m (zp20 K) (zp19 K)), (fun m => cond m (zf20 K) (zf19 K)), (fun m => cond m (zgMn K) (zgNn K)), (fun m => cond m (zgMp K) (zgNp K)), (fun m => cond m (zgMv K) (zgNv K)), (fun m => cond m (zgMi K) (zgNi K)), (zf26 K)⟩ : TAd)) := ⟨⟨mkCN, a17, i17, kcCN⟩, (ok_NoI F17 ⟨rdTm, gaTm⟩ (PySem.W.mg_of X G aCTm) (Hz.bCF_ok cfT) k16 FE16 b16), PySem.W.mg_of X G aCN, b17⟩
  have M_Moving : Mak l.prog w K mg base 4 "Moving" (zCM K) (zf18 K) _ ["self", "number"] (spTerI K (⟨(zCTm K), (zCM K), (zCN K), (fun m => cond m (zp20 K) (zp19 K)), (fun m => cond m (zf20 K) (zf19 K)), (fun m => cond m (zgMn K) (zgNn K)), (fun m => cond m (zgMp K) (zgNp K)), (fun m => cond m (zgMv K) (zgNv K)), (fun m => cond m (zgMi K) (zgNi K)), (zf26 K)⟩ : TAd)) := ⟨⟨mkCM, a18, i18, kcCM⟩, (ok_MoI F18 ⟨rdTm, gaTm⟩ (PySem.W.mg_of X G aCTm) (Hz.bCF_ok cfT) k16 FE16 b16), PySem.W.mg_of X G aCM, b18⟩
  have ts : ∀ m, TerC K (⟨(zCTm K), (zCM K), (zCN K), (fun m => cond m (zp20 K) (zp19 K)), (fun m => cond m (zf20 K) (zf19 K)), (fun m => cond m (zgMn K) (zgNn K)), (fun m => cond m (zgMp K) (zgNp K)), (fun m => cond m (zgMv K) (zgNv K)), (fun m => cond m (zgMi K) (zgNi K)), (zf26 K)⟩ : TAd) (tcl (⟨(zCTm K), (zCM K), (zCN K), (fun m => cond m (zp20 K) (zp19 K)), (fun m => cond m (zf20 K) (zf19 K)), (fun m => cond m (zgMn K) (zgNn K)), (fun m => cond m (zgMp K) (zgNp K)), (fun m => cond m (zgMv K) (zgNv K)), (fun m => cond m (zgMi K) (zgNi K)), (zf26 K)⟩ : TAd) m) m := fun m => match m with
    | true => ⟨T_Moving.cl, T_Moving.nN, T_Moving.toClT.ty, T_Moving.kS, tk1, ⟨a20, g20, t20, ⟨_, r20⟩⟩, ⟨tnCM, fngMn, ks4⟩, ⟨toCM, fngMp, ks5⟩, ⟨tvCM, fngMv, ks6⟩, ⟨trCM, fngMi, ks7⟩, tqCM, teCM, tsCM, T_Moving.nI, T_Moving.nC, tf1, rfl⟩
    | false => ⟨T_Note.cl, T_Note.nN, T_Note.toClT.ty, tk0, tk2, ⟨a19, g19, t19, ⟨_, r19⟩⟩, ⟨tnCN, fngNn, ks0⟩, ⟨toCN, fngNp, ks1⟩, ⟨tvCN, fngNv, ks2⟩, ⟨trCN, fngNi, ks3⟩, tqCN, teCN, tsCN, T_Note.nI, tf0, T_Note.nC, rfl⟩
  have PM19 : PropOf K (zCN K) "is_moving" (zp19 K) (zf19 K) := ⟨a19, g19, t19, ⟨_, r19⟩⟩
  have FM19 : FnOk l.prog w K mg base CX0 1 (zf19 K) _ ["self"] (OnM (⟨(zCTm K), (zCM K), (zCN K), (fun m => cond m (zp20 K) (zp19 K)), (fun m => cond m (zf20 K) (zf19 K)), (fun m => cond m (zgMn K) (zgNn K)), (fun m => cond m (zgMp K) (zgNp K)), (fun m => cond m (zgMv K) (zgNv K)), (fun m => cond m (zgMi K) (zgNi K)), (zf26 K)⟩ : TAd) false (spMv K (⟨(zCTm K), (zCM K), (zCN K), (fun m => cond m (zp20 K) (zp19 K)), (fun m => cond m (zf20 K) (zf19 K)), (fun m => cond m (zgMn K) (zgNn K)), (fun m => cond m (zgMp K) (zgNp K)), (fun m => cond m (zgMv K) (zgNv K)), (fun m => cond m (zgMi K) (zgNi K)), (zf26 K)⟩ : TAd))) := (ok_NoMv F19 ts)
  have PM20 : PropOf K (zCM K) "is_moving" (zp20 K) (zf20 K) := ⟨a20, g20, t20, ⟨_, r20⟩⟩
  have FM20 : FnOk l.prog w K mg base CX0 1 (zf20 K) _ ["self"] (OnM (⟨(zCTm K), (zCM K), (zCN K), (fun m => cond m (zp20 K) (zp19 K)), (fun m => cond m (zf20 K) (zf19 K)), (fun m => cond m (zgMn K) (zgNn K)), (fun m => cond m (zgMp K) (zgNp K)), (fun m => cond m (zgMv K) (zgNv K)), (fun m => cond m (zgMi K) (zgNi K)), (zf26 K)⟩ : TAd) true (spMv K (⟨(zCTm K), (zCM K), (zCN K), (fun m => cond m (zp20 K) (zp19 K)), (fun m => cond m (zf20 K) (zf19 K)), (fun m => cond m (zgMn K) (zgNn K)), (fun m => cond m (zgMp K) (zgNp K)), (fun m => cond m (zgMv K) (zgNv K)), (fun m => cond m (zgMi K) (zgNi K)), (zf26 K)⟩ : TAd))) := (ok_MoMv F20 ts)
  have FMa : ∀ m, FnOk l.prog w K mg base CX0 1 (TAd.im (⟨(zCTm K), (zCM K), (zCN K), (fun m => cond m (zp20 K) (zp19 K)), (fun m => cond m (zf20 K) (zf19 K)), (fun m => cond m (zgMn K) (zgNn K)), (fun m => cond m (zgMp K) (zgNp K)), (fun m => cond m (zgMv K) (zgNv K)), (fun m => cond m (zgMi K) (zgNi K)), (zf26 K)⟩ : TAd) m) (cond m fdz20 fdz19) ["self"] (OnM (⟨(zCTm K), (zCM K), (zCN K), (fun m => cond m (zp20 K) (zp19 K)), (fun m => cond m (zf20 K) (zf19 K)), (fun m => cond m (zgMn K) (zgNn K)), (fun m => cond m (zgMp K) (zgNp K)), (fun m => cond m (zgMv K) (zgNv K)), (fun m => cond m (zgMi K) (zgNi K)), (zf26 K)⟩ : TAd) m (spMv K (⟨(zCTm K), (zCM K), (zCN K), (fun m => cond m (zp20 K) (zp19 K)), (fun m => cond m (zf20 K) (zf19 K)), (fun m => cond m (zgMn K) (zgNn K)), (fun m => cond m (zgMp K) (zgNp K)), (fun m => cond m (zgMv K) (zgNv K)), (fun m => cond m (zgMi K) (zgNi K)), (zf26 K)⟩ : TAd))) := fun m => match m with | true => FM20 | false => FM19
  have bMa : ∀ m, Binds K (cond m fdz20 fdz19) ["self"] [] := fun m => match m with | true => b20 | false => b19
  have FE21 : FnOk l.prog w K mg base CX0 3 (zf21 K) _ ["self", "n"] (spNote K (⟨(zCTm K), (zCM K), (zCN K), (fun m => cond m (zp20 K) (zp19 K)), (fun m => cond m (zf20 K) (zf19 K)), (fun m => cond m (zgMn K) (zgNn K)), (fun m => cond m (zgMp K) (zgNp K)), (fun m => cond m (zgMv K) (zgNv K)), (fun m => cond m (zgMi K) (zgNi K)), (zf26 K)⟩ : TAd)) := (ok_note F21 C_is_int FMa bMa)
  have bs0 : Binds K fds0 ["self", "n"] [] := binds_s hfs0 fun _ _ _ _ _ _ us hl => match us, hl with | [_, _], _ => rfl
  have FS0 : FnOk l.prog w K mg base CX0 4 (zgNn K) fds0 ["self", "n"] (OnM (⟨(zCTm K), (zCM K), (zCN K), (fun m => cond m (zp20 K) (zp19 K)), (fun m => cond m (zf20 K) (zf19 K)), (fun m => cond m (zgMn K) (zgNn K)), (fun m => cond m (zgMp K) (zgNp K)), (fun m => cond m (zgMv K) (zgNv K)), (fun m => cond m (zgMi K) (zgNi K)), (zf26 K)⟩ : TAd) false (spNote K (⟨(zCTm K), (zCM K), (zCN K), (fun m => cond m (zp20 K) (zp19 K)), (fun m => cond m (zf20 K) (zf19 K)), (fun m => cond m (zgMn K) (zgNn K)), (fun m => cond m (zgMp K) (zgNp K)), (fun m => cond m (zgMv K) (zgNv K)), (fun m => cond m (zgMi K) (zgNi K)), (zf26 K)⟩ : TAd))) := ok_NoNote Fs0 rfl hsbCN hsu0 htynote hfnnote FE21 b21
  have bs4 : Binds K fds4 ["self", "n"] [] := binds_s hfs4 fun _ _ _ _ _ _ us hl => match us, hl with | [_, _], _ => rfl
  have FS4 : FnOk l.prog w K mg base CX0 4 (zgMn K) fds4 ["self", "n"] (OnM (⟨(zCTm K), (zCM K), (zCN K), (fun m => cond m (zp20 K) (zp19 K)), (fun m => cond m (zf20 K) (zf19 K)), (fun m => cond m (zgMn K) (zgNn K)), (fun m => cond m (zgMp K) (zgNp K)), (fun m => cond m (zgMv K) (zgNv K)), (fun m => cond m (zgMi K) (zgNi K)), (zf26 K)⟩ : TAd) true (spNote K (⟨(zCTm K), (zCM K), (zCN K), (fun m => cond m (zp20 K) (zp19 K)), (fun m => cond m (zf20 K) (zf19 K)), (fun m => cond m (zgMn K) (zgNn K)), (fun m => cond m (zgMp K) (zgNp K)), (fun m => cond m (zgMv K) (zgNv K)), (fun m => cond m (zgMi K) (zgNi K)), (zf26 K)⟩ : TAd))) := ok_MoNote Fs4 rfl hsbCM hsu4 htynote hfnnote FE21 b21
  have FNa : ∀ m, FnOk l.prog w K mg base CX0 4 (TAd.nt (⟨(zCTm K), (zCM K), (zCN K), (fun m => cond m (zp20 K) (zp19 K)), (fun m => cond m (zf20 K) (zf19 K)), (fun m => cond m (zgMn K) (zgNn K)), (fun m => cond m (zgMp K) (zgNp K)), (fun m => cond m (zgMv K) (zgNv K)), (fun m => cond m (zgMi K) (zgNi K)), (zf26 K)⟩ : TAd) m) (cond m fds4 fds0) ["self", "n"] (OnM (⟨(zCTm K), (zCM K), (zCN K), (fun m => cond m (zp20 K) (zp19 K)), (fun m => cond m (zf20 K) (zf19 K)), (fun m => cond m (zgMn K) (zgNn K)), (fun m => cond m (zgMp K) (zgNp K)), (fun m => cond m (zgMv K) (zgNv K)), (fun m => cond m (zgMi K) (zgNi K)), (zf26 K)⟩ : TAd) m (spNote K (⟨(zCTm K), (zCM K), (zCN K), (fun m => cond m (zp20 K) (zp19 K)), (fun m => cond m (zf20 K) (zf19 K)), (fun m => cond m (zgMn K) (zgNn K)), (fun m => cond m (zgMp K) (zgNp K)), (fun m => cond m (zgMv K) (zgNv K)), (fun m => cond m (zgMi K) (zgNi K)), (zf26 K)⟩ : TAd))) := fun m => match m with | true => FS4 | false => FS0
  have bNa : ∀ m, Binds K (cond m fds4 fds0) ["self", "n"] [] := fun m => match m with | true => bs4 | false => bs0
  have FE22 : FnOk l.prog w K mg base CX0 5 (zf22 K) _ ["self", "n", "fifth"] (spPos K (⟨(zCTm K), (zCM K), (zCN K), (fun m => cond m (zp20 K) (zp19 K)), (fun m => cond m (zf20 K) (zf19 K)), (fun m => cond m (zgMn K) (zgNn K)), (fun m => cond m (zgMp K) (zgNp K)), (fun m => cond m (zgMv K) (zgNv K)), (fun m => cond m (zgMi K) (zgNi K)), (zf26 K)⟩ : TAd) (zCR K)) := (ok_pos F22 T_Ratio S_Ratio_is_fifth FNa bNa M_Ratio)
  have C__alike : Cal l.prog w K mg base 6 "_alike" (zf23 K) _ ["term", "number"] (spAlike (⟨(zCTm K), (zCM K), (zCN K), (fun m => cond m (zp20 K) (zp19 K)), (fun m => cond m (zf20 K) (zf19 K)), (fun m => cond m (zgMn K) (zgNn K)), (fun m => cond m (zgMp K) (zgNp K)), (fun m => cond m (zgMv K) (zgNv K)), (fun m => cond m (zgMi K) (zgNi K)), (zf26 K)⟩ : TAd)) := ⟨(ok_alike F23 ts FMa bMa M_Moving M_Note), PySem.W.mg_of X G a23, k23, b23⟩
  have FE24 : FnOk l.prog w K mg base CX0 7 (zf24 K) _ ["self", "number"] (spTMoved (⟨(zCTm K), (zCM K), (zCN K), (fun m => cond m (zp20 K) (zp19 K)), (fun m => cond m (zf20 K) (zf19 K)), (fun m => cond m (zgMn K) (zgNn K)), (fun m => cond m (zgMp K) (zgNp K)), (fun m => cond m (zgMv K) (zgNv K)), (fun m => cond m (zgMi K) (zgNi K)), (zf26 K)⟩ : TAd)) := (ok_tmoved F24 ts C_is_int C__alike)
  have FE25 : FnOk l.prog w K mg base CX0 7 (zf25 K) _ ["self"] (spTMir (⟨(zCTm K), (zCM K), (zCN K), (fun m => cond m (zp20 K) (zp19 K)), (fun m => cond m (zf20 K) (zf19 K)), (fun m => cond m (zgMn K) (zgNn K)), (fun m => cond m (zgMp K) (zgNp K)), (fun m => cond m (zgMv K) (zgNv K)), (fun m => cond m (zgMi K) (zgNi K)), (zf26 K)⟩ : TAd)) := (ok_tmir F25 ts C__alike)
  have FE26 : FnOk l.prog w K mg base CX0 3 (zf26 K) _ ["self", "other"] (spTEq (⟨(zCTm K), (zCM K), (zCN K), (fun m => cond m (zp20 K) (zp19 K)), (fun m => cond m (zf20 K) (zf19 K)), (fun m => cond m (zgMn K) (zgNn K)), (fun m => cond m (zgMp K) (zgNp K)), (fun m => cond m (zgMv K) (zgNv K)), (fun m => cond m (zgMi K) (zgNi K)), (zf26 K)⟩ : TAd)) := (ok_teq F26 T (⟨PySem.W.mg_of X G aCTm⟩ : MgT mg "Term" (zCTm K)) ts FMa bMa)
  have bs1 : Binds K fds1 ["self", "n", "fifth"] [] := binds_s hfs1 fun _ _ _ _ _ _ us hl => match us, hl with | [_, _, _], _ => rfl
  have FS1 : FnOk l.prog w K mg base CX0 6 (zgNp K) fds1 ["self", "n", "fifth"] (OnM (⟨(zCTm K), (zCM K), (zCN K), (fun m => cond m (zp20 K) (zp19 K)), (fun m => cond m (zf20 K) (zf19 K)), (fun m => cond m (zgMn K) (zgNn K)), (fun m => cond m (zgMp K) (zgNp K)), (fun m => cond m (zgMv K) (zgNv K)), (fun m => cond m (zgMi K) (zgNi K)), (zf26 K)⟩ : TAd) false (spPos K (⟨(zCTm K), (zCM K), (zCN K), (fun m => cond m (zp20 K) (zp19 K)), (fun m => cond m (zf20 K) (zf19 K)), (fun m => cond m (zgMn K) (zgNn K)), (fun m => cond m (zgMp K) (zgNp K)), (fun m => cond m (zgMv K) (zgNv K)), (fun m => cond m (zgMi K) (zgNi K)), (zf26 K)⟩ : TAd) (zCR K))) := ok_NoPos Fs1 rfl hsbCN hsu1 htyposition hfnposition FE22 b22
  have bs5 : Binds K fds5 ["self", "n", "fifth"] [] := binds_s hfs5 fun _ _ _ _ _ _ us hl => match us, hl with | [_, _, _], _ => rfl
  have FS5 : FnOk l.prog w K mg base CX0 6 (zgMp K) fds5 ["self", "n", "fifth"] (OnM (⟨(zCTm K), (zCM K), (zCN K), (fun m => cond m (zp20 K) (zp19 K)), (fun m => cond m (zf20 K) (zf19 K)), (fun m => cond m (zgMn K) (zgNn K)), (fun m => cond m (zgMp K) (zgNp K)), (fun m => cond m (zgMv K) (zgNv K)), (fun m => cond m (zgMi K) (zgNi K)), (zf26 K)⟩ : TAd) true (spPos K (⟨(zCTm K), (zCM K), (zCN K), (fun m => cond m (zp20 K) (zp19 K)), (fun m => cond m (zf20 K) (zf19 K)), (fun m => cond m (zgMn K) (zgNn K)), (fun m => cond m (zgMp K) (zgNp K)), (fun m => cond m (zgMv K) (zgNv K)), (fun m => cond m (zgMi K) (zgNi K)), (zf26 K)⟩ : TAd) (zCR K))) := ok_MoPos Fs5 rfl hsbCM hsu5 htyposition hfnposition FE22 b22
  have FPa : ∀ m, FnOk l.prog w K mg base CX0 6 (TAd.po (⟨(zCTm K), (zCM K), (zCN K), (fun m => cond m (zp20 K) (zp19 K)), (fun m => cond m (zf20 K) (zf19 K)), (fun m => cond m (zgMn K) (zgNn K)), (fun m => cond m (zgMp K) (zgNp K)), (fun m => cond m (zgMv K) (zgNv K)), (fun m => cond m (zgMi K) (zgNi K)), (zf26 K)⟩ : TAd) m) (cond m fds5 fds1) ["self", "n", "fifth"] (OnM (⟨(zCTm K), (zCM K), (zCN K), (fun m => cond m (zp20 K) (zp19 K)), (fun m => cond m (zf20 K) (zf19 K)), (fun m => cond m (zgMn K) (zgNn K)), (fun m => cond m (zgMp K) (zgNp K)), (fun m => cond m (zgMv K) (zgNv K)), (fun m => cond m (zgMi K) (zgNi K)), (zf26 K)⟩ : TAd) m (spPos K (⟨(zCTm K), (zCM K), (zCN K), (fun m => cond m (zp20 K) (zp19 K)), (fun m => cond m (zf20 K) (zf19 K)), (fun m => cond m (zgMn K) (zgNn K)), (fun m => cond m (zgMp K) (zgNp K)), (fun m => cond m (zgMv K) (zgNv K)), (fun m => cond m (zgMi K) (zgNi K)), (zf26 K)⟩ : TAd) (zCR K))) := fun m => match m with | true => FS5 | false => FS1
  have bPa : ∀ m, Binds K (cond m fds5 fds1) ["self", "n", "fifth"] [] := fun m => match m with | true => bs5 | false => bs1
  have bs2 : Binds K fds2 ["self", "number"] [] := binds_s hfs2 fun _ _ _ _ _ _ us hl => match us, hl with | [_, _], _ => rfl
  have FS2 : FnOk l.prog w K mg base CX0 8 (zgNv K) fds2 ["self", "number"] (OnM (⟨(zCTm K), (zCM K), (zCN K), (fun m => cond m (zp20 K) (zp19 K)), (fun m => cond m (zf20 K) (zf19 K)), (fun m => cond m (zgMn K) (zgNn K)), (fun m => cond m (zgMp K) (zgNp K)), (fun m => cond m (zgMv K) (zgNv K)), (fun m => cond m (zgMi K) (zgNi K)), (zf26 K)⟩ : TAd) false (spTMoved (⟨(zCTm K), (zCM K), (zCN K), (fun m => cond m (zp20 K) (zp19 K)), (fun m => cond m (zf20 K) (zf19 K)), (fun m => cond m (zgMn K) (zgNn K)), (fun m => cond m (zgMp K) (zgNp K)), (fun m => cond m (zgMv K) (zgNv K)), (fun m => cond m (zgMi K) (zgNi K)), (zf26 K)⟩ : TAd))) := ok_NoTMoved Fs2 rfl hsbCN hsu2 htymoved hfnmoved FE24 b24
  have bs6 : Binds K fds6 ["self", "number"] [] := binds_s hfs6 fun _ _ _ _ _ _ us hl => match us, hl with | [_, _], _ => rfl
  have FS6 : FnOk l.prog w K mg base CX0 8 (zgMv K) fds6 ["self", "number"] (OnM (⟨(zCTm K), (zCM K), (zCN K), (fun m => cond m (zp20 K) (zp19 K)), (fun m => cond m (zf20 K) (zf19 K)), (fun m => cond m (zgMn K) (zgNn K)), (fun m => cond m (zgMp K) (zgNp K)), (fun m => cond m (zgMv K) (zgNv K)), (fun m => cond m (zgMi K) (zgNi K)), (zf26 K)⟩ : TAd) true (spTMoved (⟨(zCTm K), (zCM K), (zCN K), (fun m => cond m (zp20 K) (zp19 K)), (fun m => cond m (zf20 K) (zf19 K)), (fun m => cond m (zgMn K) (zgNn K)), (fun m => cond m (zgMp K) (zgNp K)), (fun m => cond m (zgMv K) (zgNv K)), (fun m => cond m (zgMi K) (zgNi K)), (zf26 K)⟩ : TAd))) := ok_MoTMoved Fs6 rfl hsbCM hsu6 htymoved hfnmoved FE24 b24
  have FVa : ∀ m, FnOk l.prog w K mg base CX0 8 (TAd.mo (⟨(zCTm K), (zCM K), (zCN K), (fun m => cond m (zp20 K) (zp19 K)), (fun m => cond m (zf20 K) (zf19 K)), (fun m => cond m (zgMn K) (zgNn K)), (fun m => cond m (zgMp K) (zgNp K)), (fun m => cond m (zgMv K) (zgNv K)), (fun m => cond m (zgMi K) (zgNi K)), (zf26 K)⟩ : TAd) m) (cond m fds6 fds2) ["self", "number"] (OnM (⟨(zCTm K), (zCM K), (zCN K), (fun m => cond m (zp20 K) (zp19 K)), (fun m => cond m (zf20 K) (zf19 K)), (fun m => cond m (zgMn K) (zgNn K)), (fun m => cond m (zgMp K) (zgNp K)), (fun m => cond m (zgMv K) (zgNv K)), (fun m => cond m (zgMi K) (zgNi K)), (zf26 K)⟩ : TAd) m (spTMoved (⟨(zCTm K), (zCM K), (zCN K), (fun m => cond m (zp20 K) (zp19 K)), (fun m => cond m (zf20 K) (zf19 K)), (fun m => cond m (zgMn K) (zgNn K)), (fun m => cond m (zgMp K) (zgNp K)), (fun m => cond m (zgMv K) (zgNv K)), (fun m => cond m (zgMi K) (zgNi K)), (zf26 K)⟩ : TAd))) := fun m => match m with | true => FS6 | false => FS2
  have bVa : ∀ m, Binds K (cond m fds6 fds2) ["self", "number"] [] := fun m => match m with | true => bs6 | false => bs2
  have bs3 : Binds K fds3 ["self"] [] := binds_s hfs3 fun _ _ _ _ _ _ us hl => match us, hl with | [_], _ => rfl
  have FS3 : FnOk l.prog w K mg base CX0 8 (zgNi K) fds3 ["self"] (OnM (⟨(zCTm K), (zCM K), (zCN K), (fun m => cond m (zp20 K) (zp19 K)), (fun m => cond m (zf20 K) (zf19 K)), (fun m => cond m (zgMn K) (zgNn K)), (fun m => cond m (zgMp K) (zgNp K)), (fun m => cond m (zgMv K) (zgNv K)), (fun m => cond m (zgMi K) (zgNi K)), (zf26 K)⟩ : TAd) false (spTMir (⟨(zCTm K), (zCM K), (zCN K), (fun m => cond m (zp20 K) (zp19 K)), (fun m => cond m (zf20 K) (zf19 K)), (fun m => cond m (zgMn K) (zgNn K)), (fun m => cond m (zgMp K) (zgNp K)), (fun m => cond m (zgMv K) (zgNv K)), (fun m => cond m (zgMi K) (zgNi K)), (zf26 K)⟩ : TAd))) := ok_NoTMir Fs3 rfl hsbCN hsu3 htymirrored hfnmirrored FE25 b25
  have bs7 : Binds K fds7 ["self"] [] := binds_s hfs7 fun _ _ _ _ _ _ us hl => match us, hl with | [_], _ => rfl
  have FS7 : FnOk l.prog w K mg base CX0 8 (zgMi K) fds7 ["self"] (OnM (⟨(zCTm K), (zCM K), (zCN K), (fun m => cond m (zp20 K) (zp19 K)), (fun m => cond m (zf20 K) (zf19 K)), (fun m => cond m (zgMn K) (zgNn K)), (fun m => cond m (zgMp K) (zgNp K)), (fun m => cond m (zgMv K) (zgNv K)), (fun m => cond m (zgMi K) (zgNi K)), (zf26 K)⟩ : TAd) true (spTMir (⟨(zCTm K), (zCM K), (zCN K), (fun m => cond m (zp20 K) (zp19 K)), (fun m => cond m (zf20 K) (zf19 K)), (fun m => cond m (zgMn K) (zgNn K)), (fun m => cond m (zgMp K) (zgNp K)), (fun m => cond m (zgMv K) (zgNv K)), (fun m => cond m (zgMi K) (zgNi K)), (zf26 K)⟩ : TAd))) := ok_MoTMir Fs7 rfl hsbCM hsu7 htymirrored hfnmirrored FE25 b25
  have FIa : ∀ m, FnOk l.prog w K mg base CX0 8 (TAd.mi (⟨(zCTm K), (zCM K), (zCN K), (fun m => cond m (zp20 K) (zp19 K)), (fun m => cond m (zf20 K) (zf19 K)), (fun m => cond m (zgMn K) (zgNn K)), (fun m => cond m (zgMp K) (zgNp K)), (fun m => cond m (zgMv K) (zgNv K)), (fun m => cond m (zgMi K) (zgNi K)), (zf26 K)⟩ : TAd) m) (cond m fds7 fds3) ["self"] (OnM (⟨(zCTm K), (zCM K), (zCN K), (fun m => cond m (zp20 K) (zp19 K)), (fun m => cond m (zf20 K) (zf19 K)), (fun m => cond m (zgMn K) (zgNn K)), (fun m => cond m (zgMp K) (zgNp K)), (fun m => cond m (zgMv K) (zgNv K)), (fun m => cond m (zgMi K) (zgNi K)), (zf26 K)⟩ : TAd) m (spTMir (⟨(zCTm K), (zCM K), (zCN K), (fun m => cond m (zp20 K) (zp19 K)), (fun m => cond m (zf20 K) (zf19 K)), (fun m => cond m (zgMn K) (zgNn K)), (fun m => cond m (zgMp K) (zgNp K)), (fun m => cond m (zgMv K) (zgNv K)), (fun m => cond m (zgMi K) (zgNi K)), (zf26 K)⟩ : TAd))) := fun m => match m with | true => FS7 | false => FS3
  have bIa : ∀ m, Binds K (cond m fds7 fds3) ["self"] [] := fun m => match m with | true => bs7 | false => bs3
  have C_is_near : Cal l.prog w K mg base 3 "is_near" (zf27 K) _ ["tone"] (spNear (zCT K)) := ⟨(ok_near F27 T_Tone C_is_from_to), PySem.W.mg_of X G a27, k27, b27⟩
  have M_Height : Mak l.prog w K mg base 4 "Height" (zCH K) (zf28 K) _ ["self", "tone", "term"] (spHeiI (zCH K) (zCT K) (⟨(zCTm K), (zCM K), (zCN K), (fun m => cond m (zp20 K) (zp19 K)), (fun m => cond m (zf20 K) (zf19 K)), (fun m => cond m (zgMn K) (zgNn K)), (fun m => cond m (zgMp K) (zgNp K)), (fun m => cond m (zgMv K) (zgNv K)), (fun m => cond m (zgMi K) (zgNi K)), (zf26 K)⟩ : TAd)) := ⟨⟨mkCH, a28, i28, kcCH⟩, (ok_heii F28 T T_Tone (⟨PySem.W.mg_of X G aCTm⟩ : MgT mg "Term" (zCTm K)) T_Height ts C_is_near), PySem.W.mg_of X G aCH, b28⟩
  have CO : StX.CallO K (zCT K) (zf15 K) := ⟨coa, cof, coi⟩
  have D_Height_pitch : Dot l.prog w K mg base 7 (zCH K) "pitch" (zf29 K) _ ["self", "n", "fifth"] (spPitch (zCH K) (zCT K) (zCR K) (⟨(zCTm K), (zCM K), (zCN K), (fun m => cond m (zp20 K) (zp19 K)), (fun m => cond m (zf20 K) (zf19 K)), (fun m => cond m (zgMn K) (zgNn K)), (fun m => cond m (zgMp K) (zgNp K)), (fun m => cond m (zgMv K) (zgNv K)), (fun m => cond m (zgMi K) (zgNi K)), (zf26 K)⟩ : TAd)) := ⟨⟨a29, i29, k29⟩, (ok_pitch F29 T_Height ts FPa bPa CO FE15 b15 BA O_add), b29⟩
  have D_Height_moved : Dot l.prog w K mg base 9 (zCH K) "moved" (zf30 K) _ ["self", "number"] (spHMoved (zCH K) (zCT K) (⟨(zCTm K), (zCM K), (zCN K), (fun m => cond m (zp20 K) (zp19 K)), (fun m => cond m (zf20 K) (zf19 K)), (fun m => cond m (zgMn K) (zgNn K)), (fun m => cond m (zgMp K) (zgNp K)), (fun m => cond m (zgMv K) (zgNv K)), (fun m => cond m (zgMi K) (zgNi K)), (zf26 K)⟩ : TAd)) := ⟨⟨a30, i30, k30⟩, (ok_hmoved F30 T_Height ts FVa bVa M_Height), b30⟩
  have D_Height_mirrored : Dot l.prog w K mg base 9 (zCH K) "mirrored" (zf31 K) _ ["self"] (spHMir (zCH K) (zCT K) (⟨(zCTm K), (zCM K), (zCN K), (fun m => cond m (zp20 K) (zp19 K)), (fun m => cond m (zf20 K) (zf19 K)), (fun m => cond m (zgMn K) (zgNn K)), (fun m => cond m (zgMp K) (zgNp K)), (fun m => cond m (zgMv K) (zgNv K)), (fun m => cond m (zgMi K) (zgNi K)), (zf26 K)⟩ : TAd)) := ⟨⟨a31, i31, k31⟩, (ok_hmir F31 T_Height T_Tone ts FIa bIa M_Tone M_Height), b31⟩
  have O_heq : Opr l.prog w K mg base 4 (zCH K) "__eq__" (zf32 K) _ ["self", "other"] (spHEq K (zCH K) (zCT K) (⟨(zCTm K), (zCM K), (zCN K), (fun m => cond m (zp20 K) (zp19 K)), (fun m => cond m (zf20 K) (zf19 K)), (fun m => cond m (zgMn K) (zgNn K)), (fun m => cond m (zgMp K) (zgNp K)), (fun m => cond m (zgMv K) (zgNv K)), (fun m => cond m (zgMi K) (zgNi K)), (zf26 K)⟩ : TAd)) := ⟨a32, i32, (ok_heq F32 T T_Tone T_Height ts O_toneq FE26 fnQ b26), b32⟩
  have C__law_pen : Cal l.prog w K mg base 1 "_law_pen" (zf33 K) _ ["_law_script"] (spPen K) := ⟨(ok_pen F33 T), PySem.W.mg_of X G a33, k33, b33⟩
  have C__law_draw : Cal l.prog w K mg base 1 "_law_draw" (zf34 K) _ ["_law_pen_here", "_law_many"] spDraw := ⟨(ok_draw F34 T), PySem.W.mg_of X G a34, k34, b34⟩
  have C__law_pick : Cal l.prog w K mg base 2 "_law_pick" (zf35 K) _ ["_law_pen_here", "_law_some"] spPick := ⟨(ok_pick F35 T C__law_draw), PySem.W.mg_of X G a35, k35, b35⟩
  have C__law_fraction : Cal l.prog w K mg base 3 "_law_fraction" (zf36 K) _ ["_law_pen_here"] spLFrac := ⟨(ok_lfrac F36 C__law_pick), PySem.W.mg_of X G a36, k36, b36⟩
  have C__law_number : Cal l.prog w K mg base 3 "_law_number" (zf37 K) _ ["_law_pen_here"] spLNum := ⟨(ok_lnum F37 C__law_draw C__law_pick), PySem.W.mg_of X G a37, k37, b37⟩
  have C__law_term : Cal l.prog w K mg base 3 "_law_term" (zf38 K) _ ["_law_pen_here", "_law_far"] spLTerm := ⟨(ok_lterm F38 C__law_draw C__law_pick), PySem.W.mg_of X G a38, k38, b38⟩
  have C__law_tone : Cal l.prog w K mg base 2 "_law_tone" (zf39 K) _ ["_law_pen_here", "_law_far"] spLTone := ⟨(ok_ltone F39 C__law_draw), PySem.W.mg_of X G a39, k39, b39⟩
  have C__law_real_term : Cal l.prog w K mg base 6 "_law_real_term" (zf40 K) _ ["_law_term_here"] (spRTerm (⟨(zCTm K), (zCM K), (zCN K), (fun m => cond m (zp20 K) (zp19 K)), (fun m => cond m (zf20 K) (zf19 K)), (fun m => cond m (zgMn K) (zgNn K)), (fun m => cond m (zgMp K) (zgNp K)), (fun m => cond m (zgMv K) (zgNv K)), (fun m => cond m (zgMi K) (zgNi K)), (zf26 K)⟩ : TAd)) := ⟨(ok_rterm F40 ts M_Moving M_Note), PySem.W.mg_of X G a40, k40, b40⟩
  have C__law_real_height : Cal l.prog w K mg base 7 "_law_real_height" (zf41 K) _ ["_law_tone_here", "_law_term_here"] (spRHei (zCH K) (zCT K) (⟨(zCTm K), (zCM K), (zCN K), (fun m => cond m (zp20 K) (zp19 K)), (fun m => cond m (zf20 K) (zf19 K)), (fun m => cond m (zgMn K) (zgNn K)), (fun m => cond m (zgMp K) (zgNp K)), (fun m => cond m (zgMv K) (zgNv K)), (fun m => cond m (zgMi K) (zgNi K)), (zf26 K)⟩ : TAd)) := ⟨(ok_rhei F41 C__law_real_term M_Tone M_Height), PySem.W.mg_of X G a41, k41, b41⟩
  have C__law_key : Cal l.prog w K mg base 1 "_law_key" (zf42 K) _ ["_law_term_here", "_law_n", "_law_top", "_law_bottom"] spKey := ⟨(ok_key F42 T), PySem.W.mg_of X G a42, k42, b42⟩
  have C__law_pitch_right : Cal l.prog w K mg base 10 "_law_pitch_right" (zf43 K) _ ["_law_pen_here", "_law_made", "_law_tone_here", "_law_term_here"] (spLPitch (zCH K) (zCT K) (⟨(zCTm K), (zCM K), (zCN K), (fun m => cond m (zp20 K) (zp19 K)), (fun m => cond m (zf20 K) (zf19 K)), (fun m => cond m (zgMn K) (zgNn K)), (fun m => cond m (zgMp K) (zgNp K)), (fun m => cond m (zgMv K) (zgNv K)), (fun m => cond m (zgMi K) (zgNi K)), (zf26 K)⟩ : TAd)) := ⟨(ok_lpitch F43 T T_Ratio T_Height neR sO O_eq BS O_sub O_rsub D_Height_pitch D_Height_mirrored M_Ratio C__law_fraction C__law_number C__law_key), PySem.W.mg_of X G a43, k43, b43⟩
  have C__law_kept_right : Cal l.prog w K mg base 10 "_law_kept_right" (zf44 K) _ ["_law_pen_here", "_law_made", "_law_tone_here", "_law_term_here"] (spLKept (zCH K) (zCT K) (⟨(zCTm K), (zCM K), (zCN K), (fun m => cond m (zp20 K) (zp19 K)), (fun m => cond m (zf20 K) (zf19 K)), (fun m => cond m (zgMn K) (zgNn K)), (fun m => cond m (zgMp K) (zgNp K)), (fun m => cond m (zgMv K) (zgNv K)), (fun m => cond m (zgMi K) (zgNi K)), (zf26 K)⟩ : TAd)) := ⟨(ok_lkept F44 T T_Tone T_Height ts hneT hOT hneH hOH O_toneq FE26 fnQ b26 O_heq D_Height_moved D_Height_mirrored M_Tone C__law_draw C__law_real_term C__law_real_height), PySem.W.mg_of X G a44, k44, b44⟩
  have hno : HNo K (zCH K) (zCT K) (⟨(zCTm K), (zCM K), (zCN K), (fun m => cond m (zp20 K) (zp19 K)), (fun m => cond m (zf20 K) (zf19 K)), (fun m => cond m (zgMn K) (zgNn K)), (fun m => cond m (zgMp K) (zgNp K)), (fun m => cond m (zgMv K) (zgNv K)), (fun m => cond m (zgMi K) (zgNi K)), (zf26 K)⟩ : TAd) := ⟨hk1, hk2, hk3, fun m => match m with | true => hk4 | false => hk5, hf1, hf2, hf3, fun m => match m with | true => hf4 | false => hf5⟩
  exact FnOk.toG (ok_law F45 T T_Ratio T_Tone T_Height ts hno hneH hOH O_heq O_eq D_Height_pitch M_Ratio M_Tone M_Height M_Note C__law_pen C__law_pick C__law_tone C__law_term C__law_real_height C__law_kept_right C__law_pitch_right)
end Toy
set_option linter.all false
open PySem PySem.W PyProof.Rows
set_option maxRecDepth 100000 in
set_option maxHeartbeats 0 in
theorem PySem.Challenge.cw_anyfifth_k37_heights_holds : PySem.Challenge.rw_anyfifth_k37_heights.Holds := by
  w_on; o_law
  refine Hz.head_all (r := OpenLaw.row PySem.Challenge.rw_anyfifth_k37_heights) (q := view (OpenLaw.row PySem.Challenge.rw_anyfifth_k37_heights).prog [97]) (H := Toy.zhk) (ob := Toy.zob) (M0 := 2000) (M1 := 20000) (loose := Toy.znames) (d := HandSHeadRun.topDef (OpenLaw.row PySem.Challenge.rw_anyfifth_k37_heights).prog 97) (kwd := []) Toy.zob_eq
    (by kernel_rfl) Toy.zrun (by kernel_rfl) (by kernel_rfl) (by kernel_rfl) (by rfl) (by first | assumption | decide +kernel) (by decide +kernel) ⟨rfl, rfl, rfl, rfl, rfl, by decide +kernel⟩ ?hw ?hc
  case hw => w_witness2
  case hc =>
    refine Hz.walk (l := PySem.Challenge.rw_anyfifth_k37_heights) (n := 63) (k := 11) (x := "_law_script") rfl (by decide) (by kernel_rfl) ⟨rfl, by decide, by decide⟩ ?F
    intro w mg fa h Y G hmg0
    obtain ⟨K, KX, c, c2⟩ := Y
    have hmg : mg ("law" : PySem.Str) = some (.ref fa) := by
      have e : (HandSHeadRun.topDef (OpenLaw.row PySem.Challenge.rw_anyfifth_k37_heights).prog 97).name = ("law" : PySem.Str) := by kernel_rfl
      rw [← e]
      exact hmg0
    exact ⟨K, KX, Toy.all_mk KX G hmg c c2 (by kernel_rfl) (by kernel_rfl)⟩
