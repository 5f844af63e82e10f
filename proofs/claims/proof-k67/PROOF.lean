import PyProof.Rows.All
import Wide.All
import OpenK.AllK
import Wide.FinOn
import KE.OsRun
import KE.KNestM
import HandS.ForMost
import HandS.ForExc
import HandS.Star
import HandS.IsInst
import HandS.TupAny
import HandS.StrMore
import HandS.Style
import HandS.Flow
import HandS.Walk
import HandS.Strs
import HandS.SetFor
import HandS.DictComp
import HandS.WrittenGet
import HandS.Zip
import HandS.Property
import KE.KDictKeyed
import KE.SortData
import KE.KDictSum
import HandS.Conv
import HandS.ExcValue
import HandS.ExcInit
import HandS.ExcIs
import HandS.ExcField
import KE.KExcIs
import HandS.Nested
import HandS.ExcSuper
import KE.KExcSuper
import HandS.FStr
import HandS.Defaults
import HandS.MakeKw
import HandS.RaiseMore
import HandS.HotCalls
import HandS.OwnEq
import HandS.More
import KE.KStar
import HandS.HeadHook3
import HandS.EndTab
import PySem.Challenge.RW_endlesskinds_k67_turned_parents_refused
set_option Elab.async false
set_option linter.all false
set_option maxRecDepth 100000
set_option maxHeartbeats 8000000
namespace N
open PySem PySem.W PySem.Calls PyProof.Rows HeadRun
/-! ### looks by whole evaluation: a state behind the top, its heap a written list; what can be a Bool is one -/
def frL {β α : Type} (l : List β) (k : List β → α) : α := match l with
  | [] => k []
  | x :: r => frL r fun r => k (x :: r)
theorem frL_eq {β α : Type} : ∀ (l : List β) (k : List β → α), frL l k = k l
  | [], _ => rfl
  | x :: r, k => frL_eq r fun r => k (x :: r)
def frO {α : Type} (o : Obj) (k : Obj → α) : α := match o with
  | ⟨c, d, dt, sl⟩ => k ⟨c, d, dt, sl⟩
theorem frO_eq {α : Type} (o : Obj) (k : Obj → α) : frO o k = k o := by cases o; rfl
/-- the objects of a tree, from address i on -/
def frObjs {α : Type} (t : BT) : Nat → Nat → (List Obj → α) → α
  | 0, _, k => k []
  | m + 1, i, k => match t.get i with
    | some o => frO o fun o => frNat (i + 1) fun j => frObjs t m j fun r => k (o :: r)
    | none => frNat (i + 1) fun j => frObjs t m j fun r => k (default :: r)
theorem frObjs_eq {α : Type} (t : BT) : ∀ (m i : Nat) (k : List Obj → α), frObjs t m i k = k ((List.range' i m).map fun i => (t.get i).getD default)
  | 0, _, _ => rfl
  | m + 1, i, k => by
    unfold frObjs
    cases h : t.get i with
    | some o =>
      show (frO o fun o => frNat (i + 1) fun j => frObjs t m j fun r => k (o :: r)) = _
      rw [frO_eq, frNat_eq, frObjs_eq t m (i + 1), List.range'_succ, List.map_cons, h]
      rfl
    | none =>
      show (frNat (i + 1) fun j => frObjs t m j fun r => k (default :: r)) = _
      rw [frNat_eq, frObjs_eq t m (i + 1), List.range'_succ, List.map_cons, h]
      rfl
def frHeap {α : Type} (s : SharedT) (k : Heap → α) : α := frObjs s.tree s.n 0 fun l => k ⟨l.toArray, s.life⟩
theorem frHeap_eq {α : Type} (s : SharedT) (k : Heap → α) : frHeap s k = k s.abs.heap := by
  unfold frHeap
  rw [frObjs_eq]
  show _ = k (absHeap s.tree s.n s.life)
  unfold absHeap BT.list
  rw [List.range_eq_range']
end N
namespace N
open PySem PySem.W PySem.Calls PyProof.Rows HeadRun
/-! texts and values compared by whole evaluation -/
noncomputable def pairB (x y : Str × Value) : Bool := match PySem.W.Fast.sEq x.1 y.1 with
  | true => decide (x.2 = y.2)
  | false => false
theorem pairB_eq {x y : Str × Value} (h : pairB x y = true) : x = y := by
  obtain ⟨a, v⟩ := x
  obtain ⟨b, u⟩ := y
  unfold pairB at h
  cases h1 : PySem.W.Fast.sEq a b with
  | false => rw [h1] at h; cases h
  | true =>
    rw [h1] at h
    rw [PySem.W.Fast.sEq_iff.mp h1, show v = u from of_decide_eq_true h]
noncomputable def pairsB : List (Str × Value) → List (Str × Value) → Bool
  | [], y => y.isEmpty
  | p :: r, y => match y with
    | [] => false
    | q :: t => match pairB p q with
      | true => pairsB r t
      | false => false
theorem pairsB_eq : ∀ {x y : List (Str × Value)}, pairsB x y = true → x = y
  | [], _, h => (List.isEmpty_iff.mp h).symm
  | _ :: _, [], h => by cases h
  | p :: r, q :: t, h => by
    have h' : (match pairB p q with | true => pairsB r t | false => false) = true := h
    cases h1 : pairB p q with
    | false => rw [h1] at h'; cases h'
    | true =>
      rw [h1] at h'
      rw [pairB_eq h1, pairsB_eq h']
noncomputable def bltB (x : Option Str × List (Str × Value)) : Bool := match x.1 with
  | some n => (match PySem.W.Fast.sEq n "__name__" with
    | true => pairsB x.2 bltViewBooted.2
    | false => false)
  | none => false
theorem bltB_eq {x : Option Str × List (Str × Value)} (h : bltB x = true) : x = bltViewBooted := by
  obtain ⟨a, b⟩ := x
  unfold bltB at h
  cases a with
  | none => cases h
  | some n =>
    have h' : (match PySem.W.Fast.sEq n "__name__" with | true => pairsB b bltViewBooted.2 | false => false) = true := h
    cases h1 : PySem.W.Fast.sEq n "__name__" with
    | false => rw [h1] at h'; cases h'
    | true =>
      rw [h1] at h'
      rw [PySem.W.Fast.sEq_iff.mp h1, pairsB_eq h']
      rfl
/-- the Bools of what is seen, ended by what is left to compare -/
abbrev SeenT := Seen × (Option Str × List (Str × Value)) × Bool × Bool × (List (Option FnShape) × Bool) × List (Option PlainShape) × List (Option (PlainShape × Bool)) × (List (Option FnShape) × Bool) × List (Option (List (Option FnShape) × Bool) × Option (PlainShape × Bool))
def ifB {α : Type} (b : Bool) (k : Option α) : Option α := match b with
  | true => k
  | false => none
theorem ifB_some {α : Type} {b : Bool} {k : Option α} {x : α} (h : ifB b k = some x) : b = true ∧ k = some x := by
  cases b
  · cases h
  · exact ⟨rfl, h⟩
noncomputable def seenB {α : Type} (x : SeenT) (k : List (Option FnShape) → Option α) : Option α := match x with
  | (S, b, c, d, pin, _, _, wd, _) => ifB (bltB b) (ifB c (ifB d (ifB pin.2 (ifB wd.2 (match S with
    | ⟨df, o, nm, g, bi, nl, gs⟩ => ifB o (ifB nm.isEmpty (ifB g (ifB bi (ifB nl (match gs with
      | 0 => k df
      | _ + 1 => none))))))))))
theorem seenB_some {α : Type} {x : SeenT} {k : List (Option FnShape) → Option α} {y : α} (h : seenB x k = some y) :
    ∃ df, k df = some y ∧ x.1 = ⟨df, true, [], true, true, true, 0⟩ ∧ x.2.1 = bltViewBooted ∧ x.2.2.1 = true ∧ x.2.2.2.1 = true ∧ x.2.2.2.2.1.2 = true ∧ x.2.2.2.2.2.2.2.1.2 = true := by
  obtain ⟨⟨df, o, nm, g, bi, nl, gs⟩, b, c, d, ⟨p1, p2⟩, e1, e2, ⟨w1, w2⟩, cl⟩ := x
  have h : ifB (bltB b) (ifB c (ifB d (ifB p2 (ifB w2 (ifB o (ifB nm.isEmpty (ifB g (ifB bi (ifB nl (match gs with
      | 0 => k df
      | _ + 1 => none)))))))))) = some y := h
  obtain ⟨h1, h⟩ := ifB_some h
  obtain ⟨h2, h⟩ := ifB_some h
  obtain ⟨h3, h⟩ := ifB_some h
  obtain ⟨h4, h⟩ := ifB_some h
  obtain ⟨h5, h⟩ := ifB_some h
  obtain ⟨h6, h⟩ := ifB_some h
  obtain ⟨h7, h⟩ := ifB_some h
  obtain ⟨h8, h⟩ := ifB_some h
  obtain ⟨h9, h⟩ := ifB_some h
  obtain ⟨h10, h⟩ := ifB_some h
  cases gs with
  | succ _ => cases h
  | zero =>
    have e7 : nm = [] := List.isEmpty_iff.mp h7
    subst e7
    subst h6; subst h8; subst h9; subst h10
    exact ⟨df, h, rfl, bltB_eq h1, h2, h3, h4, h5⟩
/-- the state behind the top by its heap as a written list -/
def shOf (s : SharedT) (h : Heap) : Shared := ⟨h, s.gens, s.drawn, s.toks, s.os⟩
/-- all looks: Bools first, then what is compared -/
noncomputable def runL (p q : Program) (loose mods : List Str) (Xt : Shared → Bool) (as ts : List Addr) (st : SharedT → Thread → Option (SharedT × Thread)) (M : Nat) (w : World) (os : OsState) : Option (List (Option FnShape) × List (Option Obj) × List (Option Obj)) :=
  match endF st M p w os with
  | some s => frHeap s fun h => ifB (looksF p (boot_heap w.params) (shOf s h)) (seenB (seenQ q loose mods Xt (shOf s h)) fun df => some (df, as.map (getT s), ts.map (getT s)))
  | none => none
end N

namespace N
open PySem PySem.W PySem.Calls PyProof.Rows HeadRun
/-! ### the looks with the text's own lists given: Bools by whole evaluation, the library's twins by their names -/
abbrev TTy := Str × Option (List Int) × Option (List Str) × Option (List (PyData × PyData))
def boolsL (R L LI CN : List Str) (VV : List (Str × Option PyData)) (TT : List TTy) (WL : List (Str × WData)) (im : Bool) (mods : List Str) (s : Shared) : Bool :=
  s.heap.keysOk L R LI CN && (s.heap.accountedOkI mods && (s.heap.isNs mainGlobals && (s.heap.isNs builtinsNs && ((TT.all fun t => (match t.2.1 with | some ns => s.heap.tupIntsOk t.1 ns | none => true) && (match t.2.2.1 with | some ss => s.heap.tupStrsOk t.1 ss | none => true) && (match t.2.2.2 with | some D => s.heap.tabIntOk t.1 D | none => true)) &&
  ((s.gens.size == 0) && ((R.all fun n => s.heap.tab0Ok n) && (s.heap.bmainOk && ((VV.all fun v => match v.2 with | some d => s.heap.constOk v.1 d | none => true) && ((!im || s.heap.noSeerOk) && WL.all (constAt s.heap))))))))))
noncomputable def keysOkQ : Heap → List Str → List Str → List Str → List Str → Bool := PySem.W.Fast.tw10880121769531294198
noncomputable def accQ : Heap → List Str → Bool := PySem.W.Fast.tw14722251495701143533
noncomputable def tupIntsQ : Heap → Str → List Int → Bool := PySem.W.Fast.tw9904233695019617717
noncomputable def tupStrsQ : Heap → Str → List Str → Bool := PySem.W.Fast.tw5263368880259041517
noncomputable def tabIntQ : Heap → Str → List (PyData × PyData) → Bool := PySem.W.Fast.tw14927025687674330080
noncomputable def tab0Q : Heap → Str → Bool := PySem.W.Fast.tw5930804224584009831
noncomputable def bmainQ : Heap → Bool := PySem.W.Fast.tw5244371056499926238
noncomputable def constQ : Heap → Str → PyData → Bool := PySem.W.Fast.tw3277482597662649166
noncomputable def noSeerQ : Heap → Bool := PySem.W.Fast.tw9649274521512697073
noncomputable def constAtQ : Heap → Str × WData → Bool := PySem.W.Fast.tw1696807537771891022
noncomputable def seenT : List Str → List OwnSpec → List Str → Shared → Seen := PySem.W.Fast.tw5160383126252970620
theorem keysOkQ_eq : @Heap.keysOk = keysOkQ := PySem.W.Fast.te10880121769531294198
theorem accQ_eq : @Heap.accountedOkI = accQ := PySem.W.Fast.te14722251495701143533
theorem tupIntsQ_eq : @Heap.tupIntsOk = tupIntsQ := PySem.W.Fast.te9904233695019617717
theorem tupStrsQ_eq : @Heap.tupStrsOk = tupStrsQ := PySem.W.Fast.te5263368880259041517
theorem tabIntQ_eq : @Heap.tabIntOk = tabIntQ := PySem.W.Fast.te14927025687674330080
theorem tab0Q_eq : @Heap.tab0Ok = tab0Q := PySem.W.Fast.te5930804224584009831
theorem bmainQ_eq : @Heap.bmainOk = bmainQ := PySem.W.Fast.te5244371056499926238
theorem constQ_eq : @Heap.constOk = constQ := PySem.W.Fast.te3277482597662649166
theorem noSeerQ_eq : @Heap.noSeerOk = noSeerQ := PySem.W.Fast.te9649274521512697073
theorem constAtQ_eq : @constAt = constAtQ := PySem.W.Fast.te1696807537771891022
theorem seenT_eq : @seen = seenT := PySem.W.Fast.te5160383126252970620
noncomputable def boolsQ (R L LI CN : List Str) (VV : List (Str × Option PyData)) (TT : List TTy) (WL : List (Str × WData)) (im : Bool) (mods : List Str) (s : Shared) : Bool :=
  keysOkQ s.heap L R LI CN && (accQ s.heap mods && (s.heap.isNs mainGlobals && (s.heap.isNs builtinsNs && ((TT.all fun t => (match t.2.1 with | some ns => tupIntsQ s.heap t.1 ns | none => true) && (match t.2.2.1 with | some ss => tupStrsQ s.heap t.1 ss | none => true) && (match t.2.2.2 with | some D => tabIntQ s.heap t.1 D | none => true)) &&
  ((s.gens.size == 0) && ((R.all fun n => tab0Q s.heap n) && (bmainQ s.heap && ((VV.all fun v => match v.2 with | some d => constQ s.heap v.1 d | none => true) && ((!im || noSeerQ s.heap) && WL.all (constAtQ s.heap))))))))))
theorem boolsQ_eq (R L LI CN : List Str) (VV : List (Str × Option PyData)) (TT : List TTy) (WL : List (Str × WData)) (im : Bool) (mods : List Str) (s : Shared) : boolsL R L LI CN VV TT WL im mods s = boolsQ R L LI CN VV TT WL im mods s := by
  unfold boolsL boolsQ
  rw [keysOkQ_eq, accQ_eq, tupIntsQ_eq, tupStrsQ_eq, tabIntQ_eq, tab0Q_eq, bmainQ_eq, constQ_eq, noSeerQ_eq, constAtQ_eq]
/-- what is left to compare behind the Bools of seen -/
def seenK {α : Type} (S : Seen) (k : List (Option FnShape) → Option α) : Option α := match S with
  | ⟨df, o, nm, g, bi, nl, gs⟩ => ifB o (ifB nm.isEmpty (ifB g (ifB bi (ifB nl (match gs with
      | 0 => k df
      | _ + 1 => none)))))
theorem seenK_some {α : Type} {S : Seen} {k : List (Option FnShape) → Option α} {y : α} (h : seenK S k = some y) : ∃ df, k df = some y ∧ S = ⟨df, true, [], true, true, true, 0⟩ := by
  obtain ⟨df, o, nm, g, bi, nl, gs⟩ := S
  have h : ifB o (ifB nm.isEmpty (ifB g (ifB bi (ifB nl (match gs with
      | 0 => k df
      | _ + 1 => none))))) = some y := h
  obtain ⟨h6, h⟩ := ifB_some h
  obtain ⟨h7, h⟩ := ifB_some h
  obtain ⟨h8, h⟩ := ifB_some h
  obtain ⟨h9, h⟩ := ifB_some h
  obtain ⟨h10, h⟩ := ifB_some h
  cases gs with
  | succ _ => cases h
  | zero =>
    have e7 : nm = [] := List.isEmpty_iff.mp h7
    subst e7
    subst h6; subst h8; subst h9; subst h10
    exact ⟨df, h, rfl⟩
noncomputable def headA (p : Program) (R L LI CN : List Str) (VV : List (Str × Option PyData)) (TT : List TTy) (WL : List (Str × WData)) (im : Bool) (mods : List Str) (st : SharedT → Thread → Option (SharedT × Thread)) (M : Nat) (w : World) (os : OsState) : Option Unit :=
  match endF st M p w os with
  | some s => frHeap s fun h => ifB (boolsQ R L LI CN VV TT WL im mods (shOf s h)) (some ())
  | none => none
noncomputable def headB (p : Program) (R : List Str) (O : List OwnSpec) (as ts : List Addr) (st : SharedT → Thread → Option (SharedT × Thread)) (M : Nat) (w : World) (os : OsState) : Option (List (Option FnShape) × List (Option Obj) × List (Option Obj)) :=
  match endF st M p w os with
  | some s => frHeap s fun h => ifB (looksF p (boot_heap w.params) (shOf s h)) (ifB (bltB h.bltView) (seenK (seenT R O [] (shOf s h)) fun df => some (df, as.map (getT s), ts.map (getT s))))
  | none => none
/-- the text's own lists -/
structure Lists (q : Program) (loose : List Str) (D : List DefRec) (R : List Str) (O : List OwnSpec) (L LI CN : List Str) (VV : List (Str × Option PyData)) (TT : List TTy) (WL : List (Str × WData)) (im : Bool) : Prop where
  recs : recsOf q = D
  names : D.map (·.name) = R
  owns : ownsOf q = O
  lse : looseW q loose = L
  lits : (litsOf q).map (·.1) = LI
  clss : (clssOf q L).map (·.name) = CN
  vals : ((valNames q).map fun x => (x, valOf q x)) = VV
  tabs : ((valNames q).map fun x => (x, tupIntsOf q x, tupStrsOf q x, tabIntOf q x)) = TT
  wlits : wlitsOf q = WL
  imps : importsNone q = im
  drecs : drecsOf q = []
  plains : plainsOf q L = []
  dclss : dclssOf q loose = []
  wdefs : wdefsOf q = []
  wclss : wclssOf q loose = []
theorem seen_of_bools {q : Program} {loose : List Str} {Xt : Shared → Bool} {D : List DefRec} {R : List Str} {O : List OwnSpec} {L LI CN : List Str} {VV : List (Str × Option PyData)} {TT : List TTy} {WL : List (Str × WData)} {im : Bool} {mods : List Str}
    (X : Lists q loose D R O L LI CN VV TT WL im) (hX : ∀ s, Xt s = true) {s : Shared} {df : List (Option FnShape)}
    (hb : s.heap.bltView = bltViewBooted) (hB : boolsL R L LI CN VV TT WL im mods s = true) (hs : seen R O [] s = ⟨df, true, [], true, true, true, 0⟩) (hd : df = D.map fun d => some d.shape) :
    openSeen q loose mods Xt true s = openGood q loose := by
  obtain ⟨x1, x2, x3, x4, x5, x6, x7, x8, x9, x10, x11, x12, x13, x14, x15⟩ := X
  unfold boolsL at hB
  simp only [Bool.and_eq_true] at hB
  obtain ⟨b1, b2, b3, b4, b5, b6, b7, b8, b9, b10, b11⟩ := hB
  have t1 : tablesOk q s.heap = true := by
    unfold tablesOk
    rw [← x8, List.all_map] at b5
    exact b5
  have t2 : tabsOk q s = true := by
    unfold tabsOk valsOk
    rw [← x7, List.all_map] at b9
    rw [← x2, List.all_map] at b7
    simp only [Bool.and_eq_true]
    exact ⟨⟨⟨by rw [x1]; exact b7, b8⟩, b9⟩, by rw [x10]; exact b10⟩
  have g0 : s.gens.size = 0 := beq_iff_eq.mp b6
  have e1 : seen ((recsOf q).map (·.name)) (ownsOf q) [] { s with gens := #[] } = expectedOf q := by
    have q1 : ({ s with gens := #[] } : Shared) = s := by
      obtain ⟨h, g, d, t, o⟩ := s
      have : g = #[] := Array.eq_empty_of_size_eq_zero g0
      rw [this]
    rw [q1, x1, x2, x3, hs, hd]
    unfold expectedOf
    rw [x1]
  unfold openSeen openGood
  rw [e1, hb, x4, x5, x6, x1, x2, b1, b2, b3, b4, t1, hX, t2, x11]
  have e5 : pinSeenD q [] s = pinGoodD [] := rfl
  have e6 : plainSeenE q L s = plainGoodE q L := by unfold plainSeenE plainGoodE; rw [x12]; rfl
  have e7 : plainSeenD q loose s = plainGoodD q loose := by unfold plainSeenD plainGoodD; rw [x13]; rfl
  have e8 : wideSeen q s = wideGood q := by
    unfold wideSeen wideGood
    rw [x14, x9, b11]
    rfl
  have e9 : clsSeenW q loose s = clsGoodW q loose := by unfold clsSeenW clsGoodW; rw [x15]; rfl
  rw [e5, e6, e7, e8, e9]
  simp only [if_true, g0, Bool.and_self, beq_self_eq_true]
theorem left_small {p q : Program} {loose : List Str} {Xt : Shared → Bool} {K : Params → Frag} {as : List Addr} {ek : ∀ P, as = (K P).map (·.1)} {ts : List Addr} {n M : Nat} {D : List DefRec} {R : List Str} {O : List OwnSpec} {L LI CN : List Str} {VV : List (Str × Option PyData)} {TT : List TTy} {WL : List (Str × WData)} {im : Bool} {mods : List Str}
    (e : opening p = plainProg p.main.scope.names) (hn : Nat.ble 600 n = true) (f : ∀ s, fenceModules? p s = some s) (le : Nat.ble M n = true)
    (X : Lists q loose D R O L LI CN VV TT WL im) (hX : ∀ s, Xt s = true) (hm : importedModules p.main.body = mods)
    (ra : ∀ (w : World) (os : OsState), headA p R L LI CN VV TT WL im mods (stepQ (denQ tabQ) p w) M w os = some ())
    (rb : ∀ (w : World) (os : OsState), headB p R O as ts (stepQ (denQ tabQ) p w) M w os = some (D.map (fun d => some d.shape), (K w.params).map (fun x => some x.2), ts.map fun _ => some (tabObj #[]))) :
    LeftO p q loose Xt (Hook.obs (kmHook K as ek ts)) (Hook.val (kmHook K as ek ts)) n true :=
  left_one (M := M) e hn f le fun w os => by
    have y := ra w os
    have z := rb w os
    unfold headA at y
    unfold headB at z
    rw [endQ_eq]
    cases hs : endF (stepQ (denQ tabQ) p w) M p w os with
    | none => rw [hs] at z; cases z
    | some s =>
      rw [hs] at z y
      have z : (frHeap s fun h => ifB (looksF p (boot_heap w.params) (shOf s h)) (ifB (bltB h.bltView) (seenK (seenT R O [] (shOf s h)) fun df => some (df, as.map (getT s), ts.map (getT s))))) = some (D.map (fun d => some d.shape), (K w.params).map (fun x => some x.2), ts.map fun _ => some (tabObj #[])) := z
      have y : (frHeap s fun h => ifB (boolsQ R L LI CN VV TT WL im mods (shOf s h)) (some ())) = some () := y
      rw [frHeap_eq] at z y
      have ea : shOf s s.abs.heap = s.abs := rfl
      rw [ea] at z y
      obtain ⟨z3, _⟩ := ifB_some y
      obtain ⟨z1, z⟩ := ifB_some z
      obtain ⟨z2, z⟩ := ifB_some z
      obtain ⟨df, z, z4⟩ := seenK_some z
      have z := Option.some.inj z
      obtain ⟨y1, y⟩ := Prod.mk.inj z
      obtain ⟨y2, y3⟩ := Prod.mk.inj y
      have es : openSeen q loose (importedModules p.main.body) Xt true s.abs = openGood q loose := by
        rw [hm]
        rw [← boolsQ_eq] at z3
        rw [← seenT_eq] at z4
        exact seen_of_bools (q := q) X hX (bltB_eq z2) z3 z4 y1
      have eo : Hook.obs (kmHook K as ek ts) s.abs = Hook.val (kmHook K as ek ts) w := by
        have q1 : (as.map (getT s), ts.map (getT s)) = Hook.obs (kmHook K as ek ts) s.abs := Prod.ext (List.map_congr_left fun a _ => getT_eq s a) (List.map_congr_left fun a _ => getT_eq s a)
        rw [← q1, y2, y3]
        rfl
      show some (looksF p (boot_heap w.params) s.abs, openSeen q loose (importedModules p.main.body) Xt true s.abs, Hook.obs (kmHook K as ek ts) s.abs) = _
      rw [z1, es, eo]
/-- one row asked of the world: a run for each answer -/
theorem run_rows (row : String) {P : World → OsState → Prop} (rf : ∀ (w : World) (os : OsState), P (w.withFollow row false) os) (rt : ∀ (w : World) (os : OsState), P (w.withFollow row true) os) (w : World) (os : OsState) : P w os :=
  byRow2 row (P := fun w => ∀ os : OsState, P w os) rf rt w os
theorem xt_true {q : Program} {R : WRecords} (h1 : Flt.mathMods q = []) (h2 : Flt.mathDrawn q = []) (h3 : Flt.patsOf q = []) (h4 : R = []) (s : Shared) : (xlAt q [] s && recOk R s) = true := by
  subst h4
  unfold xlAt Flt.mathXt
  rw [h1, h2, h3]
  rfl
noncomputable def recsQ : Program → List DefRec := PySem.W.Fast.tw3399658132070893891
theorem recsQ_eq : @recsOf = recsQ := PySem.W.Fast.te3399658132070893891
noncomputable def ownsQ : Program → List OwnSpec := PySem.W.Fast.tw5991557255702980513
theorem ownsQ_eq : @ownsOf = ownsQ := PySem.W.Fast.te5991557255702980513
noncomputable def looseQ : Program → List Str → List Str := PySem.W.Fast.tw821141287760084731
theorem looseQ_eq : @looseW = looseQ := PySem.W.Fast.te821141287760084731
noncomputable def litsQ : Program → List (Str × PyData) := PySem.W.Fast.tw7409074990110511671
theorem litsQ_eq : @litsOf = litsQ := PySem.W.Fast.te7409074990110511671
noncomputable def clssQ : Program → List Str → List ClsRec := PySem.W.Fast.tw13664370479719496447
theorem clssQ_eq : @clssOf = clssQ := PySem.W.Fast.te13664370479719496447
noncomputable def valQ : Program → Str → Option PyData := PySem.W.Fast.tw1987589406359920131
theorem valQ_eq : @valOf = valQ := PySem.W.Fast.te1987589406359920131
noncomputable def tupIntsOfQ : Program → Str → Option (List Int) := PySem.W.Fast.tw15722548840688424386
theorem tupIntsOfQ_eq : @tupIntsOf = tupIntsOfQ := PySem.W.Fast.te15722548840688424386
noncomputable def tupStrsOfQ : Program → Str → Option (List Str) := PySem.W.Fast.tw14491516231548247274
theorem tupStrsOfQ_eq : @tupStrsOf = tupStrsOfQ := PySem.W.Fast.te14491516231548247274
noncomputable def tabIntOfQ : Program → Str → Option (List (PyData × PyData)) := PySem.W.Fast.tw10077548348588599076
theorem tabIntOfQ_eq : @tabIntOf = tabIntOfQ := PySem.W.Fast.te10077548348588599076
noncomputable def wlitsQ : Program → List (Str × WData) := PySem.W.Fast.tw11925523677476243305
theorem wlitsQ_eq : @wlitsOf = wlitsQ := PySem.W.Fast.te11925523677476243305
noncomputable def importsNoneQ : Program → Bool := PySem.W.Fast.tw2458874890965802552
theorem importsNoneQ_eq : @importsNone = importsNoneQ := PySem.W.Fast.te2458874890965802552
noncomputable def drecsQ : Program → List (DefRec × List PyData) := PySem.W.Fast.tw3247288618530077131
theorem drecsQ_eq : @drecsOf = drecsQ := PySem.W.Fast.te3247288618530077131
noncomputable def plainsQ : Program → List Str → List ClsRec := PySem.W.Fast.tw210736558901404530
theorem plainsQ_eq : @plainsOf = plainsQ := PySem.W.Fast.te210736558901404530
noncomputable def dclssQ : Program → List Str → List ClsRec := PySem.W.Fast.tw4354255287344443571
theorem dclssQ_eq : @dclssOf = dclssQ := PySem.W.Fast.te4354255287344443571
noncomputable def wdefsQ : Program → List (DefRec × List (Str × PySem.Expr)) := PySem.W.Fast.tw694669760492028198
theorem wdefsQ_eq : @wdefsOf = wdefsQ := PySem.W.Fast.te694669760492028198
noncomputable def wclssQ : Program → List Str → List ClsRec := PySem.W.Fast.tw1571739515156823405
theorem wclssQ_eq : @wclssOf = wclssQ := PySem.W.Fast.te1571739515156823405
theorem lists_of {q : Program} {loose : List Str} {D : List DefRec} {R : List Str} {O : List OwnSpec} {L LI CN : List Str} {VV : List (Str × Option PyData)} {TT : List TTy} {WL : List (Str × WData)} {im : Bool}
    (h1 : recsQ q = D) (h2 : D.map (·.name) = R) (h3 : ownsQ q = O) (h4 : looseQ q loose = L) (h5 : (litsQ q).map (·.1) = LI) (h6 : (clssQ q L).map (·.name) = CN) (h7 : ((valNames q).map fun x => (x, valQ q x)) = VV)
    (h8 : ((valNames q).map fun x => (x, tupIntsOfQ q x, tupStrsOfQ q x, tabIntOfQ q x)) = TT) (h9 : wlitsQ q = WL) (h10 : importsNoneQ q = im) (h11 : drecsQ q = []) (h12 : plainsQ q L = []) (h13 : dclssQ q loose = []) (h14 : wdefsQ q = []) (h15 : wclssQ q loose = []) :
    Lists q loose D R O L LI CN VV TT WL im := by
  rw [← recsQ_eq] at h1
  rw [← ownsQ_eq] at h3
  rw [← looseQ_eq] at h4
  rw [← litsQ_eq] at h5
  rw [← clssQ_eq] at h6
  rw [← valQ_eq] at h7
  rw [← tupIntsOfQ_eq, ← tupStrsOfQ_eq, ← tabIntOfQ_eq] at h8
  rw [← wlitsQ_eq] at h9
  rw [← importsNoneQ_eq] at h10
  rw [← drecsQ_eq] at h11
  rw [← plainsQ_eq] at h12
  rw [← dclssQ_eq] at h13
  rw [← wdefsQ_eq] at h14
  rw [← wclssQ_eq] at h15
  exact ⟨h1, h2, h3, h4, h5, h6, h7, h8, h9, h10, h11, h12, h13, h14, h15⟩
/-- the def that stands at a place of the top -/
def topD (p : Program) (place : Nat) : DefRec :=
  match p.main.body[place]? with
  | some (Stmt.FunctionDef nm ar bd _ _ _ sco _ _ ps) => DefRec.mk nm ar bd sco ps
  | _ => DefRec.mk "" ⟨[], [], none, [], [], none, []⟩ [] ⟨.function, [], false, false, []⟩ default
end N

set_option maxHeartbeats 0
namespace N
open PySem PySem.W PySem.Calls PyProof.Rows HeadRun
/-! the text's own lists for the head -/
noncomputable def hQ : Program := PySem.W.view PySem.Challenge.pw_endlesskinds_k67_turned_parents_refused [1, 2, 3, 4, 5, 6, 7, 9, 10, 11, 12, 13, 14, 15, 16, 17, 18, 19, 20, 21, 22, 24, 25, 26, 27, 28, 29, 30, 31, 32, 34, 35, 36, 37, 38, 39, 40, 41, 42, 43, 44, 45, 46, 47, 48, 49, 50, 51, 52, 53, 54, 55, 56, 57, 58, 59, 61, 62, 63, 64, 65, 66, 67, 68, 69, 71, 73, 74, 75, 76, 77, 78, 79, 80, 81, 82, 83, 84, 85, 86, 87, 88, 89, 90, 91, 92, 93]
def hLo : List Str := [⟨#[84, 85, 82, 78, 69, 68]⟩, ⟨#[66, 65, 82, 82, 69, 68]⟩, ⟨#[84, 97, 98, 108, 101]⟩]
noncomputable def hD : List DefRec := ([11, 12, 13, 14, 15, 16, 17, 18, 19, 20, 21, 22, 29, 30, 31, 32, 38, 39, 40, 41, 42, 43, 44, 45, 46, 47, 48, 49, 50, 51, 52, 53, 54, 55, 56, 57, 58, 59, 61, 62, 63, 64, 65, 66, 67, 68, 69, 73, 74, 75, 76, 77, 78, 79, 80, 81, 82, 83, 84, 85, 86, 87, 88, 89, 90, 91, 92, 93] : List Nat).map (topD PySem.Challenge.pw_endlesskinds_k67_turned_parents_refused)
def hR : List Str := [⟨#[105, 115, 95, 108, 101, 116, 116, 101, 114]⟩, ⟨#[105, 115, 95, 110, 97, 109, 101]⟩, ⟨#[98, 101, 103, 105, 110, 115, 95, 99, 108, 97, 115, 115, 95, 116, 121, 112, 101]⟩, ⟨#[105, 115, 95, 116, 121, 112, 101]⟩, ⟨#[112, 97, 114, 116, 115]⟩, ⟨#[99, 108, 97, 115, 115, 95, 116, 121, 112, 101, 115]⟩, ⟨#[115, 105, 122, 101, 95, 111, 102]⟩, ⟨#[119, 114, 105, 116, 116, 101, 110]⟩, ⟨#[116, 101, 120, 116, 95, 111, 102]⟩, ⟨#[119, 111, 114, 100, 95, 97, 116]⟩, ⟨#[115, 99, 97, 110]⟩, ⟨#[114, 101, 97, 100]⟩, ⟨#[112, 97, 115, 115, 101, 100, 95, 111, 110]⟩, ⟨#[115, 105, 103, 110, 101, 100, 95, 108, 101, 116, 116, 101, 114, 115]⟩, ⟨#[105, 115, 95, 98, 97, 114, 114, 101, 100]⟩, ⟨#[119, 114, 111, 110, 103, 95, 108, 101, 116, 116, 101, 114, 115]⟩, ⟨#[105, 115, 95, 115, 104, 111, 114, 116, 95, 116, 117, 112, 108, 101]⟩, ⟨#[97, 108, 108, 95, 100, 105, 102, 102, 101, 114]⟩, ⟨#[105, 115, 95, 100, 101, 99, 108, 97, 114, 101, 100]⟩, ⟨#[105, 115, 95, 112, 97, 114, 97, 109, 101, 116, 101, 114]⟩, ⟨#[97, 114, 101, 95, 112, 97, 114, 97, 109, 101, 116, 101, 114, 115]⟩, ⟨#[97, 114, 101, 95, 112, 97, 114, 101, 110, 116, 115]⟩, ⟨#[105, 115, 95, 109, 101, 109, 98, 101, 114]⟩, ⟨#[97, 114, 101, 95, 109, 101, 109, 98, 101, 114, 115]⟩, ⟨#[105, 115, 95, 99, 108, 97, 115, 115]⟩, ⟨#[110, 97, 109, 101, 115, 95, 111, 102]⟩, ⟨#[108, 101, 116, 116, 101, 114, 115, 95, 111, 102]⟩, ⟨#[100, 101, 99, 108, 97, 114, 101, 100]⟩, ⟨#[97, 114, 105, 116, 105, 101, 115]⟩, ⟨#[118, 97, 114, 105, 97, 110, 99, 101, 115, 95, 111, 102]⟩, ⟨#[105, 115, 95, 111, 102]⟩, ⟨#[99, 104, 101, 99, 107, 95, 102, 111, 114, 109, 115]⟩, ⟨#[99, 104, 101, 99, 107, 95, 102, 105, 116]⟩, ⟨#[104, 101, 97, 100, 115, 95, 111, 102]⟩, ⟨#[101, 108, 100, 101, 114, 115]⟩, ⟨#[99, 104, 101, 99, 107, 95, 101, 108, 100, 101, 114, 115]⟩, ⟨#[99, 104, 101, 99, 107, 95, 112, 97, 114, 101, 110, 116, 115]⟩, ⟨#[99, 104, 101, 99, 107, 95, 99, 108, 97, 115, 115, 101, 115]⟩, ⟨#[112, 97, 114, 97, 109, 101, 116, 101, 114, 115, 95, 116, 101, 120, 116]⟩, ⟨#[112, 97, 114, 101, 110, 116, 115, 95, 116, 101, 120, 116]⟩, ⟨#[99, 108, 97, 115, 115, 95, 116, 101, 120, 116]⟩, ⟨#[99, 108, 97, 115, 115, 101, 115, 95, 116, 101, 120, 116]⟩, ⟨#[114, 101, 97, 100, 95, 112, 97, 114, 97, 109, 101, 116, 101, 114, 115]⟩, ⟨#[114, 101, 97, 100, 95, 112, 97, 114, 101, 110, 116, 115]⟩, ⟨#[114, 101, 97, 100, 95, 104, 101, 97, 100]⟩, ⟨#[119, 105, 116, 104, 95, 109, 101, 109, 98, 101, 114]⟩, ⟨#[114, 101, 97, 100, 95, 99, 108, 97, 115, 115, 101, 115]⟩, ⟨#[95, 108, 97, 119, 95, 99, 101, 108, 108, 95, 97, 116]⟩, ⟨#[95, 108, 97, 119, 95, 105, 110, 107]⟩, ⟨#[95, 108, 97, 119, 95, 100, 114, 97, 119]⟩, ⟨#[95, 108, 97, 119, 95, 112, 105, 99, 107]⟩, ⟨#[95, 108, 97, 119, 95, 110, 111, 100, 101, 115]⟩, ⟨#[95, 108, 97, 119, 95, 100, 114, 97, 119, 110]⟩, ⟨#[95, 108, 97, 119, 95, 112, 97, 114, 101, 110, 116]⟩, ⟨#[95, 108, 97, 119, 95, 111, 119, 110]⟩, ⟨#[95, 108, 97, 119, 95, 109, 97, 114, 107, 115]⟩, ⟨#[95, 108, 97, 119, 95, 114, 111, 119]⟩, ⟨#[95, 108, 97, 119, 95, 99, 108, 97, 115, 115, 101, 115]⟩, ⟨#[95, 108, 97, 119, 95, 116, 97, 98, 108, 101]⟩, ⟨#[95, 108, 97, 119, 95, 115, 104, 97, 112, 101, 115]⟩, ⟨#[95, 108, 97, 119, 95, 109, 101, 109, 98, 101, 114, 115]⟩, ⟨#[95, 108, 97, 119, 95, 119, 105, 116, 104, 95, 109, 101, 109, 98, 101, 114, 115]⟩, ⟨#[95, 108, 97, 119, 95, 116, 117, 114, 110, 101, 100]⟩, ⟨#[95, 108, 97, 119, 95, 116, 111, 108, 100]⟩, ⟨#[95, 108, 97, 119, 95, 100, 117, 101, 95, 111, 102]⟩, ⟨#[95, 108, 97, 119, 95, 118, 97, 114, 105, 101, 100]⟩, ⟨#[95, 108, 97, 119, 95, 114, 105, 103, 104, 116]⟩, ⟨#[108, 97, 119]⟩]
def hO : List OwnSpec := [⟨⟨#[75, 105, 110, 100, 69, 114, 114, 111, 114]⟩, [], [.type "ValueError", .type "Exception", .type "BaseException", .type "object"], "ValueError.__new__"⟩, ⟨⟨#[78, 111, 84, 101, 120, 116]⟩, [⟨#[75, 105, 110, 100, 69, 114, 114, 111, 114]⟩], [.type "ValueError", .type "Exception", .type "BaseException", .type "object"], "ValueError.__new__"⟩, ⟨⟨#[78, 111, 67, 108, 97, 115, 115]⟩, [⟨#[75, 105, 110, 100, 69, 114, 114, 111, 114]⟩], [.type "ValueError", .type "Exception", .type "BaseException", .type "object"], "ValueError.__new__"⟩, ⟨⟨#[78, 111, 78, 97, 109, 101]⟩, [⟨#[75, 105, 110, 100, 69, 114, 114, 111, 114]⟩], [.type "ValueError", .type "Exception", .type "BaseException", .type "object"], "ValueError.__new__"⟩]
def hL : List Str := [⟨#[84, 85, 82, 78, 69, 68]⟩, ⟨#[66, 65, 82, 82, 69, 68]⟩, ⟨#[84, 97, 98, 108, 101]⟩, ⟨#[86, 65, 82, 73, 65, 78, 67, 69, 83]⟩, ⟨#[87, 65, 89, 83]⟩]
def hLI : List Str := [⟨#[76, 79, 78, 71, 69, 83, 84, 95, 78, 65, 77, 69]⟩, ⟨#[77, 79, 83, 84, 95, 65, 82, 71, 85, 77, 69, 78, 84, 83]⟩, ⟨#[80, 76, 85, 83]⟩, ⟨#[66, 79, 84, 72]⟩, ⟨#[77, 79, 83, 84, 95, 67, 76, 65, 83, 83, 69, 83]⟩, ⟨#[77, 79, 83, 84, 95, 73, 78, 95, 67, 76, 65, 83, 83]⟩, ⟨#[77, 79, 83, 84, 95, 83, 73, 90, 69]⟩]
def hCN : List Str := [⟨#[75, 105, 110, 100, 69, 114, 114, 111, 114]⟩, ⟨#[78, 111, 84, 101, 120, 116]⟩, ⟨#[78, 111, 67, 108, 97, 115, 115]⟩, ⟨#[78, 111, 78, 97, 109, 101]⟩, ⟨#[85, 110, 102, 105, 116]⟩, ⟨#[76, 111, 111, 112, 101, 100]⟩, ⟨#[84, 117, 114, 110, 101, 100]⟩]
def hVV : List (Str × Option PyData) := [(⟨#[76, 79, 78, 71, 69, 83, 84, 95, 78, 65, 77, 69]⟩, some (.int (8))), (⟨#[77, 79, 83, 84, 95, 65, 82, 71, 85, 77, 69, 78, 84, 83]⟩, some (.int (2))), (⟨#[86, 65, 82, 73, 65, 78, 67, 69, 83]⟩, none), (⟨#[80, 76, 85, 83]⟩, some (.str ⟨#[43]⟩)), (⟨#[66, 79, 84, 72]⟩, some (.str ⟨#[43, 45]⟩)), (⟨#[84, 85, 82, 78, 69, 68]⟩, none), (⟨#[66, 65, 82, 82, 69, 68]⟩, none), (⟨#[77, 79, 83, 84, 95, 67, 76, 65, 83, 83, 69, 83]⟩, some (.int (5))), (⟨#[77, 79, 83, 84, 95, 73, 78, 95, 67, 76, 65, 83, 83]⟩, some (.int (2))), (⟨#[77, 79, 83, 84, 95, 83, 73, 90, 69]⟩, some (.int (6))), (⟨#[87, 65, 89, 83]⟩, none)]
def hTT : List TTy := [(⟨#[76, 79, 78, 71, 69, 83, 84, 95, 78, 65, 77, 69]⟩, none, none, none), (⟨#[77, 79, 83, 84, 95, 65, 82, 71, 85, 77, 69, 78, 84, 83]⟩, none, none, none), (⟨#[86, 65, 82, 73, 65, 78, 67, 69, 83]⟩, none, some ([⟨#[111, 117, 116]⟩, ⟨#[105, 110]⟩, ⟨#[115, 97, 109, 101]⟩]), none), (⟨#[80, 76, 85, 83]⟩, none, none, none), (⟨#[66, 79, 84, 72]⟩, none, none, none), (⟨#[84, 85, 82, 78, 69, 68]⟩, none, none, none), (⟨#[66, 65, 82, 82, 69, 68]⟩, none, none, none), (⟨#[77, 79, 83, 84, 95, 67, 76, 65, 83, 83, 69, 83]⟩, none, none, none), (⟨#[77, 79, 83, 84, 95, 73, 78, 95, 67, 76, 65, 83, 83]⟩, none, none, none), (⟨#[77, 79, 83, 84, 95, 83, 73, 90, 69]⟩, none, none, none), (⟨#[87, 65, 89, 83]⟩, none, some ([⟨#[114, 101, 97, 100, 115]⟩, ⟨#[116, 97, 107, 101, 115]⟩, ⟨#[104, 111, 108, 100, 115]⟩]), none)]
def hWL : List (Str × WData) := [(⟨#[86, 65, 82, 73, 65, 78, 67, 69, 83]⟩, .tuple [.str ⟨#[111, 117, 116]⟩, .str ⟨#[105, 110]⟩, .str ⟨#[115, 97, 109, 101]⟩]), (⟨#[87, 65, 89, 83]⟩, .tuple [.str ⟨#[114, 101, 97, 100, 115]⟩, .str ⟨#[116, 97, 107, 101, 115]⟩, .str ⟨#[104, 111, 108, 100, 115]⟩])]
def hM : List Str := []
theorem hs_h1 : recsQ hQ = hD := by kernel_rfl
theorem hs_h2 : hD.map (·.name) = hR := by kernel_rfl
theorem hs_h3 : ownsQ hQ = hO := by kernel_rfl
theorem hs_h4 : looseQ hQ hLo = hL := by kernel_rfl
theorem hs_h5 : (litsQ hQ).map (·.1) = hLI := by kernel_rfl
theorem hs_h6 : (clssQ hQ hL).map (·.name) = hCN := by kernel_rfl
theorem hs_h7 : ((valNames hQ).map fun x => (x, valQ hQ x)) = hVV := by kernel_rfl
theorem hs_h8 : ((valNames hQ).map fun x => (x, tupIntsOfQ hQ x, tupStrsOfQ hQ x, tabIntOfQ hQ x)) = hTT := by kernel_rfl
theorem hs_h9 : wlitsQ hQ = hWL := by kernel_rfl
theorem hs_h10 : importsNoneQ hQ = true := by kernel_rfl
theorem hs_h11 : drecsQ hQ = [] := by kernel_rfl
theorem hs_h12 : plainsQ hQ hL = [] := by kernel_rfl
theorem hs_h13 : dclssQ hQ hLo = [] := by kernel_rfl
theorem hs_h14 : wdefsQ hQ = [] := by kernel_rfl
theorem hs_h15 : wclssQ hQ hLo = [] := by kernel_rfl
theorem hs_hm : importedModules PySem.Challenge.pw_endlesskinds_k67_turned_parents_refused.main.body = hM := by kernel_rfl
theorem hs_x1 : Flt.mathMods hQ = [] := by kernel_rfl
theorem hs_x2 : Flt.mathDrawn hQ = [] := by kernel_rfl
theorem hs_x3 : Flt.patsOf hQ = [] := by kernel_rfl
theorem hs : Lists hQ hLo hD hR hO hL hLI hCN hVV hTT hWL true := lists_of hs_h1 hs_h2 hs_h3 hs_h4 hs_h5 hs_h6 hs_h7 hs_h8 hs_h9 hs_h10 hs_h11 hs_h12 hs_h13 hs_h14 hs_h15
theorem hs_xt : ∀ s : Shared, (xlAt hQ [] s && recOk (RowW.records PySem.Challenge.rw_endlesskinds_k67_turned_parents_refused.row.toRowW) s) = true := fun s => xt_true (R := RowW.records PySem.Challenge.rw_endlesskinds_k67_turned_parents_refused.row.toRowW) hs_x1 hs_x2 hs_x3 (by kernel_rfl) s
end N

set_option maxHeartbeats 0
section
open PySem PySem.W PyProof.Rows
local macro_rules
  | `(tactic| o_head $H:term) => `(tactic| assumption)
/-- makes the objects that are asked for, by their names -/
theorem N.kmade (h : PySem.Challenge.rw_endlesskinds_k67_turned_parents_refused.row.Holds) : PySem.Challenge.rw_endlesskinds_k67_turned_parents_refused.row.Holds := by
  k_head
end
namespace N
open PySem PySem.W PySem.Calls PyProof.Rows HeadRun
abbrev hAs : List Addr := [2, 3, 15, 22, 23, 24, 25, 28, 35, 36, 37, 40, 47, 48, 49, 52, 59, 60, 61, 64, 67, 72, 73, 75, 76, 78, 79, 80, 81, 82, 85, 88, 93, 94, 96, 97, 99, 100, 101, 102, 103, 106, 109, 114, 115, 117, 118, 120, 121, 122, 123, 124, 127, 129, 130, 132, 133, 134, 136, 137, 139, 140, 141, 143, 144, 146, 147, 148, 150, 151, 153, 154, 155, 157, 158, 160, 161, 162, 165, 166, 167, 169, 170, 172, 173, 174, 176, 177, 179, 180, 181, 183, 184, 186, 187, 188, 190, 191, 193, 194, 195, 197, 198, 200, 201, 202, 204, 205, 207, 208, 209, 210, 211, 212, 214, 215, 217, 218, 219, 221, 222, 224, 225, 226, 228, 229, 231, 232, 233, 236, 237, 238, 239, 241, 242, 244, 245, 246, 248, 249, 251, 252, 253, 255, 256, 258, 259, 260, 262, 263, 265, 266, 267, 270, 271, 272, 275, 276, 277, 279, 280, 282, 283, 284, 287, 288, 289, 291, 292, 294, 295, 296, 299, 300, 301, 304, 305, 306, 309, 310, 311, 314, 315, 316, 319, 320, 321, 323, 324, 326, 327, 328, 331, 332, 333, 336, 337, 338, 341, 342, 343, 345, 346, 348, 349, 350, 352, 353, 355, 356, 357, 360, 361, 362, 364, 365, 367, 368, 369, 372, 373, 374, 377, 378, 379, 381, 382, 384, 385, 386, 389, 390, 391, 394, 395, 396, 398, 399, 401, 402, 403, 405, 406, 408, 409, 410, 412, 413, 415, 416, 417, 419, 420, 422, 423, 431, 433, 434, 436, 437, 438, 440, 441, 443, 444, 445, 446, 448, 449, 451, 452, 453, 454, 456, 457, 459, 460, 461, 463, 464, 466, 467, 468, 470, 471, 473, 474, 475, 477, 478, 480, 481, 482, 484, 485, 487, 488, 489, 491, 492, 494, 495, 496, 498, 499, 501, 502, 503, 506, 507, 508, 510, 511, 513, 514, 515, 517, 518, 520, 521, 522, 523, 524, 525, 526, 527, 528, 529, 532, 534, 535, 537, 538, 539, 541, 542, 544, 545, 546, 548, 549, 551, 552, 553, 555, 556, 558, 559, 560, 562, 563, 565, 566, 567, 569, 570, 572, 573, 574, 576, 577, 579, 580, 581, 583, 584, 586, 587, 588, 590, 591, 593, 594, 595, 598, 599, 600, 602, 603, 605, 606, 607, 609, 610, 612, 613, 614, 617, 618, 619, 621, 622, 624, 625, 626, 629, 630, 631, 634, 635, 636, 638, 639, 641, 642, 643, 645, 646, 648, 649, 650, 652, 653, 655, 656, 657, 660, 661, 662, 664, 665, 667, 668]
theorem hAs_eq : ∀ P, hAs = (N.kmade.heap_1 P).map (·.1) := fun _ => by kernel_rfl
abbrev hRa (w : World) (os : OsState) : Prop := headA PySem.Challenge.rw_endlesskinds_k67_turned_parents_refused.row.prog hR hL hLI hCN hVV hTT hWL true hM (stepQ (denQ tabQ) PySem.Challenge.rw_endlesskinds_k67_turned_parents_refused.row.prog w) 4768 w os = some ()
abbrev hRb (w : World) (os : OsState) : Prop := headB PySem.Challenge.rw_endlesskinds_k67_turned_parents_refused.row.prog hR hO hAs [658] (stepQ (denQ tabQ) PySem.Challenge.rw_endlesskinds_k67_turned_parents_refused.row.prog w) 4768 w os = some (hD.map (fun d => some d.shape), (N.kmade.heap_1 w.params).map (fun x => some x.2), ([658] : List Addr).map fun _ => some (tabObj #[]))
theorem hra_f (w : World) (os : OsState) : hRa (w.withFollow "special-get-raises" false) os := by kernel_rfl
theorem hra_t (w : World) (os : OsState) : hRa (w.withFollow "special-get-raises" true) os := by kernel_rfl
theorem hrb_f (w : World) (os : OsState) : hRb (w.withFollow "special-get-raises" false) os := by kernel_rfl
theorem hrb_t (w : World) (os : OsState) : hRb (w.withFollow "special-get-raises" true) os := by kernel_rfl
theorem hleft : LeftO PySem.Challenge.rw_endlesskinds_k67_turned_parents_refused.row.prog hQ hLo (fun s => xlAt hQ [] s && recOk (RowW.records PySem.Challenge.rw_endlesskinds_k67_turned_parents_refused.row.toRowW) s) (Hook.obs (kmHook N.kmade.heap_1 hAs hAs_eq [658])) (Hook.val (kmHook N.kmade.heap_1 hAs hAs_eq [658])) 10296 true := by
  refine N.left_small (M := 4768) ?ze ?zn ?zf ?zl N.hs N.hs_xt N.hs_hm ?zra ?zrb
  case ze => kernel_rfl
  case zn => rfl
  case zf => exact fun s => by kernel_rfl
  case zl => rfl
  case zra => exact N.run_rows (P := hRa) "special-get-raises" hra_f hra_t
  case zrb => exact N.run_rows (P := hRb) "special-get-raises" hrb_f hrb_t
theorem hdef : defOf hQ PySem.Challenge.rw_endlesskinds_k67_turned_parents_refused.row.name = some (topD PySem.Challenge.pw_endlesskinds_k67_turned_parents_refused 93, []) := by kernel_rfl
theorem hdef2 : PySem.Challenge.rw_endlesskinds_k67_turned_parents_refused.row.prog.theDef PySem.Challenge.rw_endlesskinds_k67_turned_parents_refused.row.name = some ((topD PySem.Challenge.pw_endlesskinds_k67_turned_parents_refused 93).params, (topD PySem.Challenge.pw_endlesskinds_k67_turned_parents_refused 93).body, (topD PySem.Challenge.pw_endlesskinds_k67_turned_parents_refused 93).scope) := by kernel_rfl
theorem hok : (chainsOk hQ && opensWell PySem.Challenge.rw_endlesskinds_k67_turned_parents_refused.row.prog && (frees PySem.Challenge.rw_endlesskinds_k67_turned_parents_refused.row.toRowW && PySem.Challenge.rw_endlesskinds_k67_turned_parents_refused.row.within.isEmpty)) = true := by decide +kernel
end N

namespace N
open PySem PySem.Spec PyProof.Rows L2
/-! ### rules that were lacking -/
theorem extend_tup_any (l : Addr) (items : Array Value) (n : Nat) (b : Addr) (items2 : Array Value) (n2 : Nat) (dd : Option Addr) (sl : Array (Option Value)) (hs0 : ¬(!items.isEmpty && Builtin.List.listTooLong (items.size + items2.size)) = true) (hs1 : items.size ≤ sizeLine) (hs2 : items.size + items2.size ≤ sizeLine + 1) :
    Meets (Builtin.«list.extend» ⟨[.ref l, .ref b], []⟩) (fun _ R s => s.heap.get? l = some { cls := .type "list", dict := none, data := .seq items n, slots := #[] } ∧ s.heap.get? b = some { cls := .type "tuple", dict := dd, data := .seq items2 n2, slots := sl } ∧ R (.ok (.ret Value.none)) { s with heap := s.heap.update l (Obj.mapSeq fun x => x ++ items2), toks := s.toks }) :=
  .of_wp fun prog w A R s h => by
    obtain ⟨hp, g, d, tk, os⟩ := s; obtain ⟨hl, hb, h⟩ := h
    have f1 := AutoSeq1.idx_int; have f2 := AutoSeq1.sub_tuple_tuple; have f3 := AutoSeq1.sub_list_list; have f4 := AutoSeq1.sub_tuple_list; have f5 := AutoSeq1.sub_list_tuple
    have hz' : (items ++ items2).size ≤ sizeLine + 1 := by rw [Array.size_append]; exact hs2
    wp_walk using (wpAny_updateSeq hl rfl (hz := hs1) (_hz' := hz')), AutoSeq1.wpAny_loadPart' hl, AutoSeq1.wpAny_loadPart' hb; exact ⟨_, rfl, h⟩
/-- l.extend(t), t a tuple -/
def rExtendT (K : PySem.W.Frag) : V → List V → Hp → VK → Prop := fun x vs H Q => ∃ l b xs zs, x = .ref l ∧ vs = [.ref b] ∧ H l = some (.lst xs) ∧ SqT K H b zs ∧ xs.length + zs.length ≤ sizeLine ∧ Q .non (upd H l (.lst (xs ++ zs)))
section
variable {X : Cx}
theorem mt_extendT : MtM X "list.extend" (rExtendT X.K) := by
  intro pins s σ H x vs v us Q I rx rv h
  obtain ⟨l, b, xs, zs, rfl, rfl, hH, hB, hz, q⟩ := h
  cases rx
  obtain ⟨u, rfl, ru⟩ := rv.one
  cases ru
  obtain ⟨z, its, n, r, hl, e⟩ := I.lstM hH
  obtain ⟨its2, r2, ⟨⟨cls, dd, data, sls⟩, e2, hc, n2, hd⟩, hl2⟩ := I.tuple hB
  simp only at hc hd
  subst hc hd
  have hx1 := r.length
  have hx2 := r2.length
  have hsz : its.toArray.size + its2.toArray.size ≤ sizeLine := by rw [List.size_toArray, List.size_toArray]; omega
  have hlong : ¬ (!its.toArray.isEmpty && Builtin.List.listTooLong (its.toArray.size + its2.toArray.size)) = true := by
    rw [notLongL hsz, Bool.and_false]
    exact Bool.false_ne_true
  refine call_meets F.slot_list_extend ⟨_, e, rfl⟩ F.entry_list_extend (F.args_list_extend_2 _ _)
    (extend_tup_any l its.toArray n b its2.toArray n2 dd sls hlong (by rw [List.size_toArray]; omega) (by omega)) ⟨e, e2, ?_⟩
  refine ⟨.non, _, I.lset (its' := its ++ its2) hH e (by simp) (r.append r2) ?_, rfl, q⟩
  rw [List.length_append]
  omega
end
end N

namespace N
open PySem PySem.Spec PyProof.Rows L2 HT
section
variable {prog : Program} {w : World} {A : Around} {E : Value → Shared → Prop} {s : Shared}
theorem adjust_back (n : Nat) (h : 1 ≤ n) : Builtin.Slice.sliceAdjust none (some 0) (-1) (n : Int) = ((n : Int) - 1, 0) := by
  unfold Builtin.Slice.sliceAdjust
  have h1 : ((-1 : Int) < 0) := by omega
  simp only [h1, if_true]
  refine Prod.ext ?_ ?_
  · first | rfl | (simp; done) | omega
  · show _ = _
    simp
    omega
theorem places_back (n : Nat) (h : 1 ≤ n) : Builtin.Slice.slicePlaces ((n : Int) - 1) 0 (-1) = n - 1 := by
  unfold Builtin.Slice.slicePlaces
  have h1 : ¬ ((-1 : Int) > 0) := by omega
  simp only [h1, if_false]
  have e : (- -1 : Int) = 1 := by decide
  rw [e, Int.ediv_one]
  split <;> omega
theorem applied_back {sl : Addr} {vl vu vs : Value} {n : Nat} {Q : Int × Int × Nat → Shared → Prop} (h1 : 1 ≤ n) (hs : s.heap.IsSliceOf sl vl vu vs) (pl : IsPart vl none) (pu : IsPart vu (some 0)) (ps : IsPart vs (some (-1)))
    (h : Q ((n : Int) - 1, -1, n - 1) s) : wpAny (model prog w) A (Builtin.Slice.sliceApplied (.ref sl) (pure (n : Int))) Q E s := by
  obtain ⟨os, hos, hcs, hds⟩ := id hs
  unfold Builtin.Slice.sliceApplied Builtin.Slice.sliceFields
  refine wpAny_bind (wpAny_bind (wpAny_field hos hds (x := vl) rfl (wpAny_bind (wpAny_field hos hds (x := vu) rfl (wpAny_bind (wpAny_field hos hds (x := vs) rfl (wpAny_pure ?_)))))))
  refine wpAny_bind (slicePart_ ps ?_)
  show wpAny _ _ (if ((-1 : Int) == 0) = true then _ else _) _ _ s
  rw [if_neg (by decide)]
  refine wpAny_bind (slicePart_ pl (wpAny_bind (slicePart_ pu (wpAny_bind (wpAny_pure ?_)))))
  show wpAny _ _ (match Builtin.Slice.sliceAdjust none (some 0) (-1) (n : Int) with | (lo, hi) => pure (lo, (-1 : Int), Builtin.Slice.slicePlaces lo hi (-1))) _ _ s
  rw [adjust_back n h1]
  show wpAny _ _ (pure ((n : Int) - 1, (-1 : Int), Builtin.Slice.slicePlaces ((n : Int) - 1) 0 (-1))) _ _ s
  rw [places_back n h1]
  exact wpAny_pure h
theorem pick_back (xs : Array Value) (h : 1 ≤ xs.size) : ((List.range (xs.size - 1)).filterMap fun (m : Nat) => xs[(((xs.size : Int) - 1) + (m : Int) * (-1)).toNat]?).toArray = (xs.toList.drop 1).reverse.toArray := by
  refine congrArg List.toArray ?_
  have e : ∀ m ∈ List.range (xs.size - 1), xs[(((xs.size : Int) - 1) + (m : Int) * (-1)).toNat]? = some (xs.toList.reverse.getD m .none) := by
    intro m hm
    have hm' := List.mem_range.mp hm
    have e1 : (((xs.size : Int) - 1) + (m : Int) * (-1)).toNat = xs.size - 1 - m := by omega
    rw [e1, ← Array.getElem?_toList, List.getD_eq_getElem?_getD, List.getElem?_reverse (by rw [Array.length_toList]; omega), Array.length_toList,
      List.getElem?_eq_getElem (show xs.size - 1 - m < xs.toList.length by rw [Array.length_toList]; omega)]
    rfl
  have e2 : (List.range (xs.size - 1)).filterMap (fun (m : Nat) => xs[(((xs.size : Int) - 1) + (m : Int) * (-1)).toNat]?) = (List.range (xs.size - 1)).filterMap (fun m => some (xs.toList.reverse.getD m .none)) := by
    generalize List.range (xs.size - 1) = l at e
    induction l with
    | nil => rfl
    | cons a r ih =>
      rw [List.filterMap_cons, List.filterMap_cons, e a List.mem_cons_self, ih fun m hm => e m (List.mem_cons_of_mem _ hm)]
  rw [e2, List.filterMap_eq_map' ] <;> try rfl
  apply List.ext_getElem?
  intro i
  rw [List.getElem?_map]
  by_cases hi : i < xs.size - 1
  · rw [List.getElem?_range hi, List.getElem?_reverse (by rw [List.length_drop, Array.length_toList]; omega), List.length_drop, Array.length_toList, List.getElem?_drop,
      Option.map_some, List.getD_eq_getElem?_getD, List.getElem?_reverse (by rw [Array.length_toList]; omega), Array.length_toList,
      show 1 + (xs.size - 1 - 1 - i) = xs.size - 1 - i by omega, List.getElem?_eq_getElem (show xs.size - 1 - i < xs.toList.length by rw [Array.length_toList]; omega)]
    rfl
  · rw [List.getElem?_eq_none (by rw [List.length_range]; omega), List.getElem?_eq_none (by rw [List.length_reverse, List.length_drop, Array.length_toList]; omega)]
    rfl
theorem getItem_tuple_back {t sl : Addr} {items : Array Value} {vl vu vs : Value} {Q : Value → Shared → Prop} (ht : IsTup s.heap t items) (h1 : 1 ≤ items.size) (hs : s.heap.IsSliceOf sl vl vu vs) (pl : IsPart vl none) (pu : IsPart vu (some 0)) (ps : IsPart vs (some (-1)))
    (h : Q (.ref s.heap.objs.size) { s with heap := s.heap.push { cls := .type "tuple", data := .seq (items.toList.drop 1).reverse.toArray } })
    (hsz : items.size ≤ sizeLine) : wpAny (model prog w) A (getItem (.ref t) (.ref sl)) Q E s := by
  have htake : sizeOk (.seq (items.toList.drop 1).reverse.toArray) := by
    show ((items.toList.drop 1).reverse).toArray.size ≤ sizeLine
    rw [List.size_toArray, List.length_reverse, List.length_drop, Array.length_toList]
    omega
  obtain ⟨os, hos, hcs, hds⟩ := id hs
  have hTs : s.TypeIs (.ref sl) "slice" := ⟨os, hos, hcs⟩
  unfold getItem
  try with_reducible refine wpAny_holding ?_
  first | refine wpAny_bind (wpAny_pure ?_) | skip
  refine wpAny_bind (wpAny_sequenceKey ht.typeIs (by decide) ?_)
  refine wpAny_bind (wpAny_callSpecial?_slot (name := Str.ofString "__getitem__") ht.typeIs PyProof.Rows.slot_tuple_getitem
    (wpAny_call_entry PyProof.Rows.slot_tuple_getitem ht.typeIs entry_tuple_getitem ?_ (args_tuple_getitem _ _)))
  show wpAny _ _ (Builtin.Tuple.tupleItemsOf (.ref t) >>= _) _ _ s
  refine wpAny_bind (tupleItemsOf_ ht ?_)
  refine wpAny_bind (wpAny_typeOf hTs ?_)
  rw [if_pos (by decide)]
  refine wpAny_bind (applied_back h1 hs pl pu ps ?_)
  show wpAny _ _ (if ((((items.size : Int) - 1)) == 0 && (-1 : Int) == 1 && (items.size - 1) == items.size) = true then _ else _) _ _ s
  rw [if_neg (by simp), pick_back items h1]
  first
    | exact wpAny_bind (m := Builtin.Tuple.tupleExact _) (wpAny_newObj_type (wpAny_pure ⟨_, rfl, wpAny_pure h⟩) htake)
    | exact wpAny_bind (m := Builtin.Tuple.tupleExact _) (wpAny_newObj_type (wpAny_bind (wpAny_pure (wpAny_pure ⟨_, rfl, wpAny_pure h⟩))) htake)
    | exact wpAny_bind (wpAny_bind (m := Builtin.Tuple.tupleExact _) (wpAny_newObj_type (wpAny_pure (wpAny_pure ⟨_, rfl, wpAny_pure h⟩)) htake))
    | exact wpAny_bind (wpAny_bind (m := Builtin.Tuple.tupleExact _) (wpAny_newObj_type (wpAny_pure ⟨_, rfl, wpAny_pure h⟩) htake))
end
/-- t[:0:-1] -/
def tBackT (K : PySem.W.Frag) (te : TE) : TE := fun σ H Q => te σ H fun x H1 => ∃ a xs, x = .ref a ∧ SqT K H1 a xs ∧ 1 ≤ xs.length ∧ ∀ p, H1 p = none → Q (.ref p) (upd H1 p (.tup (xs.drop 1).reverse))
section
variable {X : Cx}
theorem pe_backT {e : Expr} {te : TE} {k k0 : Nat} {p0 p1 p2 p3 pos : Pos} (he : PE X e te) : PE X (.Subscript e (.Slice none (some (.Constant (.int 0) k0 p0)) (some (.UnaryOp .USub (.Constant (.int 1) k p1) p2)) p3) pos) (tBackT X.K te) := by
  refine ⟨fun pins s σ H Q I h => ?_⟩
  refine Subscript_ (thn (he.run pins s σ H _ I h) fun v s1 ⟨x, H1, I1, r1, q1⟩ => ?_)
  obtain ⟨a, xs, ex, hx, h1, q⟩ := q1
  subst ex
  cases r1
  have hst : PO X (some (.UnaryOp .USub (.Constant (.int 1) k p1) p2)) (tPart (tUn (rU fun i => .int (-i)) (tC (.int 1)))) := po_some (pe_un un_neg pe_int)
  have hhi : PO X (some (.Constant (.int 0) k0 p0)) (tPart (tC (.int 0))) := po_some pe_int
  refine wpAny_Slice (thn (po_none.run pins s1 σ H1 (fun o H2 => o = none ∧ H2 = H1) I1 ⟨rfl, rfl⟩) fun vl s2 ⟨l, H2, I2, pl, el, e2⟩ => ?_)
  subst el e2
  refine thn (hhi.run pins s2 σ H2 (fun o H3 => o = some 0 ∧ H3 = H2) I2 ⟨0, rfl, rfl, rfl⟩) fun vu s3 ⟨u, H3, I3, pu, eu, e3⟩ => ?_
  subst eu e3
  refine thn (hst.run pins s3 σ H3 (fun o H4 => o = some (-1) ∧ H4 = H3) I3 ⟨1, rfl, -1, rfl, rfl, rfl⟩) fun vs s4 ⟨o, H4, I4, ps, eo, e4⟩ => ?_
  subst eo e4
  have I5 : Inv X pins σ H4 { s4 with heap := s4.heap.push { cls := .type "slice", data := .fields #[vl, vu, vs] } } := I4.kept (t' := s4.toks) fun b ob q => Heap.get?_push_of_some _ q
  obtain ⟨its, r, ht, hz⟩ := I5.tuple hx
  have hlen := r.length
  show wpAny (model X.prog X.w) X.A (subscriptTail e (.Slice none (some (.Constant (.int 0) k0 p0)) (some (.UnaryOp .USub (.Constant (.int 1) k p1) p2)) p3) (.ref a) (.ref s4.heap.objs.size)) (EP X pins σ Q) X.xe { s4 with heap := s4.heap.push { cls := .type "slice", data := .fields #[vl, vu, vs] } }
  refine tail_any (ops := [.ref a, .ref s4.heap.objs.size]) ht.typeIs (PyProof.Rows.slot_tuple_getitem.lookup) ?_ (by with_unfolding_all rfl)
  refine getItem_tuple_back ht (by rw [List.size_toArray]; omega) (Heap.IsSliceOf.new _ vl vu vs) pl pu ps ?_ (by rw [List.size_toArray]; omega)
  refine ⟨.ref _, _, I5.laid (t' := s4.toks) (o := .tup (xs.drop 1).reverse) (fun b ob q => Heap.get?_push_of_some _ q) (Nat.le_refl _) ?_, rfl, q _ (I5.hok.fresh (Nat.le_refl _))⟩
  refine ⟨by rw [List.length_reverse, List.length_drop]; omega, (its.drop 1).reverse, ?_, ⟨_, Heap.get?_push_size _ rfl, rfl, _, rfl⟩⟩
  exact (r.drop 1).reverse
end
end N

namespace N
open PySem PySem.Spec PyProof.Rows L2
/-! ### words -/
theorem asc_alpha : ∀ c : Nat, c < 128 → Unicode.isAlpha c = (decide (65 ≤ c ∧ c ≤ 90) || decide (97 ≤ c ∧ c ≤ 122)) := by
  intro c h
  have q : ∀ c : Fin 128, Unicode.isAlpha c.1 = (decide (65 ≤ c.1 ∧ c.1 ≤ 90) || decide (97 ≤ c.1 ∧ c.1 ≤ 122)) := by decide +kernel
  exact q ⟨c, h⟩
theorem asc_lower : ∀ c : Nat, c < 128 → Unicode.isLower c = decide (97 ≤ c ∧ c ≤ 122) := by
  intro c h
  have q : ∀ c : Fin 128, Unicode.isLower c.1 = decide (97 ≤ c.1 ∧ c.1 ≤ 122) := by decide +kernel
  exact q ⟨c, h⟩
theorem asc_upper : ∀ c : Nat, c < 128 → (Unicode.isUpper c || Unicode.isTitle c) = decide (65 ≤ c ∧ c ≤ 90) := by
  intro c h
  have q : ∀ c : Fin 128, (Unicode.isUpper c.1 || Unicode.isTitle c.1) = decide (65 ≤ c.1 ∧ c.1 ≤ 90) := by decide +kernel
  exact q ⟨c, h⟩
/-- a letter, as the def says it -/
def isLet (x : Str) : Bool := decide (x.length = 1) && (!decide (x.cps.toList < ("A" : Str).cps.toList) && !decide (("Z" : Str).cps.toList < x.cps.toList))
def isNam (x : Str) : Bool := !decide (8 < x.length) && (Txt.isascii x && (Txt.isalpha x && Txt.islower x))
def Low (c : Nat) : Prop := 97 ≤ c ∧ c ≤ 122
theorem isLet_iff {x : Str} : isLet x = true ↔ ∃ c, x.cps.toList = [c] ∧ 65 ≤ c ∧ c ≤ 90 := by
  unfold isLet Str.length
  have eA : ("A" : Str).cps.toList = [65] := by decide +kernel
  have eZ : ("Z" : Str).cps.toList = [90] := by decide +kernel
  rw [eA, eZ]
  obtain ⟨⟨l⟩⟩ := x
  simp only [Bool.and_eq_true, decide_eq_true_eq, Bool.not_eq_true', decide_eq_false_iff_not, List.size_toArray]
  constructor
  · rintro ⟨h1, h2, h3⟩
    match l, h1 with
    | [c], _ =>
      refine ⟨c, rfl, ?_, ?_⟩
      · have : ¬ c < 65 := fun q => h2 (by simp [List.cons_lt_cons_iff, q])
        omega
      · have : ¬ 90 < c := fun q => h3 (by simp [List.cons_lt_cons_iff, q])
        omega
  · rintro ⟨c, h, h2, h3⟩
    subst h
    refine ⟨rfl, fun q => ?_, fun q => ?_⟩
    · simp [List.cons_lt_cons_iff] at q
      omega
    · simp [List.cons_lt_cons_iff] at q
      omega
theorem isNam_iff {x : Str} : isNam x = true ↔ 1 ≤ x.length ∧ x.length ≤ 8 ∧ ∀ c ∈ x.cps.toList, Low c := by
  obtain ⟨⟨l⟩⟩ := x
  have e1 : Txt.isascii ⟨⟨l⟩⟩ = l.all (fun c => decide (c < 128)) := by
    show Array.all _ _ = _
    exact List.all_toArray ..
  have e2 : Txt.isalpha ⟨⟨l⟩⟩ = (decide (l.length > 0) && l.all Unicode.isAlpha) := by
    show (decide _ && Array.all _ _) = _
    exact congrArg _ (List.all_toArray ..)
  have e3 : Txt.islower ⟨⟨l⟩⟩ = (l.any Unicode.isLower && !l.any fun c => Unicode.isUpper c || Unicode.isTitle c) := by
    show (Array.any _ _ && !Array.any _ _) = _
    exact congr (congrArg _ (List.any_toArray ..)) (congrArg _ (List.any_toArray ..))
  unfold isNam
  rw [e1, e2, e3]
  show (!decide (8 < l.length) && _) = true ↔ 1 ≤ l.length ∧ l.length ≤ 8 ∧ ∀ c ∈ l, Low c
  simp only [Bool.and_eq_true, Bool.not_eq_true', decide_eq_false_iff_not, decide_eq_true_eq, List.all_eq_true, List.any_eq_true, List.any_eq_false, Nat.not_lt]
  constructor
  · rintro ⟨h8, ha, ⟨h1, hb⟩, h3, h4⟩
    refine ⟨by omega, h8, fun c hc => ?_⟩
    have a1 := ha c hc
    have a2 := hb c hc
    rw [asc_alpha c a1] at a2
    have a3 := h4 c hc
    rw [asc_upper c a1] at a3
    simp only [Bool.or_eq_true, decide_eq_true_eq] at a2 a3
    unfold Low
    omega
  · rintro ⟨h1, h8, h⟩
    have hl : ∀ c ∈ l, 97 ≤ c ∧ c ≤ 122 := h
    refine ⟨h8, fun c hc => ?_, ⟨by omega, fun c hc => ?_⟩, ?_, fun c hc => ?_⟩
    · have := hl c hc
      omega
    · have q := hl c hc
      rw [asc_alpha c (by omega)]
      simp [q]
    · match l, h1 with
      | c :: r, _ =>
        refine ⟨c, List.mem_cons_self, ?_⟩
        have q := hl c List.mem_cons_self
        rw [asc_lower c (by omega)]
        simp [q]
    · have q := hl c hc
      rw [asc_upper _ (by omega)]
      simp
      omega
theorem let_not_nam {x : Str} (h : isLet x = true) : isNam x = false := by
  obtain ⟨c, e, h1, h2⟩ := isLet_iff.mp h
  cases q : isNam x with
  | false => rfl
  | true =>
    obtain ⟨_, _, h3⟩ := isNam_iff.mp q
    have := h3 c (by rw [e]; exact List.mem_cons_self)
    unfold Low at this
    omega

/-! ### any thing, as the program sees it -/
inductive Tg where
  | str (x : Str) | oth | tup (ts : List Tg)
mutual
def Tg.nodes : Tg → Nat
  | .str _ => 1
  | .oth => 1
  | .tup ts => 1 + nodesAll ts
def nodesAll : List Tg → Nat
  | [] => 0
  | t :: ts => t.nodes + nodesAll ts
end
theorem nodes_pos (t : Tg) : 1 ≤ t.nodes := by
  cases t <;> simp only [Tg.nodes] <;> omega
theorem nodesAll_app : ∀ a b : List Tg, nodesAll (a ++ b) = nodesAll a + nodesAll b
  | [], b => by simp [nodesAll]
  | t :: a, b => by
    rw [List.cons_append]
    simp only [nodesAll]
    rw [nodesAll_app a b]
    omega
theorem length_le_nodes : ∀ a : List Tg, a.length ≤ nodesAll a
  | [] => Nat.zero_le _
  | t :: a => by
    have h1 := length_le_nodes a
    have h2 := nodes_pos t
    simp only [nodesAll, List.length_cons]
    omega
def Tg.isNm : Tg → Bool
  | .str x => isNam x
  | _ => false
/-- a class type as far as its name and the number of its arguments go -/
def begT : Tg → Bool
  | .tup (n :: ts) => decide (ts.length ≤ 2) && n.isNm
  | _ => false
def Tg.isL : Tg → Bool
  | .str x => isLet x
  | _ => false
mutual
def isT : Tg → Bool
  | .str x => isLet x
  | .oth => false
  | .tup [] => false
  | .tup (n :: ts) => (decide (ts.length ≤ 2) && n.isNm) && isTAll ts
def isTAll : List Tg → Bool
  | [] => true
  | t :: ts => isT t && isTAll ts
end
theorem isTAll_app : ∀ a b : List Tg, isTAll (a ++ b) = (isTAll a && isTAll b)
  | [], b => by simp [isTAll]
  | t :: a, b => by
    rw [List.cons_append]
    simp only [isTAll]
    rw [isTAll_app a b, Bool.and_assoc]
def Tg.args : Tg → List Tg
  | .tup (_ :: ts) => ts
  | _ => []
theorem isT_beg {t : Tg} (h : begT t = true) : isT t = isTAll t.args := by
  match t, h with
  | .tup (n :: ts), h =>
    have h' : (decide (ts.length ≤ 2) && n.isNm) = true := h
    simp only [isT, Tg.args]
    rw [h', Bool.true_and]
theorem isT_nbeg {t : Tg} (h : begT t = false) : isT t = t.isL := by
  match t, h with
  | .str x, _ => simp [isT, Tg.isL]
  | .oth, _ => simp [isT, Tg.isL]
  | .tup [], _ => simp [isT, Tg.isL]
  | .tup (n :: ts), h =>
    have h' : (decide (ts.length ≤ 2) && n.isNm) = false := h
    simp only [isT, Tg.isL]
    rw [h', Bool.false_and]
theorem args_nodes {t : Tg} (h : begT t = true) : nodesAll t.args + 1 < t.nodes + 1 := by
  match t, h with
  | .tup (n :: ts), _ =>
    have := nodes_pos n
    simp only [Tg.args, Tg.nodes, nodesAll]
    omega
mutual
/-- at v stands such a thing -/
inductive Th (K : PySem.W.Frag) (H : Hp) : V → Tg → Prop
  | str (x : Str) (hx : x.length ≤ 100000) : Th K H (.str x) (.str x)
  | oth {v : V} {t : Value} (ty : TyX K H v t) (a : PySem.W.kitOne K t (.type "str") = some false) (b : PySem.W.kitOne K t (.type "tuple") = some false) : Th K H v .oth
  | tup {a : Addr} {xs : List V} {ts : List Tg} (h : SqT K H a xs) (r : ThAll K H xs ts) : Th K H (.ref a) (.tup ts)
inductive ThAll (K : PySem.W.Frag) (H : Hp) : List V → List Tg → Prop
  | nil : ThAll K H [] []
  | cons {v : V} {vs : List V} {t : Tg} {ts : List Tg} (h : Th K H v t) (r : ThAll K H vs ts) : ThAll K H (v :: vs) (t :: ts)
end
theorem ThAll.length {K : PySem.W.Frag} {H : Hp} : ∀ {vs : List V} {ts : List Tg}, ThAll K H vs ts → vs.length = ts.length
  | _, _, .nil => rfl
  | _, _, .cons _ r => by simp [ThAll.length r]
theorem ThAll.app {K : PySem.W.Frag} {H : Hp} : ∀ {vs ws : List V} {ts us : List Tg}, ThAll K H vs ts → ThAll K H ws us → ThAll K H (vs ++ ws) (ts ++ us)
  | _, _, _, _, .nil, r => r
  | _, _, _, _, .cons h r, q => .cons h (r.app q)
theorem ThAll.snoc {K : PySem.W.Frag} {H : Hp} {vs : List V} {ts : List Tg} (h : ThAll K H vs ts) (hn : ts ≠ []) : ∃ v vs' t ts', vs = vs' ++ [v] ∧ ts = ts' ++ [t] ∧ Th K H v t ∧ ThAll K H vs' ts' := by
  match vs, ts, h with
  | _, _, .nil => exact absurd rfl hn
  | _, _, .cons (v := v) (vs := vs) (t := t) (ts := ts) h r =>
    by_cases e : ts = []
    · subst e
      match vs, r with
      | _, .nil => exact ⟨v, [], t, [], rfl, rfl, h, .nil⟩
    · obtain ⟨v', vs', t', ts', e1, e2, h1, h2⟩ := r.snoc e
      exact ⟨v', v :: vs', t', t :: ts', by rw [e1]; rfl, by rw [e2]; rfl, h1, .cons h h2⟩
/-- what is needed of a change of the heap, for things to stay -/
structure Stay (K : PySem.W.Frag) (H H' : Hp) : Prop where
  tup : ∀ a xs, SqT K H a xs → SqT K H' a xs
  ty : ∀ v t, TyX K H v t → TyX K H' v t
mutual
theorem Th.stay {K : PySem.W.Frag} {H H' : Hp} (s : Stay K H H') : ∀ {v : V} {t : Tg}, Th K H v t → Th K H' v t
  | _, _, .str x hx => .str x hx
  | _, _, .oth ty a b => .oth (s.ty _ _ ty) a b
  | _, _, .tup h r => .tup (s.tup _ _ h) (ThAll.stay s r)
theorem ThAll.stay {K : PySem.W.Frag} {H H' : Hp} (s : Stay K H H') : ∀ {vs : List V} {ts : List Tg}, ThAll K H vs ts → ThAll K H' vs ts
  | _, _, .nil => .nil
  | _, _, .cons h r => .cons (Th.stay s h) (ThAll.stay s r)
end
theorem Stay.refl {K : PySem.W.Frag} (H : Hp) : Stay K H H := ⟨fun _ _ h => h, fun _ _ h => h⟩
theorem Stay.trans {K : PySem.W.Frag} {H H1 H2 : Hp} (a : Stay K H H1) (b : Stay K H1 H2) : Stay K H H2 := ⟨fun x y h => b.tup x y (a.tup x y h), fun x y h => b.ty x y (a.ty x y h)⟩
theorem stay_of {K : PySem.W.Frag} {H H' : Hp} (h : ∀ a o, H a = some o → H' a = some o ∨ ∃ xs ys, o = .lst xs ∧ H' a = some (.lst ys)) (hdx : ∀ a x, H a = some (.own x) → H' a = some (.own x)) : Stay K H H' where
  tup := fun a xs q => by
    rcases q with (q | ⟨o, q⟩) | q
    · rcases h a _ q with h1 | ⟨_, _, e, _⟩
      · exact .inl (.inl h1)
      · cases e
    · rcases h a _ q with h1 | ⟨_, _, e, _⟩
      · exact .inl (.inr ⟨o, h1⟩)
      · cases e
    · exact .inr q
  ty := fun v t q => by
    have k : ∀ a o, H a = some o → (∀ xs, o ≠ .lst xs) → H' a = some o := fun a o e n => by
      rcases h a o e with h1 | ⟨xs, _, e2, _⟩
      · exact h1
      · exact absurd e2 (n xs)
    cases q with
    | base b =>
      cases b with
      | non => exact .base .non
      | bl x => exact .base (.bl x)
      | int i => exact .base (.int i)
      | str x => exact .base (.str x)
      | flt x => exact .base (.flt x)
      | @lst a xs e =>
        rcases h a _ e with h1 | ⟨_, ys, _, h1⟩
        · exact .base (.lst h1)
        · exact .base (.lst h1)
      | frz e => exact .base (.frz (k _ _ e fun xs z => by cases z))
      | tup e => exact .base (.tup (k _ _ e fun xs z => by cases z))
      | dK e => exact .base (.dK (k _ _ e fun xs z => by cases z))
      | dT e => exact .base (.dT (k _ _ e fun xs z => by cases z))
      | ins e cl ha hn htk hm => exact .base (.ins (k _ _ e fun xs z => by cases z) cl ha hn htk hm)
    | byt b => exact .byt b
    | set e => exact .set (k _ _ e fun xs z => by cases z)
    | kList e c => exact .kList e c
    | kTuple e c => exact .kTuple e c
    | kDict e c => exact .kDict e c
    | fTuple e => exact .fTuple (k _ _ e fun xs z => by cases z)
    | fDict e => exact .fDict (k _ _ e fun xs z => by cases z)
theorem stay_same {K : PySem.W.Frag} {H H' : Hp} (e : Same H H') : Stay K H H' := stay_of (fun a o q => .inl (e a o q)) fun a x q => e a _ q
theorem same_new {H : Hp} {p : Addr} (h : H p = none) (o : HO) : Same H (upd H p o) := fun b u q => by rw [upd_ne (ne_of_none q h)]; exact q
theorem stay_new {K : PySem.W.Frag} {H : Hp} {p : Addr} (h : H p = none) (o : HO) : Stay K H (upd H p o) := stay_same (same_new h o)
theorem stay_lst {K : PySem.W.Frag} {H : Hp} {p : Addr} {xs ys : List V} (h : H p = some (.lst xs)) : Stay K H (upd H p (.lst ys)) := stay_of (fun a o q => by
    by_cases e : a = p
    · subst e
      rw [h] at q
      cases q
      exact .inr ⟨xs, ys, rfl, upd_same⟩
    · exact .inl (by rw [upd_ne e]; exact q)) fun a x q => by
  rw [upd_ne (ne_of q h (by intro z; cases z))]
  exact q
theorem SqT.ty {K : PySem.W.Frag} {H : Hp} {a : Addr} {xs : List V} (h : SqT K H a xs) : TyX K H (.ref a) (.type "tuple") := by
  rcases h with (h | ⟨o, h⟩) | ⟨o, its, n, h, c, _⟩
  · exact .base (.tup h)
  · exact .fTuple h
  · exact .kTuple h c
end N

namespace N
open PySem PySem.Spec PyProof.Rows L2
/-! ### promises where no repr is under way -/
structure RoomG (k : Nat) (A : Around) : Prop extends Room k A where
  gs : A.guards = some []
theorem RoomG.mono {j k : Nat} {A : Around} (r : RoomG k A) (h : j ≤ k) : RoomG j A := ⟨r.toRoom.mono h, r.gs⟩
theorem RoomG.deeper {k : Nat} {A : Around} (r : RoomG (k + 1) A) (env : Env) : RoomG k (A.deeper env) := ⟨r.toRoom.deeper env, r.gs⟩
theorem roomG_caller {k : Nat} (r : Room k callerA) : RoomG k callerA := ⟨r, rfl⟩
structure FnG (P : Program) (w : World) (K : PySem.W.Frag) (mg : Str → Option Value) (base : Heap) (CX : CXT) (k : Nat) (f : Addr) (fd : FuncData) (ps : List Str) (sp : Sp) : Prop where
  len : ∀ vs H Q E, sp vs H Q E → vs.length = ps.length
  run : ∀ (A : Around) (outer : List Env) (s : Shared) (H : Hp) (args : Args) (us : List Value) (vs : List V) (Q : VK) (E : XK), RoomG k A → Env0 P w K mg base A outer s H → BindsTo s fd args (ps.zip us) → Vals vs us → sp vs H Q E →
    codeAny (model P w) A (.call (.ref f) args) (CR CX outer P w H s Q E) s
section
variable {P : Program} {w : World} {K : PySem.W.Frag} {mg : Str → Option Value} {base : Heap} {CX : CXT} {j k : Nat} {f : Addr} {fd : FuncData} {ps : List Str} {sp : Sp}
theorem FnG.mono (F : FnG P w K mg base CX j f fd ps sp) (h : j ≤ k) : FnG P w K mg base CX k f fd ps sp := ⟨F.len, fun A outer s H args us vs Q E hr => F.run A outer s H args us vs Q E (hr.mono h)⟩
theorem FnG.imp {sp' : Sp} (F : FnG P w K mg base CX k f fd ps sp) (h : ∀ vs H Q E, sp' vs H Q E → sp vs H Q E) : FnG P w K mg base CX k f fd ps sp' :=
  ⟨fun vs H Q E q => F.len vs H Q E (h _ _ _ _ q), fun A outer s H args us vs Q E hr he hb hv hs => F.run A outer s H args us vs Q E hr he hb hv (h _ _ _ _ hs)⟩
/-- one entry, the surroundings fixed: the library's rule for a def is asked with a promise that holds there alone -/
theorem fnG_of {x : Str} {st : Stmt} {N : List Str} (F : Fun K x x st f fd) (S : FnScope N ps (defScope st)) (len : ∀ vs H Q E, sp vs H Q E → vs.length = ps.length)
    (hbody : ∀ (cdv : Value) (A : Around) (outer : List Env) (s : Shared) (H : Hp) (vs : List V) (Q : VK) (E : XK), RoomG k (A.deeper (envOfC x (defScope st) s.heap.objs.size f cdv)) → sp vs H Q E →
      ∃ t, PSs (cxOf CX P w K mg base N x (defScope st) f cdv A outer s H E) (defBody st) t ∧ t { nx := fun _ H' => Q .non H', rt := Q } (start N vs) H) : FnG P w K mg base CX (k + 1) f fd ps sp := by
  obtain ⟨oc, od, kV, doc, pm, an, cdv, ct, osl, rfl, lk, hcd⟩ := F.ex
  refine ⟨len, fun A outer s H args us vs Q E hr e0 hb r hsp => ?_⟩
  have KX : K.In s.heap := e0.mod.kin.keeps fun b o e => (e0.bs b o e).1
  have lim : s.heap.NoLimit := e0.mod.nolimit.keeps fun b o e => (e0.bs b o e).1
  have hkind : ∀ y ∈ ps.zip us, (defScope st).names.lookup y.1 = some .local ∨ ((defScope st).names.lookup y.1 = some .cell ∧ ((cellsFrom (s.heap.objs.size + 1) (defScope st).names []).lookup y.1).isSome = true) := fun ⟨n, v⟩ hy =>
    (S.par n (List.of_mem_zip hy).1).elim .inl fun q => .inr ⟨q, PySem.W.cellsFrom_some _ _ _ (.inl q)⟩
  refine codeAny_call_function hr.depth (KX _ _ lk) rfl S.co S.gen rfl (PySem.W.codeRec_of KX hcd) (hb _ _ _ _ ?_)
  refine wpAny_newFunctionEnv_cells S.kind hkind fun env he s1 x => ?_
  subst he
  refine ⟨lim.keeps x.toInCall.keep, codeAny_func ?_⟩
  obtain ⟨t, ht, hq⟩ := hbody cdv A outer s H vs Q E (hr.deeper _) hsp
  have I := inv_start (CX := CX) (P := P) (w := w) (mg := mg) (E := E) S hr.hd e0 (len _ _ _ _ hsp) r x
  refine wpAny_mono (ht.run [] s1 (start N vs) H _ I hq) (fun fl s' hs => ?_) fun e s' hs => hs
  cases fl with
  | ret u => obtain ⟨v, σ', H', J, rv, q⟩ := hs; exact ⟨v, H', J.os, J.bare, J.base, J.hok, rv, q⟩
  | next => obtain ⟨σ', H', J, q⟩ := hs; exact ⟨.non, H', J.os, J.bare, J.base, J.hok, rfl, q⟩
  | brk => obtain ⟨_, _, _, q⟩ := hs; exact False.elim q
  | cont => obtain ⟨_, _, _, q⟩ := hs; exact False.elim q
end
section
variable {X : Cx} {CX : CXT} {k : Nat} {f : Addr} {fd : FuncData} {ps : List Str} {sp : Sp} {E : XK}
theorem runG {pins : List (Addr × Obj)} {σ : L2.St} {H : Hp} {s : Shared} {Q : VK} {us : List Value} {vs : List V} (F : FnG X.prog X.w X.K X.mg X.base CX k f fd ps sp) (hr : RoomG k X.A) (hb : Binds X.K fd ps [])
    (hx : ∀ e s', CX X.stack H s E e s' → X.xe e s') (I : Inv X pins σ H s) (r : Vals vs us) (h : sp vs H Q E) : wpAny (model X.prog X.w) X.A (call (.ref f) us) (EP X pins σ Q) X.xe s := by
  have b := hb s us I.kIn (by rw [List.append_nil, ← r.length]; exact F.len _ _ _ _ h)
  rw [List.append_nil] at b
  refine wpAny_call (codeAny_mono (F.run X.A X.stack s H ⟨us, []⟩ us vs Q E hr I.env0 b r h) fun res s' hq => ?_)
  match res, hq with
  | .error e, hq => exact hx e s' hq
  | .ok (.ret u), hq => exact I.after hq
  | .ok .next, hq => exact False.elim hq
  | .ok .brk, hq => exact False.elim hq
  | .ok .cont, hq => exact False.elim hq
end
end N

namespace N
open PySem PySem.Spec PyProof.Rows L2
/-! ### defs as they stand behind the top, and what they promise -/
def DefAt (K : PySem.W.Frag) (mg : Str → Option Value) (x : Str) (st : Stmt) (ps : List Str) : Prop :=
  ∃ (f : Addr) (fd : FuncData), mg x = some (.ref f) ∧ Fun K x x st f fd ∧ Binds K fd ps []
def Cal (P : Program) (w : World) (K : PySem.W.Frag) (mg : Str → Option Value) (base : Heap) (k : Nat) (x : Str) (ps : List Str) (sp : Sp) : Prop :=
  ∃ (f : Addr) (fd : FuncData), mg x = some (.ref f) ∧ PySem.W.keepIn K (.ref f) = true ∧ Binds K fd ps [] ∧ FnG P w K mg base (L2.CX P w) k f fd ps sp
section
variable {P : Program} {w : World} {K : PySem.W.Frag} {mg : Str → Option Value} {base : Heap} {k : Nat} {x : Str} {ps N : List Str} {sp : Sp} {st : Stmt}
theorem Cal.mono {j : Nat} (c : Cal P w K mg base j x ps sp) (h : j ≤ k) : Cal P w K mg base k x ps sp := by
  obtain ⟨f, fd, a, b, d, F⟩ := c
  exact ⟨f, fd, a, b, d, F.mono h⟩
theorem Cal.imp {sp' : Sp} (c : Cal P w K mg base k x ps sp) (h : ∀ vs H Q E, sp' vs H Q E → sp vs H Q E) : Cal P w K mg base k x ps sp' := by
  obtain ⟨f, fd, a, b, d, F⟩ := c
  exact ⟨f, fd, a, b, d, F.imp h⟩
theorem DefAt.cal (D : DefAt K mg x st ps) (S : FnScope N ps (defScope st)) (len : ∀ vs H Q E, sp vs H Q E → vs.length = ps.length)
    (hbody : ∀ (f : Addr) (cdv : Value) (A : Around) (outer : List Env) (s : Shared) (H : Hp) (vs : List V) (Q : VK) (E : XK), RoomG k (A.deeper (envOfC x (defScope st) s.heap.objs.size f cdv)) → sp vs H Q E →
      ∃ t, PSs (cxOf (L2.CX P w) P w K mg base N x (defScope st) f cdv A outer s H E) (defBody st) t ∧ t { nx := fun _ H' => Q .non H', rt := Q } (start N vs) H) : Cal P w K mg base (k + 1) x ps sp := by
  obtain ⟨f, fd, a, F, b⟩ := D
  exact ⟨f, fd, a, F.kp, b, fnG_of F S len fun cdv A outer s H vs Q E hr h => hbody f cdv A outer s H vs Q E hr h⟩
theorem mk_def {h : Heap} {f : Addr} {oc : Value} {od an : Option Addr} {osl : Array (Option Value)} {kV doc pm cdv ct : Value} (X : K.In h) (G : h.Ns mainGlobals mg)
    (a : PySem.W.nsIn K mainGlobals x = some (some (.ref f))) (l : K.lookup f = some ⟨oc, od, .func (PySem.W.fnOf x x (defArgs st) (defBody st) (defScope st) .none kV doc pm an cdv ct), osl⟩) (c : PySem.W.codeIn K cdv x = true) (k : PySem.W.keepIn K (.ref f) = true)
    (b : ∀ (kV doc pm : Value) (an : Option Addr) (cdv ct : Value) (us : List Value), us.length = ps.length → bindArgs (PySem.W.fnOf x x (defArgs st) (defBody st) (defScope st) .none kV doc pm an cdv ct) ⟨us, []⟩ = pure (ps.zip us)) : DefAt K mg x st ps :=
  ⟨f, _, PySem.W.mg_of X G a, fun_mk l c k, (fun_mk l c k).binds b⟩
end
section
variable {X : Cx} {k : Nat} {x : Str} {ps : List Str} {sp : Sp} {p pos : Pos} {e : Expr} {es : List Expr} {t : TA} {W : WX}
/-- f(e, ..): what is raised goes where W says -/
theorem pcE (tk : Takes X W) (c : Cal X.prog X.w X.K X.mg X.base k x ps sp) (hr : RoomG k X.A) (hg : Gl X x) (ha : PA X (e :: es) t) (hdb : (x == ("__debug__" : Str)) = false := by decide) (he : starEach (e :: es) X.env = (false, eval e X.env) :: starEach es X.env := by rfl)
    (hpl : (backTo pos (starEach es X.env)).any (·.1) = false := by rfl) : PE X (.Call (.Name x p) (e :: es) [] pos) (tCallS sp (WE W) t) := by
  obtain ⟨f, fd, hm, hk, hb, F⟩ := c
  refine ⟨fun pins s σ H Q I h => wpAny_Call_Name_kw (ld_glob I hg hm ?_ hdb)⟩
  refine PySem.W.callWith_K (h₀ := X.base) I.ok.mod.kin hk (thn (ha.run pos pins s σ H _ I h) fun us s1 ⟨vs, H1, I1, r, q⟩ => ⟨I1.kIn, ?_⟩) he hpl
  exact runG F hr hb (fun e s' z => passAt tk σ pins H1 s1 e s' I1 z) I1 r q
/-- f(e, ..): nothing that is raised is let out -/
theorem pc (c : Cal X.prog X.w X.K X.mg X.base k x ps sp) (hr : RoomG k X.A) (hg : Gl X x) (ha : PA X (e :: es) t) (hdb : (x == ("__debug__" : Str)) = false := by decide) (he : starEach (e :: es) X.env = (false, eval e X.env) :: starEach es X.env := by rfl)
    (hpl : (backTo pos (starEach es X.env)).any (·.1) = false := by rfl) : PE X (.Call (.Name x p) (e :: es) [] pos) (fun σ H Q => t σ H fun vs H1 => sp vs H1 Q E0) := by
  obtain ⟨f, fd, hm, hk, hb, F⟩ := c
  refine ⟨fun pins s σ H Q I h => wpAny_Call_Name_kw (ld_glob I hg hm ?_ hdb)⟩
  refine PySem.W.callWith_K (h₀ := X.base) I.ok.mod.kin hk (thn (ha.run pos pins s σ H _ I h) fun us s1 ⟨vs, H1, I1, r, q⟩ => ⟨I1.kIn, ?_⟩) he hpl
  exact runG F hr hb (fun e s' z => passL pins σ H1 s1 e s' I1 z) I1 r q
theorem pc0 (c : Cal X.prog X.w X.K X.mg X.base k x [] sp) (hr : RoomG k X.A) (hg : Gl X x) (hdb : (x == ("__debug__" : Str)) = false := by decide) : PE X (.Call (.Name x p) [] [] pos) (fun _ H Q => sp [] H Q E0) := by
  obtain ⟨f, fd, hm, hk, hb, F⟩ := c
  refine ⟨fun pins s σ H Q I h => wpAny_Call_Name_kw (ld_glob I hg hm ?_ hdb)⟩
  exact PySem.W.callWith_K0 I.kIn hk (runG (us := []) F hr hb (fun e s' z => passL pins σ H s e s' I z) I .nil h)
end
theorem hug {k : Nat} {A : Around} (hr : RoomG k A) : A.units + 1 < cLine := hu_of hr.toRoom
/-- an own error class over ValueError, without an __init__ -/
structure ExcAt (K : PySem.W.Frag) (mg : Str → Option Value) (x : Str) (C : Addr) : Prop where
  g : mg x = some (.ref C)
  k : PySem.W.keepIn K (.ref C) = true
  b : PySem.W.subIn K (.ref C) (.type "BaseException") = some true
  t : PySem.W.typeIn K (.ref C) = some (.type "type")
  x : PySem.W.excIn K C [.type "ValueError", .type "Exception", .type "BaseException", .type "object"] "ValueError.__new__" = true
theorem b_str : bootBuiltins "str" = some (.type "str") := by decide +kernel
theorem b_tuple : bootBuiltins "tuple" = some (.type "tuple") := by decide +kernel
theorem b_dict : bootBuiltins "dict" = some (.type "dict") := by decide +kernel
theorem b_list : bootBuiltins "list" = some (.type "list") := by decide +kernel
/-- isinstance(e, T), T a built-in class -/
theorem pe_isi {X : Cx} {p p2 pos : Pos} {e : Expr} {te : TE} {n : String} {c : Str} (hm : X.mg "isinstance" = none) (hmc : X.mg c = none) (hv : bootBuiltins c = some (.type n)) (hg : Gl X "isinstance") (hgc : Gl X c) (he : PE X e te) (hn : c ≠ "__name__" := by decide)
    (hdb : (c == ("__debug__" : Str)) = false := by decide) (hst2 : starEach [e, .Name c p2] X.env = (false, eval e X.env) :: starEach [.Name c p2] X.env := by rfl) (hpl : (backTo pos (starEach [.Name c p2] X.env)).any (·.1) = false := by rfl) (hs3 : starEach [.Name c p2] X.env = (false, eval (.Name c p2) X.env) :: starEach [] X.env := by rfl) :
    PE X (.Call (.Name "isinstance" p) [e, .Name c p2] [] pos) (fun σ H Q => te σ H fun v H1 => rIsi X.K [v, .ty n] H1 Q) :=
  pe_callB call_isi hg hm (by decide +kernel) (pa_cons he (pa_cons (pe_bltn (v := .ty n) hgc hmc hv rfl hn hdb) pa_nil hs3) hst2) (by decide) (by decide) hst2 hpl
theorem isi_q {K : PySem.W.Frag} {H : Hp} {v : V} {t : Value} {n : String} {b : Bool} {Q : VK} (ty : TyX K H v t) (e : PySem.W.kitOne K t (.type n) = some b) (q : Q (.bl b) H) : rIsi K [v, .ty n] H Q := ⟨v, .ty n, t, _, b, rfl, .ty n, ty, e, q⟩
def Tg.isS : Tg → Bool
  | .str _ => true
  | _ => false
def Tg.isTu : Tg → Bool
  | .tup _ => true
  | _ => false
theorem isi_str {K : PySem.W.Frag} {H : Hp} {v : V} {t : Tg} {Q : VK} (h : Th K H v t) (q : Q (.bl t.isS) H) : rIsi K [v, .ty "str"] H Q := by
  cases h with
  | str x hx => exact isi_q (b := true) (.base (.str x)) (kit_ty (by decide +kernel)) q
  | oth ty a b => exact isi_q ty a q
  | tup h r => exact isi_q (b := false) (SqT.ty h) (kit_ty (by decide +kernel)) q
theorem isi_tup {K : PySem.W.Frag} {H : Hp} {v : V} {t : Tg} {Q : VK} (h : Th K H v t) (q : Q (.bl t.isTu) H) : rIsi K [v, .ty "tuple"] H Q := by
  cases h with
  | str x hx => exact isi_q (b := false) (.base (.str x)) (kit_ty (by decide +kernel)) q
  | oth ty a b => exact isi_q ty b q
  | tup h r => exact isi_q (b := true) (SqT.ty h) (kit_ty (by decide +kernel)) q
end N

namespace N
open PySem PySem.Spec PyProof.Rows L2
/-! ### kinds -/
inductive Kd where
  | L (c : Str) | C0 (n : Str) | C1 (n : Str) (a : Kd) | C2 (n : Str) (a b : Kd)
  deriving DecidableEq
namespace Kd
def args : Kd → List Kd
  | L _ => []
  | C0 _ => []
  | C1 _ a => [a]
  | C2 _ a b => [a, b]
def nm : Kd → Str
  | L c => c
  | C0 n => n
  | C1 n _ => n
  | C2 n _ _ => n
def isC : Kd → Bool
  | L _ => false
  | _ => true
def tg : Kd → Tg
  | L c => .str c
  | C0 n => .tup [.str n]
  | C1 n a => .tup [.str n, a.tg]
  | C2 n a b => .tup [.str n, a.tg, b.tg]
def ok : Kd → Prop
  | L c => isLet c = true
  | C0 n => isNam n = true
  | C1 n a => isNam n = true ∧ a.ok
  | C2 n a b => isNam n = true ∧ a.ok ∧ b.ok
def parts : Kd → List Kd
  | L c => [L c]
  | C0 n => [C0 n]
  | C1 n a => C1 n a :: a.parts
  | C2 n a b => C2 n a b :: (a.parts ++ b.parts)
def size : Kd → Nat
  | L _ => 0
  | C0 _ => 1
  | C1 _ a => 1 + a.size
  | C2 _ a b => 1 + a.size + b.size
def depth : Kd → Nat
  | L _ => 0
  | C0 _ => 1
  | C1 _ a => 1 + a.depth
  | C2 _ a b => 1 + max a.depth b.depth
/-- how many letters and names -/
def nds : Kd → Nat
  | L _ => 1
  | C0 _ => 1
  | C1 _ a => 1 + a.nds
  | C2 _ a b => 1 + a.nds + b.nds
theorem parts_eq (k : Kd) : k.parts = k :: k.args.flatMap parts := by
  cases k <;> simp [parts, args]
theorem tg_C {k : Kd} (h : k.isC = true) : k.tg = .tup (.str k.nm :: k.args.map tg) := by
  cases k <;> first | (cases h; done) | rfl
theorem tg_L {k : Kd} (h : k.isC = false) : k = L k.nm ∧ k.tg = .str k.nm := by
  cases k <;> first | (cases h; done) | exact ⟨rfl, rfl⟩
theorem isTu_tg (k : Kd) : k.tg.isTu = k.isC := by cases k <;> rfl
theorem isS_tg (k : Kd) : k.tg.isS = !k.isC := by cases k <;> rfl
theorem nds_parts (k : Kd) : k.parts.length = k.nds := by
  induction k with
  | L c => rfl
  | C0 n => rfl
  | C1 n a ih => simp [parts, nds, ih]; omega
  | C2 n a b ih1 ih2 => simp [parts, nds, ih1, ih2]; omega
theorem nds_pos (k : Kd) : 1 ≤ k.nds := by cases k <;> simp [nds] <;> omega
theorem nodes_tg (k : Kd) : k.tg.nodes ≤ 3 * k.nds := by
  induction k with
  | L c => simp [tg, nds, Tg.nodes]
  | C0 n => simp [tg, nds, Tg.nodes, nodesAll]
  | C1 n a ih => simp only [tg, nds, Tg.nodes, nodesAll]; omega
  | C2 n a b ih1 ih2 => simp only [tg, nds, Tg.nodes, nodesAll]; omega
theorem args_ok {k : Kd} (h : k.ok) : ∀ a ∈ k.args, a.ok := by
  cases k <;> simp only [args, ok] at * <;> simp_all
theorem isT_tg : ∀ {k : Kd}, k.ok → isT k.tg = true
  | L c, h => by
    show isT (.str c) = true
    simp only [isT]
    exact h
  | C0 n, h => by simp [tg, isT, isTAll, Tg.isNm, show isNam n = true from h]
  | C1 n a, h => by simp [tg, isT, isTAll, Tg.isNm, show isNam n = true from h.1, isT_tg h.2]
  | C2 n a b, h => by simp [tg, isT, isTAll, Tg.isNm, show isNam n = true from h.1, isT_tg h.2.1, isT_tg h.2.2]
theorem args_nds (k : Kd) : (k.args.map nds).sum + 1 ≤ k.nds := by
  cases k <;> simp [args, nds] <;> omega
theorem args_len (k : Kd) : k.args.length ≤ 2 := by cases k <;> simp [args]
end Kd
mutual
theorem of_isT : ∀ {t : Tg}, isT t = true → ∃ k : Kd, k.ok ∧ t = k.tg
  | .str x, h => ⟨.L x, by simpa [isT, Kd.ok] using h, rfl⟩
  | .oth, h => by simp [isT] at h
  | .tup [], h => by simp [isT] at h
  | .tup (n :: ts), h => by
    simp only [isT, Bool.and_eq_true, decide_eq_true_eq] at h
    obtain ⟨⟨h1, h2⟩, h3⟩ := h
    obtain ⟨ks, e, hk⟩ := of_isTAll h3
    match n, h2 with
    | .str x, h2 =>
      have h2' : isNam x = true := h2
      match ks, e with
      | [], e => exact ⟨.C0 x, h2', by rw [e]; rfl⟩
      | [a], e => exact ⟨.C1 x a, ⟨h2', hk a (by simp)⟩, by rw [e]; rfl⟩
      | [a, b], e => exact ⟨.C2 x a b, ⟨h2', hk a (by simp), hk b (by simp)⟩, by rw [e]; rfl⟩
      | a :: b :: c :: r, e => rw [e] at h1; simp at h1
theorem of_isTAll : ∀ {ts : List Tg}, isTAll ts = true → ∃ ks : List Kd, ts = ks.map Kd.tg ∧ ∀ k ∈ ks, k.ok
  | [], _ => ⟨[], rfl, fun k h => by cases h⟩
  | t :: ts, h => by
    simp only [isTAll, Bool.and_eq_true] at h
    obtain ⟨k, hk, e⟩ := of_isT h.1
    obtain ⟨ks, e2, hks⟩ := of_isTAll h.2
    exact ⟨k :: ks, by rw [e, e2]; rfl, fun z hz => by
      rcases List.mem_cons.mp hz with rfl | hz
      · exact hk
      · exact hks z hz⟩
end
/-- at v stands a kind; in vs kinds -/
abbrev Kp (K : PySem.W.Frag) (H : Hp) (v : V) (k : Kd) : Prop := Th K H v k.tg
abbrev Kps (K : PySem.W.Frag) (H : Hp) (vs : List V) (ks : List Kd) : Prop := ThAll K H vs (ks.map Kd.tg)
section
variable {K : PySem.W.Frag} {H : Hp}
theorem Kps.snoc {vs : List V} {ks : List Kd} (h : Kps K H vs ks) (hn : ks ≠ []) : ∃ v vs' k ks', vs = vs' ++ [v] ∧ ks = ks' ++ [k] ∧ Kp K H v k ∧ Kps K H vs' ks' := by
  obtain ⟨v, vs', t, ts', e1, e2, h1, h2⟩ := ThAll.snoc h (by simpa using hn)
  obtain ⟨ks', k, rfl⟩ : ∃ ks' k, ks = ks' ++ [k] := ⟨ks.dropLast, ks.getLast hn, (List.dropLast_concat_getLast hn).symm⟩
  rw [List.map_append, List.map_singleton] at e2
  obtain ⟨e3, e4⟩ := List.append_inj' e2 rfl
  cases e4
  exact ⟨v, vs', k, ks', e1, rfl, h1, by rw [← e3] at h2; exact h2⟩
theorem kp_L {v : V} {k : Kd} (h : Kp K H v k) (c : k.isC = false) : v = .str k.nm ∧ k.nm.length ≤ 100000 := by
  obtain ⟨_, e⟩ := Kd.tg_L c
  have h' : Th K H v (.str k.nm) := by rw [← e]; exact h
  cases h' with
  | str x hx => exact ⟨rfl, hx⟩
theorem kp_C {v : V} {k : Kd} (h : Kp K H v k) (c : k.isC = true) : ∃ (a : Addr) (xs : List V), v = .ref a ∧ SqT K H a (.str k.nm :: xs) ∧ k.nm.length ≤ 100000 ∧ Kps K H xs k.args := by
  have h' : Th K H v (.tup (.str k.nm :: k.args.map Kd.tg)) := by rw [← Kd.tg_C c]; exact h
  cases h' with
  | @tup a xs ts h r =>
    cases r with
    | @cons y ys n ts hy r =>
      cases hy with
      | str x hx => exact ⟨a, ys, rfl, h, hx, r⟩
theorem kp_mk {a : Addr} {k : Kd} {xs : List V} (c : k.isC = true) (h : SqT K H a (.str k.nm :: xs)) (hx : k.nm.length ≤ 100000) (r : Kps K H xs k.args) : Kp K H (.ref a) k := by
  show Th K H (.ref a) k.tg
  rw [Kd.tg_C c]
  exact .tup h (.cons (.str _ hx) r)
theorem ThAll.rev {vs : List V} {ts : List Tg} (h : ThAll K H vs ts) : ThAll K H vs.reverse ts.reverse := by
  induction vs generalizing ts with
  | nil => cases h; exact .nil
  | cons v vs ih =>
    cases h with
    | cons h r =>
      rw [List.reverse_cons, List.reverse_cons]
      exact (ih r).app (.cons h .nil)
theorem Kps.rev {vs : List V} {ks : List Kd} (h : Kps K H vs ks) : Kps K H vs.reverse ks.reverse := by
  have := ThAll.rev h
  rw [← List.map_reverse] at this
  exact this
theorem Kps.app {vs ws : List V} {ks js : List Kd} (h : Kps K H vs ks) (h2 : Kps K H ws js) : Kps K H (vs ++ ws) (ks ++ js) := by
  have := ThAll.app h h2
  rw [← List.map_append] at this
  exact this
theorem Kps.length {vs : List V} {ks : List Kd} (h : Kps K H vs ks) : vs.length = ks.length := by
  have := ThAll.length h
  rw [List.length_map] at this
  exact this
end
end N

namespace N
open PySem PySem.Spec PyProof.Rows L2
/-! ### the end of a law over such promises -/
section
variable {P : Program} {w : World} {K : PySem.W.Frag} {mg mb : Str → Option Value} {CX : CXT} {k : Nat} {fa a : Addr} {fd : FuncData} {x : Str} {sp : Sp} {s₁ : Shared} {vs : List Value} {ns : List Int}
/-- the law is run where at most the script is tracked -/
theorem run_law (H : Hp) (KX : K.In s₁.heap) (hns : s₁.heap.Ns mainGlobals mg) (hb : s₁.heap.Ns builtinsNs mb) (hbb : ∀ x : Str, x ≠ "__name__" → mb x = bootBuiltins x) (hlim : s₁.heap.NoLimit) (hg : s₁.gens = #[])
    (ha : s₁.heap.get? a = some { cls := .type "list", data := .seq vs.toArray }) (hr : Room k callerA) (F : ∀ base : Heap, K.In base → base.Ns mainGlobals mg → FnG P w K mg base CX k fa fd [x] sp) (hbind : ∀ (s : Shared) (u : Value), BindsTo s fd ⟨[u], []⟩ [(x, u)])
    (hsp : sp [.ref a] H (fun v _ => v = .bl true) fun _ _ _ => False) (hCX : ∀ e s', CX [] H s₁ (fun _ _ _ => False) e s' → False) (hO : Only H) (hok : HOk P w H s₁.heap) (hA : ∀ b, H b ≠ none → b = a) (hK : H a ≠ none → K.lookup a = none) :
    codeAny (model P w) callerA (.call (.ref fa) ⟨[.ref a], []⟩) (fun r s' => r = .ok (.ret (.bool true)) ∧ OldK s₁.heap s'.heap ∧ s'.os = s₁.os ∧ AllBare s'.gens) s₁ := by
  have free : ∀ {b : Addr}, b ≠ a → H b = none := fun {b} n => by
    cases q : H b with
    | none => rfl
    | some u => exact absurd (hA b (by rw [q]; exact fun z => by cases z)) n
  have nsK : ∀ {b : Addr} {m : Str → Option Value}, s₁.heap.Ns b m → (hidT s₁.heap H).Ns b m := fun {b m} ⟨o, es, ep, e, d, r⟩ => by
    have nb : b ≠ a := fun z => by
      subst z
      rw [ha] at e
      cases e
      have d' : Data.seq vs.toArray _ = Data.dict es ep := d
      cases d'
    exact ⟨o, es, ep, hidT_get e (free nb), d, r⟩
  have hKb : K.In (hidT s₁.heap H) := fun b o e => hidT_get (KX b o e) (by
    by_cases nb : b = a
    · subst nb
      cases q : H b with
      | none => rfl
      | some u =>
        have := hK (by rw [q]; exact fun z => by cases z)
        rw [this] at e
        cases e
    · exact free nb)
  have hM : Mod K mg (hidT s₁.heap H) := ⟨hKb, nsK hns, ⟨mb, nsK hb, hbb⟩, let ⟨mc, h1, h2⟩ := hlim; ⟨mc, nsK h1, h2⟩⟩
  have e0 : Env0 P w K mg (hidT s₁.heap H) callerA [] s₁ H := ⟨rfl, hM, fun b o e => of_hidT e, Nat.le_of_eq (hidT_size _ _), trivial, fun b hb => absurd (show b ∈ ([] : List Addr) from hb) (by simp), hok, .of_eq hg⟩
  have go := (F _ hKb (nsK hns)).run callerA [] s₁ H ⟨[.ref a], []⟩ [.ref a] [.ref a] (fun v _ => v = .bl true) (fun _ _ _ => False) (roomG_caller hr) e0 (hbind s₁ (.ref a)) (.cons rfl .nil) hsp
  refine codeAny_mono go fun r s' h => ?_
  match r, h with
  | .error e, h => exact (hCX e s' h).elim
  | .ok .next, h => exact False.elim h
  | .ok .brk, h => exact False.elim h
  | .ok .cont, h => exact False.elim h
  | .ok (.ret u), h =>
    obtain ⟨v, H', os, bare, un, hok', r', q⟩ := h
    have q' : v = .bl true := q
    subst q'
    obtain rfl : u = Value.bool true := r'
    refine ⟨rfl, OldK.of_keep fun b o e => ?_, os, bare⟩
    cases q : H b with
    | none => exact un.keep b o e q (by intro z; exact absurd (show b ∈ ([] : List Addr) from z) (by simp)) (by simp)
    | some u =>
      rcases hO b with z | ⟨ob, xs, z⟩
      · rw [q] at z; cases z
      · have e1 := (hok b _ z).1
        have e2 := (hok' b _ (un.frzs b ob _ z)).1
        rw [e] at e1
        cases e1
        exact e2
end
theorem walkG {l : PySem.W.OpenLaw} {n k : Nat} {q : Program} {loose : List Str} {XP : (Str → Option Value) → Heap → Prop} {YP : World → Heap → Prop} {d : DefRec} {K : Params → PySem.W.Frag} {CX : World → CXT} {sp : World → Sp} {x : Str}
    (hn : l.most = some n) (hn2 : n ≤ sizeLine) (hdf : d.params.defaults = []) (hr : Room k callerA) (hY : ∀ (w : World) (h : Heap), YP w h → (K w.params).In h)
    (F : ∀ (w : World) (mg : Str → Option Value) (fa : Addr) (h : Heap), (K w.params).In h → h.Ns mainGlobals mg → mg d.name = some (.ref fa) →
      ∃ fd : FuncData, (∀ (s : Shared) (u : Value), BindsTo s fd ⟨[u], []⟩ [(x, u)]) ∧ ∀ base : Heap, (K w.params).In base → base.Ns mainGlobals mg → FnG l.prog w (K w.params) mg base (CX w) k fa fd [x] (sp w))
    (hsp : ∀ (w : World) (H : Hp) (a : Addr) (ns : List Int), ns.length ≤ n → Only H → SqL (K w.params) H a (ns.map V.int) → sp w [.ref a] H (fun v _ => v = .bl true) fun _ _ _ => False)
    (hCX : ∀ (w : World) (H : Hp) (s : Shared) (e : Value) (s' : Shared), CX w [] H s (fun _ _ _ => False) e s' → False) : PySem.W.WalkO q loose XP YP l.row.toRowW d [] (fun f vs => PySem.call f vs) := by
  refine Att.attach_call hn hdf fun w s₀ s₁ mg mb fa o pm cd doc a vs ns G Y ho hd hcd hmg ha hi hlen hg => ?_
  have KX := hY w _ Y
  obtain ⟨fd, hb, hF⟩ := F w mg fa _ KX G.T.g hmg
  have rv := vals_ints hi
  have lenV := hi.length
  have hl : ns.length ≤ sizeLine := Nat.le_trans hlen hn2
  have one := fun (H : Hp) (hO : Only H) (hS : SqL (K w.params) H a (ns.map V.int)) => run_law H KX G.T.g G.T.b G.T.builtins G.T.nolimit hg ha hr hF hb (hsp w H a ns hlen hO hS) (fun e s' => hCX w H s₁ e s') hO
  cases hk : (K w.params).lookup a with
  | some o' =>
    have e := KX a o' hk
    rw [ha] at e
    cases e
    refine one (fun _ => none) (fun _ => .inl rfl) (.inr ⟨_, vs.toArray, _, hk, rfl, rfl, rfl, by rw [List.size_toArray, lenV]; exact hl, by simpa using rv⟩) (fun b u z => ?_) (fun b z => absurd rfl z) fun z => absurd rfl z
    have z' : (none : Option HO) = some u := z
    cases z'
  | none =>
    have ya : ∀ {b : Addr} {u : HO}, (if b = a then some (HO.frz { cls := .type "list", data := .seq vs.toArray } (.lst (ns.map V.int))) else none) = some u → b = a ∧ u = .frz { cls := .type "list", data := .seq vs.toArray } (.lst (ns.map V.int)) := fun {b u} z => by
      by_cases hb : b = a
      · rw [if_pos hb] at z
        exact ⟨hb, (Option.some.inj z).symm⟩
      · rw [if_neg hb] at z
        cases z
    refine one (fun b => if b = a then some (.frz { cls := .type "list", data := .seq vs.toArray } (.lst (ns.map V.int))) else none) (fun b => ?_) (.inl (.inr ⟨{ cls := .type "list", data := .seq vs.toArray }, if_pos rfl⟩)) (fun b u z => ?_) (fun b z => ?_) fun _ => hk
    · by_cases hb : b = a
      · exact .inr ⟨_, _, if_pos hb⟩
      · exact .inl (if_neg hb)
    · obtain ⟨e1, e2⟩ := ya z
      subst e1 e2
      exact ⟨ha, by rw [List.length_map]; exact hl, vs, _, rv, ha⟩
    · by_cases hb : b = a
      · exact hb
      · exact absurd (if_neg hb) z
end N

namespace N
open PySem PySem.Spec PyProof.Rows L2
/-! ### repr of data -/
/-- repr(x), x a list or a tuple of data without dicts -/
def rRepr (K : PySem.W.Frag) : List V → Hp → VK → Prop := fun xs H Q => ∃ (a : Addr) (d : PyData), xs = [V.ref a] ∧ Dp K H (.ref a) d ∧ d.showable = true ∧ d.hasDict = false ∧ d.depth ≤ 60 ∧ d.shown.length ≤ sizeLine ∧ Q (.str d.shown) H
theorem call_repr {X : Cx} {k : Nat} (hr : RoomG k X.A) : CallR X (.builtin "repr") (rRepr X.K) := by
  intro pins s σ H xs us Q I r h
  obtain ⟨a, d, rfl, hd, hs, hn, hdp, hz, q⟩ := h
  obtain ⟨u, rfl, ru⟩ := vals1 r
  cases (show u = Value.ref a from ru)
  obtain ⟨as, rd⟩ := Dp.reads I d _ _ hd rfl
  have hun := hr.toRoom.units
  exact repr_of_reads' rd hs (PyData.noDict_hsm hn) hr.gs (by omega) (fun b o e => e) (fun h' u tk hk => ⟨.str d.shown, H, I.kept (t' := tk) hk, ⟨_, rfl⟩, q⟩) hz
end N

namespace N
open PySem PySem.Spec PyProof.Rows L2
namespace Kd
theorem size_parts (k : Kd) : k.size = (k.parts.filter isC).length := by
  induction k with
  | L c => rfl
  | C0 n => rfl
  | C1 n a ih =>
    show 1 + a.size = ((C1 n a :: a.parts).filter isC).length
    rw [List.filter_cons_of_pos (by rfl), List.length_cons, ih]
    omega
  | C2 n a b ih1 ih2 =>
    show 1 + a.size + b.size = ((C2 n a b :: (a.parts ++ b.parts)).filter isC).length
    rw [List.filter_cons_of_pos (by rfl), List.length_cons, List.filter_append, List.length_append, ih1, ih2]
    omega
theorem nds_le (k : Kd) : k.nds ≤ k.tg.nodes := by
  induction k with
  | L c => simp [tg, nds, Tg.nodes]
  | C0 n => simp [tg, nds, Tg.nodes, nodesAll]
  | C1 n a ih => simp only [tg, nds, Tg.nodes, nodesAll]; omega
  | C2 n a b ih1 ih2 => simp only [tg, nds, Tg.nodes, nodesAll]; omega
end Kd
section
variable {K : PySem.W.Frag}
theorem Kps.at {H : Hp} : ∀ {vs : List V} {ks : List Kd} {i : Nat} {x : V}, Kps K H vs ks → vs[i]? = some x → ∃ k, ks[i]? = some k ∧ Kp K H x k
  | _, [], i, x, .nil, h => by simp at h
  | _, k :: ks, 0, x, .cons r _, h => by
    simp at h
    subst h
    exact ⟨k, rfl, r⟩
  | _, k :: ks, i + 1, x, .cons _ t, h => by
    obtain ⟨k', e, r⟩ := Kps.at (ks := ks) (i := i) (x := x) t (by simpa using h)
    exact ⟨k', by simpa using e, r⟩
theorem take_snoc {α : Type} {l : List α} {i : Nat} {x : α} (h : l[i]? = some x) : l.take (i + 1) = l.take i ++ [x] := by rw [List.take_add_one, h]; rfl
end
end N

namespace N
open PySem PySem.Spec PyProof.Rows L2
def topS (i : Nat) : Stmt := PySem.Challenge.pw_endlesskinds_k67_turned_parents_refused.main.body.getD i (.Pass ⟨0, 0, 0, 0⟩)
abbrev s_is_letter : Stmt := topS 11
abbrev nm_is_letter : List Str := ["thing"]
theorem sc_is_letter : FnScope nm_is_letter ["thing"] (defScope s_is_letter) := ⟨rfl, rfl, rfl, by decide +kernel, rfl, by decide +kernel, by decide +kernel⟩
abbrev s_is_name : Stmt := topS 12
abbrev nm_is_name : List Str := ["thing"]
theorem sc_is_name : FnScope nm_is_name ["thing"] (defScope s_is_name) := ⟨rfl, rfl, rfl, by decide +kernel, rfl, by decide +kernel, by decide +kernel⟩
abbrev s_begins_class_type : Stmt := topS 13
abbrev nm_begins_class_type : List Str := ["thing"]
theorem sc_begins_class_type : FnScope nm_begins_class_type ["thing"] (defScope s_begins_class_type) := ⟨rfl, rfl, rfl, by decide +kernel, rfl, by decide +kernel, by decide +kernel⟩
abbrev s_is_type : Stmt := topS 14
abbrev nm_is_type : List Str := ["thing", "rest", "part"]
theorem sc_is_type : FnScope nm_is_type ["thing"] (defScope s_is_type) := ⟨rfl, rfl, rfl, by decide +kernel, rfl, by decide +kernel, by decide +kernel⟩
abbrev s_parts : Stmt := topS 15
abbrev nm_parts : List Str := ["kind", "found", "rest", "part"]
theorem sc_parts : FnScope nm_parts ["kind"] (defScope s_parts) := ⟨rfl, rfl, rfl, by decide +kernel, rfl, by decide +kernel, by decide +kernel⟩
abbrev s_class_types : Stmt := topS 16
abbrev nm_class_types : List Str := ["kinds", "kind"]
theorem sc_class_types : FnScope nm_class_types ["kinds"] (defScope s_class_types) := ⟨rfl, rfl, rfl, by decide +kernel, rfl, by decide +kernel, by decide +kernel⟩
abbrev s_size_of : Stmt := topS 17
abbrev nm_size_of : List Str := ["kind"]
theorem sc_size_of : FnScope nm_size_of ["kind"] (defScope s_size_of) := ⟨rfl, rfl, rfl, by decide +kernel, rfl, by decide +kernel, by decide +kernel⟩
abbrev s_written : Stmt := topS 18
abbrev nm_written : List Str := ["kind", "row", "before", "argument"]
theorem sc_written : FnScope nm_written ["kind"] (defScope s_written) := ⟨rfl, rfl, rfl, by decide +kernel, rfl, by decide +kernel, by decide +kernel⟩
abbrev s_text_of : Stmt := topS 19
abbrev nm_text_of : List Str := ["kind", "pieces", "rest", "part"]
theorem sc_text_of : FnScope nm_text_of ["kind"] (defScope s_text_of) := ⟨rfl, rfl, rfl, by decide +kernel, rfl, by decide +kernel, by decide +kernel⟩
abbrev s_word_at : Stmt := topS 20
abbrev nm_word_at : List Str := ["line", "at", "end"]
theorem sc_word_at : FnScope nm_word_at ["line", "at"] (defScope s_word_at) := ⟨rfl, rfl, rfl, by decide +kernel, rfl, by decide +kernel, by decide +kernel⟩
abbrev s_scan : Stmt := topS 21
abbrev nm_scan : List Str := ["line", "at", "begun", "word", "done"]
theorem sc_scan : FnScope nm_scan ["line", "at"] (defScope s_scan) := ⟨rfl, rfl, rfl, by decide +kernel, rfl, by decide +kernel, by decide +kernel⟩
abbrev s_read : Stmt := topS 22
abbrev nm_read : List Str := ["text", "kind", "end"]
theorem sc_read : FnScope nm_read ["text"] (defScope s_read) := ⟨rfl, rfl, rfl, by decide +kernel, rfl, by decide +kernel, by decide +kernel⟩
abbrev s_passed_on : Stmt := topS 29
abbrev nm_passed_on : List Str := ["sign", "variance"]
theorem sc_passed_on : FnScope nm_passed_on ["sign", "variance"] (defScope s_passed_on) := ⟨rfl, rfl, rfl, by decide +kernel, rfl, by decide +kernel, by decide +kernel⟩
abbrev s_signed_letters : Stmt := topS 30
abbrev nm_signed_letters : List Str := ["kind", "sign", "variances", "places", "rest", "part", "own", "argument", "variance"]
theorem sc_signed_letters : FnScope nm_signed_letters ["kind", "sign", "variances"] (defScope s_signed_letters) := ⟨rfl, rfl, rfl, by decide +kernel, rfl, by decide +kernel, by decide +kernel⟩
abbrev s_is_barred : Stmt := topS 31
abbrev nm_is_barred : List Str := ["sign", "variance"]
theorem sc_is_barred : FnScope nm_is_barred ["sign", "variance"] (defScope s_is_barred) := ⟨rfl, rfl, rfl, by decide +kernel, rfl, by decide +kernel, by decide +kernel⟩
abbrev s_wrong_letters : Stmt := topS 32
abbrev nm_wrong_letters : List Str := ["parameters", "places", "wrong", "letter", "variance", "found", "sign"]
theorem sc_wrong_letters : FnScope nm_wrong_letters ["parameters", "places"] (defScope s_wrong_letters) := ⟨rfl, rfl, rfl, by decide +kernel, rfl, by decide +kernel, by decide +kernel⟩
abbrev s_is_short_tuple : Stmt := topS 38
abbrev nm_is_short_tuple : List Str := ["thing"]
theorem sc_is_short_tuple : FnScope nm_is_short_tuple ["thing"] (defScope s_is_short_tuple) := ⟨rfl, rfl, rfl, by decide +kernel, rfl, by decide +kernel, by decide +kernel⟩
abbrev s_all_differ : Stmt := topS 39
abbrev nm_all_differ : List Str := ["words"]
theorem sc_all_differ : FnScope nm_all_differ ["words"] (defScope s_all_differ) := ⟨rfl, rfl, rfl, by decide +kernel, rfl, by decide +kernel, by decide +kernel⟩
abbrev s_is_declared : Stmt := topS 40
abbrev nm_is_declared : List Str := ["thing"]
theorem sc_is_declared : FnScope nm_is_declared ["thing"] (defScope s_is_declared) := ⟨rfl, rfl, rfl, by decide +kernel, rfl, by decide +kernel, by decide +kernel⟩
abbrev s_is_parameter : Stmt := topS 41
abbrev nm_is_parameter : List Str := ["thing"]
theorem sc_is_parameter : FnScope nm_is_parameter ["thing"] (defScope s_is_parameter) := ⟨rfl, rfl, rfl, by decide +kernel, rfl, by decide +kernel, by decide +kernel⟩
abbrev s_are_parameters : Stmt := topS 42
abbrev nm_are_parameters : List Str := ["thing", "one"]
theorem sc_are_parameters : FnScope nm_are_parameters ["thing"] (defScope s_are_parameters) := ⟨rfl, rfl, rfl, by decide +kernel, rfl, by decide +kernel, by decide +kernel⟩
abbrev s_are_parents : Stmt := topS 43
abbrev nm_are_parents : List Str := ["thing", "kind"]
theorem sc_are_parents : FnScope nm_are_parents ["thing"] (defScope s_are_parents) := ⟨rfl, rfl, rfl, by decide +kernel, rfl, by decide +kernel, by decide +kernel⟩
abbrev s_is_member : Stmt := topS 44
abbrev nm_is_member : List Str := ["thing"]
theorem sc_is_member : FnScope nm_is_member ["thing"] (defScope s_is_member) := ⟨rfl, rfl, rfl, by decide +kernel, rfl, by decide +kernel, by decide +kernel⟩
abbrev s_are_members : Stmt := topS 45
abbrev nm_are_members : List Str := ["thing", "one"]
theorem sc_are_members : FnScope nm_are_members ["thing"] (defScope s_are_members) := ⟨rfl, rfl, rfl, by decide +kernel, rfl, by decide +kernel, by decide +kernel⟩
abbrev s_is_class : Stmt := topS 46
abbrev nm_is_class : List Str := ["thing", "name", "parameters", "parents", "members"]
theorem sc_is_class : FnScope nm_is_class ["thing"] (defScope s_is_class) := ⟨rfl, rfl, rfl, by decide +kernel, rfl, by decide +kernel, by decide +kernel⟩
abbrev s_names_of : Stmt := topS 47
abbrev nm_names_of : List Str := ["classes", "one"]
theorem sc_names_of : FnScope nm_names_of ["classes"] (defScope s_names_of) := ⟨rfl, rfl, rfl, by decide +kernel, rfl, by decide +kernel, by decide +kernel⟩
abbrev s_letters_of : Stmt := topS 48
abbrev nm_letters_of : List Str := ["one", "parameter"]
theorem sc_letters_of : FnScope nm_letters_of ["one"] (defScope s_letters_of) := ⟨rfl, rfl, rfl, by decide +kernel, rfl, by decide +kernel, by decide +kernel⟩
abbrev s_declared : Stmt := topS 49
abbrev nm_declared : List Str := ["one", "member"]
theorem sc_declared : FnScope nm_declared ["one"] (defScope s_declared) := ⟨rfl, rfl, rfl, by decide +kernel, rfl, by decide +kernel, by decide +kernel⟩
abbrev s_arities : Stmt := topS 50
abbrev nm_arities : List Str := ["classes", "one"]
theorem sc_arities : FnScope nm_arities ["classes"] (defScope s_arities) := ⟨rfl, rfl, rfl, by decide +kernel, rfl, by decide +kernel, by decide +kernel⟩
abbrev s_variances_of : Stmt := topS 51
abbrev nm_variances_of : List Str := ["classes", "parameter", "one"]
theorem sc_variances_of : FnScope nm_variances_of ["classes"] (defScope s_variances_of) := ⟨rfl, rfl, rfl, by decide +kernel, rfl, by decide +kernel, by decide +kernel⟩
abbrev s_is_of : Stmt := topS 52
abbrev nm_is_of : List Str := ["thing", "wanted", "letters", "rest", "part"]
theorem sc_is_of : FnScope nm_is_of ["thing", "wanted", "letters"] (defScope s_is_of) := ⟨rfl, rfl, rfl, by decide +kernel, rfl, by decide +kernel, by decide +kernel⟩
abbrev s_check_forms : Stmt := topS 53
abbrev nm_check_forms : List Str := ["classes", "one"]
theorem sc_check_forms : FnScope nm_check_forms ["classes"] (defScope s_check_forms) := ⟨rfl, rfl, rfl, by decide +kernel, rfl, by decide +kernel, by decide +kernel⟩
abbrev s_check_fit : Stmt := topS 54
abbrev nm_check_fit : List Str := ["classes", "wanted", "one", "letters", "kind"]
theorem sc_check_fit : FnScope nm_check_fit ["classes"] (defScope s_check_fit) := ⟨rfl, rfl, rfl, by decide +kernel, rfl, by decide +kernel, by decide +kernel⟩
abbrev s_heads_of : Stmt := topS 55
abbrev nm_heads_of : List Str := ["classes", "parent", "one"]
theorem sc_heads_of : FnScope nm_heads_of ["classes"] (defScope s_heads_of) := ⟨rfl, rfl, rfl, by decide +kernel, rfl, by decide +kernel, by decide +kernel⟩
abbrev s_elders : Stmt := topS 56
abbrev nm_elders : List Str := ["heads", "name", "found", "rest", "head"]
theorem sc_elders : FnScope nm_elders ["heads", "name"] (defScope s_elders) := ⟨rfl, rfl, rfl, by decide +kernel, rfl, by decide +kernel, by decide +kernel⟩
abbrev s_check_elders : Stmt := topS 57
abbrev nm_check_elders : List Str := ["classes", "heads", "name"]
theorem sc_check_elders : FnScope nm_check_elders ["classes"] (defScope s_check_elders) := ⟨rfl, rfl, rfl, by decide +kernel, rfl, by decide +kernel, by decide +kernel⟩
abbrev s_check_parents : Stmt := topS 58
abbrev nm_check_parents : List Str := ["classes", "variances", "name", "parameters", "parents", "_", "places", "parent", "place", "wrong"]
theorem sc_check_parents : FnScope nm_check_parents ["classes"] (defScope s_check_parents) := ⟨rfl, rfl, rfl, by decide +kernel, rfl, by decide +kernel, by decide +kernel⟩
abbrev s_check_classes : Stmt := topS 59
abbrev nm_check_classes : List Str := ["classes"]
theorem sc_check_classes : FnScope nm_check_classes ["classes"] (defScope s_check_classes) := ⟨rfl, rfl, rfl, by decide +kernel, rfl, by decide +kernel, by decide +kernel⟩
abbrev s_parameters_text : Stmt := topS 61
abbrev nm_parameters_text : List Str := ["parameters", "letter", "variance"]
theorem sc_parameters_text : FnScope nm_parameters_text ["parameters"] (defScope s_parameters_text) := ⟨rfl, rfl, rfl, by decide +kernel, rfl, by decide +kernel, by decide +kernel⟩
abbrev s_parents_text : Stmt := topS 62
abbrev nm_parents_text : List Str := ["parents", "parent"]
theorem sc_parents_text : FnScope nm_parents_text ["parents"] (defScope s_parents_text) := ⟨rfl, rfl, rfl, by decide +kernel, rfl, by decide +kernel, by decide +kernel⟩
abbrev s_class_text : Stmt := topS 63
abbrev nm_class_text : List Str := ["one", "name", "parameters", "parents", "members", "lines", "member", "way", "kind"]
theorem sc_class_text : FnScope nm_class_text ["one"] (defScope s_class_text) := ⟨rfl, rfl, rfl, by decide +kernel, rfl, by decide +kernel, by decide +kernel⟩
abbrev s_classes_text : Stmt := topS 64
abbrev nm_classes_text : List Str := ["classes", "one"]
theorem sc_classes_text : FnScope nm_classes_text ["classes"] (defScope s_classes_text) := ⟨rfl, rfl, rfl, by decide +kernel, rfl, by decide +kernel, by decide +kernel⟩
abbrev s_read_parameters : Stmt := topS 65
abbrev nm_read_parameters : List Str := ["words", "pairs", "pair"]
theorem sc_read_parameters : FnScope nm_read_parameters ["words"] (defScope s_read_parameters) := ⟨rfl, rfl, rfl, by decide +kernel, rfl, by decide +kernel, by decide +kernel⟩
abbrev s_read_parents : Stmt := topS 66
abbrev nm_read_parents : List Str := ["words", "kinds", "at", "kind"]
theorem sc_read_parents : FnScope nm_read_parents ["words"] (defScope s_read_parents) := ⟨rfl, rfl, rfl, by decide +kernel, rfl, by decide +kernel, by decide +kernel⟩
abbrev s_read_head : Stmt := topS 67
abbrev nm_read_head : List Str := ["line", "head", "_", "parents", "name", "parameters"]
theorem sc_read_head : FnScope nm_read_head ["line"] (defScope s_read_head) := ⟨rfl, rfl, rfl, by decide +kernel, rfl, by decide +kernel, by decide +kernel⟩
abbrev s_with_member : Stmt := topS 68
abbrev nm_with_member : List Str := ["one", "line", "words", "name", "parameters", "parents", "members"]
theorem sc_with_member : FnScope nm_with_member ["one", "line"] (defScope s_with_member) := ⟨rfl, rfl, rfl, by decide +kernel, rfl, by decide +kernel, by decide +kernel⟩
abbrev s_read_classes : Stmt := topS 69
abbrev nm_read_classes : List Str := ["words", "classes", "line"]
theorem sc_read_classes : FnScope nm_read_classes ["words"] (defScope s_read_classes) := ⟨rfl, rfl, rfl, by decide +kernel, rfl, by decide +kernel, by decide +kernel⟩
abbrev s_Lcell_at : Stmt := topS 73
abbrev nm_Lcell_at : List Str := ["_law_script", "_law_k"]
theorem sc_Lcell_at : FnScope nm_Lcell_at ["_law_script", "_law_k"] (defScope s_Lcell_at) := ⟨rfl, rfl, rfl, by decide +kernel, rfl, by decide +kernel, by decide +kernel⟩
abbrev s_Link : Stmt := topS 74
abbrev nm_Link : List Str := ["_law_cell"]
theorem sc_Link : FnScope nm_Link ["_law_cell"] (defScope s_Link) := ⟨rfl, rfl, rfl, by decide +kernel, rfl, by decide +kernel, by decide +kernel⟩
abbrev s_Ldraw : Stmt := topS 75
abbrev nm_Ldraw : List Str := ["_law_pen", "_law_many", "_law_found", "_law_mixed"]
theorem sc_Ldraw : FnScope nm_Ldraw ["_law_pen", "_law_many"] (defScope s_Ldraw) := ⟨rfl, rfl, rfl, by decide +kernel, rfl, by decide +kernel, by decide +kernel⟩
abbrev s_Lpick : Stmt := topS 76
abbrev nm_Lpick : List Str := ["_law_pen", "_law_some"]
theorem sc_Lpick : FnScope nm_Lpick ["_law_pen", "_law_some"] (defScope s_Lpick) := ⟨rfl, rfl, rfl, by decide +kernel, rfl, by decide +kernel, by decide +kernel⟩
abbrev s_Lnodes : Stmt := topS 77
abbrev nm_Lnodes : List Str := ["_law_kind", "_law_found", "_law_part"]
theorem sc_Lnodes : FnScope nm_Lnodes ["_law_kind"] (defScope s_Lnodes) := ⟨rfl, rfl, rfl, by decide +kernel, rfl, by decide +kernel, by decide +kernel⟩
abbrev s_Ldrawn : Stmt := topS 78
abbrev nm_Ldrawn : List Str := ["_law_pen", "_law_heads", "_law_some", "_law_deep", "_law_many", "_law_name", "_law_parts", "_law_lap"]
theorem sc_Ldrawn : FnScope nm_Ldrawn ["_law_pen", "_law_heads", "_law_some", "_law_deep"] (defScope s_Ldrawn) := ⟨rfl, rfl, rfl, by decide +kernel, rfl, by decide +kernel, by decide +kernel⟩
abbrev s_Lparent : Stmt := topS 79
abbrev nm_Lparent : List Str := ["_law_pen", "_law_ahead", "_law_heads", "_law_some", "_law_many", "_law_name", "_law_parts", "_law_lap", "_law_found"]
theorem sc_Lparent : FnScope nm_Lparent ["_law_pen", "_law_ahead", "_law_heads", "_law_some"] (defScope s_Lparent) := ⟨rfl, rfl, rfl, by decide +kernel, rfl, by decide +kernel, by decide +kernel⟩
abbrev s_Lown : Stmt := topS 80
abbrev nm_Lown : List Str := ["_law_classes_here", "_law_found", "_law_one"]
theorem sc_Lown : FnScope nm_Lown ["_law_classes_here"] (defScope s_Lown) := ⟨rfl, rfl, rfl, by decide +kernel, rfl, by decide +kernel, by decide +kernel⟩
abbrev s_Lmarks : Stmt := topS 81
abbrev nm_Lmarks : List Str := ["_law_kind", "_law_mark", "_law_own_here", "_law_found", "_law_pair", "_law_part", "_law_turn"]
theorem sc_Lmarks : FnScope nm_Lmarks ["_law_kind", "_law_mark", "_law_own_here"] (defScope s_Lmarks) := ⟨rfl, rfl, rfl, by decide +kernel, rfl, by decide +kernel, by decide +kernel⟩
abbrev s_Lrow : Stmt := topS 82
abbrev nm_Lrow : List Str := ["_law_pen", "_law_some", "_law_lot", "_law_own_here", "_law_marks_here", "_law_row_here", "_law_kind", "_law_letter", "_law_had", "_law_let", "_law_pair"]
theorem sc_Lrow : FnScope nm_Lrow ["_law_pen", "_law_some", "_law_lot", "_law_own_here"] (defScope s_Lrow) := ⟨rfl, rfl, rfl, by decide +kernel, rfl, by decide +kernel, by decide +kernel⟩
abbrev s_Lclasses : Stmt := topS 83
abbrev nm_Lclasses : List Str := ["_law_pen", "_law_most", "_law_menu", "_law_heads", "_law_found", "_law_lap", "_law_at", "_law_head", "_law_some", "_law_lot"]
theorem sc_Lclasses : FnScope nm_Lclasses ["_law_pen", "_law_most"] (defScope s_Lclasses) := ⟨rfl, rfl, rfl, by decide +kernel, rfl, by decide +kernel, by decide +kernel⟩
abbrev s_Ltable : Stmt := topS 84
abbrev nm_Ltable : List Str := ["_law_some"]
theorem sc_Ltable : FnScope nm_Ltable ["_law_some"] (defScope s_Ltable) := ⟨rfl, rfl, rfl, by decide +kernel, rfl, by decide +kernel, by decide +kernel⟩
abbrev s_Lshapes : Stmt := topS 85
abbrev nm_Lshapes : List Str := ["_law_classes_here", "_law_one"]
theorem sc_Lshapes : FnScope nm_Lshapes ["_law_classes_here"] (defScope s_Lshapes) := ⟨rfl, rfl, rfl, by decide +kernel, rfl, by decide +kernel, by decide +kernel⟩
abbrev s_Lmembers : Stmt := topS 86
abbrev nm_Lmembers : List Str := ["_law_pen", "_law_heads", "_law_some", "_law_found", "_law_word", "_law_kind"]
theorem sc_Lmembers : FnScope nm_Lmembers ["_law_pen", "_law_heads", "_law_some"] (defScope s_Lmembers) := ⟨rfl, rfl, rfl, by decide +kernel, rfl, by decide +kernel, by decide +kernel⟩
abbrev s_Lwith_members : Stmt := topS 87
abbrev nm_Lwith_members : List Str := ["_law_pen", "_law_classes_here", "_law_heads", "_law_found", "_law_one", "_law_some", "_law_pair"]
theorem sc_Lwith_members : FnScope nm_Lwith_members ["_law_pen", "_law_classes_here"] (defScope s_Lwith_members) := ⟨rfl, rfl, rfl, by decide +kernel, rfl, by decide +kernel, by decide +kernel⟩
abbrev s_Lturned : Stmt := topS 88
abbrev nm_Lturned : List Str := ["_law_classes_here", "_law_own_here", "_law_one", "_law_marks_here", "_law_kind", "_law_letter", "_law_word", "_law_let", "_law_pair"]
theorem sc_Lturned : FnScope nm_Lturned ["_law_classes_here"] (defScope s_Lturned) := ⟨rfl, rfl, rfl, by decide +kernel, rfl, by decide +kernel, by decide +kernel⟩
abbrev s_Ltold : Stmt := topS 89
abbrev nm_Ltold : List Str := ["_law_call", "error"]
theorem sc_Ltold : FnScope nm_Ltold ["_law_call"] (defScope s_Ltold) := ⟨rfl, rfl, rfl, by decide +kernel, rfl, by decide +kernel, by decide +kernel⟩
abbrev s_Ldue_of : Stmt := topS 90
abbrev nm_Ldue_of : List Str := ["_law_some", "_law_wrong"]
theorem sc_Ldue_of : FnScope nm_Ldue_of ["_law_some"] (defScope s_Ldue_of) := ⟨rfl, rfl, rfl, by decide +kernel, rfl, by decide +kernel, by decide +kernel⟩
abbrev s_Lvaried : Stmt := topS 91
abbrev nm_Lvaried : List Str := ["_law_pen", "_law_classes_here", "_law_found", "_law_one", "_law_row_here", "_law_pair"]
theorem sc_Lvaried : FnScope nm_Lvaried ["_law_pen", "_law_classes_here"] (defScope s_Lvaried) := ⟨rfl, rfl, rfl, by decide +kernel, rfl, by decide +kernel, by decide +kernel⟩
abbrev s_Lright : Stmt := topS 92
abbrev nm_Lright : List Str := ["_law_pen", "_law_classes_here", "_law_some", "_law_lot", "_law_rest", "_law_last", "_law_one", "_law_named", "_law_node", "_law_row_here", "_law_plain"]
theorem sc_Lright : FnScope nm_Lright ["_law_pen", "_law_classes_here"] (defScope s_Lright) := ⟨rfl, rfl, rfl, by decide +kernel, rfl, by decide +kernel, by decide +kernel⟩
abbrev s_law : Stmt := topS 93
abbrev nm_law : List Str := ["_law_script", "_law_k", "_law_pen", "_law_lap", "_law_classes_here"]
theorem sc_law : FnScope nm_law ["_law_script"] (defScope s_law) := ⟨rfl, rfl, rfl, by decide +kernel, rfl, by decide +kernel, by decide +kernel⟩
abbrev tabS : Stmt := topS 71
/-- what the top holds besides its defs -/
structure Glo (mg : Str → Option Value) : Prop where
  isinstance : mg "isinstance" = none
  str : mg "str" = none
  tuple : mg "tuple" = none
  dict : mg "dict" = none
  list : mg "list" = none
  len : mg "len" = none
  all : mg "all" = none
  max : mg "max" = none
  min : mg "min" = none
  range : mg "range" = none
  repr : mg "repr" = none
  sum : mg "sum" = none
  LN : ∃ t, mg "LONGEST_NAME" = some (.int 8 t)
  MA : ∃ t, mg "MOST_ARGUMENTS" = some (.int 2 t)
end N

namespace N
open PySem PySem.Spec PyProof.Rows L2
section
variable {P : Program} {w : World} {K : PySem.W.Frag} {mg : Str → Option Value} {base : Heap}
/-- all but what stands at p is as it was -/
def Bar (p : Addr) (H H' : Hp) : Prop := ∀ b o, b ≠ p → H b = some o → H' b = some o
def Pen (H : Hp) (p : Addr) : Prop := ∃ i j k : Int, H p = some (.lst [.int i, .int j, .int k]) ∧ 0 ≤ i ∧ 0 ≤ j ∧ j < 2147483648
theorem Bar.refl (p : Addr) (H : Hp) : Bar p H H := fun _ _ _ h => h
theorem Bar.trans {p : Addr} {H H1 H2 : Hp} (a : Bar p H H1) (b : Bar p H1 H2) : Bar p H H2 := fun x o n h => b x o n (a x o n h)
theorem bar_same {p : Addr} {H H' : Hp} (a : Same H H') : Bar p H H' := fun x o _ h => a x o h
theorem bar_upd {p : Addr} {H : Hp} (o : HO) : Bar p H (upd H p o) := fun b u n h => by rw [upd_ne n]; exact h
theorem Pen.same {p : Addr} {H H' : Hp} (a : Same H H') (h : Pen H p) : Pen H' p := by
  obtain ⟨i, j, k, e, r⟩ := h
  exact ⟨i, j, k, a _ _ e, r⟩
theorem bar_stay {p : Addr} {H H' : Hp} (a : Bar p H H') (h : Pen H p) (h' : Pen H' p) : Stay K H H' := by
  obtain ⟨i, j, k, e, _⟩ := h
  obtain ⟨i', j', k', e', _⟩ := h'
  refine stay_of (fun b o q => ?_) fun b x q => a b _ (ne_of q e (by intro z; cases z)) q
  by_cases hb : b = p
  · subst hb
    rw [e] at q
    cases q
    exact .inr ⟨_, _, rfl, e'⟩
  · exact .inl (a b o hb q)
theorem bar_seq {p a : Addr} {H H' : Hp} {xs : List V} (b : Bar p H H') (n : a ≠ p) (h : SqL K H a xs) : SqL K H' a xs := by
  rcases h with (h | ⟨o, h⟩) | h
  · exact .inl (.inl (b _ _ n h))
  · exact .inl (.inr ⟨o, b _ _ n h⟩)
  · exact .inr h
theorem pen_free {p q : Addr} {H H' : Hp} (b : Bar p H H') (h : Pen H p) (n : H' q = none) (hq : Pen H' p) : H q = none := by
  cases e : H q with
  | none => rfl
  | some o =>
    obtain ⟨_, _, _, e', _⟩ := hq
    by_cases hb : q = p
    · subst hb; rw [e'] at n; cases n
    · rw [b q o hb e] at n; cases n
def spCell (K : PySem.W.Frag) : Sp := fun vs H Q _ => ∃ (a : Addr) (ns : List Int) (k : Nat), vs = [.ref a, .int k] ∧ SqL K H a (ns.map V.int) ∧ ∀ n : Int, Q (.int n) H
theorem ok_cell (G : Glo mg) (D : DefAt K mg "_law_cell_at" s_Lcell_at ["_law_script", "_law_k"]) : Cal P w K mg base 1 "_law_cell_at" ["_law_script", "_law_k"] (spCell K) := by
  refine D.cal sc_Lcell_at (fun vs H Q E h => ?_) (fun f cdv A outer s H vs Q E hr h => ?_)
  · obtain ⟨a, ns, k, rfl, _⟩ := h
    rfl
  obtain ⟨a, ns, k, rfl, hS, q⟩ := h
  refine ⟨_, pss_cons (ps_if (pt_cmpR op_lt (pv 1) (pe_callB call_len_seq (by rfl) G.len PySem.boot_len (pa_cons (pv 0) pa_nil)) (nomark _)) (pss_one (ps_ret (pe_ix ix_list (pv 0) (pv 1) (fun _ _ => rfl)))) pss_nil) (pss_one (ps_ret pe_int)), ?_⟩
  refine ⟨_, rfl, _, rfl, a, _, rfl, .inl hS, _, _, rfl, rfl, _, rfl, ite2 (fun c => ?_) (fun c => ?_)⟩
  · have c' : ((k : Nat) : Int) < (((ns.map V.int).length : Nat) : Int) := of_decide_eq_true c
    rw [List.length_map] at c'
    have hk : k < ns.length := by omega
    exact ⟨_, rfl, _, rfl, a, _, _, .int ns[k], rfl, rfl, hS, atI_nat (by rw [List.getElem?_map, List.getElem?_eq_getElem hk] <;> rfl), q _⟩
  · exact q 0
def spPen (K : PySem.W.Frag) : Sp := fun vs H Q _ => ∃ n : Int, vs = [.int n] ∧ ∀ p H', Same H H' → H p = none → Pen H' p → Q (.ref p) H'
theorem ok_pen (G : Glo mg) (D : DefAt K mg "_law_ink" s_Link ["_law_cell"]) : Cal P w K mg base 1 "_law_ink" ["_law_cell"] (spPen K) := by
  refine D.cal sc_Link (fun vs H Q E h => ?_) (fun f cdv A outer s H vs Q E hr h => ?_)
  · obtain ⟨n, rfl, _⟩ := h
    rfl
  obtain ⟨n, rfl, q⟩ := h
  refine ⟨_, pss_one (ps_ret (pe_lst (pa_cons (pe_callB (call_max2 rfl) (by rfl) G.max (by decide +kernel) (pa_cons pe_int (pa_cons (pe_op op_sub (pv 0) (pe_op op_pow pe_int pe_int)) pa_nil)))
    (pa_cons (pe_op op_add (pe_op op_modN (pv 0) pe_int) pe_int) (pa_cons pe_int pa_nil))))), ?_⟩
  refine ⟨_, rfl, _, _, rfl, rfl, ⟨by decide, by decide, by decide⟩, _, _, rfl, rfl, _, _, rfl, ?_⟩
  refine ⟨_, rfl, _, _, rfl, rfl, (by show (2147483629 : Int) ≠ 0; decide), _, _, rfl, rfl, by show 3 ≤ sizeLine; decide, fun p hp => ?_⟩
  refine q p _ (same_new hp _) hp ⟨_, _, _, upd_same, ?_, ?_, ?_⟩
  · split <;> omega
  · rw [Int.fmod_eq_emod_of_nonneg _ (by decide)]; omega
  · rw [Int.fmod_eq_emod_of_nonneg _ (by decide)]; omega
def spDraw (K : PySem.W.Frag) : Sp := fun vs H Q _ => ∃ (p : Addr) (n : Int), vs = [.ref p, .int n] ∧ Pen H p ∧ 0 < n ∧ n < 1073741824 ∧ ∀ H' r, Bar p H H' → Pen H' p → 0 ≤ r → r < n → Q (.int r) H'
theorem ok_draw (D : DefAt K mg "_law_draw" s_Ldraw ["_law_pen", "_law_many"]) : Cal P w K mg base 1 "_law_draw" ["_law_pen", "_law_many"] (spDraw K) := by
  refine D.cal sc_Ldraw (fun vs H Q E h => ?_) (fun f cdv A outer s H vs Q E hr h => ?_)
  · obtain ⟨p, n, rfl, _⟩ := h
    rfl
  obtain ⟨p, n, rfl, ⟨i, j, k, e, hi, hj, hj2⟩, hn, hn2, q⟩ := h
  refine ⟨_, pss_cons (ps_if (pt_cmpR op_gt (pe_ix ix_list (pv 0) pe_int (fun _ _ => rfl)) pe_int (nomark _))
      (pss_cons (ps_set (i := 2) sc_Ldraw.nd rfl (Or.inl rfl) (pe_op op_modN (pe_ix ix_list (pv 0) pe_int (fun _ _ => rfl)) (pv 1)))
      (pss_cons (ps_asg (pe_op op_fdivN (pe_ix ix_list (pv 0) pe_int (fun _ _ => rfl)) (pv 1)) (pg_sub (pv 0) pe_int set_list)) (pss_one (ps_ret (pv 2))))) pss_nil)
    (pss_cons (ps_asg (pe_op op_add (pe_ix ix_list (pv 0) pe_int (fun _ _ => rfl)) pe_int) (pg_sub (pv 0) pe_int set_list))
    (pss_cons (ps_asg (pe_op op_modN (pe_op op_add (pe_op op_add (pe_op op_mul (pe_ix ix_list (pv 0) pe_int (fun _ _ => rfl)) pe_int) (pe_op op_mul pe_int (pe_ix ix_list (pv 0) pe_int (fun _ _ => rfl)))) pe_int) pe_int) (pg_sub (pv 0) pe_int set_list))
    (pss_cons (ps_set (i := 3) sc_Ldraw.nd rfl (Or.inl rfl) (pe_op op_modN (pe_op op_add (pe_op op_add (pe_op op_mul (pe_ix ix_list (pv 0) pe_int (fun _ _ => rfl)) (pe_ix ix_list (pv 0) pe_int (fun _ _ => rfl))) (pe_op op_mul pe_int (pe_ix ix_list (pv 0) pe_int (fun _ _ => rfl)))) pe_int) pe_int))
    (pss_cons (ps_set (i := 3) sc_Ldraw.nd rfl (Or.inl rfl) (pe_op op_modN (pe_op op_add (pe_op op_mul (pv 3) (pv 3)) (pe_op op_mul pe_int (pv 3))) pe_int))
    (pss_one (ps_ret (pe_op op_modN (pe_op op_fdivN (pv 3) pe_int) (pv 1)))))))), ?_⟩
  refine ⟨_, rfl, p, _, 0, .int i, rfl, rfl, SqL.of e, atI_nat (j := 0) rfl, _, _, rfl, rfl, _, rfl, ite2 (fun c => ?_) (fun c => ?_)⟩
  · have c' : i > 0 := of_decide_eq_true c
    refine ⟨_, rfl, p, _, 0, .int i, rfl, rfl, SqL.of e, atI_nat (j := 0) rfl, _, rfl, _, _, rfl, rfl, (by show n ≠ 0; omega), ?_⟩
    refine ⟨_, rfl, p, _, 0, .int i, rfl, rfl, SqL.of e, atI_nat (j := 0) rfl, _, rfl, _, _, rfl, rfl, ⟨by omega, by omega⟩, ?_⟩
    refine ⟨_, rfl, p, _, 0, 0, rfl, rfl, e, rfl, ?_⟩
    refine ⟨_, rfl, q _ _ (bar_upd _) ⟨_, j, k, upd_same, ?_, hj, hj2⟩ ?_ ?_⟩
    · rw [Int.fdiv_eq_ediv_of_nonneg _ (by omega)]
      exact Int.ediv_nonneg hi (by omega)
    · rw [Int.fmod_eq_emod_of_nonneg _ (by omega)]
      exact Int.emod_nonneg _ (by omega)
    · rw [Int.fmod_eq_emod_of_nonneg _ (by omega)]
      exact Int.emod_lt_of_pos _ hn
  · refine ⟨_, rfl, p, _, 2, .int k, rfl, rfl, SqL.of e, atI_nat (j := 2) rfl, _, _, rfl, rfl, ?_⟩
    refine ⟨_, rfl, p, _, 2, 2, rfl, rfl, e, rfl, ?_⟩
    have e1 : (upd H p (.lst ([.int i, .int j, .int k].set 2 (.int (k + 1))))) p = some (.lst [.int i, .int j, .int (k + 1)]) := upd_same
    refine ⟨_, rfl, p, _, 1, .int j, rfl, rfl, SqL.of e1, atI_nat (j := 1) rfl, _, _, rfl, rfl, .inl ⟨by omega, by omega⟩, ?_⟩
    refine ⟨_, rfl, p, _, 2, .int (k + 1), rfl, rfl, SqL.of e1, atI_nat (j := 2) rfl, _, _, rfl, rfl, .inl ⟨by decide, by decide⟩, _, _, rfl, rfl, _, _, rfl, rfl, _, _, rfl, rfl, (by show (2147483647 : Int) ≠ 0; decide), ?_⟩
    have hj0 : 0 ≤ ((j * 48271 + 1009 * (k + 1) + 7).fmod 2147483647) ∧ ((j * 48271 + 1009 * (k + 1) + 7).fmod 2147483647) < 2147483648 := by rw [Int.fmod_eq_emod_of_nonneg _ (by decide)]; omega
    dsimp only
    revert hj0
    generalize (j * 48271 + 1009 * (k + 1) + 7).fmod 2147483647 = j'
    intro hj'
    refine ⟨_, rfl, p, _, 1, 1, rfl, rfl, e1, rfl, ?_⟩
    have e2 : (upd (upd H p (.lst ([.int i, .int j, .int k].set 2 (.int (k + 1))))) p (.lst (([.int i, .int j, .int (k + 1)] : List V).set 1 (.int j')))) p = some (.lst [.int i, .int j', .int (k + 1)]) := upd_same
    have b2 : Bar p H (upd (upd H p (.lst ([.int i, .int j, .int k].set 2 (.int (k + 1))))) p (.lst (([.int i, .int j, .int (k + 1)] : List V).set 1 (.int j')))) := (bar_upd _).trans (bar_upd _)
    refine ⟨_, rfl, p, _, 1, .int j', rfl, rfl, SqL.of e2, atI_nat (j := 1) rfl, ?_⟩
    refine ⟨_, rfl, p, _, 1, .int j', rfl, rfl, SqL.of e2, atI_nat (j := 1) rfl, _, _, rfl, rfl, .inl ⟨by omega, by omega⟩, ?_⟩
    refine ⟨_, rfl, p, _, 1, .int j', rfl, rfl, SqL.of e2, atI_nat (j := 1) rfl, _, _, rfl, rfl, .inl ⟨by decide, by decide⟩, _, _, rfl, rfl, _, _, rfl, rfl, _, _, rfl, rfl, (by show (2147483629 : Int) ≠ 0; decide), ?_⟩
    have hm0 : 0 ≤ ((j' * j' + 69621 * j' + 11).fmod 2147483629) ∧ ((j' * j' + 69621 * j' + 11).fmod 2147483629) < 2147483648 := by rw [Int.fmod_eq_emod_of_nonneg _ (by decide)]; omega
    dsimp only
    revert hm0
    generalize (j' * j' + 69621 * j' + 11).fmod 2147483629 = m
    intro hm
    refine ⟨_, rfl, _, rfl, _, _, rfl, rfl, .inl ⟨by omega, by omega⟩, _, rfl, _, _, rfl, rfl, .inl ⟨by decide, by decide⟩, _, _, rfl, rfl, _, _, rfl, rfl, (by show (2147483587 : Int) ≠ 0; decide), ?_⟩
    refine ⟨_, rfl, _, _, rfl, rfl, ⟨by decide, by decide⟩, _, rfl, _, _, rfl, rfl, (by show n ≠ 0; omega), q _ _ b2 ⟨i, j', k + 1, e2, hi, hj'⟩ ?_ ?_⟩
    · rw [Int.fmod_eq_emod_of_nonneg _ (by omega)]
      exact Int.emod_nonneg _ (by omega)
    · rw [Int.fmod_eq_emod_of_nonneg _ (by omega)]
      exact Int.emod_lt_of_pos _ hn
end
end N

namespace N
open PySem PySem.Spec PyProof.Rows L2
section
variable {P : Program} {w : World} {K : PySem.W.Frag} {mg : Str → Option Value} {base : Heap}
theorem sz5 {n : Nat} (h : n ≤ 100000) : n ≤ sizeLine := Nat.le_trans h (by decide)
/-- one thing, nothing changed -/
def spTest (K : PySem.W.Frag) (g : Tg → Bool) : Sp := fun vs H Q _ => ∃ v t, vs = [v] ∧ Th K H v t ∧ Q (.bl (g t)) H
theorem ok_is_letter (G : Glo mg) (D : DefAt K mg "is_letter" s_is_letter ["thing"]) : Cal P w K mg base 1 "is_letter" ["thing"] (spTest K Tg.isL) := by
  refine D.cal sc_is_letter (fun vs H Q E h => ?_) (fun f cdv A outer s H vs Q E hr h => ?_)
  · obtain ⟨v, t, rfl, _⟩ := h
    rfl
  obtain ⟨v, t, rfl, hT, q⟩ := h
  refine ⟨_, pss_one (ps_ret (pe_and (pe_isi G.isinstance G.str b_str rfl rfl (pv 0))
    (pe_and (pe_cmpR op_eq (pe_callB call_len_str (by rfl) G.len PySem.boot_len (pa_cons (pv 0) pa_nil)) pe_int (nomark _))
    (pe_one (pe_chain op_le_str op_le_str pe_str (pv 0) pe_str))))), ?_⟩
  refine ⟨v, rfl, isi_str hT ?_⟩
  cases hT with
  | str x hx =>
    refine ⟨true, rfl, iteT ⟨_, rfl, x, rfl, sz5 hx, rfl, _, rfl, ?_⟩⟩
    have e : decide (V.int (x.length : Int) = V.int 1) = decide (x.length = 1) := by
      by_cases h : x.length = 1
      · rw [h]
        decide
      · rw [decide_eq_false h, decide_eq_false (fun z => h (by have := V.int.inj z; omega))]
    rw [e]
    refine ite2 (fun c => ?_) (fun c => ?_)
    · refine ⟨_, rfl, _, _, rfl, rfl, _, rfl, ?_⟩
      refine ite2 (fun c2 => ?_) (fun c2 => ?_)
      · refine ⟨_, _, rfl, rfl, ?_⟩
        have e2 : Tg.isL (.str x) = (!decide (("Z" : Str).cps.toList < x.cps.toList)) := by
          show isLet x = _
          unfold isLet
          rw [c, c2, Bool.true_and, Bool.true_and]
        rw [← e2]
        exact q
      · have e2 : Tg.isL (.str x) = false := by
          show isLet x = _
          unfold isLet
          rw [Bool.eq_false_iff.mpr c2, Bool.false_and, Bool.and_false]
        rw [e2] at q
        exact q
    · have e2 : Tg.isL (.str x) = false := by
        show isLet x = _
        unfold isLet
        rw [Bool.eq_false_iff.mpr c, Bool.false_and]
      rw [e2] at q
      exact q
  | oth ty a b => exact ⟨false, rfl, iteF q⟩
  | tup h r => exact ⟨false, rfl, iteF q⟩
end
end N

namespace N
open PySem PySem.Spec PyProof.Rows L2
section
variable {P : Program} {w : World} {K : PySem.W.Frag} {mg : Str → Option Value} {base : Heap}
theorem ok_is_name (G : Glo mg) (D : DefAt K mg "is_name" s_is_name ["thing"]) : Cal P w K mg base 1 "is_name" ["thing"] (spTest K Tg.isNm) := by
  obtain ⟨t8, h8⟩ := G.LN
  refine D.cal sc_is_name (fun vs H Q E h => ?_) (fun f cdv A outer s H vs Q E hr h => ?_)
  · obtain ⟨v, t, rfl, _⟩ := h
    rfl
  obtain ⟨v, t, rfl, hT, q⟩ := h
  refine ⟨_, pss_cons (ps_if (PW.pt (pw_or (pt_not (pt_val (pe_isi G.isinstance G.str b_str rfl rfl (pv 0))))
      (pw_or1 (pt_cmpR op_gt (pe_callB call_len_str (by rfl) G.len PySem.boot_len (pa_cons (pv 0) pa_nil)) (pe_glob (v := .int 8) rfl h8 ⟨_, rfl⟩) (nomark _)))))
      (pss_one (ps_ret pe_bl)) pss_nil)
    (pss_one (ps_ret (pe_and (pe_m0 PySem.F.slot_str_isascii PySem.F.type_str_isascii mt_isascii (pv 0))
      (pe_and (pe_m0 PySem.F.slot_str_isalpha PySem.F.type_str_isalpha mt_isalpha (pv 0)) (pe_one (pe_m0 PySem.F.slot_str_islower PySem.F.type_str_islower mt_islower (pv 0))))))), ?_⟩
  refine ⟨v, rfl, isi_str hT ?_⟩
  cases hT with
  | str x hx =>
    refine ⟨true, rfl, iteF ⟨_, rfl, x, rfl, sz5 hx, _, _, rfl, rfl, _, rfl, ?_⟩⟩
    refine ite2 (fun c => ?_) (fun c => ?_)
    · have c' : ((x.length : Nat) : Int) > 8 := of_decide_eq_true c
      have e2 : Tg.isNm (.str x) = false := by
        show isNam x = _
        unfold isNam
        rw [decide_eq_true (show 8 < x.length by omega)]
        rfl
      rw [e2] at q
      exact q
    · have c' : ¬ ((x.length : Nat) : Int) > 8 := of_decide_eq_false (Bool.eq_false_iff.mpr c)
      have e2 : Tg.isNm (.str x) = (Txt.isascii x && (Txt.isalpha x && Txt.islower x)) := by
        show isNam x = _
        unfold isNam
        rw [decide_eq_false (show ¬ 8 < x.length by omega)]
        rfl
      rw [e2] at q
      refine ⟨_, rfl, ⟨_, rfl⟩, x, rfl, rfl, trivial, _, rfl, ?_⟩
      refine ite2 (fun c => ?_) (fun c => ?_)
      · rw [c, Bool.true_and] at q
        refine ⟨_, rfl, ⟨_, rfl⟩, x, rfl, rfl, trivial, _, rfl, ?_⟩
        refine ite2 (fun c => ?_) (fun c => ?_)
        · rw [c, Bool.true_and] at q
          exact ⟨_, rfl, ⟨_, rfl⟩, x, rfl, rfl, trivial, q⟩
        · rw [Bool.eq_false_iff.mpr c, Bool.false_and] at q
          exact q
      · rw [Bool.eq_false_iff.mpr c, Bool.false_and] at q
        exact q
  | oth ty a b => exact ⟨false, rfl, iteT q⟩
  | tup h r => exact ⟨false, rfl, iteT q⟩

theorem begT_long {ts : List Tg} (h : 3 < ts.length) : begT (.tup ts) = false := by
  match ts, h with
  | n :: ts, h =>
    show (decide (ts.length ≤ 2) && n.isNm) = false
    rw [decide_eq_false (by rw [List.length_cons] at h; omega), Bool.false_and]
theorem begT_none {ts : List Tg} (h : ts.length < 1) : begT (.tup ts) = false := by
  match ts, h with
  | [], _ => rfl
theorem ok_begins (G : Glo mg) (CN : Cal P w K mg base 1 "is_name" ["thing"] (spTest K Tg.isNm)) (D : DefAt K mg "begins_class_type" s_begins_class_type ["thing"]) : Cal P w K mg base 2 "begins_class_type" ["thing"] (spTest K begT) := by
  obtain ⟨t2, h2⟩ := G.MA
  refine D.cal sc_begins_class_type (fun vs H Q E h => ?_) (fun f cdv A outer s H vs Q E hr h => ?_)
  · obtain ⟨v, t, rfl, _⟩ := h
    rfl
  obtain ⟨v, t, rfl, hT, q⟩ := h
  refine ⟨_, pss_cons (ps_if (PW.pt (pw_or (pt_not (pt_val (pe_isi G.isinstance G.tuple b_tuple rfl rfl (pv 0))))
      (pw_or1 (pt_not (pt_chain op_le op_le pe_int (pe_callB call_len_seq (by rfl) G.len PySem.boot_len (pa_cons (pv 0) pa_nil)) (pe_op op_add pe_int (pe_glob (v := .int 2) rfl h2 ⟨_, rfl⟩)))))))
      (pss_one (ps_ret pe_bl)) pss_nil)
    (pss_one (ps_ret (pc CN hr rfl (pa_cons (pe_ix ix_tup (pv 0) pe_int (fun _ _ => rfl)) pa_nil)))), ?_⟩
  refine ⟨v, rfl, isi_tup hT ?_⟩
  cases hT with
  | str x hx => exact ⟨false, rfl, iteT q⟩
  | oth ty a b => exact ⟨false, rfl, iteT q⟩
  | @tup a xs ts h r =>
    have hl := r.length
    refine ⟨true, rfl, iteF ⟨_, rfl, a, xs, rfl, .inr h, _, _, rfl, rfl, _, rfl, ?_⟩⟩
    refine ite2 (fun c => ?_) (fun c => ?_)
    · have c' : (1 : Int) ≤ (xs.length : Nat) := of_decide_eq_true c
      refine ⟨_, _, rfl, rfl, _, _, rfl, rfl, _, rfl, ?_⟩
      refine ite2 (fun c2 => ?_) (fun c2 => ?_)
      · have c2' : ¬ ((xs.length : Nat) : Int) ≤ 1 + 2 := by
          have z := c2
          rw [Bool.not_eq_true'] at z
          exact of_decide_eq_false z
        rw [begT_long (by omega)] at q
        exact q
      · have c2' : ((xs.length : Nat) : Int) ≤ 1 + 2 := by
          have z := c2
          rw [Bool.not_eq_true', Bool.not_eq_false] at z
          exact of_decide_eq_true z
        cases r with
        | nil => exact absurd c' (by decide)
        | @cons y ys n ts hy r =>
          refine ⟨_, rfl, a, _, 0, y, rfl, rfl, h, atI_nat (j := 0) rfl, y, n, rfl, hy, ?_⟩
          have e2 : begT (.tup (n :: ts)) = n.isNm := by
            show (decide (ts.length ≤ 2) && n.isNm) = _
            rw [decide_eq_true (by rw [List.length_cons] at c2'; have := r.length; omega), Bool.true_and]
          rw [e2] at q
          exact q
    · have c' : ¬ (1 : Int) ≤ (xs.length : Nat) := of_decide_eq_false (Bool.eq_false_iff.mpr c)
      rw [begT_none (by omega)] at q
      exact ⟨false, rfl, iteT q⟩

end
end N

namespace N
open PySem PySem.Spec PyProof.Rows L2
section
variable {P : Program} {w : World} {K : PySem.W.Frag} {mg : Str → Option Value} {base : Heap}
/-- a question about one thing: all that stood stands -/
def spAsk (K : PySem.W.Frag) (g : Tg → Bool) : Sp := fun vs H Q _ => ∃ v t, vs = [v] ∧ Th K H v t ∧ t.nodes ≤ 100000 ∧ ∀ H', Same H H' → Q (.bl (g t)) H'
theorem cut_tail (xs : List V) : cutV xs (some 1) none = xs.drop 1 := by
  unfold cutV
  rw [show HT.sIx xs.length 0 (some 1) = min 1 xs.length from HT.sIx_nat xs.length 0 1, HT.sIx_none]
  cases xs with
  | nil => rfl
  | cons x r =>
    rw [show min 1 (x :: r).length = 1 by rw [List.length_cons]; omega]
    show (List.take ((x :: r).length - 1) r) = r
    rw [List.length_cons, Nat.add_sub_cancel]
    exact List.take_length
theorem cut_tail_ne (xs : List V) (h : 1 ≤ xs.length) : ¬ (HT.sIx xs.length 0 (some 1) = 0 ∧ HT.sIx xs.length xs.length none = xs.length) := fun q => by
  have e : HT.sIx xs.length 0 (some 1) = min 1 xs.length := HT.sIx_nat xs.length 0 1
  rw [e] at q
  omega
/-- a tuple's arguments -/
theorem beg_tup {K : PySem.W.Frag} {H : Hp} {v : V} {t : Tg} (h : Th K H v t) (b : begT t = true) : ∃ (a : Addr) (n : V) (x : Str) (xs : List V), v = .ref a ∧ SqT K H a (n :: xs) ∧ n = .str x ∧ t = .tup (.str x :: t.args) ∧ isNam x = true ∧ t.args.length ≤ 2 ∧ ThAll K H xs t.args := by
  cases h with
  | str x hx => cases b
  | oth ty a b' => cases b
  | @tup a xs ts h r =>
    cases r with
    | nil => cases b
    | @cons y ys n ts hy r =>
      have b' : (decide (ts.length ≤ 2) && n.isNm) = true := b
      rw [Bool.and_eq_true, decide_eq_true_eq] at b'
      cases hy with
      | str x hx => exact ⟨a, _, x, ys, rfl, h, rfl, rfl, b'.2, b'.1, r⟩
      | oth ty a b => cases b'.2
      | tup h r => cases b'.2
theorem iteE {b : Bool} {A B : Prop} (e : b = true) (h : A) : if b = true then A else B := by
  rw [if_pos e]
  exact h
theorem iteN {b : Bool} {A B : Prop} (e : b = false) (h : B) : if b = true then A else B := by
  rw [if_neg (by rw [e]; exact Bool.false_ne_true)]
  exact h
theorem same_mut {H H' : Hp} {p : Addr} {o : HO} (e : Same H H') (h : H p = none) : Same H (upd H' p o) := fun b u q => by rw [upd_ne (ne_of_none q h)]; exact e b u q
theorem ok_is_type (CL : Cal P w K mg base 1 "is_letter" ["thing"] (spTest K Tg.isL)) (CB : Cal P w K mg base 2 "begins_class_type" ["thing"] (spTest K begT)) (D : DefAt K mg "is_type" s_is_type ["thing"]) : Cal P w K mg base 3 "is_type" ["thing"] (spAsk K isT) := by
  refine D.cal sc_is_type (fun vs H Q E h => ?_) (fun f cdv A outer s H vs Q E hr h => ?_)
  · obtain ⟨v, t, rfl, _⟩ := h
    rfl
  obtain ⟨v, t, rfl, hT, hn, q⟩ := h
  refine ⟨_, pss_cons (ps_set (i := 1) sc_is_type.nd rfl (Or.inl rfl) (pe_lst (pa_cons (pv 0) pa_nil)))
    (pss_cons (ps_while (passes_of rfl) (pt_truth (pv 1) (by intro _; rfl))
      (pss_cons (ps_set (i := 2) sc_is_type.nd rfl (Or.inl rfl) (pe_bm0 PySem.F.plainAttrs_list PySem.F.slot_list_pop PySem.F.type_list_pop mt_pop (pv 1)))
        (pss_one (ps_if (pt_val (pc CB hr rfl (pa_cons (pv 2) pa_nil)))
          (pss_one (ps_expr (pe_bm PySem.F.plainAttrs_list PySem.F.slot_list_extend PySem.F.type_list_extend mt_extendT (pv 1) (pa_cons (pe_slice sl_tup (pv 2) (po_some pe_int) po_none) pa_nil))))
          (pss_one (ps_if (pt_not (pt_val (pc CL (hr.mono (by decide)) rfl (pa_cons (pv 2) pa_nil)))) (pss_one (ps_ret pe_bl)) pss_nil))))))
    (pss_one (ps_ret pe_bl))), ?_⟩
  refine ⟨v, rfl, by show 1 ≤ sizeLine; decide, fun l hl => ?_⟩
  refine ⟨fun m σ H' => ∃ xs ts y, m = nodesAll ts ∧ σ = [some v, some (.ref l), y] ∧ Same H H' ∧ H' l = some (.lst xs) ∧ ThAll K H' xs ts ∧ nodesAll ts ≤ 100000 ∧ isT t = isTAll ts,
    ⟨_, [v], [t], _, rfl, rfl, same_new hl _, upd_same, .cons (hT.stay (stay_new hl _)) .nil, by simp only [nodesAll]; omega, by simp only [isTAll, Bool.and_true]⟩, fun m σ H' hW => ?_⟩
  obtain ⟨xs, ts, y, rfl, rfl, sm, hx, hA, hm, ht⟩ := hW
  refine ⟨_, rfl, _, .inl ⟨xs, SqL.of hx, rfl⟩, ?_⟩
  have hlen := hA.length
  by_cases hne : ts = []
  · subst hne
    have e0 : xs = [] := List.length_eq_zero_iff.mp hlen
    subst e0
    rw [ht] at q
    exact iteF (q H' sm)
  obtain ⟨u, xs', t', ts', e1, e2, hu, hr'⟩ := hA.snoc hne
  subst e1 e2
  have ek : (!(xs' ++ [u]).isEmpty) = true := by cases xs' <;> rfl
  refine iteE ek ?_
  have en : nodesAll (ts' ++ [t']) = nodesAll ts' + t'.nodes := by rw [nodesAll_app]; simp only [nodesAll]; omega
  have et : isTAll (ts' ++ [t']) = (isTAll ts' && isT t') := by rw [isTAll_app]; simp only [isTAll, Bool.and_true]
  have hl' := length_le_nodes ts'
  have hl2 := hr'.length
  refine ⟨fun σ2 H2 => ∃ xs ts y, nodesAll ts < nodesAll (ts' ++ [t']) ∧ σ2 = [some v, some (.ref l), y] ∧ Same H H2 ∧ H2 l = some (.lst xs) ∧ ThAll K H2 xs ts ∧ nodesAll ts ≤ 100000 ∧ isT t = isTAll ts,
    fun σ2 H2 ⟨xs, ts, y, a, b, c, d, e, f, g⟩ => ⟨nodesAll ts, a, xs, ts, y, rfl, b, c, d, e, f, g⟩, ?_⟩
  have hlast : (xs' ++ [u])[(xs' ++ [u]).length - 1]? = some u := by
    rw [List.length_append, List.length_singleton, Nat.add_sub_cancel, List.getElem?_append_right (Nat.le_refl _), Nat.sub_self] <;> rfl
  refine ⟨_, rfl, .inl ⟨rfl, _, SqL.of hx⟩, l, _, u, rfl, rfl, hx, hlast, ?_⟩
  rw [List.dropLast_concat]
  have st : Stay K H' (upd H' l (.lst xs')) := stay_lst hx
  have hu1 := hu.stay st
  have hr1 := ThAll.stay st hr'
  have s1 : Same H (upd H' l (.lst xs')) := same_mut sm hl
  refine ⟨u, rfl, u, t', rfl, hu1, begT t', rfl, ?_⟩
  refine ite2 (fun c => ?_) (fun c => ?_)
  · obtain ⟨a, n, x, ys, rfl, hq, rfl, et', hnm, hl3, hr3⟩ := beg_tup hu1 c
    have el : 1 ≤ ((.str x : V) :: ys).length := by rw [List.length_cons]; omega
    refine ⟨_, rfl, .inl ⟨rfl, _, SqL.of upd_same⟩, _, rfl, 1, rfl, a, _, rfl, hq, cut_tail_ne _ el, fun p hp => ?_⟩
    rw [cut_tail]
    show ∃ _ : Addr, _
    have npl : l ≠ p := ne_of_none upd_same hp
    have hx2 : (upd (upd H' l (.lst xs')) p (.tup ys)) l = some (.lst xs') := by rw [upd_ne npl]; exact upd_same
    have hl4 := hr3.length
    have st2 : Stay K (upd H' l (.lst xs')) (upd (upd H' l (.lst xs')) p (.tup ys)) := stay_new hp _
    have st3 : Stay K (upd (upd H' l (.lst xs')) p (.tup ys)) (upd (upd (upd H' l (.lst xs')) p (.tup ys)) l (.lst (xs' ++ ys))) := stay_lst hx2
    have ea := args_nodes c
    have hl5 := length_le_nodes t'.args
    refine ⟨l, p, xs', ys, rfl, rfl, hx2, .inl (.inl upd_same), sz5 (by omega), ?_⟩
    refine ⟨xs' ++ ys, ts' ++ t'.args, _, ?_, rfl, ?_, upd_same, ((hr1.stay st2).stay st3).app ((hr3.stay st2).stay st3), ?_, ?_⟩
    · rw [nodesAll_app, en]; omega
    · exact same_mut (s1.trans (same_new hp _)) hl
    · rw [nodesAll_app]; omega
    · rw [ht, et, isTAll_app, isT_beg c]
  · have eb : begT t' = false := Bool.eq_false_iff.mpr c
    refine ⟨u, rfl, u, t', rfl, hu1, Tg.isL t', rfl, ?_⟩
    have e3 : isT t' = t'.isL := isT_nbeg eb
    refine ite2 (fun c2 => ?_) (fun c2 => ?_)
    · have c3 : t'.isL = false := by simpa using c2
      rw [ht, et, e3, c3, Bool.and_false] at q
      exact q _ s1
    · have c3 : t'.isL = true := by simpa using c2
      have hp1 := nodes_pos t'
      refine ⟨xs', ts', _, by omega, rfl, s1, upd_same, hr1, by omega, ?_⟩
      rw [ht, et, e3, c3, Bool.and_true]
end
end N

namespace N
open PySem PySem.Spec PyProof.Rows L2
section
variable {P : Program} {w : World} {K : PySem.W.Frag} {mg : Str → Option Value} {base : Heap}
def spParts (K : PySem.W.Frag) : Sp := fun vs H Q _ => ∃ (v : V) (k : Kd), vs = [v] ∧ Kp K H v k ∧ k.nds ≤ 100000 ∧
  ∀ p H' xs, Same H H' → H p = none → H' p = some (.lst xs) → Kps K H' xs k.parts → Q (.ref p) H'
theorem nds_flat : ∀ ks : List Kd, (ks.flatMap Kd.parts).length = (ks.map Kd.nds).sum
  | [] => rfl
  | k :: ks => by
    rw [List.flatMap_cons, List.length_append, Kd.nds_parts, nds_flat ks]
    rfl
theorem sum_ge_len : ∀ ks : List Kd, ks.length ≤ (ks.map Kd.nds).sum
  | [] => Nat.zero_le _
  | k :: ks => by
    have h1 := sum_ge_len ks
    have h2 := Kd.nds_pos k
    simp only [List.length_cons, List.map_cons, List.sum_cons]
    omega
theorem snoc_last {α : Type} (xs : List α) (u : α) : (xs ++ [u])[(xs ++ [u]).length - 1]? = some u := by
  rw [List.length_append, List.length_singleton, Nat.add_sub_cancel, List.getElem?_append_right (Nat.le_refl _), Nat.sub_self] <;> rfl
theorem snoc_ne {α : Type} (xs : List α) (u : α) : (!(xs ++ [u]).isEmpty) = true := by cases xs <;> rfl
theorem ok_parts (G : Glo mg) (D : DefAt K mg "parts" s_parts ["kind"]) : Cal P w K mg base 1 "parts" ["kind"] (spParts K) := by
  refine D.cal sc_parts (fun vs H Q E h => ?_) (fun f cdv A outer s H vs Q E hr h => ?_)
  · obtain ⟨v, k, rfl, _⟩ := h
    rfl
  obtain ⟨v, k, rfl, hT, hn, q⟩ := h
  refine ⟨_, pss_cons (ps_set (i := 1) sc_parts.nd rfl (Or.inl rfl) (pe_lst pa_nil)) (pss_cons (ps_set (i := 2) sc_parts.nd rfl (Or.inl rfl) (pe_lst (pa_cons (pv 0) pa_nil)))
    (pss_cons (ps_while (passes_of rfl) (pt_truth (pv 2) (by intro _; rfl))
      (pss_cons (ps_set (i := 3) sc_parts.nd rfl (Or.inl rfl) (pe_bm0 PySem.F.plainAttrs_list PySem.F.slot_list_pop PySem.F.type_list_pop mt_pop (pv 2)))
        (pss_cons (ps_expr (pe_bm PySem.F.plainAttrs_list PySem.F.slot_list_append PySem.F.type_list_append mt_append (pv 1) (pa_cons (pv 3) pa_nil)))
        (pss_one (ps_if (pt_val (pe_isi G.isinstance G.tuple b_tuple rfl rfl (pv 3)))
          (pss_one (ps_expr (pe_bm PySem.F.plainAttrs_list PySem.F.slot_list_extend PySem.F.type_list_extend mt_extendT (pv 2) (pa_cons (pe_backT (pv 3)) pa_nil))))
          pss_nil)))))
    (pss_one (ps_ret (pv 1))))), ?_⟩
  refine ⟨by show 0 ≤ sizeLine; decide, fun fo hfo => ?_⟩
  refine ⟨v, rfl, by show 1 ≤ sizeLine; decide, fun l hl => ?_⟩
  have nfl : fo ≠ l := ne_of_none upd_same hl
  have hl0 : H l = none := by rw [upd_ne nfl.symm] at hl; exact hl
  have s0 : Same H (upd (upd H fo (.lst [])) l (.lst [v])) := (same_new hfo _).trans (same_new hl _)
  refine ⟨fun m σ H' => ∃ fs done xs ks y, m = (ks.map Kd.nds).sum ∧ σ = [some v, some (.ref fo), some (.ref l), y] ∧ Same H H' ∧ H' fo = some (.lst fs) ∧ H' l = some (.lst xs) ∧ Kps K H' fs done ∧ Kps K H' xs ks ∧ k.parts = done ++ ks.reverse.flatMap Kd.parts,
    ⟨_, [], [], [v], [k], _, rfl, rfl, s0, by rw [upd_ne nfl]; exact upd_same, upd_same, .nil, .cons (hT.stay (stay_same s0)) .nil, by simp⟩, fun m σ H' hW => ?_⟩
  obtain ⟨fs, done, xs, ks, y, rfl, rfl, sm, hf, hx, hA, hB, he⟩ := hW
  refine ⟨_, rfl, _, .inl ⟨xs, SqL.of hx, rfl⟩, ?_⟩
  have hlen := Kps.length hB
  have hlf := Kps.length hA
  have hcount : done.length + (ks.map Kd.nds).sum = k.nds := by
    have := congrArg List.length he
    rw [Kd.nds_parts, List.length_append, nds_flat, List.map_reverse, List.sum_reverse] at this
    omega
  by_cases hne : ks = []
  · subst hne
    have e0 : xs = [] := List.length_eq_zero_iff.mp hlen
    subst e0
    refine iteF ⟨_, rfl, q fo H' fs sm hfo hf ?_⟩
    rw [he]
    simpa using hA
  obtain ⟨u, xs', k', ks', e1, e2, hu, hr'⟩ := Kps.snoc hB hne
  subst e1 e2
  refine iteE (snoc_ne _ _) ?_
  have en : ((ks' ++ [k']).map Kd.nds).sum = (ks'.map Kd.nds).sum + k'.nds := by rw [List.map_append, List.sum_append]; simp
  have hp1 := Kd.nds_pos k'
  have hge := sum_ge_len ks'
  have hl2 := Kps.length hr'
  refine ⟨fun σ2 H2 => ∃ fs done xs ks y, (ks.map Kd.nds).sum < ((ks' ++ [k']).map Kd.nds).sum ∧ σ2 = [some v, some (.ref fo), some (.ref l), y] ∧ Same H H2 ∧ H2 fo = some (.lst fs) ∧ H2 l = some (.lst xs) ∧ Kps K H2 fs done ∧ Kps K H2 xs ks ∧ k.parts = done ++ ks.reverse.flatMap Kd.parts,
    fun σ2 H2 ⟨fs, done, xs, ks, y, a, b, c, d, e, f, g, h⟩ => ⟨_, a, fs, done, xs, ks, y, rfl, b, c, d, e, f, g, h⟩, ?_⟩
  refine ⟨_, rfl, .inl ⟨rfl, _, SqL.of hx⟩, l, _, u, rfl, rfl, hx, snoc_last _ _, ?_⟩
  rw [List.dropLast_concat]
  have st : Stay K H' (upd H' l (.lst xs')) := stay_lst hx
  have hf1 : (upd H' l (.lst xs')) fo = some (.lst fs) := by rw [upd_ne nfl]; exact hf
  have st1 : Stay K (upd H' l (.lst xs')) (upd (upd H' l (.lst xs')) fo (.lst (fs ++ [u]))) := stay_lst hf1
  have st2 := st.trans st1
  have hl1 : (upd (upd H' l (.lst xs')) fo (.lst (fs ++ [u]))) l = some (.lst xs') := by rw [upd_ne nfl.symm]; exact upd_same
  refine ⟨_, rfl, .inl ⟨rfl, _, SqL.of hf1⟩, u, rfl, fo, fs, u, rfl, rfl, hf1, Nat.lt_of_le_of_lt (show fs.length ≤ 100000 by omega) (by decide), ?_⟩
  have s2 : Same H (upd (upd H' l (.lst xs')) fo (.lst (fs ++ [u]))) := same_mut (same_mut sm hl0) hfo
  have hu2 := hu.stay st2
  have hr2 : Kps K _ xs' ks' := ThAll.stay st2 hr'
  have hA2 : Kps K _ (fs ++ [u]) (done ++ [k']) := Kps.app (ThAll.stay st2 hA) (.cons hu2 .nil)
  refine ⟨u, rfl, isi_tup hu2 ⟨_, rfl, ?_⟩⟩
  rw [Kd.isTu_tg]
  have hen : k.parts = (done ++ [k']) ++ (ks' ++ k'.args.reverse).reverse.flatMap Kd.parts := by
    rw [he, List.reverse_append, List.reverse_append, List.reverse_reverse, List.flatMap_append, List.flatMap_append]
    simp only [List.reverse_singleton, List.flatMap_singleton, List.append_assoc]
    rw [Kd.parts_eq k']
    simp
  cases hc : k'.isC with
  | false =>
    refine iteF ⟨_, _, xs', ks', _, ?_, rfl, s2, upd_same, hl1, hA2, hr2, ?_⟩
    · omega
    · have ea : k'.args = [] := by cases k' <;> first | rfl | cases hc
      rw [ea] at hen
      simpa using hen
  | true =>
    obtain ⟨a, zs, rfl, hq, hx5, hz⟩ := kp_C hu2 hc
    have hzl := Kps.length hz
    have hal := Kd.args_len k'
    have han := Kd.args_nds k'
    have hgs := sum_ge_len k'.args
    refine iteT ⟨_, rfl, .inl ⟨rfl, _, SqL.of hl1⟩, _, rfl, a, _, rfl, hq, by simp, fun p hp => ?_⟩
    rw [show (V.str k'.nm :: zs).drop 1 = zs from rfl]
    have npl : l ≠ p := ne_of_none hl1 hp
    have npf : fo ≠ p := ne_of_none upd_same hp
    have hx2 : (upd (upd (upd H' l (.lst xs')) fo (.lst (fs ++ [.ref a]))) p (.tup zs.reverse)) l = some (.lst xs') := by rw [upd_ne npl]; exact hl1
    have st3 : Stay K (upd (upd H' l (.lst xs')) fo (.lst (fs ++ [.ref a]))) (upd (upd (upd H' l (.lst xs')) fo (.lst (fs ++ [.ref a]))) p (.tup zs.reverse)) := stay_new hp _
    have st4 : Stay K (upd (upd (upd H' l (.lst xs')) fo (.lst (fs ++ [.ref a]))) p (.tup zs.reverse)) (upd (upd (upd (upd H' l (.lst xs')) fo (.lst (fs ++ [.ref a]))) p (.tup zs.reverse)) l (.lst (xs' ++ zs.reverse))) := stay_lst hx2
    have st5 := st3.trans st4
    refine ⟨l, p, xs', zs.reverse, rfl, rfl, hx2, .inl (.inl upd_same), sz5 (by rw [List.length_reverse]; omega), ?_⟩
    refine ⟨fs ++ [.ref a], done ++ [k'], xs' ++ zs.reverse, ks' ++ k'.args.reverse, _, ?_, rfl, same_mut (s2.trans (same_new hp _)) hl0, ?_, upd_same, ThAll.stay st5 hA2, Kps.app (ThAll.stay st5 hr2) (Kps.rev (ThAll.stay st5 hz)), hen⟩
    · rw [en, List.map_append, List.sum_append, List.map_reverse, List.sum_reverse]
      omega
    · rw [upd_ne nfl, upd_ne npf]
      exact upd_same
end
end N

namespace N
open PySem PySem.Spec PyProof.Rows L2
section
variable {P : Program} {w : World} {K : PySem.W.Frag} {mg : Str → Option Value} {base : Heap}
def spPick (K : PySem.W.Frag) : Sp := fun vs H Q _ => ∃ (p a : Addr) (xs : List V), vs = [.ref p, .ref a] ∧ Pen H p ∧ a ≠ p ∧ SqL K H a xs ∧ 0 < xs.length ∧ xs.length ≤ 1000 ∧ ∀ H' x, Bar p H H' → Pen H' p → x ∈ xs → Q x H'
theorem ok_pick (G : Glo mg) (CD : Cal P w K mg base 1 "_law_draw" ["_law_pen", "_law_many"] (spDraw K)) (D : DefAt K mg "_law_pick" s_Lpick ["_law_pen", "_law_some"]) : Cal P w K mg base 2 "_law_pick" ["_law_pen", "_law_some"] (spPick K) := by
  refine D.cal sc_Lpick (fun vs H Q E h => ?_) (fun f cdv A outer s H vs Q E hr h => ?_)
  · obtain ⟨p, a, xs, rfl, _⟩ := h
    rfl
  obtain ⟨p, a, xs, rfl, hp, hne, hS, h0, h1, q⟩ := h
  refine ⟨_, pss_one (ps_ret (pe_ix ix_list (pv 1) (pc CD hr rfl (pa_cons (pv 0) (pa_cons (pe_callB call_len_seq (by rfl) G.len PySem.boot_len (pa_cons (pv 1) pa_nil)) pa_nil))) (fun _ _ => rfl))), ?_⟩
  refine ⟨_, rfl, _, rfl, _, rfl, a, _, rfl, .inl hS, p, _, rfl, hp, by omega, by omega, fun H' r b pn r0 r1 => ?_⟩
  have hk : r.toNat < xs.length := by omega
  have er : r = ((r.toNat : Nat) : Int) := by omega
  refine ⟨a, xs, r, xs[r.toNat], rfl, rfl, bar_seq b hne hS, ?_, q H' _ b pn (List.getElem_mem hk)⟩
  have := atI_nat (xs := xs) (List.getElem?_eq_getElem hk)
  rw [← er] at this
  exact this
/-! ### drawn kinds -/
def Kd.of (ls : List Str) (ss : List (Str × Nat)) : Kd → Prop
  | .L c => c ∈ ls
  | .C0 n => (n, 0) ∈ ss
  | .C1 n a => (n, 1) ∈ ss ∧ a.of ls ss
  | .C2 n a b => (n, 2) ∈ ss ∧ a.of ls ss ∧ b.of ls ss
def Shp (K : PySem.W.Frag) (H : Hp) (svs : List V) (ss : List (Str × Nat)) : Prop := Paired (fun v s => ∃ t, v = V.ref t ∧ SqT K H t [.str s.1, .int (s.2 : Nat)]) svs ss
structure Men (ls : List Str) (ss : List (Str × Nat)) : Prop where
  l : ∀ c ∈ ls, isLet c = true
  s : ∀ s ∈ ss, isNam s.1 = true ∧ s.2 ≤ 2
  z : ∃ n, (n, 0) ∈ ss
  ll : ls.length ≤ 100
  sl : ss.length ≤ 100
theorem let_len {x : Str} (h : isLet x = true) : x.length ≤ 100000 := by
  unfold isLet at h
  simp only [Bool.and_eq_true, decide_eq_true_eq] at h
  omega
theorem nam_len {x : Str} (h : isNam x = true) : x.length ≤ 100000 := by
  have := (isNam_iff.mp h).2.1
  omega
theorem Kd.of_ok {ls : List Str} {ss : List (Str × Nat)} (M : Men ls ss) : ∀ {k : Kd}, k.of ls ss → k.ok
  | .L c, h => M.l c h
  | .C0 n, h => (M.s _ h).1
  | .C1 n a, h => ⟨(M.s _ h.1).1, of_ok M h.2⟩
  | .C2 n a b, h => ⟨(M.s _ h.1).1, of_ok M h.2.1, of_ok M h.2.2⟩
theorem Shp.stay {H H' : Hp} {svs : List V} {ss : List (Str × Nat)} (s : Stay K H H') (h : Shp K H svs ss) : Shp K H' svs ss := Paired.mapP h fun _ _ ⟨t, e, q⟩ => ⟨t, e, s.tup _ _ q⟩
theorem Shp.at {H : Hp} : ∀ {svs : List V} {ss : List (Str × Nat)} {i : Nat} {x : V}, Shp K H svs ss → svs[i]? = some x → ∃ s, ss[i]? = some s ∧ ∃ t, x = .ref t ∧ SqT K H t [.str s.1, .int (s.2 : Nat)]
  | _, _, i, x, .nil, h => by simp at h
  | _, _, 0, x, .cons r _, h => by
    simp at h
    subst h
    exact ⟨_, rfl, r⟩
  | _, _, i + 1, x, .cons _ t, h => by
    obtain ⟨s, e, r⟩ := Shp.at (i := i) (x := x) t (by simpa using h)
    exact ⟨s, by simpa using e, r⟩
def bareK (ss : List (Str × Nat)) : List Kd := (ss.filter fun s => s.2 == 0).map fun s => .C0 s.1
theorem bareK_snoc {ss : List (Str × Nat)} {i : Nat} {s : Str × Nat} (h : ss[i]? = some s) : bareK (ss.take (i + 1)) = bareK (ss.take i) ++ (if s.2 = 0 then [.C0 s.1] else []) := by
  unfold bareK
  rw [List.take_add_one, h, List.filter_append, List.map_append]
  congr 1
  by_cases e : s.2 = 0 <;> simp [e]
/-- nodes and size of what is drawn -/
def KB (most : Nat) (k : Kd) : Prop := k.nds ≤ 2 * most + 1 ∧ k.size ≤ max 1 most
theorem kb_sm {most : Nat} {k : Kd} (h : k.nds ≤ 1) (h2 : k.size ≤ 1) : KB most k := ⟨by omega, by omega⟩
def spKind (K : PySem.W.Frag) (M : Nat) : Sp := fun vs H Q _ => ∃ (p al sl : Addr) (ls : List Str) (svs : List V) (ss : List (Str × Nat)) (most : Nat), vs = [.ref p, .ref al, .ref sl, .int (most : Nat)] ∧ Pen H p ∧ al ≠ p ∧ sl ≠ p ∧
  H al = some (.lst (ls.map .str)) ∧ SqL K H sl svs ∧ Shp K H svs ss ∧ Men ls ss ∧ most < M ∧ ∀ H' v k, Bar p H H' → Pen H' p → Kp K H' v k → k.of ls ss → KB most k → Q v H'
theorem kind_none (D : DefAt K mg "_law_kind" s_Lkind ["_law_pen", "_law_letters", "_law_shapes_here", "_law_most"]) : Cal P w K mg base 2 "_law_kind" ["_law_pen", "_law_letters", "_law_shapes_here", "_law_most"] (spKind K 0) := by
  obtain ⟨f, fd, a, F, b⟩ := D
  have no : ∀ vs H Q E, ¬ spKind K 0 vs H Q E := fun vs H Q E h => by
    obtain ⟨_, _, _, _, _, _, most, _, _, _, _, _, _, _, _, hm, _⟩ := h
    omega
  exact ⟨f, fd, a, F.kp, b, fun vs H Q E h => absurd h (no vs H Q E), fun A outer s H args us vs Q E _ _ _ _ h => absurd h (no vs H Q E)⟩
/-- the letters and the bare names, as the def puts them together -/
theorem kps_letters {H : Hp} : ∀ {ls : List Str}, (∀ c ∈ ls, isLet c = true) → Kps K H (ls.map .str) (ls.map Kd.L)
  | [], _ => .nil
  | c :: ls, h => .cons (.str c (let_len (h c List.mem_cons_self))) (kps_letters fun x hx => h x (List.mem_cons_of_mem _ hx))
theorem Kps.mem {H : Hp} : ∀ {vs : List V} {ks : List Kd} {v : V}, Kps K H vs ks → v ∈ vs → ∃ k ∈ ks, Kp K H v k
  | _, [], v, .nil, h => by cases h
  | _, k :: ks, v, .cons r t, h => by
    rcases List.mem_cons.mp h with rfl | h
    · exact ⟨k, List.mem_cons_self, r⟩
    · obtain ⟨k', h1, h2⟩ := Kps.mem t h
      exact ⟨k', List.mem_cons_of_mem _ h1, h2⟩
theorem eqv_letters (ls : List Str) : PyData.eqv (.list (ls.map .str)) (.list []) = ls.isEmpty := by
  cases ls <;> simp [PyData.eqv, PyData.eqvAll]
theorem dp_letters {H : Hp} : ∀ ls : List Str, DpAll K H (ls.map .str) (ls.map .str)
  | [] => .nil
  | c :: ls => .cons (.str c) (dp_letters ls)
theorem strOk_of {x : Str} (h : ∀ c ∈ x.cps.toList, c < 1114112) : PyData.strOk x = true := by
  obtain ⟨⟨l⟩⟩ := x
  show Array.all _ _ = true
  rw [List.all_toArray, List.all_eq_true]
  intro c hc
  exact decide_eq_true (h c hc)
theorem let_strOk {x : Str} (h : isLet x = true) : PyData.strOk x = true := by
  obtain ⟨c, e, h1, h2⟩ := isLet_iff.mp h
  refine strOk_of fun z hz => ?_
  rw [e] at hz
  have := List.mem_singleton.mp hz
  omega
theorem nam_strOk {x : Str} (h : isNam x = true) : PyData.strOk x = true := by
  obtain ⟨_, _, h3⟩ := isNam_iff.mp h
  refine strOk_of fun z hz => ?_
  have := h3 z hz
  unfold Low at this
  omega
theorem shaped_letters {ls : List Str} (hl : ∀ c ∈ ls, isLet c = true) : SeqAt.shaped (.list (ls.map .str)) = true := by
  have h1 : ∀ ls : List Str, (∀ c ∈ ls, isLet c = true) → PyData.canLayAll0 (ls.map .str) = true := fun ls => by
    induction ls with
    | nil => intro _; simp [PyData.canLayAll0]
    | cons c ls ih =>
      intro h
      simp [PyData.canLayAll0, PyData.canLay0, ih fun x hx => h x (List.mem_cons_of_mem _ hx), let_strOk (h c List.mem_cons_self)]
  have h2 : ∀ ls : List Str, PyData.depthAll (ls.map .str) ≤ 1 := fun ls => by
    induction ls with
    | nil => simp [PyData.depthAll]
    | cons c ls ih => simp only [List.map_cons, PyData.depthAll, PyData.depth]; omega
  show (PyData.canLay0 _ && decide (PyData.depth _ ≤ 64)) = true
  rw [Bool.and_eq_true, decide_eq_true_eq]
  refine ⟨by simp only [PyData.canLay0]; exact h1 ls hl, ?_⟩
  have := h2 ls
  simp only [PyData.depth]
  omega
/-- a name and its arguments -/
def mkK (n : Str) : List Kd → Kd
  | [] => .C0 n
  | [a] => .C1 n a
  | a :: b :: _ => .C2 n a b
theorem mkK_nm (n : Str) : ∀ ks : List Kd, (mkK n ks).nm = n ∧ (mkK n ks).isC = true
  | [] => ⟨rfl, rfl⟩
  | [_] => ⟨rfl, rfl⟩
  | _ :: _ :: _ => ⟨rfl, rfl⟩
theorem mkK_args (n : Str) : ∀ ks : List Kd, ks.length ≤ 2 → (mkK n ks).args = ks
  | [], _ => rfl
  | [_], _ => rfl
  | [_, _], _ => rfl
  | _ :: _ :: _ :: _, h => by simp at h
theorem mkK_of {ls : List Str} {ss : List (Str × Nat)} {n : Str} : ∀ {ks : List Kd}, ks.length ≤ 2 → (n, ks.length) ∈ ss → (∀ k ∈ ks, k.of ls ss) → (mkK n ks).of ls ss
  | [], _, h, _ => h
  | [a], _, h, q => ⟨h, q a (by simp)⟩
  | [a, b], _, h, q => ⟨h, q a (by simp), q b (by simp)⟩
  | _ :: _ :: _ :: _, h, _, _ => by simp at h
theorem mkK_nds {n : Str} {most : Nat} : ∀ {ks : List Kd}, ks.length ≤ 2 → ks.length < most → (∀ k ∈ ks, k.nds ≤ 2 * ((most - 1) / ks.length) + 1) → (mkK n ks).nds ≤ 2 * most + 1
  | [], _, _, _ => by simp [mkK, Kd.nds]
  | [a], _, h, q => by
    have := q a (by simp)
    simp only [List.length_singleton, Nat.div_one] at this
    simp only [mkK, Kd.nds, List.length_singleton] at *
    omega
  | [a, b], _, h, q => by
    have h1 := q a (by simp)
    have h2 := q b (by simp)
    simp only [List.length_cons, List.length_nil] at h1 h2 h
    simp only [mkK, Kd.nds]
    omega
  | _ :: _ :: _ :: _, h, _, _ => by simp at h
theorem mkK_KB {n : Str} {most : Nat} : ∀ {ks : List Kd}, ks.length ≤ 2 → ks.length < most → (∀ k ∈ ks, KB ((most - 1) / ks.length) k) → KB most (mkK n ks)
  | [], _, h, _ => ⟨by simp [mkK, Kd.nds], by simp only [mkK, Kd.size]; omega⟩
  | [a], h2, h, q => by
    refine ⟨mkK_nds h2 h fun k hk => (q k hk).1, ?_⟩
    have := (q a (by simp)).2
    simp only [List.length_singleton, Nat.div_one] at this
    simp only [mkK, Kd.size, List.length_singleton] at *
    omega
  | [a, b], h2, h, q => by
    refine ⟨mkK_nds h2 h fun k hk => (q k hk).1, ?_⟩
    have h1 := (q a (by simp)).2
    have h3 := (q b (by simp)).2
    simp only [List.length_cons, List.length_nil] at h1 h3 h
    simp only [mkK, Kd.size]
    omega
  | _ :: _ :: _ :: _, h, _, _ => by simp at h
end
end N

namespace N
open PySem PySem.Spec PyProof.Rows L2
/-! ### set(texts): how many differ -/
theorem nodup_snoc {l : List Str} {x : Str} : (l ++ [x]).Nodup ↔ l.Nodup ∧ x ∉ l := by
  rw [List.nodup_append]
  constructor
  · intro ⟨a, _, c⟩
    exact ⟨a, fun h => c x h x (List.mem_singleton.mpr rfl) rfl⟩
  · intro ⟨a, b⟩
    refine ⟨a, by simp, fun u hu v hv e => ?_⟩
    rw [List.mem_singleton.mp hv] at e
    exact b (e ▸ hu)
section
variable {prog : Program} {w : World} {A : Around}
theorem loopTx {R : Result → Shared → Prop} {I : Addr} {fp wr : List Addr} {G : Array GenState → Array GenState → Prop} {n : Nat} {P : Nat → Value → Prop} {St : Nat → Shared → Prop} (W : WalksS prog w A.in1 I fp wr G n P St) (S : Addr) (hSf : S ∉ fp) (xs : List Str) (hsz : xs.length = n) (hb : n + 1 < scanBound)
    (hval : ∀ i v, P i v → ∃ t, v = .str (xs.getD i Str.empty) t) : ∀ (k i c : Nat) (s : Shared), n - i = k → i ≤ n → St i s → s.heap.SetOf (PySem.strKind prog w) S (fun y => decide (y ∈ xs.take i)) c → c ≤ i → (c = i ↔ (xs.take i).Nodup) →
      (∀ s' c', Moved (S :: wr) G s s' → s'.heap.SetOf (PySem.strKind prog w) S (fun y => decide (y ∈ xs)) c' → c' ≤ n → (c' = n ↔ xs.Nodup) → R (.ok (.ret .none)) s') →
      codeAny (model prog w) A (.builtin "set.update.loop" ⟨[.ref S, .ref I], []⟩) R s := by
  have hSw : S ∉ wr := fun h => hSf (W.sub _ h)
  have up : ∀ b ∈ wr, b ∈ S :: wr := fun b h => List.mem_cons_of_mem _ h
  have stay : ∀ {s s' : Shared} {T : Str → Bool} {c : Nat}, Moved wr G s s' → s.heap.SetOf (PySem.strKind prog w) S T c → s'.heap.SetOf (PySem.strKind prog w) S T c := fun m h => by
    obtain ⟨o, es, ep, t, ho, r⟩ := h
    exact ⟨o, es, ep, t, m.heap S _ hSw ho, r⟩
  intro k
  induction k with
  | zero =>
    intro i c s hk hi hst hS hc hd hR
    obtain rfl : i = n := by omega
    have et : xs.take i = xs := List.take_of_length_le (by omega)
    rw [et] at hd hS
    refine codeAny_builtin PyProof.Rows.F.entry_set_update_loop ?_
    rw [Around.under_plainId PyProof.Rows.F.plain_set_update_loop _]
    show wpAny _ A.in1 (pyNext (.ref I) >>= _) _ _ s
    refine wpAny_bind (W.done s _ _ hst fun s' hm => ?_)
    show wpAny _ A.in1 (ret Value.none) _ _ s'
    exact wpAny_pure (hR s' c (hm.mono up) (stay hm hS) hc hd)
  | succ k ih =>
    intro i c s hk hi hst hS hc hd hR
    have hlt : i < n := by omega
    refine codeAny_builtin PyProof.Rows.F.entry_set_update_loop ?_
    rw [Around.under_plainId PyProof.Rows.F.plain_set_update_loop _]
    show wpAny _ A.in1 (pyNext (.ref I) >>= _) _ _ s
    refine wpAny_bind (W.item i s _ _ hlt hst fun v s' hP hst' hm => ?_)
    obtain ⟨t, rfl⟩ := hval i v hP
    have ex : xs[i]? = some (xs.getD i Str.empty) := by
      rw [List.getD_eq_getElem?_getD, List.getElem?_eq_getElem (by omega)]
      rfl
    have et : xs.take (i + 1) = xs.take i ++ [xs.getD i Str.empty] := by rw [List.take_add_one, ex]; rfl
    show wpAny _ A.in1 (holding [Value.str (xs.getD i Str.empty) t] (setAdd S (.str (xs.getD i Str.empty) t)) >>= _) _ _ s'
    refine wpAny_bind (wpAny_holding ?_)
    unfold setAdd
    refine wpAny_holding ?_
    refine wpAny_bind ((PySem.strKind prog w).pyHash (k := xs.getD i Str.empty) (strKind_is _ _ _ _) ?_)
    have hS1 := stay hm hS
    refine wpAny_setAddHashed_of (knd := PySem.strKind prog w) (s := { s' with toks := s'.toks + 1 }) (strKind_is _ _ _ _) rfl hS1 (by omega) fun h' hsb hS2 => ?_
    have hS3 := SetOf_congr (S' := fun y => decide (y ∈ xs.take (i + 1))) hS2 (fun y => by
      rw [et]
      by_cases h1 : y ∈ xs.take i <;> by_cases h2 : y = xs.getD i Str.empty <;> simp [h1, h2]) rfl
    refine wpAny_pure ⟨plainId_quiet PyProof.Rows.F.plain_set_update_loop _, ih (i + 1) _ _ (by omega) hlt (W.frame _ s' _ _ hst' (Nat.le_succ _) fun b hb o e => ?_) hS3 ?_ ?_ fun s'' c'' hm'' hS'' hc'' hd'' => ?_⟩
    · rw [hsb.2 b (fun h : b = S => hSf (by rw [← h]; exact hb))]
      exact e
    · split <;> omega
    · rw [et, nodup_snoc, ← hd]
      by_cases h1 : xs.getD i Str.empty ∈ xs.take i
      · rw [if_pos (decide_eq_true h1)]
        exact ⟨fun h => by omega, fun h => absurd h1 h.2⟩
      · rw [if_neg (by simpa using h1)]
        exact ⟨fun h => ⟨by omega, h1⟩, fun h => by omega⟩
    · refine hR s'' c'' (Moved.trans W.gtrans ((hm.mono up).then_heap (Nat.le_succ _) fun b o hb e => ?_) hm'') hS'' hc'' hd''
      rw [hsb.2 b (fun h : b = S => hb (by rw [h]; exact List.mem_cons_self))]
      exact e
set_option maxHeartbeats 3200000 in
theorem call_setTx_list {E : Value → Shared → Prop} {s : Shared} {l : Addr} {items : Array Value} {xs : List Str} {Q : Value → Shared → Prop} (hh : A.handled = none) (hl : s.heap.IsList l items) (hi : PyProof.Rows.StrsAre items.toList xs) (hb : xs.length + 1 < scanBound)
    (h : ∀ (h' : Heap) (tk c : Nat), h'.SetOf (PySem.strKind prog w) s.heap.objs.size (fun y => decide (y ∈ xs)) c → c ≤ xs.length → (c = xs.length ↔ xs.Nodup) → (∀ b o, b < s.heap.objs.size → s.heap.get? b = some o → h'.get? b = some o) → Q (.ref s.heap.objs.size) { s with heap := h', toks := tk }) :
    wpAny (model prog w) A (call (.type "set") [.ref l]) Q E s := by
  obtain ⟨c0, tl, hmro⟩ := PySem.F.called_set.mro
  have hmade := PySem.F.called_set.made
  have hsub := PySem.F.called_set.sub
  refine wpAny_call (codeAny_of_tree ?_)
  show wpAny _ _ (callAny (.type "set") _) _ _ _
  refine wpAny_pure ⟨Code.quiet_builtin _ (by decide +kernel), codeAny_builtin PySem.F.entry_type_call ?_⟩
  rw [Around.under_plain (weight_type_call_type "set" [.ref l] []) rfl]
  have k1 := PySem.F.called_set.notType
  have k2 := PySem.F.called_set.canCreate
  have k3 := PySem.F.typeCall_set_1 (.ref l)
  repeat (any_goals (first | assumption | wp_step))
  refine codeAny_mono (code_set_new_1 (.ref l) (E := E) (Q₁ := fun obj t => ∃ led : Bool, obj = .ref s.heap.objs.size ∧ t = { s with heap := s.heap.push { cls := .type "set", dict := none, data := .set #[] 0 (.fresh 0 0 led) } }) fun led => ⟨led, rfl, rfl⟩) fun r t hr => ?_
  match r, hr with
  | .error e, hr => exact hr
  | .ok .next, hr => exact hr.elim
  | .ok .brk, hr => exact hr.elim
  | .ok .cont, hr => exact hr.elim
  | .ok (.ret obj), hr =>
    obtain ⟨led, rfl, rfl⟩ := hr
    have hS : (s.heap.push { cls := .type "set", dict := none, data := .set #[] 0 (.fresh 0 0 led) }).get? s.heap.objs.size = some { cls := .type "set", dict := none, data := .set #[] 0 (.fresh 0 0 led) } := Heap.get?_push_size _ rfl
    have hT : Shared.TypeIs { s with heap := s.heap.push { cls := .type "set", dict := none, data := .set #[] 0 (.fresh 0 0 led) } } (.ref s.heap.objs.size) "set" := ⟨_, hS, rfl⟩
    have hli := PySem.F.called_set.init.lookup
    have hbi := PySem.F.called_set.init.bind (.ref s.heap.objs.size)
    repeat (any_goals (first | assumption | wp_step))
    refine codeAny_mono (codeAny_call_builtin (R := wants (fun r t => r = .none ∧ ∃ h' tk c, t = { s with heap := h', toks := tk } ∧ h'.SetOf (PySem.strKind prog w) s.heap.objs.size (fun y => decide (y ∈ xs)) c ∧ c ≤ xs.length ∧ (c = xs.length ↔ xs.Nodup) ∧
      (∀ b o, b < s.heap.objs.size → s.heap.get? b = some o → h'.get? b = some o)) E) PySem.F.called_set.init.plain PySem.F.entry_set_init (check_set_init_1 hT ?_)) fun r t hr => ?_
    · obtain ⟨⟨_, od, _, os⟩, hol, hc1, nl, hd1⟩ := hl
      simp only at hc1 hd1
      subst hc1
      subst hd1
      have hol' : (s.heap.push { cls := .type "set", dict := none, data := .set #[] 0 (.fresh 0 0 led) }).get? l = some { cls := .type "list", dict := od, data := .seq items nl, slots := os } := Heap.get?_push_of_some _ hol
      have hsls := PySem.F.sub_list_set
      have hslf := PySem.F.sub_list_frozenset
      have hne : (Value.type "list" == Value.type "dict") = false := by decide
      have hl1 : (s.heap.push { cls := .type "set", dict := none, data := .set #[] 0 (.fresh 0 0 led) }).IsList l items := ⟨_, hol', rfl, nl, rfl⟩
      unfold Builtin.«set.__init__» noKeywords Builtin.Frozenset.updateFrom
      generalize hPI : pyIter = PI
      wp_walk
      subst hPI
      refine wpAny_pyIter_list hl1 ?_
      refine wpAny_bind (wpAny_runValue ?_)
      have hlS : l < s.heap.objs.size := Heap.lt_size hol
      have hh3 : A.in1.in1.in1.handled = none := by simp [hh]
      have hz : (s.heap.push { cls := .type "set", dict := none, data := .set #[] 0 (.fresh 0 0 led) }).objs.size = s.heap.objs.size + 1 := Heap.size_push ..
      have hneI : l ≠ (s.heap.push { cls := .type "set", dict := none, data := .set #[] 0 (.fresh 0 0 led) }).objs.size := by
        rw [Heap.size_push]
        exact Nat.ne_of_lt (Nat.lt_succ_of_lt hlS)
      have hsz : xs.length = items.size := by rw [← StrsAre.len_eq hi, Array.length_toList]
      refine loopTx ((Walks.list hh3 _ l hneI items).toS) s.heap.objs.size ?f xs hsz (by omega) (fun i v hv => SS.strs_at hi i v (by rw [Array.getElem?_toList]; exact hv)) (items.size - 0) 0 0 _ (by omega) (Nat.zero_le _) ⟨⟨_, Heap.get?_push_size _ rfl, rfl, rfl⟩, (hl1.push _)⟩ ?st (Nat.le_refl 0) ⟨fun _ => List.nodup_nil, fun _ => rfl⟩ ?r
      case f =>
        rw [Heap.size_push]
        simp only [List.mem_cons, List.not_mem_nil, or_false, not_or]
        exact ⟨Nat.ne_of_lt (Nat.lt_succ_self _), Nat.ne_of_gt hlS⟩
      case st =>
        exact PyProof.Rows.SetOf_congr ((PyProof.Rows.setObjOf_fresh (knd := PySem.strKind prog w) led).setOf (Heap.get?_push_of_some _ hS) (by omega)) (fun y => by simp) rfl
      case r =>
        intro s' c' hm hS' hc' hd'
        obtain ⟨h', g', d', tk', os'⟩ := s'
        have eg : g' = s.gens := hm.gens
        have ed : d' = s.drawn := hm.drawn
        have eo : os' = s.os := hm.os
        subst eg ed eo
        refine wpAny_pure ?_
        show wpAny _ _ (ret Value.none) _ _ _
        refine wpAny_pure ⟨rfl, h', tk', c', rfl, hS', by omega, by rw [hsz]; exact hd', fun b o hb e => ?_⟩
        refine hm.heap b o ?_ (Heap.get?_push_of_some _ (Heap.get?_push_of_some _ e))
        rw [Heap.size_push]
        simp only [List.mem_cons, List.not_mem_nil, or_false, not_or]
        exact ⟨Nat.ne_of_lt hb, Nat.ne_of_lt (Nat.lt_succ_of_lt hb)⟩
    · match r, hr with
      | .error e, hr => exact hr
      | .ok .next, hr => exact hr.elim
      | .ok .brk, hr => exact hr.elim
      | .ok .cont, hr => exact hr.elim
      | .ok (.ret v), hr =>
        obtain ⟨rfl, h', tk, c, rfl, hS', hc, hd, hk⟩ := hr
        repeat (any_goals (first | assumption | wp_step))
        exact h _ _ c hS' hc hd hk
set_option maxHeartbeats 3200000 in
theorem call_setTx_tuple {E : Value → Shared → Prop} {s : Shared} {l : Addr} {items : Array Value} {xs : List Str} {Q : Value → Shared → Prop} (hh : A.handled = none) (hl : s.heap.IsTuple l items) (hi : PyProof.Rows.StrsAre items.toList xs) (hb : xs.length + 1 < scanBound)
    (h : ∀ (h' : Heap) (tk c : Nat), h'.SetOf (PySem.strKind prog w) s.heap.objs.size (fun y => decide (y ∈ xs)) c → c ≤ xs.length → (c = xs.length ↔ xs.Nodup) → (∀ b o, b < s.heap.objs.size → s.heap.get? b = some o → h'.get? b = some o) → Q (.ref s.heap.objs.size) { s with heap := h', toks := tk }) :
    wpAny (model prog w) A (call (.type "set") [.ref l]) Q E s := by
  obtain ⟨c0, tl, hmro⟩ := PySem.F.called_set.mro
  have hmade := PySem.F.called_set.made
  have hsub := PySem.F.called_set.sub
  refine wpAny_call (codeAny_of_tree ?_)
  show wpAny _ _ (callAny (.type "set") _) _ _ _
  refine wpAny_pure ⟨Code.quiet_builtin _ (by decide +kernel), codeAny_builtin PySem.F.entry_type_call ?_⟩
  rw [Around.under_plain (weight_type_call_type "set" [.ref l] []) rfl]
  have k1 := PySem.F.called_set.notType
  have k2 := PySem.F.called_set.canCreate
  have k3 := PySem.F.typeCall_set_1 (.ref l)
  repeat (any_goals (first | assumption | wp_step))
  refine codeAny_mono (code_set_new_1 (.ref l) (E := E) (Q₁ := fun obj t => ∃ led : Bool, obj = .ref s.heap.objs.size ∧ t = { s with heap := s.heap.push { cls := .type "set", dict := none, data := .set #[] 0 (.fresh 0 0 led) } }) fun led => ⟨led, rfl, rfl⟩) fun r t hr => ?_
  match r, hr with
  | .error e, hr => exact hr
  | .ok .next, hr => exact hr.elim
  | .ok .brk, hr => exact hr.elim
  | .ok .cont, hr => exact hr.elim
  | .ok (.ret obj), hr =>
    obtain ⟨led, rfl, rfl⟩ := hr
    have hS : (s.heap.push { cls := .type "set", dict := none, data := .set #[] 0 (.fresh 0 0 led) }).get? s.heap.objs.size = some { cls := .type "set", dict := none, data := .set #[] 0 (.fresh 0 0 led) } := Heap.get?_push_size _ rfl
    have hT : Shared.TypeIs { s with heap := s.heap.push { cls := .type "set", dict := none, data := .set #[] 0 (.fresh 0 0 led) } } (.ref s.heap.objs.size) "set" := ⟨_, hS, rfl⟩
    have hli := PySem.F.called_set.init.lookup
    have hbi := PySem.F.called_set.init.bind (.ref s.heap.objs.size)
    repeat (any_goals (first | assumption | wp_step))
    refine codeAny_mono (codeAny_call_builtin (R := wants (fun r t => r = .none ∧ ∃ h' tk c, t = { s with heap := h', toks := tk } ∧ h'.SetOf (PySem.strKind prog w) s.heap.objs.size (fun y => decide (y ∈ xs)) c ∧ c ≤ xs.length ∧ (c = xs.length ↔ xs.Nodup) ∧
      (∀ b o, b < s.heap.objs.size → s.heap.get? b = some o → h'.get? b = some o)) E) PySem.F.called_set.init.plain PySem.F.entry_set_init (check_set_init_1 hT ?_)) fun r t hr => ?_
    · obtain ⟨⟨_, od, _, os⟩, hol, hc1, nl, hd1⟩ := hl
      simp only at hc1 hd1
      subst hc1
      subst hd1
      have hol' : (s.heap.push { cls := .type "set", dict := none, data := .set #[] 0 (.fresh 0 0 led) }).get? l = some { cls := .type "tuple", dict := od, data := .seq items nl, slots := os } := Heap.get?_push_of_some _ hol
      have hsls := PySem.F.sub_tuple_set
      have hslf := PySem.F.sub_tuple_frozenset
      have hne : (Value.type "tuple" == Value.type "dict") = false := by decide
      have hl1 : (s.heap.push { cls := .type "set", dict := none, data := .set #[] 0 (.fresh 0 0 led) }).IsTuple l items := ⟨_, hol', rfl, nl, rfl⟩
      unfold Builtin.«set.__init__» noKeywords Builtin.Frozenset.updateFrom
      generalize hPI : pyIter = PI
      wp_walk
      subst hPI
      refine wpAny_pyIter_tuple hl1 ?_
      refine wpAny_bind (wpAny_runValue ?_)
      have hlS : l < s.heap.objs.size := Heap.lt_size hol
      have hh3 : A.in1.in1.in1.handled = none := by simp [hh]
      have hz : (s.heap.push { cls := .type "set", dict := none, data := .set #[] 0 (.fresh 0 0 led) }).objs.size = s.heap.objs.size + 1 := Heap.size_push ..
      have hneI : l ≠ (s.heap.push { cls := .type "set", dict := none, data := .set #[] 0 (.fresh 0 0 led) }).objs.size := by
        rw [Heap.size_push]
        exact Nat.ne_of_lt (Nat.lt_succ_of_lt hlS)
      have hsz : xs.length = items.size := by rw [← StrsAre.len_eq hi, Array.length_toList]
      refine loopTx ((Walks.tuple hh3 _ l hneI items).toS) s.heap.objs.size ?f xs hsz (by omega) (fun i v hv => SS.strs_at hi i v (by rw [Array.getElem?_toList]; exact hv)) (items.size - 0) 0 0 _ (by omega) (Nat.zero_le _) ⟨⟨_, Heap.get?_push_size _ rfl, rfl, rfl⟩, (hl1.push _)⟩ ?st (Nat.le_refl 0) ⟨fun _ => List.nodup_nil, fun _ => rfl⟩ ?r
      case f =>
        rw [Heap.size_push]
        simp only [List.mem_cons, List.not_mem_nil, or_false, not_or]
        exact ⟨Nat.ne_of_lt (Nat.lt_succ_self _), Nat.ne_of_gt hlS⟩
      case st =>
        exact PyProof.Rows.SetOf_congr ((PyProof.Rows.setObjOf_fresh (knd := PySem.strKind prog w) led).setOf (Heap.get?_push_of_some _ hS) (by omega)) (fun y => by simp) rfl
      case r =>
        intro s' c' hm hS' hc' hd'
        obtain ⟨h', g', d', tk', os'⟩ := s'
        have eg : g' = s.gens := hm.gens
        have ed : d' = s.drawn := hm.drawn
        have eo : os' = s.os := hm.os
        subst eg ed eo
        refine wpAny_pure ?_
        show wpAny _ _ (ret Value.none) _ _ _
        refine wpAny_pure ⟨rfl, h', tk', c', rfl, hS', by omega, by rw [hsz]; exact hd', fun b o hb e => ?_⟩
        refine hm.heap b o ?_ (Heap.get?_push_of_some _ (Heap.get?_push_of_some _ e))
        rw [Heap.size_push]
        simp only [List.mem_cons, List.not_mem_nil, or_false, not_or]
        exact ⟨Nat.ne_of_lt hb, Nat.ne_of_lt (Nat.lt_succ_of_lt hb)⟩
    · match r, hr with
      | .error e, hr => exact hr
      | .ok .next, hr => exact hr.elim
      | .ok .brk, hr => exact hr.elim
      | .ok .cont, hr => exact hr.elim
      | .ok (.ret v), hr =>
        obtain ⟨rfl, h', tk, c, rfl, hS', hc, hd, hk⟩ := hr
        repeat (any_goals (first | assumption | wp_step))
        exact h _ _ c hS' hc hd hk
end
end N

namespace N
open PySem PySem.Spec PyProof.Rows L2
/-! ### set(texts) and its length, as calls -/
/-- the set of these texts, of c different ones -/
def SetS (P : Program) (w : World) (a : Addr) (ys : List Str) (c : Nat) : HO := .ext fun h => h.SetOf (PySem.strKind P w) a (fun y => decide (y ∈ ys)) c
theorem setS_new {P : Program} {w : World} {H : Hp} {h : Heap} {a : Addr} {ys : List Str} {c : Nat} (R : h.SetOf (PySem.strKind P w) a (fun y => decide (y ∈ ys)) c) : ObjOk P w H h a (SetS P w a ys c) := by
  have ⟨o, _, _, _, ho, _⟩ := R
  exact ⟨R, ⟨o, ho⟩, fun h1 h2 p k => by
    obtain ⟨o, es, ep, t, ho, r⟩ := p
    exact ⟨o, es, ep, t, k _ ho, r⟩⟩
section
variable {X : Cx}
def rSetTx (P : Program) (w : World) (K : PySem.W.Frag) : List V → Hp → VK → Prop := fun xs H Q => ∃ (l : Addr) (ys : List Str), xs = [.ref l] ∧ (SqL K H l (ys.map V.str) ∨ SqT K H l (ys.map V.str)) ∧ ys.length ≤ 1000 ∧
  ∀ (p : Addr) (c : Nat), H p = none → c ≤ ys.length → (c = ys.length ↔ ys.Nodup) → Q (.ref p) (upd H p (SetS P w p ys c))
theorem sb_ge {n : Nat} (h : n ≤ 1000) : n + 1 < scanBound := by
  unfold scanBound
  omega
theorem call_setTx (hc : X.calm = true) : CallR X (.type "set") (rSetTx X.prog X.w X.K) := by
  intro pins s σ H xs us Q I r h
  obtain ⟨l, ys, rfl, hq, hn, q⟩ := h
  obtain ⟨u, rfl, ru⟩ := vals1 r
  cases ru
  have go : ∀ (h' : Heap) (tk c : Nat), h'.SetOf (PySem.strKind X.prog X.w) s.heap.objs.size (fun y => decide (y ∈ ys)) c → c ≤ ys.length → (c = ys.length ↔ ys.Nodup) → (∀ b o, b < s.heap.objs.size → s.heap.get? b = some o → h'.get? b = some o) →
      EP X pins σ Q (.ref s.heap.objs.size) { s with heap := h', toks := tk } := fun h' tk c hS h1 h2 hk =>
    ⟨.ref _, upd H s.heap.objs.size (SetS X.prog X.w s.heap.objs.size ys c), I.laid (t' := tk) (fun b u e => hk b u (Heap.lt_size e) e) (Nat.le_refl _) (setS_new hS), rfl, q _ c (I.hok.fresh (Nat.le_refl _)) h1 h2⟩
  rcases hq with hq | hq
  · obtain ⟨its, r, pl, hz⟩ := I.list hq
    exact call_setTx_list (I.ok.hd hc) pl.isList (by simpa using strsAre_of r) (sb_ge hn) go
  · obtain ⟨its, r, pl, hz⟩ := I.tuple hq
    exact call_setTx_tuple (I.ok.hd hc) pl (by simpa using strsAre_of r) (sb_ge hn) go
theorem call_lenS : CallR X (.builtin "len") (fun xs H Q => ∃ (p : Addr) (ys : List Str) (c : Nat), xs = [.ref p] ∧ H p = some (SetS X.prog X.w p ys c) ∧ c ≤ 1000 ∧ Q (.int c) H) := by
  intro pins s σ H xs us Q I r h
  obtain ⟨p, ys, c, rfl, hp, hn, q⟩ := h
  obtain ⟨u, rfl, ru⟩ := vals1 r
  cases ru
  have hS : s.heap.SetOf (PySem.strKind X.prog X.w) p (fun y => decide (y ∈ ys)) c := (I.hok p _ hp).1
  obtain ⟨o, es, ep, t, ho, hex, hd, _, _, _, hf, hn2⟩ := hS
  refine call_len_set ho hex hd hf (by rw [hn2]; omega) ⟨.int c, H, I.tok _, ⟨_, by rw [hn2]⟩, q⟩
end
end N

namespace N
open PySem PySem.Spec PyProof.Rows L2
/-! ### comprehensions over a tuple or list whose items are known values -/
theorem wipe_one {σ : L2.St} {j : Nat} {x : V} : wipe ((wipe σ [j]).set j (some x)) [j] = wipe σ [j] := by
  show ((σ.set j none).set j (some x)).set j none = σ.set j none
  rw [List.set_set, List.set_set]
section
variable {K : PySem.W.Frag} {a : Addr} {xs zs : List V} {te : TE} {σ : L2.St} {H : Hp} {D : Addr} {Qd : Hp → Prop}
theorem take_one {i : Nat} {z : V} (h : zs[i]? = some z) : zs.take (i + 1) = zs.take i ++ [z] := by rw [List.take_add_one, h]; rfl
theorem lc_vals {vs : List Nat} (j : Nat) (hv : vs = [j]) (hl : zs.length = xs.length) (hz : xs.length ≤ 1000) (hq : SqT K H a xs) (hD : H D = none)
    (step : ∀ (i : Nat) (x z : V) (H' : Hp) (Q : VK), xs[i]? = some x → zs[i]? = some z → Same H H' → (∀ H2, Same H' H2 → Q z H2) → te ((wipe σ vs).set j (some x)) H' Q) (fin : ∀ H', Same H H' → H' D = some (.lst zs) → Qd H') :
    ∃ W : Nat → Nat → Hp → Prop, (∃ m, W 0 m (upd H D (.lst []))) ∧ ∀ i m H, W i m H →
      ((Itt K a).stop i H ∧ Qd H) ∨ ((Itt K a).go i H ∧ ∃ Nx : Hp → Prop, (∀ H', Nx H' → ∃ m', m' < m ∧ W (i + 1) m' H') ∧ ∀ x H', (Itt K a).yld i H x H' → gName j x (wipe σ vs) H' fun σ2 H2 => wipe σ2 vs = wipe σ vs ∧ tYes σ2 H2 fun b H3 =>
        if b = true then te σ2 H3 fun y H4 => ∃ acc, H4 D = some (.lst acc) ∧ acc.length < sizeLine ∧ Nx (upd H4 D (.lst (acc ++ [y]))) else Nx H3) := by
  subst hv
  refine lc_tup (K := K) (a := a) (xs := xs) (fun i H' => Same H H' ∧ H' D = some (.lst (zs.take i))) ⟨same_new hD _, upd_same⟩ (fun i H' _ ⟨s, _⟩ => (stay_same s).tup _ _ hq) (fun i x H' hx ⟨s1, e1⟩ => ?_) (fun H' ⟨s1, e1⟩ => fin H' s1 (by rw [e1, ← hl, List.take_length]))
  have hi : i < zs.length := by rw [hl]; exact (List.getElem?_eq_some_iff.mp hx).1
  obtain ⟨z, hz1⟩ : ∃ z, zs[i]? = some z := ⟨_, List.getElem?_eq_getElem hi⟩
  refine ⟨wipe_one, ?_⟩
  unfold tYes
  dsimp only
  rw [if_pos rfl]
  refine step i x z H' _ hx hz1 s1 fun H2 s2 => ?_
  have e2 := s2 _ _ e1
  refine ⟨_, e2, ?_, same_mut (s1.trans s2) hD, ?_⟩
  · rw [List.length_take]
    exact Nat.lt_of_le_of_lt (show min i zs.length ≤ 100000 by omega) (by decide)
  · rw [upd_same, take_one hz1]
end
end N

namespace N
open PySem PySem.Spec PyProof.Rows L2
/-! ### classes as data -/
structure Cls where
  nm : Str
  ps : List (Str × Str)
  ks : List Kd
  ms : List (Str × Str × Kd)
def varz : List Str := ["out", "in", "same"]
def wayz : List Str := ["reads", "takes", "holds"]
structure Cls.ok (c : Cls) : Prop where
  n : isNam c.nm = true
  p2 : c.ps.length ≤ 2
  pl : ∀ p ∈ c.ps, isLet p.1 = true ∧ p.2 ∈ varz
  pd : (c.ps.map Prod.fst).Nodup
  k2 : c.ks.length ≤ 2
  kk : ∀ k ∈ c.ks, k.ok ∧ k.isC = true ∧ k.size ≤ 6 ∧ k.nds ≤ 1000
  m2 : c.ms.length ≤ 2
  ml : ∀ m ∈ c.ms, isNam m.1 = true ∧ m.2.1 ∈ wayz ∧ m.2.2.ok ∧ m.2.2.size ≤ 6 ∧ m.2.2.nds ≤ 1000
  md : (c.ms.map Prod.fst).Nodup
def Pp (K : PySem.W.Frag) (H : Hp) (v : V) (p : Str × Str) : Prop := ∃ a, v = .ref a ∧ SqT K H a [.str p.1, .str p.2]
def Mp (K : PySem.W.Frag) (H : Hp) (v : V) (m : Str × Str × Kd) : Prop := ∃ a u, v = .ref a ∧ SqT K H a [.str m.1, .str m.2.1, u] ∧ Kp K H u m.2.2
def PsAt (K : PySem.W.Frag) (H : Hp) (a : Addr) (ps : List (Str × Str)) : Prop := ∃ xs, SqT K H a xs ∧ Paired (Pp K H) xs ps
def KsAt (K : PySem.W.Frag) (H : Hp) (a : Addr) (ks : List Kd) : Prop := ∃ xs, SqT K H a xs ∧ Paired (fun v k => Kp K H v k) xs ks
def MsAt (K : PySem.W.Frag) (H : Hp) (a : Addr) (ms : List (Str × Str × Kd)) : Prop := ∃ xs, SqT K H a xs ∧ Paired (Mp K H) xs ms
def Cp (K : PySem.W.Frag) (H : Hp) (v : V) (c : Cls) : Prop := ∃ a ap ak am, v = .ref a ∧ SqT K H a [.str c.nm, .ref ap, .ref ak, .ref am] ∧ PsAt K H ap c.ps ∧ KsAt K H ak c.ks ∧ MsAt K H am c.ms
section
variable {K : PySem.W.Frag} {H H' : Hp}
theorem Pp.stay {v : V} {p : Str × Str} (s : Stay K H H') (h : Pp K H v p) : Pp K H' v p := by
  obtain ⟨a, e, q⟩ := h
  exact ⟨a, e, s.tup _ _ q⟩
theorem Mp.stay {v : V} {m : Str × Str × Kd} (s : Stay K H H') (h : Mp K H v m) : Mp K H' v m := by
  obtain ⟨a, u, e, q, k⟩ := h
  exact ⟨a, u, e, s.tup _ _ q, k.stay s⟩
theorem PsAt.stay {a : Addr} {ps : List (Str × Str)} (s : Stay K H H') (h : PsAt K H a ps) : PsAt K H' a ps := by
  obtain ⟨xs, q, r⟩ := h
  exact ⟨xs, s.tup _ _ q, Paired.mapP r fun _ _ z => z.stay s⟩
theorem KsAt.stay {a : Addr} {ks : List Kd} (s : Stay K H H') (h : KsAt K H a ks) : KsAt K H' a ks := by
  obtain ⟨xs, q, r⟩ := h
  exact ⟨xs, s.tup _ _ q, Paired.mapP r fun _ _ z => Th.stay s z⟩
theorem MsAt.stay {a : Addr} {ms : List (Str × Str × Kd)} (s : Stay K H H') (h : MsAt K H a ms) : MsAt K H' a ms := by
  obtain ⟨xs, q, r⟩ := h
  exact ⟨xs, s.tup _ _ q, Paired.mapP r fun _ _ z => z.stay s⟩
theorem Cp.stay {v : V} {c : Cls} (s : Stay K H H') (h : Cp K H v c) : Cp K H' v c := by
  obtain ⟨a, ap, ak, am, e, q, h1, h2, h3⟩ := h
  exact ⟨a, ap, ak, am, e, s.tup _ _ q, h1.stay s, h2.stay s, h3.stay s⟩
end
/-- what the top holds for tables -/
structure Glo2 (K : PySem.W.Frag) (mg : Str → Option Value) : Prop where
  set : mg "set" = none
  MC : ∃ t, mg "MOST_CLASSES" = some (.int 5 t)
  MI : ∃ t, mg "MOST_IN_CLASS" = some (.int 2 t)
  MS : ∃ t, mg "MOST_SIZE" = some (.int 6 t)
  VA : ∃ a, mg "VARIANCES" = some (.ref a) ∧ ∀ H, SqT K H a (varz.map V.str)
  WA : ∃ a, mg "WAYS" = some (.ref a) ∧ ∀ H, SqT K H a (wayz.map V.str)
section
variable {P : Program} {w : World} {K : PySem.W.Frag} {mg : Str → Option Value} {base : Heap}
/-- is_short_tuple, of a tuple -/
def spShort (K : PySem.W.Frag) : Sp := fun vs H Q _ => ∃ (a : Addr) (xs : List V), vs = [.ref a] ∧ SqT K H a xs ∧ Q (.bl (decide (xs.length ≤ 2))) H
theorem ok_short (G : Glo mg) (G2 : Glo2 K mg) (D : DefAt K mg "is_short_tuple" s_is_short_tuple ["thing"]) : Cal P w K mg base 1 "is_short_tuple" ["thing"] (spShort K) := by
  obtain ⟨t2, h2⟩ := G2.MI
  refine D.cal sc_is_short_tuple (fun vs H Q E h => ?_) (fun f cdv A outer s H vs Q E hr h => ?_)
  · obtain ⟨a, xs, rfl, _⟩ := h
    rfl
  obtain ⟨a, xs, rfl, hq, q⟩ := h
  refine ⟨_, pss_one (ps_ret (pe_and (pe_isi G.isinstance G.tuple b_tuple rfl rfl (pv 0)) (pe_one (pe_cmpR op_le (pe_callB call_len_seq (by rfl) G.len PySem.boot_len (pa_cons (pv 0) pa_nil)) (pe_glob (v := .int 2) rfl h2 ⟨_, rfl⟩) (nomark _))))), ?_⟩
  refine ⟨_, rfl, isi_q (b := true) (SqT.ty hq) (kit_ty (by decide +kernel)) ⟨_, rfl, iteT ⟨_, rfl, a, xs, rfl, .inr hq, _, _, rfl, rfl, ?_⟩⟩⟩
  have e : decide (((xs.length : Nat) : Int) ≤ 2) = decide (xs.length ≤ 2) := by
    by_cases h : xs.length ≤ 2
    · rw [decide_eq_true h, decide_eq_true (by omega)]
    · rw [decide_eq_false h, decide_eq_false (by omega)]
  show Q (V.bl (decide (((xs.length : Nat) : Int) ≤ 2))) H
  rw [e]
  exact q
/-- all_differ, of texts -/
def spDiffer (K : PySem.W.Frag) : Sp := fun vs H Q _ => ∃ (a : Addr) (ys : List Str), vs = [.ref a] ∧ (SqL K H a (ys.map V.str) ∨ SqT K H a (ys.map V.str)) ∧ ys.length ≤ 1000 ∧ ∀ H' b, Same H H' → (b = true ↔ ys.Nodup) → Q (.bl b) H'
theorem ok_differ (G : Glo mg) (G2 : Glo2 K mg) (D : DefAt K mg "all_differ" s_all_differ ["words"]) : Cal P w K mg base 1 "all_differ" ["words"] (spDiffer K) := by
  refine D.cal sc_all_differ (fun vs H Q E h => ?_) (fun f cdv A outer s H vs Q E hr h => ?_)
  · obtain ⟨a, xs, rfl, _⟩ := h
    rfl
  obtain ⟨a, ys, rfl, hq, hn, q⟩ := h
  refine ⟨_, pss_one (ps_ret (pe_cmpR op_eq (pe_callB call_lenS (by rfl) G.len PySem.boot_len (pa_cons (pe_callTy (call_setTx rfl) (by rfl) G2.set (by decide +kernel) (pa_cons (pv 0) pa_nil)) pa_nil)) (pe_callB call_len_seq (by rfl) G.len PySem.boot_len (pa_cons (pv 0) pa_nil)) (nomark _))), ?_⟩
  refine ⟨_, rfl, a, ys, rfl, hq, hn, fun p c hp h1 h2 => ⟨p, ys, c, rfl, upd_same, by omega, _, rfl, a, ys.map V.str, rfl, ?_, rfl, ?_⟩⟩
  · have s1 := same_new hp (SetS P w p ys c)
    exact hq.imp s1.seq (fun z => (stay_same s1).tup _ _ z)
  · refine q _ _ (same_new hp _) ?_
    rw [List.length_map, decide_eq_true_iff, ← h2]
    constructor
    · intro h
      have := V.int.inj h
      omega
    · intro h
      rw [h]
theorem pairedAt {α β : Type} {F : α → β → Prop} : ∀ {l : List α} {r : List β} {i : Nat} {x : α}, Paired F l r → l[i]? = some x → ∃ y, r[i]? = some y ∧ F x y
  | _, _, _, _, .nil, e => by simp at e
  | _, _, 0, x, .cons h t, e => by
    simp only [List.getElem?_cons_zero, Option.some.injEq] at e
    subst e
    exact ⟨_, rfl, h⟩
  | _, _, i + 1, x, .cons _ t, e => by
    obtain ⟨y, h1, h2⟩ := pairedAt (i := i) (x := x) t (by simpa using e)
    exact ⟨y, by simpa using h1, h2⟩
/-- is_parameter, of a right one -/
def spPar (K : PySem.W.Frag) : Sp := fun vs H Q _ => ∃ (v : V) (p : Str × Str), vs = [v] ∧ Pp K H v p ∧ isLet p.1 = true ∧ p.2 ∈ varz ∧ Q (.bl true) H
theorem let_len1 {x : Str} (h : isLet x = true) : x.length ≤ 100000 := by
  obtain ⟨c, e, _⟩ := isLet_iff.mp h
  show x.cps.size ≤ _
  rw [← Array.length_toList, e]
  show 1 ≤ 100000
  decide
theorem in_strs {x : Str} {l : List Str} (h : x ∈ l) : inV (.str x) (l.map V.str) = true := by
  unfold inV
  rw [List.any_eq_true]
  exact ⟨.str x, List.mem_map_of_mem h, decide_eq_true rfl⟩
theorem ok_par (G : Glo mg) (G2 : Glo2 K mg) (CL : Cal P w K mg base 1 "is_letter" ["thing"] (spTest K Tg.isL)) (D : DefAt K mg "is_parameter" s_is_parameter ["thing"]) : Cal P w K mg base 2 "is_parameter" ["thing"] (spPar K) := by
  obtain ⟨va, hva, hvs⟩ := G2.VA
  refine D.cal sc_is_parameter (fun vs H Q E h => ?_) (fun f cdv A outer s H vs Q E hr h => ?_)
  · obtain ⟨v, p, rfl, _⟩ := h
    rfl
  obtain ⟨v, p, rfl, ⟨a, rfl, hq⟩, h1, h2, q⟩ := h
  refine ⟨_, pss_cons (ps_if (PW.pt (pw_or (pt_not (pt_val (pe_isi G.isinstance G.tuple b_tuple rfl rfl (pv 0)))) (pw_or1 (pt_cmpR op_ne (pe_callB call_len_seq (by rfl) G.len PySem.boot_len (pa_cons (pv 0) pa_nil)) pe_int (nomark _))))) (pss_one (ps_ret pe_bl)) pss_nil)
    (pss_one (ps_ret (pe_and (pc CL hr rfl (pa_cons (pe_ix ix_tup (pv 0) pe_int (fun _ _ => rfl)) pa_nil)) (pe_one (pe_cmpR op_in_seq (pe_ix ix_tup (pv 0) pe_int (fun _ _ => rfl)) (pe_glob (v := .ref va) rfl hva rfl) (by rfl)))))), ?_⟩
  refine ⟨_, rfl, isi_q (b := true) (SqT.ty hq) (kit_ty (by decide +kernel)) ⟨_, rfl, iteN rfl ⟨_, rfl, a, _, rfl, .inr hq, rfl, _, rfl, iteN rfl ?_⟩⟩⟩
  refine ⟨_, rfl, a, _, 0, .str p.1, rfl, rfl, hq, atI_nat (j := 0) rfl, .str p.1, .str p.1, rfl, .str p.1 (let_len1 h1), _, rfl, iteE (show Tg.isL (.str p.1) = true from h1) ?_⟩
  refine ⟨_, rfl, a, _, 1, .str p.2, rfl, rfl, hq, atI_nat (j := 1) rfl, va, varz.map V.str, rfl, .inr (hvs _), rfl, by decide, ?_⟩
  rw [in_strs h2]
  exact q
/-- are_parameters, of right ones -/
def spPars (K : PySem.W.Frag) : Sp := fun vs H Q _ => ∃ (a : Addr) (ps : List (Str × Str)), vs = [.ref a] ∧ PsAt K H a ps ∧ ps.length ≤ 2 ∧ (∀ p ∈ ps, isLet p.1 = true ∧ p.2 ∈ varz) ∧ (ps.map Prod.fst).Nodup ∧ ∀ H', Same H H' → Q (.bl true) H'
theorem ok_pars (G : Glo mg) (CS : Cal P w K mg base 1 "is_short_tuple" ["thing"] (spShort K)) (CP : Cal P w K mg base 2 "is_parameter" ["thing"] (spPar K)) (CD : Cal P w K mg base 1 "all_differ" ["words"] (spDiffer K)) (D : DefAt K mg "are_parameters" s_are_parameters ["thing"]) : Cal P w K mg base 3 "are_parameters" ["thing"] (spPars K) := by
  refine D.cal sc_are_parameters (fun vs H Q E h => ?_) (fun f cdv A outer s H vs Q E hr h => ?_)
  · obtain ⟨v, p, rfl, _⟩ := h
    rfl
  obtain ⟨a, ps, rfl, ⟨xs, hq, hp⟩, h2, hl, hd, q⟩ := h
  have hxl : xs.length = ps.length := Paired.length hp
  refine ⟨_, pss_cons (ps_if (PW.pt (pw_or (pt_not (pt_val (pc CS (hr.mono (by decide)) rfl (pa_cons (pv 0) pa_nil)))) (pw_or1 (pt_not (pt_val (pe_callB (cr_all rfl) (by rfl) G.all (by decide +kernel) (pa_cons (pe_lc (own := [("one", 1)]) (g := gName 1) (tt := tYes) (te := fun σ H Q => tCons (tVar 1) tNil σ H fun vs H1 => spPar K vs H1 Q E0) rfl sc_are_parameters.nd (pi_tup (pv 0)) (blkOk_by (N := nm_are_parameters) (sc := defScope s_are_parameters) (own := [("one", 1)]) (by decide +kernel))
        (fun _ _ _ _ _ => pg_name (i := 1) sc_are_parameters.nd rfl (Or.inl rfl)) (fun _ _ _ _ _ => pts_nil) (fun _ _ _ _ _ => pc CP hr rfl (pa_cons (pv 1) pa_nil))) pa_nil))))))) (pss_one (ps_ret pe_bl)) pss_nil)
    (pss_one (ps_ret (pc CD (hr.mono (by decide)) rfl (pa_cons (pe_lc (own := [("one", 1)]) (g := gName 1) (tt := tYes) (te := tOp (rIxT K) (tVar 1) (tC (.int 0))) rfl sc_are_parameters.nd (pi_tup (pv 0)) (blkOk_by (N := nm_are_parameters) (sc := defScope s_are_parameters) (own := [("one", 1)]) (by decide +kernel))
        (fun _ _ _ _ _ => pg_name (i := 1) sc_are_parameters.nd rfl (Or.inl rfl)) (fun _ _ _ _ _ => pts_nil) (fun _ _ _ _ _ => pe_ix ix_tup (pv 1) pe_int (fun _ _ => rfl))) pa_nil)))), ?_⟩
  refine ⟨_, rfl, a, xs, rfl, hq, _, rfl, iteN (by rw [decide_eq_true (by omega)]; rfl) ?_⟩
  refine ⟨_, rfl, a, rfl, ⟨xs, hq⟩, fun B hB => ?_⟩
  refine lc_vals (te := fun σ H Q => tCons (tVar 1) tNil σ H fun vs H1 => spPar K vs H1 Q E0) (zs := List.replicate xs.length (.bl true)) 1 rfl (List.length_replicate ..) (by omega) hq hB (fun i x z H' Q' hx hz s1 k => ?_) (fun H1 s1 hB1 => ?_)
  · obtain ⟨p, hp1, hp2⟩ := pairedAt hp hx
    have ez : z = .bl true := by
      have := List.mem_of_getElem? hz
      exact (List.mem_replicate.mp this).2
    subst ez
    obtain ⟨l1, l2⟩ := hl p (List.mem_of_getElem? hp1)
    exact ⟨x, rfl, x, p, rfl, hp2.stay (stay_same s1), l1, l2, k _ (Same.refl _)⟩
  refine ⟨B, List.replicate xs.length true, rfl, SqL.of (by rw [hB1, List.map_replicate]), _, rfl, iteN (by simp) ?_⟩
  refine ⟨_, rfl, a, rfl, ⟨xs, (stay_same s1).tup _ _ hq⟩, fun B2 hB2 => ?_⟩
  refine lc_vals (te := tOp (rIxT K) (tVar 1) (tC (.int 0))) (zs := (ps.map Prod.fst).map V.str) 1 rfl (by rw [List.length_map, List.length_map, hxl]) (by omega) ((stay_same s1).tup _ _ hq) hB2 (fun i x z H' Q' hx hz s2 k => ?_) (fun H2 s2 hB3 => ?_)
  · obtain ⟨p, hp1, hp2⟩ := pairedAt hp hx
    obtain ⟨a', rfl, hq'⟩ := hp2
    have ez : z = .str p.1 := by
      rw [List.getElem?_map, List.getElem?_map, hp1] at hz
      exact (Option.some.inj hz).symm
    subst ez
    exact ⟨_, rfl, a', _, 0, .str p.1, rfl, rfl, (stay_same (s1.trans s2)).tup _ _ hq', atI_nat (j := 0) rfl, k _ (Same.refl _)⟩
  refine ⟨B2, ps.map Prod.fst, rfl, .inl (SqL.of hB3), by rw [List.length_map]; omega, fun H3 b s3 hb => ?_⟩
  rw [hb.mpr hd]
  exact q _ ((s1.trans s2).trans s3)
end
end N

namespace N
open PySem PySem.Spec PyProof.Rows L2
section
variable {P : Program} {w : World} {K : PySem.W.Frag} {mg : Str → Option Value} {base : Heap}
def spCls (K : PySem.W.Frag) : Sp := fun vs H Q _ => ∃ (a : Addr) (xs : List V) (ks : List Kd), vs = [.ref a] ∧ SqL K H a xs ∧ Kps K H xs ks ∧ xs.length ≤ 100000 ∧
  ∀ p H' ys, Same H H' → H p = none → H' p = some (.lst ys) → Kps K H' ys (ks.filter Kd.isC) → Q (.ref p) H'
theorem ok_class_types (G : Glo mg) (D : DefAt K mg "class_types" s_class_types ["kinds"]) : Cal P w K mg base 1 "class_types" ["kinds"] (spCls K) := by
  refine D.cal sc_class_types (fun vs H Q E h => ?_) (fun f cdv A outer s H vs Q E hr h => ?_)
  · obtain ⟨a, xs, ks, rfl, _⟩ := h
    rfl
  obtain ⟨a, xs, ks, rfl, hS, hk, hl, q⟩ := h
  refine ⟨_, pss_one (ps_ret (pe_lc (own := [("kind", 1)]) (g := gName 1) (tt := tB (fun σ H Q => tVar 1 σ H fun v H1 => rIsi K [v, .ty "tuple"] H1 Q)) rfl sc_class_types.nd (pi_list (pv 0)) (blkOk_by (N := nm_class_types) (sc := defScope s_class_types) (own := [("kind", 1)]) (by decide +kernel))
    (fun _ _ _ _ _ => pg_name (i := 1) sc_class_types.nd rfl (Or.inl rfl)) (fun _ _ _ _ _ => pts_one (pt_val (pe_isi G.isinstance G.tuple b_tuple rfl rfl (pv 1)))) (fun _ _ _ _ _ => pv 1))), ?_⟩
  refine ⟨_, rfl, a, rfl, ⟨xs, hS⟩, fun D hD => ?_⟩
  refine lc_list (K := K) (a := a) (xs := xs) (fun i H' => ∃ acc, Same H H' ∧ H' D = some (.lst acc) ∧ Kps K H' acc ((ks.take i).filter Kd.isC)) ⟨[], same_new hD _, upd_same, .nil⟩ (fun i H' _ ⟨acc, sm, _⟩ => sm.seq hS) (fun i x H' hx ⟨acc, sm, hacc, hk'⟩ => ?_) (fun H1 ⟨acc, sm, hacc, hk'⟩ => ?_)
  · obtain ⟨k, hk1, hk2⟩ := Kps.at hk hx
    have hx2 := hk2.stay (stay_same sm)
    have hle : acc.length ≤ 100000 := by
      have h1 := Kps.length hk'
      have h2 := Kps.length hk
      have h3 : ((ks.take i).filter Kd.isC).length ≤ ks.length := Nat.le_trans (List.length_filter_le ..) (by rw [List.length_take]; omega)
      omega
    refine ⟨rfl, x, rfl, isi_tup hx2 ⟨_, rfl, ?_⟩⟩
    rw [Kd.isTu_tg, take_snoc hk1, List.filter_append]
    cases hc : k.isC with
    | true =>
      refine iteT ⟨x, rfl, acc, hacc, Nat.lt_of_le_of_lt hle (by decide), acc ++ [x], same_mut sm hD, upd_same, ?_⟩
      have e : [k].filter Kd.isC = [k] := by simp [hc]
      rw [e]
      exact Kps.app (ThAll.stay (stay_lst hacc) hk') (.cons (hx2.stay (stay_lst hacc)) .nil)
    | false =>
      have e : [k].filter Kd.isC = [] := by simp [hc]
      rw [e, List.append_nil]
      exact iteF ⟨acc, sm, hacc, hk'⟩
  · rw [Kps.length hk, List.take_length] at hk'
    exact q D H1 acc sm hD hacc hk'
/-- a number of a kind -/
def spNum (K : PySem.W.Frag) (g : Kd → Nat) : Sp := fun vs H Q _ => ∃ (v : V) (k : Kd), vs = [v] ∧ Kp K H v k ∧ k.nds ≤ 100000 ∧ ∀ H', Same H H' → Q (.int (g k : Nat)) H'
theorem ok_size_of (G : Glo mg) (CP : Cal P w K mg base 1 "parts" ["kind"] (spParts K)) (CC : Cal P w K mg base 1 "class_types" ["kinds"] (spCls K)) (D : DefAt K mg "size_of" s_size_of ["kind"]) : Cal P w K mg base 2 "size_of" ["kind"] (spNum K Kd.size) := by
  refine D.cal sc_size_of (fun vs H Q E h => ?_) (fun f cdv A outer s H vs Q E hr h => ?_)
  · obtain ⟨v, k, rfl, _⟩ := h
    rfl
  obtain ⟨v, k, rfl, hT, hn, q⟩ := h
  refine ⟨_, pss_one (ps_ret (pe_callB call_len_seq (by rfl) G.len PySem.boot_len (pa_cons (pc CC hr rfl (pa_cons (pc CP hr rfl (pa_cons (pv 0) pa_nil)) pa_nil)) pa_nil))), ?_⟩
  refine ⟨v, rfl, v, k, rfl, hT, hn, fun p H1 xs sm hp hx hk => ?_⟩
  have hl := Kps.length hk
  rw [Kd.nds_parts] at hl
  refine ⟨p, xs, k.parts, rfl, SqL.of hx, hk, by omega, fun p2 H2 ys sm2 hp2 hy hk2 => ?_⟩
  refine ⟨p2, ys, rfl, .inl (SqL.of hy), ?_⟩
  have e : ((ys.length : Nat) : Int) = (k.size : Nat) := by rw [Kps.length hk2, ← Kd.size_parts]
  rw [e]
  exact q H2 (sm.trans sm2)
end
end N

namespace N
open PySem PySem.Spec PyProof.Rows L2
section
variable {P : Program} {w : World} {K : PySem.W.Frag} {mg : Str → Option Value} {base : Heap}
/-- is_declared, of a right kind -/
def spDecl (K : PySem.W.Frag) : Sp := fun vs H Q _ => ∃ (v : V) (k : Kd), vs = [v] ∧ Kp K H v k ∧ k.ok ∧ k.size ≤ 6 ∧ k.nds ≤ 1000 ∧ ∀ H', Same H H' → Q (.bl true) H'
theorem ok_decl (G : Glo mg) (G2 : Glo2 K mg) (CT : Cal P w K mg base 3 "is_type" ["thing"] (spAsk K isT)) (CS : Cal P w K mg base 2 "size_of" ["kind"] (spNum K Kd.size)) (D : DefAt K mg "is_declared" s_is_declared ["thing"]) : Cal P w K mg base 4 "is_declared" ["thing"] (spDecl K) := by
  obtain ⟨t6, h6⟩ := G2.MS
  refine D.cal sc_is_declared (fun vs H Q E h => ?_) (fun f cdv A outer s H vs Q E hr h => ?_)
  · obtain ⟨v, p, rfl, _⟩ := h
    rfl
  obtain ⟨v, k, rfl, hk, ok, h1, h2, q⟩ := h
  refine ⟨_, pss_one (ps_ret (pe_and (pc CT hr rfl (pa_cons (pv 0) pa_nil)) (pe_one (pe_cmpR op_le (pc CS (hr.mono (by decide)) rfl (pa_cons (pv 0) pa_nil)) (pe_glob (v := .int 6) rfl h6 ⟨_, rfl⟩) (nomark _))))), ?_⟩
  have hn := Kd.nodes_tg k
  refine ⟨v, rfl, v, k.tg, rfl, hk, by omega, fun H1 s1 => ⟨_, rfl, iteE (Kd.isT_tg ok) ?_⟩⟩
  refine ⟨v, rfl, v, k, rfl, hk.stay (stay_same s1), by omega, fun H2 s2 => ⟨_, _, rfl, rfl, ?_⟩⟩
  show Q (V.bl (decide (((k.size : Nat) : Int) ≤ 6))) H2
  rw [decide_eq_true (by omega)]
  exact q _ (s1.trans s2)
/-- are_parents, of right ones -/
def spPnts (K : PySem.W.Frag) : Sp := fun vs H Q _ => ∃ (a : Addr) (ks : List Kd), vs = [.ref a] ∧ KsAt K H a ks ∧ ks.length ≤ 2 ∧ (∀ k ∈ ks, k.ok ∧ k.isC = true ∧ k.size ≤ 6 ∧ k.nds ≤ 1000) ∧ ∀ H', Same H H' → Q (.bl true) H'
theorem ok_pnts (G : Glo mg) (CS : Cal P w K mg base 1 "is_short_tuple" ["thing"] (spShort K)) (CD : Cal P w K mg base 4 "is_declared" ["thing"] (spDecl K)) (D : DefAt K mg "are_parents" s_are_parents ["thing"]) : Cal P w K mg base 5 "are_parents" ["thing"] (spPnts K) := by
  refine D.cal sc_are_parents (fun vs H Q E h => ?_) (fun f cdv A outer s H vs Q E hr h => ?_)
  · obtain ⟨v, p, rfl, _⟩ := h
    rfl
  obtain ⟨a, ks, rfl, ⟨xs, hq, hp⟩, h2, hl, q⟩ := h
  have hxl : xs.length = ks.length := Paired.length hp
  refine ⟨_, pss_cons (ps_if (pt_not (pt_val (pc CS (hr.mono (by decide)) rfl (pa_cons (pv 0) pa_nil)))) (pss_one (ps_ret pe_bl)) pss_nil)
    (pss_one (ps_ret (pe_callB (cr_all rfl) (by rfl) G.all (by decide +kernel) (pa_cons (pe_lc (own := [("kind", 1)]) (g := gName 1) (tt := tYes) (te := tAndV (fun σ H Q => tCons (tVar 1) tNil σ H fun vs H1 => spDecl K vs H1 Q E0) (fun σ H Q => tVar 1 σ H fun v H1 => rIsi K [v, .ty "tuple"] H1 Q)) rfl sc_are_parents.nd (pi_tup (pv 0)) (blkOk_by (N := nm_are_parents) (sc := defScope s_are_parents) (own := [("kind", 1)]) (by decide +kernel))
        (fun _ _ _ _ _ => pg_name (i := 1) sc_are_parents.nd rfl (Or.inl rfl)) (fun _ _ _ _ _ => pts_nil) (fun _ _ _ _ _ => pe_and (pc CD hr rfl (pa_cons (pv 1) pa_nil)) (pe_one (pe_isi G.isinstance G.tuple b_tuple rfl rfl (pv 1))))) pa_nil)))), ?_⟩
  refine ⟨_, rfl, a, xs, rfl, hq, _, rfl, iteN (by rw [decide_eq_true (by omega)]; rfl) ?_⟩
  refine ⟨_, rfl, a, rfl, ⟨xs, hq⟩, fun B hB => ?_⟩
  refine lc_vals (te := tAndV (fun σ H Q => tCons (tVar 1) tNil σ H fun vs H1 => spDecl K vs H1 Q E0) (fun σ H Q => tVar 1 σ H fun v H1 => rIsi K [v, .ty "tuple"] H1 Q)) (zs := List.replicate xs.length (.bl true)) 1 rfl (List.length_replicate ..) (by omega) hq hB (fun i x z H' Q' hx hz s1 k => ?_) (fun H1 s1 hB1 => ?_)
  · obtain ⟨p, hp1, hp2⟩ := pairedAt hp hx
    have ez : z = .bl true := (List.mem_replicate.mp (List.mem_of_getElem? hz)).2
    subst ez
    obtain ⟨l1, l2, l3, l4⟩ := hl p (List.mem_of_getElem? hp1)
    have hp3 : Kp K H' x p := Th.stay (stay_same s1) hp2
    refine ⟨x, rfl, x, p, rfl, hp3, l1, l3, l4, fun H2 s2 => ⟨_, rfl, iteE rfl ⟨x, rfl, isi_tup (hp3.stay (stay_same s2)) ?_⟩⟩⟩
    rw [Kd.isTu_tg, l2]
    exact k _ s2
  refine ⟨B, List.replicate xs.length true, rfl, SqL.of (by rw [hB1, List.map_replicate]), ?_⟩
  rw [show (List.replicate xs.length true).all id = true by simp]
  exact q _ s1
/-- is_member, of a right one -/
def spMem (K : PySem.W.Frag) : Sp := fun vs H Q _ => ∃ (v : V) (m : Str × Str × Kd), vs = [v] ∧ Mp K H v m ∧ isNam m.1 = true ∧ m.2.1 ∈ wayz ∧ m.2.2.ok ∧ m.2.2.size ≤ 6 ∧ m.2.2.nds ≤ 1000 ∧ ∀ H', Same H H' → Q (.bl true) H'
theorem nam_len1 {x : Str} (h : isNam x = true) : x.length ≤ 100000 := by
  have := (isNam_iff.mp h).2.1
  omega
theorem ok_mem (G : Glo mg) (G2 : Glo2 K mg) (CN : Cal P w K mg base 1 "is_name" ["thing"] (spTest K Tg.isNm)) (CD : Cal P w K mg base 4 "is_declared" ["thing"] (spDecl K)) (D : DefAt K mg "is_member" s_is_member ["thing"]) : Cal P w K mg base 5 "is_member" ["thing"] (spMem K) := by
  obtain ⟨va, hva, hvs⟩ := G2.WA
  refine D.cal sc_is_member (fun vs H Q E h => ?_) (fun f cdv A outer s H vs Q E hr h => ?_)
  · obtain ⟨v, p, rfl, _⟩ := h
    rfl
  obtain ⟨v, m, rfl, ⟨a, u, rfl, hq, hu⟩, h1, h2, h3, h4, h5, q⟩ := h
  refine ⟨_, pss_cons (ps_if (PW.pt (pw_or (pt_not (pt_val (pe_isi G.isinstance G.tuple b_tuple rfl rfl (pv 0)))) (pw_or1 (pt_cmpR op_ne (pe_callB call_len_seq (by rfl) G.len PySem.boot_len (pa_cons (pv 0) pa_nil)) pe_int (nomark _))))) (pss_one (ps_ret pe_bl)) pss_nil)
    (pss_one (ps_ret (pe_and (pc CN (hr.mono (by decide)) rfl (pa_cons (pe_ix ix_tup (pv 0) pe_int (fun _ _ => rfl)) pa_nil)) (pe_and (pe_cmpR op_in_seq (pe_ix ix_tup (pv 0) pe_int (fun _ _ => rfl)) (pe_glob (v := .ref va) rfl hva rfl) (by rfl)) (pe_one (pc CD hr rfl (pa_cons (pe_ix ix_tup (pv 0) pe_int (fun _ _ => rfl)) pa_nil))))))), ?_⟩
  refine ⟨_, rfl, isi_q (b := true) (SqT.ty hq) (kit_ty (by decide +kernel)) ⟨_, rfl, iteN rfl ⟨_, rfl, a, _, rfl, .inr hq, rfl, _, rfl, iteN rfl ?_⟩⟩⟩
  refine ⟨_, rfl, a, _, 0, .str m.1, rfl, rfl, hq, atI_nat (j := 0) rfl, .str m.1, .str m.1, rfl, .str m.1 (nam_len1 h1), _, rfl, iteE (show Tg.isNm (.str m.1) = true from h1) ?_⟩
  refine ⟨_, rfl, a, _, 1, .str m.2.1, rfl, rfl, hq, atI_nat (j := 1) rfl, va, wayz.map V.str, rfl, .inr (hvs _), rfl, by decide, _, rfl, iteE (in_strs h2) ?_⟩
  exact ⟨_, rfl, a, _, 2, u, rfl, rfl, hq, atI_nat (j := 2) rfl, u, m.2.2, rfl, hu, h3, h4, h5, q⟩
/-- are_members, of right ones -/
def spMems (K : PySem.W.Frag) : Sp := fun vs H Q _ => ∃ (a : Addr) (ms : List (Str × Str × Kd)), vs = [.ref a] ∧ MsAt K H a ms ∧ ms.length ≤ 2 ∧ (∀ m ∈ ms, isNam m.1 = true ∧ m.2.1 ∈ wayz ∧ m.2.2.ok ∧ m.2.2.size ≤ 6 ∧ m.2.2.nds ≤ 1000) ∧ (ms.map Prod.fst).Nodup ∧ ∀ H', Same H H' → Q (.bl true) H'
theorem ok_mems (G : Glo mg) (CS : Cal P w K mg base 1 "is_short_tuple" ["thing"] (spShort K)) (CP : Cal P w K mg base 5 "is_member" ["thing"] (spMem K)) (CD : Cal P w K mg base 1 "all_differ" ["words"] (spDiffer K)) (D : DefAt K mg "are_members" s_are_members ["thing"]) : Cal P w K mg base 6 "are_members" ["thing"] (spMems K) := by
  refine D.cal sc_are_members (fun vs H Q E h => ?_) (fun f cdv A outer s H vs Q E hr h => ?_)
  · obtain ⟨v, p, rfl, _⟩ := h
    rfl
  obtain ⟨a, ps, rfl, ⟨xs, hq, hp⟩, h2, hl, hd, q⟩ := h
  have hxl : xs.length = ps.length := Paired.length hp
  refine ⟨_, pss_cons (ps_if (PW.pt (pw_or (pt_not (pt_val (pc CS (hr.mono (by decide)) rfl (pa_cons (pv 0) pa_nil)))) (pw_or1 (pt_not (pt_val (pe_callB (cr_all rfl) (by rfl) G.all (by decide +kernel) (pa_cons (pe_lc (own := [("one", 1)]) (g := gName 1) (tt := tYes) (te := fun σ H Q => tCons (tVar 1) tNil σ H fun vs H1 => spMem K vs H1 Q E0) rfl sc_are_members.nd (pi_tup (pv 0)) (blkOk_by (N := nm_are_members) (sc := defScope s_are_members) (own := [("one", 1)]) (by decide +kernel))
        (fun _ _ _ _ _ => pg_name (i := 1) sc_are_members.nd rfl (Or.inl rfl)) (fun _ _ _ _ _ => pts_nil) (fun _ _ _ _ _ => pc CP hr rfl (pa_cons (pv 1) pa_nil))) pa_nil))))))) (pss_one (ps_ret pe_bl)) pss_nil)
    (pss_one (ps_ret (pc CD (hr.mono (by decide)) rfl (pa_cons (pe_lc (own := [("one", 1)]) (g := gName 1) (tt := tYes) (te := tOp (rIxT K) (tVar 1) (tC (.int 0))) rfl sc_are_members.nd (pi_tup (pv 0)) (blkOk_by (N := nm_are_members) (sc := defScope s_are_members) (own := [("one", 1)]) (by decide +kernel))
        (fun _ _ _ _ _ => pg_name (i := 1) sc_are_members.nd rfl (Or.inl rfl)) (fun _ _ _ _ _ => pts_nil) (fun _ _ _ _ _ => pe_ix ix_tup (pv 1) pe_int (fun _ _ => rfl))) pa_nil)))), ?_⟩
  refine ⟨_, rfl, a, xs, rfl, hq, _, rfl, iteN (by rw [decide_eq_true (by omega)]; rfl) ?_⟩
  refine ⟨_, rfl, a, rfl, ⟨xs, hq⟩, fun B hB => ?_⟩
  refine lc_vals (te := fun σ H Q => tCons (tVar 1) tNil σ H fun vs H1 => spMem K vs H1 Q E0) (zs := List.replicate xs.length (.bl true)) 1 rfl (List.length_replicate ..) (by omega) hq hB (fun i x z H' Q' hx hz s1 k => ?_) (fun H1 s1 hB1 => ?_)
  · obtain ⟨p, hp1, hp2⟩ := pairedAt hp hx
    have ez : z = .bl true := (List.mem_replicate.mp (List.mem_of_getElem? hz)).2
    subst ez
    obtain ⟨l1, l2, l3, l4, l5⟩ := hl p (List.mem_of_getElem? hp1)
    exact ⟨x, rfl, x, p, rfl, hp2.stay (stay_same s1), l1, l2, l3, l4, l5, k⟩
  refine ⟨B, List.replicate xs.length true, rfl, SqL.of (by rw [hB1, List.map_replicate]), _, rfl, iteN (by simp) ?_⟩
  refine ⟨_, rfl, a, rfl, ⟨xs, (stay_same s1).tup _ _ hq⟩, fun B2 hB2 => ?_⟩
  refine lc_vals (te := tOp (rIxT K) (tVar 1) (tC (.int 0))) (zs := (ps.map Prod.fst).map V.str) 1 rfl (by rw [List.length_map, List.length_map, hxl]) (by omega) ((stay_same s1).tup _ _ hq) hB2 (fun i x z H' Q' hx hz s2 k => ?_) (fun H2 s2 hB3 => ?_)
  · obtain ⟨p, hp1, hp2⟩ := pairedAt hp hx
    obtain ⟨a', u, rfl, hq', _⟩ := hp2
    have ez : z = .str p.1 := by
      rw [List.getElem?_map, List.getElem?_map, hp1] at hz
      exact (Option.some.inj hz).symm
    subst ez
    exact ⟨_, rfl, a', _, 0, .str p.1, rfl, rfl, (stay_same (s1.trans s2)).tup _ _ hq', atI_nat (j := 0) rfl, k _ (Same.refl _)⟩
  refine ⟨B2, ps.map Prod.fst, rfl, .inl (SqL.of hB3), by rw [List.length_map]; omega, fun H3 b s3 hb => ?_⟩
  rw [hb.mpr hd]
  exact q _ ((s1.trans s2).trans s3)
/-- is_class, of a right one -/
def spCls1 (K : PySem.W.Frag) : Sp := fun vs H Q _ => ∃ (v : V) (c : Cls), vs = [v] ∧ Cp K H v c ∧ c.ok ∧ ∀ H', Same H H' → Q (.bl true) H'
theorem ok_class (G : Glo mg) (CN : Cal P w K mg base 1 "is_name" ["thing"] (spTest K Tg.isNm)) (CP : Cal P w K mg base 3 "are_parameters" ["thing"] (spPars K)) (CK : Cal P w K mg base 5 "are_parents" ["thing"] (spPnts K)) (CM : Cal P w K mg base 6 "are_members" ["thing"] (spMems K)) (D : DefAt K mg "is_class" s_is_class ["thing"]) : Cal P w K mg base 7 "is_class" ["thing"] (spCls1 K) := by
  refine D.cal sc_is_class (fun vs H Q E h => ?_) (fun f cdv A outer s H vs Q E hr h => ?_)
  · obtain ⟨v, p, rfl, _⟩ := h
    rfl
  obtain ⟨v, c, rfl, ⟨a, ap, ak, am, rfl, hq, hp, hk, hm⟩, ok, q⟩ := h
  refine ⟨_, pss_cons (ps_if (PW.pt (pw_or (pt_not (pt_val (pe_isi G.isinstance G.tuple b_tuple rfl rfl (pv 0)))) (pw_or1 (pt_cmpR op_ne (pe_callB call_len_seq (by rfl) G.len PySem.boot_len (pa_cons (pv 0) pa_nil)) pe_int (nomark _))))) (pss_one (ps_ret pe_bl)) pss_nil)
    (pss_cons (ps_asg (pv 0) (pg_tup (by rfl) (pgs_cons (pg_name (i := 1) sc_is_class.nd rfl (Or.inl rfl)) (pgs_cons (pg_name (i := 2) sc_is_class.nd rfl (Or.inl rfl)) (pgs_cons (pg_name (i := 3) sc_is_class.nd rfl (Or.inl rfl)) (pgs_cons (pg_name (i := 4) sc_is_class.nd rfl (Or.inl rfl)) pgs_nil))))))
    (pss_one (ps_ret (pe_and (pc CN (hr.mono (by decide)) rfl (pa_cons (pv 1) pa_nil)) (pe_and (pc CP (hr.mono (by decide)) rfl (pa_cons (pv 2) pa_nil)) (pe_and (pc CK (hr.mono (by decide)) rfl (pa_cons (pv 3) pa_nil)) (pe_one (pc CM hr rfl (pa_cons (pv 4) pa_nil))))))))), ?_⟩
  refine ⟨_, rfl, isi_q (b := true) (SqT.ty hq) (kit_ty (by decide +kernel)) ⟨_, rfl, iteN rfl ⟨_, rfl, a, _, rfl, .inr hq, rfl, _, rfl, iteN rfl ?_⟩⟩⟩
  refine ⟨_, rfl, a, _, rfl, hq, rfl, .str c.nm, [.ref ap, .ref ak, .ref am], rfl, .ref ap, [.ref ak, .ref am], rfl, .ref ak, [.ref am], rfl, .ref am, [], rfl, rfl, ?_⟩
  refine ⟨_, rfl, .str c.nm, .str c.nm, rfl, .str c.nm (nam_len1 ok.n), _, rfl, iteE (show Tg.isNm (.str c.nm) = true from ok.n) ?_⟩
  refine ⟨_, rfl, ap, c.ps, rfl, hp, ok.p2, ok.pl, ok.pd, fun H1 s1 => ⟨_, rfl, iteE rfl ?_⟩⟩
  refine ⟨_, rfl, ak, c.ks, rfl, hk.stay (stay_same s1), ok.k2, ok.kk, fun H2 s2 => ⟨_, rfl, iteE rfl ?_⟩⟩
  exact ⟨_, rfl, am, c.ms, rfl, hm.stay (stay_same (s1.trans s2)), ok.m2, ok.ml, ok.md, fun H3 s3 => q _ ((s1.trans s2).trans s3)⟩
end
end N

namespace N
open PySem PySem.Spec PyProof.Rows L2
theorem peOf {X : Cx} {e : Expr} {te te' : TE} (h : PE X e te') (q : ∀ σ H Q, te σ H Q → te' σ H Q) : PE X e te := ⟨fun pins s σ H Q I z => h.run pins s σ H Q I (q σ H Q z)⟩
/-- the classes of a table -/
def CsAt (K : PySem.W.Frag) (H : Hp) (a : Addr) (cs : List Cls) : Prop := ∃ xs, SqT K H a xs ∧ Paired (Cp K H) xs cs
theorem CsAt.stay {K : PySem.W.Frag} {H H' : Hp} {a : Addr} {cs : List Cls} (s : Stay K H H') (h : CsAt K H a cs) : CsAt K H' a cs := by
  obtain ⟨xs, q, r⟩ := h
  exact ⟨xs, s.tup _ _ q, Paired.mapP r fun _ _ z => z.stay s⟩
structure FormsOk (cs : List Cls) : Prop where
  n1 : 1 ≤ cs.length
  n5 : cs.length ≤ 5
  ok : ∀ c ∈ cs, c.ok
  nd : (cs.map Cls.nm).Nodup
  pl : ∃ c ∈ cs, c.ps = []
/-- one[0], one a class at the slot j -/
def tNm (K : PySem.W.Frag) (j : Nat) : TE := fun σ H Q => ∃ v c, σ[j]? = some (some v) ∧ Cp K H v c ∧ Q (.str c.nm) H
/-- len(one[1]) > 0 -/
def tGt (K : PySem.W.Frag) (j : Nat) : TE := fun σ H Q => ∃ v c, σ[j]? = some (some v) ∧ Cp K H v c ∧ Q (.bl (decide (0 < c.ps.length))) H
section
variable {P : Program} {w : World} {K : PySem.W.Frag} {mg : Str → Option Value} {base : Heap}
theorem tNm_ok {σ : L2.St} {H : Hp} {Q : VK} {j : Nat} (z : tNm K j σ H Q) : tOp (rIxT K) (tVar j) (tC (.int 0)) σ H Q := by
  obtain ⟨v, c, e, ⟨a, ap, ak, am, rfl, hq, _⟩, q⟩ := z
  exact ⟨_, e, a, _, 0, .str c.nm, rfl, rfl, hq, atI_nat (j := 0) rfl, q⟩
def spNames (K : PySem.W.Frag) : Sp := fun vs H Q _ => ∃ (a : Addr) (cs : List Cls), vs = [.ref a] ∧ CsAt K H a cs ∧ cs.length ≤ 100 ∧ ∀ H' p, Same H H' → SqT K H' p ((cs.map Cls.nm).map V.str) → Q (.ref p) H'
theorem ok_names (G : Glo mg) (D : DefAt K mg "names_of" s_names_of ["classes"]) : Cal P w K mg base 1 "names_of" ["classes"] (spNames K) := by
  refine D.cal sc_names_of (fun vs H Q E h => ?_) (fun f cdv A outer s H vs Q E hr h => ?_)
  · obtain ⟨v, p, rfl, _⟩ := h
    rfl
  obtain ⟨a, cs, rfl, ⟨xs, hq, hp⟩, hn, q⟩ := h
  have hxl : xs.length = cs.length := Paired.length hp
  refine ⟨_, pss_one (ps_ret (pe_callTy call_tuple_of (by rfl) G.tuple b_tuple (pa_cons (pe_lc (own := [("one", 1)]) (g := gName 1) (tt := tYes) (te := tNm K 1) rfl sc_names_of.nd (pi_tup (pv 0)) (blkOk_by (N := nm_names_of) (sc := defScope s_names_of) (own := [("one", 1)]) (by decide +kernel))
        (fun _ _ _ _ _ => pg_name (i := 1) sc_names_of.nd rfl (Or.inl rfl)) (fun _ _ _ _ _ => pts_nil) (fun _ _ _ _ _ => peOf (pe_ix ix_tup (pv 1) pe_int (fun _ _ => rfl)) (fun σ H Q z => tNm_ok z))) pa_nil))), ?_⟩
  refine ⟨_, rfl, a, rfl, ⟨xs, hq⟩, fun B hB => ?_⟩
  refine lc_vals (te := tNm K 1) (zs := (cs.map Cls.nm).map V.str) 1 rfl (by rw [List.length_map, List.length_map, hxl]) (by omega) hq hB (fun i x z H' Q' hx hz s1 k => ?_) (fun H1 s1 hB1 => ?_)
  · obtain ⟨c, hc1, hc2⟩ := pairedAt hp hx
    have ez : z = .str c.nm := by
      rw [List.getElem?_map, List.getElem?_map, hc1] at hz
      exact (Option.some.inj hz).symm
    subst ez
    exact ⟨x, c, rfl, hc2.stay (stay_same s1), k _ (Same.refl _)⟩
  exact ⟨B, _, rfl, .inl ⟨SqL.of hB1, fun l hl => q _ l (s1.trans (same_new hl _)) (.inl (.inl upd_same))⟩⟩
/-- check_forms, of right classes -/
def spForms (K : PySem.W.Frag) : Sp := fun vs H Q _ => ∃ (a : Addr) (cs : List Cls), vs = [.ref a] ∧ CsAt K H a cs ∧ FormsOk cs ∧ ∀ H', Same H H' → Q .non H'
theorem ok_forms (G : Glo mg) (G2 : Glo2 K mg) (CC : Cal P w K mg base 7 "is_class" ["thing"] (spCls1 K)) (CN : Cal P w K mg base 1 "names_of" ["classes"] (spNames K)) (CD : Cal P w K mg base 1 "all_differ" ["words"] (spDiffer K)) (D : DefAt K mg "check_forms" s_check_forms ["classes"]) : Cal P w K mg base 8 "check_forms" ["classes"] (spForms K) := by
  obtain ⟨t5, h5⟩ := G2.MC
  refine D.cal sc_check_forms (fun vs H Q E h => ?_) (fun f cdv A outer s H vs Q E hr h => ?_)
  · obtain ⟨v, p, rfl, _⟩ := h
    rfl
  obtain ⟨a, cs, rfl, ⟨xs, hq, hp⟩, F, q⟩ := h
  have hxl : xs.length = cs.length := Paired.length hp
  have n5 := F.n5
  have n1 := F.n1
  refine ⟨_, pss_cons (ps_if (pt_not (pt_val (pe_callB (cr_all rfl) (by rfl) G.all (by decide +kernel) (pa_cons (pe_lc (own := [("one", 1)]) (g := gName 1) (tt := tYes) (te := fun σ H Q => tCons (tVar 1) tNil σ H fun vs H1 => spCls1 K vs H1 Q E0) rfl sc_check_forms.nd (pi_tup (pv 0)) (blkOk_by (N := nm_check_forms) (sc := defScope s_check_forms) (own := [("one", 1)]) (by decide +kernel))
        (fun _ _ _ _ _ => pg_name (i := 1) sc_check_forms.nd rfl (Or.inl rfl)) (fun _ _ _ _ _ => pts_nil) (fun _ _ _ _ _ => pc CC hr rfl (pa_cons (pv 1) pa_nil))) pa_nil)))) (pss_one ps_never) pss_nil)
    (pss_cons (ps_if (pt_not (pt_chain op_le op_le pe_int (pe_callB call_len_seq (by rfl) G.len PySem.boot_len (pa_cons (pv 0) pa_nil)) (pe_glob (v := .int 5) rfl h5 ⟨_, rfl⟩))) (pss_one ps_never) pss_nil)
    (pss_cons (ps_if (pt_not (pt_val (pc CD (hr.mono (by decide)) rfl (pa_cons (pc CN (hr.mono (by decide)) rfl (pa_cons (pv 0) pa_nil)) pa_nil)))) (pss_one ps_never) pss_nil)
    (pss_one (ps_if (pt_val (pe_callB (cr_all rfl) (by rfl) G.all (by decide +kernel) (pa_cons (pe_lc (own := [("one", 1)]) (g := gName 1) (tt := tYes) (te := tGt K 1) rfl sc_check_forms.nd (pi_tup (pv 0)) (blkOk_by (N := nm_check_forms) (sc := defScope s_check_forms) (own := [("one", 1)]) (by decide +kernel))
        (fun _ _ _ _ _ => pg_name (i := 1) sc_check_forms.nd rfl (Or.inl rfl)) (fun _ _ _ _ _ => pts_nil) (fun _ _ _ _ _ => peOf (pe_cmpR op_gt (pe_callB call_len_seq (by rfl) G.len PySem.boot_len (pa_cons (pe_ix ix_tup (pv 1) pe_int (fun _ _ => rfl)) pa_nil)) pe_int (nomark _)) (fun σ H Q z => ?_))) pa_nil))) (pss_one ps_never) pss_nil)))), ?_⟩
  · obtain ⟨v, c, e, ⟨a, ap, ak, am, rfl, hq, ⟨ys, hy, hyp⟩, _⟩, q⟩ := z
    refine ⟨_, e, a, _, 1, .ref ap, rfl, rfl, hq, atI_nat (j := 1) rfl, ap, ys, rfl, .inr hy, _, _, rfl, rfl, ?_⟩
    have hl : ys.length = c.ps.length := Paired.length hyp
    show Q (V.bl (decide (((ys.length : Nat) : Int) > 0))) H
    have e : decide (((ys.length : Nat) : Int) > 0) = decide (0 < c.ps.length) := by
      by_cases h : 0 < c.ps.length
      · rw [decide_eq_true h, decide_eq_true (by omega)]
      · rw [decide_eq_false h, decide_eq_false (by omega)]
    rw [e]
    exact q
  refine ⟨_, rfl, a, rfl, ⟨xs, hq⟩, fun B hB => ?_⟩
  refine lc_vals (te := fun σ H Q => tCons (tVar 1) tNil σ H fun vs H1 => spCls1 K vs H1 Q E0) (zs := List.replicate xs.length (.bl true)) 1 rfl (List.length_replicate ..) (by omega) hq hB (fun i x z H' Q' hx hz s1 k => ?_) (fun H1 s1 hB1 => ?_)
  · obtain ⟨c, hc1, hc2⟩ := pairedAt hp hx
    have ez : z = .bl true := (List.mem_replicate.mp (List.mem_of_getElem? hz)).2
    subst ez
    exact ⟨x, rfl, x, c, rfl, hc2.stay (stay_same s1), F.ok c (List.mem_of_getElem? hc1), k⟩
  refine ⟨B, List.replicate xs.length true, rfl, SqL.of (by rw [hB1, List.map_replicate]), _, rfl, iteN (by simp) ?_⟩
  have a1 : CsAt K H1 a cs := CsAt.stay (stay_same s1) ⟨xs, hq, hp⟩
  have q1 := (stay_same s1).tup _ _ hq
  refine ⟨_, rfl, a, xs, rfl, .inr q1, _, _, rfl, rfl, _, rfl, iteE (by rw [decide_eq_true (show (1 : Int) ≤ (xs.length : Nat) by omega)]) ?_⟩
  refine ⟨_, _, rfl, rfl, _, rfl, iteN (by rw [decide_eq_true (show ((xs.length : Nat) : Int) ≤ 5 by omega)]; rfl) ?_⟩
  refine ⟨_, rfl, a, cs, rfl, a1, by omega, fun H2 p2 s2 h2 => ?_⟩
  refine ⟨p2, cs.map Cls.nm, rfl, .inr h2, by rw [List.length_map]; omega, fun H3 b s3 hb => ⟨_, rfl, iteN (by rw [hb.mpr F.nd]; rfl) ?_⟩⟩
  have s13 := s1.trans (s2.trans s3)
  have q3 := (stay_same s13).tup _ _ hq
  refine ⟨_, rfl, a, rfl, ⟨xs, q3⟩, fun B2 hB2 => ?_⟩
  refine lc_vals (te := tGt K 1) (zs := cs.map fun c => V.bl (decide (0 < c.ps.length))) 1 rfl (by rw [List.length_map, hxl]) (by omega) q3 hB2 (fun i x z H' Q' hx hz s4 k => ?_) (fun H4 s4 hB4 => ?_)
  · obtain ⟨c, hc1, hc2⟩ := pairedAt hp hx
    have ez : z = .bl (decide (0 < c.ps.length)) := by
      rw [List.getElem?_map, hc1] at hz
      exact (Option.some.inj hz).symm
    subst ez
    exact ⟨x, c, rfl, hc2.stay (stay_same (s13.trans s4)), k _ (Same.refl _)⟩
  refine ⟨B2, cs.map fun c => decide (0 < c.ps.length), rfl, SqL.of (by rw [hB4, List.map_map]; rfl), _, rfl, iteN ?_ (q _ (s13.trans s4))⟩
  obtain ⟨c, hc, ec⟩ := F.pl
  rw [List.all_eq_false]
  exact ⟨_, List.mem_map_of_mem hc, by rw [ec]; decide⟩
end
end N

namespace N
open PySem PySem.Spec PyProof.Rows L2
theorem put_fresh {kvs : List (Key × V)} {k : Key} {v : V} (h : k ∉ kvs.map Prod.fst) : putK kvs k v = kvs ++ [(k, v)] := by
  refine putK_new v ?_
  cases e : valV kvs k with
  | none => rfl
  | some u =>
    exact absurd (by
      clear h
      induction kvs with
      | nil => cases e
      | cons p r ih =>
        rw [List.map_cons, List.mem_cons]
        by_cases h : p.1 = k
        · exact .inl h.symm
        · refine .inr (ih ?_)
          unfold valV at e ⊢
          rw [List.find?_cons_of_neg (by simpa using h)] at e
          exact e) h
/-- all but dicts stays -/
def NoD (H H' : Hp) : Prop := ∀ b o, H b = some o → (∀ kvs, o ≠ .dK kvs) → H' b = some o
theorem NoD.of {H H' : Hp} (s : Same H H') : NoD H H' := fun b o e _ => s b o e
theorem paired_snoc2 {α β : Type} {F : α → β → Prop} : ∀ {l : List α} {r : List β} {x : α} {y : β}, Paired F l r → F x y → Paired F (l ++ [x]) (r ++ [y])
  | _, _, _, _, .nil, h => .cons h .nil
  | _, _, _, _, .cons a t, h => .cons a (paired_snoc2 t h)
theorem take_one' {α : Type} {zs : List α} {i : Nat} {z : α} (h : zs[i]? = some z) : zs.take (i + 1) = zs.take i ++ [z] := by rw [List.take_add_one, h]; rfl
section
variable {K : PySem.W.Frag} {a : Addr} {xs : List V} {cs : List Cls} {tv : TE} {σ : L2.St} {H : Hp} {D : Addr} {Qd : Hp → Prop}
/-- {one[0]: .. for one in classes} -/
theorem dc_cls {vs : List Nat} (j : Nat) (F : Hp → V → Cls → Prop) (hF : ∀ H H' v c, NoD H H' → F H v c → F H' v c) (hv : vs = [j]) (hz : cs.length ≤ 1000) (hn : (cs.map Cls.nm).Nodup) (hq : SqT K H a xs) (hp : Paired (Cp K H) xs cs) (hD : H D = none) (hj : j < σ.length)
    (step : ∀ (x : V) (c : Cls) (H' : Hp) (Q : VK), Cp K H' x c → c ∈ cs → Same H H' → (∀ H2 z, Same H' H2 → F H2 z c → Q z H2) → tv ((wipe σ vs).set j (some x)) H' Q)
    (fin : ∀ H' kvs, Same H H' → H' D = some (.dK kvs) → kvs.map Prod.fst = (cs.map Cls.nm).map Sum.inr → Paired (fun kv c => F H' kv.2 c) kvs cs → Qd H') :
    ∃ W : Nat → Nat → Hp → Prop, (∃ m, W 0 m (upd H D (.dK []))) ∧ ∀ i m H, W i m H →
      ((Itt K a).stop i H ∧ Qd H) ∨ ((Itt K a).go i H ∧ ∃ Nx : Hp → Prop, (∀ H', Nx H' → ∃ m', m' < m ∧ W (i + 1) m' H') ∧ ∀ x H', (Itt K a).yld i H x H' → gName j x (wipe σ vs) H' fun σ2 H2 => wipe σ2 vs = wipe σ vs ∧ tYes σ2 H2 fun b H3 =>
        if b = true then tNm K j σ2 H3 fun y H4 => tv σ2 H4 fun z H5 => ∃ kvs k, y = kV k ∧ H5 D = some (.dK kvs) ∧ kvs.length < sizeLine ∧ Nx (upd H5 D (.dK (putK kvs k z))) else Nx H3) := by
  subst hv
  have hxl : xs.length = cs.length := Paired.length hp
  refine dc_tup (K := K) (a := a) (xs := xs) (fun i H' => Same H H' ∧ ∃ kvs, H' D = some (.dK kvs) ∧ kvs.map Prod.fst = ((cs.take i).map Cls.nm).map Sum.inr ∧ Paired (fun kv c => F H' kv.2 c) kvs (cs.take i)) ⟨same_new hD _, [], upd_same, rfl, .nil⟩
    (fun i H' _ ⟨s, _⟩ => (stay_same s).tup _ _ hq) (fun i x H' hx ⟨s1, kvs, e1, e2, e3⟩ => ?_) (fun H' ⟨s1, kvs, e1, e2, e3⟩ => fin H' kvs s1 e1 (by rw [e2, hxl, List.take_length]) (by rw [hxl, List.take_length] at e3; exact e3))
  obtain ⟨c, hc1, hc2⟩ := pairedAt hp hx
  have hi : i < cs.length := (List.getElem?_eq_some_iff.mp hc1).1
  refine ⟨wipe_one, ?_⟩
  unfold tYes
  dsimp only
  rw [if_pos rfl]
  have hc3 := hc2.stay (stay_same s1)
  refine ⟨x, c, ?_, hc3, ?_⟩
  · show ((σ.set j none).set j (some x))[j]? = _
    rw [List.getElem?_set_self (by rw [List.length_set]; exact hj)]
  refine step x c H' _ hc3 (List.mem_of_getElem? hc1) s1 fun H2 z s2 hz2 => ?_
  have e4 := s2 _ _ e1
  have et : cs.take (i + 1) = cs.take i ++ [c] := take_one' hc1
  have fresh : (Sum.inr c.nm : Key) ∉ kvs.map Prod.fst := by
    rw [e2]
    intro hm
    obtain ⟨n, hn1, hn2⟩ := List.mem_map.mp hm
    cases Sum.inr.inj hn2
    have h3 : ((cs.take (i + 1)).map Cls.nm).Nodup := by
      rw [List.map_take]
      exact hn.sublist (List.take_sublist _ _)
    rw [et, List.map_append, List.nodup_append] at h3
    exact h3.2.2 _ hn1 _ (List.mem_map_of_mem (List.mem_singleton.mpr rfl)) rfl
  have hkl : kvs.length = i := by
    have := congrArg List.length e2
    rw [List.length_map, List.length_map, List.length_map, List.length_take] at this
    omega
  refine ⟨kvs, Sum.inr c.nm, rfl, e4, Nat.lt_of_le_of_lt (show kvs.length ≤ 100000 by omega) (by decide), same_mut (s1.trans s2) hD, _, upd_same, ?_, ?_⟩
  · rw [put_fresh fresh, et, List.map_append, e2, List.map_append, List.map_append]
    rfl
  · rw [put_fresh fresh, et]
    have nd : ∀ {H0 : Hp}, Same H0 H2 → NoD H0 (upd H2 D (.dK (kvs ++ [(Sum.inr c.nm, z)]))) := fun {H0} s b o e n => by
      have h4 := s b o e
      have nb : b ≠ D := fun q => by
        rw [q, e4] at h4
        exact n kvs (Option.some.inj h4).symm
      rw [upd_ne nb]
      exact h4
    exact paired_snoc2 (Paired.mapP e3 fun _ _ q => hF _ _ _ _ (nd s2) q) (hF _ _ _ _ (nd (Same.refl _)) hz2)
end
end N

namespace N
open PySem PySem.Spec PyProof.Rows L2
/-- len(one[1]), one a class at the slot j -/
def tLn (K : PySem.W.Frag) (j : Nat) : TE := fun σ H Q => ∃ v c, σ[j]? = some (some v) ∧ Cp K H v c ∧ Q (.int (c.ps.length : Nat)) H
def arsOf (cs : List Cls) : List (Key × V) := cs.map fun c => (Sum.inr c.nm, V.int (c.ps.length : Nat))
theorem kvs_eq {f : Cls → V} : ∀ {kvs : List (Key × V)} {cs : List Cls}, kvs.map Prod.fst = (cs.map Cls.nm).map Sum.inr → Paired (fun (kv : Key × V) c => kv.2 = f c) kvs cs → kvs = cs.map fun c => (Sum.inr c.nm, f c)
  | _, _, _, .nil => rfl
  | (k, v) :: r, c :: cs, e, .cons h t => by
    have e' : k :: r.map Prod.fst = Sum.inr c.nm :: (cs.map Cls.nm).map Sum.inr := e
    rw [List.cons.injEq] at e'
    have h' : v = f c := h
    rw [List.map_cons, ← kvs_eq e'.2 t, e'.1, h']
/-- the third things of members -/
theorem thirds {K : PySem.W.Frag} {H : Hp} : ∀ {xs : List V} {ms : List (Str × Str × Kd)}, Paired (Mp K H) xs ms → ∃ us : List V, us.length = xs.length ∧ Paired (fun v k => Kp K H v k) us (ms.map fun m => m.2.2) ∧ ∀ (i : Nat) (x : V), xs[i]? = some x → ∃ a y z u, x = .ref a ∧ SqT K H a [y, z, u] ∧ us[i]? = some u
  | _, _, .nil => ⟨[], rfl, .nil, fun i x h => by simp at h⟩
  | x :: xs, m :: ms, .cons h t => by
    obtain ⟨us, h1, h2, h3⟩ := thirds t
    obtain ⟨a, u, e, q, k⟩ := h
    refine ⟨u :: us, by rw [List.length_cons, List.length_cons, h1], .cons k h2, fun i y hy => ?_⟩
    cases i with
    | zero =>
      simp only [List.getElem?_cons_zero, Option.some.injEq] at hy
      subst hy
      exact ⟨a, _, _, u, e, q, rfl⟩
    | succ i =>
      simp only [List.getElem?_cons_succ] at hy ⊢
      exact h3 i y hy
section
variable {P : Program} {w : World} {K : PySem.W.Frag} {mg : Str → Option Value} {base : Heap}
def spArs (K : PySem.W.Frag) : Sp := fun vs H Q _ => ∃ (a : Addr) (cs : List Cls), vs = [.ref a] ∧ CsAt K H a cs ∧ cs.length ≤ 100 ∧ (cs.map Cls.nm).Nodup ∧ ∀ H' d, Same H H' → H' d = some (.dK (arsOf cs)) → Q (.ref d) H'
theorem ok_ars (G : Glo mg) (D : DefAt K mg "arities" s_arities ["classes"]) : Cal P w K mg base 1 "arities" ["classes"] (spArs K) := by
  refine D.cal sc_arities (fun vs H Q E h => ?_) (fun f cdv A outer s H vs Q E hr h => ?_)
  · obtain ⟨v, p, rfl, _⟩ := h
    rfl
  obtain ⟨a, cs, rfl, ⟨xs, hq, hp⟩, hn, nd, q⟩ := h
  refine ⟨_, pss_one (ps_ret (pe_dc (own := [("one", 1)]) (g := gName 1) (tt := tYes) (tk := tNm K 1) (tv := tLn K 1) rfl sc_arities.nd (pi_tup (pv 0)) (blkOk_by (N := nm_arities) (sc := defScope s_arities) (own := [("one", 1)]) (by decide +kernel))
        (fun _ _ _ _ _ => pg_name (i := 1) sc_arities.nd rfl (Or.inl rfl)) (fun _ _ _ _ _ => pts_nil) (fun _ _ _ _ _ => peOf (pe_ix ix_tup (pv 1) pe_int (fun _ _ => rfl)) (fun σ H Q z => tNm_ok z))
        (fun _ _ _ _ _ => peOf (pe_callB call_len_seq (by rfl) G.len PySem.boot_len (pa_cons (pe_ix ix_tup (pv 1) pe_int (fun _ _ => rfl)) pa_nil)) (fun σ H Q z => ?_)))), ?_⟩
  · obtain ⟨v, c, e, ⟨a, ap, ak, am, rfl, hq, ⟨ys, hy, hyp⟩, _⟩, q⟩ := z
    have hl : ys.length = c.ps.length := Paired.length hyp
    refine ⟨_, e, a, _, 1, .ref ap, rfl, rfl, hq, atI_nat (j := 1) rfl, ap, ys, rfl, .inr hy, ?_⟩
    rw [hl]
    exact q
  refine ⟨_, rfl, a, rfl, ⟨xs, hq⟩, fun B hB => ?_⟩
  refine dc_cls (tv := tLn K 1) 1 (fun _ v c => v = .int (c.ps.length : Nat)) (fun _ _ _ _ _ h => h) rfl (by omega) nd hq hp hB (by show 1 < 2; decide) (fun x c H' Q' hc _ s1 k => ⟨x, c, rfl, hc, k _ _ (Same.refl _) rfl⟩) (fun H' kvs s1 e1 e2 e3 => q H' B s1 ?_)
  rw [e1, kvs_eq e2 e3]
  rfl
def spLets (K : PySem.W.Frag) : Sp := fun vs H Q _ => ∃ (v : V) (c : Cls), vs = [v] ∧ Cp K H v c ∧ c.ok ∧ ∀ H' l, Same H H' → H' l = some (.lst ((c.ps.map Prod.fst).map V.str)) → Q (.ref l) H'
theorem ok_lets (D : DefAt K mg "letters_of" s_letters_of ["one"]) : Cal P w K mg base 1 "letters_of" ["one"] (spLets K) := by
  refine D.cal sc_letters_of (fun vs H Q E h => ?_) (fun f cdv A outer s H vs Q E hr h => ?_)
  · obtain ⟨v, p, rfl, _⟩ := h
    rfl
  obtain ⟨v, c, rfl, ⟨a, ap, ak, am, rfl, hq, ⟨ys, hy, hyp⟩, _⟩, ok, q⟩ := h
  have hl : ys.length = c.ps.length := Paired.length hyp
  have p2 := ok.p2
  refine ⟨_, pss_one (ps_ret (pe_lc (own := [("parameter", 1)]) (g := gName 1) (tt := tYes) (te := tOp (rIxT K) (tVar 1) (tC (.int 0))) rfl sc_letters_of.nd (pi_tup (pe_ix ix_tup (pv 0) pe_int (fun _ _ => rfl))) (blkOk_by (N := nm_letters_of) (sc := defScope s_letters_of) (own := [("parameter", 1)]) (by decide +kernel))
        (fun _ _ _ _ _ => pg_name (i := 1) sc_letters_of.nd rfl (Or.inl rfl)) (fun _ _ _ _ _ => pts_nil) (fun _ _ _ _ _ => pe_ix ix_tup (pv 1) pe_int (fun _ _ => rfl)))), ?_⟩
  refine ⟨_, rfl, a, _, 1, .ref ap, rfl, rfl, hq, atI_nat (j := 1) rfl, ap, rfl, ⟨ys, hy⟩, fun B hB => ?_⟩
  refine lc_vals (te := tOp (rIxT K) (tVar 1) (tC (.int 0))) (zs := (c.ps.map Prod.fst).map V.str) 1 rfl (by rw [List.length_map, List.length_map, hl]) (by omega) hy hB (fun i x z H' Q' hx hz s1 k => ?_) (fun H1 s1 hB1 => q H1 B s1 hB1)
  obtain ⟨p, hp1, ⟨a', rfl, hq'⟩⟩ := pairedAt hyp hx
  have ez : z = .str p.1 := by
    rw [List.getElem?_map, List.getElem?_map, hp1] at hz
    exact (Option.some.inj hz).symm
  subst ez
  exact ⟨_, rfl, a', _, 0, .str p.1, rfl, rfl, (stay_same s1).tup _ _ hq', atI_nat (j := 0) rfl, k _ (Same.refl _)⟩
/-- the kinds that a class declares -/
def Cls.decl (c : Cls) : List Kd := c.ks ++ c.ms.map fun m => m.2.2
theorem pairs_app {α β : Type} {F : α → β → Prop} : ∀ {l l' : List α} {r r' : List β}, Paired F l r → Paired F l' r' → Paired F (l ++ l') (r ++ r')
  | _, _, _, _, .nil, h => h
  | _, _, _, _, .cons a t, h => .cons a (pairs_app t h)
def spDcls (K : PySem.W.Frag) : Sp := fun vs H Q _ => ∃ (v : V) (c : Cls), vs = [v] ∧ Cp K H v c ∧ c.ok ∧ ∀ H' l ys, Same H H' → H' l = some (.lst ys) → Paired (fun v k => Kp K H' v k) ys c.decl → Q (.ref l) H'
theorem ok_dcls (G : Glo mg) (D : DefAt K mg "declared" s_declared ["one"]) : Cal P w K mg base 1 "declared" ["one"] (spDcls K) := by
  refine D.cal sc_declared (fun vs H Q E h => ?_) (fun f cdv A outer s H vs Q E hr h => ?_)
  · obtain ⟨v, p, rfl, _⟩ := h
    rfl
  obtain ⟨v, c, rfl, ⟨a, ap, ak, am, rfl, hq, _, ⟨ks, hk, hkp⟩, ⟨ys, hy, hyp⟩⟩, ok, q⟩ := h
  have hkl : ks.length = c.ks.length := Paired.length hkp
  have hyl : ys.length = c.ms.length := Paired.length hyp
  have k2 := ok.k2
  have m2 := ok.m2
  refine ⟨_, pss_one (ps_ret (pe_op op_cat (pe_callTy call_list_of (by rfl) G.list b_list (pa_cons (pe_ix ix_tup (pv 0) pe_int (fun _ _ => rfl)) pa_nil)) (pe_lc (own := [("member", 1)]) (g := gName 1) (tt := tYes) (te := tOp (rIxT K) (tVar 1) (tC (.int 2))) rfl sc_declared.nd (pi_tup (pe_ix ix_tup (pv 0) pe_int (fun _ _ => rfl))) (blkOk_by (N := nm_declared) (sc := defScope s_declared) (own := [("member", 1)]) (by decide +kernel))
        (fun _ _ _ _ _ => pg_name (i := 1) sc_declared.nd rfl (Or.inl rfl)) (fun _ _ _ _ _ => pts_nil) (fun _ _ _ _ _ => pe_ix ix_tup (pv 1) pe_int (fun _ _ => rfl))))), ?_⟩
  refine ⟨_, rfl, a, _, 2, .ref ak, rfl, rfl, hq, atI_nat (j := 2) rfl, ak, ks, rfl, .inr hk, fun l hl => ?_⟩
  have s1 := same_new hl (.lst ks)
  have hy1 := (stay_same s1).tup _ _ hy
  refine ⟨_, rfl, a, _, 3, .ref am, rfl, rfl, (stay_same s1).tup _ _ hq, atI_nat (j := 3) rfl, am, rfl, ⟨ys, hy1⟩, fun B hB => ?_⟩
  obtain ⟨us, u1, u2, u3⟩ := thirds hyp
  refine lc_vals (te := tOp (rIxT K) (tVar 1) (tC (.int 2))) (zs := us) 1 rfl u1 (by omega) hy1 hB (fun i x z H' Q' hx hz s2 k => ?_) (fun H2 s2 hB2 => ?_)
  · obtain ⟨a', y, y2, u, rfl, hq', hu⟩ := u3 i x hx
    rw [hu] at hz
    cases hz
    exact ⟨_, rfl, a', _, 2, _, rfl, rfl, (stay_same (s1.trans s2)).tup _ _ hq', atI_nat (j := 2) rfl, k _ (Same.refl _)⟩
  refine ⟨l, B, ks, us, rfl, rfl, s2 _ _ upd_same, hB2, Nat.le_trans (show _ ≤ 100000 by omega) (by decide), fun p hp0 => ?_⟩
  have s3 := (s1.trans s2).trans (same_new hp0 (.lst (ks ++ us)))
  exact q _ p _ s3 upd_same (pairs_app (Paired.mapP hkp fun _ _ z => Th.stay (stay_same s3) z) (Paired.mapP u2 fun _ _ z => Th.stay (stay_same s3) z))
end
end N

namespace N
open PySem PySem.Spec PyProof.Rows L2
/-- the names, numbers of arguments, letters of a kind are these -/
def Kd.fits (ar : List (Str × Nat)) (ls : List Str) : Kd → Prop
  | .L c => c ∈ ls
  | .C0 n => (n, 0) ∈ ar
  | .C1 n a => (n, 1) ∈ ar ∧ a.fits ar ls
  | .C2 n a b => (n, 2) ∈ ar ∧ a.fits ar ls ∧ b.fits ar ls
theorem fits_C {ar : List (Str × Nat)} {ls : List Str} : ∀ {k : Kd}, k.isC = true → k.fits ar ls → (k.nm, k.args.length) ∈ ar ∧ ∀ a ∈ k.args, a.fits ar ls
  | .C0 n, _, h => ⟨h, fun a ha => by cases ha⟩
  | .C1 n b, _, h => ⟨h.1, fun a ha => by
    have : a = b := by simpa [Kd.args] using ha
    rw [this]
    exact h.2⟩
  | .C2 n b c, _, h => ⟨h.1, fun a ha => by
    have : a = b ∨ a = c := by simpa [Kd.args] using ha
    rcases this with rfl | rfl
    · exact h.2.1
    · exact h.2.2⟩
theorem fits_L {ar : List (Str × Nat)} {ls : List Str} {k : Kd} (c : k.isC = false) (h : k.fits ar ls) : k.nm ∈ ls := by
  cases k <;> first | (cases c; done) | exact h
def arKV (ar : List (Str × Nat)) : List (Key × V) := ar.map fun p => (Sum.inr p.1, V.int (p.2 : Nat))
theorem ar_val : ∀ {ar : List (Str × Nat)} {n : Str} {m : Nat}, (ar.map Prod.fst).Nodup → (n, m) ∈ ar → valV (arKV ar) (Sum.inr n : Key) = some (.int (m : Nat))
  | p :: r, n, m, nd, h => by
    rw [List.map_cons, List.nodup_cons] at nd
    rcases List.mem_cons.mp h with e | h
    · rw [← e]
      exact valV_pos (p := (Sum.inr n, V.int (m : Nat))) rfl
    · have : ¬ (Sum.inr p.1 : Key) = Sum.inr n := fun e => nd.1 (by rw [Sum.inr.inj e]; exact List.mem_map_of_mem (f := Prod.fst) h)
      exact (valV_neg (p := (Sum.inr p.1, V.int (p.2 : Nat))) this).trans (ar_val nd.2 h)
section
variable {P : Program} {w : World} {K : PySem.W.Frag} {mg : Str → Option Value} {base : Heap}
/-- is_of, of what is right -/
def spOf (K : PySem.W.Frag) : Sp := fun vs H Q _ => ∃ (v : V) (k : Kd) (d l : Addr) (ar : List (Str × Nat)) (ls : List Str), vs = [v, .ref d, .ref l] ∧ Kp K H v k ∧ k.nds ≤ 1000 ∧ H d = some (.dK (arKV ar)) ∧ (ar.map Prod.fst).Nodup ∧ (SqL K H l (ls.map V.str) ∨ SqT K H l (ls.map V.str)) ∧ k.fits ar ls ∧
  ∀ H', Same H H' → Q (.bl true) H'
theorem sum_snoc (ks : List Kd) (k : Kd) : ((ks ++ [k]).map Kd.nds).sum = (ks.map Kd.nds).sum + k.nds := by simp
theorem nds_args : ∀ {k : Kd}, k.isC = true → (k.args.map Kd.nds).sum + 1 = k.nds
  | .C0 n, _ => rfl
  | .C1 n a, _ => by simp only [Kd.args, Kd.nds, List.map_cons, List.map_nil, List.sum_cons, List.sum_nil]; omega
  | .C2 n a b, _ => by simp only [Kd.args, Kd.nds, List.map_cons, List.map_nil, List.sum_cons, List.sum_nil]; omega
theorem ok_of (G : Glo mg) (D : DefAt K mg "is_of" s_is_of ["thing", "wanted", "letters"]) : Cal P w K mg base 1 "is_of" ["thing", "wanted", "letters"] (spOf K) := by
  refine D.cal sc_is_of (fun vs H Q E h => ?_) (fun f cdv A outer s H vs Q E hr h => ?_)
  · obtain ⟨v, k, d, l, ar, ls, rfl, _⟩ := h
    rfl
  obtain ⟨v, k, d, l, ar, ls, rfl, hk, hn, hd, nd, hl, hf, q⟩ := h
  refine ⟨_, pss_cons (ps_set (i := 3) sc_is_of.nd rfl (Or.inl rfl) (pe_lst (pa_cons (pv 0) pa_nil)))
    (pss_cons (ps_while (passes_of rfl) (pt_truth (pv 3) (by intro _; rfl))
      (pss_cons (ps_set (i := 4) sc_is_of.nd rfl (Or.inl rfl) (pe_bm0 PySem.F.plainAttrs_list PySem.F.slot_list_pop PySem.F.type_list_pop mt_pop (pv 3)))
        (pss_one (ps_if (PW.pt (pw_and (pt_val (pe_isi G.isinstance G.tuple b_tuple rfl rfl (pv 4))) (pw_and (pt_cmpR op_gt (pe_callB call_len_seq (by rfl) G.len PySem.boot_len (pa_cons (pv 4) pa_nil)) pe_int (nomark _)) (pw_and1 (pt_val (pe_isi G.isinstance G.str b_str rfl rfl (pe_ix ix_tup (pv 4) pe_int (fun _ _ => rfl))))))))
          (pss_cons (ps_if (pt_cmpR op_ne (pe_dget1 (hug hr) (pv 1) (pe_ix ix_tup (pv 4) pe_int (fun _ _ => rfl)) ⟨rfl, rfl, rfl, rfl⟩) (pe_op op_sub (pe_callB call_len_seq (by rfl) G.len PySem.boot_len (pa_cons (pv 4) pa_nil)) pe_int) (nomark _)) (pss_one (ps_ret pe_bl)) pss_nil)
            (pss_one (ps_expr (pe_bm PySem.F.plainAttrs_list PySem.F.slot_list_extend PySem.F.type_list_extend mt_extendT (pv 3) (pa_cons (pe_slice sl_tup (pv 4) (po_some pe_int) po_none) pa_nil)))))
          (pss_one (ps_if (pt_cmpR op_notIn_seq (pv 4) (pv 2) (by rfl)) (pss_one (ps_ret pe_bl)) pss_nil))))))
    (pss_one (ps_ret pe_bl))), ?_⟩
  refine ⟨v, rfl, by show 1 ≤ sizeLine; decide, fun r hr0 => ?_⟩
  refine ⟨fun m σ H' => ∃ xs ks y, m = (ks.map Kd.nds).sum ∧ σ = [some v, some (.ref d), some (.ref l), some (.ref r), y] ∧ Same H H' ∧ H' r = some (.lst xs) ∧ Kps K H' xs ks ∧ (ks.map Kd.nds).sum ≤ 1000 ∧ ∀ k ∈ ks, k.fits ar ls,
    ⟨_, [v], [k], _, rfl, rfl, same_new hr0 _, upd_same, .cons (hk.stay (stay_new hr0 _)) .nil, by simp; omega, by simpa using hf⟩, fun m σ H' hW => ?_⟩
  obtain ⟨xs, ks, y, rfl, rfl, sm, hx, hA, hm, hfs⟩ := hW
  refine ⟨_, rfl, _, .inl ⟨xs, SqL.of hx, rfl⟩, ?_⟩
  by_cases hne : ks = []
  · subst hne
    have e0 : xs = [] := List.length_eq_zero_iff.mp (Kps.length hA)
    subst e0
    exact iteF (q H' sm)
  obtain ⟨u, xs', k', ks', e1, e2, hu, hr'⟩ := Kps.snoc hA hne
  subst e1 e2
  have ek : (!(xs' ++ [u]).isEmpty) = true := by cases xs' <;> rfl
  refine iteE ek ?_
  rw [sum_snoc] at hm
  have hl2 := Kps.length hr'
  have hl3 : ks'.length ≤ (ks'.map Kd.nds).sum := sum_ge_len ks'
  have kf := hfs k' (List.mem_append_right _ (List.mem_singleton.mpr rfl))
  have kfs : ∀ k ∈ ks', k.fits ar ls := fun k h => hfs k (List.mem_append_left _ h)
  refine ⟨fun σ2 H2 => ∃ xs ks y, (ks.map Kd.nds).sum < ((ks' ++ [k']).map Kd.nds).sum ∧ σ2 = [some v, some (.ref d), some (.ref l), some (.ref r), y] ∧ Same H H2 ∧ H2 r = some (.lst xs) ∧ Kps K H2 xs ks ∧ (ks.map Kd.nds).sum ≤ 1000 ∧ ∀ k ∈ ks, k.fits ar ls,
    fun σ2 H2 ⟨xs, ks, y, a, b, c, d, e, f, g⟩ => ⟨_, a, xs, ks, y, rfl, b, c, d, e, f, g⟩, ?_⟩
  have hlast : (xs' ++ [u])[(xs' ++ [u]).length - 1]? = some u := by
    rw [List.length_append, List.length_singleton, Nat.add_sub_cancel, List.getElem?_append_right (Nat.le_refl _), Nat.sub_self] <;> rfl
  refine ⟨_, rfl, .inl ⟨rfl, _, SqL.of hx⟩, r, _, u, rfl, rfl, hx, hlast, ?_⟩
  rw [List.dropLast_concat]
  have st : Stay K H' (upd H' r (.lst xs')) := stay_lst hx
  have hu1 : Kp K _ u k' := hu.stay st
  have hr1 := ThAll.stay st hr'
  have s1 : Same H (upd H' r (.lst xs')) := same_mut sm hr0
  have hpos := Kd.nds_pos k'
  cases hc : k'.isC with
  | true =>
    obtain ⟨a, zs, rfl, hq, hnl, hz⟩ := kp_C hu1 hc
    obtain ⟨f1, f2⟩ := fits_C hc kf
    have hzl := Kps.length hz
    have hna := nds_args hc
    have hal := sum_ge_len k'.args
    refine ⟨_, rfl, isi_q (b := true) (SqT.ty hq) (kit_ty (by decide +kernel)) ⟨_, rfl, iteE rfl ?_⟩⟩
    refine ⟨_, rfl, a, _, rfl, .inr hq, _, _, rfl, rfl, _, rfl, iteE (decide_eq_true (by show (((zs.length + 1 : Nat) : Int)) > 0; omega)) ?_⟩
    refine ⟨_, rfl, a, _, 0, .str k'.nm, rfl, rfl, hq, atI_nat (j := 0) rfl, isi_q (b := true) (.base (.str _)) (kit_ty (by decide +kernel)) ⟨_, rfl, iteE rfl ?_⟩⟩
    refine ⟨_, rfl, d, rfl, .inl ⟨_, .inl (s1 _ _ hd)⟩, ?_⟩
    refine ⟨_, rfl, a, _, 0, .str k'.nm, rfl, rfl, hq, atI_nat (j := 0) rfl, some (.int (k'.args.length : Nat)), .inl ⟨_, Sum.inr k'.nm, .inl (s1 _ _ hd), rfl, (ar_val nd f1).symm⟩, ?_⟩
    refine ⟨_, rfl, a, _, rfl, .inr hq, _, _, rfl, rfl, rfl, _, rfl, iteN ?_ ?_⟩
    · have e : V.int (k'.args.length : Nat) = V.int ((((V.str k'.nm :: zs).length : Nat) : Int) - 1) := by
        rw [List.length_cons, hzl]
        congr 1
        omega
      show (!decide (V.int (k'.args.length : Nat) = V.int ((((V.str k'.nm :: zs).length : Nat) : Int) - 1))) = false
      rw [decide_eq_true e]
      rfl
    refine ⟨_, rfl, .inl ⟨rfl, _, SqL.of upd_same⟩, _, rfl, 1, rfl, a, _, rfl, hq, cut_tail_ne _ (by simp), fun p hp => ?_⟩
    rw [cut_tail]
    show ∃ _ : Addr, _
    have npl : r ≠ p := ne_of_none upd_same hp
    have hx2 : (upd (upd H' r (.lst xs')) p (.tup zs)) r = some (.lst xs') := by rw [upd_ne npl]; exact upd_same
    have st2 : Stay K (upd H' r (.lst xs')) (upd (upd H' r (.lst xs')) p (.tup zs)) := stay_new hp _
    have st3 : Stay K (upd (upd H' r (.lst xs')) p (.tup zs)) (upd (upd (upd H' r (.lst xs')) p (.tup zs)) r (.lst (xs' ++ zs))) := stay_lst hx2
    refine ⟨r, p, xs', zs, rfl, rfl, hx2, .inl (.inl upd_same), sz5 (by omega), ?_⟩
    refine ⟨xs' ++ zs, ks' ++ k'.args, _, ?_, rfl, same_mut (s1.trans (same_new hp _)) hr0, upd_same, Kps.app ((hr1.stay st2).stay st3) ((ThAll.stay st2 hz).stay st3), ?_, ?_⟩
    · rw [sum_snoc, List.map_append, List.sum_append]
      omega
    · rw [List.map_append, List.sum_append]
      omega
    · intro k hk
      rcases List.mem_append.mp hk with z | z
      · exact kfs k z
      · exact f2 k z
  | false =>
    obtain ⟨rfl, hnl⟩ := kp_L hu1 hc
    refine ⟨_, rfl, isi_q (b := false) (.base (.str _)) (kit_ty (by decide +kernel)) ⟨_, rfl, iteN rfl (iteN rfl ?_)⟩⟩
    refine ⟨_, rfl, _, rfl, l, ls.map V.str, rfl, hl.imp s1.seq (fun z => (stay_same s1).tup _ _ z), rfl, ?_, _, rfl, iteN ?_ ?_⟩
    · rw [List.all_map]
      exact List.all_eq_true.mpr fun _ _ => rfl
    · rw [in_strs (fits_L hc kf)]
      rfl
    · refine ⟨xs', ks', _, ?_, rfl, s1, upd_same, hr1, by omega, kfs⟩
      rw [sum_snoc]
      omega
end
end N

namespace N
open PySem PySem.Spec PyProof.Rows L2
def arOf (cs : List Cls) : List (Str × Nat) := cs.map fun c => (c.nm, c.ps.length)
theorem ars_eq (cs : List Cls) : arsOf cs = arKV (arOf cs) := by
  unfold arsOf arKV arOf
  rw [List.map_map]
  rfl
structure FitOk (cs : List Cls) : Prop where
  f : ∀ c ∈ cs, ∀ k ∈ c.decl, k.fits (arOf cs) (c.ps.map Prod.fst) ∧ k.nds ≤ 1000
section
variable {K : PySem.W.Frag} {a : Addr} {xs zs : List V} {te : TE} {σ : L2.St} {H : Hp} {D : Addr} {Qd : Hp → Prop}
theorem lc_valsL {vs : List Nat} (j : Nat) (hv : vs = [j]) (hl : zs.length = xs.length) (hz : xs.length ≤ 1000) (hq : SqL K H a xs) (hD : H D = none)
    (step : ∀ (i : Nat) (x z : V) (H' : Hp) (Q : VK), xs[i]? = some x → zs[i]? = some z → Same H H' → (∀ H2, Same H' H2 → Q z H2) → te ((wipe σ vs).set j (some x)) H' Q) (fin : ∀ H', Same H H' → H' D = some (.lst zs) → Qd H') :
    ∃ W : Nat → Nat → Hp → Prop, (∃ m, W 0 m (upd H D (.lst []))) ∧ ∀ i m H, W i m H →
      ((Itl K a).stop i H ∧ Qd H) ∨ ((Itl K a).go i H ∧ ∃ Nx : Hp → Prop, (∀ H', Nx H' → ∃ m', m' < m ∧ W (i + 1) m' H') ∧ ∀ x H', (Itl K a).yld i H x H' → gName j x (wipe σ vs) H' fun σ2 H2 => wipe σ2 vs = wipe σ vs ∧ tYes σ2 H2 fun b H3 =>
        if b = true then te σ2 H3 fun y H4 => ∃ acc, H4 D = some (.lst acc) ∧ acc.length < sizeLine ∧ Nx (upd H4 D (.lst (acc ++ [y]))) else Nx H3) := by
  subst hv
  refine lc_list (K := K) (a := a) (xs := xs) (fun i H' => Same H H' ∧ H' D = some (.lst (zs.take i))) ⟨same_new hD _, upd_same⟩ (fun i H' _ ⟨s, _⟩ => s.seq hq) (fun i x H' hx ⟨s1, e1⟩ => ?_) (fun H' ⟨s1, e1⟩ => fin H' s1 (by rw [e1, ← hl, List.take_length]))
  have hi : i < zs.length := by rw [hl]; exact (List.getElem?_eq_some_iff.mp hx).1
  obtain ⟨z, hz1⟩ : ∃ z, zs[i]? = some z := ⟨_, List.getElem?_eq_getElem hi⟩
  refine ⟨wipe_one, ?_⟩
  unfold tYes
  dsimp only
  rw [if_pos rfl]
  refine step i x z H' _ hx hz1 s1 fun H2 s2 => ?_
  have e2 := s2 _ _ e1
  refine ⟨_, e2, ?_, same_mut (s1.trans s2) hD, ?_⟩
  · rw [List.length_take]
    exact Nat.lt_of_le_of_lt (show min i zs.length ≤ 100000 by omega) (by decide)
  · rw [upd_same, take_one hz1]
end
section
variable {P : Program} {w : World} {K : PySem.W.Frag} {mg : Str → Option Value} {base : Heap}
/-- check_fit, of right classes -/
def spFit (K : PySem.W.Frag) : Sp := fun vs H Q _ => ∃ (a : Addr) (cs : List Cls), vs = [.ref a] ∧ CsAt K H a cs ∧ FormsOk cs ∧ FitOk cs ∧ ∀ H', Same H H' → Q .non H'
theorem ok_fit (G : Glo mg) (CA : Cal P w K mg base 1 "arities" ["classes"] (spArs K)) (CL : Cal P w K mg base 1 "letters_of" ["one"] (spLets K)) (CD : Cal P w K mg base 1 "declared" ["one"] (spDcls K)) (CO : Cal P w K mg base 1 "is_of" ["thing", "wanted", "letters"] (spOf K))
    (D : DefAt K mg "check_fit" s_check_fit ["classes"]) : Cal P w K mg base 2 "check_fit" ["classes"] (spFit K) := by
  refine D.cal sc_check_fit (fun vs H Q E h => ?_) (fun f cdv A outer s H vs Q E hr h => ?_)
  · obtain ⟨v, p, rfl, _⟩ := h
    rfl
  obtain ⟨a, cs, rfl, ⟨xs, hq, hp⟩, F, T, q⟩ := h
  have hxl : xs.length = cs.length := Paired.length hp
  have n5 := F.n5
  refine ⟨_, pss_cons (ps_set (i := 1) sc_check_fit.nd rfl (by first | exact Or.inl rfl | exact Or.inr rfl) (pc CA hr rfl (pa_cons (pv 0) pa_nil)))
    (pss_one (ps_for (passes_of rfl) rfl (pi_tup (pv 0)) (pg_name (i := 2) sc_check_fit.nd rfl (Or.inl rfl))
      (pss_cons (ps_set (i := 3) sc_check_fit.nd rfl (by first | exact Or.inl rfl | exact Or.inr rfl) (pc CL hr rfl (pa_cons (pv 2) pa_nil)))
      (pss_one (ps_if (pt_not (pt_val (pe_callB (cr_all rfl) (by rfl) G.all (by decide +kernel) (pa_cons (pe_lc (own := [("kind", 4)]) (g := gName 4) (tt := tYes) (te := fun σ H Q => tCons (tVar 4) (tCons (tVar 1) (tCons (tVar 3) tNil)) σ H fun vs H1 => spOf K vs H1 Q E0) rfl sc_check_fit.nd (pi_list (pc CD hr rfl (pa_cons (pv 2) pa_nil))) (blkOk_by (N := nm_check_fit) (sc := defScope s_check_fit) (own := [("kind", 4)]) (by decide +kernel))
        (fun _ _ _ _ _ => pg_name (i := 4) sc_check_fit.nd rfl (Or.inl rfl)) (fun _ _ _ _ _ => pts_nil) (fun _ _ _ _ _ => pc CO hr rfl (pa_cons (pv 4) (pa_cons (pv 1) (pa_cons (pv 3) pa_nil))))) pa_nil)))) (pss_one ps_never) pss_nil))))), ?_⟩
  refine ⟨_, rfl, a, cs, rfl, ⟨xs, hq, hp⟩, by omega, F.nd, fun H1 d s1 hd => ?_⟩
  rw [ars_eq] at hd
  refine ⟨_, rfl, a, rfl, ⟨xs, (stay_same s1).tup _ _ hq⟩, ?_⟩
  refine for_tup (K := K) (a := a) (xs := xs) (fun j σ H' => ∃ y2 y3 y4, σ = [some (.ref a), some (.ref d), y2, y3, y4] ∧ Same H1 H') ⟨_, _, _, rfl, Same.refl _⟩ (fun j σ H' _ ⟨_, _, _, _, sm⟩ => (stay_same (s1.trans sm)).tup _ _ hq) (fun j x σ H' hxj ⟨y2, y3, y4, eσ, sm⟩ => ?_) (fun σ H' ⟨_, _, _, _, sm⟩ => q _ (s1.trans sm))
  subst eσ
  obtain ⟨c, hc1, hc2⟩ := pairedAt hp hxj
  have hcm := List.mem_of_getElem? hc1
  have ok := F.ok c hcm
  refine ⟨_, rfl, x, c, rfl, hc2.stay (stay_same (s1.trans sm)), ok, fun H2 l s2 hl => ?_⟩
  have s12 := s1.trans (sm.trans s2)
  refine ⟨_, rfl, x, c, rfl, hc2.stay (stay_same s12), ok, fun H3 e ys s3 he hys => ?_⟩
  have hyl : ys.length = c.decl.length := Paired.length hys
  have hdl : c.decl.length ≤ 4 := by
    unfold Cls.decl
    rw [List.length_append, List.length_map]
    have := ok.k2
    have := ok.m2
    omega
  refine ⟨e, rfl, ⟨ys, SqL.of he⟩, fun B hB => ?_⟩
  refine lc_valsL (te := fun σ H Q => tCons (tVar 4) (tCons (tVar 1) (tCons (tVar 3) tNil)) σ H fun vs H1 => spOf K vs H1 Q E0) (zs := List.replicate ys.length (.bl true)) 4 rfl (List.length_replicate ..) (by omega) (SqL.of he) hB (fun i x z H' Q' hx hz s4 k => ?_) (fun H4 s4 hB4 => ?_)
  · obtain ⟨kd, hk1, hk2⟩ := pairedAt hys hx
    have ez : z = .bl true := (List.mem_replicate.mp (List.mem_of_getElem? hz)).2
    subst ez
    obtain ⟨t1, t2⟩ := T.f c hcm kd (List.mem_of_getElem? hk1)
    refine ⟨x, rfl, _, rfl, _, rfl, x, kd, d, l, arOf cs, c.ps.map Prod.fst, rfl, Th.stay (stay_same s4) hk2, t2, (sm.trans (s2.trans (s3.trans s4))) _ _ hd, ?_, .inl (SqL.of ((s3.trans s4) _ _ hl)), t1, k⟩
    unfold arOf
    rw [List.map_map]
    exact F.nd
  refine ⟨B, List.replicate ys.length true, rfl, SqL.of (by rw [hB4, List.map_replicate]), _, rfl, iteN (by simp) ?_⟩
  exact ⟨_, _, _, rfl, sm.trans (s2.trans (s3.trans s4))⟩
end
end N

namespace N
open PySem PySem.Spec PyProof.Rows L2
/-- [parent[0] for parent in one[2]], one a class at the slot j -/
def tHd (K : PySem.W.Frag) (j : Nat) : TE := fun σ H Q => ∃ v c, σ[j]? = some (some v) ∧ Cp K H v c ∧ c.ok ∧ ∀ H' l, Same H H' → H' l = some (.lst ((c.ks.map Kd.nm).map V.str)) → Q (.ref l) H'
/-- [parameter[1] for parameter in one[1]] -/
def tVr (K : PySem.W.Frag) (j : Nat) : TE := fun σ H Q => ∃ v c, σ[j]? = some (some v) ∧ Cp K H v c ∧ c.ok ∧ ∀ H' l, Same H H' → H' l = some (.lst ((c.ps.map Prod.snd).map V.str)) → Q (.ref l) H'
def FHd (H : Hp) (v : V) (c : Cls) : Prop := ∃ l, v = .ref l ∧ H l = some (.lst ((c.ks.map Kd.nm).map V.str))
def FVr (H : Hp) (v : V) (c : Cls) : Prop := ∃ l, v = .ref l ∧ H l = some (.lst ((c.ps.map Prod.snd).map V.str))
theorem hd_stay (H H' : Hp) (v : V) (c : Cls) (n : NoD H H') (h : FHd H v c) : FHd H' v c := by
  obtain ⟨l, e, q⟩ := h
  exact ⟨l, e, n _ _ q (fun _ z => by cases z)⟩
theorem vr_stay (H H' : Hp) (v : V) (c : Cls) (n : NoD H H') (h : FVr H v c) : FVr H' v c := by
  obtain ⟨l, e, q⟩ := h
  exact ⟨l, e, n _ _ q (fun _ z => by cases z)⟩
/-- the dict that heads_of makes -/
def DctAt (F : Hp → V → Cls → Prop) (H : Hp) (d : Addr) (cs : List Cls) : Prop := ∃ kvs, Rd H d (.dK kvs) ∧ kvs.map Prod.fst = (cs.map Cls.nm).map Sum.inr ∧ Paired (fun (kv : Key × V) c => F H kv.2 c) kvs cs
section
variable {P : Program} {w : World} {K : PySem.W.Frag} {mg : Str → Option Value} {base : Heap}
def spDct (K : PySem.W.Frag) (F : Hp → V → Cls → Prop) : Sp := fun vs H Q _ => ∃ (a : Addr) (cs : List Cls), vs = [.ref a] ∧ CsAt K H a cs ∧ cs.length ≤ 100 ∧ (cs.map Cls.nm).Nodup ∧ (∀ c ∈ cs, c.ok) ∧ ∀ H' d kvs, Same H H' → H' d = some (.dK kvs) → H d = none → kvs.map Prod.fst = (cs.map Cls.nm).map Sum.inr → Paired (fun (kv : Key × V) c => F H' kv.2 c) kvs cs → Q (.ref d) H'
theorem ok_heads (G : Glo mg) (D : DefAt K mg "heads_of" s_heads_of ["classes"]) : Cal P w K mg base 1 "heads_of" ["classes"] (spDct K FHd) := by
  refine D.cal sc_heads_of (fun vs H Q E h => ?_) (fun f cdv A outer s H vs Q E hr h => ?_)
  · obtain ⟨v, p, rfl, _⟩ := h
    rfl
  obtain ⟨a, cs, rfl, ⟨xs, hq, hp⟩, hn, nd, oks, q⟩ := h
  refine ⟨_, pss_one (ps_ret (pe_dc (own := [("one", 2)]) (g := gName 2) (tt := tYes) (tk := tNm K 2) (tv := tHd K 2) rfl sc_heads_of.nd (pi_tup (pv 0)) (blkOk_by (N := nm_heads_of) (sc := defScope s_heads_of) (own := [("one", 2)]) (by decide +kernel))
        (fun _ _ _ _ _ => pg_name (i := 2) sc_heads_of.nd rfl (Or.inl rfl)) (fun _ _ _ _ _ => pts_nil) (fun _ _ _ _ _ => peOf (pe_ix ix_tup (pv 2) pe_int (fun _ _ => rfl)) (fun σ H Q z => tNm_ok z))
        (fun _ _ _ _ _ => peOf (pe_lc (own := [("parent", 1)]) (g := gName 1) (tt := tYes) (te := tOp (rIxT K) (tVar 1) (tC (.int 0))) rfl sc_heads_of.nd (pi_tup (pe_ix ix_tup (pv 2) pe_int (fun _ _ => rfl))) (blkOk_by (own := [("parent", 1)]) (by rfl))
          (fun _ _ _ _ _ => pg_name (i := 1) sc_heads_of.nd rfl (Or.inl rfl)) (fun _ _ _ _ _ => pts_nil) (fun _ _ _ _ _ => pe_ix ix_tup (pv 1) pe_int (fun _ _ => rfl))) (fun σ H Q z => ?_)))), ?_⟩
  · obtain ⟨v, c, e, ⟨a, ap, ak, am, rfl, hq, _, ⟨ys, hy, hyp⟩, _⟩, ok, q⟩ := z
    have hl : ys.length = c.ks.length := Paired.length hyp
    have k2 := ok.k2
    refine ⟨_, e, a, _, 2, .ref ak, rfl, rfl, hq, atI_nat (j := 2) rfl, ak, rfl, ⟨ys, hy⟩, fun B hB => ?_⟩
    refine lc_vals (te := tOp (rIxT K) (tVar 1) (tC (.int 0))) (zs := (c.ks.map Kd.nm).map V.str) 1 rfl (by rw [List.length_map, List.length_map, hl]) (by omega) hy hB (fun i x z H' Q' hx hz s1 k => ?_) (fun H1 s1 hB1 => q H1 B s1 hB1)
    obtain ⟨kd, hk1, hk2⟩ := pairedAt hyp hx
    have ez : z = .str kd.nm := by
      rw [List.getElem?_map, List.getElem?_map, hk1] at hz
      exact (Option.some.inj hz).symm
    subst ez
    obtain ⟨a', zs, rfl, hq', _, _⟩ := kp_C hk2 (ok.kk kd (List.mem_of_getElem? hk1)).2.1
    refine ⟨_, ?_, a', _, 0, .str kd.nm, rfl, rfl, (stay_same s1).tup _ _ hq', atI_nat (j := 0) rfl, k _ (Same.refl _)⟩
    have hsl : 2 < σ.length := (List.getElem?_eq_some_iff.mp e).1
    show ((σ.set 1 none).set 1 _)[1]? = _
    rw [List.getElem?_set_self (by rw [List.length_set]; omega)]
  refine ⟨_, rfl, a, rfl, ⟨xs, hq⟩, fun B hB => ?_⟩
  refine dc_cls (tv := tHd K 2) 2 FHd hd_stay rfl (by omega) nd hq hp hB (by show 2 < 3; decide) (fun x c H' Q' hc hm s1 k => ⟨x, c, rfl, hc, oks c hm, fun H2 l s2 hl => k _ _ s2 ⟨l, rfl, hl⟩⟩) (fun H' kvs s1 e1 e2 e3 => q H' B kvs s1 e1 hB e2 e3)
theorem ok_vars (G : Glo mg) (D : DefAt K mg "variances_of" s_variances_of ["classes"]) : Cal P w K mg base 1 "variances_of" ["classes"] (spDct K FVr) := by
  refine D.cal sc_variances_of (fun vs H Q E h => ?_) (fun f cdv A outer s H vs Q E hr h => ?_)
  · obtain ⟨v, p, rfl, _⟩ := h
    rfl
  obtain ⟨a, cs, rfl, ⟨xs, hq, hp⟩, hn, nd, oks, q⟩ := h
  refine ⟨_, pss_one (ps_ret (pe_dc (own := [("one", 2)]) (g := gName 2) (tt := tYes) (tk := tNm K 2) (tv := tVr K 2) rfl sc_variances_of.nd (pi_tup (pv 0)) (blkOk_by (N := nm_variances_of) (sc := defScope s_variances_of) (own := [("one", 2)]) (by decide +kernel))
        (fun _ _ _ _ _ => pg_name (i := 2) sc_variances_of.nd rfl (Or.inl rfl)) (fun _ _ _ _ _ => pts_nil) (fun _ _ _ _ _ => peOf (pe_ix ix_tup (pv 2) pe_int (fun _ _ => rfl)) (fun σ H Q z => tNm_ok z))
        (fun _ _ _ _ _ => peOf (pe_lc (own := [("parameter", 1)]) (g := gName 1) (tt := tYes) (te := tOp (rIxT K) (tVar 1) (tC (.int 1))) rfl sc_variances_of.nd (pi_tup (pe_ix ix_tup (pv 2) pe_int (fun _ _ => rfl))) (blkOk_by (own := [("parameter", 1)]) (by rfl))
          (fun _ _ _ _ _ => pg_name (i := 1) sc_variances_of.nd rfl (Or.inl rfl)) (fun _ _ _ _ _ => pts_nil) (fun _ _ _ _ _ => pe_ix ix_tup (pv 1) pe_int (fun _ _ => rfl))) (fun σ H Q z => ?_)))), ?_⟩
  · obtain ⟨v, c, e, ⟨a, ap, ak, am, rfl, hq, ⟨ys, hy, hyp⟩, _⟩, ok, q⟩ := z
    have hl : ys.length = c.ps.length := Paired.length hyp
    have k2 := ok.p2
    refine ⟨_, e, a, _, 1, .ref ap, rfl, rfl, hq, atI_nat (j := 1) rfl, ap, rfl, ⟨ys, hy⟩, fun B hB => ?_⟩
    refine lc_vals (te := tOp (rIxT K) (tVar 1) (tC (.int 1))) (zs := (c.ps.map Prod.snd).map V.str) 1 rfl (by rw [List.length_map, List.length_map, hl]) (by omega) hy hB (fun i x z H' Q' hx hz s1 k => ?_) (fun H1 s1 hB1 => q H1 B s1 hB1)
    obtain ⟨kd, hk1, hk2⟩ := pairedAt hyp hx
    have ez : z = .str kd.2 := by
      rw [List.getElem?_map, List.getElem?_map, hk1] at hz
      exact (Option.some.inj hz).symm
    subst ez
    obtain ⟨a', rfl, hq'⟩ := hk2
    refine ⟨_, ?_, a', _, 1, .str kd.2, rfl, rfl, (stay_same s1).tup _ _ hq', atI_nat (j := 1) rfl, k _ (Same.refl _)⟩
    have hsl : 2 < σ.length := (List.getElem?_eq_some_iff.mp e).1
    show ((σ.set 1 none).set 1 _)[1]? = _
    rw [List.getElem?_set_self (by rw [List.length_set]; omega)]
  refine ⟨_, rfl, a, rfl, ⟨xs, hq⟩, fun B hB => ?_⟩
  refine dc_cls (tv := tVr K 2) 2 FVr vr_stay rfl (by omega) nd hq hp hB (by show 2 < 3; decide) (fun x c H' Q' hc hm s1 k => ⟨x, c, rfl, hc, oks c hm, fun H2 l s2 hl => k _ _ s2 ⟨l, rfl, hl⟩⟩) (fun H' kvs s1 e1 e2 e3 => q H' B kvs s1 e1 hB e2 e3)
end
end N

namespace N
open PySem PySem.Spec PyProof.Rows L2
theorem dct_val {F : Hp → V → Cls → Prop} {H : Hp} : ∀ {kvs : List (Key × V)} {cs : List Cls} {n : Str}, kvs.map Prod.fst = (cs.map Cls.nm).map Sum.inr → Paired (fun (kv : Key × V) c => F H kv.2 c) kvs cs → n ∈ cs.map Cls.nm → ∃ c ∈ cs, ∃ v, c.nm = n ∧ valV kvs (Sum.inr n : Key) = some v ∧ F H v c
  | _, _, n, _, .nil, h => by cases h
  | (k, v) :: r, c :: cs, n, e, .cons h t, hn => by
    have e' : k :: r.map Prod.fst = Sum.inr c.nm :: (cs.map Cls.nm).map Sum.inr := e
    rw [List.cons.injEq] at e'
    by_cases q : c.nm = n
    · exact ⟨c, List.mem_cons_self, v, q, valV_pos (p := (k, v)) (by rw [e'.1, q]), h⟩
    · have hn' : n ∈ cs.map Cls.nm := by
        rw [List.map_cons, List.mem_cons] at hn
        exact hn.resolve_left fun z => q z.symm
      obtain ⟨c', h1, v', h2, h3, h4⟩ := dct_val e'.2 t hn'
      exact ⟨c', List.mem_cons_of_mem _ h1, v', h2, (valV_neg (p := (k, v)) (by rw [e'.1]; exact fun z => q (Sum.inr.inj z))).trans h3, h4⟩
theorem DctAt.stay {F : Hp → V → Cls → Prop} (hF : ∀ H H' v c, NoD H H' → F H v c → F H' v c) {H H' : Hp} {d : Addr} {cs : List Cls} (s : Same H H') (h : DctAt F H d cs) : DctAt F H' d cs := by
  obtain ⟨kvs, a, b, c⟩ := h
  exact ⟨kvs, a.imp (s _ _) (fun ⟨o, h⟩ => ⟨o, s _ _ h⟩), b, Paired.mapP c fun _ _ z => hF _ _ _ _ (NoD.of s) z⟩
/-- each class stands above those that it inherits from -/
structure ElOk (cs : List Cls) (rank : Str → Nat) : Prop where
  h : ∀ c ∈ cs, ∀ k ∈ c.ks, k.nm ∈ cs.map Cls.nm ∧ rank k.nm < rank c.nm
  k2 : ∀ c ∈ cs, c.ks.length ≤ 2
section
variable {P : Program} {w : World} {K : PySem.W.Frag} {mg : Str → Option Value} {base : Heap}
def spEld (K : PySem.W.Frag) : Sp := fun vs H Q _ => ∃ (d : Addr) (n : Str) (cs : List Cls) (rank : Str → Nat), vs = [.ref d, .str n] ∧ DctAt FHd H d cs ∧ cs.length ≤ 100 ∧ (cs.map Cls.nm).Nodup ∧ ElOk cs rank ∧ n ∈ cs.map Cls.nm ∧ ∀ (H' : Hp) (l : Addr) (ys : List Str), Same H H' → H' l = some (.lst (ys.map V.str)) → ys.length ≤ 100 → (∀ y ∈ ys, rank y < rank n) → Q (.ref l) H'
theorem not_in_strs {x : Str} {l : List Str} (h : x ∉ l) : inV (.str x) (l.map V.str) = false := by
  unfold inV
  rw [List.any_eq_false]
  intro v hv
  obtain ⟨y, hy, rfl⟩ := List.mem_map.mp hv
  have : y ≠ x := fun e => h (e ▸ hy)
  show ¬ (eqV (.str y) (.str x) = true)
  show ¬ (decide (y = x) = true)
  simpa using this
theorem nodup_len : ∀ {l m : List Str}, l.Nodup → (∀ x ∈ l, x ∈ m) → l.length ≤ m.length
  | [], _, _, _ => Nat.zero_le _
  | x :: l, m, nd, h => by
    rw [List.nodup_cons] at nd
    have hx : x ∈ m := h x List.mem_cons_self
    have := nodup_len (l := l) (m := m.erase x) nd.2 fun y hy => (List.mem_erase_of_ne (fun e => nd.1 (by rw [← e]; exact hy))).mpr (h y (List.mem_cons_of_mem _ hy))
    rw [List.length_erase_of_mem hx] at this
    have : 0 < m.length := List.length_pos_of_mem hx
    rw [List.length_cons]
    omega
theorem ok_eld (G : Glo mg) (D : DefAt K mg "elders" s_elders ["heads", "name"]) : Cal P w K mg base 1 "elders" ["heads", "name"] (spEld K) := by
  refine D.cal sc_elders (fun vs H Q E h => ?_) (fun f cdv A outer s H vs Q E hr h => ?_)
  · obtain ⟨v, p, _, _, rfl, _⟩ := h
    rfl
  obtain ⟨d, n, cs, rank, rfl, hd, hn, nd, el, hnm, q⟩ := h
  refine ⟨_, pss_cons (ps_set (i := 2) sc_elders.nd rfl (Or.inl rfl) (pe_lst pa_nil))
    (pss_cons (ps_set (i := 3) sc_elders.nd rfl (Or.inl rfl) (pe_callTy call_list_of (by rfl) G.list b_list (pa_cons (pe_dget (hug hr) (pv 0) (pv 1) (fun _ _ => rfl)) pa_nil)))
    (pss_cons (ps_while (passes_of rfl) (pt_truth (pv 3) (by intro _; rfl))
      (pss_cons (ps_set (i := 4) sc_elders.nd rfl (Or.inl rfl) (pe_bm0 PySem.F.plainAttrs_list PySem.F.slot_list_pop PySem.F.type_list_pop mt_pop (pv 3)))
      (pss_one (ps_if (pt_cmpR op_notIn_seq (pv 4) (pv 2) (by rfl))
        (pss_cons (ps_expr (pe_bm PySem.F.plainAttrs_list PySem.F.slot_list_append PySem.F.type_list_append mt_append (pv 2) (pa_cons (pv 4) pa_nil)))
        (pss_one (ps_expr (pe_bm PySem.F.plainAttrs_list PySem.F.slot_list_extend PySem.F.type_list_extend mt_extend (pv 3) (pa_cons (pe_dget (hug hr) (pv 0) (pv 4) (fun _ _ => rfl)) pa_nil))))) pss_nil))))
    (pss_one (ps_ret (pv 2))))), ?_⟩
  refine ⟨Nat.zero_le _, fun fo hfo => ?_⟩
  have s1 := same_new hfo (.lst [])
  have hd1 := DctAt.stay hd_stay s1 hd
  obtain ⟨kvs, g1, g2, g3⟩ := hd1
  obtain ⟨c, hc, v, ec, hv, l0, rfl, hl0⟩ := dct_val g2 g3 hnm
  refine ⟨_, rfl, _, rfl, d, .ref l0, rfl, .inl ⟨kvs, _, g1, rfl, hv.symm⟩, l0, _, rfl, .inl (SqL.of hl0), fun re hre => ?_⟩
  have hfr : fo ≠ re := ne_of_none upd_same hre
  have s2 := s1.trans (same_new hre (.lst ((c.ks.map Kd.nm).map V.str)))
  have inK : ∀ c ∈ cs, ∀ y ∈ c.ks.map Kd.nm, y ∈ cs.map Cls.nm ∧ rank y < rank c.nm := fun c hc y hy => by
    obtain ⟨k, hk, rfl⟩ := List.mem_map.mp hy
    exact el.h c hc k hk
  refine ⟨fun m σ H' => ∃ (fs rs : List Str) (y : Option V), m = 3 * (cs.length - fs.length) + rs.length ∧ σ = [some (.ref d), some (.str n), some (.ref fo), some (.ref re), y] ∧ Same H H' ∧ H' fo = some (.lst (fs.map V.str)) ∧ H' re = some (.lst (rs.map V.str)) ∧ fs.Nodup ∧ (∀ y ∈ fs, y ∈ cs.map Cls.nm ∧ rank y < rank n) ∧ (∀ y ∈ rs, y ∈ cs.map Cls.nm ∧ rank y < rank n) ∧ rs.length ≤ 2 + 2 * fs.length,
    ⟨_, [], c.ks.map Kd.nm, _, rfl, rfl, s2, ?_, upd_same, List.nodup_nil, (fun y h => by cases h), (fun y h => by rw [← ec]; exact inK c hc y h), ?_⟩, fun m σ H' hW => ?_⟩
  · rw [upd_ne hfr]
    exact upd_same
  · rw [List.length_map]
    have := el.k2 c hc
    exact this
  obtain ⟨fs, rs, y, rfl, rfl, sm, hf, hr1, fnd, fin, rin, rl⟩ := hW
  refine ⟨_, rfl, _, .inl ⟨_, SqL.of hr1, rfl⟩, ?_⟩
  have fl : fs.length ≤ cs.length := by
    have := nodup_len fnd fun x hx => (fin x hx).1
    rwa [List.length_map] at this
  by_cases hne : rs = []
  · subst hne
    exact iteF ⟨_, rfl, q H' fo fs sm hf (by omega) (fun y hy => (fin y hy).2)⟩
  obtain ⟨rs', x, rfl⟩ : ∃ rs' x, rs = rs' ++ [x] := ⟨rs.dropLast, rs.getLast hne, (List.dropLast_concat_getLast hne).symm⟩
  have em : (rs' ++ [x]).map V.str = rs'.map V.str ++ [V.str x] := by rw [List.map_append]; rfl
  rw [em] at hr1
  refine iteE (by rw [em]; cases rs'.map V.str <;> rfl) ?_
  obtain ⟨hxn, hxr⟩ := rin x (List.mem_append_right _ (List.mem_singleton.mpr rfl))
  have rin' : ∀ y ∈ rs', y ∈ cs.map Cls.nm ∧ rank y < rank n := fun y h => rin y (List.mem_append_left _ h)
  rw [List.length_append, List.length_singleton] at rl
  refine ⟨fun σ2 H2 => ∃ (fs2 rs2 : List Str) (y : Option V), 3 * (cs.length - fs2.length) + rs2.length < 3 * (cs.length - fs.length) + (rs' ++ [x]).length ∧ σ2 = [some (.ref d), some (.str n), some (.ref fo), some (.ref re), y] ∧ Same H H2 ∧ H2 fo = some (.lst (fs2.map V.str)) ∧ H2 re = some (.lst (rs2.map V.str)) ∧ fs2.Nodup ∧ (∀ y ∈ fs2, y ∈ cs.map Cls.nm ∧ rank y < rank n) ∧ (∀ y ∈ rs2, y ∈ cs.map Cls.nm ∧ rank y < rank n) ∧ rs2.length ≤ 2 + 2 * fs2.length,
    fun σ2 H2 ⟨a, b, c, h1, h2, h3, h4, h5, h6, h7, h8, h9⟩ => ⟨_, h1, a, b, c, rfl, h2, h3, h4, h5, h6, h7, h8, h9⟩, ?_⟩
  have hlast : (rs'.map V.str ++ [V.str x])[(rs'.map V.str ++ [V.str x]).length - 1]? = some (V.str x) := by
    rw [List.length_append, List.length_singleton, Nat.add_sub_cancel, List.getElem?_append_right (Nat.le_refl _), Nat.sub_self] <;> rfl
  refine ⟨_, rfl, .inl ⟨rfl, _, SqL.of hr1⟩, re, _, V.str x, rfl, rfl, hr1, hlast, ?_⟩
  rw [List.dropLast_concat]
  have hreH : H re = none := s1.free hre
  have sm1 : Same H (upd H' re (.lst (rs'.map V.str))) := same_mut sm hreH
  have hf1 : (upd H' re (.lst (rs'.map V.str))) fo = some (.lst (fs.map V.str)) := by rw [upd_ne hfr]; exact hf
  refine ⟨_, rfl, _, rfl, fo, fs.map V.str, rfl, .inl (SqL.of hf1), rfl, ?_, _, rfl, ?_⟩
  · rw [List.all_map]
    exact List.all_eq_true.mpr fun _ _ => rfl
  by_cases hin : x ∈ fs
  · refine iteN (by rw [in_strs hin]; rfl) ?_
    refine ⟨fs, rs', _, ?_, rfl, sm1, hf1, upd_same, fnd, fin, rin', by omega⟩
    rw [List.length_append, List.length_singleton]
    omega
  · refine iteE (by rw [not_in_strs hin]; rfl) ?_
    have fl2 : fs.length + 1 ≤ cs.length := by
      have := nodup_len (l := x :: fs) (m := cs.map Cls.nm) (List.nodup_cons.mpr ⟨hin, fnd⟩) fun y hy => by
        rcases List.mem_cons.mp hy with e | h
        · rw [e]; exact hxn
        · exact (fin y h).1
      rw [List.length_map, List.length_cons] at this
      exact this
    refine ⟨_, rfl, .inl ⟨rfl, _, SqL.of hf1⟩, _, rfl, fo, fs.map V.str, .str x, rfl, rfl, hf1, Nat.lt_of_le_of_lt (show _ ≤ 100000 by rw [List.length_map]; omega) (by decide), ?_⟩
    have sm2 : Same H (upd (upd H' re (.lst (rs'.map V.str))) fo (.lst (fs.map V.str ++ [.str x]))) := same_mut sm1 hfo
    obtain ⟨kv2, b1, b2, b3⟩ := DctAt.stay hd_stay sm2 hd
    obtain ⟨cx, hcx, vx, ecx, hvx, lx, rfl, hlx⟩ := dct_val b2 b3 hxn
    have hre2 : (upd (upd H' re (.lst (rs'.map V.str))) fo (.lst (fs.map V.str ++ [.str x]))) re = some (.lst (rs'.map V.str)) := by rw [upd_ne (Ne.symm hfr)]; exact upd_same
    have hk2 := el.k2 cx hcx
    refine ⟨_, rfl, .inl ⟨rfl, _, SqL.of hre2⟩, _, rfl, _, rfl, d, .ref lx, rfl, .inl ⟨kv2, _, b1, rfl, hvx.symm⟩, ?_⟩
    refine ⟨re, lx, _, _, rfl, rfl, hre2, hlx, Nat.le_trans (show _ ≤ 100000 by rw [List.length_map, List.length_map, List.length_map]; omega) (by decide), ?_⟩
    refine ⟨fs ++ [x], rs' ++ cx.ks.map Kd.nm, _, ?_, rfl, same_mut sm2 hreH, ?_, ?_, ?_, ?_, ?_, ?_⟩
    · simp only [List.length_append, List.length_singleton, List.length_map]
      omega
    · rw [upd_ne hfr, upd_same, List.map_append]
      rfl
    · rw [upd_same, List.map_append]
    · exact nodup_snoc.mpr ⟨fnd, hin⟩
    · intro y hy
      rcases List.mem_append.mp hy with h | h
      · exact fin y h
      · rw [List.mem_singleton.mp h]
        exact ⟨hxn, hxr⟩
    · intro y hy
      rcases List.mem_append.mp hy with h | h
      · exact rin' y h
      · obtain ⟨h1, h2⟩ := inK cx hcx y h
        rw [ecx] at h2
        exact ⟨h1, Nat.lt_trans h2 hxr⟩
    · rw [List.length_append, List.length_append, List.length_singleton, List.length_map]
      omega
end
end N

namespace N
open PySem PySem.Spec PyProof.Rows L2
theorem unfrz2 {H H' : Hp} {d : Addr} {u : HO} {od : Obj} (hd : H d = some u) (s : Same (upd H d (.frz od u)) H') : Same H (upd H' d u) := fun b o e => by
  by_cases q : b = d
  · rw [q] at e ⊢
    rw [hd] at e
    cases e
    exact upd_same
  · rw [upd_ne q]
    exact s b o (by rw [upd_ne q]; exact e)
section
variable {P : Program} {w : World} {K : PySem.W.Frag} {mg : Str → Option Value} {base : Heap}
def spElds (K : PySem.W.Frag) : Sp := fun vs H Q _ => ∃ (a : Addr) (cs : List Cls) (rank : Str → Nat), vs = [.ref a] ∧ CsAt K H a cs ∧ FormsOk cs ∧ ElOk cs rank ∧ ∀ H', Same H H' → Q .non H'
theorem ok_elds (G : Glo mg) (CH : Cal P w K mg base 1 "heads_of" ["classes"] (spDct K FHd)) (CE : Cal P w K mg base 1 "elders" ["heads", "name"] (spEld K)) (D : DefAt K mg "check_elders" s_check_elders ["classes"]) : Cal P w K mg base 2 "check_elders" ["classes"] (spElds K) := by
  refine D.cal sc_check_elders (fun vs H Q E h => ?_) (fun f cdv A outer s H vs Q E hr h => ?_)
  · obtain ⟨v, p, _, rfl, _⟩ := h
    rfl
  obtain ⟨a, cs, rank, rfl, hcs, F, el, q⟩ := h
  have n5 := F.n5
  refine ⟨_, pss_cons (ps_set (i := 1) sc_check_elders.nd rfl (Or.inl rfl) (pc CH hr rfl (pa_cons (pv 0) pa_nil)))
    (pss_one (ps_lock (ps_for (passes_of rfl) rfl (pi_keys (pv 1)) (pg_name (i := 2) sc_check_elders.nd rfl (Or.inl rfl))
      (pss_one (ps_if (pt_cmpR op_in_seq (pv 2) (pc CE hr rfl (pa_cons (pv 1) (pa_cons (pv 2) pa_nil))) (by rfl)) (pss_one ps_never) pss_nil))))), ?_⟩
  refine ⟨_, rfl, a, cs, rfl, hcs, by omega, F.nd, F.ok, fun H1 d kvs s1 hd hd0 e2 e3 => ?_⟩
  refine ⟨d, .dK kvs, hd, trivial, fun od => ?_⟩
  have hkl : kvs.length = cs.length := Paired.length e3
  have dl : DctAt FHd (upd H1 d (.frz od (.dK kvs))) d cs := ⟨kvs, .inr ⟨od, upd_same⟩, e2, Paired.mapP e3 fun kv c z => by
    obtain ⟨l, e, h⟩ := z
    exact ⟨l, e, by rw [upd_ne (fun z => by rw [z, hd] at h; cases h)]; exact h⟩⟩
  refine ⟨_, rfl, d, od, rfl, .inl ⟨kvs, upd_same, ?_⟩⟩
  refine for_it walk_keys (fun i σ H' => ∃ y, σ = [some (.ref a), some (.ref d), y] ∧ Same (upd H1 d (.frz od (.dK kvs))) H') ⟨_, rfl, Same.refl _⟩ (fun i σ H' _ ⟨_, _, sm⟩ => sm _ _ upd_same) (fun i x σ H' H2 hi ⟨y, eσ, sm⟩ hy => ?_) (fun σ H' ⟨_, _, sm⟩ => ?_)
  · subst eσ
    obtain ⟨rfl, k, v, hkv, rfl⟩ := hy
    obtain ⟨c, hc1, hc2⟩ := pairedAt e3 hkv
    have ek : k = Sum.inr c.nm := by
      have h1 : (kvs.map Prod.fst)[i]? = some k := by rw [List.getElem?_map, hkv]; rfl
      rw [e2, List.getElem?_map, List.getElem?_map, hc1] at h1
      exact (Option.some.inj h1).symm
    subst ek
    have hcm := List.mem_of_getElem? hc1
    refine ⟨_, rfl, _, rfl, _, rfl, d, c.nm, cs, rank, rfl, DctAt.stay hd_stay sm dl, by omega, F.nd, el, List.mem_map_of_mem hcm, fun H3 l ys s3 hl hyl hys => ?_⟩
    refine ⟨l, ys.map V.str, rfl, .inl (SqL.of hl), rfl, ?_, _, rfl, iteN ?_ ?_⟩
    · rw [List.all_map]
      exact List.all_eq_true.mpr fun _ _ => rfl
    · exact not_in_strs fun h => Nat.lt_irrefl _ (hys _ h)
    · exact ⟨_, rfl, sm.trans s3⟩
  · refine ⟨sm _ _ upd_same, q _ (s1.trans (unfrz2 hd sm))⟩
end
end N

namespace N
open PySem PySem.Spec PyProof.Rows L2
def sgz : List Str := ["+", "-", "+-"]
def turnS (s : Str) : Str := if s = "+" then "-" else if s = "-" then "+" else "+-"
def passS (s v : Str) : Str := if v = "out" then s else if v = "in" then turnS s else "+-"
/-- whether a place of this sign is barred for a parameter of this variance -/
def barB (s v : Str) : Bool := (v == "out" && s != "+") || (v == "in" && s != "-")
/-- the signs' constants -/
structure Glo3 (K : PySem.W.Frag) (w : World) (mg : Str → Option Value) : Prop where
  BO : ∃ t, mg "BOTH" = some (.str "+-" t)
  TU : ∃ a, mg "TURNED" = some (.ref a) ∧ ∀ s ∈ sgz, KDct K w a s (.str (turnS s))
  BA : ∃ a, mg "BARRED" = some (.ref a) ∧ KDct K w a "out" (.str "-") ∧ KDct K w a "in" (.str "+")
section
variable {P : Program} {w : World} {K : PySem.W.Frag} {mg : Str → Option Value} {base : Heap}
def spPass : Sp := fun vs H Q _ => ∃ (s v : Str), vs = [.str s, .str v] ∧ s ∈ sgz ∧ v ∈ varz ∧ Q (.str (passS s v)) H
theorem ok_pass (G3 : Glo3 K w mg) (D : DefAt K mg "passed_on" s_passed_on ["sign", "variance"]) : Cal P w K mg base 1 "passed_on" ["sign", "variance"] spPass := by
  obtain ⟨tb, hb⟩ := G3.BO
  obtain ⟨ta, hta, htv⟩ := G3.TU
  refine D.cal sc_passed_on (fun vs H Q E h => ?_) (fun f cdv A outer s H vs Q E hr h => ?_)
  · obtain ⟨v, p, rfl, _⟩ := h
    rfl
  obtain ⟨sg, v, rfl, hs, hv, q⟩ := h
  refine ⟨_, pss_cons (ps_if (pt_cmpR op_eq (pv 1) pe_str (nomark _)) (pss_one (ps_ret (pv 0))) pss_nil)
    (pss_cons (ps_if (pt_cmpR op_eq (pv 1) pe_str (nomark _)) (pss_one (ps_ret (pe_ix ix_kdict (pe_glob (v := .ref ta) rfl hta rfl) (pv 0) (fun _ _ => rfl)))) pss_nil)
    (pss_one (ps_ret (pe_glob (v := .str "+-") rfl hb ⟨_, rfl⟩)))), ?_⟩
  refine ⟨_, rfl, rfl, _, rfl, ite2 (fun c => ?_) (fun c => ?_)⟩
  · have e : v = "out" := by
      have := of_decide_eq_true c
      exact V.str.inj this
    refine ⟨_, rfl, ?_⟩
    have ep : passS sg v = sg := by unfold passS; rw [if_pos e]
    rw [ep] at q
    exact q
  · have e : ¬ v = "out" := fun z => (of_decide_eq_false (Bool.eq_false_iff.mpr c)) (by rw [z])
    refine ⟨_, rfl, rfl, _, rfl, ite2 (fun c2 => ?_) (fun c2 => ?_)⟩
    · have e2 : v = "in" := V.str.inj (of_decide_eq_true c2)
      have ep : passS sg v = turnS sg := by unfold passS; rw [if_neg e, if_pos e2]
      rw [ep] at q
      exact ⟨_, rfl, ta, sg, _, rfl, rfl, htv sg hs, q⟩
    · have e2 : ¬ v = "in" := fun z => (of_decide_eq_false (Bool.eq_false_iff.mpr c2)) (by rw [z])
      have ep : passS sg v = "+-" := by unfold passS; rw [if_neg e, if_neg e2]
      rw [ep] at q
      exact q
def spBar : Sp := fun vs H Q _ => ∃ (s v : Str), vs = [.str s, .str v] ∧ s ∈ sgz ∧ v ∈ varz ∧ Q (.bl (barB s v)) H
theorem ok_bar (G3 : Glo3 K w mg) (D : DefAt K mg "is_barred" s_is_barred ["sign", "variance"]) : Cal P w K mg base 1 "is_barred" ["sign", "variance"] spBar := by
  obtain ⟨ta, hta, ho, hi⟩ := G3.BA
  refine D.cal sc_is_barred (fun vs H Q E h => ?_) (fun f cdv A outer s H vs Q E hr h => ?_)
  · obtain ⟨v, p, rfl, _⟩ := h
    rfl
  obtain ⟨sg, v, rfl, hs, hv, q⟩ := h
  refine ⟨_, pss_one (ps_ret (pe_and (pe_cmpR op_ne (pv 1) pe_str (nomark _)) (pe_one (pe_cmpR op_in_str (pe_ix ix_kdict (pe_glob (v := .ref ta) rfl hta rfl) (pv 1) (fun _ _ => rfl)) (pv 0) (by rfl))))), ?_⟩
  simp only [varz, List.mem_cons, List.not_mem_nil, or_false] at hv
  simp only [sgz, List.mem_cons, List.not_mem_nil, or_false] at hs
  rcases hv with rfl | rfl | rfl
  · refine ⟨_, rfl, rfl, _, rfl, iteE rfl ⟨_, rfl, ta, "out", _, rfl, rfl, ho, _, rfl, _, _, rfl, rfl, ?_⟩⟩
    rcases hs with rfl | rfl | rfl <;> (refine (congrArg (fun b => Q (V.bl b) H) ?_).mpr q; decide +kernel)
  · refine ⟨_, rfl, rfl, _, rfl, iteE rfl ⟨_, rfl, ta, "in", _, rfl, rfl, hi, _, rfl, _, _, rfl, rfl, ?_⟩⟩
    rcases hs with rfl | rfl | rfl <;> (refine (congrArg (fun b => Q (V.bl b) H) ?_).mpr q; decide +kernel)
  · refine ⟨_, rfl, rfl, _, rfl, iteN rfl ?_⟩
    rcases hs with rfl | rfl | rfl <;> (refine (congrArg (fun b => Q (V.bl b) H) ?_).mpr q; decide +kernel)
end
end N

namespace N
open PySem PySem.Spec PyProof.Rows L2
/-- found == letter and is_barred(sign, variance), these at the slots 5, 3, 6, 4 -/
def tBd : TE := fun σ H Q => ∃ f s l v : Str, σ[5]? = some (some (.str f)) ∧ σ[6]? = some (some (.str s)) ∧ σ[3]? = some (some (.str l)) ∧ σ[4]? = some (some (.str v)) ∧ s ∈ sgz ∧ v ∈ varz ∧ Q (.bl (decide (f = l) && barB s v)) H
section
variable {P : Program} {w : World} {K : PySem.W.Frag} {mg : Str → Option Value} {base : Heap}
/-- wrong_letters, where none is -/
def spWrong (K : PySem.W.Frag) : Sp := fun vs H Q _ => ∃ (ap pl : Addr) (ps fs : List (Str × Str)) (ws : List V), vs = [.ref ap, .ref pl] ∧ PsAt K H ap ps ∧ H pl = some (.lst ws) ∧ Paired (Pp K H) ws fs ∧ fs.length ≤ 1000 ∧ (∀ p ∈ ps, p.2 ∈ varz) ∧ (∀ q ∈ fs, q.2 ∈ sgz) ∧ (∀ p ∈ ps, ∀ q ∈ fs, q.1 = p.1 → barB q.2 p.2 = false) ∧
  ∀ H' l, Same H H' → H' l = some (.lst []) → Q (.ref l) H'
theorem ok_wrong (G : Glo mg) (hany : mg "any" = none) (CB : Cal P w K mg base 1 "is_barred" ["sign", "variance"] spBar) (D : DefAt K mg "wrong_letters" s_wrong_letters ["parameters", "places"]) : Cal P w K mg base 2 "wrong_letters" ["parameters", "places"] (spWrong K) := by
  refine D.cal sc_wrong_letters (fun vs H Q E h => ?_) (fun f cdv A outer s H vs Q E hr h => ?_)
  · obtain ⟨v, p, _, _, _, rfl, _⟩ := h
    rfl
  obtain ⟨ap, pl, ps, fs, ws, rfl, ⟨xs, hq, hp⟩, hpl, hf, hn, h1, h2, h3, q⟩ := h
  refine ⟨_, pss_cons (ps_set (i := 2) sc_wrong_letters.nd rfl (Or.inl rfl) (pe_lst pa_nil))
    (pss_cons (ps_for (passes_of rfl) rfl (pi_tup (pv 0)) (pg_tup (by rfl) (pgs_cons (pg_name (i := 3) sc_wrong_letters.nd rfl (Or.inr rfl)) (pgs_cons (pg_name (i := 4) sc_wrong_letters.nd rfl (Or.inr rfl)) pgs_nil)))
      (pss_one (ps_if (pt_val (pe_callB (cr_any rfl) (by rfl) hany (by decide +kernel) (pa_cons (pe_lc (own := [("found", 5), ("sign", 6)]) (g := gTup K 2 (gCons (gName 5) (gCons (gName 6) gNil))) (tt := tYes) (te := tBd) rfl sc_wrong_letters.nd (pi_list (pv 1)) (blkOk_by (N := nm_wrong_letters) (sc := defScope s_wrong_letters) (own := [("found", 5), ("sign", 6)]) (by decide +kernel))
        (fun _ _ _ _ _ => pg_tup (by rfl) (pgs_cons (pg_name (i := 5) sc_wrong_letters.nd rfl (Or.inl rfl)) (pgs_cons (pg_name (i := 6) sc_wrong_letters.nd rfl (Or.inl rfl)) pgs_nil))) (fun _ _ _ _ _ => pts_nil)
        (fun _ _ _ _ _ => peOf (pe_and (pe_cmpR op_eq (pv 5) (pv 3) (nomark _)) (pe_one (pc CB hr rfl (pa_cons (pv 6) (pa_cons (pv 4) pa_nil))))) (fun σ H Q z => ?_))) pa_nil))) (pss_one ps_never) pss_nil)))
    (pss_one (ps_ret (pv 2)))), ?_⟩
  · obtain ⟨f, s, l, v, e5, e6, e3, e4, hs, hv, q⟩ := z
    refine ⟨_, e5, _, e3, rfl, _, rfl, ?_⟩
    by_cases e : f = l
    · rw [decide_eq_true e, Bool.true_and] at q
      exact iteE (decide_eq_true (by rw [e])) ⟨_, e6, _, e4, s, v, rfl, hs, hv, q⟩
    · rw [decide_eq_false e, Bool.false_and] at q
      exact iteN (decide_eq_false fun z => e (V.str.inj z)) q
  refine ⟨Nat.zero_le _, fun wl hwl => ?_⟩
  have s1 := same_new hwl (.lst [])
  have hwf : ws.length = fs.length := Paired.length hf
  refine ⟨_, rfl, ap, rfl, ⟨xs, (stay_same s1).tup _ _ hq⟩, ?_⟩
  refine for_tup (K := K) (a := ap) (xs := xs) (fun j σ H' => ∃ y3 y4 y5 y6, σ = [some (.ref ap), some (.ref pl), some (.ref wl), y3, y4, y5, y6] ∧ Same H H' ∧ H' wl = some (.lst [])) ⟨_, _, _, _, rfl, s1, upd_same⟩ (fun j σ H' _ ⟨_, _, _, _, _, sm, _⟩ => (stay_same sm).tup _ _ hq) (fun j x σ H' hxj ⟨y3, y4, y5, y6, eσ, sm, hw⟩ => ?_) (fun σ H' ⟨_, _, _, _, eσ, sm, hw⟩ => ?_)
  · subst eσ
    obtain ⟨p, hp1, ⟨a', rfl, hq'⟩⟩ := pairedAt hp hxj
    have hpm := List.mem_of_getElem? hp1
    refine ⟨a', _, rfl, (stay_same sm).tup _ _ hq', rfl, .str p.1, [.str p.2], rfl, .str p.2, [], rfl, rfl, ?_⟩
    have hpl' := sm _ _ hpl
    refine ⟨_, rfl, pl, rfl, ⟨ws, SqL.of hpl'⟩, fun B hB => ?_⟩
    refine lc_list (K := K) (a := pl) (xs := ws) (te := tBd) (fun i H2 => Same H' H2 ∧ H2 B = some (.lst (List.replicate i (V.bl false)))) ⟨same_new hB _, upd_same⟩ (fun i H2 _ ⟨s2, _⟩ => SqL.of (s2 _ _ hpl')) (fun i y H2 hy ⟨s2, hB2⟩ => ?_) (fun H2 ⟨s2, hB2⟩ => ?_)
    · obtain ⟨g, hg1, ⟨b', rfl, hb'⟩⟩ := pairedAt hf hy
      have hgm := List.mem_of_getElem? hg1
      have hi : i < ws.length := (List.getElem?_eq_some_iff.mp hy).1
      refine ⟨b', _, rfl, (stay_same (sm.trans s2)).tup _ _ hb', rfl, .str g.1, [.str g.2], rfl, .str g.2, [], rfl, rfl, rfl, ?_⟩
      unfold tYes
      dsimp only
      rw [if_pos rfl]
      refine ⟨g.1, g.2, p.1, p.2, rfl, rfl, rfl, rfl, h2 g hgm, h1 p hpm, _, hB2, ?_, same_mut s2 hB, ?_⟩
      · rw [List.length_replicate]
        exact Nat.lt_of_le_of_lt (show i ≤ 100000 by omega) (by decide)
      · have e : (decide (g.1 = p.1) && barB g.2 p.2) = false := by
          by_cases e : g.1 = p.1
          · rw [h3 p hpm g hgm e, Bool.and_false]
          · rw [decide_eq_false e, Bool.false_and]
        rw [upd_same, e, ← List.replicate_succ']
    · refine ⟨B, List.replicate ws.length false, rfl, SqL.of (by rw [hB2, List.map_replicate]), _, rfl, iteN (by simp) ?_⟩
      exact ⟨_, _, _, _, rfl, sm.trans s2, s2 _ _ hw⟩
  · subst eσ
    exact ⟨_, rfl, q _ wl sm hw⟩
end
end N

/-! zip of a tuple and a list: two sources of any sort, each told by what its next does -/
namespace N
open PySem PySem.Spec PyProof.Rows L2
/-- next of the source at i: x goes out, before is S, after is S' -/
def Yields (pr : Program) (w : World) (A : Around) (i : Addr) (S S' : Heap → Prop) (x : Value) : Prop :=
  ∀ (E : Value → Shared → Prop) (s : Shared) (R : Value → Shared → Prop), S s.heap → (∀ g, S' g → Heap.SameBut i s.heap g → R x { s with heap := g }) → wpAny (model pr w) A (Builtin.SmallTypes.nextOf (.ref i)) R E s
/-- next of the source at i: it is at its end -/
def Over (pr : Program) (w : World) (A : Around) (i : Addr) (S : Heap → Prop) : Prop :=
  ∀ (E : Value → Shared → Prop) (s : Shared) (R : Value → Shared → Prop), S s.heap → (∀ g e, Heap.ExtBut i s.heap g → (∃ o, g.get? e = some o ∧ o.cls = .type "StopIteration") → E (.ref e) { s with heap := g }) → wpAny (model pr w) A (Builtin.SmallTypes.nextOf (.ref i)) R E s
/-- S looks at i and l alone -/
def Looks (S : Heap → Prop) (i l : Addr) : Prop := ∀ g g' : Heap, S g → (∀ o, g.get? i = some o → g'.get? i = some o) → (∀ o, g.get? l = some o → g'.get? l = some o) → S g'
theorem Looks.but {S : Heap → Prop} {i l c : Addr} {g g' : Heap} (k : Looks S i l) (h : S g) (q : Heap.SameBut c g g') (n1 : i ≠ c) (n2 : l ≠ c) : S g' := k g g' h (fun _ e => q.extBut _ _ n1 e) (fun _ e => q.extBut _ _ n2 e)
def SrcT (i a : Addr) (xs : Array Value) (k : Nat) (g : Heap) : Prop := g.IsTupleIter i a k ∧ g.IsTuple a xs
def SrcL (i a : Addr) (xs : Array Value) (k : Nat) (g : Heap) : Prop := g.IsListIter i a k ∧ g.IsList a xs
section
variable {pr : Program} {w : World} {A : Around} {i a : Addr} {xs : Array Value} {k : Nat} {x : Value}
theorem looksT : Looks (SrcT i a xs k) i a := fun g g' ⟨⟨o, h1, h2⟩, ⟨o', h3, h4⟩⟩ e1 e2 => ⟨⟨o, e1 _ h1, h2⟩, ⟨o', e2 _ h3, h4⟩⟩
theorem looksL : Looks (SrcL i a xs k) i a := fun g g' h e1 e2 => ⟨h.1.at e1, h.2.at e2⟩
theorem yieldsT (e : xs[k]? = some x) (n : a ≠ i) : Yields pr w A i (SrcT i a xs k) (SrcT i a xs (k + 1)) x := fun E s R h q =>
  RZ.nextOf_tuple_item h.1 h.2 e fun g h' b => q g ⟨h', by obtain ⟨o, h3, h4⟩ := h.2; exact ⟨o, b.extBut _ _ n h3, h4⟩⟩ b
theorem yieldsL (e : xs[k]? = some x) (n : a ≠ i) : Yields pr w A i (SrcL i a xs k) (SrcL i a xs (k + 1)) x := fun E s R h q =>
  wpAny_nextOf_list_item h.1 h.2 e fun g h' b => q g ⟨h', h.2.extBut b.extBut n⟩ b
theorem overT (hh : A.handled = none) (e : xs[k]? = none) : Over pr w A i (SrcT i a xs k) := fun E s R h q => RZ.nextOf_tuple_end hh h.1 h.2 e q
theorem overL (hh : A.handled = none) (e : xs[k]? = none) : Over pr w A i (SrcL i a xs k) := fun E s R h q => wpAny_nextOf_list_end hh h.1 h.2 e q
end
section
variable {pr : Program} {w : World} {A : Around} {E : Value → Shared → Prop} {s : Shared} {z TI TO i1 i2 l1 l2 : Addr} {S1 S1' S2 S2' : Heap → Prop} {x y a b : Value}
/-- what a zip holds -/
structure ZipAt (g : Heap) (z TI TO i1 i2 : Addr) (f a b : Value) : Prop where
  zz : IsZip g z TI TO f
  ti : IsPair g TI (.ref i1) (.ref i2)
  to : IsPair g TO a b
/-- one turn of a zip of two sources: the next of both, in a new pair -/
theorem duo_item {R : Value → Shared → Prop} (D : ZipApart z TI TO i1 i2 l1 l2) (Z : ZipAt s.heap z TI TO i1 i2 .none a b) (h1 : S1 s.heap) (h2 : S2 s.heap) (k1 : Looks S1 i1 l1) (k1' : Looks S1' i1 l1) (k2 : Looks S2 i2 l2) (k2' : Looks S2' i2 l2)
    (F1 : ∀ A, Yields pr w A i1 S1 S1' x) (F2 : ∀ A, Yields pr w A i2 S2 S2' y)
    (q : ∀ g, ZipAt g z TI TO i1 i2 (rawInt s.heap.objs.size) x y → S1' g → S2' g → IsPair g s.heap.objs.size x y → g.objs.size = s.heap.objs.size + 1 → (∀ c o, c ≠ z → c ≠ TO → c ≠ i1 → c ≠ i2 → s.heap.get? c = some o → g.get? c = some o) → R (.ref s.heap.objs.size) { s with heap := g }) :
    wpAny (model pr w) A (Builtin.«zip.__next__» ⟨[.ref z], []⟩) (fun fin t => ∃ v, fin = .done (.ret v) ∧ R v t) E s := by
  refine (show wpAny _ _ (field (.ref z) 2 >>= _) _ _ _ from wpAny_bind (wpAny_field Z.zz rfl (x := .bool false) rfl (show wpAny _ _ (field (.ref z) 3 >>= _) _ _ _ from wpAny_bind (wpAny_field Z.zz rfl (x := .ref TI) rfl (wpAny_bind (wpAny_seqItems Z.ti rfl ?_))))))
  refine (show wpAny _ _ (Builtin.SmallTypes.ownedTupleIsFree (.ref z) >>= _) _ _ _ from wpAny_bind ?_)
  unfold Builtin.SmallTypes.ownedTupleIsFree
  refine wpAny_bind (wpAny_field Z.zz rfl (x := .none) rfl (wpAny_pure ?_))
  rw [if_pos rfl]
  refine wpAny_bind (wpAny_rule (wpAny_bind (wpAny_field Z.zz rfl (x := .ref TO) rfl (wpAny_bind (wpAny_setField_rec Z.zz (by simp) fun g1 z1 b1 => wpAny_bind ?_)))))
  have y1 : IsZip g1 z TI TO .ellipsis := z1
  simp only [List.forIn_nil, List.forIn_cons, List.zipIdx_nil, List.zipIdx_cons]
  refine wpAny_bind (wpAny_bind (wpAny_onRaise (show wpAny _ _ (Builtin.SmallTypes.nextOf (.ref i1) >>= _) _ _ _ from wpAny_bind (F1 _ _ _ _ (k1.but h1 b1 D.i1z D.l1z) fun g2 f2 b2 => wpAny_pure ?_))))
  have o2 : IsPair g2 TO a b := b2.extBut _ _ D.TOi1 (b1.extBut _ _ D.TOz Z.to)
  refine wpAny_bind (wpAny_seqItems o2 rfl (wpAny_bind (wpAny_updateSeq_pair o2 fun g3 w3 b3 => wpAny_bind (wpAny_letGo (wpAny_pure ?_)))))
  have o3 : IsPair g3 TO x b := w3
  have h2' : S2 g3 := k2.but (k2.but (k2.but h2 b1 D.i2z D.l2z) b2 D.i12.symm D.l2i1) b3 D.TOi2.symm D.l2TO
  refine wpAny_bind (wpAny_bind (wpAny_onRaise (show wpAny _ _ (Builtin.SmallTypes.nextOf (.ref i2) >>= _) _ _ _ from wpAny_bind (F2 _ _ _ _ h2' fun g4 f4 b4 => wpAny_pure ?_))))
  have o4 : IsPair g4 TO x b := b4.extBut _ _ D.TOi2 o3
  refine wpAny_bind (wpAny_seqItems o4 rfl (wpAny_bind (wpAny_updateSeq_pair o4 fun g5 w5 b5 => wpAny_bind (wpAny_letGo (wpAny_pure ?_)))))
  have o5 : IsPair g5 TO x y := w5
  refine wpAny_pure (wpAny_bind (wpAny_seqItems o5 rfl (wpAny_bind (wpAny_newTuple ?_))))
  have sz : g5.objs.size = s.heap.objs.size := by rw [b5.1, b4.1, b3.1, b2.1, b1.1]
  have y5 : IsZip g5 z TI TO .ellipsis := b5.extBut _ _ D.TOz.symm (b4.extBut _ _ D.i2z.symm (b3.extBut _ _ D.TOz.symm (b2.extBut _ _ D.i1z.symm y1)))
  have keep : ∀ c o, c ≠ z → c ≠ TO → c ≠ i1 → c ≠ i2 → s.heap.get? c = some o → g5.get? c = some o := fun c o n1 n2 n3 n4 e => b5.extBut _ _ n2 (b4.extBut _ _ n4 (b3.extBut _ _ n2 (b2.extBut _ _ n3 (b1.extBut _ _ n1 e))))
  have e1 : S1' g5 := k1'.but (k1'.but (k1'.but f2 b3 D.TOi1.symm D.l1TO) b4 D.i12 D.l1i2) b5 D.TOi1.symm D.l1TO
  have e2 : S2' g5 := k2'.but f4 b5 D.TOi2.symm D.l2TO
  have zl : z < g5.objs.size := Heap.lt_size y5
  refine (show wpAny _ _ (Builtin.SmallTypes.ownedTupleHandOut (.ref z) (.ref g5.objs.size) >>= _) _ _ _ from wpAny_bind ?_)
  unfold Builtin.SmallTypes.ownedTupleHandOut
  have y6 : IsZip (g5.push { cls := .type "tuple", data := .seq #[x, y] }) z TI TO .ellipsis := Heap.get?_push_of_some _ y5
  refine wpAny_bind (wpAny_setField_rec y6 (by simp) fun g7 z7 b7 => ?_)
  have y7 : IsZip g7 z TI TO (rawInt g5.objs.size) := z7
  refine wpAny_setField_rec y7 (by simp) fun g8 z8 b8 => wpAny_pure ⟨_, rfl, ?_⟩
  have up : ∀ c o, c ≠ z → g5.get? c = some o → g8.get? c = some o := fun c o n e => b8.extBut _ _ n (b7.extBut _ _ n (Heap.get?_push_of_some _ e))
  have y8 : IsZip g8 z TI TO (rawInt g5.objs.size) := z8
  have t8 : IsPair g8 g5.objs.size x y := b8.extBut _ _ (Nat.ne_of_gt zl) (b7.extBut _ _ (Nat.ne_of_gt zl) (Heap.get?_push_size _ rfl))
  have n8 : g8.objs.size = g5.objs.size + 1 := by rw [b8.1, b7.1, Heap.size_push]
  show R (.ref g5.objs.size) _
  rw [sz] at y8 t8 n8 ⊢
  have TIg : IsPair g8 TI (.ref i1) (.ref i2) := up _ _ D.TIz (keep _ _ D.TIz D.TITO D.TIi1 D.TIi2 Z.ti)
  exact q g8 ⟨y8, TIg, up _ _ D.TOz o5⟩ (k1' _ _ e1 (fun _ e => up _ _ D.i1z e) (fun _ e => up _ _ D.l1z e)) (k2' _ _ e2 (fun _ e => up _ _ D.i2z e) (fun _ e => up _ _ D.l2z e)) t8 n8 fun c o n1 n2 n3 n4 e => up c o n1 (keep c o n1 n2 n3 n4 e)
/-- a zip of two sources, one of which is at its end -/
theorem duo_end {R : Fin → Shared → Prop} (D : ZipApart z TI TO i1 i2 l1 l2) (Z : ZipAt s.heap z TI TO i1 i2 .none a b) (h1 : S1 s.heap) (h2 : S2 s.heap) (k1 : Looks S1 i1 l1) (k2 : Looks S2 i2 l2)
    (F : (∀ A, A.handled = none → Over pr w A i1 S1) ∨ ((∃ x, ∀ A, Yields pr w A i1 S1 S1' x) ∧ ∀ A, A.handled = none → Over pr w A i2 S2)) (hh : A.handled = none)
    (q : ∀ g e, (∀ c o, c ≠ z → c ≠ TO → c ≠ i1 → c ≠ i2 → s.heap.get? c = some o → g.get? c = some o) → (∃ o, g.get? e = some o ∧ o.cls = .type "StopIteration") → E (.ref e) { s with heap := g }) :
    wpAny (model pr w) A (Builtin.«zip.__next__» ⟨[.ref z], []⟩) R E s := by
  refine (show wpAny _ _ (field (.ref z) 2 >>= _) _ _ _ from wpAny_bind (wpAny_field Z.zz rfl (x := .bool false) rfl (show wpAny _ _ (field (.ref z) 3 >>= _) _ _ _ from wpAny_bind (wpAny_field Z.zz rfl (x := .ref TI) rfl (wpAny_bind (wpAny_seqItems Z.ti rfl ?_))))))
  refine (show wpAny _ _ (Builtin.SmallTypes.ownedTupleIsFree (.ref z) >>= _) _ _ _ from wpAny_bind ?_)
  unfold Builtin.SmallTypes.ownedTupleIsFree
  refine wpAny_bind (wpAny_field Z.zz rfl (x := .none) rfl (wpAny_pure ?_))
  rw [if_pos rfl]
  refine wpAny_bind (wpAny_rule (wpAny_bind (wpAny_field Z.zz rfl (x := .ref TO) rfl (wpAny_bind (wpAny_setField_rec Z.zz (by simp) fun g1 z1 b1 => wpAny_bind ?_)))))
  have y1 : IsZip g1 z TI TO .ellipsis := z1
  have stop : ∀ {g g' : Heap} {e : Addr}, IsZip g z TI TO .ellipsis → (∃ o, g.get? e = some o ∧ o.cls = .type "StopIteration") → Heap.SameBut z g g' → ∃ o, g'.get? e = some o ∧ o.cls = .type "StopIteration" := fun {g g' e} hz ⟨o, ho, hc⟩ hb => by
    refine ⟨o, hb.extBut _ _ (fun q => ?_) ho, hc⟩
    subst q
    rw [hz] at ho
    cases ho
    simp at hc
  simp only [List.forIn_nil, List.forIn_cons, List.zipIdx_nil, List.zipIdx_cons]
  rcases F with F | ⟨⟨x, F1⟩, F2⟩
  · refine wpAny_bind (wpAny_bind (wpAny_onRaise (show wpAny _ _ (Builtin.SmallTypes.nextOf (.ref i1) >>= _) _ _ _ from wpAny_bind (F _ hh _ _ _ (k1.but h1 b1 D.i1z D.l1z) fun g2 e b2 he => ?_))))
    have y2 : IsZip g2 z TI TO .ellipsis := b2 _ _ D.i1z.symm y1
    exact wpAny_setField_rec y2 (by simp) fun g3 _ b3 => q g3 e (fun c o n1 _ n3 _ u => b3.extBut _ _ n1 (b2 _ _ n3 (b1.extBut _ _ n1 u))) (stop y2 he b3)
  · refine wpAny_bind (wpAny_bind (wpAny_onRaise (show wpAny _ _ (Builtin.SmallTypes.nextOf (.ref i1) >>= _) _ _ _ from wpAny_bind (F1 _ _ _ _ (k1.but h1 b1 D.i1z D.l1z) fun g2 f2 b2 => wpAny_pure ?_))))
    have o2 : IsPair g2 TO a b := b2.extBut _ _ D.TOi1 (b1.extBut _ _ D.TOz Z.to)
    refine wpAny_bind (wpAny_seqItems o2 rfl (wpAny_bind (wpAny_updateSeq_pair o2 fun g3 w3 b3 => wpAny_bind (wpAny_letGo (wpAny_pure ?_)))))
    have h2' : S2 g3 := k2.but (k2.but (k2.but h2 b1 D.i2z D.l2z) b2 D.i12.symm D.l2i1) b3 D.TOi2.symm D.l2TO
    refine wpAny_bind (wpAny_bind (wpAny_onRaise (show wpAny _ _ (Builtin.SmallTypes.nextOf (.ref i2) >>= _) _ _ _ from wpAny_bind (F2 _ hh _ _ _ h2' fun g4 e b4 he => ?_))))
    have y4 : IsZip g4 z TI TO .ellipsis := b4 _ _ D.i2z.symm (b3.extBut _ _ D.TOz.symm (b2.extBut _ _ D.i1z.symm y1))
    exact wpAny_setField_rec y4 (by simp) fun g5 _ b5 => q g5 e (fun c o n1 n2 n3 n4 u => b5.extBut _ _ n1 (b4 _ _ n4 (b3.extBut _ _ n2 (b2.extBut _ _ n3 (b1.extBut _ _ n1 u))))) (stop y4 he b5)
end
end N

namespace N
open PySem PySem.Spec PyProof.Rows L2
open PySem.Sem (wp)
/-! ### zip(a, b), a a tuple, b a list -/
abbrev mz1 (g : Heap) (a : Addr) : Heap := g.push { cls := .type "tuple_iterator", data := .fields #[.ref a, .int 0 0] }
abbrev mz2 (g : Heap) (a b : Addr) : Heap := (mz1 g a).push { cls := .type "list_iterator", data := .fields #[.ref b, .int 0 0] }
abbrev mz3 (g : Heap) (a b : Addr) : Heap := (mz2 g a b).push { cls := .type "tuple", data := .seq #[.ref g.objs.size, .ref (mz1 g a).objs.size] }
abbrev mz4 (g : Heap) (a b : Addr) : Heap := (mz3 g a b).push { cls := .type "tuple", data := .seq #[.none, .none] }
abbrev mz5 (g : Heap) (a b : Addr) : Heap := (mz4 g a b).push { cls := .type "zip", data := .fields #[.none, .bool false, .bool false, .ref (mz2 g a b).objs.size, .ref (mz3 g a b).objs.size] }
theorem zipM_made (a b : Addr) (xs ys : Array Value) : Meets (Builtin.«zip.__new__» ⟨[.type "zip", .ref a, .ref b], []⟩)
    (fun _ R s => s.heap.IsTuple a xs ∧ s.heap.IsList b ys ∧ R (.ok (.ret (.ref (mz4 s.heap a b).objs.size))) { s with heap := mz5 s.heap a b }) :=
  .of_wp fun pr w A R s h => by
    obtain ⟨hp, g, d, tk, os⟩ := s
    obtain ⟨ha, hb, h⟩ := h
    have hsub := sub_zip
    have h1 : Heap.IsTuple (Shared.heap ⟨hp, g, d, tk, os⟩) a xs := ha
    have h2 : Heap.IsList (Shared.heap ⟨mz1 hp a, g, d, tk, os⟩) b ys := Heap.IsList.push hb _
    wp_walk using wpAny_pyIter_tuple h1, wpAny_pyIter_list h2
    exact ⟨_, rfl, h⟩
section
variable {pr : Program} {w : World} {A : Around} {E : Value → Shared → Prop} {s : Shared}
theorem call_zipM {a b : Addr} {xs ys : Array Value} {R : Value → Shared → Prop} (ha : s.heap.IsTuple a xs) (hb : s.heap.IsList b ys)
    (h : ∀ g n, n = s.heap.objs.size → ZipAt g (n + 4) (n + 2) (n + 3) n (n + 1) .none .none .none → SrcT n a xs 0 g → SrcL (n + 1) b ys 0 g → (∀ c o, s.heap.get? c = some o → g.get? c = some o) → R (.ref (n + 4)) { s with heap := g }) :
    wpAny (model pr w) A (call (.type "zip") [.ref a, .ref b]) R E s := by
  refine callType_new F.called_zip (by decide) (F.typeCall_zip_2 _ _) (F.newCall_zip_2 _ _) (fun ob => F.args_object_init_3 ob _ _) F.entry_zip_new (zipM_made a b xs ys) ⟨ha, hb, ?_⟩
  have n1 : (mz1 s.heap a).objs.size = s.heap.objs.size + 1 := Heap.size_push ..
  have n2 : (mz2 s.heap a b).objs.size = s.heap.objs.size + 2 := by rw [Heap.size_push, n1]
  have n3 : (mz3 s.heap a b).objs.size = s.heap.objs.size + 3 := by rw [Heap.size_push, n2]
  have n4 : (mz4 s.heap a b).objs.size = s.heap.objs.size + 4 := by rw [Heap.size_push, n3]
  have u0 : ∀ c o, s.heap.get? c = some o → (mz1 s.heap a).get? c = some o := fun c o e => Heap.get?_push_of_some _ e
  have u1 : ∀ c o, (mz1 s.heap a).get? c = some o → (mz2 s.heap a b).get? c = some o := fun c o e => Heap.get?_push_of_some _ e
  have u2 : ∀ c o, (mz2 s.heap a b).get? c = some o → (mz3 s.heap a b).get? c = some o := fun c o e => Heap.get?_push_of_some _ e
  have u3 : ∀ c o, (mz3 s.heap a b).get? c = some o → (mz4 s.heap a b).get? c = some o := fun c o e => Heap.get?_push_of_some _ e
  have u4 : ∀ c o, (mz4 s.heap a b).get? c = some o → (mz5 s.heap a b).get? c = some o := fun c o e => Heap.get?_push_of_some _ e
  have p1 : (mz1 s.heap a).get? s.heap.objs.size = some _ := Heap.get?_push_size _ rfl
  have p2 : (mz2 s.heap a b).get? (mz1 s.heap a).objs.size = some _ := Heap.get?_push_size _ rfl
  have p3 : (mz3 s.heap a b).get? (mz2 s.heap a b).objs.size = some _ := Heap.get?_push_size _ rfl
  have p4 : (mz4 s.heap a b).get? (mz3 s.heap a b).objs.size = some _ := Heap.get?_push_size _ rfl
  have p5 : (mz5 s.heap a b).get? (mz4 s.heap a b).objs.size = some _ := Heap.get?_push_size _ rfl
  have q1 := u4 _ _ (u3 _ _ (u2 _ _ (u1 _ _ p1)))
  have q2 := u4 _ _ (u3 _ _ (u2 _ _ p2))
  have q3 := u4 _ _ (u3 _ _ p3)
  have q4 := u4 _ _ p4
  have up : ∀ c o, s.heap.get? c = some o → (mz5 s.heap a b).get? c = some o := fun c o e => u4 _ _ (u3 _ _ (u2 _ _ (u1 _ _ (u0 _ _ e))))
  show _ ∧ _
  rw [n2, n3, n4] at p5
  rw [n1, n2] at q3
  rw [n3] at q4
  rw [n1] at q2
  rw [n4]
  obtain ⟨oa, e1, e2⟩ := ha
  exact ⟨⟨_, p5, rfl⟩, h _ _ rfl ⟨p5, q3, q4⟩ ⟨⟨_, q1, rfl, rfl⟩, ⟨oa, up _ _ e1, e2⟩⟩ ⟨⟨_, q2, rfl, rfl⟩, hb.at fun o e => up _ o e⟩ up⟩
end
/-- turns over a tuple and a list at once -/
def ItzM (K : PySem.W.Frag) (a b : Addr) : It :=
  ⟨fun i H => ∃ (xs ys : List V) (x y : V), SqT K H a xs ∧ SqL K H b ys ∧ xs[i]? = some x ∧ ys[i]? = some y,
    fun i H v H' => ∃ (T : Addr) (x y : V), v = .ref T ∧ H T = none ∧ H' = upd H T (.tup [x, y]) ∧ (∀ xs, SqT K H a xs → xs[i]? = some x) ∧ (∀ ys, SqL K H b ys → ys[i]? = some y),
    fun i H => ∃ (xs ys : List V), SqT K H a xs ∧ SqL K H b ys ∧ (xs.length ≤ i ∨ ys.length ≤ i)⟩
theorem five {c z TI TO i1 i2 : Addr} (h : c ∈ [z, TI, TO, i1, i2]) : c = z ∨ c = TI ∨ c = TO ∨ c = i1 ∨ c = i2 := by simpa using h
/-- the heap's side of a turn -/
def ZipSt (a b z TI TO i1 i2 : Addr) (k : Nat) (g : Heap) : Prop := (∃ x y, ZipAt g z TI TO i1 i2 .none x y) ∧ g.IsTupleIter i1 a k ∧ g.IsListIter i2 b k
theorem ZipSt.lt {a b z TI TO i1 i2 c : Addr} {k : Nat} {g : Heap} (h : ZipSt a b z TI TO i1 i2 k g) (m : c ∈ [z, TI, TO, i1, i2]) : c < g.objs.size := by
  obtain ⟨⟨x, y, Z⟩, ⟨o1, e1, _⟩, ⟨o2, e2, _⟩⟩ := h
  rcases five m with q | q | q | q | q <;> subst q
  · exact Heap.lt_size Z.zz
  · exact Heap.lt_size Z.ti
  · exact Heap.lt_size Z.to
  · exact Heap.lt_size e1
  · exact Heap.lt_size e2
theorem turn_zipM {P : Program} {w : World} {K : PySem.W.Frag} {elts : List Expr} {kk : Nat} {tpos : Pos} {a b z TI TO i1 i2 : Addr} (D : ZipApart z TI TO i1 i2 a b) :
    Turn P w K (.Tuple elts kk tpos) (ItzM K a b) [z, TI, TO, i1, i2] z (ZipSt a b z TI TO i1 i2) where
  mem := List.mem_cons_self
  obj := fun k g st c m => by
    obtain ⟨⟨x, y, Z⟩, ⟨o1, e1, _, d1⟩, ⟨o2, e2, _, d2⟩⟩ := st
    rcases five m with q | q | q | q | q <;> subst q
    · exact ⟨_, Z.zz, fun v q => nomatch q⟩
    · exact ⟨_, Z.ti, fun v q => nomatch q⟩
    · exact ⟨_, Z.to, fun v q => nomatch q⟩
    · exact ⟨o1, e1, fun v q => by rw [d1] at q; cases q⟩
    · exact ⟨o2, e2, fun v q => by rw [d2] at q; cases q⟩
  keep := fun k g g' st u => by
    obtain ⟨⟨x, y, Z⟩, h1, h2⟩ := st
    exact ⟨⟨x, y, u z (by simp) _ Z.zz, u TI (by simp) _ Z.ti, u TO (by simp) _ Z.to⟩, h1.at fun o q => u i1 (by simp) o q, h2.at fun o q => u i2 (by simp) o q⟩
  item := by
    intro X hP hw hK hc k pins s σ H E I hf st hg
    subst hP hw hK
    have lt := fun c m => ZipSt.lt (c := c) st m
    obtain ⟨⟨x0, y0, Z⟩, h1, h2⟩ := st
    obtain ⟨xs, ys, x, y, qx, qy, hx, hy⟩ := hg
    obtain ⟨its, rv, p, _⟩ := I.tuple qx
    obtain ⟨its2, rv2, p2, _⟩ := I.list qy
    obtain ⟨u, hu, ru⟩ := rv.get hx
    obtain ⟨u2, hu2, ru2⟩ := rv2.get hy
    have zl := lt z (by simp)
    have hT : s.TypeIs (.ref z) "zip" := ⟨_, Z.zz, rfl⟩
    unfold pyNext
    refine wpAny_bind (wpAny_attempt (wpAny_callSpecial?_slot (name := Str.ofString "__next__") hT F.slot_zip_next (wpAny_call_entry F.slot_zip_next hT F.entry_zip_next
      (duo_item (S1 := SrcT i1 a its.toArray k) (S2 := SrcL i2 b its2.toArray k) D Z ⟨h1, p⟩ ⟨h2, p2.isList⟩ looksT looksT looksL looksL (fun _ => yieldsT (x := u) (by simpa using hu) D.l1i1) (fun _ => yieldsL (x := u2) (by simpa using hu2) D.l2i2) fun g Z' f1 f2 pT gs kp => wpAny_pure ?_) (F.args_zip_next_1 _))))
    refine ⟨_, rfl, wpAny_letOwnedTupleGo_zip (s := { s with heap := g }) Z'.zz fun g' z' sb => ?_⟩
    have pT' : g'.get? s.heap.objs.size = some { cls := .type "tuple", data := .seq #[u, u2] } := (sb.2 _ (Nat.ne_of_gt zl)).trans pT
    have new : ObjOk X.prog X.w (upd H s.heap.objs.size (.tup [x, y])) g' s.heap.objs.size (.tup [x, y]) := ⟨by show 2 ≤ sizeLine; decide, [u, u2], .cons ru (.cons ru2 .nil), ⟨_, pT', rfl, _, rfl⟩⟩
    have up : ∀ c o, c ∉ [z, TI, TO, i1, i2] → s.heap.get? c = some o → g'.get? c = some o := fun c o n e =>
      (sb.2 c fun q => n (by simp [q])).trans (kp c o (fun q => n (by simp [q])) (fun q => n (by simp [q])) (fun q => n (by simp [q])) (fun q => n (by simp [q])) e)
    have I1 : Inv X pins σ (upd H s.heap.objs.size (.tup [x, y])) { s with heap := g' } := I.turnedNew (t' := s.toks) (ch := [z, TI, TO, i1, i2]) (fun c o n e => up c o n e) hf (Nat.le_refl _) new
    refine ⟨.ref s.heap.objs.size, _, I1, rfl, ⟨_, x, y, rfl, I.hok.fresh (Nat.le_refl _), rfl, fun l hl => by rw [I.tuple_inj hl qx]; exact hx, fun l hl => by rw [I.list_inj hl qy]; exact hy⟩, ⟨⟨u, u2, z', ?_, ?_⟩, ?_, ?_⟩, fun c m => ?_⟩
    · exact (sb.2 _ D.TIz).trans Z'.ti
    · exact (sb.2 _ D.TOz).trans Z'.to
    · exact f1.1.at fun o q => (sb.2 _ D.i1z).trans q
    · exact f2.1.at fun o q => (sb.2 _ D.i2z).trans q
    · rw [upd_ne (Nat.ne_of_lt (lt c m))]
      exact (hf c m).1
  done := by
    intro X hP hw hK hc k pins s σ H E I hf st hg
    subst hP hw hK
    obtain ⟨⟨x0, y0, Z⟩, h1, h2⟩ := st
    obtain ⟨xs, ys, qx, qy, hend⟩ := hg
    obtain ⟨its, rv, p, _⟩ := I.tuple qx
    obtain ⟨its2, rv2, p2, _⟩ := I.list qy
    have l1 := rv.length
    have l2 := rv2.length
    have hT : s.TypeIs (.ref z) "zip" := ⟨_, Z.zz, rfl⟩
    unfold pyNext
    refine wpAny_bind (wpAny_attempt (wpAny_callSpecial?_slot (name := Str.ofString "__next__") hT F.slot_zip_next (wpAny_call_entry F.slot_zip_next hT F.entry_zip_next
      (duo_end (S1 := SrcT i1 a its.toArray k) (S1' := SrcT i1 a its.toArray (k + 1)) (S2 := SrcL i2 b its2.toArray k) D Z ⟨h1, p⟩ ⟨h2, p2.isList⟩ looksT looksL ?_ (I.ok.hd hc) fun g e kp he => ?_) (F.args_zip_next_1 _))))
    · by_cases hk : xs.length ≤ k
      · exact .inl fun _ hh => overT hh (by simp; omega)
      · have hk2 : ys.length ≤ k := hend.resolve_left hk
        have hlt : k < its.length := by omega
        exact .inr ⟨⟨its[k], fun _ => yieldsT (by simp [hlt]) D.l1i1⟩, fun _ hh => overL hh (by simp; omega)⟩
    · obtain ⟨o, ho, hcl⟩ := he
      refine wpAny_bind (wpAny_isInstance (T := "StopIteration") (b := true) ⟨o, ho, hcl⟩ isSubtype_stop (wpAny_pure ⟨rfl, ?_⟩))
      exact I.turnedL (t' := s.toks) (ch := [z, TI, TO, i1, i2]) (fun c o n q => kp c o (fun q' => n (by simp [q'])) (fun q' => n (by simp [q'])) (fun q' => n (by simp [q'])) (fun q' => n (by simp [q'])) q) hf
  self := fun A k s Q E st h => by
    obtain ⟨⟨x, y, Z⟩, _⟩ := st
    exact wpAny_pyIter_zip Z.zz h
def iZipM (K : PySem.W.Frag) (ta : TA) : TI := fun σ H R => ta σ H fun vs H1 => ∃ (a b : Addr) (xs ys : List V), vs = [.ref a, .ref b] ∧ SqT K H1 a xs ∧ SqL K H1 b ys ∧ R (ItzM K a b) H1
theorem pi_zipM {X : Cx} {e e2 : Expr} {ta : TA} {p pos tpos : Pos} {elts : List Expr} {kk : Nat} (hg : Gl X "zip") (hm : X.mg "zip" = none) (ha : PA X [e, e2] ta)
    (hs : starEach [e, e2] X.env = (false, eval e X.env) :: starEach [e2] X.env := by rfl) (hpl : (backTo pos (starEach [e2] X.env)).any (·.1) = false := by rfl) :
    PI X (.Tuple elts kk tpos) (.Call (.Name "zip" p) [e, e2] [] pos) (iZipM X.K ta) := by
  refine ⟨fun pins s σ H R I h => ?_⟩
  refine Call_ (ld_blt I hg hm PyProof.Rows.boot_zip (PyProof.Rows.callWith_type1 (thn (ha.run pos pins s σ H _ I h) fun us s1 ⟨vs, H1, I1, r1, a, b, xs, ys, ex, qx, qy, q⟩ => ?_) hs hpl))
  subst ex
  obtain ⟨its, rv, p1, _⟩ := I1.tuple qx
  obtain ⟨its2, rv2, p2, _⟩ := I1.list qy
  have la : a < s1.heap.objs.size := by
    obtain ⟨o, ho, _⟩ := id p1
    exact Heap.lt_size ho
  cases r1 with
  | cons r rr =>
    cases rr with
    | cons r' rr =>
      cases rr
      cases r
      cases r'
      refine call_zipM (show s1.heap.IsTuple a its.toArray from p1) p2.isList fun g n en Z f1 f2 up => wpAny_pyIter_zip Z.zz ?_
      subst en
      refine ⟨_, [s1.heap.objs.size + 4, s1.heap.objs.size + 2, s1.heap.objs.size + 3, s1.heap.objs.size, s1.heap.objs.size + 1], _, _, H1, rfl, I1.kept (t' := s1.toks) up, turn_zipM (PySem.W.ktu_apart s1.heap.objs.size a b la p2.lt), ⟨⟨_, _, Z⟩, f1.1, f2.1⟩, fun c m => ?_, q⟩
      have hle : s1.heap.objs.size ≤ c := by rcases five m with e | e | e | e | e <;> (rw [e]; first | exact Nat.le_refl _ | exact Nat.le_add_right _ _)
      exact I1.fpOk hle (I1.hok.fresh hle)
/-- a loop over zip(a, b) of one length -/
theorem for_zipM {K : PySem.W.Frag} {a b : Addr} {xs ys : List V} {g : TG} {tb : TS} {D : Ends} {σ : L2.St} {H : Hp} (hl : xs.length = ys.length) (Pv : Nat → L2.St → Hp → Prop) (h0 : Pv 0 σ H) (hq : ∀ i σ H, Pv i σ H → SqT K H a xs ∧ SqL K H b ys)
    (hs : ∀ (i : Nat) (x y : V) (T : Addr) (σ : L2.St) (H : Hp), xs[i]? = some x → ys[i]? = some y → Pv i σ H → H T = none → g (.ref T) σ (upd H T (.tup [x, y])) fun σ2 H2 => tb { D with nx := Pv (i + 1), ct := Pv (i + 1), bk := D.nx } σ2 H2) (hd : ∀ σ H, Pv xs.length σ H → D.nx σ H) :
    ∃ W : Nat → Nat → L2.St → Hp → Prop, (∃ m, W 0 m σ H) ∧ ∀ i m σ H, W i m σ H →
      ((ItzM K a b).stop i H ∧ D.nx σ H) ∨ ((ItzM K a b).go i H ∧ ∃ N : L2.St → Hp → Prop, (∀ σ' H', N σ' H' → ∃ m', m' < m ∧ W (i + 1) m' σ' H') ∧ ∀ v H', (ItzM K a b).yld i H v H' → g v σ H' fun σ2 H2 => tb { D with nx := N, ct := N, bk := D.nx } σ2 H2) := by
  refine ⟨fun i m σ H => m + i = xs.length ∧ Pv i σ H, ⟨xs.length, rfl, h0⟩, fun i m σ H ⟨em, p⟩ => ?_⟩
  obtain ⟨qx, qy⟩ := hq i σ H p
  cases m with
  | zero =>
    have e : i = xs.length := by omega
    subst e
    exact .inl ⟨⟨xs, ys, qx, qy, .inl (Nat.le_refl _)⟩, hd σ H p⟩
  | succ m =>
    have hx : xs[i]? = some (xs[i]'(by omega)) := List.getElem?_eq_getElem (by omega)
    have hy : ys[i]? = some (ys[i]'(by omega)) := List.getElem?_eq_getElem (by omega)
    refine .inr ⟨⟨xs, ys, _, _, qx, qy, hx, hy⟩, Pv (i + 1), fun σ' H' p' => ⟨m, Nat.lt_succ_self _, by omega, p'⟩, fun v H' y => ?_⟩
    obtain ⟨T, x', y', rfl, hT, rfl, f1, f2⟩ := y
    exact hs i x' y' T σ H (f1 xs qx) (f2 ys qy) p hT
end N

namespace N
open PySem PySem.Spec PyProof.Rows L2
/-! ### signed_letters -/
/-- the letters of a kind at their places, each with its sign, in the program's order -/
def Kd.sgl (vr : Str → List Str) (s : Str) : Kd → List (Str × Str)
  | .L c => [(c, s)]
  | .C0 _ => []
  | .C1 n a => a.sgl vr (passS s ((vr n).getD 0 ""))
  | .C2 n a b => b.sgl vr (passS s ((vr n).getD 1 "")) ++ a.sgl vr (passS s ((vr n).getD 0 ""))
def subs (vr : Str → List Str) (s : Str) (k : Kd) : List (Kd × Str) := (k.args.zip (vr k.nm)).map fun q => (q.1, passS s q.2)
def sglAll (vr : Str → List Str) (ws : List (Kd × Str)) : List (Str × Str) := ws.reverse.flatMap fun p => p.1.sgl vr p.2
theorem sgl_C {vr : Str → List Str} {s : Str} : ∀ {k : Kd}, k.isC = true → (vr k.nm).length = k.args.length → k.sgl vr s = sglAll vr (subs vr s k)
  | .C0 n, _, _ => rfl
  | .C1 n a, _, h => by
    obtain ⟨v, e⟩ : ∃ v, vr n = [v] := by
      match hv : vr n, h with
      | [v], _ => exact ⟨v, rfl⟩
      | [], h => exact absurd h (by simp [Kd.args])
      | _ :: _ :: _, h => exact absurd h (by simp [Kd.args])
    show a.sgl vr (passS s ((vr n).getD 0 "")) = sglAll vr (([a].zip (vr n)).map fun q => (q.1, passS s q.2))
    rw [e]
    simp [sglAll]
  | .C2 n a b, _, h => by
    obtain ⟨v, u, e⟩ : ∃ v u, vr n = [v, u] := by
      match hv : vr n, h with
      | [v, u], _ => exact ⟨v, u, rfl⟩
      | [], h => exact absurd h (by simp [Kd.args])
      | [_], h => exact absurd h (by simp [Kd.args])
      | _ :: _ :: _ :: _, h => exact absurd h (by simp [Kd.args])
    show b.sgl vr (passS s ((vr n).getD 1 "")) ++ a.sgl vr (passS s ((vr n).getD 0 "")) = sglAll vr (([a, b].zip (vr n)).map fun q => (q.1, passS s q.2))
    rw [e]
    simp [sglAll]
theorem sglAll_snoc (vr : Str → List Str) (ws : List (Kd × Str)) (p : Kd × Str) : sglAll vr (ws ++ [p]) = p.1.sgl vr p.2 ++ sglAll vr ws := by
  unfold sglAll
  rw [List.reverse_append, List.reverse_singleton, List.singleton_append, List.flatMap_cons]
theorem sglAll_app (vr : Str → List Str) (ws us : List (Kd × Str)) : sglAll vr (ws ++ us) = sglAll vr us ++ sglAll vr ws := by
  unfold sglAll
  rw [List.reverse_append, List.flatMap_append]
/-- the variances of a class, by its name -/
def vrOf (cs : List Cls) (n : Str) : List Str := ((cs.find? fun c => c.nm == n).map fun c => c.ps.map Prod.snd).getD []
theorem vrOf_eq : ∀ {cs : List Cls} {c : Cls}, (cs.map Cls.nm).Nodup → c ∈ cs → vrOf cs c.nm = c.ps.map Prod.snd
  | d :: cs, c, nd, h => by
    rw [List.map_cons, List.nodup_cons] at nd
    unfold vrOf
    by_cases e : d.nm = c.nm
    · have : c = d := by
        rcases List.mem_cons.mp h with h | h
        · exact h
        · exact absurd (e ▸ List.mem_map_of_mem (f := Cls.nm) h) nd.1
      subst this
      rw [List.find?_cons_of_pos (by simp)]
      rfl
    · have h' : c ∈ cs := (List.mem_cons.mp h).resolve_left fun q => e (by rw [q])
      rw [List.find?_cons_of_neg (by simpa using e)]
      exact vrOf_eq nd.2 h'
theorem mem_arOf {cs : List Cls} {n : Str} {m : Nat} (h : (n, m) ∈ arOf cs) : ∃ c ∈ cs, c.nm = n ∧ c.ps.length = m := by
  obtain ⟨c, hc, e⟩ := List.mem_map.mp h
  cases e
  exact ⟨c, hc, rfl, rfl⟩
theorem paired_last {α β : Type} {F : α → β → Prop} : ∀ {l : List α} {r : List β}, Paired F l r → r ≠ [] → ∃ l' x r' y, l = l' ++ [x] ∧ r = r' ++ [y] ∧ Paired F l' r' ∧ F x y
  | _, _, .nil, h => absurd rfl h
  | [a], [b], .cons h .nil, _ => ⟨[], a, [], b, rfl, rfl, .nil, h⟩
  | a :: a2 :: l, b :: b2 :: r, .cons h t, _ => by
    obtain ⟨l', x, r', y, e1, e2, p, q⟩ := paired_last t (by simp)
    exact ⟨a :: l', x, b :: r', y, by rw [e1]; rfl, by rw [e2]; rfl, .cons h p, q⟩
/-- a place of the work list: a kind and its sign -/
def Wp (K : PySem.W.Frag) (H : Hp) (v : V) (p : Kd × Str) : Prop := ∃ a u, v = .ref a ∧ SqT K H a [u, .str p.2] ∧ Kp K H u p.1
theorem Wp.stay {K : PySem.W.Frag} {H H' : Hp} {v : V} {p : Kd × Str} (s : Stay K H H') (h : Wp K H v p) : Wp K H' v p := by
  obtain ⟨a, u, e, q, k⟩ := h
  exact ⟨a, u, e, s.tup _ _ q, Th.stay s k⟩
def sumN (ws : List (Kd × Str)) : Nat := (ws.map fun p => p.1.nds).sum
theorem sumN_snoc (ws : List (Kd × Str)) (p : Kd × Str) : sumN (ws ++ [p]) = sumN ws + p.1.nds := by simp [sumN]
theorem sumN_app (ws us : List (Kd × Str)) : sumN (ws ++ us) = sumN ws + sumN us := by simp [sumN]
theorem sumN_len (ws : List (Kd × Str)) : ws.length ≤ sumN ws := by
  induction ws with
  | nil => exact Nat.zero_le _
  | cons p ws ih =>
    have := Kd.nds_pos p.1
    simp only [sumN, List.map_cons, List.sum_cons, List.length_cons] at *
    omega
theorem sumN_subs {vr : Str → List Str} {s : Str} {k : Kd} (h : (vr k.nm).length = k.args.length) : sumN (subs vr s k) = (k.args.map Kd.nds).sum := by
  unfold sumN subs
  rw [List.map_map]
  congr 1
  have : ∀ (l : List Kd) (r : List Str), r.length = l.length → (l.zip r).map ((fun p : Kd × Str => p.1.nds) ∘ fun q => (q.1, passS s q.2)) = l.map Kd.nds := by
    intro l
    induction l with
    | nil => intro r _; simp
    | cons a l ih =>
      intro r hr
      cases r with
      | nil => simp at hr
      | cons b r => simp only [List.zip_cons_cons, List.map_cons]; rw [ih r (by simpa using hr)]; rfl
  exact this _ _ h
theorem passS_mem {s v : Str} (h : s ∈ sgz) : passS s v ∈ sgz := by
  unfold passS turnS
  split
  · exact h
  · split
    · split
      · decide
      · split <;> decide
    · decide
section
variable {P : Program} {w : World} {K : PySem.W.Frag} {mg : Str → Option Value} {base : Heap}
def spSgl (K : PySem.W.Frag) : Sp := fun vs H Q _ => ∃ (v : V) (k : Kd) (s : Str) (d : Addr) (cs : List Cls) (ls : List Str), vs = [v, .str s, .ref d] ∧ Kp K H v k ∧ k.nds ≤ 1000 ∧ s ∈ sgz ∧ DctAt FVr H d cs ∧ (cs.map Cls.nm).Nodup ∧ (∀ c ∈ cs, c.ok) ∧ k.fits (arOf cs) ls ∧
  ∀ H' l ws, Same H H' → H' l = some (.lst ws) → H l = none → Paired (Pp K H') ws (k.sgl (vrOf cs) s) → (k.sgl (vrOf cs) s).length ≤ 1000 → Q (.ref l) H'
theorem ok_sgl (G : Glo mg) (hzip : mg "zip" = none) (CP : Cal P w K mg base 1 "passed_on" ["sign", "variance"] spPass) (D : DefAt K mg "signed_letters" s_signed_letters ["kind", "sign", "variances"]) : Cal P w K mg base 2 "signed_letters" ["kind", "sign", "variances"] (spSgl K) := by
  refine D.cal sc_signed_letters (fun vs H Q E h => ?_) (fun f cdv A outer s H vs Q E hr h => ?_)
  · obtain ⟨v, k, s, d, cs, ls, rfl, _⟩ := h
    rfl
  obtain ⟨v, k, sg, d, cs, ls, rfl, hk, hn, hs, hd, nd, oks, hf, q⟩ := h
  refine ⟨_, pss_cons (ps_set (i := 3) sc_signed_letters.nd rfl (Or.inl rfl) (pe_lst pa_nil))
    (pss_cons (ps_set (i := 4) sc_signed_letters.nd rfl (Or.inl rfl) (pe_lst (pa_cons (pe_tup (pa_cons (pv 0) (pa_cons (pv 1) pa_nil))) pa_nil)))
    (pss_cons (ps_while (passes_of rfl) (pt_truth (pv 4) (by intro _; rfl))
      (pss_cons (ps_asg (pe_bm0 PySem.F.plainAttrs_list PySem.F.slot_list_pop PySem.F.type_list_pop mt_pop (pv 4)) (pg_tup (by rfl) (pgs_cons (pg_name (i := 5) sc_signed_letters.nd rfl (Or.inl rfl)) (pgs_cons (pg_name (i := 6) sc_signed_letters.nd rfl (Or.inl rfl)) pgs_nil))))
      (pss_one (ps_if (pt_val (pe_isi G.isinstance G.str b_str rfl rfl (pv 5)))
        (pss_one (ps_expr (pe_bm PySem.F.plainAttrs_list PySem.F.slot_list_append PySem.F.type_list_append mt_append (pv 3) (pa_cons (pe_tup (pa_cons (pv 5) (pa_cons (pv 6) pa_nil))) pa_nil))))
        (pss_one (ps_for (passes_of rfl) rfl (pi_zipM rfl hzip (pa_cons (pe_slice sl_tup (pv 5) (po_some pe_int) po_none) (pa_cons (pe_dget (hug hr) (pv 2) (pe_ix ix_tup (pv 5) pe_int (fun _ _ => rfl)) (fun _ _ => rfl)) pa_nil))) (pg_tup (by rfl) (pgs_cons (pg_name (i := 7) sc_signed_letters.nd rfl (Or.inl rfl)) (pgs_cons (pg_name (i := 8) sc_signed_letters.nd rfl (Or.inl rfl)) pgs_nil)))
          (pss_one (ps_if (pt_cmpR op_notN (pv 8) pe_non (nomark _)) (pss_one (ps_expr (pe_bm PySem.F.plainAttrs_list PySem.F.slot_list_append PySem.F.type_list_append mt_append (pv 4) (pa_cons (pe_tup (pa_cons (pv 7) (pa_cons (pc CP hr rfl (pa_cons (pv 6) (pa_cons (pv 8) pa_nil))) pa_nil))) pa_nil)))) pss_nil))))))))
    (pss_one (ps_ret (pv 3))))), ?_⟩
  refine ⟨Nat.zero_le _, fun pl hpl => ?_⟩
  have s1 := same_new hpl (.lst [])
  refine ⟨v, rfl, _, rfl, by show 2 ≤ sizeLine; decide, fun t0 ht0 => ?_⟩
  have s2 := s1.trans (same_new ht0 (.tup [v, .str sg]))
  refine ⟨by show 1 ≤ sizeLine; decide, fun r hr0 => ?_⟩
  have s3 := s2.trans (same_new hr0 (.lst [.ref t0]))
  have hrH : H r = none := s2.free hr0
  have npr : pl ≠ r := ne_of_none ((same_new ht0 (.tup [v, .str sg])) _ _ upd_same) hr0
  refine ⟨fun m σ H' => ∃ xs ws out outv y5 y6 y7 y8, m = sumN ws ∧ σ = [some v, some (.str sg), some (.ref d), some (.ref pl), some (.ref r), y5, y6, y7, y8] ∧ Same H H' ∧ H' r = some (.lst xs) ∧ Paired (Wp K H') xs ws ∧ H' pl = some (.lst outv) ∧ Paired (Pp K H') outv out ∧
      k.sgl (vrOf cs) sg = out ++ sglAll (vrOf cs) ws ∧ out.length + sumN ws ≤ 1000 ∧ ∀ p ∈ ws, p.2 ∈ sgz ∧ p.1.fits (arOf cs) ls,
    ⟨_, [.ref t0], [(k, sg)], [], [], _, _, _, _, rfl, rfl, s3, upd_same, .cons ⟨t0, v, rfl, ?_, hk.stay (stay_same s3)⟩ .nil, ?_, .nil, ?_, ?_, ?_⟩, fun m σ H' hW => ?_⟩
  · exact (stay_new hr0 _).tup _ _ (.inl (.inl upd_same))
  · rw [upd_ne npr]
    exact (same_new ht0 _) _ _ upd_same
  · rw [List.nil_append, show [(k, sg)] = [] ++ [(k, sg)] from rfl, sglAll_snoc]
    simp [sglAll]
  · simp [sumN]
    exact hn
  · intro p hp
    rw [List.mem_singleton.mp hp]
    exact ⟨hs, hf⟩
  obtain ⟨xs, ws, out, outv, y5, y6, y7, y8, rfl, rfl, sm, hx, hA, ho, hO, he, hm, hfs⟩ := hW
  refine ⟨_, rfl, _, .inl ⟨xs, SqL.of hx, rfl⟩, ?_⟩
  by_cases hne : ws = []
  · subst hne
    cases hA
    refine iteF ⟨_, rfl, q H' pl outv sm ho hpl ?_ ?_⟩
    · rw [he, show sglAll (vrOf cs) [] = [] from rfl, List.append_nil]
      exact hO
    · rw [he, show sglAll (vrOf cs) [] = [] from rfl, List.append_nil]
      omega
  obtain ⟨xs', u, ws', p, e1, e2, hA', hu⟩ := paired_last hA hne
  subst e1 e2
  obtain ⟨k', sg'⟩ := p
  have ek : (!(xs' ++ [u]).isEmpty) = true := by cases xs' <;> rfl
  refine iteE ek ?_
  rw [sumN_snoc] at hm
  rw [sglAll_snoc] at he
  dsimp only at hm he
  have hl2 : xs'.length = ws'.length := Paired.length hA'
  have hl3 := sumN_len ws'
  obtain ⟨hsg, kf⟩ := hfs _ (List.mem_append_right _ (List.mem_singleton.mpr rfl))
  dsimp only at hsg kf
  have kfs : ∀ p ∈ ws', p.2 ∈ sgz ∧ p.1.fits (arOf cs) ls := fun k h => hfs k (List.mem_append_left _ h)
  refine ⟨fun σ2 H2 => ∃ xs ws out outv y5 y6 y7 y8, sumN ws < sumN (ws' ++ [(k', sg')]) ∧ σ2 = [some v, some (.str sg), some (.ref d), some (.ref pl), some (.ref r), y5, y6, y7, y8] ∧ Same H H2 ∧ H2 r = some (.lst xs) ∧ Paired (Wp K H2) xs ws ∧ H2 pl = some (.lst outv) ∧ Paired (Pp K H2) outv out ∧
      k.sgl (vrOf cs) sg = out ++ sglAll (vrOf cs) ws ∧ out.length + sumN ws ≤ 1000 ∧ ∀ p ∈ ws, p.2 ∈ sgz ∧ p.1.fits (arOf cs) ls,
    fun σ2 H2 ⟨xs, ws, out, outv, y5, y6, y7, y8, a, b⟩ => ⟨_, a, xs, ws, out, outv, y5, y6, y7, y8, rfl, b⟩, ?_⟩
  have hlast : (xs' ++ [u])[(xs' ++ [u]).length - 1]? = some u := by
    rw [List.length_append, List.length_singleton, Nat.add_sub_cancel, List.getElem?_append_right (Nat.le_refl _), Nat.sub_self] <;> rfl
  obtain ⟨au, vu, rfl, qu, ku⟩ := hu
  have st : Stay K H' (upd H' r (.lst xs')) := stay_lst hx
  have sm1 : Same H (upd H' r (.lst xs')) := same_mut sm hrH
  have ho1 : (upd H' r (.lst xs')) pl = some (.lst outv) := by rw [upd_ne npr]; exact ho
  have hA1 : Paired (Wp K (upd H' r (.lst xs'))) xs' ws' := Paired.mapP hA' fun _ _ z => z.stay st
  have hO1 : Paired (Pp K (upd H' r (.lst xs'))) outv out := Paired.mapP hO fun _ _ z => z.stay st
  have ku1 : Kp K (upd H' r (.lst xs')) vu k' := Th.stay st ku
  have hol : outv.length = out.length := Paired.length hO
  refine ⟨_, rfl, .inl ⟨rfl, _, SqL.of hx⟩, r, _, .ref au, rfl, rfl, hx, hlast, ?_⟩
  rw [List.dropLast_concat]
  refine ⟨au, _, rfl, st.tup _ _ qu, rfl, vu, [.str sg'], rfl, .str sg', [], rfl, rfl, ?_⟩
  have hpos := Kd.nds_pos k'
  cases hc : k'.isC with
  | false =>
    obtain ⟨rfl, hnl⟩ := kp_L ku1 hc
    have ekL : k' = .L k'.nm := by cases k' <;> first | rfl | cases hc
    refine ⟨_, rfl, isi_q (b := true) (.base (.str _)) (kit_ty (by decide +kernel)) ⟨_, rfl, iteE rfl ?_⟩⟩
    refine ⟨_, rfl, .inl ⟨rfl, _, SqL.of ho1⟩, _, rfl, _, rfl, by show 2 ≤ sizeLine; decide, fun t1 ht1 => ?_⟩
    have s5 := same_new ht1 (.tup [.str k'.nm, .str sg'])
    have ho2 := s5 _ _ ho1
    have st6 : Stay K (upd (upd H' r (.lst xs')) t1 (.tup [.str k'.nm, .str sg'])) (upd (upd (upd H' r (.lst xs')) t1 (.tup [.str k'.nm, .str sg'])) pl (.lst (outv ++ [.ref t1]))) := stay_lst ho2
    have st7 := (stay_same (K := K) s5).trans st6
    refine ⟨pl, outv, _, rfl, rfl, ho2, Nat.lt_of_le_of_lt (show _ ≤ 100000 by omega) (by decide), ?_⟩
    refine ⟨xs', ws', out ++ [(k'.nm, sg')], outv ++ [.ref t1], _, _, _, _, ?_, rfl, same_mut (sm1.trans s5) hpl, ?_, Paired.mapP hA1 fun _ _ z => z.stay st7, upd_same, paired_snoc2 (Paired.mapP hO1 fun _ _ z => z.stay st7) ⟨t1, rfl, st6.tup _ _ (.inl (.inl upd_same))⟩, ?_, ?_, kfs⟩
    · rw [sumN_snoc]
      dsimp only
      omega
    · rw [upd_ne npr.symm]
      exact s5 _ _ upd_same
    · rw [he, List.append_assoc]
      congr 2
      rw [ekL]
      rfl
    · rw [List.length_append, List.length_singleton]
      omega
  | true =>
    obtain ⟨a, zs, rfl, hq, hnl, hz⟩ := kp_C ku1 hc
    obtain ⟨f1, f2⟩ := fits_C hc kf
    obtain ⟨c0, hc0, en0, el0⟩ := mem_arOf f1
    obtain ⟨kvs, g1, g2, g3⟩ := hd
    obtain ⟨c, hcm, vc, ecn, hv, l0, rfl, hl0⟩ := dct_val (n := k'.nm) g2 g3 (by rw [← en0]; exact List.mem_map_of_mem (f := Cls.nm) hc0)
    have evr : vrOf cs k'.nm = c.ps.map Prod.snd := by rw [← ecn]; exact vrOf_eq nd hcm
    have evl : (vrOf cs k'.nm).length = k'.args.length := by rw [← en0, vrOf_eq nd hc0, List.length_map, el0]
    have hcl : (c.ps.map Prod.snd).length = k'.args.length := by rw [← evr]; exact evl
    have hzl : zs.length = k'.args.length := Kps.length hz
    have hna := nds_args hc
    have hal := sum_ge_len k'.args
    have lr0 : l0 ≠ r := fun q => by rw [q, hrH] at hl0; cases hl0
    refine ⟨_, rfl, isi_q (b := false) (SqT.ty hq) (kit_ty (by decide +kernel)) ⟨_, rfl, iteN rfl ?_⟩⟩
    refine ⟨_, rfl, 1, rfl, a, _, rfl, hq, cut_tail_ne _ (by simp), fun p hp => ?_⟩
    rw [cut_tail]
    have s5 := same_new hp (.tup zs)
    have sm5 := sm1.trans s5
    have st5 : Stay K (upd H' r (.lst xs')) (upd (upd H' r (.lst xs')) p (.tup zs)) := stay_same s5
    have npr2 : r ≠ p := ne_of_none upd_same hp
    have hz5 := ThAll.stay st5 hz
    refine ⟨_, rfl, _, rfl, a, _, 0, .str k'.nm, rfl, rfl, st5.tup _ _ hq, atI_nat (j := 0) rfl, d, .ref l0, rfl, .inl ⟨kvs, _, g1.imp (sm5 _ _) (fun ⟨o, h⟩ => ⟨o, sm5 _ _ h⟩), rfl, hv.symm⟩, ?_⟩
    refine ⟨p, l0, zs, (c.ps.map Prod.snd).map V.str, rfl, .inl (.inl upd_same), SqL.of (sm5 _ _ hl0), ?_⟩
    refine for_zipM (xs := zs) (ys := (c.ps.map Prod.snd).map V.str) (by rw [List.length_map, hzl, hcl]) (fun i σ2 H2 => ∃ y7 y8 xs2, σ2 = [some v, some (.str sg), some (.ref d), some (.ref pl), some (.ref r), some (.ref a), some (.str sg'), y7, y8] ∧ Same H H2 ∧ Stay K (upd (upd H' r (.lst xs')) p (.tup zs)) H2 ∧ H2 r = some (.lst (xs' ++ xs2)) ∧ Paired (Wp K H2) xs2 ((subs (vrOf cs) sg' k').take i) ∧ H2 pl = some (.lst outv))
      ⟨_, _, [], rfl, sm5, Stay.refl _, by rw [List.append_nil]; exact s5 _ _ upd_same, .nil, s5 _ _ ho1⟩ (fun i σ2 H2 ⟨_, _, _, _, sm2, st2, _⟩ => ⟨st2.tup _ _ (.inl (.inl upd_same)), SqL.of (sm2 _ _ hl0)⟩) (fun i x y T σ2 H2 hx hy ⟨y7, y8, xs2, eσ, sm2, st2, hr2, hw2, ho2⟩ hT => ?_) (fun σ2 H2 ⟨y7, y8, xs2, eσ, sm2, st2, hr2, hw2, ho2⟩ => ?_)
    · subst eσ
      obtain ⟨kk, hk1, hk2⟩ := Kps.at hz5 hx
      obtain ⟨vv, hv1, rfl⟩ : ∃ vv, (c.ps.map Prod.snd)[i]? = some vv ∧ y = .str vv := by
        rw [List.getElem?_map] at hy
        cases hq : (c.ps.map Prod.snd)[i]? with
        | none => rw [hq] at hy; cases hy
        | some vv => rw [hq] at hy; exact ⟨vv, rfl, (Option.some.inj hy).symm⟩
      have hvz : vv ∈ varz := by
        obtain ⟨pp, hpp, rfl⟩ := List.mem_map.mp (List.mem_of_getElem? hv1)
        exact ((oks c hcm).pl pp hpp).2
      have sT := same_new hT (.tup [x, .str vv])
      have smT := sm2.trans sT
      refine ⟨T, _, rfl, .inl (.inl upd_same), rfl, x, [.str vv], rfl, .str vv, [], rfl, rfl, ?_⟩
      refine ⟨_, rfl, rfl, _, rfl, iteE rfl ?_⟩
      have hr3 := sT _ _ hr2
      refine ⟨_, rfl, .inl ⟨rfl, _, SqL.of hr3⟩, _, rfl, _, rfl, _, rfl, sg', vv, rfl, hsg, hvz, by show 2 ≤ sizeLine; decide, fun t2 ht2 => ?_⟩
      have s6 := same_new ht2 (.tup [x, .str (passS sg' vv)])
      have hr4 := s6 _ _ hr3
      have st7 := ((stay_same (K := K) sT).trans (stay_same s6)).trans (stay_lst (ys := xs' ++ xs2 ++ [.ref t2]) hr4)
      have hw2l : xs2.length ≤ k'.args.length := by
        rw [Paired.length hw2, List.length_take]
        unfold subs
        rw [List.length_map, List.length_zip]
        omega
      refine ⟨r, _, _, rfl, rfl, hr4, Nat.lt_of_le_of_lt (show _ ≤ 100000 by rw [List.length_append]; omega) (by decide), ?_⟩
      refine ⟨_, _, xs2 ++ [.ref t2], rfl, same_mut (smT.trans s6) hrH, st2.trans st7, by rw [upd_same, List.append_assoc], ?_, by rw [upd_ne npr]; exact s6 _ _ (sT _ _ ho2)⟩
      have esub : (subs (vrOf cs) sg' k')[i]? = some (kk, passS sg' vv) := by
        unfold subs
        rw [List.getElem?_map, evr, show (k'.args.zip (c.ps.map Prod.snd))[i]? = some (kk, vv) from List.getElem?_zip_eq_some.mpr ⟨hk1, hv1⟩]
        rfl
      rw [take_one' esub]
      refine paired_snoc2 (Paired.mapP hw2 fun _ _ z => z.stay st7) ⟨t2, x, rfl, (stay_lst hr4).tup _ _ (.inl (.inl upd_same)), Th.stay (st2.trans st7) hk2⟩
    · subst eσ
      have esl : (subs (vrOf cs) sg' k').length = zs.length := by
        unfold subs
        rw [List.length_map, List.length_zip, evl, hzl, Nat.min_self]
      rw [← esl, List.take_length] at hw2
      have st8 := st5.trans st2
      refine ⟨xs' ++ xs2, ws' ++ subs (vrOf cs) sg' k', out, outv, _, _, _, _, ?_, rfl, sm2, hr2, pairs_app (Paired.mapP hA1 fun _ _ z => z.stay st8) hw2, ho2, Paired.mapP hO1 fun _ _ z => z.stay st8, ?_, ?_, ?_⟩
      · rw [sumN_snoc, sumN_app, sumN_subs evl]
        dsimp only
        omega
      · rw [he, sgl_C hc evl, sglAll_app]
      · rw [sumN_app, sumN_subs evl]
        omega
      · intro p hp
        rcases List.mem_append.mp hp with h | h
        · exact kfs p h
        · unfold subs at h
          obtain ⟨qq, hqq, rfl⟩ := List.mem_map.mp h
          exact ⟨passS_mem hsg, f2 _ (List.of_mem_zip hqq).1⟩
end
end N

namespace N
open PySem PySem.Spec PyProof.Rows L2
theorem sgl_len (vr : Str → List Str) : ∀ (k : Kd) (s : Str), (k.sgl vr s).length ≤ k.nds
  | .L c, s => by simp [Kd.sgl, Kd.nds]
  | .C0 n, s => by simp [Kd.sgl, Kd.nds]
  | .C1 n a, s => by
    have := sgl_len vr a (passS s ((vr n).getD 0 ""))
    simp only [Kd.sgl, Kd.nds]
    omega
  | .C2 n a b, s => by
    have := sgl_len vr a (passS s ((vr n).getD 0 ""))
    have := sgl_len vr b (passS s ((vr n).getD 1 ""))
    simp only [Kd.sgl, Kd.nds, List.length_append]
    omega
theorem sgl_sgz (vr : Str → List Str) : ∀ (k : Kd) (s : Str), s ∈ sgz → ∀ q ∈ k.sgl vr s, q.2 ∈ sgz
  | .L c, s, h, q, hq => by
    simp only [Kd.sgl, List.mem_singleton] at hq
    rw [hq]
    exact h
  | .C0 n, s, h, q, hq => by simp [Kd.sgl] at hq
  | .C1 n a, s, h, q, hq => sgl_sgz vr a _ (passS_mem h) q hq
  | .C2 n a b, s, h, q, hq => by
    simp only [Kd.sgl, List.mem_append] at hq
    rcases hq with z | z
    · exact sgl_sgz vr b _ (passS_mem h) q z
    · exact sgl_sgz vr a _ (passS_mem h) q z
theorem nds_size : ∀ k : Kd, k.nds ≤ 2 * k.size + 1
  | .L c => by simp [Kd.nds, Kd.size]
  | .C0 n => by simp [Kd.nds, Kd.size]
  | .C1 n a => by
    have := nds_size a
    simp only [Kd.nds, Kd.size]
    omega
  | .C2 n a b => by
    have := nds_size a
    have := nds_size b
    simp only [Kd.nds, Kd.size]
    omega
/-- the places of a class' parents, with their signs -/
def Cls.plz (vr : Str → List Str) (c : Cls) : List (Str × Str) := c.ks.flatMap fun k => k.sgl vr "+"
structure TurnOk (cs : List Cls) : Prop where
  t : ∀ c ∈ cs, ∀ p ∈ c.ps, ∀ q ∈ c.plz (vrOf cs), q.1 = p.1 → barB q.2 p.2 = false
/-! a comprehension over a tuple, then over lists -/
theorem lc2_tup {K : PySem.W.Frag} {a : Addr} {xs : List V} {g g1 : TG} {tt tt1 : TT} {te : TE} {wi1 : TI} {vs vs1 : List Nat} {σ : L2.St} {H1 : Hp} {D : Addr} {Qd : Hp → Prop} (Pv : Nat → Hp → Prop) (h0 : Pv 0 (upd H1 D (.lst []))) (hl : ∀ i H, Pv i H → SqT K H a xs)
    (hs : ∀ i x H, xs[i]? = some x → Pv i H → g x (wipe σ vs) H fun σ2 H2 => wipe σ2 vs = wipe σ vs ∧ tt σ2 H2 fun b H3 =>
      if b = true then wi1 σ2 H3 fun J1 H4 => ∃ W1 : Nat → Nat → Hp → Prop, (∃ m, W1 0 m H4) ∧ ∀ j k H, W1 j k H →
        (J1.stop j H ∧ Pv (i + 1) H) ∨ (J1.go j H ∧ ∃ Nx1 : Hp → Prop, (∀ H', Nx1 H' → ∃ k', k' < k ∧ W1 (j + 1) k' H') ∧ ∀ x H', J1.yld j H x H' → g1 x (wipe σ2 vs1) H' fun σ3 H5 => wipe σ3 vs1 = wipe σ2 vs1 ∧ tt1 σ3 H5 fun b H6 =>
          if b = true then te σ3 H6 fun y H7 => ∃ acc, H7 D = some (.lst acc) ∧ acc.length < sizeLine ∧ Nx1 (upd H7 D (.lst (acc ++ [y]))) else Nx1 H6)
      else Pv (i + 1) H3) (hd : ∀ H, Pv xs.length H → Qd H) :
    ∃ W : Nat → Nat → Hp → Prop, (∃ m, W 0 m (upd H1 D (.lst []))) ∧ ∀ i m H, W i m H →
      ((Itt K a).stop i H ∧ Qd H) ∨ ((Itt K a).go i H ∧ ∃ Nx : Hp → Prop, (∀ H', Nx H' → ∃ m', m' < m ∧ W (i + 1) m' H') ∧ ∀ x H', (Itt K a).yld i H x H' → g x (wipe σ vs) H' fun σ2 H2 => wipe σ2 vs = wipe σ vs ∧ tt σ2 H2 fun b H3 =>
        if b = true then wi1 σ2 H3 fun J1 H4 => ∃ W1 : Nat → Nat → Hp → Prop, (∃ m, W1 0 m H4) ∧ ∀ j k H, W1 j k H →
          (J1.stop j H ∧ Nx H) ∨ (J1.go j H ∧ ∃ Nx1 : Hp → Prop, (∀ H', Nx1 H' → ∃ k', k' < k ∧ W1 (j + 1) k' H') ∧ ∀ x H', J1.yld j H x H' → g1 x (wipe σ2 vs1) H' fun σ3 H5 => wipe σ3 vs1 = wipe σ2 vs1 ∧ tt1 σ3 H5 fun b H6 =>
            if b = true then te σ3 H6 fun y H7 => ∃ acc, H7 D = some (.lst acc) ∧ acc.length < sizeLine ∧ Nx1 (upd H7 D (.lst (acc ++ [y]))) else Nx1 H6)
        else Nx H3) := by
  refine ⟨fun i m H => m + i = xs.length ∧ Pv i H, ⟨xs.length, rfl, h0⟩, fun i m H ⟨em, p⟩ => ?_⟩
  have q := hl i H p
  cases m with
  | zero =>
    have e : i = xs.length := by omega
    subst e
    exact .inl ⟨⟨xs, q, Nat.le_refl _⟩, hd H p⟩
  | succ m =>
    have hx : xs[i]? = some (xs[i]'(by omega)) := List.getElem?_eq_getElem (by omega)
    refine .inr ⟨⟨xs, _, q, hx⟩, Pv (i + 1), fun H' p' => ⟨m, Nat.lt_succ_self _, by omega, p'⟩, fun x H' y => ?_⟩
    obtain ⟨e, y⟩ := y
    subst e
    exact hs i x _ (y xs q) p
theorem lc2_in {K : PySem.W.Frag} {l : Addr} {ys : List V} {g1 : TG} {tt1 : TT} {te : TE} {vs1 : List Nat} {σ2 : L2.St} {H4 : Hp} {D : Addr} {Nx : Hp → Prop} (Pv : Nat → Hp → Prop) (h0 : Pv 0 H4) (hl : ∀ i H, Pv i H → SqL K H l ys)
    (hs : ∀ j x H, ys[j]? = some x → Pv j H → g1 x (wipe σ2 vs1) H fun σ3 H5 => wipe σ3 vs1 = wipe σ2 vs1 ∧ tt1 σ3 H5 fun b H6 =>
        if b = true then te σ3 H6 fun y H7 => ∃ acc, H7 D = some (.lst acc) ∧ acc.length < sizeLine ∧ Pv (j + 1) (upd H7 D (.lst (acc ++ [y]))) else Pv (j + 1) H6) (hd : ∀ H, Pv ys.length H → Nx H) :
    ∃ W1 : Nat → Nat → Hp → Prop, (∃ m, W1 0 m H4) ∧ ∀ j k H, W1 j k H →
      ((Itl K l).stop j H ∧ Nx H) ∨ ((Itl K l).go j H ∧ ∃ Nx1 : Hp → Prop, (∀ H', Nx1 H' → ∃ k', k' < k ∧ W1 (j + 1) k' H') ∧ ∀ x H', (Itl K l).yld j H x H' → g1 x (wipe σ2 vs1) H' fun σ3 H5 => wipe σ3 vs1 = wipe σ2 vs1 ∧ tt1 σ3 H5 fun b H6 =>
        if b = true then te σ3 H6 fun y H7 => ∃ acc, H7 D = some (.lst acc) ∧ acc.length < sizeLine ∧ Nx1 (upd H7 D (.lst (acc ++ [y]))) else Nx1 H6) := by
  refine ⟨fun i m H => m + i = ys.length ∧ Pv i H, ⟨ys.length, rfl, h0⟩, fun i m H ⟨em, p⟩ => ?_⟩
  have q := hl i H p
  cases m with
  | zero =>
    have e : i = ys.length := by omega
    subst e
    exact .inl ⟨⟨ys, q, Nat.le_refl _⟩, hd H p⟩
  | succ m =>
    have hx : ys[i]? = some (ys[i]'(by omega)) := List.getElem?_eq_getElem (by omega)
    refine .inr ⟨⟨ys, _, q, hx⟩, Pv (i + 1), fun H' p' => ⟨m, Nat.lt_succ_self _, by omega, p'⟩, fun x H' y => ?_⟩
    obtain ⟨e, y⟩ := y
    subst e
    exact hs i x _ (y ys q) p
section
variable {P : Program} {w : World} {K : PySem.W.Frag} {mg : Str → Option Value} {base : Heap}
/-- check_parents, of right classes -/
def spPars2 (K : PySem.W.Frag) : Sp := fun vs H Q _ => ∃ (a : Addr) (cs : List Cls), vs = [.ref a] ∧ CsAt K H a cs ∧ FormsOk cs ∧ FitOk cs ∧ TurnOk cs ∧ ∀ H', Same H H' → Q .non H'
theorem ok_parents (G : Glo mg) (hPL : ∃ t, mg "PLUS" = some (.str "+" t)) (CV : Cal P w K mg base 1 "variances_of" ["classes"] (spDct K FVr)) (CS : Cal P w K mg base 2 "signed_letters" ["kind", "sign", "variances"] (spSgl K)) (CW : Cal P w K mg base 2 "wrong_letters" ["parameters", "places"] (spWrong K))
    (D : DefAt K mg "check_parents" s_check_parents ["classes"]) : Cal P w K mg base 3 "check_parents" ["classes"] (spPars2 K) := by
  obtain ⟨tp, hpl⟩ := hPL
  refine D.cal sc_check_parents (fun vs H Q E h => ?_) (fun f cdv A outer s H vs Q E hr h => ?_)
  · obtain ⟨v, p, rfl, _⟩ := h
    rfl
  obtain ⟨a, cs, rfl, ⟨xs, hq, hp⟩, F, T, U, q⟩ := h
  have n5 := F.n5
  refine ⟨_, pss_cons (ps_set (i := 1) sc_check_parents.nd rfl (by first | exact Or.inl rfl | exact Or.inr rfl) (pc CV (hr.mono (by decide)) rfl (pa_cons (pv 0) pa_nil)))
    (pss_one (ps_for (passes_of rfl) rfl (pi_tup (pv 0)) (pg_tup (by rfl) (pgs_cons (pg_name (i := 2) sc_check_parents.nd rfl (by first | exact Or.inl rfl | exact Or.inr rfl)) (pgs_cons (pg_name (i := 3) sc_check_parents.nd rfl (by first | exact Or.inl rfl | exact Or.inr rfl)) (pgs_cons (pg_name (i := 4) sc_check_parents.nd rfl (by first | exact Or.inl rfl | exact Or.inr rfl)) (pgs_cons (pg_name (i := 5) sc_check_parents.nd rfl (by first | exact Or.inl rfl | exact Or.inr rfl)) pgs_nil)))))
      (pss_cons (ps_setLc2 (i := 6) (own := [("parent", 7), ("place", 8)]) (vs1 := [8]) (g := gName 7) (tt := tYes) (g1 := gName 8) (tt1 := tYes) (te := tVar 8) (wi1 := iList K (fun σ H Q => tCons (tVar 7) (tCons (tC (.str "+")) (tCons (tVar 1) tNil)) σ H fun vs H1 => spSgl K vs H1 Q E0)) rfl sc_check_parents.nd rfl rfl (sw_true rfl rfl rfl (by decide +kernel)) (pi_tup (pv 4)) (blkOk_by (N := nm_check_parents) (sc := defScope s_check_parents) (own := [("parent", 7), ("place", 8)]) (by decide +kernel)) (by decide)
        (fun _ _ _ _ _ => pg_name (i := 7) sc_check_parents.nd rfl (Or.inl rfl)) (fun _ _ _ _ _ => pts_nil) (fun _ _ _ _ _ => pi_list (pc CS hr rfl (pa_cons (pv 7) (pa_cons (pe_glob (v := .str "+") rfl hpl ⟨_, rfl⟩) (pa_cons (pv 1) pa_nil)))))
        (fun _ _ _ _ _ => pg_name (i := 8) sc_check_parents.nd rfl (Or.inl rfl)) (fun _ _ _ _ _ => pts_nil) (fun _ _ _ _ _ => pv 8))
      (pss_cons (ps_set (i := 9) sc_check_parents.nd rfl (by first | exact Or.inl rfl | exact Or.inr rfl) (pc CW hr rfl (pa_cons (pv 3) (pa_cons (pv 6) pa_nil))))
      (pss_one (ps_if (pt_truth (pv 9) (by intro _; rfl)) (pss_one ps_never) pss_nil)))))), ?_⟩
  refine ⟨_, rfl, a, cs, rfl, ⟨xs, hq, hp⟩, by omega, F.nd, F.ok, fun H1 d kvs s1 hd hd0 e2 e3 => ?_⟩
  have dl : DctAt FVr H1 d cs := ⟨kvs, .inl hd, e2, e3⟩
  refine ⟨_, rfl, a, rfl, ⟨xs, (stay_same s1).tup _ _ hq⟩, ?_⟩
  refine for_tup (K := K) (a := a) (xs := xs) (fun j σ H' => ∃ y2 y3 y4 y5 y6 y7 y8 y9, σ = [some (.ref a), some (.ref d), y2, y3, y4, y5, y6, y7, y8, y9] ∧ Same H1 H') ⟨_, _, _, _, _, _, _, _, rfl, Same.refl _⟩ (fun j σ H' _ ⟨_, _, _, _, _, _, _, _, _, sm⟩ => (stay_same (s1.trans sm)).tup _ _ hq) (fun j x σ H' hxj ⟨y2, y3, y4, y5, y6, y7, y8, y9, eσ, sm⟩ => ?_) (fun σ H' ⟨_, _, _, _, _, _, _, _, _, sm⟩ => q _ (s1.trans sm))
  subst eσ
  obtain ⟨c, hc1, hc2⟩ := pairedAt hp hxj
  have hcm := List.mem_of_getElem? hc1
  have ok := F.ok c hcm
  obtain ⟨ac, ap, ak, am, rfl, qc, hap, hak, ham⟩ := hc2.stay (stay_same (s1.trans sm))
  obtain ⟨ks, hk, hkp⟩ := hak
  have hkl : ks.length = c.ks.length := Paired.length hkp
  have k2 := ok.k2
  refine ⟨ac, _, rfl, qc, rfl, _, _, rfl, _, _, rfl, _, _, rfl, _, _, rfl, rfl, ?_⟩
  refine ⟨_, rfl, ak, rfl, ⟨ks, hk⟩, fun B hB => ?_⟩
  have sB := same_new hB (.lst [])
  refine lc2_tup (K := K) (a := ak) (xs := ks) (fun i H2 => Same H' H2 ∧ ∃ acc, H2 B = some (.lst acc) ∧ Paired (Pp K H2) acc ((c.ks.take i).flatMap fun k => k.sgl (vrOf cs) "+") ∧ acc.length ≤ 13 * i) ⟨sB, [], upd_same, .nil, Nat.zero_le _⟩ (fun i H2 ⟨s2, _⟩ => (stay_same s2).tup _ _ hk) (fun i u H2 hu ⟨s2, acc, hacc, hpa, hal⟩ => ?_) (fun H2 ⟨s2, acc, hacc, hpa, hal⟩ => ?_)
  · obtain ⟨kd, hk1, hk2⟩ := pairedAt hkp hu
    have hkm := List.mem_of_getElem? hk1
    have hi : i < ks.length := (List.getElem?_eq_some_iff.mp hu).1
    obtain ⟨ok1, ok2, ok3, ok4⟩ := ok.kk kd hkm
    have fit := (T.f c hcm kd (by unfold Cls.decl; exact List.mem_append_left _ hkm)).1
    have hns := nds_size kd
    refine ⟨rfl, ?_⟩
    unfold tYes
    dsimp only
    rw [if_pos rfl]
    refine ⟨u, rfl, _, rfl, u, kd, "+", d, cs, c.ps.map Prod.fst, rfl, Th.stay (stay_same s2) hk2, by omega, by decide, DctAt.stay vr_stay (sm.trans s2) dl, F.nd, F.ok, fit, fun H3 l ws s3 hl hlf hws hwl => ?_⟩
    have h1 := Paired.length hws
    have h2 := sgl_len (vrOf cs) kd "+"
    have nlB : l ≠ B := fun e => by
      rw [e, hacc] at hlf
      cases hlf
    refine ⟨l, rfl, ⟨ws, SqL.of hl⟩, ?_⟩
    have hacc3 := s3 _ _ hacc
    have s23 := s2.trans s3
    show ∃ W1 : Nat → Nat → Hp → Prop, _
    refine lc2_in (K := K) (l := l) (ys := ws) (te := tVar 8) (D := B) (g1 := gName 8) (tt1 := tYes) (vs1 := [8]) (fun j H4 => Same H' H4 ∧ H4 l = some (.lst ws) ∧ Stay K H3 H4 ∧ H4 B = some (.lst (acc ++ ws.take j))) ⟨s23, hl, Stay.refl _, by rw [List.take_zero, List.append_nil]; exact hacc3⟩ (fun j H4 ⟨_, h, _⟩ => SqL.of h) (fun j y H4 hy ⟨s4, hl4, st4, hB4⟩ => ?_) (fun H4 ⟨s4, hl4, st4, hB4⟩ => ?_)
    · refine ⟨rfl, ?_⟩
      unfold tYes
      dsimp only
      rw [if_pos rfl]
      have hj : j < ws.length := (List.getElem?_eq_some_iff.mp hy).1
      refine ⟨y, rfl, _, hB4, Nat.lt_of_le_of_lt (show _ ≤ 100000 by rw [List.length_append, List.length_take]; omega) (by decide), same_mut s4 hB, by rw [upd_ne nlB]; exact hl4, st4.trans (stay_lst hB4), ?_⟩
      rw [upd_same, take_one' hy, List.append_assoc]
    · rw [List.take_length] at hB4
      refine ⟨s4, _, hB4, ?_, ?_⟩
      · rw [take_one' hk1, List.flatMap_append, List.flatMap_singleton]
        exact pairs_app (Paired.mapP hpa fun _ _ z => z.stay ((stay_same s3).trans st4)) (Paired.mapP hws fun _ _ z => z.stay st4)
      · rw [List.length_append]
        omega
  · rw [hkl, List.take_length] at hpa
    have hp2 : acc.length = (c.plz (vrOf cs)).length := Paired.length hpa
    rw [hkl] at hal
    refine ⟨_, rfl, _, rfl, ap, B, c.ps, c.plz (vrOf cs), acc, rfl, hap.stay (stay_same s2), hacc, hpa, by omega, fun p hp => (ok.pl p hp).2, fun p hp => ?_, U.t c hcm, fun H3 l s3 hl => ?_⟩
    · obtain ⟨kd, hk1, hk2⟩ := List.mem_flatMap.mp hp
      exact sgl_sgz _ kd _ (by decide) p hk2
    · exact ⟨_, rfl, _, .inl ⟨[], SqL.of hl, rfl⟩, iteN rfl ⟨_, _, _, _, _, _, _, _, rfl, sm.trans (s2.trans s3)⟩⟩
/-- what makes a table of classes a right one -/
structure TabOk (cs : List Cls) : Prop where
  f : FormsOk cs
  t : FitOk cs
  e : ∃ rank, ElOk cs rank
  u : TurnOk cs
def spChk (K : PySem.W.Frag) : Sp := fun vs H Q _ => ∃ (a : Addr) (cs : List Cls), vs = [.ref a] ∧ CsAt K H a cs ∧ TabOk cs ∧ ∀ H', Same H H' → Q .non H'
theorem ok_check (C1 : Cal P w K mg base 8 "check_forms" ["classes"] (spForms K)) (C2 : Cal P w K mg base 2 "check_fit" ["classes"] (spFit K)) (C3 : Cal P w K mg base 2 "check_elders" ["classes"] (spElds K)) (C4 : Cal P w K mg base 3 "check_parents" ["classes"] (spPars2 K))
    (D : DefAt K mg "check_classes" s_check_classes ["classes"]) : Cal P w K mg base 9 "check_classes" ["classes"] (spChk K) := by
  refine D.cal sc_check_classes (fun vs H Q E h => ?_) (fun f cdv A outer s H vs Q E hr h => ?_)
  · obtain ⟨v, p, rfl, _⟩ := h
    rfl
  obtain ⟨a, cs, rfl, hcs, T, q⟩ := h
  obtain ⟨rank, el⟩ := T.e
  refine ⟨_, pss_cons (ps_expr (pc C1 hr rfl (pa_cons (pv 0) pa_nil))) (pss_cons (ps_expr (pc C2 (hr.mono (by decide)) rfl (pa_cons (pv 0) pa_nil))) (pss_cons (ps_expr (pc C3 (hr.mono (by decide)) rfl (pa_cons (pv 0) pa_nil))) (pss_one (ps_expr (pc C4 (hr.mono (by decide)) rfl (pa_cons (pv 0) pa_nil)))))), ?_⟩
  refine ⟨_, rfl, a, cs, rfl, hcs, T.f, fun H1 s1 => ?_⟩
  refine ⟨_, rfl, a, cs, rfl, hcs.stay (stay_same s1), T.f, T.t, fun H2 s2 => ?_⟩
  refine ⟨_, rfl, a, cs, rank, rfl, hcs.stay (stay_same (s1.trans s2)), T.f, el, fun H3 s3 => ?_⟩
  exact ⟨_, rfl, a, cs, rfl, hcs.stay (stay_same (s1.trans (s2.trans s3))), T.f, T.t, T.u, fun H4 s4 => q _ (s1.trans (s2.trans (s3.trans s4)))⟩
end
end N

namespace N
open PySem PySem.Spec PyProof.Rows L2
/-! ### the class Table -/
def bodyOf : Stmt → List Stmt
  | .ClassDef _ _ _ b _ _ _ _ _ _ _ => b
  | _ => []
/-- its j-th def -/
def tabM (j : Nat) : Stmt := (bodyOf tabS).getD j (.Pass ⟨0, 0, 0, 0⟩)
/-- a def that is called with things by place, where no repr is under way -/
def FnS (P : Program) (w : World) (K : PySem.W.Frag) (mg : Str → Option Value) (base : Heap) (k : Nat) (f : Addr) (sp : Sp) : Prop :=
  ∀ (A : Around) (outer : List Env) (s : Shared) (H : Hp) (us : List Value) (vs : List V) (Q : VK) (E : XK), RoomG k A → Env0 P w K mg base A outer s H → Vals vs us → sp vs H Q E → codeAny (model P w) A (.call (.ref f) ⟨us, []⟩) (CR (L2.CX P w) outer P w H s Q E) s
section
variable {P : Program} {w : World} {K : PySem.W.Frag} {mg : Str → Option Value} {base : Heap} {k : Nat} {f C : Addr} {sp : Sp} {x q : Str} {st : Stmt} {N ps : List Str}
theorem FnS.mono {j : Nat} (F : FnS P w K mg base j f sp) (h : j ≤ k) : FnS P w K mg base k f sp := fun A outer s H us vs Q E hr => F A outer s H us vs Q E (hr.mono h)
/-- def f(a, *v) -/
theorem fnS_star {fd : FuncData} {p1 pv : Str} (F : Fun K x q st f fd) (S : FnScope N ([p1] ++ [pv]) (defScope st)) (hb : ∀ us rest : List Value, us.length = [p1].length → bindArgs fd ⟨us ++ rest, []⟩ = (newTuple rest >>= fun t => pure ([p1].zip us ++ [(pv, t)])))
    (hbody : ∀ (cdv : Value) (A : Around) (outer : List Env) (s : Shared) (H : Hp) (vs : List V) (Q : VK) (E : XK), RoomG k (A.deeper (envOfC q (defScope st) s.heap.objs.size f cdv)) → sp vs H Q E →
      ∃ t, PSs (cxOf (L2.CX P w) P w K mg base N q (defScope st) f cdv A outer s H E) (defBody st) t ∧ t { nx := fun _ H' => Q .non H', rt := Q } (start N vs) H) :
    FnS P w K mg base (k + 1) f (fun vs H Q E => ∃ v rest, vs = v :: rest ∧ rest.length ≤ 1000 ∧ ∀ p, H p = none → sp [v, .ref p] (upd H p (.tup rest)) Q E) := by
  obtain ⟨oc, od, kV, doc, pm, an, cdv, ct, osl, rfl, lk, hcd⟩ := F.ex
  intro A outer s H us vs Q E hr e0 r hsp
  obtain ⟨v, rest, rfl, hz, hq⟩ := hsp
  cases r with
  | @cons _ u _ us' r1 r2 =>
    have hn : H s.heap.objs.size = none := e0.hok.fresh (Nat.le_refl _)
    have hl2 : us'.length ≤ sizeLine := by
      rw [← r2.length]
      exact Nat.le_trans (show _ ≤ 100000 by omega) (by decide)
    refine StX.run_bnd lk hcd S hr.toRoom e0 (G := fun xs H2 => ∃ p, H p = none ∧ xs = [v, V.ref p] ∧ H2 = upd H p (.tup rest)) (fun A' Ex Q' h => ?_) fun s2 H2 xs ⟨p, hp, ex, eH⟩ hr' => ?_
    · rw [show u :: us' = [u] ++ us' from rfl, hb [u] us' rfl]
      refine wpAny_bind (wpAny_newTuple (wpAny_pure ?_) hl2)
      have new : ObjOk P w (upd H s.heap.objs.size (.tup rest)) (s.heap.push ({ cls := .type "tuple", data := .seq us'.toArray } : Obj)) s.heap.objs.size (.tup rest) := ⟨by rw [r2.length]; exact hl2, us', r2, ⟨_, Heap.get?_push_size _ rfl, rfl, _, rfl⟩⟩
      have up : ∀ (b : Addr) (o : Obj), s.heap.get? b = some o → (s.heap.push ({ cls := .type "tuple", data := .seq us'.toArray } : Obj)).get? b = some o := fun b o e => Heap.get?_push_of_some _ e
      have un := StX.un_laid (fs := frs outer) (s := s) (o := ({ cls := .type "tuple", data := .seq us'.toArray } : Obj)) (u := .tup rest) hn
      exact h _ _ [v, .ref s.heap.objs.size] [u, .ref s.heap.objs.size] (StX.env0_laid e0 new) un rfl (fun e s' => StX.cxUp outer s H _ _ E e s' un up rfl) (.cons r1 (.cons rfl .nil)) rfl ⟨_, hn, rfl, rfl⟩
    · subst ex eH
      exact hbody cdv A outer s2 _ _ Q E (hr.deeper _) (hq p hp)
/-- def f(a, b, ..), a method's -/
theorem fnS_of {fd : FuncData} (F : Fun K x q st f fd) (S : FnScope N ps (defScope st)) (hb : ∀ us : List Value, us.length = ps.length → bindArgs fd ⟨us, []⟩ = pure (ps.zip us)) (len : ∀ vs H Q E, sp vs H Q E → vs.length = ps.length)
    (hbody : ∀ (cdv : Value) (A : Around) (outer : List Env) (s : Shared) (H : Hp) (vs : List V) (Q : VK) (E : XK), RoomG k (A.deeper (envOfC q (defScope st) s.heap.objs.size f cdv)) → sp vs H Q E →
      ∃ t, PSs (cxOf (L2.CX P w) P w K mg base N q (defScope st) f cdv A outer s H E) (defBody st) t ∧ t { nx := fun _ H' => Q .non H', rt := Q } (start N vs) H) : FnS P w K mg base (k + 1) f sp := by
  obtain ⟨oc, od, kV, doc, pm, an, cdv, ct, osl, rfl, lk, hcd⟩ := F.ex
  intro A outer s H us vs Q E hr e0 r hsp
  have hl := len _ _ _ _ hsp
  refine StX.run_bnd lk hcd S hr.toRoom e0 (G := fun xs H2 => xs = vs ∧ H2 = H) (fun A' Ex Q' h => ?_) fun s2 H2 xs ⟨ex, eH⟩ hr' => ?_
  · rw [hb us (by rw [← r.length]; exact hl)]
    exact wpAny_pure (h _ _ vs us e0 Un.refl rfl (fun e s' z => z) r hl ⟨rfl, rfl⟩)
  · subst ex eH
    exact hbody cdv A outer s2 _ _ Q E (hr.deeper _) hsp
end
section
variable {X : Cx} {k : Nat} {f C : Addr} {sp : Sp} {x : Str} {e : Expr} {es : List Expr} {t : TA} {p pos : Pos}
theorem runS {pins : List (Addr × Obj)} {σ : L2.St} {H : Hp} {s : Shared} {Q : VK} {us : List Value} {vs : List V} (F : FnS X.prog X.w X.K X.mg X.base k f sp) (hr : RoomG k X.A) (I : Inv X pins σ H s) (r : Vals vs us) (h : sp vs H Q E0) :
    wpAny (model X.prog X.w) X.A (call (.ref f) us) (EP X pins σ Q) X.xe s := by
  refine wpAny_call (codeAny_mono (F X.A X.stack s H us vs Q E0 hr I.env0 r h) fun res s' hq => ?_)
  match res, hq with
  | .error e, hq => exact passL pins σ H s e s' I hq
  | .ok (.ret u), hq => exact I.after hq
  | .ok .next, hq => exact False.elim hq
  | .ok .brk, hq => exact False.elim hq
  | .ok .cont, hq => exact False.elim hq
theorem RoomG.made2 {k : Nat} {A : Around} (r : RoomG (k + 1) A) (C : Addr) (us : List Value) (kw : List (Str × Value)) : RoomG k (A.under (.builtin "type.__call__" ⟨.ref C :: us, kw⟩)) := by
  refine ⟨r.toRoom.make C us kw, ?_⟩
  show pushGuards (Code.builtin "type.__call__" ⟨.ref C :: us, kw⟩).guards A.guards = some []
  rw [r.gs]
  rfl
/-- a new instance of C -/
theorem run_mkS {pins : List (Addr × Obj)} {σ : L2.St} {H : Hp} {s : Shared} {Q : VK} {us : List Value} {vs : List V} (M : Mk X.K C f) (F : FnS X.prog X.w X.K X.mg X.base k f sp) (hr : RoomG (k + 1) X.A) (I : Inv X pins σ H s) (r : Vals vs us)
    (h : ∀ a d, H a = none → H d = none → d ≠ a → sp (.ref a :: vs) (upd (upd H d (.own a)) a (.ins C d [])) (fun v H2 => v = .non ∧ Q (.ref a) H2) E0) : wpAny (model X.prog X.w) X.A (call (.ref C) us) (EP X pins σ Q) X.xe s := by
  have lt := Nat.lt_succ_self s.heap.objs.size
  have I2 := Inv.made (C := C) I
  have hq := h (s.heap.objs.size + 1) s.heap.objs.size (I.hok.fresh (Nat.le_of_lt lt)) (I.hok.fresh (Nat.le_refl _)) (Nat.ne_of_lt lt)
  refine wpAny_call (make_map (f := f) I.kIn M.makes M.init (beq_iff_eq.mp M.fn) (codeAny_mono (F _ X.stack _ _ (.ref (s.heap.objs.size + 1) :: us) _ _ E0 (hr.made2 C us []) (I2.env0.make C us []) (.cons (show L2.RelV (.ref (s.heap.objs.size + 1)) (.ref (s.heap.objs.size + 1)) from rfl) r) hq) fun res s' hq' => ?_))
  match res, hq' with
  | .error e, hq' => exact passL pins σ _ _ e s' I2 hq'
  | .ok (.ret u), hq' =>
    obtain ⟨v, H', I3, rv, ev, q3⟩ := I2.after hq'
    subst ev
    exact ⟨rv, ⟨.ref (s.heap.objs.size + 1), H', I3, rfl, q3⟩⟩
/-- C(e, ..) -/
theorem pe_mkS (M : Mk X.K C f) (F : FnS X.prog X.w X.K X.mg X.base k f sp) (hr : RoomG (k + 1) X.A) (hg : Gl X x) (hm : X.mg x = some (.ref C)) (ha : PA X (e :: es) t) (hdb : (x == ("__debug__" : Str)) = false := by decide)
    (he : starEach (e :: es) X.env = (false, eval e X.env) :: starEach es X.env := by rfl) (hpl : (backTo pos (starEach es X.env)).any (·.1) = false := by rfl) :
    PE X (.Call (.Name x p) (e :: es) [] pos) (fun σ H Q => t σ H fun vs H1 => ∀ a d, H1 a = none → H1 d = none → d ≠ a → sp (.ref a :: vs) (upd (upd H1 d (.own a)) a (.ins C d [])) (fun v H2 => v = .non ∧ Q (.ref a) H2) E0) := by
  refine ⟨fun pins s σ H Q I h => wpAny_Call_Name_kw (ld_glob I hg hm ?_ hdb)⟩
  refine PySem.W.callWith_K (h₀ := X.base) I.ok.mod.kin M.kp (thn (ha.run pos pins s σ H _ I h) fun us s1 ⟨vs, H1, J, r, q⟩ => ⟨J.kIn, ?_⟩) he hpl
  exact run_mkS M F hr J r q
end
/-- what is known of the class Table -/
structure TabC (K : PySem.W.Frag) (mg : Str → Option Value) (C : Addr) : Prop where
  gl : mg "Table" = some (.ref C)
  c : L2.Cls K C
  na : NoAttr K C "_classes"
/-- at v stands a table of these classes -/
def TabAt (K : PySem.W.Frag) (C : Addr) (H : Hp) (v : V) (cs : List Cls) : Prop := ∃ a d p, v = .ref a ∧ H a = some (.ins C d [("_classes", .ref p)]) ∧ CsAt K H p cs
theorem TabAt.stay {K : PySem.W.Frag} {C : Addr} {H H' : Hp} {v : V} {cs : List Cls} (s : Same H H') (h : TabAt K C H v cs) : TabAt K C H' v cs := by
  obtain ⟨a, d, p, e, h1, h2⟩ := h
  exact ⟨a, d, p, e, s _ _ h1, h2.stay (stay_same s)⟩
abbrev nm_Tinit : List Str := ["self", "classes"]
theorem sc_Tinit : FnScope nm_Tinit (([("self" : Str)]) ++ [("classes" : Str)]) (defScope (tabM 0)) := ⟨rfl, rfl, rfl, by decide +kernel, rfl, by decide +kernel, by decide +kernel⟩
def spTini (K : PySem.W.Frag) (C : Addr) : Sp := fun vs H Q _ => ∃ (a d p : Addr) (cs : List Cls), vs = [.ref a, .ref p] ∧ H a = some (.ins C d []) ∧ CsAt K H p cs ∧ TabOk cs ∧ ∀ H', Same H H' → Q .non (upd H' a (.ins C d [("_classes", .ref p)]))
section
variable {P : Program} {w : World} {K : PySem.W.Frag} {mg : Str → Option Value} {base : Heap} {C f : Addr} {fd : FuncData}
theorem ok_Tinit (T : TabC K mg C) (CC : Cal P w K mg base 9 "check_classes" ["classes"] (spChk K)) (F : Fun K "__init__" "Table.__init__" (tabM 0) f fd)
    (hb : ∀ us rest : List Value, us.length = [("self" : Str)].length → bindArgs fd ⟨us ++ rest, []⟩ = (newTuple rest >>= fun t => pure ([("self" : Str)].zip us ++ [(("classes" : Str), t)]))) :
    FnS P w K mg base 10 f (fun vs H Q E => ∃ v rest, vs = v :: rest ∧ rest.length ≤ 1000 ∧ ∀ p, H p = none → spTini K C [v, .ref p] (upd H p (.tup rest)) Q E) := by
  refine fnS_star (N := nm_Tinit) F sc_Tinit hb fun cdv A outer s H vs Q E hr h => ?_
  obtain ⟨a, d, p, cs, rfl, ha, hcs, ok, q⟩ := h
  refine ⟨_, pss_cons (ps_expr (pc CC hr rfl (pa_cons (pv 1) pa_nil))) (pss_one (ps_fld (pv 0) (pv 1) rfl)), ?_⟩
  refine ⟨_, rfl, p, cs, rfl, hcs, ok, fun H1 s1 => ?_⟩
  exact ⟨_, rfl, _, rfl, a, C, d, [], rfl, s1 _ _ ha, T.c, T.na, by decide, q H1 s1⟩
end
theorem stay_ins {K : PySem.W.Frag} {H : Hp} {a C d : Addr} {fs gs : List (Str × V)} (h : H a = some (.ins C d fs)) : Stay K H (upd H a (.ins C d gs)) where
  tup := fun b xs q => by
    have k : ∀ b o, H b = some o → (∀ C d fs, o ≠ .ins C d fs) → (upd H a (.ins C d gs)) b = some o := fun b o e n => by
      rw [upd_ne]
      · exact e
      · intro z
        rw [z, h] at e
        cases e
        exact n _ _ _ rfl
    rcases q with (q | ⟨o, q⟩) | q
    · exact .inl (.inl (k _ _ q fun _ _ _ z => by cases z))
    · exact .inl (.inr ⟨o, k _ _ q fun _ _ _ z => by cases z⟩)
    · exact .inr q
  ty := fun v t q => by
    have k : ∀ b o, H b = some o → (∀ C d fs, o ≠ .ins C d fs) → (upd H a (.ins C d gs)) b = some o := fun b o e n => by
      rw [upd_ne]
      · exact e
      · intro z
        rw [z, h] at e
        cases e
        exact n _ _ _ rfl
    cases q with
    | base b =>
      cases b with
      | non => exact .base .non
      | bl x => exact .base (.bl x)
      | int i => exact .base (.int i)
      | str x => exact .base (.str x)
      | flt x => exact .base (.flt x)
      | lst e => exact .base (.lst (k _ _ e fun _ _ _ z => by cases z))
      | frz e => exact .base (.frz (k _ _ e fun _ _ _ z => by cases z))
      | tup e => exact .base (.tup (k _ _ e fun _ _ _ z => by cases z))
      | dK e => exact .base (.dK (k _ _ e fun _ _ _ z => by cases z))
      | dT e => exact .base (.dT (k _ _ e fun _ _ _ z => by cases z))
      | @ins b C2 d2 fs2 e cl ha hn htk hm =>
        by_cases z : b = a
        · subst z
          rw [h] at e
          cases e
          exact .base (.ins upd_same cl ha hn htk hm)
        · exact .base (.ins (by rw [upd_ne z]; exact e) cl ha hn htk hm)
    | byt b => exact .byt b
    | set e => exact .set (k _ _ e fun _ _ _ z => by cases z)
    | kList e c => exact .kList e c
    | kTuple e c => exact .kTuple e c
    | kDict e c => exact .kDict e c
    | fTuple e => exact .fTuple (k _ _ e fun _ _ _ z => by cases z)
    | fDict e => exact .fDict (k _ _ e fun _ _ _ z => by cases z)
section
variable {X : Cx} {f C : Addr} {e : Expr} {es : List Expr} {t : TA} {p pos : Pos}
def spTini1 (K : PySem.W.Frag) (C : Addr) : Sp := fun vs H Q E => ∃ v rest, vs = v :: rest ∧ rest.length ≤ 1000 ∧ ∀ p, H p = none → spTini K C [v, .ref p] (upd H p (.tup rest)) Q E
/-- Table(e, ..), right classes -/
def tTab (K : PySem.W.Frag) (C : Addr) (t : TA) : TE := fun σ H Q => t σ H fun vs H1 => ∃ cs, Paired (Cp K H1) vs cs ∧ TabOk cs ∧ ∀ H2 a, Same H1 H2 → H1 a = none → TabAt K C H2 (.ref a) cs → Q (.ref a) H2
theorem tab_made {K : PySem.W.Frag} {C : Addr} {H1 : Hp} {vs : List V} {cs : List Cls} {Q : VK} (hp : Paired (Cp K H1) vs cs) (ok : TabOk cs) (q : ∀ H2 a, Same H1 H2 → H1 a = none → TabAt K C H2 (.ref a) cs → Q (.ref a) H2) (a d : Addr) (ha : H1 a = none) (hd : H1 d = none) (hda : d ≠ a) :
    spTini1 K C (.ref a :: vs) (upd (upd H1 d (.own a)) a (.ins C d [])) (fun v H2 => v = .non ∧ Q (.ref a) H2) E0 := by
  have hl : vs.length = cs.length := Paired.length hp
  have n5 := ok.f.n5
  refine ⟨.ref a, vs, rfl, by omega, fun p hp0 => ?_⟩
  have s1 := same_new hd (.own a)
  have ha1 : (upd H1 d (.own a)) a = none := by rw [upd_ne (Ne.symm hda)]; exact ha
  have s2 := s1.trans (same_new ha1 (.ins C d []))
  have s3 := same_new hp0 (.tup vs)
  have s23 := s2.trans s3
  have hap := s3 _ _ (upd_same (H := upd H1 d (.own a)) (a := a) (o := .ins C d []))
  refine ⟨a, d, p, cs, rfl, hap, ⟨vs, .inl (.inl upd_same), Paired.mapP hp fun _ _ z => z.stay (stay_same s23)⟩, ok, fun H' s' => ⟨rfl, q _ a (same_mut (s23.trans s') ha) ha ⟨a, d, p, rfl, upd_same, ?_⟩⟩⟩
  exact CsAt.stay ((stay_same s').trans (stay_ins (s' _ _ hap))) ⟨vs, .inl (.inl upd_same), Paired.mapP hp fun _ _ z => z.stay (stay_same s23)⟩
theorem pe_tab (T : TabC X.K X.mg C) (M : Mk X.K C f) (F : FnS X.prog X.w X.K X.mg X.base 10 f (spTini1 X.K C)) (hr : RoomG 11 X.A) (hg : Gl X "Table") (ha : PA X (e :: es) t)
    (he : starEach (e :: es) X.env = (false, eval e X.env) :: starEach es X.env := by rfl) (hpl : (backTo pos (starEach es X.env)).any (·.1) = false := by rfl) : PE X (.Call (.Name "Table" p) (e :: es) [] pos) (tTab X.K C t) := by
  refine ⟨fun pins s σ H Q I h => wpAny_Call_Name_kw (ld_glob I hg T.gl ?_ (by decide))⟩
  refine PySem.W.callWith_K (h₀ := X.base) I.ok.mod.kin M.kp (thn (ha.run pos pins s σ H _ I h) fun us s1 ⟨vs, H1, J, r, cs, hp, ok, q⟩ => ⟨J.kIn, ?_⟩) he hpl
  exact run_mkS M F hr J r fun a d h1 h2 h3 => tab_made hp ok q a d h1 h2 h3
end
end N

namespace N
open PySem PySem.Spec PyProof.Rows L2
/-! ### nodes of a kind -/
def Kd.nns : Kd → List Str
  | .L _ => []
  | .C0 n => [n]
  | .C1 n a => n :: a.nns
  | .C2 n a b => n :: (a.nns ++ b.nns)
theorem nns_len : ∀ k : Kd, k.nns.length = k.size
  | .L _ => rfl
  | .C0 _ => rfl
  | .C1 _ a => by have := nns_len a; simp only [Kd.nns, Kd.size, List.length_cons]; omega
  | .C2 _ a b => by have := nns_len a; have := nns_len b; simp only [Kd.nns, Kd.size, List.length_cons, List.length_append]; omega
theorem nns_C {k : Kd} (h : k.isC = true) : k.nns = k.nm :: k.args.flatMap Kd.nns := by
  cases k with
  | L c => cases h
  | C0 n => rfl
  | C1 n a => simp [Kd.nns, Kd.nm, Kd.args]
  | C2 n a b => simp [Kd.nns, Kd.nm, Kd.args]
theorem nns_nds (k : Kd) : k.nns.length ≤ k.nds := by
  induction k with
  | L c => simp [Kd.nns, Kd.nds]
  | C0 n => simp [Kd.nns, Kd.nds]
  | C1 n a ih => simp only [Kd.nns, Kd.nds, List.length_cons]; omega
  | C2 n a b ih1 ih2 => simp only [Kd.nns, Kd.nds, List.length_cons, List.length_append]; omega
def NodV (K : PySem.W.Frag) (H : Hp) (v : V) (n : Str) : Prop := ∃ b xs, v = .ref b ∧ SqT K H b (.str n :: xs)
theorem NodV.stay {K : PySem.W.Frag} {H H' : Hp} {v : V} {n : Str} (s : Stay K H H') (h : NodV K H v n) : NodV K H' v n := by
  obtain ⟨b, xs, e, q⟩ := h
  exact ⟨b, xs, e, s.tup _ _ q⟩
/-- a letter, or a name with kinds behind it -/
def NodIn (K : PySem.W.Frag) (H : Hp) (v : V) (r : List Str) (M : Nat) : Prop := (∃ x, v = .str x ∧ r = []) ∨ ∃ a n zs ks, v = .ref a ∧ SqT K H a (.str n :: zs) ∧ Kps K H zs ks ∧ (ks.map Kd.nds).sum < M ∧ r = n :: ks.flatMap Kd.nns
theorem nodIn_kd {K : PySem.W.Frag} {H : Hp} {v : V} {k : Kd} {M : Nat} (h : Kp K H v k) (hn : k.nds ≤ M) : NodIn K H v k.nns M := by
  cases hc : k.isC with
  | false =>
    obtain ⟨rfl, _⟩ := kp_L h hc
    refine .inl ⟨_, rfl, ?_⟩
    cases k <;> first | rfl | cases hc
  | true =>
    obtain ⟨a, zs, rfl, hq, _, hz⟩ := kp_C h hc
    have := nds_args hc
    exact .inr ⟨a, k.nm, zs, k.args, rfl, hq, hz, by omega, nns_C hc⟩
theorem flat_nns : ∀ (ks : List Kd) (i : Nat), ((ks.take i).flatMap Kd.nns).length ≤ (ks.map Kd.nds).sum
  | [], i => by simp
  | k :: ks, 0 => by simp
  | k :: ks, i + 1 => by
    have := flat_nns ks i
    have := nns_nds k
    rw [List.take_succ_cons, List.flatMap_cons, List.length_append, List.map_cons, List.sum_cons]
    omega
theorem mem_nds {k : Kd} : ∀ {ks : List Kd}, k ∈ ks → k.nds ≤ (ks.map Kd.nds).sum
  | x :: xs, h => by
    rw [List.map_cons, List.sum_cons]
    rcases List.mem_cons.mp h with rfl | h
    · omega
    · have := mem_nds h
      omega
section
variable {P : Program} {w : World} {K : PySem.W.Frag} {mg : Str → Option Value} {base : Heap}
def spNod (K : PySem.W.Frag) (M : Nat) : Sp := fun vs H Q _ => ∃ (v : V) (r : List Str), vs = [v] ∧ 1 ≤ M ∧ NodIn K H v r M ∧ M ≤ 1000 ∧ ∀ H' l ys, Same H H' → H l = none → H' l = some (.lst ys) → Paired (NodV K H') ys r → Q (.ref l) H'
theorem nod_none (D : DefAt K mg "_law_nodes" s_Lnodes ["_law_kind"]) : Cal P w K mg base 1 "_law_nodes" ["_law_kind"] (spNod K 0) := by
  have no : ∀ vs H Q E, ¬ spNod K 0 vs H Q E := fun vs H Q E h => by
    obtain ⟨v, r, _, h, _⟩ := h
    omega
  exact D.cal sc_Lnodes (fun vs H Q E h => (no _ _ _ _ h).elim) (fun f cdv A outer s H vs Q E hr h => (no _ _ _ _ h).elim)
theorem nod_step {M : Nat} (G : Glo mg) (CP : Cal P w K mg base (M + 1) "_law_nodes" ["_law_kind"] (spNod K M)) (D : DefAt K mg "_law_nodes" s_Lnodes ["_law_kind"]) : Cal P w K mg base (M + 2) "_law_nodes" ["_law_kind"] (spNod K (M + 1)) := by
  refine D.cal sc_Lnodes (fun vs H Q E h => ?_) (fun f cdv A outer s H vs Q E hr h => ?_)
  · obtain ⟨v, r, rfl, _⟩ := h
    rfl
  obtain ⟨v, r, rfl, _, hN, hM, q⟩ := h
  refine ⟨_, pss_cons (ps_if (pt_val (pe_isi G.isinstance G.str b_str rfl rfl (pv 0))) (pss_one (ps_ret (pe_lst pa_nil))) pss_nil)
    (pss_cons (ps_set (i := 1) sc_Lnodes.nd rfl (by first | exact Or.inl rfl | exact Or.inr rfl) (pe_lst (pa_cons (pv 0) pa_nil)))
    (pss_cons (ps_for (passes_of rfl) rfl (pi_tup (pe_slice sl_tup (pv 0) (po_some pe_int) po_none)) (pg_name (i := 2) sc_Lnodes.nd rfl (by first | exact Or.inl rfl | exact Or.inr rfl))
      (pss_one (ps_expr (pe_bm PySem.F.plainAttrs_list PySem.F.slot_list_extend PySem.F.type_list_extend mt_extend (pv 1) (pa_cons (pc CP hr rfl (pa_cons (pv 2) pa_nil)) pa_nil)))))
    (pss_one (ps_ret (pv 1))))), ?_⟩
  rcases hN with ⟨x, rfl, rfl⟩ | ⟨a, n, zs, ks, rfl, hq, hz, hs, rfl⟩
  · refine ⟨_, rfl, isi_q (b := true) (.base (.str _)) (kit_ty (by decide +kernel)) ⟨_, rfl, iteE rfl ⟨Nat.zero_le _, fun l hl => ?_⟩⟩⟩
    exact q _ l [] (same_new hl _) hl upd_same .nil
  · refine ⟨_, rfl, isi_q (b := false) (SqT.ty hq) (kit_ty (by decide +kernel)) ⟨_, rfl, iteN rfl ⟨_, rfl, by show 1 ≤ sizeLine; decide, fun l0 hl0 => ?_⟩⟩⟩
    have s0 := same_new hl0 (.lst [.ref a])
    have hzl := Kps.length hz
    refine ⟨_, rfl, 1, rfl, a, _, rfl, (stay_same s0).tup _ _ hq, cut_tail_ne _ (by simp), fun p hp => ?_⟩
    rw [cut_tail, show List.drop 1 (V.str n :: zs) = zs from rfl]
    have sp := same_new hp (.tup zs)
    have hpz : SqT K (upd (upd H l0 (.lst [.ref a])) p (.tup zs)) p zs := .inl (.inl upd_same)
    have hl0' := sp _ _ (upd_same (H := H) (a := l0) (o := .lst [.ref a]))
    have s1 := s0.trans sp
    generalize upd (upd H l0 (.lst [.ref a])) p (.tup zs) = H1 at s1 hpz hl0'
    have hz1 : Kps K H1 zs ks := ThAll.stay (stay_same s1) hz
    have hq1 := (stay_same (K := K) s1).tup _ _ hq
    refine ⟨p, rfl, ⟨zs, hpz⟩, ?_⟩
    refine for_tup (K := K) (a := p) (xs := zs) (fun i σ H' => ∃ y2 ys, σ = [some (.ref a), some (.ref l0), y2] ∧ Same H H' ∧ Stay K H1 H' ∧ H' l0 = some (.lst ys) ∧ Paired (NodV K H') ys (n :: (ks.take i).flatMap Kd.nns))
      ⟨_, [.ref a], rfl, s1, Stay.refl _, hl0', .cons ⟨a, zs, rfl, hq1⟩ .nil⟩ (fun i σ H' _ ⟨_, _, _, _, st, _⟩ => st.tup _ _ hpz) (fun i x σ H' hx ⟨y2, ys, eσ, sm, st, hl, hP⟩ => ?_) (fun σ H' ⟨y2, ys, eσ, sm, st, hl, hP⟩ => ?_)
    · subst eσ
      obtain ⟨ka, hka, hkx⟩ := Kps.at (ThAll.stay st hz1) hx
      have hkm := List.mem_of_getElem? hka
      have hnd : ka.nds ≤ M := by
        have := mem_nds hkm
        omega
      have hk1 := Kd.nds_pos ka
      have hlen := Paired.length hP
      have hfl := flat_nns ks i
      rw [List.length_cons] at hlen
      refine ⟨_, rfl, .inl ⟨rfl, _, SqL.of hl⟩, _, rfl, x, _, rfl, by omega, nodIn_kd hkx hnd, by omega, fun H2 l2 ys2 s2 hl2 hys2 hP2 => ?_⟩
      have hn2 := Paired.length hP2
      have hnn := nns_nds ka
      have hl' := s2 _ _ hl
      refine ⟨l0, l2, ys, ys2, rfl, rfl, hl', hys2, sz5 (by omega), ?_⟩
      have st2 : Stay K H2 (upd H2 l0 (.lst (ys ++ ys2))) := stay_lst hl'
      refine ⟨_, ys ++ ys2, rfl, same_mut (sm.trans s2) hl0, (st.trans (stay_same s2)).trans st2, upd_same, ?_⟩
      rw [take_one' hka, List.flatMap_append, List.flatMap_singleton, ← List.cons_append]
      exact pairs_app (Paired.mapP hP fun _ _ z => z.stay ((stay_same s2).trans st2)) (Paired.mapP hP2 fun _ _ z => z.stay st2)
    · subst eσ
      rw [hzl, List.take_length] at hP
      exact ⟨_, rfl, q H' l0 ys sm hl0 hl hP⟩
theorem ok_nod (G : Glo mg) (D : DefAt K mg "_law_nodes" s_Lnodes ["_law_kind"]) : ∀ M : Nat, Cal P w K mg base (M + 1) "_law_nodes" ["_law_kind"] (spNod K M)
  | 0 => nod_none D
  | M + 1 => nod_step G (ok_nod G D M) D
end
end N

namespace N
open PySem PySem.Spec PyProof.Rows L2
/-! ### _law_drawn -/
/-- heads: a count and a name each -/
def Hds (K : PySem.W.Frag) (H : Hp) (hvs : List V) (ss : List (Str × Nat)) : Prop := Paired (fun v s => ∃ t, v = V.ref t ∧ SqT K H t [.int (s.2 : Nat), .str s.1]) hvs ss
theorem Hds.stay {K : PySem.W.Frag} {H H' : Hp} {hvs : List V} {ss : List (Str × Nat)} (s : Stay K H H') (h : Hds K H hvs ss) : Hds K H' hvs ss := Paired.mapP h fun _ _ ⟨t, e, q⟩ => ⟨t, e, s.tup _ _ q⟩
def dB (d : Nat) : Nat := if d ≤ 1 then 1 else 3
theorem cut_take1 (xs : List V) : cutV xs none (some 1) = xs.take 1 := by
  have h1 : HT.sIx xs.length 0 none = 0 := rfl
  have h2 : HT.sIx xs.length xs.length (some ((1 : Nat) : Int)) = min 1 xs.length := by
    rw [HT.sIx_nat]
  show (xs.drop (HT.sIx xs.length 0 none)).take (HT.sIx xs.length xs.length (some ((1 : Nat) : Int)) - HT.sIx xs.length 0 none) = _
  rw [h1, h2, List.drop_zero, Nat.sub_zero]
  rcases Nat.le_total 1 xs.length with h | h
  · rw [Nat.min_eq_left h]
  · rw [Nat.min_eq_right h, List.take_length, List.take_of_length_le h]
theorem mkK_nd1 {n : Str} : ∀ {ks : List Kd}, ks.length ≤ 2 → (∀ k ∈ ks, k.nds ≤ 1) → (mkK n ks).nds ≤ 1 + ks.length
  | [], _, _ => by simp [mkK, Kd.nds]
  | [a], _, h => by
    have := h a (by simp)
    simp only [mkK, Kd.nds, List.length_cons, List.length_nil]
    omega
  | [a, b], _, h => by
    have h1 := h a (by simp)
    have h2 := h b (by simp)
    simp only [mkK, Kd.nds, List.length_cons, List.length_nil]
    omega
  | a :: b :: c :: r, hl, _ => by simp at hl
theorem sz5lt {n : Nat} (h : n ≤ 10000) : n < sizeLine := Nat.lt_of_le_of_lt (show n ≤ 100000 by omega) (by decide)
theorem Bar.free' {p a : Addr} {H H' : Hp} (b : Bar p H H') (n : a ≠ p) (h : H' a = none) : H a = none := by
  cases e : H a with
  | none => rfl
  | some o => rw [b _ _ n e] at h; cases h
theorem bar_put {p a : Addr} {H0 H : Hp} {o : HO} (b : Bar p H0 H) (h : H0 a = none) : Bar p H0 (upd H a o) := fun x u n e => by
  rw [upd_ne (ne_of_none e h)]
  exact b x u n e
theorem pen_upd {p a : Addr} {H : Hp} {o : HO} (n : a ≠ p) (h : Pen H p) : Pen (upd H a o) p := by
  obtain ⟨i, j, k, e, r⟩ := h
  exact ⟨i, j, k, by rw [upd_ne (Ne.symm n)]; exact e, r⟩
section
variable {P : Program} {w : World} {K : PySem.W.Frag} {mg : Str → Option Value} {base : Heap}
def spDr (K : PySem.W.Frag) (M : Nat) : Sp := fun vs H Q _ => ∃ (p hl sl : Addr) (ls : List Str) (hvs : List V) (ss : List (Str × Nat)) (d : Nat), vs = [.ref p, .ref hl, .ref sl, .int (d : Nat)] ∧ Pen H p ∧ hl ≠ p ∧ sl ≠ p ∧ SqL K H hl hvs ∧ Hds K H hvs ss ∧ SqL K H sl (ls.map V.str) ∧ Men ls ss ∧
  (∃ n r, ss = (n, 0) :: r) ∧ d < M ∧ d ≤ 2 ∧ (d = 0 → ls ≠ []) ∧ ∀ H' v k, Bar p H H' → Pen H' p → Kp K H' v k → k.of ls ss → k.nds ≤ dB d → Q v H'
theorem dr_none (D : DefAt K mg "_law_drawn" s_Ldrawn ["_law_pen", "_law_heads", "_law_some", "_law_deep"]) : Cal P w K mg base 2 "_law_drawn" ["_law_pen", "_law_heads", "_law_some", "_law_deep"] (spDr K 0) := by
  obtain ⟨f, fd, a, F, b⟩ := D
  have no : ∀ vs H Q E, ¬ spDr K 0 vs H Q E := fun vs H Q E h => by
    obtain ⟨_, _, _, _, _, _, d, _, _, _, _, _, _, _, _, _, hm, _⟩ := h
    omega
  exact ⟨f, fd, a, F.kp, b, fun vs H Q E h => absurd h (no vs H Q E), fun A outer s H args us vs Q E _ _ _ _ h => absurd h (no vs H Q E)⟩
theorem dr_step {M : Nat} (G : Glo mg) (CD : Cal P w K mg base 1 "_law_draw" ["_law_pen", "_law_many"] (spDraw K)) (CP : Cal P w K mg base 2 "_law_pick" ["_law_pen", "_law_some"] (spPick K))
    (CK : Cal P w K mg base (M + 2) "_law_drawn" ["_law_pen", "_law_heads", "_law_some", "_law_deep"] (spDr K M))
    (D : DefAt K mg "_law_drawn" s_Ldrawn ["_law_pen", "_law_heads", "_law_some", "_law_deep"]) : Cal P w K mg base (M + 1 + 2) "_law_drawn" ["_law_pen", "_law_heads", "_law_some", "_law_deep"] (spDr K (M + 1)) := by
  refine D.cal sc_Ldrawn (fun vs H Q E h => ?_) (fun f cdv A outer s H vs Q E hr h => ?_)
  · obtain ⟨p, hl, sl, ls, hvs, ss, d, rfl, _⟩ := h
    rfl
  obtain ⟨p, hl, sl, ls, hvs, ss, d, rfl, hp, nhl, nsl, hH, hHd, hL, hM, ⟨n0, rest0, hz⟩, hdM, hd2, hd0, q⟩ := h
  have hr1 : RoomG 1 _ := hr.mono (by omega)
  have hr2 : RoomG 2 _ := hr.mono (by omega)
  refine ⟨_, pss_cons (ps_if (PW.pt (pw_and (pt_cmpR (op_neD hr.units) (pv 2) (pe_lst pa_nil) (nomark _)) (pw_and1 (PW.pt (pw_or (pt_cmpR op_lt (pv 3) pe_int (nomark _)) (pw_or1 (pt_cmpR op_lt (pc CD hr1 rfl (pa_cons (pv 0) (pa_cons pe_int pa_nil))) pe_int (nomark _))))))))
      (pss_one (ps_ret (pc CP hr2 rfl (pa_cons (pv 0) (pa_cons (pv 2) pa_nil))))) pss_nil)
    (pss_cons (ps_asg (pc CP hr2 rfl (pa_cons (pv 0) (pa_cons (pe_ifExp (pt_cmpR op_gt (pv 3) pe_int (nomark _)) (pv 1) (pe_slice sl_list (pv 1) po_none (po_some pe_int))) pa_nil))) (pg_tup (by rfl) (pgs_cons (pg_name (i := 4) sc_Ldrawn.nd rfl (by first | exact Or.inl rfl | exact Or.inr rfl)) (pgs_cons (pg_name (i := 5) sc_Ldrawn.nd rfl (by first | exact Or.inl rfl | exact Or.inr rfl)) pgs_nil))))
    (pss_cons (ps_set (i := 6) sc_Ldrawn.nd rfl (by first | exact Or.inl rfl | exact Or.inr rfl) (pe_lst pa_nil))
    (pss_cons (ps_for (passes_of rfl) rfl (pi_range1 rfl G.range (pa_cons (pv 4) pa_nil)) (pg_name (i := 7) sc_Ldrawn.nd rfl (by first | exact Or.inl rfl | exact Or.inr rfl))
      (pss_one (ps_expr (pe_bm PySem.F.plainAttrs_list PySem.F.slot_list_append PySem.F.type_list_append mt_append (pv 6) (pa_cons (pc CK hr rfl (pa_cons (pv 0) (pa_cons (pv 1) (pa_cons (pv 2) (pa_cons (pe_op op_sub (pv 3) pe_int) pa_nil))))) pa_nil)))))
    (pss_one (ps_ret (pe_op op_catA (pe_tup (pa_cons (pv 5) pa_nil)) (pe_callTy call_tuple_of (by rfl) G.tuple b_tuple (pa_cons (pv 6) pa_nil)))))))), ?_⟩
  have hss : hvs.length = ss.length := Paired.length hHd
  have hsl := hM.sl
  have hll := hM.ll
  have eqn : (!PyData.eqv (.list (ls.map .str)) (.list [])) = !ls.isEmpty := by rw [eqv_letters]
  have sh0 : SeqAt.shaped (.list []) = true := by decide
  refine ⟨_, rfl, by show 0 ≤ sizeLine; decide, fun o ho => ⟨_, _, .lst ((same_new ho _).seq hL) (dp_letters ls), .lst (.inl (.inl upd_same)) .nil, shaped_letters hM.l, sh0, _, rfl, ?_⟩⟩
  have so := same_new ho (.lst [])
  rw [eqn]
  -- a letter is picked
  have fin1 : ∀ (Hx H' : Hp) (x : V), Bar p H Hx → Bar p Hx H' → Pen H' p → x ∈ ls.map V.str → Q x H' := fun Hx H' x bx b pn hx => by
    obtain ⟨k, hk1, hk2⟩ := Kps.mem (K := K) (H := H') (kps_letters hM.l) hx
    obtain ⟨c, hc, rfl⟩ := List.mem_map.mp hk1
    exact q H' x _ (bx.trans b) pn hk2 hc (by show 1 ≤ dB d; unfold dB; split <;> omega)
  by_cases hl0 : ls = []
  · refine iteN (by rw [hl0]; rfl) ?_
    have hd1 : 1 ≤ d := Nat.pos_of_ne_zero fun z => hd0 z hl0
    have bx : Bar p H (upd H o (.lst [])) := bar_same so
    have pnx := hp.same so
    generalize upd H o (.lst []) = Hx at bx pnx
    have hHx := bar_seq bx nhl hH
    have hHdx := hHd.stay (bar_stay (K := K) bx hp pnx)
    by_cases hd2' : d = 2
    · refine ⟨_, rfl, _, rfl, _, _, rfl, rfl, _, rfl, iteE (decide_eq_true (by omega)) ?_⟩
      refine ⟨_, rfl, p, hl, _, rfl, pnx, nhl, hHx, by rw [hss, hz]; simp, by omega, fun Hz x bz pnz hx => ?_⟩
      obtain ⟨j, hj⟩ := List.mem_iff_getElem?.mp hx
      obtain ⟨s, hs, t, rfl, ht⟩ := pairedAt (hHdx.stay (bar_stay (K := K) bz pnx pnz)) hj
      have hs3 := List.mem_of_getElem? hs
      have hc : d = 2 ∨ s.2 = 0 := .inl hd2'
      have bz0 := bx.trans bz
      refine ⟨t, _, rfl, ht, rfl, .int (s.2 : Nat), [.str s.1], rfl, .str s.1, [], rfl, rfl, ?_⟩
      have hsm := hM.s s hs3
      refine ⟨by show 0 ≤ sizeLine; decide, fun F hF => ?_⟩
      have sF := same_new hF (.lst [])
      have bz2 := (bx.trans bz).trans (bar_same sF)
      have pz2 := pnz.same sF
      have nFp : F ≠ p := fun e => by
        obtain ⟨_, _, _, e2, _⟩ := pnz
        rw [e, e2] at hF
        cases hF
      refine ⟨_, rfl, _, rfl, by omega, by omega, ?_⟩
      refine for_range (n := ((s.2 : Nat) : Int).toNat) (fun i σ H' => ∃ xs ks y7, σ = [some (.ref p), some (.ref hl), some (.ref sl), some (.int (d : Nat)), some (.int (s.2 : Nat)), some (.str s.1), some (.ref F), y7] ∧ Bar p H H' ∧ Pen H' p ∧ H' F = some (.lst xs) ∧ Kps K H' xs ks ∧ ks.length = i ∧ ∀ k ∈ ks, k.of ls ss ∧ k.nds ≤ 1)
        ⟨[], [], _, rfl, bz2, pz2, upd_same, .nil, rfl, fun k h => (by cases h)⟩ (fun i σ H' hi ⟨xs, ks, y7, eσ, b', pn', hF', hk', hl', hall⟩ => ?_) (fun σ H' ⟨xs, ks, y7, eσ, b', pn', hF', hk', hl', hall⟩ => ?_)
      · subst eσ
        have hd22 : d = 2 := by omega
        have hxl := Kps.length hk'
        refine ⟨_, rfl, .inl ⟨rfl, _, SqL.of hF'⟩, _, rfl, _, rfl, _, rfl, _, rfl, _, _, rfl, rfl, ?_⟩
        refine ⟨p, hl, sl, ls, hvs, ss, d - 1, by show [V.ref p, .ref hl, .ref sl, .int (((d : Nat) : Int) - 1)] = _; rw [show ((d : Nat) : Int) - 1 = ((d - 1 : Nat) : Int) from by omega], pn', nhl, nsl, bar_seq b' nhl hH, hHd.stay (bar_stay b' hp pn'), bar_seq b' nsl hL, hM, ⟨n0, rest0, hz⟩, by omega, by omega, fun z => by omega, fun H2 v k b2 pn2 hk2 hof hnd => ?_⟩
        have hF2 := b2 _ _ nFp hF'
        have st2 := (bar_stay (K := K) b2 pn' pn2).trans (stay_lst (ys := xs ++ [v]) hF2)
        have hFH : H F = none := bz0.free' (fun z => nFp z) hF
        refine ⟨F, xs, v, rfl, rfl, hF2, sz5lt (by omega), ?_⟩
        refine ⟨xs ++ [v], ks ++ [k], _, rfl, bar_put (b'.trans b2) hFH, pen_upd nFp pn2, upd_same, Kps.app (ThAll.stay st2 hk') (.cons (hk2.stay (stay_lst hF2)) .nil), by rw [List.length_append, hl']; rfl, fun z hz => ?_⟩
        rcases List.mem_append.mp hz with h | h
        · exact hall z h
        · rw [List.mem_singleton.mp h]
          refine ⟨hof, ?_⟩
          have : dB (d - 1) = 1 := by rw [hd22]; rfl
          omega
      · subst eσ
        have hl2 : ks.length = s.2 := by omega
        have hl3 : ks.length ≤ 2 := by omega
        have hxl := Kps.length hk'
        have nd := mkK_nd1 (n := s.1) hl3 fun k hk => (hall k hk).2
        have hnd : (mkK s.1 ks).nds ≤ dB d := by
          unfold dB
          split
          · have : s.2 = 0 := by omega
            omega
          · omega
        have hof : (mkK s.1 ks).of ls ss := mkK_of hl3 (by rw [hl2]; exact hs3) fun k hk => (hall k hk).1
        have mk : ∀ {H9 : Hp} {r : Addr}, Stay K H' H9 → SqT K H9 r (.str s.1 :: xs) → Kp K H9 (.ref r) (mkK s.1 ks) := fun st hr9 => kp_mk (xs := xs) (mkK_nm _ _).2 (by rw [(mkK_nm s.1 ks).1]; exact hr9) (by rw [(mkK_nm s.1 ks).1]; exact nam_len hsm.1) (by rw [mkK_args _ _ hl3]; exact ThAll.stay st hk')
        refine ⟨_, rfl, by show 1 ≤ sizeLine; decide, fun t1 ht1 => ?_⟩
        have st1 := same_new ht1 (.tup [V.str s.1])
        refine ⟨_, rfl, F, xs, rfl, .inl ⟨SqL.of (st1 _ _ hF'), fun l hl9 => ?_⟩⟩
        have s9 := same_new hl9 (.tup xs)
        have s19 := st1.trans s9
        refine ⟨t1, l, [.str s.1], xs, rfl, rfl, .inl (.inl (s9 _ _ upd_same)), .inl (.inl upd_same), sz5 (by rw [List.length_cons, List.length_nil]; omega), (fun z => by cases z), (fun _ z => ?_), (fun _ z p3 hp3 => ?_)⟩
        · subst z
          exact q _ _ _ (b'.trans (bar_same s19)) (pn'.same s19) (mk (stay_same s19) (.inl (.inl (s9 _ _ upd_same)))) hof hnd
        · have s3 := s19.trans (same_new hp3 (.tup ([V.str s.1] ++ xs)))
          exact q _ _ _ (b'.trans (bar_same s3)) (pn'.same s3) (mk (stay_same s3) (.inl (.inl upd_same))) hof hnd
    · refine ⟨_, rfl, _, rfl, _, _, rfl, rfl, _, rfl, iteN (decide_eq_false (by omega)) ?_⟩
      refine ⟨_, rfl, ?_⟩
      dsimp only [tNoPart]
      refine ⟨1, rfl, hl, _, rfl, hHx, fun a2 ha2 => ?_⟩
      rw [cut_take1]
      have sa := same_new ha2 (.lst (hvs.take 1))
      have na2 : a2 ≠ p := fun e => by
        obtain ⟨_, _, _, e2, _⟩ := pnx
        rw [e, e2] at ha2
        cases ha2
      have bx := bx.trans (bar_same sa)
      refine ⟨p, a2, _, rfl, pnx.same sa, na2, SqL.of upd_same, by rw [List.length_take, hss, hz]; simp, by rw [List.length_take]; omega, fun Hz x bz pnz hx => ?_⟩
      obtain ⟨j, hj⟩ := List.mem_iff_getElem?.mp (List.mem_of_mem_take hx)
      have hx1 : hvs[0]? = some x := by
        match hvs, hx with
        | y :: r, hx =>
          have h1 : x = y := by simpa using hx
          rw [h1]; rfl
      obtain ⟨s, hs, t, rfl, ht⟩ := pairedAt (hHdx.stay ((stay_same (K := K) sa).trans (bar_stay (K := K) bz (pnx.same sa) pnz))) hx1
      have hs3 := List.mem_of_getElem? hs
      have hc : d = 2 ∨ s.2 = 0 := .inr (by rw [hz] at hs; cases hs; rfl)
      have bz0 := bx.trans bz
      refine ⟨t, _, rfl, ht, rfl, .int (s.2 : Nat), [.str s.1], rfl, .str s.1, [], rfl, rfl, ?_⟩
      have hsm := hM.s s hs3
      refine ⟨by show 0 ≤ sizeLine; decide, fun F hF => ?_⟩
      have sF := same_new hF (.lst [])
      have bz2 := (bx.trans bz).trans (bar_same sF)
      have pz2 := pnz.same sF
      have nFp : F ≠ p := fun e => by
        obtain ⟨_, _, _, e2, _⟩ := pnz
        rw [e, e2] at hF
        cases hF
      refine ⟨_, rfl, _, rfl, by omega, by omega, ?_⟩
      refine for_range (n := ((s.2 : Nat) : Int).toNat) (fun i σ H' => ∃ xs ks y7, σ = [some (.ref p), some (.ref hl), some (.ref sl), some (.int (d : Nat)), some (.int (s.2 : Nat)), some (.str s.1), some (.ref F), y7] ∧ Bar p H H' ∧ Pen H' p ∧ H' F = some (.lst xs) ∧ Kps K H' xs ks ∧ ks.length = i ∧ ∀ k ∈ ks, k.of ls ss ∧ k.nds ≤ 1)
        ⟨[], [], _, rfl, bz2, pz2, upd_same, .nil, rfl, fun k h => (by cases h)⟩ (fun i σ H' hi ⟨xs, ks, y7, eσ, b', pn', hF', hk', hl', hall⟩ => ?_) (fun σ H' ⟨xs, ks, y7, eσ, b', pn', hF', hk', hl', hall⟩ => ?_)
      · subst eσ
        have hd22 : d = 2 := by omega
        have hxl := Kps.length hk'
        refine ⟨_, rfl, .inl ⟨rfl, _, SqL.of hF'⟩, _, rfl, _, rfl, _, rfl, _, rfl, _, _, rfl, rfl, ?_⟩
        refine ⟨p, hl, sl, ls, hvs, ss, d - 1, by show [V.ref p, .ref hl, .ref sl, .int (((d : Nat) : Int) - 1)] = _; rw [show ((d : Nat) : Int) - 1 = ((d - 1 : Nat) : Int) from by omega], pn', nhl, nsl, bar_seq b' nhl hH, hHd.stay (bar_stay b' hp pn'), bar_seq b' nsl hL, hM, ⟨n0, rest0, hz⟩, by omega, by omega, fun z => by omega, fun H2 v k b2 pn2 hk2 hof hnd => ?_⟩
        have hF2 := b2 _ _ nFp hF'
        have st2 := (bar_stay (K := K) b2 pn' pn2).trans (stay_lst (ys := xs ++ [v]) hF2)
        have hFH : H F = none := bz0.free' (fun z => nFp z) hF
        refine ⟨F, xs, v, rfl, rfl, hF2, sz5lt (by omega), ?_⟩
        refine ⟨xs ++ [v], ks ++ [k], _, rfl, bar_put (b'.trans b2) hFH, pen_upd nFp pn2, upd_same, Kps.app (ThAll.stay st2 hk') (.cons (hk2.stay (stay_lst hF2)) .nil), by rw [List.length_append, hl']; rfl, fun z hz => ?_⟩
        rcases List.mem_append.mp hz with h | h
        · exact hall z h
        · rw [List.mem_singleton.mp h]
          refine ⟨hof, ?_⟩
          have : dB (d - 1) = 1 := by rw [hd22]; rfl
          omega
      · subst eσ
        have hl2 : ks.length = s.2 := by omega
        have hl3 : ks.length ≤ 2 := by omega
        have hxl := Kps.length hk'
        have nd := mkK_nd1 (n := s.1) hl3 fun k hk => (hall k hk).2
        have hnd : (mkK s.1 ks).nds ≤ dB d := by
          unfold dB
          split
          · have : s.2 = 0 := by omega
            omega
          · omega
        have hof : (mkK s.1 ks).of ls ss := mkK_of hl3 (by rw [hl2]; exact hs3) fun k hk => (hall k hk).1
        have mk : ∀ {H9 : Hp} {r : Addr}, Stay K H' H9 → SqT K H9 r (.str s.1 :: xs) → Kp K H9 (.ref r) (mkK s.1 ks) := fun st hr9 => kp_mk (xs := xs) (mkK_nm _ _).2 (by rw [(mkK_nm s.1 ks).1]; exact hr9) (by rw [(mkK_nm s.1 ks).1]; exact nam_len hsm.1) (by rw [mkK_args _ _ hl3]; exact ThAll.stay st hk')
        refine ⟨_, rfl, by show 1 ≤ sizeLine; decide, fun t1 ht1 => ?_⟩
        have st1 := same_new ht1 (.tup [V.str s.1])
        refine ⟨_, rfl, F, xs, rfl, .inl ⟨SqL.of (st1 _ _ hF'), fun l hl9 => ?_⟩⟩
        have s9 := same_new hl9 (.tup xs)
        have s19 := st1.trans s9
        refine ⟨t1, l, [.str s.1], xs, rfl, rfl, .inl (.inl (s9 _ _ upd_same)), .inl (.inl upd_same), sz5 (by rw [List.length_cons, List.length_nil]; omega), (fun z => by cases z), (fun _ z => ?_), (fun _ z p3 hp3 => ?_)⟩
        · subst z
          exact q _ _ _ (b'.trans (bar_same s19)) (pn'.same s19) (mk (stay_same s19) (.inl (.inl (s9 _ _ upd_same)))) hof hnd
        · have s3 := s19.trans (same_new hp3 (.tup ([V.str s.1] ++ xs)))
          exact q _ _ _ (b'.trans (bar_same s3)) (pn'.same s3) (mk (stay_same s3) (.inl (.inl upd_same))) hof hnd
  · refine iteE (by cases ls <;> simp at *) ?_
    have hL1 := so.seq hL
    have hpk : ∀ Hx, Bar p H Hx → Pen Hx p → SqL K Hx sl (ls.map V.str) := fun Hx bx _ => bar_seq bx nsl hL
    have hlp : 0 < (ls.map V.str).length := by rw [List.length_map]; exact List.length_pos_iff.mpr hl0
    have hlm : (ls.map V.str).length ≤ 1000 := by rw [List.length_map]; omega
    by_cases hdz : d < 1
    · refine ⟨_, rfl, _, _, rfl, rfl, _, rfl, iteE (decide_eq_true (by omega)) ?_⟩
      exact ⟨_, rfl, _, rfl, p, sl, _, rfl, hp.same so, nsl, hL1, hlp, hlm, fun H' x b pn hx => fin1 _ H' x (bar_same so) b pn hx⟩
    · have hd1 : 1 ≤ d := by omega
      refine ⟨_, rfl, _, _, rfl, rfl, _, rfl, iteN (decide_eq_false (by omega)) ?_⟩
      refine ⟨_, rfl, p, 5, rfl, hp.same so, by decide, by decide, fun Hx r bd pnx r0 r5 => ⟨_, _, rfl, rfl, _, rfl, ite2 (fun c => ?_) (fun c => ?_)⟩⟩
      · have bx := (bar_same (p := p) so).trans bd
        exact ⟨_, rfl, _, rfl, p, sl, _, rfl, pnx, nsl, hpk Hx bx pnx, hlp, hlm, fun H' x b pn hx => fin1 Hx H' x bx b pn hx⟩
      · have bx := (bar_same (p := p) so).trans bd
        have hHx := bar_seq bx nhl hH
        have hHdx := hHd.stay (bar_stay (K := K) bx hp pnx)
        by_cases hd2' : d = 2
        · refine ⟨_, rfl, _, rfl, _, _, rfl, rfl, _, rfl, iteE (decide_eq_true (by omega)) ?_⟩
          refine ⟨_, rfl, p, hl, _, rfl, pnx, nhl, hHx, by rw [hss, hz]; simp, by omega, fun Hz x bz pnz hx => ?_⟩
          obtain ⟨j, hj⟩ := List.mem_iff_getElem?.mp hx
          obtain ⟨s, hs, t, rfl, ht⟩ := pairedAt (hHdx.stay (bar_stay (K := K) bz pnx pnz)) hj
          have hs3 := List.mem_of_getElem? hs
          have hc : d = 2 ∨ s.2 = 0 := .inl hd2'
          have bz0 := bx.trans bz
          refine ⟨t, _, rfl, ht, rfl, .int (s.2 : Nat), [.str s.1], rfl, .str s.1, [], rfl, rfl, ?_⟩
          have hsm := hM.s s hs3
          refine ⟨by show 0 ≤ sizeLine; decide, fun F hF => ?_⟩
          have sF := same_new hF (.lst [])
          have bz2 := (bx.trans bz).trans (bar_same sF)
          have pz2 := pnz.same sF
          have nFp : F ≠ p := fun e => by
            obtain ⟨_, _, _, e2, _⟩ := pnz
            rw [e, e2] at hF
            cases hF
          refine ⟨_, rfl, _, rfl, by omega, by omega, ?_⟩
          refine for_range (n := ((s.2 : Nat) : Int).toNat) (fun i σ H' => ∃ xs ks y7, σ = [some (.ref p), some (.ref hl), some (.ref sl), some (.int (d : Nat)), some (.int (s.2 : Nat)), some (.str s.1), some (.ref F), y7] ∧ Bar p H H' ∧ Pen H' p ∧ H' F = some (.lst xs) ∧ Kps K H' xs ks ∧ ks.length = i ∧ ∀ k ∈ ks, k.of ls ss ∧ k.nds ≤ 1)
            ⟨[], [], _, rfl, bz2, pz2, upd_same, .nil, rfl, fun k h => (by cases h)⟩ (fun i σ H' hi ⟨xs, ks, y7, eσ, b', pn', hF', hk', hl', hall⟩ => ?_) (fun σ H' ⟨xs, ks, y7, eσ, b', pn', hF', hk', hl', hall⟩ => ?_)
          · subst eσ
            have hd22 : d = 2 := by omega
            have hxl := Kps.length hk'
            refine ⟨_, rfl, .inl ⟨rfl, _, SqL.of hF'⟩, _, rfl, _, rfl, _, rfl, _, rfl, _, _, rfl, rfl, ?_⟩
            refine ⟨p, hl, sl, ls, hvs, ss, d - 1, by show [V.ref p, .ref hl, .ref sl, .int (((d : Nat) : Int) - 1)] = _; rw [show ((d : Nat) : Int) - 1 = ((d - 1 : Nat) : Int) from by omega], pn', nhl, nsl, bar_seq b' nhl hH, hHd.stay (bar_stay b' hp pn'), bar_seq b' nsl hL, hM, ⟨n0, rest0, hz⟩, by omega, by omega, fun z => by omega, fun H2 v k b2 pn2 hk2 hof hnd => ?_⟩
            have hF2 := b2 _ _ nFp hF'
            have st2 := (bar_stay (K := K) b2 pn' pn2).trans (stay_lst (ys := xs ++ [v]) hF2)
            have hFH : H F = none := bz0.free' (fun z => nFp z) hF
            refine ⟨F, xs, v, rfl, rfl, hF2, sz5lt (by omega), ?_⟩
            refine ⟨xs ++ [v], ks ++ [k], _, rfl, bar_put (b'.trans b2) hFH, pen_upd nFp pn2, upd_same, Kps.app (ThAll.stay st2 hk') (.cons (hk2.stay (stay_lst hF2)) .nil), by rw [List.length_append, hl']; rfl, fun z hz => ?_⟩
            rcases List.mem_append.mp hz with h | h
            · exact hall z h
            · rw [List.mem_singleton.mp h]
              refine ⟨hof, ?_⟩
              have : dB (d - 1) = 1 := by rw [hd22]; rfl
              omega
          · subst eσ
            have hl2 : ks.length = s.2 := by omega
            have hl3 : ks.length ≤ 2 := by omega
            have hxl := Kps.length hk'
            have nd := mkK_nd1 (n := s.1) hl3 fun k hk => (hall k hk).2
            have hnd : (mkK s.1 ks).nds ≤ dB d := by
              unfold dB
              split
              · have : s.2 = 0 := by omega
                omega
              · omega
            have hof : (mkK s.1 ks).of ls ss := mkK_of hl3 (by rw [hl2]; exact hs3) fun k hk => (hall k hk).1
            have mk : ∀ {H9 : Hp} {r : Addr}, Stay K H' H9 → SqT K H9 r (.str s.1 :: xs) → Kp K H9 (.ref r) (mkK s.1 ks) := fun st hr9 => kp_mk (xs := xs) (mkK_nm _ _).2 (by rw [(mkK_nm s.1 ks).1]; exact hr9) (by rw [(mkK_nm s.1 ks).1]; exact nam_len hsm.1) (by rw [mkK_args _ _ hl3]; exact ThAll.stay st hk')
            refine ⟨_, rfl, by show 1 ≤ sizeLine; decide, fun t1 ht1 => ?_⟩
            have st1 := same_new ht1 (.tup [V.str s.1])
            refine ⟨_, rfl, F, xs, rfl, .inl ⟨SqL.of (st1 _ _ hF'), fun l hl9 => ?_⟩⟩
            have s9 := same_new hl9 (.tup xs)
            have s19 := st1.trans s9
            refine ⟨t1, l, [.str s.1], xs, rfl, rfl, .inl (.inl (s9 _ _ upd_same)), .inl (.inl upd_same), sz5 (by rw [List.length_cons, List.length_nil]; omega), (fun z => by cases z), (fun _ z => ?_), (fun _ z p3 hp3 => ?_)⟩
            · subst z
              exact q _ _ _ (b'.trans (bar_same s19)) (pn'.same s19) (mk (stay_same s19) (.inl (.inl (s9 _ _ upd_same)))) hof hnd
            · have s3 := s19.trans (same_new hp3 (.tup ([V.str s.1] ++ xs)))
              exact q _ _ _ (b'.trans (bar_same s3)) (pn'.same s3) (mk (stay_same s3) (.inl (.inl upd_same))) hof hnd
        · refine ⟨_, rfl, _, rfl, _, _, rfl, rfl, _, rfl, iteN (decide_eq_false (by omega)) ?_⟩
          refine ⟨_, rfl, ?_⟩
          dsimp only [tNoPart]
          refine ⟨1, rfl, hl, _, rfl, hHx, fun a2 ha2 => ?_⟩
          rw [cut_take1]
          have sa := same_new ha2 (.lst (hvs.take 1))
          have na2 : a2 ≠ p := fun e => by
            obtain ⟨_, _, _, e2, _⟩ := pnx
            rw [e, e2] at ha2
            cases ha2
          have bx := bx.trans (bar_same sa)
          refine ⟨p, a2, _, rfl, pnx.same sa, na2, SqL.of upd_same, by rw [List.length_take, hss, hz]; simp, by rw [List.length_take]; omega, fun Hz x bz pnz hx => ?_⟩
          obtain ⟨j, hj⟩ := List.mem_iff_getElem?.mp (List.mem_of_mem_take hx)
          have hx1 : hvs[0]? = some x := by
            match hvs, hx with
            | y :: r, hx =>
              have h1 : x = y := by simpa using hx
              rw [h1]; rfl
          obtain ⟨s, hs, t, rfl, ht⟩ := pairedAt (hHdx.stay ((stay_same (K := K) sa).trans (bar_stay (K := K) bz (pnx.same sa) pnz))) hx1
          have hs3 := List.mem_of_getElem? hs
          have hc : d = 2 ∨ s.2 = 0 := .inr (by rw [hz] at hs; cases hs; rfl)
          have bz0 := bx.trans bz
          refine ⟨t, _, rfl, ht, rfl, .int (s.2 : Nat), [.str s.1], rfl, .str s.1, [], rfl, rfl, ?_⟩
          have hsm := hM.s s hs3
          refine ⟨by show 0 ≤ sizeLine; decide, fun F hF => ?_⟩
          have sF := same_new hF (.lst [])
          have bz2 := (bx.trans bz).trans (bar_same sF)
          have pz2 := pnz.same sF
          have nFp : F ≠ p := fun e => by
            obtain ⟨_, _, _, e2, _⟩ := pnz
            rw [e, e2] at hF
            cases hF
          refine ⟨_, rfl, _, rfl, by omega, by omega, ?_⟩
          refine for_range (n := ((s.2 : Nat) : Int).toNat) (fun i σ H' => ∃ xs ks y7, σ = [some (.ref p), some (.ref hl), some (.ref sl), some (.int (d : Nat)), some (.int (s.2 : Nat)), some (.str s.1), some (.ref F), y7] ∧ Bar p H H' ∧ Pen H' p ∧ H' F = some (.lst xs) ∧ Kps K H' xs ks ∧ ks.length = i ∧ ∀ k ∈ ks, k.of ls ss ∧ k.nds ≤ 1)
            ⟨[], [], _, rfl, bz2, pz2, upd_same, .nil, rfl, fun k h => (by cases h)⟩ (fun i σ H' hi ⟨xs, ks, y7, eσ, b', pn', hF', hk', hl', hall⟩ => ?_) (fun σ H' ⟨xs, ks, y7, eσ, b', pn', hF', hk', hl', hall⟩ => ?_)
          · subst eσ
            have hd22 : d = 2 := by omega
            have hxl := Kps.length hk'
            refine ⟨_, rfl, .inl ⟨rfl, _, SqL.of hF'⟩, _, rfl, _, rfl, _, rfl, _, rfl, _, _, rfl, rfl, ?_⟩
            refine ⟨p, hl, sl, ls, hvs, ss, d - 1, by show [V.ref p, .ref hl, .ref sl, .int (((d : Nat) : Int) - 1)] = _; rw [show ((d : Nat) : Int) - 1 = ((d - 1 : Nat) : Int) from by omega], pn', nhl, nsl, bar_seq b' nhl hH, hHd.stay (bar_stay b' hp pn'), bar_seq b' nsl hL, hM, ⟨n0, rest0, hz⟩, by omega, by omega, fun z => by omega, fun H2 v k b2 pn2 hk2 hof hnd => ?_⟩
            have hF2 := b2 _ _ nFp hF'
            have st2 := (bar_stay (K := K) b2 pn' pn2).trans (stay_lst (ys := xs ++ [v]) hF2)
            have hFH : H F = none := bz0.free' (fun z => nFp z) hF
            refine ⟨F, xs, v, rfl, rfl, hF2, sz5lt (by omega), ?_⟩
            refine ⟨xs ++ [v], ks ++ [k], _, rfl, bar_put (b'.trans b2) hFH, pen_upd nFp pn2, upd_same, Kps.app (ThAll.stay st2 hk') (.cons (hk2.stay (stay_lst hF2)) .nil), by rw [List.length_append, hl']; rfl, fun z hz => ?_⟩
            rcases List.mem_append.mp hz with h | h
            · exact hall z h
            · rw [List.mem_singleton.mp h]
              refine ⟨hof, ?_⟩
              have : dB (d - 1) = 1 := by rw [hd22]; rfl
              omega
          · subst eσ
            have hl2 : ks.length = s.2 := by omega
            have hl3 : ks.length ≤ 2 := by omega
            have hxl := Kps.length hk'
            have nd := mkK_nd1 (n := s.1) hl3 fun k hk => (hall k hk).2
            have hnd : (mkK s.1 ks).nds ≤ dB d := by
              unfold dB
              split
              · have : s.2 = 0 := by omega
                omega
              · omega
            have hof : (mkK s.1 ks).of ls ss := mkK_of hl3 (by rw [hl2]; exact hs3) fun k hk => (hall k hk).1
            have mk : ∀ {H9 : Hp} {r : Addr}, Stay K H' H9 → SqT K H9 r (.str s.1 :: xs) → Kp K H9 (.ref r) (mkK s.1 ks) := fun st hr9 => kp_mk (xs := xs) (mkK_nm _ _).2 (by rw [(mkK_nm s.1 ks).1]; exact hr9) (by rw [(mkK_nm s.1 ks).1]; exact nam_len hsm.1) (by rw [mkK_args _ _ hl3]; exact ThAll.stay st hk')
            refine ⟨_, rfl, by show 1 ≤ sizeLine; decide, fun t1 ht1 => ?_⟩
            have st1 := same_new ht1 (.tup [V.str s.1])
            refine ⟨_, rfl, F, xs, rfl, .inl ⟨SqL.of (st1 _ _ hF'), fun l hl9 => ?_⟩⟩
            have s9 := same_new hl9 (.tup xs)
            have s19 := st1.trans s9
            refine ⟨t1, l, [.str s.1], xs, rfl, rfl, .inl (.inl (s9 _ _ upd_same)), .inl (.inl upd_same), sz5 (by rw [List.length_cons, List.length_nil]; omega), (fun z => by cases z), (fun _ z => ?_), (fun _ z p3 hp3 => ?_)⟩
            · subst z
              exact q _ _ _ (b'.trans (bar_same s19)) (pn'.same s19) (mk (stay_same s19) (.inl (.inl (s9 _ _ upd_same)))) hof hnd
            · have s3 := s19.trans (same_new hp3 (.tup ([V.str s.1] ++ xs)))
              exact q _ _ _ (b'.trans (bar_same s3)) (pn'.same s3) (mk (stay_same s3) (.inl (.inl upd_same))) hof hnd
end
end N

namespace N
open PySem PySem.Spec PyProof.Rows L2
/-! ### _law_parent -/
theorem of_mono {ls ls' : List Str} {ss ss' : List (Str × Nat)} (h1 : ∀ c ∈ ls, c ∈ ls') (h2 : ∀ s ∈ ss, s ∈ ss') : ∀ {k : Kd}, k.of ls ss → k.of ls' ss'
  | .L c, h => h1 c h
  | .C0 n, h => h2 _ h
  | .C1 n a, h => ⟨h2 _ h.1, of_mono h1 h2 h.2⟩
  | .C2 n a b, h => ⟨h2 _ h.1, of_mono h1 h2 h.2.1, of_mono h1 h2 h.2.2⟩
theorem mkK_nd3 {n : Str} : ∀ {ks : List Kd}, ks.length ≤ 2 → (∀ k ∈ ks, k.nds ≤ 3) → (mkK n ks).nds ≤ 7
  | [], _, _ => by simp [mkK, Kd.nds]
  | [a], _, h => by
    have := h a (by simp)
    simp only [mkK, Kd.nds]
    omega
  | [a, b], _, h => by
    have h1 := h a (by simp)
    have h2 := h b (by simp)
    simp only [mkK, Kd.nds]
    omega
  | a :: b :: c :: r, hl, _ => by simp at hl
theorem rep_kd {k : Kd} (h : k.nds = 1) (h2 : k.size ≤ 1) (n : Str) : ∀ m, m ≤ 2 → (mkK n (List.replicate m k)).nds ≤ 3 ∧ (mkK n (List.replicate m k)).size ≤ 3
  | 0, _ => by simp [mkK, Kd.nds, Kd.size]
  | 1, _ => by simp only [List.replicate, mkK, Kd.nds, Kd.size]; omega
  | 2, _ => by simp only [List.replicate, mkK, Kd.nds, Kd.size]; omega
  | m + 3, h => by omega
theorem kps_rep {K : PySem.W.Frag} {H : Hp} {v : V} {k : Kd} (h : Kp K H v k) : ∀ m, Kps K H (List.replicate m v) (List.replicate m k)
  | 0 => .nil
  | m + 1 => .cons h (kps_rep h m)
section
variable {P : Program} {w : World} {K : PySem.W.Frag} {mg : Str → Option Value} {base : Heap}
/-- (name,) + tuple(parts), name at 5, parts at 6 -/
def tMkP (K : PySem.W.Frag) : TE := fun σ H Q => ∃ (n : Str) (F : Addr) (xs : List V) (ks : List Kd), σ[5]? = some (some (.str n)) ∧ σ[6]? = some (some (.ref F)) ∧ H F = some (.lst xs) ∧ Kps K H xs ks ∧ ks.length ≤ 2 ∧ n.length ≤ 100000 ∧ ∀ H' r, Same H H' → Kp K H' (.ref r) (mkK n ks) → Q (.ref r) H'
theorem cat_mk {K : PySem.W.Frag} {H : Hp} {t l : Addr} {n : Str} {xs : List V} {ks : List Kd} {Q : VK} (h1 : SqT K H t [.str n]) (h2 : SqT K H l xs) (hk : Kps K H xs ks) (hl : ks.length ≤ 2) (hn : n.length ≤ 100000) (q : ∀ H' r, Same H H' → Kp K H' (.ref r) (mkK n ks) → Q (.ref r) H') : rCatA K (.ref t) (.ref l) H Q := by
  have hxl := Kps.length hk
  have mk : ∀ {H9 : Hp} {r : Addr}, Stay K H H9 → SqT K H9 r (.str n :: xs) → Kp K H9 (.ref r) (mkK n ks) := fun st hr9 => kp_mk (xs := xs) (mkK_nm _ _).2 (by rw [(mkK_nm n ks).1]; exact hr9) (by rw [(mkK_nm n ks).1]; exact hn) (by rw [mkK_args _ _ hl]; exact ThAll.stay st hk)
  refine ⟨t, l, [.str n], xs, rfl, rfl, h1, h2, sz5 (by rw [List.length_cons, List.length_nil]; omega), (fun z => by cases z), (fun _ z => ?_), (fun _ z p3 hp3 => ?_)⟩
  · subst z
    exact q H t (Same.refl _) (mk (Stay.refl _) h1)
  · exact q _ p3 (same_new hp3 _) (mk (stay_same (same_new hp3 _)) (.inl (.inl upd_same)))
theorem tMkP_ok {K : PySem.W.Frag} {σ : L2.St} {H : Hp} {Q : VK} (z : tMkP K σ H Q) : tOp (rCatA K) (tTup (tCons (tVar 5) tNil)) (fun σ H Q => tCons (tVar 6) tNil σ H fun xs H1 => ∃ p ys, xs = [V.ref p] ∧ ((SqL K H1 p ys ∧ ∀ l, H1 l = none → Q (.ref l) (upd H1 l (.tup ys))) ∨ (SqT K H1 p ys ∧ Q (.ref p) H1))) σ H Q := by
  obtain ⟨n, F, xs, ks, e5, e6, hF, hk, hl, hn, q⟩ := z
  refine ⟨_, e5, by show 1 ≤ sizeLine; decide, fun t1 ht1 => ?_⟩
  have st1 := same_new ht1 (.tup [V.str n])
  refine ⟨_, e6, F, xs, rfl, .inl ⟨SqL.of (st1 _ _ hF), fun l hl9 => ?_⟩⟩
  have s9 := same_new hl9 (.tup xs)
  have s19 := st1.trans s9
  exact cat_mk (.inl (.inl (s9 _ _ upd_same))) (.inl (.inl upd_same)) (ThAll.stay (stay_same s19) hk) hl hn fun H' r s' hr' => q H' r (s19.trans s') hr'
def spPa (K : PySem.W.Frag) : Sp := fun vs H Q _ => ∃ (p al hl sl : Addr) (ls : List Str) (avs hvs : List V) (as ss : List (Str × Nat)), vs = [.ref p, .ref al, .ref hl, .ref sl] ∧ Pen H p ∧ al ≠ p ∧ hl ≠ p ∧ sl ≠ p ∧ SqL K H al avs ∧ Hds K H avs as ∧ SqL K H hl hvs ∧ Hds K H hvs ss ∧ H sl = some (.lst (ls.map V.str)) ∧ Men ls ss ∧ ls.length ≤ 2 ∧
  (∃ n r, as = (n, 0) :: r) ∧ (∃ n r, ss = (n, 0) :: r) ∧ (∀ s ∈ as, s ∈ ss) ∧ as.length ≤ 100 ∧ ∀ H' v k, Bar p H H' → Pen H' p → Kp K H' v k → k.of ls ss → k.isC = true → (∃ s ∈ as, s.1 = k.nm) → k.size ≤ 6 → k.nds ≤ 7 → Q v H'
theorem ok_pa (G : Glo mg) (CD : Cal P w K mg base 1 "_law_draw" ["_law_pen", "_law_many"] (spDraw K)) (CP : Cal P w K mg base 2 "_law_pick" ["_law_pen", "_law_some"] (spPick K)) (CK : Cal P w K mg base 5 "_law_drawn" ["_law_pen", "_law_heads", "_law_some", "_law_deep"] (spDr K 3)) (CN : Cal P w K mg base 9 "_law_nodes" ["_law_kind"] (spNod K 8))
    (D : DefAt K mg "_law_parent" s_Lparent ["_law_pen", "_law_ahead", "_law_heads", "_law_some"]) : Cal P w K mg base 10 "_law_parent" ["_law_pen", "_law_ahead", "_law_heads", "_law_some"] (spPa K) := by
  refine D.cal sc_Lparent (fun vs H Q E h => ?_) (fun f cdv A outer s H vs Q E hr h => ?_)
  · obtain ⟨p, al, hl, sl, ls, avs, hvs, as, ss, rfl, _⟩ := h
    rfl
  obtain ⟨p, al, hl, sl, ls, avs, hvs, as, ss, rfl, hp, nal, nhl, nsl, hA, hAd, hH, hHd, hL, hM, hl2, ⟨na, ra, hza⟩, ⟨n0, rest0, hz⟩, hsub, has, q⟩ := h
  have hr1 : RoomG 1 _ := hr.mono (by decide)
  have hr2 : RoomG 2 _ := hr.mono (by decide)
  have hr5 : RoomG 5 _ := hr.mono (by decide)
  refine ⟨_, pss_cons (ps_asg (pc CP hr2 rfl (pa_cons (pv 0) (pa_cons (pv 1) pa_nil))) (pg_tup (by rfl) (pgs_cons (pg_name (i := 4) sc_Lparent.nd rfl (by first | exact Or.inl rfl | exact Or.inr rfl)) (pgs_cons (pg_name (i := 5) sc_Lparent.nd rfl (by first | exact Or.inl rfl | exact Or.inr rfl)) pgs_nil))))
    (pss_cons (ps_set (i := 6) sc_Lparent.nd rfl (by first | exact Or.inl rfl | exact Or.inr rfl) (pe_lst pa_nil))
    (pss_cons (ps_for (passes_of rfl) rfl (pi_range1 rfl G.range (pa_cons (pv 4) pa_nil)) (pg_name (i := 7) sc_Lparent.nd rfl (by first | exact Or.inl rfl | exact Or.inr rfl))
      (pss_one (ps_if (PW.pt (pw_and (pt_cmpR (op_neD hr.units) (pv 3) (pe_lst pa_nil) (nomark _)) (pw_and1 (pt_cmpR op_gt (pc CD hr1 rfl (pa_cons (pv 0) (pa_cons pe_int pa_nil))) pe_int (nomark _)))))
        (pss_one (ps_expr (pe_bm PySem.F.plainAttrs_list PySem.F.slot_list_append PySem.F.type_list_append mt_append (pv 6) (pa_cons (pc CK hr5 rfl (pa_cons (pv 0) (pa_cons (pv 1) (pa_cons (pv 3) (pa_cons pe_int pa_nil))))) pa_nil))))
        (pss_one (ps_expr (pe_bm PySem.F.plainAttrs_list PySem.F.slot_list_append PySem.F.type_list_append mt_append (pv 6) (pa_cons (pc CK hr5 rfl (pa_cons (pv 0) (pa_cons (pv 2) (pa_cons (pe_lst pa_nil) (pa_cons pe_int pa_nil))))) pa_nil)))))))
    (pss_cons (ps_set (i := 8) sc_Lparent.nd rfl (by first | exact Or.inl rfl | exact Or.inr rfl) (peOf (te := tMkP K) (pe_op op_catA (pe_tup (pa_cons (pv 5) pa_nil)) (pe_callTy call_tuple_of (by rfl) G.tuple b_tuple (pa_cons (pv 6) pa_nil))) (fun σ H Q z => tMkP_ok z)))
    (pss_cons (ps_if (pt_cmpR op_gt (pe_callB call_len_seq (by rfl) G.len PySem.boot_len (pa_cons (pc CN hr rfl (pa_cons (pv 8) pa_nil)) pa_nil)) pe_int (nomark _))
      (pss_one (ps_ret (pe_op op_catA (pe_tup (pa_cons (pv 5) pa_nil)) (pe_callTy call_tuple_of (by rfl) G.tuple b_tuple (pa_cons (pe_op op_rep (pe_slice sl_list (pe_op op_cat (pv 3) (pe_lst (pa_cons (pe_slice sl_tup (pe_ix ix_list (pv 2) pe_int (fun _ _ => rfl)) (po_some pe_int) po_none) pa_nil))) po_none (po_some pe_int)) (pv 4)) pa_nil))))) pss_nil)
    (pss_one (ps_ret (pv 8))))))), ?_⟩
  have hss : hvs.length = ss.length := Paired.length hHd
  have haa : avs.length = as.length := Paired.length hAd
  have hsl := hM.sl
  have eqn : (!PyData.eqv (.list (ls.map .str)) (.list [])) = !ls.isEmpty := by rw [eqv_letters]
  have sh0 : SeqAt.shaped (.list []) = true := by decide
  have men0 : Men [] ss := ⟨(fun c h => by cases h), hM.s, hM.z, (by show 0 ≤ 100; decide), hM.sl⟩
  have menA : Men ls as := ⟨hM.l, fun s hs => hM.s s (hsub s hs), ⟨na, by rw [hza]; exact List.mem_cons_self⟩, hM.ll, has⟩
  refine ⟨_, rfl, _, rfl, p, al, _, rfl, hp, nal, hA, by rw [haa, hza]; simp, by omega, fun Hx x bx pnx hx => ?_⟩
  obtain ⟨j, hj⟩ := List.mem_iff_getElem?.mp hx
  obtain ⟨s, hs, t, rfl, ht⟩ := pairedAt (hAd.stay (bar_stay (K := K) bx hp pnx)) hj
  have hs3 := List.mem_of_getElem? hs
  have hsm := hM.s s (hsub s hs3)
  refine ⟨t, _, rfl, ht, rfl, .int (s.2 : Nat), [.str s.1], rfl, .str s.1, [], rfl, rfl, ?_⟩
  refine ⟨by show 0 ≤ sizeLine; decide, fun F hF => ?_⟩
  have sF := same_new hF (.lst [])
  have nFp : F ≠ p := fun e => by
    obtain ⟨_, _, _, e2, _⟩ := pnx
    rw [e, e2] at hF
    cases hF
  have hFH : H F = none := bx.free' nFp hF
  refine ⟨_, rfl, _, rfl, by omega, by omega, ?_⟩
  refine for_range (n := ((s.2 : Nat) : Int).toNat) (fun i σ H' => ∃ xs ks y7, σ = [some (.ref p), some (.ref al), some (.ref hl), some (.ref sl), some (.int (s.2 : Nat)), some (.str s.1), some (.ref F), y7, none] ∧ Bar p H H' ∧ Pen H' p ∧ H' F = some (.lst xs) ∧ Kps K H' xs ks ∧ ks.length = i ∧ ∀ k ∈ ks, k.of ls ss ∧ k.nds ≤ 3)
    ⟨[], [], _, rfl, bx.trans (bar_same sF), pnx.same sF, upd_same, .nil, rfl, fun k h => (by cases h)⟩ (fun i σ H' hi ⟨xs, ks, y7, eσ, b', pn', hF', hk', hl', hall⟩ => ?_) (fun σ H' ⟨xs, ks, y7, eσ, b', pn', hF', hk', hl', hall⟩ => ?_)
  · subst eσ
    have hxl := Kps.length hk'
    refine ⟨_, rfl, by show 0 ≤ sizeLine; decide, fun o ho => ⟨_, _, .lst ((same_new ho _).seq (bar_seq b' nsl (SqL.of hL))) (dp_letters ls), .lst (.inl (.inl upd_same)) .nil, shaped_letters hM.l, sh0, _, rfl, ?_⟩⟩
    have so := same_new ho (.lst [])
    rw [eqn]
    by_cases hl0 : ls = []
    · refine iteN (by rw [hl0]; rfl) ?_
      have bY : Bar p H' (upd H' o (.lst [])) := bar_same so
      have pY := pn'.same so
      refine ⟨_, rfl, .inl ⟨rfl, _, SqL.of (bY _ _ nFp hF')⟩, _, rfl, _, rfl, Nat.zero_le _, fun E hE => ?_⟩
      have sE := same_new hE (.lst [])
      have nE : E ≠ p := fun e => by
        obtain ⟨_, _, _, e2, _⟩ := pY
        rw [e, e2] at hE
        cases hE
      have bE := bY.trans (bar_same (p := p) sE)
      refine ⟨p, hl, E, [], hvs, ss, 2, rfl, pY.same sE, nhl, nE, bar_seq (b'.trans bE) nhl hH, hHd.stay (bar_stay (b'.trans bE) hp (pY.same sE)), SqL.of upd_same, men0, ⟨n0, rest0, hz⟩, by decide, by decide, fun z => absurd z (by decide), fun H2 v k b2 pn2 hk2 hof hnd => ?_⟩
      have bH2 := b'.trans (bE.trans b2)
      have hF2 := (bE.trans b2) _ _ nFp hF'
      have st2 := (bar_stay (K := K) (bE.trans b2) pn' pn2).trans (stay_lst (ys := xs ++ [v]) hF2)
      refine ⟨F, xs, v, rfl, rfl, hF2, sz5lt (by omega), ?_⟩
      refine ⟨xs ++ [v], ks ++ [k], _, rfl, bar_put bH2 hFH, pen_upd nFp pn2, upd_same, Kps.app (ThAll.stay st2 hk') (.cons (hk2.stay (stay_lst hF2)) .nil), by rw [List.length_append, hl']; rfl, fun z hz => ?_⟩
      rcases List.mem_append.mp hz with h | h
      · exact hall z h
      · rw [List.mem_singleton.mp h]
        exact ⟨of_mono (fun c h => by cases h) (fun s h => h) hof, hnd⟩
    · refine iteE (by cases ls <;> simp at *) ?_
      refine ⟨_, rfl, p, 3, rfl, pn'.same so, by decide, by decide, fun Hy r bd pY r0 r3 => ⟨_, _, rfl, rfl, _, rfl, ite2 (fun c => ?_) (fun c => ?_)⟩⟩
      · have bY : Bar p H' Hy := (bar_same so).trans bd
        refine ⟨_, rfl, .inl ⟨rfl, _, SqL.of (bY _ _ nFp hF')⟩, _, rfl, _, rfl, _, rfl, ?_⟩
        have bE := bY
        refine ⟨p, al, sl, ls, avs, as, 2, rfl, pY, nal, nsl, bar_seq (b'.trans bE) nal hA, hAd.stay (bar_stay (b'.trans bE) hp pY), bar_seq (b'.trans bE) nsl (SqL.of hL), menA, ⟨na, ra, hza⟩, by decide, by decide, fun z => absurd z (by decide), fun H2 v k b2 pn2 hk2 hof hnd => ?_⟩
        have bH2 := b'.trans (bE.trans b2)
        have hF2 := (bE.trans b2) _ _ nFp hF'
        have st2 := (bar_stay (K := K) (bE.trans b2) pn' pn2).trans (stay_lst (ys := xs ++ [v]) hF2)
        refine ⟨F, xs, v, rfl, rfl, hF2, sz5lt (by omega), ?_⟩
        refine ⟨xs ++ [v], ks ++ [k], _, rfl, bar_put bH2 hFH, pen_upd nFp pn2, upd_same, Kps.app (ThAll.stay st2 hk') (.cons (hk2.stay (stay_lst hF2)) .nil), by rw [List.length_append, hl']; rfl, fun z hz => ?_⟩
        rcases List.mem_append.mp hz with h | h
        · exact hall z h
        · rw [List.mem_singleton.mp h]
          exact ⟨of_mono (fun c h => h) hsub hof, hnd⟩
      · have bY : Bar p H' Hy := (bar_same so).trans bd
        refine ⟨_, rfl, .inl ⟨rfl, _, SqL.of (bY _ _ nFp hF')⟩, _, rfl, _, rfl, Nat.zero_le _, fun E hE => ?_⟩
        have sE := same_new hE (.lst [])
        have nE : E ≠ p := fun e => by
          obtain ⟨_, _, _, e2, _⟩ := pY
          rw [e, e2] at hE
          cases hE
        have bE := bY.trans (bar_same (p := p) sE)
        refine ⟨p, hl, E, [], hvs, ss, 2, rfl, pY.same sE, nhl, nE, bar_seq (b'.trans bE) nhl hH, hHd.stay (bar_stay (b'.trans bE) hp (pY.same sE)), SqL.of upd_same, men0, ⟨n0, rest0, hz⟩, by decide, by decide, fun z => absurd z (by decide), fun H2 v k b2 pn2 hk2 hof hnd => ?_⟩
        have bH2 := b'.trans (bE.trans b2)
        have hF2 := (bE.trans b2) _ _ nFp hF'
        have st2 := (bar_stay (K := K) (bE.trans b2) pn' pn2).trans (stay_lst (ys := xs ++ [v]) hF2)
        refine ⟨F, xs, v, rfl, rfl, hF2, sz5lt (by omega), ?_⟩
        refine ⟨xs ++ [v], ks ++ [k], _, rfl, bar_put bH2 hFH, pen_upd nFp pn2, upd_same, Kps.app (ThAll.stay st2 hk') (.cons (hk2.stay (stay_lst hF2)) .nil), by rw [List.length_append, hl']; rfl, fun z hz => ?_⟩
        rcases List.mem_append.mp hz with h | h
        · exact hall z h
        · rw [List.mem_singleton.mp h]
          exact ⟨of_mono (fun c h => by cases h) (fun s h => h) hof, hnd⟩
  · subst eσ
    have hl3 : ks.length ≤ 2 := by omega
    refine ⟨s.1, F, xs, ks, rfl, rfl, hF', hk', hl3, nam_len hsm.1, fun H9 r9 s9 hr9 => ?_⟩
    have nd7 := mkK_nd3 (n := s.1) hl3 fun k hk => (hall k hk).2
    have b9 := b'.trans (bar_same (p := p) s9)
    have pn9 := pn'.same s9
    have hin : (s.1, ks.length) ∈ ss := by rw [show ks.length = s.2 from by omega]; exact hsub s hs3
    have hof : (mkK s.1 ks).of ls ss := mkK_of hl3 hin fun k hk => (hall k hk).1
    refine ⟨_, rfl, .ref r9, (mkK s.1 ks).nns, rfl, by decide, nodIn_kd hr9 (by omega), by decide, fun H10 l ys s10 hl0 hl10 hys => ?_⟩
    have hyl : ys.length = (mkK s.1 ks).size := by rw [Paired.length hys, nns_len]
    refine ⟨l, ys, rfl, .inl (SqL.of hl10), _, _, rfl, rfl, _, rfl, ite2 (fun c => ?_) (fun c => ?_)⟩
    · have b10 := b9.trans (bar_same (p := p) s10)
      have pn10 := pn9.same s10
      refine ⟨_, rfl, by show 1 ≤ sizeLine; decide, fun t1 ht1 => ?_⟩
      have st1 := same_new ht1 (.tup [V.str s.1])
      obtain ⟨v0, vr, ehv, t0, ev0, hq0⟩ : ∃ v0 vr, hvs = v0 :: vr ∧ ∃ t0, v0 = V.ref t0 ∧ SqT K (upd H10 t1 (.tup [V.str s.1])) t0 [.int ((0 : Nat) : Int), .str n0] := by
        have h := hHd.stay ((bar_stay (K := K) b10 hp pn10).trans (stay_same st1))
        rw [hz] at h
        cases h with
        | cons a t =>
          obtain ⟨t0, e, q0⟩ := a
          exact ⟨_, _, rfl, t0, e, q0⟩
      subst ev0
      have hH1 := st1.seq (bar_seq b10 nhl hH)
      have hLx := st1 _ _ (b10 _ _ nsl hL)
      refine ⟨_, rfl, _, rfl, hl, hvs, 0, .ref t0, rfl, rfl, hH1, by rw [ehv]; exact atI_nat (j := 0) rfl, 1, rfl, t0, _, rfl, hq0, cut_tail_ne _ (by simp), fun c1 hc1 => ?_⟩
      rw [cut_tail]
      have s2 := same_new hc1 (.tup [V.str n0])
      have kc : Kp K (upd (upd H10 t1 (.tup [V.str s.1])) c1 (.tup [V.str n0])) (.ref c1) (.C0 n0) := kp_mk (k := .C0 n0) rfl (.inl (.inl upd_same)) (nam_len (hM.s (n0, 0) (by rw [hz]; exact List.mem_cons_self)).1) .nil
      refine ⟨by show 1 ≤ sizeLine; decide, fun L hL1 => ?_⟩
      have s3 := same_new hL1 (.lst [V.ref c1])
      refine ⟨sl, L, _, _, rfl, rfl, s3 _ _ (s2 _ _ hLx), upd_same, by rw [List.length_map]; exact sz5 (by rw [List.length_singleton]; omega), fun M1 hM1 => ?_⟩
      have s4 := same_new hM1 (.lst (ls.map V.str ++ [V.ref c1]))
      dsimp only [tNoPart]
      refine ⟨1, rfl, M1, _, rfl, SqL.of upd_same, fun S1 hS1 => ?_⟩
      rw [cut_take1]
      have s5 := same_new hS1 (.lst ((ls.map V.str ++ [V.ref c1]).take 1))
      obtain ⟨u0, k0, eu, hk0, hof0, hn1, hz1⟩ : ∃ u0 k0, (ls.map V.str ++ [V.ref c1]).take 1 = [u0] ∧ (∀ {H9 : Hp}, Stay K (upd (upd H10 t1 (.tup [V.str s.1])) c1 (.tup [V.str n0])) H9 → Kp K H9 u0 k0) ∧ k0.of ls ss ∧ k0.nds = 1 ∧ k0.size ≤ 1 := by
        match ls, hM.l with
        | [], _ => exact ⟨.ref c1, .C0 n0, rfl, fun st => kc.stay st, by show (n0, 0) ∈ ss; rw [hz]; exact List.mem_cons_self, rfl, Nat.le_refl _⟩
        | c :: r, hml => exact ⟨.str c, .L c, rfl, fun _ => .str c (let_len (hml c List.mem_cons_self)), List.mem_cons_self, rfl, Nat.zero_le _⟩
      rw [eu]
      have hS2 : (upd (upd (upd (upd (upd H10 t1 (.tup [V.str s.1])) c1 (.tup [V.str n0])) L (.lst [V.ref c1])) M1 (.lst (ls.map V.str ++ [V.ref c1]))) S1 (.lst [u0])) S1 = some (.lst [u0]) := upd_same
      rw [eu] at s5
      refine ⟨_, rfl, S1, _, [u0], rfl, rfl, hS2, by omega, by omega, by rw [List.length_singleton]; exact sz5 (by omega), fun R hR => ?_⟩
      have efl : (List.replicate ((s.2 : Nat) : Int).toNat [u0]).flatten = List.replicate s.2 u0 := by
        rw [Int.toNat_natCast]
        induction s.2 with
        | zero => rfl
        | succ m ih => rw [List.replicate_succ, List.flatten_cons, ih]; rfl
      rw [efl]
      have s6 := same_new hR (.lst (List.replicate s.2 u0))
      refine ⟨R, _, rfl, .inl ⟨SqL.of upd_same, fun l9 hl9 => ?_⟩⟩
      have s7 := same_new hl9 (.tup (List.replicate s.2 u0))
      have s27 := s3.trans (s4.trans (s5.trans (s6.trans s7)))
      have s17 := s2.trans s27
      have rk := rep_kd hn1 hz1 s.1 s.2 hsm.2
      refine cat_mk (n := s.1) (ks := List.replicate s.2 k0) (.inl (.inl (s17 _ _ upd_same))) (.inl (.inl upd_same)) (kps_rep (hk0 (stay_same s27)) s.2) (by rw [List.length_replicate]; exact hsm.2) (nam_len hsm.1) fun H' r s' hr' => ?_
      have sA := st1.trans (s17.trans s')
      exact q H' _ _ (b10.trans (bar_same sA)) (pn10.same sA) hr' (mkK_of (by rw [List.length_replicate]; exact hsm.2) (by rw [List.length_replicate]; exact hsub s hs3) fun k hk => by rw [(List.mem_replicate.mp hk).2]; exact hof0) (mkK_nm _ _).2 ⟨s, hs3, (mkK_nm _ _).1.symm⟩ (by omega) (by omega)
    · have hsz : (mkK s.1 ks).size ≤ 6 := by
        have : ¬ (6 : Int) < ((ys.length : Nat) : Int) := fun z => c (decide_eq_true z)
        omega
      exact ⟨_, rfl, q H10 _ _ (b9.trans (bar_same s10)) (pn9.same s10) (hr9.stay (stay_same s10)) hof (mkK_nm _ _).2 ⟨s, hs3, (mkK_nm _ _).1.symm⟩ hsz nd7⟩
end
end N

namespace N
open PySem PySem.Spec PyProof.Rows L2
/-- a loop over zip of two tuples, whatever their lengths -/
theorem for_zipU {K : PySem.W.Frag} {a b : Addr} {xs ys : List V} {g : TG} {tb : TS} {D : Ends} {σ : L2.St} {H : Hp} (Pv : Nat → L2.St → Hp → Prop) (h0 : Pv 0 σ H) (hq : ∀ i σ H, Pv i σ H → SqT K H a xs ∧ SqT K H b ys)
    (hs : ∀ (i : Nat) (x y : V) (T : Addr) (σ : L2.St) (H : Hp), xs[i]? = some x → ys[i]? = some y → Pv i σ H → H T = none → g (.ref T) σ (upd H T (.tup [x, y])) fun σ2 H2 => tb { D with nx := Pv (i + 1), ct := Pv (i + 1), bk := D.nx } σ2 H2) (hd : ∀ σ H, Pv (min xs.length ys.length) σ H → D.nx σ H) :
    ∃ W : Nat → Nat → L2.St → Hp → Prop, (∃ m, W 0 m σ H) ∧ ∀ i m σ H, W i m σ H →
      ((RZ.ItzT K a b).stop i H ∧ D.nx σ H) ∨ ((RZ.ItzT K a b).go i H ∧ ∃ N : L2.St → Hp → Prop, (∀ σ' H', N σ' H' → ∃ m', m' < m ∧ W (i + 1) m' σ' H') ∧ ∀ v H', (RZ.ItzT K a b).yld i H v H' → g v σ H' fun σ2 H2 => tb { D with nx := N, ct := N, bk := D.nx } σ2 H2) := by
  refine ⟨fun i m σ H => m = min xs.length ys.length - i ∧ i ≤ min xs.length ys.length ∧ Pv i σ H, ⟨min xs.length ys.length, rfl, Nat.zero_le _, h0⟩, ?_⟩
  rintro i m σ H ⟨rfl, hi, p⟩
  obtain ⟨qx, qy⟩ := hq i σ H p
  by_cases hlt : i < min xs.length ys.length
  · have hlt1 : i < xs.length := by omega
    have hx : xs[i]? = some xs[i] := List.getElem?_eq_getElem hlt1
    have hlt2 : i < ys.length := by omega
    have hy : ys[i]? = some ys[i] := List.getElem?_eq_getElem hlt2
    refine .inr ⟨⟨xs, ys, _, _, qx, qy, hx, hy⟩, Pv (i + 1), fun σ' H' p' => ⟨min xs.length ys.length - (i + 1), by omega, rfl, hlt, p'⟩, fun v H' y => ?_⟩
    obtain ⟨T, x', y', rfl, hT, rfl, f1, f2⟩ := y
    exact hs i x' y' T σ H (f1 xs qx) (f2 ys qy) p hT
  · have e : i = min xs.length ys.length := by omega
    exact .inl ⟨⟨xs, ys, qx, qy, by omega⟩, hd σ H (e ▸ p)⟩
/-! ### the law's marks -/
def vI (v : Str) : Int := if v = "out" then 1 else if v = "in" then -1 else 0
def sgm (m : Int) : Prop := m = 1 ∨ m = -1 ∨ m = 0
/-- the program's sign of the law's -/
def sgS (m : Int) : Str := if m = 1 then "+" else if m = -1 then "-" else "+-"
theorem vI_cases (v : Str) : vI v = 1 ∨ vI v = -1 ∨ vI v = 0 := by
  unfold vI
  split
  · exact .inl rfl
  · split
    · exact .inr (.inl rfl)
    · exact .inr (.inr rfl)
theorem sgm_mul {m : Int} (v : Str) (h : sgm m) : sgm (m * vI v) := by
  unfold sgm at *
  rcases h with rfl | rfl | rfl <;> rcases vI_cases v with e | e | e <;> rw [e] <;> decide
theorem sgS_mul {m : Int} {v : Str} (h : sgm m) (hv : v ∈ varz) : sgS (m * vI v) = passS (sgS m) v := by
  unfold sgm at h
  simp only [varz, List.mem_cons, List.not_mem_nil, or_false] at hv
  rcases h with rfl | rfl | rfl <;> rcases hv with rfl | rfl | rfl <;> decide +kernel
/-- the marks in a kind; of a name that is not there, none -/
def Kd.mks (vr : Str → List Str) (m : Int) : Kd → List (Str × Int)
  | .L c => [(c, m)]
  | .C0 _ => []
  | .C1 n a => match vr n with
    | [] => []
    | v :: _ => a.mks vr (m * vI v)
  | .C2 n a b => match vr n with
    | [] => []
    | [v] => a.mks vr (m * vI v)
    | v :: u :: _ => a.mks vr (m * vI v) ++ b.mks vr (m * vI u)
def subsI (vr : Str → List Str) (m : Int) (k : Kd) : List (Kd × Int) := (k.args.zip (vr k.nm)).map fun q => (q.1, m * vI q.2)
theorem mks_C {vr : Str → List Str} {m : Int} : ∀ {k : Kd}, k.isC = true → k.mks vr m = (subsI vr m k).flatMap fun p => p.1.mks vr p.2
  | .C0 n, _ => rfl
  | .C1 n a, _ => by
    show (match vr n with | [] => [] | v :: _ => a.mks vr (m * vI v)) = (([a].zip (vr n)).map fun q => (q.1, m * vI q.2)).flatMap fun p => p.1.mks vr p.2
    cases vr n <;> simp
  | .C2 n a b, _ => by
    show (match vr n with | [] => [] | [v] => a.mks vr (m * vI v) | v :: u :: _ => a.mks vr (m * vI v) ++ b.mks vr (m * vI u)) = (([a, b].zip (vr n)).map fun q => (q.1, m * vI q.2)).flatMap fun p => p.1.mks vr p.2
    match vr n with
    | [] => simp
    | [v] => simp
    | v :: u :: _ => simp
theorem mks_len (vr : Str → List Str) : ∀ (k : Kd) (m : Int), (k.mks vr m).length ≤ k.nds
  | .L c, s => by simp [Kd.mks, Kd.nds]
  | .C0 n, s => by simp [Kd.mks, Kd.nds]
  | .C1 n a, s => by
    simp only [Kd.mks, Kd.nds]
    split
    · simp
    · rename_i v _ _
      have := mks_len vr a (s * vI v)
      omega
  | .C2 n a b, s => by
    simp only [Kd.mks, Kd.nds]
    split
    · simp
    · rename_i v _
      have := mks_len vr a (s * vI v)
      omega
    · rename_i v u _ _
      have := mks_len vr a (s * vI v)
      have := mks_len vr b (s * vI u)
      rw [List.length_append]
      omega
theorem mks_sgm (vr : Str → List Str) : ∀ (k : Kd) (m : Int), sgm m → ∀ q ∈ k.mks vr m, sgm q.2
  | .L c, s, h, q, hq => by
    simp only [Kd.mks, List.mem_singleton] at hq
    rw [hq]
    exact h
  | .C0 n, s, h, q, hq => by simp [Kd.mks] at hq
  | .C1 n a, s, h, q, hq => by
    simp only [Kd.mks] at hq
    split at hq
    · cases hq
    · exact mks_sgm vr a _ (sgm_mul _ h) q hq
  | .C2 n a b, s, h, q, hq => by
    simp only [Kd.mks] at hq
    split at hq
    · cases hq
    · exact mks_sgm vr a _ (sgm_mul _ h) q hq
    · rcases List.mem_append.mp hq with z | z
      · exact mks_sgm vr a _ (sgm_mul _ h) q z
      · exact mks_sgm vr b _ (sgm_mul _ h) q z
/-- a letter and a law's sign -/
def Ip (K : PySem.W.Frag) (H : Hp) (v : V) (p : Str × Int) : Prop := ∃ a, v = .ref a ∧ SqT K H a [.str p.1, .int p.2]
theorem Ip.stay {K : PySem.W.Frag} {H H' : Hp} {v : V} {p : Str × Int} (s : Stay K H H') (h : Ip K H v p) : Ip K H' v p := by
  obtain ⟨a, e, q⟩ := h
  exact ⟨a, e, s.tup _ _ q⟩
/-- classes by their names -/
def OwD (K : PySem.W.Frag) (H : Hp) (d : Addr) (cs : List Cls) : Prop := ∃ kvs : List (Key × V), H d = some (.dK kvs) ∧ kvs.map Prod.fst = (cs.map Cls.nm).map Sum.inr ∧ Paired (fun (kv : Key × V) c => Cp K H kv.2 c) kvs cs
theorem OwD.same {K : PySem.W.Frag} {H H' : Hp} {d : Addr} {cs : List Cls} (s : Same H H') (h : OwD K H d cs) : OwD K H' d cs := by
  obtain ⟨kvs, e, k, p⟩ := h
  exact ⟨kvs, s _ _ e, k, Paired.mapP p fun _ _ z => z.stay (stay_same s)⟩
section
variable {P : Program} {w : World} {K : PySem.W.Frag} {mg : Str → Option Value} {base : Heap}
def spOwn (K : PySem.W.Frag) : Sp := fun vs H Q _ => ∃ (a : Addr) (xs : List V) (cs : List Cls), vs = [.ref a] ∧ SqL K H a xs ∧ Paired (Cp K H) xs cs ∧ cs.length ≤ 100 ∧ (cs.map Cls.nm).Nodup ∧ ∀ H' d, Same H H' → H d = none → OwD K H' d cs → Q (.ref d) H'
theorem ok_own (D : DefAt K mg "_law_own" s_Lown ["_law_classes_here"]) : Cal P w K mg base 1 "_law_own" ["_law_classes_here"] (spOwn K) := by
  refine D.cal sc_Lown (fun vs H Q E h => ?_) (fun f cdv A outer s H vs Q E hr h => ?_)
  · obtain ⟨a, xs, cs, rfl, _⟩ := h
    rfl
  obtain ⟨a, xs, cs, rfl, hq, hp, hcl, nd, q⟩ := h
  refine ⟨_, pss_cons (ps_set (i := 1) sc_Lown.nd rfl (by first | exact Or.inl rfl | exact Or.inr rfl) pe_dnewK)
    (pss_cons (ps_for (passes_of rfl) rfl (pi_list (pv 0)) (pg_name (i := 2) sc_Lown.nd rfl (by first | exact Or.inl rfl | exact Or.inr rfl))
      (pss_one (ps_dput (hug hr) (pv 1) (pe_ix ix_tup (pv 2) pe_int (fun _ _ => rfl)) (pv 2) rfl)))
    (pss_one (ps_ret (pv 1)))), ?_⟩
  have hxl : xs.length = cs.length := Paired.length hp
  intro d hd
  refine ⟨_, rfl, a, rfl, ⟨xs, (same_new hd _).seq hq⟩, ?_⟩
  refine for_list (K := K) (a := a) (xs := xs) (fun j σ H' => ∃ y2 kvs, σ = [some (.ref a), some (.ref d), y2] ∧ Same H H' ∧ H' d = some (.dK kvs) ∧ kvs.map Prod.fst = ((cs.take j).map Cls.nm).map Sum.inr ∧ Paired (fun (kv : Key × V) c => Cp K H kv.2 c) kvs (cs.take j))
    ⟨_, [], rfl, same_new hd _, upd_same, rfl, .nil⟩ (fun j σ H' _ ⟨_, _, _, sm, _⟩ => sm.seq hq) (fun j x σ H' hxj ⟨y2, kvs, eσ, sm, hd', hk, hpk⟩ => ?_) (fun σ H' ⟨y2, kvs, eσ, sm, hd', hk, hpk⟩ => ?_)
  · subst eσ
    obtain ⟨c, hc1, hc2⟩ := pairedAt hp hxj
    have hj : j < cs.length := (List.getElem?_eq_some_iff.mp hc1).1
    obtain ⟨ac, ap, ak, am, rfl, qc, _⟩ := id hc2
    have hkl : kvs.length = j := by rw [Paired.length hpk, List.length_take]; omega
    refine ⟨_, rfl, _, rfl, _, rfl, ac, _, 0, _, rfl, rfl, (stay_same sm).tup _ _ qc, atI_nat (j := 0) rfl, d, _, rfl, DPut.k (k := Sum.inr c.nm) hd' (Nat.lt_of_le_of_lt (show _ ≤ 100000 by omega) (by decide)), ?_⟩
    have fr : (Sum.inr c.nm : Key) ∉ kvs.map Prod.fst := fun z => by
      rw [hk] at z
      obtain ⟨m, hm, e⟩ := List.mem_map.mp z
      cases Sum.inr.inj e
      have h2 : ((cs.take (j + 1)).map Cls.nm).Nodup := nd.sublist ((List.take_sublist _ _).map _)
      rw [take_one' hc1, List.map_append, List.nodup_append] at h2
      exact h2.2.2 _ hm _ (List.mem_singleton.mpr rfl) rfl
    rw [put_fresh fr]
    refine ⟨_, kvs ++ [(Sum.inr c.nm, .ref ac)], rfl, same_mut sm hd, upd_same, ?_, ?_⟩
    · rw [take_one' hc1, List.map_append, List.map_append, List.map_append, hk]
      rfl
    · rw [take_one' hc1]
      exact paired_snoc2 hpk hc2
  · subst eσ
    rw [hxl, List.take_length] at hk hpk
    exact ⟨_, rfl, q H' d sm hd ⟨kvs, hd', hk, Paired.mapP hpk fun _ _ z => z.stay (stay_same sm)⟩⟩
end
end N

namespace N
open PySem PySem.Spec PyProof.Rows L2
/-! ### _law_marks -/
/-- {'out': 1, 'in': -1}.get(pair[1], 0), the pair at the slot j -/
def tVG (K : PySem.W.Frag) (j : Nat) : TE := fun σ H Q => ∃ (a : Addr) (l v : Str), σ[j]? = some (some (.ref a)) ∧ SqT K H a [.str l, .str v] ∧ ∀ H2, Same H H2 → Q (.int (vI v)) H2
theorem vI_val (v : Str) : (valV [((Sum.inr "out" : Key), V.int 1), (Sum.inr "in", .int (-1))] (Sum.inr v)).getD (.int 0) = .int (vI v) := by
  unfold vI
  by_cases h1 : v = "out"
  · subst h1
    decide +kernel
  · rw [if_neg h1, valV_neg (p := ((Sum.inr "out" : Key), V.int 1)) (fun z => h1 (Sum.inr.inj z).symm)]
    by_cases h2 : v = "in"
    · subst h2
      decide +kernel
    · rw [if_neg h2, valV_neg (p := ((Sum.inr "in" : Key), V.int (-1))) (fun z => h2 (Sum.inr.inj z).symm)]
      rfl
theorem tVG_ok {K : PySem.W.Frag} {j : Nat} {σ : L2.St} {H : Hp} {Q : VK} (z : tVG K j σ H Q) :
    tDGet2 (tDisp [(tC (.str "out"), tC (.int 1)), (tC (.str "in"), tUn (rU fun i => .int (-i)) (tC (.int 1)))]) (tOp (rIxT K) (tVar j) (tC (.int 1))) (tC (.int 0)) σ H Q := by
  obtain ⟨a, l, v, e, hq, q⟩ := z
  intro p hp
  refine ⟨1, rfl, upd_same, [(Sum.inr "out", .int 1), (Sum.inr "in", .int (-1))], rfl, by decide, ?_⟩
  rw [upd_upd]
  have s1 := same_new hp (.dK (mergeK [] [((Sum.inr "out" : Key), V.int 1), (Sum.inr "in", .int (-1))]))
  refine ⟨p, rfl, .inl ⟨_, .inl upd_same⟩, _, e, a, _, 1, .str v, rfl, rfl, (stay_same s1).tup _ _ hq, atI_nat (j := 1) rfl, _, .inl ⟨_, Sum.inr v, .inl upd_same, rfl, rfl⟩, ?_⟩
  have em : mergeK [] [((Sum.inr "out" : Key), V.int 1), (Sum.inr "in", .int (-1))] = [((Sum.inr "out" : Key), V.int 1), (Sum.inr "in", .int (-1))] := by decide +kernel
  rw [em, vI_val]
  rw [em] at s1
  exact q _ s1
theorem sum_mem {l : List Nat} {n : Nat} : n ∈ l → n ≤ l.sum := by
  induction l with
  | nil => intro h; cases h
  | cons a l ih =>
    intro h
    rw [List.sum_cons]
    rcases List.mem_cons.mp h with rfl | h
    · omega
    · have := ih h
      omega
theorem nds_arg {k a : Kd} (h : k.isC = true) (ha : a ∈ k.args) : a.nds < k.nds := by
  have h1 := nds_args h
  have h2 : a.nds ≤ (k.args.map Kd.nds).sum := sum_mem (List.mem_map_of_mem ha)
  omega
theorem args_le2 : ∀ k : Kd, k.args.length ≤ 2
  | .L _ => by simp [Kd.args]
  | .C0 _ => by simp [Kd.args]
  | .C1 _ _ => by simp [Kd.args]
  | .C2 _ _ _ => by simp [Kd.args]
theorem subs_len (vr : Str → List Str) (m : Int) (k : Kd) : (subsI vr m k).length = min k.args.length (vr k.nm).length := by
  unfold subsI
  rw [List.length_map, List.length_zip]
theorem vrOf_none {cs : List Cls} {n : Str} (h : n ∉ cs.map Cls.nm) : vrOf cs n = [] := by
  unfold vrOf
  rw [List.find?_eq_none.mpr fun c hc z => h (by rw [← eq_of_beq z]; exact List.mem_map_of_mem hc)]
  rfl
section
variable {P : Program} {w : World} {K : PySem.W.Frag} {mg : Str → Option Value} {base : Heap}
def spMks (K : PySem.W.Frag) (M : Nat) : Sp := fun vs H Q _ => ∃ (v : V) (k : Kd) (m : Int) (d : Addr) (cs : List Cls), vs = [v, .int m, .ref d] ∧ OwD K H d cs ∧ (cs.map Cls.nm).Nodup ∧
  Kp K H v k ∧ k.nds ≤ M ∧ k.nds ≤ 1000 ∧ sgm m ∧ ∀ H' l ws, Same H H' → H' l = some (.lst ws) → H l = none → Paired (Ip K H') ws (k.mks (vrOf cs) m) → Q (.ref l) H'
theorem marks_none (D : DefAt K mg "_law_marks" s_Lmarks ["_law_kind", "_law_mark", "_law_own_here"]) : Cal P w K mg base 1 "_law_marks" ["_law_kind", "_law_mark", "_law_own_here"] (spMks K 0) := by
  refine D.cal sc_Lmarks (fun vs H Q E h => ?_) (fun f cdv A outer s H vs Q E hr h => ?_)
  · obtain ⟨v, k, m, d, cs, rfl, _⟩ := h
    rfl
  obtain ⟨v, k, m, d, cs, rfl, _, _, _, hn, _⟩ := h
  have := Kd.nds_pos k
  omega
theorem marks_step {M : Nat} (G : Glo mg) (hzip : mg "zip" = none) (CS : Cal P w K mg base (M + 1) "_law_marks" ["_law_kind", "_law_mark", "_law_own_here"] (spMks K M))
    (D : DefAt K mg "_law_marks" s_Lmarks ["_law_kind", "_law_mark", "_law_own_here"]) : Cal P w K mg base (M + 2) "_law_marks" ["_law_kind", "_law_mark", "_law_own_here"] (spMks K (M + 1)) := by
  refine D.cal sc_Lmarks (fun vs H Q E h => ?_) (fun f cdv A outer s H vs Q E hr h => ?_)
  · obtain ⟨v, k, m, d, cs, rfl, _⟩ := h
    rfl
  obtain ⟨v, k, m, d, cs, rfl, hd, nd, hk, hn, hn1, hm, q⟩ := h
  refine ⟨_, pss_cons (ps_if (pt_val (pe_isi G.isinstance G.str b_str rfl rfl (pv 0)))
      (pss_one (ps_ret (pe_lst (pa_cons (pe_tup (pa_cons (pv 0) (pa_cons (pv 1) pa_nil))) pa_nil)))) pss_nil)
    (pss_cons (ps_set (i := 3) sc_Lmarks.nd rfl (by first | exact Or.inl rfl | exact Or.inr rfl) (pe_lst pa_nil))
    (pss_cons (ps_for (passes_of rfl) rfl (RZ.pi_zipA rfl hzip (pa_cons (pe_ix ix_tup (pe_dget2 (hug hr) (pv 2) (pe_ix ix_tup (pv 0) pe_int (fun _ _ => rfl)) (pe_tup (pa_cons pe_str (pa_cons (pe_tup pa_nil) pa_nil))) ⟨rfl, rfl, rfl, rfl⟩) pe_int (fun _ _ => rfl)) (pa_cons (pe_slice sl_tup (pv 0) (po_some pe_int) po_none) pa_nil))) (pg_tup (by rfl) (pgs_cons (pg_name (i := 4) sc_Lmarks.nd rfl (Or.inl rfl)) (pgs_cons (pg_name (i := 5) sc_Lmarks.nd rfl (Or.inl rfl)) pgs_nil)))
      (pss_cons (ps_set (i := 6) sc_Lmarks.nd rfl (by first | exact Or.inl rfl | exact Or.inr rfl) (peOf (te := tVG K 4) (pe_dget2 (hug hr) (pe_disp (pps_cons pe_str pe_int (pps_cons pe_str (pe_un un_neg pe_int) pps_nil)) (by rfl) (by rfl) (fun z => by cases z) (by decide)) (pe_ix ix_tup (pv 4) pe_int (fun _ _ => rfl)) pe_int ⟨rfl, rfl, rfl, rfl⟩) (fun σ H Q z => tVG_ok z)))
      (pss_one (ps_expr (pe_bm PySem.F.plainAttrs_list PySem.F.slot_list_extend PySem.F.type_list_extend mt_extend (pv 3) (pa_cons (pc CS hr rfl (pa_cons (pv 5) (pa_cons (pe_op op_mul (pv 1) (pv 6)) (pa_cons (pv 2) pa_nil)))) pa_nil))))))
    (pss_one (ps_ret (pv 3))))), ?_⟩
  cases hc : k.isC with
  | false =>
    obtain ⟨rfl, hnl⟩ := kp_L hk hc
    have ekL : k = .L k.nm := by cases k <;> first | rfl | cases hc
    refine ⟨_, rfl, isi_q (b := true) (.base (.str _)) (kit_ty (by decide +kernel)) ⟨_, rfl, iteE rfl ?_⟩⟩
    refine ⟨_, rfl, _, rfl, by show 2 ≤ sizeLine; decide, fun t ht => ⟨by show 1 ≤ sizeLine; decide, fun l hl => ?_⟩⟩
    have s1 := same_new ht (.tup [.str k.nm, .int m])
    refine q _ l _ (s1.trans (same_new hl _)) upd_same (s1.free hl) ?_
    rw [ekL]
    exact .cons ⟨t, rfl, (stay_same (same_new hl _)).tup _ _ (.inl (.inl upd_same))⟩ .nil
  | true =>
    obtain ⟨ak, zs, rfl, hkq, hnl, hz⟩ := kp_C hk hc
    have hzl : zs.length = k.args.length := Kps.length hz
    have ha2 := args_le2 k
    refine ⟨_, rfl, isi_q (b := false) (SqT.ty hkq) (kit_ty (by decide +kernel)) ⟨_, rfl, iteN rfl ?_⟩⟩
    refine ⟨Nat.zero_le _, fun l0 hl0 => ?_⟩
    have s1 := same_new hl0 (.lst [])
    obtain ⟨kvs, hkv, hkk, hkp⟩ := hd.same s1
    refine ⟨_, rfl, d, rfl, .inl ⟨_, .inl hkv⟩, _, rfl, ak, _, 0, .str k.nm, rfl, rfl, (stay_same s1).tup _ _ hkq, atI_nat (j := 0) rfl, ?_⟩
    refine ⟨Nat.zero_le _, fun t1 ht1 => ⟨by show 2 ≤ sizeLine; decide, fun t2 ht2 => ?_⟩⟩
    have s2 := same_new ht1 (.tup [])
    have s3 := same_new ht2 (.tup [V.str "", .ref t1])
    have s13 := s1.trans (s2.trans s3)
    have q2 : SqT K (upd (upd (upd H l0 (.lst [])) t1 (.tup [])) t2 (.tup [V.str "", .ref t1])) t2 [V.str "", .ref t1] := .inl (.inl upd_same)
    have q1 : SqT K (upd (upd (upd H l0 (.lst [])) t1 (.tup [])) t2 (.tup [V.str "", .ref t1])) t1 [] := .inl (.inl (s3 _ _ upd_same))
    have hl3 := s3 _ _ (s2 _ _ (upd_same (H := H) (a := l0) (o := .lst [])))
    have hkv3 := s3 _ _ (s2 _ _ hkv)
    have hkp3 := Paired.mapP hkp fun _ _ z => z.stay (stay_same (K := K) (s2.trans s3))
    refine ⟨_, .inl ⟨kvs, Sum.inr k.nm, .inl hkv3, rfl, rfl⟩, ?_⟩
    generalize upd (upd (upd H l0 (.lst [])) t1 (.tup [])) t2 (.tup [V.str "", .ref t1]) = H3 at s13 q1 q2 hl3 hkv3 hkp3
    obtain ⟨b, bs, pa, ys, ps, eb, hb, hb1, hys, hps, hvr⟩ : ∃ (b : Addr) (bs : List V) (pa : Addr) (ys : List V) (ps : List (Str × Str)), (valV kvs (Sum.inr k.nm)).getD (.ref t2) = .ref b ∧ SqT K H3 b bs ∧ bs[1]? = some (.ref pa) ∧ SqT K H3 pa ys ∧ Paired (Pp K H3) ys ps ∧ ps.map Prod.snd = vrOf cs k.nm := by
      by_cases hin : k.nm ∈ cs.map Cls.nm
      · obtain ⟨c, hcm, vc, ecn, hv, hcp⟩ := dct_val (F := fun H v c => Cp K H v c) hkk hkp3 hin
        obtain ⟨ac, ap, ak2, am, rfl, qc, ⟨ys, hy, hyp⟩, _, _⟩ := hcp
        exact ⟨ac, _, ap, ys, c.ps, by rw [hv]; rfl, qc, rfl, hy, hyp, by rw [← ecn]; exact (vrOf_eq nd hcm).symm⟩
      · have hv : valV kvs (Sum.inr k.nm) = none := by
          unfold valV
          rw [List.find?_eq_none.mpr fun p hp z => hin ?_]
          · rfl
          · have h1 : p.1 ∈ kvs.map Prod.fst := List.mem_map_of_mem hp
            rw [hkk, of_decide_eq_true z] at h1
            obtain ⟨n, hn', e⟩ := List.mem_map.mp h1
            rw [← Sum.inr.inj e]
            exact hn'
        exact ⟨t2, _, t1, [], [], by rw [hv]; rfl, q2, rfl, q1, .nil, by rw [vrOf_none hin]; rfl⟩
    refine ⟨b, bs, 1, .ref pa, eb, rfl, hb, atI_nat (j := 1) hb1, ?_⟩
    refine ⟨_, rfl, 1, rfl, ak, _, rfl, (stay_same s13).tup _ _ hkq, cut_tail_ne _ (by simp), fun p hpn => ?_⟩
    rw [cut_tail, show List.drop 1 (V.str k.nm :: zs) = zs from rfl]
    have sp := same_new hpn (.tup zs)
    have s04 := s13.trans sp
    have hpz : SqT K (upd H3 p (.tup zs)) p zs := .inl (.inl upd_same)
    have hys4 := (stay_same (K := K) sp).tup _ _ hys
    have hps4 := Paired.mapP hps fun _ _ z => z.stay (stay_same (K := K) sp)
    have hl4 := sp _ _ hl3
    generalize upd H3 p (.tup zs) = H4 at s04 hpz hys4 hps4 hl4
    have hz4 : Kps K H4 zs k.args := ThAll.stay (stay_same s04) hz
    have hyl : ys.length = (vrOf cs k.nm).length := by rw [Paired.length hps4, ← hvr, List.length_map]
    refine ⟨pa, p, ys, zs, rfl, .inr ⟨hys4, hpz, ?_⟩⟩
    refine for_zipU (xs := ys) (ys := zs) (fun i σ2 H2 => ∃ ws y4 y5 y6, σ2 = [some (.ref ak), some (.int m), some (.ref d), some (.ref l0), y4, y5, y6] ∧ Same H H2 ∧ Stay K H4 H2 ∧ H2 l0 = some (.lst ws) ∧ ws.length ≤ 1000 * i ∧ Paired (Ip K H2) ws (((subsI (vrOf cs) m k).take i).flatMap fun p => p.1.mks (vrOf cs) p.2))
      ⟨[], _, _, _, rfl, s04, Stay.refl _, hl4, Nat.zero_le _, .nil⟩ (fun i σ2 H2 ⟨_, _, _, _, _, _, st, _⟩ => ⟨st.tup _ _ hys4, st.tup _ _ hpz⟩) (fun i x y T σ2 H2 hx hy ⟨ws, y4, y5, y6, eσ, sm, st, hl', hwl, hw⟩ hT => ?_) (fun σ2 H2 ⟨ws, y4, y5, y6, eσ, sm, st, hl', hwl, hw⟩ => ?_)
    · subst eσ
      obtain ⟨kk, hk1, hk2⟩ := Kps.at (ThAll.stay st hz4) hy
      obtain ⟨pp, hp1, ⟨u, rfl, hu⟩⟩ := pairedAt hps4 hx
      have hkm := List.mem_of_getElem? hk1
      have hi : i < zs.length := (List.getElem?_eq_some_iff.mp hy).1
      have hkl := nds_arg hc hkm
      have sT := same_new hT (.tup [.ref u, y])
      refine ⟨T, _, rfl, .inl (.inl upd_same), rfl, .ref u, [y], rfl, y, [], rfl, rfl, ?_⟩
      refine ⟨u, pp.1, pp.2, rfl, (st.trans (stay_same sT)).tup _ _ hu, fun H5 s5 => ?_⟩
      have hl5 := s5 _ _ (sT _ _ hl')
      have s25 := sT.trans s5
      refine ⟨_, rfl, .inl ⟨rfl, _, SqL.of hl5⟩, _, rfl, _, rfl, _, rfl, m, vI pp.2, rfl, rfl, .inl ⟨by unfold sgm at hm; omega, by unfold sgm at hm; omega⟩, _, rfl, ?_⟩
      refine ⟨y, kk, m * vI pp.2, d, cs, rfl, hd.same (sm.trans s25), nd, Th.stay (stay_same s25) hk2, by omega, by omega, sgm_mul _ hm, fun H6 l2 ws2 s6 hl2 hl2f hw2 => ?_⟩
      have hl2l : ws2.length ≤ 1000 := by
        have h1 := Paired.length hw2
        have h2 := mks_len (vrOf cs) kk (m * vI pp.2)
        omega
      have hl6 := s6 _ _ hl5
      refine ⟨l0, l2, ws, ws2, rfl, rfl, hl6, hl2, sz5 (by omega), ?_⟩
      have st6 : Stay K H6 (upd H6 l0 (.lst (ws ++ ws2))) := stay_lst hl6
      have esub : (subsI (vrOf cs) m k)[i]? = some (kk, m * vI pp.2) := by
        unfold subsI
        rw [List.getElem?_map, ← hvr, show (k.args.zip (ps.map Prod.snd))[i]? = some (kk, pp.2) from List.getElem?_zip_eq_some.mpr ⟨hk1, by rw [List.getElem?_map, hp1]; rfl⟩]
        rfl
      refine ⟨ws ++ ws2, _, _, _, rfl, same_mut (sm.trans (s25.trans s6)) hl0, (st.trans (stay_same (s25.trans s6))).trans st6, upd_same, by rw [List.length_append]; omega, ?_⟩
      rw [take_one' esub, List.flatMap_append, List.flatMap_singleton]
      exact pairs_app (Paired.mapP hw fun _ _ z => z.stay ((stay_same (s25.trans s6)).trans st6)) (Paired.mapP hw2 fun _ _ z => z.stay st6)
    · subst eσ
      refine ⟨_, rfl, q _ l0 ws sm hl' hl0 ?_⟩
      have esl : min ys.length zs.length = (subsI (vrOf cs) m k).length := by
        rw [subs_len, hyl, hzl, Nat.min_comm]
      rw [esl, List.take_length] at hw
      rw [mks_C hc]
      exact hw
theorem ok_marks (G : Glo mg) (hzip : mg "zip" = none) (D : DefAt K mg "_law_marks" s_Lmarks ["_law_kind", "_law_mark", "_law_own_here"]) : ∀ M : Nat, Cal P w K mg base (M + 1) "_law_marks" ["_law_kind", "_law_mark", "_law_own_here"] (spMks K M)
  | 0 => marks_none D
  | M + 1 => marks_step G hzip (ok_marks G hzip D M) D
end
end N

namespace N
open PySem PySem.Spec PyProof.Rows L2
/-! ### _law_row -/
theorem ptOf {X : Cx} {e : Expr} {t t' : TT} (h : PT X e t') (q : ∀ σ H Q, t σ H Q → t' σ H Q) : PT X e t := ⟨fun pins s σ H Q I z => h.run pins s σ H Q I (q σ H Q z)⟩
/-- pair[0] == letter -/
def tEqL (K : PySem.W.Frag) : TT := fun σ H Q => ∃ (a : Addr) (l lt : Str) (n : Int), σ[10]? = some (some (.ref a)) ∧ σ[7]? = some (some (.str lt)) ∧ SqT K H a [.str l, .int n] ∧ ∀ b, Q b H
/-- pair[1] -/
def tSnd (K : PySem.W.Frag) : TE := fun σ H Q => ∃ (a : Addr) (l : Str) (n : Int), σ[10]? = some (some (.ref a)) ∧ SqT K H a [.str l, .int n] ∧ Q (.int n) H
/-- let + (w, w, or nothing) -/
def tGrow (K : PySem.W.Frag) (w : Str) : TE := fun σ H Q => ∃ (hd ld : Addr) (ns : List Int) (vs : List Str), σ[8]? = some (some (.ref hd)) ∧ σ[9]? = some (some (.ref ld)) ∧ H hd = some (.lst (ns.map V.int)) ∧ H ld = some (.lst (vs.map V.str)) ∧ vs.length ≤ 10 ∧
  ∀ (H' : Hp) (l : Addr) (vs' : List Str), Same H H' → H' l = some (.lst (vs'.map V.str)) → H l = none → (∀ x ∈ vs', x ∈ vs ∨ x = w) → vs.length ≤ vs'.length → vs'.length ≤ vs.length + 2 → Q (.ref l) H'
theorem grow_end {K : PySem.W.Frag} {w : Str} {σ : L2.St} {H : Hp} {Q : VK} {ld : Addr} {vs : List Str} {b : Bool} (hl : H ld = some (.lst (vs.map V.str))) (hv : vs.length ≤ 10)
    (q : ∀ (H' : Hp) (l : Addr) (vs' : List Str), Same H H' → H' l = some (.lst (vs'.map V.str)) → H l = none → (∀ x ∈ vs', x ∈ vs ∨ x = w) → vs.length ≤ vs'.length → vs'.length ≤ vs.length + 2 → Q (.ref l) H') :
    if b = true then tLst (tCons (tC (.str w)) (tCons (tC (.str w)) tNil)) σ H (fun y H1 => rCat (.ref ld) y H1 Q) else tLst tNil σ H (fun y H1 => rCat (.ref ld) y H1 Q) := by
  cases b with
  | true =>
    rw [if_pos rfl]
    refine ⟨by show 2 ≤ sizeLine; decide, fun l hl1 => ?_⟩
    have s1 := same_new hl1 (.lst [V.str w, .str w])
    refine ⟨ld, l, _, _, rfl, rfl, s1 _ _ hl, upd_same, Nat.le_of_lt (Nat.lt_of_le_of_lt (show _ ≤ 100000 by simp only [List.length_map, List.length_cons, List.length_nil]; omega) (by decide)), fun l3 hl3 => ?_⟩
    refine q _ l3 (vs ++ [w, w]) (s1.trans (same_new hl3 _)) (by rw [upd_same, List.map_append]; rfl) (s1.free hl3) (fun x hx => ?_) (by rw [List.length_append]; omega) (by rw [List.length_append]; exact Nat.le_refl _)
    rcases List.mem_append.mp hx with h | h
    · exact .inl h
    · simp only [List.mem_cons, List.not_mem_nil, or_false, or_self] at h
      exact .inr h
  | false =>
    rw [if_neg (by decide)]
    refine ⟨by show 0 ≤ sizeLine; decide, fun l hl1 => ?_⟩
    have s1 := same_new hl1 (.lst [])
    refine ⟨ld, l, _, _, rfl, rfl, s1 _ _ hl, upd_same, Nat.le_of_lt (Nat.lt_of_le_of_lt (show _ ≤ 100000 by simp only [List.length_map, List.length_cons, List.length_nil]; omega) (by decide)), fun l3 hl3 => ?_⟩
    exact q _ l3 vs (s1.trans (same_new hl3 _)) (by rw [upd_same, List.append_nil]) (s1.free hl3) (fun x hx => .inl hx) (Nat.le_refl _) (by omega)
theorem ints_mark {ns : List Int} {f : V → Bool} (h : ∀ i, f (.int i) = true) : (ns.map V.int).all f = true := by
  rw [List.all_map]
  exact List.all_eq_true.mpr fun _ _ => h _
section
variable {P : Program} {w : World} {K : PySem.W.Frag} {mg : Str → Option Value} {base : Heap}
def spRow (K : PySem.W.Frag) : Sp := fun vs H Q _ => ∃ (p sl ll d : Addr) (ls : List Str) (lvs : List V) (lks : List Kd) (cs : List Cls), vs = [.ref p, .ref sl, .ref ll, .ref d] ∧ Pen H p ∧ sl ≠ p ∧ ll ≠ p ∧ SqL K H sl (ls.map V.str) ∧ ls.length ≤ 2 ∧ SqL K H ll lvs ∧ Kps K H lvs lks ∧ lks.length ≤ 2 ∧ (∀ k ∈ lks, k.nds ≤ 8) ∧
  OwD K H d cs ∧ (cs.map Cls.nm).Nodup ∧ ∀ H' r ps, Bar p H H' → Pen H' p → PsAt K H' r ps → ps.map Prod.fst = ls → (∀ q ∈ ps, q.2 ∈ varz) → Q (.ref r) H'
theorem ok_row (G : Glo mg) (CS : Cal P w K mg base 9 "_law_marks" ["_law_kind", "_law_mark", "_law_own_here"] (spMks K 8)) (CP : Cal P w K mg base 2 "_law_pick" ["_law_pen", "_law_some"] (spPick K))
    (D : DefAt K mg "_law_row" s_Lrow ["_law_pen", "_law_some", "_law_lot", "_law_own_here"]) : Cal P w K mg base 10 "_law_row" ["_law_pen", "_law_some", "_law_lot", "_law_own_here"] (spRow K) := by
  refine D.cal sc_Lrow (fun vs H Q E h => ?_) (fun f cdv A outer s H vs Q E hr h => ?_)
  · obtain ⟨p, sl, ll, d, ls, lvs, lks, cs, rfl, _⟩ := h
    rfl
  obtain ⟨p, sl, ll, d, ls, lvs, lks, cs, rfl, hp, nsl, nll, hS, hls, hL, hlk, hlk2, hnds, hd, nd, q⟩ := h
  have hr2 : RoomG 2 _ := hr.mono (by decide)
  refine ⟨_, pss_cons (ps_par (i := 4) (j := 5) (by rfl) sc_Lrow.nd rfl rfl (by decide) rfl rfl (pa_cons (pe_lst pa_nil) (pa_cons (pe_lst pa_nil) pa_nil)) (by rfl))
    (pss_cons (ps_for (passes_of rfl) rfl (pi_list (pv 2)) (pg_name (i := 6) sc_Lrow.nd rfl (by first | exact Or.inl rfl | exact Or.inr rfl))
      (pss_one (ps_expr (pe_bm PySem.F.plainAttrs_list PySem.F.slot_list_extend PySem.F.type_list_extend mt_extend (pv 4) (pa_cons (pc CS hr rfl (pa_cons (pv 6) (pa_cons pe_int (pa_cons (pv 3) pa_nil)))) pa_nil)))))
    (pss_cons (ps_for (passes_of rfl) rfl (pi_list (pv 1)) (pg_name (i := 7) sc_Lrow.nd rfl (by first | exact Or.inl rfl | exact Or.inr rfl))
      (pss_cons (ps_par (i := 8) (j := 9) (by rfl) sc_Lrow.nd rfl rfl (by decide) rfl rfl (pa_cons (pe_lc (own := [("_law_pair", 10)]) (g := gName 10) (tt := tEqL K) (te := tSnd K) rfl sc_Lrow.nd (pi_list (pv 4)) (blkOk_by (N := nm_Lrow) (sc := defScope s_Lrow) (own := [("_law_pair", 10)]) (by decide +kernel))
          (fun _ _ _ _ _ => pg_name (i := 10) sc_Lrow.nd rfl (Or.inl rfl))
          (fun _ _ _ _ _ => pts_one (ptOf (pt_cmpR op_eq (pe_ix ix_tup (pv 10) pe_int (fun _ _ => rfl)) (pv 7) (nomark _)) (fun σ H Q z => ?_)))
          (fun _ _ _ _ _ => peOf (pe_ix ix_tup (pv 10) pe_int (fun _ _ => rfl)) (fun σ H Q z => ?_))) (pa_cons (pe_lst (pa_cons pe_str pa_nil)) pa_nil)) (by rfl))
      (pss_cons (ps_set (i := 9) sc_Lrow.nd rfl (by first | exact Or.inl rfl | exact Or.inr rfl) (peOf (te := tGrow K "out") (pe_op op_cat (pv 9) (pe_ifExp (PW.pt (pw_and (pt_cmpR op_notIn_seq (pe_un un_neg pe_int) (pv 8) (by rfl)) (pw_and1 (pt_cmpR op_notIn_seq pe_int (pv 8) (by rfl))))) (pe_lst (pa_cons pe_str (pa_cons pe_str pa_nil))) (pe_lst pa_nil))) (fun σ H Q z => ?_)))
      (pss_cons (ps_set (i := 9) sc_Lrow.nd rfl (by first | exact Or.inl rfl | exact Or.inr rfl) (peOf (te := tGrow K "in") (pe_op op_cat (pv 9) (pe_ifExp (PW.pt (pw_and (pt_cmpR op_notIn_seq pe_int (pv 8) (by rfl)) (pw_and1 (pt_cmpR op_notIn_seq pe_int (pv 8) (by rfl))))) (pe_lst (pa_cons pe_str (pa_cons pe_str pa_nil))) (pe_lst pa_nil))) (fun σ H Q z => ?_)))
      (pss_one (ps_expr (pe_bm PySem.F.plainAttrs_list PySem.F.slot_list_append PySem.F.type_list_append mt_append (pv 5) (pa_cons (pe_tup (pa_cons (pv 7) (pa_cons (pc CP hr2 rfl (pa_cons (pv 0) (pa_cons (pv 9) pa_nil))) pa_nil))) pa_nil))))))))
    (pss_one (ps_ret (pe_callTy call_tuple_of (by rfl) G.tuple b_tuple (pa_cons (pv 5) pa_nil)))))), ?_⟩
  · obtain ⟨a, l, lt, n, e10, e7, hq, z⟩ := z
    exact ⟨_, e10, a, _, 0, _, rfl, rfl, hq, atI_nat (j := 0) rfl, _, e7, rfl, _, rfl, z _⟩
  · obtain ⟨a, l, n, e10, hq, z⟩ := z
    exact ⟨_, e10, a, _, 1, _, rfl, rfl, hq, atI_nat (j := 1) rfl, z⟩
  · obtain ⟨hd, ld, ns, vs, e8, e9, h8, h9, hv, q⟩ := z
    refine ⟨_, e9, 1, rfl, _, e8, hd, _, rfl, .inl (SqL.of h8), rfl, ints_mark fun _ => rfl, _, rfl, ite2 (fun c => ?_) (fun c => ?_)⟩
    · exact ⟨_, e8, hd, _, rfl, .inl (SqL.of h8), rfl, ints_mark fun _ => rfl, _, rfl, grow_end (K := K) h9 hv q⟩
    · exact grow_end (K := K) (b := false) h9 hv q
  · obtain ⟨hd, ld, ns, vs, e8, e9, h8, h9, hv, q⟩ := z
    refine ⟨_, e9, _, e8, hd, _, rfl, .inl (SqL.of h8), rfl, ints_mark fun _ => rfl, _, rfl, ite2 (fun c => ?_) (fun c => ?_)⟩
    · exact ⟨_, e8, hd, _, rfl, .inl (SqL.of h8), rfl, ints_mark fun _ => rfl, _, rfl, grow_end (K := K) h9 hv q⟩
    · exact grow_end (K := K) (b := false) h9 hv q
  have hll : lvs.length = lks.length := Kps.length hlk
  refine ⟨Nat.zero_le _, fun m0 hm0 => ⟨Nat.zero_le _, fun r0 hr0 => ⟨_, _, rfl, ?_⟩⟩⟩
  have s1 := same_new hm0 (.lst [])
  have s2 := same_new hr0 (.lst [])
  have s12 := s1.trans s2
  have hr0H : H r0 = none := s1.free hr0
  have nm : m0 ≠ p := fun e => by
    obtain ⟨_, _, _, e2, _⟩ := hp
    rw [e, e2] at hm0
    cases hm0
  have nr : r0 ≠ p := fun e => by
    obtain ⟨_, _, _, e2, _⟩ := hp
    rw [e, e2] at hr0H
    cases hr0H
  have nmr : m0 ≠ r0 := ne_of_none upd_same hr0
  have hm2 := s2 _ _ (upd_same (H := H) (a := m0) (o := .lst []))
  have hr2' := upd_same (H := upd H m0 (.lst [])) (a := r0) (o := .lst [])
  generalize upd (upd H m0 (.lst [])) r0 (.lst []) = H2 at s12 hm2 hr2'
  refine ⟨_, rfl, ll, rfl, ⟨lvs, s12.seq hL⟩, ?_⟩
  refine for_list (K := K) (a := ll) (xs := lvs) (fun i σ H' => ∃ ws y6 y7 y8 y9 y10, σ = [some (.ref p), some (.ref sl), some (.ref ll), some (.ref d), some (.ref m0), some (.ref r0), y6, y7, y8, y9, y10] ∧ Same H H' ∧ H' r0 = some (.lst []) ∧ H' m0 = some (.lst ws) ∧ ws.length ≤ 8 * i ∧ ∃ qs, Paired (Ip K H') ws qs)
    ⟨[], _, _, _, _, _, rfl, s12, hr2', hm2, Nat.zero_le _, [], .nil⟩ (fun i σ H' _ ⟨_, _, _, _, _, _, _, sm, _⟩ => sm.seq hL) (fun i x σ H' hx ⟨ws, y6, y7, y8, y9, y10, eσ, sm, hr', hm', hwl, qs, hw⟩ => ?_) (fun σ H' ⟨ws, y6, y7, y8, y9, y10, eσ, sm, hr', hm', hwl, qs, hw⟩ => ?_)
  · subst eσ
    obtain ⟨k, hk1, hk2⟩ := Kps.at (ThAll.stay (stay_same sm) hlk) hx
    have hi : i < lvs.length := (List.getElem?_eq_some_iff.mp hx).1
    have hkn := hnds k (List.mem_of_getElem? hk1)
    refine ⟨_, rfl, .inl ⟨rfl, _, SqL.of hm'⟩, _, rfl, _, rfl, x, k, 1, d, cs, rfl, hd.same sm, nd, hk2, hkn, by omega, .inl rfl, fun H3 l2 ws2 s3 hl2 hl2f hw2 => ?_⟩
    have h1 := Paired.length hw2
    have h2 := mks_len (vrOf cs) k 1
    have hm3 := s3 _ _ hm'
    refine ⟨m0, l2, ws, ws2, rfl, rfl, hm3, hl2, sz5 (by omega), ?_⟩
    have st3 : Stay K H3 (upd H3 m0 (.lst (ws ++ ws2))) := stay_lst hm3
    exact ⟨ws ++ ws2, _, _, _, _, _, rfl, same_mut (sm.trans s3) hm0, by rw [upd_ne (Ne.symm nmr)]; exact s3 _ _ hr', upd_same, by rw [List.length_append]; omega, _, pairs_app (Paired.mapP hw fun _ _ z => z.stay ((stay_same s3).trans st3)) (Paired.mapP hw2 fun _ _ z => z.stay st3)⟩
  · subst eσ
    have hwl2 : ws.length ≤ 16 := by omega
    have pn0 := hp.same sm
    have b0 : Bar p H H' := bar_same sm
    refine ⟨_, rfl, sl, rfl, ⟨ls.map V.str, sm.seq hS⟩, ?_⟩
    refine for_list (K := K) (a := sl) (xs := ls.map V.str) (fun i σ H3 => ∃ rs ps y6 y7 y8 y9 y10, σ = [some (.ref p), some (.ref sl), some (.ref ll), some (.ref d), some (.ref m0), some (.ref r0), y6, y7, y8, y9, y10] ∧ Bar p H H3 ∧ Pen H3 p ∧ Paired (Ip K H3) ws qs ∧ H3 m0 = some (.lst ws) ∧ H3 r0 = some (.lst rs) ∧ Paired (Pp K H3) rs ps ∧ ps.map Prod.fst = ls.take i ∧ ∀ q ∈ ps, q.2 ∈ varz)
      ⟨[], [], _, _, _, _, _, rfl, b0, pn0, hw, hm', hr', .nil, rfl, fun q h => (by cases h)⟩ (fun i σ H3 _ ⟨_, _, _, _, _, _, _, _, b3, _⟩ => bar_seq b3 nsl hS) (fun i x σ H3 hx ⟨rs, ps, z6, z7, z8, z9, z10, eσ, b3, pn3, hw3, hm3, hr3, hps, hfs, hvz⟩ => ?_) (fun σ H3 ⟨rs, ps, z6, z7, z8, z9, z10, eσ, b3, pn3, hw3, hm3, hr3, hps, hfs, hvz⟩ => ?_)
    · subst eσ
      obtain ⟨lt, hlt, rfl⟩ : ∃ lt, ls[i]? = some lt ∧ x = V.str lt := by
        rw [List.getElem?_map] at hx
        cases e : ls[i]? with
        | none => rw [e] at hx; cases hx
        | some l => rw [e] at hx; cases hx; exact ⟨l, rfl, rfl⟩
      have hi : i < ls.length := (List.getElem?_eq_some_iff.mp hlt).1
      have hrl : rs.length = i := by
        have h1 := Paired.length hps
        have h2 : ps.length = (ls.take i).length := by rw [← hfs, List.length_map]
        rw [List.length_take] at h2
        omega
      refine ⟨_, rfl, m0, rfl, ⟨ws, SqL.of hm3⟩, fun B hB => ?_⟩
      refine lc_list (K := K) (a := m0) (xs := ws) (tt := tEqL K) (te := tSnd K) (fun n H5 => Same H3 H5 ∧ ∃ ns : List Int, ns.length ≤ n ∧ H5 B = some (.lst (ns.map V.int))) ⟨same_new hB _, [], Nat.zero_le _, upd_same⟩ (fun n H5 _ ⟨s5, _⟩ => SqL.of (s5 _ _ hm3)) (fun n z H5 hz ⟨s5, ns, hns, hB5⟩ => ?_) (fun H5 ⟨s5, ns, hns, hB5⟩ => ?_)
      · obtain ⟨qq, hq1, ⟨az, rfl, haz⟩⟩ := pairedAt hw3 hz
        have hn : n < ws.length := (List.getElem?_eq_some_iff.mp hz).1
        have haz5 := (stay_same (K := K) s5).tup _ _ haz
        refine ⟨rfl, az, qq.1, lt, qq.2, rfl, rfl, haz5, fun b => ?_⟩
        cases b with
        | true =>
          rw [if_pos rfl]
          exact ⟨az, qq.1, qq.2, rfl, haz5, _, hB5, sz5lt (by rw [List.length_map]; omega), same_mut s5 hB, ns ++ [qq.2], by rw [List.length_append, List.length_singleton]; omega, by rw [upd_same, List.map_append]; rfl⟩
        | false =>
          rw [if_neg (by decide)]
          exact ⟨s5, ns, by omega, hB5⟩
      · refine ⟨by show 1 ≤ sizeLine; decide, fun l1 hl1 => ⟨_, _, rfl, ?_⟩⟩
        have s6 := same_new hl1 (.lst [V.str "same"])
        have s56 := s5.trans s6
        have hB6 := s6 _ _ hB5
        have hl6 := upd_same (H := H5) (a := l1) (o := .lst [V.str "same"])
        generalize upd H5 l1 (.lst [V.str "same"]) = H6 at s6 s56 hB6 hl6
        refine ⟨B, l1, ns, ["same"], rfl, rfl, hB6, hl6, by decide, fun H7 l2 v2 s7 hl2 hf2 hx2 hmn2 hmx2 => ?_⟩
        refine ⟨B, l2, ns, v2, rfl, rfl, s7 _ _ hB6, hl2, Nat.le_trans hmx2 (by decide), fun H8 l3 v3 s8 hl3 hf3 hx3 hmn3 hmx3 => ?_⟩
        have s38 := s56.trans (s7.trans s8)
        have pn8 := pn3.same s38
        have b8 := b3.trans (bar_same (p := p) s38)
        have hr8 := s38 _ _ hr3
        have n3 : l3 ≠ p := fun e => by
          obtain ⟨_, _, _, e2, _⟩ := pn3.same (s56.trans s7)
          rw [e, e2] at hf3
          cases hf3
        have h1 : 1 ≤ v2.length := hmn2
        have h2 : v2.length ≤ 3 := hmx2
        refine ⟨_, rfl, .inl ⟨rfl, _, SqL.of hr8⟩, _, rfl, _, rfl, _, rfl, p, l3, _, rfl, pn8, n3, SqL.of hl3, by rw [List.length_map]; omega, by rw [List.length_map]; omega, fun H9 x9 b9 pn9 hx9 => ?_⟩
        obtain ⟨vv, hvv, rfl⟩ := List.mem_map.mp hx9
        have hvz2 : vv ∈ varz := by
          rcases hx3 vv hvv with h | h
          · rcases hx2 vv h with h | h
            · rw [List.mem_singleton.mp h]; decide +kernel
            · rw [h]; decide +kernel
          · rw [h]; decide +kernel
        refine ⟨by show 2 ≤ sizeLine; decide, fun t ht => ?_⟩
        have sT := same_new ht (.tup [V.str lt, .str vv])
        have bT := b9.trans (bar_same (p := p) sT)
        have pnT := pn9.same sT
        have hrT := bT _ _ nr hr8
        have hmT := bT _ _ nm (s38 _ _ hm3)
        have stT : Stay K H3 (upd H9 t (.tup [V.str lt, .str vv])) := (stay_same s38).trans (bar_stay bT pn8 pnT)
        have htT := upd_same (H := H9) (a := t) (o := .tup [V.str lt, .str vv])
        have bAll := b8.trans bT
        generalize upd H9 t (.tup [V.str lt, .str vv]) = HT at bT pnT hrT hmT stT htT bAll
        refine ⟨r0, rs, .ref t, rfl, rfl, hrT, sz5lt (by omega), ?_⟩
        have stR : Stay K HT (upd HT r0 (.lst (rs ++ [.ref t]))) := stay_lst hrT
        have stA := stT.trans stR
        refine ⟨rs ++ [.ref t], ps ++ [(lt, vv)], _, _, _, _, _, rfl, bar_put bAll hr0H, pen_upd nr pnT, Paired.mapP hw3 fun _ _ z => z.stay stA, by rw [upd_ne nmr]; exact hmT, upd_same, paired_snoc2 (Paired.mapP hps fun _ _ z => z.stay stA) ⟨t, rfl, stR.tup _ _ (.inl (.inl htT))⟩, ?_, fun q hq => ?_⟩
        · rw [List.map_append, hfs, take_one' hlt]
          rfl
        · rcases List.mem_append.mp hq with h | h
          · exact hvz q h
          · rw [List.mem_singleton.mp h]
            exact hvz2
    · subst eσ
      rw [List.length_map, List.take_length] at hfs
      refine ⟨_, rfl, r0, rs, rfl, .inl ⟨SqL.of hr3, fun r hr9 => ?_⟩⟩
      have s9 := same_new hr9 (.tup rs)
      exact q _ r ps (b3.trans (bar_same s9)) (pn3.same s9) ⟨rs, .inl (.inl upd_same), Paired.mapP hps fun _ _ z => z.stay (stay_same s9)⟩ hfs hvz
end
end N

namespace N
open PySem PySem.Spec PyProof.Rows L2
/-! ### _law_classes -/
theorem pen_new {H : Hp} {p F : Addr} (h : Pen H p) (hF : H F = none) : F ≠ p := fun e => by
  obtain ⟨_, _, _, e2, _⟩ := h
  rw [e, e2] at hF
  cases hF
theorem pen_free' {H H' : Hp} {p F : Addr} (b : Bar p H H') (h : Pen H' p) (hF : H' F = none) : H F = none := b.free' (pen_new h hF) hF
theorem seq_atC {r : Int} {n : Nat} (h0 : 0 ≤ r) (h1 : r < (n : Int)) : seqIndex? r n = some r.toNat := by
  have hn : ¬ r < 0 := by omega
  unfold seqIndex?
  simp only [hn, if_false]
  rw [if_pos]
  rw [Bool.and_eq_true, decide_eq_true_eq, decide_eq_true_eq]
  exact ⟨h0, h1⟩
theorem perm_eraseC {α : Type} : ∀ {l : List α} {k : Nat} (h : k < l.length), (l[k] :: l.eraseIdx k).Perm l
  | a :: l, 0, _ => .refl _
  | a :: l, k + 1, h => by
    have hk : k < l.length := by simpa using h
    have ih := perm_eraseC hk
    show (l[k] :: a :: l.eraseIdx k).Perm (a :: l)
    exact (List.Perm.swap _ _ _).trans (List.Perm.cons a ih)
theorem erase_map {α β : Type} (f : α → β) : ∀ (l : List α) (k : Nat), (l.map f).eraseIdx k = (l.eraseIdx k).map f
  | [], _ => rfl
  | a :: l, 0 => rfl
  | a :: l, k + 1 => by
    show f a :: (l.map f).eraseIdx k = f a :: (l.eraseIdx k).map f
    rw [erase_map f l k]
theorem for_enumC {K : PySem.W.Frag} {a : Addr} {xs : List V} {g : TG} {tb : TS} {D : Ends} {σ : L2.St} {H : Hp} (Pv : Nat → L2.St → Hp → Prop) (h0 : Pv 0 σ H) (hl : ∀ i σ H, Pv i σ H → SqL K H a xs)
    (hs : ∀ (i : Nat) (x : V) (T : Addr) (σ : L2.St) (H : Hp), xs[i]? = some x → Pv i σ H → H T = none → g (.ref T) σ (upd H T (.tup [.int (i : Nat), x])) fun σ2 H2 => tb { D with nx := Pv (i + 1), ct := Pv (i + 1), bk := D.nx } σ2 H2) (hd : ∀ σ H, Pv xs.length σ H → D.nx σ H) :
    ∃ W : Nat → Nat → L2.St → Hp → Prop, (∃ m, W 0 m σ H) ∧ ∀ i m σ H, W i m σ H →
      ((Ite K a).stop i H ∧ D.nx σ H) ∨ ((Ite K a).go i H ∧ ∃ N : L2.St → Hp → Prop, (∀ σ' H', N σ' H' → ∃ m', m' < m ∧ W (i + 1) m' σ' H') ∧ ∀ x H', (Ite K a).yld i H x H' → g x σ H' fun σ2 H2 => tb { D with nx := N, ct := N, bk := D.nx } σ2 H2) := by
  refine ⟨fun i m σ H => m + i = xs.length ∧ Pv i σ H, ⟨xs.length, rfl, h0⟩, fun i m σ H ⟨em, p⟩ => ?_⟩
  have q := hl i σ H p
  cases m with
  | zero =>
    have e : i = xs.length := by omega
    subst e
    exact .inl ⟨⟨xs, q, Nat.le_refl _⟩, hd σ H p⟩
  | succ m =>
    have hx : xs[i]? = some (xs[i]'(by omega)) := List.getElem?_eq_getElem (by omega)
    refine .inr ⟨⟨xs, _, q, hx⟩, Pv (i + 1), fun σ' H' p' => ⟨m, Nat.lt_succ_self _, by omega, p'⟩, fun x H' y => ?_⟩
    obtain ⟨T, x', rfl, hT, rfl, f⟩ := y
    exact hs i x' T σ H (f xs q) p hT
theorem cut_takeN (xs : List V) (n : Nat) : cutV xs none (some (n : Nat)) = xs.take n := by
  have h1 : HT.sIx xs.length 0 none = 0 := rfl
  have h2 : HT.sIx xs.length xs.length (some ((n : Nat) : Int)) = min n xs.length := by
    rw [HT.sIx_nat]
  show (xs.drop (HT.sIx xs.length 0 none)).take (HT.sIx xs.length xs.length (some ((n : Nat) : Int)) - HT.sIx xs.length 0 none) = _
  rw [h1, h2, List.drop_zero, Nat.sub_zero]
  rcases Nat.le_total n xs.length with h | h
  · rw [Nat.min_eq_left h]
  · rw [Nat.min_eq_right h, List.take_length, List.take_of_length_le h]
theorem paired_takeE {α β : Type} {F : α → β → Prop} : ∀ {l : List α} {r : List β} (n : Nat), Paired F l r → Paired F (l.take n) (r.take n)
  | _, _, 0, _ => .nil
  | _, _, _ + 1, .nil => .nil
  | _, _, n + 1, .cons a t => .cons a (paired_takeE n t)
theorem kps_pair {K : PySem.W.Frag} {H : Hp} : ∀ {vs : List V} {ks : List Kd}, Kps K H vs ks → Paired (fun v k => Kp K H v k) vs ks
  | [], [], _ => .nil
  | [], _ :: _, h => by cases h
  | _ :: _, [], h => by cases h
  | _ :: _, _ :: _, h => by
    cases h with
    | cons a t => exact .cons a (kps_pair t)
theorem paired_rev {α β : Type} {F : α → β → Prop} : ∀ {l : List α} {r : List β}, Paired F l r → Paired F l.reverse r.reverse
  | _, _, .nil => .nil
  | _, _, .cons a t => by
    rw [List.reverse_cons, List.reverse_cons]
    exact paired_snoc2 (paired_rev t) a
def XY : List Str := ["X", "Y"]
structure HdOk (ss : List (Str × Nat)) : Prop where
  z : ∃ n r, ss = (n, 0) :: r
  l : ss.length ≤ 5
  s : ∀ s ∈ ss, isNam s.1 = true ∧ s.2 ≤ 2
  nd : (ss.map Prod.fst).Nodup
structure DrC (ss : List (Str × Nat)) (i : Nat) (c : Cls) (s : Str × Nat) : Prop where
  n : c.nm = s.1
  p : c.ps.map Prod.fst = XY.take s.2
  v : ∀ q ∈ c.ps, q.2 ∈ varz
  k2 : c.ks.length ≤ 2
  k : ∀ k ∈ c.ks, k.of (XY.take s.2) ss ∧ k.isC = true ∧ (∃ s' ∈ ss.take i, s'.1 = k.nm) ∧ k.size ≤ 6 ∧ k.nds ≤ 7
  m : c.ms = []
def Drn (ss : List (Str × Nat)) (cs : List Cls) : Prop := ∀ i c, cs[i]? = some c → ∃ s, ss[i]? = some s ∧ DrC ss i c s
theorem Drn.names {ss : List (Str × Nat)} : ∀ {cs : List Cls}, Drn ss cs → cs.map Cls.nm = (ss.take cs.length).map Prod.fst := fun {cs} h => by
  refine List.ext_getElem? fun i => ?_
  rw [List.getElem?_map, List.getElem?_map, List.getElem?_take]
  cases e : cs[i]? with
  | none => rw [if_neg (by have := List.getElem?_eq_none_iff.mp e; omega)]; rfl
  | some c =>
    obtain ⟨s, h1, h2⟩ := h i c e
    rw [if_pos (List.getElem?_eq_some_iff.mp e).1, h1]
    exact congrArg some h2.n
theorem Drn.snoc {ss : List (Str × Nat)} {cs : List Cls} {c : Cls} {s : Str × Nat} (h : Drn ss cs) (hs : ss[cs.length]? = some s) (hc : DrC ss cs.length c s) : Drn ss (cs ++ [c]) := fun i d hd => by
  rcases Nat.lt_or_ge i cs.length with hi | hi
  · rw [List.getElem?_append_left hi] at hd
    exact h i d hd
  · rw [List.getElem?_append_right hi] at hd
    have h0 : i - cs.length = 0 := by
      cases e : i - cs.length with
      | zero => rfl
      | succ n => rw [e] at hd; cases hd
    rw [h0] at hd
    cases hd
    have : i = cs.length := by omega
    subst this
    exact ⟨s, hs, hc⟩
/-- how many parents -/
def tCnt (K : PySem.W.Frag) : TE := fun σ H Q => ∃ (p : Addr) (i : Nat), σ[0]? = some (some (.ref p)) ∧ σ[6]? = some (some (.int (i : Nat))) ∧ Pen H p ∧ ∀ (H2 : Hp) (n : Nat), Bar p H H2 → Pen H2 p → n ≤ 2 → (i = 0 → n = 0) → Q (.int (n : Nat)) H2
def menuZ : List Str := ["box", "pair", "odd", "sink", "abcdefgh"]
/-- the heads after i more, and what is left of the menu -/
structure HN (ss : List (Str × Nat)) (L : List Str) (i : Nat) : Prop where
  z : ∃ r : List (Str × Nat), ss = (("one" : Str), 0) :: r ∧ r.length = i
  c : ∀ s ∈ ss, s.2 ≤ 2
  p : (ss.map Prod.fst ++ L).Perm (("one" : Str) :: menuZ)
theorem HN.len {ss : List (Str × Nat)} {L : List Str} {i : Nat} (h : HN ss L i) : L.length + i = 5 ∧ ss.length = i + 1 := by
  obtain ⟨r, e, hr⟩ := h.z
  have h1 := h.p.length_eq
  rw [List.length_append, List.length_map, e, List.length_cons, hr] at h1
  have h2 : (("one" : Str) :: menuZ).length = 6 := rfl
  rw [e, List.length_cons, hr]
  omega
theorem HN.ok {ss : List (Str × Nat)} {L : List Str} {i : Nat} (h : HN ss L i) (hi : i ≤ 4) : HdOk ss := by
  obtain ⟨r, e, hr⟩ := h.z
  have hl := h.len
  refine ⟨⟨_, _, e⟩, by omega, fun s hs => ⟨?_, h.c s hs⟩, ?_⟩
  · have h1 : s.1 ∈ (("one" : Str) :: menuZ) := h.p.subset (List.mem_append_left _ (List.mem_map_of_mem hs))
    have h2 : ∀ x ∈ ((("one" : Str) :: menuZ)), isNam x = true := by decide +kernel
    exact h2 _ h1
  · have h1 : (ss.map Prod.fst ++ L).Nodup := h.p.nodup_iff.mpr (by decide +kernel)
    exact (List.nodup_append.mp h1).1
section
variable {P : Program} {w : World} {K : PySem.W.Frag} {mg : Str → Option Value} {base : Heap}
def spClz (K : PySem.W.Frag) : Sp := fun vs H Q _ => ∃ (p : Addr) (most : Nat), vs = [.ref p, .int (most : Nat)] ∧ Pen H p ∧ 1 ≤ most ∧ most ≤ 5 ∧
  ∀ (H' : Hp) (l : Addr) (xs : List V) (cs cs0 : List Cls) (ss : List (Str × Nat)), Bar p H H' → Pen H' p → H l = none → H' l = some (.lst xs) → Paired (Cp K H') xs cs → HdOk ss → Drn ss cs0 → cs0.length = ss.length → (cs = cs0 ∨ cs = cs0.reverse) → Q (.ref l) H'
theorem ok_classes (G : Glo mg) (hen : mg "enumerate" = none) (CD : Cal P w K mg base 1 "_law_draw" ["_law_pen", "_law_many"] (spDraw K)) (CP : Cal P w K mg base 2 "_law_pick" ["_law_pen", "_law_some"] (spPick K))
    (CA : Cal P w K mg base 10 "_law_parent" ["_law_pen", "_law_ahead", "_law_heads", "_law_some"] (spPa K)) (CR : Cal P w K mg base 10 "_law_row" ["_law_pen", "_law_some", "_law_lot", "_law_own_here"] (spRow K)) (CO : Cal P w K mg base 1 "_law_own" ["_law_classes_here"] (spOwn K))
    (D : DefAt K mg "_law_classes" s_Lclasses ["_law_pen", "_law_most"]) : Cal P w K mg base 11 "_law_classes" ["_law_pen", "_law_most"] (spClz K) := by
  refine D.cal sc_Lclasses (fun vs H Q E h => ?_) (fun f cdv A outer s H vs Q E hr h => ?_)
  · obtain ⟨p, m, rfl, _⟩ := h
    rfl
  obtain ⟨p, most, rfl, hp, hm1, hm5, q⟩ := h
  have hr1 : RoomG 1 _ := hr.mono (by decide)
  have hr2 : RoomG 2 _ := hr.mono (by decide)
  refine ⟨_, pss_cons (ps_set (i := 2) sc_Lclasses.nd rfl (by first | exact Or.inl rfl | exact Or.inr rfl) (pe_lst (pa_cons pe_str (pa_cons pe_str (pa_cons pe_str (pa_cons pe_str (pa_cons pe_str pa_nil)))))))
    (pss_cons (ps_par (i := 3) (j := 4) (by rfl) sc_Lclasses.nd rfl rfl (by decide) rfl rfl (pa_cons (pe_lst (pa_cons (pe_tup (pa_cons pe_int (pa_cons pe_str pa_nil))) pa_nil)) (pa_cons (pe_lst pa_nil) pa_nil)) (by rfl))
    (pss_cons (ps_for (passes_of rfl) rfl (pi_range1 rfl G.range (pa_cons (pc CD hr1 rfl (pa_cons (pv 0) (pa_cons (pv 1) pa_nil))) pa_nil)) (pg_name (i := 5) sc_Lclasses.nd rfl (by first | exact Or.inl rfl | exact Or.inr rfl))
      (pss_one (ps_expr (pe_bm PySem.F.plainAttrs_list PySem.F.slot_list_append PySem.F.type_list_append mt_append (pv 3) (pa_cons (pe_tup (pa_cons (pc CD hr1 rfl (pa_cons (pv 0) (pa_cons pe_int pa_nil))) (pa_cons (pe_bm PySem.F.plainAttrs_list PySem.F.slot_list_pop PySem.F.type_list_pop mt_popAt (pv 2) (pa_cons (pc CD hr1 rfl (pa_cons (pv 0) (pa_cons (pe_callB call_len_seq (by rfl) G.len PySem.boot_len (pa_cons (pv 2) pa_nil)) pa_nil))) pa_nil)) pa_nil))) pa_nil)))))
    (pss_cons (ps_for (passes_of rfl) rfl (pi_enum rfl hen (pa_cons (pv 3) pa_nil)) (pg_tup (by rfl) (pgs_cons (pg_name (i := 6) sc_Lclasses.nd rfl (by first | exact Or.inl rfl | exact Or.inr rfl)) (pgs_cons (pg_name (i := 7) sc_Lclasses.nd rfl (by first | exact Or.inl rfl | exact Or.inr rfl)) pgs_nil)))
      (pss_cons (ps_par (i := 8) (j := 9) (by rfl) sc_Lclasses.nd rfl rfl (by decide) rfl rfl (pa_cons (pe_slice sl_list (pe_lst (pa_cons pe_str (pa_cons pe_str pa_nil))) po_none (po_some (pe_ix ix_tup (pv 7) pe_int (fun _ _ => rfl)))) (pa_cons (pe_lst pa_nil) pa_nil)) (by rfl))
      (pss_cons (ps_for (passes_of rfl) rfl (pi_range1 rfl G.range (pa_cons (peOf (te := tCnt K) (pe_ifExp (pt_cmpR op_gt (pv 6) pe_int (nomark _)) (pc CP hr2 rfl (pa_cons (pv 0) (pa_cons (pe_lst (pa_cons pe_int (pa_cons pe_int (pa_cons pe_int (pa_cons pe_int pa_nil))))) pa_nil))) pe_int) (fun σ H Q z => ?_)) pa_nil)) (pg_name (i := 5) sc_Lclasses.nd rfl (by first | exact Or.inl rfl | exact Or.inr rfl))
        (pss_one (ps_expr (pe_bm PySem.F.plainAttrs_list PySem.F.slot_list_append PySem.F.type_list_append mt_append (pv 9) (pa_cons (pc CA hr rfl (pa_cons (pv 0) (pa_cons (pe_slice sl_list (pv 3) po_none (po_some (pv 6))) (pa_cons (pv 3) (pa_cons (pv 8) pa_nil))))) pa_nil)))))
      (pss_one (ps_expr (pe_bm PySem.F.plainAttrs_list PySem.F.slot_list_append PySem.F.type_list_append mt_append (pv 4) (pa_cons (pe_tup (pa_cons (pe_ix ix_tup (pv 7) pe_int (fun _ _ => rfl)) (pa_cons (pc CR hr rfl (pa_cons (pv 0) (pa_cons (pv 8) (pa_cons (pv 9) (pa_cons (pc CO hr1 rfl (pa_cons (pv 4) pa_nil)) pa_nil))))) (pa_cons (pe_callTy call_tuple_of (by rfl) G.tuple b_tuple (pa_cons (pv 9) pa_nil)) (pa_cons (pe_tup pa_nil) pa_nil))))) pa_nil)))))))
    (pss_one (ps_ret (pe_ifExp (pt_cmpR op_gt (pc CD hr1 rfl (pa_cons (pv 0) (pa_cons pe_int pa_nil))) pe_int (nomark _)) (pv 4) (pe_revL (pv 4)))))))), ?_⟩
  · obtain ⟨p, i, e0, e6, pn, q⟩ := z
    refine ⟨_, e6, _, _, rfl, rfl, _, rfl, ite2 (fun c => ?_) (fun c => ?_)⟩
    · refine ⟨_, e0, by show 4 ≤ sizeLine; decide, fun m hm => ?_⟩
      have sm := same_new hm (.lst [V.int 0, V.int 1, V.int 1, V.int 2])
      refine ⟨p, m, _, rfl, pn.same sm, pen_new pn hm, SqL.of upd_same, by show 0 < 4; decide, by show 4 ≤ 1000; decide, fun H2 x b pn2 hx => ?_⟩
      have hi : (i : Int) > 0 := of_decide_eq_true c
      have b2 := (bar_same (p := p) sm).trans b
      simp only [List.mem_cons, List.not_mem_nil, or_false] at hx
      rcases hx with rfl | rfl | rfl | rfl
      · exact q _ 0 b2 pn2 (by decide) (fun e => by omega)
      · exact q _ 1 b2 pn2 (by decide) (fun e => by omega)
      · exact q _ 1 b2 pn2 (by decide) (fun e => by omega)
      · exact q _ 2 b2 pn2 (by decide) (fun e => by omega)
    · exact q H 0 (Bar.refl _ _) pn (by decide) (fun _ => rfl)
  refine ⟨by show 5 ≤ sizeLine; decide, fun mn hmn => ⟨by show 2 ≤ sizeLine; decide, fun t0 ht0 => ⟨by show 1 ≤ sizeLine; decide, fun hl hhl => ⟨by show 0 ≤ sizeLine; decide, fun fl hfl => ⟨_, _, rfl, ?_⟩⟩⟩⟩⟩
  have m1 := same_new hmn (.lst [V.str "box", V.str "pair", V.str "odd", V.str "sink", V.str "abcdefgh"])
  have m2 := same_new ht0 (.tup [V.int 0, .str "one"])
  have m3 := same_new hhl (.lst [V.ref t0])
  have m4 := same_new hfl (.lst [])
  have e1 := m4 _ _ (m3 _ _ (m2 _ _ (upd_same (H := H) (a := mn) (o := .lst (menuZ.map V.str)))))
  have e2 := m4 _ _ (m3 _ _ (upd_same (H := upd H mn (.lst [V.str "box", V.str "pair", V.str "odd", V.str "sink", V.str "abcdefgh"])) (a := t0) (o := .tup [V.int 0, .str "one"])))
  have e3 := m4 _ _ (upd_same (H := upd (upd H mn (.lst [V.str "box", V.str "pair", V.str "odd", V.str "sink", V.str "abcdefgh"])) t0 (.tup [V.int 0, .str "one"])) (a := hl) (o := .lst [V.ref t0]))
  have e4 := upd_same (H := upd (upd (upd H mn (.lst [V.str "box", V.str "pair", V.str "odd", V.str "sink", V.str "abcdefgh"])) t0 (.tup [V.int 0, .str "one"])) hl (.lst [V.ref t0])) (a := fl) (o := .lst [])
  have n1 : mn ≠ hl := ne_of_none (m2 _ _ upd_same) hhl
  have n2 : mn ≠ fl := ne_of_none (m3 _ _ (m2 _ _ upd_same)) hfl
  have n3 : hl ≠ fl := ne_of_none upd_same hfl
  have s3 := m1.trans (m2.trans m3)
  have f1 : H hl = none := (m1.trans m2).free hhl
  have f2 : H fl = none := s3.free hfl
  have p1 := pen_new hp hmn
  have p2 := pen_new hp f1
  have p3 := pen_new hp f2
  have sA := s3.trans m4
  generalize upd (upd (upd (upd H mn (.lst [V.str "box", V.str "pair", V.str "odd", V.str "sink", V.str "abcdefgh"])) t0 (.tup [V.int 0, .str "one"])) hl (.lst [V.ref t0])) fl (.lst []) = HA at sA e1 e2 e3 e4
  have pnA := hp.same sA
  refine ⟨_, rfl, _, rfl, p, _, rfl, pnA, by omega, by omega, fun HB r bB pnB r0 r1 => ?_⟩
  refine ⟨_, rfl, by omega, by omega, ?_⟩
  refine for_range (n := r.toNat) (fun i σ H' => ∃ y5 y6 y7 y8 y9 hvs ss L, σ = [some (.ref p), some (.int (most : Nat)), some (.ref mn), some (.ref hl), some (.ref fl), y5, y6, y7, y8, y9] ∧ Bar p H H' ∧ Pen H' p ∧ H' fl = some (.lst []) ∧ H' hl = some (.lst hvs) ∧ Hds K H' hvs ss ∧ H' mn = some (.lst (L.map V.str)) ∧ HN ss L i)
    ⟨_, _, _, _, _, [V.ref t0], [("one", 0)], menuZ, rfl, (bar_same sA).trans bB, pnB, bB _ _ p3 e4, bB _ _ p2 e3, .cons ⟨t0, rfl, (bar_stay (K := K) bB pnA pnB).tup _ _ (.inl (.inl e2))⟩ .nil, bB _ _ p1 e1, ⟨[], rfl, rfl⟩, fun s hs => by rw [List.mem_singleton.mp hs]; decide, .refl _⟩
    (fun i σ H' hi ⟨y5, y6, y7, y8, y9, hvs, ss, L, eσ, b', pn', hf', hh', hH', hm', hN⟩ => ?_) (fun σ H' ⟨y5, y6, y7, y8, y9, hvs, ss, L, eσ, b', pn', hf', hh', hH', hm', hN⟩ => ?_)
  · subst eσ
    obtain ⟨hL, hsl⟩ := hN.len
    have hvl : hvs.length = ss.length := Paired.length hH'
    have hLm : (L.map V.str).length = L.length := List.length_map _
    refine ⟨_, rfl, .inl ⟨rfl, _, SqL.of hh'⟩, _, rfl, p, 3, rfl, pn', by decide, by decide, fun H1 r' b1 pn1 r0' r1' => ?_⟩
    refine ⟨_, rfl, .inl ⟨rfl, _, SqL.of (b1 _ _ p1 hm')⟩, _, rfl, _, rfl, mn, _, rfl, .inl (SqL.of (b1 _ _ p1 hm')), p, _, rfl, pn1, by omega, by omega, fun H2 k b2 pn2 k0 k1 => ?_⟩
    have hk : k.toNat < L.length := by omega
    have b12 := b1.trans b2
    have hm2 := b12 _ _ p1 hm'
    refine ⟨mn, _, k, k.toNat, V.str L[k.toNat], rfl, rfl, hm2, by omega, by omega, seq_atC k0 k1, by rw [List.getElem?_map, List.getElem?_eq_getElem hk]; rfl, by show 2 ≤ sizeLine; decide, fun t ht => ?_⟩
    have bM : Bar p H (upd H2 mn (.lst ((L.map V.str).eraseIdx k.toNat))) := bar_put (b'.trans b12) hmn
    have pM := pen_upd (o := .lst ((L.map V.str).eraseIdx k.toNat)) p1 pn2
    have stM : Stay K H2 (upd H2 mn (.lst ((L.map V.str).eraseIdx k.toNat))) := stay_lst hm2
    have mM := upd_same (H := H2) (a := mn) (o := .lst ((L.map V.str).eraseIdx k.toNat))
    have hM : (upd H2 mn (.lst ((L.map V.str).eraseIdx k.toNat))) hl = some (.lst hvs) := by rw [upd_ne (Ne.symm n1)]; exact b12 _ _ p2 hh'
    have fM : (upd H2 mn (.lst ((L.map V.str).eraseIdx k.toNat))) fl = some (.lst []) := by rw [upd_ne (Ne.symm n2)]; exact b12 _ _ p3 hf'
    generalize upd H2 mn (.lst ((L.map V.str).eraseIdx k.toNat)) = HM at ht bM pM stM mM hM fM
    have sT := same_new ht (.tup [V.int r', .str L[k.toNat]])
    have hT := upd_same (H := HM) (a := t) (o := .tup [V.int r', .str L[k.toNat]])
    have bT := bM.trans (bar_same (p := p) sT)
    have pT := pM.same sT
    have mT := sT _ _ mM
    have hTl := sT _ _ hM
    have fT := sT _ _ fM
    have stT := ((bar_stay (K := K) b12 pn' pn2).trans stM).trans (stay_same sT)
    generalize upd HM t (.tup [V.int r', .str L[k.toNat]]) = HT at hT bT pT mT hTl fT stT
    refine ⟨hl, hvs, .ref t, rfl, rfl, hTl, sz5lt (by omega), ?_⟩
    have stR : Stay K HT (upd HT hl (.lst (hvs ++ [.ref t]))) := stay_lst hTl
    refine ⟨_, _, _, _, _, hvs ++ [.ref t], ss ++ [(L[k.toNat], r'.toNat)], L.eraseIdx k.toNat, rfl, bar_put bT f1, pen_upd p2 pT, by rw [upd_ne (Ne.symm n3)]; exact fT, upd_same, ?_, by rw [upd_ne n1, mT, erase_map], ?_⟩
    · refine paired_snoc2 (hH'.stay (stT.trans stR)) ⟨t, rfl, ?_⟩
      rw [show ((r'.toNat : Nat) : Int) = r' from by omega]
      exact stR.tup _ _ (.inl (.inl hT))
    · obtain ⟨rr, er, hrr⟩ := hN.z
      refine ⟨⟨rr ++ [(L[k.toNat], r'.toNat)], by rw [er]; rfl, by rw [List.length_append, hrr]; rfl⟩, fun s hs => ?_, ?_⟩
      · rcases List.mem_append.mp hs with h | h
        · exact hN.c s h
        · rw [List.mem_singleton.mp h]
          show r'.toNat ≤ 2
          omega
      · rw [List.map_append, List.append_assoc]
        exact (List.Perm.append_left _ (perm_eraseC hk)).trans hN.p
  · subst eσ
    have hO := hN.ok (by omega)
    have hvl : hvs.length = ss.length := Paired.length hH'
    obtain ⟨n0, rest0, hz⟩ := hO.z
    have l5 := hO.l
    refine ⟨_, rfl, hl, hvs, rfl, SqL.of hh', ?_⟩
    refine for_enumC (K := K) (a := hl) (xs := hvs) (fun i σ H3 => ∃ y5 y6 y7 y8 y9 xs cs, σ = [some (.ref p), some (.int (most : Nat)), some (.ref mn), some (.ref hl), some (.ref fl), y5, y6, y7, y8, y9] ∧ Bar p H H3 ∧ Pen H3 p ∧ H3 hl = some (.lst hvs) ∧ Hds K H3 hvs ss ∧ H3 fl = some (.lst xs) ∧ Paired (Cp K H3) xs cs ∧ cs.length = i ∧ Drn ss cs)
      ⟨_, _, _, _, _, [], [], rfl, b', pn', hh', hH', hf', .nil, rfl, fun i c h => (by cases h)⟩ (fun i σ H3 ⟨_, _, _, _, _, _, _, _, _, _, h, _⟩ => SqL.of h) (fun i x T σ H3 hx ⟨z5, z6, z7, z8, z9, xs, cs, eσ, b3, pn3, hh3, hH3, hf3, hC3, hcl, hD3⟩ hT => ?_) (fun σ H3 ⟨z5, z6, z7, z8, z9, xs, cs, eσ, b3, pn3, hh3, hH3, hf3, hC3, hcl, hD3⟩ => ?_)
    · subst eσ
      obtain ⟨s, hs, t, rfl, ht⟩ := pairedAt hH3 hx
      have hsm := List.mem_of_getElem? hs
      have hi : i < ss.length := (List.getElem?_eq_some_iff.mp hs).1
      obtain ⟨hsn, hs2⟩ := hO.s s hsm
      have hxl : xs.length = cs.length := Paired.length hC3
      have sT := same_new hT (.tup [.int (i : Nat), .ref t])
      refine ⟨T, _, rfl, .inl (.inl upd_same), rfl, .int (i : Nat), [.ref t], rfl, .ref t, [], rfl, rfl, ?_⟩
      refine ⟨by show 2 ≤ sizeLine; decide, fun l1 h1 => ?_⟩
      have s1 := same_new h1 (.lst [V.str "X", .str "Y"])
      have sT1 := sT.trans s1
      dsimp only [tNoPart]
      refine ⟨_, rfl, t, _, 0, _, rfl, rfl, (stay_same sT1).tup _ _ ht, atI_nat (j := 0) rfl, s.2, rfl, l1, _, rfl, SqL.of upd_same, fun sl hsl => ?_⟩
      rw [cut_takeN, show [V.str "X", V.str "Y"].take s.2 = (XY.take s.2).map V.str from by rw [List.map_take]; rfl]
      have s2 := same_new hsl (.lst ((XY.take s.2).map V.str))
      refine ⟨Nat.zero_le _, fun lo hlo => ⟨_, _, rfl, ?_⟩⟩
      have s3 := same_new hlo (.lst [])
      have s03 := sT1.trans (s2.trans s3)
      have g1 := s3 _ _ (upd_same (H := upd (upd H3 T (.tup [.int (i : Nat), .ref t])) l1 (.lst [V.str "X", .str "Y"])) (a := sl) (o := .lst ((XY.take s.2).map V.str)))
      have g2 := upd_same (H := upd (upd (upd H3 T (.tup [.int (i : Nat), .ref t])) l1 (.lst [V.str "X", .str "Y"])) sl (.lst ((XY.take s.2).map V.str))) (a := lo) (o := .lst [])
      have nsl : sl ≠ p := pen_new (pn3.same sT1) hsl
      have nlo : lo ≠ p := pen_new (pn3.same (sT1.trans s2)) hlo
      have nlh : lo ≠ hl := fun e => by
        have := (sT1.trans s2) _ _ hh3
        rw [e, this] at hlo
        cases hlo
      have nlf : lo ≠ fl := fun e => by
        have := (sT1.trans s2) _ _ hf3
        rw [e, this] at hlo
        cases hlo
      have nls : sl ≠ lo := ne_of_none upd_same hlo
      have f3 : H3 lo = none := (sT1.trans s2).free hlo
      have f0 : H lo = none := pen_free' b3 pn3 f3
      generalize upd (upd (upd (upd H3 T (.tup [.int (i : Nat), .ref t])) l1 (.lst [V.str "X", .str "Y"])) sl (.lst ((XY.take s.2).map V.str))) lo (.lst []) = H4 at s03 g1 g2
      have pn4 := pn3.same s03
      refine ⟨p, i, rfl, rfl, pn4, fun H5 n b5 pn5 hn2 hn0 => ⟨_, rfl, by omega, by omega, ?_⟩⟩
      have st5 : Stay K H3 H5 := (stay_same s03).trans (bar_stay b5 pn4 pn5)
      have hlsl : (XY.take s.2).length ≤ 2 := by rw [List.length_take]; exact Nat.min_le_right _ _
      have hmen : Men (XY.take s.2) ss := ⟨fun c hc => (show ∀ x ∈ XY, isLet x = true by decide +kernel) c (List.mem_of_mem_take hc), hO.s, ⟨n0, by rw [hz]; exact List.mem_cons_self⟩, by omega, by omega⟩
      refine for_range (n := ((n : Nat) : Int).toNat) (fun j σ H6 => ∃ y5 lvs lks, σ = [some (.ref p), some (.int (most : Nat)), some (.ref mn), some (.ref hl), some (.ref fl), y5, some (.int (i : Nat)), some (.ref t), some (.ref sl), some (.ref lo)] ∧ Bar p H H6 ∧ Pen H6 p ∧ Stay K H3 H6 ∧ H6 hl = some (.lst hvs) ∧ H6 fl = some (.lst xs) ∧ H6 sl = some (.lst ((XY.take s.2).map V.str)) ∧ H6 lo = some (.lst lvs) ∧ Kps K H6 lvs lks ∧ lks.length = j ∧ ∀ k ∈ lks, k.of (XY.take s.2) ss ∧ k.isC = true ∧ (∃ s' ∈ ss.take i, s'.1 = k.nm) ∧ k.size ≤ 6 ∧ k.nds ≤ 7)
        ⟨_, [], [], rfl, b3.trans ((bar_same s03).trans b5), pn5, st5, b5 _ _ p2 (s03 _ _ hh3), b5 _ _ p3 (s03 _ _ hf3), b5 _ _ nsl g1, b5 _ _ nlo g2, .nil, rfl, fun k h => (by cases h)⟩
        (fun j σ H6 hj ⟨y5, lvs, lks, eσ, b6, pn6, st6, hh6, hf6, hs6, ho6, hk6, hkl, hka⟩ => ?_) (fun σ H6 ⟨y5, lvs, lks, eσ, b6, pn6, st6, hh6, hf6, hs6, ho6, hk6, hkl, hka⟩ => ?_)
      · subst eσ
        have hi1 : 1 ≤ i := Nat.pos_of_ne_zero fun e => by have := hn0 e; omega
        have hlv := Kps.length hk6
        refine ⟨_, rfl, .inl ⟨rfl, _, SqL.of ho6⟩, _, rfl, _, rfl, ?_⟩
        dsimp only [tNoPart]
        refine ⟨_, rfl, i, rfl, hl, hvs, rfl, SqL.of hh6, fun al hal => ?_⟩
        rw [cut_takeN]
        have sa := same_new hal (.lst (hvs.take i))
        have pna := pn6.same sa
        have hHa : Hds K (upd H6 al (.lst (hvs.take i))) hvs ss := hH3.stay (st6.trans (stay_same sa))
        refine ⟨_, rfl, _, rfl, p, al, hl, sl, XY.take s.2, hvs.take i, hvs, ss.take i, ss, rfl, pna, pen_new pn6 hal, p2, nsl, SqL.of upd_same, paired_takeE i hHa, SqL.of (sa _ _ hh6), hHa, sa _ _ hs6, hmen, hlsl, ⟨n0, rest0.take (i - 1), ?_⟩, ⟨n0, rest0, hz⟩, fun s hs => List.mem_of_mem_take hs, by rw [List.length_take]; omega, fun H7 v k b7 pn7 hk7 hof hC hnm hsz hnd => ?_⟩
        · rw [hz, show i = (i - 1) + 1 from by omega, List.take_succ_cons]
          rfl
        have ba := (bar_same (p := p) sa).trans b7
        have ho7 := ba _ _ nlo ho6
        have st7 := (bar_stay (K := K) ba pn6 pn7)
        have stR : Stay K H7 (upd H7 lo (.lst (lvs ++ [v]))) := stay_lst ho7
        refine ⟨lo, lvs, v, rfl, rfl, ho7, sz5lt (by omega), ?_⟩
        refine ⟨_, lvs ++ [v], lks ++ [k], rfl, bar_put (b6.trans ba) f0, pen_upd nlo pn7, st6.trans (st7.trans stR), by rw [upd_ne (Ne.symm nlh)]; exact ba _ _ p2 hh6, by rw [upd_ne (Ne.symm nlf)]; exact ba _ _ p3 hf6, by rw [upd_ne nls]; exact ba _ _ nsl hs6, upd_same, Kps.app (ThAll.stay (st7.trans stR) hk6) (.cons (hk7.stay stR) .nil), by rw [List.length_append, hkl]; rfl, fun z hz => ?_⟩
        rcases List.mem_append.mp hz with h | h
        · exact hka z h
        · rw [List.mem_singleton.mp h]
          exact ⟨hof, hC, hnm, hsz, hnd⟩
      · subst eσ
        have hlk2 : lks.length ≤ 2 := by omega
        have hCd6 := Paired.mapP hC3 fun _ _ z => z.stay st6
        have hnd : (cs.map Cls.nm).Nodup := by
          rw [hD3.names, List.map_take]
          exact hO.nd.sublist (List.take_sublist _ _)
        refine ⟨_, rfl, .inl ⟨rfl, _, SqL.of hf6⟩, _, rfl, t, _, 1, _, rfl, rfl, st6.tup _ _ ht, atI_nat (j := 1) rfl, _, rfl, _, rfl, _, rfl, _, rfl, fl, xs, cs, rfl, SqL.of hf6, hCd6, by omega, hnd, fun H7 d s7 hdf hOd => ?_⟩
        refine ⟨p, sl, lo, d, XY.take s.2, lvs, lks, cs, rfl, pn6.same s7, nsl, nlo, SqL.of (s7 _ _ hs6), hlsl, SqL.of (s7 _ _ ho6), ThAll.stay (stay_same s7) hk6, hlk2, fun k hk => by have := (hka k hk).2.2.2.2; omega, hOd, hnd, fun H8 r ps b8 pn8 hPs hfs hvz => ?_⟩
        have b78 := (bar_same (p := p) s7).trans b8
        have ho8 := b78 _ _ nlo ho6
        have st8 : Stay K H6 H8 := bar_stay b78 pn6 pn8
        refine ⟨_, rfl, lo, lvs, rfl, .inl ⟨SqL.of ho8, fun tl htl => ?_⟩⟩
        have s9 := same_new htl (.tup lvs)
        refine ⟨Nat.zero_le _, fun te hte => ?_⟩
        have s10 := same_new hte (.tup [])
        refine ⟨by show 4 ≤ sizeLine; decide, fun c hc => ?_⟩
        have s11 := same_new hc (.tup [.str s.1, .ref r, .ref tl, .ref te])
        have q1 := s11 _ _ (s10 _ _ (upd_same (H := H8) (a := tl) (o := .tup lvs)))
        have q2 := s11 _ _ (upd_same (H := upd H8 tl (.tup lvs)) (a := te) (o := .tup []))
        have q3 := upd_same (H := upd (upd H8 tl (.tup lvs)) te (.tup [])) (a := c) (o := .tup [.str s.1, .ref r, .ref tl, .ref te])
        have sE := s9.trans (s10.trans s11)
        have bE := b78.trans (bar_same (p := p) sE)
        generalize upd (upd (upd H8 tl (.tup lvs)) te (.tup [])) c (.tup [.str s.1, .ref r, .ref tl, .ref te]) = HE at q1 q2 q3 sE bE
        have pnE := pn8.same sE
        have stE := st8.trans (stay_same (K := K) sE)
        have hfE := bE _ _ p3 hf6
        refine ⟨fl, xs, .ref c, rfl, rfl, hfE, sz5lt (by omega), ?_⟩
        have stR : Stay K HE (upd HE fl (.lst (xs ++ [.ref c]))) := stay_lst hfE
        have stA := stE.trans stR
        refine ⟨_, _, _, _, _, xs ++ [.ref c], cs ++ [⟨s.1, ps, lks, []⟩], rfl, bar_put (b6.trans bE) f2, pen_upd p3 pnE, by rw [upd_ne n3]; exact bE _ _ p2 hh6, hH3.stay (st6.trans stA), upd_same, paired_snoc2 (Paired.mapP hCd6 fun _ _ z => z.stay stA) ⟨c, r, tl, te, rfl, stR.tup _ _ (.inl (.inl q3)), hPs.stay ((stay_same sE).trans stR), ⟨lvs, stR.tup _ _ (.inl (.inl q1)), kps_pair (ThAll.stay stA hk6)⟩, ⟨[], stR.tup _ _ (.inl (.inl q2)), .nil⟩⟩, by rw [List.length_append, hcl]; rfl, ?_⟩
        subst hcl
        exact hD3.snoc hs ⟨rfl, hfs, hvz, hlk2, hka, rfl⟩
    · subst eσ
      have hxl : xs.length = cs.length := Paired.length hC3
      rw [hvl] at hcl
      refine ⟨_, rfl, p, 3, rfl, pn3, by decide, by decide, fun H4 r b4 pn4 r0 r3 => ⟨_, _, rfl, rfl, _, rfl, ite2 (fun c => ?_) (fun c => ?_)⟩⟩
      · exact ⟨_, rfl, q H4 fl xs cs cs ss (b3.trans b4) pn4 f2 (b4 _ _ p3 hf3) (Paired.mapP hC3 fun _ _ z => z.stay (bar_stay b4 pn3 pn4)) hO hD3 hcl (.inl rfl)⟩
      · refine ⟨_, rfl, fl, xs, rfl, SqL.of (b4 _ _ p3 hf3), fun rv hrv => ?_⟩
        have sv := same_new hrv (.lst xs.reverse)
        have b34 := b3.trans b4
        exact q _ rv xs.reverse cs.reverse cs ss (b34.trans (bar_same sv)) (pn4.same sv) (pen_free' b34 pn4 hrv) upd_same (paired_rev (Paired.mapP hC3 fun _ _ z => z.stay ((bar_stay b4 pn3 pn4).trans (stay_same sv)))) hO hD3 hcl (.inr rfl)
end
end N

namespace N
open PySem PySem.Spec PyProof.Rows L2
/-! ### _law_members -/
section
variable {P : Program} {w : World} {K : PySem.W.Frag} {mg : Str → Option Value} {base : Heap}
theorem noPart {σ : L2.St} {H : Hp} {Q : Option Int → Hp → Prop} (h : Q none H) : tNoPart σ H Q := h
def wordz : List Str := ["first", "second"]
def spMemz (K : PySem.W.Frag) : Sp := fun vs H Q _ => ∃ (p hl sl : Addr) (ls : List Str) (hvs : List V) (ss : List (Str × Nat)), vs = [.ref p, .ref hl, .ref sl] ∧ Pen H p ∧ hl ≠ p ∧ sl ≠ p ∧ SqL K H hl hvs ∧ Hds K H hvs ss ∧ SqL K H sl (ls.map V.str) ∧ Men ls ss ∧
  (∃ n r, ss = (n, 0) :: r) ∧ ∀ H' r ms, Bar p H H' → Pen H' p → MsAt K H' r ms → (∃ n, ms.map Prod.fst = wordz.take n) → (∀ m ∈ ms, m.2.1 ∈ wayz ∧ m.2.2.of ls ss ∧ m.2.2.nds ≤ 3) → Q (.ref r) H'
theorem ok_members (G : Glo mg) (CD : Cal P w K mg base 1 "_law_draw" ["_law_pen", "_law_many"] (spDraw K)) (CP : Cal P w K mg base 2 "_law_pick" ["_law_pen", "_law_some"] (spPick K)) (CK : Cal P w K mg base 5 "_law_drawn" ["_law_pen", "_law_heads", "_law_some", "_law_deep"] (spDr K 3))
    (D : DefAt K mg "_law_members" s_Lmembers ["_law_pen", "_law_heads", "_law_some"]) : Cal P w K mg base 6 "_law_members" ["_law_pen", "_law_heads", "_law_some"] (spMemz K) := by
  refine D.cal sc_Lmembers (fun vs H Q E h => ?_) (fun f cdv A outer s H vs Q E hr h => ?_)
  · obtain ⟨p, hl, sl, ls, hvs, ss, rfl, _⟩ := h
    rfl
  obtain ⟨p, hl, sl, ls, hvs, ss, rfl, hp, nhl, nsl, hH, hHd, hS, hM, ⟨n0, rest0, hz⟩, q⟩ := h
  have hr1 : RoomG 1 _ := hr.mono (by decide)
  have hr2 : RoomG 2 _ := hr.mono (by decide)
  refine ⟨_, pss_cons (ps_set (i := 3) sc_Lmembers.nd rfl (by first | exact Or.inl rfl | exact Or.inr rfl) (pe_lst pa_nil))
    (pss_cons (ps_for (passes_of rfl) rfl (pi_list (pe_slice sl_list (pe_lst (pa_cons pe_str (pa_cons pe_str pa_nil))) po_none (po_some (pc CD hr1 rfl (pa_cons (pv 0) (pa_cons pe_int pa_nil)))))) (pg_name (i := 4) sc_Lmembers.nd rfl (by first | exact Or.inl rfl | exact Or.inr rfl))
      (pss_cons (ps_set (i := 5) sc_Lmembers.nd rfl (by first | exact Or.inl rfl | exact Or.inr rfl) (pc CK hr rfl (pa_cons (pv 0) (pa_cons (pv 1) (pa_cons (pv 2) (pa_cons (pe_op op_add pe_int (pc CD hr1 rfl (pa_cons (pv 0) (pa_cons pe_int pa_nil)))) pa_nil))))))
      (pss_one (ps_expr (pe_bm PySem.F.plainAttrs_list PySem.F.slot_list_append PySem.F.type_list_append mt_append (pv 3) (pa_cons (pe_tup (pa_cons (pv 4) (pa_cons (pc CP hr2 rfl (pa_cons (pv 0) (pa_cons (pe_lst (pa_cons pe_str (pa_cons pe_str (pa_cons pe_str pa_nil)))) pa_nil))) (pa_cons (pv 5) pa_nil)))) pa_nil))))))
    (pss_one (ps_ret (pe_callTy call_tuple_of (by rfl) G.tuple b_tuple (pa_cons (pv 3) pa_nil))))), ?_⟩
  refine ⟨Nat.zero_le _, fun fl hfl => ?_⟩
  have s1 := same_new hfl (.lst [])
  have nfl : fl ≠ p := pen_new hp hfl
  have pn1 := hp.same s1
  refine ⟨by show 2 ≤ sizeLine; decide, fun wl hwl => ?_⟩
  have s2 := same_new hwl (.lst [V.str "first", .str "second"])
  have nwl : wl ≠ p := pen_new pn1 hwl
  refine noPart ⟨_, rfl, p, 3, rfl, pn1.same s2, by decide, by decide, fun H3 n b3 pn3 n0' n1' => ⟨n, rfl, wl, _, rfl, SqL.of (b3 _ _ nwl upd_same), fun cl hcl => ?_⟩⟩
  have en : n = ((n.toNat : Nat) : Int) := by omega
  rw [en, cut_takeN, show [V.str "first", V.str "second"].take n.toNat = (wordz.take n.toNat).map V.str from by rw [List.map_take]; rfl]
  have s4 := same_new hcl (.lst ((wordz.take n.toNat).map V.str))
  have b04 := (bar_same (p := p) (s1.trans s2)).trans (b3.trans (bar_same s4))
  have pn4 := pn3.same s4
  have f4 := s4 _ _ (b3 _ _ nfl (s2 _ _ (upd_same (H := H) (a := fl) (o := .lst []))))
  have c4 := upd_same (H := H3) (a := cl) (o := .lst ((wordz.take n.toNat).map V.str))
  have ncl : cl ≠ p := pen_new pn3 hcl
  have nfc : cl ≠ fl := fun e => by
    have := b3 _ _ nfl (s2 _ _ (upd_same (H := H) (a := fl) (o := .lst [])))
    rw [e, this] at hcl
    cases hcl
  generalize upd H3 cl (.lst ((wordz.take n.toNat).map V.str)) = H4 at b04 pn4 f4 c4
  refine ⟨cl, rfl, ⟨_, SqL.of c4⟩, ?_⟩
  refine for_list (K := K) (a := cl) (xs := (wordz.take n.toNat).map V.str) (fun i σ H' => ∃ y4 y5 xs ms, σ = [some (.ref p), some (.ref hl), some (.ref sl), some (.ref fl), y4, y5] ∧ Bar p H H' ∧ Pen H' p ∧ H' cl = some (.lst ((wordz.take n.toNat).map V.str)) ∧ H' fl = some (.lst xs) ∧ Paired (Mp K H') xs ms ∧ ms.map Prod.fst = (wordz.take n.toNat).take i ∧ ∀ m ∈ ms, m.2.1 ∈ wayz ∧ m.2.2.of ls ss ∧ m.2.2.nds ≤ 3)
    ⟨_, _, [], [], rfl, b04, pn4, c4, f4, .nil, rfl, fun m h => (by cases h)⟩ (fun i σ H' _ ⟨_, _, _, _, _, _, _, h, _⟩ => SqL.of h) (fun i x σ H' hx ⟨y4, y5, xs, ms, eσ, b', pn', hc', hf', hm', hms, hma⟩ => ?_) (fun σ H' ⟨y4, y5, xs, ms, eσ, b', pn', hc', hf', hm', hms, hma⟩ => ?_)
  · subst eσ
    obtain ⟨wd, hwd, rfl⟩ : ∃ wd, (wordz.take n.toNat)[i]? = some wd ∧ x = V.str wd := by
      rw [List.getElem?_map] at hx
      cases e : (wordz.take n.toNat)[i]? with
      | none => rw [e] at hx; cases hx
      | some l => rw [e] at hx; cases hx; exact ⟨l, rfl, rfl⟩
    have hi : i < (wordz.take n.toNat).length := (List.getElem?_eq_some_iff.mp hwd).1
    have hi2 : (wordz.take n.toNat).length ≤ 2 := by rw [List.length_take]; exact Nat.min_le_right _ _
    have hxl : xs.length = i := by
      have h1 := Paired.length hm'
      have h2 : ms.length = ((wordz.take n.toNat).take i).length := by rw [← hms, List.length_map]
      rw [List.length_take] at h2
      omega
    refine ⟨_, rfl, _, rfl, _, rfl, _, rfl, p, 2, rfl, pn', by decide, by decide, fun H5 r b5 pn5 r0 r1 => ⟨_, _, rfl, rfl, ?_⟩⟩
    have b05 := b'.trans b5
    refine ⟨p, hl, sl, ls, hvs, ss, 1 + r.toNat, by show [V.ref p, .ref hl, .ref sl, .int (1 + r)] = _; rw [show (1 + r : Int) = ((1 + r.toNat : Nat) : Int) from by omega], pn5, nhl, nsl, bar_seq b05 nhl hH, hHd.stay (bar_stay b05 hp pn5), bar_seq b05 nsl hS, hM, ⟨n0, rest0, hz⟩, by omega, by omega, fun z => by omega, fun H6 v k b6 pn6 hk hof hnd => ?_⟩
    have hnd3 : k.nds ≤ 3 := by
      have : dB (1 + r.toNat) ≤ 3 := by unfold dB; split <;> omega
      omega
    have b56 := b5.trans b6
    refine ⟨_, rfl, .inl ⟨rfl, _, SqL.of (b56 _ _ nfl hf')⟩, _, rfl, _, rfl, by show 3 ≤ sizeLine; decide, fun gl hgl => ?_⟩
    have s7 := same_new hgl (.lst [V.str "reads", .str "takes", .str "holds"])
    have pn7 := pn6.same s7
    refine ⟨p, gl, _, rfl, pn7, pen_new pn6 hgl, SqL.of upd_same, by show 0 < 3; decide, by show 3 ≤ 1000; decide, fun H8 x b8 pn8 hx => ⟨_, rfl, by show 3 ≤ sizeLine; decide, fun t ht => ?_⟩⟩
    obtain ⟨vv, hvv, rfl⟩ : ∃ vv ∈ wayz, x = V.str vv := by
      simp only [List.mem_cons, List.not_mem_nil, or_false] at hx
      rcases hx with rfl | rfl | rfl <;> exact ⟨_, by decide, rfl⟩
    have s9 := same_new ht (.tup [V.str wd, .str vv, v])
    have b69 := (bar_same (p := p) s7).trans (b8.trans (bar_same s9))
    have pn9 := pn8.same s9
    have t9 := upd_same (H := H8) (a := t) (o := .tup [V.str wd, .str vv, v])
    generalize upd H8 t (.tup [V.str wd, .str vv, v]) = H9 at s9 b69 pn9 t9
    have b59 := b56.trans b69
    have hf9 := b59 _ _ nfl hf'
    refine ⟨fl, xs, .ref t, rfl, rfl, hf9, sz5lt (by omega), ?_⟩
    have stR : Stay K H9 (upd H9 fl (.lst (xs ++ [.ref t]))) := stay_lst hf9
    refine ⟨_, _, xs ++ [.ref t], ms ++ [(wd, vv, k)], rfl, bar_put (b'.trans b59) hfl, pen_upd nfl pn9, by rw [upd_ne nfc]; exact b59 _ _ ncl hc', upd_same, paired_snoc2 (Paired.mapP hm' fun _ _ z => z.stay ((bar_stay b59 pn' pn9).trans stR)) ⟨t, v, rfl, stR.tup _ _ (.inl (.inl t9)), (hk.stay (bar_stay b69 pn6 pn9)).stay stR⟩, ?_, fun m hm => ?_⟩
    · rw [List.map_append, hms, take_one' hwd]
      rfl
    · rcases List.mem_append.mp hm with h | h
      · exact hma m h
      · rw [List.mem_singleton.mp h]
        exact ⟨hvv, hof, hnd3⟩
  · subst eσ
    rw [List.length_map, List.take_length] at hms
    refine ⟨_, rfl, fl, xs, rfl, .inl ⟨SqL.of hf', fun r hr9 => ?_⟩⟩
    have s9 := same_new hr9 (.tup xs)
    exact q _ r ms (b'.trans (bar_same s9)) (pn'.same s9) ⟨xs, .inl (.inl upd_same), Paired.mapP hm' fun _ _ z => z.stay (stay_same s9)⟩ ⟨_, hms⟩ hma
end
end N

namespace N
open PySem PySem.Spec PyProof.Rows L2
/-! ### _law_varied -/
/-- the same class with other variances -/
structure Vry (c' c : Cls) : Prop where
  n : c'.nm = c.nm
  k : c'.ks = c.ks
  m : c'.ms = c.ms
  p : c'.ps.map Prod.fst = c.ps.map Prod.fst
  v : ∀ q ∈ c'.ps, q.2 ∈ varz
section
variable {P : Program} {w : World} {K : PySem.W.Frag} {mg : Str → Option Value} {base : Heap}
def spVar (K : PySem.W.Frag) : Sp := fun vs H Q _ => ∃ (p a : Addr) (xs : List V) (cs : List Cls), vs = [.ref p, .ref a] ∧ Pen H p ∧ a ≠ p ∧ SqL K H a xs ∧ Paired (Cp K H) xs cs ∧ cs.length ≤ 100 ∧ (∀ c ∈ cs, c.ps.length ≤ 2 ∧ ∀ q ∈ c.ps, q.2 ∈ varz) ∧
  ∀ H' l ys cs', Bar p H H' → Pen H' p → H l = none → H' l = some (.lst ys) → Paired (Cp K H') ys cs' → Paired Vry cs' cs → Q (.ref l) H'
theorem ok_varied (G : Glo mg) (CP : Cal P w K mg base 2 "_law_pick" ["_law_pen", "_law_some"] (spPick K))
    (D : DefAt K mg "_law_varied" s_Lvaried ["_law_pen", "_law_classes_here"]) : Cal P w K mg base 3 "_law_varied" ["_law_pen", "_law_classes_here"] (spVar K) := by
  refine D.cal sc_Lvaried (fun vs H Q E h => ?_) (fun f cdv A outer s H vs Q E hr h => ?_)
  · obtain ⟨p, a, xs, cs, rfl, _⟩ := h
    rfl
  obtain ⟨p, a, xs, cs, rfl, hp, na, hq, hC, hcl, hvz, q⟩ := h
  refine ⟨_, pss_cons (ps_set (i := 2) sc_Lvaried.nd rfl (by first | exact Or.inl rfl | exact Or.inr rfl) (pe_lst pa_nil))
    (pss_cons (ps_for (passes_of rfl) rfl (pi_list (pv 1)) (pg_name (i := 3) sc_Lvaried.nd rfl (by first | exact Or.inl rfl | exact Or.inr rfl))
      (pss_cons (ps_set (i := 4) sc_Lvaried.nd rfl (by first | exact Or.inl rfl | exact Or.inr rfl) (pe_lst pa_nil))
      (pss_cons (ps_for (passes_of rfl) rfl (pi_tup (pe_ix ix_tup (pv 3) pe_int (fun _ _ => rfl))) (pg_name (i := 5) sc_Lvaried.nd rfl (by first | exact Or.inl rfl | exact Or.inr rfl))
        (pss_one (ps_expr (pe_bm PySem.F.plainAttrs_list PySem.F.slot_list_append PySem.F.type_list_append mt_append (pv 4) (pa_cons (pe_tup (pa_cons (pe_ix ix_tup (pv 5) pe_int (fun _ _ => rfl)) (pa_cons (pc CP hr rfl (pa_cons (pv 0) (pa_cons (pe_lst (pa_cons (pe_ix ix_tup (pv 5) pe_int (fun _ _ => rfl)) (pa_cons (pe_ix ix_tup (pv 5) pe_int (fun _ _ => rfl)) (pa_cons pe_str (pa_cons pe_str pa_nil))))) pa_nil))) pa_nil))) pa_nil)))))
      (pss_one (ps_expr (pe_bm PySem.F.plainAttrs_list PySem.F.slot_list_append PySem.F.type_list_append mt_append (pv 2) (pa_cons (pe_op op_catA (pe_tup (pa_cons (pe_ix ix_tup (pv 3) pe_int (fun _ _ => rfl)) (pa_cons (pe_callTy call_tuple_of (by rfl) G.tuple b_tuple (pa_cons (pv 4) pa_nil)) pa_nil))) (pe_slice sl_tup (pv 3) (po_some pe_int) po_none)) pa_nil)))))))
    (pss_one (ps_ret (pv 2)))), ?_⟩
  have hxl : xs.length = cs.length := Paired.length hC
  refine ⟨Nat.zero_le _, fun fl hfl => ?_⟩
  have s1 := same_new hfl (.lst [])
  have nfl : fl ≠ p := pen_new hp hfl
  have nfa : fl ≠ a ∨ True := .inr trivial
  refine ⟨_, rfl, a, rfl, ⟨xs, s1.seq hq⟩, ?_⟩
  refine for_list (K := K) (a := a) (xs := xs) (fun i σ H' => ∃ y3 y4 y5 ys cs', σ = [some (.ref p), some (.ref a), some (.ref fl), y3, y4, y5] ∧ Bar p H H' ∧ Pen H' p ∧ H' fl = some (.lst ys) ∧ Paired (Cp K H') ys cs' ∧ Paired Vry cs' (cs.take i))
    ⟨_, _, _, [], [], rfl, bar_same s1, hp.same s1, upd_same, .nil, .nil⟩ (fun i σ H' _ ⟨_, _, _, _, _, _, b, _⟩ => bar_seq b na hq) (fun i x σ H' hx ⟨y3, y4, y5, ys, cs', eσ, b', pn', hf', hC', hV'⟩ => ?_) (fun σ H' ⟨y3, y4, y5, ys, cs', eσ, b', pn', hf', hC', hV'⟩ => ?_)
  · subst eσ
    have st0 : Stay K H H' := bar_stay b' hp pn'
    obtain ⟨c, hc1, hc2⟩ := pairedAt hC hx
    have hi : i < cs.length := (List.getElem?_eq_some_iff.mp hc1).1
    have hcm := List.mem_of_getElem? hc1
    obtain ⟨hp2, hcv⟩ := hvz c hcm
    obtain ⟨ac, ap, ak, am, rfl, qc, hap, hak, ham⟩ := hc2.stay st0
    obtain ⟨us, hu, hup⟩ := hap
    have hul : us.length = c.ps.length := Paired.length hup
    have hyl : ys.length = i := by
      have h1 := Paired.length hC'
      have h2 := Paired.length hV'
      rw [List.length_take] at h2
      omega
    refine ⟨Nat.zero_le _, fun rl hrl => ?_⟩
    have s2 := same_new hrl (.lst [])
    have nrl : rl ≠ p := pen_new pn' hrl
    have nrf : fl ≠ rl := ne_of_none hf' hrl
    have frl : H rl = none := pen_free' b' pn' hrl
    refine ⟨_, rfl, ac, _, 1, _, rfl, rfl, (stay_same s2).tup _ _ qc, atI_nat (j := 1) rfl, ap, rfl, ⟨us, (stay_same s2).tup _ _ hu⟩, ?_⟩
    refine for_tup (K := K) (a := ap) (xs := us) (fun j σ2 H2 => ∃ y5 rs ps', σ2 = [some (.ref p), some (.ref a), some (.ref fl), some (.ref ac), some (.ref rl), y5] ∧ Bar p H H2 ∧ Pen H2 p ∧ Stay K H' H2 ∧ H2 fl = some (.lst ys) ∧ H2 rl = some (.lst rs) ∧ Paired (Pp K H2) rs ps' ∧ ps'.map Prod.fst = (c.ps.take j).map Prod.fst ∧ ∀ q ∈ ps', q.2 ∈ varz)
      ⟨_, [], [], rfl, b'.trans (bar_same s2), pn'.same s2, stay_same s2, s2 _ _ hf', upd_same, .nil, rfl, fun q h => (by cases h)⟩ (fun j σ2 H2 _ ⟨_, _, _, _, _, _, st, _⟩ => st.tup _ _ hu) (fun j x σ2 H2 hx2 ⟨z5, rs, ps', eσ, b2, pn2, st2, hf2, hr2, hps, hfs, hvs⟩ => ?_) (fun σ2 H2 ⟨z5, rs, ps', eσ, b2, pn2, st2, hf2, hr2, hps, hfs, hvs⟩ => ?_)
    · subst eσ
      obtain ⟨pp, hp1, ⟨u, rfl, hu1⟩⟩ := pairedAt hup hx2
      have hj : j < c.ps.length := (List.getElem?_eq_some_iff.mp hp1).1
      have hu2 := st2.tup _ _ hu1
      have hrs : rs.length ≤ 2 := by
        have h1 := Paired.length hps
        have h2 : ps'.length = (c.ps.take j).length := by
          have := congrArg List.length hfs
          rw [List.length_map, List.length_map] at this
          exact this
        rw [List.length_take] at h2
        omega
      refine ⟨_, rfl, .inl ⟨rfl, _, SqL.of hr2⟩, _, rfl, u, _, 0, _, rfl, rfl, hu2, atI_nat (j := 0) rfl, _, rfl, _, rfl, u, _, 1, _, rfl, rfl, hu2, atI_nat (j := 1) rfl, _, rfl, u, _, 1, _, rfl, rfl, hu2, atI_nat (j := 1) rfl, by show 4 ≤ sizeLine; decide, fun gl hgl => ?_⟩
      have s3 := same_new hgl (.lst [V.str pp.2, .str pp.2, .str "out", .str "in"])
      refine ⟨p, gl, _, rfl, pn2.same s3, pen_new pn2 hgl, SqL.of upd_same, by show 0 < 4; decide, by show 4 ≤ 1000; decide, fun H4 x4 b4 pn4 hx4 => ⟨by show 2 ≤ sizeLine; decide, fun t ht => ?_⟩⟩
      have hpv := hcv pp (List.mem_of_getElem? hp1)
      obtain ⟨vv, hvv, rfl⟩ : ∃ vv ∈ varz, x4 = V.str vv := by
        simp only [List.mem_cons, List.not_mem_nil, or_false] at hx4
        rcases hx4 with rfl | rfl | rfl | rfl
        · exact ⟨_, hpv, rfl⟩
        · exact ⟨_, hpv, rfl⟩
        · exact ⟨_, by decide, rfl⟩
        · exact ⟨_, by decide, rfl⟩
      have s5 := same_new ht (.tup [V.str pp.1, .str vv])
      have t5 := upd_same (H := H4) (a := t) (o := .tup [V.str pp.1, .str vv])
      have b25 := (bar_same (p := p) s3).trans (b4.trans (bar_same s5))
      have pn5 := pn4.same s5
      generalize upd H4 t (.tup [V.str pp.1, .str vv]) = H5 at s5 t5 b25 pn5
      have hr5 := b25 _ _ nrl hr2
      refine ⟨rl, rs, .ref t, rfl, rfl, hr5, sz5lt (by omega), ?_⟩
      have stR : Stay K H5 (upd H5 rl (.lst (rs ++ [.ref t]))) := stay_lst hr5
      have stA := (bar_stay (K := K) b25 pn2 pn5).trans stR
      refine ⟨_, rs ++ [.ref t], ps' ++ [(pp.1, vv)], rfl, bar_put (b2.trans b25) frl, pen_upd nrl pn5, st2.trans stA, by rw [upd_ne nrf]; exact b25 _ _ nfl hf2, upd_same, paired_snoc2 (Paired.mapP hps fun _ _ z => z.stay stA) ⟨t, rfl, stR.tup _ _ (.inl (.inl t5))⟩, ?_, fun q hq => ?_⟩
      · rw [List.map_append, hfs, take_one' hp1, List.map_append]
        rfl
      · rcases List.mem_append.mp hq with h | h
        · exact hvs q h
        · rw [List.mem_singleton.mp h]
          exact hvv
    · subst eσ
      rw [hul, List.take_length] at hfs
      have qc2 := st2.tup _ _ qc
      refine ⟨_, rfl, .inl ⟨rfl, _, SqL.of hf2⟩, _, rfl, ac, _, 0, _, rfl, rfl, qc2, atI_nat (j := 0) rfl, _, rfl, rl, rs, rfl, .inl ⟨SqL.of hr2, fun tr htr => ?_⟩⟩
      have s3 := same_new htr (.tup rs)
      refine ⟨by show 2 ≤ sizeLine; decide, fun t2 ht2 => ?_⟩
      have s4 := same_new ht2 (.tup [V.str c.nm, .ref tr])
      have s34 := s3.trans s4
      refine ⟨_, rfl, 2, rfl, ac, _, rfl, (stay_same s34).tup _ _ qc2, (show ¬ (HT.sIx 4 0 (some 2) = 0 ∧ HT.sIx 4 4 none = 4) by decide), fun t3 ht3 => ?_⟩
      rw [show cutV [V.str c.nm, .ref ap, .ref ak, .ref am] (some 2) none = [.ref ak, .ref am] from rfl]
      have s5 := same_new ht3 (.tup [V.ref ak, .ref am])
      have s35 := s34.trans s5
      refine ⟨t2, t3, [V.str c.nm, .ref tr], [V.ref ak, .ref am], rfl, rfl, .inl (.inl (s5 _ _ upd_same)), .inl (.inl upd_same), sz5 (by show 2 + 2 ≤ 100000; decide), (fun z => by cases z), (fun _ z => by cases z), (fun _ z t4 ht4 => ?_)⟩
      have s6 := same_new ht4 (.tup ([V.str c.nm, .ref tr] ++ [V.ref ak, .ref am]))
      have g1 := (s4.trans (s5.trans s6)) _ _ (upd_same (H := H2) (a := tr) (o := .tup rs))
      have g2 := upd_same (H := upd (upd (upd H2 tr (.tup rs)) t2 (.tup [V.str c.nm, .ref tr])) t3 (.tup [V.ref ak, .ref am])) (a := t4) (o := .tup ([V.str c.nm, .ref tr] ++ [V.ref ak, .ref am]))
      have s36 := s35.trans s6
      have g2 : _ = some (HO.tup [V.str c.nm, .ref tr, .ref ak, .ref am]) := g2
      generalize upd (upd (upd (upd H2 tr (.tup rs)) t2 (.tup [V.str c.nm, .ref tr])) t3 (.tup [V.ref ak, .ref am])) t4 (.tup ([V.str c.nm, .ref tr] ++ [V.ref ak, .ref am])) = HE at g1 g2 s36
      have hfE := s36 _ _ hf2
      refine ⟨fl, ys, .ref t4, rfl, rfl, hfE, sz5lt (by omega), ?_⟩
      have stR : Stay K HE (upd HE fl (.lst (ys ++ [.ref t4]))) := stay_lst hfE
      have stE := (stay_same (K := K) s36).trans stR
      have stA := st2.trans stE
      refine ⟨_, _, _, ys ++ [.ref t4], cs' ++ [⟨c.nm, ps', c.ks, c.ms⟩], rfl, bar_put (b2.trans (bar_same s36)) hfl, pen_upd nfl (pn2.same s36), upd_same, paired_snoc2 (Paired.mapP hC' fun _ _ z => z.stay stA) ⟨t4, tr, ak, am, rfl, stR.tup t4 [V.str c.nm, .ref tr, .ref ak, .ref am] (.inl (.inl g2)), ⟨rs, stR.tup _ _ (.inl (.inl g1)), Paired.mapP hps fun _ _ z => z.stay stE⟩, hak.stay stA, ham.stay stA⟩, ?_⟩
      rw [take_one' hc1]
      exact paired_snoc2 hV' ⟨rfl, rfl, rfl, hfs, hvs⟩
  · subst eσ
    rw [hxl, List.take_length] at hV'
    exact ⟨_, rfl, q H' fl ys cs' b' pn' hfl hf' hC' hV'⟩
end
end N

namespace N
open PySem PySem.Spec PyProof.Rows L2
/-! ### the law's marks and the program's signs tell of the same places -/
theorem mks_sgl {vr : Str → List Str} {ar : List (Str × Nat)} {ls : List Str} (hv : ∀ n m, (n, m) ∈ ar → (vr n).length = m ∧ ∀ v ∈ vr n, v ∈ varz) : ∀ {k : Kd} {m : Int}, sgm m → k.fits ar ls → ∀ q : Str × Str, q ∈ k.sgl vr (sgS m) ↔ ∃ p ∈ k.mks vr m, q = (p.1, sgS p.2)
  | .L c, m, h, _, q => by simp [Kd.sgl, Kd.mks]
  | .C0 n, m, h, _, q => by simp [Kd.sgl, Kd.mks]
  | .C1 n a, m, h, hf, q => by
    obtain ⟨h1, h2⟩ := hv n 1 hf.1
    obtain ⟨v, e⟩ : ∃ v, vr n = [v] := by
      match hq : vr n, h1 with
      | [v], _ => exact ⟨v, rfl⟩
    have hm : v ∈ varz := h2 v (by rw [e]; exact List.mem_cons_self)
    show q ∈ a.sgl vr (passS (sgS m) ((vr n).getD 0 "")) ↔ ∃ p ∈ (match vr n with | [] => [] | v :: _ => a.mks vr (m * vI v)), _
    rw [e]
    show q ∈ a.sgl vr (passS (sgS m) v) ↔ ∃ p ∈ a.mks vr (m * vI v), _
    rw [← sgS_mul h hm]
    exact mks_sgl hv (sgm_mul _ h) hf.2 q
  | .C2 n a b, m, h, hf, q => by
    obtain ⟨h1, h2⟩ := hv n 2 hf.1
    obtain ⟨v, u, e⟩ : ∃ v u, vr n = [v, u] := by
      match hq : vr n, h1 with
      | [v, u], _ => exact ⟨v, u, rfl⟩
    have hm : v ∈ varz := h2 v (by rw [e]; exact List.mem_cons_self)
    have hm1 : u ∈ varz := h2 u (by rw [e]; exact List.mem_cons_of_mem _ List.mem_cons_self)
    show q ∈ b.sgl vr (passS (sgS m) ((vr n).getD 1 "")) ++ a.sgl vr (passS (sgS m) ((vr n).getD 0 "")) ↔ ∃ p ∈ (match vr n with | [] => [] | [v] => a.mks vr (m * vI v) | v :: u :: _ => a.mks vr (m * vI v) ++ b.mks vr (m * vI u)), _
    rw [e]
    show q ∈ b.sgl vr (passS (sgS m) u) ++ a.sgl vr (passS (sgS m) v) ↔ ∃ p ∈ a.mks vr (m * vI v) ++ b.mks vr (m * vI u), _
    rw [← sgS_mul h hm, ← sgS_mul h hm1, List.mem_append]
    have i1 := mks_sgl hv (sgm_mul v h) hf.2.1 q
    have i2 := mks_sgl hv (sgm_mul u h) hf.2.2 q
    constructor
    · rintro (z | z)
      · obtain ⟨p, hp, e⟩ := i2.mp z
        exact ⟨p, List.mem_append_right _ hp, e⟩
      · obtain ⟨p, hp, e⟩ := i1.mp z
        exact ⟨p, List.mem_append_left _ hp, e⟩
    · rintro ⟨p, hp, e⟩
      rcases List.mem_append.mp hp with hp | hp
      · exact .inr (i1.mpr ⟨p, hp, e⟩)
      · exact .inl (i2.mpr ⟨p, hp, e⟩)
def letZ (v : Str) : List Int := if v = "out" then [1] else if v = "in" then [-1] else [1, 0, -1]
def badI (l v : Str) (q : Str × Int) : Bool := decide (q.1 = l) && !decide (q.2 ∈ letZ v)
theorem bar_iff {m : Int} {v : Str} (h : sgm m) (hv : v ∈ varz) : barB (sgS m) v = !decide (m ∈ letZ v) := by
  unfold sgm at h
  simp only [varz, List.mem_cons, List.not_mem_nil, or_false] at hv
  rcases hv with rfl | rfl | rfl <;> rcases h with rfl | rfl | rfl <;> decide +kernel
/-- the marks in a class's parents -/
def Cls.pmk (vr : Str → List Str) (c : Cls) : List (Str × Int) := c.ks.flatMap fun k => k.mks vr 1
theorem bad_same {vr : Str → List Str} {ar : List (Str × Nat)} {ls : List Str} (hv : ∀ n m, (n, m) ∈ ar → (vr n).length = m ∧ ∀ v ∈ vr n, v ∈ varz) {ks : List Kd} (hf : ∀ k ∈ ks, k.fits ar ls) {p : Str × Str} (hp : p.2 ∈ varz) :
    (ks.flatMap fun k => k.sgl vr "+").any (fun q => decide (q.1 = p.1) && barB q.2 p.2) = (ks.flatMap fun k => k.mks vr 1).any (badI p.1 p.2) := by
  rw [Bool.eq_iff_iff, List.any_eq_true, List.any_eq_true]
  have e1 : sgS 1 = "+" := by decide +kernel
  constructor
  · rintro ⟨q, hq, h⟩
    obtain ⟨k, hk, hq⟩ := List.mem_flatMap.mp hq
    rw [← e1] at hq
    obtain ⟨r, hr, rfl⟩ := (mks_sgl hv (m := 1) (.inl rfl) (hf k hk) q).mp hq
    refine ⟨r, List.mem_flatMap.mpr ⟨k, hk, hr⟩, ?_⟩
    unfold badI
    rw [← bar_iff (mks_sgm vr k 1 (.inl rfl) r hr) hp]
    exact h
  · rintro ⟨r, hr, h⟩
    obtain ⟨k, hk, hr⟩ := List.mem_flatMap.mp hr
    refine ⟨(r.1, sgS r.2), List.mem_flatMap.mpr ⟨k, hk, ?_⟩, ?_⟩
    · rw [← e1]
      exact (mks_sgl hv (m := 1) (.inl rfl) (hf k hk) _).mpr ⟨r, hr, rfl⟩
    · unfold badI at h
      rw [← bar_iff (mks_sgm vr k 1 (.inl rfl) r hr) hp] at h
      exact h
end N

namespace N
open PySem PySem.Spec PyProof.Rows L2
/-! ### _law_turned -/
theorem merge_nd : ∀ (kvs acc : List (Key × V)), ((acc ++ kvs).map Prod.fst).Nodup → mergeK acc kvs = acc ++ kvs
  | [], acc, _ => by rw [List.append_nil]; rfl
  | p :: kvs, acc, h => by
    have h1 : (Prod.fst p) ∉ acc.map Prod.fst := fun z => by
      rw [List.map_append, List.nodup_append] at h
      exact h.2.2 _ z _ (List.mem_map_of_mem (f := Prod.fst) List.mem_cons_self) rfl
    show mergeK (putK acc p.1 p.2) kvs = _
    rw [put_fresh h1, merge_nd kvs _ (by rw [List.append_assoc]; exact h), List.append_assoc]
    rfl
/-- {'out': [1], 'in': [-1]}.get(word, [1, 0, -1]), the word at the slot 6 -/
def tLetG (K : PySem.W.Frag) : TE := fun σ H Q => ∃ v : Str, σ[6]? = some (some (.str v)) ∧ v ∈ varz ∧ ∀ (H2 : Hp) (l : Addr), Same H H2 → H2 l = some (.lst ((letZ v).map V.int)) → Q (.ref l) H2
theorem tLetG_ok {K : PySem.W.Frag} {σ : L2.St} {H : Hp} {Q : VK} (z : tLetG K σ H Q) :
    tDGet2 (tDisp [(tC (.str "out"), tLst (tCons (tC (.int 1)) tNil)), (tC (.str "in"), tLst (tCons (tUn (rU fun i => .int (-i)) (tC (.int 1))) tNil))]) (tVar 6) (tLst (tCons (tC (.int 1)) (tCons (tC (.int 0)) (tCons (tUn (rU fun i => .int (-i)) (tC (.int 1))) tNil)))) σ H Q := by
  obtain ⟨v, e, hv, q⟩ := z
  intro p hp
  refine ⟨by show 1 ≤ sizeLine; decide, fun l1 h1 => ⟨1, rfl, by show 1 ≤ sizeLine; decide, fun l2 h2 => ?_⟩⟩
  have n1 : p ≠ l1 := ne_of_none upd_same h1
  have a1 : (upd (upd H p (.dK [])) l1 (.lst [V.int 1])) p = some (.dK []) := by rw [upd_ne n1]; exact upd_same
  have n2 : p ≠ l2 := ne_of_none a1 h2
  have s2 : Same (upd (upd H p (.dK [])) l1 (.lst [V.int 1])) (upd (upd (upd H p (.dK [])) l1 (.lst [V.int 1])) l2 (.lst [V.int (-1)])) := same_new h2 _
  have sf : Same H _ := ((same_new hp (.dK [])).trans (same_new h1 (.lst [V.int 1]))).trans s2
  refine ⟨by rw [upd_ne n2]; exact a1, [(Sum.inr "out", .ref l1), (Sum.inr "in", .ref l2)], rfl, by show 2 ≤ 15; decide, ?_⟩
  have em : mergeK [] [((Sum.inr "out" : Key), V.ref l1), (Sum.inr "in", .ref l2)] = [((Sum.inr "out" : Key), V.ref l1), (Sum.inr "in", .ref l2)] := merge_nd _ [] (show ([Sum.inr "out", Sum.inr "in"] : List Key).Nodup by decide +kernel)
  rw [em]
  have sg := same_mut (o := .dK [((Sum.inr "out" : Key), V.ref l1), (Sum.inr "in", .ref l2)]) sf hp
  have b1 := s2 _ _ (upd_same (H := upd H p (.dK [])) (a := l1) (o := .lst [V.int 1]))
  have b2 := upd_same (H := upd (upd H p (.dK [])) l1 (.lst [V.int 1])) (a := l2) (o := .lst [V.int (-1)])
  refine ⟨p, rfl, .inl ⟨_, .inl upd_same⟩, _, e, 1, rfl, by show 3 ≤ sizeLine; decide, fun l3 h3 => ?_⟩
  have s3 := same_new h3 (.lst [V.int 1, .int 0, .int (-1)])
  have g := sg.trans s3
  refine ⟨_, .inl ⟨_, Sum.inr v, .inl (s3 _ _ upd_same), rfl, rfl⟩, ?_⟩
  have d1 : ("out" : Str) ≠ "in" := by decide +kernel
  have d2 : ("out" : Str) ≠ "same" := by decide +kernel
  have d3 : ("in" : Str) ≠ "same" := by decide +kernel
  simp only [varz, List.mem_cons, List.not_mem_nil, or_false] at hv
  rcases hv with rfl | rfl | rfl
  · rw [show (valV [((Sum.inr "out" : Key), V.ref l1), (Sum.inr "in", .ref l2)] (Sum.inr "out")).getD (.ref l3) = .ref l1 from by simp [valV]]
    exact q _ l1 g (s3 _ _ (by rw [upd_ne n1.symm]; exact b1))
  · rw [show (valV [((Sum.inr "out" : Key), V.ref l1), (Sum.inr "in", .ref l2)] (Sum.inr "in")).getD (.ref l3) = .ref l2 from by simp [valV, d1]]
    exact q _ l2 g (s3 _ _ (by rw [upd_ne n2.symm]; exact b2))
  · rw [show (valV [((Sum.inr "out" : Key), V.ref l1), (Sum.inr "in", .ref l2)] (Sum.inr "same")).getD (.ref l3) = .ref l3 from by simp [valV, d2, d3]]
    exact q _ l3 g upd_same
end N

namespace N
open PySem PySem.Spec PyProof.Rows L2
/-! ### _law_turned -/
theorem shaped_ones : ∀ n : Nat, SeqAt.shaped (.list (List.replicate n (.int 1))) = true := by
  have h1 : ∀ n : Nat, PyData.canLayAll0 (List.replicate n (.int 1)) = true := fun n => by
    induction n with
    | zero => simp [PyData.canLayAll0]
    | succ n ih => rw [List.replicate_succ]; simp [PyData.canLayAll0, PyData.canLay0, ih]
  have h2 : ∀ n : Nat, PyData.depthAll (List.replicate n (.int 1)) ≤ 1 := fun n => by
    induction n with
    | zero => simp [PyData.depthAll]
    | succ n ih => rw [List.replicate_succ]; simp [PyData.depthAll, PyData.depth]; exact ih
  intro n
  have := h2 n
  simp [SeqAt.shaped, PyData.canLay0, h1, PyData.depth]
  omega
theorem eqv_ones (n : Nat) : PyData.eqv (.list (List.replicate n (.int 1))) (.list []) = decide (n = 0) := by
  cases n <;> simp [PyData.eqv, PyData.eqvAll, List.replicate_succ]
theorem dp_ones {K : PySem.W.Frag} {H : Hp} : ∀ n : Nat, DpAll K H (List.replicate n (V.int 1)) (List.replicate n (.int 1))
  | 0 => .nil
  | n + 1 => .cons (.int 1) (dp_ones n)
theorem inV_int {s : Int} {zs : List Int} : inV (.int s) (zs.map V.int) = decide (s ∈ zs) := by
  unfold inV
  rw [Bool.eq_iff_iff, List.any_eq_true, decide_eq_true_iff]
  constructor
  · rintro ⟨y, hy, e⟩
    obtain ⟨z, hz, rfl⟩ := List.mem_map.mp hy
    have : V.int z = V.int s := by simpa [eqV] using e
    cases this
    exact hz
  · intro h
    exact ⟨.int s, List.mem_map_of_mem h, decide_eq_true rfl⟩
theorem find_at {α : Type} {f : α → Bool} : ∀ {l : List α} {i : Nat} {x : α}, l[i]? = some x → f x = true → (∀ y ∈ l.take i, f y = false) → l.find? f = some x
  | [], _, _, h, _, _ => by cases h
  | a :: l, 0, x, h, hp, _ => by
    cases h
    exact List.find?_cons_of_pos hp
  | a :: l, i + 1, x, h, hp, hn => by
    rw [List.find?_cons_of_neg (by rw [hn a (by rw [List.take_succ_cons]; exact List.mem_cons_self)]; decide)]
    exact find_at (i := i) h hp fun y hy => hn y (by rw [List.take_succ_cons]; exact List.mem_cons_of_mem _ hy)
theorem findS_at {α β : Type} {f : α → Option β} {b : β} : ∀ {l : List α} {i : Nat} {x : α}, l[i]? = some x → f x = some b → (∀ y ∈ l.take i, f y = none) → l.findSome? f = some b
  | [], _, _, h, _, _ => by cases h
  | a :: l, 0, x, h, hp, _ => by
    cases h
    rw [List.findSome?_cons, hp]
  | a :: l, i + 1, x, h, hp, hn => by
    rw [List.findSome?_cons, hn a (by rw [List.take_succ_cons]; exact List.mem_cons_self)]
    exact findS_at (i := i) h hp fun y hy => hn y (by rw [List.take_succ_cons]; exact List.mem_cons_of_mem _ hy)
theorem find_no {α : Type} {f : α → Bool} {l : List α} (h : ∀ y ∈ l, f y = false) : l.find? f = none := List.find?_eq_none.mpr fun y hy => by rw [h y hy]; decide
theorem any_count {α : Type} (f : α → Bool) (l : List α) : l.any f = !decide (l.countP f = 0) := by
  rw [Bool.eq_iff_iff, List.any_eq_true]
  constructor
  · rintro ⟨x, hx, h⟩
    have : 0 < l.countP f := List.countP_pos_iff.mpr ⟨x, hx, h⟩
    rw [decide_eq_false (by omega)]
    rfl
  · intro h
    have h0 : ¬ l.countP f = 0 := fun z => by rw [decide_eq_true z] at h; cases h
    exact List.countP_pos_iff.mp (by omega)
/-- what the law finds -/
def Cls.badM (cs : List Cls) (c : Cls) : Option Str := (c.ps.find? fun p => (c.pmk (vrOf cs)).any (badI p.1 p.2)).map Prod.fst
def turnM (cs : List Cls) : Option (Str × Str) := cs.findSome? fun c => (c.badM cs).map fun l => (c.nm, l)
/-- pair[0] == letter and pair[1] not in let -/
def tBt (K : PySem.W.Frag) : TT := fun σ H Q => ∃ (a : Addr) (o l : Str) (s : Int) (lt : Addr) (zs : List Int), σ[8]? = some (some (.ref a)) ∧ SqT K H a [.str o, .int s] ∧ σ[5]? = some (some (.str l)) ∧ σ[7]? = some (some (.ref lt)) ∧ SqL K H lt (zs.map V.int) ∧ Q (decide (o = l) && !decide (s ∈ zs)) H
section
variable {P : Program} {w : World} {K : PySem.W.Frag} {mg : Str → Option Value} {base : Heap}
def spTrn (K : PySem.W.Frag) : Sp := fun vs H Q _ => ∃ (a : Addr) (xs : List V) (cs : List Cls), vs = [.ref a] ∧ SqL K H a xs ∧ Paired (Cp K H) xs cs ∧ cs.length ≤ 100 ∧ (cs.map Cls.nm).Nodup ∧ (∀ c ∈ cs, c.ks.length ≤ 2 ∧ (∀ k ∈ c.ks, k.nds ≤ 8) ∧ ∀ q ∈ c.ps, q.2 ∈ varz) ∧
  (turnM cs = none → ∀ H', Same H H' → Q .non H') ∧ ∀ n l, turnM cs = some (n, l) → ∀ H' t, Same H H' → SqT K H' t [.str n, .str l] → Q (.ref t) H'
theorem ok_turned (G : Glo mg) (CO : Cal P w K mg base 1 "_law_own" ["_law_classes_here"] (spOwn K)) (CS : Cal P w K mg base 9 "_law_marks" ["_law_kind", "_law_mark", "_law_own_here"] (spMks K 8))
    (D : DefAt K mg "_law_turned" s_Lturned ["_law_classes_here"]) : Cal P w K mg base 10 "_law_turned" ["_law_classes_here"] (spTrn K) := by
  refine D.cal sc_Lturned (fun vs H Q E h => ?_) (fun f cdv A outer s H vs Q E hr h => ?_)
  · obtain ⟨a, xs, cs, rfl, _⟩ := h
    rfl
  obtain ⟨a, xs, cs, rfl, hq, hC, hcl, nd, hcs, q1, q2⟩ := h
  have hr1 : RoomG 1 _ := hr.mono (by decide)
  refine ⟨_, pss_cons (ps_set (i := 1) sc_Lturned.nd rfl (by first | exact Or.inl rfl | exact Or.inr rfl) (pc CO hr1 rfl (pa_cons (pv 0) pa_nil)))
    (pss_cons (ps_for (passes_of rfl) rfl (pi_list (pv 0)) (pg_name (i := 2) sc_Lturned.nd rfl (by first | exact Or.inl rfl | exact Or.inr rfl))
      (pss_cons (ps_set (i := 3) sc_Lturned.nd rfl (by first | exact Or.inl rfl | exact Or.inr rfl) (pe_lst pa_nil))
      (pss_cons (ps_for (passes_of rfl) rfl (pi_tup (pe_ix ix_tup (pv 2) pe_int (fun _ _ => rfl))) (pg_name (i := 4) sc_Lturned.nd rfl (by first | exact Or.inl rfl | exact Or.inr rfl))
        (pss_one (ps_expr (pe_bm PySem.F.plainAttrs_list PySem.F.slot_list_extend PySem.F.type_list_extend mt_extend (pv 3) (pa_cons (pc CS hr rfl (pa_cons (pv 4) (pa_cons pe_int (pa_cons (pv 1) pa_nil)))) pa_nil)))))
      (pss_one (ps_for (passes_of rfl) rfl (pi_tup (pe_ix ix_tup (pv 2) pe_int (fun _ _ => rfl))) (pg_tup (by rfl) (pgs_cons (pg_name (i := 5) sc_Lturned.nd rfl (by first | exact Or.inl rfl | exact Or.inr rfl)) (pgs_cons (pg_name (i := 6) sc_Lturned.nd rfl (by first | exact Or.inl rfl | exact Or.inr rfl)) pgs_nil)))
        (pss_cons (ps_set (i := 7) sc_Lturned.nd rfl (by first | exact Or.inl rfl | exact Or.inr rfl) (peOf (te := tLetG K) (pe_dget2 (hug hr) (pe_disp (pps_cons pe_str (pe_lst (pa_cons pe_int pa_nil)) (pps_cons pe_str (pe_lst (pa_cons (pe_un un_neg pe_int) pa_nil)) pps_nil)) (by rfl) (by rfl) (fun z => by cases z) (by decide)) (pv 6) (pe_lst (pa_cons pe_int (pa_cons pe_int (pa_cons (pe_un un_neg pe_int) pa_nil)))) ⟨rfl, rfl, rfl, rfl⟩) (fun σ H Q z => tLetG_ok z)))
        (pss_one (ps_if (pt_cmpR (op_neD hr.units) (pe_lc (own := [("_law_pair", 8)]) (g := gName 8) (tt := tBt K) (te := tC (.int 1)) rfl sc_Lturned.nd (pi_list (pv 3)) (blkOk_by (N := nm_Lturned) (sc := defScope s_Lturned) (own := [("_law_pair", 8)]) (by decide +kernel))
            (fun _ _ _ _ _ => pg_name (i := 8) sc_Lturned.nd rfl (Or.inl rfl))
            (fun _ _ _ _ _ => pts_one (ptOf (PW.pt (pw_and (pt_cmpR op_eq (pe_ix ix_tup (pv 8) pe_int (fun _ _ => rfl)) (pv 5) (nomark _)) (pw_and1 (pt_cmpR op_notIn_seq (pe_ix ix_tup (pv 8) pe_int (fun _ _ => rfl)) (pv 7) (by rfl))))) (fun σ H Q z => ?_))) (fun _ _ _ _ _ => pe_int)) (pe_lst pa_nil) (nomark _))
          (pss_one (ps_ret (pe_tup (pa_cons (pe_ix ix_tup (pv 2) pe_int (fun _ _ => rfl)) (pa_cons (pv 5) pa_nil))))) pss_nil))))))))
    (pss_one (ps_ret pe_non))), ?_⟩
  · obtain ⟨a, o, l, s, lt, zs, e8, hq, e5, e7, hs, q⟩ := z
    refine ⟨_, e8, a, _, 0, _, rfl, rfl, hq, atI_nat (j := 0) rfl, _, e5, rfl, _, rfl, ite2 (fun c => ?_) (fun c => ?_)⟩
    · have c' : o = l := V.str.inj (of_decide_eq_true c)
      rw [decide_eq_true c', Bool.true_and] at q
      refine ⟨_, e8, a, _, 1, _, rfl, rfl, hq, atI_nat (j := 1) rfl, _, e7, lt, _, rfl, .inl hs, rfl, by rw [List.all_map]; exact List.all_eq_true.mpr fun _ _ => rfl, _, rfl, ?_⟩
      show Q (!inV _ _) H
      rw [inV_int]
      exact q
    · have c' : ¬ o = l := fun z => c (by rw [z]; exact decide_eq_true rfl)
      rw [decide_eq_false c', Bool.false_and] at q
      exact q
  have hxl : xs.length = cs.length := Paired.length hC
  refine ⟨_, rfl, a, xs, cs, rfl, hq, hC, hcl, nd, fun H1 d s1 hd1 hOd => ?_⟩
  refine ⟨_, rfl, a, rfl, ⟨xs, s1.seq hq⟩, ?_⟩
  refine for_list (K := K) (a := a) (xs := xs) (fun j σ H' => ∃ y2 y3 y4 y5 y6 y7 y8, σ = [some (.ref a), some (.ref d), y2, y3, y4, y5, y6, y7, y8] ∧ Same H1 H' ∧ ∀ c ∈ cs.take j, c.badM cs = none) ⟨_, _, _, _, _, _, _, rfl, Same.refl _, fun c h => (by cases h)⟩ (fun j σ H' _ ⟨_, _, _, _, _, _, _, _, sm, _⟩ => (s1.trans sm).seq hq) (fun j x σ H' hxj ⟨y2, y3, y4, y5, y6, y7, y8, eσ, sm, hno⟩ => ?_) (fun σ H' ⟨y2, y3, y4, y5, y6, y7, y8, eσ, sm, hno⟩ => ?_)
  · subst eσ
    have s01 := s1.trans sm
    obtain ⟨c, hc1, hc2⟩ := pairedAt hC hxj
    have hcm := List.mem_of_getElem? hc1
    obtain ⟨k2, hkn, hvz⟩ := hcs c hcm
    obtain ⟨ac, ap, ak, am, rfl, qc, ⟨ys, hy, hyp⟩, ⟨ks, hk, hkp⟩, ham⟩ := hc2.stay (stay_same s01)
    have hkl : ks.length = c.ks.length := Paired.length hkp
    have hyl : ys.length = c.ps.length := Paired.length hyp
    refine ⟨Nat.zero_le _, fun m0 hm0 => ?_⟩
    have s2 := same_new hm0 (.lst [])
    refine ⟨_, rfl, ac, _, 2, _, rfl, rfl, (stay_same s2).tup _ _ qc, atI_nat (j := 2) rfl, ak, rfl, ⟨ks, (stay_same s2).tup _ _ hk⟩, ?_⟩
    refine for_tup (K := K) (a := ak) (xs := ks) (fun i σ2 H2 => ∃ ws y4, σ2 = [some (.ref a), some (.ref d), some (.ref ac), some (.ref m0), y4, y5, y6, y7, y8] ∧ Same H' H2 ∧ H2 m0 = some (.lst ws) ∧ ws.length ≤ 8 * i ∧ Paired (Ip K H2) ws ((c.ks.take i).flatMap fun k => k.mks (vrOf cs) 1))
      ⟨[], _, rfl, s2, upd_same, Nat.zero_le _, .nil⟩ (fun i σ2 H2 _ ⟨_, _, _, s3, _⟩ => (stay_same s3).tup _ _ hk) (fun i u σ2 H2 hu ⟨ws, y4, eσ, s3, hm, hwl, hw⟩ => ?_) (fun σ2 H2 ⟨ws, y4, eσ, s3, hm, hwl, hw⟩ => ?_)
    · subst eσ
      obtain ⟨kd, hk1, hk2⟩ := pairedAt hkp hu
      have hi : i < ks.length := (List.getElem?_eq_some_iff.mp hu).1
      have hn := hkn kd (List.mem_of_getElem? hk1)
      refine ⟨_, rfl, .inl ⟨rfl, _, SqL.of hm⟩, _, rfl, _, rfl, u, kd, 1, d, cs, rfl, hOd.same (sm.trans s3), nd, Th.stay (stay_same s3) hk2, hn, by omega, .inl rfl, fun H3 l2 ws2 s4 hl2 hl2f hw2 => ?_⟩
      have h1 := Paired.length hw2
      have h2 := mks_len (vrOf cs) kd 1
      have hm3 := s4 _ _ hm
      refine ⟨m0, l2, ws, ws2, rfl, rfl, hm3, hl2, sz5 (by omega), ?_⟩
      have st3 : Stay K H3 (upd H3 m0 (.lst (ws ++ ws2))) := stay_lst hm3
      refine ⟨ws ++ ws2, _, rfl, same_mut (s3.trans s4) hm0, upd_same, by rw [List.length_append]; omega, ?_⟩
      rw [take_one' hk1, List.flatMap_append, List.flatMap_singleton]
      exact pairs_app (Paired.mapP hw fun _ _ z => z.stay ((stay_same s4).trans st3)) (Paired.mapP hw2 fun _ _ z => z.stay st3)
    · subst eσ
      rw [hkl, List.take_length] at hw
      have hw : Paired (Ip K H2) ws (c.pmk (vrOf cs)) := hw
      have hwl2 : ws.length ≤ 16 := by omega
      refine ⟨_, rfl, ac, _, 1, _, rfl, rfl, (stay_same s3).tup _ _ qc, atI_nat (j := 1) rfl, ap, rfl, ⟨ys, (stay_same s3).tup _ _ hy⟩, ?_⟩
      refine for_tup (K := K) (a := ap) (xs := ys) (fun i σ3 H3 => ∃ z5 z6 z7 z8, σ3 = [some (.ref a), some (.ref d), some (.ref ac), some (.ref m0), y4, z5, z6, z7, z8] ∧ Same H2 H3 ∧ ∀ p ∈ c.ps.take i, (c.pmk (vrOf cs)).any (badI p.1 p.2) = false)
        ⟨_, _, _, _, rfl, Same.refl _, fun p h => (by cases h)⟩ (fun i σ3 H3 _ ⟨_, _, _, _, _, s4, _⟩ => (stay_same (s3.trans s4)).tup _ _ hy) (fun i u σ3 H3 hu ⟨z5, z6, z7, z8, eσ, s4, hok2⟩ => ?_) (fun σ3 H3 ⟨z5, z6, z7, z8, eσ, s4, hok2⟩ => ?_)
      · subst eσ
        obtain ⟨pp, hp1, ⟨au, rfl, hau⟩⟩ := pairedAt hyp hu
        have hpm := List.mem_of_getElem? hp1
        refine ⟨au, _, rfl, (stay_same (s3.trans s4)).tup _ _ hau, rfl, .str pp.1, [.str pp.2], rfl, .str pp.2, [], rfl, rfl, ?_⟩
        refine ⟨pp.2, rfl, hvz pp hpm, fun H4 lt s5 hlt => ?_⟩
        have s45 := s4.trans s5
        have hw4 := Paired.mapP hw fun _ _ z => z.stay (stay_same (K := K) s45)
        refine ⟨_, rfl, m0, rfl, ⟨ws, SqL.of (s45 _ _ hm)⟩, fun B hB => ?_⟩
        refine lc_list (K := K) (a := m0) (xs := ws) (tt := tBt K) (te := tC (.int 1)) (fun n H5 => Same H4 H5 ∧ H5 B = some (.lst (List.replicate (((c.pmk (vrOf cs)).take n).countP (badI pp.1 pp.2)) (V.int 1)))) ⟨same_new hB _, upd_same⟩ (fun n H5 _ ⟨s6, _⟩ => SqL.of ((s45.trans s6) _ _ hm)) (fun n z H5 hz ⟨s6, hB5⟩ => ?_) (fun H5 ⟨s6, hB5⟩ => ?_)
        · obtain ⟨qq, hq1, ⟨az, rfl, haz⟩⟩ := pairedAt hw4 hz
          have hn : n < ws.length := (List.getElem?_eq_some_iff.mp hz).1
          have hcnt : ((c.pmk (vrOf cs)).take n).countP (badI pp.1 pp.2) ≤ n := Nat.le_trans List.countP_le_length (by rw [List.length_take]; omega)
          have ecnt : (((c.pmk (vrOf cs)).take (n + 1)).countP (badI pp.1 pp.2)) = ((c.pmk (vrOf cs)).take n).countP (badI pp.1 pp.2) + (if badI pp.1 pp.2 qq then 1 else 0) := by
            rw [take_one' hq1, List.countP_append, List.countP_singleton]
          refine ⟨rfl, az, qq.1, pp.1, qq.2, lt, letZ pp.2, rfl, (stay_same s6).tup _ _ haz, rfl, rfl, SqL.of (s6 _ _ hlt), ?_⟩
          show if badI pp.1 pp.2 qq = true then _ else _
          cases hb : badI pp.1 pp.2 qq with
          | true =>
            rw [if_pos rfl]
            refine ⟨_, hB5, sz5lt (by rw [List.length_replicate]; omega), same_mut s6 hB, ?_⟩
            rw [upd_same, ecnt, hb, if_pos rfl, List.replicate_succ']
          | false =>
            rw [if_neg (by decide)]
            refine ⟨s6, ?_⟩
            rw [ecnt, hb, if_neg (by decide)]
            exact hB5
        · rw [show ws.length = (c.pmk (vrOf cs)).length from Paired.length hw, List.take_length] at hB5
          refine ⟨Nat.zero_le _, fun o ho => ⟨_, _, .lst ((same_new ho _).seq (SqL.of hB5)) (dp_ones _), .lst (.inl (.inl upd_same)) .nil, shaped_ones _, by decide, _, rfl, ?_⟩⟩
          have so := same_new ho (.lst [])
          rw [eqv_ones]
          have hac := any_count (badI pp.1 pp.2) (c.pmk (vrOf cs))
          by_cases h0 : (c.pmk (vrOf cs)).countP (badI pp.1 pp.2) = 0
          · rw [decide_eq_true h0] at hac
            rw [decide_eq_true h0]
            refine iteN rfl ⟨_, _, _, _, rfl, (s45.trans s6).trans so, fun p hp => ?_⟩
            rw [take_one' hp1] at hp
            rcases List.mem_append.mp hp with h | h
            · exact hok2 p h
            · rw [List.mem_singleton.mp h]
              exact hac
          · rw [decide_eq_false h0] at hac
            rw [decide_eq_false h0]
            have s37 := s3.trans ((s45.trans s6).trans so)
            refine iteE rfl ⟨_, rfl, ac, _, 0, _, rfl, rfl, (stay_same s37).tup _ _ qc, atI_nat (j := 0) rfl, _, rfl, by show 2 ≤ sizeLine; decide, fun t ht => ?_⟩
            refine q2 c.nm pp.1 ?_ _ t (s01.trans (s37.trans (same_new ht _))) (.inl (.inl upd_same))
            have hbm : c.badM cs = some pp.1 := by
              unfold Cls.badM
              rw [find_at hp1 hac hok2]
              rfl
            exact findS_at hc1 (by rw [hbm]; rfl) fun y hy => by rw [hno y hy]; rfl
      · subst eσ
        rw [hyl, List.take_length] at hok2
        refine ⟨_, _, _, _, _, _, _, rfl, sm.trans (s3.trans s4), fun c' hc' => ?_⟩
        rw [take_one' hc1] at hc'
        rcases List.mem_append.mp hc' with h | h
        · exact hno c' h
        · rw [List.mem_singleton.mp h]
          unfold Cls.badM
          rw [find_no hok2]
          rfl
  · subst eσ
    rw [hxl, List.take_length] at hno
    refine q1 ?_ _ (s1.trans sm)
    unfold turnM
    rw [List.findSome?_eq_none_iff]
    intro c hc
    rw [hno c hc]
    rfl
end
end N

namespace N
open PySem PySem.Spec PyProof.Rows L2
/-! ### what the law finds is what the program finds -/
theorem findS_congr {α β : Type} {f g : α → Option β} : ∀ {l : List α}, (∀ x ∈ l, f x = g x) → l.findSome? f = l.findSome? g
  | [], _ => rfl
  | a :: l, h => by
    rw [List.findSome?_cons, List.findSome?_cons, h a List.mem_cons_self, findS_congr fun x hx => h x (List.mem_cons_of_mem _ hx)]
theorem find_congr' {α : Type} {f g : α → Bool} : ∀ {l : List α}, (∀ x ∈ l, f x = g x) → l.find? f = l.find? g
  | [], _ => rfl
  | a :: l, h => by
    rw [List.find?_cons, List.find?_cons, h a List.mem_cons_self, find_congr' fun x hx => h x (List.mem_cons_of_mem _ hx)]
theorem vr_atz {cs : List Cls} (nd : (cs.map Cls.nm).Nodup) (hz : ∀ c ∈ cs, ∀ q ∈ c.ps, q.2 ∈ varz) : ∀ n m, (n, m) ∈ arOf cs → (vrOf cs n).length = m ∧ ∀ v ∈ vrOf cs n, v ∈ varz := fun n m h => by
  obtain ⟨c, hc, rfl, rfl⟩ := mem_arOf h
  rw [vrOf_eq nd hc]
  refine ⟨List.length_map .., fun v hv => ?_⟩
  obtain ⟨p, hp, rfl⟩ := List.mem_map.mp hv
  exact hz c hc p hp
/-- the right side is turnOf, unfolded -/
theorem turnM_eq {cs : List Cls} (nd : (cs.map Cls.nm).Nodup) (hz : ∀ c ∈ cs, ∀ q ∈ c.ps, q.2 ∈ varz) (hf : ∀ c ∈ cs, ∀ k ∈ c.ks, k.fits (arOf cs) (c.ps.map Prod.fst)) :
    turnM cs = cs.findSome? fun c => ((c.ps.find? fun p => (c.plz (vrOf cs)).any fun q => decide (q.1 = p.1) && barB q.2 p.2).map Prod.fst).map fun l => (c.nm, l) := by
  unfold turnM
  refine findS_congr fun c hc => ?_
  unfold Cls.badM
  have h : (c.ps.find? fun p => (c.pmk (vrOf cs)).any (badI p.1 p.2)) = c.ps.find? fun p => (c.plz (vrOf cs)).any fun q => decide (q.1 = p.1) && barB q.2 p.2 :=
    find_congr' fun p hp => (bad_same (vr_atz nd hz) (hf c hc) (hz c hc p hp)).symm
  rw [h]
/-- a kind of the letters and the heads fits -/
theorem of_fits {ls : List Str} {ss ar : List (Str × Nat)} (h : ∀ s ∈ ss, s ∈ ar) : ∀ {k : Kd}, k.of ls ss → k.fits ar ls
  | .L c, z => z
  | .C0 n, z => h _ z
  | .C1 n a, z => ⟨h _ z.1, of_fits h z.2⟩
  | .C2 n a b, z => ⟨h _ z.1, of_fits h z.2.1, of_fits h z.2.2⟩
theorem XY_take {n : Nat} (h : n ≤ 2) : (XY.take n).length = n := by
  rw [List.length_take]
  exact Nat.min_eq_left h
/-- the heads are the classes' names and counts -/
theorem Drn.ar {ss : List (Str × Nat)} {cs : List Cls} (h : Drn ss cs) (hl : cs.length = ss.length) (hO : HdOk ss) : arOf cs = ss := by
  refine List.ext_getElem? fun i => ?_
  unfold arOf
  rw [List.getElem?_map]
  cases e : cs[i]? with
  | none => 
    have := List.getElem?_eq_none_iff.mp e
    exact (List.getElem?_eq_none_iff.mpr (by omega)).symm
  | some c =>
    obtain ⟨s, h1, h2⟩ := h i c e
    rw [h1]
    have h3 : c.ps.length = s.2 := by
      have h4 := congrArg List.length h2.p
      rw [List.length_map, XY_take (hO.s s (List.mem_of_getElem? h1)).2] at h4
      exact h4
    show some (c.nm, c.ps.length) = some s
    rw [h2.n, h3]
end N

namespace N
open PySem PySem.Spec PyProof.Rows L2
/-! ### data with lists and dicts, and its repr -/
mutual
/-- scalars and tuples -/
inductive Dt (K : PySem.W.Frag) (H : Hp) : V → PyData → Prop
  | non : Dt K H .non .none
  | bl (b : Bool) : Dt K H (.bl b) (.bool b)
  | int (i : Int) : Dt K H (.int i) (.int i)
  | str (x : Str) : Dt K H (.str x) (.str x)
  | tup {a : Addr} {xs : List V} {ds : List PyData} : SqT K H a xs → DtAll K H xs ds → Dt K H (.ref a) (.tuple ds)
inductive DtAll (K : PySem.W.Frag) (H : Hp) : List V → List PyData → Prop
  | nil : DtAll K H [] []
  | cons {v : V} {vs : List V} {d : PyData} {ds : List PyData} : Dt K H v d → DtAll K H vs ds → DtAll K H (v :: vs) (d :: ds)
end
/-- the entries of a dict whose keys are texts -/
def KvT (K : PySem.W.Frag) (H : Hp) : List (Key × V) → List (Str × PyData) → Prop := Paired fun p q => p.1 = Sum.inr q.1 ∧ Dt K H p.2 q.2
mutual
/-- .. and lists and dicts of such -/
inductive Dq (K : PySem.W.Frag) (H : Hp) (p : Addr) : V → PyData → Prop
  | t {v : V} {d : PyData} : Dt K H v d → Dq K H p v d
  | tup {a : Addr} {xs : List V} {ds : List PyData} : SqT K H a xs → DqAll K H p xs ds → Dq K H p (.ref a) (.tuple ds)
  | lst {a : Addr} {xs : List V} {ds : List PyData} : H a = some (.lst xs) → (a == sysModules) = false → a ≠ p → DtAll K H xs ds → Dq K H p (.ref a) (.list ds)
  | dct {a : Addr} {kvs : List (Key × V)} {m : List (Str × PyData)} : H a = some (.dK kvs) → KvT K H kvs m → Dq K H p (.ref a) (.dict (m.map fun q => (PyData.str q.1, q.2)))
inductive DqAll (K : PySem.W.Frag) (H : Hp) (p : Addr) : List V → List PyData → Prop
  | nil : DqAll K H p [] []
  | cons {v : V} {vs : List V} {d : PyData} {ds : List PyData} : Dq K H p v d → DqAll K H p vs ds → DqAll K H p (v :: vs) (d :: ds)
end
section
variable {X : Cx} {pins : List (Addr × Obj)} {σ : L2.St} {H : Hp} {s : Shared}
mutual
theorem dt_reads (I : Inv X pins σ H s) : ∀ (d : PyData) (v : V) (u : Value), Dt X.K H v d → RelV v u → Reads s.heap u d []
  | .none, _, _, h, r => by cases h; cases r; exact .none
  | .bool b, _, _, h, r => by cases h; cases r; exact .bool b
  | .int i, _, _, h, r => by cases h; obtain ⟨t, rfl⟩ := r; exact .int i t
  | .str x, _, _, h, r => by cases h; obtain ⟨t, rfl⟩ := r; exact .str x t
  | .list _, _, _, h, _ => by cases h
  | .dict _, _, _, h, _ => by cases h
  | .tuple ds, _, _, h, r => by
    cases h with
    | tup hs ha =>
      cases r
      obtain ⟨its, rv, ⟨o, ho, hc, n, hd⟩, _⟩ := I.tuple hs
      exact .tuple ho hc hd (dts_reads I ds _ its ha rv)
theorem dts_reads (I : Inv X pins σ H s) : ∀ (ds : List PyData) (vs : List V) (us : List Value), DtAll X.K H vs ds → Vals vs us → ReadsAll s.heap us ds []
  | [], _, _, h, r => by cases h; cases r; exact .nil
  | d :: ds, _, _, h, r => by
    cases h with
    | cons a b =>
      cases r with
      | cons r1 r2 =>
        show ReadsAll s.heap _ _ ([] ++ [])
        exact .cons (dt_reads I d _ _ a r1) (dts_reads I ds _ _ b r2)
end
theorem kvt_keys {P : Program} {w : World} {h : Heap} {es : List DictEntry} {vs : List (Key × Value)} (hp : Pairs (mixKind P w) es vs) : ∀ {kvs : List (Key × V)} {m : List (Str × PyData)}, KV kvs vs → KvT X.K H kvs m → ReadsAll h (es.map (·.key)) (m.map fun q => PyData.str q.1) [] := by
  induction hp with
  | nil =>
    intro kvs m k r
    cases k
    cases r
    exact .nil
  | @cons e kv es vs h1 h2 h3 ih =>
    intro kvs m k r
    cases k with
    | cons k1 k2 =>
      cases r with
      | @cons _ q _ m' r1 r2 =>
        have ih' := ih k2 r2
        rw [← k1.1, r1.1] at h1
        rcases keyIs_shape (show keyIs (Sum.inr q.1) e.key = true from h1) with ⟨i, t, z, _⟩ | ⟨x, t, z, ek⟩
        · cases z
        · cases z
          show ReadsAll h (e.key :: es.map (·.key)) (PyData.str q.1 :: m'.map fun q => PyData.str q.1) ([] ++ [])
          rw [ek]
          exact .cons (.str q.1 t) ih'
theorem kvt_vals (I : Inv X pins σ H s) {P : Program} {w : World} {es : List DictEntry} {vs : List (Key × Value)} (hp : Pairs (mixKind P w) es vs) : ∀ {kvs : List (Key × V)} {m : List (Str × PyData)}, KV kvs vs → KvT X.K H kvs m → ReadsAll s.heap (es.map (·.val)) (m.map Prod.snd) [] := by
  induction hp with
  | nil =>
    intro kvs m k r
    cases k
    cases r
    exact .nil
  | @cons e kv es vs h1 h2 h3 ih =>
    intro kvs m k r
    cases k with
    | cons k1 k2 =>
      cases r with
      | @cons _ q _ m' r1 r2 =>
        have ih' := ih k2 r2
        show ReadsAll s.heap (e.val :: es.map (·.val)) (q.2 :: m'.map Prod.snd) ([] ++ [])
        rw [h2]
        exact .cons (dt_reads I q.2 _ _ r1.2 k1.2) ih'
mutual
theorem dq_reads (I : Inv X pins σ H s) {p : Addr} : ∀ (d : PyData) (v : V) (u : Value), Dq X.K H p v d → RelV v u → ∃ as, Reads s.heap u d as ∧ sysModules ∉ as
  | .none, v, u, h, r => by cases h with | t h => exact ⟨_, dt_reads I _ v u h r, by simp⟩
  | .bool b, v, u, h, r => by cases h with | t h => exact ⟨_, dt_reads I _ v u h r, by simp⟩
  | .int i, v, u, h, r => by cases h with | t h => exact ⟨_, dt_reads I _ v u h r, by simp⟩
  | .str x, v, u, h, r => by cases h with | t h => exact ⟨_, dt_reads I _ v u h r, by simp⟩
  | .list ds, v, u, h, r => by
    cases h with
    | t h => cases h
    | lst h1 h2 h4 h3 =>
      cases r
      obtain ⟨z, its, n, rv, ho⟩ := I.hok _ _ h1
      refine ⟨_, .list ho rfl rfl (dts_reads I ds _ its h3 rv), fun hm => ?_⟩
      rw [← List.mem_singleton.mp hm] at h2
      exact absurd h2 (by simp)
  | .dict mm, v, u, h, r => by
    cases h with
    | t h => cases h
    | @dct a kvs m h1 h2 =>
      cases r
      obtain ⟨_, hsm, vs, hkv, o, es, ep, ho, hx, hd, _, hpr, _⟩ := dk_of I.hok h1
      have q := Reads.dict (kvs := m.map fun q => (PyData.str q.1, q.2)) ho hx.1 hd (by rw [List.map_map]; exact kvt_keys (X := X) (H := H) hpr hkv h2) (by rw [List.map_map]; exact kvt_vals I hpr hkv h2)
      refine ⟨_, q, fun hm => ?_⟩
      rcases List.mem_append.mp hm with hm | hm
      · rw [← List.mem_singleton.mp hm] at hsm
        exact absurd hsm (by simp)
      · cases hm
  | .tuple ds, v, u, h, r => by
    cases h with
    | t h => exact ⟨_, dt_reads I _ v u h r, by simp⟩
    | tup hs ha =>
      cases r
      obtain ⟨its, rv, ⟨o, ho, hc, n, hd⟩, _⟩ := I.tuple hs
      obtain ⟨as, q1, q2⟩ := dqs_reads I ds _ its ha rv
      exact ⟨as, .tuple ho hc hd q1, q2⟩
theorem dqs_reads (I : Inv X pins σ H s) {p : Addr} : ∀ (ds : List PyData) (vs : List V) (us : List Value), DqAll X.K H p vs ds → Vals vs us → ∃ as, ReadsAll s.heap us ds as ∧ sysModules ∉ as
  | [], _, _, h, r => by cases h; cases r; exact ⟨_, .nil, by simp⟩
  | d :: ds, _, _, h, r => by
    cases h with
    | cons a b =>
      cases r with
      | cons r1 r2 =>
        obtain ⟨as, q1, q2⟩ := dq_reads I d _ _ a r1
        obtain ⟨bs, q3, q4⟩ := dqs_reads I ds _ _ b r2
        exact ⟨_, .cons q1 q3, fun hm => (List.mem_append.mp hm).elim q2 q4⟩
end
end
section
variable {X : Cx}
/-- repr(x), x any such value -/
def rReprQ (K : PySem.W.Frag) : List V → Hp → VK → Prop := fun xs H Q => ∃ (v : V) (d : PyData) (p : Addr), xs = [v] ∧ Dq K H p v d ∧ d.showable = true ∧ d.depth ≤ 60 ∧ d.shown.length ≤ sizeLine ∧ (∀ i, d = .int i → i.natAbs.log2 < 1920) ∧ Q (.str d.shown) H
theorem call_reprQ {j : Nat} (hr : RoomG j X.A) : CallR X (.builtin "repr") (rReprQ X.K) := by
  intro pins s σ H xs us Q I r h
  obtain ⟨v, d, p, rfl, hd, hs, hdp, hz, hi, q⟩ := h
  obtain ⟨u, rfl, ru⟩ := vals1 r
  obtain ⟨as, rd, hm⟩ := dq_reads I d v u hd ru
  have hun := hr.toRoom.units
  have main : ∀ a : Addr, v = .ref a → wpAny (model X.prog X.w) X.A (call (.builtin "repr") [u]) (EP X pins σ Q) X.xe s := fun a ea => by
    subst ea
    cases (show u = Value.ref a from ru)
    exact repr_of_reads' rd hs (fun _ => hm) hr.gs (by omega) (fun b o e => e) (fun h' u tk hk => ⟨.str d.shown, H, I.kept (t' := tk) hk, ⟨_, rfl⟩, q⟩) hz
  cases hd with
  | tup _ _ => exact main _ rfl
  | lst _ _ _ _ => exact main _ rfl
  | dct _ _ => exact main _ rfl
  | t ht =>
    cases ht with
    | tup _ _ => exact main _ rfl
    | non =>
      cases ru
      exact PySem.P.repr_of_none ⟨.str "None", H, I.tok _, ⟨_, rfl⟩, q⟩
    | bl b =>
      cases ru
      exact PySem.P.repr_of_bool ⟨.str (if b then "True" else "False"), H, I.tok _, ⟨_, rfl⟩, by cases b <;> exact q⟩
    | int i =>
      obtain ⟨t, rfl⟩ := ru
      exact PySem.P.repr_of_int (hi i rfl) ⟨.str (toString i), H, I.tok _, ⟨_, rfl⟩, q⟩
    | str x =>
      obtain ⟨t, rfl⟩ := ru
      exact PySem.P.repr_of_str ⟨.str (reprText x), H, I.tok _, ⟨_, rfl⟩, q⟩ hz
end
/-! ### it stays -/
section
variable {K : PySem.W.Frag} {H H' : Hp} {p : Addr}
mutual
theorem dt_stay (s : Stay K H H') : ∀ (d : PyData) (v : V), Dt K H v d → Dt K H' v d
  | .none, _, h => by cases h; exact .non
  | .bool b, _, h => by cases h; exact .bl b
  | .int i, _, h => by cases h; exact .int i
  | .str x, _, h => by cases h; exact .str x
  | .list _, _, h => by cases h
  | .dict _, _, h => by cases h
  | .tuple ds, _, h => by
    cases h with
    | tup hs ha => exact .tup (s.tup _ _ hs) (dts_stay s ds _ ha)
theorem dts_stay (s : Stay K H H') : ∀ (ds : List PyData) (vs : List V), DtAll K H vs ds → DtAll K H' vs ds
  | [], _, h => by cases h; exact .nil
  | d :: ds, _, h => by
    cases h with
    | cons a b => exact .cons (dt_stay s d _ a) (dts_stay s ds _ b)
end
theorem kvt_stay (s : Stay K H H') {kvs : List (Key × V)} {m : List (Str × PyData)} (h : KvT K H kvs m) : KvT K H' kvs m := Paired.mapP h fun _ q ⟨e, z⟩ => ⟨e, dt_stay s q.2 _ z⟩
mutual
theorem dq_bar (b : Bar p H H') (hp : Pen H p) (s : Stay K H H') : ∀ (d : PyData) (v : V), Dq K H p v d → Dq K H' p v d
  | .none, _, h => by cases h with | t h => exact .t (dt_stay s _ _ h)
  | .bool _, _, h => by cases h with | t h => exact .t (dt_stay s _ _ h)
  | .int _, _, h => by cases h with | t h => exact .t (dt_stay s _ _ h)
  | .str _, _, h => by cases h with | t h => exact .t (dt_stay s _ _ h)
  | .list ds, _, h => by
    cases h with
    | t h => cases h
    | lst h1 h2 h4 h3 => exact .lst (b _ _ h4 h1) h2 h4 (dts_stay s ds _ h3)
  | .dict mm, _, h => by
    cases h with
    | t h => cases h
    | dct h1 h2 => exact .dct (b _ _ (fun e => by
        obtain ⟨i, j, k, z, _⟩ := hp
        rw [e, z] at h1
        cases h1) h1) (kvt_stay s h2)
  | .tuple ds, _, h => by
    cases h with
    | t h => exact .t (dt_stay s _ _ h)
    | tup hs ha => exact .tup (s.tup _ _ hs) (dqs_bar b hp s ds _ ha)
theorem dqs_bar (b : Bar p H H') (hp : Pen H p) (s : Stay K H H') : ∀ (ds : List PyData) (vs : List V), DqAll K H p vs ds → DqAll K H' p vs ds
  | [], _, h => by cases h; exact .nil
  | d :: ds, _, h => by
    cases h with
    | cons a c => exact .cons (dq_bar b hp s d _ a) (dqs_bar b hp s ds _ c)
end
mutual
theorem dq_same (b : Same H H') : ∀ (d : PyData) (v : V), Dq K H p v d → Dq K H' p v d
  | .none, _, h => by cases h with | t h => exact .t (dt_stay (stay_same b) _ _ h)
  | .bool _, _, h => by cases h with | t h => exact .t (dt_stay (stay_same b) _ _ h)
  | .int _, _, h => by cases h with | t h => exact .t (dt_stay (stay_same b) _ _ h)
  | .str _, _, h => by cases h with | t h => exact .t (dt_stay (stay_same b) _ _ h)
  | .list ds, _, h => by
    cases h with
    | t h => cases h
    | lst h1 h2 h4 h3 => exact .lst (b _ _ h1) h2 h4 (dts_stay (stay_same b) ds _ h3)
  | .dict mm, _, h => by
    cases h with
    | t h => cases h
    | dct h1 h2 => exact .dct (b _ _ h1) (kvt_stay (stay_same b) h2)
  | .tuple ds, _, h => by
    cases h with
    | t h => exact .t (dt_stay (stay_same b) _ _ h)
    | tup hs ha => exact .tup ((stay_same b).tup _ _ hs) (dqs_same b ds _ ha)
theorem dqs_same (b : Same H H') : ∀ (ds : List PyData) (vs : List V), DqAll K H p vs ds → DqAll K H' p vs ds
  | [], _, h => by cases h; exact .nil
  | d :: ds, _, h => by
    cases h with
    | cons a c => exact .cons (dq_same b d _ a) (dqs_same b ds _ c)
end
end
end N

namespace N
open PySem PySem.Spec PyProof.Rows L2
/-! ### dicts whose keys are tuples of tuples -/
mutual
/-- the value is this key -/
inductive NkV (K : PySem.W.Frag) (H : Hp) : V → NestedKey → Prop
  | int (i : Int) : NkV K H (.int i) (.num i)
  | str (x : Str) : NkV K H (.str x) (.text x)
  | tup {a : Addr} {xs : List V} {ks : List NestedKey} : SqT K H a xs → NkAll K H xs ks → NkV K H (.ref a) (.tup ks)
inductive NkAll (K : PySem.W.Frag) (H : Hp) : List V → List NestedKey → Prop
  | nil : NkAll K H [] []
  | cons {v : V} {vs : List V} {k : NestedKey} {ks : List NestedKey} : NkV K H v k → NkAll K H vs ks → NkAll K H (v :: vs) (k :: ks)
end
section
variable {X : Cx} {pins : List (Addr × Obj)} {σ : L2.St} {H : Hp} {s : Shared}
mutual
theorem nk_is (I : Inv X pins σ H s) : ∀ (k : NestedKey) (v : V) (u : Value), NkV X.K H v k → RelV v u → NestedIs s.heap k u
  | .none, _, _, h, _ => by cases h
  | .num i, _, _, h, r => by cases h; obtain ⟨t, rfl⟩ := r; exact .int i t
  | .text x, _, _, h, r => by cases h; obtain ⟨t, rfl⟩ := r; exact .text x t
  | .tup ks, _, _, h, r => by
    cases h with
    | tup hs ha =>
      cases r
      obtain ⟨its, rv, ⟨o, ho, hc, n, hd⟩, _⟩ := I.tuple hs
      exact .tup ho hc hd (by simpa using nks_is I ks _ its ha rv)
theorem nks_is (I : Inv X pins σ H s) : ∀ (ks : List NestedKey) (vs : List V) (us : List Value), NkAll X.K H vs ks → Vals vs us → NestedAll s.heap ks us
  | [], _, _, h, r => by cases h; cases r; exact .nil
  | k :: ks, _, _, h, r => by
    cases h with
    | cons a b =>
      cases r with
      | cons r1 r2 => exact .cons (nk_is I k _ _ a r1) (nks_is I ks _ _ b r2)
end
end
section
variable {K : PySem.W.Frag} {H H' : Hp}
mutual
theorem nk_stay (s : Stay K H H') : ∀ (k : NestedKey) (v : V), NkV K H v k → NkV K H' v k
  | .none, _, h => by cases h
  | .num i, _, h => by cases h; exact .int i
  | .text x, _, h => by cases h; exact .str x
  | .tup ks, _, h => by
    cases h with
    | tup hs ha => exact .tup (s.tup _ _ hs) (nks_stay s ks _ ha)
theorem nks_stay (s : Stay K H H') : ∀ (ks : List NestedKey) (vs : List V), NkAll K H vs ks → NkAll K H' vs ks
  | [], _, h => by cases h; exact .nil
  | k :: ks, _, h => by
    cases h with
    | cons a b => exact .cons (nk_stay s k _ a) (nks_stay s ks _ b)
end
mutual
theorem nk_dt : ∀ (k : NestedKey) (v : V), NkV K H v k → Dt K H v k.data
  | .none, _, h => by cases h
  | .num i, _, h => by cases h; exact .int i
  | .text x, _, h => by cases h; exact .str x
  | .tup ks, _, h => by
    cases h with
    | tup hs ha => exact .tup hs (nks_dt ks _ ha)
theorem nks_dt : ∀ (ks : List NestedKey) (vs : List V), NkAll K H vs ks → DtAll K H vs (NestedKey.datas ks)
  | [], _, h => by cases h; exact .nil
  | k :: ks, _, h => by
    cases h with
    | cons a b => exact .cons (nk_dt k _ a) (nks_dt ks _ b)
end
end
theorem stay_ext {K : PySem.W.Frag} {H : Hp} {d : Addr} {φ ψ : Heap → Prop} (e : H d = some (.ext φ)) : Stay K H (upd H d (.ext ψ)) := by
  have k : ∀ a o, H a = some o → (∀ χ, o ≠ .ext χ) → (upd H d (.ext ψ)) a = some o := fun a o q n => by
    rw [upd_ne fun z => by
      rw [z, e] at q
      exact n φ (Option.some.inj q).symm]
    exact q
  refine ⟨fun a xs q => ?_, fun v t q => ?_⟩
  · rcases q with (q | ⟨o, q⟩) | q
    · exact .inl (.inl (k _ _ q fun _ z => by cases z))
    · exact .inl (.inr ⟨o, k _ _ q fun _ z => by cases z⟩)
    · exact .inr q
  · cases q with
    | base b =>
      cases b with
      | non => exact .base .non
      | bl x => exact .base (.bl x)
      | int i => exact .base (.int i)
      | str x => exact .base (.str x)
      | flt x => exact .base (.flt x)
      | lst e => exact .base (.lst (k _ _ e fun _ z => by cases z))
      | frz e => exact .base (.frz (k _ _ e fun xs z => by cases z))
      | tup e => exact .base (.tup (k _ _ e fun xs z => by cases z))
      | dK e => exact .base (.dK (k _ _ e fun xs z => by cases z))
      | dT e => exact .base (.dT (k _ _ e fun xs z => by cases z))
      | ins e cl ha hn htk hm => exact .base (.ins (k _ _ e fun xs z => by cases z) cl ha hn htk hm)
    | byt b => exact .byt b
    | set e => exact .set (k _ _ e fun xs z => by cases z)
    | kList e c => exact .kList e c
    | kTuple e c => exact .kTuple e c
    | kDict e c => exact .kDict e c
    | fTuple e => exact .fTuple (k _ _ e fun xs z => by cases z)
    | fDict e => exact .fDict (k _ _ e fun xs z => by cases z)
/-- the object of such a dict -/
def RawD (P : Program) (w : World) (d : Addr) (xs : List (NestedKey × Addr × Value)) : Heap → Prop := fun h => ∃ o es ep, h.get? d = some o ∧ o.ExactDict ∧ o.data = .dict es ep ∧ es.toList = xs.map (entryOfKey (nestedKind P w))
def KTn (K : PySem.W.Frag) (H : Hp) : List (NestedKey × V) → List (NestedKey × Addr × Value) → Prop := Paired fun p q => p.1 = q.1 ∧ (NkV K H (.ref q.2.1) p.1 ∧ p.1.depth ≤ 8) ∧ RelV p.2 q.2.2
/-- at d a dict with these keys and values, in the order of insertion -/
def DN (P : Program) (w : World) (K : PySem.W.Frag) (H : Hp) (d : Addr) (kvs : List (NestedKey × V)) : Prop := kvs.length ≤ sizeLine ∧ (d == sysModules) = false ∧ ∃ xs, H d = some (.ext (RawD P w d xs)) ∧ KTn K H kvs xs ∧ (xs.map (·.1)).Nodup
section
variable {K : PySem.W.Frag} {H H' : Hp} {P : Program} {w : World} {d : Addr} {kvs : List (NestedKey × V)} {xs : List (NestedKey × Addr × Value)}
theorem KTn.stay (s : Stay K H H') (h : KTn K H kvs xs) : KTn K H' kvs xs := Paired.mapP h fun _ _ z => ⟨z.1, ⟨nk_stay s _ _ z.2.1.1, z.2.1.2⟩, z.2.2⟩
/-- it stays where its object and the tuples stay -/
theorem DN.keep (s : Stay K H H') (hd : ∀ o, H d = some o → H' d = some o) (h : DN P w K H d kvs) : DN P w K H' d kvs := by
  obtain ⟨a, b, xs, c, e, n⟩ := h
  exact ⟨a, b, xs, hd _ c, e.stay s, n⟩
theorem DN.same (s : Same H H') (h : DN P w K H d kvs) : DN P w K H' d kvs := h.keep (stay_same s) (s d)
def valN {β : Type} (kvs : List (NestedKey × β)) (k : NestedKey) : Option β := (kvs.find? fun p => decide (p.1 = k)).map Prod.snd
def putN (kvs : List (NestedKey × V)) (k : NestedKey) (v : V) : List (NestedKey × V) := if (kvs.any fun kv => decide (kv.1 = k)) = true then kvs.map fun kv => if kv.1 = k then (kv.1, v) else kv else kvs ++ [(k, v)]
theorem KTn.val (r : KTn K H kvs xs) (k : NestedKey) : RelO (valN kvs k) ((atKey xs k).map (·.2)) := by
  induction r with
  | nil => exact True.intro
  | @cons p q ps qs h t ih =>
    obtain ⟨h1, _, h2⟩ := h
    by_cases e : p.1 = k
    · have e' : q.1 = k := h1.symm.trans e
      have b : atKey (q :: qs) k = some q.2 := by simp [atKey, List.find?_cons, e']
      have a : valN (p :: ps) k = some p.2 := by simp [valN, List.find?_cons, e]
      rw [a, b]; exact h2
    · have e' : ¬ q.1 = k := fun z => e (h1.trans z)
      have b : atKey (q :: qs) k = atKey qs k := by simp [atKey, List.find?_cons, e']
      have a : valN (p :: ps) k = valN ps k := by simp [valN, List.find?_cons, e]
      rw [a, b]; exact ih
theorem KTn.repl (r : KTn K H kvs xs) (k : NestedKey) {y : V} {u : Value} (ry : RelV y u) : KTn K H (kvs.map fun kv => if kv.1 = k then (kv.1, y) else kv) (xs.map (putAt k u)) := by
  induction r with
  | nil => exact .nil
  | @cons p q ps qs h t ih =>
    rw [List.map_cons, List.map_cons]
    refine .cons ?_ ih
    obtain ⟨h1, h2, h3⟩ := h
    unfold putAt
    by_cases e : p.1 = k
    · rw [if_pos e, if_pos (h1.symm.trans e)]; exact ⟨h1, h2, ry⟩
    · rw [if_neg e, if_neg (fun z => e (h1.trans z))]; exact ⟨h1, h2, h3⟩
theorem valN_any (kvs : List (NestedKey × V)) (k : NestedKey) : (kvs.any fun kv => decide (kv.1 = k)) = (valN kvs k).isSome := by
  induction kvs with
  | nil => rfl
  | cons p ps ih =>
    by_cases e : p.1 = k
    · simp [valN, List.find?_cons, e]
    · have a : valN (p :: ps) k = valN ps k := by simp [valN, List.find?_cons, e]
      rw [a, ← ih, List.any_cons, decide_eq_false e, Bool.false_or]
theorem KTn.put (r : KTn K H kvs xs) (k : NestedKey) {b : Addr} {y : V} {u : Value} (hb : NkV K H (.ref b) k ∧ k.depth ≤ 8) (ry : RelV y u) : KTn K H (putN kvs k y) (storedH xs k b u) := by
  have e : (kvs.any fun kv => decide (kv.1 = k)) = (atKey xs k).isSome := by
    rw [valN_any, (r.val k).isSome_eq, Option.isSome_map]
  unfold putN storedH
  rw [e]
  by_cases q : (atKey xs k).isSome = true
  · rw [if_pos q, if_pos q]; exact r.repl k ry
  · rw [if_neg q, if_neg q]; exact Paired.snoc r ⟨rfl, hb, ry⟩
theorem putN_length (kvs : List (NestedKey × V)) (k : NestedKey) (v : V) : (putN kvs k v).length ≤ kvs.length + 1 := by
  unfold putN
  split
  · rw [List.length_map]; omega
  · rw [List.length_append]; exact Nat.le_refl _
end
section
variable {X : Cx} {pins : List (Addr × Obj)} {σ : L2.St} {H : Hp} {s : Shared} {d a : Addr} {kvs : List (NestedKey × V)} {k : NestedKey} {v : V} {r : Value} {A : Around} {E : Value → Shared → Prop}
theorem dn_of (I : Inv X pins σ H s) (h : DN X.prog X.w X.K H d kvs) : kvs.length ≤ sizeLine ∧ (d == sysModules) = false ∧ ∃ xs, H d = some (.ext (RawD X.prog X.w d xs)) ∧ KTn X.K H kvs xs ∧ s.heap.DictOfH (nestedKind X.prog X.w) d xs := by
  obtain ⟨z, y, xs, e, q, n⟩ := h
  obtain ⟨⟨o, es, ep, h1, h2, h3, h4⟩, _, _⟩ := (show ObjOk X.prog X.w H s.heap d (.ext (RawD X.prog X.w d xs)) from I.hok d _ e)
  refine ⟨z, y, xs, e, q, o, es, ep, h1, h2, h3, h4, fun x hx => ?_, n⟩
  have all : ∀ {l : List (NestedKey × V)} {m : List (NestedKey × Addr × Value)}, KTn X.K H l m → ∀ x ∈ m, (nestedKind X.prog X.w).is s.heap x.1 x.2.1 := by
    intro l m q
    induction q with
    | nil => intro x hx; exact nomatch hx
    | @cons p q ps qs hq t ih =>
      intro x hx
      rcases List.mem_cons.mp hx with e | hx
      · subst e
        rw [← hq.1]
        exact ⟨nk_is I _ _ _ hq.2.1.1 rfl, hq.2.1.2⟩
      · exact ih x hx
  exact all q x hx
theorem nk_key (I : Inv X pins σ H s) (h : NkV X.K H (.ref a) k) (hd : k.depth ≤ 8) : (nestedKind X.prog X.w).is s.heap k a := ⟨nk_is I _ _ _ h rfl, hd⟩
/-- d[k] -/
theorem dn_getItem {Q : Value → Shared → Prop} (hu : A.units + 9 < cLine) (I : Inv X pins σ H s) (h : DN X.prog X.w X.K H d kvs) (hk : NkV X.K H (.ref a) k) (hd : k.depth ≤ 8) (l : valN kvs k = some v) (q : ∀ w' s', Inv X pins σ H s' → RelV v w' → Q w' s') :
    wpAny (model X.prog X.w) A (getItem (.ref d) (.ref a)) Q E s := by
  obtain ⟨z, hs, xs, _, rel, dd⟩ := dn_of I h
  obtain ⟨w', hw, rw'⟩ := RelO.some_of (v := v) (o := (atKey xs k).map (·.2)) (by rw [← l]; exact rel.val k)
  obtain ⟨p, hp, hp2⟩ := Option.map_eq_some_iff.mp hw
  refine wpAny_getItem_heap (by show A.units + 1 + 8 < cLine; omega) (nk_key I hk hd) dd hp ?_
  rw [hp2]
  exact q w' _ (I.tok _) rw'
/-- d[k] = v -/
theorem dn_setItem {Q : Unit → Shared → Prop} (hu : A.units + 9 < cLine) (I : Inv X pins σ H s) (h : DN X.prog X.w X.K H d kvs) (hk : NkV X.K H (.ref a) k) (hd : k.depth ≤ 8) (rv : RelV v r) (hl : kvs.length < sizeLine)
    (q : ∀ H' s', Inv X pins σ H' s' → (∀ b, b ≠ d → H' b = H b) → (∃ φ, H' d = some (.ext φ)) → DN X.prog X.w X.K H' d (putN kvs k v) → Q () s') : wpAny (model X.prog X.w) A (setItem (.ref d) (.ref a) r) Q E s := by
  obtain ⟨z, hs, xs, e, rel, dd⟩ := dn_of I h
  have hz : xs.length ≤ sizeLine := by rw [← Paired.length rel]; exact z
  have hl2 : (putN kvs k v).length ≤ sizeLine := by have := putN_length kvs k v; omega
  refine wpAny_setItem_heap (hsz := hz) (by show A.units + 1 + 8 < cLine; omega) (nk_key I hk hd) dd fun h' dd' hs' => ?_
  obtain ⟨o, es, ep, hq, h2, h3, h4, _, h5⟩ := dd'
  have st : Stay X.K H (upd H d (.ext (RawD X.prog X.w d (storedH xs k a r)))) := stay_ext e
  refine q (upd H d (.ext (RawD X.prog X.w d (storedH xs k a r)))) _ (d_write I (by rw [e]; exact True.intro) hs' ⟨o, hq⟩ ?_) (fun b hb => upd_ne hb) ⟨_, upd_same⟩ ⟨hl2, hs, _, upd_same, (rel.put k ⟨hk, hd⟩ rv).stay st, h5⟩
  refine ⟨⟨o, es, ep, hq, h2, h3, h4⟩, ⟨o, hq⟩, fun h1 h2 ⟨o', es', ep', a1, a2, a3, a4⟩ kp => ⟨o', es', ep', kp _ a1, a2, a3, a4⟩⟩
end
end N

namespace N
open PySem PySem.Spec PyProof.Rows L2
/-! ### such dicts: the rules -/
section
variable {X : Cx} {pins : List (Addr × Obj)} {σ : L2.St} {H : Hp} {s : Shared} {d a : Addr} {kvs : List (NestedKey × V)} {k : NestedKey} {v : V} {r : Value} {A : Around} {E : Value → Shared → Prop}
theorem dn_type (I : Inv X pins σ H s) (h : DN X.prog X.w X.K H d kvs) : s.TypeIs (.ref d) "dict" ∧ (∀ b, Value.ref d = .ref b → ∃ ob, s.heap.get? b = some ob ∧ ob.dict = none) := by
  obtain ⟨_, hd, xs, _, _, dd⟩ := dn_of I h
  refine ⟨dd.typeIs, fun b q => ?_⟩
  cases q
  obtain ⟨ob, _, _, h1, h2, _⟩ := dd
  exact ⟨ob, h1, h2.2.1⟩
theorem relO_getD {o : Option V} {o' : Option Value} {x : V} {u : Value} (h : RelO o o') (hx : RelV x u) : RelV (o.getD x) (o'.getD u) := h.getD hx
/-- d.get(k, x) -/
theorem dn_get2 {Q : Value → Shared → Prop} (hu : A.units + 9 < cLine) (I : Inv X pins σ H s) (h : DN X.prog X.w X.K H d kvs) (hk : NkV X.K H (.ref a) k) (hd : k.depth ≤ 8) (rd : RelV v r) (q : ∀ w' s', Inv X pins σ H s' → RelV ((valN kvs k).getD v) w' → Q w' s') :
    wpAny (model X.prog X.w) A (call (.builtin "dict.get") [.ref d, .ref a, r]) Q E s := by
  obtain ⟨z, hs, xs, _, rel, dd⟩ := dn_of I h
  exact call_meetsIn PySem.F.slot_dict_get dd.typeIs PySem.F.entry_dict_get (PySem.F.args_dict_get_3 _ _ _) (meetsH_dict_get_default (nestedKind X.prog X.w) d a hs r) ⟨by show A.units + 1 + 8 < cLine; omega, k, xs, nk_key I hk hd, dd, q _ _ (I.tok _) ((rel.val k).getD rd)⟩
end
def tNGet (P : Program) (w : World) (K : PySem.W.Frag) (td ty : TE) : TE := fun σ H Q => td σ H fun x H1 => ty σ H1 fun y H2 => ∃ a b kvs k v, x = .ref a ∧ y = .ref b ∧ DN P w K H2 a kvs ∧ NkV K H2 (.ref b) k ∧ k.depth ≤ 8 ∧ valN kvs k = some v ∧ Q v H2
def tNGet2 (P : Program) (w : World) (K : PySem.W.Frag) (td ty tx : TE) : TE := fun σ H Q => td σ H fun x H1 => ∃ a kv0, x = .ref a ∧ DN P w K H1 a kv0 ∧ ty σ H1 fun y H2 => tx σ H2 fun z H3 => ∃ b kvs k, y = .ref b ∧ DN P w K H3 a kvs ∧ NkV K H3 (.ref b) k ∧ k.depth ≤ 8 ∧ Q ((valN kvs k).getD z) H3
def sNPut (P : Program) (w : World) (K : PySem.W.Frag) (td ty tv : TE) : TS := fun D σ H => tv σ H fun v H1 => td σ H1 fun x H2 => ty σ H2 fun y H3 => ∃ a b kvs k, x = .ref a ∧ y = .ref b ∧ DN P w K H3 a kvs ∧ kvs.length < sizeLine ∧ NkV K H3 (.ref b) k ∧ k.depth ≤ 8 ∧
  ∀ H4, (∀ c, c ≠ a → H4 c = H3 c) → (∃ φ, H4 a = some (.ext φ)) → DN P w K H4 a (putN kvs k v) → D.nx σ H4
/-- {} -/
def tNNew (P : Program) (w : World) (K : PySem.W.Frag) : TE := fun _ H Q => ∀ p, H p = none → ∀ H', Same H H' → H' = upd H p (.ext (RawD P w p [])) → DN P w K H' p [] → Q (.ref p) H'
section
variable {X : Cx} {o i e f value : Expr} {pos pos' apos cpos : Pos} {td ty tx tv : TE}
theorem pe_nnew : PE X (.Dict [] [] pos) (tNNew X.prog X.w X.K) := ⟨fun pins s σ H Q I h => by
  have hn := I.hok.fresh (Nat.le_refl s.heap.objs.size)
  have sy : (s.heap.objs.size == sysModules) = false := beq_eq_false_iff_ne.mpr (Nat.ne_of_gt I.big)
  have ho : (s.heap.push { cls := .type "dict", data := .dict #[] }).get? s.heap.objs.size = some { cls := .type "dict", data := .dict #[] } := Heap.get?_push_size _ rfl
  have raw : RawD X.prog X.w s.heap.objs.size [] (s.heap.push { cls := .type "dict", data := .dict #[] }) := ⟨_, #[], 0, ho, ⟨rfl, rfl, rfl⟩, rfl, rfl⟩
  refine wpAny_Dict_empty ⟨.ref s.heap.objs.size, _, I.laid (a := s.heap.objs.size) (o := .ext (RawD X.prog X.w s.heap.objs.size [])) (t' := s.toks) (fun _ _ q => Heap.get?_push_of_some _ q) (Nat.le_refl _) ⟨raw, ⟨_, ho⟩, fun h1 h2 ⟨o', es', ep', a1, a2, a3, a4⟩ kp => ⟨o', es', ep', kp _ a1, a2, a3, a4⟩⟩, rfl, h _ hn _ (same_new hn _) rfl ⟨Nat.zero_le _, sy, [], upd_same, .nil, List.nodup_nil⟩⟩⟩
theorem pe_nget (hu : X.A.units + 9 < cLine) (ho : PE X o td) (hi : PE X i ty) (hs : NoSl i) : PE X (.Subscript o i pos) (tNGet X.prog X.w X.K td ty) := by
  refine ⟨fun pins s σ H Q I h => ?_⟩
  refine subD_of PySem.F.slot_dict_getitem.lookup hs (thn (ho.run pins s σ H _ I h) fun u s1 ⟨x, H1, I1, rx, q1⟩ => thn (hi.run pins s1 σ H1 _ I1 q1) fun iv s2 ⟨y, H2, I2, ry, a, b, kvs, k, v, ex, ey, hd, hk, h8, l, q2⟩ => ?_)
  subst ex ey
  obtain rfl : u = Value.ref a := rx
  obtain rfl : iv = Value.ref b := ry
  exact ⟨(dn_type I2 hd).1, dn_getItem hu I2 hd hk h8 l fun w' s3 I3 rw' => ⟨v, H2, I3, rw', q2⟩⟩
theorem pe_nget2 (hu : X.A.units + 9 < cLine) (ho : PE X o td) (he : PE X e ty) (hf : PE X f tx) (m : M2 X o "get" apos e f cpos) : PE X (.Call (.Attribute o "get" apos) [e, f] [] cpos) (tNGet2 X.prog X.w X.K td ty tx) := by
  refine ⟨fun pins s σ H Q I h => ?_⟩
  refine wpAny_Call_method m.base m.few m.line PySem.F.plainAttrs_dict PySem.F.slot_dict_get PySem.F.type_dict_get (thn (ho.run pins s σ H _ I h) fun u s1 ⟨x, H1, I1, rx, a, kv0, ex, d, q1⟩ => ?_)
  subst ex
  obtain rfl : u = Value.ref a := rx
  obtain ⟨t1, t2⟩ := dn_type I1 d
  refine ⟨t1, t2, ?_⟩
  rw [m.trees]
  refine Calls.callWith_builtin rfl (Calls.evalArgs_plain (Calls.spliced_cons (thn (he.run pins s1 σ H1 _ I1 q1) fun iv s2 ⟨y, H2, I2, ry, q2⟩ =>
    Calls.spliced_cons (thn (hf.run pins s2 σ H2 _ I2 q2) fun fv s3 ⟨z, H3, I3, rz, b, kvs, k, ey, hd, hk, h8, q3⟩ => Calls.spliced_nil ?_))))
  subst ey
  obtain rfl : iv = Value.ref b := ry
  exact dn_get2 hu I3 hd hk h8 rz fun w' s4 I4 rw' => ⟨_, H3, I4, rw', q3⟩
theorem ps_nput (hu : X.A.units + 9 < cLine) (ho : PE X o td) (hi : PE X i ty) (hv : PE X value tv) (hs : swapsWith value (some (.Subscript o i pos')) pos.line X.env = pure false) :
    PS X (.Assign [.Subscript o i pos'] value pos) (sNPut X.prog X.w X.K td ty tv) := by
  refine ⟨fun pins s σ H D I h => ?_⟩
  refine wpAny_Assign_Subscript (thn (hv.run pins s σ H _ I h) fun r s1 ⟨v, H1, I1, rv, q1⟩ => thn (ho.run pins s1 σ H1 _ I1 q1) fun u s2 ⟨x, H2, I2, rx, q2⟩ => thn (hi.run pins s2 σ H2 _ I2 q2) fun iv s3 ⟨y, H3, I3, ry, a, b, kvs, k, ex, ey, hd, hl, hk, h8, q3⟩ => ?_) hs
  subst ex ey
  obtain rfl : u = Value.ref a := rx
  obtain rfl : iv = Value.ref b := ry
  exact dn_setItem hu I3 hd hk h8 rv hl fun H4 s4 I4 h1 h2 h3 => ⟨σ, H4, I4, q3 H4 h1 h2 h3⟩
end
/-! list(d), sorted(d), sorted of its keys -/
def PsOk (K : PySem.W.Frag) (H : Hp) (ps : List (NestedKey × Addr)) : Prop := ∀ p ∈ ps, NkV K H (.ref p.2) p.1 ∧ p.1.depth ≤ 8
def psV (ps : List (NestedKey × Addr)) : List V := ps.map fun p => V.ref p.2
theorem psV_vals : ∀ ps : List (NestedKey × Addr), Vals (psV ps) (ps.map fun p => Value.ref p.2)
  | [] => .nil
  | p :: ps => .cons rfl (psV_vals ps)
theorem vals_psV : ∀ {ps : List (NestedKey × Addr)} {us : List Value}, Vals (psV ps) us → us = ps.map fun p => Value.ref p.2
  | [], _, r => by cases r; rfl
  | p :: ps, _, r => by
    cases r with
    | cons h t =>
      rw [List.map_cons, ← vals_psV t]
      exact congrArg (· :: _) h
section
variable {X : Cx} {pins : List (Addr × Obj)} {σ : L2.St} {H : Hp} {s : Shared} {d : Addr} {kvs : List (NestedKey × V)}
/-- the entries of such a dict -/
theorem dn_keys (I : Inv X pins σ H s) (h : DN X.prog X.w X.K H d kvs) : (d == sysModules) = false ∧ ∃ (o : Obj) (es : Array DictEntry) (ep : Nat) (ps : List (NestedKey × Addr)), s.heap.get? d = some o ∧ o.ExactDict ∧ o.data = .dict es ep ∧ es.size = ps.length ∧ ps.length ≤ sizeLine ∧ PsOk X.K H ps ∧ ps.map Prod.fst = kvs.map Prod.fst ∧
    ∀ acc : Array Value, ItemsOf (fun i v => ∃ en : DictEntry, es[i]? = some en ∧ v = en.key) acc es.size → acc.toList = ps.map fun p => Value.ref p.2 := by
  obtain ⟨z, y, xs, e, rel, o, es, ep, h1, h2, h3, h4, h5, h6⟩ := dn_of I h
  have l1 : es.size = xs.length := size_of_entries h4
  have l2 : kvs.length = xs.length := Paired.length rel
  have kk : ∀ {l : List (NestedKey × V)} {m : List (NestedKey × Addr × Value)}, KTn X.K H l m → (m.map fun x => (x.1, x.2.1)).map Prod.fst = l.map Prod.fst ∧ PsOk X.K H (m.map fun x => (x.1, x.2.1)) := by
    intro l m q
    induction q with
    | nil => exact ⟨rfl, fun p hp => by cases hp⟩
    | @cons p q ps qs hq t ih =>
      refine ⟨?_, fun p' hp => ?_⟩
      · rw [List.map_cons, List.map_cons, List.map_cons, ih.1, hq.1]
      · rcases List.mem_cons.mp hp with rfl | hp
        · rw [← hq.1]
          exact hq.2.1
        · exact ih.2 p' hp
  refine ⟨y, o, es, ep, xs.map fun x => (x.1, x.2.1), h1, h2, h3, by rw [List.length_map]; exact l1, by rw [List.length_map]; omega, (kk rel).2, (kk rel).1, fun acc it => ?_⟩
  have hl : acc.toList.length = xs.length := by rw [Array.length_toList, it.1]; exact l1
  rw [List.map_map]
  apply List.ext_getElem?
  intro j
  rw [List.getElem?_map]
  cases hj : acc.toList[j]? with
  | none =>
    have h1 := List.getElem?_eq_none_iff.mp hj
    rw [List.getElem?_eq_none (by omega)]
    all_goals rfl
  | some v =>
    obtain ⟨en, hen, hv⟩ := it.2 j v (by rw [← Array.getElem?_toList]; exact hj)
    have qe := entry_at h4 j
    rw [hen] at qe
    cases hb : xs[j]? with
    | none =>
      rw [hb] at qe
      exact nomatch (show some en = none from qe)
    | some b =>
      rw [hb] at qe
      have e2 : en = entryOfKey (nestedKind X.prog X.w) b := Option.some.inj qe
      rw [hv, e2]
      all_goals rfl
end
section
variable {X : Cx}
/-- list(d) -/
theorem call_list_DN (hc : X.calm = true) : CallR X (.type "list") (fun xs H Q => ∃ d kvs, xs = [V.ref d] ∧ DN X.prog X.w X.K H d kvs ∧ ∀ p ps, H p = none → PsOk X.K H ps → ps.map Prod.fst = kvs.map Prod.fst → Q (.ref p) (upd H p (.lst (psV ps)))) := by
  intro pins s σ H xs us Q I r h
  obtain ⟨d, kvs, rfl, hd, q⟩ := h
  obtain ⟨u, rfl, rx⟩ := r.one
  cases rx
  obtain ⟨hs, o, es, ep, ps, ho, hx, hdt, l1, l2, hp, hk, hacc⟩ := dn_keys I hd
  refine PySem.W.kdl_call (kdl_raw hs hx hdt) (I.ok.hd hc) ho (by omega) fun h' tk acc' c' kp e it => ?_
  have eb := hacc acc' it
  have rv : Vals (psV ps) acc'.toList := by rw [eb]; exact psV_vals _
  have hz : (psV ps).length ≤ sizeLine := by unfold psV; rw [List.length_map]; exact l2
  refine ⟨.ref s.heap.objs.size, _, I.laid (t' := tk) (o := .lst (psV ps)) kp (Nat.le_refl _) ?_, rfl, q _ _ (I.hok.fresh (Nat.le_refl _)) hp hk⟩
  exact ⟨hz, acc'.toList, c', rv, by rw [Array.toArray_toList]; exact e⟩
/-- the order of keys -/
def leN (p q : NestedKey × Addr) : Bool := PySem.W.dataLe false (fun p : NestedKey × Addr => p.1.data) p q
/-- what may be sorted -/
structure Srtb (ps : List (NestedKey × Addr)) : Prop where
  a : PySem.W.AllAlike (ps.map fun p => p.1.data)
  s : PySem.W.Sortable (ps.map fun p => p.1.data)
  d : ∀ p ∈ ps, p.1.data.depth ≤ 20
theorem each_ref {K : PySem.W.Frag} {H : Hp} : ∀ ps : List (NestedKey × Addr), PySem.W.EachIs (fun v (p : NestedKey × Addr) => v = Value.ref p.2) (ps.map fun p => Value.ref p.2) ps
  | [] => .nil
  | p :: ps => .cons rfl (each_ref (K := K) (H := H) ps)
theorem each_ref' : ∀ {vs : List Value} {ps : List (NestedKey × Addr)}, PySem.W.EachIs (fun v (p : NestedKey × Addr) => v = Value.ref p.2) vs ps → vs = ps.map fun p => Value.ref p.2
  | _, _, .nil => rfl
  | _, _, .cons h t => by rw [h, each_ref' t, List.map_cons]
section
variable {pins : List (Addr × Obj)} {σ : L2.St} {H : Hp} {s : Shared}
theorem each_reads (I : Inv X pins σ H s) {h' : Heap} (kp : ∀ b o, s.heap.get? b = some o → h'.get? b = some o) : ∀ {ps : List (NestedKey × Addr)}, PsOk X.K H ps → PySem.W.EachIs (fun v (p : NestedKey × Addr) => Reads h' v p.1.data []) (ps.map fun p => Value.ref p.2) ps
  | [], _ => .nil
  | p :: ps, h => .cons (PyProof.Rows.Reads.keeps kp (dt_reads I p.1.data _ _ (nk_dt _ _ (h p List.mem_cons_self).1) rfl)) (each_reads I kp fun q hq => h q (List.mem_cons_of_mem _ hq))
end
def rSortedNk (X : Cx) : List V → Hp → VK → Prop := fun xs H Q => ∃ (l : Addr) (ps : List (NestedKey × Addr)), xs = [V.ref l] ∧ SqL X.K H l (psV ps) ∧ PsOk X.K H ps ∧ Srtb ps ∧ ∀ p, H p = none → Q (.ref p) (upd H p (.lst (psV (ps.mergeSort leN))))
/-- sorted(l), l a list of keys -/
theorem call_sorted_nk (hu : X.A.units + 100 < cLine) : CallR X (.builtin "sorted") (rSortedNk X) := by
  intro pins s σ H xs us Q I r h
  obtain ⟨l, ps, rfl, hs, hp, hS, q⟩ := h
  obtain ⟨its, rv, hl, hz⟩ := I.list hs
  obtain ⟨u, rfl, rx⟩ := r.one
  cases rx
  have ei := vals_psV rv
  subst ei
  have hz' : ps.length ≤ sizeLine := by
    have : (psV ps).length = ps.length := by unfold psV; rw [List.length_map]
    omega
  refine PySem.W.sorted_data (R := fun v (p : NestedKey × Addr) => v = Value.ref p.2) (enc := fun p : NestedKey × Addr => p.1.data) (bs := ps) hl.isList (each_ref (K := X.K) (H := H) ps) ((each_reads I (fun _ _ e => e) hp).mono fun _ _ r => ⟨[], r⟩) hS.a hS.s hz' (fun b hb => by have := hS.d b hb; omega) fun out ho eo => ?_
  have eo' := each_ref' eo
  obtain ⟨ep, he'⟩ := PyProof.Rows.sortedAll_at s.heap (ps.map fun p => Value.ref p.2) out.toArray
  have hlen : (psV (ps.mergeSort leN)).length ≤ sizeLine := by unfold psV; rw [List.length_map, List.length_mergeSort]; exact hz'
  exact ⟨.ref _, upd H (s.heap.objs.size + 1) (.lst (psV (ps.mergeSort leN))), I.laid (t' := s.toks) (fun _ _ => PyProof.Rows.sortedAll_old) (Nat.le_succ _) ⟨hlen, out, ep, by rw [eo']; exact psV_vals _, he'⟩, rfl, q _ (I.hok.fresh (Nat.le_succ _))⟩
def rSortedDN (X : Cx) : List V → Hp → VK → Prop := fun xs H Q => ∃ (d : Addr) (kvs : List (NestedKey × V)), xs = [V.ref d] ∧ DN X.prog X.w X.K H d kvs ∧ ∀ ps : List (NestedKey × Addr), PsOk X.K H ps → ps.map Prod.fst = kvs.map Prod.fst → Srtb ps ∧ ∀ p, H p = none → Q (.ref p) (upd H p (.lst (psV (ps.mergeSort leN))))
/-- sorted(d) -/
theorem call_sorted_dn (hc : X.calm = true) (hu : X.A.units + 100 < cLine) : CallR X (.builtin "sorted") (rSortedDN X) := by
  intro pins s σ H xs us Q I r h
  obtain ⟨d, kvs, rfl, hd, q⟩ := h
  obtain ⟨u, rfl, rx⟩ := r.one
  cases rx
  obtain ⟨hs, o, es, ep, ps, ho, hx, hdt, l1, l2, hp, hk, hacc⟩ := dn_keys I hd
  obtain ⟨hS, q⟩ := q ps hp hk
  refine PySem.Calls.call_function_entry PyProof.Rows.kind_sorted PyProof.Rows.plain_sorted PyProof.Rows.entry_sorted (PyProof.Rows.args_sorted1 _) ?_
  unfold Builtin.«sorted»
  refine wpAny_bind (m := checkCount "sorted" 1 1 _) (wpAny_pure ?_)
  refine wpAny_bind (PySem.W.kdu_collect (A := X.A.in1) (kdl_raw hs hx hdt) (I.ok.hd hc) ho (by omega) fun h' tk acc kp it => ?_)
  have eb := hacc acc it
  rw [eb]
  refine wpAny_bind (wpAny_newList ?_ (by rw [List.length_map]; exact l2))
  have hz' : ps.length ≤ sizeLine := l2
  have ho' : (h'.push { cls := .type "list", data := .seq (ps.map fun p => Value.ref p.2).toArray }).get? h'.objs.size = some (seqObj "list" (ps.map fun p => Value.ref p.2).toArray 0) := Heap.get?_push_size _ rfl
  have kp2 : ∀ b o, s.heap.get? b = some o → (h'.push { cls := .type "list", data := .seq (ps.map fun p => Value.ref p.2).toArray }).get? b = some o := fun b o e => Heap.get?_push_of_some _ (kp b o e)
  have key := PySem.W.list_sort_data (prog := X.prog) (w := X.w) (E := X.xe) (A := X.A.in1) (s := { s with heap := h'.push { cls := .type "list", data := .seq (ps.map fun p => Value.ref p.2).toArray }, toks := tk }) (R := fun v (p : NestedKey × Addr) => v = Value.ref p.2) (enc := fun p : NestedKey × Addr => p.1.data) (bs := ps) (a := h'.objs.size) (n := 0) ho' (each_ref (K := X.K) (H := H) ps) ((each_reads I kp2 hp).mono fun _ _ r => ⟨[], r, by simp⟩) hS.a hS.s hz' (fun b hb => by have := hS.d b hb; show X.A.units + 1 + 1 + _ < cLine; omega)
    (Q := fun _ s' => EP X pins σ Q (.ref h'.objs.size) s') fun out ho eo => ?_
  · refine wpAny_bind (wpAny_holding (wpAny_mono key (fun _ s' x => ?_) fun _ _ e => e))
    exact wpAny_pure ⟨_, rfl, x⟩
  · have eo' := each_ref' eo
    obtain ⟨ep, he'⟩ := PyProof.Rows.sortedHeap_at (vs := ps.map fun p => Value.ref p.2) (out := out.toArray) ho'
    have hlen : (psV (ps.mergeSort leN)).length ≤ sizeLine := by unfold psV; rw [List.length_map, List.length_mergeSort]; exact hz'
    have g0 : s.heap.get? h'.objs.size = none := by
      cases e : s.heap.get? h'.objs.size with
      | none => rfl
      | some o => exact absurd (Heap.lt_size (kp _ _ e)) (Nat.lt_irrefl _)
    have hn := I.hok.gone g0
    refine ⟨.ref _, upd H h'.objs.size (.lst (psV (ps.mergeSort leN))), I.laidN (t' := tk) (fun b o e => ?_) g0 hn ⟨hlen, out, ep, by rw [eo']; exact psV_vals _, he'⟩, rfl, q _ hn⟩
    have hb : b ≠ h'.objs.size := Nat.ne_of_lt (Heap.lt_size (kp b o e))
    exact (PyProof.Rows.sortedHeap_old hb (Heap.lt_size (kp2 b o e))).trans (kp2 b o e)
end
end N

namespace N
open PySem PySem.Spec PyProof.Rows L2
/-! ### heads in their order -/
/-- a head as a key -/
def hdK (s : Str × Nat) : NestedKey := .tup [.num (s.2 : Nat), .text s.1]
theorem leN_total : PySem.W.TotalLe leN := PySem.W.sortLe_total _ false _
theorem leN_zero {s t : Str × Nat} {a b : Addr} (h : leN (hdK s, a) (hdK t, b) = true) (ht : t.2 = 0) : s.2 = 0 := by
  obtain ⟨x, n⟩ := s
  obtain ⟨y, m⟩ := t
  dsimp only at ht
  subst ht
  cases n with
  | zero => rfl
  | succ n =>
    exfalso
    revert h
    simp [leN, hdK, PySem.W.dataLe, PySem.W.sortLe, NestedKey.data, NestedKey.datas, PySem.W.keyToks, PySem.W.keyToksAll, PyProof.Rows.lexLt, PyProof.Rows.itemLt]
/-- sorted, the first head has count 0 if one has -/
theorem first_zero {l : List (NestedKey × Addr)} {ss : List (Str × Nat)} (hl : l.map Prod.fst = ss.map hdK) (hz : ∃ s ∈ ss, s.2 = 0) :
    ∃ s r, (l.mergeSort leN).map Prod.fst = hdK s :: r ∧ s ∈ ss ∧ s.2 = 0 := by
  obtain ⟨s0, h0, e0⟩ := hz
  have hp := List.mergeSort_perm l leN
  have hs := PySem.W.sort_pairwise leN_total l
  have hm : hdK s0 ∈ (l.mergeSort leN).map Prod.fst := by
    rw [(hp.map Prod.fst).mem_iff, hl]
    exact List.mem_map_of_mem h0
  cases e : l.mergeSort leN with
  | nil => rw [e] at hm; cases hm
  | cons p r =>
    have hpm : p.1 ∈ ss.map hdK := by
      rw [← hl, ← (hp.map Prod.fst).mem_iff, e]
      exact List.mem_cons_self
    obtain ⟨s, hs1, es⟩ := List.mem_map.mp hpm
    refine ⟨s, r.map Prod.fst, by rw [List.map_cons, es], hs1, ?_⟩
    rw [e] at hm hs
    obtain ⟨q, hq, eq⟩ := List.mem_map.mp hm
    have hle : leN p q = true := by
      rcases List.mem_cons.mp hq with h | h
      · rw [h]; exact leN_total.refl _
      · exact (List.pairwise_cons.mp hs).1 q h
    have h2 : leN (hdK s, p.2) (hdK s0, q.2) = true := by rw [es, ← eq]; exact hle
    exact leN_zero h2 e0
end N

namespace N
open PySem PySem.Spec PyProof.Rows L2
/-! ### _law_shapes -/
theorem hu100s {k : Nat} {A : Around} (hr : RoomG k A) : A.units + 100 < cLine := by
  have h := hr.toRoom.un
  omega
def hdU : NestedKey → Str × Nat
  | .tup [.num n, .text x] => (x, n.toNat)
  | _ => ("", 0)
theorem hdU_K (s : Str × Nat) : hdU (hdK s) = s := by
  obtain ⟨x, n⟩ := s
  show (x, ((n : Nat) : Int).toNat) = (x, n)
  rw [Int.toNat_natCast]
theorem hd_srtb {ps : List (NestedKey × Addr)} (h : ∀ p ∈ ps, ∃ s, p.1 = hdK s) : Srtb ps where
  a := fun d hd d' hd' => by
    obtain ⟨p, hp, rfl⟩ := List.mem_map.mp hd
    obtain ⟨p', hp', rfl⟩ := List.mem_map.mp hd'
    obtain ⟨s, e⟩ := h p hp
    obtain ⟨s', e'⟩ := h p' hp'
    show PySem.W.alike p.1.data p'.1.data = true
    rw [e, e']
    rfl
  s := .inl fun d hd => by
    obtain ⟨p, hp, rfl⟩ := List.mem_map.mp hd
    obtain ⟨s, e⟩ := h p hp
    show ∃ x r, p.1.data = .tuple (x :: r)
    rw [e]
    exact ⟨_, _, rfl⟩
  d := fun p hp => by
    obtain ⟨s, e⟩ := h p hp
    rw [e]
    simp [hdK, NestedKey.data, NestedKey.datas, PyData.depth, PyData.depthAll]
theorem hds_ps {K : PySem.W.Frag} {H : Hp} : ∀ {vs : List V} {ss : List (Str × Nat)}, Hds K H vs ss → ∃ ps : List (NestedKey × Addr), vs = psV ps ∧ ps.map Prod.fst = ss.map hdK ∧ PsOk K H ps
  | _, _, .nil => ⟨[], rfl, rfl, fun p h => by cases h⟩
  | _, _, .cons (b := s) ⟨b, e, q⟩ t => by
    obtain ⟨ps, e1, e2, e3⟩ := hds_ps t
    subst e
    refine ⟨(hdK s, b) :: ps, by rw [e1]; rfl, by rw [List.map_cons, List.map_cons, e2], fun p hp => ?_⟩
    rcases List.mem_cons.mp hp with rfl | h
    · refine ⟨.tup q (.cons (.int _) (.cons (.str _) .nil)), ?_⟩
      simp [hdK, NestedKey.depth, NestedKey.depthAll]
    · exact e3 p h
theorem ps_hds {K : PySem.W.Frag} {H : Hp} : ∀ {ps : List (NestedKey × Addr)}, (∀ p ∈ ps, (∃ s, p.1 = hdK s) ∧ NkV K H (.ref p.2) p.1) → Hds K H (psV ps) ((ps.map Prod.fst).map hdU)
  | [], _ => .nil
  | p :: ps, h => by
    refine .cons ?_ (ps_hds fun q hq => h q (List.mem_cons_of_mem _ hq))
    obtain ⟨⟨s, e⟩, k⟩ := h p List.mem_cons_self
    rw [e] at k ⊢
    rw [hdU_K]
    refine ⟨p.2, rfl, ?_⟩
    cases k with
    | tup hs ha =>
      cases ha with
      | cons a t =>
        cases t with
        | cons b t =>
          cases t
          cases a
          cases b
          exact hs
/-- (len(one[1]), one[0]), one at 1 -/
def tShp (K : PySem.W.Frag) : TE := fun σ H Q => ∃ v c, σ[1]? = some (some v) ∧ Cp K H v c ∧ ∀ t, H t = none → Q (.ref t) (upd H t (.tup [.int (c.ps.length : Nat), .str c.nm]))
section
variable {P : Program} {w : World} {K : PySem.W.Frag} {mg : Str → Option Value} {base : Heap}
def spShs (K : PySem.W.Frag) : Sp := fun vs H Q _ => ∃ (a : Addr) (xs : List V) (cs : List Cls), vs = [.ref a] ∧ SqL K H a xs ∧ Paired (Cp K H) xs cs ∧ cs.length ≤ 100 ∧ (∃ c ∈ cs, c.ps = []) ∧
  ∀ H' l hvs ss, Same H H' → H l = none → H' l = some (.lst hvs) → Hds K H' hvs ss → (∃ n r, ss = (n, 0) :: r) → ss.Perm (arOf cs) → Q (.ref l) H'
theorem ok_shapes (G : Glo mg) (hsrt : mg "sorted" = none) (D : DefAt K mg "_law_shapes" s_Lshapes ["_law_classes_here"]) : Cal P w K mg base 1 "_law_shapes" ["_law_classes_here"] (spShs K) := by
  refine D.cal sc_Lshapes (fun vs H Q E h => ?_) (fun f cdv A outer s H vs Q E hr h => ?_)
  · obtain ⟨a, xs, cs, rfl, _⟩ := h
    rfl
  obtain ⟨a, xs, cs, rfl, hq, hC, hcl, ⟨c0, hc0, ec0⟩, q⟩ := h
  refine ⟨_, pss_one (ps_ret (pe_callB (call_sorted_nk (hu100s hr)) (by rfl) hsrt (by decide +kernel) (pa_cons (pe_lc (own := [("_law_one", 1)]) (g := gName 1) (tt := tYes) (te := tShp K) rfl sc_Lshapes.nd (pi_list (pv 0)) (blkOk_by (N := nm_Lshapes) (sc := defScope s_Lshapes) (own := [("_law_one", 1)]) (by decide +kernel))
      (fun _ _ _ _ _ => pg_name (i := 1) sc_Lshapes.nd rfl (Or.inl rfl)) (fun _ _ _ _ _ => pts_nil)
      (fun _ _ _ _ _ => peOf (pe_tup (pa_cons (pe_callB call_len_seq (by rfl) G.len PySem.boot_len (pa_cons (pe_ix ix_tup (pv 1) pe_int (fun _ _ => rfl)) pa_nil)) (pa_cons (pe_ix ix_tup (pv 1) pe_int (fun _ _ => rfl)) pa_nil))) (fun σ H Q z => ?_))) pa_nil))), ?_⟩
  · obtain ⟨v, c, e1, ⟨ac, ap, ak, am, rfl, qc, ⟨ys, hy, hyp⟩, _⟩, q⟩ := z
    have hyl : ys.length = c.ps.length := Paired.length hyp
    refine ⟨_, e1, ac, _, 1, .ref ap, rfl, rfl, qc, atI_nat (j := 1) rfl, ap, ys, rfl, .inr hy, _, e1, ac, _, 0, .str c.nm, rfl, rfl, qc, atI_nat (j := 0) rfl, by show 2 ≤ sizeLine; decide, fun t ht => ?_⟩
    rw [hyl]
    exact q t ht
  have hxl : xs.length = cs.length := Paired.length hC
  refine ⟨_, rfl, a, rfl, ⟨xs, hq⟩, fun B hB => ?_⟩
  refine lc_list (K := K) (a := a) (xs := xs) (te := tShp K) (fun i H' => Same H H' ∧ ∃ acc, H' B = some (.lst acc) ∧ Hds K H' acc ((arOf cs).take i)) ⟨same_new hB _, [], upd_same, .nil⟩ (fun i H' _ ⟨s, _⟩ => s.seq hq) (fun j u H5 hu ⟨s5, acc, hacc, hp2⟩ => ?_) (fun H5 ⟨s5, acc, hacc, hp2⟩ => ?_)
  · obtain ⟨c, hc1, hc2⟩ := pairedAt hC hu
    have hj : j < xs.length := (List.getElem?_eq_some_iff.mp hu).1
    refine ⟨rfl, ?_⟩
    unfold tYes
    dsimp only
    rw [if_pos rfl]
    refine ⟨u, c, rfl, hc2.stay (stay_same s5), fun t ht => ?_⟩
    have st := same_new ht (.tup [.int (c.ps.length : Nat), .str c.nm])
    have hal := Paired.length hp2
    rw [List.length_take] at hal
    refine ⟨acc, st _ _ hacc, Nat.lt_of_le_of_lt (show _ ≤ 100000 by omega) (by decide), same_mut (s5.trans st) hB, _, upd_same, ?_⟩
    have sl := stay_lst (K := K) (xs := acc) (ys := acc ++ [.ref t]) (st _ _ hacc)
    have er : (arOf cs)[j]? = some (c.nm, c.ps.length) := by
      unfold arOf
      rw [List.getElem?_map, hc1]
      rfl
    rw [take_one' er]
    exact paired_snoc2 (hp2.stay ((stay_same st).trans sl)) ⟨t, rfl, sl.tup _ _ (.inl (.inl upd_same))⟩
  · have ea : (arOf cs).take xs.length = arOf cs := List.take_of_length_le (by unfold arOf; rw [List.length_map, hxl]; exact Nat.le_refl _)
    rw [ea] at hp2
    obtain ⟨ps, rfl, ek, hps⟩ := hds_ps hp2
    have hsr : ∀ r ∈ ps, ∃ s, r.1 = hdK s := fun r hr => by
      have : r.1 ∈ (arOf cs).map hdK := by rw [← ek]; exact List.mem_map_of_mem hr
      obtain ⟨s, _, e⟩ := List.mem_map.mp this
      exact ⟨s, e.symm⟩
    refine ⟨B, ps, rfl, SqL.of hacc, hps, hd_srtb hsr, fun l hl => ?_⟩
    have s4 := same_new hl (.lst (psV (ps.mergeSort leN)))
    obtain ⟨s0, r0, e0, _, hz0⟩ := first_zero ek ⟨(c0.nm, c0.ps.length), by unfold arOf; exact List.mem_map_of_mem (f := fun c : Cls => (c.nm, c.ps.length)) hc0, by show c0.ps.length = 0; rw [ec0]; rfl⟩
    refine q _ l (psV (ps.mergeSort leN)) (((ps.mergeSort leN).map Prod.fst).map hdU) (s5.trans s4) (s5.free hl) upd_same (ps_hds fun p hp => ?_) ?_ ?_
    · have hp' := List.mem_mergeSort.mp hp
      exact ⟨hsr p hp', nk_stay (stay_same s4) _ _ (hps p hp').1⟩
    · rw [e0, List.map_cons, hdU_K]
      obtain ⟨x, n⟩ := s0
      dsimp only at hz0
      subst hz0
      exact ⟨x, _, rfl⟩
    · have h1 := ((List.mergeSort_perm ps leN).map Prod.fst).map hdU
      rw [ek] at h1
      have h2 : hdU ∘ hdK = id := funext hdU_K
      have h3 : ((arOf cs).map hdK).map hdU = arOf cs := by rw [List.map_map, h2, List.map_id]
      rw [h3] at h1
      exact h1
end
end N

namespace N
open PySem PySem.Spec PyProof.Rows L2
/-! ### _law_with_members -/
theorem of_monoS {ls : List Str} {ss ar : List (Str × Nat)} (h : ∀ s ∈ ss, s ∈ ar) : ∀ {k : Kd}, k.of ls ss → k.of ls ar
  | .L c, z => z
  | .C0 n, z => h _ z
  | .C1 n a, z => ⟨h _ z.1, of_monoS h z.2⟩
  | .C2 n a b, z => ⟨h _ z.1, of_monoS h z.2.1, of_monoS h z.2.2⟩
/-- the same class with members -/
structure Mmb (ar : List (Str × Nat)) (c' c : Cls) : Prop where
  n : c'.nm = c.nm
  p : c'.ps = c.ps
  k : c'.ks = c.ks
  w : ∃ n, c'.ms.map Prod.fst = wordz.take n
  m : ∀ m ∈ c'.ms, m.2.1 ∈ wayz ∧ m.2.2.of (c.ps.map Prod.fst) ar ∧ m.2.2.nds ≤ 3
section
variable {P : Program} {w : World} {K : PySem.W.Frag} {mg : Str → Option Value} {base : Heap}
/-- one[:3] + (members(pen, heads, some),) -/
def tWm (K : PySem.W.Frag) : TE := fun σ H Q => ∃ (p ac ap ak am hl sl : Addr) (c : Cls) (hvs : List V) (ss : List (Str × Nat)), σ[0]? = some (some (.ref p)) ∧ σ[4]? = some (some (.ref ac)) ∧ σ[2]? = some (some (.ref hl)) ∧ σ[5]? = some (some (.ref sl)) ∧
  SqT K H ac [.str c.nm, .ref ap, .ref ak, .ref am] ∧ PsAt K H ap c.ps ∧ KsAt K H ak c.ks ∧ Pen H p ∧ hl ≠ p ∧ sl ≠ p ∧ SqL K H hl hvs ∧ Hds K H hvs ss ∧ SqL K H sl ((c.ps.map Prod.fst).map V.str) ∧ Men (c.ps.map Prod.fst) ss ∧ (∃ n r, ss = (n, 0) :: r) ∧
  ∀ H' t c', Bar p H H' → Pen H' p → Cp K H' (.ref t) c' → Mmb ss c' c → Q (.ref t) H'
def spWm (K : PySem.W.Frag) : Sp := fun vs H Q _ => ∃ (p a : Addr) (xs : List V) (cs : List Cls), vs = [.ref p, .ref a] ∧ Pen H p ∧ a ≠ p ∧ SqL K H a xs ∧ Paired (Cp K H) xs cs ∧ cs.length ≤ 50 ∧ (∃ c ∈ cs, c.ps = []) ∧ (∀ c ∈ cs, isNam c.nm = true ∧ c.ps.length ≤ 2 ∧ ∀ q ∈ c.ps, isLet q.1 = true) ∧
  ∀ H' l ys cs', Bar p H H' → Pen H' p → H l = none → H' l = some (.lst ys) → Paired (Cp K H') ys cs' → Paired (Mmb (arOf cs)) cs' cs → Q (.ref l) H'
theorem ok_withm (G : Glo mg) (CS : Cal P w K mg base 1 "_law_shapes" ["_law_classes_here"] (spShs K)) (CM : Cal P w K mg base 6 "_law_members" ["_law_pen", "_law_heads", "_law_some"] (spMemz K))
    (D : DefAt K mg "_law_with_members" s_Lwith_members ["_law_pen", "_law_classes_here"]) : Cal P w K mg base 7 "_law_with_members" ["_law_pen", "_law_classes_here"] (spWm K) := by
  refine D.cal sc_Lwith_members (fun vs H Q E h => ?_) (fun f cdv A outer s H vs Q E hr h => ?_)
  · obtain ⟨p, a, xs, cs, rfl, _⟩ := h
    rfl
  obtain ⟨p, a, xs, cs, rfl, hp, na, hq, hC, hcl, hz0, hok, q⟩ := h
  have hr1 : RoomG 1 _ := hr.mono (by decide)
  refine ⟨_, pss_cons (ps_par (i := 2) (j := 3) (by rfl) sc_Lwith_members.nd rfl rfl (by decide) rfl rfl (pa_cons (pc CS hr1 rfl (pa_cons (pv 1) pa_nil)) (pa_cons (pe_lst pa_nil) pa_nil)) (by rfl))
    (pss_cons (ps_for (passes_of rfl) rfl (pi_list (pv 1)) (pg_name (i := 4) sc_Lwith_members.nd rfl (by first | exact Or.inl rfl | exact Or.inr rfl))
      (pss_cons (ps_setLc (i := 5) (own := [("_law_pair", 6)]) (g := gName 6) (tt := tYes) (te := tOp (rIxT K) (tVar 6) (tC (.int 0))) (by rfl) sc_Lwith_members.nd rfl rfl (sw_true rfl rfl rfl (by decide +kernel)) (pi_tup (pe_ix ix_tup (pv 4) pe_int (fun _ _ => rfl))) (blkOk_by (N := nm_Lwith_members) (sc := defScope s_Lwith_members) (own := [("_law_pair", 6)]) (by decide +kernel))
          (fun _ _ _ _ _ => pg_name (i := 6) sc_Lwith_members.nd rfl (Or.inl rfl)) (fun _ _ _ _ _ => pts_nil) (fun _ _ _ _ _ => pe_ix ix_tup (pv 6) pe_int (fun _ _ => rfl)))
      (pss_one (ps_expr (pe_bm PySem.F.plainAttrs_list PySem.F.slot_list_append PySem.F.type_list_append mt_append (pv 3) (pa_cons (peOf (te := tWm K) (pe_op op_catA (pe_slice sl_tup (pv 4) po_none (po_some pe_int)) (pe_tup (pa_cons (pc CM (hr.mono (by decide)) rfl (pa_cons (pv 0) (pa_cons (pv 2) (pa_cons (pv 5) pa_nil)))) pa_nil))) (fun σ H Q z => ?_)) pa_nil))))))
    (pss_one (ps_ret (pv 3)))), ?_⟩
  · obtain ⟨p, ac, ap, ak, am, hl, sl, c, hvs, ss, e0, e4, e2, e5, qc, hap, hak, pn, nhl, nsl, hH, hHd, hS, hM, hz, q⟩ := z
    refine ⟨_, e4, 3, rfl, ac, _, rfl, qc, (show ¬ (HT.sIx 4 0 none = 0 ∧ HT.sIx 4 4 (some 3) = 4) by decide), fun t1 ht1 => ?_⟩
    rw [show cutV [V.str c.nm, .ref ap, .ref ak, .ref am] none (some 3) = [V.str c.nm, .ref ap, .ref ak] from rfl]
    have s1 := same_new ht1 (.tup [V.str c.nm, .ref ap, .ref ak])
    refine ⟨_, e0, _, e2, _, e5, p, hl, sl, c.ps.map Prod.fst, hvs, ss, rfl, pn.same s1, nhl, nsl, s1.seq hH, hHd.stay (stay_same s1), s1.seq hS, hM, hz, fun H2 r ms b2 pn2 hms hw hma => ⟨by show 1 ≤ sizeLine; decide, fun t3 ht3 => ?_⟩⟩
    have s3 := same_new ht3 (.tup [V.ref r])
    have n1 : t1 ≠ p := pen_new pn ht1
    refine ⟨t1, t3, [V.str c.nm, .ref ap, .ref ak], [V.ref r], rfl, rfl, .inl (.inl (s3 _ _ (b2 _ _ n1 upd_same))), .inl (.inl upd_same), sz5 (by show 3 + 1 ≤ 100000; decide), (fun z => by cases z), (fun _ z => by cases z), (fun _ z t4 ht4 => ?_)⟩
    have s4 := same_new ht4 (.tup ([V.str c.nm, .ref ap, .ref ak] ++ [V.ref r]))
    have b := (bar_same (p := p) s1).trans (b2.trans (bar_same (s3.trans s4)))
    have pn4 := pn2.same (s3.trans s4)
    have st := bar_stay (K := K) b pn pn4
    refine q _ t4 ⟨c.nm, c.ps, c.ks, ms⟩ b pn4 ⟨t4, ap, ak, r, rfl, .inl (.inl upd_same), hap.stay st, hak.stay st, hms.stay (stay_same (s3.trans s4))⟩ ⟨rfl, rfl, rfl, hw, hma⟩
  have hxl : xs.length = cs.length := Paired.length hC
  refine ⟨_, rfl, a, xs, cs, rfl, hq, hC, by omega, hz0, fun H1 hl hvs ss s1 hhl hhl1 hH1 hz hperm => ⟨Nat.zero_le _, fun fl hfl => ⟨_, _, rfl, ?_⟩⟩⟩
  have s2 := same_new hfl (.lst [])
  have s12 := s1.trans s2
  have nhl : hl ≠ p := pen_new hp hhl
  have nfl : fl ≠ p := pen_new (hp.same s1) hfl
  have nfh : fl ≠ hl := (ne_of_none hhl1 hfl).symm
  have hflH : H fl = none := s1.free hfl
  have hmem : ∀ s ∈ ss, s ∈ arOf cs := fun s hs => hperm.subset hs
  have hssl : ss.length = cs.length := by rw [hperm.length_eq]; unfold arOf; rw [List.length_map]
  have hhl2 := s2 _ _ hhl1
  have hH2 := hH1.stay (stay_same (K := K) s2)
  have hf2 := upd_same (H := H1) (a := fl) (o := .lst [])
  generalize upd H1 fl (.lst []) = H2 at s12 hhl2 hH2 hf2
  refine ⟨_, rfl, a, rfl, ⟨xs, s12.seq hq⟩, ?_⟩
  refine for_list (K := K) (a := a) (xs := xs) (fun i σ H' => ∃ y4 y5 ys cs', σ = [some (.ref p), some (.ref a), some (.ref hl), some (.ref fl), y4, y5, none] ∧ Bar p H H' ∧ Pen H' p ∧ H' hl = some (.lst hvs) ∧ Hds K H' hvs ss ∧ H' fl = some (.lst ys) ∧ Paired (Cp K H') ys cs' ∧ Paired (Mmb (arOf cs)) cs' (cs.take i))
    ⟨_, _, [], [], rfl, bar_same s12, hp.same s12, hhl2, hH2, hf2, .nil, .nil⟩ (fun i σ H' _ ⟨_, _, _, _, _, b, _⟩ => bar_seq b na hq) (fun i x σ H' hx ⟨y4, y5, ys, cs', eσ, b', pn', hh', hH', hf', hC', hV'⟩ => ?_) (fun σ H' ⟨y4, y5, ys, cs', eσ, b', pn', hh', hH', hf', hC', hV'⟩ => ?_)
  · subst eσ
    have st0 : Stay K H H' := bar_stay b' hp pn'
    obtain ⟨c, hc1, hc2⟩ := pairedAt hC hx
    have hi : i < cs.length := (List.getElem?_eq_some_iff.mp hc1).1
    have hcm := List.mem_of_getElem? hc1
    obtain ⟨hnm, hp2, hlt⟩ := hok c hcm
    obtain ⟨ac, ap, ak, am, rfl, qc, hap, hak, ham⟩ := hc2.stay st0
    obtain ⟨us, hu, hup⟩ := id hap
    have hul : us.length = c.ps.length := Paired.length hup
    have hyl : ys.length = i := by
      have h1 := Paired.length hC'
      have h2 := Paired.length hV'
      rw [List.length_take] at h2
      omega
    refine ⟨_, rfl, ac, _, 1, _, rfl, rfl, qc, atI_nat (j := 1) rfl, ap, rfl, ⟨us, hu⟩, fun B hB => ?_⟩
    refine lc_vals (K := K) (zs := (c.ps.map Prod.fst).map V.str) (te := tOp (rIxT K) (tVar 6) (tC (.int 0))) 6 rfl (by rw [List.length_map, List.length_map, hul]) (by omega) hu hB (fun j u z H5 Q5 hju hjz s5 k => ?_) (fun H5 s5 hB5 => ?_)
    · obtain ⟨pp, hp1, ⟨b, rfl, hb⟩⟩ := pairedAt hup hju
      rw [List.getElem?_map, List.getElem?_map, hp1] at hjz
      cases hjz
      exact ⟨_, rfl, b, _, 0, _, rfl, rfl, (stay_same s5).tup _ _ hb, atI_nat (j := 0) rfl, k _ (Same.refl _)⟩
    · have nB : B ≠ p := pen_new pn' hB
      have nBf : B ≠ fl := fun e => by rw [e, hf'] at hB; cases hB
      have pn5 := pn'.same s5
      have hM : Men (c.ps.map Prod.fst) ss := by
        refine ⟨fun x hx => ?_, fun s hs => ?_, ?_, by rw [List.length_map]; omega, by omega⟩
        · obtain ⟨pr, hpr, rfl⟩ := List.mem_map.mp hx
          exact hlt pr hpr
        · obtain ⟨d, hd, h1, h2⟩ := mem_arOf (hmem s hs)
          rw [← h1, ← h2]
          exact ⟨(hok d hd).1, (hok d hd).2.1⟩
        · obtain ⟨n, r, e⟩ := hz
          exact ⟨n, by rw [e]; exact List.mem_cons_self⟩
      refine ⟨_, rfl, .inl ⟨rfl, _, SqL.of (s5 _ _ hf')⟩, ?_⟩
      refine ⟨p, ac, ap, ak, am, hl, B, c, hvs, ss, rfl, rfl, rfl, rfl, (stay_same s5).tup _ _ qc, hap.stay (stay_same s5), hak.stay (stay_same s5), pn5, nhl, nB, SqL.of (s5 _ _ hh'), hH'.stay (stay_same s5), SqL.of hB5, hM, hz, fun H6 t c' b6 pn6 hc6 hm6 => ?_⟩
      have b56 := (bar_same (p := p) s5).trans b6
      have hf6 := b56 _ _ nfl hf'
      have st6 := bar_stay (K := K) b56 pn' pn6
      have stR : Stay K H6 (upd H6 fl (.lst (ys ++ [.ref t]))) := stay_lst hf6
      have stA := st6.trans stR
      refine ⟨fl, ys, .ref t, rfl, rfl, hf6, sz5lt (by omega), ?_⟩
      refine ⟨_, _, ys ++ [.ref t], cs' ++ [c'], rfl, bar_put (b'.trans b56) hflH, pen_upd nfl pn6, by rw [upd_ne (Ne.symm nfh)]; exact b56 _ _ nhl hh', hH'.stay stA, upd_same, paired_snoc2 (Paired.mapP hC' fun _ _ z => z.stay stA) (hc6.stay stR), ?_⟩
      rw [take_one' hc1]
      exact paired_snoc2 hV' ⟨hm6.n, hm6.p, hm6.k, hm6.w, fun m hm => ⟨(hm6.m m hm).1, of_monoS hmem (hm6.m m hm).2.1, (hm6.m m hm).2.2⟩⟩
  · subst eσ
    rw [hxl, List.take_length] at hV'
    exact ⟨_, rfl, q H' fl ys cs' b' pn' hflH hf' hC' hV'⟩
end
end N

namespace N
open PySem PySem.Spec PyProof.Rows L2
/-! ### exceptions of own classes as values -/
/-- v is an exception of the class at C, with these fields -/
def ExP (H : Hp) (v : V) (C : Addr) (fs : List (Str × V)) : Prop := ∃ a, v = .ref a ∧ ((H a = some (exo a C none) ∧ fs = []) ∨ ∃ d, H a = some (exo a C (some d)) ∧ H d = some (exd d fs))
theorem ExP.same {H H' : Hp} {v : V} {C : Addr} {fs : List (Str × V)} (s : Same H H') (h : ExP H v C fs) : ExP H' v C fs := by
  obtain ⟨a, e, r⟩ := h
  rcases r with ⟨h1, h2⟩ | ⟨d, h1, h2⟩
  · exact ⟨a, e, .inl ⟨s _ _ h1, h2⟩⟩
  · exact ⟨a, e, .inr ⟨d, s _ _ h1, s _ _ h2⟩⟩
abbrev veB : List Value := [.type "ValueError", .type "Exception", .type "BaseException", .type "object"]
section
variable {X : Cx} {pins : List (Addr × Obj)} {σ : L2.St} {H : Hp} {s : Shared}
/-- where it lies -/
theorem exP_at {v : V} {C : Addr} {fs : List (Str × V)} (I : Inv X pins σ H s) (h : ExP H v C fs) : ∃ (a : Addr) (ox : Obj) (od : Option Obj), v = .ref a ∧ PySem.W.InstAt s.heap a ox C od ∧ (fs ≠ [] → ∃ o, od = some o ∧ ∃ mA : Str → Option Value, (∀ n, PySem.W.lookIn n o = some (mA n)) ∧ ∀ f, RelO (fs.lookup f) (mA f)) := by
  obtain ⟨a, e, r⟩ := h
  rcases r with ⟨h1, h2⟩ | ⟨d, h1, h2⟩
  · obtain ⟨t1, ho⟩ := exo_at I.hok h1
    exact ⟨a, _, none, e, ⟨ho, rfl, rfl, trivial⟩, fun n => absurd h2 n⟩
  · obtain ⟨t1, ho⟩ := exo_at I.hok h1
    obtain ⟨mA, hns, rel⟩ := exd_at I.hok h2
    obtain ⟨od, hd, hl⟩ := lookIn_ns hns
    exact ⟨a, _, some od, e, ⟨ho, rfl, rfl, hd⟩, fun _ => ⟨od, rfl, mA, hl, rel⟩⟩
theorem call_ex {C : Addr} {us : List Value} {Q : VK} (I : Inv X pins σ H s) (q : PySem.W.excIn X.K C veB "ValueError.__new__" = true) (hz : us.length ≤ sizeLine) (h : ∀ a, H a = none → Q (.ref a) (upd H a (exo a C none))) :
    wpAny (model X.prog X.w) X.A (call (.ref C) us) (EP X pins σ Q) X.xe s := by
  obtain ⟨bm, Na, nm, qn, bs, hdct, sn, sub, ab, col, dd, k0, k1, k2, k3, k5, mN, hC, hN, hni, T⟩ := exc_obj I.kIn q
  refine wpAny_call_exc_subT PySem.F.excBase_ValueError T hC hN hni (fun h' a hm => ?_) hz
  have hn : H a = none := I.hok.gone hm.new
  obtain ⟨t, ht, _⟩ := hm.there
  exact ⟨.ref a, _, I.laidN hm.keeps hm.new hn (exo_ok ht), rfl, h a hn⟩
end
section
variable {X : Cx} {C : Addr} {x : Str} {p pos : Pos} {e : Expr} {es : List Expr} {t : TA} {te : TE}
/-- C(), C(e, ..), an own class over ValueError without own __init__ -/
theorem pe_ex0 (q : PySem.W.excIn X.K C veB "ValueError.__new__" = true) (gC : X.mg x = some (.ref C)) (kC : PySem.W.keepIn X.K (.ref C) = true) (hg : Gl X x) (hdb : (x == ("__debug__" : Str)) = false := by decide) :
    PE X (.Call (.Name x p) [] [] pos) (fun _ H Q => ∀ a, H a = none → Q (.ref a) (upd H a (exo a C none))) := by
  refine ⟨fun pins s σ H Q I h => wpAny_Call_Name_kw (ld_glob I hg gC ?_ hdb)⟩
  exact PySem.W.callWith_K0 I.kIn kC (call_ex (us := []) I q (Nat.zero_le _) h)
theorem pe_exN (q : PySem.W.excIn X.K C veB "ValueError.__new__" = true) (gC : X.mg x = some (.ref C)) (kC : PySem.W.keepIn X.K (.ref C) = true) (hg : Gl X x) (ha : PA X (e :: es) t) (hdb : (x == ("__debug__" : Str)) = false := by decide)
    (he : starEach (e :: es) X.env = (false, eval e X.env) :: starEach es X.env := by rfl) (hpl : (backTo pos (starEach es X.env)).any (·.1) = false := by rfl) :
    PE X (.Call (.Name x p) (e :: es) [] pos) (fun σ H Q => t σ H fun vs H1 => vs.length ≤ sizeLine ∧ ∀ a, H1 a = none → Q (.ref a) (upd H1 a (exo a C none))) := by
  refine ⟨fun pins s σ H Q I h => wpAny_Call_Name_kw (ld_glob I hg gC ?_ hdb)⟩
  refine PySem.W.callWith_K (h₀ := X.base) I.ok.mod.kin kC (thn (ha.run pos pins s σ H _ I h) fun us s1 z => ?_) he hpl
  obtain ⟨vs, H1, J, r, hz, q1⟩ := z
  exact ⟨J.kIn, (show wpAny _ _ (call (.ref C) us) _ _ _ from call_ex J q (by rw [← r.length]; exact hz) q1)⟩
/-- isinstance(e, c), e such an exception -/
def rIsX (K : PySem.W.Frag) : List V → Hp → VK → Prop := fun xs H Q => ∃ (v c : V) (C : Addr) (fs : List (Str × V)) (cv : Value) (b : Bool), xs = [v, c] ∧ ExP H v C fs ∧ ExcC K C ∧ (∀ u, RelV c u → u = cv) ∧ PySem.W.kitOne K (.ref C) cv = some b ∧ Q (.bl b) H
theorem call_isX : CallR X (.builtin "isinstance") (rIsX X.K) := by
  intro pins s σ H xs us Q I r h
  obtain ⟨v, c, C, fs, cv, b, rfl, hx, T, hcv, e, q⟩ := h
  obtain ⟨a, ox, od, rfl, J, _⟩ := exP_at I hx
  cases r with
  | cons rx rr =>
    cases rr with
    | cons rt rr =>
      cases rr
      cases rx
      have ec := hcv _ rt
      subst ec
      have hcl : (PySem.W.clsIn X.K C).isSome = true := by
        obtain ⟨cd, hc, _⟩ := PySem.W.any_some T.hd
        rw [hc]
        rfl
      exact PySem.W.kia_one (PySem.W.kitx_exc hcl T.hg T.hk T.hs T.ha T.hn T.ht T.hm) I.kIn J e (fun z => nomatch z) fun tk => ⟨.bl b, H, I.kept (t' := tk) fun _ _ z => z, rfl, q⟩
/-- e.f, a field of such an exception -/
theorem pe_exf {n : Str} (he : PE X e te) (hb : attributeBase e n X.env (eval e X.env) = eval e X.env := by rfl) :
    PE X (.Attribute e n pos) (fun σ H Q => te σ H fun x H1 => ∃ (C : Addr) (fs : List (Str × V)) (v : V), ExP H1 x C fs ∧ XfC X.K C ∧ PySem.W.findIn X.K (.ref C) n = some none ∧ fs.lookup n = some v ∧ Q v H1) := by
  refine ⟨fun pins s σ H Q I h => ?_⟩
  refine attr_of hb (thn (he.run pins s σ H _ I h) fun u s1 z => ?_)
  obtain ⟨x, H1, J, rx, C, fs, v, hx, T, hno, hl, q⟩ := z
  obtain ⟨a, ox, od, rfl, A, hf⟩ := exP_at J hx
  obtain rfl : u = Value.ref a := rx
  obtain ⟨o, rfl, mA, hlk, rel⟩ := hf (fun z => by rw [z] at hl; cases hl)
  obtain ⟨u2, hu, ru⟩ := RelO.some_of (v := v) (o := mA n) (by rw [← hl]; exact rel n)
  exact HandSPX.exc_get J.kIn A T.ga T.gg T.exC (PySem.W.findObj_own T.hdC hno rfl (by rw [hlk, hu])) (handed_of ru) ⟨v, H1, J.tok _, ru, q⟩
end
end N

namespace N
open PySem PySem.Spec PyProof.Rows L2 NdefX
/-! ### an own __init__ that begins with super().__init__(..) -/
/-- at u stands the bound ValueError.__init__ of the exception at a -/
def MwO (u a : Addr) : HO := .ext fun h => h.get? u = some (PySem.W.kxs_mw "ValueError.__init__" a)
theorem mwO_ok {P : Program} {w : World} {H : Hp} {h : Heap} {u a : Addr} (e : h.get? u = some (PySem.W.kxs_mw "ValueError.__init__" a)) : ObjOk P w H h u (MwO u a) := ⟨e, ⟨_, e⟩, fun _ _ z k => k _ z⟩
section
variable {prog : Program} {w : World} {A : Around} {E : Value → Shared → Prop} {h : Heap} {g : Array GenState} {d : PySem.Drawn} {t : Nat} {os : OsState}
variable {nm q : Str} {C Na : Addr} {bs bm : List Value} {hdct : Bool} {sn : List Str} {sub : List Value} {ab : Bool} {col : Option Bool} {dd : Option Addr} {k0 k1 k2 k3 k5 : Option Value}
theorem mw_run {u e t0 : Addr} {us : List Value} {Q : Value → Shared → Prop} (hC : h.get? C = some (excClassObj nm q C Na bs bm hdct sn sub ab col dd k0 k1 k2 k3 k5 "ValueError.__new__")) (hE : h.get? e = some (HandSPX.excO C t0))
    (hU : h.get? u = some (PySem.W.kxs_mw "ValueError.__init__" e)) (hz : us.length ≤ sizeLine) (fin : ∀ h' t1, (∀ b o, b ≠ e → h.get? b = some o → h'.get? b = some o) → h'.get? e = some (HandSPX.excO C t1) → Q .none ⟨h', g, d, t, os⟩) :
    wpAny (model prog w) A (call (.ref u) us) Q E ⟨h, g, d, t, os⟩ := by
  have w1 : (Value.type "method-wrapper" == Value.type "method" || Value.type "method-wrapper" == Value.type "builtin_function_or_method" || Value.type "method-wrapper" == Value.type "method-wrapper") = true := by decide
  refine wpAny_call (codeAny_of_tree (show wpAny _ A.in1 (callAny (.ref u) ⟨us, []⟩) _ _ _ from ?_))
  simp only [callAny]
  refine wpAny_bind (wpAny_load (o := PySem.W.kxs_mw "ValueError.__init__" e) hU ?_)
  simp only [PySem.W.kxs_mw, w1, if_true]
  refine PySem.W.KFB.if_so (by decide) (wpAny_bind (PySem.W.check_bound_init PySem.F.excBase_ValueError.toExcCallFacts hC hE rfl (wpAny_bind (wpAny_pure (wpAny_pure ?_)))))
  refine ⟨Code.quiet_builtin _ (by decide +kernel), codeAny_builtin PySem.F.excBase_ValueError.initEntry ?_⟩
  rw [Around.under_plainId PySem.F.excBase_ValueError.init.plain _]
  wp_walk
  refine fin _ h.objs.size (fun b o nb hb => ?_) ?_
  · rw [Heap.get?_update_other _ _ (fun z => nb z.symm)]
    exact Heap.get?_push_of_some _ hb
  · rw [Heap.get?_update_self _ (Heap.get?_push_of_some _ hE) rfl] <;> rfl
end
section
variable {X : Cx} {pins : List (Addr × Obj)} {σ : L2.St} {H : Hp} {s : Shared} {A : Around}
theorem call_mw {u a C : Addr} {us : List Value} {Q : Value → Shared → Prop} {E : Value → Shared → Prop} (T : OexC X.K C) (I : Inv X pins σ H s) (ea : H a = some (exo a C none)) (eu : H u = some (MwO u a)) (hl : us.length ≤ sizeLine) (h : ∀ s', Inv X pins σ H s' → Q .none s') :
    wpAny (model X.prog X.w) A (call (.ref u) us) Q E s := by
  obtain ⟨nm, q, Na, bs, bm, sn, sub, ab, col, dd, k0, k1, k2, k3, k5, hC, hbm⟩ := T.cls
  obtain ⟨t1, hE⟩ := exo_at I.hok ea
  have hU : s.heap.get? u = some (PySem.W.kxs_mw "ValueError.__init__" a) := (I.hok u _ eu).1
  obtain ⟨hp, g, d, t, os⟩ := s
  refine mw_run (I.kIn _ _ hC) hE hU hl (fun h' t2 k hx => ?_)
  have J := I.write (t' := t) (x := a) (e := a) (o := exo a C none) (by rw [ea]; exact True.intro) (.inl rfl) k ⟨_, hx⟩ (exo_ok hx)
  have eq : upd H a (exo a C none) = H := by
    funext b
    by_cases e : b = a
    · subst e
      rw [upd_same, ea]
    · rw [upd_ne e]
  rw [eq] at J
  exact h _ J
end
/-- what the written part says of a class with such an __init__ -/
structure IniC (K : PySem.W.Frag) (file : Str) (C f cc cda : Addr) (qual : Str) (params : Arguments) (body : List Stmt) (scope : Scope) : Prop where
  ox : OexC K C
  fn : ∃ oc od dV kV doc pm an ct osl, K.lookup f = some ⟨oc, od, .func (PySem.W.ksFn "__init__" qual params body scope dV kV doc pm an (.ref cda) ct cc), osl⟩
  code : PySem.W.codeIn K (.ref cda) qual = true
  cda : ∃ ccl cdd vs ccs tf, K.lookup cda = some ⟨ccl, cdd, .fields vs, ccs⟩ ∧ vs[2]? = some (.str file tf)
  cell : ∃ cl cld csl, K.lookup cc = some ⟨cl, cld, .cell (some (.ref C)), csl⟩
  cls : (PySem.W.clsIn K C).isSome = true
  own : PySem.W.mroIn K C (.ref C) = some true
  up : PySem.W.ks_superIn K C C "__init__" = some (some (.builtin "ValueError.__init__"))
  ve : PySem.W.subIn K (.ref C) (.type "ValueError") = some true
  any : PySem.W.nsIn K cStatics "thirdparty.any" = some none
  ini : PySem.W.findIn K (.ref C) "__init__" = some (some (.ref f))
  tyf : PySem.W.typeIn K (.ref f) = some (.type "function")
end N

namespace N
open PySem PySem.Spec PyProof.Rows L2 NdefX
/-- the words of such an __init__ -/
abbrev iF (qual : Str) (params : Arguments) (body : List Stmt) (scope : Scope) (cc cda : Addr) : NF := ⟨"__init__", qual, params, body, scope, [("__class__", cc)], cda⟩
theorem callE {M : Model} {A : Around} {E : Value → Shared → Prop} {s : Shared} {pos : Pos} {env : Env} {e : Expr} {rest : List Expr} {u x : Addr} {i : String} {first : List Value} {Q : Value → Shared → Prop}
    (he : starEach (e :: rest) env = (false, eval e env) :: starEach rest env) (hpl : (backTo pos (starEach rest env)).any (·.1) = false)
    (h : wpAny M A (spliced (backTo pos (starEach (e :: rest) env))) (fun vs s₁ => PySem.W.KxsAt i u x s₁.heap ∧ wpAny M A (call (.ref u) (first ++ vs)) Q E s₁) E s) :
    wpAny M A (callWith pos (.ref u) first (backTo pos (starEach (e :: rest) env)) []) Q E s := by
  rw [he] at h ⊢
  refine PySem.W.kxs_callWith (i := i) (x := x) (by show (false || (backTo pos (starEach rest env)).any (·.1)) = false; rw [hpl]; rfl) ?_
  exact Calls.evalArgs_plain h
section
variable {P : Program} {w : World} {K : PySem.W.Frag} {mg : Str → Option Value} {base : Heap} {Nm ps : List Str} {k : Nat} {C f cc cda : Addr} {qual file : Str} {params : Arguments} {body rest : List Stmt} {scope : Scope} {t : TA} {tb : TS} {e : Expr} {es : List Expr} {p0 p1 p2 p3 p4 : Pos} {ar : Arg}
/-- super().__init__(e, ..) as a statement, in the frame of such an __init__ -/
theorem run_super {A : Around} {outer : List Env} {s0 s : Shared} {H0 H : Hp} {E : XK} {σ : L2.St} {a : Addr} {Q : Flow → Shared → Prop} {pins : List (Addr × Obj)} (D : IniC K file C f cc cda qual params body scope) (S : NScope Nm ps ["__class__"] scope) (hfile : ((P.main.file : Str) == file) = true) (htop : (P.main.scope.names.lookup ("super" : Str)).isSome = false)
    (hg : scope.names.lookup ("super" : Str) = some .globalImplicit) (hms : mg "super" = none) (har : (params.posonlyargs ++ params.args).head? = some ar) (h0 : Nm[0]? = some ar.arg) (hv0 : scope.names.lookup ar.arg = some .local)
    (I : Inv (ncx (L2.CX P w) P w K mg base Nm (iF qual params body scope cc cda) f A outer s0 H0 E) pins σ H s) (hs : σ[0]? = some (some (.ref a))) (ea : H a = some (exo a C none))
    (ha : PA (ncx (L2.CX P w) P w K mg base Nm (iF qual params body scope cc cda) f A outer s0 H0 E) (e :: es) t)
    (hq : ∀ u, H u = none → t σ (upd H u (MwO u a)) fun vs H1 => vs.length ≤ sizeLine ∧ H1 = upd H u (MwO u a) ∧ ∀ s', Inv (ncx (L2.CX P w) P w K mg base Nm (iF qual params body scope cc cda) f A outer s0 H0 E) pins σ (upd H u (MwO u a)) s' → Q .next s')
    (he : starEach (e :: es) (envF (iF qual params body scope cc cda) f s0.heap.objs.size) = (false, eval e (envF (iF qual params body scope cc cda) f s0.heap.objs.size)) :: starEach es (envF (iF qual params body scope cc cda) f s0.heap.objs.size))
    (hpl : (backTo p3 (starEach es (envF (iF qual params body scope cc cda) f s0.heap.objs.size))).any (·.1) = false)
    {pl : Sem Bool} (hcl : eval (.Call (.Attribute (.Call (.Name "super" p0) [] [] p1) "__init__" p2) (e :: es) [] p3) (envF (iF qual params body scope cc cda) f s0.heap.objs.size) = (do
      let ov ← attributeBase (.Call (.Name "super" p0) [] [] p1) "__init__" (envF (iF qual params body scope cc cda) f s0.heap.objs.size) (eval (.Call (.Name "super" p0) [] [] p1) (envF (iF qual params body scope cc cda) f s0.heap.objs.size))
      standAt p2.atName
      let (f', first) ← holding [ov] (getMethod ov "__init__" pl)
      callWith p3 f' first (backTo p3 (starEach (e :: es) (envF (iF qual params body scope cc cda) f s0.heap.objs.size))) [])) :
    PySem.wpAt (model P w) (A.deeper (envF (iF qual params body scope cc cda) f s0.heap.objs.size)) (.func body (envF (iF qual params body scope cc cda) f s0.heap.objs.size))
      (exec (.Expr (.Call (.Attribute (.Call (.Name "super" p0) [] [] p1) "__init__" p2) (e :: es) [] p3) p4) (envF (iF qual params body scope cc cda) f s0.heap.objs.size)) Q (ncx (L2.CX P w) P w K mg base Nm (iF qual params body scope cc cda) f A outer s0 H0 E).xe s := by
  obtain ⟨oc, od, dV, kV, doc, pm, an, ct, osl, lk⟩ := D.fn
  obtain ⟨ccl, cdd, vs, ccs, tf, lc, hvs⟩ := D.cda
  obtain ⟨cl, cld, csl, lx⟩ := D.cell
  obtain ⟨cdD, hD⟩ := Option.isSome_iff_exists.mp D.cls
  have KX : K.In s.heap := I.kIn
  obtain ⟨oD, hD1, hD2⟩ : ∃ oD, s.heap.get? C = some oD ∧ oD.data = .cls cdD := by
    unfold PySem.W.clsIn at hD
    split at hD
    · rename_i ho
      cases hD
      exact ⟨_, KX _ _ ho, rfl⟩
    · cases hD
  obtain ⟨t1, hx⟩ := exo_at I.hok ea
  refine ks_wpAt_Expr_any (ks_wpAt_MethodCall ?_ hcl) (by show (scope.kind == .module && _) = false; rw [S.kind]; rfl)
  refine ks_wpAt_super_base (f := f) (cc := cda) (env := envF (iF qual params body scope cc cda) f s0.heap.objs.size) hg (S.frk _ (List.mem_singleton.mpr rfl)) (by decide) rfl (KX _ _ lk) rfl har rfl (KX _ _ lc) rfl hvs hfile htop ?_
  obtain ⟨mb, hb1, hb2⟩ := I.mod.blt
  refine PySem.W.ks_loadName_global S.kind hg (Calls.loadGlobal_builtin (by exact I.mod.glob.keeps I.bk) hms (by exact hb1.keeps I.bk) ((hb2 "super" (by decide)).trans (show bootBuiltins "super" = some (.type "super") by decide +kernel)) ⟨rfl, ?_⟩)
  refine wpAny_loadName_free S.kind (S.frk _ (List.mem_singleton.mpr rfl)) rfl ⟨_, KX _ _ lx, rfl⟩ ?_
  obtain ⟨m, hn, hl⟩ := I.loc
  obtain ⟨u0, ru, hm⟩ := hl 0 ar.arg (.ref a) h0 hs (.inl hv0)
  obtain rfl : u0 = Value.ref a := ru
  have hm0 : m ar.arg = some (.ref a) := by
    rcases hm with ⟨_, z⟩ | ⟨z, _⟩
    · exact z
    · exfalso
      have z' : scope.names.lookup ar.arg = some .cell ∨ scope.names.lookup ar.arg = some .free := z
      rw [hv0] at z'
      rcases z' with z' | z' <;> cases z'
  refine wpAny_loadName_local S.kind hv0 hn hm0 ?_
  refine ks_wpAny_isType_cls hD1 hD2 ⟨rfl, ?_⟩
  obtain ⟨hp, g, dr, tk, os⟩ := s
  refine ks_wpAny_call_super hD1 hD2 hx rfl (fun c z => by cases z) (PySem.W.looks_mroIn KX D.own) (fun h' es' kx => ?_)
  have J : Inv (ncx (L2.CX P w) P w K mg base Nm (iF qual params body scope cc cda) f A outer s0 H0 E) pins σ H ⟨h', g, dr, tk, os⟩ := I.kept (t' := tk) kx
  have KX' : K.In h' := J.kIn
  have IA : PySem.W.InstAt h' a _ C none := ⟨kx _ _ hx, rfl, rfl, trivial⟩
  have nC : a ≠ C := PySem.W.ks_ne KX' IA hD
  have up := D.up
  unfold PySem.W.ks_superIn at up
  rw [hD] at up
  have isV : PySem.W.Looks (model P w) h' (isInstance (.ref a) (.type "ValueError")) true := IA.type.andThen (PySem.W.looks_subIn KX' D.ve)
  refine PySem.W.kxs_getMethod PySem.W.kxs_ValueError es' (PySem.W.looks_opaque KX' D.any) (l₀ := cdD.mro) (fun A Q E s k q => wpAny_bind ((PySem.W.looks_clsIn KX' hD) A _ E s k (wpAny_pure q))) rfl KX' up isV nC (by decide) ?_
  have fr : H h'.objs.size = none := J.hok.fresh (Nat.le_refl _)
  have mw : (h'.push (PySem.W.kxs_mw "ValueError.__init__" a)).get? h'.objs.size = some (PySem.W.kxs_mw "ValueError.__init__" a) := Heap.get?_push_size _ rfl
  have J2 := J.laid (t' := tk + 1) (a := h'.objs.size) (o := MwO h'.objs.size a) (fun b u e => Heap.get?_push_of_some _ e) (Nat.le_refl _) (mwO_ok mw)
  have nua : a ≠ h'.objs.size := fun z => by rw [z, fr] at ea; cases ea
  refine callE (i := "ValueError.__init__") (x := a) he hpl ?_
  refine thn (ha.run p3 pins _ σ _ _ J2 (hq _ fr)) (fun us s2 z => ?_)
  obtain ⟨vs', H2, J3, r, hz, e2, fin⟩ := z
  subst e2
  refine ⟨(J3.hok _ _ upd_same).1, ?_⟩
  exact call_mw D.ox J3 (by rw [upd_ne nua]; exact ea) upd_same (by rw [List.nil_append, ← r.length]; exact hz) fun s' J4 => fin s' J4
end
end N

namespace N
open PySem PySem.Spec PyProof.Rows L2 NdefX
section
variable {P : Program} {w : World} {K : PySem.W.Frag} {mg : Str → Option Value} {base : Heap} {Nm ps : List Str} {k : Nat} {C f cc cda : Addr} {qual file : Str} {params : Arguments} {rest : List Stmt} {scope : Scope} {e : Expr} {es : List Expr} {p0 p1 p2 p3 p4 : Pos} {ar : Arg}
variable {oc dV kV doc pm ct : Value} {od an : Option Addr} {osl : Array (Option Value)}
abbrev supS (e : Expr) (es : List Expr) (p0 p1 p2 p3 p4 : Pos) : Stmt := .Expr (.Call (.Attribute (.Call (.Name "super" p0) [] [] p1) "__init__" p2) (e :: es) [] p3) p4
/-- an own __init__ that begins with super().__init__(e, ..): what it keeps -/
theorem ini_fn {sp : Sp} (D : IniC K file C f cc cda qual params (supS e es p0 p1 p2 p3 p4 :: rest) scope)
    (lk : K.lookup f = some ⟨oc, od, .func (PySem.W.ksFn "__init__" qual params (supS e es p0 p1 p2 p3 p4 :: rest) scope dV kV doc pm an (.ref cda) ct cc), osl⟩)
    (S : NScope Nm ps ["__class__"] scope) (hfile : ((P.main.file : Str) == file) = true) (htop : (P.main.scope.names.lookup ("super" : Str)).isSome = false)
    (hg : scope.names.lookup ("super" : Str) = some .globalImplicit) (hms : mg "super" = none) (har : (params.posonlyargs ++ params.args).head? = some ar) (h0 : Nm[0]? = some ar.arg) (hv0 : scope.names.lookup ar.arg = some .local)
    (len : ∀ vs H Q E, sp vs H Q E → vs.length = ps.length)
    (hbody : ∀ (A : Around) (outer : List Env) (s : Shared) (H : Hp) (vs : List V) (Q : VK) (E : XK), RoomG k (A.deeper (envF (iF qual params (supS e es p0 p1 p2 p3 p4 :: rest) scope cc cda) f s.heap.objs.size)) → sp vs H Q E →
      ∃ (a : Addr) (vr : List V) (t : TA) (tr : TS), vs = .ref a :: vr ∧ H a = some (exo a C none) ∧
        PA (ncx (L2.CX P w) P w K mg base Nm (iF qual params (supS e es p0 p1 p2 p3 p4 :: rest) scope cc cda) f A outer s H E) (e :: es) t ∧
        PSs (ncx (L2.CX P w) P w K mg base Nm (iF qual params (supS e es p0 p1 p2 p3 p4 :: rest) scope cc cda) f A outer s H E) rest tr ∧
        ∀ u, H u = none → ∃ ws : List V, ws.length ≤ sizeLine ∧ (∀ R : List V → Hp → Prop, R ws (upd H u (MwO u a)) → t (startF Nm vs [none]) (upd H u (MwO u a)) R) ∧ tr { nx := fun _ H' => Q .non H', rt := Q } (startF Nm vs [none]) (upd H u (MwO u a)))
    (he : ∀ L, starEach (e :: es) (envF (iF qual params (supS e es p0 p1 p2 p3 p4 :: rest) scope cc cda) f L) = (false, eval e (envF (iF qual params (supS e es p0 p1 p2 p3 p4 :: rest) scope cc cda) f L)) :: starEach es (envF (iF qual params (supS e es p0 p1 p2 p3 p4 :: rest) scope cc cda) f L))
    (hpl : ∀ L, (backTo p3 (starEach es (envF (iF qual params (supS e es p0 p1 p2 p3 p4 :: rest) scope cc cda) f L))).any (·.1) = false)
    (pl : Nat → Sem Bool) (hcl : ∀ L, eval (.Call (.Attribute (.Call (.Name "super" p0) [] [] p1) "__init__" p2) (e :: es) [] p3) (envF (iF qual params (supS e es p0 p1 p2 p3 p4 :: rest) scope cc cda) f L) = (do
      let ov ← attributeBase (.Call (.Name "super" p0) [] [] p1) "__init__" (envF (iF qual params (supS e es p0 p1 p2 p3 p4 :: rest) scope cc cda) f L) (eval (.Call (.Name "super" p0) [] [] p1) (envF (iF qual params (supS e es p0 p1 p2 p3 p4 :: rest) scope cc cda) f L))
      standAt p2.atName
      let (f', first) ← holding [ov] (getMethod ov "__init__" (pl L))
      callWith p3 f' first (backTo p3 (starEach (e :: es) (envF (iF qual params (supS e es p0 p1 p2 p3 p4 :: rest) scope cc cda) f L))) [])) :
    FnG P w K mg base (L2.CX P w) (k + 1) f (PySem.W.ksFn "__init__" qual params (supS e es p0 p1 p2 p3 p4 :: rest) scope dV kV doc pm an (.ref cda) ct cc) ps sp := by
  refine ⟨len, fun A outer s H args us vs Q E hr e0 hb r hsp => ?_⟩
  have KX : K.In s.heap := e0.mod.kin.keeps fun b o e => (e0.bs b o e).1
  have lim : s.heap.NoLimit := e0.mod.nolimit.keeps fun b o e => (e0.bs b o e).1
  have hl := len _ _ _ _ hsp
  obtain ⟨cl, cld, csl, lx⟩ := D.cell
  have CA : CellsAt [(("__class__" : Str), cc)] ["__class__"] [none] s.heap H := by
    have bc := e0.bs _ _ (e0.mod.kin _ _ lx)
    refine ⟨rfl, fun y c z => ?_, fun x y c z1 z2 => ?_, fun i y z => ?_⟩
    · have : c = cc := by
        simp only [List.lookup] at z
        split at z
        · exact (Option.some.inj z).symm
        · cases z
      subst this
      exact ⟨bc.2, _, _, bc.1, rfl⟩
    · simp only [List.lookup] at z1 z2
      split at z1
      · rename_i q1
        split at z2
        · rename_i q2
          rw [eq_of_beq q1, eq_of_beq q2]
        · cases z2
      · cases z1
    · match i, z with
      | 0, z =>
        have z' : (("__class__" : Str)) = y := Option.some.inj z
        subst z'
        exact ⟨cc, by simp [List.lookup], fun v q => by cases q⟩
      | i + 1, z => cases z
  refine ks_codeAny_call_defAt hr.depth (KX _ _ lk) rfl lim (PySem.W.codeRec_of KX D.code) rfl hb (fun x hx => S.nocell x hx) (fun ⟨n, _⟩ hy => S.par n (List.of_mem_zip hy).1) (fun h₀ hns kp => ?_) S.co S.gen S.kind
  obtain ⟨a, vr, t, tr, ev, ea, ha, hrest, hq⟩ := hbody A outer s H vs Q E (hr.deeper _) hsp
  have I := inv_startN (CX := L2.CX P w) (P := P) (w := w) (mg := mg) (E := E) (f := f) (F := iF qual params (supS e es p0 p1 p2 p3 p4 :: rest) scope cc cda) (N := Nm) (tk := s.toks + (ps.zip us).length) S hr.hd e0 hl r CA hns kp
  have hs0 : (startF Nm vs [none])[0]? = some (some (.ref a)) := by rw [ev]; rfl
  refine ks_wpAt_execs_cons ?_
  refine run_super (outer := outer) (s0 := s) (H0 := H) (E := E) D S hfile htop hg hms har h0 hv0 I hs0 ea ha (fun u hu => ?_) (he _) (hpl _) (hcl _)
  obtain ⟨ws, z1, z2, z3⟩ := hq u hu
  refine z2 _ ⟨z1, rfl, fun s' J => ?_⟩
  refine wpAt_of_wpAny ?_
  refine wpAny_mono (hrest.run [] s' _ _ _ J z3) (fun fl s'' hs => ?_) fun er s'' hs => hs
  cases fl with
  | ret v => obtain ⟨v', σ', H', J', rv, q⟩ := hs; exact ⟨v', H', J'.os, J'.bare, J'.base, J'.hok, rv, q⟩
  | next => obtain ⟨σ', H', J', q⟩ := hs; exact ⟨.non, H', J'.os, J'.bare, J'.base, J'.hok, rfl, q⟩
  | brk => obtain ⟨_, _, _, q⟩ := hs; exact False.elim q
  | cont => obtain ⟨_, _, _, q⟩ := hs; exact False.elim q
end
end N

namespace N
open PySem PySem.Spec PySem.HandSPX
section
variable {M : Model} {prog : Program} {w : World} {A : Around} {E : Value → Shared → Prop} {R : Result → Shared → Prop} {h : Heap} {g : Array GenState} {d : PySem.Drawn} {t : Nat} {os : OsState}
variable {nm q : Str} {C Na : Addr} {bs bm bmB : List Value} {hdct : Bool} {sn : List Str} {sub : List Value} {ab : Bool} {col : Option Bool} {dd : Option Addr} {k0 k1 k2 k3 k5 : Option Value} {B newId initId : String} {xs : List Value} {kw : List (Str × Value)}
/-- C(.., n=e): the same with names -/
theorem chkK (B0 : ExcBaseFacts B newId initId bmB) (hT : ∀ X : String, bm.contains (.type X) = bmB.contains (.type X)) {Q : Unit → Shared → Prop}
    (hC : h.get? C = some (excClassObj nm q C Na bs bm hdct sn sub ab col dd k0 k1 k2 k3 k5 newId)) (hq : Q () ⟨h, g, d, t, os⟩) : wpAny M A (checkBuiltinCall newId ⟨.ref C :: xs, kw⟩) Q E ⟨h, g, d, t, os⟩ := by
  have z1 : (Value.ref C :: bm).contains (.type B) = true := by rw [List.contains_cons, hT B]; exact (congrArg _ B0.hasB).trans (Bool.or_true _)
  have z2 := B0.noStar
  simp only [checkBuiltinCall, B0.newKind, B0.newSplit, B0.newRow]
  repeat (first | refine wpAny_loadPart_at hC ?_ | (refine wpAny_isSubtype_exc hC ?_; rw [z1]) | refine wpAny_staticBase_exc hC ?_ | refine wpAny_madeBy_exc hC ?_ | (simp only [bne_self_eq_false, Bool.false_eq_true, if_false]) | wp_step)
  exact hq
theorem newK (B0 : ExcBaseFacts B newId initId bmB) (hT : ∀ X : String, bm.contains (.type X) = bmB.contains (.type X))
    (hC : h.get? C = some (excClassObj nm q C Na bs bm hdct sn sub ab col dd k0 k1 k2 k3 k5 newId))
    (hq : R (.ok (.ret (.ref (h.objs.size + 1)))) ⟨(h.push (PySem.W.kdv_tup xs)).push (excO C h.objs.size), g, d, t, os⟩) (hz : xs.length ≤ sizeLine) :
    codeAny (model prog w) A (.builtin newId ⟨.ref C :: xs, kw⟩) R ⟨h, g, d, t, os⟩ := by
  have z0 := B0.ends
  have z1 : (Value.ref C :: bm).contains (.type B) = true := by rw [List.contains_cons, hT B]; exact (congrArg _ B0.hasB).trans (Bool.or_true _)
  have z2 : (Value.ref C :: bm).contains (.type "AttributeError") = false := by rw [List.contains_cons, hT _]; exact (congrArg _ B0.noAttr).trans rfl
  have z3 : (Value.ref C :: bm).contains (.type "NameError") = false := by rw [List.contains_cons, hT _]; exact (congrArg _ B0.noName).trans rfl
  refine codeAny_builtinAt B0.entry ?_
  unfold Builtin.«BaseException.__new__»
  refine wpAt_bind ?_
  show wpAt _ _ _ (stack >>= _) _ _ _
  refine wpAt_bind (wpAt_stack fun p below => PySem.wpAt_of_wpAny ?_)
  wp_walk
  refine PySem.wpAt_of_wpAny ?_
  rw [B0.owner]
  repeat (first | with_reducible refine wpAny_madeHere_exc B0.canon hC ?_ | with_reducible refine wpAny_loadPart_at hC ?_ | (with_reducible refine wpAny_isSubtype_exc hC ?_; first | rw [z1] | rw [z2] | rw [z3]) | wp_step)
  show R _ _
  rw [Heap.size_push]
  exact hq
theorem chkT (hC : h.get? C = some (excClassObj nm q C Na bs bm hdct sn sub ab col dd k0 k1 k2 k3 k5 newId)) {Q : Unit → Shared → Prop}
    (hq : Q () ⟨h, g, d, t, os⟩) : wpAny M A (checkBuiltinCall "type.__call__" ⟨.ref C :: xs, kw⟩) Q E ⟨h, g, d, t, os⟩ := by
  have z3 := tc_sub
  have z4 : (⟨h, g, d, t, os⟩ : Shared).TypeIs (.ref C) "type" := ⟨_, hC, rfl⟩
  simp only [checkBuiltinCall, tc_kind, tc_split]
  repeat (any_goals (first | assumption | with_reducible refine wpAny_loadPart_at hC ?_ | with_reducible refine wpAny_onRaise ?_ | with_reducible refine wpAny_map ?_ | wp_step))
theorem typeK (B0 : ExcBaseFacts B newId initId bmB) (hT : ∀ X : String, bm.contains (.type X) = bmB.contains (.type X)) {fI : Addr} {Q : PySem.Fin → Shared → Prop}
    (hC : h.get? C = some (excClassObj nm q C Na bs bm hdct sn sub ab col dd k0 k1 k2 k3 k5 newId)) (hz : xs.length ≤ sizeLine)
    (hi : W.Looks (model prog w) h (typeLookup (.ref C) "__init__") (some (.ref fI))) (hb : ∀ self, W.Looks (model prog w) h (bindSpecial (.ref fI) self) (.ref fI, [self]))
    (hq : codeAny (model prog w) A (.call (.ref fI) ⟨.ref (h.objs.size + 1) :: xs, kw⟩)
      (fun r s' => match r with | .ok (.ret v) => v = .none ∧ Q (.done (.ret (.ref (h.objs.size + 1)))) s' | .ok _ => False | .error e => E e s')
      ⟨(h.push (PySem.W.kdv_tup xs)).push (excO C h.objs.size), g, d, t, os⟩) :
    wpAny (model prog w) A (Builtin.«type.__call__» ⟨.ref C :: xs, kw⟩) Q E ⟨h, g, d, t, os⟩ := by
  repeat (first | with_reducible refine wpAny_loadPart_at hC ?_ | with_reducible refine wpAny_madeBy_exc hC ?_ | wp_step)
  refine codeAny_call_builtin_code (Code.quiet_builtin _ B0.quiet) (chkK B0 hT hC ?_)
  refine newK B0 hT hC ?_ hz
  show wpAny _ _ _ _ _ _
  have k : ∀ b o, h.get? b = some o → ((h.push (PySem.W.kdv_tup xs)).push (excO C h.objs.size)).get? b = some o := fun b o z => Heap.get?_push_of_some _ (Heap.get?_push_of_some _ z)
  have y1 := k _ _ hC
  have y2 : ((h.push (PySem.W.kdv_tup xs)).push (excO C h.objs.size)).get? (h.objs.size + 1) = some (excO C h.objs.size) := by heap_get
  have y3 : (Value.ref C :: bm).contains (.ref C) = true := by simp
  have y4 := hi.keeps k
  have y5 := (hb (.ref (h.objs.size + 1))).keeps k
  unfold isInstance
  repeat (first | with_reducible refine wpAny_loadPart_at y2 ?_ | (with_reducible refine wpAny_isSubtype_exc y1 ?_; rw [y3]) | wp_step)
  show wpAny _ _ (typeLookup (.ref C) _) _ _ _
  refine y4.at ?_
  refine wpAny_holding (wpAny_bind (y5.at ?_))
  refine wpAny_bind (wpAny_call (codeAny_mono hq fun r s' z => ?_))
  match r, z with
  | .error e, z => exact z
  | .ok (.ret v), z =>
    obtain ⟨rfl, z⟩ := z
    first
      | exact wpAny_pure (wpAny_pure z)
      | (wp_walk; exact z)
theorem callK (B0 : ExcBaseFacts B newId initId bmB) (hT : ∀ X : String, bm.contains (.type X) = bmB.contains (.type X)) {fI : Addr}
    (hC : h.get? C = some (excClassObj nm q C Na bs bm hdct sn sub ab col dd k0 k1 k2 k3 k5 newId)) (hz : xs.length ≤ sizeLine)
    (hi : W.Looks (model prog w) h (typeLookup (.ref C) "__init__") (some (.ref fI))) (hb : ∀ self, W.Looks (model prog w) h (bindSpecial (.ref fI) self) (.ref fI, [self]))
    (hq : codeAny (model prog w) (A.under (.builtin "type.__call__" ⟨.ref C :: xs, kw⟩)) (.call (.ref fI) ⟨.ref (h.objs.size + 1) :: xs, kw⟩) (W.InitBack (h.objs.size + 1) R)
      ⟨(h.push (PySem.W.kdv_tup xs)).push (excO C h.objs.size), g, d, t, os⟩) :
    codeAny (model prog w) A (.call (.ref C) ⟨xs, kw⟩) R ⟨h, g, d, t, os⟩ := by
  have z1 := tc_lookup
  have z2 := tc_bind (.ref C)
  have z3 : (⟨h, g, d, t, os⟩ : Shared).TypeIs (.ref C) "type" := ⟨_, hC, rfl⟩
  refine codeAny_of_tree ?_
  show wpAny _ _ (callAny (.ref C) _) _ _ _
  repeat (any_goals (first | assumption | with_reducible refine wpAny_loadPart_at hC ?_ | wp_step))
  refine ⟨rfl, ?_⟩
  refine codeAny_call_builtin_at (Code.quiet_builtin _ (by decide +kernel)) entry_typeCall (chkT hC (typeK B0 hT hC hz hi hb ?_))
  refine codeAny_mono hq fun r s' z => ?_
  match r, z with
  | .error e, z => exact z
  | .ok (.ret v), z => exact z
end
end N

namespace N
open PySem PySem.Spec PyProof.Rows L2
theorem RoomG.made {k : Nat} {A : Around} (r : RoomG (k + 1) A) (C : Addr) (us : List Value) (kw : List (Str × Value)) : RoomG k (A.under (.builtin "type.__call__" ⟨.ref C :: us, kw⟩)) :=
  ⟨r.toRoom.make C us kw, (by show pushGuards (Code.builtin "type.__call__" ⟨.ref C :: us, kw⟩).guards A.guards = some []; rw [r.gs]; rfl)⟩
/-- what is needed of a class with an own __init__ -/
structure OwnC (P : Program) (w : World) (K : PySem.W.Frag) (mg : Str → Option Value) (base : Heap) (k : Nat) (x : Str) (C : Addr) (fI : Addr) (fd : FuncData) (ps : List Str) (sp : Sp) : Prop where
  gl : mg x = some (.ref C)
  ox : OexC K C
  ini : PySem.W.findIn K (.ref C) "__init__" = some (some (.ref fI))
  tyf : PySem.W.typeIn K (.ref fI) = some (.type "function")
  fn : FnG P w K mg base (L2.CX P w) k fI fd ps sp
section
variable {X : Cx} {k n : Nat} {fI C : Addr} {fd : FuncData} {ps ks : List Str} {sp : Sp} {x : Str} {p pos : Pos} {e : Expr} {es : List Expr} {kws : List Keyword} {t tk : TA} {g : List Value → List Value → List Value} {gV : List V → List V → List V}
theorem run_own {pins : List (Addr × Obj)} {σ : L2.St} {H : Hp} {s : Shared} {Q : VK} {us ws : List Value} {vs zs : List V} (T : OwnC X.prog X.w X.K X.mg X.base k x C fI fd ps sp) (hr : RoomG (k + 1) X.A) (hb : KBn X.K fd ps (n + 1) ks g gV)
    (I : Inv X pins σ H s) (r : Vals vs us) (rz : Vals zs ws) (l1 : vs.length = n) (l2 : zs.length = ks.length) (hz : n ≤ 1000)
    (h : ∀ a, H a = none → sp (gV (.ref a :: vs) zs) (upd H a (exo a C none)) (fun v H2 => v = .non ∧ Q (.ref a) H2) E0) :
    wpAny (model X.prog X.w) X.A (call (.ref C) us (ks.zip ws)) (EP X pins σ Q) X.xe s := by
  obtain ⟨nm, q, Na, bs, bm, sn, sub, ab, col, dd, k0, k1, k2, k3, k5, hC, hbm⟩ := T.ox.cls
  obtain ⟨hp, gg, dr, tk, os⟩ := s
  have lt : hp.objs.size ≤ hp.objs.size + 1 := Nat.le_succ _
  have hn : H (hp.objs.size + 1) = none := I.hok.fresh lt
  have hq := h (hp.objs.size + 1) hn
  have kk : ∀ b o, hp.get? b = some o → ((hp.push (PySem.W.kdv_tup us)).push (PySem.HandSPX.excO C hp.objs.size)).get? b = some o := fun b o z => Heap.get?_push_of_some _ (Heap.get?_push_of_some _ z)
  have hg : ((hp.push (PySem.W.kdv_tup us)).push (PySem.HandSPX.excO C hp.objs.size)).get? (hp.objs.size + 1) = some (PySem.HandSPX.excO C hp.objs.size) := by heap_get
  have I2 : Inv X pins σ (upd H (hp.objs.size + 1) (exo (hp.objs.size + 1) C none)) ⟨(hp.push (PySem.W.kdv_tup us)).push (PySem.HandSPX.excO C hp.objs.size), gg, dr, tk, os⟩ :=
    I.laid (t' := tk) (a := hp.objs.size + 1) (o := exo (hp.objs.size + 1) C none) kk lt (exo_ok hg)
  have r1 : Vals (V.ref (hp.objs.size + 1) :: vs) (Value.ref (hp.objs.size + 1) :: us) := .cons rfl r
  have r2 := hb.rel r1 rz
  have n1 : (Value.ref (hp.objs.size + 1) :: us).length = n + 1 := by
    rw [List.length_cons, ← r.length, l1]
  have hus : us.length ≤ sizeLine := by
    rw [← r.length, sizeLine_eq]
    omega
  refine wpAny_call (callK PySem.F.excBase_ValueError (fun Y => PySem.HandSPX.refsVE_contains Y bm hbm) (I.kIn _ _ hC) hus (PySem.W.looks_findIn I.kIn T.ini) (fun self => PySem.W.bind_fn I.kIn self T.tyf)
    (codeAny_mono (T.fn.run _ X.stack _ _ ⟨Value.ref (hp.objs.size + 1) :: us, ks.zip ws⟩ (g (Value.ref (hp.objs.size + 1) :: us) ws) _ _ E0 (hr.made C us (ks.zip ws)) (I2.env0.make C us (ks.zip ws))
      (hb.to _ (Value.ref (hp.objs.size + 1) :: us) ws I2.kIn n1 (rz.length.symm.trans l2)) r2 hq) fun r s' hq' => ?_))
  match r, hq' with
  | .error er, hq' => exact passL pins σ _ _ er s' I2 hq'
  | .ok (.ret u), hq' =>
    obtain ⟨v, H', I3, rv, ev, q3⟩ := I2.after hq'
    subst ev
    exact ⟨rv, ⟨V.ref (hp.objs.size + 1), H', I3, rfl, q3⟩⟩
/-- C(e, ..) as a value -/
theorem pe_own (T : OwnC X.prog X.w X.K X.mg X.base k x C fI fd ps sp) (hr : RoomG (k + 1) X.A) (hb : KBn X.K fd ps (n + 1) [] g gV) (hz : n ≤ 1000) (hg : Gl X x) (ha : PA X (e :: es) t) (hdb : (x == ("__debug__" : Str)) = false := by decide)
    (he : starEach (e :: es) X.env = (false, eval e X.env) :: starEach es X.env := by rfl) (hpl : (backTo pos (starEach es X.env)).any (·.1) = false := by rfl) :
    PE X (.Call (.Name x p) (e :: es) [] pos) (fun σ H Q => t σ H fun vs H1 => vs.length = n ∧ ∀ a, H1 a = none → sp (gV (.ref a :: vs) []) (upd H1 a (exo a C none)) (fun v H2 => v = .non ∧ Q (.ref a) H2) E0) := by
  refine ⟨fun pins s σ H Q I h => wpAny_Call_Name_kw (ld_glob I hg T.gl ?_ hdb)⟩
  refine PySem.W.callWith_K (h₀ := X.base) I.ok.mod.kin T.ox.kC (thn (ha.run pos pins s σ H _ I h) fun us s1 ⟨vs, H1, J, r, l, q⟩ => ⟨J.kIn, ?_⟩) he hpl
  exact run_own (ks := []) (ws := []) (zs := []) T hr hb J r .nil l rfl hz q
/-- C(n=e, ..) as a value -/
theorem pe_ownK (T : OwnC X.prog X.w X.K X.mg X.base k x C fI fd ps sp) (hr : RoomG (k + 1) X.A) (hb : KBn X.K fd ps 1 ks g gV) (hg : Gl X x) (hkw : PK X kws tk)
    (hall : (backToKw pos (keywordEach kws X.env)).all (·.1.isSome) = true := by rfl) (hks : (backToKw pos (keywordEach kws X.env)).filterMap (·.1) = ks := by rfl) (hdb : (x == ("__debug__" : Str)) = false := by decide)
    (hpl : ((backTo pos (starEach [] X.env)).any (·.1) || (backToKw pos (keywordEach kws X.env)).any (·.1.isNone)) = false := by rfl) :
    PE X (.Call (.Name x p) [] kws pos) (fun σ H Q => tk σ H fun zs H1 => zs.length = ks.length ∧ ∀ a, H1 a = none → sp (gV [.ref a] zs) (upd H1 a (exo a C none)) (fun v H2 => v = .non ∧ Q (.ref a) H2) E0) := by
  refine ⟨fun pins s σ H Q I h => wpAny_Call_Name_kw (ld_glob I hg T.gl ?_ hdb)⟩
  refine PySem.W.callWith_KW0 (h₀ := X.base) I.ok.mod.kin T.ox.kC hall ?_ hpl
  refine thn (hkw.run pos pins s σ H _ I h) fun ws s2 ⟨zs, H2, J, rz, l2, q2⟩ => ⟨J.kIn, ?_⟩
  rw [hks]
  exact run_own (n := 0) (us := []) (vs := []) T hr hb J .nil rz rfl l2 (Nat.zero_le _) q2
end
end N

namespace N
open PySem
abbrev turS : Stmt := topS 7
end N

namespace N
open PySem PySem.Spec PyProof.Rows L2 NdefX
/-! ### raise Turned(e, e2) (as U3 and X10 do for the three) -/

def clsBody : Stmt → List Stmt
  | .ClassDef _ _ _ b _ _ _ _ _ _ _ => b
  | _ => []
def turI : Stmt := (clsBody turS).getD 0 (.Pass ⟨0, 0, 0, 0⟩)
/-- all but a -/
def But (a : Addr) (H H' : Hp) : Prop := ∀ b o, b ≠ a → H b = some o → H' b = some o
def okT : List V → Hp → Prop := fun ys _ => ∀ y ∈ ys, ∃ z : Str, y = .str z ∧ z.length ≤ sizeLine
/-- what such an __init__ keeps, its dict being new -/
def spIniF (C : Addr) (n : Nat) (ok : List V → Hp → Prop) (fs : List V → List (Str × V)) : Sp := fun vs H Q _ => ∃ (a : Addr) (ys : List V), vs = .ref a :: ys ∧ ys.length = n ∧ H a = some (exo a C none) ∧ ok ys H ∧ ∀ H' dx, But a H H' → H dx = none → dx ≠ a → H' a = some (exo a C (some dx)) → H' dx = some (exd dx (fs ys)) → Q .non H'
section
variable {P : Program} {w : World} {K : PySem.W.Frag} {mg : Str → Option Value} {base : Heap} {C f cc cda : Addr} {file : Str} {oc dV kV doc pm ct : Value} {od an : Option Addr} {osl : Array (Option Value)}
theorem nsc_Turned : NScope ["self", "name", "letter", "__class__"] ["self", "name", "letter"] ["__class__"] (defScope (turI)) := nscope_by (by decide +kernel)
theorem inf_Turned (hms : mg "super" = none) (hfile : ((P.main.file : Str) == file) = true) (htop : (P.main.scope.names.lookup ("super" : Str)).isSome = false) (D : IniC K file C f cc cda "Turned.__init__" (defArgs (turI)) (defBody (turI)) (defScope (turI))) (n0 : PySem.W.findIn K (.ref C) "name" = some none) (n1 : PySem.W.findIn K (.ref C) "letter" = some none)
    (lk : K.lookup f = some ⟨oc, od, .func (PySem.W.ksFn "__init__" "Turned.__init__" (defArgs (turI)) (defBody (turI)) (defScope (turI)) dV kV doc pm an (.ref cda) ct cc), osl⟩) :
    FnG P w K mg base (L2.CX P w) 2 f (PySem.W.ksFn "__init__" "Turned.__init__" (defArgs (turI)) (defBody (turI)) (defScope (turI)) dV kV doc pm an (.ref cda) ct cc) ["self", "name", "letter"] (spIniF C 2 okT (fun (ys : List V) => [("letter", ys.getD 1 .non), ("name", ys.getD 0 .non)])) := by
  refine ini_fn (Nm := ["self", "name", "letter", "__class__"]) (k := 1) (ar := (defArgs (turI)).args.getD 0 default) D lk nsc_Turned hfile htop rfl hms rfl rfl rfl (fun vs H Q E h => ?_) (fun A outer s H vs Q E hr h => ?_) (fun _ => rfl) (fun _ => rfl) _ (fun _ => rfl)
  · obtain ⟨a, ys, rfl, hl, _⟩ := h
    rw [List.length_cons, hl]
    rfl
  obtain ⟨a, ys, rfl, hl, ea, hok, q⟩ := h
  refine ⟨a, ys, _, _, rfl, ea, (pa_cons (pe_joined1 (pe_fmt (pv 1))) (pa_cons (pe_joined1 (pe_fmt (pv 2))) pa_nil)), (pss_cons (ps_ost (pv 0) (pv 1)) (pss_one (ps_ost (pv 0) (pv 2)))), fun u hu => ?_⟩
  obtain ⟨y, y', rfl⟩ : ∃ y y', ys = [y, y'] := by
    match ys, hl with
    | [y, y'], _ => exact ⟨y, y', rfl⟩
  obtain ⟨z, rfl, hz⟩ := hok y List.mem_cons_self
  obtain ⟨z', rfl, hz'⟩ := hok y' (List.mem_cons_of_mem _ List.mem_cons_self)
  refine ⟨[.str z, .str z'], by show 2 ≤ sizeLine; decide, fun R hR => ⟨_, rfl, .inl ⟨z, rfl, hz, _, rfl, .inl ⟨z', rfl, hz', hR⟩⟩⟩, ?_⟩
  have nau : a ≠ u := ne_of_none ea hu
  refine ⟨_, rfl, _, rfl, a, C, rfl, D.ox, n0, .inl ⟨by rw [upd_ne nau]; exact ea, fun dx hdx hda => ?_⟩⟩
  have old : ∀ b o, H b = some o → b ≠ u ∧ b ≠ dx := fun b o z => ⟨ne_of_none z hu, ne_of_none (by rw [upd_ne (ne_of_none z hu)]; exact z) hdx⟩
  refine ⟨_, rfl, _, rfl, a, C, rfl, D.ox, n1, .inr ⟨dx, _, upd_same, by rw [upd_ne hda]; exact upd_same, by show 1 ≤ 900; decide, ?_⟩⟩
  exact q _ dx (fun b o hb z => by rw [upd_ne (old b o z).2, upd_ne hb, upd_ne (old b o z).2, upd_ne (old b o z).1]; exact z) (upd_none hdx) hda (by rw [upd_ne (Ne.symm hda)]; exact upd_same) upd_same

end
section
variable {X : Cx} {k : Nat} {C fI : Addr} {fd : FuncData} {ps : List Str} {sp : Sp} {x : Str} {p pos pos' : Pos} {e e2 : Expr} {es : List Expr} {ta : TA} {te te2 : TE} {W : WX}
theorem pmk_oexG (T : OwnC X.prog X.w X.K X.mg X.base k x C fI fd ps sp) (hr : RoomG (k + 1) X.A) (hb : Binds X.K fd ps []) (hg : Gl X x) (ha : PA X (e :: es) ta)
    (hdb : (x == ("__debug__" : Str)) = false := by decide) (he : starEach (e :: es) X.env = (false, eval e X.env) :: starEach es X.env := by rfl) (hpl : (backTo pos (starEach es X.env)).any (·.1) = false := by rfl) :
    PMk X (.Call (.Name x p) (e :: es) [] pos) (tMkO C sp [] ta) := by
  intro pins s σ H Q I h
  obtain ⟨nm, q, N, bs, bm, sn, sub, ab, col, dd, k0, k1, k2, k3, k5, hC, hbm⟩ := T.ox.cls
  refine wpAny_Call_Name_kw (ld_glob I hg T.gl ?_ hdb)
  refine PySem.W.callWith_K (h₀ := X.base) I.ok.mod.kin T.ox.kC (thn (ha.run pos pins s σ H _ I h) fun us s1 ⟨vs, H1, I1, r1, hz, q1⟩ => ⟨I1.kIn, ?_⟩) he hpl
  show wpAny _ _ (call (.ref C) us) _ _ _
  obtain ⟨hp, g, dr, tk, os⟩ := s1
  have hsz : hp.objs.size ≤ hp.objs.size + 1 := Nat.le_succ _
  have hn : H1 (hp.objs.size + 1) = none := I1.hok.fresh hsz
  have hq := q1 (hp.objs.size + 1) hn
  rw [List.append_nil] at hq
  have kk : ∀ b o, hp.get? b = some o → ((hp.push (PySem.W.kdv_tup us)).push (PySem.HandSPX.excO C hp.objs.size)).get? b = some o := fun b o e => Heap.get?_push_of_some _ (Heap.get?_push_of_some _ e)
  have hget : ((hp.push (PySem.W.kdv_tup us)).push (PySem.HandSPX.excO C hp.objs.size)).get? (hp.objs.size + 1) = some (PySem.HandSPX.excO C hp.objs.size) := by heap_get
  have I2 : Inv X pins σ (upd H1 (hp.objs.size + 1) (exo (hp.objs.size + 1) C none)) ⟨(hp.push (PySem.W.kdv_tup us)).push (PySem.HandSPX.excO C hp.objs.size), g, dr, tk, os⟩ :=
    I1.laid (t' := tk) (a := hp.objs.size + 1) (o := exo (hp.objs.size + 1) C none) (h' := (hp.push (PySem.W.kdv_tup us)).push (PySem.HandSPX.excO C hp.objs.size)) kk hsz (exo_ok hget)
  have r2 : Vals (V.ref (hp.objs.size + 1) :: vs) (Value.ref (hp.objs.size + 1) :: us) := .cons rfl r1
  have hl : (Value.ref (hp.objs.size + 1) :: us).length = ps.length := by
    have e := r2.length
    rw [T.fn.len _ _ _ _ hq] at e
    exact e.symm
  have hus : us.length ≤ sizeLine := by
    rw [← Paired.length r1, sizeLine_eq]
    omega
  have hbd := hb ⟨(hp.push (PySem.W.kdv_tup us)).push (PySem.HandSPX.excO C hp.objs.size), g, dr, tk, os⟩ (Value.ref (hp.objs.size + 1) :: us) I2.kIn (by rw [List.append_nil]; exact hl)
  rw [List.append_nil] at hbd
  refine wpAny_call (PySem.HandSPX.call_own F.excBase_ValueError (fun Y => PySem.HandSPX.refsVE_contains Y bm hbm) (I1.kIn _ _ hC) (PySem.W.looks_findIn I1.kIn T.ini) (fun self => PySem.W.bind_fn I1.kIn self T.tyf) hus
    (codeAny_mono (T.fn.run _ X.stack _ _ ⟨Value.ref (hp.objs.size + 1) :: us, []⟩ (Value.ref (hp.objs.size + 1) :: us) _ _ E0 (hr.made C us []) (I2.env0.make C us []) hbd r2 hq) fun r s' hq' => ?_))
  cases r with
  | error er => exact passL pins σ _ _ er s' I2 hq'
  | ok fl =>
    cases fl with
    | ret u =>
      obtain ⟨v, H2, os2, bare2, un2, hok2, rv, ev, d, fs, ea, ed, hd1, q2⟩ := hq'
      subst ev
      obtain ⟨h2, g2, d2, t2, os'⟩ := s'
      exact ⟨rv, mk_end (raises_own T.ox.exC T.ox.tyC) I1 hsz kk un2 hok2 os2 bare2 ea ed hd1 q2⟩
    | next => exact False.elim hq'
    | brk => exact False.elim hq'
    | cont => exact False.elim hq'
end
theorem psImp {X : Cx} {st : Stmt} {t t' : TS} (h : PS X st t) (q : ∀ D σ H, t' D σ H → t D σ H) : PS X st t' := ⟨fun pins s σ H D I z => h.run pins s σ H D I (q _ _ _ z)⟩
structure Ra2 (P : Program) (w : World) (K : PySem.W.Frag) (mg : Str → Option Value) (base : Heap) (x : Str) (C : Addr) : Prop where
  o : ∃ (fI : Addr) (fd : FuncData), OwnC P w K mg base 2 x C fI fd ["self", "name", "letter"] (spIniF C 2 okT fun ys => [("letter", ys.getD 1 .non), ("name", ys.getD 0 .non)]) ∧ Binds K fd ["self", "name", "letter"] []
section
variable {X : Cx} {C : Addr} {x : Str} {p pos pos' : Pos} {e e2 : Expr} {te te2 : TE} {W : WX}
theorem raised_same {H1 H2 : Hp} {a C d : Addr} {fs : List (Str × V)} (ha : H1 a = none) (hd : H1 d = none) (b : But a (upd H1 a (exo a C none)) H2) : Same H1 (upd (del H2 a) d (.xd fs)) := fun q o z => by
  have n1 : q ≠ a := ne_of_none z ha
  have n2 : q ≠ d := ne_of_none z hd
  rw [upd_ne n2, del_ne n1]
  exact b q o n1 (by rw [upd_ne n1]; exact z)
def tRa2 (C : Addr) (W : WX) (te te2 : TE) : TS := fun _ σ H => tMkO C (spIniF C 2 okT fun ys => [("letter", ys.getD 1 .non), ("name", ys.getD 0 .non)]) [] (tCons te (tCons te2 tNil)) σ H fun cls d H' => W cls d σ H'
theorem ps_ra2 (O : Ra2 X.prog X.w X.K X.mg X.base x C) (hc : X.calm = true) (tk : Takes X W) (hr : RoomG 3 X.A) (hg : Gl X x) (he : PE X e te) (he2 : PE X e2 te2) (hdb : (x == ("__debug__" : Str)) = false := by decide)
    (hst : starEach [e, e2] X.env = (false, eval e X.env) :: starEach [e2] X.env := by rfl) (hst2 : starEach [e2] X.env = (false, eval e2 X.env) :: starEach [] X.env := by rfl) (hpl : (backTo pos (starEach [e2] X.env)).any (·.1) = false := by rfl) : PS X (.Raise (some (.Call (.Name x p) [e, e2] [] pos)) none pos') (tRa2 C W te te2) := by
  obtain ⟨fI, fd, O, hb⟩ := O.o
  exact ps_raise hc tk (pmk_oexG O hr hb hg (pa_cons he (pa_cons he2 pa_nil hst2) hst) hdb hst hpl)
theorem ra2_q {H1 : Hp} {n l : Str} {Q : XK} (hn : n.length ≤ 1000) (hl : l.length ≤ 1000) (q : ∀ H' dd, Same H1 H' → H' dd = some (.xd [("letter", .str l), ("name", .str n)]) → Q (.ref C) (some dd) H') :
    ([V.str n, V.str l] : List V).length ≤ 1000 ∧ ∀ a, H1 a = none → spIniF C 2 okT (fun ys => [("letter", ys.getD 1 .non), ("name", ys.getD 0 .non)]) (.ref a :: ([V.str n, V.str l] ++ [])) (upd H1 a (exo a C none))
      (fun v H2 => v = .non ∧ ∃ (d : Addr) (fs : List (Str × V)), H2 a = some (exo a C (some d)) ∧ H2 d = some (exd d fs) ∧ H1 d = none ∧ Q (.ref C) (some d) (upd (del H2 a) d (.xd fs))) (fun _ _ _ => False) := by
  refine ⟨by show 2 ≤ 1000; decide, fun a ha => ⟨a, [.str n, .str l], rfl, rfl, upd_same, fun y hy => ?_, fun H' dx b hdx hda e1 e2 => ⟨rfl, dx, _, e1, e2, ?_, ?_⟩⟩⟩
  · simp only [List.mem_cons, List.not_mem_nil, or_false] at hy
    rcases hy with rfl | rfl
    · exact ⟨n, rfl, sz5 (by omega)⟩
    · exact ⟨l, rfl, sz5 (by omega)⟩
  · exact upd_none hdx
  · exact q _ dx (raised_same ha (upd_none hdx) b) upd_same
end
end N

namespace N
open PySem PySem.Spec PyProof.Rows L2 LamX NdefX
/-! ### lambdas with parameters and captured names -/
/-- the words of a lambda; its expression stands beside -/
def lamF (q : Str) (params : Arguments) (scope : Scope) (cl : List (Str × Addr)) (c : Addr) : NF := ⟨"<lambda>", q, params, [], scope, cl, c⟩
/-- at f stands the lambda -/
def LamO (f : Addr) (F : NF) (body : Expr) : HO := .ext fun h => ∃ pm ctv : Value, h.get? f = some (PySem.W.kla_obj F.name F.qual F.params body F.scope F.cl pm F.c ctv)
theorem lamO_at {P : Program} {w : World} {H : Hp} {h : Heap} {f : Addr} {F : NF} {body : Expr} (hok : HOk P w H h) (e : H f = some (LamO f F body)) : ∃ pm ctv : Value, h.get? f = some (PySem.W.kla_obj F.name F.qual F.params body F.scope F.cl pm F.c ctv) := (hok f _ e).1
theorem lamO_ne {f : Addr} {F : NF} {body : Expr} (ps : Array Value) : LamO f F body ≠ .tbl ps := fun z => by
  unfold LamO at z
  cases z
section
variable {X : Cx} {pins : List (Addr × Obj)} {σ : L2.St} {H : Hp} {s : Shared}
theorem tabS_more {H : Hp} {P c : Addr} {q : Str} {ps : Array Value} {pos : Pos} (hP : H P = some (.tbl ps)) (ht : TriplesOk ps.toList) (ha : ∀ (p' : Pos) (cv : Value), codeAmong p' ps.toList = some cv → ∃ c0, cv = .ref c0 ∧ H c0 = some (CodeO c0 q)) (hc : H c = none) :
    TabS (upd (upd H P (.tbl (ps ++ #[rawInt pos.line, rawInt pos.col, .ref c]))) c (CodeO c q)) P q := by
  have hne : P ≠ c := ne_of_none hP hc
  have el : (ps ++ #[rawInt pos.line, rawInt pos.col, .ref c]).toList = ps.toList ++ [rawInt pos.line, rawInt pos.col, .ref c] := by simp
  refine ⟨_, (by rw [upd_ne hne]; exact upd_same), by rw [el]; exact PySem.TriplesOk_snoc _ _ _ _ ht, ?_⟩
  intro p' cv hv
  rw [el] at hv
  rcases among_app _ ht hv with y | y
  · obtain ⟨c0, y1, y2⟩ := ha p' cv y
    have n1 : c0 ≠ c := ne_of_none y2 hc
    have n2 : c0 ≠ P := fun z => by
      rw [z, hP] at y2
      exact codeO_ne ps (Option.some.inj y2).symm
    exact ⟨c0, y1, by rw [upd_ne n1, upd_ne n2]; exact y2⟩
  · exact ⟨c, y, upd_same⟩
/-- a lambda is made; it is known from now on -/
theorem lam_new {c P : Addr} {params : Arguments} {body : Expr} {scope : Scope} {pos : Pos} {E : Value → Shared → Prop} {Q : Value → Shared → Prop} (I : Inv X pins σ H s) (TB : TabB X.base X.mg c P) (hcode : X.env.code = .ref c) (hT : TabS H P (X.env.qual ++ "<lambda>"))
    (hdef : defaultsOf params X.env = ([], [])) (hfree : ∀ y ∈ scope.names, y.2 = .free → ∃ c, X.env.cells.lookup y.1 = some c)
    (h : ∀ (f c' : Addr) (H1 : Hp) (s' : Shared), Inv X pins σ H1 s' → ExtN H H1 → TabS H1 P (X.env.qual ++ "<lambda>") → (∀ b, H1 b = none → H b = none) → H f = none → H1 f = some (LamO f (lamF (X.env.qual ++ "<lambda>") params scope (cloFrom X.env.cells scope.names []) c') body) → H1 c' = some (CodeO c' (X.env.qual ++ "<lambda>")) → Q (.ref f) s') :
    wpAny (model X.prog X.w) X.A (eval (.Lambda params body scope pos) X.env) Q E s := by
  obtain ⟨ps, hP, ht, ha⟩ := hT
  apply PySem.W.kla_eval hdef
  have hb : s.heap.BuiltinsAt X.mg P := TB.bm.keeps I.bk
  have tP : s.heap.get? P = some { cls := .none, data := .fields ps } := I.hok P _ hP
  -- the function object itself
  have fin : ∀ (h' : Heap) (tk : Nat) (c' : Addr) (ctv : Value) (H1 : Hp), Inv X pins σ H1 { s with heap := h', toks := tk } → ExtN H H1 → TabS H1 P (X.env.qual ++ "<lambda>") → (∀ b, H1 b = none → H b = none) → H1 c' = some (CodeO c' (X.env.qual ++ "<lambda>")) →
      Q (.ref h'.objs.size) { s with heap := h'.push (PySem.W.kla_obj "<lambda>" (X.env.qual ++ "<lambda>") params body scope (cloFrom X.env.cells scope.names []) ((X.mg "__name__").getD .none) c' ctv), toks := tk } := by
    intro h' tk c' ctv H1 J e1 T1 n1 k1
    have nf : H1 h'.objs.size = none := J.hok.fresh (Nat.le_refl _)
    have here : (h'.push (PySem.W.kla_obj "<lambda>" (X.env.qual ++ "<lambda>") params body scope (cloFrom X.env.cells scope.names []) ((X.mg "__name__").getD .none) c' ctv)).get? h'.objs.size = some _ := Heap.get?_push_size _ rfl
    have J2 := J.laid (t' := tk) (a := h'.objs.size) (o := LamO h'.objs.size (lamF (X.env.qual ++ "<lambda>") params scope (cloFrom X.env.cells scope.names []) c') body) (fun b u e => Heap.get?_push_of_some _ e) (Nat.le_refl _)
      ⟨⟨_, _, here⟩, ⟨_, here⟩, fun h1 h2 y st => by obtain ⟨a, b, z⟩ := y; exact ⟨a, b, st _ z⟩⟩
    have sm := same_new nf (LamO h'.objs.size (lamF (X.env.qual ++ "<lambda>") params scope (cloFrom X.env.cells scope.names []) c') body)
    exact h _ c' _ _ J2 (e1.trans (ExtN.of sm)) (T1.ext sm) (fun b z => n1 b (sm.free z)) (n1 _ nf) upd_same (sm _ _ k1)
  cases hc : codeAmong pos ps.toList with
  | some cv =>
    obtain ⟨c', ec, hco⟩ := ha pos cv hc
    subst ec
    refine PySem.W.kla_makeFunctionHit (closure_ok hfree) I.ok.glob (I.mod.glob.keeps I.bk) hcode (TB.code.keeps I.bk) tP ht hc hb (fun ctv h' tk kx _ => ?_)
    exact fin h' tk c' ctv H (I.kept kx) (ExtN.refl H) ⟨ps, hP, ht, ha⟩ (fun b z => z) hco
  | none =>
    refine PySem.W.kla_makeFunction (closure_ok hfree) I.ok.glob (I.mod.glob.keeps I.bk) hcode (TB.code.keeps I.bk) tP ht hc TB.gP hb (fun c' ctv h' tk kx hge hlt hrec htb => ?_)
    obtain ⟨c2, oc, vs, t, e2, y1, y2, y3⟩ := hrec
    cases e2
    have nc : H c' = none := I.hok.fresh hge
    have J := inv_table (t' := tk) (more := #[rawInt pos.line, rawInt pos.col, .ref c']) (h' := h') (q := X.env.qual ++ "<lambda>") I hP (fun b o n e => kx b o n e) htb hge ⟨oc, vs, t, y1, y2, y3⟩
    refine fin h' tk c' ctv _ J (fun b o e n => ?_) (tabS_more hP ht ha nc) (fun b z => upd_none (upd_none z)) upd_same
    rw [upd_ne (ne_of_none e nc), upd_ne (fun z => n ps (Option.some.inj (e.symm.trans (by rw [z]; exact hP))))]
    exact e
/-- what the cells held at the entry they hold -/
theorem cells_later {cl : List (Str × Addr)} {fr : List Str} {ws : List (Option V)} (C : CellsAt cl fr ws X.s_0.heap X.H_0) (hx : X.ex = []) (I : Inv X pins σ H s) : CellsAt cl fr ws s.heap H := by
  have kp : ∀ y c, cl.lookup y = some c → ∀ v, X.s_0.heap.IsCell c v → s.heap.IsCell c v := fun y c e v z => by
    obtain ⟨o, ho, hd⟩ := z
    obtain ⟨sl, z2⟩ := I.base.any ho (C.all y c e).1 (by rw [hx]; simp)
    exact ⟨_, z2, hd⟩
  refine ⟨C.len, fun y c e => ?_, C.inj, fun i y e => ?_⟩
  · obtain ⟨n, v, z⟩ := C.all y c e
    have z0 := z
    obtain ⟨o, ho, _⟩ := z0
    exact ⟨I.base.free c o ho n (by rw [hx]; simp), v, kp y c e _ z⟩
  · obtain ⟨c, e1, e2⟩ := C.has i y e
    exact ⟨c, e1, fun v ev => (e2 v ev).imp fun u r => ⟨r.1, kp y c e1 _ r.2⟩⟩
end
section
variable {P : Program} {w : World} {K : PySem.W.Frag} {mg : Str → Option Value} {base : Heap} {N ps fr : List Str} {F : NF} {f : Addr} {k : Nat} {body : Expr} {tb : TE}
/-- a lambda called -/
theorem run_lam (S : NScope N ps fr F.scope) (hb : ∀ (pm ctv : Value) (us : List Value), us.length = ps.length → bindArgs (PySem.W.kla_fn F.name F.qual F.params body F.scope F.cl pm (.ref F.c) ctv) ⟨us, []⟩ = pure (ps.zip us))
    {A : Around} {outer : List Env} {s : Shared} {H : Hp} {us : List Value} {vs : List V} {ws : List (Option V)} {Q : VK}
    (hbody : ∀ (s : Shared) (H : Hp), PE (ncx (L2.CX P w) P w K mg base N F f A outer s H E0) body tb)
    (hr : RoomG (k + 1) A) (e0 : Env0 P w K mg base A outer s H) (hf : H f = some (LamO f F body)) (hc : H F.c = some (CodeO F.c F.qual)) (C : CellsAt F.cl fr ws s.heap H) (r : Vals vs us) (hl : vs.length = ps.length) (q : tb (startF N vs ws) H Q) :
    codeAny (model P w) A (.call (.ref f) ⟨us, []⟩) (CR (L2.CX P w) outer P w H s Q E0) s := by
  have lim : s.heap.NoLimit := e0.mod.nolimit.keeps fun b o e => (e0.bs b o e).1
  obtain ⟨pm, ctv, ho⟩ := lamO_at e0.hok hf
  refine PySem.W.kla_callFunE hr.toRoom.depth ho rfl S.co S.gen rfl (codeO_at e0.hok hc) ?_
  rw [hb pm ctv us (by rw [← r.length]; exact hl)]
  refine wpAny_pure (wpAny_newFunctionEnv S.nocell (fun y hy => S.par y.1 (List.of_mem_zip (show (y.1, y.2) ∈ ps.zip us from hy)).1) (fun h1 hns hsb => ⟨lim.fresh _ hsb, ?_⟩) S.kind)
  show codeAny _ _ (.expr body (envF F f s.heap.objs.size)) _ _
  have kp : ∀ b o, s.heap.get? b = some o → h1.get? b = some o := fun b o e => hsb.extBut b o (Nat.ne_of_lt (Heap.lt_size e)) (Heap.get?_push_of_some _ e)
  have J : Inv (ncx (L2.CX P w) P w K mg base N F f A outer s H E0) [] (startF N vs ws) H { s with heap := h1, toks := s.toks + (ps.zip us).length } := inv_startN S hr.toRoom.hd e0 hl r C hns kp
  refine PySem.W.kla_codeExpr (wpAny_mono ((hbody s H).run [] _ _ H Q J q) (fun v s' z => ?_) fun e s' z => z)
  obtain ⟨v', H', J', rv, z2⟩ := z
  exact ⟨v', H', J'.os, J'.bare, J'.base, J'.hok, rv, z2⟩
end
section
variable {Z : Cx} {Nm ps fr : List Str} {F : NF} {f : Addr} {k i : Nat} {body : Expr} {tb : TE} {ws : List (Option V)} {G : List V → Hp → VK → Prop} {a : Str} {e : Expr} {es : List Expr} {t : TA} {p1 p2 : Pos}
theorem pe_actL (S : NScope Nm ps fr F.scope) (hb : ∀ (pm ctv : Value) (us : List Value), us.length = ps.length → bindArgs (PySem.W.kla_fn F.name F.qual F.params body F.scope F.cl pm (.ref F.c) ctv) ⟨us, []⟩ = pure (ps.zip us))
    (hbody : ∀ (s : Shared) (H : Hp), PE (ncx (L2.CX Z.prog Z.w) Z.prog Z.w Z.K Z.mg Z.base Nm F f Z.A Z.stack s H E0) body tb) (hr : RoomG (k + 1) Z.A) (C : CellsAt F.cl fr ws Z.s_0.heap Z.H_0) (hx : Z.ex = []) (hG : ∀ vs H1 Q, G vs H1 Q → H1 f = some (LamO f F body) ∧ H1 F.c = some (CodeO F.c F.qual) ∧ vs.length = ps.length ∧ tb (startF Nm vs ws) H1 Q)
    (hN : Z.N[i]? = some a) (hv : Vis Z.env.scope a) (ha : PA Z (e :: es) t) (hd : (a == ("__debug__" : Str)) = false := by decide) (hcd : (a == ("__classdict__" : Str)) = false := by decide)
    (he : starEach (e :: es) Z.env = (false, eval e Z.env) :: starEach es Z.env := by rfl) (hpl : (backTo p2 (starEach es Z.env)).any (·.1) = false := by rfl) :
    PE Z (.Call (.Name a p1) (e :: es) [] p2) (fun σ H Q => σ[i]? = some (some (.ref f)) ∧ H f = some (LamO f F body) ∧ t σ H fun vs H1 => G vs H1 Q) := by
  refine ⟨fun pins s σ H Q I h => ?_⟩
  obtain ⟨hs, hf, ht⟩ := h
  refine wpAny_Call_Name_kw (thn ((pe_var (pos := p1) hN hv hd hcd).run pins s σ H (fun v H1 => v = .ref f ∧ H1 = H) I ⟨.ref f, hs, rfl, rfl⟩) fun u s1 z => ?_)
  obtain ⟨v, H1, J, r1, ev, eH⟩ := z
  subst ev
  rw [eH] at J
  obtain rfl : u = Value.ref f := r1
  have fnAt : ∀ {s : Shared} {H : Hp} {pins : List (Addr × Obj)} {σ : L2.St}, Inv Z pins σ H s → H f = some (LamO f F body) → PySem.W.FnAt f s.heap := fun I e => by
    obtain ⟨pm, ctv, ho⟩ := lamO_at I.hok e
    exact ⟨_, _, _, _, ho⟩
  refine PySem.W.callWith_F (first := []) (fnAt J hf) (thn (ha.run p2 pins s1 σ H _ J ht) fun us s2 z => ?_) he hpl
  obtain ⟨vs, H2, J2, r, gg⟩ := z
  obtain ⟨q1, q2, q3, q4⟩ := hG vs H2 Q gg
  refine ⟨fnAt J2 q1, ?_⟩
  show wpAny _ _ (call (.ref f) us) _ _ _
  refine wpAny_call (codeAny_mono (run_lam S hb hbody hr J2.env0 q1 q2 (cells_later C hx J2) r q3 q4) fun res s' hq => ?_)
  match res, hq with
  | .error e, hq => exact passL pins σ H2 s2 e s' J2 hq
  | .ok (.ret u), hq => exact J2.after hq
  | .ok .next, hq => exact False.elim hq
  | .ok .brk, hq => exact False.elim hq
  | .ok .cont, hq => exact False.elim hq
end
end N

namespace N
open PySem PySem.Spec PyProof.Rows L2 LamX NdefX
/-! ### values that are called, by what they do -/
/-- at f stands a lambda that does spL, its cells being as they are in the heap h -/
def ActL (P : Program) (w : World) (K : PySem.W.Frag) (mg : Str → Option Value) (base : Heap) (f : Addr) (h : Heap) (H : Hp) (spL : List V → Hp → VK → Prop) : Prop :=
  ∃ (F : NF) (body : Expr) (Nm ps fr : List Str) (ws : List (Option V)) (tb : TE), NScope Nm ps fr F.scope ∧
    (∀ (pm ctv : Value) (us : List Value), us.length = ps.length → bindArgs (PySem.W.kla_fn F.name F.qual F.params body F.scope F.cl pm (.ref F.c) ctv) ⟨us, []⟩ = pure (ps.zip us)) ∧
    (∀ (A : Around) (outer : List Env) (s : Shared) (H : Hp), RoomG 0 (A.deeper (envF F f s.heap.objs.size)) → PE (ncx (L2.CX P w) P w K mg base Nm F f A outer s H E0) body tb) ∧ CellsAt F.cl fr ws h H ∧
    H f = some (LamO f F body) ∧ H F.c = some (CodeO F.c F.qual) ∧ ∀ vs H' Q, spL vs H' Q → vs.length = ps.length ∧ tb (startF Nm vs ws) H' Q
section
variable {Z : Cx} {f : Addr} {i : Nat} {a : Str} {e : Expr} {es : List Expr} {t : TA} {p1 p2 : Pos} {spL : List V → Hp → VK → Prop}
theorem pe_actS (L : ActL Z.prog Z.w Z.K Z.mg Z.base f Z.s_0.heap Z.H_0 spL) (hr : RoomG 1 Z.A) (hx : Z.ex = [])
    (hN : Z.N[i]? = some a) (hv : Vis Z.env.scope a) (ha : PA Z (e :: es) t) (hd : (a == ("__debug__" : Str)) = false := by decide) (hcd : (a == ("__classdict__" : Str)) = false := by decide)
    (he : starEach (e :: es) Z.env = (false, eval e Z.env) :: starEach es Z.env := by rfl) (hpl : (backTo p2 (starEach es Z.env)).any (·.1) = false := by rfl) :
    PE Z (.Call (.Name a p1) (e :: es) [] p2) (fun σ H Q => σ[i]? = some (some (.ref f)) ∧ Same Z.H_0 H ∧ t σ H fun vs H1 => Same Z.H_0 H1 ∧ spL vs H1 Q) := by
  obtain ⟨F, body, Nm, ps, fr, ws, tb, S, hb, hbody, C, h1, h2, hsp⟩ := L
  have q := pe_actL (Z := Z) (i := i) (f := f) (k := 0) (p1 := p1) (G := fun vs H1 Q => Same Z.H_0 H1 ∧ spL vs H1 Q) S hb (fun s H => hbody Z.A Z.stack s H (hr.deeper _)) hr C hx (fun vs H1 Q z => ⟨z.1 _ _ h1, z.1 _ _ h2, hsp vs H1 Q z.2⟩) hN hv ha hd hcd he hpl
  refine ⟨fun pins s σ H Q I h => ?_⟩
  obtain ⟨g1, g2, g3⟩ := h
  exact q.run pins s σ H Q I ⟨g1, g2 _ _ h1, g3⟩
end
end N

namespace N
open PySem PySem.Spec PyProof.Rows L2 LamX NdefX
section
variable {X : Cx} {k : Nat} {x : Str} {st : Stmt} {ps Ng : List Str} {p pos : Pos} {e : Expr} {es : List Expr} {t : TA}
/-- lambda ..: .. as a value -/
theorem pe_lamT {c P : Addr} {params : Arguments} {body : Expr} {scope : Scope} (TB : TabB X.base X.mg c P) (hcode : X.env.code = .ref c) (hdef : defaultsOf params X.env = ([], []) := by rfl)
    (fre : ∀ y ∈ scope.names, y.2 = .free → X.env.scope.names.lookup y.1 = some .cell ∨ X.env.scope.names.lookup y.1 = some .free := by decide +kernel) :
    PE X (.Lambda params body scope pos) (fun σ H Q => TabS H P (X.env.qual ++ "<lambda>") ∧ ∀ (f c' : Addr) (H1 : Hp), ExtN H H1 → TabS H1 P (X.env.qual ++ "<lambda>") → (∀ b, H1 b = none → H b = none) → H f = none →
      H1 f = some (LamO f (lamF (X.env.qual ++ "<lambda>") params scope (cloFrom X.env.cells scope.names []) c') body) → H1 c' = some (CodeO c' (X.env.qual ++ "<lambda>")) → Q (.ref f) H1) := by
  refine ⟨fun pins s σ H Q I h => ?_⟩
  obtain ⟨hT, h⟩ := h
  refine lam_new I TB hcode hT hdef (fun y hy ey => (fre y hy ey).elim (fun z => I.ok.has _ (.inl z)) fun z => I.ok.has _ (.inr z)) (fun f c' H1 s' J g1 g2 g3 g4 g5 g6 => ?_)
  exact ⟨.ref f, H1, J, rfl, h f c' H1 g1 g2 g3 g4 g5 g6⟩
/-- x(e, ..), the promise told of the very state -/
theorem pe_callH {RR : L2.St → List V → Hp → VK → Prop} (D : DefAt X.K X.mg x st ps) (Sg : FnScope Ng ps (defScope st)) (hr : RoomG (k + 1) X.A) (hg : Gl X x) (ha : PA X (e :: es) t) (hlen : ∀ σ vs H Q, RR σ vs H Q → vs.length = ps.length)
    (hG : ∀ (g : Addr) (cdv : Value) (pins : List (Addr × Obj)) (s : Shared) (σ : L2.St) (H : Hp) (vs : List V) (Q : VK), Inv X pins σ H s → RoomG k (X.A.deeper (envOfC x (defScope st) s.heap.objs.size g cdv)) → RR σ vs H Q →
      ∃ t, PSs (cxOf (L2.CX X.prog X.w) X.prog X.w X.K X.mg X.base Ng x (defScope st) g cdv X.A X.stack s H E0) (defBody st) t ∧ t { nx := fun _ H' => Q .non H', rt := Q } (L2.start Ng vs) H)
    (hdb : (x == ("__debug__" : Str)) = false := by decide) (he : starEach (e :: es) X.env = (false, eval e X.env) :: starEach es X.env := by rfl) (hpl : (backTo pos (starEach es X.env)).any (·.1) = false := by rfl) :
    PE X (.Call (.Name x p) (e :: es) [] pos) (fun σ H Q => t σ H fun vs H1 => RR σ vs H1 Q) := by
  obtain ⟨g, fd, hm, F, hb⟩ := D
  have hk := F.kp
  obtain ⟨oc, od, kV, doc, pm, an, cdv, ct, osl, rfl, lk, hcd⟩ := F.ex
  refine ⟨fun pins s σ H Q I h => wpAny_Call_Name_kw (ld_glob I hg hm ?_ hdb)⟩
  refine PySem.W.callWith_K (h₀ := X.base) I.ok.mod.kin hk (thn (ha.run pos pins s σ H _ I h) fun us s1 z => ?_) he hpl
  obtain ⟨vs, H1, J, r, q⟩ := z
  refine ⟨J.kIn, ?_⟩
  have hl := hlen _ _ _ _ q
  have b := hb s1 us J.kIn (by rw [List.append_nil, ← r.length]; exact hl)
  rw [List.append_nil] at b
  show wpAny _ _ (call (.ref g) us) _ _ _
  refine wpAny_call (codeAny_mono (run_ofS (CX := L2.CX X.prog X.w) (E := E0) lk hcd Sg hr.toRoom J.env0 b r hl fun hr' => hG g cdv pins s1 σ H1 vs Q J ⟨hr', hr.gs⟩ q) fun res s' hq => ?_)
  match res, hq with
  | .error e, hq => exact passL pins σ H1 s1 e s' J hq
  | .ok (.ret u), hq => exact J.after hq
  | .ok .next, hq => exact False.elim hq
  | .ok .brk, hq => exact False.elim hq
  | .ok .cont, hq => exact False.elim hq
end
/-! ### a def whose code object is named -/
def DefAtC (K : PySem.W.Frag) (mg : Str → Option Value) (x : Str) (st : Stmt) (ps : List Str) (c : Addr) : Prop :=
  ∃ (f : Addr) (fd : FuncData) (oc : Value) (od : Option Addr) (kV doc pm : Value) (an : Option Addr) (ct : Value) (osl : Array (Option Value)), mg x = some (.ref f) ∧ fd = PySem.W.fnOf x x (defArgs st) (defBody st) (defScope st) .none kV doc pm an (.ref c) ct ∧
    K.lookup f = some ⟨oc, od, .func fd, osl⟩ ∧ PySem.W.codeIn K (.ref c) x = true ∧ PySem.W.keepIn K (.ref f) = true ∧ Binds K fd ps []
section
variable {P : Program} {w : World} {K : PySem.W.Frag} {mg : Str → Option Value} {base : Heap} {k : Nat} {x : Str} {ps Nm : List Str} {sp : Sp} {st : Stmt} {c : Addr}
theorem DefAtC.cal (D : DefAtC K mg x st ps c) (S : FnScope Nm ps (defScope st)) (len : ∀ vs H Q E, sp vs H Q E → vs.length = ps.length)
    (hbody : ∀ (f : Addr) (A : Around) (outer : List Env) (s : Shared) (H : Hp) (vs : List V) (Q : VK) (E : XK), RoomG k (A.deeper (envOfC x (defScope st) s.heap.objs.size f (.ref c))) → sp vs H Q E →
      ∃ t, PSs (cxOf (L2.CX P w) P w K mg base Nm x (defScope st) f (.ref c) A outer s H E) (defBody st) t ∧ t { nx := fun _ H' => Q .non H', rt := Q } (start Nm vs) H) : Cal P w K mg base (k + 1) x ps sp := by
  obtain ⟨f, fd, oc, od, kV, doc, pm, an, ct, osl, hm, rfl, lk, hcd, hk, hb⟩ := D
  refine ⟨f, _, hm, hk, hb, len, fun A outer s H args us vs Q E hr e0 bt r hsp => ?_⟩
  exact run_ofS lk hcd S hr.toRoom e0 bt r (len _ _ _ _ hsp) fun hr' => hbody f A outer s H vs Q E ⟨hr', hr.gs⟩ hsp
end
theorem mk_defC {h : Heap} {K : PySem.W.Frag} {mg : Str → Option Value} {x : Str} {st : Stmt} {ps : List Str} {c : Addr} {f : Addr} {oc : Value} {od an : Option Addr} {osl : Array (Option Value)} {kV doc pm ct : Value} (X : K.In h) (G : h.Ns mainGlobals mg)
    (a : PySem.W.nsIn K mainGlobals x = some (some (.ref f))) (l : K.lookup f = some ⟨oc, od, .func (PySem.W.fnOf x x (defArgs st) (defBody st) (defScope st) .none kV doc pm an (.ref c) ct), osl⟩) (hc : PySem.W.codeIn K (.ref c) x = true) (k : PySem.W.keepIn K (.ref f) = true)
    (b : ∀ (kV doc pm : Value) (an : Option Addr) (cdv ct : Value) (us : List Value), us.length = ps.length → bindArgs (PySem.W.fnOf x x (defArgs st) (defBody st) (defScope st) .none kV doc pm an cdv ct) ⟨us, []⟩ = pure (ps.zip us)) : DefAtC K mg x st ps c :=
  ⟨f, _, oc, od, kV, doc, pm, an, ct, osl, PySem.W.mg_of X G a, rfl, l, hc, k, (fun_mk l hc k).binds b⟩
end N

namespace N
open PySem PySem.Spec PyProof.Rows L2 StX
/-! ### wrong_letters, with the sign that is barred -/
def barS (v : Str) : Str := if v = "out" then "-" else "+"
def badL (fs : List (Str × Str)) (p : Str × Str) : Bool := fs.any fun q => decide (q.1 = p.1) && barB q.2 p.2
def Cls.badP (cs : List Cls) (c : Cls) : Option Str := (c.ps.find? (badL (c.plz (vrOf cs)))).map Prod.fst
/-- the first class with its first letter for which its parents are not right -/
def turnOf (cs : List Cls) : Option (Str × Str) := cs.findSome? fun c => (c.badP cs).map fun l => (c.nm, l)
theorem bad_two {fs : List (Str × Str)} {p : Str × Str} (h : badL fs p = true) : p.2 = "out" ∨ p.2 = "in" := by
  unfold badL at h
  obtain ⟨q, _, hq⟩ := List.any_eq_true.mp h
  rw [Bool.and_eq_true] at hq
  have hb := hq.2
  unfold barB at hb
  rw [Bool.or_eq_true, Bool.and_eq_true, Bool.and_eq_true, beq_iff_eq, beq_iff_eq] at hb
  rcases hb with h | h
  · exact .inl h.1
  · exact .inr h.1
def Lp (K : PySem.W.Frag) (H : Hp) (v : V) (p : Str × Str) : Prop := ∃ a, v = .ref a ∧ SqT K H a [.str p.1, .str (barS p.2)]
theorem Lp.stay {K : PySem.W.Frag} {H H' : Hp} {v : V} {p : Str × Str} (s : Stay K H H') (h : Lp K H v p) : Lp K H' v p := by
  obtain ⟨a, e, q⟩ := h
  exact ⟨a, e, s.tup _ _ q⟩
/-- (letter, BARRED[variance]), these at the slots 3, 4 -/
def tLb (K : PySem.W.Frag) : TE := fun σ H Q => ∃ l v : Str, σ[3]? = some (some (.str l)) ∧ σ[4]? = some (some (.str v)) ∧ (v = "out" ∨ v = "in") ∧ ∀ t, H t = none → Q (.ref t) (upd H t (.tup [.str l, .str (barS v)]))
section
variable {P : Program} {w : World} {K : PySem.W.Frag} {mg : Str → Option Value} {base : Heap} {CT : Addr}
def spWrongX (K : PySem.W.Frag) : Sp := fun vs H Q _ => ∃ (ap pl : Addr) (ps fs : List (Str × Str)) (ws : List V), vs = [.ref ap, .ref pl] ∧ PsAt K H ap ps ∧ H pl = some (.lst ws) ∧ Paired (Pp K H) ws fs ∧ fs.length ≤ 1000 ∧ ps.length ≤ 100 ∧ (∀ p ∈ ps, p.2 ∈ varz) ∧ (∀ q ∈ fs, q.2 ∈ sgz) ∧
  ∀ H' l us, Same H H' → H' l = some (.lst us) → Paired (Lp K H') us (ps.filter (badL fs)) → Q (.ref l) H'
theorem ok_wrongX (G : Glo mg) (G3 : Glo3 K w mg) (hany : mg "any" = none) (CB : Cal P w K mg base 1 "is_barred" ["sign", "variance"] spBar) (D : DefAt K mg "wrong_letters" s_wrong_letters ["parameters", "places"]) : Cal P w K mg base 2 "wrong_letters" ["parameters", "places"] (spWrongX K) := by
  obtain ⟨ta, hta, ho, hi⟩ := G3.BA
  refine D.cal sc_wrong_letters (fun vs H Q E h => ?_) (fun f cdv A outer s H vs Q E hr h => ?_)
  · obtain ⟨v, p, _, _, _, rfl, _⟩ := h
    rfl
  obtain ⟨ap, pl, ps, fs, ws, rfl, ⟨xs, hq, hp⟩, hpl, hf, hn, hn2, h1, h2, q⟩ := h
  refine ⟨_, pss_cons (ps_set (i := 2) sc_wrong_letters.nd rfl (Or.inl rfl) (pe_lst pa_nil))
    (pss_cons (ps_for (passes_of rfl) rfl (pi_tup (pv 0)) (pg_tup (by rfl) (pgs_cons (pg_name (i := 3) sc_wrong_letters.nd rfl (Or.inr rfl)) (pgs_cons (pg_name (i := 4) sc_wrong_letters.nd rfl (Or.inr rfl)) pgs_nil)))
      (pss_one (ps_if (pt_val (pe_callB (cr_any rfl) (by rfl) hany (by decide +kernel) (pa_cons (pe_lc (own := [("found", 5), ("sign", 6)]) (g := gTup K 2 (gCons (gName 5) (gCons (gName 6) gNil))) (tt := tYes) (te := tBd) rfl sc_wrong_letters.nd (pi_list (pv 1)) (blkOk_by (N := nm_wrong_letters) (sc := defScope s_wrong_letters) (own := [("found", 5), ("sign", 6)]) (by decide +kernel))
        (fun _ _ _ _ _ => pg_tup (by rfl) (pgs_cons (pg_name (i := 5) sc_wrong_letters.nd rfl (Or.inl rfl)) (pgs_cons (pg_name (i := 6) sc_wrong_letters.nd rfl (Or.inl rfl)) pgs_nil))) (fun _ _ _ _ _ => pts_nil)
        (fun _ _ _ _ _ => peOf (pe_and (pe_cmpR op_eq (pv 5) (pv 3) (nomark _)) (pe_one (pc CB hr rfl (pa_cons (pv 6) (pa_cons (pv 4) pa_nil))))) (fun σ H Q z => ?_))) pa_nil)))
        (pss_one (ps_expr (pe_bm PySem.F.plainAttrs_list PySem.F.slot_list_append PySem.F.type_list_append mt_append (pv 2) (pa_cons (peOf (te := tLb K) (pe_tup (pa_cons (pv 3) (pa_cons (pe_ix ix_kdict (pe_glob (v := .ref ta) rfl hta rfl) (pv 4) (fun _ _ => rfl)) pa_nil))) (fun σ H Q z => ?_)) pa_nil)))) pss_nil)))
    (pss_one (ps_ret (pv 2)))), ?_⟩
  · obtain ⟨f, s, l, v, e5, e6, e3, e4, hs, hv, q⟩ := z
    refine ⟨_, e5, _, e3, rfl, _, rfl, ?_⟩
    by_cases e : f = l
    · rw [decide_eq_true e, Bool.true_and] at q
      exact iteE (decide_eq_true (by rw [e])) ⟨_, e6, _, e4, s, v, rfl, hs, hv, q⟩
    · rw [decide_eq_false e, Bool.false_and] at q
      exact iteN (decide_eq_false fun z => e (V.str.inj z)) q
  · obtain ⟨l, v, e3, e4, hv, q⟩ := z
    rcases hv with rfl | rfl
    · exact ⟨_, e3, _, e4, ta, "out", _, rfl, rfl, ho, by show 2 ≤ sizeLine; decide, fun t ht => q t ht⟩
    · exact ⟨_, e3, _, e4, ta, "in", _, rfl, rfl, hi, by show 2 ≤ sizeLine; decide, fun t ht => q t ht⟩
  refine ⟨Nat.zero_le _, fun wl hwl => ?_⟩
  have s1 := same_new hwl (.lst [])
  have hwf : ws.length = fs.length := Paired.length hf
  have hxl : xs.length = ps.length := Paired.length hp
  refine ⟨_, rfl, ap, rfl, ⟨xs, (stay_same s1).tup _ _ hq⟩, ?_⟩
  refine for_tup (K := K) (a := ap) (xs := xs) (fun j σ H' => ∃ y3 y4 y5 y6, σ = [some (.ref ap), some (.ref pl), some (.ref wl), y3, y4, y5, y6] ∧ Same H H' ∧ ∃ us, H' wl = some (.lst us) ∧ Paired (Lp K H') us ((ps.take j).filter (badL fs))) ⟨_, _, _, _, rfl, s1, [], upd_same, .nil⟩ (fun j σ H' _ ⟨_, _, _, _, _, sm, _⟩ => (stay_same sm).tup _ _ hq) (fun j x σ H' hxj ⟨y3, y4, y5, y6, eσ, sm, us, hw, hu⟩ => ?_) (fun σ H' ⟨_, _, _, _, eσ, sm, us, hw, hu⟩ => ?_)
  · subst eσ
    obtain ⟨p, hp1, ⟨a', rfl, hq'⟩⟩ := pairedAt hp hxj
    have hpm := List.mem_of_getElem? hp1
    refine ⟨a', _, rfl, (stay_same sm).tup _ _ hq', rfl, .str p.1, [.str p.2], rfl, .str p.2, [], rfl, rfl, ?_⟩
    have hpl' := sm _ _ hpl
    refine ⟨_, rfl, pl, rfl, ⟨ws, SqL.of hpl'⟩, fun B hB => ?_⟩
    refine lc_list (K := K) (a := pl) (xs := ws) (te := tBd) (fun i H2 => Same H' H2 ∧ H2 B = some (.lst (((fs.take i).map fun q => decide (q.1 = p.1) && barB q.2 p.2).map V.bl))) ⟨same_new hB _, upd_same⟩ (fun i H2 _ ⟨s2, _⟩ => SqL.of (s2 _ _ hpl')) (fun i y H2 hy ⟨s2, hB2⟩ => ?_) (fun H2 ⟨s2, hB2⟩ => ?_)
    · obtain ⟨g, hg1, ⟨b', rfl, hb'⟩⟩ := pairedAt hf hy
      have hgm := List.mem_of_getElem? hg1
      have hi : i < ws.length := (List.getElem?_eq_some_iff.mp hy).1
      refine ⟨b', _, rfl, (stay_same (sm.trans s2)).tup _ _ hb', rfl, .str g.1, [.str g.2], rfl, .str g.2, [], rfl, rfl, rfl, ?_⟩
      unfold tYes
      dsimp only
      rw [if_pos rfl]
      refine ⟨g.1, g.2, p.1, p.2, rfl, rfl, rfl, rfl, h2 g hgm, h1 p hpm, _, hB2, ?_, same_mut s2 hB, ?_⟩
      · rw [List.length_map, List.length_map, List.length_take]
        exact Nat.lt_of_le_of_lt (show _ ≤ 100000 by omega) (by decide)
      · rw [upd_same, take_one' hg1, List.map_append, List.map_append]
        rfl
    · rw [hwf, List.take_length] at hB2
      have ev : (fs.map fun q => decide (q.1 = p.1) && barB q.2 p.2).any id = badL fs p := by
        unfold badL
        rw [List.any_map]
        rfl
      have sm2 := sm.trans s2
      have hw2 := s2 _ _ hw
      have hu2 := Paired.mapP hu fun _ _ z => z.stay (stay_same (K := K) s2)
      have hul : us.length ≤ 100 := by
        have h3 := Paired.length hu
        have h4 := List.length_filter_le (badL fs) (ps.take j)
        rw [List.length_take] at h4
        omega
      refine ⟨B, fs.map fun q => decide (q.1 = p.1) && barB q.2 p.2, rfl, SqL.of hB2, _, rfl, ?_⟩
      rw [ev]
      cases hb : badL fs p with
      | false =>
        refine iteN rfl ⟨_, _, _, _, rfl, sm2, us, hw2, ?_⟩
        rw [take_one' hp1, List.filter_append, List.filter_cons, hb, if_neg Bool.false_ne_true, List.filter_nil, List.append_nil]
        exact hu2
      | true =>
        refine iteE rfl ⟨_, rfl, .inl ⟨rfl, _, SqL.of hw2⟩, p.1, p.2, rfl, rfl, bad_two hb, fun t ht => ?_⟩
        have st := same_new ht (.tup [V.str p.1, .str (barS p.2)])
        refine ⟨wl, us, .ref t, rfl, rfl, st _ _ hw2, Nat.lt_of_le_of_lt (show us.length ≤ 100000 by omega) (by decide), ?_⟩
        refine ⟨_, _, _, _, rfl, same_mut (sm2.trans st) hwl, us ++ [.ref t], upd_same, ?_⟩
        rw [take_one' hp1, List.filter_append, List.filter_cons, hb, if_pos rfl, List.filter_nil]
        have sl := stay_lst (K := K) (xs := us) (ys := us ++ [.ref t]) (st _ _ hw2)
        exact pairs_app (Paired.mapP hu2 fun _ _ z => (z.stay (stay_same st)).stay sl) (.cons ⟨t, rfl, sl.tup _ _ (.inl (.inl upd_same))⟩ .nil)
  · subst eσ
    rw [hxl, List.take_length] at hu
    exact ⟨_, rfl, q _ wl us sm hw hu⟩
end
end N

namespace N
open PySem PySem.Spec PyProof.Rows L2 StX
/-! ### check_parents, of any classes that fit -/
theorem take_all {α : Type} {p : α → Prop} {l : List α} {j : Nat} {x : α} (h : ∀ d ∈ l.take j, p d) (e : l[j]? = some x) (hx : p x) : ∀ d ∈ l.take (j + 1), p d := fun d hd => by
  rw [take_one' e] at hd
  rcases List.mem_append.mp hd with z | z
  · exact h d z
  · rw [List.mem_singleton.mp z]
    exact hx
theorem let_short {x : Str} (h : isLet x = true) : x.length ≤ 1000 := by
  unfold isLet at h
  simp only [Bool.and_eq_true, decide_eq_true_eq] at h
  omega
theorem some_at {cs0 : List Cls} : ∀ {cs : List Cls} {j : Nat} {c : Cls} {l : Str}, (∀ d ∈ cs.take j, d.badP cs0 = none) → cs[j]? = some c → c.badP cs0 = some l → (cs.findSome? fun c => (c.badP cs0).map fun l => (c.nm, l)) = some (c.nm, l)
  | [], j, c, l, _, h, _ => by simp at h
  | y :: cs, 0, c, l, _, h, hb => by
    simp only [List.getElem?_cons_zero, Option.some.injEq] at h
    subst h
    rw [List.findSome?_cons, hb]
    rfl
  | y :: cs, j + 1, c, l, ha, h, hb => by
    have hy := ha y (by simp)
    rw [List.findSome?_cons, hy]
    exact some_at (j := j) (fun d hd => ha d (by rw [List.take_succ_cons]; exact List.mem_cons_of_mem _ hd)) (by simpa using h) hb
section
variable {P : Program} {w : World} {K : PySem.W.Frag} {mg : Str → Option Value} {base : Heap} {CT : Addr}
def spParsX (K : PySem.W.Frag) (CT : Addr) : Sp := fun vs H Q E => ∃ (a : Addr) (cs : List Cls), vs = [.ref a] ∧ CsAt K H a cs ∧ FormsOk cs ∧ (∀ c ∈ cs, ∀ k ∈ c.ks, k.fits (arOf cs) (c.ps.map Prod.fst)) ∧ (turnOf cs = none → ∀ H', Same H H' → Q .non H') ∧
  (∀ n l, turnOf cs = some (n, l) → ∀ H' dd, Same H H' → H' dd = some (.xd [("letter", .str l), ("name", .str n)]) → E (.ref CT) (some dd) H')
theorem ok_parsX (G : Glo mg) (RT : Ra2 P w K mg base "Turned" CT) (hPL : ∃ t, mg "PLUS" = some (.str "+" t)) (CV : Cal P w K mg base 1 "variances_of" ["classes"] (spDct K FVr)) (CS : Cal P w K mg base 2 "signed_letters" ["kind", "sign", "variances"] (spSgl K)) (CW : Cal P w K mg base 2 "wrong_letters" ["parameters", "places"] (spWrongX K))
    (D : DefAt K mg "check_parents" s_check_parents ["classes"]) : Cal P w K mg base 4 "check_parents" ["classes"] (spParsX K CT) := by
  obtain ⟨tp, hpl⟩ := hPL
  refine D.cal sc_check_parents (fun vs H Q E h => ?_) (fun f cdv A outer s H vs Q E hr h => ?_)
  · obtain ⟨v, p, rfl, _⟩ := h
    rfl
  obtain ⟨a, cs, rfl, ⟨xs, hq, hp⟩, F, T, q1, q2⟩ := h
  have hr2 : RoomG 2 (A.deeper (envOfC "check_parents" (defScope s_check_parents) s.heap.objs.size f cdv)) := hr.mono (by decide)
  have n5 := F.n5
  refine ⟨_, pss_cons (ps_set (i := 1) sc_check_parents.nd rfl (by first | exact Or.inl rfl | exact Or.inr rfl) (pc CV (hr.mono (by decide)) rfl (pa_cons (pv 0) pa_nil)))
    (pss_one (ps_for (passes_of rfl) rfl (pi_tup (pv 0)) (pg_tup (by rfl) (pgs_cons (pg_name (i := 2) sc_check_parents.nd rfl (by first | exact Or.inl rfl | exact Or.inr rfl)) (pgs_cons (pg_name (i := 3) sc_check_parents.nd rfl (by first | exact Or.inl rfl | exact Or.inr rfl)) (pgs_cons (pg_name (i := 4) sc_check_parents.nd rfl (by first | exact Or.inl rfl | exact Or.inr rfl)) (pgs_cons (pg_name (i := 5) sc_check_parents.nd rfl (by first | exact Or.inl rfl | exact Or.inr rfl)) pgs_nil)))))
      (pss_cons (ps_setLc2 (i := 6) (own := [("parent", 7), ("place", 8)]) (vs1 := [8]) (g := gName 7) (tt := tYes) (g1 := gName 8) (tt1 := tYes) (te := tVar 8) (wi1 := iList K (fun σ H Q => tCons (tVar 7) (tCons (tC (.str "+")) (tCons (tVar 1) tNil)) σ H fun vs H1 => spSgl K vs H1 Q E0)) rfl sc_check_parents.nd rfl rfl (sw_true rfl rfl rfl (by decide +kernel)) (pi_tup (pv 4)) (blkOk_by (N := nm_check_parents) (sc := defScope s_check_parents) (own := [("parent", 7), ("place", 8)]) (by decide +kernel)) (by decide)
        (fun _ _ _ _ _ => pg_name (i := 7) sc_check_parents.nd rfl (Or.inl rfl)) (fun _ _ _ _ _ => pts_nil) (fun _ _ _ _ _ => pi_list (pc CS hr2 rfl (pa_cons (pv 7) (pa_cons (pe_glob (v := .str "+") rfl hpl ⟨_, rfl⟩) (pa_cons (pv 1) pa_nil)))))
        (fun _ _ _ _ _ => pg_name (i := 8) sc_check_parents.nd rfl (Or.inl rfl)) (fun _ _ _ _ _ => pts_nil) (fun _ _ _ _ _ => pv 8))
      (pss_cons (ps_set (i := 9) sc_check_parents.nd rfl (by first | exact Or.inl rfl | exact Or.inr rfl) (pc CW hr2 rfl (pa_cons (pv 3) (pa_cons (pv 6) pa_nil))))
      (pss_one (ps_if (pt_truth (pv 9) (by intro _; rfl)) (pss_one (ps_ra2 RT rfl (takes_of rfl rfl rfl rfl) hr (by rfl) (pv 2) (pe_ix ix_tup (pe_ix ix_list (pv 9) pe_int (fun _ _ => rfl)) pe_int (fun _ _ => rfl)))) pss_nil)))))), ?_⟩
  refine ⟨_, rfl, a, cs, rfl, ⟨xs, hq, hp⟩, by omega, F.nd, F.ok, fun H1 d kvs s1 hd hd0 e2 e3 => ?_⟩
  have dl : DctAt FVr H1 d cs := ⟨kvs, .inl hd, e2, e3⟩
  refine ⟨_, rfl, a, rfl, ⟨xs, (stay_same s1).tup _ _ hq⟩, ?_⟩
  refine for_tup (K := K) (a := a) (xs := xs) (fun j σ H' => ∃ y2 y3 y4 y5 y6 y7 y8 y9, σ = [some (.ref a), some (.ref d), y2, y3, y4, y5, y6, y7, y8, y9] ∧ Same H1 H' ∧ ∀ c ∈ cs.take j, c.badP cs = none) ⟨_, _, _, _, _, _, _, _, rfl, Same.refl _, fun c h => by simp at h⟩ (fun j σ H' _ ⟨_, _, _, _, _, _, _, _, _, sm, _⟩ => (stay_same (s1.trans sm)).tup _ _ hq) (fun j x σ H' hxj ⟨y2, y3, y4, y5, y6, y7, y8, y9, eσ, sm, hall⟩ => ?_) (fun σ H' ⟨_, _, _, _, _, _, _, _, _, sm, hall⟩ => ?_)
  case refine_2 =>
    refine q1 ?_ _ (s1.trans sm)
    rw [show xs.length = cs.length from Paired.length hp, List.take_length] at hall
    unfold turnOf
    rw [List.findSome?_eq_none_iff]
    intro c hc
    rw [hall c hc]
    rfl
  subst eσ
  obtain ⟨c, hc1, hc2⟩ := pairedAt hp hxj
  have hcm := List.mem_of_getElem? hc1
  have ok := F.ok c hcm
  obtain ⟨ac, ap, ak, am, rfl, qc, hap, hak, ham⟩ := hc2.stay (stay_same (s1.trans sm))
  obtain ⟨ks, hk, hkp⟩ := hak
  have hkl : ks.length = c.ks.length := Paired.length hkp
  have k2 := ok.k2
  refine ⟨ac, _, rfl, qc, rfl, _, _, rfl, _, _, rfl, _, _, rfl, _, _, rfl, rfl, ?_⟩
  refine ⟨_, rfl, ak, rfl, ⟨ks, hk⟩, fun B hB => ?_⟩
  have sB := same_new hB (.lst [])
  refine lc2_tup (K := K) (a := ak) (xs := ks) (fun i H2 => Same H' H2 ∧ ∃ acc, H2 B = some (.lst acc) ∧ Paired (Pp K H2) acc ((c.ks.take i).flatMap fun k => k.sgl (vrOf cs) "+") ∧ acc.length ≤ 13 * i) ⟨sB, [], upd_same, .nil, Nat.zero_le _⟩ (fun i H2 ⟨s2, _⟩ => (stay_same s2).tup _ _ hk) (fun i u H2 hu ⟨s2, acc, hacc, hpa, hal⟩ => ?_) (fun H2 ⟨s2, acc, hacc, hpa, hal⟩ => ?_)
  · obtain ⟨kd, hk1, hk2⟩ := pairedAt hkp hu
    have hkm := List.mem_of_getElem? hk1
    have hi : i < ks.length := (List.getElem?_eq_some_iff.mp hu).1
    obtain ⟨ok1, ok2, ok3, ok4⟩ := ok.kk kd hkm
    have fit := T c hcm kd hkm
    have hns := nds_size kd
    refine ⟨rfl, ?_⟩
    unfold tYes
    dsimp only
    rw [if_pos rfl]
    refine ⟨u, rfl, _, rfl, u, kd, "+", d, cs, c.ps.map Prod.fst, rfl, Th.stay (stay_same s2) hk2, by omega, by decide, DctAt.stay vr_stay (sm.trans s2) dl, F.nd, F.ok, fit, fun H3 l ws s3 hl hlf hws hwl => ?_⟩
    have h1 := Paired.length hws
    have h2 := sgl_len (vrOf cs) kd "+"
    have nlB : l ≠ B := fun e => by
      rw [e, hacc] at hlf
      cases hlf
    refine ⟨l, rfl, ⟨ws, SqL.of hl⟩, ?_⟩
    have hacc3 := s3 _ _ hacc
    have s23 := s2.trans s3
    show ∃ W1 : Nat → Nat → Hp → Prop, _
    refine lc2_in (K := K) (l := l) (ys := ws) (te := tVar 8) (D := B) (g1 := gName 8) (tt1 := tYes) (vs1 := [8]) (fun j H4 => Same H' H4 ∧ H4 l = some (.lst ws) ∧ Stay K H3 H4 ∧ H4 B = some (.lst (acc ++ ws.take j))) ⟨s23, hl, Stay.refl _, by rw [List.take_zero, List.append_nil]; exact hacc3⟩ (fun j H4 ⟨_, h, _⟩ => SqL.of h) (fun j y H4 hy ⟨s4, hl4, st4, hB4⟩ => ?_) (fun H4 ⟨s4, hl4, st4, hB4⟩ => ?_)
    · refine ⟨rfl, ?_⟩
      unfold tYes
      dsimp only
      rw [if_pos rfl]
      have hj : j < ws.length := (List.getElem?_eq_some_iff.mp hy).1
      refine ⟨y, rfl, _, hB4, Nat.lt_of_le_of_lt (show _ ≤ 100000 by rw [List.length_append, List.length_take]; omega) (by decide), same_mut s4 hB, by rw [upd_ne nlB]; exact hl4, st4.trans (stay_lst hB4), ?_⟩
      rw [upd_same, take_one' hy, List.append_assoc]
    · rw [List.take_length] at hB4
      refine ⟨s4, _, hB4, ?_, ?_⟩
      · rw [take_one' hk1, List.flatMap_append, List.flatMap_singleton]
        exact pairs_app (Paired.mapP hpa fun _ _ z => z.stay ((stay_same s3).trans st4)) (Paired.mapP hws fun _ _ z => z.stay st4)
      · rw [List.length_append]
        omega
  · rw [hkl, List.take_length] at hpa
    have hp2 : acc.length = (c.plz (vrOf cs)).length := Paired.length hpa
    rw [hkl] at hal
    have p2 := ok.p2
    refine ⟨_, rfl, _, rfl, ap, B, c.ps, c.plz (vrOf cs), acc, rfl, hap.stay (stay_same s2), hacc, hpa, by omega, by omega, fun p hp => (ok.pl p hp).2, fun p hp => ?_, fun H3 l us s3 hl hus => ?_⟩
    · obtain ⟨kd, hk1, hk2⟩ := List.mem_flatMap.mp hp
      exact sgl_sgz _ kd _ (by decide) p hk2
    · have s13 := sm.trans (s2.trans s3)
      refine ⟨_, rfl, _, .inl ⟨us, SqL.of hl, rfl⟩, ?_⟩
      cases hf : c.ps.filter (badL (c.plz (vrOf cs))) with
      | nil =>
        rw [hf] at hus
        have e0 : us = [] := List.length_eq_zero_iff.mp (Paired.length hus)
        subst e0
        refine iteF ⟨_, _, _, _, _, _, _, _, rfl, s13, take_all hall hc1 ?_⟩
        unfold Cls.badP
        rw [← List.head?_filter, hf]
        rfl
      | cons p rest =>
        rw [hf] at hus
        obtain ⟨u0, us', e0, ⟨b, e1, hb⟩⟩ : ∃ u0 us', us = u0 :: us' ∧ Lp K H3 u0 p := by
          cases hus with
          | cons h t => exact ⟨_, _, rfl, h⟩
        subst e0 e1
        have hbad : c.badP cs = some p.1 := by
          unfold Cls.badP
          rw [← List.head?_filter, hf]
          rfl
        have hpm : p ∈ c.ps := (List.mem_filter.mp (by rw [hf]; exact List.mem_cons_self)).1
        refine iteE rfl ?_
        refine ⟨_, rfl, _, rfl, l, _, 0, _, rfl, rfl, SqL.of hl, atI_nat (j := 0) rfl, b, _, 0, _, rfl, rfl, hb, atI_nat (j := 0) rfl, ?_⟩
        have hn := (isNam_iff.mp ok.n).2.1
        have hln := let_len ((ok.pl p hpm).1)
        have hl1 := let_short ((ok.pl p hpm).1)
        refine ra2_q (C := CT) (n := c.nm) (l := p.1) (by omega) hl1 fun H5 dd s5 hdd => ?_
        refine q2 c.nm p.1 ?_ H5 dd (s1.trans (s13.trans s5)) hdd
        unfold turnOf
        exact some_at hall hc1 hbad
end
end N

namespace N
open PySem PySem.Spec PyProof.Rows L2 StX
/-! ### Table(..), of classes that are right but for their parents' signs -/
structure PreOk (cs : List Cls) : Prop where
  f : FormsOk cs
  t : FitOk cs
  e : ∃ rank, ElOk cs rank
/-- what is raised -/
def TurnX (CT : Addr) (E : XK) (H : Hp) (cs : List Cls) : Prop := ∀ n l, turnOf cs = some (n, l) → ∀ H' dd, Same H H' → H' dd = some (.xd [("letter", .str l), ("name", .str n)]) → E (.ref CT) (some dd) H'
section
variable {P : Program} {w : World} {K : PySem.W.Frag} {mg : Str → Option Value} {base : Heap} {CT C f : Addr} {fd : FuncData}
def spChkZ (K : PySem.W.Frag) (CT : Addr) : Sp := fun vs H Q E => ∃ (a : Addr) (cs : List Cls), vs = [.ref a] ∧ CsAt K H a cs ∧ PreOk cs ∧ (turnOf cs = none → ∀ H', Same H H' → Q .non H') ∧ TurnX CT E H cs
theorem ok_checkZ (C1 : Cal P w K mg base 8 "check_forms" ["classes"] (spForms K)) (C2 : Cal P w K mg base 2 "check_fit" ["classes"] (spFit K)) (C3 : Cal P w K mg base 2 "check_elders" ["classes"] (spElds K)) (C4 : Cal P w K mg base 4 "check_parents" ["classes"] (spParsX K CT))
    (D : DefAt K mg "check_classes" s_check_classes ["classes"]) : Cal P w K mg base 9 "check_classes" ["classes"] (spChkZ K CT) := by
  refine D.cal sc_check_classes (fun vs H Q E h => ?_) (fun f cdv A outer s H vs Q E hr h => ?_)
  · obtain ⟨v, p, rfl, _⟩ := h
    rfl
  obtain ⟨a, cs, rfl, hcs, T, q1, q2⟩ := h
  obtain ⟨rank, el⟩ := T.e
  refine ⟨_, pss_cons (ps_expr (pc C1 hr rfl (pa_cons (pv 0) pa_nil))) (pss_cons (ps_expr (pc C2 (hr.mono (by decide)) rfl (pa_cons (pv 0) pa_nil))) (pss_cons (ps_expr (pc C3 (hr.mono (by decide)) rfl (pa_cons (pv 0) pa_nil))) (pss_one (ps_expr (pcE (takes_of rfl rfl rfl rfl) C4 (hr.mono (by decide)) rfl (pa_cons (pv 0) pa_nil)))))), ?_⟩
  refine ⟨_, rfl, a, cs, rfl, hcs, T.f, fun H1 s1 => ?_⟩
  refine ⟨_, rfl, a, cs, rfl, hcs.stay (stay_same s1), T.f, T.t, fun H2 s2 => ?_⟩
  refine ⟨_, rfl, a, cs, rank, rfl, hcs.stay (stay_same (s1.trans s2)), T.f, el, fun H3 s3 => ?_⟩
  have s13 := s1.trans (s2.trans s3)
  exact ⟨_, rfl, a, cs, rfl, hcs.stay (stay_same s13), T.f, fun c hc k hk => (T.t.f c hc k (by unfold Cls.decl; exact List.mem_append_left _ hk)).1, fun ht H4 s4 => q1 ht _ (s13.trans s4), fun n l ht H4 dd s4 hd => q2 n l ht _ dd (s13.trans s4) hd⟩
def spTiniZ (K : PySem.W.Frag) (C CT : Addr) : Sp := fun vs H Q E => ∃ (a d p : Addr) (cs : List Cls), vs = [.ref a, .ref p] ∧ H a = some (.ins C d []) ∧ CsAt K H p cs ∧ PreOk cs ∧ (turnOf cs = none → ∀ H', Same H H' → Q .non (upd H' a (.ins C d [("_classes", .ref p)]))) ∧ TurnX CT E H cs
theorem ok_TinitZ (T : TabC K mg C) (CC : Cal P w K mg base 9 "check_classes" ["classes"] (spChkZ K CT)) (F : Fun K "__init__" "Table.__init__" (tabM 0) f fd)
    (hb : ∀ us rest : List Value, us.length = [("self" : Str)].length → bindArgs fd ⟨us ++ rest, []⟩ = (newTuple rest >>= fun t => pure ([("self" : Str)].zip us ++ [(("classes" : Str), t)]))) :
    FnS P w K mg base 10 f (fun vs H Q E => ∃ v rest, vs = v :: rest ∧ rest.length ≤ 1000 ∧ ∀ p, H p = none → spTiniZ K C CT [v, .ref p] (upd H p (.tup rest)) Q E) := by
  refine fnS_star (N := nm_Tinit) F sc_Tinit hb fun cdv A outer s H vs Q E hr h => ?_
  obtain ⟨a, d, p, cs, rfl, ha, hcs, ok, q1, q2⟩ := h
  refine ⟨_, pss_cons (ps_expr (pcE (takes_of rfl rfl rfl rfl) CC hr rfl (pa_cons (pv 1) pa_nil))) (pss_one (ps_fld (pv 0) (pv 1) rfl)), ?_⟩
  refine ⟨_, rfl, p, cs, rfl, hcs, ok, fun hn H1 s1 => ?_, q2⟩
  exact ⟨_, rfl, _, rfl, a, C, d, [], rfl, s1 _ _ ha, T.c, T.na, by decide, q1 hn H1 s1⟩
def spTini1Z (K : PySem.W.Frag) (C CT : Addr) : Sp := fun vs H Q E => ∃ v rest, vs = v :: rest ∧ rest.length ≤ 1000 ∧ ∀ p, H p = none → spTiniZ K C CT [v, .ref p] (upd H p (.tup rest)) Q E
end
section
variable {X : Cx} {k : Nat} {f C CT : Addr} {e : Expr} {es : List Expr} {t : TA} {p pos : Pos} {sp : Sp} {W : WX}
/-- a new instance of C, or what is raised -/
theorem run_mkE {pins : List (Addr × Obj)} {σ : L2.St} {H : Hp} {s : Shared} {Q : VK} {us : List Value} {vs : List V} (tk : Takes X W) (M : Mk X.K C f) (F : FnS X.prog X.w X.K X.mg X.base k f sp) (hr : RoomG (k + 1) X.A) (I : Inv X pins σ H s) (r : Vals vs us)
    (h : ∀ a d, H a = none → H d = none → d ≠ a → sp (.ref a :: vs) (upd (upd H d (.own a)) a (.ins C d [])) (fun v H2 => v = .non ∧ Q (.ref a) H2) (WE W σ)) : wpAny (model X.prog X.w) X.A (call (.ref C) us) (EP X pins σ Q) X.xe s := by
  have lt := Nat.lt_succ_self s.heap.objs.size
  have I2 := Inv.made (C := C) I
  have hq := h (s.heap.objs.size + 1) s.heap.objs.size (I.hok.fresh (Nat.le_of_lt lt)) (I.hok.fresh (Nat.le_refl _)) (Nat.ne_of_lt lt)
  refine wpAny_call (make_map (f := f) I.kIn M.makes M.init (beq_iff_eq.mp M.fn) (codeAny_mono (F _ X.stack _ _ (.ref (s.heap.objs.size + 1) :: us) _ _ (WE W σ) (hr.made2 C us []) (I2.env0.make C us []) (.cons (show L2.RelV (.ref (s.heap.objs.size + 1)) (.ref (s.heap.objs.size + 1)) from rfl) r) hq) fun res s' hq' => ?_))
  match res, hq' with
  | .error e, hq' => exact passAt tk σ pins _ _ e s' I2 hq'
  | .ok (.ret u), hq' =>
    obtain ⟨v, H', I3, rv, ev, q3⟩ := I2.after hq'
    subst ev
    exact ⟨rv, ⟨.ref (s.heap.objs.size + 1), H', I3, rfl, q3⟩⟩
/-- Table(e, ..) -/
def tTabZ (K : PySem.W.Frag) (C CT : Addr) (W : WX) (t : TA) : TE := fun σ H Q => t σ H fun vs H1 => ∃ cs, Paired (Cp K H1) vs cs ∧ PreOk cs ∧ (turnOf cs = none → ∀ H2 a, Same H1 H2 → H1 a = none → TabAt K C H2 (.ref a) cs → Q (.ref a) H2) ∧ TurnX CT (WE W σ) H1 cs
theorem pe_tabZ (tk : Takes X W) (T : TabC X.K X.mg C) (M : Mk X.K C f) (F : FnS X.prog X.w X.K X.mg X.base 10 f (spTini1Z X.K C CT)) (hr : RoomG 11 X.A) (hg : Gl X "Table") (ha : PA X (e :: es) t)
    (he : starEach (e :: es) X.env = (false, eval e X.env) :: starEach es X.env := by rfl) (hpl : (backTo pos (starEach es X.env)).any (·.1) = false := by rfl) : PE X (.Call (.Name "Table" p) (e :: es) [] pos) (tTabZ X.K C CT W t) := by
  refine ⟨fun pins s σ H Q I h => wpAny_Call_Name_kw (ld_glob I hg T.gl ?_ (by decide))⟩
  refine PySem.W.callWith_K (h₀ := X.base) I.ok.mod.kin M.kp (thn (ha.run pos pins s σ H _ I h) fun us s1 ⟨vs, H1, J, r, cs, hp, ok, q1, q2⟩ => ⟨J.kIn, ?_⟩) he hpl
  refine run_mkE tk M F hr J r fun a d h1 h2 h3 => ?_
  have hl : vs.length = cs.length := Paired.length hp
  have n5 := ok.f.n5
  refine ⟨.ref a, vs, rfl, by omega, fun p hp0 => ?_⟩
  have s1 := same_new h2 (.own a)
  have ha1 : (upd H1 d (.own a)) a = none := by rw [upd_ne (Ne.symm h3)]; exact h1
  have s2 := s1.trans (same_new ha1 (.ins C d []))
  have s3 := same_new hp0 (.tup vs)
  have s23 := s2.trans s3
  have hap := s3 _ _ (upd_same (H := upd H1 d (.own a)) (a := a) (o := .ins C d []))
  refine ⟨a, d, p, cs, rfl, hap, ⟨vs, .inl (.inl upd_same), Paired.mapP hp fun _ _ z => z.stay (stay_same s23)⟩, ok, fun hn H' s' => ⟨rfl, q1 hn _ a (same_mut (s23.trans s') h1) h1 ⟨a, d, p, rfl, upd_same, ?_⟩⟩, fun n l ht H' dd s' hs => q2 n l ht H' dd (s23.trans s') hs⟩
  exact CsAt.stay ((stay_same s').trans (stay_ins (s' _ _ hap))) ⟨vs, .inl (.inl upd_same), Paired.mapP hp fun _ _ z => z.stay (stay_same s23)⟩
end
end N

namespace N
open PySem PySem.Spec PyProof.Rows L2
/-! ### what is drawn makes a table, but for the signs -/
theorem fits_mono {ls : List Str} {ss ar : List (Str × Nat)} (h : ∀ s ∈ ss, s ∈ ar) : ∀ {k : Kd}, k.fits ss ls → k.fits ar ls
  | .L c, z => z
  | .C0 n, z => h _ z
  | .C1 n a, z => ⟨h _ z.1, fits_mono h z.2⟩
  | .C2 n a b, z => ⟨h _ z.1, fits_mono h z.2.1, fits_mono h z.2.2⟩
/-- a drawn class, by the names and counts that there are and a rank of them -/
structure DC (ar : List (Str × Nat)) (rank : Str → Nat) (c : Cls) : Prop where
  n : isNam c.nm = true
  p : ∃ n ≤ 2, c.ps.map Prod.fst = XY.take n
  v : ∀ q ∈ c.ps, q.2 ∈ varz
  k2 : c.ks.length ≤ 2
  k : ∀ k ∈ c.ks, k.fits ar (c.ps.map Prod.fst) ∧ k.isC = true ∧ rank k.nm < rank c.nm ∧ k.size ≤ 6 ∧ k.nds ≤ 7
  w : ∃ n, c.ms.map Prod.fst = wordz.take n
  m : ∀ m ∈ c.ms, m.2.1 ∈ wayz ∧ m.2.2.fits ar (c.ps.map Prod.fst) ∧ m.2.2.nds ≤ 3
structure DT (cs : List Cls) : Prop where
  n1 : 1 ≤ cs.length
  n5 : cs.length ≤ 5
  nd : (cs.map Cls.nm).Nodup
  pl : ∃ c ∈ cs, c.ps = []
  r : ∃ rank, ∀ c ∈ cs, DC (arOf cs) rank c
theorem DC.mono {ar ar' : List (Str × Nat)} {rank : Str → Nat} {c : Cls} (h : DC ar rank c) (m : ∀ s ∈ ar, s ∈ ar') : DC ar' rank c :=
  ⟨h.n, h.p, h.v, h.k2, fun k hk => ⟨fits_mono m (h.k k hk).1, (h.k k hk).2⟩, h.w, fun x hx => ⟨(h.m x hx).1, fits_mono m (h.m x hx).2.1, (h.m x hx).2.2⟩⟩
theorem DC.p2 {ar : List (Str × Nat)} {rank : Str → Nat} {c : Cls} (h : DC ar rank c) : c.ps.length ≤ 2 := by
  obtain ⟨n, hn, e⟩ := h.p
  rw [← List.length_map (f := Prod.fst), e, List.length_take]
  exact Nat.le_trans (Nat.min_le_left _ _) hn
theorem XY_let : ∀ x ∈ XY, isLet x = true := by decide +kernel
theorem DC.lt {ar : List (Str × Nat)} {rank : Str → Nat} {c : Cls} (h : DC ar rank c) : ∀ q ∈ c.ps, isLet q.1 = true := fun q hq => by
  obtain ⟨n, hn, e⟩ := h.p
  have h1 : q.1 ∈ XY.take n := by rw [← e]; exact List.mem_map_of_mem hq
  exact XY_let _ (List.mem_of_mem_take h1)
theorem fits_okN {ar : List (Str × Nat)} {ls : List Str} (hl : ∀ c ∈ ls, isLet c = true) (hs : ∀ s ∈ ar, isNam s.1 = true) : ∀ {k : Kd}, k.fits ar ls → k.ok
  | .L c, h => hl c h
  | .C0 n, h => hs _ h
  | .C1 n a, h => ⟨hs _ h.1, fits_okN hl hs h.2⟩
  | .C2 n a b, h => ⟨hs _ h.1, fits_okN hl hs h.2.1, fits_okN hl hs h.2.2⟩
theorem size_nds : ∀ k : Kd, k.size ≤ k.nds
  | .L c => by simp [Kd.size, Kd.nds]
  | .C0 n => by simp [Kd.size, Kd.nds]
  | .C1 n a => by have := size_nds a; simp only [Kd.size, Kd.nds]; omega
  | .C2 n a b => by have := size_nds a; have := size_nds b; simp only [Kd.size, Kd.nds]; omega
theorem word_nd (n : Nat) : (wordz.take n).Nodup := (show wordz.Nodup by decide +kernel).sublist (List.take_sublist _ _)
theorem word_nam : ∀ x ∈ wordz, isNam x = true := by decide +kernel
theorem DC.ok {ar : List (Str × Nat)} {rank : Str → Nat} {c : Cls} (h : DC ar rank c) (hs : ∀ s ∈ ar, isNam s.1 = true) : c.ok := by
  obtain ⟨n, hn, e⟩ := h.p
  obtain ⟨j, ej⟩ := h.w
  have hl : ∀ x ∈ c.ps.map Prod.fst, isLet x = true := fun x hx => by
    rw [e] at hx
    exact XY_let _ (List.mem_of_mem_take hx)
  refine ⟨h.n, h.p2, fun p hp => ⟨h.lt p hp, h.v p hp⟩, by rw [e]; exact (show XY.Nodup by decide +kernel).sublist (List.take_sublist _ _), h.k2, fun k hk => ?_, ?_, fun m hm => ?_, by rw [ej]; exact word_nd j⟩
  · obtain ⟨h1, h2, _, h3, h4⟩ := h.k k hk
    exact ⟨fits_okN hl hs h1, h2, h3, by omega⟩
  · rw [← List.length_map (f := Prod.fst), ej, List.length_take]
    exact Nat.min_le_right _ _
  · obtain ⟨h1, h2, h3⟩ := h.m m hm
    have := size_nds m.2.2
    refine ⟨word_nam _ (List.mem_of_mem_take (i := j) ?_), h1, fits_okN hl hs h2, by omega, by omega⟩
    rw [← ej]
    exact List.mem_map_of_mem hm
theorem DT.nam {cs : List Cls} (h : DT cs) : ∀ s ∈ arOf cs, isNam s.1 = true := fun s hs => by
  obtain ⟨rank, hr⟩ := h.r
  obtain ⟨c, hc, e1, _⟩ := mem_arOf (n := s.1) (m := s.2) hs
  rw [← e1]
  exact (hr c hc).n
theorem DT.pre {cs : List Cls} (h : DT cs) : PreOk cs := by
  obtain ⟨rank, hr⟩ := h.r
  refine ⟨⟨h.n1, h.n5, fun c hc => (hr c hc).ok h.nam, h.nd, h.pl⟩, ⟨fun c hc k hk => ?_⟩, ⟨rank, fun c hc k hk => ?_, fun c hc => (hr c hc).k2⟩⟩
  · unfold Cls.decl at hk
    rcases List.mem_append.mp hk with hk | hk
    · obtain ⟨h1, _, _, _, h4⟩ := (hr c hc).k k hk
      exact ⟨h1, by omega⟩
    · obtain ⟨m, hm, rfl⟩ := List.mem_map.mp hk
      obtain ⟨_, h2, h3⟩ := (hr c hc).m m hm
      exact ⟨h2, by omega⟩
  · obtain ⟨h1, h2, h3, _⟩ := (hr c hc).k k hk
    refine ⟨?_, h3⟩
    have h4 := (fits_C h2 h1).1
    obtain ⟨d, hd, e, _⟩ := mem_arOf h4
    rw [← e]
    exact List.mem_map_of_mem hd
theorem DT.perm {cs cs' : List Cls} (h : DT cs) (p : cs'.Perm cs) : DT cs' := by
  obtain ⟨rank, hr⟩ := h.r
  refine ⟨by rw [p.length_eq]; exact h.n1, by rw [p.length_eq]; exact h.n5, (p.map Cls.nm).nodup_iff.mpr h.nd, ?_, rank, fun c hc => (hr c (p.subset hc)).mono fun s hs => ?_⟩
  · obtain ⟨c, hc, e⟩ := h.pl
    exact ⟨c, p.symm.subset hc, e⟩
  · exact (p.symm.map _).subset hs
theorem DT.rev {cs : List Cls} (h : DT cs) : DT cs.reverse := h.perm (List.reverse_perm cs)
theorem ar_same {F : Cls → Cls → Prop} (hF : ∀ c' c, F c' c → c'.nm = c.nm ∧ c'.ps.length = c.ps.length) : ∀ {cs' cs : List Cls}, Paired F cs' cs → arOf cs' = arOf cs ∧ cs'.map Cls.nm = cs.map Cls.nm
  | _, _, .nil => ⟨rfl, rfl⟩
  | _, _, .cons (a := c') (b := c) a t => by
    obtain ⟨h1, h2⟩ := ar_same hF t
    obtain ⟨h3, h4⟩ := hF _ _ a
    refine ⟨?_, ?_⟩
    · show (c'.nm, c'.ps.length) :: arOf _ = (c.nm, c.ps.length) :: arOf _
      rw [h1, h3, h4]
    · rw [List.map_cons, List.map_cons, h2, h3]
theorem paired_mem {α β : Type} {F : α → β → Prop} : ∀ {l : List α} {r : List β}, Paired F l r → ∀ x ∈ l, ∃ y ∈ r, F x y
  | _, _, .nil, x, h => by cases h
  | _, _, .cons a t, x, h => by
    rcases List.mem_cons.mp h with rfl | h
    · exact ⟨_, List.mem_cons_self, a⟩
    · obtain ⟨y, hy, z⟩ := paired_mem t x h
      exact ⟨y, List.mem_cons_of_mem _ hy, z⟩
theorem paired_memR {α β : Type} {F : α → β → Prop} : ∀ {l : List α} {r : List β}, Paired F l r → ∀ y ∈ r, ∃ x ∈ l, F x y
  | _, _, .nil, x, h => by cases h
  | _, _, .cons a t, x, h => by
    rcases List.mem_cons.mp h with rfl | h
    · exact ⟨_, List.mem_cons_self, a⟩
    · obtain ⟨y, hy, z⟩ := paired_memR t x h
      exact ⟨y, List.mem_cons_of_mem _ hy, z⟩
theorem DT.of {F : Cls → Cls → Prop} {cs' cs : List Cls} (h : DT cs) (p : Paired F cs' cs) (hF : ∀ c' c, F c' c → c'.nm = c.nm ∧ c'.ps.length = c.ps.length) (hD : ∀ c' c rank, F c' c → DC (arOf cs) rank c → DC (arOf cs) rank c') : DT cs' := by
  obtain ⟨e1, e2⟩ := ar_same hF p
  have hl : cs'.length = cs.length := Paired.length p
  obtain ⟨rank, hr⟩ := h.r
  refine ⟨by rw [hl]; exact h.n1, by rw [hl]; exact h.n5, by rw [e2]; exact h.nd, ?_, rank, fun c' hc' => ?_⟩
  · obtain ⟨c, hc, e⟩ := h.pl
    obtain ⟨c', hc', hf⟩ := paired_memR p c hc
    refine ⟨c', hc', List.length_eq_zero_iff.mp ?_⟩
    rw [(hF _ _ hf).2, e]
    rfl
  · obtain ⟨c, hc, hf⟩ := paired_mem p c' hc'
    rw [e1]
    exact hD c' c rank hf (hr c hc)
theorem fst_len {c' c : Cls} (e : c'.ps.map Prod.fst = c.ps.map Prod.fst) : c'.ps.length = c.ps.length := by
  have := congrArg List.length e
  rwa [List.length_map, List.length_map] at this
theorem DC.vry {ar : List (Str × Nat)} {rank : Str → Nat} {c' c : Cls} (h : DC ar rank c) (v : Vry c' c) : DC ar rank c' := by
  obtain ⟨n, p, hv, k2, k, w, m⟩ := h
  rw [← v.n] at n
  rw [← v.p] at p
  rw [← v.k] at k2
  refine ⟨n, p, v.v, k2, fun x hx => ?_, by rw [v.m]; exact w, fun x hx => ?_⟩
  · rw [v.p, v.n]
    exact k x (by rw [← v.k]; exact hx)
  · rw [v.p]
    exact m x (by rw [← v.m]; exact hx)
theorem DT.vry {cs' cs : List Cls} (h : DT cs) (p : Paired Vry cs' cs) : DT cs' := h.of p (fun _ _ z => ⟨z.n, fst_len z.p⟩) fun c' c rank z hd => hd.vry z
theorem of_fitsE {ls : List Str} {ss : List (Str × Nat)} : ∀ {k : Kd}, k.of ls ss → k.fits ss ls
  | .L c, z => z
  | .C0 n, z => z
  | .C1 n a, z => ⟨z.1, of_fitsE z.2⟩
  | .C2 n a b, z => ⟨z.1, of_fitsE z.2.1, of_fitsE z.2.2⟩
theorem DT.mmb {cs' cs : List Cls} (h : DT cs) (p : Paired (Mmb (arOf cs)) cs' cs) : DT cs' := h.of p (fun _ _ z => ⟨z.n, by rw [z.p]⟩) fun c' c rank z hd => by
  refine ⟨by rw [z.n]; exact hd.n, by rw [z.p]; exact hd.p, by rw [z.p]; exact hd.v, by rw [z.k]; exact hd.k2, fun x hx => ?_, z.w, fun x hx => ?_⟩
  · rw [z.p, z.n]
    exact hd.k x (by rw [← z.k]; exact hx)
  · rw [z.p]
    exact ⟨(z.m x hx).1, of_fitsE (z.m x hx).2.1, (z.m x hx).2.2⟩
/-- the place of a head -/
def rkS (ss : List (Str × Nat)) (n : Str) : Nat := ss.findIdx fun s => s.1 == n
theorem rk_at {ss : List (Str × Nat)} (nd : (ss.map Prod.fst).Nodup) {i : Nat} {s : Str × Nat} (h : ss[i]? = some s) : rkS ss s.1 = i := by
  unfold rkS
  obtain ⟨hi, e⟩ := List.getElem?_eq_some_iff.mp h
  rw [List.findIdx_eq hi]
  refine ⟨by rw [e]; exact beq_self_eq_true _, fun j hj => ?_⟩
  rw [beq_eq_false_iff_ne]
  intro z
  have hj2 : j < ss.length := by omega
  have h3 : (ss.map Prod.fst)[j]'(by rw [List.length_map]; exact hj2) = (ss.map Prod.fst)[i]'(by rw [List.length_map]; exact hi) := by
    rw [List.getElem_map, List.getElem_map, z, e]
  exact List.pairwise_iff_getElem.mp nd j i _ _ hj h3
theorem Drn.dt {ss : List (Str × Nat)} {cs : List Cls} (h : Drn ss cs) (hl : cs.length = ss.length) (hO : HdOk ss) : DT cs := by
  have ea := h.ar hl hO
  have en := h.names
  rw [hl, List.take_length] at en
  obtain ⟨n0, r0, e0⟩ := hO.z
  have h5 := hO.l
  have hn1 : 1 ≤ cs.length := by rw [hl, e0, List.length_cons]; omega
  refine ⟨hn1, by omega, by rw [en]; exact hO.nd, ?_, rkS ss, fun c hc => ?_⟩
  · obtain ⟨s, h1, h2⟩ := h 0 cs[0] (List.getElem?_eq_getElem (by omega))
    rw [e0] at h1
    cases h1
    refine ⟨cs[0], List.getElem_mem _, ?_⟩
    have := h2.p
    exact List.map_eq_nil_iff.mp this
  · obtain ⟨i, hi⟩ := List.mem_iff_getElem?.mp hc
    obtain ⟨s, h1, h2⟩ := h i c hi
    obtain ⟨o1, o2⟩ := hO.s s (List.mem_of_getElem? h1)
    rw [ea]
    refine ⟨by rw [h2.n]; exact o1, ⟨s.2, o2, h2.p⟩, h2.v, h2.k2, fun k hk => ?_, ⟨0, by rw [h2.m]; rfl⟩, fun m hm => by rw [h2.m] at hm; cases hm⟩
    obtain ⟨k1, k2, ⟨s', k3, k4⟩, k5, k6⟩ := h2.k k hk
    refine ⟨by rw [h2.p]; exact of_fitsE k1, k2, ?_, k5, k6⟩
    rw [← k4, h2.n, rk_at hO.nd h1]
    obtain ⟨j, hj⟩ := List.mem_iff_getElem?.mp k3
    have hji : j < i := by
      have := (List.getElem?_eq_some_iff.mp hj).1
      rw [List.length_take] at this
      omega
    rw [List.getElem?_take_of_lt hji] at hj
    rw [rk_at hO.nd hj]
    exact hji
end N

namespace N
open PySem PySem.Spec PyProof.Rows L2 L2H LamX NdefX
/-! ### a lambda without parameters that is called, and may raise -/
/-- at f stands a lambda that does spL, its cells being as they are in the heap h -/
def ActR (P : Program) (w : World) (K : PySem.W.Frag) (mg : Str → Option Value) (base : Heap) (k : Nat) (f : Addr) (h : Heap) (H : Hp) (spL : Hp → VK → XK → Prop) : Prop :=
  ∃ (F : NF) (body : Expr) (Nm fr : List Str) (ws : List (Option V)) (tb : XK → TE), NScope Nm [] fr F.scope ∧
    (∀ (pm ctv : Value), bindArgs (PySem.W.kla_fn F.name F.qual F.params body F.scope F.cl pm (.ref F.c) ctv) ⟨[], []⟩ = pure []) ∧
    (∀ (A : Around) (outer : List Env) (s : Shared) (H : Hp) (E : XK), RoomG k (A.deeper (envF F f s.heap.objs.size)) → PE (ncx (L2.CX P w) P w K mg base Nm F f A outer s H E) body (tb E)) ∧ CellsAt F.cl fr ws h H ∧
    H f = some (LamO f F body) ∧ H F.c = some (CodeO F.c F.qual) ∧ ∀ H' Q E, spL H' Q E → tb E (startF Nm [] ws) H' Q
section
variable {P : Program} {w : World} {K : PySem.W.Frag} {mg : Str → Option Value} {base : Heap} {Nm fr : List Str} {F : NF} {f : Addr} {k : Nat} {body : Expr} {tb : TE}
theorem run_lamE (S : NScope Nm [] fr F.scope) (hb : ∀ (pm ctv : Value), bindArgs (PySem.W.kla_fn F.name F.qual F.params body F.scope F.cl pm (.ref F.c) ctv) ⟨[], []⟩ = pure [])
    {A : Around} {outer : List Env} {s : Shared} {H : Hp} {ws : List (Option V)} {Q : VK} {E : XK}
    (hbody : PE (ncx (L2.CX P w) P w K mg base Nm F f A outer s H E) body tb)
    (hr : RoomG (k + 1) A) (e0 : Env0 P w K mg base A outer s H) (hf : H f = some (LamO f F body)) (hc : H F.c = some (CodeO F.c F.qual)) (C : CellsAt F.cl fr ws s.heap H) (q : tb (startF Nm [] ws) H Q) :
    codeAny (model P w) A (.call (.ref f) ⟨[], []⟩) (CR (L2.CX P w) outer P w H s Q E) s := by
  have lim : s.heap.NoLimit := e0.mod.nolimit.keeps fun b o e => (e0.bs b o e).1
  obtain ⟨pm, ctv, ho⟩ := lamO_at e0.hok hf
  refine PySem.W.kla_callFunE hr.toRoom.depth ho rfl S.co S.gen rfl (codeO_at e0.hok hc) ?_
  rw [hb pm ctv]
  refine wpAny_pure (wpAny_newFunctionEnv S.nocell (fun y hy => by cases hy) (fun h1 hns hsb => ⟨lim.fresh _ hsb, ?_⟩) S.kind)
  show codeAny _ _ (.expr body (envF F f s.heap.objs.size)) _ _
  have kp : ∀ b o, s.heap.get? b = some o → h1.get? b = some o := fun b o e => hsb.extBut b o (Nat.ne_of_lt (Heap.lt_size e)) (Heap.get?_push_of_some _ e)
  have J : Inv (ncx (L2.CX P w) P w K mg base Nm F f A outer s H E) [] (startF Nm [] ws) H { s with heap := h1, toks := s.toks } := inv_startN (us := []) S hr.toRoom.hd e0 rfl .nil C hns kp
  refine PySem.W.kla_codeExpr (wpAny_mono (hbody.run [] _ _ H Q J q) (fun v s' z => ?_) fun e s' z => z)
  obtain ⟨v', H', J', rv, z2⟩ := z
  exact ⟨v', H', J'.os, J'.bare, J'.base, J'.hok, rv, z2⟩
end
section
variable {Z : Cx} {f : Addr} {i k : Nat} {a : Str} {p1 p2 : Pos} {spL : Hp → VK → XK → Prop} {W : WX}
/-- a(), a the name of such a lambda -/
theorem pe_actR (L : ActR Z.prog Z.w Z.K Z.mg Z.base k f Z.s_0.heap Z.H_0 spL) (tk : Takes Z W) (hr : RoomG (k + 1) Z.A) (hx : Z.ex = [])
    (hN : Z.N[i]? = some a) (hv : Vis Z.env.scope a) (hd : (a == ("__debug__" : Str)) = false := by decide) (hcd : (a == ("__classdict__" : Str)) = false := by decide) :
    PE Z (.Call (.Name a p1) [] [] p2) (fun σ H Q => σ[i]? = some (some (.ref f)) ∧ Same Z.H_0 H ∧ spL H Q (WE W σ)) := by
  obtain ⟨F, body, Nm, fr, ws, tb, S, hb, hbody, C, h1, h2, hsp⟩ := L
  refine ⟨fun pins s σ H Q I h => ?_⟩
  obtain ⟨hs, sm, hq⟩ := h
  refine wpAny_Call_Name_kw (thn ((pe_var (pos := p1) hN hv hd hcd).run pins s σ H (fun v H1 => v = .ref f ∧ H1 = H) I ⟨.ref f, hs, rfl, rfl⟩) fun u s1 z => ?_)
  obtain ⟨v, H1, J, r1, ev, eH⟩ := z
  subst ev
  rw [eH] at J
  obtain rfl : u = Value.ref f := r1
  have e1 := sm _ _ h1
  have at_ : PySem.W.FnAt f s1.heap := by
    obtain ⟨pm, ctv, ho⟩ := lamO_at J.hok e1
    exact ⟨_, _, _, _, ho⟩
  refine PySem.W.callWith_F0 (first := []) at_ ?_
  show wpAny _ _ (call (.ref f) []) _ _ _
  refine wpAny_call (codeAny_mono (run_lamE (k := k) (E := WE W σ) S hb (hbody Z.A Z.stack s1 H _ (hr.deeper _)) hr J.env0 e1 (sm _ _ h2) (cells_later C hx J) (hsp H Q _ hq)) fun res s' hq => ?_)
  match res, hq with
  | .error e, hq => exact passAt tk σ pins H s1 e s' J hq
  | .ok (.ret u), hq => exact J.after hq
  | .ok .next, hq => exact False.elim hq
  | .ok .brk, hq => exact False.elim hq
  | .ok .cont, hq => exact False.elim hq
end
section
variable {X : Cx}
/-- repr(x), x an int, a text or data without dicts -/
def rReprU (K : PySem.W.Frag) : List V → Hp → VK → Prop := fun xs H Q => ∃ v, xs = [v] ∧ ((∃ i : Int, v = .int i ∧ i.natAbs.log2 < 1920 ∧ Q (.str (toString i)) H) ∨ ∃ d, ((∃ a, v = .ref a) ∨ ∃ x, v = .str x) ∧ Dp K H v d ∧ d.showable = true ∧ d.hasDict = false ∧ d.depth ≤ 60 ∧ d.shown.length ≤ sizeLine ∧ Q (.str d.shown) H)
theorem call_reprU {j : Nat} (hr : RoomG j X.A) : CallR X (.builtin "repr") (rReprU X.K) := by
  intro pins s σ H xs us Q I r h
  obtain ⟨v, rfl, h⟩ := h
  rcases h with ⟨i, rfl, hi, q⟩ | ⟨d, hv, hd, hs, hn, hdp, hz, q⟩
  · exact SkE.call_repr_int pins s σ H [.int i] us Q I r ⟨i, rfl, hi, q⟩
  rcases hv with ⟨a, rfl⟩ | ⟨x, rfl⟩
  · exact call_repr hr pins s σ H [.ref a] us Q I r ⟨a, d, rfl, hd, hs, hn, hdp, hz, q⟩
  · obtain ⟨u, rfl, t, rfl⟩ := vals1 r
    cases hd
    simp only [PyData.shown] at hz q
    exact PySem.P.repr_of_str ⟨.str (reprText x), H, I.kept (t' := s.toks + 1) fun b o e => e, ⟨_, rfl⟩, q⟩ hz
theorem pe_no {e : Expr} : PE X e (fun _ _ _ => False) := ⟨fun _ _ _ _ _ _ h => h.elim⟩
end
end N

namespace N
open PySem PySem.Spec PyProof.Rows L2 LamX NdefX
/-! ### lambdas where more than one table is known -/
/-- all but what stands at P stays -/
def ExtP (P : Addr) (H H' : Hp) : Prop := ∀ b o, H b = some o → b ≠ P → H' b = some o
theorem ExtP.refl (P : Addr) (H : Hp) : ExtP P H H := fun _ _ h _ => h
theorem ExtP.of {P : Addr} {H H' : Hp} (s : Same H H') : ExtP P H H' := fun b o h _ => s b o h
theorem ExtP.trans {P : Addr} {H H1 H2 : Hp} (a : ExtP P H H1) (b : ExtP P H1 H2) : ExtP P H H2 := fun c o h n => b c o (a c o h n) n
theorem ExtP.tab {P P2 : Addr} {q : Str} {H H' : Hp} (e : ExtP P H H') (n : P2 ≠ P) (hP : ∃ ps, H P = some (.tbl ps)) (t : TabS H P2 q) : TabS H' P2 q := by
  obtain ⟨ps, h1, h2, h3⟩ := t
  obtain ⟨qs, hq⟩ := hP
  refine ⟨ps, e _ _ h1 n, h2, fun p' cv z => ?_⟩
  obtain ⟨c0, ec, hc⟩ := h3 p' cv z
  refine ⟨c0, ec, e _ _ hc fun z => ?_⟩
  rw [z, hq] at hc
  exact codeO_ne qs (Option.some.inj hc).symm
section
variable {X : Cx} {pins : List (Addr × Obj)} {σ : L2.St} {H : Hp} {s : Shared}
theorem lam_new2 {c P : Addr} {params : Arguments} {body : Expr} {scope : Scope} {pos : Pos} {E : Value → Shared → Prop} {Q : Value → Shared → Prop} (I : Inv X pins σ H s) (TB : TabB X.base X.mg c P) (hcode : X.env.code = .ref c) (hT : TabS H P (X.env.qual ++ "<lambda>"))
    (hdef : defaultsOf params X.env = ([], [])) (hfree : ∀ y ∈ scope.names, y.2 = .free → ∃ c, X.env.cells.lookup y.1 = some c)
    (h : ∀ (f c' : Addr) (H1 : Hp) (s' : Shared), Inv X pins σ H1 s' → ExtP P H H1 → ExtN H H1 → TabS H1 P (X.env.qual ++ "<lambda>") → (∀ b, H1 b = none → H b = none) → H f = none → H1 f = some (LamO f (lamF (X.env.qual ++ "<lambda>") params scope (cloFrom X.env.cells scope.names []) c') body) → H1 c' = some (CodeO c' (X.env.qual ++ "<lambda>")) → Q (.ref f) s') :
    wpAny (model X.prog X.w) X.A (eval (.Lambda params body scope pos) X.env) Q E s := by
  obtain ⟨ps, hP, ht, ha⟩ := hT
  apply PySem.W.kla_eval hdef
  have hb : s.heap.BuiltinsAt X.mg P := TB.bm.keeps I.bk
  have tP : s.heap.get? P = some { cls := .none, data := .fields ps } := I.hok P _ hP
  -- the function object itself
  have fin : ∀ (h' : Heap) (tk : Nat) (c' : Addr) (ctv : Value) (H1 : Hp), Inv X pins σ H1 { s with heap := h', toks := tk } → ExtP P H H1 → ExtN H H1 → TabS H1 P (X.env.qual ++ "<lambda>") → (∀ b, H1 b = none → H b = none) → H1 c' = some (CodeO c' (X.env.qual ++ "<lambda>")) →
      Q (.ref h'.objs.size) { s with heap := h'.push (PySem.W.kla_obj "<lambda>" (X.env.qual ++ "<lambda>") params body scope (cloFrom X.env.cells scope.names []) ((X.mg "__name__").getD .none) c' ctv), toks := tk } := by
    intro h' tk c' ctv H1 J e0 e1 T1 n1 k1
    have nf : H1 h'.objs.size = none := J.hok.fresh (Nat.le_refl _)
    have here : (h'.push (PySem.W.kla_obj "<lambda>" (X.env.qual ++ "<lambda>") params body scope (cloFrom X.env.cells scope.names []) ((X.mg "__name__").getD .none) c' ctv)).get? h'.objs.size = some _ := Heap.get?_push_size _ rfl
    have J2 := J.laid (t' := tk) (a := h'.objs.size) (o := LamO h'.objs.size (lamF (X.env.qual ++ "<lambda>") params scope (cloFrom X.env.cells scope.names []) c') body) (fun b u e => Heap.get?_push_of_some _ e) (Nat.le_refl _)
      ⟨⟨_, _, here⟩, ⟨_, here⟩, fun h1 h2 y st => by obtain ⟨a, b, z⟩ := y; exact ⟨a, b, st _ z⟩⟩
    have sm := same_new nf (LamO h'.objs.size (lamF (X.env.qual ++ "<lambda>") params scope (cloFrom X.env.cells scope.names []) c') body)
    exact h _ c' _ _ J2 (e0.trans (ExtP.of sm)) (e1.trans (ExtN.of sm)) (T1.ext sm) (fun b z => n1 b (sm.free z)) (n1 _ nf) upd_same (sm _ _ k1)
  cases hc : codeAmong pos ps.toList with
  | some cv =>
    obtain ⟨c', ec, hco⟩ := ha pos cv hc
    subst ec
    refine PySem.W.kla_makeFunctionHit (closure_ok hfree) I.ok.glob (I.mod.glob.keeps I.bk) hcode (TB.code.keeps I.bk) tP ht hc hb (fun ctv h' tk kx _ => ?_)
    exact fin h' tk c' ctv H (I.kept kx) (ExtP.refl P H) (ExtN.refl H) ⟨ps, hP, ht, ha⟩ (fun b z => z) hco
  | none =>
    refine PySem.W.kla_makeFunction (closure_ok hfree) I.ok.glob (I.mod.glob.keeps I.bk) hcode (TB.code.keeps I.bk) tP ht hc TB.gP hb (fun c' ctv h' tk kx hge hlt hrec htb => ?_)
    obtain ⟨c2, oc, vs, t, e2, y1, y2, y3⟩ := hrec
    cases e2
    have nc : H c' = none := I.hok.fresh hge
    have J := inv_table (t' := tk) (more := #[rawInt pos.line, rawInt pos.col, .ref c']) (h' := h') (q := X.env.qual ++ "<lambda>") I hP (fun b o n e => kx b o n e) htb hge ⟨oc, vs, t, y1, y2, y3⟩
    refine fin h' tk c' ctv _ J (fun b o e n => ?_) (fun b o e n => ?_) (tabS_more hP ht ha nc) (fun b z => upd_none (upd_none z)) upd_same
    · rw [upd_ne (ne_of_none e nc), upd_ne n]
      exact e
    · rw [upd_ne (ne_of_none e nc), upd_ne (fun z => n ps (Option.some.inj (e.symm.trans (by rw [z]; exact hP))))]
      exact e
/-- lambda ..: .. as a value -/
theorem pe_lamT2 {c P : Addr} {params : Arguments} {body : Expr} {scope : Scope} {pos : Pos} (TB : TabB X.base X.mg c P) (hcode : X.env.code = .ref c) (hdef : defaultsOf params X.env = ([], []) := by rfl)
    (fre : ∀ y ∈ scope.names, y.2 = .free → X.env.scope.names.lookup y.1 = some .cell ∨ X.env.scope.names.lookup y.1 = some .free := by decide +kernel) :
    PE X (.Lambda params body scope pos) (fun σ H Q => TabS H P (X.env.qual ++ "<lambda>") ∧ ∀ (f c' : Addr) (H1 : Hp), ExtP P H H1 → ExtN H H1 → TabS H1 P (X.env.qual ++ "<lambda>") → (∀ b, H1 b = none → H b = none) → H f = none →
      H1 f = some (LamO f (lamF (X.env.qual ++ "<lambda>") params scope (cloFrom X.env.cells scope.names []) c') body) → H1 c' = some (CodeO c' (X.env.qual ++ "<lambda>")) → Q (.ref f) H1) := by
  refine ⟨fun pins s σ H Q I h => ?_⟩
  obtain ⟨hT, h⟩ := h
  refine lam_new2 I TB hcode hT hdef (fun y hy ey => (fre y hy ey).elim (fun z => I.ok.has _ (.inl z)) fun z => I.ok.has _ (.inr z)) (fun f c' H1 s' J g0 g1 g2 g3 g4 g5 g6 => ?_)
  exact ⟨.ref f, H1, J, rfl, h f c' H1 g0 g1 g2 g3 g4 g5 g6⟩
end
end N

namespace N
open PySem PySem.Spec PyProof.Rows L2 StX LamX NdefX
theorem ext_stay {K : PySem.W.Frag} {H H' : Hp} (e : ExtN H H') : Stay K H H' where
  tup := fun a xs q => by
    rcases q with (q | ⟨o', q⟩) | q
    · exact .inl (.inl (e _ _ q (fun ps z => by cases z)))
    · exact .inl (.inr ⟨o', e _ _ q (fun ps z => by cases z)⟩)
    · exact .inr q
  ty := fun v t q => by
    cases q with
    | base b =>
      cases b with
      | non => exact .base .non
      | bl x => exact .base (.bl x)
      | int i => exact .base (.int i)
      | str x => exact .base (.str x)
      | flt x => exact .base (.flt x)
      | lst z => exact .base (.lst (e _ _ z (fun ps y => by cases y)))
      | frz z => exact .base (.frz (e _ _ z (fun ps y => by cases y)))
      | tup z => exact .base (.tup (e _ _ z (fun ps y => by cases y)))
      | dK z => exact .base (.dK (e _ _ z (fun ps y => by cases y)))
      | dT z => exact .base (.dT (e _ _ z (fun ps y => by cases y)))
      | ins z cl ha hn htk hm => exact .base (.ins (e _ _ z (fun ps y => by cases y)) cl ha hn htk hm)
    | byt b => exact .byt b
    | set z => exact .set (e _ _ z (fun ps y => by cases y))
    | kList z c => exact .kList z c
    | kTuple z c => exact .kTuple z c
    | kDict z c => exact .kDict z c
    | fTuple z => exact .fTuple (e _ _ z (fun ps y => by cases y))
    | fDict z => exact .fDict (e _ _ z (fun ps y => by cases y))
/-- all but the tables stays, and nothing that was tracked is gone -/
structure Gro (H H' : Hp) : Prop where
  e : ExtN H H'
  n : ∀ b, H' b = none → H b = none
theorem Gro.of {H H' : Hp} (s : Same H H') : Gro H H' := ⟨ExtN.of s, fun b z => s.free z⟩
theorem Gro.trans {H H1 H2 : Hp} (a : Gro H H1) (b : Gro H1 H2) : Gro H H2 := ⟨a.e.trans b.e, fun x z => a.n x (b.n x z)⟩
theorem Gro.refl (H : Hp) : Gro H H := ⟨ExtN.refl H, fun _ z => z⟩
theorem Gro.stay {K : PySem.W.Frag} {H H' : Hp} (g : Gro H H') : Stay K H H' := ext_stay g.e
theorem Gro.seq {K : PySem.W.Frag} {H H' : Hp} {a : Addr} {xs : List V} (g : Gro H H') (h : SqL K H a xs) : SqL K H' a xs := by
  rcases h with (h | ⟨o, h⟩) | h
  · exact .inl (.inl (g.e _ _ h (fun ps z => by cases z)))
  · exact .inl (.inr ⟨o, g.e _ _ h (fun ps z => by cases z)⟩)
  · exact .inr h
/-- .. and all but the table at P stays -/
structure GroP (P : Addr) (H H' : Hp) : Prop where
  g : Gro H H'
  x : ExtP P H H'
theorem GroP.of {P : Addr} {H H' : Hp} (s : Same H H') : GroP P H H' := ⟨Gro.of s, ExtP.of s⟩
theorem GroP.trans {P : Addr} {H H1 H2 : Hp} (a : GroP P H H1) (b : GroP P H1 H2) : GroP P H H2 := ⟨a.g.trans b.g, a.x.trans b.x⟩
theorem GroP.refl (P : Addr) (H : Hp) : GroP P H H := ⟨Gro.refl H, ExtP.refl P H⟩
end N

namespace N
open PySem PySem.Spec PyProof.Rows L2 L2H StX LamX NdefX
/-! ### try: .., except x as n: .., and further clauses that are never come to -/
def wFst (K : PySem.W.Frag) (c : Value) (i : Nat) (ts : Addr → Value → Option Addr → TS) (D : Ends) : WX := fun cls d σ H => PySem.W.exmOne K cls c = some true ∧
  ∀ a, H a = none → ts a cls d { nx := fun σ' H' => D.nx (σ'.set i none) H', rt := D.rt, bk := fun σ' H' => D.bk (σ'.set i none) H', ct := fun σ' H' => D.ct (σ'.set i none) H' } (σ.set i (some (.ref a))) H
section
variable {X : Cx} {x n : Str} {c : Value} {i : Nat} {body rest : List Stmt} {st0 : Stmt} {more : List ExceptHandler} {p1 p2 p3 : Pos} {tb : WX → TS} {ts : Addr → Value → Option Addr → TS}
theorem ps_try_fst (e1 : X.stack = X.env :: X.outer) (e2 : X.env.frame = some X.env.locals) (nd : X.N.Nodup) (ix : X.N[i]? = some n) (kl : X.env.kindOf n = some .local) (nm : Names X x c)
    (hb : ∀ (W : WX) (pn : List (Addr × Obj)) (xe : Value → Shared → Prop), Takes (X.tr pn xe) W → PassesOwn (model X.prog X.w) X.A X.env xe → PSs (X.tr pn xe) body (tb W))
    (hsu : ∀ (a : Addr) (oe : Obj) (cls : Value) (d : Option Addr) (pn : List (Addr × Obj)), Zc cls d oe → (∃ vs, oe.data = .fields vs) → PSs (X.suite a ((a, oe) :: pn)) (st0 :: rest) (ts a cls d)) :
    PS X (.Try body (.ExceptHandler (some (.Name x p1)) (some n) (st0 :: rest) p2 :: more) [] [] p3) (fun D σ H => tb (wFst X.K c i ts D) D σ H) := ⟨fun pins s σ H D I h => by
  have frames : X.A.frames = some (X.env :: X.outer) := I.ok.frames.trans (congrArg some e1)
  refine wpAny_Try_except (wpAny_mono ((hb (wFst X.K c i ts D) (X.pn ++ pins) (fun er sa => wpAny (model X.prog X.w) X.A (noteFrame er X.env) (fun _ sb => wpAny (model X.prog X.w) X.A (setFlight er none)
    (fun _ sc => wpAny (model X.prog X.w) X.A (handleBy er X.env (.ExceptHandler (some (.Name x p1)) (some n) (st0 :: rest) p2 :: more)) (SP X pins D) X.xe sc) X.xe sb) X.xe sa) (fun er sx raised => ?_) PassesOwn.looking).run [] s σ H D (I.toTry _) h) (fun fl sy done => ?_) fun _ _ z => z)
  · obtain ⟨a, bd, sr, pr, σr, Hr, cls, d, rfl, Jr, hnb, hup, hsky, hna, hos, hag, hm, hw⟩ := raised
    have J := Jr.ofTry I.ok
    show wpAny _ _ (noteFrame (.ref a) X.env) _ _ _
    refine Sky.land Zc.steady frames e2 (e1 ▸ hsky) fun hl landed hup2 => ?_
    have JL : Inv X pins σr Hr { sx with heap := hl } := J.landed hnb landed.1 (hup.trans hup2) hos hag
    obtain ⟨ob, fs, eob, zob, dob⟩ := landed.there
    have own : a ∉ frs (X.env :: X.outer) := fun hin => by
      obtain ⟨_, ob2, eq2, hnot⟩ := landed.2.2.1.mem hin
      cases eob.symm.trans eq2
      exact hnot _ dob
    have nL : a ≠ X.env.locals := fun z => own (List.mem_filterMap.mpr ⟨X.env, List.mem_cons_self, e2.trans (congrArg some z.symm)⟩)
    have nF : a ∉ X.fs := fun hin => by
      obtain ⟨en, hen, q⟩ := List.mem_filterMap.mp hin
      exact own (List.mem_filterMap.mpr ⟨en, List.mem_cons_of_mem _ hen, q⟩)
    have JS := JL.suite eob dob hna nL nF
    have looks : PySem.W.Looks (model X.prog X.w) hl (typeOf (.ref a)) cls := fun _ _ _ _ kp q => wpAny_typeOf_ref (kp _ _ eob) (zob.1.symm ▸ q)
    have named : ∀ {Q E : Value → Shared → Prop}, Q c { sx with heap := hl } → wpAny (model X.prog X.w) (X.A.mark (some (.ref a))) (eval (.Name x p1) X.env) Q E { sx with heap := hl } := fun {Q E} q => by
      rcases nm with ⟨g1, g2, g3 | ⟨g3, g4, g5⟩⟩
      · exact ld_glob (X := X.suite a ((a, ob) :: (X.pn ++ pins))) JS g1 g3 q g2
      · exact ld_blt (X := X.suite a ((a, ob) :: (X.pn ++ pins))) JS g1 g3 g4 q g5 g2
    refine wpAny_handleBy_cons (codeAny_handlers_test (named ((PySem.W.exm_one (M := model X.prog X.w) JL.kIn looks hm).here (codeAny_handlers_suite_as (HandSPX.lands_againZ landed fun hl2 landed2 hup3 => ?_))))) (fun q => by cases q)
    have JM : Inv X pins σr Hr { sx with heap := hl2 } := J.landed hnb landed2.1 ((hup.trans hup2).trans hup3) hos hag
    obtain ⟨ob2, fs2, eob2, zob2, dob2⟩ := landed2.there
    refine store_ok (X := X.suite a ((a, ob2) :: (X.pn ++ pins))) (v := .ref a) (JM.suite eob2 dob2 hna nL nF) nd ix (.inl kl) rfl (fun sn JN => ?_) (.inr kl)
    refine wpAny_mono ((hsu a ob2 cls d (X.pn ++ pins) zob2 ⟨_, dob2⟩).run [] sn _ Hr _ JN (hw a hna)) (fun fl sz done => ?_) fun _ _ z => z.elim
    have leave : ∀ {σz : L2.St} {Hz : Hp} {Q : Shared → Prop}, Inv (X.suite a ((a, ob2) :: (X.pn ++ pins))) [] σz Hz sz → (∀ sq, Inv X pins (σz.set i none) Hz sq → Q sq) →
        wpAny (model X.prog X.w) X.A (do bindName X.env n .none; unbindBehindTheSuite X.env n p2) (fun _ sq => Q sq) X.xe sz := fun {σz Hz Q} Jz q => gone_ok (Jz.unsuite I.ok) nd ix kl q
    match fl, done with
    | .next, ⟨σz, Hz, Jz, q⟩ => exact leave Jz fun sq Jq => ⟨_, _, Jq, q⟩
    | .brk, ⟨σz, Hz, Jz, q⟩ => exact leave Jz fun sq Jq => ⟨_, _, Jq, q⟩
    | .cont, ⟨σz, Hz, Jz, q⟩ => exact leave Jz fun sq Jq => ⟨_, _, Jq, q⟩
    | .ret _, ⟨vz, σz, Hz, Jz, rz, q⟩ => exact leave Jz fun sq Jq => ⟨_, _, _, Jq, rz, q⟩
  · match fl, done with
    | .next, ⟨σz, Hz, Jz, q⟩ => exact wpAny_execs_nil ⟨σz, Hz, Jz.ofTry I.ok, q⟩
    | .brk, ⟨σz, Hz, Jz, q⟩ => exact ⟨σz, Hz, Jz.ofTry I.ok, q⟩
    | .cont, ⟨σz, Hz, Jz, q⟩ => exact ⟨σz, Hz, Jz.ofTry I.ok, q⟩
    | .ret _, ⟨vz, σz, Hz, Jz, rz, q⟩ => exact ⟨vz, σz, Hz, Jz.ofTry I.ok, rz, q⟩⟩
end
end N

/-! ### == and != of an instance whose class has an own == and no own != -/
namespace OwnQ
open PySem PySem.W PySem.SeqAt
open AutoSeq1 (wpAny_loadPart')
section
variable {prog : Program} {w : World} {A : Around} {E : Value → Shared → Prop} {s : Shared} {K : Frag} {x C L f : Addr} {h₀ : Heap} {m : Str → Option Value} {ox : Obj} {od : Option Obj} {b tb : Value}
/-- the class's own == at f, object's != -/
theorem ifBound_B {M : Model} {name : Str} {id : String} {args : List Value} {Q : Option Value → Shared → Prop} (X : K.In s.heap) (I : InstAt s.heap x ox C od) (hs : findIn K (.ref C) name = some (some (.builtin id))) (hb : ∀ self, bindSpecial (.builtin id) self = pure (.builtin id, [self]))
    (h : wpAny M A (call (.builtin id) (.ref x :: args)) (fun v => Q (some v)) E s) : wpAny M A (callSpecialIfBound? (.ref x) name args) Q E s := by
  simp only [callSpecialIfBound?, bindSpecialIfBound?]
  refine wpAny_holding (wpAny_bind (wpAny_bind (wpAny_bind (I.type.here ((looks_findIn X hs).here ?_)))))
  refine wpAny_bind (wpAny_askSetting (wpAny_ite ?_))
  have fin : wpAny M A (call (.builtin id) ([.ref x] ++ args) >>= fun v => pure (some v)) Q E s := wpAny_bind (wpAny_mono h (fun v s' h' => wpAny_pure h') fun _ _ e => e)
  simp only [hb]
  split
  · exact wpAny_bind (wpAny_pure (wpAny_pure (by exact fin)))
  · exact wpAny_tryCatch (wpAny_bind (wpAny_pure (wpAny_pure (by exact fin))))
theorem ne_K {Q : Value → Shared → Prop} (hu : A.units + 1 < cLine) (X : K.In s.heap) (I : InstAt s.heap x ox C od) (hb : Looks (model prog w) s.heap (typeOf b) tb) (hn : notFirst K C tb = true)
    (hne : findIn K (.ref C) "__ne__" = some (some (.builtin "object.__ne__"))) (hm : mroIn K C (.type "object") = some true) (hs : findIn K (.ref C) "__eq__" = some (some (.ref f))) (hf : isFn K (.ref f) = true)
    (h : codeAny (model prog w) A.in1 (.call (.ref f) ⟨[.ref x, b], []⟩) (fun r s' => match r with | .ok (.ret v) => ∃ r, v = .bool r ∧ Q (.bool (!r)) s' | .ok _ => False | .error e => E e s') s) : wpAny (model prog w) A (richCompare .NotEq (.ref x) b) Q E s := by
  have hu0 : A.units < cLine := Nat.lt_of_succ_lt hu
  have one : wpAny (model prog w) A (tryCompare (.ref x) (cmpInfo .NotEq).2.1 b) (fun r s' => ∃ v, r = some v ∧ Q v s') E s := by
    unfold tryCompare
    refine wpAny_bind (ifBound_B X I hne F.cmp_object.ne.bind ?_)
    refine wpAny_call (codeAny_call_builtin F.cmp_object.ne.plain F.cmpEntry_ne (check_slot F.cmpKind_ne F.cmpSplit_ne (I.type.andThen (looks_mroIn X hm)) (F.cmpArgs_ne _ _) ?_))
    unfold Builtin.«object.__ne__»
    have hu1 : A.in1.units < cLine := hu
    repeat (first | with_reducible refine wpAny_cRoomFor hu1 ?_ | with_reducible refine ifBound_K X I hs hf ?_ | wp_step)
    refine codeAny_mono h fun r s' hq => ?_
    match r, hq with
    | .error e, hq => exact hq
    | .ok (.ret v), hq =>
      obtain ⟨r, rfl, q⟩ := hq
      show wpAny _ _ _ _ _ _
      repeat (first | with_reducible refine wpAny_truthy_bool ?_ | wp_step)
      exact ⟨_, rfl, q⟩
    | .ok .next, hq => exact hq.elim
    | .ok .brk, hq => exact hq.elim
    | .ok .cont, hq => exact hq.elim
  unfold richCompare
  simp only [oneThing_ref]
  refine wpAny_holding (wpAny_bind (wpAny_cRoomFor hu0 ?_))
  refine wpAny_bind (I.type.here (wpAny_bind (hb.here ?_)))
  split
  · rename_i q
    have e : subIn K tb (.ref C) = some false := by
      rcases Bool.or_eq_true_iff.mp hn with e | e
      · rw [beq_iff_eq.mp e] at q; simp at q
      · exact beq_iff_eq.mp e
    refine wpAny_bind ((looks_subIn X e).here ?_)
    simp only [Bool.false_eq_true, if_false]
    refine wpAny_bind (wpAny_mono one (fun r s' z => ?_) fun _ _ e => e)
    obtain ⟨v, rfl, hq⟩ := z
    exact wpAny_pure hq
  · refine wpAny_bind (wpAny_pure ?_)
    simp only [Bool.false_eq_true, if_false]
    refine wpAny_bind (wpAny_mono one (fun r s' z => ?_) fun _ _ e => e)
    obtain ⟨v, rfl, hq⟩ := z
    exact wpAny_pure hq
/-- a thing of a built-in type that declines, then the class's own == -/
theorem refl_K {T id : String} {Q : Value → Shared → Prop} (hu : A.units < cLine) (X : K.In s.heap) (I : InstAt s.heap x ox C od) (hb : s.TypeIs b T) (hm : mroIn K C (.type T) = some false) (slot : Slot T (cmpInfo .Eq).2.1 id)
    (hc : ∀ Q' : Value → Shared → Prop, Q' .notImplemented s → wpAny (model prog w) A (call (.builtin id) [b, .ref x]) Q' E s) (hs : findIn K (.ref C) "__eq__" = some (some (.ref f))) (hf : isFn K (.ref f) = true)
    (h : wpAny (model prog w) A (call (.ref f) [.ref x, b]) (CmpBack Q) E s) : wpAny (model prog w) A (richCompare .Eq b (.ref x)) Q E s := by
  have one : wpAny (model prog w) A (tryCompare (.ref x) "__eq__" b) (fun r s' => ∃ v, r = some v ∧ Q v s') E s := by
    unfold tryCompare
    refine wpAny_bind (ifBound_K X I hs hf (wpAny_mono h (fun v s' hv => ?_) fun _ _ e => e))
    cases v <;> first | exact hv.elim | exact wpAny_pure ⟨_, rfl, hv⟩
  rcases hi : cmpInfo CmpOp.Eq with ⟨sym, f1, r1⟩
  have er : r1 = ("__eq__" : Str) := by
    have := congrArg (fun z => z.2.2) hi
    exact this.symm
  rw [hi] at slot
  simp only [richCompare, hi, hb.oneThing_none]
  refine wpAny_holding (wpAny_bind (wpAny_cRoomFor hu ?_))
  refine wpAny_bind (wpAny_typeOf hb (wpAny_bind (I.type.here ?_)))
  have e : (Value.type T != Value.ref C) = true := rfl
  simp only [e, if_true]
  refine wpAny_bind ((looks_mroIn X hm).here ?_)
  simp only [Bool.false_eq_true, if_false, Bool.not_false, if_true]
  refine wpAny_bind (m := tryCompare b _ (.ref x)) (wpAny_tryCompare_declines hb slot (hc _ ⟨rfl, ?_⟩))
  rw [er]
  refine wpAny_bind (m := tryCompare (.ref x) _ b) (wpAny_mono one (fun r s' z => ?_) fun _ _ e => e)
  obtain ⟨v, rfl, hq⟩ := z
  exact wpAny_pure hq
/-! the built-in types decline -/
theorem dec_int {i : Int} {u : Tok} {dx : Addr} {Q : Value → Shared → Prop} (hx : s.heap.get? x = some (instObj C dx)) (q : Q .notImplemented s) : wpAny (model prog w) A (call (.builtin "int.__eq__") [.int i u, .ref x]) Q E s := by
  refine wpAny_call (codeAny_call_builtin F.slot_int_eq.plain F.entry_int_eq (F.slot_int_eq.check _ _ _ _ _ _ _ _ (typeIs_int s i u) (F.args_int_eq_2 _ _) ?_))
  obtain ⟨hp, g, d, tk, os⟩ := s
  wp_walk using wpAny_load hx
  exact q
theorem dec_bool {i : Bool} {dx : Addr} {Q : Value → Shared → Prop} (hx : s.heap.get? x = some (instObj C dx)) (q : Q .notImplemented s) : wpAny (model prog w) A (call (.builtin "int.__eq__") [.bool i, .ref x]) Q E s := by
  refine wpAny_call (codeAny_call_builtin F.slot_bool_eq.plain F.entry_int_eq (F.slot_bool_eq.check _ _ _ _ _ _ _ _ rfl (F.args_int_eq_2 _ _) ?_))
  obtain ⟨hp, g, d, tk, os⟩ := s
  wp_walk using wpAny_load hx
  exact q
theorem dec_str {i : Str} {u : Tok} {dx : Addr} {Q : Value → Shared → Prop} (hx : s.heap.get? x = some (instObj C dx)) (q : Q .notImplemented s) : wpAny (model prog w) A (call (.builtin "str.__eq__") [.str i u, .ref x]) Q E s := by
  refine wpAny_call (codeAny_call_builtin F.slot_str_eq.plain F.entry_str_eq (F.slot_str_eq.check _ _ _ _ _ _ _ _ (typeIs_str s i u) (F.args_str_eq_2 _ _) ?_))
  obtain ⟨hp, g, d, tk, os⟩ := s
  wp_walk using wpAny_load hx
  exact q
theorem dec_none {Q : Value → Shared → Prop} (q : Q .notImplemented s) : wpAny (model prog w) A (call (.builtin "NoneType.__eq__") [.none, .ref x]) Q E s :=
  call_gives F.slot_NoneType_eq rfl F.entry_NoneType_eq (F.args_NoneType_eq_2 _ _) (NoneType___eq___none_ref_0 x) q
theorem dec_list {l : Addr} {items : Array Value} {n : Nat} {dd : Option Addr} {sl : Array (Option Value)} {Q : Value → Shared → Prop} (hl : s.heap.get? l = some { cls := .type "list", dict := dd, data := .seq items n, slots := sl }) (X : K.In s.heap) (I : InstAt s.heap x ox C od)
    (hm : mroIn K C (.type "list") = some false) (q : Q .notImplemented s) : wpAny (model prog w) A (call (.builtin "list.__eq__") [.ref l, .ref x]) Q E s := by
  refine wpAny_call (codeAny_call_builtin F.slot_list_eq.plain F.entry_list_eq (F.slot_list_eq.check _ _ _ _ _ _ _ _ ⟨_, hl, rfl⟩ (F.args_list_eq_2 _ _) ?_))
  have L : Looks (model prog w) s.heap (isInstance (.ref x) (.type "list")) false := I.type.andThen (looks_mroIn X hm)
  wp_walk using L.here
  exact q
theorem dec_tup {l : Addr} {items : Array Value} {n : Nat} {dd : Option Addr} {sl : Array (Option Value)} {Q : Value → Shared → Prop} (hl : s.heap.get? l = some { cls := .type "tuple", dict := dd, data := .seq items n, slots := sl }) (X : K.In s.heap) (I : InstAt s.heap x ox C od)
    (hm : mroIn K C (.type "tuple") = some false) (q : Q .notImplemented s) : wpAny (model prog w) A (call (.builtin "tuple.__eq__") [.ref l, .ref x]) Q E s := by
  refine wpAny_call (codeAny_call_builtin F.slot_tuple_eq.plain F.entry_tuple_eq (F.slot_tuple_eq.check _ _ _ _ _ _ _ _ ⟨_, hl, rfl⟩ (F.args_tuple_eq_2 _ _) ?_))
  have L : Looks (model prog w) s.heap (isInstance (.ref x) (.type "tuple")) false := I.type.andThen (looks_mroIn X hm)
  wp_walk using L.here
  exact q
theorem dec_dict {l : Addr} {o : Obj} {Q : Value → Shared → Prop} (hl : s.heap.get? l = some o) (hc : o.cls = .type "dict") (X : K.In s.heap) (I : InstAt s.heap x ox C od)
    (hm : mroIn K C (.type "dict") = some false) (q : Q .notImplemented s) : wpAny (model prog w) A (call (.builtin "dict.__eq__") [.ref l, .ref x]) Q E s := by
  refine wpAny_call (codeAny_call_builtin F.slot_dict_eq.plain F.entry_dict_eq (F.slot_dict_eq.check _ _ _ _ _ _ _ _ ⟨_, hl, hc⟩ (F.args_dict_eq_2 _ _) ?_))
  have L : Looks (model prog w) s.heap (isInstance (.ref x) (.type "dict")) false := I.type.andThen (looks_mroIn X hm)
  wp_walk using L.here
  exact q
end
end OwnQ

namespace OwnQ
open PySem PySem.W PySem.SeqAt GQ
open AutoSeq1 (wpAny_loadPart')
open MeetsSeq MeetsSeq2 MeetsSeq3 SeqRoads2
section
variable {prog : Program} {w : World} {A : Around} {R : Result → Shared → Prop}
/-- at each turn the list is read anew: N items, the i-th is equal to x as e says -/
def ContI (prog : Program) (w : World) (A : Around) (E : Value → Shared → Prop) (l : Addr) (N : Nat) (x : Value) (e : Nat → Bool) (J : Shared → Prop) : Prop :=
  ∀ s, J s → ∃ (items : Array Value) (n : Nat), s.heap.get? l = some { cls := .type "list", data := .seq items n } ∧ items.size = N ∧
    ∀ i (h : i < items.size), wpAny (model prog w) A.in1 (eqBool items[i] x) (fun r s' => r = e i ∧ J s') E s
/-- x in a list whose items' comparisons may run code -/
theorem cont_loop (l : Addr) (N : Nat) (x : Value) (J : Shared → Prop) (e : Nat → Bool) (hl : ContI prog w A (fun e s' => R (.error e) s') l N x e J) (k : Nat) :
    ∀ i : Nat, N - i = k → (∀ s, J s → R (.ok (.ret (.bool ((List.range' i k).any e)))) s) → ∀ s, J s →
      wpAny (model prog w) A.in1 (Builtin.«list.__contains__.loop» ⟨[.ref l, x, rawInt i], []⟩) (FinOf prog w A R) (fun e s' => R (.error e) s') s := by
  induction k with
  | zero =>
    intro i hk fin s h
    obtain ⟨items, n, hl1, hN, _⟩ := hl _ h
    have hR := fin s h
    obtain ⟨hp, g, d, tk, os⟩ := s
    wp_walk using wpAny_loadPart' hl1
    have hi1 : items[((i : Nat) : Int).toNat]? = none := by simp; omega
    rw [hi1]
    wp_walk
    exact hR
  | succ k ih =>
    intro i hk fin s h
    obtain ⟨items, n, hl1, hN, turn⟩ := hl _ h
    have hlt : i < items.size := by omega
    have ht := turn i hlt
    obtain ⟨hp, g, d, tk, os⟩ := s
    wp_walk using wpAny_loadPart' hl1
    have hi1 : items[((i : Nat) : Int).toNat]? = some items[i] := by simp [hlt]
    have hc : ((i : Int) + 1) = ((i + 1 : Nat) : Int) := by omega
    rw [hi1]
    refine wpAny_bind (wpAny_mono ht (fun r s2 h2 => ?_) fun _ _ x => x)
    obtain ⟨hr, h2⟩ := h2
    subst hr
    cases hb : e i with
    | true =>
      have hR := fin s2 h2
      rw [List.range'_succ, List.any_cons, hb] at hR
      obtain ⟨hp2, g2, d2, tk2, os2⟩ := s2
      wp_walk
      exact hR
    | false =>
      have hrec := ih (i + 1) (by omega) (fun s hs => by
        have := fin s hs
        rw [List.range'_succ, List.any_cons, hb] at this
        exact this) s2 h2
      obtain ⟨hp2, g2, d2, tk2, os2⟩ := s2
      wp_walk
      rw [hc]
      exact ⟨plainId_quiet plain_contains_loop _, codeAny_builtin entry_contains_loop (by
        rw [Around.under_plainId plain_contains_loop _]
        exact hrec)⟩
end
section
variable {prog : Program} {w : World} {A : Around} {E : Value → Shared → Prop} {s : Shared}
theorem in_listG (l : Addr) (N : Nat) (x : Value) (J : Shared → Prop) (e : Nat → Bool) {Q : Value → Shared → Prop} (hl : ContI prog w A E l N x e J)
    (fin : ∀ s, J s → Q (.bool ((List.range' 0 N).any e)) s) (h : J s) : wpAny (model prog w) A (compareOp .In x (.ref l)) Q E s := by
  show wpAny _ A (do return .bool (← contains (.ref l) x)) Q E s
  obtain ⟨items, n, hl1, _, _⟩ := hl _ h
  refine wpAny_bind (wpAny_contains_slot ⟨_, hl1, rfl⟩ F.slot_list_contains (wpAny_mono (call_here (Q := fun v s' => ∃ b, v = .bool b ∧ Q (.bool b) s') F.slot_list_contains ⟨_, hl1, rfl⟩ F.entry_list_contains (F.args_list_contains_2 _ _) ?_) (fun v s' hv => ?_) fun _ _ e => e))
  · have hrec := cont_loop (A := A) (R := wants (fun v s' => ∃ b, v = .bool b ∧ Q (.bool b) s') E) l N x J e hl N 0 (by omega) (fun s hs => ⟨_, rfl, fin s hs⟩) s h
    obtain ⟨hp, g, d, tk, os⟩ := s
    wp_walk using wpAny_loadPart' hl1
    exact ⟨plainId_quiet plain_contains_loop _, codeAny_builtin entry_contains_loop (by
      rw [Around.under_plainId plain_contains_loop _]
      exact hrec)⟩
  · obtain ⟨b, rfl, hq⟩ := hv
    exact wpAny_truthy_bool (wpAny_pure hq)
end
end OwnQ

namespace N
open PySem PySem.Spec PyProof.Rows L2 StX
/-! ### kinds and classes as data -/
def Kd.pd : Kd → PyData
  | L c => .str c
  | C0 n => .tuple [.str n]
  | C1 n a => .tuple [.str n, a.pd]
  | C2 n a b => .tuple [.str n, a.pd, b.pd]
theorem pd_lay : ∀ {k : Kd}, k.ok → k.pd.canLay0 = true
  | .L c, h => by simp [Kd.pd, PyData.canLay0, let_strOk (show isLet c = true from h)]
  | .C0 n, h => by simp [Kd.pd, PyData.canLay0, PyData.canLayAll0, nam_strOk (show isNam n = true from h)]
  | .C1 n a, h => by simp [Kd.pd, PyData.canLay0, PyData.canLayAll0, nam_strOk h.1, pd_lay h.2]
  | .C2 n a b, h => by simp [Kd.pd, PyData.canLay0, PyData.canLayAll0, nam_strOk h.1, pd_lay h.2.1, pd_lay h.2.2]
theorem pd_dsz : ∀ k : Kd, k.pd.depth ≤ k.size + 1
  | .L c => by simp [Kd.pd, PyData.depth]
  | .C0 n => by simp [Kd.pd, PyData.depth, PyData.depthAll]
  | .C1 n a => by
    have := pd_dsz a
    simp only [Kd.pd, PyData.depth, PyData.depthAll, Kd.size]
    omega
  | .C2 n a b => by
    have := pd_dsz a
    have := pd_dsz b
    simp only [Kd.pd, PyData.depth, PyData.depthAll, Kd.size]
    omega
theorem kp_dp {K : PySem.W.Frag} {H : Hp} : ∀ {k : Kd} {v : V}, Kp K H v k → Dp K H v k.pd
  | .L c, v, h => by
    obtain ⟨e, _⟩ := kp_L h rfl
    rw [e]
    exact .str c
  | .C0 n, v, h => by
    obtain ⟨a, xs, e, hq, _, r⟩ := kp_C h rfl
    rw [e]
    cases r
    exact .tup hq (.cons (.str n) .nil)
  | .C1 n b, v, h => by
    obtain ⟨a, xs, e, hq, _, r⟩ := kp_C h rfl
    rw [e]
    cases r with
    | cons h1 t =>
      cases t
      exact .tup hq (.cons (.str n) (.cons (kp_dp h1) .nil))
  | .C2 n b c, v, h => by
    obtain ⟨a, xs, e, hq, _, r⟩ := kp_C h rfl
    rw [e]
    cases r with
    | cons h1 t =>
      cases t with
      | cons h2 t =>
        cases t
        exact .tup hq (.cons (.str n) (.cons (kp_dp h1) (.cons (kp_dp h2) .nil)))
def psD (ps : List (Str × Str)) : PyData := .tuple (ps.map fun p => .tuple [.str p.1, .str p.2])
def ksD (ks : List Kd) : PyData := .tuple (ks.map Kd.pd)
def msD (ms : List (Str × Str × Kd)) : PyData := .tuple (ms.map fun m => .tuple [.str m.1, .str m.2.1, m.2.2.pd])
def Cls.pd (c : Cls) : PyData := .tuple [.str c.nm, psD c.ps, ksD c.ks, msD c.ms]
def csD (cs : List Cls) : PyData := .tuple (cs.map Cls.pd)
theorem dpAll_of {α : Type} {K : PySem.W.Frag} {H : Hp} {F : V → α → Prop} {g : α → PyData} (h : ∀ v x, F v x → Dp K H v (g x)) : ∀ {vs : List V} {xs : List α}, Paired F vs xs → DpAll K H vs (xs.map g)
  | _, _, .nil => .nil
  | _, _, .cons a t => .cons (h _ _ a) (dpAll_of h t)
section
variable {K : PySem.W.Frag} {H : Hp}
theorem ps_dp {a : Addr} {ps : List (Str × Str)} (h : PsAt K H a ps) : Dp K H (.ref a) (psD ps) := by
  obtain ⟨xs, q, r⟩ := h
  refine .tup q (dpAll_of (fun v p z => ?_) r)
  obtain ⟨b, rfl, hb⟩ := z
  exact .tup hb (.cons (.str _) (.cons (.str _) .nil))
theorem ks_dp {a : Addr} {ks : List Kd} (h : KsAt K H a ks) : Dp K H (.ref a) (ksD ks) := by
  obtain ⟨xs, q, r⟩ := h
  exact .tup q (dpAll_of (fun v p z => kp_dp z) r)
theorem ms_dp {a : Addr} {ms : List (Str × Str × Kd)} (h : MsAt K H a ms) : Dp K H (.ref a) (msD ms) := by
  obtain ⟨xs, q, r⟩ := h
  refine .tup q (dpAll_of (fun v p z => ?_) r)
  obtain ⟨b, u, rfl, hb, hu⟩ := z
  exact .tup hb (.cons (.str _) (.cons (.str _) (.cons (kp_dp hu) .nil)))
theorem cp_dp {v : V} {c : Cls} (h : Cp K H v c) : Dp K H v c.pd := by
  obtain ⟨a, ap, ak, am, rfl, q, h1, h2, h3⟩ := h
  exact .tup q (.cons (.str _) (.cons (ps_dp h1) (.cons (ks_dp h2) (.cons (ms_dp h3) .nil))))
theorem cs_dp {a : Addr} {cs : List Cls} (h : CsAt K H a cs) : Dp K H (.ref a) (csD cs) := by
  obtain ⟨xs, q, r⟩ := h
  exact .tup q (dpAll_of (fun v p z => cp_dp z) r)
end
theorem lay_all {ds : List PyData} : (∀ d ∈ ds, d.canLay0 = true) → PyData.canLayAll0 ds = true := fun h => by
  induction ds with
  | nil => simp [PyData.canLayAll0]
  | cons d ds ih => simp [PyData.canLayAll0, h d List.mem_cons_self, ih fun x hx => h x (List.mem_cons_of_mem _ hx)]
theorem depth_all {ds : List PyData} {n : Nat} : (∀ d ∈ ds, d.depth ≤ n) → PyData.depthAll ds ≤ n := fun h => by
  induction ds with
  | nil => simp [PyData.depthAll]
  | cons d ds ih =>
    have h1 := h d List.mem_cons_self
    have h2 := ih fun x hx => h x (List.mem_cons_of_mem _ hx)
    simp only [PyData.depthAll]
    omega
theorem lay_map {α : Type} {xs : List α} {g : α → PyData} {n : Nat} (h : ∀ x ∈ xs, (g x).canLay0 = true ∧ (g x).depth ≤ n) : (PyData.tuple (xs.map g)).canLay0 = true ∧ (PyData.tuple (xs.map g)).depth ≤ n + 1 := by
  constructor
  · simp only [PyData.canLay0]
    refine lay_all fun d hd => ?_
    obtain ⟨x, hx, rfl⟩ := List.mem_map.mp hd
    exact (h x hx).1
  · simp only [PyData.depth]
    have := depth_all (n := n) (ds := xs.map g) fun d hd => by
      obtain ⟨x, hx, rfl⟩ := List.mem_map.mp hd
      exact (h x hx).2
    omega
theorem way_strOk : ∀ x ∈ wayz ++ varz, PyData.strOk x = true := by decide +kernel
theorem cls_lay {c : Cls} (h : c.ok) : c.pd.canLay0 = true ∧ c.pd.depth ≤ 12 := by
  have h1 : (psD c.ps).canLay0 = true ∧ (psD c.ps).depth ≤ 2 := lay_map fun p hp => by
    have e1 := let_strOk (h.pl p hp).1
    have e2 := way_strOk p.2 (List.mem_append_right _ (h.pl p hp).2)
    simp [PyData.canLay0, PyData.canLayAll0, PyData.depth, PyData.depthAll, e1, e2]
  have h2 : (ksD c.ks).canLay0 = true ∧ (ksD c.ks).depth ≤ 8 := lay_map fun k hk => by
    obtain ⟨a, _, b, _⟩ := h.kk k hk
    have := pd_dsz k
    exact ⟨pd_lay a, by omega⟩
  have h3 : (msD c.ms).canLay0 = true ∧ (msD c.ms).depth ≤ 9 := lay_map fun m hm => by
    obtain ⟨a, b, d, e, _⟩ := h.ml m hm
    have e1 := nam_strOk a
    have e2 := way_strOk m.2.1 (List.mem_append_left _ b)
    have e3 := pd_lay d
    have := pd_dsz m.2.2
    simp [PyData.canLay0, PyData.canLayAll0, PyData.depth, PyData.depthAll, e1, e2, e3]
    omega
  have e := nam_strOk h.n
  unfold Cls.pd
  simp only [PyData.canLay0, PyData.canLayAll0, PyData.depth, PyData.depthAll, e, h1.1, h2.1, h3.1, Bool.and_self, true_and]
  omega
theorem cs_shaped {cs : List Cls} (h : ∀ c ∈ cs, c.ok) : SeqAt.shaped (csD cs) = true := by
  have := lay_map (xs := cs) (g := Cls.pd) (n := 12) fun c hc => cls_lay (h c hc)
  show ((csD cs).canLay0 && decide ((csD cs).depth ≤ 64)) = true
  rw [Bool.and_eq_true, decide_eq_true_eq]
  exact ⟨this.1, by have := this.2; unfold csD; omega⟩
/-! data of texts and tuples alone: equal exactly if the same -/
mutual
def tx : PyData → Bool
  | .str _ => true
  | .tuple xs => txAll xs
  | .none => false
  | .bool _ => false
  | .int _ => false
  | .list _ => false
  | .dict _ => false
def txAll : List PyData → Bool
  | [] => true
  | x :: xs => tx x && txAll xs
end
mutual
theorem eqv_tx : ∀ a b : PyData, tx a = true → tx b = true → (PyData.eqv a b = true ↔ a = b)
  | .str x, .str y, _, _ => by simp [PyData.eqv]
  | .tuple xs, .tuple ys, h, h2 => by
    simp only [tx] at h h2
    have := eqvAll_tx xs ys h h2
    simp only [PyData.eqv]
    rw [this]
    constructor
    · intro e; rw [e]
    · intro e; exact PyData.tuple.inj e
  | .str x, .tuple ys, _, _ => by simp [PyData.eqv]
  | .tuple xs, .str y, _, _ => by simp [PyData.eqv]
  | .none, _, h, _ => by simp [tx] at h
  | .bool _, _, h, _ => by simp [tx] at h
  | .int _, _, h, _ => by simp [tx] at h
  | .list _, _, h, _ => by simp [tx] at h
  | .dict _, _, h, _ => by simp [tx] at h
  | .str _, .none, _, h => by simp [tx] at h
  | .str _, .bool _, _, h => by simp [tx] at h
  | .str _, .int _, _, h => by simp [tx] at h
  | .str _, .list _, _, h => by simp [tx] at h
  | .str _, .dict _, _, h => by simp [tx] at h
  | .tuple _, .none, _, h => by simp [tx] at h
  | .tuple _, .bool _, _, h => by simp [tx] at h
  | .tuple _, .int _, _, h => by simp [tx] at h
  | .tuple _, .list _, _, h => by simp [tx] at h
  | .tuple _, .dict _, _, h => by simp [tx] at h
theorem eqvAll_tx : ∀ xs ys : List PyData, txAll xs = true → txAll ys = true → (PyData.eqvAll xs ys = true ↔ xs = ys)
  | [], [], _, _ => by simp [PyData.eqvAll]
  | [], _ :: _, _, _ => by simp [PyData.eqvAll]
  | _ :: _, [], _, _ => by simp [PyData.eqvAll]
  | x :: xs, y :: ys, h, h2 => by
    simp only [txAll, Bool.and_eq_true] at h h2
    simp only [PyData.eqvAll, Bool.and_eq_true]
    rw [eqv_tx x y h.1 h2.1, eqvAll_tx xs ys h.2 h2.2]
    simp
end
theorem tx_all {ds : List PyData} : (∀ d ∈ ds, tx d = true) → txAll ds = true := fun h => by
  induction ds with
  | nil => simp [txAll]
  | cons d ds ih => simp [txAll, h d List.mem_cons_self, ih fun x hx => h x (List.mem_cons_of_mem _ hx)]
theorem tx_map {α : Type} {xs : List α} {g : α → PyData} (h : ∀ x, tx (g x) = true) : tx (.tuple (xs.map g)) = true := by
  simp only [tx]
  refine tx_all fun d hd => ?_
  obtain ⟨x, hx, rfl⟩ := List.mem_map.mp hd
  exact h x
theorem tx_kd : ∀ k : Kd, tx k.pd = true
  | .L c => by simp [Kd.pd, tx]
  | .C0 n => by simp [Kd.pd, tx, txAll]
  | .C1 n a => by simp [Kd.pd, tx, txAll, tx_kd a]
  | .C2 n a b => by simp [Kd.pd, tx, txAll, tx_kd a, tx_kd b]
theorem tx_cls (c : Cls) : tx c.pd = true := by
  have h1 : tx (psD c.ps) = true := tx_map fun p => by simp [tx, txAll]
  have h2 : tx (ksD c.ks) = true := tx_map tx_kd
  have h3 : tx (msD c.ms) = true := tx_map fun m => by simp [tx, txAll, tx_kd]
  simp [Cls.pd, tx, txAll, h1, h2, h3]
theorem tx_cs (cs : List Cls) : tx (csD cs) = true := tx_map tx_cls
theorem eqv_refl (cs : List Cls) : PyData.eqv (csD cs) (csD cs) = true := (eqv_tx _ _ (tx_cs _) (tx_cs _)).mpr rfl
theorem eqv_comm (cs ds : List Cls) : PyData.eqv (csD cs) (csD ds) = PyData.eqv (csD ds) (csD cs) := by
  rw [Bool.eq_iff_iff, eqv_tx _ _ (tx_cs _) (tx_cs _), eqv_tx _ _ (tx_cs _) (tx_cs _)]
  exact ⟨fun e => e.symm, fun e => e.symm⟩
theorem eqv_more (cs : List Cls) (c : Cls) : PyData.eqv (csD cs) (csD (cs ++ [c])) = false := by
  rw [Bool.eq_false_iff]
  intro h
  have := PyData.tuple.inj ((eqv_tx _ _ (tx_cs _) (tx_cs _)).mp h)
  have := congrArg List.length this
  simp at this
end N

namespace N
open PySem PySem.Spec PyProof.Rows L2 StX
/-! ### == , != and in of tables -/
def Tys : List String := ["NoneType", "bool", "int", "str", "list", "tuple", "dict"]
structure TabE (K : PySem.W.Frag) (C f : Addr) : Prop where
  eq : PySem.W.findIn K (.ref C) "__eq__" = some (some (.ref f))
  fn : PySem.W.isFn K (.ref f) = true
  ne : PySem.W.findIn K (.ref C) "__ne__" = some (some (.builtin "object.__ne__"))
  obj : PySem.W.mroIn K C (.type "object") = some true
  mro : ∀ T ∈ Tys, PySem.W.mroIn K C (.type T) = some false
theorem notFirst_ty {K : PySem.W.Frag} {C : Addr} : ∀ T ∈ Tys, PySem.W.notFirst K C (.type T) = true := fun T h => by
  simp only [Tys, List.mem_cons, List.not_mem_nil, or_false] at h
  rcases h with rfl | rfl | rfl | rfl | rfl | rfl | rfl <;> rfl
/-- the answer of a == y, a table at a -/
def AnsT (K : PySem.W.Frag) (C : Addr) (H : Hp) (a : Addr) (y : V) (b : Bool) : Prop := (∃ d fs T, H a = some (.ins C d fs) ∧ TyB K H y T ∧ T ∈ Tys ∧ b = false) ∨
  ∃ a' cs cs', y = .ref a' ∧ TabAt K C H (.ref a) cs ∧ TabAt K C H (.ref a') cs' ∧ (∀ c ∈ cs, c.ok) ∧ (∀ c ∈ cs', c.ok) ∧ b = PyData.eqv (csD cs) (csD cs')
theorem tyb_same {K : PySem.W.Frag} {H H' : Hp} {y : V} {T : String} (s : Same H H') (h : TyB K H y T) : TyB K H' y T := by
  cases h with
  | non => exact .non
  | bl b => exact .bl b
  | int i => exact .int i
  | str x => exact .str x
  | byt b => exact .byt b
  | lst h => exact .lst (s.seq h)
  | tup h => exact .tup ((stay_same s).tup _ _ h)
  | dK h => exact .dK (s _ _ h)
theorem AnsT.same {K : PySem.W.Frag} {C a : Addr} {H H' : Hp} {y : V} {b : Bool} (s : Same H H') (h : AnsT K C H a y b) : AnsT K C H' a y b := by
  rcases h with ⟨d, fs, T, h1, h2, h3, h4⟩ | ⟨a', cs, cs', e, h1, h2, h3, h4, h5⟩
  · exact .inl ⟨d, fs, T, s _ _ h1, tyb_same s h2, h3, h4⟩
  · exact .inr ⟨a', cs, cs', e, h1.stay s, h2.stay s, h3, h4, h5⟩
def spTeq (K : PySem.W.Frag) (C : Addr) : Sp := fun vs H Q _ => ∃ a y b, vs = [.ref a, y] ∧ AnsT K C H a y b ∧ ∀ H', Same H H' → Q (.bl b) H'
/-- somewhere below the running body, no repr under way -/
structure SubG (X : Cx) (n : Nat) (A : Around) : Prop where
  room : RoomG n A
  fr : A.frames = X.A.frames
theorem SubG.in1 {X : Cx} {n : Nat} {A : Around} (s : SubG X (n + 1) A) : SubG X n A.in1 := ⟨⟨s.room.toRoom.in1, s.room.gs⟩, s.fr⟩
theorem SubG.mono {X : Cx} {n m : Nat} {A : Around} (s : SubG X n A) (h : m ≤ n) : SubG X m A := ⟨s.room.mono h, s.fr⟩
section
variable {X : Cx} {A : Around} {pins : List (Addr × Obj)} {σ : L2.St} {H : Hp} {s : Shared} {n : Nat} {C f a : Addr} {sp : Sp} {y : V} {u : Value} {b : Bool}
theorem runA {Q : VK} {us : List Value} {vs : List V} (F : FnS X.prog X.w X.K X.mg X.base n f sp) (sb : SubG X n A) (I : Inv X pins σ H s) (r : Vals vs us) (h : sp vs H Q E0) :
    codeAny (model X.prog X.w) A (.call (.ref f) ⟨us, []⟩) (fun r s' => match r with | .ok (.ret v) => EP X pins σ Q v s' | .ok _ => False | .error e => X.xe e s') s := by
  have e0 : Env0 X.prog X.w X.K X.mg X.base A X.stack s H := by
    have e := I.env0
    exact ⟨by rw [sb.fr]; exact e.frames, e.mod, e.bs, e.bsz, e.funs, e.frf, e.hok, e.bare⟩
  refine codeAny_mono (F A X.stack s H us vs Q E0 sb.room e0 r h) fun res s' hq => ?_
  match res, hq with
  | .error e, hq => exact passL pins σ H s e s' I hq
  | .ok (.ret u), hq => exact I.after hq
  | .ok .next, hq => exact False.elim hq
  | .ok .brk, hq => exact False.elim hq
  | .ok .cont, hq => exact False.elim hq
theorem looks_type {M : Model} {T : String} (h : s.TypeIs u T) : PySem.W.Looks M s.heap (typeOf u) (.type T) := by
  intro A Q E s' k q
  refine wpAny_typeOf ?_ q
  cases u <;> first | exact h | skip
  obtain ⟨o, h1, h2⟩ := h
  exact ⟨o, k _ _ h1, h2⟩
theorem tab_inst (I : Inv X pins σ H s) (ans : AnsT X.K C H a y b) : ∃ od dx, PySem.W.InstAt s.heap a (PySem.W.instObj C dx) C od := by
  have key : ∀ d fs, H a = some (.ins C d fs) → ∃ od dx, PySem.W.InstAt s.heap a (PySem.W.instObj C dx) C od := fun d fs h => by
    obtain ⟨mA, J, _⟩ := ins_get I.hok h
    obtain ⟨od, J, _⟩ := J.look
    exact ⟨_, _, J⟩
  rcases ans with ⟨d, fs, T, h1, _⟩ | ⟨a', cs, cs', e, ⟨a2, d, p, e2, h1, _⟩, _⟩
  · exact key d fs h1
  · cases e2
    exact key d _ h1

/-- a == y -/
theorem rcT (T : TabE X.K C f) (F : FnS X.prog X.w X.K X.mg X.base n f (spTeq X.K C)) (sb : SubG X n A) (I : Inv X pins σ H s) (ry : RelV y u) (ans : AnsT X.K C H a y b) :
    wpAny (model X.prog X.w) A (richCompare .Eq (.ref a) u) (fun r s' => r = .bool b ∧ ∃ H', Inv X pins σ H' s' ∧ Same H H') X.xe s := by
  obtain ⟨od, dx, J⟩ := tab_inst I ans
  obtain ⟨m, hF⟩ := I.fr
  obtain ⟨tb, hb, hn⟩ : ∃ tb, PySem.W.Looks (model X.prog X.w) s.heap (typeOf u) tb ∧ PySem.W.notFirst X.K C tb = true := by
    rcases ans with ⟨d, fs, Ty, h1, h2, h3, _⟩ | ⟨a', cs, cs', e, _, ⟨a2, d, p, e2, h1, _⟩, _⟩
    · exact ⟨_, looks_type (TyB.is I ry h2), notFirst_ty _ h3⟩
    · subst e
      cases (show u = Value.ref a' from ry)
      cases e2
      obtain ⟨mA, J', _⟩ := ins_get I.hok h1
      obtain ⟨od', J', _⟩ := J'.look
      exact ⟨_, J'.type, by simp [PySem.W.notFirst]⟩
  refine PySem.W.cmp_K (op := .Eq) (tb := tb) sb.room.toRoom.units0 hF I.ok.mod.kin J hb hn T.eq T.fn ?_
  refine wpAny_call (codeAny_mono (runA (us := [.ref a, u]) (vs := [.ref a, y]) (Q := fun v H' => v = .bl b ∧ Same H H') F sb I (.cons rfl (.cons ry .nil)) ⟨a, y, b, rfl, ans, fun H' s' => ⟨rfl, s'⟩⟩) fun r s' hq => ?_)
  match r, hq with
  | .error e, hq => exact hq
  | .ok .next, hq => exact hq.elim
  | .ok .brk, hq => exact hq.elim
  | .ok .cont, hq => exact hq.elim
  | .ok (.ret v), hq =>
    obtain ⟨z, H', I', rz, ez, ex⟩ := hq
    subst ez
    cases rz
    exact ⟨rfl, H', I', ex⟩
/-- a != y -/
theorem neT (T : TabE X.K C f) (F : FnS X.prog X.w X.K X.mg X.base n f (spTeq X.K C)) (sb : SubG X (n + 1) A) (I : Inv X pins σ H s) (ry : RelV y u) (ans : AnsT X.K C H a y b) :
    wpAny (model X.prog X.w) A (richCompare .NotEq (.ref a) u) (fun r s' => r = .bool (!b) ∧ ∃ H', Inv X pins σ H' s' ∧ Same H H') X.xe s := by
  obtain ⟨od, dx, J⟩ := tab_inst I ans
  obtain ⟨tb, hb, hn⟩ : ∃ tb, PySem.W.Looks (model X.prog X.w) s.heap (typeOf u) tb ∧ PySem.W.notFirst X.K C tb = true := by
    rcases ans with ⟨d, fs, Ty, h1, h2, h3, _⟩ | ⟨a', cs, cs', e, _, ⟨a2, d, p, e2, h1, _⟩, _⟩
    · exact ⟨_, looks_type (TyB.is I ry h2), notFirst_ty _ h3⟩
    · subst e
      cases (show u = Value.ref a' from ry)
      cases e2
      obtain ⟨mA, J', _⟩ := ins_get I.hok h1
      obtain ⟨od', J', _⟩ := J'.look
      exact ⟨_, J'.type, by simp [PySem.W.notFirst]⟩
  refine OwnQ.ne_K sb.in1.room.toRoom.units0 I.kIn J hb hn T.ne T.obj T.eq T.fn ?_
  refine codeAny_mono (runA (us := [.ref a, u]) (vs := [.ref a, y]) (Q := fun v H' => v = .bl b ∧ Same H H') F sb.in1 I (.cons rfl (.cons ry .nil)) ⟨a, y, b, rfl, ans, fun H' s' => ⟨rfl, s'⟩⟩) fun r s' hq => ?_
  match r, hq with
  | .error e, hq => exact hq
  | .ok .next, hq => exact hq.elim
  | .ok .brk, hq => exact hq.elim
  | .ok .cont, hq => exact hq.elim
  | .ok (.ret v), hq =>
    obtain ⟨z, H', I', rz, ez, ex⟩ := hq
    subst ez
    cases rz
    exact ⟨b, rfl, rfl, H', I', ex⟩
/-- y == a, y of a built-in type -/
theorem rcR {Ty : String} {d : Addr} {fs : List (Str × V)} (T : TabE X.K C f) (F : FnS X.prog X.w X.K X.mg X.base n f (spTeq X.K C)) (sb : SubG X n A) (I : Inv X pins σ H s) (ry : RelV y u) (ha : H a = some (.ins C d fs)) (hy : TyB X.K H y Ty) (hT : Ty ∈ Tys) :
    wpAny (model X.prog X.w) A (richCompare .Eq u (.ref a)) (fun r s' => r = .bool false ∧ ∃ H', Inv X pins σ H' s' ∧ Same H H') X.xe s := by
  have ans : AnsT X.K C H a y false := .inl ⟨d, fs, Ty, ha, hy, hT, rfl⟩
  obtain ⟨od, dx, J⟩ := tab_inst I ans
  have X1 := I.kIn
  have hu := sb.room.toRoom.units0
  have own : wpAny (model X.prog X.w) A (call (.ref f) [.ref a, u]) (PySem.W.CmpBack (fun r s' => r = .bool false ∧ ∃ H', Inv X pins σ H' s' ∧ Same H H')) X.xe s := by
    refine wpAny_call (codeAny_mono (runA (us := [.ref a, u]) (vs := [.ref a, y]) (Q := fun v H' => v = .bl false ∧ Same H H') F sb I (.cons rfl (.cons ry .nil)) ⟨a, y, false, rfl, ans, fun H' s' => ⟨rfl, s'⟩⟩) fun r s' hq => ?_)
    match r, hq with
    | .error e, hq => exact hq
    | .ok .next, hq => exact hq.elim
    | .ok .brk, hq => exact hq.elim
    | .ok .cont, hq => exact hq.elim
    | .ok (.ret v), hq =>
      obtain ⟨z, H', I', rz, ez, ex⟩ := hq
      subst ez
      cases rz
      exact ⟨rfl, H', I', ex⟩
  have ht := TyB.is I ry hy
  have hm := T.mro Ty hT
  cases hy with
  | byt b => simp [Tys] at hT
  | non => 
    cases (show u = Value.none from ry)
    exact OwnQ.refl_K hu X1 J ht hm PySem.F.slot_NoneType_eq (fun _ q => OwnQ.dec_none q) T.eq T.fn own
  | bl b =>
    cases (show u = Value.bool b from ry)
    exact OwnQ.refl_K hu X1 J ht hm PySem.F.slot_bool_eq (fun _ q => OwnQ.dec_bool J.at_ q) T.eq T.fn own
  | int i =>
    obtain ⟨t, rfl⟩ := (show ∃ t, u = Value.int i t from ry)
    exact OwnQ.refl_K hu X1 J ht hm PySem.F.slot_int_eq (fun _ q => OwnQ.dec_int J.at_ q) T.eq T.fn own
  | str x =>
    obtain ⟨t, rfl⟩ := (show ∃ t, u = Value.str x t from ry)
    exact OwnQ.refl_K hu X1 J ht hm PySem.F.slot_str_eq (fun _ q => OwnQ.dec_str J.at_ q) T.eq T.fn own
  | @lst p xs h =>
    cases (show u = Value.ref p from ry)
    obtain ⟨its, r, pl, hz⟩ := I.list h
    obtain ⟨⟨cls, dd, data, sl⟩, ho, hc, k, hd⟩ := pl.isList
    simp only at hc hd
    subst hc hd
    exact OwnQ.refl_K hu X1 J ht hm PySem.F.slot_list_eq (fun _ q => OwnQ.dec_list ho X1 J hm q) T.eq T.fn own
  | @tup p xs h =>
    cases (show u = Value.ref p from ry)
    obtain ⟨its, r, pl, hz⟩ := I.tuple h
    obtain ⟨⟨cls, dd, data, sl⟩, ho, hc, k, hd⟩ := pl
    simp only at hc hd
    subst hc hd
    exact OwnQ.refl_K hu X1 J ht hm PySem.F.slot_tuple_eq (fun _ q => OwnQ.dec_tup ho X1 J hm q) T.eq T.fn own
  | @dK p kvs h =>
    cases (show u = Value.ref p from ry)
    obtain ⟨o, ho, hc⟩ := id ht
    exact OwnQ.refl_K hu X1 J ht hm PySem.F.slot_dict_eq (fun _ q => OwnQ.dec_dict ho hc X1 J hm q) T.eq T.fn own

/-- y == a within a list -/
theorem ebR {Ty : String} {d : Addr} {fs : List (Str × V)} (T : TabE X.K C f) (F : FnS X.prog X.w X.K X.mg X.base n f (spTeq X.K C)) (sb : SubG X n A) (I : Inv X pins σ H s) (ry : RelV y u) (ha : H a = some (.ins C d fs)) (hy : TyB X.K H y Ty) (hT : Ty ∈ Tys) :
    wpAny (model X.prog X.w) A (eqBool u (.ref a)) (fun r s' => r = false ∧ ∃ H', Inv X pins σ H' s' ∧ Same H H') X.xe s := by
  have h := rcR T F sb I ry ha hy hT
  have ans : AnsT X.K C H a y false := .inl ⟨d, fs, Ty, ha, hy, hT, rfl⟩
  obtain ⟨od, dx, J⟩ := tab_inst I ans
  have ht := TyB.is I ry hy
  have hne : u ≠ Value.ref a := fun e => by
    subst e
    obtain ⟨o, h1, h2⟩ := (show ∃ o, s.heap.get? a = some o ∧ o.cls = .type Ty from ht)
    rw [J.at_] at h1
    cases h1
    cases h2
  unfold eqBool
  refine wpAny_holding ?_
  refine wpAny_ite_split (fun hab => absurd (eq_of_beq hab) hne) (fun _ => ?_)
  have fin : wpAny (model X.prog X.w) A (richCompare .Eq u (.ref a) >>= truthOfDropped) (fun r s' => r = false ∧ ∃ H', Inv X pins σ H' s' ∧ Same H H') X.xe s := by
    refine wpAny_bind (wpAny_mono h (fun v s' hv => ?_) fun _ _ x => x)
    obtain ⟨rfl, q⟩ := hv
    exact wpAny_truthy_bool ⟨rfl, q⟩
  cases u <;> exact fin
theorem ebT {a' : Addr} (T : TabE X.K C f) (F : FnS X.prog X.w X.K X.mg X.base n f (spTeq X.K C)) (sb : SubG X n A) (I : Inv X pins σ H s) (hne : a' ≠ a) (ans : AnsT X.K C H a' (.ref a) b) :
    wpAny (model X.prog X.w) A (eqBool (.ref a') (.ref a)) (fun r s' => r = b ∧ ∃ H', Inv X pins σ H' s' ∧ Same H H') X.xe s := by
  refine GQ.eqBool_refG hne (wpAny_mono (rcT (y := .ref a) (u := .ref a) T F sb I rfl ans) (fun r s' q => ?_) fun _ _ x => x)
  obtain ⟨hr, q⟩ := q
  exact ⟨b, hr, rfl, q⟩
/-- an item of the list in which a table is sought, and whether it is equal -/
def ItT (K : PySem.W.Frag) (C : Addr) (H : Hp) (a : Addr) (y : V) (b : Bool) : Prop := (∃ d fs T, H a = some (.ins C d fs) ∧ TyB K H y T ∧ T ∈ Tys ∧ b = false) ∨ ∃ a', y = .ref a' ∧ a' ≠ a ∧ AnsT K C H a' (.ref a) b
theorem ItT.same {K : PySem.W.Frag} {H H' : Hp} (s : Same H H') (h : ItT K C H a y b) : ItT K C H' a y b := by
  rcases h with ⟨d, fs, T, h1, h2, h3, h4⟩ | ⟨a', e, h1, h2⟩
  · exact .inl ⟨d, fs, T, s _ _ h1, tyb_same s h2, h3, h4⟩
  · exact .inr ⟨a', e, h1, h2.same s⟩
theorem ebI (T : TabE X.K C f) (F : FnS X.prog X.w X.K X.mg X.base n f (spTeq X.K C)) (sb : SubG X n A) (I : Inv X pins σ H s) (ry : RelV y u) (it : ItT X.K C H a y b) :
    wpAny (model X.prog X.w) A (eqBool u (.ref a)) (fun r s' => r = b ∧ ∃ H', Inv X pins σ H' s' ∧ Same H H') X.xe s := by
  rcases it with ⟨d, fs, Ty, h1, h2, h3, h4⟩ | ⟨a', e, h1, h2⟩
  · subst h4
    exact ebR T F sb I ry h1 h2 h3
  · subst e
    cases (show u = Value.ref a' from ry)
    exact ebT T F sb I h1 h2
def rInT (K : PySem.W.Frag) (C : Addr) : R2 := fun x y H Q => ∃ (a p : Addr) (ys : List V) (bs : List Bool), x = .ref a ∧ y = .ref p ∧ H p = some (.lst ys) ∧ Paired (fun y b => ItT K C H a y b) ys bs ∧ ∀ H', Same H H' → Q (.bl (bs.any id)) H'
theorem any_at : ∀ (bs : List Bool) (k : Nat), (List.range' k bs.length).any (fun i => bs.getD (i - k) false) = bs.any id
  | [], k => rfl
  | b :: bs, k => by
    rw [List.length_cons, List.range'_succ, List.any_cons, List.any_cons, Nat.sub_self]
    have h : (List.range' (k + 1) bs.length).any (fun i => (b :: bs).getD (i - k) false) = (List.range' (k + 1) bs.length).any (fun i => bs.getD (i - (k + 1)) false) := by
      have e : ∀ i ∈ List.range' (k + 1) bs.length, (b :: bs).getD (i - k) false = bs.getD (i - (k + 1)) false := fun i hi => by
        have := (List.mem_range'_1.mp hi).1
        have e2 : i - k = i - (k + 1) + 1 := by omega
        rw [e2, List.getD_cons_succ]
      rw [Bool.eq_iff_iff, List.any_eq_true, List.any_eq_true]
      exact ⟨fun ⟨i, h1, h2⟩ => ⟨i, h1, by rw [← e i h1]; exact h2⟩, fun ⟨i, h1, h2⟩ => ⟨i, h1, by rw [e i h1]; exact h2⟩⟩
    rw [h, any_at bs (k + 1)]
    rfl
theorem op_inT (T : TabE X.K C f) (F : FnS X.prog X.w X.K X.mg X.base n f (spTeq X.K C)) (hr : RoomG (n + 1) X.A) : OpR X (compareOp .In) (rInT X.K C) := by
  intro pins s σ H x y v u Q I rx ry h
  obtain ⟨a, p, ys, bs, rfl, rfl, hp, hi, q⟩ := h
  cases rx
  cases ry
  have sb : SubG X (n + 1) X.A := ⟨hr, rfl⟩
  refine OwnQ.in_listG p bs.length (.ref a) (fun s' => ∃ H', Inv X pins σ H' s' ∧ Same H H') (fun i => bs.getD i false) (fun s' ⟨H', I', sm⟩ => ?_) (fun s' ⟨H', I', sm⟩ => ?_) ⟨H, I, Same.refl _⟩
  · obtain ⟨_, its, k, r, e⟩ := I'.hok p _ (sm _ _ hp)
    have hl : its.length = bs.length := by rw [← r.length]; exact Paired.length hi
    refine ⟨its.toArray, k, e, by rw [List.size_toArray]; exact hl, fun i h1 => ?_⟩
    have h2 : i < its.length := by simpa using h1
    have h3 : i < ys.length := by rw [r.length]; exact h2
    obtain ⟨u, hu, ru⟩ := r.get (List.getElem?_eq_getElem h3)
    have g1 : its[i]? = some its.toArray[i] := by rw [List.getElem?_eq_getElem h2] <;> simp
    rw [g1] at hu
    rw [Option.some.inj hu]
    obtain ⟨b, hb, hit⟩ := pairedAt hi (List.getElem?_eq_getElem h3)
    have eb : bs.getD i false = b := by rw [List.getD_eq_getElem?_getD, hb]; rfl
    refine wpAny_mono (ebI T F sb.in1 I' ru (hit.same sm)) (fun r s2 z => ?_) fun _ _ x => x
    obtain ⟨z1, H2, I2, z2⟩ := z
    exact ⟨z1.trans eb.symm, H2, I2, sm.trans z2⟩
  · have := any_at bs 0
    simp only [Nat.sub_zero] at this
    rw [this]
    exact ⟨.bl _, H', I', rfl, q H' sm⟩
def rEqT (K : PySem.W.Frag) (C : Addr) : R2 := fun x y H Q => ∃ a b, x = .ref a ∧ AnsT K C H a y b ∧ ∀ H', Same H H' → Q (.bl b) H'
def rNeT (K : PySem.W.Frag) (C : Addr) : R2 := fun x y H Q => ∃ a b, x = .ref a ∧ AnsT K C H a y b ∧ ∀ H', Same H H' → Q (.bl (!b)) H'
def rEqR (K : PySem.W.Frag) (C : Addr) : R2 := fun x y H Q => ∃ a d fs T, y = .ref a ∧ H a = some (.ins C d fs) ∧ TyB K H x T ∧ T ∈ Tys ∧ ∀ H', Same H H' → Q (.bl false) H'
theorem op_eqT (T : TabE X.K C f) (F : FnS X.prog X.w X.K X.mg X.base n f (spTeq X.K C)) (hr : RoomG n X.A) : OpR X (compareOp .Eq) (rEqT X.K C) := by
  intro pins s σ H x y v u Q I rx ry h
  obtain ⟨a, b, rfl, ans, q⟩ := h
  cases rx
  show wpAny (model X.prog X.w) X.A (richCompare .Eq _ u) (EP X pins σ Q) X.xe s
  refine wpAny_mono (rcT T F ⟨hr, rfl⟩ I ry ans) (fun r s' z => ?_) fun _ _ x => x
  obtain ⟨rfl, H', I', e⟩ := z
  exact ⟨.bl b, H', I', rfl, q H' e⟩
theorem op_neT (T : TabE X.K C f) (F : FnS X.prog X.w X.K X.mg X.base n f (spTeq X.K C)) (hr : RoomG (n + 1) X.A) : OpR X (compareOp .NotEq) (rNeT X.K C) := by
  intro pins s σ H x y v u Q I rx ry h
  obtain ⟨a, b, rfl, ans, q⟩ := h
  cases rx
  show wpAny (model X.prog X.w) X.A (richCompare .NotEq _ u) (EP X pins σ Q) X.xe s
  refine wpAny_mono (neT T F ⟨hr, rfl⟩ I ry ans) (fun r s' z => ?_) fun _ _ x => x
  obtain ⟨rfl, H', I', e⟩ := z
  exact ⟨.bl (!b), H', I', rfl, q H' e⟩
theorem op_eqR (T : TabE X.K C f) (F : FnS X.prog X.w X.K X.mg X.base n f (spTeq X.K C)) (hr : RoomG n X.A) : OpR X (compareOp .Eq) (rEqR X.K C) := by
  intro pins s σ H x y v u Q I rx ry h
  obtain ⟨a, d, fs, Ty, rfl, h1, h2, h3, q⟩ := h
  cases ry
  show wpAny (model X.prog X.w) X.A (richCompare .Eq v _) (EP X pins σ Q) X.xe s
  refine wpAny_mono (rcR T F ⟨hr, rfl⟩ I rx h1 h2 h3) (fun r s' z => ?_) fun _ _ x => x
  obtain ⟨rfl, H', I', e⟩ := z
  exact ⟨.bl false, H', I', rfl, q H' e⟩
end
end N

/-! ### repr(x) and x + y by the class's own defs -/
namespace OwnQ
open PySem PySem.W PySem.SeqAt
section
variable {prog : Program} {w : World} {A : Around} {E : Value → Shared → Prop} {s : Shared} {K : Frag} {x C f : Addr} {ox : Obj} {od : Option Obj} {b : Value}
theorem repr_own {Q : Value → Shared → Prop} (hu : A.units + 1 < cLine) (X : K.In s.heap) (I : InstAt s.heap x ox C od) (hs : findIn K (.ref C) "__repr__" = some (some (.ref f))) (hf : isFn K (.ref f) = true)
    (h : codeAny (model prog w) A.in1 (.call (.ref f) ⟨[.ref x], []⟩) (fun r s' => match r with | .ok (.ret v) => ∃ z t, v = .str z t ∧ Q (.str z t) s' | .ok _ => False | .error e => E e s') s) :
    wpAny (model prog w) A (call (.builtin "repr") [.ref x]) Q E s := by
  refine Calls.call_function_entry F.kind_repr F.plain_repr F.entry_repr (F.args_repr1 _) ?_
  unfold Builtin.«repr»
  refine wpAny_bind (m := oneArg "repr" _) (wpAny_pure ?_)
  refine wpAny_bind (wpAny_cRoomFor (show A.in1.units < cLine from hu) ?_)
  have L : Looks (model prog w) s.heap (specialOf (.ref x) "__repr__") (some (.ref f)) := I.type.andThen (looks_findIn X hs)
  refine wpAny_bind (L.here ?_)
  refine wpAny_bind (m := callSpecialIfBound? (.ref x) (Str.ofString "__repr__")) (ifBound_K X I hs hf (wpAny_call (codeAny_mono h fun r s' hq => ?_)))
  match r, hq with
  | .error e, hq => exact hq
  | .ok .next, hq => exact hq.elim
  | .ok .brk, hq => exact hq.elim
  | .ok .cont, hq => exact hq.elim
  | .ok (.ret v), hq =>
    obtain ⟨z, t, rfl, q⟩ := hq
    refine wpAny_bind (wpAny_isInstance (T := "str") (b := true) (typeIs_str _ z t) isSubtype_str_str ?_)
    exact wpAny_pure ⟨_, rfl, q⟩
theorem fills_own {M : Model} {h : Heap} {cd : ClassData} {rest : List Value} (X : K.In h) (hc : clsIn K C = some cd) (hm : cd.mro = .ref C :: rest) (hs : findIn K (.ref C) "__add__" = some (some (.ref f))) : Looks M h (fillsNumberSlot (.ref C) "add") true := by
  unfold fillsNumberSlot
  have L : Looks M h (mroOf (.ref C)) (.ref C :: rest) := hm ▸ (looks_clsIn X hc).andThen .now
  refine L.andThen ?_
  have L2 : Looks M h (typeLookup (.ref C) (dunder "add")) (some (.ref f)) := looks_findIn X hs
  intro A Q E s k q
  simp only [List.anyM]
  refine wpAny_bind (wpAny_bind (wpAny_bind (L2 A _ E s k ?_)))
  have e : (!ownNameWrapper (.ref f) (dunder "add")) = true := rfl
  simp only [e, if_true]
  exact wpAny_pure (wpAny_pure (wpAny_pure q))
/-- x + b, b a tuple -/
theorem add_own {cd : ClassData} {rest : List Value} {Q : Value → Shared → Prop} (X : K.In s.heap) (I : InstAt s.heap x ox C od) (hc : clsIn K C = some cd) (hm : cd.mro = .ref C :: rest) (hs : findIn K (.ref C) "__add__" = some (some (.ref f))) (hf : isFn K (.ref f) = true) (hb : s.TypeIs b "tuple")
    (h : codeAny (model prog w) A (.call (.ref f) ⟨[.ref x, b], []⟩) (fun r s' => match r with | .ok (.ret v) => CmpBack Q v s' | .ok _ => False | .error e => E e s') s) : wpAny (model prog w) A (binaryOp .Add (.ref x) b) Q E s := by
  have one : wpAny (model prog w) A (tryMethod (.ref x) (dunder "add") b) (fun r s' => ∃ v, r = some v ∧ Q v s') E s := by
    unfold tryMethod callSpecial?
    have L : Looks (model prog w) s.heap (specialOf (.ref x) (dunder "add")) (some (.ref f)) := I.type.andThen (looks_findIn X hs)
    refine wpAny_bind (wpAny_bind (L.here ?_))
    refine wpAny_holding (wpAny_bind ((bind_fn X _ (beq_iff_eq.mp hf)).here ?_))
    refine wpAny_bind (wpAny_call (codeAny_mono h fun r s' hq => ?_))
    match r, hq with
    | .error e, hq => exact hq
    | .ok .next, hq => exact hq.elim
    | .ok .brk, hq => exact hq.elim
    | .ok .cont, hq => exact hq.elim
    | .ok (.ret v), hq =>
      refine wpAny_pure ?_
      cases v <;> first | exact hq.elim | exact wpAny_pure ⟨_, rfl, hq⟩
  have bin : wpAny (model prog w) A (binaryOp1 "add" (.ref x) b) (fun r s' => ∃ v, r = some v ∧ Q v s') E s := by
    unfold binaryOp1
    refine wpAny_bind (I.type.here (wpAny_bind (wpAny_typeOf hb ?_)))
    refine wpAny_bind ((fills_own X hc hm hs).here ?_)
    have e1 : (Value.ref C == Value.type "tuple") = false := rfl
    simp only [e1, Bool.false_eq_true, if_false]
    refine wpAny_bind (wpAny_of_eq noFill_tuple_add ?_)
    simp only [Bool.and_false, Bool.false_and, Bool.false_eq_true, if_false, if_true, Bool.true_and]
    refine wpAny_bind (wpAny_pure ?_)
    simp only [Bool.false_eq_true, if_false]
    refine wpAny_bind (wpAny_mono one (fun r s' hq => ?_) fun _ _ e => e)
    obtain ⟨v, rfl, q⟩ := hq
    exact wpAny_pure ⟨_, rfl, q⟩
  unfold binaryOp
  refine wpAny_holding ?_
  refine wpAny_bind (wpAny_mono bin (fun r s' hq => ?_) fun _ _ e => e)
  obtain ⟨v, rfl, q⟩ := hq
  exact wpAny_pure q
end
end OwnQ

namespace OwnQ
open PySem PySem.W
section
variable {M : Model} {A : Around} {E : Value → Shared → Prop} {s : Shared} {K : Frag} {env : Env} {pos p : Pos} {f : Value} {first : List Value} {Q : Value → Shared → Prop} {h₀ : Heap} {e e2 : Expr} {rest : List Expr}
/-- f(*e, e2, ..) -/
theorem evalArgs_star {f : Value} {x : Sem Value} {b : Bool × Sem Value} {rest : List (Bool × Sem Value)} {Q : Args → Shared → Prop}
    (h : wpAny M A (spliced ((true, x) :: b :: rest)) (fun vs s' => Q ⟨vs, []⟩ s') E s) : wpAny M A (evalArgs f true ((true, x) :: b :: rest) []) Q E s := by
  unfold evalArgs
  show wpAny M A (spliced ((true, x) :: b :: rest) >>= _) Q E s
  refine wpAny_bind (wpAny_mono h (fun vs s' h' => ?_) fun _ _ x => x)
  refine wpAny_holding ?_
  exact wpAny_bind (wpAny_pure (wpAny_bind (wpAny_pure (wpAny_pure h'))))
theorem callWith_S3 (_X : K.In h₀) (hk : keepIn K f = true) (h : wpAny M A (spliced (backTo pos (starEach (.Starred e p :: e2 :: rest) env))) (fun vs s₁ => K.In s₁.heap ∧ wpAny M A (call f (first ++ vs)) Q E s₁) E s)
    (he : starEach (.Starred e p :: e2 :: rest) env = (true, eval e env) :: (false, eval e2 env) :: starEach rest env := by rfl) :
    wpAny M A (callWith pos f first (backTo pos (starEach (.Starred e p :: e2 :: rest) env)) []) Q E s := by
  rw [he] at h ⊢
  exact ks_call rfl (keeps_K hk) (evalArgs_star h)
end
end OwnQ
namespace N
open PySem PySem.Spec PyProof.Rows L2 StX
section
variable {X : Cx} {f C : Addr} {e e2 : Expr} {es : List Expr} {t : TA} {p sp_ pos : Pos}
/-- Table(*e, e2, ..), right classes -/
theorem pe_tabS (T : TabC X.K X.mg C) (M : Mk X.K C f) (F : FnS X.prog X.w X.K X.mg X.base 10 f (spTini1 X.K C)) (hr : RoomG 11 X.A) (hg : Gl X "Table") (ha : PA X (.Starred e sp_ :: e2 :: es) t)
    (he : starEach (.Starred e sp_ :: e2 :: es) X.env = (true, eval e X.env) :: (false, eval e2 X.env) :: starEach es X.env := by rfl) : PE X (.Call (.Name "Table" p) (.Starred e sp_ :: e2 :: es) [] pos) (tTab X.K C t) := by
  refine ⟨fun pins s σ H Q I h => wpAny_Call_Name_kw (ld_glob I hg T.gl ?_ (by decide))⟩
  refine OwnQ.callWith_S3 (h₀ := X.base) I.ok.mod.kin M.kp (thn (ha.run pos pins s σ H _ I h) fun us s1 ⟨vs, H1, J, r, cs, hp, ok, q⟩ => ⟨J.kIn, ?_⟩) he
  exact run_mkS M F hr J r fun a d h1 h2 h3 => tab_made hp ok q a d h1 h2 h3
/-- isinstance(e, c), c an own class -/
theorem pe_isiO {p2 : Pos} {te : TE} {c : Str} {C : Addr} (hm : X.mg "isinstance" = none) (hmc : X.mg c = some (.ref C)) (hg : Gl X "isinstance") (hgc : Gl X c) (he : PE X e te) (hdb : (c == ("__debug__" : Str)) = false := by decide)
    (hst2 : starEach [e, .Name c p2] X.env = (false, eval e X.env) :: starEach [.Name c p2] X.env := by rfl) (hpl : (backTo pos (starEach [.Name c p2] X.env)).any (·.1) = false := by rfl) (hs3 : starEach [.Name c p2] X.env = (false, eval (.Name c p2) X.env) :: starEach [] X.env := by rfl) :
    PE X (.Call (.Name "isinstance" p) [e, .Name c p2] [] pos) (fun σ H Q => te σ H fun v H1 => rIsi X.K [v, .ref C] H1 Q) :=
  pe_callB call_isi hg hm (by decide +kernel) (pa_cons he (pa_cons (pe_glob (v := .ref C) hgc hmc rfl hdb) pa_nil hs3) hst2) (by decide) (by decide) hst2 hpl
end
/-- what else is known of the class Table -/
structure TabI (K : PySem.W.Frag) (C : Addr) : Prop where
  ca : PySem.W.findIn K (.ref C) "__class__" = some (some (.builtin "object.__class__"))
  cn : PySem.W.specialIn K (.builtin "object.__class__") "__get__" = some (some (.builtin "getset_descriptor.__get__"))
  ct : PySem.W.takesIn K (.builtin "object.__class__") = some true
  kit : ∀ T ∈ Tys, PySem.W.kitOne K (.type T) (.ref C) = some false
  kitc : PySem.W.kitOne K (.ref C) (.ref C) = some true
structure TabA (K : PySem.W.Frag) (C fa : Addr) : Prop where
  add : PySem.W.findIn K (.ref C) "__add__" = some (some (.ref fa))
  fn : PySem.W.isFn K (.ref fa) = true
  sf : PySem.W.selfFirst K C = true
structure TabR (K : PySem.W.Frag) (C fr : Addr) : Prop where
  rep : PySem.W.findIn K (.ref C) "__repr__" = some (some (.ref fr))
  fn : PySem.W.isFn K (.ref fr) = true
theorem tyx_of {K : PySem.W.Frag} {H : Hp} {y : V} {T : String} (h : TyB K H y T) : TyX K H y (.type T) := by
  cases h with
  | non => exact .base .non
  | bl b => exact .base (.bl b)
  | int i => exact .base (.int i)
  | str x => exact .base (.str x)
  | byt b => exact .byt b
  | lst h =>
    rcases h with (h | ⟨o, h⟩) | ⟨o, its, n, h, c, _⟩
    · exact .base (.lst h)
    · exact .base (.frz h)
    · exact .kList h c
  | tup h => exact SqT.ty h
  | dK h => exact .base (.dK h)
section
variable {X : Cx} {n : Nat} {C f : Addr} {sp : Sp}
def rReprT (C : Addr) (sp : Sp) : List V → Hp → VK → Prop := fun xs H Q => ∃ a d fs, xs = [V.ref a] ∧ H a = some (.ins C d fs) ∧ sp [.ref a] H (fun v H' => ∃ z, v = .str z ∧ Q v H') E0
theorem call_reprT (R : TabR X.K C f) (F : FnS X.prog X.w X.K X.mg X.base n f sp) (hr : RoomG (n + 1) X.A) : CallR X (.builtin "repr") (rReprT C sp) := by
  intro pins s σ H xs us Q I r h
  obtain ⟨a, d, fs, rfl, ha, q⟩ := h
  obtain ⟨u, rfl, ru⟩ := r.one
  cases (show u = Value.ref a from ru)
  obtain ⟨mA, J, _⟩ := ins_get I.hok ha
  obtain ⟨od, J, _⟩ := J.look
  have sb : SubG X (n + 1) X.A := ⟨hr, rfl⟩
  refine OwnQ.repr_own sb.in1.room.toRoom.units0 I.kIn J R.rep R.fn ?_
  refine codeAny_mono (runA (us := [.ref a]) (vs := [.ref a]) F sb.in1 I (.cons rfl .nil) q) fun r s' hq => ?_
  match r, hq with
  | .error e, hq => exact hq
  | .ok .next, hq => exact hq.elim
  | .ok .brk, hq => exact hq.elim
  | .ok .cont, hq => exact hq.elim
  | .ok (.ret v), hq =>
    obtain ⟨z, H', I', rz, w, ez, qz⟩ := hq
    subst ez
    obtain ⟨t, rfl⟩ := rz
    exact ⟨w, t, rfl, .str w, H', I', ⟨t, rfl⟩, qz⟩
def rAddT (K : PySem.W.Frag) (C : Addr) (sp : Sp) : R2 := fun x y H Q => ∃ a b d fs ys, x = .ref a ∧ y = .ref b ∧ H a = some (.ins C d fs) ∧ SqT K H b ys ∧ sp [x, y] H (fun v H' => ∃ z, v = .ref z ∧ Q v H') E0
theorem op_addT (R : TabA X.K C f) (F : FnS X.prog X.w X.K X.mg X.base n f sp) (hr : RoomG n X.A) : OpR X (binaryOp .Add) (rAddT X.K C sp) := by
  intro pins s σ H x y v u Q I rx ry h
  obtain ⟨a, b, d, fs, ys, rfl, rfl, ha, hb, q⟩ := h
  cases rx
  cases ry
  obtain ⟨mA, J, _⟩ := ins_get I.hok ha
  obtain ⟨od, J, _⟩ := J.look
  obtain ⟨cd, hc, hm⟩ := PySem.W.any_some R.sf
  obtain ⟨rest, hm⟩ : ∃ rest, cd.mro = .ref C :: rest := by
    cases e : cd.mro with
    | nil => rw [e] at hm; simp at hm
    | cons z rest =>
      rw [e] at hm
      have : z = .ref C := by simpa using hm
      exact ⟨rest, by rw [this]⟩
  have hT : s.TypeIs (.ref b) "tuple" := TyB.is (x := .ref b) (u := .ref b) I rfl (.tup hb)
  refine OwnQ.add_own I.kIn J hc hm R.add R.fn hT ?_
  refine codeAny_mono (runA (us := [.ref a, .ref b]) (vs := [.ref a, .ref b]) F ⟨hr, rfl⟩ I (.cons rfl (.cons rfl .nil)) q) fun r s' hq => ?_
  match r, hq with
  | .error e, hq => exact hq
  | .ok .next, hq => exact hq.elim
  | .ok .brk, hq => exact hq.elim
  | .ok .cont, hq => exact hq.elim
  | .ok (.ret v), hq =>
    obtain ⟨z, H', I', rz, w, ez, qz⟩ := hq
    subst ez
    cases rz
    exact ⟨.ref w, H', I', rfl, qz⟩
end
end N

namespace N
open PySem PySem.Spec PyProof.Rows L2 StX
/-! ### Table's own defs -/
abbrev nm_Teq : List Str := ["self", "other"]
theorem sc_Teq : FnScope nm_Teq ["self", "other"] (defScope (tabM 5)) := ⟨rfl, rfl, rfl, by decide +kernel, rfl, by decide +kernel, by decide +kernel⟩
abbrev nm_Trepr : List Str := ["self"]
theorem sc_Trepr : FnScope nm_Trepr ["self"] (defScope (tabM 6)) := ⟨rfl, rfl, rfl, by decide +kernel, rfl, by decide +kernel, by decide +kernel⟩
abbrev nm_Tnames : List Str := ["self"]
theorem sc_Tnames : FnScope nm_Tnames ["self"] (defScope (tabM 2)) := ⟨rfl, rfl, rfl, by decide +kernel, rfl, by decide +kernel, by decide +kernel⟩
abbrev nm_Tadd : List Str := ["self", "other"]
theorem sc_Tadd : FnScope nm_Tadd ["self", "other"] (defScope (tabM 9)) := ⟨rfl, rfl, rfl, by decide +kernel, rfl, by decide +kernel, by decide +kernel⟩
section
variable {P : Program} {w : World} {K : PySem.W.Frag} {mg : Str → Option Value} {base : Heap} {C f : Addr} {fd : FuncData}
theorem ok_Teq (G : Glo mg) (T : TabC K mg C) (TI : TabI K C) (ob : PySem.W.mroIn K C (.type "object") = some true) (F : Fun K "__eq__" "Table.__eq__" (tabM 5) f fd)
    (hb : ∀ us : List Value, us.length = nm_Teq.length → bindArgs fd ⟨us, []⟩ = pure (nm_Teq.zip us)) : FnS P w K mg base 1 f (spTeq K C) := by
  refine fnS_of (N := nm_Teq) F sc_Teq hb (fun vs H Q E h => ?_) fun cdv A outer s H vs Q E hr h => ?_
  · obtain ⟨a, y, b, rfl, _⟩ := h
    rfl
  obtain ⟨a, y, b, rfl, ans, q⟩ := h
  refine ⟨_, pss_one (ps_ret (pe_and (pe_isiO G.isinstance T.gl rfl rfl (pv 1)) (pe_one (pe_cmpR (op_eqD hr.units) (pe_fld (pv 0) rfl) (pe_fld (pv 1) rfl) (nomark _))))), ?_⟩
  rcases ans with ⟨d, fs, Ty, h1, h2, h3, h4⟩ | ⟨a', cs, cs', e, ⟨a0, d, p, e0, h1, hc⟩, ⟨a2, d', p', e2, h1', hc'⟩, oks, oks', h4⟩
  · subst h4
    exact ⟨_, rfl, y, .ref C, .type Ty, _, false, rfl, .own C, tyx_of h2, TI.kit Ty h3, false, rfl, iteF (q H (Same.refl _))⟩
  · subst e
    cases e0
    cases e2
    subst h4
    refine ⟨_, rfl, .ref a', .ref C, .ref C, _, true, rfl, .own C, .base (.ins h1' T.c TI.ca TI.cn TI.ct ob), TI.kitc, true, rfl, iteT ?_⟩
    exact ⟨_, rfl, a, C, d, _, .ref p, rfl, h1, T.c, T.na, rfl, _, rfl, a', C, d', _, .ref p', rfl, h1', T.c, T.na, rfl, _, _, cs_dp hc, cs_dp hc', cs_shaped oks, cs_shaped oks', q H (Same.refl _)⟩
def spTrepr (K : PySem.W.Frag) (C : Addr) : Sp := fun vs H Q _ => ∃ a cs, vs = [.ref a] ∧ TabAt K C H (.ref a) cs ∧ cs.length ≤ 5 ∧ ∀ z, Q (.str z) H
theorem num_len : ∀ n : Nat, n < 6 → ((Str.empty ++ ("Table(" : Str)) ++ (toString ((n : Nat) : Int) : Str) ++ (" classes)" : Str)).length ≤ 1000 ∧ ((Str.empty ++ ("Table(" : Str)) ++ (toString ((n : Nat) : Int) : Str)).length ≤ 1000 ∧ ((n : Nat) : Int).natAbs.log2 < 1920 := by decide +kernel
theorem ok_Trepr (G : Glo mg) (T : TabC K mg C) (F : Fun K "__repr__" "Table.__repr__" (tabM 6) f fd)
    (hb : ∀ us : List Value, us.length = nm_Trepr.length → bindArgs fd ⟨us, []⟩ = pure (nm_Trepr.zip us)) : FnS P w K mg base 1 f (spTrepr K C) := by
  refine fnS_of (N := nm_Trepr) F sc_Trepr hb (fun vs H Q E h => ?_) fun cdv A outer s H vs Q E hr h => ?_
  · obtain ⟨a, cs, rfl, _⟩ := h
    rfl
  obtain ⟨a, cs, rfl, ⟨a0, d, p, e0, h1, xs, hc, hp⟩, h5, q⟩ := h
  cases e0
  refine ⟨_, pss_one (ps_ret (pe_joined (.cons pe_str (.cons (pe_fmt (pe_callB call_len_seq (by rfl) G.len PySem.boot_len (pa_cons (pe_fld (pv 0) rfl) pa_nil))) (.cons pe_str .nil))))), ?_⟩
  have hl : xs.length = cs.length := Paired.length hp
  obtain ⟨k1, k2, k3⟩ := num_len xs.length (by omega)
  refine ⟨_, rfl, by decide +kernel, ?_⟩
  refine ⟨_, rfl, a, C, d, _, .ref p, rfl, h1, T.c, T.na, rfl, p, xs, rfl, .inr hc, .inr ⟨_, rfl, k3, _, rfl, sz5 (by omega), _, rfl, sz5 (by omega), q _⟩⟩
def spTnames (K : PySem.W.Frag) (C : Addr) : Sp := fun vs H Q _ => ∃ a cs, vs = [.ref a] ∧ TabAt K C H (.ref a) cs ∧ cs.length ≤ 100 ∧ ∀ H' p, Same H H' → SqT K H' p ((cs.map Cls.nm).map V.str) → Q (.ref p) H'
theorem ok_Tnames (G : Glo mg) (T : TabC K mg C) (CN : Cal P w K mg base 1 "names_of" ["classes"] (spNames K)) (F : Fun K "names" "Table.names" (tabM 2) f fd)
    (hb : ∀ us : List Value, us.length = nm_Tnames.length → bindArgs fd ⟨us, []⟩ = pure (nm_Tnames.zip us)) : FnS P w K mg base 2 f (spTnames K C) := by
  refine fnS_of (N := nm_Tnames) F sc_Tnames hb (fun vs H Q E h => ?_) fun cdv A outer s H vs Q E hr h => ?_
  · obtain ⟨a, cs, rfl, _⟩ := h
    rfl
  obtain ⟨a, cs, rfl, ⟨a0, d, p, e0, h1, hc⟩, hn, q⟩ := h
  cases e0
  refine ⟨_, pss_one (ps_ret (pc CN hr rfl (pa_cons (pe_fld (pv 0) rfl) pa_nil))), ?_⟩
  exact ⟨_, rfl, a, C, d, _, .ref p, rfl, h1, T.c, T.na, rfl, p, cs, rfl, hc, hn, q⟩
def spTadd (K : PySem.W.Frag) (C : Addr) : Sp := fun vs H Q _ => ∃ a b cs c, vs = [.ref a, .ref b] ∧ TabAt K C H (.ref a) cs ∧ Cp K H (.ref b) c ∧ TabOk (cs ++ [c]) ∧ ∀ H' x, Same H H' → H x = none → TabAt K C H' (.ref x) (cs ++ [c]) → Q (.ref x) H'
theorem ok_Tadd {fi : Addr} (T : TabC K mg C) (M : Mk K C fi) (FI : FnS P w K mg base 10 fi (spTini1 K C)) (F : Fun K "__add__" "Table.__add__" (tabM 9) f fd)
    (hb : ∀ us : List Value, us.length = nm_Tadd.length → bindArgs fd ⟨us, []⟩ = pure (nm_Tadd.zip us)) : FnS P w K mg base 12 f (spTadd K C) := by
  refine fnS_of (N := nm_Tadd) F sc_Tadd hb (fun vs H Q E h => ?_) fun cdv A outer s H vs Q E hr h => ?_
  · obtain ⟨a, b, cs, c, rfl, _⟩ := h
    rfl
  obtain ⟨a, b, cs, c, rfl, ⟨a0, d, p, e0, h1, xs, hq, hp⟩, hc, ok, q⟩ := h
  cases e0
  refine ⟨_, pss_one (ps_ret (pe_tabS T M FI hr rfl (pa_star (pe_fld (pv 0) rfl) (pa_cons (pv 1) pa_nil)))), ?_⟩
  exact ⟨_, rfl, a, C, d, _, .ref p, rfl, h1, T.c, T.na, rfl, p, xs, rfl, .inl hq, _, rfl, cs ++ [c], pairs_app hp (.cons hc .nil), ok, fun H2 x s2 hx ht => q H2 x s2 hx ht⟩
end
end N

namespace N
open PySem PySem.Spec PyProof.Rows L2 StX
/-! ### len(t), x in t, t[x], t.f: by the class's own defs -/
theorem noE0 {P : Program} {w : World} {outer : List Env} {H : Hp} {s s' : Shared} {e : Value} (h : L2.CX P w outer H s E0 e s') : False := by
  obtain ⟨_, _, _, _, _, _, _, _, _, _, _, _, z⟩ := h
  exact z
section
variable {X : Cx} {n : Nat} {C p g : Addr} {f : Str} {sp : Sp} {e e2 : Expr} {ta tb : TE} {pos : Pos} {W : WX}
theorem runA0 {A : Around} {pins : List (Addr × Obj)} {σ : L2.St} {H : Hp} {s : Shared} {Q : VK} {us : List Value} {vs : List V} (F : FnS X.prog X.w X.K X.mg X.base n g sp) (sb : SubG X n A) (I : Inv X pins σ H s) (r : Vals vs us) (h : sp vs H Q E0) :
    codeAny (model X.prog X.w) A (.call (.ref g) ⟨us, []⟩) (fun r s' => match r with | .ok (.ret v) => EP X pins σ Q v s' | _ => False) s := by
  have e0 : Env0 X.prog X.w X.K X.mg X.base A X.stack s H := by
    have e := I.env0
    exact ⟨by rw [sb.fr]; exact e.frames, e.mod, e.bs, e.bsz, e.funs, e.frf, e.hok, e.bare⟩
  refine codeAny_mono (F A X.stack s H us vs Q E0 sb.room e0 r h) fun res s' hq => ?_
  match res, hq with
  | .error e, hq => exact noE0 hq
  | .ok (.ret u), hq => exact I.after hq
  | .ok .next, hq => exact False.elim hq
  | .ok .brk, hq => exact False.elim hq
  | .ok .cont, hq => exact False.elim hq
theorem runW {A : Around} {pins : List (Addr × Obj)} {σ : L2.St} {H : Hp} {s : Shared} {Q : VK} {us : List Value} {vs : List V} (tk : Takes X W) (F : FnS X.prog X.w X.K X.mg X.base n g sp) (sb : SubG X n A) (I : Inv X pins σ H s) (r : Vals vs us) (h : sp vs H Q (WE W σ)) :
    codeAny (model X.prog X.w) A (.call (.ref g) ⟨us, []⟩) (fun r s' => match r with | .ok (.ret v) => EP X pins σ Q v s' | .ok _ => False | .error e => X.xe e s') s := by
  have e0 : Env0 X.prog X.w X.K X.mg X.base A X.stack s H := by
    have e := I.env0
    exact ⟨by rw [sb.fr]; exact e.frames, e.mod, e.bs, e.bsz, e.funs, e.frf, e.hok, e.bare⟩
  refine codeAny_mono (F A X.stack s H us vs Q (WE W σ) sb.room e0 r h) fun res s' hq => ?_
  match res, hq with
  | .error e, hq => exact passAt tk σ pins H s e s' I hq
  | .ok (.ret u), hq => exact I.after hq
  | .ok .next, hq => exact False.elim hq
  | .ok .brk, hq => exact False.elim hq
  | .ok .cont, hq => exact False.elim hq
def tPropS (C : Addr) (sp : Sp) (ta : TE) : TE := fun σ H Q => ta σ H fun x H1 => ∃ a dx fs, x = .ref a ∧ H1 a = some (.ins C dx fs) ∧ sp [.ref a] H1 Q E0
/-- e.f, a property: its getter is called -/
theorem pe_propS (he : PE X e ta) (c : L2.Cls X.K C) (hp : PropOf X.K C f p g) (F : FnS X.prog X.w X.K X.mg X.base n g sp) (hr : RoomG (n + 1) X.A) (hab : attributeBase e f X.env (eval e X.env) = eval e X.env) : PE X (.Attribute e f pos) (tPropS C sp ta) := by
  refine ⟨fun pins s σ H Q I h => ?_⟩
  refine attr_of hab (thn (he.run pins s σ H _ I h) fun u s1 ⟨x, H1, I1, rx, a, dx, fs, ex, ea, q⟩ => ?_)
  subst ex
  obtain rfl : u = Value.ref a := rx
  obtain ⟨mA, O, _, _, _, _⟩ := ins_get I1.hok ea
  obtain ⟨od, J, _⟩ := O.look
  obtain ⟨rest, hrec⟩ := hp.rec_
  have I2 := I1.tok (s1.toks + 1)
  have hc : (PySem.W.clsIn X.K C).isSome = true := by
    obtain ⟨cd, hc, _⟩ := PySem.W.any_some c.hd
    rw [hc]
    rfl
  have sb : SubG X (n + 1) X.A := ⟨hr, rfl⟩
  refine PySem.W.get_bind I1.kIn J (PySem.W.plainGet_of (c.get f)).1 (PySem.W.findObj_data hc hp.at_ hp.get hp.tak) (PySem.W.plainGet_of (c.get f)).2 (wpAny_call (PySem.W.prop_get (s := { s1 with toks := s1.toks + 1 }) I1.kIn hrec ?_))
  refine codeAny_mono (runA0 (us := [.ref a]) (vs := [.ref a]) F sb.in1 I2 (.cons rfl .nil) q) fun r s' hq => ?_
  match r, hq with
  | .error e, hq => exact hq.elim
  | .ok .next, hq => exact hq.elim
  | .ok .brk, hq => exact hq.elim
  | .ok .cont, hq => exact hq.elim
  | .ok (.ret v), hq =>
    obtain ⟨z, H', I3, rv, q3⟩ := hq
    show wpAny _ _ (handedOut v) _ _ _
    rw [PySem.W.handedOut_of (handed_of rv)]
    exact wpAny_pure ⟨z, H', I3, rv, q3⟩
/-- x in t -/
def rInC (C : Addr) (sp : Sp) : R2 := fun x y H Q => ∃ a d fs, y = .ref a ∧ H a = some (.ins C d fs) ∧ sp [.ref a, x] H (fun v H' => ∃ b, v = .bl b ∧ Q (.bl b) H') E0
theorem op_inC (hs : PySem.W.findIn X.K (.ref C) "__contains__" = some (some (.ref g))) (hf : PySem.W.isFn X.K (.ref g) = true) (F : FnS X.prog X.w X.K X.mg X.base n g sp) (hr : RoomG n X.A) : OpR X (compareOp .In) (rInC C sp) := by
  intro pins s σ H x y v u Q I rx ry h
  obtain ⟨a, d, fs, rfl, ha, q⟩ := h
  cases ry
  obtain ⟨mA, J, _⟩ := ins_get I.hok ha
  obtain ⟨od, J, _⟩ := J.look
  obtain ⟨m, hF⟩ := I.fr
  refine PySem.W.in_K hF I.ok.mod.kin J hs hf (wpAny_call (codeAny_mono (runA0 (us := [.ref a, v]) (vs := [.ref a, x]) F ⟨hr, rfl⟩ I (.cons rfl (.cons rx .nil)) q) fun r s' hq => ?_))
  match r, hq with
  | .error e, hq => exact hq.elim
  | .ok .next, hq => exact hq.elim
  | .ok .brk, hq => exact hq.elim
  | .ok .cont, hq => exact hq.elim
  | .ok (.ret z), hq =>
    obtain ⟨z', H', I', rz, b, ez, qz⟩ := hq
    subst ez
    cases rz
    exact wpAny_truthy_bool ⟨.bl b, H', I', rfl, qz⟩
/-- len(t) -/
def rLenT (C : Addr) (sp : Sp) : List V → Hp → VK → Prop := fun xs H Q => ∃ a d fs, xs = [V.ref a] ∧ H a = some (.ins C d fs) ∧ sp [.ref a] H (fun v H' => ∃ i : Nat, i ≤ 1000 ∧ v = .int (i : Nat) ∧ Q (.int (i : Nat)) H') E0
theorem call_lenT (hs : PySem.W.findIn X.K (.ref C) "__len__" = some (some (.ref g))) (hf : PySem.W.isFn X.K (.ref g) = true) (F : FnS X.prog X.w X.K X.mg X.base n g sp) (hr : RoomG (n + 1) X.A) : CallR X (.builtin "len") (rLenT C sp) := by
  intro pins s σ H xs us Q I r h
  obtain ⟨a, d, fs, rfl, ha, q⟩ := h
  obtain ⟨u, rfl, ru⟩ := r.one
  cases (show u = Value.ref a from ru)
  obtain ⟨mA, J, _⟩ := ins_get I.hok ha
  obtain ⟨od, J, _⟩ := J.look
  obtain ⟨m, hF⟩ := I.fr
  have sb : SubG X (n + 1) X.A := ⟨hr, rfl⟩
  refine PySem.W.len_K hF I.ok.mod.kin J hs hf (wpAny_call (codeAny_mono (runA0 (us := [.ref a]) (vs := [.ref a]) F sb.in1 I (.cons rfl .nil) q) fun r s' hq => ?_))
  match r, hq with
  | .error e, hq => exact hq.elim
  | .ok .next, hq => exact hq.elim
  | .ok .brk, hq => exact hq.elim
  | .ok .cont, hq => exact hq.elim
  | .ok (.ret z), hq =>
    obtain ⟨z', H', I', rz, i, hi, ez, qz⟩ := hq
    subst ez
    obtain ⟨t, rfl⟩ := rz
    exact ⟨⟨by omega, by omega⟩, .int (i : Nat), H', I'.tok _, ⟨_, rfl⟩, qz⟩
/-- t[x] -/
def tIxT (C : Addr) (sp : Sp) (W : WX) (ta tb : TE) : TE := fun σ H Q => ta σ H fun x H1 => tb σ H1 fun y H2 => ∃ a d fs, x = .ref a ∧ H2 a = some (.ins C d fs) ∧ sp [.ref a, y] H2 Q (WE W σ)
theorem pe_ixTab (tk : Takes X W) (hs : PySem.W.findIn X.K (.ref C) "__getitem__" = some (some (.ref g))) (hf : PySem.W.fnIn X.K g = true) (hfn : PySem.W.isFn X.K (.ref g) = true) (F : FnS X.prog X.w X.K X.mg X.base n g sp) (hr : RoomG (n + 1) X.A)
    (ha : PE X e ta) (hb : PE X e2 tb) (hsl : ∀ (v i : Value), subscripted e2 true v i = runValue (.builtin "lifetime.subscript" ⟨[v, i], []⟩)) : PE X (.Subscript e e2 pos) (tIxT C sp W ta tb) := by
  refine ⟨fun pins s σ H Q I h => ?_⟩
  refine Subscript_ (binT ha hb I (R := fun x y H2 => ∃ a d fs, x = .ref a ∧ H2 a = some (.ins C d fs) ∧ sp [.ref a, y] H2 Q (WE W σ)) h fun v u s2 x y H2 I2 rx ry q => ?_)
  obtain ⟨a, d, fs, rfl, ha2, q⟩ := q
  cases rx
  obtain ⟨mA, J, _⟩ := ins_get I2.hok ha2
  obtain ⟨od, J, _⟩ := J.look
  obtain ⟨m, hF⟩ := I2.fr
  have sb : SubG X (n + 1) X.A := ⟨hr, rfl⟩
  refine PySem.W.sub_K hF I2.ok.mod.kin J hs hf hfn (wpAny_call (codeAny_mono (runW (us := [.ref a, u]) (vs := [.ref a, y]) tk F sb.in1 I2 (.cons rfl (.cons ry .nil)) q) fun r s' hq => ?_)) (hsl _ _)
  match r, hq with
  | .error e, hq => exact hq
  | .ok .next, hq => exact hq.elim
  | .ok .brk, hq => exact hq.elim
  | .ok .cont, hq => exact hq.elim
  | .ok (.ret z), hq => exact hq
end
end N

namespace N
open PySem PySem.Spec PyProof.Rows L2 StX
/-! ### is_of, of any thing, no letters -/
def headOk (ar : List (Str × Nat)) (n : Str) (m : Nat) : Bool := decide (valV (arKV ar) (Sum.inr n : Key) = some (.int (m : Nat)))
theorem ar_vals (n : Str) : ∀ ar : List (Str × Nat), valV (arKV ar) (Sum.inr n : Key) = none ∨ ∃ m : Nat, valV (arKV ar) (Sum.inr n : Key) = some (.int (m : Nat))
  | [] => .inl rfl
  | p :: r => by
    by_cases e : (Sum.inr p.1 : Key) = Sum.inr n
    · exact .inr ⟨p.2, valV_pos (p := (Sum.inr p.1, V.int (p.2 : Nat))) e⟩
    · have e1 : valV (arKV (p :: r)) (Sum.inr n : Key) = valV (arKV r) (Sum.inr n : Key) := valV_neg (p := (Sum.inr p.1, V.int (p.2 : Nat))) e
      rw [e1]
      exact ar_vals n r
mutual
def ofT (ar : List (Str × Nat)) : Tg → Bool
  | .str _ => false
  | .oth => false
  | .tup [] => false
  | .tup (.str n :: ts) => headOk ar n ts.length && ofTAll ar ts
  | .tup (.oth :: _) => false
  | .tup (.tup _ :: _) => false
def ofTAll (ar : List (Str × Nat)) : List Tg → Bool
  | [] => true
  | t :: ts => ofT ar t && ofTAll ar ts
end
theorem ofTAll_app (ar : List (Str × Nat)) : ∀ a b : List Tg, ofTAll ar (a ++ b) = (ofTAll ar a && ofTAll ar b)
  | [], b => by simp [ofTAll]
  | t :: a, b => by simp [ofTAll, ofTAll_app ar a b, Bool.and_assoc]
section
variable {X : Cx}
/-- x not in () -/
theorem op_notIn_nil : OpR X (compareOp .NotIn) (fun _ y H Q => ∃ p, y = .ref p ∧ SqT X.K H p [] ∧ Q (.bl true) H) := by
  intro pins s σ H x y v u Q I rx ry h
  obtain ⟨p, rfl, hq, q⟩ := h
  cases ry
  obtain ⟨its, r, pl, hz⟩ := I.tuple hq
  cases r
  refine SeqAt.notIn_tupleAt (fun _ => false) pl (fun w hw => by simp at hw) ⟨.bl _, H, I, rfl, ?_⟩
  simpa using q
end
theorem th_mem {K : PySem.W.Frag} {H : Hp} : ∀ {vs : List V} {ts : List Tg}, ThAll K H vs ts → vs = [] ∨ ∃ v vs' t ts', vs = v :: vs' ∧ ts = t :: ts' ∧ Th K H v t ∧ ThAll K H vs' ts'
  | _, _, .nil => .inl rfl
  | _, _, .cons h r => .inr ⟨_, _, _, _, rfl, rfl, h, r⟩
theorem isi_tu {K : PySem.W.Frag} {H : Hp} {v : V} {t : Tg} {Q : VK} (h : Th K H v t) (q : Q (.bl t.isTu) H) : rIsi K [v, .ty "tuple"] H Q := by
  cases h with
  | str x hx => exact isi_q (b := false) (.base (.str x)) (kit_ty (by decide +kernel)) q
  | oth ty a b => exact isi_q ty b q
  | tup h r => exact isi_q (b := true) (SqT.ty h) (kit_ty (by decide +kernel)) q
section
variable {P : Program} {w : World} {K : PySem.W.Frag} {mg : Str → Option Value} {base : Heap}
def spOfX (K : PySem.W.Frag) : Sp := fun vs H Q _ => ∃ (v : V) (t : Tg) (d l : Addr) (ar : List (Str × Nat)), vs = [v, .ref d, .ref l] ∧ Th K H v t ∧ t.nodes ≤ 50000 ∧ H d = some (.dK (arKV ar)) ∧ SqT K H l [] ∧ ∀ H', Same H H' → Q (.bl (ofT ar t)) H'
theorem ok_ofX (G : Glo mg) (D : DefAt K mg "is_of" s_is_of ["thing", "wanted", "letters"]) : Cal P w K mg base 1 "is_of" ["thing", "wanted", "letters"] (spOfX K) := by
  refine D.cal sc_is_of (fun vs H Q E h => ?_) (fun f cdv A outer s H vs Q E hr h => ?_)
  · obtain ⟨v, t, d, l, ar, rfl, _⟩ := h
    rfl
  obtain ⟨v, t, d, l, ar, rfl, hT, hn, hd, hl, q⟩ := h
  refine ⟨_, pss_cons (ps_set (i := 3) sc_is_of.nd rfl (Or.inl rfl) (pe_lst (pa_cons (pv 0) pa_nil)))
    (pss_cons (ps_while (passes_of rfl) (pt_truth (pv 3) (by intro _; rfl))
      (pss_cons (ps_set (i := 4) sc_is_of.nd rfl (Or.inl rfl) (pe_bm0 PySem.F.plainAttrs_list PySem.F.slot_list_pop PySem.F.type_list_pop mt_pop (pv 3)))
        (pss_one (ps_if (PW.pt (pw_and (pt_val (pe_isi G.isinstance G.tuple b_tuple rfl rfl (pv 4))) (pw_and (pt_cmpR op_gt (pe_callB call_len_seq (by rfl) G.len PySem.boot_len (pa_cons (pv 4) pa_nil)) pe_int (nomark _)) (pw_and1 (pt_val (pe_isi G.isinstance G.str b_str rfl rfl (pe_ix ix_tup (pv 4) pe_int (fun _ _ => rfl))))))))
          (pss_cons (ps_if (pt_cmpR op_ne (pe_dget1 (hug hr) (pv 1) (pe_ix ix_tup (pv 4) pe_int (fun _ _ => rfl)) ⟨rfl, rfl, rfl, rfl⟩) (pe_op op_sub (pe_callB call_len_seq (by rfl) G.len PySem.boot_len (pa_cons (pv 4) pa_nil)) pe_int) (nomark _)) (pss_one (ps_ret pe_bl)) pss_nil)
            (pss_one (ps_expr (pe_bm PySem.F.plainAttrs_list PySem.F.slot_list_extend PySem.F.type_list_extend mt_extendT (pv 3) (pa_cons (pe_slice sl_tup (pv 4) (po_some pe_int) po_none) pa_nil)))))
          (pss_one (ps_if (pt_cmpR op_notIn_nil (pv 4) (pv 2) (by rfl)) (pss_one (ps_ret pe_bl)) pss_nil))))))
    (pss_one (ps_ret pe_bl))), ?_⟩
  refine ⟨v, rfl, by show 1 ≤ sizeLine; decide, fun r hr0 => ?_⟩
  refine ⟨fun m σ H' => ∃ xs ts y, m = nodesAll ts ∧ σ = [some v, some (.ref d), some (.ref l), some (.ref r), y] ∧ Same H H' ∧ H' r = some (.lst xs) ∧ ThAll K H' xs ts ∧ nodesAll ts ≤ 50000 ∧ ofT ar t = ofTAll ar ts,
    ⟨_, [v], [t], _, rfl, rfl, same_new hr0 _, upd_same, .cons (hT.stay (stay_new hr0 _)) .nil, by simp only [nodesAll]; omega, by simp [ofTAll]⟩, fun m σ H' hW => ?_⟩
  obtain ⟨xs, ts, y, rfl, rfl, sm, hx, hA, hm, hof⟩ := hW
  refine ⟨_, rfl, _, .inl ⟨xs, SqL.of hx, rfl⟩, ?_⟩
  by_cases hne : ts = []
  · subst hne
    have e0 : xs = [] := List.length_eq_zero_iff.mp (ThAll.length hA)
    subst e0
    refine iteF ?_
    have := q H' sm
    rw [hof] at this
    exact this
  obtain ⟨u, xs', t', ts', e1, e2, hu, hr'⟩ := ThAll.snoc hA hne
  subst e1 e2
  have ek : (!(xs' ++ [u]).isEmpty) = true := by cases xs' <;> rfl
  refine iteE ek ?_
  rw [nodesAll_app] at hm
  rw [ofTAll_app] at hof
  have hl2 := ThAll.length hr'
  have h1t : nodesAll [t'] = t'.nodes := by simp [nodesAll]
  refine ⟨fun σ2 H2 => ∃ xs ts y, nodesAll ts < nodesAll (ts' ++ [t']) ∧ σ2 = [some v, some (.ref d), some (.ref l), some (.ref r), y] ∧ Same H H2 ∧ H2 r = some (.lst xs) ∧ ThAll K H2 xs ts ∧ nodesAll ts ≤ 50000 ∧ ofT ar t = ofTAll ar ts,
    fun σ2 H2 ⟨xs, ts, y, a, b, c, d, e, f, g⟩ => ⟨_, a, xs, ts, y, rfl, b, c, d, e, f, g⟩, ?_⟩
  have hlast : (xs' ++ [u])[(xs' ++ [u]).length - 1]? = some u := by
    rw [List.length_append, List.length_singleton, Nat.add_sub_cancel, List.getElem?_append_right (Nat.le_refl _), Nat.sub_self] <;> rfl
  refine ⟨_, rfl, .inl ⟨rfl, _, SqL.of hx⟩, r, _, u, rfl, rfl, hx, hlast, ?_⟩
  rw [List.dropLast_concat]
  have st : Stay K H' (upd H' r (.lst xs')) := stay_lst hx
  have hu1 : Th K _ u t' := hu.stay st
  have hr1 := ThAll.stay st hr'
  have s1 : Same H (upd H' r (.lst xs')) := same_mut sm hr0
  have hl1 := (stay_same (K := K) s1).tup _ _ hl
  -- what is no tuple with a text ahead: not in ()
  have no : ofT ar t' = false → ∀ {D : Ends} {σ : L2.St}, σ[2]? = some (some (.ref l)) → σ[4]? = some (some u) → D.rt (.bl false) (upd H' r (.lst xs')) → (tIfS (tTest (tOp (fun _ y H Q => ∃ p, y = .ref p ∧ SqT K H p [] ∧ Q (.bl true) H) (tVar 4) (tVar 2))) (tRet (tC (.bl false))) tNext) D σ (upd H' r (.lst xs')) := fun h D σ e2 e4 hq => by
    exact ⟨_, e4, _, e2, l, rfl, hl1, _, rfl, iteE rfl hq⟩
  have fin : ofT ar t' = false → Q (.bl false) (upd H' r (.lst xs')) := fun h => by
    have := q _ s1
    rw [hof, show ofTAll ar [t'] = false by simp [ofTAll, h], Bool.and_false] at this
    exact this
  cases hu1 with
  | str x hx => 
    have h0 : ofT ar (.str x) = false := by simp [ofT]
    exact ⟨_, rfl, isi_q (b := false) (.base (.str _)) (kit_ty (by decide +kernel)) ⟨_, rfl, iteN rfl (iteN rfl (no h0 rfl rfl (fin h0)))⟩⟩
  | oth ty a b =>
    have h0 : ofT ar .oth = false := by simp [ofT]
    exact ⟨_, rfl, isi_q ty b ⟨_, rfl, iteN rfl (iteN rfl (no h0 rfl rfl (fin h0)))⟩⟩
  | @tup a ys us hq hz =>
    refine ⟨_, rfl, isi_q (b := true) (SqT.ty hq) (kit_ty (by decide +kernel)) ⟨_, rfl, iteE rfl ?_⟩⟩
    rcases th_mem hz with rfl | ⟨y0, ys', t0, us', rfl, rfl, hy0, hys⟩
    · have e : us = [] := List.length_eq_zero_iff.mp (ThAll.length hz).symm
      subst e
      have h0 : ofT ar (.tup []) = false := by simp [ofT]
      exact ⟨_, rfl, a, _, rfl, .inr hq, _, _, rfl, rfl, _, rfl, iteN rfl (iteN rfl (no h0 rfl rfl (fin h0)))⟩
    · have hzl := ThAll.length hys
      refine ⟨_, rfl, a, _, rfl, .inr hq, _, _, rfl, rfl, _, rfl, iteE (decide_eq_true (by show (((ys'.length + 1 : Nat) : Int)) > 0; omega)) ?_⟩
      refine ⟨_, rfl, a, _, 0, y0, rfl, rfl, hq, atI_nat (j := 0) rfl, isi_str hy0 ⟨_, rfl, ?_⟩⟩
      cases hy0 with
      | oth ty b c =>
        have h0 : ofT ar (.tup (.oth :: us')) = false := by simp [ofT]
        exact iteN rfl (no h0 rfl rfl (fin h0))
      | tup hq2 hz2 =>
        rename_i us2
        have h0 : ofT ar (.tup (.tup us2 :: us')) = false := by simp [ofT]
        exact iteN rfl (no h0 rfl rfl (fin h0))
      | str n hn0 =>
        refine iteE rfl ?_
        refine ⟨_, rfl, d, rfl, .inl ⟨_, .inl (s1 _ _ hd)⟩, ?_⟩
        refine ⟨_, rfl, a, _, 0, .str n, rfl, rfl, hq, atI_nat (j := 0) rfl, valV (arKV ar) (Sum.inr n : Key), .inl ⟨_, Sum.inr n, .inl (s1 _ _ hd), rfl, rfl⟩, ?_⟩
        have hof' : ofT ar (.tup (.str n :: us')) = (headOk ar n us'.length && ofTAll ar us') := by simp [ofT]
        have el : ((((V.str n :: ys').length : Nat) : Int) - 1) = ((us'.length : Nat) : Int) := by rw [List.length_cons, hzl]; omega
        refine ⟨_, rfl, a, _, rfl, .inr hq, _, _, rfl, rfl, ?_, _, rfl, ?_⟩
        · rcases ar_vals n ar with e | ⟨m, e⟩
          · rw [e]
            rfl
          · rw [e]
            rfl
        show if (!decide ((valV (arKV ar) (Sum.inr n : Key)).getD V.non = V.int ((((V.str n :: ys').length : Nat) : Int) - 1))) = true then _ else _
        rw [el]
        by_cases hh : headOk ar n us'.length = true
        · have hv : valV (arKV ar) (Sum.inr n : Key) = some (.int (us'.length : Nat)) := of_decide_eq_true hh
          rw [hv, show (some (V.int ((us'.length : Nat) : Int))).getD V.non = V.int ((us'.length : Nat) : Int) from rfl, decide_eq_true rfl]
          refine iteN rfl ?_
          refine ⟨_, rfl, .inl ⟨rfl, _, SqL.of upd_same⟩, _, rfl, 1, rfl, a, _, rfl, hq, cut_tail_ne _ (by simp), fun p hp => ?_⟩
          rw [cut_tail]
          show ∃ _ : Addr, _
          have npl : r ≠ p := ne_of_none upd_same hp
          have hx2 : (upd (upd H' r (.lst xs')) p (.tup ys')) r = some (.lst xs') := by rw [upd_ne npl]; exact upd_same
          have st2 : Stay K (upd H' r (.lst xs')) (upd (upd H' r (.lst xs')) p (.tup ys')) := stay_new hp _
          have st3 : Stay K (upd (upd H' r (.lst xs')) p (.tup ys')) (upd (upd (upd H' r (.lst xs')) p (.tup ys')) r (.lst (xs' ++ ys'))) := stay_lst hx2
          have hn1 : ∀ l : List Tg, l.length ≤ nodesAll l := fun l => by
            induction l with
            | nil => exact Nat.zero_le _
            | cons a l ih =>
              have := nodes_pos a
              simp only [nodesAll, List.length_cons]
              omega
          have k1 := hn1 ts'
          have k2 := hn1 us'
          have hnt : nodesAll [Tg.tup (.str n :: us')] = 2 + nodesAll us' := by simp only [nodesAll, Tg.nodes]; omega
          rw [hnt] at hm
          refine ⟨r, p, xs', ys', rfl, rfl, hx2, .inl (.inl upd_same), sz5 (by omega), ?_⟩
          refine ⟨xs' ++ ys', ts' ++ us', _, ?_, rfl, same_mut (s1.trans (same_new hp _)) hr0, upd_same, ThAll.app ((hr1.stay st2).stay st3) ((hys.stay st2).stay st3), ?_, ?_⟩
          · rw [nodesAll_app, nodesAll_app, hnt]
            omega
          · rw [nodesAll_app]
            omega
          · rw [hof, ofTAll_app, show ofTAll ar [Tg.tup (.str n :: us')] = ofTAll ar us' by simp [ofTAll, hof', hh]]
        · have hv : ¬ ((valV (arKV ar) (Sum.inr n : Key)).getD V.non = V.int ((us'.length : Nat) : Int)) := fun e => hh (by
            rcases ar_vals n ar with e2 | ⟨m, e2⟩
            · rw [e2] at e
              cases e
            · rw [e2] at e
              unfold headOk
              rw [e2]
              exact decide_eq_true (congrArg some e))
          rw [decide_eq_false hv]
          refine iteE rfl (fin ?_)
          rw [hof']
          have : headOk ar n us'.length = false := by simpa using hh
          rw [this, Bool.false_and]
end
end N

namespace OwnQ
open PySem PySem.W PySem.SeqAt
section
variable {prog : Program} {w : World} {A : Around} {E : Value → Shared → Prop} {s : Shared}
theorem sub_dict_str : isSubtype (.type "dict") (.type "str") = pure false := by rw [isSubtype_type]; kernel_rfl
theorem sub_str_dict : isSubtype (.type "str") (.type "dict") = pure false := by rw [isSubtype_type]; kernel_rfl
/-- a text == a dict -/
theorem rc_str_dict {p : Addr} {o : Obj} {b : Str} {u : Tok} {es : Array DictEntry} {n : Nat} {Q : Value → Shared → Prop} (ho : s.heap.get? p = some o) (hc : o.cls = .type "dict") (hd : o.data = .dict es n) (hu : A.units < cLine) (h : Q (.bool false) s) :
    wpAny (model prog w) A (richCompare .Eq (.str b u) (.ref p)) Q E s := by
  obtain ⟨cls, dd, data, sl⟩ := o
  simp only at hc hd
  subst hc hd
  refine rc_eq_decline_or (k := false) (typeIs_str s b u) ⟨_, ho, rfl⟩ (by decide) sub_dict_str F.slot_str_eq F.slot_dict_eq_refl (fun Q' hq => ?_) (fun Q' hq => ?_)
    (fun _ hq => wpAny_of_eq (rfl : isSame (.str b u) (.ref p) = pure false) hq) (.inr hu) h
  · refine wpAny_call (codeAny_call_builtin F.slot_str_eq.plain F.entry_str_eq (F.slot_str_eq.check _ _ _ _ _ _ _ _ (typeIs_str s b u) (F.args_str_eq_2 _ _) ?_))
    obtain ⟨hp, g, d, tk, os⟩ := s
    wp_walk using wpAny_load ho
    exact hq
  · refine wpAny_call (codeAny_call_builtin F.slot_dict_eq_refl.plain F.entry_dict_eq (F.slot_dict_eq_refl.check _ _ _ _ _ _ _ _ ⟨_, ho, rfl⟩ (F.args_dict_eq_2 _ _) ?_))
    have f1 := sub_str_dict
    wp_walk
    exact hq
end
end OwnQ
namespace N
open PySem PySem.Spec PyProof.Rows L2 StX
/-- a text == any thing -/
def rStrQ (K : PySem.W.Frag) (C : Addr) : R2 := fun x y H Q => ∃ n, x = .str n ∧ ((∃ m, y = .str m ∧ Q (.bl (decide (n = m))) H) ∨ (∃ T ∈ Tys, TyB K H y T ∧ T ≠ "str" ∧ Q (.bl false) H) ∨ (∃ a d fs, y = .ref a ∧ H a = some (.ins C d fs) ∧ ∀ H', Same H H' → Q (.bl false) H'))
section
variable {X : Cx} {n : Nat} {C f : Addr}
theorem op_strQ (T : TabE X.K C f) (F : FnS X.prog X.w X.K X.mg X.base n f (spTeq X.K C)) (hr : RoomG n X.A) : OpR X (compareOp .Eq) (rStrQ X.K C) := by
  intro pins s σ H x y v u Q I rx ry h
  obtain ⟨b, rfl, h⟩ := h
  obtain ⟨t, rfl⟩ := rx
  have hu := hr.toRoom.units0
  show wpAny (model X.prog X.w) X.A (richCompare .Eq (.str b t) u) (EP X pins σ Q) X.xe s
  rcases h with ⟨m, rfl, q⟩ | ⟨Ty, hT, hy, hne, q⟩ | ⟨a, d, fs, rfl, ha, q⟩
  · obtain ⟨t2, rfl⟩ := ry
    refine SeqAt.RcAt.str_str b t m t2 X.prog X.w X.xe _ ⟨.bl (decide (b = m)), H, I, ?_, q⟩
    show Value.bool (b == m) = Value.bool (decide (b = m))
    congr 1
  · have e0 : EP X pins σ Q (.bool false) s := ⟨.bl false, H, I, rfl, q⟩
    cases hy with
    | byt b => simp [Tys] at hT
    | str x => exact absurd rfl hne
    | non =>
      cases (show u = Value.none from ry)
      exact SeqAt.RcAt.str_none b t X.prog X.w X.xe _ e0
    | bl c =>
      cases (show u = Value.bool c from ry)
      exact SeqAt.RcAt.str_bool b t c X.prog X.w X.xe _ e0
    | int i =>
      obtain ⟨t2, rfl⟩ := (show ∃ t, u = Value.int i t from ry)
      exact SeqAt.RcAt.str_int b t i t2 X.prog X.w X.xe _ e0
    | @lst p xs h =>
      cases (show u = Value.ref p from ry)
      obtain ⟨its, r, pl, hz⟩ := I.list h
      exact SeqAt.RcAt.str_list b t pl.isList hu X.prog X.w X.xe _ e0
    | @tup p xs h =>
      cases (show u = Value.ref p from ry)
      obtain ⟨its, r, pl, hz⟩ := I.tuple h
      exact SeqAt.RcAt.str_tuple b t pl hu X.prog X.w X.xe _ e0
    | @dK p kvs h =>
      cases (show u = Value.ref p from ry)
      obtain ⟨_, _, vs, _, o, es, ep, ho, hx, hd, _⟩ := I.hok p _ h
      exact OwnQ.rc_str_dict ho hx.1 hd hu e0
  · cases ry
    refine wpAny_mono (rcR (y := .str b) T F ⟨hr, rfl⟩ I ⟨t, rfl⟩ ha (.str b) (by decide)) (fun r s' z => ?_) fun _ _ x => x
    obtain ⟨rfl, H', I', e⟩ := z
    exact ⟨.bl false, H', I', rfl, q H' e⟩
end
end N

namespace N
open PySem PySem.Spec PyProof.Rows L2 StX
/-! ### Table: classes, len, in, an item -/
abbrev nm_Tcls : List Str := ["self"]
theorem sc_Tcls : FnScope nm_Tcls ["self"] (defScope (tabM 1)) := ⟨rfl, rfl, rfl, by decide +kernel, rfl, by decide +kernel, by decide +kernel⟩
abbrev nm_Tlen : List Str := ["self"]
theorem sc_Tlen : FnScope nm_Tlen ["self"] (defScope (tabM 3)) := ⟨rfl, rfl, rfl, by decide +kernel, rfl, by decide +kernel, by decide +kernel⟩
abbrev nm_Tcon : List Str := ["self", "x"]
theorem sc_Tcon : FnScope nm_Tcon ["self", "x"] (defScope (tabM 4)) := ⟨rfl, rfl, rfl, by decide +kernel, rfl, by decide +kernel, by decide +kernel⟩
abbrev nm_Tget : List Str := ["self", "at", "one"]
theorem sc_Tget : FnScope nm_Tget ["self", "at"] (defScope (tabM 7)) := ⟨rfl, rfl, rfl, by decide +kernel, rfl, by decide +kernel, by decide +kernel⟩
/-- a thing that is no text -/
def NoS (K : PySem.W.Frag) (C : Addr) (H : Hp) (y : V) : Prop := (∃ T ∈ Tys, TyB K H y T ∧ T ≠ "str") ∨ ∃ a d fs, y = .ref a ∧ H a = some (.ins C d fs)
theorem NoS.same {K : PySem.W.Frag} {C : Addr} {H H' : Hp} {y : V} (s : Same H H') (h : NoS K C H y) : NoS K C H' y := by
  rcases h with ⟨T, h1, h2, h3⟩ | ⟨a, d, fs, e, h⟩
  · exact .inl ⟨T, h1, tyb_same s h2, h3⟩
  · exact .inr ⟨a, d, fs, e, s _ _ h⟩
section
variable {P : Program} {w : World} {K : PySem.W.Frag} {mg : Str → Option Value} {base : Heap} {C f fe : Addr} {fd : FuncData}
def spTcls (K : PySem.W.Frag) (C : Addr) : Sp := fun vs H Q _ => ∃ a cs, vs = [.ref a] ∧ TabAt K C H (.ref a) cs ∧ ∀ p, CsAt K H p cs → Q (.ref p) H
theorem ok_Tcls (T : TabC K mg C) (F : Fun K "classes" "Table.classes" (tabM 1) f fd) (hb : ∀ us : List Value, us.length = nm_Tcls.length → bindArgs fd ⟨us, []⟩ = pure (nm_Tcls.zip us)) : FnS P w K mg base 1 f (spTcls K C) := by
  refine fnS_of (N := nm_Tcls) F sc_Tcls hb (fun vs H Q E h => ?_) fun cdv A outer s H vs Q E hr h => ?_
  · obtain ⟨a, cs, rfl, _⟩ := h
    rfl
  obtain ⟨a, cs, rfl, ⟨a0, d, p, e0, h1, hc⟩, q⟩ := h
  cases e0
  exact ⟨_, pss_one (ps_ret (pe_fld (pv 0) rfl)), ⟨_, rfl, a, C, d, _, .ref p, rfl, h1, T.c, T.na, rfl, q p hc⟩⟩
def spTlen (K : PySem.W.Frag) (C : Addr) : Sp := fun vs H Q _ => ∃ a cs, vs = [.ref a] ∧ TabAt K C H (.ref a) cs ∧ Q (.int (cs.length : Nat)) H
theorem ok_Tlen (G : Glo mg) (T : TabC K mg C) (F : Fun K "__len__" "Table.__len__" (tabM 3) f fd) (hb : ∀ us : List Value, us.length = nm_Tlen.length → bindArgs fd ⟨us, []⟩ = pure (nm_Tlen.zip us)) : FnS P w K mg base 1 f (spTlen K C) := by
  refine fnS_of (N := nm_Tlen) F sc_Tlen hb (fun vs H Q E h => ?_) fun cdv A outer s H vs Q E hr h => ?_
  · obtain ⟨a, cs, rfl, _⟩ := h
    rfl
  obtain ⟨a, cs, rfl, ⟨a0, d, p, e0, h1, xs, hc, hp⟩, q⟩ := h
  cases e0
  have hl : xs.length = cs.length := Paired.length hp
  rw [← hl] at q
  exact ⟨_, pss_one (ps_ret (pe_callB call_len_seq (by rfl) G.len PySem.boot_len (pa_cons (pe_fld (pv 0) rfl) pa_nil))), ⟨_, rfl, a, C, d, _, .ref p, rfl, h1, T.c, T.na, rfl, p, xs, rfl, .inr hc, q⟩⟩
def spTcon (K : PySem.W.Frag) (C : Addr) : Sp := fun vs H Q _ => ∃ a cs v t, vs = [.ref a, v] ∧ TabAt K C H (.ref a) cs ∧ cs.length ≤ 100 ∧ (cs.map Cls.nm).Nodup ∧ Th K H v t ∧ t.nodes ≤ 50000 ∧ ∀ H', Same H H' → Q (.bl (ofT (arOf cs) t)) H'
theorem ok_Tcon (T : TabC K mg C) (CO : Cal P w K mg base 1 "is_of" ["thing", "wanted", "letters"] (spOfX K)) (CA : Cal P w K mg base 1 "arities" ["classes"] (spArs K)) (F : Fun K "__contains__" "Table.__contains__" (tabM 4) f fd) (hb : ∀ us : List Value, us.length = (["self", "x"] : List Str).length → bindArgs fd ⟨us, []⟩ = pure ((["self", "x"] : List Str).zip us)) : FnS P w K mg base 2 f (spTcon K C) := by
  refine fnS_of (N := nm_Tcon) F sc_Tcon hb (fun vs H Q E h => ?_) fun cdv A outer s H vs Q E hr h => ?_
  · obtain ⟨a, cs, v, t, rfl, _⟩ := h
    rfl
  obtain ⟨a, cs, v, t, rfl, ⟨a0, d, p, e0, h1, hc⟩, hl, nd, hT, hn, q⟩ := h
  cases e0
  refine ⟨_, pss_one (ps_ret (pc CO hr rfl (pa_cons (pv 1) (pa_cons (pc CA hr rfl (pa_cons (pe_fld (pv 0) rfl) pa_nil)) (pa_cons (pe_tup pa_nil) pa_nil))))), ?_⟩
  refine ⟨_, rfl, _, rfl, a, C, d, _, .ref p, rfl, h1, T.c, T.na, rfl, p, cs, rfl, hc, hl, nd, fun H1 dd s1 hd => ⟨Nat.zero_le _, fun l hl => ?_⟩⟩
  have s2 := same_new hl (.tup [])
  rw [ars_eq] at hd
  exact ⟨v, t, dd, l, arOf cs, rfl, (hT.stay (stay_same s1)).stay (stay_same s2), hn, s2 _ _ hd, .inl (.inl upd_same), fun H' s3 => q H' ((s1.trans s2).trans s3)⟩
def spTget (K : PySem.W.Frag) (C CN : Addr) : Sp := fun vs H Q E => ∃ a cs y, vs = [.ref a, y] ∧ TabAt K C H (.ref a) cs ∧
  ((∃ n, y = .str n ∧ (∀ c v H', c ∈ cs → c.nm = n → Same H H' → Cp K H' v c → Q v H') ∧ (n ∉ cs.map Cls.nm → ∀ H', Same H H' → E (.ref CN) none H')) ∨ (NoS K C H y ∧ ∀ H', Same H H' → E (.ref CN) none H'))
theorem ok_Tget {CN : Addr} (T : TabC K mg C) (TE : TabE K C fe) (Fe : FnS P w K mg base 1 fe (spTeq K C)) (X : ExcAt K mg "NoName" CN) (F : Fun K "__getitem__" "Table.__getitem__" (tabM 7) f fd) (hb : ∀ us : List Value, us.length = (["self", "at"] : List Str).length → bindArgs fd ⟨us, []⟩ = pure ((["self", "at"] : List Str).zip us)) : FnS P w K mg base 3 f (spTget K C CN) := by
  refine fnS_of (N := nm_Tget) F sc_Tget hb (fun vs H Q E h => ?_) fun cdv A outer s H vs Q E hr h => ?_
  · obtain ⟨a, cs, y, rfl, _⟩ := h
    rfl
  obtain ⟨a, cs, y, rfl, ⟨a0, d, p, e0, h1, xs, hq, hp⟩, q⟩ := h
  cases e0
  have hr1 : RoomG 1 _ := hr.mono (by decide)
  refine ⟨_, pss_cons (ps_for (passes_of rfl) rfl (pi_tup (pe_fld (pv 0) rfl)) (pg_name (i := 2) sc_Tget.nd rfl (by first | exact Or.inl rfl | exact Or.inr rfl))
      (pss_one (ps_if (pt_cmpR (op_strQ TE Fe hr1) (pe_ix ix_tup (pv 2) pe_int (fun _ _ => rfl)) (pv 1) (nomark _)) (pss_one (ps_ret (pv 2))) pss_nil)))
    (pss_one (ps_raise rfl (takes_of rfl rfl rfl rfl) (pmk_own PySem.F.excBase_ValueError X.x X.g X.k (raises_own X.b X.t) rfl))), ?_⟩
  refine ⟨_, rfl, a, C, d, _, .ref p, rfl, h1, T.c, T.na, rfl, p, rfl, ⟨xs, hq⟩, ?_⟩
  have hxl : xs.length = cs.length := Paired.length hp
  refine for_tup (K := K) (a := p) (xs := xs) (fun i σ H' => ∃ y2, σ = [some (.ref a), some y, y2] ∧ Same H H' ∧ ∀ n, y = .str n → n ∉ (cs.take i).map Cls.nm) ⟨_, rfl, Same.refl _, fun n _ h => by cases h⟩ (fun i σ H' _ ⟨_, _, sm, _⟩ => (stay_same sm).tup _ _ hq) (fun i x σ H' hx ⟨y2, eσ, sm, hno⟩ => ?_) (fun σ H' ⟨y2, eσ, sm, hno⟩ => ?_)
  · subst eσ
    obtain ⟨c, hc1, hc2⟩ := pairedAt hp hx
    have hcm := List.mem_of_getElem? hc1
    have hc3 := Cp.stay (stay_same sm) hc2
    obtain ⟨ax, ap, ak, am, rfl, qc, _⟩ := id hc3
    refine ⟨_, rfl, ax, _, 0, .str c.nm, rfl, rfl, qc, atI_nat (j := 0) rfl, _, rfl, ?_⟩
    rcases q with ⟨n, rfl, q1, q2⟩ | ⟨hns, q2⟩
    · refine ⟨c.nm, rfl, .inl ⟨n, rfl, _, rfl, ?_⟩⟩
      by_cases e : c.nm = n
      · rw [decide_eq_true e]
        exact iteE rfl ⟨_, rfl, q1 c (.ref ax) H' hcm e sm hc3⟩
      · rw [decide_eq_false e]
        refine iteN rfl ⟨_, rfl, sm, fun n' e' => ?_⟩
        cases e'
        rw [take_one' hc1, List.map_append]
        intro hm
        rcases List.mem_append.mp hm with z | z
        · exact hno _ rfl z
        · exact e (List.mem_singleton.mp z).symm
    · have hn1 := hns.same sm
      have step : ∀ H2, Same H H2 → ∃ y2, [some (V.ref a), some y, some (V.ref ax)] = [some (V.ref a), some y, y2] ∧ Same H H2 ∧ ∀ n, y = .str n → n ∉ (cs.take (i + 1)).map Cls.nm := fun H2 s2 => ⟨_, rfl, s2, fun n e => by
        subst e
        rcases hns with ⟨T, h1, h2, h3⟩ | ⟨a, d, fs, e, _⟩
        · cases h2
          exact absurd rfl h3
        · cases e⟩
      rcases hn1 with ⟨T, h1, h2, h3⟩ | ⟨a', d', fs, e, h⟩
      · exact ⟨c.nm, rfl, .inr (.inl ⟨T, h1, h2, h3, _, rfl, iteN rfl (step H' sm)⟩)⟩
      · exact ⟨c.nm, rfl, .inr (.inr ⟨a', d', fs, e, h, fun H2 s2 => ⟨_, rfl, iteN rfl (step H2 (sm.trans s2))⟩⟩)⟩
  · subst eσ
    rw [hxl, List.take_length] at hno
    rcases q with ⟨n, rfl, q1, q2⟩ | ⟨hns, q2⟩
    · exact q2 (hno n rfl) H' sm
    · exact q2 H' sm
end
end N

namespace N
open PySem PySem.Spec PyProof.Rows L2 StX
/-! ### bounds of data -/
structure Fi (d : PyData) (W D : Nat) : Prop where
  sh : d.showable = true
  nd : d.hasDict = false
  lv : d.leavesShort 13 = true
  wt : d.weight ≤ W
  dp : d.depth ≤ D
structure FiA (ds : List PyData) (W D : Nat) : Prop where
  sh : PyData.showableAll ds = true
  nd : PyData.hasDictAll ds = false
  lv : PyData.leavesShortAll 13 ds = true
  wt : PyData.weightAll ds ≤ W
  dp : PyData.depthAll ds ≤ D
theorem Fi.mono {d : PyData} {W D W' D' : Nat} (h : Fi d W D) (a : W ≤ W') (b : D ≤ D') : Fi d W' D' := ⟨h.sh, h.nd, h.lv, Nat.le_trans h.wt a, Nat.le_trans h.dp b⟩
theorem FiA.nil : FiA [] 0 0 := ⟨rfl, rfl, rfl, Nat.le_refl _, Nat.le_refl _⟩
theorem FiA.cons {d : PyData} {ds : List PyData} {W D W2 D2 : Nat} (h : Fi d W D) (r : FiA ds W2 D2) : FiA (d :: ds) (W + 1 + W2) (max D D2) := by
  obtain ⟨a1, a2, a3, a4, a5⟩ := h
  obtain ⟨b1, b2, b3, b4, b5⟩ := r
  refine ⟨by simp only [PyData.showableAll, a1, b1, Bool.and_self], by simp only [PyData.hasDictAll, a2, b2, Bool.or_self], by simp only [PyData.leavesShortAll, a3, b3, Bool.and_self], by simp only [PyData.weightAll]; omega, by simp only [PyData.depthAll]; omega⟩
theorem FiA.tup {ds : List PyData} {W D : Nat} (h : FiA ds W D) : Fi (.tuple ds) W (D + 1) := ⟨by simp only [PyData.showable]; exact h.sh, by simp only [PyData.hasDict]; exact h.nd, by simp only [PyData.leavesShort]; exact h.lv, by simp only [PyData.weight]; exact h.wt, by have := h.dp; simp only [PyData.depth]; omega⟩
theorem FiA.lst {ds : List PyData} {W D : Nat} (h : FiA ds W D) : Fi (.list ds) W (D + 1) := ⟨by simp only [PyData.showable]; exact h.sh, by simp only [PyData.hasDict]; exact h.nd, by simp only [PyData.leavesShort]; exact h.lv, by simp only [PyData.weight]; exact h.wt, by have := h.dp; simp only [PyData.depth]; omega⟩
theorem FiA.map {α : Type} {g : α → PyData} {W D : Nat} : ∀ {xs : List α}, (∀ x ∈ xs, Fi (g x) W D) → FiA (xs.map g) ((W + 1) * xs.length) D
  | [], _ => ⟨rfl, rfl, rfl, Nat.zero_le _, Nat.zero_le _⟩
  | x :: xs, h => by
    have h1 := FiA.cons (h x List.mem_cons_self) (FiA.map (xs := xs) fun y hy => h y (List.mem_cons_of_mem _ hy))
    exact ⟨h1.sh, h1.nd, h1.lv, by have := h1.wt; simp only [List.map_cons, List.length_cons] at this ⊢; rw [Nat.mul_add]; omega, by have := h1.dp; simp only [List.map_cons] at this ⊢; omega⟩
theorem Fi.fit {d : PyData} {W D : Nat} (h : Fi d W D) (hW : W ≤ 1000000) (hD : D ≤ 60) : d.showable = true ∧ d.hasDict = false ∧ d.depth ≤ 60 ∧ d.shown.length ≤ sizeLine :=
  ⟨h.sh, h.nd, Nat.le_trans h.dp hD, PyData.shown_fits (B := 13) (by decide) (by decide) h.lv (Nat.le_trans h.wt (Nat.le_trans hW (by omega)))⟩
theorem leaf_ok {x : Str} (h : PyData.strOk x = true) : (PyData.str x).leavesShort 13 = true := by
  obtain ⟨⟨l⟩⟩ := x
  have h' : (l.toArray.all fun c => decide (c < 1114112)) = true := h
  rw [List.all_toArray, List.all_eq_true] at h'
  simp only [PyData.leavesShort]
  rw [List.all_eq_true]
  intro c hc
  have := of_decide_eq_true (h' c hc)
  exact decide_eq_true (by omega)
theorem Fi.str {x : Str} {n : Nat} (h : PyData.strOk x = true) (hl : x.cps.size ≤ n) : Fi (.str x) n 0 := ⟨by simp only [PyData.showable], by simp only [PyData.hasDict], leaf_ok h, by simp only [PyData.weight]; exact hl, by simp only [PyData.depth]; omega⟩
theorem nam_size {x : Str} (h : isNam x = true) : x.cps.size ≤ 8 := (isNam_iff.mp h).2.1
theorem let_size {x : Str} (h : isLet x = true) : x.cps.size = 1 := by
  obtain ⟨c, e, _⟩ := isLet_iff.mp h
  rw [← Array.length_toList, e]
  rfl
theorem Fi.nam {x : Str} (h : isNam x = true) : Fi (.str x) 8 0 := .str (nam_strOk h) (nam_size h)
theorem Fi.let {x : Str} (h : isLet x = true) : Fi (.str x) 8 0 := .str (let_strOk h) (by rw [let_size h]; decide)
theorem way_size : ∀ x ∈ wayz ++ varz, x.cps.size ≤ 8 := by decide +kernel
theorem Fi.way {x : Str} (h : x ∈ wayz ++ varz) : Fi (.str x) 8 0 := .str (way_strOk x h) (way_size x h)
theorem fi_kd : ∀ {k : Kd}, k.ok → Fi k.pd (20 * k.nds) k.size
  | .L c, h => (Fi.let (show isLet c = true from h)).mono (by simp only [Kd.nds]; omega) (Nat.zero_le _)
  | .C0 n, h => by
    have h1 := FiA.tup (FiA.cons (Fi.nam (show isNam n = true from h)) .nil)
    exact h1.mono (by simp only [Kd.nds]; omega) (by simp only [Kd.size]; omega)
  | .C1 n a, h => by
    have h1 := FiA.tup (FiA.cons (Fi.nam (show isNam n = true from h.1)) (FiA.cons (fi_kd h.2) .nil))
    exact h1.mono (by simp only [Kd.nds]; omega) (by simp only [Kd.size]; omega)
  | .C2 n a b, h => by
    have h1 := FiA.tup (FiA.cons (Fi.nam (show isNam n = true from h.1)) (FiA.cons (fi_kd h.2.1) (FiA.cons (fi_kd h.2.2) .nil)))
    exact h1.mono (by simp only [Kd.nds]; omega) (by simp only [Kd.size]; omega)
theorem fi_cls {c : Cls} (ok : c.ok) : Fi c.pd 1500 12 := by
  have hp := FiA.tup (FiA.map (xs := c.ps) (g := fun p => PyData.tuple [.str p.1, .str p.2]) (W := 18) (D := 1) fun p hp => by
    obtain ⟨l1, l2⟩ := ok.pl p hp
    exact (FiA.tup (FiA.cons (Fi.let l1) (FiA.cons (Fi.way (List.mem_append_right _ l2)) .nil))).mono (by omega) (by omega))
  have hk := FiA.tup (FiA.map (xs := c.ks) (g := Kd.pd) (W := 260) (D := 6) fun k hk => by
    obtain ⟨h1, _, h2, _⟩ := ok.kk k hk
    have := nds_size k
    exact (fi_kd h1).mono (by omega) (by omega))
  have hm := FiA.tup (FiA.map (xs := c.ms) (g := fun m => PyData.tuple [.str m.1, .str m.2.1, m.2.2.pd]) (W := 279) (D := 7) fun m hm => by
    obtain ⟨l1, l2, l3, l4, _⟩ := ok.ml m hm
    have := nds_size m.2.2
    exact (FiA.tup (FiA.cons (Fi.nam l1) (FiA.cons (Fi.way (List.mem_append_left _ l2)) (FiA.cons (fi_kd l3) .nil)))).mono (by omega) (by omega))
  have := ok.p2
  have := ok.k2
  have := ok.m2
  exact (FiA.tup (FiA.cons (Fi.nam ok.n) (FiA.cons hp (FiA.cons hk (FiA.cons hm .nil))))).mono (by omega) (by omega)
theorem fi_csA {cs : List Cls} (ok : ∀ c ∈ cs, c.ok) (h : cs.length ≤ 5) : FiA (cs.map Cls.pd) 7505 12 := by
  have h1 := FiA.map (xs := cs) (g := Cls.pd) fun c hc => fi_cls (ok c hc)
  exact ⟨h1.sh, h1.nd, h1.lv, by have := h1.wt; omega, h1.dp⟩
theorem fi_int : ∀ n : Nat, n < 6 → (PyData.int (n : Nat)).showable = true ∧ (PyData.int (n : Nat)).hasDict = false ∧ (PyData.int (n : Nat)).leavesShort 13 = true ∧ (PyData.int (n : Nat)).weight ≤ 10 ∧ (PyData.int (n : Nat)).depth ≤ 0 := by decide +kernel
/-! ### the words of a table -/
def tabW (n : Nat) : Str := (("Table(" : Str) ++ (toString ((n : Nat) : Int) : Str)) ++ (" classes)" : Str)
theorem tabW_eq : ∀ n : Nat, n < 6 → ((Str.empty ++ ("Table(" : Str)) ++ (toString ((n : Nat) : Int) : Str)) ++ (" classes)" : Str) = tabW n := by decide +kernel
theorem tabW_ok : ∀ n : Nat, n < 6 → PyData.strOk (tabW n) = true ∧ (tabW n).cps.size ≤ 40 ∧ (("Table(" : Str)).length + ((toString ((n : Nat) : Int) : Str)).length ≤ 100 ∧ (("Table(" : Str) ++ (toString ((n : Nat) : Int) : Str)).length + ((" classes)" : Str)).length ≤ 100 ∧ ((n : Nat) : Int).natAbs.log2 < 1920 := by decide +kernel
def factsL (cs : List Cls) : List PyData := [csD cs, .tuple ((cs.map Cls.nm).map PyData.str), .int (cs.length : Nat), .str (tabW cs.length)]
theorem fi_facts {cs : List Cls} (ok : ∀ c ∈ cs, c.ok) (h : cs.length ≤ 5) : Fi (.list (factsL cs)) 8000 16 := by
  obtain ⟨i1, i2, i3, i4, i5⟩ := fi_int cs.length (by omega)
  obtain ⟨w1, w2, _⟩ := tabW_ok cs.length (by omega)
  have hn := FiA.tup (FiA.map (xs := cs.map Cls.nm) (g := PyData.str) (W := 8) (D := 0) fun x hx => by
    obtain ⟨c, hc, rfl⟩ := List.mem_map.mp hx
    exact Fi.nam (ok c hc).n)
  rw [List.length_map] at hn
  exact (FiA.lst (FiA.cons (FiA.tup (fi_csA ok h)) (FiA.cons hn (FiA.cons (Fi.mk i1 i2 i3 i4 i5) (FiA.cons (Fi.str w1 w2) .nil))))).mono (by omega) (by omega)
theorem fi_both {cs : List Cls} (ok : ∀ c ∈ cs, c.ok) (h : cs.length ≤ 5) : Fi (.list [.list (factsL cs), .list (cs.map Cls.pd)]) 20000 20 :=
  (FiA.lst (FiA.cons (fi_facts ok h) (FiA.cons (FiA.lst (fi_csA ok h)) .nil))).mono (by omega) (by omega)
section
variable {P : Program} {w : World} {K : PySem.W.Frag} {mg : Str → Option Value} {base : Heap} {C f : Addr} {fd : FuncData}
/-- repr, its words told -/
def spTrepW (K : PySem.W.Frag) (C : Addr) : Sp := fun vs H Q _ => ∃ a cs, vs = [.ref a] ∧ TabAt K C H (.ref a) cs ∧ cs.length ≤ 5 ∧ Q (.str (tabW cs.length)) H
theorem ok_TrepW (G : Glo mg) (T : TabC K mg C) (F : Fun K "__repr__" "Table.__repr__" (tabM 6) f fd)
    (hb : ∀ us : List Value, us.length = nm_Trepr.length → bindArgs fd ⟨us, []⟩ = pure (nm_Trepr.zip us)) : FnS P w K mg base 1 f (spTrepW K C) := by
  refine fnS_of (N := nm_Trepr) F sc_Trepr hb (fun vs H Q E h => ?_) fun cdv A outer s H vs Q E hr h => ?_
  · obtain ⟨a, cs, rfl, _⟩ := h
    rfl
  obtain ⟨a, cs, rfl, ⟨a0, d, p, e0, h1, xs, hc, hp⟩, h5, q⟩ := h
  cases e0
  refine ⟨_, pss_one (ps_ret (pe_joined (.cons pe_str (.cons (pe_fmt (pe_callB call_len_seq (by rfl) G.len PySem.boot_len (pa_cons (pe_fld (pv 0) rfl) pa_nil))) (.cons pe_str .nil))))), ?_⟩
  have hl : xs.length = cs.length := Paired.length hp
  obtain ⟨k1, k2, k3⟩ := num_len xs.length (by omega)
  rw [← tabW_eq _ (by omega), ← hl] at q
  refine ⟨_, rfl, by decide +kernel, ?_⟩
  refine ⟨_, rfl, a, C, d, _, .ref p, rfl, h1, T.c, T.na, rfl, p, xs, rfl, .inr hc, .inr ⟨_, rfl, k3, _, rfl, sz5 (by omega), _, rfl, sz5 (by omega), q⟩⟩
end
end N

namespace N
open PySem PySem.Spec PyProof.Rows L2 L2H StX LamX NdefX
/-! ### _law_table, _law_told, _law_due_of -/
/-- repr(x) where an exception is handled -/
theorem call_reprM {X : Cx} (gs : X.A.guards = some []) (un : X.A.units + 64 < cLine) : CallR X (.builtin "repr") (rRepr X.K) := by
  intro pins s σ H xs us Q I r h
  obtain ⟨a, d, rfl, hd, hs, hn, hdp, hz, q⟩ := h
  obtain ⟨u, rfl, ru⟩ := vals1 r
  cases (show u = Value.ref a from ru)
  obtain ⟨as, rd⟩ := Dp.reads I d _ _ hd rfl
  exact repr_of_reads' rd hs (PyData.noDict_hsm hn) gs (by omega) (fun b o e => e) (fun h' u tk hk => ⟨.str d.shown, H, I.kept (t' := tk) hk, ⟨_, rfl⟩, q⟩) hz
def nlD (n l : Str) : PyData := .tuple [.str n, .str l]
noncomputable def turW (n l : Str) : Str := ("! " : Str) ++ (nlD n l).shown
noncomputable def dueM (cs : List Cls) : Str := match turnM cs with
  | none => (csD cs).shown
  | some (n, l) => turW n l
theorem nl_fit {n l : Str} (h1 : isNam n = true) (h2 : isLet l = true) : (nlD n l).showable = true ∧ (nlD n l).hasDict = false ∧ (nlD n l).depth ≤ 60 ∧ (nlD n l).shown.length ≤ sizeLine :=
  (FiA.tup (FiA.cons (Fi.nam h1) (FiA.cons (Fi.let h2) .nil))).fit (by decide) (by decide)
theorem cs_fit {cs : List Cls} (ok : ∀ c ∈ cs, c.ok) (h : cs.length ≤ 5) : (csD cs).showable = true ∧ (csD cs).hasDict = false ∧ (csD cs).depth ≤ 60 ∧ (csD cs).shown.length ≤ sizeLine :=
  (FiA.tup (fi_csA ok h)).fit (by decide) (by decide)
theorem nl_short {n l : Str} (h1 : isNam n = true) (h2 : isLet l = true) : (nlD n l).shown.length ≤ 10000 := by
  have h := FiA.tup (FiA.cons (Fi.nam h1) (FiA.cons (Fi.let h2) .nil))
  have h1 := PyData.shown_le 13 (by decide) _ h.lv
  have h2 := h.wt
  have h3 : (13 + 2) * (PyData.tuple [.str n, .str l]).weight ≤ (13 + 2) * 18 := Nat.mul_le_mul_left _ h2
  show (PyData.tuple [.str n, .str l]).shown.length ≤ 10000
  omega
structure ToldK (K : PySem.W.Frag) (mg : Str → Option Value) (CT : Addr) : Prop where
  g : mg "Turned" = some (.ref CT)
  m : PySem.W.exmOne K (.ref CT) (.ref CT) = some true
  x : XfC K CT
  n : PySem.W.findIn K (.ref CT) "name" = some none
  l : PySem.W.findIn K (.ref CT) "letter" = some none
/-- what is told of an exception -/
def TurE (CT : Addr) (Q : VK) : XK := fun cls d H1 => cls = .ref CT ∧ ∃ dd n l, d = some dd ∧ H1 dd = some (.xd [("letter", .str l), ("name", .str n)]) ∧ isNam n = true ∧ isLet l = true ∧ ∀ H2, Same H1 H2 → Q (.str (turW n l)) H2
/-- .. and of a table -/
def TabR6 (K : PySem.W.Frag) (C : Addr) (Q : VK) : VK := fun v H1 => ∃ m cs, v = .ref m ∧ TabAt K C H1 (.ref m) cs ∧ (∀ c ∈ cs, c.ok) ∧ cs.length ≤ 5 ∧ ∀ H2, Same H1 H2 → Q (.str (csD cs).shown) H2
section
variable {P : Program} {w : World} {K : PySem.W.Frag} {mg : Str → Option Value} {base : Heap} {C CT pp gp fi : Addr}
theorem pssImp' {X : Cx} {b : List Stmt} {t t' : TS} (h : PSs X b t) (q : ∀ D σ H, t' D σ H → t D σ H) : PSs X b t' := ⟨fun pins s σ H D I z => h.run pins s σ H D I (q _ _ _ z)⟩
theorem told_body {kk : Nat} {g f : Addr} {cdv : Value} {A : Around} {outer : List Env} {s : Shared} {H : Hp} {Q : VK} {spL : Hp → VK → XK → Prop} (G : Glo mg) (TK : ToldK K mg CT) (T : TabC K mg C) (PC : PropOf K C "classes" pp gp) (FC : FnS P w K mg base 1 gp (spTcls K C))
    (L : ActR P w K mg base kk f s.heap H spL) (hk1 : 1 ≤ kk) (hr : RoomG (kk + 1) (A.deeper (envOfC "_law_told" (defScope s_Ltold) s.heap.objs.size g cdv)))
    (hm : ∀ (R R' : VK) (E E' : XK), (∀ v H1, R v H1 → R' v H1) → (∀ cls d H1, E cls d H1 → E' cls d H1) → spL H R E → spL H R' E')
    (q : spL H (TabR6 K C Q) (TurE CT Q)) :
    ∃ t, PSs (cxOf (L2.CX P w) P w K mg base nm_Ltold "_law_told" (defScope s_Ltold) g cdv A outer s H E0) (defBody s_Ltold) t ∧ t { nx := fun _ H' => Q .non H', rt := Q } (L2.start nm_Ltold [.ref f]) H := by
  have hr2 : RoomG 2 (A.deeper (envOfC "_law_told" (defScope s_Ltold) s.heap.objs.size g cdv)) := hr.mono (by omega)
  refine ⟨_, pss_one (ps_try_fst (i := 1) (c := .ref CT) (ts := fun a cls d D σ H => ∃ x, σ = [x, some (.ref a)] ∧ cls = .ref CT ∧ ∃ dd n l, d = some dd ∧ H dd = some (.xd [("letter", .str l), ("name", .str n)]) ∧ isNam n = true ∧ isLet l = true ∧ ∀ H2, Same H H2 → D.rt (.str (turW n l)) H2) rfl rfl sc_Ltold.nd rfl rfl ⟨rfl, by decide, .inl TK.g⟩
    (fun W pn xe tk po => pss_one (ps_ret (pe_callB (id := "repr") (r := rRepr K) (call_repr hr) (by rfl) G.repr (by decide +kernel) (pa_cons (pe_propS (show PE _ _ (fun σ H1 Q1 => σ[0]? = some (some (.ref f)) ∧ Same H H1 ∧ spL H1 Q1 (WE W σ)) from pe_actR (i := 0) L tk hr rfl rfl (.inl rfl)) T.c PC FC hr2 rfl) pa_nil))))
    (fun a oe cls d pn hz hf => ⟨fun pins s' σ H' D I h => ?_⟩)), ?_⟩
  · obtain ⟨x, rfl, rfl, dd, n, l, rfl, hd, hn, hl, h⟩ := h
    refine (pssImp' (t' := fun D σ H => σ = [x, some (.ref a)] ∧ H dd = some (.xd [("letter", .str l), ("name", .str n)]) ∧ ∀ H2, Same H H2 → D.rt (.str (turW n l)) H2)
      (pss_one (ps_ret (pe_op op_add_str pe_str (pe_callB (call_reprM hr.gs hr.toRoom.units) (by rfl) G.repr (by decide +kernel) (pa_cons (pe_tup (pa_cons (pe_xf TK.x TK.n hz hf (pv 1)) (pa_cons (pe_xf TK.x TK.l hz hf (pv 1)) pa_nil))) pa_nil))))) fun D σ H z => ?_).run pins s' _ H' D I ⟨rfl, hd, h⟩
    obtain ⟨rfl, hd', z⟩ := z
    obtain ⟨f1, f2, f3, f4⟩ := nl_fit hn hl
    refine ⟨_, rfl, rfl, rfl, dd, _, .str n, rfl, hd', rfl, _, rfl, rfl, rfl, dd, _, .str l, rfl, hd', rfl, by show 2 ≤ sizeLine; decide, fun t ht => ?_⟩
    refine ⟨t, nlD n l, rfl, .tup (.inl (.inl upd_same)) (.cons (.str n) (.cons (.str l) .nil)), f1, f2, f3, f4, _, _, rfl, rfl, sz5 ?_, z _ (same_new ht _)⟩
    have := nl_short hn hl
    have : ("! " : Str).length = 2 := by decide +kernel
    omega
  · refine ⟨rfl, Same.refl _, hm _ _ _ _ (fun v H1 z => ?_) (fun cls d H1 z => ?_) q⟩
    · obtain ⟨m, cs, rfl, ht, ok, h5, z⟩ := z
      obtain ⟨f1, f2, f3, f4⟩ := cs_fit ok h5
      obtain ⟨a, d, p, e0, hi, hc⟩ := id ht
      cases e0
      exact ⟨m, d, _, rfl, hi, m, cs, rfl, ht, fun p hp => ⟨p, csD cs, rfl, cs_dp hp, f1, f2, f3, f4, z H1 (Same.refl _)⟩⟩
    · obtain ⟨rfl, dd, n, l, rfl, hd, hn, hl, z⟩ := z
      exact ⟨TK.m, fun a ha => ⟨_, rfl, rfl, dd, n, l, rfl, hd, hn, hl, z⟩⟩
end
end N

namespace N
open PySem PySem.Spec PyProof.Rows L2 L2H StX LamX NdefX
/-! ### _law_table, _law_due_of -/
theorem turnM_of {cs : List Cls} {n l : Str} (h : turnM cs = some (n, l)) : ∃ c ∈ cs, c.nm = n ∧ ∃ p ∈ c.ps, p.1 = l := by
  unfold turnM at h
  obtain ⟨c, hc, e⟩ := List.exists_of_findSome?_eq_some h
  obtain ⟨l', e1, e2⟩ := Option.map_eq_some_iff.mp e
  cases e2
  unfold Cls.badM at e1
  obtain ⟨p, hp, e3⟩ := Option.map_eq_some_iff.mp e1
  exact ⟨c, hc, rfl, p, List.mem_of_find?_eq_some hp, e3⟩
theorem DT.tur {cs : List Cls} (h : DT cs) {n l : Str} (e : turnM cs = some (n, l)) : isNam n = true ∧ isLet l = true := by
  obtain ⟨rank, hr⟩ := h.r
  obtain ⟨c, hc, rfl, p, hp, rfl⟩ := turnM_of e
  exact ⟨(hr c hc).n, (hr c hc).lt p hp⟩
theorem DT.eqT {cs : List Cls} (h : DT cs) : turnM cs = turnOf cs := by
  obtain ⟨rank, hr⟩ := h.r
  exact turnM_eq h.nd (fun c hc => (hr c hc).v) fun c hc k hk => ((hr c hc).k k hk).1
theorem DT.len {cs : List Cls} (h : DT cs) : ∀ c ∈ cs, c.ks.length ≤ 2 ∧ (∀ k ∈ c.ks, k.nds ≤ 8) ∧ ∀ q ∈ c.ps, q.2 ∈ varz := fun c hc => by
  obtain ⟨rank, hr⟩ := h.r
  exact ⟨(hr c hc).k2, fun k hk => by have := ((hr c hc).k k hk).2.2.2.2; omega, (hr c hc).v⟩
section
variable {P : Program} {w : World} {K : PySem.W.Frag} {mg : Str → Option Value} {base : Heap} {C CT fi : Addr}
def spTbX (K : PySem.W.Frag) (C CT : Addr) : Sp := fun vs H Q E => ∃ (a : Addr) (xs : List V) (cs : List Cls), vs = [.ref a] ∧ SqL K H a xs ∧ Paired (Cp K H) xs cs ∧ PreOk cs ∧ (turnOf cs = none → ∀ H' b, Same H H' → TabAt K C H' (.ref b) cs → Q (.ref b) H') ∧ TurnX CT E H cs
theorem ok_LtableX (G : Glo mg) (T : TabC K mg C) (M : Mk K C fi) (F : FnS P w K mg base 10 fi (spTini1Z K C CT)) (D : DefAt K mg "_law_table" s_Ltable ["_law_some"]) : Cal P w K mg base 12 "_law_table" ["_law_some"] (spTbX K C CT) := by
  refine D.cal sc_Ltable (fun vs H Q E h => ?_) (fun f cdv A outer s H vs Q E hr h => ?_)
  · obtain ⟨a, xs, cs, rfl, _⟩ := h
    rfl
  obtain ⟨a, xs, cs, rfl, hs, hp, ok, q1, q2⟩ := h
  refine ⟨_, pss_cons (ps_if (pt_cmpR op_eq (pe_callB call_len_seq (by rfl) G.len PySem.boot_len (pa_cons (pv 0) pa_nil)) pe_int (nomark _)) (pss_one (ps_ret (pe_tabZ (takes_of rfl rfl rfl rfl) T M F hr rfl (pa_cons (pe_ix ix_list (pv 0) pe_int (fun _ _ => rfl)) pa_nil)))) pss_nil)
    (pss_cons (ps_if (pt_cmpR op_eq (pe_callB call_len_seq (by rfl) G.len PySem.boot_len (pa_cons (pv 0) pa_nil)) pe_int (nomark _)) (pss_one (ps_ret (pe_tabZ (takes_of rfl rfl rfl rfl) T M F hr rfl (pa_cons (pe_ix ix_list (pv 0) pe_int (fun _ _ => rfl)) (pa_cons (pe_ix ix_list (pv 0) pe_int (fun _ _ => rfl)) pa_nil))))) pss_nil)
    (pss_cons (ps_if (pt_cmpR op_eq (pe_callB call_len_seq (by rfl) G.len PySem.boot_len (pa_cons (pv 0) pa_nil)) pe_int (nomark _)) (pss_one (ps_ret (pe_tabZ (takes_of rfl rfl rfl rfl) T M F hr rfl (pa_cons (pe_ix ix_list (pv 0) pe_int (fun _ _ => rfl)) (pa_cons (pe_ix ix_list (pv 0) pe_int (fun _ _ => rfl)) (pa_cons (pe_ix ix_list (pv 0) pe_int (fun _ _ => rfl)) pa_nil)))))) pss_nil)
    (pss_cons (ps_if (pt_cmpR op_eq (pe_callB call_len_seq (by rfl) G.len PySem.boot_len (pa_cons (pv 0) pa_nil)) pe_int (nomark _)) (pss_one (ps_ret (pe_tabZ (takes_of rfl rfl rfl rfl) T M F hr rfl (pa_cons (pe_ix ix_list (pv 0) pe_int (fun _ _ => rfl)) (pa_cons (pe_ix ix_list (pv 0) pe_int (fun _ _ => rfl)) (pa_cons (pe_ix ix_list (pv 0) pe_int (fun _ _ => rfl)) (pa_cons (pe_ix ix_list (pv 0) pe_int (fun _ _ => rfl)) pa_nil))))))) pss_nil)
    (pss_one (ps_ret (pe_tabZ (takes_of rfl rfl rfl rfl) T M F hr rfl (pa_cons (pe_ix ix_list (pv 0) pe_int (fun _ _ => rfl)) (pa_cons (pe_ix ix_list (pv 0) pe_int (fun _ _ => rfl)) (pa_cons (pe_ix ix_list (pv 0) pe_int (fun _ _ => rfl)) (pa_cons (pe_ix ix_list (pv 0) pe_int (fun _ _ => rfl)) (pa_cons (pe_ix ix_list (pv 0) pe_int (fun _ _ => rfl)) pa_nil)))))))))))
    , ?_⟩
  have hl : xs.length = cs.length := Paired.length hp
  have n1 := ok.f.n1
  have n5 := ok.f.n5
  match xs, hs, hp, hl with
  | [], _, _, hl => simp at hl; omega
  | [v0], hs, hp, _ => exact ⟨_, rfl, a, _, rfl, .inl hs, rfl, _, rfl, iteE rfl ⟨_, rfl, a, _, 0, v0, rfl, rfl, hs, atI_nat (j := 0) rfl, cs, hp, ok, fun hn H2 b s2 _ ht => q1 hn H2 b s2 ht, q2⟩⟩
  | [v0, v1], hs, hp, _ => exact ⟨_, rfl, a, _, rfl, .inl hs, rfl, _, rfl, iteN rfl ⟨_, rfl, a, _, rfl, .inl hs, rfl, _, rfl, iteE rfl ⟨_, rfl, a, _, 0, v0, rfl, rfl, hs, atI_nat (j := 0) rfl, _, rfl, a, _, 1, v1, rfl, rfl, hs, atI_nat (j := 1) rfl, cs, hp, ok, fun hn H2 b s2 _ ht => q1 hn H2 b s2 ht, q2⟩⟩⟩
  | [v0, v1, v2], hs, hp, _ => exact ⟨_, rfl, a, _, rfl, .inl hs, rfl, _, rfl, iteN rfl ⟨_, rfl, a, _, rfl, .inl hs, rfl, _, rfl, iteN rfl ⟨_, rfl, a, _, rfl, .inl hs, rfl, _, rfl, iteE rfl ⟨_, rfl, a, _, 0, v0, rfl, rfl, hs, atI_nat (j := 0) rfl, _, rfl, a, _, 1, v1, rfl, rfl, hs, atI_nat (j := 1) rfl, _, rfl, a, _, 2, v2, rfl, rfl, hs, atI_nat (j := 2) rfl, cs, hp, ok, fun hn H2 b s2 _ ht => q1 hn H2 b s2 ht, q2⟩⟩⟩⟩
  | [v0, v1, v2, v3], hs, hp, _ => exact ⟨_, rfl, a, _, rfl, .inl hs, rfl, _, rfl, iteN rfl ⟨_, rfl, a, _, rfl, .inl hs, rfl, _, rfl, iteN rfl ⟨_, rfl, a, _, rfl, .inl hs, rfl, _, rfl, iteN rfl ⟨_, rfl, a, _, rfl, .inl hs, rfl, _, rfl, iteE rfl ⟨_, rfl, a, _, 0, v0, rfl, rfl, hs, atI_nat (j := 0) rfl, _, rfl, a, _, 1, v1, rfl, rfl, hs, atI_nat (j := 1) rfl, _, rfl, a, _, 2, v2, rfl, rfl, hs, atI_nat (j := 2) rfl, _, rfl, a, _, 3, v3, rfl, rfl, hs, atI_nat (j := 3) rfl, cs, hp, ok, fun hn H2 b s2 _ ht => q1 hn H2 b s2 ht, q2⟩⟩⟩⟩⟩
  | [v0, v1, v2, v3, v4], hs, hp, _ => exact ⟨_, rfl, a, _, rfl, .inl hs, rfl, _, rfl, iteN rfl ⟨_, rfl, a, _, rfl, .inl hs, rfl, _, rfl, iteN rfl ⟨_, rfl, a, _, rfl, .inl hs, rfl, _, rfl, iteN rfl ⟨_, rfl, a, _, rfl, .inl hs, rfl, _, rfl, iteN rfl ⟨_, rfl, a, _, 0, v0, rfl, rfl, hs, atI_nat (j := 0) rfl, _, rfl, a, _, 1, v1, rfl, rfl, hs, atI_nat (j := 1) rfl, _, rfl, a, _, 2, v2, rfl, rfl, hs, atI_nat (j := 2) rfl, _, rfl, a, _, 3, v3, rfl, rfl, hs, atI_nat (j := 3) rfl, _, rfl, a, _, 4, v4, rfl, rfl, hs, atI_nat (j := 4) rfl, cs, hp, ok, fun hn H2 b s2 _ ht => q1 hn H2 b s2 ht, q2⟩⟩⟩⟩⟩
  | _ :: _ :: _ :: _ :: _ :: _ :: _, _, _, hl => simp at hl; omega
def spDue67 (K : PySem.W.Frag) : Sp := fun vs H Q _ => ∃ (a : Addr) (xs : List V) (cs : List Cls), vs = [.ref a] ∧ SqL K H a xs ∧ Paired (Cp K H) xs cs ∧ DT cs ∧ ∀ H', Same H H' → Q (.str (dueM cs)) H'
theorem ok_due67 (G : Glo mg) (CU : Cal P w K mg base 10 "_law_turned" ["_law_classes_here"] (spTrn K)) (D : DefAt K mg "_law_due_of" s_Ldue_of ["_law_some"]) : Cal P w K mg base 11 "_law_due_of" ["_law_some"] (spDue67 K) := by
  refine D.cal sc_Ldue_of (fun vs H Q E h => ?_) (fun f cdv A outer s H vs Q E hr h => ?_)
  · obtain ⟨a, xs, cs, rfl, _⟩ := h
    rfl
  obtain ⟨a, xs, cs, rfl, hs, hp, hD, q⟩ := h
  refine ⟨_, pss_cons (ps_set (i := 1) sc_Ldue_of.nd rfl (by first | exact Or.inl rfl | exact Or.inr rfl) (pc CU hr rfl (pa_cons (pv 0) pa_nil)))
    (pss_one (ps_ret (pe_ifExp (pt_cmpR op_isN (pv 1) pe_non (nomark _)) (pe_callB (call_repr hr) (by rfl) G.repr (by decide +kernel) (pa_cons (pe_callTy call_tuple_of (by rfl) G.tuple b_tuple (pa_cons (pv 0) pa_nil)) pa_nil)) (pe_op op_add_str pe_str (pe_callB (call_repr hr) (by rfl) G.repr (by decide +kernel) (pa_cons (pv 1) pa_nil)))))), ?_⟩
  have n5 := hD.n5
  refine ⟨_, rfl, a, xs, cs, rfl, hs, hp, by omega, hD.nd, hD.len, fun hn H1 s1 => ?_, fun n l hn H1 t s1 ht => ?_⟩
  · have e : dueM cs = (csD cs).shown := by unfold dueM; rw [hn]
    rw [e] at q
    obtain ⟨f1, f2, f3, f4⟩ := cs_fit hD.pre.f.ok n5
    refine ⟨_, rfl, rfl, _, rfl, iteE rfl ⟨_, rfl, a, xs, rfl, .inl ⟨s1.seq hs, fun p hp0 => ?_⟩⟩⟩
    have s2 := same_new hp0 (.tup xs)
    exact ⟨p, csD cs, rfl, cs_dp ⟨xs, .inl (.inl upd_same), Paired.mapP hp fun _ _ z => z.stay (stay_same (s1.trans s2))⟩, f1, f2, f3, f4, q _ (s1.trans s2)⟩
  · have e : dueM cs = turW n l := by unfold dueM; rw [hn]
    rw [e] at q
    obtain ⟨h1, h2⟩ := hD.tur hn
    obtain ⟨f1, f2, f3, f4⟩ := nl_fit h1 h2
    refine ⟨_, rfl, rfl, _, rfl, iteN rfl ⟨_, rfl, t, nlD n l, rfl, .tup ht (.cons (.str n) (.cons (.str l) .nil)), f1, f2, f3, f4, _, _, rfl, rfl, sz5 ?_, q _ s1⟩⟩
    have := nl_short h1 h2
    have : ("! " : Str).length = 2 := by decide +kernel
    omega
end
end N

namespace N
open PySem PySem.Spec PyProof.Rows L2 L2H StX LamX NdefX
/-! ### table + a class, of classes right but for their signs -/
section
variable {X : Cx} {k n : Nat} {f C CT : Addr} {e e2 : Expr} {es : List Expr} {t : TA} {ta tb : TE} {p pos sp_ : Pos} {sp : Sp} {W : WX}
/-- Table(*e, e2, ..) -/
theorem pe_tabSZ (tk : Takes X W) (T : TabC X.K X.mg C) (M : Mk X.K C f) (F : FnS X.prog X.w X.K X.mg X.base 10 f (spTini1Z X.K C CT)) (hr : RoomG 11 X.A) (hg : Gl X "Table") (ha : PA X (.Starred e sp_ :: e2 :: es) t)
    (he : starEach (.Starred e sp_ :: e2 :: es) X.env = (true, eval e X.env) :: (false, eval e2 X.env) :: starEach es X.env := by rfl) : PE X (.Call (.Name "Table" p) (.Starred e sp_ :: e2 :: es) [] pos) (tTabZ X.K C CT W t) := by
  refine ⟨fun pins s σ H Q I h => wpAny_Call_Name_kw (ld_glob I hg T.gl ?_ (by decide))⟩
  refine OwnQ.callWith_S3 (h₀ := X.base) I.ok.mod.kin M.kp (thn (ha.run pos pins s σ H _ I h) fun us s1 ⟨vs, H1, J, r, cs, hp, ok, q1, q2⟩ => ⟨J.kIn, ?_⟩) he
  refine run_mkE tk M F hr J r fun a d h1 h2 h3 => ?_
  have hl : vs.length = cs.length := Paired.length hp
  have n5 := ok.f.n5
  refine ⟨.ref a, vs, rfl, by omega, fun p hp0 => ?_⟩
  have s1 := same_new h2 (.own a)
  have ha1 : (upd H1 d (.own a)) a = none := by rw [upd_ne (Ne.symm h3)]; exact h1
  have s2 := s1.trans (same_new ha1 (.ins C d []))
  have s3 := same_new hp0 (.tup vs)
  have s23 := s2.trans s3
  have hap := s3 _ _ (upd_same (H := upd H1 d (.own a)) (a := a) (o := .ins C d []))
  refine ⟨a, d, p, cs, rfl, hap, ⟨vs, .inl (.inl upd_same), Paired.mapP hp fun _ _ z => z.stay (stay_same s23)⟩, ok, fun hn H' s' => ⟨rfl, q1 hn _ a (same_mut (s23.trans s') h1) h1 ⟨a, d, p, rfl, upd_same, ?_⟩⟩, fun n l ht H' dd s' hs => q2 n l ht H' dd (s23.trans s') hs⟩
  exact CsAt.stay ((stay_same s').trans (stay_ins (s' _ _ hap))) ⟨vs, .inl (.inl upd_same), Paired.mapP hp fun _ _ z => z.stay (stay_same s23)⟩
def tAddZ (K : PySem.W.Frag) (C : Addr) (sp : Sp) (W : WX) (ta tb : TE) : TE := fun σ H Q => ta σ H fun x H1 => tb σ H1 fun y H2 => ∃ a b d fs ys, x = .ref a ∧ y = .ref b ∧ H2 a = some (.ins C d fs) ∧ SqT K H2 b ys ∧ sp [.ref a, .ref b] H2 (fun v H' => ∃ z, v = .ref z ∧ Q v H') (WE W σ)
/-- e + e2, the table's own def -/
theorem pe_addZ (tk : Takes X W) (R : TabA X.K C f) (F : FnS X.prog X.w X.K X.mg X.base n f sp) (hr : RoomG n X.A) (ha : PE X e ta) (hb : PE X e2 tb) : PE X (.BinOp e .Add e2 pos) (tAddZ X.K C sp W ta tb) := by
  refine ⟨fun pins s σ H Q I h => ?_⟩
  refine wpAny_BinOp (binT ha hb I (R := fun x y H2 => ∃ a b d fs ys, x = .ref a ∧ y = .ref b ∧ H2 a = some (.ins C d fs) ∧ SqT X.K H2 b ys ∧ sp [.ref a, .ref b] H2 (fun v H' => ∃ z, v = .ref z ∧ Q v H') (WE W σ)) h fun v u s2 x y H2 J rx ry q => ?_)
  obtain ⟨a, b, d, fs, ys, rfl, rfl, ha2, hb2, q⟩ := q
  cases rx
  cases ry
  obtain ⟨mA, O, _⟩ := ins_get J.hok ha2
  obtain ⟨od, O, _⟩ := O.look
  obtain ⟨cd, hc, hm⟩ := PySem.W.any_some R.sf
  obtain ⟨rest, hm⟩ : ∃ rest, cd.mro = .ref C :: rest := by
    cases e : cd.mro with
    | nil => rw [e] at hm; simp at hm
    | cons z rest =>
      rw [e] at hm
      have : z = .ref C := by simpa using hm
      exact ⟨rest, by rw [this]⟩
  have hT : s2.TypeIs (.ref b) "tuple" := TyB.is (x := .ref b) (u := .ref b) J rfl (.tup hb2)
  refine OwnQ.add_own J.kIn O hc hm R.add R.fn hT ?_
  refine codeAny_mono (runW (us := [.ref a, .ref b]) (vs := [.ref a, .ref b]) tk F ⟨hr, rfl⟩ J (.cons rfl (.cons rfl .nil)) q) fun r s' hq => ?_
  match r, hq with
  | .error e, hq => exact hq
  | .ok .next, hq => exact hq.elim
  | .ok .brk, hq => exact hq.elim
  | .ok .cont, hq => exact hq.elim
  | .ok (.ret v), hq =>
    obtain ⟨z, H', I', rz, w, ez, qz⟩ := hq
    subst ez
    cases rz
    exact ⟨.ref w, H', I', rfl, qz⟩
end
section
variable {P : Program} {w : World} {K : PySem.W.Frag} {mg : Str → Option Value} {base : Heap} {C CT f fi : Addr} {fd : FuncData}
def spTaddZ (K : PySem.W.Frag) (C CT : Addr) : Sp := fun vs H Q E => ∃ (a : Addr) (y : V) (cs : List Cls) (c : Cls), vs = [.ref a, y] ∧ TabAt K C H (.ref a) cs ∧ Cp K H y c ∧ PreOk (cs ++ [c]) ∧ (turnOf (cs ++ [c]) = none → ∀ H' b, Same H H' → TabAt K C H' (.ref b) (cs ++ [c]) → Q (.ref b) H') ∧ TurnX CT E H (cs ++ [c])
theorem ok_TaddZ (T : TabC K mg C) (M : Mk K C fi) (FI : FnS P w K mg base 10 fi (spTini1Z K C CT)) (F : Fun K "__add__" "Table.__add__" (tabM 9) f fd)
    (hb : ∀ us : List Value, us.length = nm_Tadd.length → bindArgs fd ⟨us, []⟩ = pure (nm_Tadd.zip us)) : FnS P w K mg base 12 f (spTaddZ K C CT) := by
  refine fnS_of (N := nm_Tadd) F sc_Tadd hb (fun vs H Q E h => ?_) fun cdv A outer s H vs Q E hr h => ?_
  · obtain ⟨a, y, cs, c, rfl, _⟩ := h
    rfl
  obtain ⟨a, y, cs, c, rfl, ⟨a0, d, p, e0, h1, xs, hq, hp⟩, hy, ok, q1, q2⟩ := h
  cases e0
  refine ⟨_, pss_one (ps_ret (pe_tabSZ (takes_of rfl rfl rfl rfl) T M FI hr rfl (pa_star (pe_fld (pv 0) rfl) (pa_cons (pv 1) pa_nil)))), ?_⟩
  exact ⟨_, rfl, a, C, d, _, .ref p, rfl, h1, T.c, T.na, rfl, p, xs, rfl, .inl hq, _, rfl, cs ++ [c], pairs_app hp (.cons hy .nil), ok, fun hn H2 b s2 _ ht => q1 hn H2 b s2 ht, q2⟩
end
end N

namespace N
open PySem PySem.Spec PyProof.Rows L2 L2H StX LamX NdefX
/-! ### one class more, that no other one names -/
theorem fits_nns {ar : List (Str × Nat)} {ls : List Str} : ∀ {k : Kd}, k.fits ar ls → ∀ n ∈ k.nns, ∃ m, (n, m) ∈ ar
  | .L c, _, n, h => by cases h
  | .C0 x, z, n, h => by
    rw [List.mem_singleton.mp h]
    exact ⟨0, z⟩
  | .C1 x a, z, n, h => by
    rcases List.mem_cons.mp h with rfl | h
    · exact ⟨1, z.1⟩
    · exact fits_nns z.2 n h
  | .C2 x a b, z, n, h => by
    rcases List.mem_cons.mp h with rfl | h
    · exact ⟨2, z.1⟩
    · rcases List.mem_append.mp h with h | h
      · exact fits_nns z.2.1 n h
      · exact fits_nns z.2.2 n h
theorem fits_less {ar ar' : List (Str × Nat)} {ls : List Str} {x : Str} (h : ∀ s ∈ ar, s.1 ≠ x → s ∈ ar') : ∀ {k : Kd}, k.fits ar ls → x ∉ k.nns → k.fits ar' ls
  | .L c, z, _ => z
  | .C0 n, z, hx => h _ z fun e => hx (by rw [← e]; exact List.mem_singleton.mpr rfl)
  | .C1 n a, z, hx => ⟨h _ z.1 fun e => hx (by rw [← e]; exact List.mem_cons_self), fits_less h z.2 fun q => hx (List.mem_cons_of_mem _ q)⟩
  | .C2 n a b, z, hx => ⟨h _ z.1 fun e => hx (by rw [← e]; exact List.mem_cons_self), fits_less h z.2.1 fun q => hx (List.mem_cons_of_mem _ (List.mem_append_left _ q)), fits_less h z.2.2 fun q => hx (List.mem_cons_of_mem _ (List.mem_append_right _ q))⟩
theorem mks_congr {vr vr' : Str → List Str} : ∀ {k : Kd} {m : Int}, (∀ n ∈ k.nns, vr n = vr' n) → k.mks vr m = k.mks vr' m
  | .L c, m, _ => rfl
  | .C0 n, m, _ => rfl
  | .C1 n a, m, h => by
    have e := h n List.mem_cons_self
    have ih : ∀ m, a.mks vr m = a.mks vr' m := fun m => mks_congr fun x hx => h x (List.mem_cons_of_mem _ hx)
    simp only [Kd.mks, e, ih]
  | .C2 n a b, m, h => by
    have e := h n List.mem_cons_self
    have ih : ∀ m, a.mks vr m = a.mks vr' m := fun m => mks_congr fun x hx => h x (List.mem_cons_of_mem _ (List.mem_append_left _ hx))
    have ih2 : ∀ m, b.mks vr m = b.mks vr' m := fun m => mks_congr fun x hx => h x (List.mem_cons_of_mem _ (List.mem_append_right _ hx))
    simp only [Kd.mks, e, ih, ih2]
theorem vrOf_app {cs l : List Cls} {n : Str} (h : n ∈ cs.map Cls.nm) : vrOf (cs ++ l) n = vrOf cs n := by
  unfold vrOf
  rw [List.find?_append]
  cases e : cs.find? fun c => c.nm == n with
  | some c => rfl
  | none =>
    obtain ⟨c, hc, rfl⟩ := List.mem_map.mp h
    have := List.find?_eq_none.mp e c hc
    simp at this
theorem ar_app (cs l : List Cls) : arOf (cs ++ l) = arOf cs ++ arOf l := List.map_append
/-- the classes but the last one, that none of them names -/
theorem DT.less {ci : List Cls} {cl : Cls} (h : DT (ci ++ [cl])) (hz : ∃ c ∈ ci, c.ps = []) (hn : ∀ c ∈ ci, ∀ k ∈ c.decl, cl.nm ∉ k.nns) : DT ci := by
  obtain ⟨rank, hr⟩ := h.r
  have n5 := h.n5
  have nd := h.nd
  rw [List.length_append] at n5
  rw [List.map_append, List.nodup_append] at nd
  have har : ∀ s ∈ arOf (ci ++ [cl]), s.1 ≠ cl.nm → s ∈ arOf ci := fun s hs ne => by
    rw [ar_app] at hs
    rcases List.mem_append.mp hs with z | z
    · exact z
    · rw [List.mem_singleton.mp z] at ne
      exact absurd rfl ne
  refine ⟨?_, by omega, nd.1, hz, rank, fun c hc => ?_⟩
  · obtain ⟨c, hc, _⟩ := hz
    exact List.length_pos_of_mem hc
  · have d := hr c (List.mem_append_left _ hc)
    refine ⟨d.n, d.p, d.v, d.k2, fun k hk => ⟨fits_less har (d.k k hk).1 (hn c hc k (List.mem_append_left _ hk)), (d.k k hk).2⟩, d.w, fun m hm => ⟨(d.m m hm).1, fits_less har (d.m m hm).2.1 (hn c hc m.2.2 (List.mem_append_right _ (List.mem_map_of_mem (f := fun m : Str × Str × Kd => m.2.2) hm))), (d.m m hm).2.2⟩⟩
theorem flat_congrK {α β : Type} {f g : α → List β} : ∀ {l : List α}, (∀ x ∈ l, f x = g x) → l.flatMap f = l.flatMap g
  | [], _ => rfl
  | a :: l, h => by rw [List.flatMap_cons, List.flatMap_cons, h a List.mem_cons_self, flat_congrK fun x hx => h x (List.mem_cons_of_mem _ hx)]
theorem turnM_app {ci : List Cls} {vl : Cls} (h : DT ci) {x : Str × Str} (e : turnM ci = some x) : turnM (ci ++ [vl]) = some x := by
  obtain ⟨rank, hr⟩ := h.r
  have hb : ∀ c ∈ ci, c.badM (ci ++ [vl]) = c.badM ci := fun c hc => by
    have hp : c.pmk (vrOf (ci ++ [vl])) = c.pmk (vrOf ci) := by
      unfold Cls.pmk
      have key : ∀ k ∈ c.ks, k.mks (vrOf (ci ++ [vl])) 1 = k.mks (vrOf ci) 1 := fun k hk => mks_congr fun n hn => by
        obtain ⟨m, hm⟩ := fits_nns ((hr c hc).k k hk).1 n hn
        obtain ⟨d, hd, e, _⟩ := mem_arOf hm
        exact vrOf_app (by rw [← e]; exact List.mem_map_of_mem hd)
      exact flat_congrK key
    unfold Cls.badM
    rw [hp]
  unfold turnM at e ⊢
  rw [List.findSome?_append, findS_congr (g := fun c => (c.badM ci).map fun l => (c.nm, l)) fun c hc => by rw [hb c hc], e]
  rfl
theorem filt_last {ci : List Cls} {cl : Cls} (nd : ((ci ++ [cl]).map Cls.nm).Nodup) : (ci ++ [cl]).filter (fun c => !decide (c.nm = cl.nm)) = ci := by
  rw [List.map_append, List.nodup_append] at nd
  rw [List.filter_append]
  have h1 : ci.filter (fun c => !decide (c.nm = cl.nm)) = ci := List.filter_eq_self.mpr fun c hc => by
    have : c.nm ≠ cl.nm := nd.2.2 _ (List.mem_map_of_mem hc) _ (by simp)
    simp [this]
  rw [h1]
  simp
theorem vry_self {c : Cls} (h : ∀ q ∈ c.ps, q.2 ∈ varz) : Vry c c := ⟨rfl, rfl, rfl, rfl, h⟩
theorem vry_selfs : ∀ {ci : List Cls}, (∀ c ∈ ci, ∀ q ∈ c.ps, q.2 ∈ varz) → Paired Vry ci ci
  | [], _ => .nil
  | c :: ci, h => .cons (vry_self (h c List.mem_cons_self)) (vry_selfs fun d hd => h d (List.mem_cons_of_mem _ hd))
/-! ### the lambdas -/
def inForE (l : List Stmt) (i : Nat) : List Stmt := match l[i]? with
  | some (.For _ _ b _ _) => b
  | _ => []
def lamIf : Stmt → Option (Arguments × Expr × Scope)
  | .If (.Compare (.Call _ [.Lambda a b s _] _ _) _ _ _) _ _ _ => some (a, b, s)
  | _ => none
def lamRt : Stmt → Option (Arguments × Expr × Scope)
  | .Return (some (.Compare (.Call _ [.Lambda a b s _] _ _) _ _ _)) _ => some (a, b, s)
  | _ => none
def lamL : Arguments × Expr × Scope := ((inForE (defBody s_Lright) 1)[0]?.bind lamIf).getD (defArgs s_Lright, .Name "x" ⟨0, 0, 0, 0⟩, defScope s_Lright)
def lamN : Arguments × Expr × Scope := ((defBody s_Lright)[7]?.bind lamRt).getD (defArgs s_Lright, .Name "x" ⟨0, 0, 0, 0⟩, defScope s_Lright)
theorem sc_lamL : NScope ["_law_lot"] [] ["_law_lot"] lamL.2.2 := nscope_by (by decide +kernel)
theorem sc_lamN : NScope ["_law_last", "_law_rest"] [] ["_law_last", "_law_rest"] lamN.2.2 := nscope_by (by decide +kernel)
theorem freL : ∀ y ∈ lamL.2.2.names, y.2 = .free → (defScope s_Lright).names.lookup y.1 = some .cell ∨ (defScope s_Lright).names.lookup y.1 = some .free := ndef_free (fr := []) (by decide +kernel)
theorem freN : ∀ y ∈ lamN.2.2.names, y.2 = .free → (defScope s_Lright).names.lookup y.1 = some .cell ∨ (defScope s_Lright).names.lookup y.1 = some .free := ndef_free (fr := []) (by decide +kernel)
section
variable {P : Program} {w : World} {K : PySem.W.Frag} {mg : Str → Option Value} {base : Heap} {C CT fa : Addr} {F : NF} {f : Addr} {h : Heap} {H : Hp}
def spLt (K : PySem.W.Frag) (C CT : Addr) (a : Addr) (cs : List Cls) : Hp → VK → XK → Prop := fun H Q E => ∃ xs, SqL K H a xs ∧ Paired (Cp K H) xs cs ∧ PreOk cs ∧ (turnOf cs = none → ∀ H' b, Same H H' → TabAt K C H' (.ref b) cs → Q (.ref b) H') ∧ TurnX CT E H cs
theorem spLt_mon {a : Addr} {cs : List Cls} (R R' : VK) (E E' : XK) (h1 : ∀ v H1, R v H1 → R' v H1) (h2 : ∀ cls d H1, E cls d H1 → E' cls d H1) (z : spLt K C CT a cs H R E) : spLt K C CT a cs H R' E' := by
  obtain ⟨xs, a1, a2, a3, a4, a5⟩ := z
  exact ⟨xs, a1, a2, a3, fun hn H' b s t => h1 _ _ (a4 hn H' b s t), fun n l ht H' dd s hd => h2 _ _ _ (a5 n l ht H' dd s hd)⟩
theorem act_L {a : Addr} {cs : List Cls} (CM : Cal P w K mg base 12 "_law_table" ["_law_some"] (spTbX K C CT)) (eF : F.params = lamL.1 ∧ F.scope = lamL.2.2) (Cc : CellsAt F.cl ["_law_lot"] [some (.ref a)] h H) (h1 : H f = some (LamO f F lamL.2.1)) (h2 : H F.c = some (CodeO F.c F.qual)) : ActR P w K mg base 12 f h H (spLt K C CT a cs) := by
  obtain ⟨name, qual, params, fb, scope, cl, c'⟩ := F
  obtain ⟨rfl, rfl⟩ := eF
  refine ⟨_, lamL.2.1, _, _, _, fun E => tCallS (spTbX K C CT) (WE fun cls d _ H => E cls d H) (tCons (tVar 0) tNil), sc_lamL, fun pm ctv => rfl, fun A outer s H E hr => pcE (takes_of rfl rfl rfl rfl) CM hr (by rfl) (pa_cons (pe_var (x := "_law_lot") (i := 0) rfl (.inr (.inr rfl))) pa_nil), Cc, h1, h2, fun H' Q E z => ?_⟩
  obtain ⟨xs, a1, a2, a3, a4, a5⟩ := z
  exact ⟨_, rfl, a, xs, cs, rfl, a1, a2, a3, a4, a5⟩
def spLn (K : PySem.W.Frag) (C CT : Addr) (a b : Addr) (ci : List Cls) (vl : Cls) : Hp → VK → XK → Prop := fun H Q E => ∃ xs, SqL K H a xs ∧ Paired (Cp K H) xs ci ∧ Cp K H (.ref b) vl ∧ PreOk ci ∧ PreOk (ci ++ [vl]) ∧
  (turnOf ci = none → turnOf (ci ++ [vl]) = none → ∀ H' b, Same H H' → TabAt K C H' (.ref b) (ci ++ [vl]) → Q (.ref b) H') ∧ (turnOf ci = none → TurnX CT E H (ci ++ [vl])) ∧ TurnX CT E H ci
theorem spLn_mon {a b : Addr} {ci : List Cls} {vl : Cls} (R R' : VK) (E E' : XK) (h1 : ∀ v H1, R v H1 → R' v H1) (h2 : ∀ cls d H1, E cls d H1 → E' cls d H1) (z : spLn K C CT a b ci vl H R E) : spLn K C CT a b ci vl H R' E' := by
  obtain ⟨xs, a1, a2, a3, a4, a5, a6, a7, a8⟩ := z
  exact ⟨xs, a1, a2, a3, a4, a5, fun e1 e2 H' b s t => h1 _ _ (a6 e1 e2 H' b s t), fun e n l ht H' dd s hd => h2 _ _ _ (a7 e n l ht H' dd s hd), fun n l ht H' dd s hd => h2 _ _ _ (a8 n l ht H' dd s hd)⟩
theorem act_N {a b : Addr} {ci : List Cls} {vl : Cls} (RA : TabA K C fa) (FA : FnS P w K mg base 12 fa (spTaddZ K C CT)) (CM : Cal P w K mg base 12 "_law_table" ["_law_some"] (spTbX K C CT)) (eF : F.params = lamN.1 ∧ F.scope = lamN.2.2) (Cc : CellsAt F.cl ["_law_last", "_law_rest"] [some (.ref b), some (.ref a)] h H)
    (h1 : H f = some (LamO f F lamN.2.1)) (h2 : H F.c = some (CodeO F.c F.qual)) : ActR P w K mg base 12 f h H (spLn K C CT a b ci vl) := by
  obtain ⟨name, qual, params, fb, scope, cl, c'⟩ := F
  obtain ⟨rfl, rfl⟩ := eF
  refine ⟨_, lamN.2.1, _, _, _, fun E => tAddZ K C (spTaddZ K C CT) (fun cls d _ H => E cls d H) (tCallS (spTbX K C CT) (WE fun cls d _ H => E cls d H) (tCons (tVar 1) tNil)) (tVar 0), sc_lamN, fun pm ctv => rfl, fun A outer s H E hr => pe_addZ (takes_of rfl rfl rfl rfl) RA FA hr (pcE (takes_of rfl rfl rfl rfl) CM hr (by rfl) (pa_cons (pe_var (x := "_law_rest") (i := 1) rfl (.inr (.inr rfl))) pa_nil)) (pe_var (x := "_law_last") (i := 0) rfl (.inr (.inr rfl))), Cc, h1, h2, fun H' Q E z => ?_⟩
  obtain ⟨xs, a1, a2, a3, a4, a5, a6, a7, a8⟩ := z
  refine ⟨_, rfl, a, xs, ci, rfl, a1, a2, a4, fun hn H1 m s1 ht => ?_, a8⟩
  obtain ⟨m0, d, p, e0, hi, hc⟩ := id ht
  cases e0
  have a3' := a3.stay (stay_same (K := K) s1)
  obtain ⟨u, ap, ak, am, eu, qc, _⟩ := id a3'
  cases eu
  exact ⟨_, rfl, m, b, d, _, _, rfl, rfl, hi, qc, m, .ref b, ci, vl, rfl, ht, a3', a5, fun hn2 H2 b2 s2 t2 => ⟨b2, rfl, a6 hn hn2 H2 b2 (s1.trans s2) t2⟩, fun n l ht2 H2 dd s2 hd => a7 hn n l ht2 H2 dd (s1.trans s2) hd⟩
end
end N

namespace N
open PySem PySem.Spec PyProof.Rows L2 StX LamX NdefX
/-! ### what stays while a law runs: all but the pen and the tables -/
structure Tr (p : Addr) (H H' : Hp) : Prop where
  e : ∀ b o, b ≠ p → (∀ ps, o ≠ .tbl ps) → H b = some o → H' b = some o
  n : ∀ b, H' b = none → H b = none
  p : Pen H p → Pen H' p
theorem Tr.refl (p : Addr) (H : Hp) : Tr p H H := ⟨fun _ _ _ _ h => h, fun _ h => h, fun h => h⟩
theorem Tr.trans {p : Addr} {H H1 H2 : Hp} (a : Tr p H H1) (b : Tr p H1 H2) : Tr p H H2 := ⟨fun c o n t h => b.e c o n t (a.e c o n t h), fun c h => a.n c (b.n c h), fun h => b.p (a.p h)⟩
theorem Tr.same {p : Addr} {H H' : Hp} (s : Same H H') : Tr p H H' := ⟨fun b o _ _ h => s b o h, fun b h => s.free h, fun h => h.same s⟩
theorem Tr.bar {p : Addr} {H H' : Hp} (b : Bar p H H') (pn : Pen H p) (pn' : Pen H' p) : Tr p H H' := ⟨fun c o n _ h => b c o n h, fun c h => pen_free b pn h pn', fun _ => pn'⟩
theorem Tr.gro {p : Addr} {H H' : Hp} (g : Gro H H') : Tr p H H' := ⟨fun b o _ t h => g.e b o h t, g.n, fun h => by
  obtain ⟨i, j, k, e, r⟩ := h
  exact ⟨i, j, k, g.e _ _ e (fun ps z => by cases z), r⟩⟩
theorem Tr.stay {K : PySem.W.Frag} {p : Addr} {H H' : Hp} (t : Tr p H H') (h : Pen H p) : Stay K H H' := by
  obtain ⟨i', j', k', e', _⟩ := t.p h
  obtain ⟨i, j, k, e, _⟩ := h
  have k1 : ∀ b o, H b = some o → (∀ xs, o ≠ .lst xs) → (∀ ps, o ≠ .tbl ps) → H' b = some o := fun b o q n1 n2 => t.e b o (fun z => by rw [z, e] at q; exact n1 _ (Option.some.inj q).symm) n2 q
  refine ⟨fun a xs q => ?_, fun v ty q => ?_⟩
  · rcases q with (q | ⟨o', q⟩) | q
    · exact .inl (.inl (k1 _ _ q (fun _ z => by cases z) (fun _ z => by cases z)))
    · exact .inl (.inr ⟨o', k1 _ _ q (fun _ z => by cases z) (fun _ z => by cases z)⟩)
    · exact .inr q
  · cases q with
    | base b =>
      cases b with
      | non => exact .base .non
      | bl x => exact .base (.bl x)
      | int i => exact .base (.int i)
      | str x => exact .base (.str x)
      | flt x => exact .base (.flt x)
      | @lst a xs z =>
        by_cases ea : a = p
        · subst ea
          exact .base (.lst e')
        · exact .base (.lst (t.e _ _ ea (fun _ y => by cases y) z))
      | frz z => exact .base (.frz (k1 _ _ z (fun _ y => by cases y) (fun _ y => by cases y)))
      | tup z => exact .base (.tup (k1 _ _ z (fun _ y => by cases y) (fun _ y => by cases y)))
      | dK z => exact .base (.dK (k1 _ _ z (fun _ y => by cases y) (fun _ y => by cases y)))
      | dT z => exact .base (.dT (k1 _ _ z (fun _ y => by cases y) (fun _ y => by cases y)))
      | ins z cl ha hn htk hm => exact .base (.ins (k1 _ _ z (fun _ y => by cases y) (fun _ y => by cases y)) cl ha hn htk hm)
    | byt b => exact .byt b
    | set z => exact .set (k1 _ _ z (fun _ y => by cases y) (fun _ y => by cases y))
    | kList z c => exact .kList z c
    | kTuple z c => exact .kTuple z c
    | kDict z c => exact .kDict z c
    | fTuple z => exact .fTuple (k1 _ _ z (fun _ y => by cases y) (fun _ y => by cases y))
    | fDict z => exact .fDict (k1 _ _ z (fun _ y => by cases y) (fun _ y => by cases y))
theorem Tr.seq {K : PySem.W.Frag} {p a : Addr} {H H' : Hp} {xs : List V} (t : Tr p H H') (n : a ≠ p) (h : SqL K H a xs) : SqL K H' a xs := by
  rcases h with (h | ⟨o, h⟩) | h
  · exact .inl (.inl (t.e _ _ n (fun _ z => by cases z) h))
  · exact .inl (.inr ⟨o, t.e _ _ n (fun _ z => by cases z) h⟩)
  · exact .inr h
/-- what is no list and no table stays -/
theorem Tr.at {p a : Addr} {H H' : Hp} {o : HO} (t : Tr p H H') (pn : Pen H p) (h : H a = some o) (n1 : ∀ xs, o ≠ .lst xs) (n2 : ∀ ps, o ≠ .tbl ps) : H' a = some o := by
  obtain ⟨i, j, k, e, _⟩ := pn
  exact t.e a o (fun z => by rw [z, e] at h; exact n1 _ (Option.some.inj h).symm) n2 h
theorem tab_bar {p Pt : Addr} {H H' : Hp} {q : Str} (pn : Pen H p) (b : Bar p H H') (t : TabS H Pt q) : TabS H' Pt q := by
  obtain ⟨i, j, k, ep, _⟩ := pn
  obtain ⟨ps, h1, h2, h3⟩ := t
  refine ⟨ps, b _ _ (fun z => by rw [z, ep] at h1; cases h1) h1, h2, fun pos cv hc => ?_⟩
  obtain ⟨c, e1, e2⟩ := h3 pos cv hc
  refine ⟨c, e1, b _ _ (fun z => ?_) e2⟩
  rw [z, ep] at e2
  unfold CodeO at e2
  cases e2

def tqR : Str := ("_law_right" : Str) ++ ".<locals>." ++ "<lambda>"
/-- what is_right keeps -/
structure LT (p P1 : Addr) (H H' : Hp) : Prop where
  t : Tr p H H'
  pn : Pen H' p
  t1 : TabS H' P1 tqR
namespace LT
variable {p P1 : Addr} {H H1 H2 : Hp}
theorem same (a : LT p P1 H H1) (s : Same H1 H2) : LT p P1 H H2 := ⟨a.t.trans (Tr.same s), a.pn.same s, a.t1.ext s⟩
theorem bar (a : LT p P1 H H1) (b : Bar p H1 H2) (pn : Pen H2 p) : LT p P1 H H2 := ⟨a.t.trans (Tr.bar b a.pn pn), pn, tab_bar a.pn b a.t1⟩
theorem lam (a : LT p P1 H H1) (e : ExtN H1 H2) (t : TabS H2 P1 tqR) (z : ∀ b, H2 b = none → H1 b = none) : LT p P1 H H2 :=
  ⟨a.t.trans (Tr.gro ⟨e, z⟩), (Tr.gro (p := p) ⟨e, z⟩).p a.pn, t⟩
theorem self (pn : Pen H p) (t1 : TabS H P1 tqR) : LT p P1 H H := ⟨Tr.refl p H, pn, t1⟩
theorem here (a : LT p P1 H H1) : LT p P1 H1 H1 := self a.pn a.t1
theorem next (a : LT p P1 H H1) (b : LT p P1 H1 H2) : LT p P1 H H2 := ⟨a.t.trans b.t, b.pn, b.t1⟩
theorem lst {l : Addr} {xs : List V} (a : LT p P1 H H1) (n : l ≠ p) (h : H l = some (.lst xs)) : H1 l = some (.lst xs) := a.t.e _ _ n (fun _ z => by cases z) h
end LT
theorem groTr {p : Addr} {H H1 H' : Hp} (g : Gro H H1) (h0 : H p = none) (t : Tr p H1 H') : Gro H H' :=
  ⟨fun b o e nt => t.e b o (ne_of_none e h0) nt (g.e b o e nt), fun b z => g.n b (t.n b z)⟩
theorem TabAt.tr {K : PySem.W.Frag} {C p : Addr} {H H' : Hp} {v : V} {cs : List Cls} (t : Tr p H H') (pn : Pen H p) (h : TabAt K C H v cs) : TabAt K C H' v cs := by
  obtain ⟨a, d, q, e, h1, h2⟩ := h
  exact ⟨a, d, q, e, t.at pn h1 (fun _ z => by cases z) (fun _ z => by cases z), h2.stay (t.stay pn)⟩
end N

namespace N
open PySem PySem.Spec PyProof.Rows L2 L2H StX LamX NdefX
/-! ### small things for _law_right -/
theorem psn_shaped {c : Cls} (h : c.ok) : SeqAt.shaped (psD c.ps) = true := by
  have h1 : (psD c.ps).canLay0 = true ∧ (psD c.ps).depth ≤ 2 := lay_map fun p hp => by
    have e1 := let_strOk (h.pl p hp).1
    have e2 := way_strOk p.2 (List.mem_append_right _ (h.pl p hp).2)
    simp [PyData.canLay0, PyData.canLayAll0, PyData.depth, PyData.depthAll, e1, e2]
  show ((psD c.ps).canLay0 && decide ((psD c.ps).depth ≤ 64)) = true
  rw [Bool.and_eq_true, decide_eq_true_eq]
  exact ⟨h1.1, by have := h1.2; omega⟩
theorem eqv_psn (ps : List (Str × Str)) : PyData.eqv (psD ps) (.tuple []) = decide (ps = []) := by
  cases ps <;> simp [psD, PyData.eqv, PyData.eqvAll]
theorem lst_shaped {cs : List Cls} (h : ∀ c ∈ cs, c.ok) : SeqAt.shaped (.list (cs.map Cls.pd)) = true := by
  have h1 := lay_map (xs := cs) (g := Cls.pd) (n := 12) fun c hc => cls_lay (h c hc)
  show ((PyData.list (cs.map Cls.pd)).canLay0 && decide ((PyData.list (cs.map Cls.pd)).depth ≤ 64)) = true
  rw [Bool.and_eq_true, decide_eq_true_eq]
  obtain ⟨h2, h3⟩ := h1
  simp only [PyData.canLay0, PyData.depth] at h2 h3 ⊢
  exact ⟨h2, by omega⟩
theorem eqv_lst (cs : List Cls) : PyData.eqv (.list (cs.map Cls.pd)) (.list []) = decide (cs = []) := by
  cases cs <;> simp [PyData.eqv, PyData.eqvAll]
theorem dp_clss {K : PySem.W.Frag} {H : Hp} {vs : List V} {cs : List Cls} (h : Paired (Cp K H) vs cs) : DpAll K H vs (cs.map Cls.pd) := dpAll_of (fun v c z => cp_dp z) h
theorem kps_of {K : PySem.W.Frag} {H : Hp} : ∀ {vs : List V} {ks : List Kd}, Paired (fun v k => Kp K H v k) vs ks → Kps K H vs ks
  | _, _, .nil => .nil
  | _, _, .cons a t => .cons a (kps_of t)
/-- the kinds of members -/
theorem mp_kinds {K : PySem.W.Frag} {H : Hp} : ∀ {us : List V} {ms : List (Str × Str × Kd)}, Paired (Mp K H) us ms → ∃ zs, Kps K H zs (ms.map fun m => m.2.2) ∧ zs.length = us.length ∧ ∀ (i : Nat) (x z : V), us[i]? = some x → zs[i]? = some z → ∃ (a : Addr) (n w : Str), x = V.ref a ∧ SqT K H a [.str n, .str w, z]
  | _, _, .nil => ⟨[], .nil, rfl, fun i x z h => by simp at h⟩
  | _, _, .cons (a := v) (b := m) ⟨a, u, e, q, k⟩ t => by
    obtain ⟨zs, h1, h2, h3⟩ := mp_kinds t
    refine ⟨u :: zs, .cons k h1, by rw [List.length_cons, List.length_cons, h2], fun i x z hx hz => ?_⟩
    cases i with
    | zero =>
      simp at hx hz
      subst hx hz
      exact ⟨a, m.1, m.2.1, e, q⟩
    | succ i => exact h3 i x z (by simpa using hx) (by simpa using hz)
theorem cat_q {K : PySem.W.Frag} {H : Hp} {a b : Addr} {xs ys : List V} {Q : VK} (h1 : SqT K H a xs) (h2 : SqT K H b ys) (hl : xs.length + ys.length ≤ 1000) (q : ∀ H' c, Same H H' → SqT K H' c (xs ++ ys) → Q (.ref c) H') : rCatA K (.ref a) (.ref b) H Q := by
  refine ⟨a, b, xs, ys, rfl, rfl, h1, h2, sz5 (by omega), fun z => ?_, fun _ z => ?_, fun _ _ p hp => q _ p (same_new hp _) (.inl (.inl upd_same))⟩
  · subst z
    exact q H b (Same.refl _) h2
  · subst z
    exact q H a (Same.refl _) (by rw [List.append_nil]; exact h1)
theorem due_no {cs : List Cls} (hD : DT cs) (hn : turnOf cs = none) : dueM cs = (csD cs).shown := by
  unfold dueM
  rw [hD.eqT, hn]
theorem due_yes {cs : List Cls} {n l : Str} (h : turnM cs = some (n, l)) : dueM cs = turW n l := by
  unfold dueM
  rw [h]
/-- the names that are found in a class -/
def Cls.nnl (c : Cls) : List Str := "" :: c.decl.flatMap Kd.nns
theorem nam_ne {x : Str} (h : isNam x = true) : x ≠ "" := fun e => by
  rw [e] at h
  revert h
  decide +kernel
theorem sum_le {α : Type} {f : α → Nat} {m : Nat} : ∀ {l : List α}, (∀ x ∈ l, f x ≤ m) → (l.map f).sum ≤ m * l.length
  | [], _ => by simp
  | a :: l, h => by
    have h1 := h a List.mem_cons_self
    have h2 := sum_le fun x hx => h x (List.mem_cons_of_mem _ hx)
    rw [List.map_cons, List.sum_cons, List.length_cons, Nat.mul_add]
    omega
theorem DC.nds {ar : List (Str × Nat)} {rank : Str → Nat} {c : Cls} (h : DC ar rank c) : (c.decl.map Kd.nds).sum ≤ 20 := by
  obtain ⟨j, ej⟩ := h.w
  have hm : c.ms.length ≤ 2 := by
    rw [← List.length_map (f := Prod.fst), ej, List.length_take]
    exact Nat.min_le_right _ _
  unfold Cls.decl
  rw [List.map_append, List.sum_append, List.map_map]
  have h1 : (c.ks.map Kd.nds).sum ≤ 7 * c.ks.length := sum_le fun k hk => (h.k k hk).2.2.2.2
  have h2 : (c.ms.map (Kd.nds ∘ fun m => m.2.2)).sum ≤ 3 * c.ms.length := sum_le fun m hm => (h.m m hm).2.2
  have := h.k2
  omega
theorem nns_sum : ∀ ks : List Kd, (ks.flatMap Kd.nns).length ≤ (ks.map Kd.nds).sum
  | [] => by simp
  | k :: ks => by
    have h1 := nns_nds k
    have h2 := nns_sum ks
    rw [List.flatMap_cons, List.length_append, List.map_cons, List.sum_cons]
    omega
theorem inV_str {x : Str} {l : List Str} : inV (.str x) (l.map V.str) = decide (x ∈ l) := by
  unfold inV
  rw [Bool.eq_iff_iff, List.any_eq_true, decide_eq_true_iff]
  constructor
  · rintro ⟨y, hy, e⟩
    obtain ⟨z, hz, rfl⟩ := List.mem_map.mp hy
    have : V.str z = V.str x := by simpa [eqV] using e
    cases this
    exact hz
  · intro h
    exact ⟨.str x, List.mem_map_of_mem h, decide_eq_true rfl⟩
/-- one[0] != some[-1][0], one at 6, some at 2 -/
def tNeL (K : PySem.W.Frag) : TT := fun σ H Q => ∃ (x yl : V) (c L : Cls) (sl : Addr) (ys : List V), σ[6]? = some (some x) ∧ Cp K H x c ∧ σ[2]? = some (some (.ref sl)) ∧ SqL K H sl (ys ++ [yl]) ∧ Cp K H yl L ∧ Q (!decide (c.nm = L.nm)) H
/-- one[1] == () -/
def tEmp (K : PySem.W.Frag) : TT := fun σ H Q => ∃ (x : V) (c : Cls), σ[6]? = some (some x) ∧ Cp K H x c ∧ c.ok ∧ ∀ H', Same H H' → Q (decide (c.ps = [])) H'
end N

namespace N
open PySem PySem.Spec PyProof.Rows L2 L2H StX LamX NdefX
/-! ### _law_right -/
def ClsL (K : PySem.W.Frag) (H : Hp) (a : Addr) (cs : List Cls) : Prop := ∃ xs, SqL K H a xs ∧ Paired (Cp K H) xs cs
theorem ClsL.same {K : PySem.W.Frag} {H H' : Hp} {a : Addr} {cs : List Cls} (s : Same H H') (h : ClsL K H a cs) : ClsL K H' a cs := by
  obtain ⟨xs, a, b⟩ := h
  exact ⟨xs, s.seq a, Paired.mapP b fun _ _ z => z.stay (stay_same s)⟩
theorem ClsL.gro {K : PySem.W.Frag} {H H' : Hp} {a : Addr} {cs : List Cls} (s : Gro H H') (h : ClsL K H a cs) : ClsL K H' a cs := by
  obtain ⟨xs, a, b⟩ := h
  exact ⟨xs, s.seq a, Paired.mapP b fun _ _ z => z.stay s.stay⟩
section
variable {P : Program} {w : World} {K : PySem.W.Frag} {mg : Str → Option Value} {base : Heap} {C CT fa pp gp : Addr}
def RRL (K : PySem.W.Frag) (cells : List (Str × Addr)) : L2.St → List V → Hp → VK → Prop := fun σ vs H1 Q1 => ∃ (f1 c1 a : Addr) (cs : List Cls), vs = [.ref f1] ∧ slotAt σ 3 = some (.ref a) ∧ H1 f1 = some (LamO f1 (lamF tqR lamL.1 lamL.2.2 (cloFrom cells lamL.2.2.names []) c1) lamL.2.1) ∧ H1 c1 = some (CodeO c1 tqR) ∧
  ClsL K H1 a cs ∧ DT cs ∧ ∀ H2, Same H1 H2 → Q1 (.str (dueM cs)) H2
def RRN (K : PySem.W.Frag) (cells : List (Str × Addr)) : L2.St → List V → Hp → VK → Prop := fun σ vs H1 Q1 => ∃ (f1 c1 a b : Addr) (ci : List Cls) (vl : Cls), vs = [.ref f1] ∧ slotAt σ 5 = some (.ref b) ∧ slotAt σ 4 = some (.ref a) ∧ H1 f1 = some (LamO f1 (lamF tqR lamN.1 lamN.2.2 (cloFrom cells lamN.2.2.names []) c1) lamN.2.1) ∧ H1 c1 = some (CodeO c1 tqR) ∧
  ClsL K H1 a ci ∧ Cp K H1 (.ref b) vl ∧ DT ci ∧ DT (ci ++ [vl]) ∧ ∀ H2, Same H1 H2 → Q1 (.str (dueM (ci ++ [vl]))) H2
theorem told_L {a : Addr} {cs : List Cls} {H : Hp} {Q : VK} (h : ClsL K H a cs) (hD : DT cs) (q : ∀ H2, Same H H2 → Q (.str (dueM cs)) H2) : spLt K C CT a cs H (TabR6 K C Q) (TurE CT Q) := by
  obtain ⟨xs, h1, h2⟩ := h
  refine ⟨xs, h1, h2, hD.pre, fun hn H' b s t => ⟨b, cs, rfl, t, hD.pre.f.ok, hD.n5, fun H2 s2 => ?_⟩, fun n l ht H' dd s hd => ?_⟩
  · have := q H2 (s.trans s2)
    rw [due_no hD hn] at this
    exact this
  · rw [← hD.eqT] at ht
    obtain ⟨g1, g2⟩ := hD.tur ht
    refine ⟨rfl, dd, n, l, rfl, hd, g1, g2, fun H2 s2 => ?_⟩
    have := q H2 (s.trans s2)
    rw [due_yes ht] at this
    exact this
theorem told_N {a b : Addr} {ci : List Cls} {vl : Cls} {H : Hp} {Q : VK} (h : ClsL K H a ci) (hb : Cp K H (.ref b) vl) (hD : DT ci) (hE : DT (ci ++ [vl])) (q : ∀ H2, Same H H2 → Q (.str (dueM (ci ++ [vl]))) H2) : spLn K C CT a b ci vl H (TabR6 K C Q) (TurE CT Q) := by
  obtain ⟨xs, h1, h2⟩ := h
  refine ⟨xs, h1, h2, hb, hD.pre, hE.pre, fun hn hn2 H' b s t => ⟨b, ci ++ [vl], rfl, t, hE.pre.f.ok, hE.n5, fun H2 s2 => ?_⟩, fun hn n l ht H' dd s hd => ?_, fun n l ht H' dd s hd => ?_⟩
  · have := q H2 (s.trans s2)
    rw [due_no hE hn2] at this
    exact this
  · rw [← hE.eqT] at ht
    obtain ⟨g1, g2⟩ := hE.tur ht
    refine ⟨rfl, dd, n, l, rfl, hd, g1, g2, fun H2 s2 => ?_⟩
    have := q H2 (s.trans s2)
    rw [due_yes ht] at this
    exact this
  · rw [← hD.eqT] at ht
    obtain ⟨g1, g2⟩ := hD.tur ht
    refine ⟨rfl, dd, n, l, rfl, hd, g1, g2, fun H2 s2 => ?_⟩
    have := q H2 (s.trans s2)
    rw [due_yes (turnM_app hD ht)] at this
    exact this
end
end N

namespace N
open PySem PySem.Spec PyProof.Rows L2 L2H StX LamX NdefX
/-! ### _law_right: the def -/
section
variable {P : Program} {w : World} {K : PySem.W.Frag} {mg : Str → Option Value} {base : Heap} {C CT fa pp gp : Addr}
def spRig67 (K : PySem.W.Frag) (P1 : Addr) : Sp := fun vs H Q _ => ∃ (p a : Addr) (cs : List Cls), vs = [.ref p, .ref a] ∧ Pen H p ∧ a ≠ p ∧ ClsL K H a cs ∧ DT cs ∧ TabS H P1 tqR ∧ ∀ H', LT p P1 H H' → Q (.bl true) H'
theorem ok_rig67 {cc P1 : Addr} (G : Glo mg) (TB : TabB base mg cc P1) (TK : ToldK K mg CT) (T : TabC K mg C) (PC : PropOf K C "classes" pp gp) (FC : FnS P w K mg base 1 gp (spTcls K C)) (RA : TabA K C fa) (FA : FnS P w K mg base 12 fa (spTaddZ K C CT))
    (CM : Cal P w K mg base 12 "_law_table" ["_law_some"] (spTbX K C CT)) (CV : Cal P w K mg base 3 "_law_varied" ["_law_pen", "_law_classes_here"] (spVar K)) (CU : Cal P w K mg base 11 "_law_due_of" ["_law_some"] (spDue67 K)) (CN : Cal P w K mg base 23 "_law_nodes" ["_law_kind"] (spNod K 22))
    (DS : DefAt K mg "_law_told" s_Ltold ["_law_call"]) (D : DefAtC K mg "_law_right" s_Lright ["_law_pen", "_law_classes_here"] cc) : Cal P w K mg base 24 "_law_right" ["_law_pen", "_law_classes_here"] (spRig67 K P1) := by
  refine D.cal sc_Lright (fun vs H Q E h => ?_) (fun f A outer s H vs Q E hr h => ?_)
  · obtain ⟨p, a, cs, rfl, _⟩ := h
    rfl
  obtain ⟨p, a, cs, rfl, pn0, na, hA, hD, ht0, q⟩ := h
  have hr3 : RoomG 3 (A.deeper (envOfC "_law_right" (defScope s_Lright) s.heap.objs.size f (.ref cc))) := hr.mono (by decide)
  have hr11 : RoomG 11 (A.deeper (envOfC "_law_right" (defScope s_Lright) s.heap.objs.size f (.ref cc))) := hr.mono (by decide)
  have hr14 : RoomG (13 + 1) (A.deeper (envOfC "_law_right" (defScope s_Lright) s.heap.objs.size f (.ref cc))) := hr.mono (by decide)
  refine ⟨_, pss_cons (ps_set (i := 2) sc_Lright.nd rfl (by first | exact Or.inl rfl | exact Or.inr rfl) (pc CV hr3 rfl (pa_cons (pv 0) (pa_cons (pv 1) pa_nil))))
    (pss_cons (ps_for (passes_of rfl) rfl (pi_list (pe_lst (pa_cons (pv 1) (pa_cons (pv 2) (pa_cons (pe_revL (pv 2)) pa_nil))))) (pg_name (i := 3) sc_Lright.nd rfl (by first | exact Or.inl rfl | exact Or.inr rfl))
      (pss_one (ps_if (pt_cmpR op_ne (pe_callH (k := 13) (RR := RRL K (envOfC "_law_right" (defScope s_Lright) s.heap.objs.size f (.ref cc)).cells) DS sc_Ltold hr14 rfl (pa_cons (pe_lamT2 TB rfl rfl freL) pa_nil) (fun σ vs H1 Q1 z => by obtain ⟨f1, c1, a, cs, rfl, _⟩ := z; rfl) (fun g cdv pins s1 σ H1 vs Q1 J hr' z => ?_)) (pc CU hr11 rfl (pa_cons (pv 3) pa_nil)) (nomark _)) (pss_one ps_never) pss_nil)))
    (pss_cons (ps_asg (pe_tup (pa_cons (pe_lc (own := [("_law_one", 6)]) (g := gName 6) (tt := tNeL K) (te := tVar 6) rfl sc_Lright.nd (pi_list (pv 1)) (blkOk_by (N := nm_Lright) (sc := defScope s_Lright) (own := [("_law_one", 6)]) (by decide +kernel))
            (fun _ _ _ _ _ => pg_name (i := 6) sc_Lright.nd rfl (Or.inl rfl)) (fun _ _ _ _ _ => pts_one (ptOf (pt_cmpR op_ne (pe_ix ix_tup (pv 6) pe_int (fun _ _ => rfl)) (pe_ix ix_tup (pe_ix ix_list (pv 2) (pe_un un_neg pe_int) (fun _ _ => rfl)) pe_int (fun _ _ => rfl)) (nomark _)) (fun σ H Q z => ?_))) (fun _ _ _ _ _ => pv 6))
          (pa_cons (pe_ix ix_list (pv 2) (pe_un un_neg pe_int) (fun _ _ => rfl)) pa_nil))) (pg_tup (by rfl) (pgs_cons (pg_name (i := 4) sc_Lright.nd rfl (by first | exact Or.inl rfl | exact Or.inr rfl)) (pgs_cons (pg_name (i := 5) sc_Lright.nd rfl (by first | exact Or.inl rfl | exact Or.inr rfl)) pgs_nil))))
    (pss_cons (ps_set (i := 7) sc_Lright.nd rfl (by first | exact Or.inl rfl | exact Or.inr rfl) (pe_lst pa_nil))
    (pss_cons (ps_for (passes_of rfl) rfl (pi_list (pv 4)) (pg_name (i := 6) sc_Lright.nd rfl (by first | exact Or.inl rfl | exact Or.inr rfl))
      (pss_one (ps_expr (pe_bm PySem.F.plainAttrs_list PySem.F.slot_list_extend PySem.F.type_list_extend mt_extend (pv 7) (pa_cons (pe_lc (own := [("_law_node", 8)]) (g := gName 8) (tt := tYes) (te := tOp (rIxT K) (tVar 8) (tC (.int 0))) rfl sc_Lright.nd
          (pi_list (pc CN hr rfl (pa_cons (pe_op op_catA (pe_op op_catA (pe_tup (pa_cons pe_str pa_nil)) (pe_ix ix_tup (pv 6) pe_int (fun _ _ => rfl)))
            (pe_callTy call_tuple_of (by rfl) G.tuple b_tuple (pa_cons (pe_lc (own := [("_law_row_here", 9)]) (g := gName 9) (tt := tYes) (te := tOp (rIxT K) (tVar 9) (tC (.int 2))) rfl sc_Lright.nd (pi_tup (pe_ix ix_tup (pv 6) pe_int (fun _ _ => rfl))) (blkOk_by (N := nm_Lright) (sc := defScope s_Lright) (own := [("_law_row_here", 9)]) (by decide +kernel))
              (fun _ _ _ _ _ => pg_name (i := 9) sc_Lright.nd rfl (Or.inl rfl)) (fun _ _ _ _ _ => pts_nil) (fun _ _ _ _ _ => pe_ix ix_tup (pv 9) pe_int (fun _ _ => rfl))) pa_nil))) pa_nil)))
          (blkOk_by (N := nm_Lright) (sc := defScope s_Lright) (own := [("_law_node", 8)]) (by decide +kernel))
          (fun _ _ _ _ _ => pg_name (i := 8) sc_Lright.nd rfl (Or.inl rfl)) (fun _ _ _ _ _ => pts_nil) (fun _ _ _ _ _ => pe_ix ix_tup (pv 8) pe_int (fun _ _ => rfl))) pa_nil)))))
    (pss_cons (ps_setLc (i := 10) (own := [("_law_one", 6)]) (g := gName 6) (tt := tEmp K) (te := tVar 6) (by rfl) sc_Lright.nd rfl rfl (sw_true rfl rfl rfl (by decide +kernel)) (pi_list (pv 4)) (blkOk_by (N := nm_Lright) (sc := defScope s_Lright) (own := [("_law_one", 6)]) (by decide +kernel))
        (fun _ _ _ _ _ => pg_name (i := 6) sc_Lright.nd rfl (Or.inl rfl)) (fun _ _ _ _ _ => pts_one (ptOf (pt_cmpR (op_eqD hr.units) (pe_ix ix_tup (pv 6) pe_int (fun _ _ => rfl)) (pe_tup pa_nil) (nomark _)) (fun σ H Q z => ?_))) (fun _ _ _ _ _ => pv 6))
    (pss_cons (ps_if (PW.pt (pw_or (pt_cmpR (op_eqD hr.units) (pv 10) (pe_lst pa_nil) (nomark _)) (pw_or1 (pt_cmpR op_in_seq (pe_ix ix_tup (pv 5) pe_int (fun _ _ => rfl)) (pv 7) (by rfl))))) (pss_one (ps_ret pe_bl)) pss_nil)
    (pss_one (ps_ret (pe_cmpR op_eq (pe_callH (k := 13) (RR := RRN K (envOfC "_law_right" (defScope s_Lright) s.heap.objs.size f (.ref cc)).cells) DS sc_Ltold hr14 rfl (pa_cons (pe_lamT2 TB rfl rfl freN) pa_nil) (fun σ vs H1 Q1 z => by obtain ⟨f1, c1, a, b, ci, vl, rfl, _⟩ := z; rfl) (fun g cdv pins s1 σ H1 vs Q1 J hr' z => ?_))
        (pc CU hr11 rfl (pa_cons (pe_op op_cat (pv 4) (pe_lst (pa_cons (pv 5) pa_nil))) pa_nil)) (nomark _)))))))))), ?_⟩
  · obtain ⟨f1, c1, a, cs, rfl, h3, x1, x2, hA, hD, q1⟩ := z
    have Cc := cells_of (js := [3]) (fr := ["_law_lot"]) J (Caps.made (scope := lamL.2.2) J.ok freL (by decide +kernel) rfl)
    have eC : ([3] : List Nat).map (slotAt σ) = [some (V.ref a)] := by rw [← h3]; rfl
    rw [eC] at Cc
    exact told_body G TK T PC FC (act_L (F := lamF tqR lamL.1 lamL.2.2 _ c1) CM ⟨rfl, rfl⟩ Cc x1 x2) (by decide) hr' spLt_mon (told_L hA hD q1)
  · obtain ⟨x, yl, c, L, sl, ys, e6, ⟨u, ap, ak, am, rfl, qc, _⟩, e2, hq, ⟨u2, ap2, ak2, am2, rfl, qc2, _⟩, q⟩ := z
    refine ⟨_, e6, u, _, 0, _, rfl, rfl, qc, atI_nat (j := 0) rfl, _, e2, 1, rfl, sl, _, -1, .ref u2, rfl, rfl, hq, atI_last _ _, u2, _, 0, _, rfl, rfl, qc2, atI_nat (j := 0) rfl, rfl, _, rfl, ?_⟩
    have e : decide (V.str c.nm = V.str L.nm) = decide (c.nm = L.nm) := by
      by_cases h : c.nm = L.nm
      · rw [h, decide_eq_true rfl, decide_eq_true rfl]
      · rw [decide_eq_false h, decide_eq_false fun z => h (V.str.inj z)]
    show Q (!decide (V.str c.nm = V.str L.nm)) H
    rw [e]
    exact q
  · obtain ⟨x, c, e6, ⟨u, ap, ak, am, rfl, qc, hap, _⟩, okc, q⟩ := z
    refine ⟨_, e6, u, _, 1, _, rfl, rfl, qc, atI_nat (j := 1) rfl, Nat.zero_le _, fun o ho => ?_⟩
    have so := same_new ho (.tup [])
    refine ⟨psD c.ps, .tuple [], ps_dp (hap.stay (stay_same so)), .tup (.inl (.inl upd_same)) .nil, psn_shaped okc, by decide, _, rfl, ?_⟩
    rw [eqv_psn]
    exact q _ so
  · obtain ⟨f1, c1, a, b, ci, vl, rfl, h5, h4, x1, x2, hA, hb, hD, hE, q1⟩ := z
    have Cc := cells_of (js := [5, 4]) (fr := ["_law_last", "_law_rest"]) J (Caps.made (scope := lamN.2.2) J.ok freN (by decide +kernel) rfl)
    have eC : ([5, 4] : List Nat).map (slotAt σ) = [some (V.ref b), some (V.ref a)] := by rw [← h5, ← h4]; rfl
    rw [eC] at Cc
    exact told_body G TK T PC FC (act_N (F := lamF tqR lamN.1 lamN.2.2 _ c1) RA FA CM ⟨rfl, rfl⟩ Cc x1 x2) (by decide) hr' spLn_mon (told_N hA hb hD hE q1)
  obtain ⟨xs, hq, hC⟩ := id hA
  have hxl : xs.length = cs.length := Paired.length hC
  have n5 := hD.n5
  have n1 := hD.n1
  have hp2 : ∀ c ∈ cs, c.ps.length ≤ 2 := fun c hc => by
    obtain ⟨rank, hrk⟩ := hD.r
    exact (hrk c hc).p2
  refine ⟨_, rfl, _, rfl, p, a, xs, cs, rfl, pn0, na, hq, hC, by omega, fun c hc => ⟨hp2 c hc, (hD.len c hc).2.2⟩, fun H1 l vs cv b1 pn1 hl0 hl1 hCv hV => ?_⟩
  have nl : l ≠ p := pen_new pn0 hl0
  have L1 : LT p P1 H H1 := (LT.self pn0 ht0).bar b1 pn1
  have hA1 : ClsL K H1 a cs := ⟨xs, bar_seq b1 na hq, Paired.mapP hC fun _ _ z => z.stay (bar_stay b1 pn0 pn1)⟩
  have hV1 : ClsL K H1 l cv := ⟨vs, SqL.of hl1, hCv⟩
  have hDv : DT cv := hD.vry hV
  obtain ⟨ws, wl, vi, vl, ews, ecv, hCw, hCl⟩ := paired_last hCv (fun z => by rw [z] at hDv; have := hDv.n1; simp at this)
  subst ews ecv
  obtain ⟨vi', vl', ci, cl, e1, e2, hVi, hVl⟩ := paired_last hV (fun z => by rw [z] at n1; simp at n1)
  obtain ⟨e3, e4⟩ := List.append_inj' e1 rfl
  subst e3
  cases e4
  subst e2
  refine ⟨_, rfl, _, rfl, _, rfl, l, _, rfl, SqL.of hl1, fun rv hrv => ⟨by show 3 ≤ sizeLine; decide, fun Lt hLt => ⟨Lt, rfl, ⟨_, SqL.of upd_same⟩, ?_⟩⟩⟩
  have s2 := same_new hrv (.lst (ws ++ [wl]).reverse)
  have s3 := same_new hLt (.lst [V.ref a, .ref l, .ref rv])
  have s13 := s2.trans s3
  have hR3 : ClsL K (upd (upd H1 rv (.lst (ws ++ [wl]).reverse)) Lt (.lst [V.ref a, .ref l, .ref rv])) rv (vi ++ [vl]).reverse := ⟨_, SqL.of (s3 _ _ upd_same), paired_rev (Paired.mapP hCv fun _ _ z => z.stay (stay_same s13))⟩
  have hA3 := hA1.same s13
  have hV3 := hV1.same s13
  have hLt3 := upd_same (H := upd H1 rv (.lst (ws ++ [wl]).reverse)) (a := Lt) (o := .lst [V.ref a, .ref l, .ref rv])
  have L3 := L1.same s13
  have hl3 := s13 _ _ hl1
  have hCl3 := hCl.stay (stay_same (K := K) s13)
  generalize upd (upd H1 rv (.lst (ws ++ [wl]).reverse)) Lt (.lst [V.ref a, .ref l, .ref rv]) = H3 at hR3 hA3 hV3 hLt3 L3 hl3 hCl3
  have hLs : Paired (fun v c => ∃ a', v = V.ref a' ∧ ClsL K H3 a' c ∧ DT c) [V.ref a, .ref l, .ref rv] [ci ++ [cl], vi ++ [vl], (vi ++ [vl]).reverse] := .cons ⟨_, rfl, hA3, hD⟩ (.cons ⟨_, rfl, hV3, hDv⟩ (.cons ⟨_, rfl, hR3, hDv.rev⟩ .nil))
  refine for_list (K := K) (a := Lt) (xs := [V.ref a, .ref l, .ref rv]) (fun j σ H' => ∃ y3, σ = [some (.ref p), some (.ref a), some (.ref l), y3, none, none, none, none, none, none, none] ∧ Gro H3 H' ∧ TabS H' P1 tqR) ⟨_, rfl, Gro.refl _, L3.t1⟩ (fun j σ H' _ ⟨_, _, g, _⟩ => g.seq (SqL.of hLt3)) (fun j x σ H' hx ⟨y3, eσ, g, tt⟩ => ?_) (fun σ H6 ⟨y3, eσ, g6, t6⟩ => ?_)
  · subst eσ
    obtain ⟨cs', _, a', rfl, hA', hD'⟩ := pairedAt hLs hx
    refine ⟨tt, fun f1 c1 H4 x4 e4 t4 n4 z4 y4 k4 => ⟨f1, c1, a', cs', rfl, rfl, y4, k4, (hA'.gro g).gro ⟨e4, n4⟩, hD', fun H5 s5 => ?_⟩⟩
    have g5 : Gro H3 H5 := (g.trans ⟨e4, n4⟩).trans (Gro.of s5)
    obtain ⟨xs', h1', h2'⟩ := hA'.gro g5
    exact ⟨_, rfl, a', xs', cs', rfl, h1', h2', hD', fun H6 s6 => ⟨rfl, _, rfl, iteN (by simp) ⟨_, rfl, g5.trans (Gro.of s6), (t4.ext s5).ext s6⟩⟩⟩
  subst eσ
  have L6 : LT p P1 H H6 := L3.lam g6.e t6 g6.n
  obtain ⟨xs6, hq6, hC6⟩ := hA3.gro g6
  have hl6 : SqL K H6 l (ws ++ [wl]) := g6.seq (SqL.of hl3)
  have hCl6 := hCl3.stay (g6.stay (K := K))
  have hx6 : xs6.length = (ci ++ [cl]).length := Paired.length hC6
  refine ⟨_, rfl, a, rfl, ⟨xs6, hq6⟩, fun B hB => ?_⟩
  refine lc_list (K := K) (a := a) (xs := xs6) (tt := tNeL K) (te := tVar 6) (fun i H' => Same H6 H' ∧ ∃ acc, H' B = some (.lst acc) ∧ Paired (Cp K H') acc (((ci ++ [cl]).take i).filter fun c => !decide (c.nm = vl.nm))) ⟨same_new hB _, [], upd_same, .nil⟩ (fun i H' _ ⟨s, _⟩ => s.seq hq6) (fun i x H' hx ⟨s7, acc, hacc, hP⟩ => ?_) (fun H7 ⟨s7, rl, hrl, hP⟩ => ?_)
  · obtain ⟨c, hc1, hc2⟩ := pairedAt hC6 hx
    have hi : i < xs6.length := (List.getElem?_eq_some_iff.mp hx).1
    have hal : acc.length ≤ i := by
      rw [Paired.length hP]
      refine Nat.le_trans (List.length_filter_le _ _) ?_
      rw [List.length_take]
      exact Nat.min_le_left _ _
    refine ⟨rfl, x, wl, c, vl, l, ws, rfl, hc2.stay (stay_same s7), rfl, s7.seq hl6, hCl6.stay (stay_same s7), ?_⟩
    show if (!decide (c.nm = vl.nm)) = true then _ else _
    rw [take_one' hc1, List.filter_append]
    by_cases e : c.nm = vl.nm
    · rw [if_neg (by simp [e])]
      refine ⟨s7, acc, hacc, ?_⟩
      simp only [e, List.filter_cons, decide_true, Bool.not_true, Bool.false_eq_true, if_false, List.filter_nil, List.append_nil]
      exact hP
    · rw [if_pos (by simp [e])]
      have sl := stay_lst (K := K) (xs := acc) (ys := acc ++ [x]) hacc
      refine ⟨x, rfl, acc, hacc, sz5lt (by omega), same_mut s7 hB, _, upd_same, ?_⟩
      simp only [e, List.filter_cons, decide_false, Bool.not_false, if_true, List.filter_nil]
      exact paired_snoc2 (Paired.mapP hP fun _ _ z => z.stay sl) ((hc2.stay (stay_same s7)).stay sl)
  rw [hx6, List.take_length, hVl.n, filt_last hD.nd] at hP
  obtain ⟨bl, apl, akl, aml, ewl, qcl, _⟩ := id hCl6
  subst ewl
  refine ⟨_, rfl, 1, rfl, l, _, -1, .ref bl, rfl, rfl, s7.seq hl6, atI_last _ _, by show 2 ≤ sizeLine; decide, fun t ht => ?_⟩
  refine ⟨t, _, rfl, .inl (.inl upd_same), rfl, .ref B, [.ref bl], rfl, .ref bl, [], rfl, rfl, ?_⟩
  have s8 := same_new ht (.tup [V.ref B, .ref bl])
  have s68 := s7.trans s8
  have hrl8 := s8 _ _ hrl
  have hP8 := Paired.mapP hP fun _ _ z => z.stay (stay_same (K := K) s8)
  have hCl8 := hCl6.stay (stay_same (K := K) s68)
  have qc8 := (stay_same (K := K) s68).tup _ _ qcl
  have L8 := L6.same s68
  generalize upd H7 t (.tup [V.ref B, .ref bl]) = H8 at s8 s68 hrl8 hP8 hCl8 qc8 L8
  have done : ∀ H', Gro H8 H' → TabS H' P1 tqR → Q (.bl true) H' := fun H' g t => q H' (L8.lam g.e t g.n)
  have hrln : rl.length = ci.length := Paired.length hP8
  have hcin : ci.length ≤ 4 := by rw [List.length_append] at n5; simp at n5; omega
  obtain ⟨rank, hrk⟩ := hD.r
  have hci : ∀ c ∈ ci, DC (arOf (ci ++ [cl])) rank c := fun c hc => hrk c (List.mem_append_left _ hc)
  have hcok : ∀ c ∈ ci, c.ok := fun c hc => hD.pre.f.ok c (List.mem_append_left _ hc)
  refine ⟨Nat.zero_le _, fun nm hnm => ?_⟩
  have s9 := same_new hnm (.lst [])
  have nBn : B ≠ nm := ne_of_none hrl8 hnm
  refine ⟨_, rfl, B, rfl, ⟨rl, SqL.of (s9 _ _ hrl8)⟩, ?_⟩
  refine for_list (K := K) (a := B) (xs := rl) (fun i σ H' => ∃ y6, σ = [some (.ref p), some (.ref a), some (.ref l), y3, some (.ref B), some (.ref bl), y6, some (.ref nm), none, none, none] ∧ Same H8 H' ∧ H' nm = some (.lst (((ci.take i).flatMap Cls.nnl).map V.str))) ⟨_, rfl, s9, upd_same⟩ (fun i σ H' _ ⟨_, _, sm, _⟩ => SqL.of (sm _ _ hrl8)) (fun i x σ H' hx ⟨y6, eσ, sm, hn'⟩ => ?_) (fun σ H9 ⟨y6, eσ, s89, hn9⟩ => ?_)
  · subst eσ
    obtain ⟨c, hc1, hc2⟩ := pairedAt hP8 hx
    have hi : i < ci.length := (List.getElem?_eq_some_iff.mp hc1).1
    have hcm := List.mem_of_getElem? hc1
    have dc := hci c hcm
    obtain ⟨u, ap, ak, am, rfl, qc, hap, ⟨kvs, hk, hkp⟩, ⟨us, hu, hup⟩⟩ := hc2.stay (stay_same (K := K) sm)
    obtain ⟨zs, hz1, hz2, hz3⟩ := mp_kinds hup
    have hkl : kvs.length = c.ks.length := Paired.length hkp
    have hul : us.length = c.ms.length := Paired.length hup
    have hok := hcok c hcm
    have k2 := hok.k2
    have m2 := hok.m2
    refine ⟨_, rfl, .inl ⟨rfl, _, SqL.of hn'⟩, by show 1 ≤ sizeLine; decide, fun t1 ht1 => ?_⟩
    have sa := same_new ht1 (.tup [V.str ""])
    refine ⟨_, rfl, u, _, 2, .ref ak, rfl, rfl, (stay_same sa).tup _ _ qc, atI_nat (j := 2) rfl, cat_q (xs := [V.str ""]) (ys := kvs) (.inl (.inl upd_same)) ((stay_same sa).tup _ _ hk) (by simp; omega) fun H2 c2 sb hc2' => ?_⟩
    have sab := sa.trans sb
    refine ⟨_, rfl, u, _, 3, .ref am, rfl, rfl, (stay_same sab).tup _ _ qc, atI_nat (j := 3) rfl, am, rfl, ⟨us, (stay_same sab).tup _ _ hu⟩, fun D0 hD0 => ?_⟩
    refine lc_vals (K := K) (zs := zs) (te := tOp (rIxT K) (tVar 9) (tC (.int 2))) 9 rfl hz2 (by omega) ((stay_same sab).tup _ _ hu) hD0 (fun j x z H5 Q5 hjx hjz s5 k => ?_) (fun H5 s5 hB5 => ?_)
    · obtain ⟨b, n, w', rfl, hb⟩ := hz3 j x z hjx hjz
      exact ⟨_, rfl, b, _, 2, _, rfl, rfl, (stay_same (sab.trans s5)).tup _ _ hb, atI_nat (j := 2) rfl, k _ (Same.refl _)⟩
    · refine ⟨D0, zs, rfl, .inl ⟨SqL.of hB5, fun tl htl => ?_⟩⟩
      have sc := same_new htl (.tup zs)
      refine cat_q (xs := [V.str ""] ++ kvs) (ys := zs) ((stay_same (s5.trans sc)).tup _ _ hc2') (.inl (.inl upd_same)) (by simp; omega) fun H7 c7 sd hc7 => ?_
      have sad := sab.trans (s5.trans (sc.trans sd))
      have hkz : Kps K H7 (kvs ++ zs) c.decl := by
        unfold Cls.decl
        exact Kps.app (ThAll.stay (stay_same sad) (kps_of hkp)) (ThAll.stay (stay_same sad) hz1)
      refine ⟨.ref c7, c.nnl, rfl, by decide, .inr ⟨c7, "", kvs ++ zs, c.decl, rfl, hc7, hkz, by have := dc.nds; omega, rfl⟩, by decide, fun H8' ln ys se hln hln2 hPn => ⟨ln, rfl, ⟨ys, SqL.of hln2⟩, fun B2 hB2 => ?_⟩⟩
      have hyl : ys.length = c.nnl.length := Paired.length hPn
      have hnl : c.nnl.length ≤ 21 := by
        have h1 := nns_sum c.decl
        have h2 := dc.nds
        unfold Cls.nnl
        rw [List.length_cons]
        omega
      refine lc_valsL (K := K) (zs := c.nnl.map V.str) (te := tOp (rIxT K) (tVar 8) (tC (.int 0))) 8 rfl (by rw [List.length_map, hyl]) (by omega) (SqL.of hln2) hB2 (fun j x z H6' Q5 hjx hjz s6 k => ?_) (fun H6' s6 hB6 => ?_)
      · obtain ⟨n, hn1, ⟨b, xs', rfl, hb⟩⟩ := pairedAt hPn hjx
        rw [List.getElem?_map, hn1] at hjz
        cases hjz
        exact ⟨_, rfl, b, _, 0, _, rfl, rfl, (stay_same s6).tup _ _ hb, atI_nat (j := 0) rfl, k _ (Same.refl _)⟩
      · have sall := sad.trans (se.trans s6)
        have hn6 := sall _ _ hn'
        have hlen : ((ci.take i).flatMap Cls.nnl).length ≤ 10000 := by
          have h1 : ∀ (l : List Cls), (∀ c ∈ l, c ∈ ci) → (l.flatMap Cls.nnl).length ≤ 21 * l.length := by
            intro l
            induction l with
            | nil => intro _; simp
            | cons d l ih =>
              intro h
              have h1 := ih fun e he => h e (List.mem_cons_of_mem _ he)
              have h2 := nns_sum d.decl
              have h3 := (hci d (h d List.mem_cons_self)).nds
              rw [List.flatMap_cons, List.length_append, List.length_cons, Nat.mul_add]
              unfold Cls.nnl at h1 ⊢
              rw [List.length_cons]
              omega
          have h2 := h1 (ci.take i) fun c hc => List.mem_of_mem_take hc
          rw [List.length_take] at h2
          have : min i ci.length ≤ 4 := by omega
          omega
        refine ⟨nm, B2, _, _, rfl, rfl, hn6, hB6, sz5 (by rw [List.length_map, List.length_map]; omega), ?_⟩
        refine ⟨_, rfl, same_mut (sm.trans sall) hnm, ?_⟩
        rw [upd_same, take_one' hc1, List.flatMap_append, List.flatMap_singleton, List.map_append]
  subst eσ
  rw [hrln, List.take_length] at hn9
  have hrl9 := s89 _ _ hrl8
  have hP9 := Paired.mapP hP8 fun _ _ z => z.stay (stay_same (K := K) s89)
  refine ⟨_, rfl, B, rfl, ⟨rl, SqL.of hrl9⟩, fun B3 hB3 => ?_⟩
  refine lc_list (K := K) (a := B) (xs := rl) (tt := tEmp K) (te := tVar 6) (fun i H' => Same H9 H' ∧ ∃ acc, H' B3 = some (.lst acc) ∧ Paired (Cp K H') acc ((ci.take i).filter fun c => decide (c.ps = []))) ⟨same_new hB3 _, [], upd_same, .nil⟩ (fun i H' _ ⟨s, _⟩ => SqL.of (s _ _ hrl9)) (fun i x H' hx ⟨s7, acc, hacc, hPa⟩ => ?_) (fun H10 ⟨s10, pl, hpl, hPp⟩ => ?_)
  · obtain ⟨c, hc1, hc2⟩ := pairedAt hP9 hx
    have hi : i < rl.length := (List.getElem?_eq_some_iff.mp hx).1
    have hal : acc.length ≤ i := by
      rw [Paired.length hPa]
      refine Nat.le_trans (List.length_filter_le _ _) ?_
      rw [List.length_take]
      exact Nat.min_le_left _ _
    refine ⟨rfl, x, c, rfl, hc2.stay (stay_same s7), hcok c (List.mem_of_getElem? hc1), fun H2 sz => ?_⟩
    show if decide (c.ps = []) = true then _ else _
    rw [take_one' hc1, List.filter_append]
    have s72 := s7.trans sz
    by_cases e : c.ps = []
    · rw [if_pos (by simp [e])]
      have sl := stay_lst (K := K) (xs := acc) (ys := acc ++ [x]) (sz _ _ hacc)
      refine ⟨x, rfl, acc, sz _ _ hacc, sz5lt (by omega), same_mut s72 hB3, _, upd_same, ?_⟩
      simp only [e, List.filter_cons, decide_true, if_true, List.filter_nil]
      exact paired_snoc2 (Paired.mapP hPa fun _ _ z => z.stay ((stay_same sz).trans sl)) ((hc2.stay (stay_same s72)).stay sl)
    · rw [if_neg (by simp [e])]
      refine ⟨s72, acc, sz _ _ hacc, ?_⟩
      simp only [e, List.filter_cons, decide_false, Bool.false_eq_true, if_false, List.filter_nil, List.append_nil]
      exact Paired.mapP hPa fun _ _ z => z.stay (stay_same sz)
  rw [hrln, List.take_length] at hPp
  have s810 := s89.trans s10
  refine ⟨_, rfl, Nat.zero_le _, fun o ho => ?_⟩
  have so := same_new ho (.lst [])
  refine ⟨.list ((ci.filter fun c => decide (c.ps = [])).map Cls.pd), .list [], .lst (SqL.of (so _ _ hpl)) (dp_clss (Paired.mapP hPp fun _ _ z => z.stay (stay_same so))), .lst (SqL.of upd_same) .nil, lst_shaped fun c hc => hcok c (List.mem_filter.mp hc).1, by decide, _, rfl, ?_⟩
  rw [eqv_lst]
  have s811 := s810.trans so
  have t11 := L8.t1.ext s811
  by_cases hpe : (ci.filter fun c => decide (c.ps = [])) = []
  · rw [decide_eq_true hpe]
    exact iteE rfl (done _ (Gro.of s811) t11)
  rw [decide_eq_false hpe]
  have hn11 := so _ _ (s10 _ _ hn9)
  refine iteN rfl ⟨_, rfl, bl, _, 0, _, rfl, rfl, (stay_same s811).tup _ _ qc8, atI_nat (j := 0) rfl, _, rfl, nm, _, rfl, .inl (SqL.of hn11), rfl, by rw [List.all_map]; exact List.all_eq_true.mpr fun _ _ => rfl, _, rfl, ?_⟩
  show if inV _ _ = true then _ else _
  rw [inV_str]
  by_cases hin : vl.nm ∈ ci.flatMap Cls.nnl
  · rw [decide_eq_true hin]
    exact iteE rfl (done _ (Gro.of s811) t11)
  rw [decide_eq_false hin]
  have hzc : ∃ c ∈ ci, c.ps = [] := by
    cases e : ci.filter fun c => decide (c.ps = []) with
    | nil => exact absurd e hpe
    | cons c r =>
      have : c ∈ ci.filter fun c => decide (c.ps = []) := by rw [e]; exact List.mem_cons_self
      obtain ⟨h1, h2⟩ := List.mem_filter.mp this
      exact ⟨c, h1, of_decide_eq_true h2⟩
  have hDi : DT ci := hD.less hzc fun c hc k hk hx => hin (by
    rw [hVl.n]
    exact List.mem_flatMap.mpr ⟨c, hc, List.mem_cons_of_mem _ (List.mem_flatMap.mpr ⟨k, hk, hx⟩)⟩)
  have hDe : DT (ci ++ [vl]) := hD.vry (pairs_app (vry_selfs fun c hc => (hci c hc).v) (.cons hVl .nil))
  refine iteN rfl ⟨t11, fun f1 c1 H12 x4 e12 t12 n12 z4 y4 k4 => ⟨f1, c1, B, bl, ci, vl, rfl, rfl, rfl, y4, k4, ?_, ?_, hDi, hDe, fun H13 s13' => ?_⟩⟩
  · have g : Gro H8 H12 := (Gro.of s811).trans ⟨e12, n12⟩
    exact ⟨rl, g.seq (SqL.of hrl8), Paired.mapP hP8 fun _ _ z => z.stay g.stay⟩
  · exact hCl8.stay ((Gro.of s811).trans ⟨e12, n12⟩).stay
  have g13 : Gro H8 H13 := ((Gro.of s811).trans ⟨e12, n12⟩).trans (Gro.of s13')
  have t13 := t12.ext s13'
  have hrl13 : H13 B = some (.lst rl) := g13.e _ _ hrl8 (fun _ z => by cases z)
  refine ⟨_, rfl, _, rfl, by show 1 ≤ sizeLine; decide, fun l1 hl1 => ?_⟩
  have sx := same_new hl1 (.lst [V.ref bl])
  refine ⟨B, l1, rl, [.ref bl], rfl, rfl, sx _ _ hrl13, upd_same, sz5 (by simp; omega), fun l2 hl2 => ?_⟩
  have sy := same_new hl2 (.lst (rl ++ [V.ref bl]))
  have gx : Gro H8 _ := g13.trans (Gro.of (sx.trans sy))
  refine ⟨l2, rl ++ [.ref bl], ci ++ [vl], rfl, SqL.of upd_same, pairs_app (Paired.mapP hP8 fun _ _ z => z.stay gx.stay) (.cons (hCl8.stay gx.stay) .nil), hDe, fun H14 s14 => ⟨rfl, ?_⟩⟩
  show Q (.bl (decide (V.str (dueM (ci ++ [vl])) = V.str (dueM (ci ++ [vl]))))) H14
  rw [decide_eq_true rfl]
  exact done _ (gx.trans (Gro.of s14)) ((t13.ext (sx.trans sy)).ext s14)
end
end N

namespace N
open PySem PySem.Spec PyProof.Rows L2 L2H StX LamX NdefX
/-! ### k67: the law -/
/-- the classes, with members or without -/
def tArg (K : PySem.W.Frag) : TE := fun σ H Q => ∃ (p l : Addr) (cs : List Cls) (j : Nat), σ[2]? = some (some (.ref p)) ∧ σ[4]? = some (some (.ref l)) ∧ σ[3]? = some (some (.int (j : Nat))) ∧ Pen H p ∧ l ≠ p ∧ ClsL K H l cs ∧ DT cs ∧
  ∀ H' l' cs', Bar p H H' → Pen H' p → l' ≠ p → ClsL K H' l' cs' → DT cs' → Q (.ref l') H'
section
variable {P : Program} {w : World} {K : PySem.W.Frag} {mg : Str → Option Value} {base : Heap}
theorem ok_dr (G : Glo mg) (CD : Cal P w K mg base 1 "_law_draw" ["_law_pen", "_law_many"] (spDraw K)) (CP : Cal P w K mg base 2 "_law_pick" ["_law_pen", "_law_some"] (spPick K)) (D : DefAt K mg "_law_drawn" s_Ldrawn ["_law_pen", "_law_heads", "_law_some", "_law_deep"]) :
    ∀ M : Nat, Cal P w K mg base (M + 2) "_law_drawn" ["_law_pen", "_law_heads", "_law_some", "_law_deep"] (spDr K M)
  | 0 => dr_none D
  | M + 1 => dr_step G CD CP (ok_dr G CD CP D M) D
def spLaw67 (K : PySem.W.Frag) (P1 : Addr) : Sp := fun vs H Q _ => ∃ (a : Addr) (ns : List Int), vs = [.ref a] ∧ SqL K H a (ns.map V.int) ∧ ns.length ≤ 63 ∧ TabS H P1 tqR ∧ ∀ H', Q (.bl true) H'
theorem ok_law67 {P1 : Addr} (G : Glo mg) (CC : Cal P w K mg base 1 "_law_cell_at" ["_law_script", "_law_k"] (spCell K)) (CP : Cal P w K mg base 1 "_law_ink" ["_law_cell"] (spPen K))
    (CZ : Cal P w K mg base 11 "_law_classes" ["_law_pen", "_law_most"] (spClz K)) (CW : Cal P w K mg base 7 "_law_with_members" ["_law_pen", "_law_classes_here"] (spWm K)) (CR : Cal P w K mg base 24 "_law_right" ["_law_pen", "_law_classes_here"] (spRig67 K P1))
    {f : Addr} {fd : FuncData} (D : Fun K "law" "law" s_law f fd) : FnG P w K mg base (L2.CX P w) 25 f fd ["_law_script"] (spLaw67 K P1) := by
  refine fnG_of D sc_law (fun vs H Q E h => ?_) (fun cdv A outer s H vs Q E hr h => ?_)
  · obtain ⟨a, ns, rfl, _⟩ := h
    rfl
  obtain ⟨a, ns, rfl, hS, hlen, ht0, q⟩ := h
  have hr1 : RoomG 1 _ := hr.mono (by decide)
  have hr7 : RoomG 7 _ := hr.mono (by decide)
  have hr11 : RoomG 11 _ := hr.mono (by decide)
  refine ⟨_, pss_cons (ps_for (passes_of rfl) rfl (pi_range1 rfl G.range (pa_cons (pe_callB (call_max2 rfl) (by rfl) G.max (by decide +kernel) (pa_cons pe_int (pa_cons (pe_callB (call_min2 rfl) (by rfl) G.min (by decide +kernel) (pa_cons (pe_callB call_len_seq (by rfl) G.len PySem.boot_len (pa_cons (pv 0) pa_nil)) (pa_cons pe_int pa_nil))) pa_nil))) pa_nil)) (pg_name (i := 1) sc_law.nd rfl (by first | exact Or.inl rfl | exact Or.inr rfl))
      (pss_cons (ps_set (i := 2) sc_law.nd rfl (by first | exact Or.inl rfl | exact Or.inr rfl) (pc CP hr1 rfl (pa_cons (pc CC hr1 rfl (pa_cons (pv 0) (pa_cons (pv 1) pa_nil))) pa_nil)))
      (pss_one (ps_for (passes_of rfl) rfl (pi_range1 rfl G.range (pa_cons pe_int pa_nil)) (pg_name (i := 3) sc_law.nd rfl (by first | exact Or.inl rfl | exact Or.inr rfl))
        (pss_cons (ps_set (i := 4) sc_law.nd rfl (by first | exact Or.inl rfl | exact Or.inr rfl) (pc CZ hr11 rfl (pa_cons (pv 2) (pa_cons pe_int pa_nil))))
        (pss_one (ps_if (pt_not (pt_val (pc CR hr rfl (pa_cons (pv 2) (pa_cons (peOf (te := tArg K) (pe_ifExp (pt_cmpR op_eq (pe_op op_mod (pv 3) pe_int) pe_int (nomark _)) (pv 4) (pc CW hr7 rfl (pa_cons (pv 2) (pa_cons (pv 4) pa_nil)))) (fun σ H Q z => ?_)) pa_nil))))) (pss_one ps_never) pss_nil)))))))
    (pss_one (ps_ret pe_bl)), ?_⟩
  · obtain ⟨p, l, cs, j, e2, e4, e3, pn, nl, hA, hD, q⟩ := z
    refine ⟨_, e3, j, 2, rfl, rfl, by show (0 : Int) < 2; decide, rfl, _, rfl, ite2 (fun c => ?_) (fun c => ?_)⟩
    · exact ⟨_, e4, q H l cs (Bar.refl _ _) pn nl hA hD⟩
    · obtain ⟨xs, h1, h2⟩ := hA
      obtain ⟨rank, hr⟩ := hD.r
      refine ⟨_, e2, _, e4, p, l, xs, cs, rfl, pn, nl, h1, h2, by have := hD.n5; omega, hD.pl, fun c hc => ⟨(hr c hc).n, (hr c hc).p2, (hr c hc).lt⟩, fun H' l' ys cs' b' pn' hl0 hl1 hC hM => ?_⟩
      exact q H' l' cs' b' pn' (pen_new pn hl0) ⟨ys, SqL.of hl1, hC⟩ (hD.mmb hM)
  refine ⟨_, rfl, a, _, rfl, .inl hS, _, _, rfl, _, _, rfl, _, rfl, ?_, ?_, ?_⟩
  · rw [List.length_map]; split <;> split <;> omega
  · rw [List.length_map]; split <;> split <;> omega
  refine for_range (fun i σ H' => ∃ y1 y2 y3 y4, σ = [some (.ref a), y1, y2, y3, y4] ∧ Gro H H' ∧ TabS H' P1 tqR) ⟨_, _, _, _, rfl, Gro.refl _, ht0⟩ (fun i σ H' hi ⟨y1, y2, y3, y4, eσ, gr, tt⟩ => ?_) (fun σ H' ⟨y1, y2, y3, y4, eσ, gr, tt⟩ => by subst eσ; exact q H')
  subst eσ
  refine ⟨_, rfl, _, rfl, a, ns, i, by rw [Int.zero_add], gr.seq hS, fun n => ⟨n, rfl, fun p H1 sm1 hp0 pn1 => ?_⟩⟩
  have g1 : Gro H H1 := gr.trans (Gro.of sm1)
  have hpS : H p = none := gr.n _ hp0
  have L1 : LT p P1 H1 H1 := LT.self pn1 (tt.ext sm1)
  refine ⟨20, rfl, by decide, by decide, ?_⟩
  refine for_range (n := 20) (fun j σ H' => ∃ y3 y4, σ = [some (.ref a), some (.int (0 + (i : Nat))), some (.ref p), y3, y4] ∧ LT p P1 H1 H') ⟨_, _, rfl, L1⟩ (fun j σ H' hj ⟨y3, y4, eσ, ls⟩ => ?_) (fun σ H' ⟨y3, y4, eσ, ls⟩ => ⟨_, _, _, _, eσ, groTr g1 hpS ls.t, ls.t1⟩)
  subst eσ
  refine ⟨_, rfl, p, 5, rfl, ls.pn, by decide, by decide, fun H2 l xs cs cs0 ss b2 pn2 hl0 hl1 hC hO hDr hcl hor => ?_⟩
  have l2 := ls.bar b2 pn2
  have hD : DT cs := by
    have h0 := hDr.dt hcl hO
    rcases hor with rfl | rfl
    · exact h0
    · exact h0.rev
  refine ⟨_, rfl, p, l, cs, j, rfl, rfl, (show some (some (V.int (0 + (j : Int)))) = some (some (V.int (j : Nat))) by rw [Int.zero_add]), pn2, pen_new ls.pn hl0, ⟨xs, SqL.of hl1, hC⟩, hD, fun H3 l' cs' b3 pn3 nl' hA3 hD3 => ?_⟩
  have l3 := l2.bar b3 pn3
  exact ⟨p, l', cs', rfl, pn3, nl', hA3, hD3, l3.t1, fun H4 l4 => ⟨true, rfl, iteN rfl ⟨_, _, rfl, l3.next l4⟩⟩⟩
end
end N

namespace N
open PySem PySem.Spec PyProof.Rows L2 StX NdefX
theorem glo_mk {K : PySem.W.Frag} {h : Heap} {mg : Str → Option Value} {t8 t2 : Tok} (X : K.In h) (G : h.Ns mainGlobals mg)
    (z_isinstance : PySem.W.nsIn K mainGlobals "isinstance" = some none)
    (z_str : PySem.W.nsIn K mainGlobals "str" = some none)
    (z_tuple : PySem.W.nsIn K mainGlobals "tuple" = some none)
    (z_dict : PySem.W.nsIn K mainGlobals "dict" = some none)
    (z_list : PySem.W.nsIn K mainGlobals "list" = some none)
    (z_len : PySem.W.nsIn K mainGlobals "len" = some none)
    (z_all : PySem.W.nsIn K mainGlobals "all" = some none)
    (z_max : PySem.W.nsIn K mainGlobals "max" = some none)
    (z_min : PySem.W.nsIn K mainGlobals "min" = some none)
    (z_range : PySem.W.nsIn K mainGlobals "range" = some none)
    (z_repr : PySem.W.nsIn K mainGlobals "repr" = some none)
    (z_sum : PySem.W.nsIn K mainGlobals "sum" = some none)
    (zl : PySem.W.nsIn K mainGlobals "LONGEST_NAME" = some (some (.int 8 t8))) (zm : PySem.W.nsIn K mainGlobals "MOST_ARGUMENTS" = some (some (.int 2 t2))) : Glo mg :=
  ⟨PySem.W.mg_none_of X G z_isinstance, PySem.W.mg_none_of X G z_str, PySem.W.mg_none_of X G z_tuple, PySem.W.mg_none_of X G z_dict, PySem.W.mg_none_of X G z_list, PySem.W.mg_none_of X G z_len, PySem.W.mg_none_of X G z_all, PySem.W.mg_none_of X G z_max, PySem.W.mg_none_of X G z_min, PySem.W.mg_none_of X G z_range, PySem.W.mg_none_of X G z_repr, PySem.W.mg_none_of X G z_sum, ⟨_, PySem.W.mg_of X G zl⟩, ⟨_, PySem.W.mg_of X G zm⟩⟩
/-- a tuple of three texts in the written part -/
theorem sq3 {K : PySem.W.Frag} {a : Addr} {od : Option Addr} {x0 x1 x2 : Str} {t0 t1 t2 : Tok} {n : Nat} {sl : Array (Option Value)} (l : K.lookup a = some ⟨.type "tuple", od, .seq #[.str x0 t0, .str x1 t1, .str x2 t2] n, sl⟩) (H : Hp) : SqT K H a [.str x0, .str x1, .str x2] :=
  .inr ⟨_, _, n, l, rfl, rfl, by show 3 ≤ sizeLine; decide, .cons ⟨t0, rfl⟩ (.cons ⟨t1, rfl⟩ (.cons ⟨t2, rfl⟩ .nil))⟩
theorem glo2_mk {K : PySem.W.Frag} {h : Heap} {mg : Str → Option Value} {t5 t2 t6 v0 v1 v2 w0 w1 w2 : Tok} {va wa : Addr} {od od2 : Option Addr} {n n2 : Nat} {sl sl2 : Array (Option Value)} (X : K.In h) (G : h.Ns mainGlobals mg) (zs : PySem.W.nsIn K mainGlobals "set" = some none)
    (c5 : PySem.W.nsIn K mainGlobals "MOST_CLASSES" = some (some (.int 5 t5))) (c2 : PySem.W.nsIn K mainGlobals "MOST_IN_CLASS" = some (some (.int 2 t2))) (c6 : PySem.W.nsIn K mainGlobals "MOST_SIZE" = some (some (.int 6 t6)))
    (gv : PySem.W.nsIn K mainGlobals "VARIANCES" = some (some (.ref va))) (lv : K.lookup va = some ⟨.type "tuple", od, .seq #[.str "out" v0, .str "in" v1, .str "same" v2] n, sl⟩)
    (gw : PySem.W.nsIn K mainGlobals "WAYS" = some (some (.ref wa))) (lw : K.lookup wa = some ⟨.type "tuple", od2, .seq #[.str "reads" w0, .str "takes" w1, .str "holds" w2] n2, sl2⟩) : Glo2 K mg :=
  ⟨PySem.W.mg_none_of X G zs, ⟨_, PySem.W.mg_of X G c5⟩, ⟨_, PySem.W.mg_of X G c2⟩, ⟨_, PySem.W.mg_of X G c6⟩, ⟨va, PySem.W.mg_of X G gv, fun H => sq3 lv H⟩, ⟨wa, PySem.W.mg_of X G gw, fun H => sq3 lw H⟩⟩
theorem kd_mk {K : PySem.W.Frag} {w : World} {a : Addr} {ks : List Str} {x z : Str} {t : Tok} (h : He.dicW K a = some (He.keysIn w.params ks)) (e : PySem.W.nsIn K a x = some (some (.str z t))) : KDct K w a x (.str z) := by
  obtain ⟨es, n, D⟩ := He.dicW_ok h
  exact ⟨es, n, _, D.at_, D.lit, e, ⟨t, rfl⟩⟩
theorem glo3_mk {K : PySem.W.Frag} {w : World} {h : Heap} {mg : Str → Option Value} {tb a0 a1 a2 b0 b1 : Tok} {ta ba : Addr} (X : K.In h) (G : h.Ns mainGlobals mg) (gb : PySem.W.nsIn K mainGlobals "BOTH" = some (some (.str "+-" tb)))
    (gt : PySem.W.nsIn K mainGlobals "TURNED" = some (some (.ref ta))) (dt : He.dicW K ta = some (He.keysIn w.params ["+", "-", "+-"])) (n0 : PySem.W.nsIn K ta "+" = some (some (.str "-" a0))) (n1 : PySem.W.nsIn K ta "-" = some (some (.str "+" a1))) (n2 : PySem.W.nsIn K ta "+-" = some (some (.str "+-" a2)))
    (gr : PySem.W.nsIn K mainGlobals "BARRED" = some (some (.ref ba))) (dr : He.dicW K ba = some (He.keysIn w.params ["out", "in"])) (m0 : PySem.W.nsIn K ba "out" = some (some (.str "-" b0))) (m1 : PySem.W.nsIn K ba "in" = some (some (.str "+" b1))) : Glo3 K w mg := by
  refine ⟨⟨_, PySem.W.mg_of X G gb⟩, ⟨ta, PySem.W.mg_of X G gt, fun s hs => ?_⟩, ⟨ba, PySem.W.mg_of X G gr, kd_mk dr m0, kd_mk dr m1⟩⟩
  simp only [sgz, List.mem_cons, List.not_mem_nil, or_false] at hs
  have e0 : turnS "+" = "-" := by decide +kernel
  have e1 : turnS "-" = "+" := by decide +kernel
  have e2 : turnS "+-" = "+-" := by decide +kernel
  rcases hs with rfl | rfl | rfl
  · rw [e0]
    exact kd_mk dt n0
  · rw [e1]
    exact kd_mk dt n1
  · rw [e2]
    exact kd_mk dt n2
theorem plus_mk {K : PySem.W.Frag} {h : Heap} {mg : Str → Option Value} {t : Tok} (X : K.In h) (G : h.Ns mainGlobals mg) (e : PySem.W.nsIn K mainGlobals "PLUS" = some (some (.str "+" t))) : ∃ t, mg "PLUS" = some (.str "+" t) := ⟨t, PySem.W.mg_of X G e⟩
/-! ### the class Table -/
/-- what is asked of the class Table where it is made and shown alone -/
structure TabY (K : PySem.W.Frag) (mg : Str → Option Value) (C fi fr : Addr) : Prop where
  c : TabC K mg C
  r : TabR K C fr
  m : Mk K C fi
theorem tabY_all {K : PySem.W.Frag} {h : Heap} {mg : Str → Option Value} {C fi fr : Addr} (X : K.In h) (G : h.Ns mainGlobals mg) (gl : PySem.W.nsIn K mainGlobals "Table" = some (some (.ref C)))
    (pg : PySem.W.plainGet K C Str.empty = true) (hd : PySem.W.hasDictIn K C = true) (po : PySem.W.plainOver K C = true) (sa : PySem.W.findIn K (.ref C) "__setattr__" = some (some (.builtin "object.__setattr__"))) (na : PySem.W.findIn K (.ref C) "_classes" = some none)
    (mk : PySem.W.makesIn K C = true) (ini : PySem.W.findIn K (.ref C) "__init__" = some (some (.ref fi))) (fni : PySem.W.isFn K (.ref fi) = true) (kp : PySem.W.keepIn K (.ref C) = true)
    (rep : PySem.W.findIn K (.ref C) "__repr__" = some (some (.ref fr))) (fnr : PySem.W.isFn K (.ref fr) = true) : TabY K mg C fi fr :=
  ⟨⟨PySem.W.mg_of X G gl, ⟨pg, hd, po, sa⟩, na⟩, ⟨rep, fnr⟩, ⟨mk, ini, fni, kp⟩⟩
def MetAt (K : PySem.W.Frag) (x qual : Str) (j : Nat) (ps : List Str) (f : Addr) : Prop := ∃ fd, Fun K x qual (tabM j) f fd ∧ ∀ us : List Value, us.length = ps.length → bindArgs fd ⟨us, []⟩ = pure (ps.zip us)
theorem met_mk {K : PySem.W.Frag} {x qual : Str} {j : Nat} {ps : List Str} {f : Addr} {oc : Value} {od an : Option Addr} {osl : Array (Option Value)} {kV doc pm cdv ct : Value} (l : K.lookup f = some ⟨oc, od, .func (PySem.W.fnOf x qual (defArgs (tabM j)) (defBody (tabM j)) (defScope (tabM j)) .none kV doc pm an cdv ct), osl⟩)
    (c : PySem.W.codeIn K cdv qual = true) (k : PySem.W.keepIn K (.ref f) = true) (b : ∀ (kV doc pm : Value) (an : Option Addr) (cdv ct : Value) (us : List Value), us.length = ps.length → bindArgs (PySem.W.fnOf x qual (defArgs (tabM j)) (defBody (tabM j)) (defScope (tabM j)) .none kV doc pm an cdv ct) ⟨us, []⟩ = pure (ps.zip us)) : MetAt K x qual j ps f :=
  ⟨_, fun_mk l c k, b kV doc pm an cdv ct⟩
def IniAt (K : PySem.W.Frag) (f : Addr) : Prop := ∃ fd, Fun K "__init__" "Table.__init__" (tabM 0) f fd ∧ ∀ us rest : List Value, us.length = [("self" : Str)].length → bindArgs fd ⟨us ++ rest, []⟩ = (newTuple rest >>= fun t => pure ([("self" : Str)].zip us ++ [(("classes" : Str), t)]))
theorem ini_mk {K : PySem.W.Frag} {f : Addr} {oc : Value} {od an : Option Addr} {osl : Array (Option Value)} {kV doc pm cdv ct : Value} (l : K.lookup f = some ⟨oc, od, .func (PySem.W.fnOf "__init__" "Table.__init__" (defArgs (tabM 0)) (defBody (tabM 0)) (defScope (tabM 0)) .none kV doc pm an cdv ct), osl⟩)
    (c : PySem.W.codeIn K cdv "Table.__init__" = true) (k : PySem.W.keepIn K (.ref f) = true) (b0 : ∀ (kV doc pm : Value) (an : Option Addr) (cdv ct a : Value), bindArgs (PySem.W.fnOf "__init__" "Table.__init__" (defArgs (tabM 0)) (defBody (tabM 0)) (defScope (tabM 0)) .none kV doc pm an cdv ct) ⟨[a], []⟩ = (newTuple [] >>= fun t => pure [(("self" : Str), a), (("classes" : Str), t)]))
    (b1 : ∀ (kV doc pm : Value) (an : Option Addr) (cdv ct a r : Value) (rs : List Value), bindArgs (PySem.W.fnOf "__init__" "Table.__init__" (defArgs (tabM 0)) (defBody (tabM 0)) (defScope (tabM 0)) .none kV doc pm an cdv ct) ⟨a :: r :: rs, []⟩ = (newTuple (r :: rs) >>= fun t => pure [(("self" : Str), a), (("classes" : Str), t)])) : IniAt K f :=
  ⟨_, fun_mk l c k, fun us rest hl => match us, rest, hl with
    | [a], [], _ => b0 kV doc pm an cdv ct a
    | [a], r :: rs, _ => b1 kV doc pm an cdv ct a r rs⟩
/-! ### more of the class Table, the class Web -/
def kitBG (K : PySem.W.Frag) (C : Addr) : Bool := (Tys.all fun T => decide (PySem.W.kitOne K (.type T) (.ref C) = some false)) && decide (PySem.W.kitOne K (.ref C) (.ref C) = some true)
theorem tabI_mk {K : PySem.W.Frag} {C : Addr} (ca : PySem.W.findIn K (.ref C) "__class__" = some (some (.builtin "object.__class__"))) (cn : PySem.W.specialIn K (.builtin "object.__class__") "__get__" = some (some (.builtin "getset_descriptor.__get__"))) (ct : PySem.W.takesIn K (.builtin "object.__class__") = some true) (kt : kitBG K C = true) : TabI K C := by
  unfold kitBG at kt
  simp only [Bool.and_eq_true, List.all_eq_true, decide_eq_true_eq] at kt
  exact ⟨ca, cn, ct, kt.1, kt.2⟩
theorem prop_mk {K : PySem.W.Frag} {C pn fn : Addr} {x : Str} {rest : List Value} (nm : PySem.W.findIn K (.ref C) x = some (some (.ref pn))) (ng : PySem.W.specialIn K (.ref pn) "__get__" = some (some (.builtin "property.__get__"))) (nt : PySem.W.takesIn K (.ref pn) = some true) (nr : PySem.W.recIn K pn "property" = some (.ref fn :: rest)) : PropOf K C x pn fn :=
  ⟨nm, ng, nt, rest, nr⟩
theorem exc_mk {K : PySem.W.Frag} {h : Heap} {mg : Str → Option Value} {x : Str} {C : Addr} (X : K.In h) (G : h.Ns mainGlobals mg) (a : PySem.W.nsIn K mainGlobals x = some (some (.ref C))) (k : PySem.W.keepIn K (.ref C) = true) (b : PySem.W.subIn K (.ref C) (.type "BaseException") = some true) (t : PySem.W.typeIn K (.ref C) = some (.type "type"))
    (e : PySem.W.excIn K C [.type "ValueError", .type "Exception", .type "BaseException", .type "object"] "ValueError.__new__" = true) : ExcAt K mg x C := ⟨PySem.W.mg_of X G a, k, b, t, e⟩
theorem iniC_ofY {K : PySem.W.Frag} {file : Str} {C f cc cda : Addr} {qual : Str} {params : Arguments} {body : List Stmt} {scope : Scope} {nm q : Str} {Na : Addr} {bs bm : List Value} {sn : List Str} {sub : List Value} {ab : Bool} {col : Option Bool} {dd : Option Addr} {k0 k1 k2 k3 k5 : Option Value}
    {oc dV kV doc pm ct : Value} {od an : Option Addr} {osl : Array (Option Value)} {ccl : Value} {cdd : Option Addr} {vs : Array Value} {ccs : Array (Option Value)} {tf : Tok} {cl : Value} {cld : Option Addr} {csl : Array (Option Value)} {cd : ClassData}
    (ini : PySem.W.findIn K (.ref C) "__init__" = some (some (.ref f)))
    (lk : K.lookup f = some ⟨oc, od, .func (PySem.W.ksFn "__init__" qual params body scope dV kV doc pm an (.ref cda) ct cc), osl⟩)
    (lc : K.lookup C = some (excClassObj nm q C Na bs bm true sn sub ab col dd k0 k1 k2 k3 k5 "ValueError.__new__")) (hb : PySem.HandSPX.refsVE bm = true)
    (sa : PySem.W.findIn K (.ref C) "__setattr__" = some (some (.builtin "object.__setattr__"))) (ex : PySem.W.subIn K (.ref C) (.type "BaseException") = some true) (ty : PySem.W.typeIn K (.ref C) = some (.type "type")) (kp : PySem.W.keepIn K (.ref C) = true)
    (cod : PySem.W.codeIn K (.ref cda) qual = true) (lcda : K.lookup cda = some ⟨ccl, cdd, .fields vs, ccs⟩) (hvs : vs[2]? = some (.str file tf)) (lcc : K.lookup cc = some ⟨cl, cld, .cell (some (.ref C)), csl⟩)
    (cls : PySem.W.clsIn K C = some cd) (own : PySem.W.mroIn K C (.ref C) = some true) (up : PySem.W.ks_superIn K C C "__init__" = some (some (.builtin "ValueError.__init__"))) (ve : PySem.W.subIn K (.ref C) (.type "ValueError") = some true)
    (any : PySem.W.nsIn K cStatics "thirdparty.any" = some none) (tyf : PySem.W.typeIn K (.ref f) = some (.type "function")) : IniC K file C f cc cda qual params body scope :=
  ⟨⟨⟨nm, q, Na, bs, bm, sn, sub, ab, col, dd, k0, k1, k2, k3, k5, lc, hb⟩, sa, ex, ty, kp⟩, ⟨oc, od, dV, kV, doc, pm, an, ct, osl, lk⟩, cod, ⟨ccl, cdd, vs, ccs, tf, lcda, hvs⟩, ⟨cl, cld, csl, lcc⟩, by rw [cls] <;> rfl, own, up, ve, any, ini, tyf⟩
section
variable {P : Program} {w : World} {K : PySem.W.Frag} {mg : Str → Option Value} {h : Heap} {file : Str} {C f cc cda : Addr} {nm q : Str} {Na : Addr} {bs bm : List Value} {sn : List Str} {sub : List Value} {ab : Bool} {col : Option Bool} {dd : Option Addr} {k0 k1 k2 k3 k5 : Option Value}
    {oc kV doc pm ct : Value} {od an : Option Addr} {osl : Array (Option Value)} {ccl : Value} {cdd : Option Addr} {vs : Array Value} {ccs : Array (Option Value)} {tf : Tok} {cl : Value} {cld : Option Addr} {csl : Array (Option Value)} {cd : ClassData}
theorem mkR_Turned (X : K.In h) (G : h.Ns mainGlobals mg) (hfile : ((P.main.file : Str) == file) = true) (htop : (P.main.scope.names.lookup ("super" : Str)).isSome = false) (zs : PySem.W.nsIn K mainGlobals "super" = some none)
    (a : PySem.W.nsIn K mainGlobals "Turned" = some (some (.ref C))) (ini : PySem.W.findIn K (.ref C) "__init__" = some (some (.ref f)))
    (lk : K.lookup f = some ⟨oc, od, .func (PySem.W.ksFn "__init__" "Turned.__init__" (defArgs (turI)) (defBody (turI)) (defScope (turI)) .none kV doc pm an (.ref cda) ct cc), osl⟩)
    (lc : K.lookup C = some (excClassObj nm q C Na bs bm true sn sub ab col dd k0 k1 k2 k3 k5 "ValueError.__new__")) (hb : PySem.HandSPX.refsVE bm = true)
    (sa : PySem.W.findIn K (.ref C) "__setattr__" = some (some (.builtin "object.__setattr__"))) (ex : PySem.W.subIn K (.ref C) (.type "BaseException") = some true) (ty : PySem.W.typeIn K (.ref C) = some (.type "type")) (kp : PySem.W.keepIn K (.ref C) = true)
    (cod : PySem.W.codeIn K (.ref cda) "Turned.__init__" = true) (lcda : K.lookup cda = some ⟨ccl, cdd, .fields vs, ccs⟩) (hvs : vs[2]? = some (.str file tf)) (lcc : K.lookup cc = some ⟨cl, cld, .cell (some (.ref C)), csl⟩)
    (cls : PySem.W.clsIn K C = some cd) (own : PySem.W.mroIn K C (.ref C) = some true) (up : PySem.W.ks_superIn K C C "__init__" = some (some (.builtin "ValueError.__init__"))) (ve : PySem.W.subIn K (.ref C) (.type "ValueError") = some true)
    (any : PySem.W.nsIn K cStatics "thirdparty.any" = some none) (tyf : PySem.W.typeIn K (.ref f) = some (.type "function")) (n0 : PySem.W.findIn K (.ref C) "name" = some none) (n1 : PySem.W.findIn K (.ref C) "letter" = some none) : ∀ base : Heap, Ra2 P w K mg base "Turned" C := fun base => by
  have I : IniC K file C f cc cda "Turned.__init__" (defArgs (turI)) (defBody (turI)) (defScope (turI)) := iniC_ofY ini lk lc hb sa ex ty kp cod lcda hvs lcc cls own up ve any tyf
  refine ⟨⟨f, _, ⟨PySem.W.mg_of X G a, I.ox, ini, tyf, inf_Turned (PySem.W.mg_none_of X G zs) hfile htop I n0 n1 lk⟩, fun s us _ hl => ?_⟩⟩
  rw [List.append_nil] at hl ⊢
  exact .of_eq (match us, hl with | [_, _, _], _ => rfl)
end
def exmB1 (K : PySem.W.Frag) (C : Addr) : Bool := decide (PySem.W.exmOne K (.ref C) (.ref C) = some true)
theorem toldK_mk {K : PySem.W.Frag} {h : Heap} {mg : Str → Option Value} {C : Addr} (X : K.In h) (G : h.Ns mainGlobals mg) (a : PySem.W.nsIn K mainGlobals "Turned" = some (some (.ref C))) (m : exmB1 K C = true) (x : xfB K C = true) (n : PySem.W.findIn K (.ref C) "name" = some none) (l : PySem.W.findIn K (.ref C) "letter" = some none) : ToldK K mg C :=
  ⟨PySem.W.mg_of X G a, of_decide_eq_true m, xfB_ok x, n, l⟩
theorem tabA_mk {K : PySem.W.Frag} {C fa : Addr} (add : PySem.W.findIn K (.ref C) "__add__" = some (some (.ref fa))) (fna : PySem.W.isFn K (.ref fa) = true) (sf : PySem.W.selfFirst K C = true) : TabA K C fa := ⟨add, fna, sf⟩
end N

namespace N
open PySem PySem.Spec PyProof.Rows L2 StX LamX NdefX
theorem all_here {P : Program} {w : World} {K : PySem.W.Frag} {mg : Str → Option Value} {h : Heap} {f_ CT fa C fi fr fc pc_ c1 P1 : Addr} (KX : K.In h) (GN : h.Ns mainGlobals mg) (hfa : mg "law" = some (.ref f_)) (G : Glo mg) (G2 : Glo2 K mg) (G3 : Glo3 K w mg) (hPL : ∃ t, mg "PLUS" = some (.str "+" t)) (h_any : mg "any" = none) (h_zip : mg "zip" = none) (h_sorted : mg "sorted" = none) (h_enumerate : mg "enumerate" = none)
    (T : TabY K mg C fi fr) (M_ini : IniAt K fi) (M_cls : MetAt K "classes" "Table.classes" 1 ["self"] fc) (M_add : MetAt K "__add__" "Table.__add__" 9 ["self", "other"] fa)
    (PR_classes : PropOf K C "classes" pc_ fc)
    (kT : ToldK K mg CT)
    (tA : TabA K C fa)
    (oT : ∀ base : Heap, Ra2 P w K mg base "Turned" CT)
    (D_is_letter : DefAt K mg "is_letter" s_is_letter ["thing"])
    (D_is_name : DefAt K mg "is_name" s_is_name ["thing"])
    (D_begins_class_type : DefAt K mg "begins_class_type" s_begins_class_type ["thing"])
    (D_is_type : DefAt K mg "is_type" s_is_type ["thing"])
    (D_parts : DefAt K mg "parts" s_parts ["kind"])
    (D_class_types : DefAt K mg "class_types" s_class_types ["kinds"])
    (D_size_of : DefAt K mg "size_of" s_size_of ["kind"])
    (D_is_short_tuple : DefAt K mg "is_short_tuple" s_is_short_tuple ["thing"])
    (D_all_differ : DefAt K mg "all_differ" s_all_differ ["words"])
    (D_is_parameter : DefAt K mg "is_parameter" s_is_parameter ["thing"])
    (D_are_parameters : DefAt K mg "are_parameters" s_are_parameters ["thing"])
    (D_is_declared : DefAt K mg "is_declared" s_is_declared ["thing"])
    (D_are_parents : DefAt K mg "are_parents" s_are_parents ["thing"])
    (D_is_member : DefAt K mg "is_member" s_is_member ["thing"])
    (D_are_members : DefAt K mg "are_members" s_are_members ["thing"])
    (D_is_class : DefAt K mg "is_class" s_is_class ["thing"])
    (D_names_of : DefAt K mg "names_of" s_names_of ["classes"])
    (D_check_forms : DefAt K mg "check_forms" s_check_forms ["classes"])
    (D_arities : DefAt K mg "arities" s_arities ["classes"])
    (D_letters_of : DefAt K mg "letters_of" s_letters_of ["one"])
    (D_declared : DefAt K mg "declared" s_declared ["one"])
    (D_is_of : DefAt K mg "is_of" s_is_of ["thing", "wanted", "letters"])
    (D_check_fit : DefAt K mg "check_fit" s_check_fit ["classes"])
    (D_heads_of : DefAt K mg "heads_of" s_heads_of ["classes"])
    (D_variances_of : DefAt K mg "variances_of" s_variances_of ["classes"])
    (D_elders : DefAt K mg "elders" s_elders ["heads", "name"])
    (D_check_elders : DefAt K mg "check_elders" s_check_elders ["classes"])
    (D_passed_on : DefAt K mg "passed_on" s_passed_on ["sign", "variance"])
    (D_is_barred : DefAt K mg "is_barred" s_is_barred ["sign", "variance"])
    (D_wrong_letters : DefAt K mg "wrong_letters" s_wrong_letters ["parameters", "places"])
    (D_signed_letters : DefAt K mg "signed_letters" s_signed_letters ["kind", "sign", "variances"])
    (D_check_parents : DefAt K mg "check_parents" s_check_parents ["classes"])
    (D_check_classes : DefAt K mg "check_classes" s_check_classes ["classes"])
    (D_Lcell_at : DefAt K mg "_law_cell_at" s_Lcell_at ["_law_script", "_law_k"])
    (D_Link : DefAt K mg "_law_ink" s_Link ["_law_cell"])
    (D_Ldraw : DefAt K mg "_law_draw" s_Ldraw ["_law_pen", "_law_many"])
    (D_Lpick : DefAt K mg "_law_pick" s_Lpick ["_law_pen", "_law_some"])
    (D_Lnodes : DefAt K mg "_law_nodes" s_Lnodes ["_law_kind"])
    (D_Ldrawn : DefAt K mg "_law_drawn" s_Ldrawn ["_law_pen", "_law_heads", "_law_some", "_law_deep"])
    (D_Lparent : DefAt K mg "_law_parent" s_Lparent ["_law_pen", "_law_ahead", "_law_heads", "_law_some"])
    (D_Lown : DefAt K mg "_law_own" s_Lown ["_law_classes_here"])
    (D_Lmarks : DefAt K mg "_law_marks" s_Lmarks ["_law_kind", "_law_mark", "_law_own_here"])
    (D_Lrow : DefAt K mg "_law_row" s_Lrow ["_law_pen", "_law_some", "_law_lot", "_law_own_here"])
    (D_Lclasses : DefAt K mg "_law_classes" s_Lclasses ["_law_pen", "_law_most"])
    (D_Ltable : DefAt K mg "_law_table" s_Ltable ["_law_some"])
    (D_Lshapes : DefAt K mg "_law_shapes" s_Lshapes ["_law_classes_here"])
    (D_Lmembers : DefAt K mg "_law_members" s_Lmembers ["_law_pen", "_law_heads", "_law_some"])
    (D_Lwith_members : DefAt K mg "_law_with_members" s_Lwith_members ["_law_pen", "_law_classes_here"])
    (D_Lturned : DefAt K mg "_law_turned" s_Lturned ["_law_classes_here"])
    (D_Ltold : DefAt K mg "_law_told" s_Ltold ["_law_call"])
    (D_Ldue_of : DefAt K mg "_law_due_of" s_Ldue_of ["_law_some"])
    (D_Lvaried : DefAt K mg "_law_varied" s_Lvaried ["_law_pen", "_law_classes_here"])
    (D_Lright : DefAtC K mg "_law_right" s_Lright ["_law_pen", "_law_classes_here"] c1)
    (D_law : DefAt K mg "law" s_law ["_law_script"])
    : ∃ fd : FuncData, (∀ (s : Shared) (u : Value), BindsTo s fd ⟨[u], []⟩ [("_law_script", u)]) ∧ ∀ base : Heap, K.In base → base.Ns mainGlobals mg → TabB base mg c1 P1 → FnG P w K mg base (L2.CX P w) 25 f_ fd ["_law_script"] (spLaw67 K P1) := by
  obtain ⟨f, fd, hm, F, _⟩ := D_law
  have ef := hm.symm.trans hfa
  cases ef
  obtain ⟨fdi, Fi, bi⟩ := M_ini
  obtain ⟨fd_cls, F_cls, b_cls⟩ := M_cls
  obtain ⟨fd_add, F_add, b_add⟩ := M_add
  refine ⟨fd, fun s u => ?_, fun base _ _ TB1 => ?_⟩
  · obtain ⟨oc, od, kV, doc, pm, an, cdv, ct, osl, rfl, _, _⟩ := F.ex
    exact .of_eq rfl
  have c_isl := ok_is_letter (P := P) (w := w) (base := base) G D_is_letter
  have c_isn := ok_is_name (P := P) (w := w) (base := base) G D_is_name
  have c_beg := ok_begins G c_isn D_begins_class_type
  have c_ist := ok_is_type c_isl c_beg D_is_type
  have c_par := ok_parts (P := P) (w := w) (base := base) G D_parts
  have c_cty := ok_class_types (P := P) (w := w) (base := base) G D_class_types
  have c_siz := ok_size_of G c_par c_cty D_size_of
  have c_sho := ok_short (P := P) (w := w) (base := base) G G2 D_is_short_tuple
  have c_dif := ok_differ (P := P) (w := w) (base := base) G G2 D_all_differ
  have c_ipa := ok_par G G2 c_isl D_is_parameter
  have c_aps := ok_pars G c_sho c_ipa c_dif D_are_parameters
  have c_dec := ok_decl G G2 c_ist c_siz D_is_declared
  have c_pnt := ok_pnts G c_sho c_dec D_are_parents
  have c_mem := ok_mem G G2 c_isn c_dec D_is_member
  have c_mms := ok_mems G c_sho c_mem c_dif D_are_members
  have c_cla := ok_class G c_isn c_aps c_pnt c_mms D_is_class
  have c_nam := ok_names (P := P) (w := w) (base := base) G D_names_of
  have c_for := ok_forms G G2 c_cla c_nam c_dif D_check_forms
  have c_ars := ok_ars (P := P) (w := w) (base := base) G D_arities
  have c_let := ok_lets (P := P) (w := w) (base := base) D_letters_of
  have c_dcl := ok_dcls (P := P) (w := w) (base := base) G D_declared
  have c_iof := ok_of (P := P) (w := w) (base := base) G D_is_of
  have c_fit := ok_fit G c_ars c_let c_dcl c_iof D_check_fit
  have c_hea := ok_heads (P := P) (w := w) (base := base) G D_heads_of
  have c_var := ok_vars (P := P) (w := w) (base := base) G D_variances_of
  have c_eld := ok_eld (P := P) (w := w) (base := base) G D_elders
  have c_els := ok_elds G c_hea c_eld D_check_elders
  have c_pas := ok_pass (P := P) (w := w) (base := base) G3 D_passed_on
  have c_bar := ok_bar (P := P) (w := w) (base := base) G3 D_is_barred
  have c_wro := ok_wrongX G G3 h_any c_bar D_wrong_letters
  have c_sgl := ok_sgl G h_zip c_pas D_signed_letters
  have c_cpa := ok_parsX G (oT base) hPL c_var c_sgl c_wro D_check_parents
  have c_chk := ok_checkZ c_for c_fit c_els c_cpa D_check_classes
  have t_ini := ok_TinitZ T.c c_chk Fi bi
  have t_cls := ok_Tcls (P := P) (w := w) (base := base) T.c F_cls b_cls
  have t_add := ok_TaddZ T.c T.m t_ini F_add b_add
  have c_cel := ok_cell (P := P) (w := w) (base := base) G D_Lcell_at
  have c_pen := ok_pen (P := P) (w := w) (base := base) G D_Link
  have c_dra := ok_draw (P := P) (w := w) (base := base) D_Ldraw
  have c_pic := ok_pick G c_dra D_Lpick
  have c_nod := ok_nod (P := P) (w := w) (base := base) G D_Lnodes
  have c_drn := ok_dr G c_dra c_pic D_Ldrawn
  have c_pa := ok_pa G c_dra c_pic (c_drn 3) (c_nod 8) D_Lparent
  have c_own := ok_own (P := P) (w := w) (base := base) D_Lown
  have c_mks := ok_marks (P := P) (w := w) (base := base) G h_zip D_Lmarks
  have c_row := ok_row G (c_mks 8) c_pic D_Lrow
  have c_clz := ok_classes G h_enumerate c_dra c_pic c_pa c_row c_own D_Lclasses
  have c_tbl := ok_LtableX G T.c T.m t_ini D_Ltable
  have c_shs := ok_shapes (P := P) (w := w) (base := base) G h_sorted D_Lshapes
  have c_mmz := ok_members G c_dra c_pic (c_drn 3) D_Lmembers
  have c_wm := ok_withm G c_shs c_mmz D_Lwith_members
  have c_trn := ok_turned G c_own (c_mks 8) D_Lturned
  have c_due := ok_due67 G c_trn D_Ldue_of
  have c_vry := ok_varied G c_pic D_Lvaried
  have c_rig := ok_rig67 G TB1 kT T.c PR_classes t_cls tA t_add c_tbl c_vry c_due (c_nod 22) D_Ltold D_Lright
  exact ok_law67 G c_cel c_pen c_clz c_wm c_rig F
end N

namespace N
open PySem PySem.Spec PyProof.Rows L2 LamX NdefX
/-! ### the end of a law, where one def makes lambdas -/
/-- what the end wants of the heap where the law is called -/
structure TabHere (K : PySem.W.Frag) (mg : Str → Option Value) (h : Heap) (c Pt : Addr) : Prop where
  tab : h.get? Pt = some { cls := .none, data := .fields #[] }
  off : K.lookup Pt = none
  hd : PySem.W.CodeHd h c Pt
  bm : ∃ (bm : Addr) (ob : Obj), mg "__builtins__" = some (.ref bm) ∧ bm ≠ builtinsNs ∧ h.get? bm = some ob ∧ ob.cls = .type "module" ∧ ob.dict = some builtinsNs ∧ ob.data = .plain
section
variable {P : Program} {w : World} {K : PySem.W.Frag} {mg mb : Str → Option Value} {CX : CXT} {k : Nat} {fa a c Pt : Addr} {fd : FuncData} {x : Str} {sp : Sp} {s₁ : Shared} {vs : List Value} {ns : List Int}
theorem run_lawT (H : Hp) (KX : K.In s₁.heap) (hns : s₁.heap.Ns mainGlobals mg) (hb : s₁.heap.Ns builtinsNs mb) (hbb : ∀ x : Str, x ≠ "__name__" → mb x = bootBuiltins x) (hlim : s₁.heap.NoLimit) (hg : s₁.gens = #[]) (T : TabHere K mg s₁.heap c Pt)
    (ha : s₁.heap.get? a = some { cls := .type "list", data := .seq vs.toArray }) (hr : Room k callerA) (F : ∀ base : Heap, K.In base → base.Ns mainGlobals mg → TabB base mg c Pt → FnG P w K mg base CX k fa fd [x] sp) (hbind : ∀ (s : Shared) (u : Value), BindsTo s fd ⟨[u], []⟩ [(x, u)])
    (hsp : sp [.ref a] H (fun v _ => v = .bl true) fun _ _ _ => False) (hCX : ∀ e s', CX [] H s₁ (fun _ _ _ => False) e s' → False) (hO : ∀ b, b ≠ Pt → H b = none ∨ ∃ o xs, H b = some (.frz o (.lst xs))) (hHP : H Pt = some (.tbl #[])) (hok : HOk P w H s₁.heap)
    (hA : ∀ b, H b ≠ none → b = a ∨ b = Pt) (hK : H a ≠ none → K.lookup a = none) :
    codeAny (model P w) callerA (.call (.ref fa) ⟨[.ref a], []⟩) (fun r s' => r = .ok (.ret (.bool true)) ∧ OldK s₁.heap s'.heap ∧ s'.os = s₁.os ∧ AllBare s'.gens) s₁ := by
  have tabH := T.tab
  -- what is neither the script nor the table is not tracked
  have free : ∀ {b : Addr} {o : Obj}, s₁.heap.get? b = some o → (∀ us n, o.data ≠ .seq us n) → o.data ≠ .fields #[] → H b = none := fun {b o} e n1 n2 => by
    cases q : H b with
    | none => rfl
    | some u =>
      rcases hA b (by rw [q]; exact fun z => by cases z) with z | z
      · rw [z, ha] at e
        cases e
        exact absurd rfl (n1 _ _)
      · rw [z, tabH] at e
        cases e
        exact absurd rfl n2
  have dictF : ∀ {b : Addr} {o : Obj} {es : Array DictEntry} {ep : Nat}, s₁.heap.get? b = some o → o.data = .dict es ep → H b = none := fun {b o es ep} e d => free e (fun us n z => by rw [d] at z; cases z) (fun z => by rw [d] at z; cases z)
  have nsK : ∀ {b : Addr} {m : Str → Option Value}, s₁.heap.Ns b m → (hidT s₁.heap H).Ns b m := fun {b m} z => by
    obtain ⟨o, es, ep, e, d, r⟩ := z
    exact ⟨o, es, ep, hidT_get e (dictF e d), d, r⟩
  have hKb : K.In (hidT s₁.heap H) := fun b o e => hidT_get (KX b o e) (by
    cases q : H b with
    | none => rfl
    | some u =>
      rcases hA b (by rw [q]; exact fun z => by cases z) with z | z
      · subst z
        rw [hK (by rw [q]; exact fun z => by cases z)] at e
        cases e
      · subst z
        rw [T.off] at e
        cases e)
  have hM : Mod K mg (hidT s₁.heap H) := ⟨hKb, nsK hns, ⟨mb, nsK hb, hbb⟩, let ⟨mc, h1, h2⟩ := hlim; ⟨mc, nsK h1, h2⟩⟩
  have gP : mainGlobals ≠ Pt := fun z => by
    obtain ⟨o, es, ep, e, d, _⟩ := hns
    rw [z, tabH] at e
    cases e
    cases d
  have TB : TabB (hidT s₁.heap H) mg c Pt := by
    refine ⟨?_, ?_, gP⟩
    · obtain ⟨o, us, file, tf, flags, tg, inF, text, tt, e1, r1, r2, r3, rest⟩ := T.hd
      refine ⟨o, us, file, tf, flags, tg, inF, text, tt, hidT_get e1 (free e1 (fun us n z => by rw [r2] at z; cases z) (fun z => ?_)), r1, r2, r3, rest⟩
      rw [r2] at z
      cases z
      simp at r3
    · obtain ⟨bm, ob, b1, b2, b3, b4, b5, b6⟩ := T.bm
      refine ⟨bm, ob, b1, b2, fun z => ?_, fun z => ?_, hidT_get b3 (free b3 (fun us n z => by rw [b6] at z; cases z) (fun z => by rw [b6] at z; cases z)), b4, b5, b6⟩
      · obtain ⟨o, es, ep, e, d, _⟩ := hns
        rw [z, e] at b3
        cases b3
        rw [d] at b6
        cases b6
      · rw [z, tabH] at b3
        cases b3
        cases b6
  have e0 : Env0 P w K mg (hidT s₁.heap H) callerA [] s₁ H := ⟨rfl, hM, fun b o e => of_hidT e, Nat.le_of_eq (hidT_size _ _), trivial, fun b hb => absurd (show b ∈ ([] : List Addr) from hb) (by simp), hok, .of_eq hg⟩
  have go := (F _ hKb (nsK hns) TB).run callerA [] s₁ H ⟨[.ref a], []⟩ [.ref a] [.ref a] (fun v _ => v = .bl true) (fun _ _ _ => False) (roomG_caller hr) e0 (hbind s₁ (.ref a)) (.cons rfl .nil) hsp
  refine codeAny_mono go fun r s' h => ?_
  match r, h with
  | .error e, h => exact (hCX e s' h).elim
  | .ok .next, h => exact False.elim h
  | .ok .brk, h => exact False.elim h
  | .ok .cont, h => exact False.elim h
  | .ok (.ret u), h =>
    obtain ⟨v, H', os, bare, un, hok', r', q⟩ := h
    have q' : v = .bl true := q
    subst q'
    obtain rfl : u = Value.bool true := r'
    obtain ⟨more, hm⟩ := un.tbls Pt #[] hHP
    have hm' : s'.heap.get? Pt = some { cls := .none, data := .fields (#[] ++ more) } := hok' Pt _ hm
    have key : ∀ b o, b ≠ Pt → s₁.heap.get? b = some o → s'.heap.get? b = some o := fun b o nb e => by
      cases q : H b with
      | none => exact un.keep b o e q (by intro z; exact absurd (show b ∈ ([] : List Addr) from z) (by simp)) (by simp)
      | some u =>
        rcases hO b nb with z | ⟨ob, xs, z⟩
        · rw [q] at z; cases z
        · have e1 := (hok b _ z).1
          have e2 := (hok' b _ (un.frzs b ob _ z)).1
          rw [e] at e1
          cases e1
          exact e2
    refine ⟨rfl, ⟨fun b o e => ?_, fun b o e => ?_⟩, os, bare⟩
    · by_cases nb : b = Pt
      · subst nb
        rw [tabH] at e
        cases e
        exact .inr (.inl ⟨(T.hd.tab tabH).isCodeTable, rfl, #[], more, rfl, hm'⟩)
      · exact .inl (key b o nb e)
    · by_cases nb : b = Pt
      · subst nb
        exact ⟨_, hm'⟩
      · exact ⟨o, key b o nb e⟩
end
theorem walkGT {l : PySem.W.OpenLaw} {n k : Nat} {q : Program} {loose : List Str} {XP : (Str → Option Value) → Heap → Prop} {YP : World → Heap → Prop} {d : DefRec} {K : Params → PySem.W.Frag} {CX : World → CXT} {sp : World → Sp} {x : Str} {Pt : Addr}
    (hn : l.most = some n) (hn2 : n ≤ sizeLine) (hdf : d.params.defaults = []) (hr : Room k callerA) (hY : ∀ (w : World) (h : Heap), YP w h → (K w.params).In h) (hP : ∀ (w : World) (h : Heap), YP w h → h.get? Pt = some { cls := .none, data := .fields #[] })
    (hoff : ∀ w : World, (K w.params).lookup Pt = none)
    (F : ∀ (w : World) (mg : Str → Option Value) (fa : Addr) (h : Heap), (K w.params).In h → h.Ns mainGlobals mg → mg d.name = some (.ref fa) →
      ∃ (c : Addr) (fd : FuncData), PySem.W.codeHdIn (K w.params) c Pt = true ∧ (∀ (s : Shared) (u : Value), BindsTo s fd ⟨[u], []⟩ [(x, u)]) ∧ ∀ base : Heap, (K w.params).In base → base.Ns mainGlobals mg → TabB base mg c Pt → FnG l.prog w (K w.params) mg base (CX w) k fa fd [x] (sp w))
    (hsp : ∀ (w : World) (H : Hp) (a : Addr) (ns : List Int), ns.length ≤ n → H Pt = some (.tbl #[]) → SqL (K w.params) H a (ns.map V.int) → sp w [.ref a] H (fun v _ => v = .bl true) fun _ _ _ => False)
    (hCX : ∀ (w : World) (H : Hp) (s : Shared) (e : Value) (s' : Shared), CX w [] H s (fun _ _ _ => False) e s' → False) : PySem.W.WalkO q loose XP YP l.row.toRowW d [] (fun f vs => PySem.call f vs) := by
  refine Att.attach_call hn hdf fun w s₀ s₁ mg mb fa o pm cd doc a vs ns G Y ho hd hcd hmg ha hi hlen hg => ?_
  have KX := hY w _ Y
  obtain ⟨c, fd, hcc, hb, hF⟩ := F w mg fa _ KX G.T.g hmg
  have ht := hP w _ Y
  have T : TabHere (K w.params) mg s₁.heap c Pt := ⟨ht, hoff w, PySem.W.codeHd_of_K KX hcc, G.T.bmain⟩
  have rv := vals_ints hi
  have lenV := hi.length
  have hl : ns.length ≤ sizeLine := Nat.le_trans hlen hn2
  have naP : a ≠ Pt := fun z => by
    rw [z, ht] at ha
    cases ha
  have one := fun (H : Hp) (hS : SqL (K w.params) H a (ns.map V.int)) (hHP : H Pt = some (.tbl #[])) => run_lawT H KX G.T.g G.T.b G.T.builtins G.T.nolimit hg T ha hr hF hb (hsp w H a ns hlen hHP hS) (fun e s' => hCX w H s₁ e s')
  cases hk : (K w.params).lookup a with
  | some o' =>
    have e := KX a o' hk
    rw [ha] at e
    cases e
    have at_ : ∀ {b : Addr}, b ≠ Pt → (if b = Pt then some (HO.tbl #[]) else none) = none := fun n => if_neg n
    refine one (fun b => if b = Pt then some (.tbl #[]) else none) (.inr ⟨_, vs.toArray, _, hk, rfl, rfl, rfl, by rw [List.size_toArray, lenV]; exact hl, by simpa using rv⟩) (if_pos rfl) (fun b nb => .inl (at_ nb)) (if_pos rfl) (fun b u z => ?_) (fun b z => ?_) fun z => absurd (at_ naP) z
    · by_cases nb : b = Pt
      · have z' := (if_pos nb).symm.trans z
        cases z'
        rw [nb]
        exact ht
      · have z' := (at_ nb).symm.trans z
        cases z'
    · by_cases nb : b = Pt
      · exact .inr nb
      · exact absurd (at_ nb) z
  | none =>
    have yP : (if Pt = a then some (HO.frz { cls := .type "list", data := .seq vs.toArray } (.lst (ns.map V.int))) else if Pt = Pt then some (.tbl #[]) else none) = some (.tbl #[]) := (if_neg (Ne.symm naP)).trans (if_pos rfl)
    refine one (fun b => if b = a then some (.frz { cls := .type "list", data := .seq vs.toArray } (.lst (ns.map V.int))) else if b = Pt then some (.tbl #[]) else none) (.inl (.inr ⟨{ cls := .type "list", data := .seq vs.toArray }, if_pos rfl⟩)) yP (fun b nb => ?_) yP (fun b u z => ?_) (fun b z => ?_) fun _ => hk
    · by_cases hb : b = a
      · exact .inr ⟨_, _, if_pos hb⟩
      · exact .inl ((if_neg hb).trans (if_neg nb))
    · by_cases hb : b = a
      · have z' := (if_pos hb).symm.trans z
        cases z'
        rw [hb]
        exact ⟨ha, by rw [List.length_map]; exact hl, vs, _, rv, ha⟩
      · have z1 := (if_neg hb).symm.trans z
        by_cases nb : b = Pt
        · have z' := (if_pos nb).symm.trans z1
          cases z'
          rw [nb]
          exact ht
        · have z' := (if_neg nb).symm.trans z1
          cases z'
    · by_cases hb : b = a
      · exact .inl hb
      · by_cases nb : b = Pt
        · exact .inr nb
        · exact absurd ((if_neg hb).trans (if_neg nb)) z
theorem packT {K : PySem.W.Frag} {c Pt : Addr} {A : FuncData → Prop} {B : Addr → FuncData → Prop} (h : ∃ fd, A fd ∧ B c fd) (hc : PySem.W.codeHdIn K c Pt = true) : ∃ c fd, PySem.W.codeHdIn K c Pt = true ∧ A fd ∧ B c fd := by
  obtain ⟨fd, a, b⟩ := h
  exact ⟨c, fd, hc, a, b⟩
end N

open PySem PySem.W PyProof.Rows
set_option maxHeartbeats 0 in
theorem PySem.Challenge.cw_endlesskinds_k67_turned_parents_refused_holds : PySem.Challenge.rw_endlesskinds_k67_turned_parents_refused.Holds := by
  w_on; o_law
  refine holds_open (q := N.hQ) (loose := N.hLo) (d := N.topD PySem.Challenge.pw_endlesskinds_k67_turned_parents_refused 93) (kwd := []) (XP := XL N.hQ []) (YP := Hook.says (kmHook N.kmade.heap_1 N.hAs N.hAs_eq [658])) N.hleft (Hook.of (kmHook N.kmade.heap_1 N.hAs N.hAs_eq [658])) (Hook.keeps (kmHook N.kmade.heap_1 N.hAs N.hAs_eq [658])) (fun s e => xl_of s (Bool.and_eq_true_iff.mp e).1) XL.keeps N.hdef N.hdef2 (by kernel_rfl) (fun s e => recFacts_of (Bool.and_eq_true_iff.mp e).2) (by rfl) ?zws N.hok ⟨rfl, rfl, rfl, rfl, rfl, by decide +kernel⟩ ?hw ?hc
  case zws => first | assumption | decide +kernel
  case hw => w_witness2
  k_fill
  refine N.walkGT (l := PySem.Challenge.rw_endlesskinds_k67_turned_parents_refused) (n := 63) (k := 25) (x := "_law_script") (Pt := 658) (CX := fun w => L2.CX PySem.Challenge.rw_endlesskinds_k67_turned_parents_refused.prog w) (sp := fun w => N.spLaw67 _ 658) rfl (by decide) rfl ⟨rfl, by decide, by decide⟩ (fun w h Y => PySem.W.km_in_of Y) (fun w h Y => PySem.W.km_tabs_of Y 658 List.mem_cons_self) ?zoff ?F (fun w H a ns hl hP hS => ⟨a, ns, rfl, hS, hl, LamX.TabS.nil hP, fun _ => rfl⟩) (fun w H s e s' h => by obtain ⟨_, _, _, _, _, _, _, _, _, _, _, _, z⟩ := h; exact z)
  case zoff =>
    intro w
    kernel_rfl
  case F =>
    intro w mg fa h KX G hmg
    refine' N.packT (N.all_here (P := PySem.Challenge.rw_endlesskinds_k67_turned_parents_refused.prog) KX G hmg ?glo ?glo2 ?glo3 ?hpl ?n_any ?n_zip ?n_sorted ?n_enumerate ?tab ?mini ?m_cls ?m_add ?pr_classes ?kT ?tA ?oT ?d_is_letter ?d_is_name ?d_begins_class_type ?d_is_type ?d_parts ?d_class_types ?d_size_of ?d_is_short_tuple ?d_all_differ ?d_is_parameter ?d_are_parameters ?d_is_declared ?d_are_parents ?d_is_member ?d_are_members ?d_is_class ?d_names_of ?d_check_forms ?d_arities ?d_letters_of ?d_declared ?d_is_of ?d_check_fit ?d_heads_of ?d_variances_of ?d_elders ?d_check_elders ?d_passed_on ?d_is_barred ?d_wrong_letters ?d_signed_letters ?d_check_parents ?d_check_classes ?d_Lcell_at ?d_Link ?d_Ldraw ?d_Lpick ?d_Lnodes ?d_Ldrawn ?d_Lparent ?d_Lown ?d_Lmarks ?d_Lrow ?d_Lclasses ?d_Ltable ?d_Lshapes ?d_Lmembers ?d_Lwith_members ?d_Lturned ?d_Ltold ?d_Ldue_of ?d_Lvaried ?d_Lright ?d_law) ?zcd
    case glo =>
      refine' N.glo_mk KX G ?zg0 ?zg1 ?zg2 ?zg3 ?zg4 ?zg5 ?zg6 ?zg7 ?zg8 ?zg9 ?zg10 ?zg11 ?zgl ?zgm
      (case zg0 => k_is); (case zg1 => k_is); (case zg2 => k_is); (case zg3 => k_is); (case zg4 => k_is); (case zg5 => k_is); (case zg6 => k_is); (case zg7 => k_is); (case zg8 => k_is); (case zg9 => k_is); (case zg10 => k_is); (case zg11 => k_is); (case zgl => k_is); (case zgm => k_is)
    case glo2 =>
      refine' N.glo2_mk KX G ?y0 ?y1 ?y2 ?y3 ?y4 ?y5 ?y6 ?y7
      (case y0 => k_is); (case y1 => k_is); (case y2 => k_is); (case y3 => k_is); (case y4 => k_is); (case y5 => k_is); (case y6 => k_is); (case y7 => k_is)
    case glo3 =>
      refine' N.glo3_mk KX G ?x0 ?x1 ?x2 ?x3 ?x4 ?x5 ?x6 ?x7 ?x8 ?x9
      (case x0 => k_is); (case x1 => k_is); (case x2 => kernel_rfl); (case x3 => k_is); (case x4 => k_is); (case x5 => k_is); (case x6 => k_is); (case x7 => kernel_rfl); (case x8 => k_is); (case x9 => k_is)
    case hpl =>
      refine' N.plus_mk KX G ?z_pl
      (case z_pl => k_is)
    case n_any =>
      refine' PySem.W.mg_none_of KX G ?zn_any
      (case zn_any => k_is)
    case n_zip =>
      refine' PySem.W.mg_none_of KX G ?zn_zip
      (case zn_zip => k_is)
    case n_sorted =>
      refine' PySem.W.mg_none_of KX G ?zn_sorted
      (case zn_sorted => k_is)
    case n_enumerate =>
      refine' PySem.W.mg_none_of KX G ?zn_enumerate
      (case zn_enumerate => k_is)
    case tab =>
      refine' N.tabY_all KX G ?t_gl ?t_pg ?t_hd ?t_po ?t_sa ?t_na ?t_mk ?t_ini ?t_fni ?t_kp ?t_rep ?t_fnr
      (case t_gl => k_is); (case t_pg => k_is); (case t_hd => k_is); (case t_po => k_is); (case t_sa => k_is); (case t_na => k_is); (case t_mk => k_is); (case t_ini => k_is); (case t_fni => k_is); (case t_kp => k_is); (case t_rep => k_is); (case t_fnr => k_is)
    case kT =>
      refine' N.toldK_mk KX G ?toldK_mk0 ?toldK_mk1 ?toldK_mk2 ?toldK_mk3 ?toldK_mk4
      (case toldK_mk0 => k_is); (case toldK_mk1 => kernel_rfl); (case toldK_mk2 => kernel_rfl); (case toldK_mk3 => k_is); (case toldK_mk4 => k_is)
    case tA =>
      refine' N.tabA_mk ?tabA_mk0 ?tabA_mk1 ?tabA_mk2
      (case tabA_mk0 => k_is); (case tabA_mk1 => k_is); (case tabA_mk2 => k_is)
    case oT =>
      refine' N.mkR_Turned KX G ?hfile_oT ?htop_oT ?zs_oT ?a_oT ?ini_oT ?lk_oT ?lc_oT ?hb_oT ?sa_oT ?ex_oT ?ty_oT ?kp_oT ?cod_oT ?lcda_oT ?hvs_oT ?lcc_oT ?cls_oT ?own_oT ?up_oT ?ve_oT ?any_oT ?tyf_oT ?n0_oT ?n1_oT
      (case zs_oT => k_is)
      (case a_oT => k_is)
      (case ini_oT => k_is)
      (case lk_oT => k_is)
      (case lc_oT => k_is)
      (case hb_oT => kernel_rfl)
      (case sa_oT => k_is)
      (case ex_oT => k_is)
      (case ty_oT => k_is)
      (case kp_oT => k_is)
      (case cod_oT => k_is)
      (case lcda_oT => k_is)
      (case hvs_oT => rfl)
      (case hfile_oT => kernel_rfl)
      (case htop_oT => kernel_rfl)
      (case lcc_oT => k_is)
      (case cls_oT => k_is)
      (case own_oT => k_is)
      (case up_oT => kernel_rfl)
      (case ve_oT => k_is)
      (case any_oT => k_is)
      (case tyf_oT => k_is)
      (case n0_oT => k_is)
      (case n1_oT => k_is)
    case mini =>
      refine' N.ini_mk ?i_l ?i_c ?i_k ?i_0 ?i_1
      (case i_l => k_is); (case i_c => k_is); (case i_k => k_is); (case i_0 => exact fun _ _ _ _ _ _ _ => rfl); (case i_1 => exact fun _ _ _ _ _ _ _ _ _ => rfl)
    case pr_classes =>
      refine' N.prop_mk ?pclasses_1 ?pclasses_2 ?pclasses_3 ?pclasses_4
      (case pclasses_1 => k_is); (case pclasses_2 => k_is); (case pclasses_3 => k_is); (case pclasses_4 => k_is)
    case m_cls =>
      refine' N.met_mk ?qcls_l ?qcls_c ?qcls_k ?qcls_b
      (case qcls_l => k_is); (case qcls_c => k_is); (case qcls_k => k_is); (case qcls_b => exact fun _ _ _ _ _ _ us hl => match us, hl with | [_], _ => rfl)
    case m_add =>
      refine' N.met_mk ?qadd_l ?qadd_c ?qadd_k ?qadd_b
      (case qadd_l => k_is); (case qadd_c => k_is); (case qadd_k => k_is); (case qadd_b => exact fun _ _ _ _ _ _ us hl => match us, hl with | [_, _], _ => rfl)
    case d_is_letter =>
      refine' N.mk_def KX G ?za_d_is_letter ?zl_d_is_letter ?zc_d_is_letter ?zk_d_is_letter ?zb_d_is_letter
      (case za_d_is_letter => k_is); (case zl_d_is_letter => k_is); (case zc_d_is_letter => k_is); (case zk_d_is_letter => k_is); (case zb_d_is_letter => exact fun _ _ _ _ _ _ us hl => match us, hl with | [_], _ => rfl)
    case d_is_name =>
      refine' N.mk_def KX G ?za_d_is_name ?zl_d_is_name ?zc_d_is_name ?zk_d_is_name ?zb_d_is_name
      (case za_d_is_name => k_is); (case zl_d_is_name => k_is); (case zc_d_is_name => k_is); (case zk_d_is_name => k_is); (case zb_d_is_name => exact fun _ _ _ _ _ _ us hl => match us, hl with | [_], _ => rfl)
    case d_begins_class_type =>
      refine' N.mk_def KX G ?za_d_begins_class_type ?zl_d_begins_class_type ?zc_d_begins_class_type ?zk_d_begins_class_type ?zb_d_begins_class_type
      (case za_d_begins_class_type => k_is); (case zl_d_begins_class_type => k_is); (case zc_d_begins_class_type => k_is); (case zk_d_begins_class_type => k_is); (case zb_d_begins_class_type => exact fun _ _ _ _ _ _ us hl => match us, hl with | [_], _ => rfl)
    case d_is_type =>
      refine' N.mk_def KX G ?za_d_is_type ?zl_d_is_type ?zc_d_is_type ?zk_d_is_type ?zb_d_is_type
      (case za_d_is_type => k_is); (case zl_d_is_type => k_is); (case zc_d_is_type => k_is); (case zk_d_is_type => k_is); (case zb_d_is_type => exact fun _ _ _ _ _ _ us hl => match us, hl with | [_], _ => rfl)
    case d_parts =>
      refine' N.mk_def KX G ?za_d_parts ?zl_d_parts ?zc_d_parts ?zk_d_parts ?zb_d_parts
      (case za_d_parts => k_is); (case zl_d_parts => k_is); (case zc_d_parts => k_is); (case zk_d_parts => k_is); (case zb_d_parts => exact fun _ _ _ _ _ _ us hl => match us, hl with | [_], _ => rfl)
    case d_class_types =>
      refine' N.mk_def KX G ?za_d_class_types ?zl_d_class_types ?zc_d_class_types ?zk_d_class_types ?zb_d_class_types
      (case za_d_class_types => k_is); (case zl_d_class_types => k_is); (case zc_d_class_types => k_is); (case zk_d_class_types => k_is); (case zb_d_class_types => exact fun _ _ _ _ _ _ us hl => match us, hl with | [_], _ => rfl)
    case d_size_of =>
      refine' N.mk_def KX G ?za_d_size_of ?zl_d_size_of ?zc_d_size_of ?zk_d_size_of ?zb_d_size_of
      (case za_d_size_of => k_is); (case zl_d_size_of => k_is); (case zc_d_size_of => k_is); (case zk_d_size_of => k_is); (case zb_d_size_of => exact fun _ _ _ _ _ _ us hl => match us, hl with | [_], _ => rfl)
    case d_is_short_tuple =>
      refine' N.mk_def KX G ?za_d_is_short_tuple ?zl_d_is_short_tuple ?zc_d_is_short_tuple ?zk_d_is_short_tuple ?zb_d_is_short_tuple
      (case za_d_is_short_tuple => k_is); (case zl_d_is_short_tuple => k_is); (case zc_d_is_short_tuple => k_is); (case zk_d_is_short_tuple => k_is); (case zb_d_is_short_tuple => exact fun _ _ _ _ _ _ us hl => match us, hl with | [_], _ => rfl)
    case d_all_differ =>
      refine' N.mk_def KX G ?za_d_all_differ ?zl_d_all_differ ?zc_d_all_differ ?zk_d_all_differ ?zb_d_all_differ
      (case za_d_all_differ => k_is); (case zl_d_all_differ => k_is); (case zc_d_all_differ => k_is); (case zk_d_all_differ => k_is); (case zb_d_all_differ => exact fun _ _ _ _ _ _ us hl => match us, hl with | [_], _ => rfl)
    case d_is_parameter =>
      refine' N.mk_def KX G ?za_d_is_parameter ?zl_d_is_parameter ?zc_d_is_parameter ?zk_d_is_parameter ?zb_d_is_parameter
      (case za_d_is_parameter => k_is); (case zl_d_is_parameter => k_is); (case zc_d_is_parameter => k_is); (case zk_d_is_parameter => k_is); (case zb_d_is_parameter => exact fun _ _ _ _ _ _ us hl => match us, hl with | [_], _ => rfl)
    case d_are_parameters =>
      refine' N.mk_def KX G ?za_d_are_parameters ?zl_d_are_parameters ?zc_d_are_parameters ?zk_d_are_parameters ?zb_d_are_parameters
      (case za_d_are_parameters => k_is); (case zl_d_are_parameters => k_is); (case zc_d_are_parameters => k_is); (case zk_d_are_parameters => k_is); (case zb_d_are_parameters => exact fun _ _ _ _ _ _ us hl => match us, hl with | [_], _ => rfl)
    case d_is_declared =>
      refine' N.mk_def KX G ?za_d_is_declared ?zl_d_is_declared ?zc_d_is_declared ?zk_d_is_declared ?zb_d_is_declared
      (case za_d_is_declared => k_is); (case zl_d_is_declared => k_is); (case zc_d_is_declared => k_is); (case zk_d_is_declared => k_is); (case zb_d_is_declared => exact fun _ _ _ _ _ _ us hl => match us, hl with | [_], _ => rfl)
    case d_are_parents =>
      refine' N.mk_def KX G ?za_d_are_parents ?zl_d_are_parents ?zc_d_are_parents ?zk_d_are_parents ?zb_d_are_parents
      (case za_d_are_parents => k_is); (case zl_d_are_parents => k_is); (case zc_d_are_parents => k_is); (case zk_d_are_parents => k_is); (case zb_d_are_parents => exact fun _ _ _ _ _ _ us hl => match us, hl with | [_], _ => rfl)
    case d_is_member =>
      refine' N.mk_def KX G ?za_d_is_member ?zl_d_is_member ?zc_d_is_member ?zk_d_is_member ?zb_d_is_member
      (case za_d_is_member => k_is); (case zl_d_is_member => k_is); (case zc_d_is_member => k_is); (case zk_d_is_member => k_is); (case zb_d_is_member => exact fun _ _ _ _ _ _ us hl => match us, hl with | [_], _ => rfl)
    case d_are_members =>
      refine' N.mk_def KX G ?za_d_are_members ?zl_d_are_members ?zc_d_are_members ?zk_d_are_members ?zb_d_are_members
      (case za_d_are_members => k_is); (case zl_d_are_members => k_is); (case zc_d_are_members => k_is); (case zk_d_are_members => k_is); (case zb_d_are_members => exact fun _ _ _ _ _ _ us hl => match us, hl with | [_], _ => rfl)
    case d_is_class =>
      refine' N.mk_def KX G ?za_d_is_class ?zl_d_is_class ?zc_d_is_class ?zk_d_is_class ?zb_d_is_class
      (case za_d_is_class => k_is); (case zl_d_is_class => k_is); (case zc_d_is_class => k_is); (case zk_d_is_class => k_is); (case zb_d_is_class => exact fun _ _ _ _ _ _ us hl => match us, hl with | [_], _ => rfl)
    case d_names_of =>
      refine' N.mk_def KX G ?za_d_names_of ?zl_d_names_of ?zc_d_names_of ?zk_d_names_of ?zb_d_names_of
      (case za_d_names_of => k_is); (case zl_d_names_of => k_is); (case zc_d_names_of => k_is); (case zk_d_names_of => k_is); (case zb_d_names_of => exact fun _ _ _ _ _ _ us hl => match us, hl with | [_], _ => rfl)
    case d_check_forms =>
      refine' N.mk_def KX G ?za_d_check_forms ?zl_d_check_forms ?zc_d_check_forms ?zk_d_check_forms ?zb_d_check_forms
      (case za_d_check_forms => k_is); (case zl_d_check_forms => k_is); (case zc_d_check_forms => k_is); (case zk_d_check_forms => k_is); (case zb_d_check_forms => exact fun _ _ _ _ _ _ us hl => match us, hl with | [_], _ => rfl)
    case d_arities =>
      refine' N.mk_def KX G ?za_d_arities ?zl_d_arities ?zc_d_arities ?zk_d_arities ?zb_d_arities
      (case za_d_arities => k_is); (case zl_d_arities => k_is); (case zc_d_arities => k_is); (case zk_d_arities => k_is); (case zb_d_arities => exact fun _ _ _ _ _ _ us hl => match us, hl with | [_], _ => rfl)
    case d_letters_of =>
      refine' N.mk_def KX G ?za_d_letters_of ?zl_d_letters_of ?zc_d_letters_of ?zk_d_letters_of ?zb_d_letters_of
      (case za_d_letters_of => k_is); (case zl_d_letters_of => k_is); (case zc_d_letters_of => k_is); (case zk_d_letters_of => k_is); (case zb_d_letters_of => exact fun _ _ _ _ _ _ us hl => match us, hl with | [_], _ => rfl)
    case d_declared =>
      refine' N.mk_def KX G ?za_d_declared ?zl_d_declared ?zc_d_declared ?zk_d_declared ?zb_d_declared
      (case za_d_declared => k_is); (case zl_d_declared => k_is); (case zc_d_declared => k_is); (case zk_d_declared => k_is); (case zb_d_declared => exact fun _ _ _ _ _ _ us hl => match us, hl with | [_], _ => rfl)
    case d_is_of =>
      refine' N.mk_def KX G ?za_d_is_of ?zl_d_is_of ?zc_d_is_of ?zk_d_is_of ?zb_d_is_of
      (case za_d_is_of => k_is); (case zl_d_is_of => k_is); (case zc_d_is_of => k_is); (case zk_d_is_of => k_is); (case zb_d_is_of => exact fun _ _ _ _ _ _ us hl => match us, hl with | [_, _, _], _ => rfl)
    case d_check_fit =>
      refine' N.mk_def KX G ?za_d_check_fit ?zl_d_check_fit ?zc_d_check_fit ?zk_d_check_fit ?zb_d_check_fit
      (case za_d_check_fit => k_is); (case zl_d_check_fit => k_is); (case zc_d_check_fit => k_is); (case zk_d_check_fit => k_is); (case zb_d_check_fit => exact fun _ _ _ _ _ _ us hl => match us, hl with | [_], _ => rfl)
    case d_heads_of =>
      refine' N.mk_def KX G ?za_d_heads_of ?zl_d_heads_of ?zc_d_heads_of ?zk_d_heads_of ?zb_d_heads_of
      (case za_d_heads_of => k_is); (case zl_d_heads_of => k_is); (case zc_d_heads_of => k_is); (case zk_d_heads_of => k_is); (case zb_d_heads_of => exact fun _ _ _ _ _ _ us hl => match us, hl with | [_], _ => rfl)
    case d_variances_of =>
      refine' N.mk_def KX G ?za_d_variances_of ?zl_d_variances_of ?zc_d_variances_of ?zk_d_variances_of ?zb_d_variances_of
      (case za_d_variances_of => k_is); (case zl_d_variances_of => k_is); (case zc_d_variances_of => k_is); (case zk_d_variances_of => k_is); (case zb_d_variances_of => exact fun _ _ _ _ _ _ us hl => match us, hl with | [_], _ => rfl)
    case d_elders =>
      refine' N.mk_def KX G ?za_d_elders ?zl_d_elders ?zc_d_elders ?zk_d_elders ?zb_d_elders
      (case za_d_elders => k_is); (case zl_d_elders => k_is); (case zc_d_elders => k_is); (case zk_d_elders => k_is); (case zb_d_elders => exact fun _ _ _ _ _ _ us hl => match us, hl with | [_, _], _ => rfl)
    case d_check_elders =>
      refine' N.mk_def KX G ?za_d_check_elders ?zl_d_check_elders ?zc_d_check_elders ?zk_d_check_elders ?zb_d_check_elders
      (case za_d_check_elders => k_is); (case zl_d_check_elders => k_is); (case zc_d_check_elders => k_is); (case zk_d_check_elders => k_is); (case zb_d_check_elders => exact fun _ _ _ _ _ _ us hl => match us, hl with | [_], _ => rfl)
    case d_passed_on =>
      refine' N.mk_def KX G ?za_d_passed_on ?zl_d_passed_on ?zc_d_passed_on ?zk_d_passed_on ?zb_d_passed_on
      (case za_d_passed_on => k_is); (case zl_d_passed_on => k_is); (case zc_d_passed_on => k_is); (case zk_d_passed_on => k_is); (case zb_d_passed_on => exact fun _ _ _ _ _ _ us hl => match us, hl with | [_, _], _ => rfl)
    case d_is_barred =>
      refine' N.mk_def KX G ?za_d_is_barred ?zl_d_is_barred ?zc_d_is_barred ?zk_d_is_barred ?zb_d_is_barred
      (case za_d_is_barred => k_is); (case zl_d_is_barred => k_is); (case zc_d_is_barred => k_is); (case zk_d_is_barred => k_is); (case zb_d_is_barred => exact fun _ _ _ _ _ _ us hl => match us, hl with | [_, _], _ => rfl)
    case d_wrong_letters =>
      refine' N.mk_def KX G ?za_d_wrong_letters ?zl_d_wrong_letters ?zc_d_wrong_letters ?zk_d_wrong_letters ?zb_d_wrong_letters
      (case za_d_wrong_letters => k_is); (case zl_d_wrong_letters => k_is); (case zc_d_wrong_letters => k_is); (case zk_d_wrong_letters => k_is); (case zb_d_wrong_letters => exact fun _ _ _ _ _ _ us hl => match us, hl with | [_, _], _ => rfl)
    case d_signed_letters =>
      refine' N.mk_def KX G ?za_d_signed_letters ?zl_d_signed_letters ?zc_d_signed_letters ?zk_d_signed_letters ?zb_d_signed_letters
      (case za_d_signed_letters => k_is); (case zl_d_signed_letters => k_is); (case zc_d_signed_letters => k_is); (case zk_d_signed_letters => k_is); (case zb_d_signed_letters => exact fun _ _ _ _ _ _ us hl => match us, hl with | [_, _, _], _ => rfl)
    case d_check_parents =>
      refine' N.mk_def KX G ?za_d_check_parents ?zl_d_check_parents ?zc_d_check_parents ?zk_d_check_parents ?zb_d_check_parents
      (case za_d_check_parents => k_is); (case zl_d_check_parents => k_is); (case zc_d_check_parents => k_is); (case zk_d_check_parents => k_is); (case zb_d_check_parents => exact fun _ _ _ _ _ _ us hl => match us, hl with | [_], _ => rfl)
    case d_check_classes =>
      refine' N.mk_def KX G ?za_d_check_classes ?zl_d_check_classes ?zc_d_check_classes ?zk_d_check_classes ?zb_d_check_classes
      (case za_d_check_classes => k_is); (case zl_d_check_classes => k_is); (case zc_d_check_classes => k_is); (case zk_d_check_classes => k_is); (case zb_d_check_classes => exact fun _ _ _ _ _ _ us hl => match us, hl with | [_], _ => rfl)
    case d_Lcell_at =>
      refine' N.mk_def KX G ?za_d_Lcell_at ?zl_d_Lcell_at ?zc_d_Lcell_at ?zk_d_Lcell_at ?zb_d_Lcell_at
      (case za_d_Lcell_at => k_is); (case zl_d_Lcell_at => k_is); (case zc_d_Lcell_at => k_is); (case zk_d_Lcell_at => k_is); (case zb_d_Lcell_at => exact fun _ _ _ _ _ _ us hl => match us, hl with | [_, _], _ => rfl)
    case d_Link =>
      refine' N.mk_def KX G ?za_d_Link ?zl_d_Link ?zc_d_Link ?zk_d_Link ?zb_d_Link
      (case za_d_Link => k_is); (case zl_d_Link => k_is); (case zc_d_Link => k_is); (case zk_d_Link => k_is); (case zb_d_Link => exact fun _ _ _ _ _ _ us hl => match us, hl with | [_], _ => rfl)
    case d_Ldraw =>
      refine' N.mk_def KX G ?za_d_Ldraw ?zl_d_Ldraw ?zc_d_Ldraw ?zk_d_Ldraw ?zb_d_Ldraw
      (case za_d_Ldraw => k_is); (case zl_d_Ldraw => k_is); (case zc_d_Ldraw => k_is); (case zk_d_Ldraw => k_is); (case zb_d_Ldraw => exact fun _ _ _ _ _ _ us hl => match us, hl with | [_, _], _ => rfl)
    case d_Lpick =>
      refine' N.mk_def KX G ?za_d_Lpick ?zl_d_Lpick ?zc_d_Lpick ?zk_d_Lpick ?zb_d_Lpick
      (case za_d_Lpick => k_is); (case zl_d_Lpick => k_is); (case zc_d_Lpick => k_is); (case zk_d_Lpick => k_is); (case zb_d_Lpick => exact fun _ _ _ _ _ _ us hl => match us, hl with | [_, _], _ => rfl)
    case d_Lnodes =>
      refine' N.mk_def KX G ?za_d_Lnodes ?zl_d_Lnodes ?zc_d_Lnodes ?zk_d_Lnodes ?zb_d_Lnodes
      (case za_d_Lnodes => k_is); (case zl_d_Lnodes => k_is); (case zc_d_Lnodes => k_is); (case zk_d_Lnodes => k_is); (case zb_d_Lnodes => exact fun _ _ _ _ _ _ us hl => match us, hl with | [_], _ => rfl)
    case d_Ldrawn =>
      refine' N.mk_def KX G ?za_d_Ldrawn ?zl_d_Ldrawn ?zc_d_Ldrawn ?zk_d_Ldrawn ?zb_d_Ldrawn
      (case za_d_Ldrawn => k_is); (case zl_d_Ldrawn => k_is); (case zc_d_Ldrawn => k_is); (case zk_d_Ldrawn => k_is); (case zb_d_Ldrawn => exact fun _ _ _ _ _ _ us hl => match us, hl with | [_, _, _, _], _ => rfl)
    case d_Lparent =>
      refine' N.mk_def KX G ?za_d_Lparent ?zl_d_Lparent ?zc_d_Lparent ?zk_d_Lparent ?zb_d_Lparent
      (case za_d_Lparent => k_is); (case zl_d_Lparent => k_is); (case zc_d_Lparent => k_is); (case zk_d_Lparent => k_is); (case zb_d_Lparent => exact fun _ _ _ _ _ _ us hl => match us, hl with | [_, _, _, _], _ => rfl)
    case d_Lown =>
      refine' N.mk_def KX G ?za_d_Lown ?zl_d_Lown ?zc_d_Lown ?zk_d_Lown ?zb_d_Lown
      (case za_d_Lown => k_is); (case zl_d_Lown => k_is); (case zc_d_Lown => k_is); (case zk_d_Lown => k_is); (case zb_d_Lown => exact fun _ _ _ _ _ _ us hl => match us, hl with | [_], _ => rfl)
    case d_Lmarks =>
      refine' N.mk_def KX G ?za_d_Lmarks ?zl_d_Lmarks ?zc_d_Lmarks ?zk_d_Lmarks ?zb_d_Lmarks
      (case za_d_Lmarks => k_is); (case zl_d_Lmarks => k_is); (case zc_d_Lmarks => k_is); (case zk_d_Lmarks => k_is); (case zb_d_Lmarks => exact fun _ _ _ _ _ _ us hl => match us, hl with | [_, _, _], _ => rfl)
    case d_Lrow =>
      refine' N.mk_def KX G ?za_d_Lrow ?zl_d_Lrow ?zc_d_Lrow ?zk_d_Lrow ?zb_d_Lrow
      (case za_d_Lrow => k_is); (case zl_d_Lrow => k_is); (case zc_d_Lrow => k_is); (case zk_d_Lrow => k_is); (case zb_d_Lrow => exact fun _ _ _ _ _ _ us hl => match us, hl with | [_, _, _, _], _ => rfl)
    case d_Lclasses =>
      refine' N.mk_def KX G ?za_d_Lclasses ?zl_d_Lclasses ?zc_d_Lclasses ?zk_d_Lclasses ?zb_d_Lclasses
      (case za_d_Lclasses => k_is); (case zl_d_Lclasses => k_is); (case zc_d_Lclasses => k_is); (case zk_d_Lclasses => k_is); (case zb_d_Lclasses => exact fun _ _ _ _ _ _ us hl => match us, hl with | [_, _], _ => rfl)
    case d_Ltable =>
      refine' N.mk_def KX G ?za_d_Ltable ?zl_d_Ltable ?zc_d_Ltable ?zk_d_Ltable ?zb_d_Ltable
      (case za_d_Ltable => k_is); (case zl_d_Ltable => k_is); (case zc_d_Ltable => k_is); (case zk_d_Ltable => k_is); (case zb_d_Ltable => exact fun _ _ _ _ _ _ us hl => match us, hl with | [_], _ => rfl)
    case d_Lshapes =>
      refine' N.mk_def KX G ?za_d_Lshapes ?zl_d_Lshapes ?zc_d_Lshapes ?zk_d_Lshapes ?zb_d_Lshapes
      (case za_d_Lshapes => k_is); (case zl_d_Lshapes => k_is); (case zc_d_Lshapes => k_is); (case zk_d_Lshapes => k_is); (case zb_d_Lshapes => exact fun _ _ _ _ _ _ us hl => match us, hl with | [_], _ => rfl)
    case d_Lmembers =>
      refine' N.mk_def KX G ?za_d_Lmembers ?zl_d_Lmembers ?zc_d_Lmembers ?zk_d_Lmembers ?zb_d_Lmembers
      (case za_d_Lmembers => k_is); (case zl_d_Lmembers => k_is); (case zc_d_Lmembers => k_is); (case zk_d_Lmembers => k_is); (case zb_d_Lmembers => exact fun _ _ _ _ _ _ us hl => match us, hl with | [_, _, _], _ => rfl)
    case d_Lwith_members =>
      refine' N.mk_def KX G ?za_d_Lwith_members ?zl_d_Lwith_members ?zc_d_Lwith_members ?zk_d_Lwith_members ?zb_d_Lwith_members
      (case za_d_Lwith_members => k_is); (case zl_d_Lwith_members => k_is); (case zc_d_Lwith_members => k_is); (case zk_d_Lwith_members => k_is); (case zb_d_Lwith_members => exact fun _ _ _ _ _ _ us hl => match us, hl with | [_, _], _ => rfl)
    case d_Lturned =>
      refine' N.mk_def KX G ?za_d_Lturned ?zl_d_Lturned ?zc_d_Lturned ?zk_d_Lturned ?zb_d_Lturned
      (case za_d_Lturned => k_is); (case zl_d_Lturned => k_is); (case zc_d_Lturned => k_is); (case zk_d_Lturned => k_is); (case zb_d_Lturned => exact fun _ _ _ _ _ _ us hl => match us, hl with | [_], _ => rfl)
    case d_Ltold =>
      refine' N.mk_def KX G ?za_d_Ltold ?zl_d_Ltold ?zc_d_Ltold ?zk_d_Ltold ?zb_d_Ltold
      (case za_d_Ltold => k_is); (case zl_d_Ltold => k_is); (case zc_d_Ltold => k_is); (case zk_d_Ltold => k_is); (case zb_d_Ltold => exact fun _ _ _ _ _ _ us hl => match us, hl with | [_], _ => rfl)
    case d_Ldue_of =>
      refine' N.mk_def KX G ?za_d_Ldue_of ?zl_d_Ldue_of ?zc_d_Ldue_of ?zk_d_Ldue_of ?zb_d_Ldue_of
      (case za_d_Ldue_of => k_is); (case zl_d_Ldue_of => k_is); (case zc_d_Ldue_of => k_is); (case zk_d_Ldue_of => k_is); (case zb_d_Ldue_of => exact fun _ _ _ _ _ _ us hl => match us, hl with | [_], _ => rfl)
    case d_Lvaried =>
      refine' N.mk_def KX G ?za_d_Lvaried ?zl_d_Lvaried ?zc_d_Lvaried ?zk_d_Lvaried ?zb_d_Lvaried
      (case za_d_Lvaried => k_is); (case zl_d_Lvaried => k_is); (case zc_d_Lvaried => k_is); (case zk_d_Lvaried => k_is); (case zb_d_Lvaried => exact fun _ _ _ _ _ _ us hl => match us, hl with | [_, _], _ => rfl)
    case d_Lright =>
      refine' N.mk_defC KX G ?za_d_Lright ?zl_d_Lright ?zc_d_Lright ?zk_d_Lright ?zb_d_Lright
      (case za_d_Lright => k_is); (case zl_d_Lright => k_is); (case zc_d_Lright => k_is); (case zk_d_Lright => k_is); (case zb_d_Lright => exact fun _ _ _ _ _ _ us hl => match us, hl with | [_, _], _ => rfl)
    case d_law =>
      refine' N.mk_def KX G ?za_d_law ?zl_d_law ?zc_d_law ?zk_d_law ?zb_d_law
      (case za_d_law => k_is); (case zl_d_law => k_is); (case zc_d_law => k_is); (case zk_d_law => k_is); (case zb_d_law => exact fun _ _ _ _ _ _ us hl => match us, hl with | [_], _ => rfl)
    case zcd => kernel_rfl

