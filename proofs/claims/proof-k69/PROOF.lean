import PyProof.Rows.All
import Wide.All
import OpenK.AllK
import Wide.FinOn
import KE.OsRun
import KE.KNestM
import HandS.ForMost
import HandS.ForExc
import HandS.Star
import HandS.IsInst
import HandS.TupAny
import HandS.StrMore
import HandS.Style
import HandS.Flow
import HandS.Walk
import HandS.Strs
import HandS.SetFor
import HandS.DictComp
import HandS.WrittenGet
import HandS.Zip
import HandS.Property
import KE.KDictKeyed
import KE.SortData
import KE.KDictSum
import HandS.Conv
import HandS.ExcValue
import KE.KEqDict
import HandS.OwnEq
import HandS.More
import HandS.FStr
import KE.KStar
import HandS.Defaults
import HandS.Nested
import HandS.ExcInit
import HandS.ExcIs
import HandS.ExcField
import KE.KExcIs
import HandS.ExcSuper
import KE.KExcSuper
import HandS.MakeKw
import HandS.RaiseMore
import HandS.HotCalls
import HandS.HeadHook3
import HandS.EndTab
import PySem.Challenge.RW_endlesskinds_k69_signs_by_hand
set_option Elab.async false
set_option linter.all false
set_option maxRecDepth 100000
set_option maxHeartbeats 8000000
namespace N
open PySem PySem.W PySem.Calls PyProof.Rows HeadRun
/-! ### looks by whole evaluation: a state behind the top, its heap a written list; what can be a Bool is one -/
def frL {β α : Type} (l : List β) (k : List β → α) : α := match l with
  | [] => k []
  | x :: r => frL r fun r => k (x :: r)
theorem frL_eq {β α : Type} : ∀ (l : List β) (k : List β → α), frL l k = k l
  | [], _ => rfl
  | x :: r, k => frL_eq r fun r => k (x :: r)
def frO {α : Type} (o : Obj) (k : Obj → α) : α := match o with
  | ⟨c, d, dt, sl⟩ => k ⟨c, d, dt, sl⟩
theorem frO_eq {α : Type} (o : Obj) (k : Obj → α) : frO o k = k o := by cases o; rfl
/-- the objects of a tree, from address i on -/
def frObjs {α : Type} (t : BT) : Nat → Nat → (List Obj → α) → α
  | 0, _, k => k []
  | m + 1, i, k => match t.get i with
    | some o => frO o fun o => frNat (i + 1) fun j => frObjs t m j fun r => k (o :: r)
    | none => frNat (i + 1) fun j => frObjs t m j fun r => k (default :: r)
theorem frObjs_eq {α : Type} (t : BT) : ∀ (m i : Nat) (k : List Obj → α), frObjs t m i k = k ((List.range' i m).map fun i => (t.get i).getD default)
  | 0, _, _ => rfl
  | m + 1, i, k => by
    unfold frObjs
    cases h : t.get i with
    | some o =>
      show (frO o fun o => frNat (i + 1) fun j => frObjs t m j fun r => k (o :: r)) = _
      rw [frO_eq, frNat_eq, frObjs_eq t m (i + 1), List.range'_succ, List.map_cons, h]
      rfl
    | none =>
      show (frNat (i + 1) fun j => frObjs t m j fun r => k (default :: r)) = _
      rw [frNat_eq, frObjs_eq t m (i + 1), List.range'_succ, List.map_cons, h]
      rfl
def frHeap {α : Type} (s : SharedT) (k : Heap → α) : α := frObjs s.tree s.n 0 fun l => k ⟨l.toArray, s.life⟩
theorem frHeap_eq {α : Type} (s : SharedT) (k : Heap → α) : frHeap s k = k s.abs.heap := by
  unfold frHeap
  rw [frObjs_eq]
  show _ = k (absHeap s.tree s.n s.life)
  unfold absHeap BT.list
  rw [List.range_eq_range']
end N
namespace N
open PySem PySem.W PySem.Calls PyProof.Rows HeadRun
/-! texts and values compared by whole evaluation -/
noncomputable def pairB (x y : Str × Value) : Bool := match PySem.W.Fast.sEq x.1 y.1 with
  | true => decide (x.2 = y.2)
  | false => false
theorem pairB_eq {x y : Str × Value} (h : pairB x y = true) : x = y := by
  obtain ⟨a, v⟩ := x
  obtain ⟨b, u⟩ := y
  unfold pairB at h
  cases h1 : PySem.W.Fast.sEq a b with
  | false => rw [h1] at h; cases h
  | true =>
    rw [h1] at h
    rw [PySem.W.Fast.sEq_iff.mp h1, show v = u from of_decide_eq_true h]
noncomputable def pairsB : List (Str × Value) → List (Str × Value) → Bool
  | [], y => y.isEmpty
  | p :: r, y => match y with
    | [] => false
    | q :: t => match pairB p q with
      | true => pairsB r t
      | false => false
theorem pairsB_eq : ∀ {x y : List (Str × Value)}, pairsB x y = true → x = y
  | [], _, h => (List.isEmpty_iff.mp h).symm
  | _ :: _, [], h => by cases h
  | p :: r, q :: t, h => by
    have h' : (match pairB p q with | true => pairsB r t | false => false) = true := h
    cases h1 : pairB p q with
    | false => rw [h1] at h'; cases h'
    | true =>
      rw [h1] at h'
      rw [pairB_eq h1, pairsB_eq h']
noncomputable def bltB (x : Option Str × List (Str × Value)) : Bool := match x.1 with
  | some n => (match PySem.W.Fast.sEq n "__name__" with
    | true => pairsB x.2 bltViewBooted.2
    | false => false)
  | none => false
theorem bltB_eq {x : Option Str × List (Str × Value)} (h : bltB x = true) : x = bltViewBooted := by
  obtain ⟨a, b⟩ := x
  unfold bltB at h
  cases a with
  | none => cases h
  | some n =>
    have h' : (match PySem.W.Fast.sEq n "__name__" with | true => pairsB b bltViewBooted.2 | false => false) = true := h
    cases h1 : PySem.W.Fast.sEq n "__name__" with
    | false => rw [h1] at h'; cases h'
    | true =>
      rw [h1] at h'
      rw [PySem.W.Fast.sEq_iff.mp h1, pairsB_eq h']
      rfl
/-- the Bools of what is seen, ended by what is left to compare -/
abbrev SeenT := Seen × (Option Str × List (Str × Value)) × Bool × Bool × (List (Option FnShape) × Bool) × List (Option PlainShape) × List (Option (PlainShape × Bool)) × (List (Option FnShape) × Bool) × List (Option (List (Option FnShape) × Bool) × Option (PlainShape × Bool))
def ifB {α : Type} (b : Bool) (k : Option α) : Option α := match b with
  | true => k
  | false => none
theorem ifB_some {α : Type} {b : Bool} {k : Option α} {x : α} (h : ifB b k = some x) : b = true ∧ k = some x := by
  cases b
  · cases h
  · exact ⟨rfl, h⟩
noncomputable def seenB {α : Type} (x : SeenT) (k : List (Option FnShape) → Option α) : Option α := match x with
  | (S, b, c, d, pin, _, _, wd, _) => ifB (bltB b) (ifB c (ifB d (ifB pin.2 (ifB wd.2 (match S with
    | ⟨df, o, nm, g, bi, nl, gs⟩ => ifB o (ifB nm.isEmpty (ifB g (ifB bi (ifB nl (match gs with
      | 0 => k df
      | _ + 1 => none))))))))))
theorem seenB_some {α : Type} {x : SeenT} {k : List (Option FnShape) → Option α} {y : α} (h : seenB x k = some y) :
    ∃ df, k df = some y ∧ x.1 = ⟨df, true, [], true, true, true, 0⟩ ∧ x.2.1 = bltViewBooted ∧ x.2.2.1 = true ∧ x.2.2.2.1 = true ∧ x.2.2.2.2.1.2 = true ∧ x.2.2.2.2.2.2.2.1.2 = true := by
  obtain ⟨⟨df, o, nm, g, bi, nl, gs⟩, b, c, d, ⟨p1, p2⟩, e1, e2, ⟨w1, w2⟩, cl⟩ := x
  have h : ifB (bltB b) (ifB c (ifB d (ifB p2 (ifB w2 (ifB o (ifB nm.isEmpty (ifB g (ifB bi (ifB nl (match gs with
      | 0 => k df
      | _ + 1 => none)))))))))) = some y := h
  obtain ⟨h1, h⟩ := ifB_some h
  obtain ⟨h2, h⟩ := ifB_some h
  obtain ⟨h3, h⟩ := ifB_some h
  obtain ⟨h4, h⟩ := ifB_some h
  obtain ⟨h5, h⟩ := ifB_some h
  obtain ⟨h6, h⟩ := ifB_some h
  obtain ⟨h7, h⟩ := ifB_some h
  obtain ⟨h8, h⟩ := ifB_some h
  obtain ⟨h9, h⟩ := ifB_some h
  obtain ⟨h10, h⟩ := ifB_some h
  cases gs with
  | succ _ => cases h
  | zero =>
    have e7 : nm = [] := List.isEmpty_iff.mp h7
    subst e7
    subst h6; subst h8; subst h9; subst h10
    exact ⟨df, h, rfl, bltB_eq h1, h2, h3, h4, h5⟩
/-- the state behind the top by its heap as a written list -/
def shOf (s : SharedT) (h : Heap) : Shared := ⟨h, s.gens, s.drawn, s.toks, s.os⟩
/-- all looks: Bools first, then what is compared -/
noncomputable def runL (p q : Program) (loose mods : List Str) (Xt : Shared → Bool) (as ts : List Addr) (st : SharedT → Thread → Option (SharedT × Thread)) (M : Nat) (w : World) (os : OsState) : Option (List (Option FnShape) × List (Option Obj) × List (Option Obj)) :=
  match endF st M p w os with
  | some s => frHeap s fun h => ifB (looksF p (boot_heap w.params) (shOf s h)) (seenB (seenQ q loose mods Xt (shOf s h)) fun df => some (df, as.map (getT s), ts.map (getT s)))
  | none => none
end N

namespace N
open PySem PySem.W PySem.Calls PyProof.Rows HeadRun
/-! ### the looks with the text's own lists given: Bools by whole evaluation, the library's twins by their names -/
abbrev TTy := Str × Option (List Int) × Option (List Str) × Option (List (PyData × PyData))
def boolsL (R L LI CN : List Str) (VV : List (Str × Option PyData)) (TT : List TTy) (WL : List (Str × WData)) (im : Bool) (mods : List Str) (s : Shared) : Bool :=
  s.heap.keysOk L R LI CN && (s.heap.accountedOkI mods && (s.heap.isNs mainGlobals && (s.heap.isNs builtinsNs && ((TT.all fun t => (match t.2.1 with | some ns => s.heap.tupIntsOk t.1 ns | none => true) && (match t.2.2.1 with | some ss => s.heap.tupStrsOk t.1 ss | none => true) && (match t.2.2.2 with | some D => s.heap.tabIntOk t.1 D | none => true)) &&
  ((s.gens.size == 0) && ((R.all fun n => s.heap.tab0Ok n) && (s.heap.bmainOk && ((VV.all fun v => match v.2 with | some d => s.heap.constOk v.1 d | none => true) && ((!im || s.heap.noSeerOk) && WL.all (constAt s.heap))))))))))
noncomputable def keysOkQ : Heap → List Str → List Str → List Str → List Str → Bool := PySem.W.Fast.tw10880121769531294198
noncomputable def accQ : Heap → List Str → Bool := PySem.W.Fast.tw14722251495701143533
noncomputable def tupIntsQ : Heap → Str → List Int → Bool := PySem.W.Fast.tw9904233695019617717
noncomputable def tupStrsQ : Heap → Str → List Str → Bool := PySem.W.Fast.tw5263368880259041517
noncomputable def tabIntQ : Heap → Str → List (PyData × PyData) → Bool := PySem.W.Fast.tw14927025687674330080
noncomputable def tab0Q : Heap → Str → Bool := PySem.W.Fast.tw5930804224584009831
noncomputable def bmainQ : Heap → Bool := PySem.W.Fast.tw5244371056499926238
noncomputable def constQ : Heap → Str → PyData → Bool := PySem.W.Fast.tw3277482597662649166
noncomputable def noSeerQ : Heap → Bool := PySem.W.Fast.tw9649274521512697073
noncomputable def constAtQ : Heap → Str × WData → Bool := PySem.W.Fast.tw1696807537771891022
noncomputable def seenT : List Str → List OwnSpec → List Str → Shared → Seen := PySem.W.Fast.tw5160383126252970620
theorem keysOkQ_eq : @Heap.keysOk = keysOkQ := PySem.W.Fast.te10880121769531294198
theorem accQ_eq : @Heap.accountedOkI = accQ := PySem.W.Fast.te14722251495701143533
theorem tupIntsQ_eq : @Heap.tupIntsOk = tupIntsQ := PySem.W.Fast.te9904233695019617717
theorem tupStrsQ_eq : @Heap.tupStrsOk = tupStrsQ := PySem.W.Fast.te5263368880259041517
theorem tabIntQ_eq : @Heap.tabIntOk = tabIntQ := PySem.W.Fast.te14927025687674330080
theorem tab0Q_eq : @Heap.tab0Ok = tab0Q := PySem.W.Fast.te5930804224584009831
theorem bmainQ_eq : @Heap.bmainOk = bmainQ := PySem.W.Fast.te5244371056499926238
theorem constQ_eq : @Heap.constOk = constQ := PySem.W.Fast.te3277482597662649166
theorem noSeerQ_eq : @Heap.noSeerOk = noSeerQ := PySem.W.Fast.te9649274521512697073
theorem constAtQ_eq : @constAt = constAtQ := PySem.W.Fast.te1696807537771891022
theorem seenT_eq : @seen = seenT := PySem.W.Fast.te5160383126252970620
noncomputable def boolsQ (R L LI CN : List Str) (VV : List (Str × Option PyData)) (TT : List TTy) (WL : List (Str × WData)) (im : Bool) (mods : List Str) (s : Shared) : Bool :=
  keysOkQ s.heap L R LI CN && (accQ s.heap mods && (s.heap.isNs mainGlobals && (s.heap.isNs builtinsNs && ((TT.all fun t => (match t.2.1 with | some ns => tupIntsQ s.heap t.1 ns | none => true) && (match t.2.2.1 with | some ss => tupStrsQ s.heap t.1 ss | none => true) && (match t.2.2.2 with | some D => tabIntQ s.heap t.1 D | none => true)) &&
  ((s.gens.size == 0) && ((R.all fun n => tab0Q s.heap n) && (bmainQ s.heap && ((VV.all fun v => match v.2 with | some d => constQ s.heap v.1 d | none => true) && ((!im || noSeerQ s.heap) && WL.all (constAtQ s.heap))))))))))
theorem boolsQ_eq (R L LI CN : List Str) (VV : List (Str × Option PyData)) (TT : List TTy) (WL : List (Str × WData)) (im : Bool) (mods : List Str) (s : Shared) : boolsL R L LI CN VV TT WL im mods s = boolsQ R L LI CN VV TT WL im mods s := by
  unfold boolsL boolsQ
  rw [keysOkQ_eq, accQ_eq, tupIntsQ_eq, tupStrsQ_eq, tabIntQ_eq, tab0Q_eq, bmainQ_eq, constQ_eq, noSeerQ_eq, constAtQ_eq]
/-- what is left to compare behind the Bools of seen -/
def seenK {α : Type} (S : Seen) (k : List (Option FnShape) → Option α) : Option α := match S with
  | ⟨df, o, nm, g, bi, nl, gs⟩ => ifB o (ifB nm.isEmpty (ifB g (ifB bi (ifB nl (match gs with
      | 0 => k df
      | _ + 1 => none)))))
theorem seenK_some {α : Type} {S : Seen} {k : List (Option FnShape) → Option α} {y : α} (h : seenK S k = some y) : ∃ df, k df = some y ∧ S = ⟨df, true, [], true, true, true, 0⟩ := by
  obtain ⟨df, o, nm, g, bi, nl, gs⟩ := S
  have h : ifB o (ifB nm.isEmpty (ifB g (ifB bi (ifB nl (match gs with
      | 0 => k df
      | _ + 1 => none))))) = some y := h
  obtain ⟨h6, h⟩ := ifB_some h
  obtain ⟨h7, h⟩ := ifB_some h
  obtain ⟨h8, h⟩ := ifB_some h
  obtain ⟨h9, h⟩ := ifB_some h
  obtain ⟨h10, h⟩ := ifB_some h
  cases gs with
  | succ _ => cases h
  | zero =>
    have e7 : nm = [] := List.isEmpty_iff.mp h7
    subst e7
    subst h6; subst h8; subst h9; subst h10
    exact ⟨df, h, rfl⟩
noncomputable def headA (p : Program) (R L LI CN : List Str) (VV : List (Str × Option PyData)) (TT : List TTy) (WL : List (Str × WData)) (im : Bool) (mods : List Str) (st : SharedT → Thread → Option (SharedT × Thread)) (M : Nat) (w : World) (os : OsState) : Option Unit :=
  match endF st M p w os with
  | some s => frHeap s fun h => ifB (boolsQ R L LI CN VV TT WL im mods (shOf s h)) (some ())
  | none => none
noncomputable def headB (p : Program) (R : List Str) (O : List OwnSpec) (as ts : List Addr) (st : SharedT → Thread → Option (SharedT × Thread)) (M : Nat) (w : World) (os : OsState) : Option (List (Option FnShape) × List (Option Obj) × List (Option Obj)) :=
  match endF st M p w os with
  | some s => frHeap s fun h => ifB (looksF p (boot_heap w.params) (shOf s h)) (ifB (bltB h.bltView) (seenK (seenT R O [] (shOf s h)) fun df => some (df, as.map (getT s), ts.map (getT s))))
  | none => none
/-- the text's own lists -/
structure Lists (q : Program) (loose : List Str) (D : List DefRec) (R : List Str) (O : List OwnSpec) (L LI CN : List Str) (VV : List (Str × Option PyData)) (TT : List TTy) (WL : List (Str × WData)) (im : Bool) : Prop where
  recs : recsOf q = D
  names : D.map (·.name) = R
  owns : ownsOf q = O
  lse : looseW q loose = L
  lits : (litsOf q).map (·.1) = LI
  clss : (clssOf q L).map (·.name) = CN
  vals : ((valNames q).map fun x => (x, valOf q x)) = VV
  tabs : ((valNames q).map fun x => (x, tupIntsOf q x, tupStrsOf q x, tabIntOf q x)) = TT
  wlits : wlitsOf q = WL
  imps : importsNone q = im
  drecs : drecsOf q = []
  plains : plainsOf q L = []
  dclss : dclssOf q loose = []
  wdefs : wdefsOf q = []
  wclss : wclssOf q loose = []
theorem seen_of_bools {q : Program} {loose : List Str} {Xt : Shared → Bool} {D : List DefRec} {R : List Str} {O : List OwnSpec} {L LI CN : List Str} {VV : List (Str × Option PyData)} {TT : List TTy} {WL : List (Str × WData)} {im : Bool} {mods : List Str}
    (X : Lists q loose D R O L LI CN VV TT WL im) (hX : ∀ s, Xt s = true) {s : Shared} {df : List (Option FnShape)}
    (hb : s.heap.bltView = bltViewBooted) (hB : boolsL R L LI CN VV TT WL im mods s = true) (hs : seen R O [] s = ⟨df, true, [], true, true, true, 0⟩) (hd : df = D.map fun d => some d.shape) :
    openSeen q loose mods Xt true s = openGood q loose := by
  obtain ⟨x1, x2, x3, x4, x5, x6, x7, x8, x9, x10, x11, x12, x13, x14, x15⟩ := X
  unfold boolsL at hB
  simp only [Bool.and_eq_true] at hB
  obtain ⟨b1, b2, b3, b4, b5, b6, b7, b8, b9, b10, b11⟩ := hB
  have t1 : tablesOk q s.heap = true := by
    unfold tablesOk
    rw [← x8, List.all_map] at b5
    exact b5
  have t2 : tabsOk q s = true := by
    unfold tabsOk valsOk
    rw [← x7, List.all_map] at b9
    rw [← x2, List.all_map] at b7
    simp only [Bool.and_eq_true]
    exact ⟨⟨⟨by rw [x1]; exact b7, b8⟩, b9⟩, by rw [x10]; exact b10⟩
  have g0 : s.gens.size = 0 := beq_iff_eq.mp b6
  have e1 : seen ((recsOf q).map (·.name)) (ownsOf q) [] { s with gens := #[] } = expectedOf q := by
    have q1 : ({ s with gens := #[] } : Shared) = s := by
      obtain ⟨h, g, d, t, o⟩ := s
      have : g = #[] := Array.eq_empty_of_size_eq_zero g0
      rw [this]
    rw [q1, x1, x2, x3, hs, hd]
    unfold expectedOf
    rw [x1]
  unfold openSeen openGood
  rw [e1, hb, x4, x5, x6, x1, x2, b1, b2, b3, b4, t1, hX, t2, x11]
  have e5 : pinSeenD q [] s = pinGoodD [] := rfl
  have e6 : plainSeenE q L s = plainGoodE q L := by unfold plainSeenE plainGoodE; rw [x12]; rfl
  have e7 : plainSeenD q loose s = plainGoodD q loose := by unfold plainSeenD plainGoodD; rw [x13]; rfl
  have e8 : wideSeen q s = wideGood q := by
    unfold wideSeen wideGood
    rw [x14, x9, b11]
    rfl
  have e9 : clsSeenW q loose s = clsGoodW q loose := by unfold clsSeenW clsGoodW; rw [x15]; rfl
  rw [e5, e6, e7, e8, e9]
  simp only [if_true, g0, Bool.and_self, beq_self_eq_true]
theorem left_small {p q : Program} {loose : List Str} {Xt : Shared → Bool} {K : Params → Frag} {as : List Addr} {ek : ∀ P, as = (K P).map (·.1)} {ts : List Addr} {n M : Nat} {D : List DefRec} {R : List Str} {O : List OwnSpec} {L LI CN : List Str} {VV : List (Str × Option PyData)} {TT : List TTy} {WL : List (Str × WData)} {im : Bool} {mods : List Str}
    (e : opening p = plainProg p.main.scope.names) (hn : Nat.ble 600 n = true) (f : ∀ s, fenceModules? p s = some s) (le : Nat.ble M n = true)
    (X : Lists q loose D R O L LI CN VV TT WL im) (hX : ∀ s, Xt s = true) (hm : importedModules p.main.body = mods)
    (ra : ∀ (w : World) (os : OsState), headA p R L LI CN VV TT WL im mods (stepQ (denQ tabQ) p w) M w os = some ())
    (rb : ∀ (w : World) (os : OsState), headB p R O as ts (stepQ (denQ tabQ) p w) M w os = some (D.map (fun d => some d.shape), (K w.params).map (fun x => some x.2), ts.map fun _ => some (tabObj #[]))) :
    LeftO p q loose Xt (Hook.obs (kmHook K as ek ts)) (Hook.val (kmHook K as ek ts)) n true :=
  left_one (M := M) e hn f le fun w os => by
    have y := ra w os
    have z := rb w os
    unfold headA at y
    unfold headB at z
    rw [endQ_eq]
    cases hs : endF (stepQ (denQ tabQ) p w) M p w os with
    | none => rw [hs] at z; cases z
    | some s =>
      rw [hs] at z y
      have z : (frHeap s fun h => ifB (looksF p (boot_heap w.params) (shOf s h)) (ifB (bltB h.bltView) (seenK (seenT R O [] (shOf s h)) fun df => some (df, as.map (getT s), ts.map (getT s))))) = some (D.map (fun d => some d.shape), (K w.params).map (fun x => some x.2), ts.map fun _ => some (tabObj #[])) := z
      have y : (frHeap s fun h => ifB (boolsQ R L LI CN VV TT WL im mods (shOf s h)) (some ())) = some () := y
      rw [frHeap_eq] at z y
      have ea : shOf s s.abs.heap = s.abs := rfl
      rw [ea] at z y
      obtain ⟨z3, _⟩ := ifB_some y
      obtain ⟨z1, z⟩ := ifB_some z
      obtain ⟨z2, z⟩ := ifB_some z
      obtain ⟨df, z, z4⟩ := seenK_some z
      have z := Option.some.inj z
      obtain ⟨y1, y⟩ := Prod.mk.inj z
      obtain ⟨y2, y3⟩ := Prod.mk.inj y
      have es : openSeen q loose (importedModules p.main.body) Xt true s.abs = openGood q loose := by
        rw [hm]
        rw [← boolsQ_eq] at z3
        rw [← seenT_eq] at z4
        exact seen_of_bools (q := q) X hX (bltB_eq z2) z3 z4 y1
      have eo : Hook.obs (kmHook K as ek ts) s.abs = Hook.val (kmHook K as ek ts) w := by
        have q1 : (as.map (getT s), ts.map (getT s)) = Hook.obs (kmHook K as ek ts) s.abs := Prod.ext (List.map_congr_left fun a _ => getT_eq s a) (List.map_congr_left fun a _ => getT_eq s a)
        rw [← q1, y2, y3]
        rfl
      show some (looksF p (boot_heap w.params) s.abs, openSeen q loose (importedModules p.main.body) Xt true s.abs, Hook.obs (kmHook K as ek ts) s.abs) = _
      rw [z1, es, eo]
/-- one row asked of the world: a run for each answer -/
theorem run_rows (row : String) {P : World → OsState → Prop} (rf : ∀ (w : World) (os : OsState), P (w.withFollow row false) os) (rt : ∀ (w : World) (os : OsState), P (w.withFollow row true) os) (w : World) (os : OsState) : P w os :=
  byRow2 row (P := fun w => ∀ os : OsState, P w os) rf rt w os
theorem xt_true {q : Program} {R : WRecords} (h1 : Flt.mathMods q = []) (h2 : Flt.mathDrawn q = []) (h3 : Flt.patsOf q = []) (h4 : R = []) (s : Shared) : (xlAt q [] s && recOk R s) = true := by
  subst h4
  unfold xlAt Flt.mathXt
  rw [h1, h2, h3]
  rfl
noncomputable def recsQ : Program → List DefRec := PySem.W.Fast.tw3399658132070893891
theorem recsQ_eq : @recsOf = recsQ := PySem.W.Fast.te3399658132070893891
noncomputable def ownsQ : Program → List OwnSpec := PySem.W.Fast.tw5991557255702980513
theorem ownsQ_eq : @ownsOf = ownsQ := PySem.W.Fast.te5991557255702980513
noncomputable def looseQ : Program → List Str → List Str := PySem.W.Fast.tw821141287760084731
theorem looseQ_eq : @looseW = looseQ := PySem.W.Fast.te821141287760084731
noncomputable def litsQ : Program → List (Str × PyData) := PySem.W.Fast.tw7409074990110511671
theorem litsQ_eq : @litsOf = litsQ := PySem.W.Fast.te7409074990110511671
noncomputable def clssQ : Program → List Str → List ClsRec := PySem.W.Fast.tw13664370479719496447
theorem clssQ_eq : @clssOf = clssQ := PySem.W.Fast.te13664370479719496447
noncomputable def valQ : Program → Str → Option PyData := PySem.W.Fast.tw1987589406359920131
theorem valQ_eq : @valOf = valQ := PySem.W.Fast.te1987589406359920131
noncomputable def tupIntsOfQ : Program → Str → Option (List Int) := PySem.W.Fast.tw15722548840688424386
theorem tupIntsOfQ_eq : @tupIntsOf = tupIntsOfQ := PySem.W.Fast.te15722548840688424386
noncomputable def tupStrsOfQ : Program → Str → Option (List Str) := PySem.W.Fast.tw14491516231548247274
theorem tupStrsOfQ_eq : @tupStrsOf = tupStrsOfQ := PySem.W.Fast.te14491516231548247274
noncomputable def tabIntOfQ : Program → Str → Option (List (PyData × PyData)) := PySem.W.Fast.tw10077548348588599076
theorem tabIntOfQ_eq : @tabIntOf = tabIntOfQ := PySem.W.Fast.te10077548348588599076
noncomputable def wlitsQ : Program → List (Str × WData) := PySem.W.Fast.tw11925523677476243305
theorem wlitsQ_eq : @wlitsOf = wlitsQ := PySem.W.Fast.te11925523677476243305
noncomputable def importsNoneQ : Program → Bool := PySem.W.Fast.tw2458874890965802552
theorem importsNoneQ_eq : @importsNone = importsNoneQ := PySem.W.Fast.te2458874890965802552
noncomputable def drecsQ : Program → List (DefRec × List PyData) := PySem.W.Fast.tw3247288618530077131
theorem drecsQ_eq : @drecsOf = drecsQ := PySem.W.Fast.te3247288618530077131
noncomputable def plainsQ : Program → List Str → List ClsRec := PySem.W.Fast.tw210736558901404530
theorem plainsQ_eq : @plainsOf = plainsQ := PySem.W.Fast.te210736558901404530
noncomputable def dclssQ : Program → List Str → List ClsRec := PySem.W.Fast.tw4354255287344443571
theorem dclssQ_eq : @dclssOf = dclssQ := PySem.W.Fast.te4354255287344443571
noncomputable def wdefsQ : Program → List (DefRec × List (Str × PySem.Expr)) := PySem.W.Fast.tw694669760492028198
theorem wdefsQ_eq : @wdefsOf = wdefsQ := PySem.W.Fast.te694669760492028198
noncomputable def wclssQ : Program → List Str → List ClsRec := PySem.W.Fast.tw1571739515156823405
theorem wclssQ_eq : @wclssOf = wclssQ := PySem.W.Fast.te1571739515156823405
theorem lists_of {q : Program} {loose : List Str} {D : List DefRec} {R : List Str} {O : List OwnSpec} {L LI CN : List Str} {VV : List (Str × Option PyData)} {TT : List TTy} {WL : List (Str × WData)} {im : Bool}
    (h1 : recsQ q = D) (h2 : D.map (·.name) = R) (h3 : ownsQ q = O) (h4 : looseQ q loose = L) (h5 : (litsQ q).map (·.1) = LI) (h6 : (clssQ q L).map (·.name) = CN) (h7 : ((valNames q).map fun x => (x, valQ q x)) = VV)
    (h8 : ((valNames q).map fun x => (x, tupIntsOfQ q x, tupStrsOfQ q x, tabIntOfQ q x)) = TT) (h9 : wlitsQ q = WL) (h10 : importsNoneQ q = im) (h11 : drecsQ q = []) (h12 : plainsQ q L = []) (h13 : dclssQ q loose = []) (h14 : wdefsQ q = []) (h15 : wclssQ q loose = []) :
    Lists q loose D R O L LI CN VV TT WL im := by
  rw [← recsQ_eq] at h1
  rw [← ownsQ_eq] at h3
  rw [← looseQ_eq] at h4
  rw [← litsQ_eq] at h5
  rw [← clssQ_eq] at h6
  rw [← valQ_eq] at h7
  rw [← tupIntsOfQ_eq, ← tupStrsOfQ_eq, ← tabIntOfQ_eq] at h8
  rw [← wlitsQ_eq] at h9
  rw [← importsNoneQ_eq] at h10
  rw [← drecsQ_eq] at h11
  rw [← plainsQ_eq] at h12
  rw [← dclssQ_eq] at h13
  rw [← wdefsQ_eq] at h14
  rw [← wclssQ_eq] at h15
  exact ⟨h1, h2, h3, h4, h5, h6, h7, h8, h9, h10, h11, h12, h13, h14, h15⟩
/-- the def that stands at a place of the top -/
def topD (p : Program) (place : Nat) : DefRec :=
  match p.main.body[place]? with
  | some (Stmt.FunctionDef nm ar bd _ _ _ sco _ _ ps) => DefRec.mk nm ar bd sco ps
  | _ => DefRec.mk "" ⟨[], [], none, [], [], none, []⟩ [] ⟨.function, [], false, false, []⟩ default
end N

set_option maxHeartbeats 0
namespace N
open PySem PySem.W PySem.Calls PyProof.Rows HeadRun
/-! the text's own lists for the head -/
noncomputable def hQ : Program := PySem.W.view PySem.Challenge.pw_endlesskinds_k69_signs_by_hand [1, 2, 3, 4, 5, 6, 7, 8, 9, 10, 11, 13, 14, 15, 16, 17, 18, 19, 20, 21, 22, 23, 24, 25, 26, 28, 29, 30, 31, 32, 33, 34, 35, 36, 37, 38, 40, 41, 42, 43, 44, 45, 46, 47, 48, 49, 50, 51, 52, 53, 54, 55, 56, 57, 58, 59, 60, 61, 62, 63, 64, 65, 67, 68, 69, 70, 71, 72, 73, 74, 75, 77, 79, 81, 82, 83, 84, 85, 87, 88, 89, 90, 91, 92, 93, 94, 95, 96, 97]
def hLo : List Str := [⟨#[84, 85, 82, 78, 69, 68]⟩, ⟨#[83, 73, 71, 78, 95, 79, 70]⟩, ⟨#[66, 65, 82, 82, 69, 68]⟩, ⟨#[84, 97, 98, 108, 101]⟩, ⟨#[83, 84, 65, 78, 68, 83, 95, 70, 79, 82]⟩]
noncomputable def hD : List DefRec := ([15, 16, 17, 18, 19, 20, 21, 22, 23, 24, 25, 26, 34, 35, 36, 37, 38, 44, 45, 46, 47, 48, 49, 50, 51, 52, 53, 54, 55, 56, 57, 58, 59, 60, 61, 62, 63, 64, 65, 67, 68, 69, 70, 71, 72, 73, 74, 75, 79, 82, 83, 84, 85, 87, 88, 89, 90, 91, 92, 93, 94, 95, 96, 97] : List Nat).map (topD PySem.Challenge.pw_endlesskinds_k69_signs_by_hand)
def hR : List Str := [⟨#[105, 115, 95, 108, 101, 116, 116, 101, 114]⟩, ⟨#[105, 115, 95, 110, 97, 109, 101]⟩, ⟨#[98, 101, 103, 105, 110, 115, 95, 99, 108, 97, 115, 115, 95, 116, 121, 112, 101]⟩, ⟨#[105, 115, 95, 116, 121, 112, 101]⟩, ⟨#[112, 97, 114, 116, 115]⟩, ⟨#[99, 108, 97, 115, 115, 95, 116, 121, 112, 101, 115]⟩, ⟨#[115, 105, 122, 101, 95, 111, 102]⟩, ⟨#[119, 114, 105, 116, 116, 101, 110]⟩, ⟨#[116, 101, 120, 116, 95, 111, 102]⟩, ⟨#[119, 111, 114, 100, 95, 97, 116]⟩, ⟨#[115, 99, 97, 110]⟩, ⟨#[114, 101, 97, 100]⟩, ⟨#[112, 97, 115, 115, 101, 100, 95, 111, 110]⟩, ⟨#[115, 105, 103, 110, 101, 100, 95, 108, 101, 116, 116, 101, 114, 115]⟩, ⟨#[115, 105, 103, 110, 101, 100, 95, 112, 108, 97, 99, 101, 115]⟩, ⟨#[105, 115, 95, 98, 97, 114, 114, 101, 100]⟩, ⟨#[119, 114, 111, 110, 103, 95, 108, 101, 116, 116, 101, 114, 115]⟩, ⟨#[105, 115, 95, 115, 104, 111, 114, 116, 95, 116, 117, 112, 108, 101]⟩, ⟨#[97, 108, 108, 95, 100, 105, 102, 102, 101, 114]⟩, ⟨#[105, 115, 95, 100, 101, 99, 108, 97, 114, 101, 100]⟩, ⟨#[105, 115, 95, 112, 97, 114, 97, 109, 101, 116, 101, 114]⟩, ⟨#[97, 114, 101, 95, 112, 97, 114, 97, 109, 101, 116, 101, 114, 115]⟩, ⟨#[97, 114, 101, 95, 112, 97, 114, 101, 110, 116, 115]⟩, ⟨#[105, 115, 95, 109, 101, 109, 98, 101, 114]⟩, ⟨#[97, 114, 101, 95, 109, 101, 109, 98, 101, 114, 115]⟩, ⟨#[105, 115, 95, 99, 108, 97, 115, 115]⟩, ⟨#[110, 97, 109, 101, 115, 95, 111, 102]⟩, ⟨#[108, 101, 116, 116, 101, 114, 115, 95, 111, 102]⟩, ⟨#[100, 101, 99, 108, 97, 114, 101, 100]⟩, ⟨#[97, 114, 105, 116, 105, 101, 115]⟩, ⟨#[118, 97, 114, 105, 97, 110, 99, 101, 115, 95, 111, 102]⟩, ⟨#[105, 115, 95, 111, 102]⟩, ⟨#[99, 104, 101, 99, 107, 95, 102, 111, 114, 109, 115]⟩, ⟨#[99, 104, 101, 99, 107, 95, 102, 105, 116]⟩, ⟨#[104, 101, 97, 100, 115, 95, 111, 102]⟩, ⟨#[101, 108, 100, 101, 114, 115]⟩, ⟨#[99, 104, 101, 99, 107, 95, 101, 108, 100, 101, 114, 115]⟩, ⟨#[99, 104, 101, 99, 107, 95, 112, 97, 114, 101, 110, 116, 115]⟩, ⟨#[99, 104, 101, 99, 107, 95, 99, 108, 97, 115, 115, 101, 115]⟩, ⟨#[112, 97, 114, 97, 109, 101, 116, 101, 114, 115, 95, 116, 101, 120, 116]⟩, ⟨#[112, 97, 114, 101, 110, 116, 115, 95, 116, 101, 120, 116]⟩, ⟨#[99, 108, 97, 115, 115, 95, 116, 101, 120, 116]⟩, ⟨#[99, 108, 97, 115, 115, 101, 115, 95, 116, 101, 120, 116]⟩, ⟨#[114, 101, 97, 100, 95, 112, 97, 114, 97, 109, 101, 116, 101, 114, 115]⟩, ⟨#[114, 101, 97, 100, 95, 112, 97, 114, 101, 110, 116, 115]⟩, ⟨#[114, 101, 97, 100, 95, 104, 101, 97, 100]⟩, ⟨#[119, 105, 116, 104, 95, 109, 101, 109, 98, 101, 114]⟩, ⟨#[114, 101, 97, 100, 95, 99, 108, 97, 115, 115, 101, 115]⟩, ⟨#[99, 104, 101, 99, 107, 95, 116, 97, 98, 108, 101]⟩, ⟨#[102, 97, 117, 108, 116, 115]⟩, ⟨#[106, 111, 105, 110, 101, 100]⟩, ⟨#[115, 105, 103, 110, 115, 95, 117, 110, 100, 101, 114]⟩, ⟨#[115, 105, 103, 110, 115]⟩, ⟨#[95, 108, 97, 119, 95, 99, 101, 108, 108, 95, 97, 116]⟩, ⟨#[95, 108, 97, 119, 95, 105, 110, 107]⟩, ⟨#[95, 108, 97, 119, 95, 100, 114, 97, 119]⟩, ⟨#[95, 108, 97, 119, 95, 116, 97, 98, 108, 101]⟩, ⟨#[95, 108, 97, 119, 95, 115, 97, 105, 100]⟩, ⟨#[95, 108, 97, 119, 95, 119, 114, 97, 112, 112, 101, 100]⟩, ⟨#[95, 108, 97, 119, 95, 116, 111, 108, 100]⟩, ⟨#[95, 108, 97, 119, 95, 111, 110, 101, 95, 114, 105, 103, 104, 116]⟩, ⟨#[95, 108, 97, 119, 95, 116, 119, 111, 95, 114, 105, 103, 104, 116]⟩, ⟨#[95, 108, 97, 119, 95, 112, 97, 114, 101, 110, 116, 115, 95, 114, 105, 103, 104, 116]⟩, ⟨#[108, 97, 119]⟩]
def hO : List OwnSpec := [⟨⟨#[75, 105, 110, 100, 69, 114, 114, 111, 114]⟩, [], [.type "ValueError", .type "Exception", .type "BaseException", .type "object"], "ValueError.__new__"⟩, ⟨⟨#[78, 111, 84, 121, 112, 101]⟩, [⟨#[75, 105, 110, 100, 69, 114, 114, 111, 114]⟩], [.type "ValueError", .type "Exception", .type "BaseException", .type "object"], "ValueError.__new__"⟩, ⟨⟨#[78, 111, 84, 101, 120, 116]⟩, [⟨#[75, 105, 110, 100, 69, 114, 114, 111, 114]⟩], [.type "ValueError", .type "Exception", .type "BaseException", .type "object"], "ValueError.__new__"⟩, ⟨⟨#[78, 111, 67, 108, 97, 115, 115]⟩, [⟨#[75, 105, 110, 100, 69, 114, 114, 111, 114]⟩], [.type "ValueError", .type "Exception", .type "BaseException", .type "object"], "ValueError.__new__"⟩, ⟨⟨#[78, 111, 84, 97, 98, 108, 101]⟩, [⟨#[75, 105, 110, 100, 69, 114, 114, 111, 114]⟩], [.type "ValueError", .type "Exception", .type "BaseException", .type "object"], "ValueError.__new__"⟩, ⟨⟨#[78, 111, 78, 97, 109, 101]⟩, [⟨#[75, 105, 110, 100, 69, 114, 114, 111, 114]⟩], [.type "ValueError", .type "Exception", .type "BaseException", .type "object"], "ValueError.__new__"⟩, ⟨⟨#[84, 111, 111, 77, 97, 110, 121]⟩, [⟨#[75, 105, 110, 100, 69, 114, 114, 111, 114]⟩], [.type "ValueError", .type "Exception", .type "BaseException", .type "object"], "ValueError.__new__"⟩]
def hL : List Str := [⟨#[84, 85, 82, 78, 69, 68]⟩, ⟨#[83, 73, 71, 78, 95, 79, 70]⟩, ⟨#[66, 65, 82, 82, 69, 68]⟩, ⟨#[84, 97, 98, 108, 101]⟩, ⟨#[83, 84, 65, 78, 68, 83, 95, 70, 79, 82]⟩, ⟨#[86, 65, 82, 73, 65, 78, 67, 69, 83]⟩, ⟨#[87, 65, 89, 83]⟩]
def hLI : List Str := [⟨#[76, 79, 78, 71, 69, 83, 84, 95, 78, 65, 77, 69]⟩, ⟨#[77, 79, 83, 84, 95, 65, 82, 71, 85, 77, 69, 78, 84, 83]⟩, ⟨#[80, 76, 85, 83]⟩, ⟨#[66, 79, 84, 72]⟩, ⟨#[77, 79, 83, 84, 95, 67, 76, 65, 83, 83, 69, 83]⟩, ⟨#[77, 79, 83, 84, 95, 73, 78, 95, 67, 76, 65, 83, 83]⟩, ⟨#[77, 79, 83, 84, 95, 83, 73, 90, 69]⟩]
def hCN : List Str := [⟨#[75, 105, 110, 100, 69, 114, 114, 111, 114]⟩, ⟨#[78, 111, 84, 121, 112, 101]⟩, ⟨#[78, 111, 84, 101, 120, 116]⟩, ⟨#[78, 111, 67, 108, 97, 115, 115]⟩, ⟨#[78, 111, 84, 97, 98, 108, 101]⟩, ⟨#[78, 111, 78, 97, 109, 101]⟩, ⟨#[84, 111, 111, 77, 97, 110, 121]⟩, ⟨#[85, 110, 102, 105, 116]⟩, ⟨#[76, 111, 111, 112, 101, 100]⟩, ⟨#[84, 117, 114, 110, 101, 100]⟩, ⟨#[69, 110, 100, 108, 101, 115, 115]⟩]
def hVV : List (Str × Option PyData) := [(⟨#[76, 79, 78, 71, 69, 83, 84, 95, 78, 65, 77, 69]⟩, some (.int (8))), (⟨#[77, 79, 83, 84, 95, 65, 82, 71, 85, 77, 69, 78, 84, 83]⟩, some (.int (2))), (⟨#[86, 65, 82, 73, 65, 78, 67, 69, 83]⟩, none), (⟨#[80, 76, 85, 83]⟩, some (.str ⟨#[43]⟩)), (⟨#[66, 79, 84, 72]⟩, some (.str ⟨#[43, 45]⟩)), (⟨#[84, 85, 82, 78, 69, 68]⟩, none), (⟨#[83, 73, 71, 78, 95, 79, 70]⟩, none), (⟨#[66, 65, 82, 82, 69, 68]⟩, none), (⟨#[77, 79, 83, 84, 95, 67, 76, 65, 83, 83, 69, 83]⟩, some (.int (5))), (⟨#[77, 79, 83, 84, 95, 73, 78, 95, 67, 76, 65, 83, 83]⟩, some (.int (2))), (⟨#[77, 79, 83, 84, 95, 83, 73, 90, 69]⟩, some (.int (6))), (⟨#[87, 65, 89, 83]⟩, none), (⟨#[83, 84, 65, 78, 68, 83, 95, 70, 79, 82]⟩, none)]
def hTT : List TTy := [(⟨#[76, 79, 78, 71, 69, 83, 84, 95, 78, 65, 77, 69]⟩, none, none, none), (⟨#[77, 79, 83, 84, 95, 65, 82, 71, 85, 77, 69, 78, 84, 83]⟩, none, none, none), (⟨#[86, 65, 82, 73, 65, 78, 67, 69, 83]⟩, none, some ([⟨#[111, 117, 116]⟩, ⟨#[105, 110]⟩, ⟨#[115, 97, 109, 101]⟩]), none), (⟨#[80, 76, 85, 83]⟩, none, none, none), (⟨#[66, 79, 84, 72]⟩, none, none, none), (⟨#[84, 85, 82, 78, 69, 68]⟩, none, none, none), (⟨#[83, 73, 71, 78, 95, 79, 70]⟩, none, none, none), (⟨#[66, 65, 82, 82, 69, 68]⟩, none, none, none), (⟨#[77, 79, 83, 84, 95, 67, 76, 65, 83, 83, 69, 83]⟩, none, none, none), (⟨#[77, 79, 83, 84, 95, 73, 78, 95, 67, 76, 65, 83, 83]⟩, none, none, none), (⟨#[77, 79, 83, 84, 95, 83, 73, 90, 69]⟩, none, none, none), (⟨#[87, 65, 89, 83]⟩, none, some ([⟨#[114, 101, 97, 100, 115]⟩, ⟨#[116, 97, 107, 101, 115]⟩, ⟨#[104, 111, 108, 100, 115]⟩]), none), (⟨#[83, 84, 65, 78, 68, 83, 95, 70, 79, 82]⟩, none, none, none)]
def hWL : List (Str × WData) := [(⟨#[86, 65, 82, 73, 65, 78, 67, 69, 83]⟩, .tuple [.str ⟨#[111, 117, 116]⟩, .str ⟨#[105, 110]⟩, .str ⟨#[115, 97, 109, 101]⟩]), (⟨#[87, 65, 89, 83]⟩, .tuple [.str ⟨#[114, 101, 97, 100, 115]⟩, .str ⟨#[116, 97, 107, 101, 115]⟩, .str ⟨#[104, 111, 108, 100, 115]⟩])]
def hM : List Str := []
theorem hs_h1 : recsQ hQ = hD := by kernel_rfl
theorem hs_h2 : hD.map (·.name) = hR := by kernel_rfl
theorem hs_h3 : ownsQ hQ = hO := by kernel_rfl
theorem hs_h4 : looseQ hQ hLo = hL := by kernel_rfl
theorem hs_h5 : (litsQ hQ).map (·.1) = hLI := by kernel_rfl
theorem hs_h6 : (clssQ hQ hL).map (·.name) = hCN := by kernel_rfl
theorem hs_h7 : ((valNames hQ).map fun x => (x, valQ hQ x)) = hVV := by kernel_rfl
theorem hs_h8 : ((valNames hQ).map fun x => (x, tupIntsOfQ hQ x, tupStrsOfQ hQ x, tabIntOfQ hQ x)) = hTT := by kernel_rfl
theorem hs_h9 : wlitsQ hQ = hWL := by kernel_rfl
theorem hs_h10 : importsNoneQ hQ = true := by kernel_rfl
theorem hs_h11 : drecsQ hQ = [] := by kernel_rfl
theorem hs_h12 : plainsQ hQ hL = [] := by kernel_rfl
theorem hs_h13 : dclssQ hQ hLo = [] := by kernel_rfl
theorem hs_h14 : wdefsQ hQ = [] := by kernel_rfl
theorem hs_h15 : wclssQ hQ hLo = [] := by kernel_rfl
theorem hs_hm : importedModules PySem.Challenge.pw_endlesskinds_k69_signs_by_hand.main.body = hM := by kernel_rfl
theorem hs_x1 : Flt.mathMods hQ = [] := by kernel_rfl
theorem hs_x2 : Flt.mathDrawn hQ = [] := by kernel_rfl
theorem hs_x3 : Flt.patsOf hQ = [] := by kernel_rfl
theorem hs : Lists hQ hLo hD hR hO hL hLI hCN hVV hTT hWL true := lists_of hs_h1 hs_h2 hs_h3 hs_h4 hs_h5 hs_h6 hs_h7 hs_h8 hs_h9 hs_h10 hs_h11 hs_h12 hs_h13 hs_h14 hs_h15
theorem hs_xt : ∀ s : Shared, (xlAt hQ [] s && recOk (RowW.records PySem.Challenge.rw_endlesskinds_k69_signs_by_hand.row.toRowW) s) = true := fun s => xt_true (R := RowW.records PySem.Challenge.rw_endlesskinds_k69_signs_by_hand.row.toRowW) hs_x1 hs_x2 hs_x3 (by kernel_rfl) s
end N

set_option maxHeartbeats 0
section
open PySem PySem.W PyProof.Rows
local macro_rules
  | `(tactic| o_head $H:term) => `(tactic| assumption)
/-- makes the objects that are asked for, by their names -/
theorem N.kmade (h : PySem.Challenge.rw_endlesskinds_k69_signs_by_hand.row.Holds) : PySem.Challenge.rw_endlesskinds_k69_signs_by_hand.row.Holds := by
  k_head
end
namespace N
open PySem PySem.W PySem.Calls PyProof.Rows HeadRun
abbrev hAs : List Addr := [2, 3, 15, 22, 23, 24, 25, 28, 35, 36, 37, 40, 47, 48, 49, 52, 59, 60, 61, 64, 71, 72, 73, 76, 83, 84, 85, 88, 95, 96, 97, 100, 103, 108, 109, 111, 112, 114, 115, 116, 117, 118, 121, 124, 129, 130, 132, 133, 135, 136, 137, 138, 139, 142, 145, 150, 151, 153, 154, 156, 157, 158, 159, 160, 163, 166, 171, 172, 174, 175, 177, 178, 179, 180, 181, 184, 186, 187, 189, 190, 191, 193, 194, 196, 197, 198, 200, 201, 203, 204, 205, 207, 208, 210, 211, 212, 214, 215, 217, 218, 219, 222, 223, 224, 226, 227, 229, 230, 231, 233, 234, 236, 237, 238, 240, 241, 243, 244, 245, 247, 248, 250, 251, 252, 254, 255, 257, 258, 259, 261, 262, 264, 265, 266, 267, 268, 269, 270, 272, 273, 275, 276, 277, 279, 280, 282, 283, 284, 287, 288, 289, 291, 292, 294, 295, 296, 299, 300, 301, 302, 304, 305, 307, 308, 309, 311, 312, 314, 315, 316, 318, 319, 321, 322, 323, 325, 326, 328, 329, 330, 333, 334, 335, 338, 339, 340, 342, 343, 345, 346, 347, 350, 351, 352, 354, 355, 357, 358, 359, 362, 363, 364, 367, 368, 369, 372, 373, 374, 377, 378, 379, 382, 383, 384, 386, 387, 389, 390, 391, 394, 395, 396, 399, 400, 401, 404, 405, 406, 408, 409, 411, 412, 413, 415, 416, 418, 419, 420, 423, 424, 425, 427, 428, 430, 431, 432, 435, 436, 437, 440, 441, 442, 444, 445, 447, 448, 449, 452, 453, 454, 457, 458, 459, 461, 462, 464, 465, 466, 468, 469, 471, 472, 473, 475, 476, 478, 479, 480, 482, 483, 485, 486, 494, 496, 497, 499, 500, 501, 503, 504, 506, 507, 508, 509, 511, 512, 514, 515, 516, 517, 519, 520, 522, 523, 524, 526, 527, 529, 530, 531, 533, 534, 536, 537, 538, 540, 541, 543, 544, 545, 547, 548, 550, 551, 552, 554, 555, 557, 558, 559, 561, 562, 564, 565, 566, 569, 570, 571, 573, 574, 576, 577, 578, 580, 581, 583, 584, 585, 586, 587, 588, 589, 590, 591, 592, 595, 597, 598, 600, 601, 602, 603, 606, 607, 608, 611, 612, 613, 616, 617, 618, 621, 622, 623, 625, 626, 628, 629, 630, 632, 633, 635, 636, 637, 639, 640, 642, 643, 644, 646, 647, 649, 650, 651, 653, 654, 656, 657, 658, 660, 661, 663, 664, 665, 667, 668, 670, 671, 672, 674, 675, 677, 678, 679, 681, 682, 684, 685, 686, 688, 689, 691, 692, 693, 695, 696, 698, 699]
theorem hAs_eq : ∀ P, hAs = (N.kmade.heap_1 P).map (·.1) := fun _ => by kernel_rfl
abbrev hRa (w : World) (os : OsState) : Prop := headA PySem.Challenge.rw_endlesskinds_k69_signs_by_hand.row.prog hR hL hLI hCN hVV hTT hWL true hM (stepQ (denQ tabQ) PySem.Challenge.rw_endlesskinds_k69_signs_by_hand.row.prog w) 5663 w os = some ()
abbrev hRb (w : World) (os : OsState) : Prop := headB PySem.Challenge.rw_endlesskinds_k69_signs_by_hand.row.prog hR hO hAs [687] (stepQ (denQ tabQ) PySem.Challenge.rw_endlesskinds_k69_signs_by_hand.row.prog w) 5663 w os = some (hD.map (fun d => some d.shape), (N.kmade.heap_1 w.params).map (fun x => some x.2), ([687] : List Addr).map fun _ => some (tabObj #[]))
theorem hra_f (w : World) (os : OsState) : hRa (w.withFollow "special-get-raises" false) os := by kernel_rfl
theorem hra_t (w : World) (os : OsState) : hRa (w.withFollow "special-get-raises" true) os := by kernel_rfl
theorem hrb_f (w : World) (os : OsState) : hRb (w.withFollow "special-get-raises" false) os := by kernel_rfl
theorem hrb_t (w : World) (os : OsState) : hRb (w.withFollow "special-get-raises" true) os := by kernel_rfl
theorem hleft : LeftO PySem.Challenge.rw_endlesskinds_k69_signs_by_hand.row.prog hQ hLo (fun s => xlAt hQ [] s && recOk (RowW.records PySem.Challenge.rw_endlesskinds_k69_signs_by_hand.row.toRowW) s) (Hook.obs (kmHook N.kmade.heap_1 hAs hAs_eq [687])) (Hook.val (kmHook N.kmade.heap_1 hAs hAs_eq [687])) 12086 true := by
  refine N.left_small (M := 5663) ?ze ?zn ?zf ?zl N.hs N.hs_xt N.hs_hm ?zra ?zrb
  case ze => kernel_rfl
  case zn => rfl
  case zf => exact fun s => by kernel_rfl
  case zl => rfl
  case zra => exact N.run_rows (P := hRa) "special-get-raises" hra_f hra_t
  case zrb => exact N.run_rows (P := hRb) "special-get-raises" hrb_f hrb_t
theorem hdef : defOf hQ PySem.Challenge.rw_endlesskinds_k69_signs_by_hand.row.name = some (topD PySem.Challenge.pw_endlesskinds_k69_signs_by_hand 97, []) := by kernel_rfl
theorem hdef2 : PySem.Challenge.rw_endlesskinds_k69_signs_by_hand.row.prog.theDef PySem.Challenge.rw_endlesskinds_k69_signs_by_hand.row.name = some ((topD PySem.Challenge.pw_endlesskinds_k69_signs_by_hand 97).params, (topD PySem.Challenge.pw_endlesskinds_k69_signs_by_hand 97).body, (topD PySem.Challenge.pw_endlesskinds_k69_signs_by_hand 97).scope) := by kernel_rfl
theorem hok : (chainsOk hQ && opensWell PySem.Challenge.rw_endlesskinds_k69_signs_by_hand.row.prog && (frees PySem.Challenge.rw_endlesskinds_k69_signs_by_hand.row.toRowW && PySem.Challenge.rw_endlesskinds_k69_signs_by_hand.row.within.isEmpty)) = true := by decide +kernel
end N

namespace N
open PySem PySem.Spec PyProof.Rows L2
/-! ### rules that were lacking -/
theorem extend_tup_any (l : Addr) (items : Array Value) (n : Nat) (b : Addr) (items2 : Array Value) (n2 : Nat) (dd : Option Addr) (sl : Array (Option Value)) (hs0 : ¬(!items.isEmpty && Builtin.List.listTooLong (items.size + items2.size)) = true) (hs1 : items.size ≤ sizeLine) (hs2 : items.size + items2.size ≤ sizeLine + 1) :
    Meets (Builtin.«list.extend» ⟨[.ref l, .ref b], []⟩) (fun _ R s => s.heap.get? l = some { cls := .type "list", dict := none, data := .seq items n, slots := #[] } ∧ s.heap.get? b = some { cls := .type "tuple", dict := dd, data := .seq items2 n2, slots := sl } ∧ R (.ok (.ret Value.none)) { s with heap := s.heap.update l (Obj.mapSeq fun x => x ++ items2), toks := s.toks }) :=
  .of_wp fun prog w A R s h => by
    obtain ⟨hp, g, d, tk, os⟩ := s; obtain ⟨hl, hb, h⟩ := h
    have f1 := AutoSeq1.idx_int; have f2 := AutoSeq1.sub_tuple_tuple; have f3 := AutoSeq1.sub_list_list; have f4 := AutoSeq1.sub_tuple_list; have f5 := AutoSeq1.sub_list_tuple
    have hz' : (items ++ items2).size ≤ sizeLine + 1 := by rw [Array.size_append]; exact hs2
    wp_walk using (wpAny_updateSeq hl rfl (hz := hs1) (_hz' := hz')), AutoSeq1.wpAny_loadPart' hl, AutoSeq1.wpAny_loadPart' hb; exact ⟨_, rfl, h⟩
/-- l.extend(t), t a tuple -/
def rExtendT (K : PySem.W.Frag) : V → List V → Hp → VK → Prop := fun x vs H Q => ∃ l b xs zs, x = .ref l ∧ vs = [.ref b] ∧ H l = some (.lst xs) ∧ SqT K H b zs ∧ xs.length + zs.length ≤ sizeLine ∧ Q .non (upd H l (.lst (xs ++ zs)))
section
variable {X : Cx}
theorem mt_extendT : MtM X "list.extend" (rExtendT X.K) := by
  intro pins s σ H x vs v us Q I rx rv h
  obtain ⟨l, b, xs, zs, rfl, rfl, hH, hB, hz, q⟩ := h
  cases rx
  obtain ⟨u, rfl, ru⟩ := rv.one
  cases ru
  obtain ⟨z, its, n, r, hl, e⟩ := I.lstM hH
  obtain ⟨its2, r2, ⟨⟨cls, dd, data, sls⟩, e2, hc, n2, hd⟩, hl2⟩ := I.tuple hB
  simp only at hc hd
  subst hc hd
  have hx1 := r.length
  have hx2 := r2.length
  have hsz : its.toArray.size + its2.toArray.size ≤ sizeLine := by rw [List.size_toArray, List.size_toArray]; omega
  have hlong : ¬ (!its.toArray.isEmpty && Builtin.List.listTooLong (its.toArray.size + its2.toArray.size)) = true := by
    rw [notLongL hsz, Bool.and_false]
    exact Bool.false_ne_true
  refine call_meets F.slot_list_extend ⟨_, e, rfl⟩ F.entry_list_extend (F.args_list_extend_2 _ _)
    (extend_tup_any l its.toArray n b its2.toArray n2 dd sls hlong (by rw [List.size_toArray]; omega) (by omega)) ⟨e, e2, ?_⟩
  refine ⟨.non, _, I.lset (its' := its ++ its2) hH e (by simp) (r.append r2) ?_, rfl, q⟩
  rw [List.length_append]
  omega
end
end N

namespace N
open PySem PySem.Spec PyProof.Rows L2 HT
section
variable {prog : Program} {w : World} {A : Around} {E : Value → Shared → Prop} {s : Shared}
theorem adjust_back (n : Nat) (h : 1 ≤ n) : Builtin.Slice.sliceAdjust none (some 0) (-1) (n : Int) = ((n : Int) - 1, 0) := by
  unfold Builtin.Slice.sliceAdjust
  have h1 : ((-1 : Int) < 0) := by omega
  simp only [h1, if_true]
  refine Prod.ext ?_ ?_
  · first | rfl | (simp; done) | omega
  · show _ = _
    simp
    omega
theorem places_back (n : Nat) (h : 1 ≤ n) : Builtin.Slice.slicePlaces ((n : Int) - 1) 0 (-1) = n - 1 := by
  unfold Builtin.Slice.slicePlaces
  have h1 : ¬ ((-1 : Int) > 0) := by omega
  simp only [h1, if_false]
  have e : (- -1 : Int) = 1 := by decide
  rw [e, Int.ediv_one]
  split <;> omega
theorem applied_back {sl : Addr} {vl vu vs : Value} {n : Nat} {Q : Int × Int × Nat → Shared → Prop} (h1 : 1 ≤ n) (hs : s.heap.IsSliceOf sl vl vu vs) (pl : IsPart vl none) (pu : IsPart vu (some 0)) (ps : IsPart vs (some (-1)))
    (h : Q ((n : Int) - 1, -1, n - 1) s) : wpAny (model prog w) A (Builtin.Slice.sliceApplied (.ref sl) (pure (n : Int))) Q E s := by
  obtain ⟨os, hos, hcs, hds⟩ := id hs
  unfold Builtin.Slice.sliceApplied Builtin.Slice.sliceFields
  refine wpAny_bind (wpAny_bind (wpAny_field hos hds (x := vl) rfl (wpAny_bind (wpAny_field hos hds (x := vu) rfl (wpAny_bind (wpAny_field hos hds (x := vs) rfl (wpAny_pure ?_)))))))
  refine wpAny_bind (slicePart_ ps ?_)
  show wpAny _ _ (if ((-1 : Int) == 0) = true then _ else _) _ _ s
  rw [if_neg (by decide)]
  refine wpAny_bind (slicePart_ pl (wpAny_bind (slicePart_ pu (wpAny_bind (wpAny_pure ?_)))))
  show wpAny _ _ (match Builtin.Slice.sliceAdjust none (some 0) (-1) (n : Int) with | (lo, hi) => pure (lo, (-1 : Int), Builtin.Slice.slicePlaces lo hi (-1))) _ _ s
  rw [adjust_back n h1]
  show wpAny _ _ (pure ((n : Int) - 1, (-1 : Int), Builtin.Slice.slicePlaces ((n : Int) - 1) 0 (-1))) _ _ s
  rw [places_back n h1]
  exact wpAny_pure h
theorem pick_back (xs : Array Value) (h : 1 ≤ xs.size) : ((List.range (xs.size - 1)).filterMap fun (m : Nat) => xs[(((xs.size : Int) - 1) + (m : Int) * (-1)).toNat]?).toArray = (xs.toList.drop 1).reverse.toArray := by
  refine congrArg List.toArray ?_
  have e : ∀ m ∈ List.range (xs.size - 1), xs[(((xs.size : Int) - 1) + (m : Int) * (-1)).toNat]? = some (xs.toList.reverse.getD m .none) := by
    intro m hm
    have hm' := List.mem_range.mp hm
    have e1 : (((xs.size : Int) - 1) + (m : Int) * (-1)).toNat = xs.size - 1 - m := by omega
    rw [e1, ← Array.getElem?_toList, List.getD_eq_getElem?_getD, List.getElem?_reverse (by rw [Array.length_toList]; omega), Array.length_toList,
      List.getElem?_eq_getElem (show xs.size - 1 - m < xs.toList.length by rw [Array.length_toList]; omega)]
    rfl
  have e2 : (List.range (xs.size - 1)).filterMap (fun (m : Nat) => xs[(((xs.size : Int) - 1) + (m : Int) * (-1)).toNat]?) = (List.range (xs.size - 1)).filterMap (fun m => some (xs.toList.reverse.getD m .none)) := by
    generalize List.range (xs.size - 1) = l at e
    induction l with
    | nil => rfl
    | cons a r ih =>
      rw [List.filterMap_cons, List.filterMap_cons, e a List.mem_cons_self, ih fun m hm => e m (List.mem_cons_of_mem _ hm)]
  rw [e2, List.filterMap_eq_map' ] <;> try rfl
  apply List.ext_getElem?
  intro i
  rw [List.getElem?_map]
  by_cases hi : i < xs.size - 1
  · rw [List.getElem?_range hi, List.getElem?_reverse (by rw [List.length_drop, Array.length_toList]; omega), List.length_drop, Array.length_toList, List.getElem?_drop,
      Option.map_some, List.getD_eq_getElem?_getD, List.getElem?_reverse (by rw [Array.length_toList]; omega), Array.length_toList,
      show 1 + (xs.size - 1 - 1 - i) = xs.size - 1 - i by omega, List.getElem?_eq_getElem (show xs.size - 1 - i < xs.toList.length by rw [Array.length_toList]; omega)]
    rfl
  · rw [List.getElem?_eq_none (by rw [List.length_range]; omega), List.getElem?_eq_none (by rw [List.length_reverse, List.length_drop, Array.length_toList]; omega)]
    rfl
theorem getItem_tuple_back {t sl : Addr} {items : Array Value} {vl vu vs : Value} {Q : Value → Shared → Prop} (ht : IsTup s.heap t items) (h1 : 1 ≤ items.size) (hs : s.heap.IsSliceOf sl vl vu vs) (pl : IsPart vl none) (pu : IsPart vu (some 0)) (ps : IsPart vs (some (-1)))
    (h : Q (.ref s.heap.objs.size) { s with heap := s.heap.push { cls := .type "tuple", data := .seq (items.toList.drop 1).reverse.toArray } })
    (hsz : items.size ≤ sizeLine) : wpAny (model prog w) A (getItem (.ref t) (.ref sl)) Q E s := by
  have htake : sizeOk (.seq (items.toList.drop 1).reverse.toArray) := by
    show ((items.toList.drop 1).reverse).toArray.size ≤ sizeLine
    rw [List.size_toArray, List.length_reverse, List.length_drop, Array.length_toList]
    omega
  obtain ⟨os, hos, hcs, hds⟩ := id hs
  have hTs : s.TypeIs (.ref sl) "slice" := ⟨os, hos, hcs⟩
  unfold getItem
  try with_reducible refine wpAny_holding ?_
  first | refine wpAny_bind (wpAny_pure ?_) | skip
  refine wpAny_bind (wpAny_sequenceKey ht.typeIs (by decide) ?_)
  refine wpAny_bind (wpAny_callSpecial?_slot (name := Str.ofString "__getitem__") ht.typeIs PyProof.Rows.slot_tuple_getitem
    (wpAny_call_entry PyProof.Rows.slot_tuple_getitem ht.typeIs entry_tuple_getitem ?_ (args_tuple_getitem _ _)))
  show wpAny _ _ (Builtin.Tuple.tupleItemsOf (.ref t) >>= _) _ _ s
  refine wpAny_bind (tupleItemsOf_ ht ?_)
  refine wpAny_bind (wpAny_typeOf hTs ?_)
  rw [if_pos (by decide)]
  refine wpAny_bind (applied_back h1 hs pl pu ps ?_)
  show wpAny _ _ (if ((((items.size : Int) - 1)) == 0 && (-1 : Int) == 1 && (items.size - 1) == items.size) = true then _ else _) _ _ s
  rw [if_neg (by simp), pick_back items h1]
  first
    | exact wpAny_bind (m := Builtin.Tuple.tupleExact _) (wpAny_newObj_type (wpAny_pure ⟨_, rfl, wpAny_pure h⟩) htake)
    | exact wpAny_bind (m := Builtin.Tuple.tupleExact _) (wpAny_newObj_type (wpAny_bind (wpAny_pure (wpAny_pure ⟨_, rfl, wpAny_pure h⟩))) htake)
    | exact wpAny_bind (wpAny_bind (m := Builtin.Tuple.tupleExact _) (wpAny_newObj_type (wpAny_pure (wpAny_pure ⟨_, rfl, wpAny_pure h⟩)) htake))
    | exact wpAny_bind (wpAny_bind (m := Builtin.Tuple.tupleExact _) (wpAny_newObj_type (wpAny_pure ⟨_, rfl, wpAny_pure h⟩) htake))
end
/-- t[:0:-1] -/
def tBackT (K : PySem.W.Frag) (te : TE) : TE := fun σ H Q => te σ H fun x H1 => ∃ a xs, x = .ref a ∧ SqT K H1 a xs ∧ 1 ≤ xs.length ∧ ∀ p, H1 p = none → Q (.ref p) (upd H1 p (.tup (xs.drop 1).reverse))
section
variable {X : Cx}
theorem pe_backT {e : Expr} {te : TE} {k k0 : Nat} {p0 p1 p2 p3 pos : Pos} (he : PE X e te) : PE X (.Subscript e (.Slice none (some (.Constant (.int 0) k0 p0)) (some (.UnaryOp .USub (.Constant (.int 1) k p1) p2)) p3) pos) (tBackT X.K te) := by
  refine ⟨fun pins s σ H Q I h => ?_⟩
  refine Subscript_ (thn (he.run pins s σ H _ I h) fun v s1 ⟨x, H1, I1, r1, q1⟩ => ?_)
  obtain ⟨a, xs, ex, hx, h1, q⟩ := q1
  subst ex
  cases r1
  have hst : PO X (some (.UnaryOp .USub (.Constant (.int 1) k p1) p2)) (tPart (tUn (rU fun i => .int (-i)) (tC (.int 1)))) := po_some (pe_un un_neg pe_int)
  have hhi : PO X (some (.Constant (.int 0) k0 p0)) (tPart (tC (.int 0))) := po_some pe_int
  refine wpAny_Slice (thn (po_none.run pins s1 σ H1 (fun o H2 => o = none ∧ H2 = H1) I1 ⟨rfl, rfl⟩) fun vl s2 ⟨l, H2, I2, pl, el, e2⟩ => ?_)
  subst el e2
  refine thn (hhi.run pins s2 σ H2 (fun o H3 => o = some 0 ∧ H3 = H2) I2 ⟨0, rfl, rfl, rfl⟩) fun vu s3 ⟨u, H3, I3, pu, eu, e3⟩ => ?_
  subst eu e3
  refine thn (hst.run pins s3 σ H3 (fun o H4 => o = some (-1) ∧ H4 = H3) I3 ⟨1, rfl, -1, rfl, rfl, rfl⟩) fun vs s4 ⟨o, H4, I4, ps, eo, e4⟩ => ?_
  subst eo e4
  have I5 : Inv X pins σ H4 { s4 with heap := s4.heap.push { cls := .type "slice", data := .fields #[vl, vu, vs] } } := I4.kept (t' := s4.toks) fun b ob q => Heap.get?_push_of_some _ q
  obtain ⟨its, r, ht, hz⟩ := I5.tuple hx
  have hlen := r.length
  show wpAny (model X.prog X.w) X.A (subscriptTail e (.Slice none (some (.Constant (.int 0) k0 p0)) (some (.UnaryOp .USub (.Constant (.int 1) k p1) p2)) p3) (.ref a) (.ref s4.heap.objs.size)) (EP X pins σ Q) X.xe { s4 with heap := s4.heap.push { cls := .type "slice", data := .fields #[vl, vu, vs] } }
  refine tail_any (ops := [.ref a, .ref s4.heap.objs.size]) ht.typeIs (PyProof.Rows.slot_tuple_getitem.lookup) ?_ (by with_unfolding_all rfl)
  refine getItem_tuple_back ht (by rw [List.size_toArray]; omega) (Heap.IsSliceOf.new _ vl vu vs) pl pu ps ?_ (by rw [List.size_toArray]; omega)
  refine ⟨.ref _, _, I5.laid (t' := s4.toks) (o := .tup (xs.drop 1).reverse) (fun b ob q => Heap.get?_push_of_some _ q) (Nat.le_refl _) ?_, rfl, q _ (I5.hok.fresh (Nat.le_refl _))⟩
  refine ⟨by rw [List.length_reverse, List.length_drop]; omega, (its.drop 1).reverse, ?_, ⟨_, Heap.get?_push_size _ rfl, rfl, _, rfl⟩⟩
  exact (r.drop 1).reverse
end
end N

namespace N
open PySem PySem.Spec PyProof.Rows L2
/-! ### words -/
theorem asc_alpha : ∀ c : Nat, c < 128 → Unicode.isAlpha c = (decide (65 ≤ c ∧ c ≤ 90) || decide (97 ≤ c ∧ c ≤ 122)) := by
  intro c h
  have q : ∀ c : Fin 128, Unicode.isAlpha c.1 = (decide (65 ≤ c.1 ∧ c.1 ≤ 90) || decide (97 ≤ c.1 ∧ c.1 ≤ 122)) := by decide +kernel
  exact q ⟨c, h⟩
theorem asc_lower : ∀ c : Nat, c < 128 → Unicode.isLower c = decide (97 ≤ c ∧ c ≤ 122) := by
  intro c h
  have q : ∀ c : Fin 128, Unicode.isLower c.1 = decide (97 ≤ c.1 ∧ c.1 ≤ 122) := by decide +kernel
  exact q ⟨c, h⟩
theorem asc_upper : ∀ c : Nat, c < 128 → (Unicode.isUpper c || Unicode.isTitle c) = decide (65 ≤ c ∧ c ≤ 90) := by
  intro c h
  have q : ∀ c : Fin 128, (Unicode.isUpper c.1 || Unicode.isTitle c.1) = decide (65 ≤ c.1 ∧ c.1 ≤ 90) := by decide +kernel
  exact q ⟨c, h⟩
/-- a letter, as the def says it -/
def isLet (x : Str) : Bool := decide (x.length = 1) && (!decide (x.cps.toList < ("A" : Str).cps.toList) && !decide (("Z" : Str).cps.toList < x.cps.toList))
def isNam (x : Str) : Bool := !decide (8 < x.length) && (Txt.isascii x && (Txt.isalpha x && Txt.islower x))
def Low (c : Nat) : Prop := 97 ≤ c ∧ c ≤ 122
theorem isLet_iff {x : Str} : isLet x = true ↔ ∃ c, x.cps.toList = [c] ∧ 65 ≤ c ∧ c ≤ 90 := by
  unfold isLet Str.length
  have eA : ("A" : Str).cps.toList = [65] := by decide +kernel
  have eZ : ("Z" : Str).cps.toList = [90] := by decide +kernel
  rw [eA, eZ]
  obtain ⟨⟨l⟩⟩ := x
  simp only [Bool.and_eq_true, decide_eq_true_eq, Bool.not_eq_true', decide_eq_false_iff_not, List.size_toArray]
  constructor
  · rintro ⟨h1, h2, h3⟩
    match l, h1 with
    | [c], _ =>
      refine ⟨c, rfl, ?_, ?_⟩
      · have : ¬ c < 65 := fun q => h2 (by simp [List.cons_lt_cons_iff, q])
        omega
      · have : ¬ 90 < c := fun q => h3 (by simp [List.cons_lt_cons_iff, q])
        omega
  · rintro ⟨c, h, h2, h3⟩
    subst h
    refine ⟨rfl, fun q => ?_, fun q => ?_⟩
    · simp [List.cons_lt_cons_iff] at q
      omega
    · simp [List.cons_lt_cons_iff] at q
      omega
theorem isNam_iff {x : Str} : isNam x = true ↔ 1 ≤ x.length ∧ x.length ≤ 8 ∧ ∀ c ∈ x.cps.toList, Low c := by
  obtain ⟨⟨l⟩⟩ := x
  have e1 : Txt.isascii ⟨⟨l⟩⟩ = l.all (fun c => decide (c < 128)) := by
    show Array.all _ _ = _
    exact List.all_toArray ..
  have e2 : Txt.isalpha ⟨⟨l⟩⟩ = (decide (l.length > 0) && l.all Unicode.isAlpha) := by
    show (decide _ && Array.all _ _) = _
    exact congrArg _ (List.all_toArray ..)
  have e3 : Txt.islower ⟨⟨l⟩⟩ = (l.any Unicode.isLower && !l.any fun c => Unicode.isUpper c || Unicode.isTitle c) := by
    show (Array.any _ _ && !Array.any _ _) = _
    exact congr (congrArg _ (List.any_toArray ..)) (congrArg _ (List.any_toArray ..))
  unfold isNam
  rw [e1, e2, e3]
  show (!decide (8 < l.length) && _) = true ↔ 1 ≤ l.length ∧ l.length ≤ 8 ∧ ∀ c ∈ l, Low c
  simp only [Bool.and_eq_true, Bool.not_eq_true', decide_eq_false_iff_not, decide_eq_true_eq, List.all_eq_true, List.any_eq_true, List.any_eq_false, Nat.not_lt]
  constructor
  · rintro ⟨h8, ha, ⟨h1, hb⟩, h3, h4⟩
    refine ⟨by omega, h8, fun c hc => ?_⟩
    have a1 := ha c hc
    have a2 := hb c hc
    rw [asc_alpha c a1] at a2
    have a3 := h4 c hc
    rw [asc_upper c a1] at a3
    simp only [Bool.or_eq_true, decide_eq_true_eq] at a2 a3
    unfold Low
    omega
  · rintro ⟨h1, h8, h⟩
    have hl : ∀ c ∈ l, 97 ≤ c ∧ c ≤ 122 := h
    refine ⟨h8, fun c hc => ?_, ⟨by omega, fun c hc => ?_⟩, ?_, fun c hc => ?_⟩
    · have := hl c hc
      omega
    · have q := hl c hc
      rw [asc_alpha c (by omega)]
      simp [q]
    · match l, h1 with
      | c :: r, _ =>
        refine ⟨c, List.mem_cons_self, ?_⟩
        have q := hl c List.mem_cons_self
        rw [asc_lower c (by omega)]
        simp [q]
    · have q := hl c hc
      rw [asc_upper _ (by omega)]
      simp
      omega
theorem let_not_nam {x : Str} (h : isLet x = true) : isNam x = false := by
  obtain ⟨c, e, h1, h2⟩ := isLet_iff.mp h
  cases q : isNam x with
  | false => rfl
  | true =>
    obtain ⟨_, _, h3⟩ := isNam_iff.mp q
    have := h3 c (by rw [e]; exact List.mem_cons_self)
    unfold Low at this
    omega

/-! ### any thing, as the program sees it -/
inductive Tg where
  | str (x : Str) | oth | tup (ts : List Tg)
mutual
def Tg.nodes : Tg → Nat
  | .str _ => 1
  | .oth => 1
  | .tup ts => 1 + nodesAll ts
def nodesAll : List Tg → Nat
  | [] => 0
  | t :: ts => t.nodes + nodesAll ts
end
theorem nodes_pos (t : Tg) : 1 ≤ t.nodes := by
  cases t <;> simp only [Tg.nodes] <;> omega
theorem nodesAll_app : ∀ a b : List Tg, nodesAll (a ++ b) = nodesAll a + nodesAll b
  | [], b => by simp [nodesAll]
  | t :: a, b => by
    rw [List.cons_append]
    simp only [nodesAll]
    rw [nodesAll_app a b]
    omega
theorem length_le_nodes : ∀ a : List Tg, a.length ≤ nodesAll a
  | [] => Nat.zero_le _
  | t :: a => by
    have h1 := length_le_nodes a
    have h2 := nodes_pos t
    simp only [nodesAll, List.length_cons]
    omega
def Tg.isNm : Tg → Bool
  | .str x => isNam x
  | _ => false
/-- a class type as far as its name and the number of its arguments go -/
def begT : Tg → Bool
  | .tup (n :: ts) => decide (ts.length ≤ 2) && n.isNm
  | _ => false
def Tg.isL : Tg → Bool
  | .str x => isLet x
  | _ => false
mutual
def isT : Tg → Bool
  | .str x => isLet x
  | .oth => false
  | .tup [] => false
  | .tup (n :: ts) => (decide (ts.length ≤ 2) && n.isNm) && isTAll ts
def isTAll : List Tg → Bool
  | [] => true
  | t :: ts => isT t && isTAll ts
end
theorem isTAll_app : ∀ a b : List Tg, isTAll (a ++ b) = (isTAll a && isTAll b)
  | [], b => by simp [isTAll]
  | t :: a, b => by
    rw [List.cons_append]
    simp only [isTAll]
    rw [isTAll_app a b, Bool.and_assoc]
def Tg.args : Tg → List Tg
  | .tup (_ :: ts) => ts
  | _ => []
theorem isT_beg {t : Tg} (h : begT t = true) : isT t = isTAll t.args := by
  match t, h with
  | .tup (n :: ts), h =>
    have h' : (decide (ts.length ≤ 2) && n.isNm) = true := h
    simp only [isT, Tg.args]
    rw [h', Bool.true_and]
theorem isT_nbeg {t : Tg} (h : begT t = false) : isT t = t.isL := by
  match t, h with
  | .str x, _ => simp [isT, Tg.isL]
  | .oth, _ => simp [isT, Tg.isL]
  | .tup [], _ => simp [isT, Tg.isL]
  | .tup (n :: ts), h =>
    have h' : (decide (ts.length ≤ 2) && n.isNm) = false := h
    simp only [isT, Tg.isL]
    rw [h', Bool.false_and]
theorem args_nodes {t : Tg} (h : begT t = true) : nodesAll t.args + 1 < t.nodes + 1 := by
  match t, h with
  | .tup (n :: ts), _ =>
    have := nodes_pos n
    simp only [Tg.args, Tg.nodes, nodesAll]
    omega
mutual
/-- at v stands such a thing -/
inductive Th (K : PySem.W.Frag) (H : Hp) : V → Tg → Prop
  | str (x : Str) (hx : x.length ≤ 100000) : Th K H (.str x) (.str x)
  | oth {v : V} {t : Value} (ty : TyX K H v t) (a : PySem.W.kitOne K t (.type "str") = some false) (b : PySem.W.kitOne K t (.type "tuple") = some false) : Th K H v .oth
  | tup {a : Addr} {xs : List V} {ts : List Tg} (h : SqT K H a xs) (r : ThAll K H xs ts) : Th K H (.ref a) (.tup ts)
inductive ThAll (K : PySem.W.Frag) (H : Hp) : List V → List Tg → Prop
  | nil : ThAll K H [] []
  | cons {v : V} {vs : List V} {t : Tg} {ts : List Tg} (h : Th K H v t) (r : ThAll K H vs ts) : ThAll K H (v :: vs) (t :: ts)
end
theorem ThAll.length {K : PySem.W.Frag} {H : Hp} : ∀ {vs : List V} {ts : List Tg}, ThAll K H vs ts → vs.length = ts.length
  | _, _, .nil => rfl
  | _, _, .cons _ r => by simp [ThAll.length r]
theorem ThAll.app {K : PySem.W.Frag} {H : Hp} : ∀ {vs ws : List V} {ts us : List Tg}, ThAll K H vs ts → ThAll K H ws us → ThAll K H (vs ++ ws) (ts ++ us)
  | _, _, _, _, .nil, r => r
  | _, _, _, _, .cons h r, q => .cons h (r.app q)
theorem ThAll.snoc {K : PySem.W.Frag} {H : Hp} {vs : List V} {ts : List Tg} (h : ThAll K H vs ts) (hn : ts ≠ []) : ∃ v vs' t ts', vs = vs' ++ [v] ∧ ts = ts' ++ [t] ∧ Th K H v t ∧ ThAll K H vs' ts' := by
  match vs, ts, h with
  | _, _, .nil => exact absurd rfl hn
  | _, _, .cons (v := v) (vs := vs) (t := t) (ts := ts) h r =>
    by_cases e : ts = []
    · subst e
      match vs, r with
      | _, .nil => exact ⟨v, [], t, [], rfl, rfl, h, .nil⟩
    · obtain ⟨v', vs', t', ts', e1, e2, h1, h2⟩ := r.snoc e
      exact ⟨v', v :: vs', t', t :: ts', by rw [e1]; rfl, by rw [e2]; rfl, h1, .cons h h2⟩
/-- what is needed of a change of the heap, for things to stay -/
structure Stay (K : PySem.W.Frag) (H H' : Hp) : Prop where
  tup : ∀ a xs, SqT K H a xs → SqT K H' a xs
  ty : ∀ v t, TyX K H v t → TyX K H' v t
mutual
theorem Th.stay {K : PySem.W.Frag} {H H' : Hp} (s : Stay K H H') : ∀ {v : V} {t : Tg}, Th K H v t → Th K H' v t
  | _, _, .str x hx => .str x hx
  | _, _, .oth ty a b => .oth (s.ty _ _ ty) a b
  | _, _, .tup h r => .tup (s.tup _ _ h) (ThAll.stay s r)
theorem ThAll.stay {K : PySem.W.Frag} {H H' : Hp} (s : Stay K H H') : ∀ {vs : List V} {ts : List Tg}, ThAll K H vs ts → ThAll K H' vs ts
  | _, _, .nil => .nil
  | _, _, .cons h r => .cons (Th.stay s h) (ThAll.stay s r)
end
theorem Stay.refl {K : PySem.W.Frag} (H : Hp) : Stay K H H := ⟨fun _ _ h => h, fun _ _ h => h⟩
theorem Stay.trans {K : PySem.W.Frag} {H H1 H2 : Hp} (a : Stay K H H1) (b : Stay K H1 H2) : Stay K H H2 := ⟨fun x y h => b.tup x y (a.tup x y h), fun x y h => b.ty x y (a.ty x y h)⟩
theorem stay_of {K : PySem.W.Frag} {H H' : Hp} (h : ∀ a o, H a = some o → H' a = some o ∨ ∃ xs ys, o = .lst xs ∧ H' a = some (.lst ys)) (hdx : ∀ a x, H a = some (.own x) → H' a = some (.own x)) : Stay K H H' where
  tup := fun a xs q => by
    rcases q with (q | ⟨o, q⟩) | q
    · rcases h a _ q with h1 | ⟨_, _, e, _⟩
      · exact .inl (.inl h1)
      · cases e
    · rcases h a _ q with h1 | ⟨_, _, e, _⟩
      · exact .inl (.inr ⟨o, h1⟩)
      · cases e
    · exact .inr q
  ty := fun v t q => by
    have k : ∀ a o, H a = some o → (∀ xs, o ≠ .lst xs) → H' a = some o := fun a o e n => by
      rcases h a o e with h1 | ⟨xs, _, e2, _⟩
      · exact h1
      · exact absurd e2 (n xs)
    cases q with
    | base b =>
      cases b with
      | non => exact .base .non
      | bl x => exact .base (.bl x)
      | int i => exact .base (.int i)
      | str x => exact .base (.str x)
      | flt x => exact .base (.flt x)
      | @lst a xs e =>
        rcases h a _ e with h1 | ⟨_, ys, _, h1⟩
        · exact .base (.lst h1)
        · exact .base (.lst h1)
      | frz e => exact .base (.frz (k _ _ e fun xs z => by cases z))
      | tup e => exact .base (.tup (k _ _ e fun xs z => by cases z))
      | dK e => exact .base (.dK (k _ _ e fun xs z => by cases z))
      | dT e => exact .base (.dT (k _ _ e fun xs z => by cases z))
      | ins e cl ha hn htk hm => exact .base (.ins (k _ _ e fun xs z => by cases z) cl ha hn htk hm)
    | byt b => exact .byt b
    | set e => exact .set (k _ _ e fun xs z => by cases z)
    | kList e c => exact .kList e c
    | kTuple e c => exact .kTuple e c
    | kDict e c => exact .kDict e c
    | fTuple e => exact .fTuple (k _ _ e fun xs z => by cases z)
    | fDict e => exact .fDict (k _ _ e fun xs z => by cases z)
theorem stay_same {K : PySem.W.Frag} {H H' : Hp} (e : Same H H') : Stay K H H' := stay_of (fun a o q => .inl (e a o q)) fun a x q => e a _ q
theorem same_new {H : Hp} {p : Addr} (h : H p = none) (o : HO) : Same H (upd H p o) := fun b u q => by rw [upd_ne (ne_of_none q h)]; exact q
theorem stay_new {K : PySem.W.Frag} {H : Hp} {p : Addr} (h : H p = none) (o : HO) : Stay K H (upd H p o) := stay_same (same_new h o)
theorem stay_lst {K : PySem.W.Frag} {H : Hp} {p : Addr} {xs ys : List V} (h : H p = some (.lst xs)) : Stay K H (upd H p (.lst ys)) := stay_of (fun a o q => by
    by_cases e : a = p
    · subst e
      rw [h] at q
      cases q
      exact .inr ⟨xs, ys, rfl, upd_same⟩
    · exact .inl (by rw [upd_ne e]; exact q)) fun a x q => by
  rw [upd_ne (ne_of q h (by intro z; cases z))]
  exact q
theorem SqT.ty {K : PySem.W.Frag} {H : Hp} {a : Addr} {xs : List V} (h : SqT K H a xs) : TyX K H (.ref a) (.type "tuple") := by
  rcases h with (h | ⟨o, h⟩) | ⟨o, its, n, h, c, _⟩
  · exact .base (.tup h)
  · exact .fTuple h
  · exact .kTuple h c
end N

namespace N
open PySem PySem.Spec PyProof.Rows L2
/-! ### promises where no repr is under way -/
structure RoomG (k : Nat) (A : Around) : Prop extends Room k A where
  gs : A.guards = some []
theorem RoomG.mono {j k : Nat} {A : Around} (r : RoomG k A) (h : j ≤ k) : RoomG j A := ⟨r.toRoom.mono h, r.gs⟩
theorem RoomG.deeper {k : Nat} {A : Around} (r : RoomG (k + 1) A) (env : Env) : RoomG k (A.deeper env) := ⟨r.toRoom.deeper env, r.gs⟩
theorem roomG_caller {k : Nat} (r : Room k callerA) : RoomG k callerA := ⟨r, rfl⟩
structure FnG (P : Program) (w : World) (K : PySem.W.Frag) (mg : Str → Option Value) (base : Heap) (CX : CXT) (k : Nat) (f : Addr) (fd : FuncData) (ps : List Str) (sp : Sp) : Prop where
  len : ∀ vs H Q E, sp vs H Q E → vs.length = ps.length
  run : ∀ (A : Around) (outer : List Env) (s : Shared) (H : Hp) (args : Args) (us : List Value) (vs : List V) (Q : VK) (E : XK), RoomG k A → Env0 P w K mg base A outer s H → BindsTo s fd args (ps.zip us) → Vals vs us → sp vs H Q E →
    codeAny (model P w) A (.call (.ref f) args) (CR CX outer P w H s Q E) s
section
variable {P : Program} {w : World} {K : PySem.W.Frag} {mg : Str → Option Value} {base : Heap} {CX : CXT} {j k : Nat} {f : Addr} {fd : FuncData} {ps : List Str} {sp : Sp}
theorem FnG.mono (F : FnG P w K mg base CX j f fd ps sp) (h : j ≤ k) : FnG P w K mg base CX k f fd ps sp := ⟨F.len, fun A outer s H args us vs Q E hr => F.run A outer s H args us vs Q E (hr.mono h)⟩
theorem FnG.imp {sp' : Sp} (F : FnG P w K mg base CX k f fd ps sp) (h : ∀ vs H Q E, sp' vs H Q E → sp vs H Q E) : FnG P w K mg base CX k f fd ps sp' :=
  ⟨fun vs H Q E q => F.len vs H Q E (h _ _ _ _ q), fun A outer s H args us vs Q E hr he hb hv hs => F.run A outer s H args us vs Q E hr he hb hv (h _ _ _ _ hs)⟩
/-- one entry, the surroundings fixed: the library's rule for a def is asked with a promise that holds there alone -/
theorem fnG_of {x : Str} {st : Stmt} {N : List Str} (F : Fun K x x st f fd) (S : FnScope N ps (defScope st)) (len : ∀ vs H Q E, sp vs H Q E → vs.length = ps.length)
    (hbody : ∀ (cdv : Value) (A : Around) (outer : List Env) (s : Shared) (H : Hp) (vs : List V) (Q : VK) (E : XK), RoomG k (A.deeper (envOfC x (defScope st) s.heap.objs.size f cdv)) → sp vs H Q E →
      ∃ t, PSs (cxOf CX P w K mg base N x (defScope st) f cdv A outer s H E) (defBody st) t ∧ t { nx := fun _ H' => Q .non H', rt := Q } (start N vs) H) : FnG P w K mg base CX (k + 1) f fd ps sp := by
  obtain ⟨oc, od, kV, doc, pm, an, cdv, ct, osl, rfl, lk, hcd⟩ := F.ex
  refine ⟨len, fun A outer s H args us vs Q E hr e0 hb r hsp => ?_⟩
  have KX : K.In s.heap := e0.mod.kin.keeps fun b o e => (e0.bs b o e).1
  have lim : s.heap.NoLimit := e0.mod.nolimit.keeps fun b o e => (e0.bs b o e).1
  have hkind : ∀ y ∈ ps.zip us, (defScope st).names.lookup y.1 = some .local ∨ ((defScope st).names.lookup y.1 = some .cell ∧ ((cellsFrom (s.heap.objs.size + 1) (defScope st).names []).lookup y.1).isSome = true) := fun ⟨n, v⟩ hy =>
    (S.par n (List.of_mem_zip hy).1).elim .inl fun q => .inr ⟨q, PySem.W.cellsFrom_some _ _ _ (.inl q)⟩
  refine codeAny_call_function hr.depth (KX _ _ lk) rfl S.co S.gen rfl (PySem.W.codeRec_of KX hcd) (hb _ _ _ _ ?_)
  refine wpAny_newFunctionEnv_cells S.kind hkind fun env he s1 x => ?_
  subst he
  refine ⟨lim.keeps x.toInCall.keep, codeAny_func ?_⟩
  obtain ⟨t, ht, hq⟩ := hbody cdv A outer s H vs Q E (hr.deeper _) hsp
  have I := inv_start (CX := CX) (P := P) (w := w) (mg := mg) (E := E) S hr.hd e0 (len _ _ _ _ hsp) r x
  refine wpAny_mono (ht.run [] s1 (start N vs) H _ I hq) (fun fl s' hs => ?_) fun e s' hs => hs
  cases fl with
  | ret u => obtain ⟨v, σ', H', J, rv, q⟩ := hs; exact ⟨v, H', J.os, J.bare, J.base, J.hok, rv, q⟩
  | next => obtain ⟨σ', H', J, q⟩ := hs; exact ⟨.non, H', J.os, J.bare, J.base, J.hok, rfl, q⟩
  | brk => obtain ⟨_, _, _, q⟩ := hs; exact False.elim q
  | cont => obtain ⟨_, _, _, q⟩ := hs; exact False.elim q
end
section
variable {X : Cx} {CX : CXT} {k : Nat} {f : Addr} {fd : FuncData} {ps : List Str} {sp : Sp} {E : XK}
theorem runG {pins : List (Addr × Obj)} {σ : L2.St} {H : Hp} {s : Shared} {Q : VK} {us : List Value} {vs : List V} (F : FnG X.prog X.w X.K X.mg X.base CX k f fd ps sp) (hr : RoomG k X.A) (hb : Binds X.K fd ps [])
    (hx : ∀ e s', CX X.stack H s E e s' → X.xe e s') (I : Inv X pins σ H s) (r : Vals vs us) (h : sp vs H Q E) : wpAny (model X.prog X.w) X.A (call (.ref f) us) (EP X pins σ Q) X.xe s := by
  have b := hb s us I.kIn (by rw [List.append_nil, ← r.length]; exact F.len _ _ _ _ h)
  rw [List.append_nil] at b
  refine wpAny_call (codeAny_mono (F.run X.A X.stack s H ⟨us, []⟩ us vs Q E hr I.env0 b r h) fun res s' hq => ?_)
  match res, hq with
  | .error e, hq => exact hx e s' hq
  | .ok (.ret u), hq => exact I.after hq
  | .ok .next, hq => exact False.elim hq
  | .ok .brk, hq => exact False.elim hq
  | .ok .cont, hq => exact False.elim hq
end
end N

namespace N
open PySem PySem.Spec PyProof.Rows L2
/-! ### defs as they stand behind the top, and what they promise -/
def DefAt (K : PySem.W.Frag) (mg : Str → Option Value) (x : Str) (st : Stmt) (ps : List Str) : Prop :=
  ∃ (f : Addr) (fd : FuncData), mg x = some (.ref f) ∧ Fun K x x st f fd ∧ Binds K fd ps []
def Cal (P : Program) (w : World) (K : PySem.W.Frag) (mg : Str → Option Value) (base : Heap) (k : Nat) (x : Str) (ps : List Str) (sp : Sp) : Prop :=
  ∃ (f : Addr) (fd : FuncData), mg x = some (.ref f) ∧ PySem.W.keepIn K (.ref f) = true ∧ Binds K fd ps [] ∧ FnG P w K mg base (L2.CX P w) k f fd ps sp
section
variable {P : Program} {w : World} {K : PySem.W.Frag} {mg : Str → Option Value} {base : Heap} {k : Nat} {x : Str} {ps N : List Str} {sp : Sp} {st : Stmt}
theorem Cal.mono {j : Nat} (c : Cal P w K mg base j x ps sp) (h : j ≤ k) : Cal P w K mg base k x ps sp := by
  obtain ⟨f, fd, a, b, d, F⟩ := c
  exact ⟨f, fd, a, b, d, F.mono h⟩
theorem Cal.imp {sp' : Sp} (c : Cal P w K mg base k x ps sp) (h : ∀ vs H Q E, sp' vs H Q E → sp vs H Q E) : Cal P w K mg base k x ps sp' := by
  obtain ⟨f, fd, a, b, d, F⟩ := c
  exact ⟨f, fd, a, b, d, F.imp h⟩
theorem DefAt.cal (D : DefAt K mg x st ps) (S : FnScope N ps (defScope st)) (len : ∀ vs H Q E, sp vs H Q E → vs.length = ps.length)
    (hbody : ∀ (f : Addr) (cdv : Value) (A : Around) (outer : List Env) (s : Shared) (H : Hp) (vs : List V) (Q : VK) (E : XK), RoomG k (A.deeper (envOfC x (defScope st) s.heap.objs.size f cdv)) → sp vs H Q E →
      ∃ t, PSs (cxOf (L2.CX P w) P w K mg base N x (defScope st) f cdv A outer s H E) (defBody st) t ∧ t { nx := fun _ H' => Q .non H', rt := Q } (start N vs) H) : Cal P w K mg base (k + 1) x ps sp := by
  obtain ⟨f, fd, a, F, b⟩ := D
  exact ⟨f, fd, a, F.kp, b, fnG_of F S len fun cdv A outer s H vs Q E hr h => hbody f cdv A outer s H vs Q E hr h⟩
theorem mk_def {h : Heap} {f : Addr} {oc : Value} {od an : Option Addr} {osl : Array (Option Value)} {kV doc pm cdv ct : Value} (X : K.In h) (G : h.Ns mainGlobals mg)
    (a : PySem.W.nsIn K mainGlobals x = some (some (.ref f))) (l : K.lookup f = some ⟨oc, od, .func (PySem.W.fnOf x x (defArgs st) (defBody st) (defScope st) .none kV doc pm an cdv ct), osl⟩) (c : PySem.W.codeIn K cdv x = true) (k : PySem.W.keepIn K (.ref f) = true)
    (b : ∀ (kV doc pm : Value) (an : Option Addr) (cdv ct : Value) (us : List Value), us.length = ps.length → bindArgs (PySem.W.fnOf x x (defArgs st) (defBody st) (defScope st) .none kV doc pm an cdv ct) ⟨us, []⟩ = pure (ps.zip us)) : DefAt K mg x st ps :=
  ⟨f, _, PySem.W.mg_of X G a, fun_mk l c k, (fun_mk l c k).binds b⟩
end
section
variable {X : Cx} {k : Nat} {x : Str} {ps : List Str} {sp : Sp} {p pos : Pos} {e : Expr} {es : List Expr} {t : TA} {W : WX}
/-- f(e, ..): what is raised goes where W says -/
theorem pcE (tk : Takes X W) (c : Cal X.prog X.w X.K X.mg X.base k x ps sp) (hr : RoomG k X.A) (hg : Gl X x) (ha : PA X (e :: es) t) (hdb : (x == ("__debug__" : Str)) = false := by decide) (he : starEach (e :: es) X.env = (false, eval e X.env) :: starEach es X.env := by rfl)
    (hpl : (backTo pos (starEach es X.env)).any (·.1) = false := by rfl) : PE X (.Call (.Name x p) (e :: es) [] pos) (tCallS sp (WE W) t) := by
  obtain ⟨f, fd, hm, hk, hb, F⟩ := c
  refine ⟨fun pins s σ H Q I h => wpAny_Call_Name_kw (ld_glob I hg hm ?_ hdb)⟩
  refine PySem.W.callWith_K (h₀ := X.base) I.ok.mod.kin hk (thn (ha.run pos pins s σ H _ I h) fun us s1 ⟨vs, H1, I1, r, q⟩ => ⟨I1.kIn, ?_⟩) he hpl
  exact runG F hr hb (fun e s' z => passAt tk σ pins H1 s1 e s' I1 z) I1 r q
/-- f(e, ..): nothing that is raised is let out -/
theorem pc (c : Cal X.prog X.w X.K X.mg X.base k x ps sp) (hr : RoomG k X.A) (hg : Gl X x) (ha : PA X (e :: es) t) (hdb : (x == ("__debug__" : Str)) = false := by decide) (he : starEach (e :: es) X.env = (false, eval e X.env) :: starEach es X.env := by rfl)
    (hpl : (backTo pos (starEach es X.env)).any (·.1) = false := by rfl) : PE X (.Call (.Name x p) (e :: es) [] pos) (fun σ H Q => t σ H fun vs H1 => sp vs H1 Q E0) := by
  obtain ⟨f, fd, hm, hk, hb, F⟩ := c
  refine ⟨fun pins s σ H Q I h => wpAny_Call_Name_kw (ld_glob I hg hm ?_ hdb)⟩
  refine PySem.W.callWith_K (h₀ := X.base) I.ok.mod.kin hk (thn (ha.run pos pins s σ H _ I h) fun us s1 ⟨vs, H1, I1, r, q⟩ => ⟨I1.kIn, ?_⟩) he hpl
  exact runG F hr hb (fun e s' z => passL pins σ H1 s1 e s' I1 z) I1 r q
theorem pc0 (c : Cal X.prog X.w X.K X.mg X.base k x [] sp) (hr : RoomG k X.A) (hg : Gl X x) (hdb : (x == ("__debug__" : Str)) = false := by decide) : PE X (.Call (.Name x p) [] [] pos) (fun _ H Q => sp [] H Q E0) := by
  obtain ⟨f, fd, hm, hk, hb, F⟩ := c
  refine ⟨fun pins s σ H Q I h => wpAny_Call_Name_kw (ld_glob I hg hm ?_ hdb)⟩
  exact PySem.W.callWith_K0 I.kIn hk (runG (us := []) F hr hb (fun e s' z => passL pins σ H s e s' I z) I .nil h)
end
theorem hug {k : Nat} {A : Around} (hr : RoomG k A) : A.units + 1 < cLine := hu_of hr.toRoom
/-- an own error class over ValueError, without an __init__ -/
structure ExcAt (K : PySem.W.Frag) (mg : Str → Option Value) (x : Str) (C : Addr) : Prop where
  g : mg x = some (.ref C)
  k : PySem.W.keepIn K (.ref C) = true
  b : PySem.W.subIn K (.ref C) (.type "BaseException") = some true
  t : PySem.W.typeIn K (.ref C) = some (.type "type")
  x : PySem.W.excIn K C [.type "ValueError", .type "Exception", .type "BaseException", .type "object"] "ValueError.__new__" = true
theorem b_str : bootBuiltins "str" = some (.type "str") := by decide +kernel
theorem b_tuple : bootBuiltins "tuple" = some (.type "tuple") := by decide +kernel
theorem b_dict : bootBuiltins "dict" = some (.type "dict") := by decide +kernel
theorem b_list : bootBuiltins "list" = some (.type "list") := by decide +kernel
/-- isinstance(e, T), T a built-in class -/
theorem pe_isi {X : Cx} {p p2 pos : Pos} {e : Expr} {te : TE} {n : String} {c : Str} (hm : X.mg "isinstance" = none) (hmc : X.mg c = none) (hv : bootBuiltins c = some (.type n)) (hg : Gl X "isinstance") (hgc : Gl X c) (he : PE X e te) (hn : c ≠ "__name__" := by decide)
    (hdb : (c == ("__debug__" : Str)) = false := by decide) (hst2 : starEach [e, .Name c p2] X.env = (false, eval e X.env) :: starEach [.Name c p2] X.env := by rfl) (hpl : (backTo pos (starEach [.Name c p2] X.env)).any (·.1) = false := by rfl) (hs3 : starEach [.Name c p2] X.env = (false, eval (.Name c p2) X.env) :: starEach [] X.env := by rfl) :
    PE X (.Call (.Name "isinstance" p) [e, .Name c p2] [] pos) (fun σ H Q => te σ H fun v H1 => rIsi X.K [v, .ty n] H1 Q) :=
  pe_callB call_isi hg hm (by decide +kernel) (pa_cons he (pa_cons (pe_bltn (v := .ty n) hgc hmc hv rfl hn hdb) pa_nil hs3) hst2) (by decide) (by decide) hst2 hpl
theorem isi_q {K : PySem.W.Frag} {H : Hp} {v : V} {t : Value} {n : String} {b : Bool} {Q : VK} (ty : TyX K H v t) (e : PySem.W.kitOne K t (.type n) = some b) (q : Q (.bl b) H) : rIsi K [v, .ty n] H Q := ⟨v, .ty n, t, _, b, rfl, .ty n, ty, e, q⟩
def Tg.isS : Tg → Bool
  | .str _ => true
  | _ => false
def Tg.isTu : Tg → Bool
  | .tup _ => true
  | _ => false
theorem isi_str {K : PySem.W.Frag} {H : Hp} {v : V} {t : Tg} {Q : VK} (h : Th K H v t) (q : Q (.bl t.isS) H) : rIsi K [v, .ty "str"] H Q := by
  cases h with
  | str x hx => exact isi_q (b := true) (.base (.str x)) (kit_ty (by decide +kernel)) q
  | oth ty a b => exact isi_q ty a q
  | tup h r => exact isi_q (b := false) (SqT.ty h) (kit_ty (by decide +kernel)) q
theorem isi_tup {K : PySem.W.Frag} {H : Hp} {v : V} {t : Tg} {Q : VK} (h : Th K H v t) (q : Q (.bl t.isTu) H) : rIsi K [v, .ty "tuple"] H Q := by
  cases h with
  | str x hx => exact isi_q (b := false) (.base (.str x)) (kit_ty (by decide +kernel)) q
  | oth ty a b => exact isi_q ty b q
  | tup h r => exact isi_q (b := true) (SqT.ty h) (kit_ty (by decide +kernel)) q
end N

namespace N
open PySem PySem.Spec PyProof.Rows L2
/-! ### kinds -/
inductive Kd where
  | L (c : Str) | C0 (n : Str) | C1 (n : Str) (a : Kd) | C2 (n : Str) (a b : Kd)
  deriving DecidableEq
namespace Kd
def args : Kd → List Kd
  | L _ => []
  | C0 _ => []
  | C1 _ a => [a]
  | C2 _ a b => [a, b]
def nm : Kd → Str
  | L c => c
  | C0 n => n
  | C1 n _ => n
  | C2 n _ _ => n
def isC : Kd → Bool
  | L _ => false
  | _ => true
def tg : Kd → Tg
  | L c => .str c
  | C0 n => .tup [.str n]
  | C1 n a => .tup [.str n, a.tg]
  | C2 n a b => .tup [.str n, a.tg, b.tg]
def ok : Kd → Prop
  | L c => isLet c = true
  | C0 n => isNam n = true
  | C1 n a => isNam n = true ∧ a.ok
  | C2 n a b => isNam n = true ∧ a.ok ∧ b.ok
def parts : Kd → List Kd
  | L c => [L c]
  | C0 n => [C0 n]
  | C1 n a => C1 n a :: a.parts
  | C2 n a b => C2 n a b :: (a.parts ++ b.parts)
def size : Kd → Nat
  | L _ => 0
  | C0 _ => 1
  | C1 _ a => 1 + a.size
  | C2 _ a b => 1 + a.size + b.size
def depth : Kd → Nat
  | L _ => 0
  | C0 _ => 1
  | C1 _ a => 1 + a.depth
  | C2 _ a b => 1 + max a.depth b.depth
/-- how many letters and names -/
def nds : Kd → Nat
  | L _ => 1
  | C0 _ => 1
  | C1 _ a => 1 + a.nds
  | C2 _ a b => 1 + a.nds + b.nds
theorem parts_eq (k : Kd) : k.parts = k :: k.args.flatMap parts := by
  cases k <;> simp [parts, args]
theorem tg_C {k : Kd} (h : k.isC = true) : k.tg = .tup (.str k.nm :: k.args.map tg) := by
  cases k <;> first | (cases h; done) | rfl
theorem tg_L {k : Kd} (h : k.isC = false) : k = L k.nm ∧ k.tg = .str k.nm := by
  cases k <;> first | (cases h; done) | exact ⟨rfl, rfl⟩
theorem isTu_tg (k : Kd) : k.tg.isTu = k.isC := by cases k <;> rfl
theorem isS_tg (k : Kd) : k.tg.isS = !k.isC := by cases k <;> rfl
theorem nds_parts (k : Kd) : k.parts.length = k.nds := by
  induction k with
  | L c => rfl
  | C0 n => rfl
  | C1 n a ih => simp [parts, nds, ih]; omega
  | C2 n a b ih1 ih2 => simp [parts, nds, ih1, ih2]; omega
theorem nds_pos (k : Kd) : 1 ≤ k.nds := by cases k <;> simp [nds] <;> omega
theorem nodes_tg (k : Kd) : k.tg.nodes ≤ 3 * k.nds := by
  induction k with
  | L c => simp [tg, nds, Tg.nodes]
  | C0 n => simp [tg, nds, Tg.nodes, nodesAll]
  | C1 n a ih => simp only [tg, nds, Tg.nodes, nodesAll]; omega
  | C2 n a b ih1 ih2 => simp only [tg, nds, Tg.nodes, nodesAll]; omega
theorem args_ok {k : Kd} (h : k.ok) : ∀ a ∈ k.args, a.ok := by
  cases k <;> simp only [args, ok] at * <;> simp_all
theorem isT_tg : ∀ {k : Kd}, k.ok → isT k.tg = true
  | L c, h => by
    show isT (.str c) = true
    simp only [isT]
    exact h
  | C0 n, h => by simp [tg, isT, isTAll, Tg.isNm, show isNam n = true from h]
  | C1 n a, h => by simp [tg, isT, isTAll, Tg.isNm, show isNam n = true from h.1, isT_tg h.2]
  | C2 n a b, h => by simp [tg, isT, isTAll, Tg.isNm, show isNam n = true from h.1, isT_tg h.2.1, isT_tg h.2.2]
theorem args_nds (k : Kd) : (k.args.map nds).sum + 1 ≤ k.nds := by
  cases k <;> simp [args, nds] <;> omega
theorem args_len (k : Kd) : k.args.length ≤ 2 := by cases k <;> simp [args]
end Kd
mutual
theorem of_isT : ∀ {t : Tg}, isT t = true → ∃ k : Kd, k.ok ∧ t = k.tg
  | .str x, h => ⟨.L x, by simpa [isT, Kd.ok] using h, rfl⟩
  | .oth, h => by simp [isT] at h
  | .tup [], h => by simp [isT] at h
  | .tup (n :: ts), h => by
    simp only [isT, Bool.and_eq_true, decide_eq_true_eq] at h
    obtain ⟨⟨h1, h2⟩, h3⟩ := h
    obtain ⟨ks, e, hk⟩ := of_isTAll h3
    match n, h2 with
    | .str x, h2 =>
      have h2' : isNam x = true := h2
      match ks, e with
      | [], e => exact ⟨.C0 x, h2', by rw [e]; rfl⟩
      | [a], e => exact ⟨.C1 x a, ⟨h2', hk a (by simp)⟩, by rw [e]; rfl⟩
      | [a, b], e => exact ⟨.C2 x a b, ⟨h2', hk a (by simp), hk b (by simp)⟩, by rw [e]; rfl⟩
      | a :: b :: c :: r, e => rw [e] at h1; simp at h1
theorem of_isTAll : ∀ {ts : List Tg}, isTAll ts = true → ∃ ks : List Kd, ts = ks.map Kd.tg ∧ ∀ k ∈ ks, k.ok
  | [], _ => ⟨[], rfl, fun k h => by cases h⟩
  | t :: ts, h => by
    simp only [isTAll, Bool.and_eq_true] at h
    obtain ⟨k, hk, e⟩ := of_isT h.1
    obtain ⟨ks, e2, hks⟩ := of_isTAll h.2
    exact ⟨k :: ks, by rw [e, e2]; rfl, fun z hz => by
      rcases List.mem_cons.mp hz with rfl | hz
      · exact hk
      · exact hks z hz⟩
end
/-- at v stands a kind; in vs kinds -/
abbrev Kp (K : PySem.W.Frag) (H : Hp) (v : V) (k : Kd) : Prop := Th K H v k.tg
abbrev Kps (K : PySem.W.Frag) (H : Hp) (vs : List V) (ks : List Kd) : Prop := ThAll K H vs (ks.map Kd.tg)
section
variable {K : PySem.W.Frag} {H : Hp}
theorem Kps.snoc {vs : List V} {ks : List Kd} (h : Kps K H vs ks) (hn : ks ≠ []) : ∃ v vs' k ks', vs = vs' ++ [v] ∧ ks = ks' ++ [k] ∧ Kp K H v k ∧ Kps K H vs' ks' := by
  obtain ⟨v, vs', t, ts', e1, e2, h1, h2⟩ := ThAll.snoc h (by simpa using hn)
  obtain ⟨ks', k, rfl⟩ : ∃ ks' k, ks = ks' ++ [k] := ⟨ks.dropLast, ks.getLast hn, (List.dropLast_concat_getLast hn).symm⟩
  rw [List.map_append, List.map_singleton] at e2
  obtain ⟨e3, e4⟩ := List.append_inj' e2 rfl
  cases e4
  exact ⟨v, vs', k, ks', e1, rfl, h1, by rw [← e3] at h2; exact h2⟩
theorem kp_L {v : V} {k : Kd} (h : Kp K H v k) (c : k.isC = false) : v = .str k.nm ∧ k.nm.length ≤ 100000 := by
  obtain ⟨_, e⟩ := Kd.tg_L c
  have h' : Th K H v (.str k.nm) := by rw [← e]; exact h
  cases h' with
  | str x hx => exact ⟨rfl, hx⟩
theorem kp_C {v : V} {k : Kd} (h : Kp K H v k) (c : k.isC = true) : ∃ (a : Addr) (xs : List V), v = .ref a ∧ SqT K H a (.str k.nm :: xs) ∧ k.nm.length ≤ 100000 ∧ Kps K H xs k.args := by
  have h' : Th K H v (.tup (.str k.nm :: k.args.map Kd.tg)) := by rw [← Kd.tg_C c]; exact h
  cases h' with
  | @tup a xs ts h r =>
    cases r with
    | @cons y ys n ts hy r =>
      cases hy with
      | str x hx => exact ⟨a, ys, rfl, h, hx, r⟩
theorem kp_mk {a : Addr} {k : Kd} {xs : List V} (c : k.isC = true) (h : SqT K H a (.str k.nm :: xs)) (hx : k.nm.length ≤ 100000) (r : Kps K H xs k.args) : Kp K H (.ref a) k := by
  show Th K H (.ref a) k.tg
  rw [Kd.tg_C c]
  exact .tup h (.cons (.str _ hx) r)
theorem ThAll.rev {vs : List V} {ts : List Tg} (h : ThAll K H vs ts) : ThAll K H vs.reverse ts.reverse := by
  induction vs generalizing ts with
  | nil => cases h; exact .nil
  | cons v vs ih =>
    cases h with
    | cons h r =>
      rw [List.reverse_cons, List.reverse_cons]
      exact (ih r).app (.cons h .nil)
theorem Kps.rev {vs : List V} {ks : List Kd} (h : Kps K H vs ks) : Kps K H vs.reverse ks.reverse := by
  have := ThAll.rev h
  rw [← List.map_reverse] at this
  exact this
theorem Kps.app {vs ws : List V} {ks js : List Kd} (h : Kps K H vs ks) (h2 : Kps K H ws js) : Kps K H (vs ++ ws) (ks ++ js) := by
  have := ThAll.app h h2
  rw [← List.map_append] at this
  exact this
theorem Kps.length {vs : List V} {ks : List Kd} (h : Kps K H vs ks) : vs.length = ks.length := by
  have := ThAll.length h
  rw [List.length_map] at this
  exact this
end
end N

namespace N
open PySem PySem.Spec PyProof.Rows L2
/-! ### the end of a law over such promises -/
section
variable {P : Program} {w : World} {K : PySem.W.Frag} {mg mb : Str → Option Value} {CX : CXT} {k : Nat} {fa a : Addr} {fd : FuncData} {x : Str} {sp : Sp} {s₁ : Shared} {vs : List Value} {ns : List Int}
/-- the law is run where at most the script is tracked -/
theorem run_law (H : Hp) (KX : K.In s₁.heap) (hns : s₁.heap.Ns mainGlobals mg) (hb : s₁.heap.Ns builtinsNs mb) (hbb : ∀ x : Str, x ≠ "__name__" → mb x = bootBuiltins x) (hlim : s₁.heap.NoLimit) (hg : s₁.gens = #[])
    (ha : s₁.heap.get? a = some { cls := .type "list", data := .seq vs.toArray }) (hr : Room k callerA) (F : ∀ base : Heap, K.In base → base.Ns mainGlobals mg → FnG P w K mg base CX k fa fd [x] sp) (hbind : ∀ (s : Shared) (u : Value), BindsTo s fd ⟨[u], []⟩ [(x, u)])
    (hsp : sp [.ref a] H (fun v _ => v = .bl true) fun _ _ _ => False) (hCX : ∀ e s', CX [] H s₁ (fun _ _ _ => False) e s' → False) (hO : Only H) (hok : HOk P w H s₁.heap) (hA : ∀ b, H b ≠ none → b = a) (hK : H a ≠ none → K.lookup a = none) :
    codeAny (model P w) callerA (.call (.ref fa) ⟨[.ref a], []⟩) (fun r s' => r = .ok (.ret (.bool true)) ∧ OldK s₁.heap s'.heap ∧ s'.os = s₁.os ∧ AllBare s'.gens) s₁ := by
  have free : ∀ {b : Addr}, b ≠ a → H b = none := fun {b} n => by
    cases q : H b with
    | none => rfl
    | some u => exact absurd (hA b (by rw [q]; exact fun z => by cases z)) n
  have nsK : ∀ {b : Addr} {m : Str → Option Value}, s₁.heap.Ns b m → (hidT s₁.heap H).Ns b m := fun {b m} ⟨o, es, ep, e, d, r⟩ => by
    have nb : b ≠ a := fun z => by
      subst z
      rw [ha] at e
      cases e
      have d' : Data.seq vs.toArray _ = Data.dict es ep := d
      cases d'
    exact ⟨o, es, ep, hidT_get e (free nb), d, r⟩
  have hKb : K.In (hidT s₁.heap H) := fun b o e => hidT_get (KX b o e) (by
    by_cases nb : b = a
    · subst nb
      cases q : H b with
      | none => rfl
      | some u =>
        have := hK (by rw [q]; exact fun z => by cases z)
        rw [this] at e
        cases e
    · exact free nb)
  have hM : Mod K mg (hidT s₁.heap H) := ⟨hKb, nsK hns, ⟨mb, nsK hb, hbb⟩, let ⟨mc, h1, h2⟩ := hlim; ⟨mc, nsK h1, h2⟩⟩
  have e0 : Env0 P w K mg (hidT s₁.heap H) callerA [] s₁ H := ⟨rfl, hM, fun b o e => of_hidT e, Nat.le_of_eq (hidT_size _ _), trivial, fun b hb => absurd (show b ∈ ([] : List Addr) from hb) (by simp), hok, .of_eq hg⟩
  have go := (F _ hKb (nsK hns)).run callerA [] s₁ H ⟨[.ref a], []⟩ [.ref a] [.ref a] (fun v _ => v = .bl true) (fun _ _ _ => False) (roomG_caller hr) e0 (hbind s₁ (.ref a)) (.cons rfl .nil) hsp
  refine codeAny_mono go fun r s' h => ?_
  match r, h with
  | .error e, h => exact (hCX e s' h).elim
  | .ok .next, h => exact False.elim h
  | .ok .brk, h => exact False.elim h
  | .ok .cont, h => exact False.elim h
  | .ok (.ret u), h =>
    obtain ⟨v, H', os, bare, un, hok', r', q⟩ := h
    have q' : v = .bl true := q
    subst q'
    obtain rfl : u = Value.bool true := r'
    refine ⟨rfl, OldK.of_keep fun b o e => ?_, os, bare⟩
    cases q : H b with
    | none => exact un.keep b o e q (by intro z; exact absurd (show b ∈ ([] : List Addr) from z) (by simp)) (by simp)
    | some u =>
      rcases hO b with z | ⟨ob, xs, z⟩
      · rw [q] at z; cases z
      · have e1 := (hok b _ z).1
        have e2 := (hok' b _ (un.frzs b ob _ z)).1
        rw [e] at e1
        cases e1
        exact e2
end
theorem walkG {l : PySem.W.OpenLaw} {n k : Nat} {q : Program} {loose : List Str} {XP : (Str → Option Value) → Heap → Prop} {YP : World → Heap → Prop} {d : DefRec} {K : Params → PySem.W.Frag} {CX : World → CXT} {sp : World → Sp} {x : Str}
    (hn : l.most = some n) (hn2 : n ≤ sizeLine) (hdf : d.params.defaults = []) (hr : Room k callerA) (hY : ∀ (w : World) (h : Heap), YP w h → (K w.params).In h)
    (F : ∀ (w : World) (mg : Str → Option Value) (fa : Addr) (h : Heap), (K w.params).In h → h.Ns mainGlobals mg → mg d.name = some (.ref fa) →
      ∃ fd : FuncData, (∀ (s : Shared) (u : Value), BindsTo s fd ⟨[u], []⟩ [(x, u)]) ∧ ∀ base : Heap, (K w.params).In base → base.Ns mainGlobals mg → FnG l.prog w (K w.params) mg base (CX w) k fa fd [x] (sp w))
    (hsp : ∀ (w : World) (H : Hp) (a : Addr) (ns : List Int), ns.length ≤ n → Only H → SqL (K w.params) H a (ns.map V.int) → sp w [.ref a] H (fun v _ => v = .bl true) fun _ _ _ => False)
    (hCX : ∀ (w : World) (H : Hp) (s : Shared) (e : Value) (s' : Shared), CX w [] H s (fun _ _ _ => False) e s' → False) : PySem.W.WalkO q loose XP YP l.row.toRowW d [] (fun f vs => PySem.call f vs) := by
  refine Att.attach_call hn hdf fun w s₀ s₁ mg mb fa o pm cd doc a vs ns G Y ho hd hcd hmg ha hi hlen hg => ?_
  have KX := hY w _ Y
  obtain ⟨fd, hb, hF⟩ := F w mg fa _ KX G.T.g hmg
  have rv := vals_ints hi
  have lenV := hi.length
  have hl : ns.length ≤ sizeLine := Nat.le_trans hlen hn2
  have one := fun (H : Hp) (hO : Only H) (hS : SqL (K w.params) H a (ns.map V.int)) => run_law H KX G.T.g G.T.b G.T.builtins G.T.nolimit hg ha hr hF hb (hsp w H a ns hlen hO hS) (fun e s' => hCX w H s₁ e s') hO
  cases hk : (K w.params).lookup a with
  | some o' =>
    have e := KX a o' hk
    rw [ha] at e
    cases e
    refine one (fun _ => none) (fun _ => .inl rfl) (.inr ⟨_, vs.toArray, _, hk, rfl, rfl, rfl, by rw [List.size_toArray, lenV]; exact hl, by simpa using rv⟩) (fun b u z => ?_) (fun b z => absurd rfl z) fun z => absurd rfl z
    have z' : (none : Option HO) = some u := z
    cases z'
  | none =>
    have ya : ∀ {b : Addr} {u : HO}, (if b = a then some (HO.frz { cls := .type "list", data := .seq vs.toArray } (.lst (ns.map V.int))) else none) = some u → b = a ∧ u = .frz { cls := .type "list", data := .seq vs.toArray } (.lst (ns.map V.int)) := fun {b u} z => by
      by_cases hb : b = a
      · rw [if_pos hb] at z
        exact ⟨hb, (Option.some.inj z).symm⟩
      · rw [if_neg hb] at z
        cases z
    refine one (fun b => if b = a then some (.frz { cls := .type "list", data := .seq vs.toArray } (.lst (ns.map V.int))) else none) (fun b => ?_) (.inl (.inr ⟨{ cls := .type "list", data := .seq vs.toArray }, if_pos rfl⟩)) (fun b u z => ?_) (fun b z => ?_) fun _ => hk
    · by_cases hb : b = a
      · exact .inr ⟨_, _, if_pos hb⟩
      · exact .inl (if_neg hb)
    · obtain ⟨e1, e2⟩ := ya z
      subst e1 e2
      exact ⟨ha, by rw [List.length_map]; exact hl, vs, _, rv, ha⟩
    · by_cases hb : b = a
      · exact hb
      · exact absurd (if_neg hb) z
end N

namespace N
open PySem PySem.Spec PyProof.Rows L2
/-! ### repr of data -/
/-- repr(x), x a list or a tuple of data without dicts -/
def rRepr (K : PySem.W.Frag) : List V → Hp → VK → Prop := fun xs H Q => ∃ (a : Addr) (d : PyData), xs = [V.ref a] ∧ Dp K H (.ref a) d ∧ d.showable = true ∧ d.hasDict = false ∧ d.depth ≤ 60 ∧ d.shown.length ≤ sizeLine ∧ Q (.str d.shown) H
theorem call_repr {X : Cx} {k : Nat} (hr : RoomG k X.A) : CallR X (.builtin "repr") (rRepr X.K) := by
  intro pins s σ H xs us Q I r h
  obtain ⟨a, d, rfl, hd, hs, hn, hdp, hz, q⟩ := h
  obtain ⟨u, rfl, ru⟩ := vals1 r
  cases (show u = Value.ref a from ru)
  obtain ⟨as, rd⟩ := Dp.reads I d _ _ hd rfl
  have hun := hr.toRoom.units
  exact repr_of_reads' rd hs (PyData.noDict_hsm hn) hr.gs (by omega) (fun b o e => e) (fun h' u tk hk => ⟨.str d.shown, H, I.kept (t' := tk) hk, ⟨_, rfl⟩, q⟩) hz
end N

namespace N
open PySem PySem.Spec PyProof.Rows L2
namespace Kd
theorem size_parts (k : Kd) : k.size = (k.parts.filter isC).length := by
  induction k with
  | L c => rfl
  | C0 n => rfl
  | C1 n a ih =>
    show 1 + a.size = ((C1 n a :: a.parts).filter isC).length
    rw [List.filter_cons_of_pos (by rfl), List.length_cons, ih]
    omega
  | C2 n a b ih1 ih2 =>
    show 1 + a.size + b.size = ((C2 n a b :: (a.parts ++ b.parts)).filter isC).length
    rw [List.filter_cons_of_pos (by rfl), List.length_cons, List.filter_append, List.length_append, ih1, ih2]
    omega
theorem nds_le (k : Kd) : k.nds ≤ k.tg.nodes := by
  induction k with
  | L c => simp [tg, nds, Tg.nodes]
  | C0 n => simp [tg, nds, Tg.nodes, nodesAll]
  | C1 n a ih => simp only [tg, nds, Tg.nodes, nodesAll]; omega
  | C2 n a b ih1 ih2 => simp only [tg, nds, Tg.nodes, nodesAll]; omega
end Kd
section
variable {K : PySem.W.Frag}
theorem Kps.at {H : Hp} : ∀ {vs : List V} {ks : List Kd} {i : Nat} {x : V}, Kps K H vs ks → vs[i]? = some x → ∃ k, ks[i]? = some k ∧ Kp K H x k
  | _, [], i, x, .nil, h => by simp at h
  | _, k :: ks, 0, x, .cons r _, h => by
    simp at h
    subst h
    exact ⟨k, rfl, r⟩
  | _, k :: ks, i + 1, x, .cons _ t, h => by
    obtain ⟨k', e, r⟩ := Kps.at (ks := ks) (i := i) (x := x) t (by simpa using h)
    exact ⟨k', by simpa using e, r⟩
theorem take_snoc {α : Type} {l : List α} {i : Nat} {x : α} (h : l[i]? = some x) : l.take (i + 1) = l.take i ++ [x] := by rw [List.take_add_one, h]; rfl
end
end N

namespace N
open PySem PySem.Spec PyProof.Rows L2
/-! ### set(texts): how many differ -/
theorem nodup_snoc {l : List Str} {x : Str} : (l ++ [x]).Nodup ↔ l.Nodup ∧ x ∉ l := by
  rw [List.nodup_append]
  constructor
  · intro ⟨a, _, c⟩
    exact ⟨a, fun h => c x h x (List.mem_singleton.mpr rfl) rfl⟩
  · intro ⟨a, b⟩
    refine ⟨a, by simp, fun u hu v hv e => ?_⟩
    rw [List.mem_singleton.mp hv] at e
    exact b (e ▸ hu)
section
variable {prog : Program} {w : World} {A : Around}
theorem loopTx {R : Result → Shared → Prop} {I : Addr} {fp wr : List Addr} {G : Array GenState → Array GenState → Prop} {n : Nat} {P : Nat → Value → Prop} {St : Nat → Shared → Prop} (W : WalksS prog w A.in1 I fp wr G n P St) (S : Addr) (hSf : S ∉ fp) (xs : List Str) (hsz : xs.length = n) (hb : n + 1 < scanBound)
    (hval : ∀ i v, P i v → ∃ t, v = .str (xs.getD i Str.empty) t) : ∀ (k i c : Nat) (s : Shared), n - i = k → i ≤ n → St i s → s.heap.SetOf (PySem.strKind prog w) S (fun y => decide (y ∈ xs.take i)) c → c ≤ i → (c = i ↔ (xs.take i).Nodup) →
      (∀ s' c', Moved (S :: wr) G s s' → s'.heap.SetOf (PySem.strKind prog w) S (fun y => decide (y ∈ xs)) c' → c' ≤ n → (c' = n ↔ xs.Nodup) → R (.ok (.ret .none)) s') →
      codeAny (model prog w) A (.builtin "set.update.loop" ⟨[.ref S, .ref I], []⟩) R s := by
  have hSw : S ∉ wr := fun h => hSf (W.sub _ h)
  have up : ∀ b ∈ wr, b ∈ S :: wr := fun b h => List.mem_cons_of_mem _ h
  have stay : ∀ {s s' : Shared} {T : Str → Bool} {c : Nat}, Moved wr G s s' → s.heap.SetOf (PySem.strKind prog w) S T c → s'.heap.SetOf (PySem.strKind prog w) S T c := fun m h => by
    obtain ⟨o, es, ep, t, ho, r⟩ := h
    exact ⟨o, es, ep, t, m.heap S _ hSw ho, r⟩
  intro k
  induction k with
  | zero =>
    intro i c s hk hi hst hS hc hd hR
    obtain rfl : i = n := by omega
    have et : xs.take i = xs := List.take_of_length_le (by omega)
    rw [et] at hd hS
    refine codeAny_builtin PyProof.Rows.F.entry_set_update_loop ?_
    rw [Around.under_plainId PyProof.Rows.F.plain_set_update_loop _]
    show wpAny _ A.in1 (pyNext (.ref I) >>= _) _ _ s
    refine wpAny_bind (W.done s _ _ hst fun s' hm => ?_)
    show wpAny _ A.in1 (ret Value.none) _ _ s'
    exact wpAny_pure (hR s' c (hm.mono up) (stay hm hS) hc hd)
  | succ k ih =>
    intro i c s hk hi hst hS hc hd hR
    have hlt : i < n := by omega
    refine codeAny_builtin PyProof.Rows.F.entry_set_update_loop ?_
    rw [Around.under_plainId PyProof.Rows.F.plain_set_update_loop _]
    show wpAny _ A.in1 (pyNext (.ref I) >>= _) _ _ s
    refine wpAny_bind (W.item i s _ _ hlt hst fun v s' hP hst' hm => ?_)
    obtain ⟨t, rfl⟩ := hval i v hP
    have ex : xs[i]? = some (xs.getD i Str.empty) := by
      rw [List.getD_eq_getElem?_getD, List.getElem?_eq_getElem (by omega)]
      rfl
    have et : xs.take (i + 1) = xs.take i ++ [xs.getD i Str.empty] := by rw [List.take_add_one, ex]; rfl
    show wpAny _ A.in1 (holding [Value.str (xs.getD i Str.empty) t] (setAdd S (.str (xs.getD i Str.empty) t)) >>= _) _ _ s'
    refine wpAny_bind (wpAny_holding ?_)
    unfold setAdd
    refine wpAny_holding ?_
    refine wpAny_bind ((PySem.strKind prog w).pyHash (k := xs.getD i Str.empty) (strKind_is _ _ _ _) ?_)
    have hS1 := stay hm hS
    refine wpAny_setAddHashed_of (knd := PySem.strKind prog w) (s := { s' with toks := s'.toks + 1 }) (strKind_is _ _ _ _) rfl hS1 (by omega) fun h' hsb hS2 => ?_
    have hS3 := SetOf_congr (S' := fun y => decide (y ∈ xs.take (i + 1))) hS2 (fun y => by
      rw [et]
      by_cases h1 : y ∈ xs.take i <;> by_cases h2 : y = xs.getD i Str.empty <;> simp [h1, h2]) rfl
    refine wpAny_pure ⟨plainId_quiet PyProof.Rows.F.plain_set_update_loop _, ih (i + 1) _ _ (by omega) hlt (W.frame _ s' _ _ hst' (Nat.le_succ _) fun b hb o e => ?_) hS3 ?_ ?_ fun s'' c'' hm'' hS'' hc'' hd'' => ?_⟩
    · rw [hsb.2 b (fun h : b = S => hSf (by rw [← h]; exact hb))]
      exact e
    · split <;> omega
    · rw [et, nodup_snoc, ← hd]
      by_cases h1 : xs.getD i Str.empty ∈ xs.take i
      · rw [if_pos (decide_eq_true h1)]
        exact ⟨fun h => by omega, fun h => absurd h1 h.2⟩
      · rw [if_neg (by simpa using h1)]
        exact ⟨fun h => ⟨by omega, h1⟩, fun h => by omega⟩
    · refine hR s'' c'' (Moved.trans W.gtrans ((hm.mono up).then_heap (Nat.le_succ _) fun b o hb e => ?_) hm'') hS'' hc'' hd''
      rw [hsb.2 b (fun h : b = S => hb (by rw [h]; exact List.mem_cons_self))]
      exact e
set_option maxHeartbeats 3200000 in
theorem call_setTx_list {E : Value → Shared → Prop} {s : Shared} {l : Addr} {items : Array Value} {xs : List Str} {Q : Value → Shared → Prop} (hh : A.handled = none) (hl : s.heap.IsList l items) (hi : PyProof.Rows.StrsAre items.toList xs) (hb : xs.length + 1 < scanBound)
    (h : ∀ (h' : Heap) (tk c : Nat), h'.SetOf (PySem.strKind prog w) s.heap.objs.size (fun y => decide (y ∈ xs)) c → c ≤ xs.length → (c = xs.length ↔ xs.Nodup) → (∀ b o, b < s.heap.objs.size → s.heap.get? b = some o → h'.get? b = some o) → Q (.ref s.heap.objs.size) { s with heap := h', toks := tk }) :
    wpAny (model prog w) A (call (.type "set") [.ref l]) Q E s := by
  obtain ⟨c0, tl, hmro⟩ := PySem.F.called_set.mro
  have hmade := PySem.F.called_set.made
  have hsub := PySem.F.called_set.sub
  refine wpAny_call (codeAny_of_tree ?_)
  show wpAny _ _ (callAny (.type "set") _) _ _ _
  refine wpAny_pure ⟨Code.quiet_builtin _ (by decide +kernel), codeAny_builtin PySem.F.entry_type_call ?_⟩
  rw [Around.under_plain (weight_type_call_type "set" [.ref l] []) rfl]
  have k1 := PySem.F.called_set.notType
  have k2 := PySem.F.called_set.canCreate
  have k3 := PySem.F.typeCall_set_1 (.ref l)
  repeat (any_goals (first | assumption | wp_step))
  refine codeAny_mono (code_set_new_1 (.ref l) (E := E) (Q₁ := fun obj t => ∃ led : Bool, obj = .ref s.heap.objs.size ∧ t = { s with heap := s.heap.push { cls := .type "set", dict := none, data := .set #[] 0 (.fresh 0 0 led) } }) fun led => ⟨led, rfl, rfl⟩) fun r t hr => ?_
  match r, hr with
  | .error e, hr => exact hr
  | .ok .next, hr => exact hr.elim
  | .ok .brk, hr => exact hr.elim
  | .ok .cont, hr => exact hr.elim
  | .ok (.ret obj), hr =>
    obtain ⟨led, rfl, rfl⟩ := hr
    have hS : (s.heap.push { cls := .type "set", dict := none, data := .set #[] 0 (.fresh 0 0 led) }).get? s.heap.objs.size = some { cls := .type "set", dict := none, data := .set #[] 0 (.fresh 0 0 led) } := Heap.get?_push_size _ rfl
    have hT : Shared.TypeIs { s with heap := s.heap.push { cls := .type "set", dict := none, data := .set #[] 0 (.fresh 0 0 led) } } (.ref s.heap.objs.size) "set" := ⟨_, hS, rfl⟩
    have hli := PySem.F.called_set.init.lookup
    have hbi := PySem.F.called_set.init.bind (.ref s.heap.objs.size)
    repeat (any_goals (first | assumption | wp_step))
    refine codeAny_mono (codeAny_call_builtin (R := wants (fun r t => r = .none ∧ ∃ h' tk c, t = { s with heap := h', toks := tk } ∧ h'.SetOf (PySem.strKind prog w) s.heap.objs.size (fun y => decide (y ∈ xs)) c ∧ c ≤ xs.length ∧ (c = xs.length ↔ xs.Nodup) ∧
      (∀ b o, b < s.heap.objs.size → s.heap.get? b = some o → h'.get? b = some o)) E) PySem.F.called_set.init.plain PySem.F.entry_set_init (check_set_init_1 hT ?_)) fun r t hr => ?_
    · obtain ⟨⟨_, od, _, os⟩, hol, hc1, nl, hd1⟩ := hl
      simp only at hc1 hd1
      subst hc1
      subst hd1
      have hol' : (s.heap.push { cls := .type "set", dict := none, data := .set #[] 0 (.fresh 0 0 led) }).get? l = some { cls := .type "list", dict := od, data := .seq items nl, slots := os } := Heap.get?_push_of_some _ hol
      have hsls := PySem.F.sub_list_set
      have hslf := PySem.F.sub_list_frozenset
      have hne : (Value.type "list" == Value.type "dict") = false := by decide
      have hl1 : (s.heap.push { cls := .type "set", dict := none, data := .set #[] 0 (.fresh 0 0 led) }).IsList l items := ⟨_, hol', rfl, nl, rfl⟩
      unfold Builtin.«set.__init__» noKeywords Builtin.Frozenset.updateFrom
      generalize hPI : pyIter = PI
      wp_walk
      subst hPI
      refine wpAny_pyIter_list hl1 ?_
      refine wpAny_bind (wpAny_runValue ?_)
      have hlS : l < s.heap.objs.size := Heap.lt_size hol
      have hh3 : A.in1.in1.in1.handled = none := by simp [hh]
      have hz : (s.heap.push { cls := .type "set", dict := none, data := .set #[] 0 (.fresh 0 0 led) }).objs.size = s.heap.objs.size + 1 := Heap.size_push ..
      have hneI : l ≠ (s.heap.push { cls := .type "set", dict := none, data := .set #[] 0 (.fresh 0 0 led) }).objs.size := by
        rw [Heap.size_push]
        exact Nat.ne_of_lt (Nat.lt_succ_of_lt hlS)
      have hsz : xs.length = items.size := by rw [← StrsAre.len_eq hi, Array.length_toList]
      refine loopTx ((Walks.list hh3 _ l hneI items).toS) s.heap.objs.size ?f xs hsz (by omega) (fun i v hv => SS.strs_at hi i v (by rw [Array.getElem?_toList]; exact hv)) (items.size - 0) 0 0 _ (by omega) (Nat.zero_le _) ⟨⟨_, Heap.get?_push_size _ rfl, rfl, rfl⟩, (hl1.push _)⟩ ?st (Nat.le_refl 0) ⟨fun _ => List.nodup_nil, fun _ => rfl⟩ ?r
      case f =>
        rw [Heap.size_push]
        simp only [List.mem_cons, List.not_mem_nil, or_false, not_or]
        exact ⟨Nat.ne_of_lt (Nat.lt_succ_self _), Nat.ne_of_gt hlS⟩
      case st =>
        exact PyProof.Rows.SetOf_congr ((PyProof.Rows.setObjOf_fresh (knd := PySem.strKind prog w) led).setOf (Heap.get?_push_of_some _ hS) (by omega)) (fun y => by simp) rfl
      case r =>
        intro s' c' hm hS' hc' hd'
        obtain ⟨h', g', d', tk', os'⟩ := s'
        have eg : g' = s.gens := hm.gens
        have ed : d' = s.drawn := hm.drawn
        have eo : os' = s.os := hm.os
        subst eg ed eo
        refine wpAny_pure ?_
        show wpAny _ _ (ret Value.none) _ _ _
        refine wpAny_pure ⟨rfl, h', tk', c', rfl, hS', by omega, by rw [hsz]; exact hd', fun b o hb e => ?_⟩
        refine hm.heap b o ?_ (Heap.get?_push_of_some _ (Heap.get?_push_of_some _ e))
        rw [Heap.size_push]
        simp only [List.mem_cons, List.not_mem_nil, or_false, not_or]
        exact ⟨Nat.ne_of_lt hb, Nat.ne_of_lt (Nat.lt_succ_of_lt hb)⟩
    · match r, hr with
      | .error e, hr => exact hr
      | .ok .next, hr => exact hr.elim
      | .ok .brk, hr => exact hr.elim
      | .ok .cont, hr => exact hr.elim
      | .ok (.ret v), hr =>
        obtain ⟨rfl, h', tk, c, rfl, hS', hc, hd, hk⟩ := hr
        repeat (any_goals (first | assumption | wp_step))
        exact h _ _ c hS' hc hd hk
set_option maxHeartbeats 3200000 in
theorem call_setTx_tuple {E : Value → Shared → Prop} {s : Shared} {l : Addr} {items : Array Value} {xs : List Str} {Q : Value → Shared → Prop} (hh : A.handled = none) (hl : s.heap.IsTuple l items) (hi : PyProof.Rows.StrsAre items.toList xs) (hb : xs.length + 1 < scanBound)
    (h : ∀ (h' : Heap) (tk c : Nat), h'.SetOf (PySem.strKind prog w) s.heap.objs.size (fun y => decide (y ∈ xs)) c → c ≤ xs.length → (c = xs.length ↔ xs.Nodup) → (∀ b o, b < s.heap.objs.size → s.heap.get? b = some o → h'.get? b = some o) → Q (.ref s.heap.objs.size) { s with heap := h', toks := tk }) :
    wpAny (model prog w) A (call (.type "set") [.ref l]) Q E s := by
  obtain ⟨c0, tl, hmro⟩ := PySem.F.called_set.mro
  have hmade := PySem.F.called_set.made
  have hsub := PySem.F.called_set.sub
  refine wpAny_call (codeAny_of_tree ?_)
  show wpAny _ _ (callAny (.type "set") _) _ _ _
  refine wpAny_pure ⟨Code.quiet_builtin _ (by decide +kernel), codeAny_builtin PySem.F.entry_type_call ?_⟩
  rw [Around.under_plain (weight_type_call_type "set" [.ref l] []) rfl]
  have k1 := PySem.F.called_set.notType
  have k2 := PySem.F.called_set.canCreate
  have k3 := PySem.F.typeCall_set_1 (.ref l)
  repeat (any_goals (first | assumption | wp_step))
  refine codeAny_mono (code_set_new_1 (.ref l) (E := E) (Q₁ := fun obj t => ∃ led : Bool, obj = .ref s.heap.objs.size ∧ t = { s with heap := s.heap.push { cls := .type "set", dict := none, data := .set #[] 0 (.fresh 0 0 led) } }) fun led => ⟨led, rfl, rfl⟩) fun r t hr => ?_
  match r, hr with
  | .error e, hr => exact hr
  | .ok .next, hr => exact hr.elim
  | .ok .brk, hr => exact hr.elim
  | .ok .cont, hr => exact hr.elim
  | .ok (.ret obj), hr =>
    obtain ⟨led, rfl, rfl⟩ := hr
    have hS : (s.heap.push { cls := .type "set", dict := none, data := .set #[] 0 (.fresh 0 0 led) }).get? s.heap.objs.size = some { cls := .type "set", dict := none, data := .set #[] 0 (.fresh 0 0 led) } := Heap.get?_push_size _ rfl
    have hT : Shared.TypeIs { s with heap := s.heap.push { cls := .type "set", dict := none, data := .set #[] 0 (.fresh 0 0 led) } } (.ref s.heap.objs.size) "set" := ⟨_, hS, rfl⟩
    have hli := PySem.F.called_set.init.lookup
    have hbi := PySem.F.called_set.init.bind (.ref s.heap.objs.size)
    repeat (any_goals (first | assumption | wp_step))
    refine codeAny_mono (codeAny_call_builtin (R := wants (fun r t => r = .none ∧ ∃ h' tk c, t = { s with heap := h', toks := tk } ∧ h'.SetOf (PySem.strKind prog w) s.heap.objs.size (fun y => decide (y ∈ xs)) c ∧ c ≤ xs.length ∧ (c = xs.length ↔ xs.Nodup) ∧
      (∀ b o, b < s.heap.objs.size → s.heap.get? b = some o → h'.get? b = some o)) E) PySem.F.called_set.init.plain PySem.F.entry_set_init (check_set_init_1 hT ?_)) fun r t hr => ?_
    · obtain ⟨⟨_, od, _, os⟩, hol, hc1, nl, hd1⟩ := hl
      simp only at hc1 hd1
      subst hc1
      subst hd1
      have hol' : (s.heap.push { cls := .type "set", dict := none, data := .set #[] 0 (.fresh 0 0 led) }).get? l = some { cls := .type "tuple", dict := od, data := .seq items nl, slots := os } := Heap.get?_push_of_some _ hol
      have hsls := PySem.F.sub_tuple_set
      have hslf := PySem.F.sub_tuple_frozenset
      have hne : (Value.type "tuple" == Value.type "dict") = false := by decide
      have hl1 : (s.heap.push { cls := .type "set", dict := none, data := .set #[] 0 (.fresh 0 0 led) }).IsTuple l items := ⟨_, hol', rfl, nl, rfl⟩
      unfold Builtin.«set.__init__» noKeywords Builtin.Frozenset.updateFrom
      generalize hPI : pyIter = PI
      wp_walk
      subst hPI
      refine wpAny_pyIter_tuple hl1 ?_
      refine wpAny_bind (wpAny_runValue ?_)
      have hlS : l < s.heap.objs.size := Heap.lt_size hol
      have hh3 : A.in1.in1.in1.handled = none := by simp [hh]
      have hz : (s.heap.push { cls := .type "set", dict := none, data := .set #[] 0 (.fresh 0 0 led) }).objs.size = s.heap.objs.size + 1 := Heap.size_push ..
      have hneI : l ≠ (s.heap.push { cls := .type "set", dict := none, data := .set #[] 0 (.fresh 0 0 led) }).objs.size := by
        rw [Heap.size_push]
        exact Nat.ne_of_lt (Nat.lt_succ_of_lt hlS)
      have hsz : xs.length = items.size := by rw [← StrsAre.len_eq hi, Array.length_toList]
      refine loopTx ((Walks.tuple hh3 _ l hneI items).toS) s.heap.objs.size ?f xs hsz (by omega) (fun i v hv => SS.strs_at hi i v (by rw [Array.getElem?_toList]; exact hv)) (items.size - 0) 0 0 _ (by omega) (Nat.zero_le _) ⟨⟨_, Heap.get?_push_size _ rfl, rfl, rfl⟩, (hl1.push _)⟩ ?st (Nat.le_refl 0) ⟨fun _ => List.nodup_nil, fun _ => rfl⟩ ?r
      case f =>
        rw [Heap.size_push]
        simp only [List.mem_cons, List.not_mem_nil, or_false, not_or]
        exact ⟨Nat.ne_of_lt (Nat.lt_succ_self _), Nat.ne_of_gt hlS⟩
      case st =>
        exact PyProof.Rows.SetOf_congr ((PyProof.Rows.setObjOf_fresh (knd := PySem.strKind prog w) led).setOf (Heap.get?_push_of_some _ hS) (by omega)) (fun y => by simp) rfl
      case r =>
        intro s' c' hm hS' hc' hd'
        obtain ⟨h', g', d', tk', os'⟩ := s'
        have eg : g' = s.gens := hm.gens
        have ed : d' = s.drawn := hm.drawn
        have eo : os' = s.os := hm.os
        subst eg ed eo
        refine wpAny_pure ?_
        show wpAny _ _ (ret Value.none) _ _ _
        refine wpAny_pure ⟨rfl, h', tk', c', rfl, hS', by omega, by rw [hsz]; exact hd', fun b o hb e => ?_⟩
        refine hm.heap b o ?_ (Heap.get?_push_of_some _ (Heap.get?_push_of_some _ e))
        rw [Heap.size_push]
        simp only [List.mem_cons, List.not_mem_nil, or_false, not_or]
        exact ⟨Nat.ne_of_lt hb, Nat.ne_of_lt (Nat.lt_succ_of_lt hb)⟩
    · match r, hr with
      | .error e, hr => exact hr
      | .ok .next, hr => exact hr.elim
      | .ok .brk, hr => exact hr.elim
      | .ok .cont, hr => exact hr.elim
      | .ok (.ret v), hr =>
        obtain ⟨rfl, h', tk, c, rfl, hS', hc, hd, hk⟩ := hr
        repeat (any_goals (first | assumption | wp_step))
        exact h _ _ c hS' hc hd hk
end
end N

namespace N
open PySem PySem.Spec PyProof.Rows L2
/-! ### set(texts) and its length, as calls -/
/-- the set of these texts, of c different ones -/
def SetS (P : Program) (w : World) (a : Addr) (ys : List Str) (c : Nat) : HO := .ext fun h => h.SetOf (PySem.strKind P w) a (fun y => decide (y ∈ ys)) c
theorem setS_new {P : Program} {w : World} {H : Hp} {h : Heap} {a : Addr} {ys : List Str} {c : Nat} (R : h.SetOf (PySem.strKind P w) a (fun y => decide (y ∈ ys)) c) : ObjOk P w H h a (SetS P w a ys c) := by
  have ⟨o, _, _, _, ho, _⟩ := R
  exact ⟨R, ⟨o, ho⟩, fun h1 h2 p k => by
    obtain ⟨o, es, ep, t, ho, r⟩ := p
    exact ⟨o, es, ep, t, k _ ho, r⟩⟩
section
variable {X : Cx}
def rSetTx (P : Program) (w : World) (K : PySem.W.Frag) : List V → Hp → VK → Prop := fun xs H Q => ∃ (l : Addr) (ys : List Str), xs = [.ref l] ∧ (SqL K H l (ys.map V.str) ∨ SqT K H l (ys.map V.str)) ∧ ys.length ≤ 1000 ∧
  ∀ (p : Addr) (c : Nat), H p = none → c ≤ ys.length → (c = ys.length ↔ ys.Nodup) → Q (.ref p) (upd H p (SetS P w p ys c))
theorem sb_ge {n : Nat} (h : n ≤ 1000) : n + 1 < scanBound := by
  unfold scanBound
  omega
theorem call_setTx (hc : X.calm = true) : CallR X (.type "set") (rSetTx X.prog X.w X.K) := by
  intro pins s σ H xs us Q I r h
  obtain ⟨l, ys, rfl, hq, hn, q⟩ := h
  obtain ⟨u, rfl, ru⟩ := vals1 r
  cases ru
  have go : ∀ (h' : Heap) (tk c : Nat), h'.SetOf (PySem.strKind X.prog X.w) s.heap.objs.size (fun y => decide (y ∈ ys)) c → c ≤ ys.length → (c = ys.length ↔ ys.Nodup) → (∀ b o, b < s.heap.objs.size → s.heap.get? b = some o → h'.get? b = some o) →
      EP X pins σ Q (.ref s.heap.objs.size) { s with heap := h', toks := tk } := fun h' tk c hS h1 h2 hk =>
    ⟨.ref _, upd H s.heap.objs.size (SetS X.prog X.w s.heap.objs.size ys c), I.laid (t' := tk) (fun b u e => hk b u (Heap.lt_size e) e) (Nat.le_refl _) (setS_new hS), rfl, q _ c (I.hok.fresh (Nat.le_refl _)) h1 h2⟩
  rcases hq with hq | hq
  · obtain ⟨its, r, pl, hz⟩ := I.list hq
    exact call_setTx_list (I.ok.hd hc) pl.isList (by simpa using strsAre_of r) (sb_ge hn) go
  · obtain ⟨its, r, pl, hz⟩ := I.tuple hq
    exact call_setTx_tuple (I.ok.hd hc) pl (by simpa using strsAre_of r) (sb_ge hn) go
theorem call_lenS : CallR X (.builtin "len") (fun xs H Q => ∃ (p : Addr) (ys : List Str) (c : Nat), xs = [.ref p] ∧ H p = some (SetS X.prog X.w p ys c) ∧ c ≤ 1000 ∧ Q (.int c) H) := by
  intro pins s σ H xs us Q I r h
  obtain ⟨p, ys, c, rfl, hp, hn, q⟩ := h
  obtain ⟨u, rfl, ru⟩ := vals1 r
  cases ru
  have hS : s.heap.SetOf (PySem.strKind X.prog X.w) p (fun y => decide (y ∈ ys)) c := (I.hok p _ hp).1
  obtain ⟨o, es, ep, t, ho, hex, hd, _, _, _, hf, hn2⟩ := hS
  refine call_len_set ho hex hd hf (by rw [hn2]; omega) ⟨.int c, H, I.tok _, ⟨_, by rw [hn2]⟩, q⟩
end
end N

namespace N
open PySem PySem.Spec PyProof.Rows L2
def topS (i : Nat) : Stmt := PySem.Challenge.pw_endlesskinds_k69_signs_by_hand.main.body.getD i (.Pass ⟨0, 0, 0, 0⟩)
abbrev s_is_letter : Stmt := topS 15
abbrev nm_is_letter : List Str := ["thing"]
theorem sc_is_letter : FnScope nm_is_letter ["thing"] (defScope s_is_letter) := ⟨rfl, rfl, rfl, by decide +kernel, rfl, by decide +kernel, by decide +kernel⟩
abbrev s_is_name : Stmt := topS 16
abbrev nm_is_name : List Str := ["thing"]
theorem sc_is_name : FnScope nm_is_name ["thing"] (defScope s_is_name) := ⟨rfl, rfl, rfl, by decide +kernel, rfl, by decide +kernel, by decide +kernel⟩
abbrev s_begins_class_type : Stmt := topS 17
abbrev nm_begins_class_type : List Str := ["thing"]
theorem sc_begins_class_type : FnScope nm_begins_class_type ["thing"] (defScope s_begins_class_type) := ⟨rfl, rfl, rfl, by decide +kernel, rfl, by decide +kernel, by decide +kernel⟩
abbrev s_is_type : Stmt := topS 18
abbrev nm_is_type : List Str := ["thing", "rest", "part"]
theorem sc_is_type : FnScope nm_is_type ["thing"] (defScope s_is_type) := ⟨rfl, rfl, rfl, by decide +kernel, rfl, by decide +kernel, by decide +kernel⟩
abbrev s_parts : Stmt := topS 19
abbrev nm_parts : List Str := ["kind", "found", "rest", "part"]
theorem sc_parts : FnScope nm_parts ["kind"] (defScope s_parts) := ⟨rfl, rfl, rfl, by decide +kernel, rfl, by decide +kernel, by decide +kernel⟩
abbrev s_class_types : Stmt := topS 20
abbrev nm_class_types : List Str := ["kinds", "kind"]
theorem sc_class_types : FnScope nm_class_types ["kinds"] (defScope s_class_types) := ⟨rfl, rfl, rfl, by decide +kernel, rfl, by decide +kernel, by decide +kernel⟩
abbrev s_size_of : Stmt := topS 21
abbrev nm_size_of : List Str := ["kind"]
theorem sc_size_of : FnScope nm_size_of ["kind"] (defScope s_size_of) := ⟨rfl, rfl, rfl, by decide +kernel, rfl, by decide +kernel, by decide +kernel⟩
abbrev s_written : Stmt := topS 22
abbrev nm_written : List Str := ["kind", "row", "before", "argument"]
theorem sc_written : FnScope nm_written ["kind"] (defScope s_written) := ⟨rfl, rfl, rfl, by decide +kernel, rfl, by decide +kernel, by decide +kernel⟩
abbrev s_text_of : Stmt := topS 23
abbrev nm_text_of : List Str := ["kind", "pieces", "rest", "part"]
theorem sc_text_of : FnScope nm_text_of ["kind"] (defScope s_text_of) := ⟨rfl, rfl, rfl, by decide +kernel, rfl, by decide +kernel, by decide +kernel⟩
abbrev s_word_at : Stmt := topS 24
abbrev nm_word_at : List Str := ["line", "at", "end"]
theorem sc_word_at : FnScope nm_word_at ["line", "at"] (defScope s_word_at) := ⟨rfl, rfl, rfl, by decide +kernel, rfl, by decide +kernel, by decide +kernel⟩
abbrev s_scan : Stmt := topS 25
abbrev nm_scan : List Str := ["line", "at", "begun", "word", "done"]
theorem sc_scan : FnScope nm_scan ["line", "at"] (defScope s_scan) := ⟨rfl, rfl, rfl, by decide +kernel, rfl, by decide +kernel, by decide +kernel⟩
abbrev s_read : Stmt := topS 26
abbrev nm_read : List Str := ["text", "kind", "end"]
theorem sc_read : FnScope nm_read ["text"] (defScope s_read) := ⟨rfl, rfl, rfl, by decide +kernel, rfl, by decide +kernel, by decide +kernel⟩
abbrev s_passed_on : Stmt := topS 34
abbrev nm_passed_on : List Str := ["sign", "variance"]
theorem sc_passed_on : FnScope nm_passed_on ["sign", "variance"] (defScope s_passed_on) := ⟨rfl, rfl, rfl, by decide +kernel, rfl, by decide +kernel, by decide +kernel⟩
abbrev s_signed_letters : Stmt := topS 35
abbrev nm_signed_letters : List Str := ["kind", "sign", "variances", "places", "rest", "part", "own", "argument", "variance"]
theorem sc_signed_letters : FnScope nm_signed_letters ["kind", "sign", "variances"] (defScope s_signed_letters) := ⟨rfl, rfl, rfl, by decide +kernel, rfl, by decide +kernel, by decide +kernel⟩
abbrev s_signed_places : Stmt := topS 36
abbrev nm_signed_places : List Str := ["one", "variances", "kinds", "parent", "member", "kind", "sign", "place"]
theorem sc_signed_places : FnScope nm_signed_places ["one", "variances"] (defScope s_signed_places) := ⟨rfl, rfl, rfl, by decide +kernel, rfl, by decide +kernel, by decide +kernel⟩
abbrev s_is_barred : Stmt := topS 37
abbrev nm_is_barred : List Str := ["sign", "variance"]
theorem sc_is_barred : FnScope nm_is_barred ["sign", "variance"] (defScope s_is_barred) := ⟨rfl, rfl, rfl, by decide +kernel, rfl, by decide +kernel, by decide +kernel⟩
abbrev s_wrong_letters : Stmt := topS 38
abbrev nm_wrong_letters : List Str := ["parameters", "places", "wrong", "letter", "variance", "found", "sign"]
theorem sc_wrong_letters : FnScope nm_wrong_letters ["parameters", "places"] (defScope s_wrong_letters) := ⟨rfl, rfl, rfl, by decide +kernel, rfl, by decide +kernel, by decide +kernel⟩
abbrev s_is_short_tuple : Stmt := topS 44
abbrev nm_is_short_tuple : List Str := ["thing"]
theorem sc_is_short_tuple : FnScope nm_is_short_tuple ["thing"] (defScope s_is_short_tuple) := ⟨rfl, rfl, rfl, by decide +kernel, rfl, by decide +kernel, by decide +kernel⟩
abbrev s_all_differ : Stmt := topS 45
abbrev nm_all_differ : List Str := ["words"]
theorem sc_all_differ : FnScope nm_all_differ ["words"] (defScope s_all_differ) := ⟨rfl, rfl, rfl, by decide +kernel, rfl, by decide +kernel, by decide +kernel⟩
abbrev s_is_declared : Stmt := topS 46
abbrev nm_is_declared : List Str := ["thing"]
theorem sc_is_declared : FnScope nm_is_declared ["thing"] (defScope s_is_declared) := ⟨rfl, rfl, rfl, by decide +kernel, rfl, by decide +kernel, by decide +kernel⟩
abbrev s_is_parameter : Stmt := topS 47
abbrev nm_is_parameter : List Str := ["thing"]
theorem sc_is_parameter : FnScope nm_is_parameter ["thing"] (defScope s_is_parameter) := ⟨rfl, rfl, rfl, by decide +kernel, rfl, by decide +kernel, by decide +kernel⟩
abbrev s_are_parameters : Stmt := topS 48
abbrev nm_are_parameters : List Str := ["thing", "one"]
theorem sc_are_parameters : FnScope nm_are_parameters ["thing"] (defScope s_are_parameters) := ⟨rfl, rfl, rfl, by decide +kernel, rfl, by decide +kernel, by decide +kernel⟩
abbrev s_are_parents : Stmt := topS 49
abbrev nm_are_parents : List Str := ["thing", "kind"]
theorem sc_are_parents : FnScope nm_are_parents ["thing"] (defScope s_are_parents) := ⟨rfl, rfl, rfl, by decide +kernel, rfl, by decide +kernel, by decide +kernel⟩
abbrev s_is_member : Stmt := topS 50
abbrev nm_is_member : List Str := ["thing"]
theorem sc_is_member : FnScope nm_is_member ["thing"] (defScope s_is_member) := ⟨rfl, rfl, rfl, by decide +kernel, rfl, by decide +kernel, by decide +kernel⟩
abbrev s_are_members : Stmt := topS 51
abbrev nm_are_members : List Str := ["thing", "one"]
theorem sc_are_members : FnScope nm_are_members ["thing"] (defScope s_are_members) := ⟨rfl, rfl, rfl, by decide +kernel, rfl, by decide +kernel, by decide +kernel⟩
abbrev s_is_class : Stmt := topS 52
abbrev nm_is_class : List Str := ["thing", "name", "parameters", "parents", "members"]
theorem sc_is_class : FnScope nm_is_class ["thing"] (defScope s_is_class) := ⟨rfl, rfl, rfl, by decide +kernel, rfl, by decide +kernel, by decide +kernel⟩
abbrev s_names_of : Stmt := topS 53
abbrev nm_names_of : List Str := ["classes", "one"]
theorem sc_names_of : FnScope nm_names_of ["classes"] (defScope s_names_of) := ⟨rfl, rfl, rfl, by decide +kernel, rfl, by decide +kernel, by decide +kernel⟩
abbrev s_letters_of : Stmt := topS 54
abbrev nm_letters_of : List Str := ["one", "parameter"]
theorem sc_letters_of : FnScope nm_letters_of ["one"] (defScope s_letters_of) := ⟨rfl, rfl, rfl, by decide +kernel, rfl, by decide +kernel, by decide +kernel⟩
abbrev s_declared : Stmt := topS 55
abbrev nm_declared : List Str := ["one", "member"]
theorem sc_declared : FnScope nm_declared ["one"] (defScope s_declared) := ⟨rfl, rfl, rfl, by decide +kernel, rfl, by decide +kernel, by decide +kernel⟩
abbrev s_arities : Stmt := topS 56
abbrev nm_arities : List Str := ["classes", "one"]
theorem sc_arities : FnScope nm_arities ["classes"] (defScope s_arities) := ⟨rfl, rfl, rfl, by decide +kernel, rfl, by decide +kernel, by decide +kernel⟩
abbrev s_variances_of : Stmt := topS 57
abbrev nm_variances_of : List Str := ["classes", "parameter", "one"]
theorem sc_variances_of : FnScope nm_variances_of ["classes"] (defScope s_variances_of) := ⟨rfl, rfl, rfl, by decide +kernel, rfl, by decide +kernel, by decide +kernel⟩
abbrev s_is_of : Stmt := topS 58
abbrev nm_is_of : List Str := ["thing", "wanted", "letters", "rest", "part"]
theorem sc_is_of : FnScope nm_is_of ["thing", "wanted", "letters"] (defScope s_is_of) := ⟨rfl, rfl, rfl, by decide +kernel, rfl, by decide +kernel, by decide +kernel⟩
abbrev s_check_forms : Stmt := topS 59
abbrev nm_check_forms : List Str := ["classes", "one"]
theorem sc_check_forms : FnScope nm_check_forms ["classes"] (defScope s_check_forms) := ⟨rfl, rfl, rfl, by decide +kernel, rfl, by decide +kernel, by decide +kernel⟩
abbrev s_check_fit : Stmt := topS 60
abbrev nm_check_fit : List Str := ["classes", "wanted", "one", "letters", "kind"]
theorem sc_check_fit : FnScope nm_check_fit ["classes"] (defScope s_check_fit) := ⟨rfl, rfl, rfl, by decide +kernel, rfl, by decide +kernel, by decide +kernel⟩
abbrev s_heads_of : Stmt := topS 61
abbrev nm_heads_of : List Str := ["classes", "parent", "one"]
theorem sc_heads_of : FnScope nm_heads_of ["classes"] (defScope s_heads_of) := ⟨rfl, rfl, rfl, by decide +kernel, rfl, by decide +kernel, by decide +kernel⟩
abbrev s_elders : Stmt := topS 62
abbrev nm_elders : List Str := ["heads", "name", "found", "rest", "head"]
theorem sc_elders : FnScope nm_elders ["heads", "name"] (defScope s_elders) := ⟨rfl, rfl, rfl, by decide +kernel, rfl, by decide +kernel, by decide +kernel⟩
abbrev s_check_elders : Stmt := topS 63
abbrev nm_check_elders : List Str := ["classes", "heads", "name"]
theorem sc_check_elders : FnScope nm_check_elders ["classes"] (defScope s_check_elders) := ⟨rfl, rfl, rfl, by decide +kernel, rfl, by decide +kernel, by decide +kernel⟩
abbrev s_check_parents : Stmt := topS 64
abbrev nm_check_parents : List Str := ["classes", "variances", "name", "parameters", "parents", "_", "places", "parent", "place", "wrong"]
theorem sc_check_parents : FnScope nm_check_parents ["classes"] (defScope s_check_parents) := ⟨rfl, rfl, rfl, by decide +kernel, rfl, by decide +kernel, by decide +kernel⟩
abbrev s_check_classes : Stmt := topS 65
abbrev nm_check_classes : List Str := ["classes"]
theorem sc_check_classes : FnScope nm_check_classes ["classes"] (defScope s_check_classes) := ⟨rfl, rfl, rfl, by decide +kernel, rfl, by decide +kernel, by decide +kernel⟩
abbrev s_parameters_text : Stmt := topS 67
abbrev nm_parameters_text : List Str := ["parameters", "letter", "variance"]
theorem sc_parameters_text : FnScope nm_parameters_text ["parameters"] (defScope s_parameters_text) := ⟨rfl, rfl, rfl, by decide +kernel, rfl, by decide +kernel, by decide +kernel⟩
abbrev s_parents_text : Stmt := topS 68
abbrev nm_parents_text : List Str := ["parents", "parent"]
theorem sc_parents_text : FnScope nm_parents_text ["parents"] (defScope s_parents_text) := ⟨rfl, rfl, rfl, by decide +kernel, rfl, by decide +kernel, by decide +kernel⟩
abbrev s_class_text : Stmt := topS 69
abbrev nm_class_text : List Str := ["one", "name", "parameters", "parents", "members", "lines", "member", "way", "kind"]
theorem sc_class_text : FnScope nm_class_text ["one"] (defScope s_class_text) := ⟨rfl, rfl, rfl, by decide +kernel, rfl, by decide +kernel, by decide +kernel⟩
abbrev s_classes_text : Stmt := topS 70
abbrev nm_classes_text : List Str := ["classes", "one"]
theorem sc_classes_text : FnScope nm_classes_text ["classes"] (defScope s_classes_text) := ⟨rfl, rfl, rfl, by decide +kernel, rfl, by decide +kernel, by decide +kernel⟩
abbrev s_read_parameters : Stmt := topS 71
abbrev nm_read_parameters : List Str := ["words", "pairs", "pair"]
theorem sc_read_parameters : FnScope nm_read_parameters ["words"] (defScope s_read_parameters) := ⟨rfl, rfl, rfl, by decide +kernel, rfl, by decide +kernel, by decide +kernel⟩
abbrev s_read_parents : Stmt := topS 72
abbrev nm_read_parents : List Str := ["words", "kinds", "at", "kind"]
theorem sc_read_parents : FnScope nm_read_parents ["words"] (defScope s_read_parents) := ⟨rfl, rfl, rfl, by decide +kernel, rfl, by decide +kernel, by decide +kernel⟩
abbrev s_read_head : Stmt := topS 73
abbrev nm_read_head : List Str := ["line", "head", "_", "parents", "name", "parameters"]
theorem sc_read_head : FnScope nm_read_head ["line"] (defScope s_read_head) := ⟨rfl, rfl, rfl, by decide +kernel, rfl, by decide +kernel, by decide +kernel⟩
abbrev s_with_member : Stmt := topS 74
abbrev nm_with_member : List Str := ["one", "line", "words", "name", "parameters", "parents", "members"]
theorem sc_with_member : FnScope nm_with_member ["one", "line"] (defScope s_with_member) := ⟨rfl, rfl, rfl, by decide +kernel, rfl, by decide +kernel, by decide +kernel⟩
abbrev s_read_classes : Stmt := topS 75
abbrev nm_read_classes : List Str := ["words", "classes", "line"]
theorem sc_read_classes : FnScope nm_read_classes ["words"] (defScope s_read_classes) := ⟨rfl, rfl, rfl, by decide +kernel, rfl, by decide +kernel, by decide +kernel⟩
abbrev s_check_table : Stmt := topS 79
abbrev nm_check_table : List Str := ["thing"]
theorem sc_check_table : FnScope nm_check_table ["thing"] (defScope s_check_table) := ⟨rfl, rfl, rfl, by decide +kernel, rfl, by decide +kernel, by decide +kernel⟩
abbrev s_faults : Stmt := topS 82
abbrev nm_faults : List Str := ["table", "classes", "variances", "found", "one", "wrong", "letter", "sign"]
theorem sc_faults : FnScope nm_faults ["table"] (defScope s_faults) := ⟨rfl, rfl, rfl, by decide +kernel, rfl, by decide +kernel, by decide +kernel⟩
abbrev s_joined : Stmt := topS 83
abbrev nm_joined : List Str := ["rows", "sign", "row"]
theorem sc_joined : FnScope nm_joined ["rows"] (defScope s_joined) := ⟨rfl, rfl, rfl, by decide +kernel, rfl, by decide +kernel, by decide +kernel⟩
abbrev s_signs_under : Stmt := topS 84
abbrev nm_signs_under : List Str := ["classes", "given", "variances", "one", "parameter", "found", "places", "letter", "other", "sign"]
theorem sc_signs_under : FnScope nm_signs_under ["classes", "given"] (defScope s_signs_under) := ⟨rfl, rfl, rfl, by decide +kernel, rfl, by decide +kernel, by decide +kernel⟩
abbrev s_signs : Stmt := topS 85
abbrev nm_signs : List Str := ["table", "classes", "given", "one", "letter", "needed", "name"]
theorem sc_signs : FnScope nm_signs ["table"] (defScope s_signs) := ⟨rfl, rfl, rfl, by decide +kernel, rfl, by decide +kernel, by decide +kernel⟩
abbrev s_Lcell_at : Stmt := topS 87
abbrev nm_Lcell_at : List Str := ["_law_script", "_law_k"]
theorem sc_Lcell_at : FnScope nm_Lcell_at ["_law_script", "_law_k"] (defScope s_Lcell_at) := ⟨rfl, rfl, rfl, by decide +kernel, rfl, by decide +kernel, by decide +kernel⟩
abbrev s_Link : Stmt := topS 88
abbrev nm_Link : List Str := ["_law_cell"]
theorem sc_Link : FnScope nm_Link ["_law_cell"] (defScope s_Link) := ⟨rfl, rfl, rfl, by decide +kernel, rfl, by decide +kernel, by decide +kernel⟩
abbrev s_Ldraw : Stmt := topS 89
abbrev nm_Ldraw : List Str := ["_law_pen", "_law_many", "_law_found", "_law_mixed"]
theorem sc_Ldraw : FnScope nm_Ldraw ["_law_pen", "_law_many"] (defScope s_Ldraw) := ⟨rfl, rfl, rfl, by decide +kernel, rfl, by decide +kernel, by decide +kernel⟩
abbrev s_Ltable : Stmt := topS 90
abbrev nm_Ltable : List Str := ["_law_some"]
theorem sc_Ltable : FnScope nm_Ltable ["_law_some"] (defScope s_Ltable) := ⟨rfl, rfl, rfl, by decide +kernel, rfl, by decide +kernel, by decide +kernel⟩
abbrev s_Lsaid : Stmt := topS 91
abbrev nm_Lsaid : List Str := ["_law_call", "error", "_law_marks"]
theorem sc_Lsaid : FnScope nm_Lsaid ["_law_call"] (defScope s_Lsaid) := ⟨rfl, rfl, rfl, by decide +kernel, rfl, by decide +kernel, by decide +kernel⟩
abbrev s_Lwrapped : Stmt := topS 92
abbrev nm_Lwrapped : List Str := ["_law_name", "_law_inner", "_law_many", "_law_lap"]
theorem sc_Lwrapped : FnScope nm_Lwrapped ["_law_name", "_law_inner", "_law_many"] (defScope s_Lwrapped) := ⟨rfl, rfl, rfl, by decide +kernel, rfl, by decide +kernel, by decide +kernel⟩
abbrev s_Ltold : Stmt := topS 93
abbrev nm_Ltold : List Str := ["_law_some", "_law_box", "_law_sink", "_law_board"]
theorem sc_Ltold : FnScope nm_Ltold ["_law_some"] (defScope s_Ltold) := ⟨rfl, rfl, rfl, by decide +kernel, rfl, by decide +kernel, by decide +kernel⟩
abbrev s_Lone_right : Stmt := topS 94
abbrev nm_Lone_right : List Str := ["_law_many", "_law_inner", "_law_sign", "_law_told_here"]
theorem sc_Lone_right : FnScope nm_Lone_right ["_law_many"] (defScope s_Lone_right) := ⟨rfl, rfl, rfl, by decide +kernel, rfl, by decide +kernel, by decide +kernel⟩
abbrev s_Ltwo_right : Stmt := topS 95
abbrev nm_Ltwo_right : List Str := ["_law_lot", "_law_swap", "_law_knot_one", "_law_loop", "_law_held", "_law_told_here"]
theorem sc_Ltwo_right : FnScope nm_Ltwo_right [] (defScope s_Ltwo_right) := ⟨rfl, rfl, rfl, by decide +kernel, rfl, by decide +kernel, by decide +kernel⟩
abbrev s_Lparents_right : Stmt := topS 96
abbrev nm_Lparents_right : List Str := ["_law_parent", "_law_good", "_law_bad", "_law_sign"]
theorem sc_Lparents_right : FnScope nm_Lparents_right [] (defScope s_Lparents_right) := ⟨rfl, rfl, rfl, by decide +kernel, rfl, by decide +kernel, by decide +kernel⟩
abbrev s_law : Stmt := topS 97
abbrev nm_law : List Str := ["_law_script", "_law_k"]
theorem sc_law : FnScope nm_law ["_law_script"] (defScope s_law) := ⟨rfl, rfl, rfl, by decide +kernel, rfl, by decide +kernel, by decide +kernel⟩
abbrev tabS : Stmt := topS 77
/-- what the top holds besides its defs -/
structure Glo (mg : Str → Option Value) : Prop where
  isinstance : mg "isinstance" = none
  str : mg "str" = none
  tuple : mg "tuple" = none
  dict : mg "dict" = none
  list : mg "list" = none
  len : mg "len" = none
  all : mg "all" = none
  max : mg "max" = none
  min : mg "min" = none
  range : mg "range" = none
  repr : mg "repr" = none
  sum : mg "sum" = none
  LN : ∃ t, mg "LONGEST_NAME" = some (.int 8 t)
  MA : ∃ t, mg "MOST_ARGUMENTS" = some (.int 2 t)
end N

namespace N
open PySem PySem.Spec PyProof.Rows L2
section
variable {P : Program} {w : World} {K : PySem.W.Frag} {mg : Str → Option Value} {base : Heap}
theorem sz5 {n : Nat} (h : n ≤ 100000) : n ≤ sizeLine := Nat.le_trans h (by decide)
/-- one thing, nothing changed -/
def spTest (K : PySem.W.Frag) (g : Tg → Bool) : Sp := fun vs H Q _ => ∃ v t, vs = [v] ∧ Th K H v t ∧ Q (.bl (g t)) H
theorem ok_is_letter (G : Glo mg) (D : DefAt K mg "is_letter" s_is_letter ["thing"]) : Cal P w K mg base 1 "is_letter" ["thing"] (spTest K Tg.isL) := by
  refine D.cal sc_is_letter (fun vs H Q E h => ?_) (fun f cdv A outer s H vs Q E hr h => ?_)
  · obtain ⟨v, t, rfl, _⟩ := h
    rfl
  obtain ⟨v, t, rfl, hT, q⟩ := h
  refine ⟨_, pss_one (ps_ret (pe_and (pe_isi G.isinstance G.str b_str rfl rfl (pv 0))
    (pe_and (pe_cmpR op_eq (pe_callB call_len_str (by rfl) G.len PySem.boot_len (pa_cons (pv 0) pa_nil)) pe_int (nomark _))
    (pe_one (pe_chain op_le_str op_le_str pe_str (pv 0) pe_str))))), ?_⟩
  refine ⟨v, rfl, isi_str hT ?_⟩
  cases hT with
  | str x hx =>
    refine ⟨true, rfl, iteT ⟨_, rfl, x, rfl, sz5 hx, rfl, _, rfl, ?_⟩⟩
    have e : decide (V.int (x.length : Int) = V.int 1) = decide (x.length = 1) := by
      by_cases h : x.length = 1
      · rw [h]
        decide
      · rw [decide_eq_false h, decide_eq_false (fun z => h (by have := V.int.inj z; omega))]
    rw [e]
    refine ite2 (fun c => ?_) (fun c => ?_)
    · refine ⟨_, rfl, _, _, rfl, rfl, _, rfl, ?_⟩
      refine ite2 (fun c2 => ?_) (fun c2 => ?_)
      · refine ⟨_, _, rfl, rfl, ?_⟩
        have e2 : Tg.isL (.str x) = (!decide (("Z" : Str).cps.toList < x.cps.toList)) := by
          show isLet x = _
          unfold isLet
          rw [c, c2, Bool.true_and, Bool.true_and]
        rw [← e2]
        exact q
      · have e2 : Tg.isL (.str x) = false := by
          show isLet x = _
          unfold isLet
          rw [Bool.eq_false_iff.mpr c2, Bool.false_and, Bool.and_false]
        rw [e2] at q
        exact q
    · have e2 : Tg.isL (.str x) = false := by
        show isLet x = _
        unfold isLet
        rw [Bool.eq_false_iff.mpr c, Bool.false_and]
      rw [e2] at q
      exact q
  | oth ty a b => exact ⟨false, rfl, iteF q⟩
  | tup h r => exact ⟨false, rfl, iteF q⟩
end
end N

namespace N
open PySem PySem.Spec PyProof.Rows L2
section
variable {P : Program} {w : World} {K : PySem.W.Frag} {mg : Str → Option Value} {base : Heap}
theorem ok_is_name (G : Glo mg) (D : DefAt K mg "is_name" s_is_name ["thing"]) : Cal P w K mg base 1 "is_name" ["thing"] (spTest K Tg.isNm) := by
  obtain ⟨t8, h8⟩ := G.LN
  refine D.cal sc_is_name (fun vs H Q E h => ?_) (fun f cdv A outer s H vs Q E hr h => ?_)
  · obtain ⟨v, t, rfl, _⟩ := h
    rfl
  obtain ⟨v, t, rfl, hT, q⟩ := h
  refine ⟨_, pss_cons (ps_if (PW.pt (pw_or (pt_not (pt_val (pe_isi G.isinstance G.str b_str rfl rfl (pv 0))))
      (pw_or1 (pt_cmpR op_gt (pe_callB call_len_str (by rfl) G.len PySem.boot_len (pa_cons (pv 0) pa_nil)) (pe_glob (v := .int 8) rfl h8 ⟨_, rfl⟩) (nomark _)))))
      (pss_one (ps_ret pe_bl)) pss_nil)
    (pss_one (ps_ret (pe_and (pe_m0 PySem.F.slot_str_isascii PySem.F.type_str_isascii mt_isascii (pv 0))
      (pe_and (pe_m0 PySem.F.slot_str_isalpha PySem.F.type_str_isalpha mt_isalpha (pv 0)) (pe_one (pe_m0 PySem.F.slot_str_islower PySem.F.type_str_islower mt_islower (pv 0))))))), ?_⟩
  refine ⟨v, rfl, isi_str hT ?_⟩
  cases hT with
  | str x hx =>
    refine ⟨true, rfl, iteF ⟨_, rfl, x, rfl, sz5 hx, _, _, rfl, rfl, _, rfl, ?_⟩⟩
    refine ite2 (fun c => ?_) (fun c => ?_)
    · have c' : ((x.length : Nat) : Int) > 8 := of_decide_eq_true c
      have e2 : Tg.isNm (.str x) = false := by
        show isNam x = _
        unfold isNam
        rw [decide_eq_true (show 8 < x.length by omega)]
        rfl
      rw [e2] at q
      exact q
    · have c' : ¬ ((x.length : Nat) : Int) > 8 := of_decide_eq_false (Bool.eq_false_iff.mpr c)
      have e2 : Tg.isNm (.str x) = (Txt.isascii x && (Txt.isalpha x && Txt.islower x)) := by
        show isNam x = _
        unfold isNam
        rw [decide_eq_false (show ¬ 8 < x.length by omega)]
        rfl
      rw [e2] at q
      refine ⟨_, rfl, ⟨_, rfl⟩, x, rfl, rfl, trivial, _, rfl, ?_⟩
      refine ite2 (fun c => ?_) (fun c => ?_)
      · rw [c, Bool.true_and] at q
        refine ⟨_, rfl, ⟨_, rfl⟩, x, rfl, rfl, trivial, _, rfl, ?_⟩
        refine ite2 (fun c => ?_) (fun c => ?_)
        · rw [c, Bool.true_and] at q
          exact ⟨_, rfl, ⟨_, rfl⟩, x, rfl, rfl, trivial, q⟩
        · rw [Bool.eq_false_iff.mpr c, Bool.false_and] at q
          exact q
      · rw [Bool.eq_false_iff.mpr c, Bool.false_and] at q
        exact q
  | oth ty a b => exact ⟨false, rfl, iteT q⟩
  | tup h r => exact ⟨false, rfl, iteT q⟩

theorem begT_long {ts : List Tg} (h : 3 < ts.length) : begT (.tup ts) = false := by
  match ts, h with
  | n :: ts, h =>
    show (decide (ts.length ≤ 2) && n.isNm) = false
    rw [decide_eq_false (by rw [List.length_cons] at h; omega), Bool.false_and]
theorem begT_none {ts : List Tg} (h : ts.length < 1) : begT (.tup ts) = false := by
  match ts, h with
  | [], _ => rfl
theorem ok_begins (G : Glo mg) (CN : Cal P w K mg base 1 "is_name" ["thing"] (spTest K Tg.isNm)) (D : DefAt K mg "begins_class_type" s_begins_class_type ["thing"]) : Cal P w K mg base 2 "begins_class_type" ["thing"] (spTest K begT) := by
  obtain ⟨t2, h2⟩ := G.MA
  refine D.cal sc_begins_class_type (fun vs H Q E h => ?_) (fun f cdv A outer s H vs Q E hr h => ?_)
  · obtain ⟨v, t, rfl, _⟩ := h
    rfl
  obtain ⟨v, t, rfl, hT, q⟩ := h
  refine ⟨_, pss_cons (ps_if (PW.pt (pw_or (pt_not (pt_val (pe_isi G.isinstance G.tuple b_tuple rfl rfl (pv 0))))
      (pw_or1 (pt_not (pt_chain op_le op_le pe_int (pe_callB call_len_seq (by rfl) G.len PySem.boot_len (pa_cons (pv 0) pa_nil)) (pe_op op_add pe_int (pe_glob (v := .int 2) rfl h2 ⟨_, rfl⟩)))))))
      (pss_one (ps_ret pe_bl)) pss_nil)
    (pss_one (ps_ret (pc CN hr rfl (pa_cons (pe_ix ix_tup (pv 0) pe_int (fun _ _ => rfl)) pa_nil)))), ?_⟩
  refine ⟨v, rfl, isi_tup hT ?_⟩
  cases hT with
  | str x hx => exact ⟨false, rfl, iteT q⟩
  | oth ty a b => exact ⟨false, rfl, iteT q⟩
  | @tup a xs ts h r =>
    have hl := r.length
    refine ⟨true, rfl, iteF ⟨_, rfl, a, xs, rfl, .inr h, _, _, rfl, rfl, _, rfl, ?_⟩⟩
    refine ite2 (fun c => ?_) (fun c => ?_)
    · have c' : (1 : Int) ≤ (xs.length : Nat) := of_decide_eq_true c
      refine ⟨_, _, rfl, rfl, _, _, rfl, rfl, _, rfl, ?_⟩
      refine ite2 (fun c2 => ?_) (fun c2 => ?_)
      · have c2' : ¬ ((xs.length : Nat) : Int) ≤ 1 + 2 := by
          have z := c2
          rw [Bool.not_eq_true'] at z
          exact of_decide_eq_false z
        rw [begT_long (by omega)] at q
        exact q
      · have c2' : ((xs.length : Nat) : Int) ≤ 1 + 2 := by
          have z := c2
          rw [Bool.not_eq_true', Bool.not_eq_false] at z
          exact of_decide_eq_true z
        cases r with
        | nil => exact absurd c' (by decide)
        | @cons y ys n ts hy r =>
          refine ⟨_, rfl, a, _, 0, y, rfl, rfl, h, atI_nat (j := 0) rfl, y, n, rfl, hy, ?_⟩
          have e2 : begT (.tup (n :: ts)) = n.isNm := by
            show (decide (ts.length ≤ 2) && n.isNm) = _
            rw [decide_eq_true (by rw [List.length_cons] at c2'; have := r.length; omega), Bool.true_and]
          rw [e2] at q
          exact q
    · have c' : ¬ (1 : Int) ≤ (xs.length : Nat) := of_decide_eq_false (Bool.eq_false_iff.mpr c)
      rw [begT_none (by omega)] at q
      exact ⟨false, rfl, iteT q⟩

end
end N

namespace N
open PySem PySem.Spec PyProof.Rows L2
section
variable {P : Program} {w : World} {K : PySem.W.Frag} {mg : Str → Option Value} {base : Heap}
/-- a question about one thing: all that stood stands -/
def spAsk (K : PySem.W.Frag) (g : Tg → Bool) : Sp := fun vs H Q _ => ∃ v t, vs = [v] ∧ Th K H v t ∧ t.nodes ≤ 100000 ∧ ∀ H', Same H H' → Q (.bl (g t)) H'
theorem cut_tail (xs : List V) : cutV xs (some 1) none = xs.drop 1 := by
  unfold cutV
  rw [show HT.sIx xs.length 0 (some 1) = min 1 xs.length from HT.sIx_nat xs.length 0 1, HT.sIx_none]
  cases xs with
  | nil => rfl
  | cons x r =>
    rw [show min 1 (x :: r).length = 1 by rw [List.length_cons]; omega]
    show (List.take ((x :: r).length - 1) r) = r
    rw [List.length_cons, Nat.add_sub_cancel]
    exact List.take_length
theorem cut_tail_ne (xs : List V) (h : 1 ≤ xs.length) : ¬ (HT.sIx xs.length 0 (some 1) = 0 ∧ HT.sIx xs.length xs.length none = xs.length) := fun q => by
  have e : HT.sIx xs.length 0 (some 1) = min 1 xs.length := HT.sIx_nat xs.length 0 1
  rw [e] at q
  omega
/-- a tuple's arguments -/
theorem beg_tup {K : PySem.W.Frag} {H : Hp} {v : V} {t : Tg} (h : Th K H v t) (b : begT t = true) : ∃ (a : Addr) (n : V) (x : Str) (xs : List V), v = .ref a ∧ SqT K H a (n :: xs) ∧ n = .str x ∧ t = .tup (.str x :: t.args) ∧ isNam x = true ∧ t.args.length ≤ 2 ∧ ThAll K H xs t.args := by
  cases h with
  | str x hx => cases b
  | oth ty a b' => cases b
  | @tup a xs ts h r =>
    cases r with
    | nil => cases b
    | @cons y ys n ts hy r =>
      have b' : (decide (ts.length ≤ 2) && n.isNm) = true := b
      rw [Bool.and_eq_true, decide_eq_true_eq] at b'
      cases hy with
      | str x hx => exact ⟨a, _, x, ys, rfl, h, rfl, rfl, b'.2, b'.1, r⟩
      | oth ty a b => cases b'.2
      | tup h r => cases b'.2
theorem iteE {b : Bool} {A B : Prop} (e : b = true) (h : A) : if b = true then A else B := by
  rw [if_pos e]
  exact h
theorem iteN {b : Bool} {A B : Prop} (e : b = false) (h : B) : if b = true then A else B := by
  rw [if_neg (by rw [e]; exact Bool.false_ne_true)]
  exact h
theorem same_mut {H H' : Hp} {p : Addr} {o : HO} (e : Same H H') (h : H p = none) : Same H (upd H' p o) := fun b u q => by rw [upd_ne (ne_of_none q h)]; exact e b u q
theorem ok_is_type (CL : Cal P w K mg base 1 "is_letter" ["thing"] (spTest K Tg.isL)) (CB : Cal P w K mg base 2 "begins_class_type" ["thing"] (spTest K begT)) (D : DefAt K mg "is_type" s_is_type ["thing"]) : Cal P w K mg base 3 "is_type" ["thing"] (spAsk K isT) := by
  refine D.cal sc_is_type (fun vs H Q E h => ?_) (fun f cdv A outer s H vs Q E hr h => ?_)
  · obtain ⟨v, t, rfl, _⟩ := h
    rfl
  obtain ⟨v, t, rfl, hT, hn, q⟩ := h
  refine ⟨_, pss_cons (ps_set (i := 1) sc_is_type.nd rfl (Or.inl rfl) (pe_lst (pa_cons (pv 0) pa_nil)))
    (pss_cons (ps_while (passes_of rfl) (pt_truth (pv 1) (by intro _; rfl))
      (pss_cons (ps_set (i := 2) sc_is_type.nd rfl (Or.inl rfl) (pe_bm0 PySem.F.plainAttrs_list PySem.F.slot_list_pop PySem.F.type_list_pop mt_pop (pv 1)))
        (pss_one (ps_if (pt_val (pc CB hr rfl (pa_cons (pv 2) pa_nil)))
          (pss_one (ps_expr (pe_bm PySem.F.plainAttrs_list PySem.F.slot_list_extend PySem.F.type_list_extend mt_extendT (pv 1) (pa_cons (pe_slice sl_tup (pv 2) (po_some pe_int) po_none) pa_nil))))
          (pss_one (ps_if (pt_not (pt_val (pc CL (hr.mono (by decide)) rfl (pa_cons (pv 2) pa_nil)))) (pss_one (ps_ret pe_bl)) pss_nil))))))
    (pss_one (ps_ret pe_bl))), ?_⟩
  refine ⟨v, rfl, by show 1 ≤ sizeLine; decide, fun l hl => ?_⟩
  refine ⟨fun m σ H' => ∃ xs ts y, m = nodesAll ts ∧ σ = [some v, some (.ref l), y] ∧ Same H H' ∧ H' l = some (.lst xs) ∧ ThAll K H' xs ts ∧ nodesAll ts ≤ 100000 ∧ isT t = isTAll ts,
    ⟨_, [v], [t], _, rfl, rfl, same_new hl _, upd_same, .cons (hT.stay (stay_new hl _)) .nil, by simp only [nodesAll]; omega, by simp only [isTAll, Bool.and_true]⟩, fun m σ H' hW => ?_⟩
  obtain ⟨xs, ts, y, rfl, rfl, sm, hx, hA, hm, ht⟩ := hW
  refine ⟨_, rfl, _, .inl ⟨xs, SqL.of hx, rfl⟩, ?_⟩
  have hlen := hA.length
  by_cases hne : ts = []
  · subst hne
    have e0 : xs = [] := List.length_eq_zero_iff.mp hlen
    subst e0
    rw [ht] at q
    exact iteF (q H' sm)
  obtain ⟨u, xs', t', ts', e1, e2, hu, hr'⟩ := hA.snoc hne
  subst e1 e2
  have ek : (!(xs' ++ [u]).isEmpty) = true := by cases xs' <;> rfl
  refine iteE ek ?_
  have en : nodesAll (ts' ++ [t']) = nodesAll ts' + t'.nodes := by rw [nodesAll_app]; simp only [nodesAll]; omega
  have et : isTAll (ts' ++ [t']) = (isTAll ts' && isT t') := by rw [isTAll_app]; simp only [isTAll, Bool.and_true]
  have hl' := length_le_nodes ts'
  have hl2 := hr'.length
  refine ⟨fun σ2 H2 => ∃ xs ts y, nodesAll ts < nodesAll (ts' ++ [t']) ∧ σ2 = [some v, some (.ref l), y] ∧ Same H H2 ∧ H2 l = some (.lst xs) ∧ ThAll K H2 xs ts ∧ nodesAll ts ≤ 100000 ∧ isT t = isTAll ts,
    fun σ2 H2 ⟨xs, ts, y, a, b, c, d, e, f, g⟩ => ⟨nodesAll ts, a, xs, ts, y, rfl, b, c, d, e, f, g⟩, ?_⟩
  have hlast : (xs' ++ [u])[(xs' ++ [u]).length - 1]? = some u := by
    rw [List.length_append, List.length_singleton, Nat.add_sub_cancel, List.getElem?_append_right (Nat.le_refl _), Nat.sub_self] <;> rfl
  refine ⟨_, rfl, .inl ⟨rfl, _, SqL.of hx⟩, l, _, u, rfl, rfl, hx, hlast, ?_⟩
  rw [List.dropLast_concat]
  have st : Stay K H' (upd H' l (.lst xs')) := stay_lst hx
  have hu1 := hu.stay st
  have hr1 := ThAll.stay st hr'
  have s1 : Same H (upd H' l (.lst xs')) := same_mut sm hl
  refine ⟨u, rfl, u, t', rfl, hu1, begT t', rfl, ?_⟩
  refine ite2 (fun c => ?_) (fun c => ?_)
  · obtain ⟨a, n, x, ys, rfl, hq, rfl, et', hnm, hl3, hr3⟩ := beg_tup hu1 c
    have el : 1 ≤ ((.str x : V) :: ys).length := by rw [List.length_cons]; omega
    refine ⟨_, rfl, .inl ⟨rfl, _, SqL.of upd_same⟩, _, rfl, 1, rfl, a, _, rfl, hq, cut_tail_ne _ el, fun p hp => ?_⟩
    rw [cut_tail]
    show ∃ _ : Addr, _
    have npl : l ≠ p := ne_of_none upd_same hp
    have hx2 : (upd (upd H' l (.lst xs')) p (.tup ys)) l = some (.lst xs') := by rw [upd_ne npl]; exact upd_same
    have hl4 := hr3.length
    have st2 : Stay K (upd H' l (.lst xs')) (upd (upd H' l (.lst xs')) p (.tup ys)) := stay_new hp _
    have st3 : Stay K (upd (upd H' l (.lst xs')) p (.tup ys)) (upd (upd (upd H' l (.lst xs')) p (.tup ys)) l (.lst (xs' ++ ys))) := stay_lst hx2
    have ea := args_nodes c
    have hl5 := length_le_nodes t'.args
    refine ⟨l, p, xs', ys, rfl, rfl, hx2, .inl (.inl upd_same), sz5 (by omega), ?_⟩
    refine ⟨xs' ++ ys, ts' ++ t'.args, _, ?_, rfl, ?_, upd_same, ((hr1.stay st2).stay st3).app ((hr3.stay st2).stay st3), ?_, ?_⟩
    · rw [nodesAll_app, en]; omega
    · exact same_mut (s1.trans (same_new hp _)) hl
    · rw [nodesAll_app]; omega
    · rw [ht, et, isTAll_app, isT_beg c]
  · have eb : begT t' = false := Bool.eq_false_iff.mpr c
    refine ⟨u, rfl, u, t', rfl, hu1, Tg.isL t', rfl, ?_⟩
    have e3 : isT t' = t'.isL := isT_nbeg eb
    refine ite2 (fun c2 => ?_) (fun c2 => ?_)
    · have c3 : t'.isL = false := by simpa using c2
      rw [ht, et, e3, c3, Bool.and_false] at q
      exact q _ s1
    · have c3 : t'.isL = true := by simpa using c2
      have hp1 := nodes_pos t'
      refine ⟨xs', ts', _, by omega, rfl, s1, upd_same, hr1, by omega, ?_⟩
      rw [ht, et, e3, c3, Bool.and_true]
end
end N

namespace N
open PySem PySem.Spec PyProof.Rows L2
/-! ### comprehensions over a tuple or list whose items are known values -/
theorem wipe_one {σ : L2.St} {j : Nat} {x : V} : wipe ((wipe σ [j]).set j (some x)) [j] = wipe σ [j] := by
  show ((σ.set j none).set j (some x)).set j none = σ.set j none
  rw [List.set_set, List.set_set]
section
variable {K : PySem.W.Frag} {a : Addr} {xs zs : List V} {te : TE} {σ : L2.St} {H : Hp} {D : Addr} {Qd : Hp → Prop}
theorem take_one {i : Nat} {z : V} (h : zs[i]? = some z) : zs.take (i + 1) = zs.take i ++ [z] := by rw [List.take_add_one, h]; rfl
theorem lc_vals {vs : List Nat} (j : Nat) (hv : vs = [j]) (hl : zs.length = xs.length) (hz : xs.length ≤ 1000) (hq : SqT K H a xs) (hD : H D = none)
    (step : ∀ (i : Nat) (x z : V) (H' : Hp) (Q : VK), xs[i]? = some x → zs[i]? = some z → Same H H' → (∀ H2, Same H' H2 → Q z H2) → te ((wipe σ vs).set j (some x)) H' Q) (fin : ∀ H', Same H H' → H' D = some (.lst zs) → Qd H') :
    ∃ W : Nat → Nat → Hp → Prop, (∃ m, W 0 m (upd H D (.lst []))) ∧ ∀ i m H, W i m H →
      ((Itt K a).stop i H ∧ Qd H) ∨ ((Itt K a).go i H ∧ ∃ Nx : Hp → Prop, (∀ H', Nx H' → ∃ m', m' < m ∧ W (i + 1) m' H') ∧ ∀ x H', (Itt K a).yld i H x H' → gName j x (wipe σ vs) H' fun σ2 H2 => wipe σ2 vs = wipe σ vs ∧ tYes σ2 H2 fun b H3 =>
        if b = true then te σ2 H3 fun y H4 => ∃ acc, H4 D = some (.lst acc) ∧ acc.length < sizeLine ∧ Nx (upd H4 D (.lst (acc ++ [y]))) else Nx H3) := by
  subst hv
  refine lc_tup (K := K) (a := a) (xs := xs) (fun i H' => Same H H' ∧ H' D = some (.lst (zs.take i))) ⟨same_new hD _, upd_same⟩ (fun i H' _ ⟨s, _⟩ => (stay_same s).tup _ _ hq) (fun i x H' hx ⟨s1, e1⟩ => ?_) (fun H' ⟨s1, e1⟩ => fin H' s1 (by rw [e1, ← hl, List.take_length]))
  have hi : i < zs.length := by rw [hl]; exact (List.getElem?_eq_some_iff.mp hx).1
  obtain ⟨z, hz1⟩ : ∃ z, zs[i]? = some z := ⟨_, List.getElem?_eq_getElem hi⟩
  refine ⟨wipe_one, ?_⟩
  unfold tYes
  dsimp only
  rw [if_pos rfl]
  refine step i x z H' _ hx hz1 s1 fun H2 s2 => ?_
  have e2 := s2 _ _ e1
  refine ⟨_, e2, ?_, same_mut (s1.trans s2) hD, ?_⟩
  · rw [List.length_take]
    exact Nat.lt_of_le_of_lt (show min i zs.length ≤ 100000 by omega) (by decide)
  · rw [upd_same, take_one hz1]
end
end N

namespace N
open PySem PySem.Spec PyProof.Rows L2
/-! ### classes as data -/
structure Cls where
  nm : Str
  ps : List (Str × Str)
  ks : List Kd
  ms : List (Str × Str × Kd)
def varz : List Str := ["out", "in", "same"]
def wayz : List Str := ["reads", "takes", "holds"]
structure Cls.ok (c : Cls) : Prop where
  n : isNam c.nm = true
  p2 : c.ps.length ≤ 2
  pl : ∀ p ∈ c.ps, isLet p.1 = true ∧ p.2 ∈ varz
  pd : (c.ps.map Prod.fst).Nodup
  k2 : c.ks.length ≤ 2
  kk : ∀ k ∈ c.ks, k.ok ∧ k.isC = true ∧ k.size ≤ 6 ∧ k.nds ≤ 1000
  m2 : c.ms.length ≤ 2
  ml : ∀ m ∈ c.ms, isNam m.1 = true ∧ m.2.1 ∈ wayz ∧ m.2.2.ok ∧ m.2.2.size ≤ 6 ∧ m.2.2.nds ≤ 1000
  md : (c.ms.map Prod.fst).Nodup
def Pp (K : PySem.W.Frag) (H : Hp) (v : V) (p : Str × Str) : Prop := ∃ a, v = .ref a ∧ SqT K H a [.str p.1, .str p.2]
def Mp (K : PySem.W.Frag) (H : Hp) (v : V) (m : Str × Str × Kd) : Prop := ∃ a u, v = .ref a ∧ SqT K H a [.str m.1, .str m.2.1, u] ∧ Kp K H u m.2.2
def PsAt (K : PySem.W.Frag) (H : Hp) (a : Addr) (ps : List (Str × Str)) : Prop := ∃ xs, SqT K H a xs ∧ Paired (Pp K H) xs ps
def KsAt (K : PySem.W.Frag) (H : Hp) (a : Addr) (ks : List Kd) : Prop := ∃ xs, SqT K H a xs ∧ Paired (fun v k => Kp K H v k) xs ks
def MsAt (K : PySem.W.Frag) (H : Hp) (a : Addr) (ms : List (Str × Str × Kd)) : Prop := ∃ xs, SqT K H a xs ∧ Paired (Mp K H) xs ms
def Cp (K : PySem.W.Frag) (H : Hp) (v : V) (c : Cls) : Prop := ∃ a ap ak am, v = .ref a ∧ SqT K H a [.str c.nm, .ref ap, .ref ak, .ref am] ∧ PsAt K H ap c.ps ∧ KsAt K H ak c.ks ∧ MsAt K H am c.ms
section
variable {K : PySem.W.Frag} {H H' : Hp}
theorem Pp.stay {v : V} {p : Str × Str} (s : Stay K H H') (h : Pp K H v p) : Pp K H' v p := by
  obtain ⟨a, e, q⟩ := h
  exact ⟨a, e, s.tup _ _ q⟩
theorem Mp.stay {v : V} {m : Str × Str × Kd} (s : Stay K H H') (h : Mp K H v m) : Mp K H' v m := by
  obtain ⟨a, u, e, q, k⟩ := h
  exact ⟨a, u, e, s.tup _ _ q, k.stay s⟩
theorem PsAt.stay {a : Addr} {ps : List (Str × Str)} (s : Stay K H H') (h : PsAt K H a ps) : PsAt K H' a ps := by
  obtain ⟨xs, q, r⟩ := h
  exact ⟨xs, s.tup _ _ q, Paired.mapP r fun _ _ z => z.stay s⟩
theorem KsAt.stay {a : Addr} {ks : List Kd} (s : Stay K H H') (h : KsAt K H a ks) : KsAt K H' a ks := by
  obtain ⟨xs, q, r⟩ := h
  exact ⟨xs, s.tup _ _ q, Paired.mapP r fun _ _ z => Th.stay s z⟩
theorem MsAt.stay {a : Addr} {ms : List (Str × Str × Kd)} (s : Stay K H H') (h : MsAt K H a ms) : MsAt K H' a ms := by
  obtain ⟨xs, q, r⟩ := h
  exact ⟨xs, s.tup _ _ q, Paired.mapP r fun _ _ z => z.stay s⟩
theorem Cp.stay {v : V} {c : Cls} (s : Stay K H H') (h : Cp K H v c) : Cp K H' v c := by
  obtain ⟨a, ap, ak, am, e, q, h1, h2, h3⟩ := h
  exact ⟨a, ap, ak, am, e, s.tup _ _ q, h1.stay s, h2.stay s, h3.stay s⟩
end
/-- what the top holds for tables -/
structure Glo2 (K : PySem.W.Frag) (mg : Str → Option Value) : Prop where
  set : mg "set" = none
  MC : ∃ t, mg "MOST_CLASSES" = some (.int 5 t)
  MI : ∃ t, mg "MOST_IN_CLASS" = some (.int 2 t)
  MS : ∃ t, mg "MOST_SIZE" = some (.int 6 t)
  VA : ∃ a, mg "VARIANCES" = some (.ref a) ∧ ∀ H, SqT K H a (varz.map V.str)
  WA : ∃ a, mg "WAYS" = some (.ref a) ∧ ∀ H, SqT K H a (wayz.map V.str)
section
variable {P : Program} {w : World} {K : PySem.W.Frag} {mg : Str → Option Value} {base : Heap}
/-- is_short_tuple, of a tuple -/
def spShort (K : PySem.W.Frag) : Sp := fun vs H Q _ => ∃ (a : Addr) (xs : List V), vs = [.ref a] ∧ SqT K H a xs ∧ Q (.bl (decide (xs.length ≤ 2))) H
theorem ok_short (G : Glo mg) (G2 : Glo2 K mg) (D : DefAt K mg "is_short_tuple" s_is_short_tuple ["thing"]) : Cal P w K mg base 1 "is_short_tuple" ["thing"] (spShort K) := by
  obtain ⟨t2, h2⟩ := G2.MI
  refine D.cal sc_is_short_tuple (fun vs H Q E h => ?_) (fun f cdv A outer s H vs Q E hr h => ?_)
  · obtain ⟨a, xs, rfl, _⟩ := h
    rfl
  obtain ⟨a, xs, rfl, hq, q⟩ := h
  refine ⟨_, pss_one (ps_ret (pe_and (pe_isi G.isinstance G.tuple b_tuple rfl rfl (pv 0)) (pe_one (pe_cmpR op_le (pe_callB call_len_seq (by rfl) G.len PySem.boot_len (pa_cons (pv 0) pa_nil)) (pe_glob (v := .int 2) rfl h2 ⟨_, rfl⟩) (nomark _))))), ?_⟩
  refine ⟨_, rfl, isi_q (b := true) (SqT.ty hq) (kit_ty (by decide +kernel)) ⟨_, rfl, iteT ⟨_, rfl, a, xs, rfl, .inr hq, _, _, rfl, rfl, ?_⟩⟩⟩
  have e : decide (((xs.length : Nat) : Int) ≤ 2) = decide (xs.length ≤ 2) := by
    by_cases h : xs.length ≤ 2
    · rw [decide_eq_true h, decide_eq_true (by omega)]
    · rw [decide_eq_false h, decide_eq_false (by omega)]
  show Q (V.bl (decide (((xs.length : Nat) : Int) ≤ 2))) H
  rw [e]
  exact q
/-- all_differ, of texts -/
def spDiffer (K : PySem.W.Frag) : Sp := fun vs H Q _ => ∃ (a : Addr) (ys : List Str), vs = [.ref a] ∧ (SqL K H a (ys.map V.str) ∨ SqT K H a (ys.map V.str)) ∧ ys.length ≤ 1000 ∧ ∀ H' b, Same H H' → (b = true ↔ ys.Nodup) → Q (.bl b) H'
theorem ok_differ (G : Glo mg) (G2 : Glo2 K mg) (D : DefAt K mg "all_differ" s_all_differ ["words"]) : Cal P w K mg base 1 "all_differ" ["words"] (spDiffer K) := by
  refine D.cal sc_all_differ (fun vs H Q E h => ?_) (fun f cdv A outer s H vs Q E hr h => ?_)
  · obtain ⟨a, xs, rfl, _⟩ := h
    rfl
  obtain ⟨a, ys, rfl, hq, hn, q⟩ := h
  refine ⟨_, pss_one (ps_ret (pe_cmpR op_eq (pe_callB call_lenS (by rfl) G.len PySem.boot_len (pa_cons (pe_callTy (call_setTx rfl) (by rfl) G2.set (by decide +kernel) (pa_cons (pv 0) pa_nil)) pa_nil)) (pe_callB call_len_seq (by rfl) G.len PySem.boot_len (pa_cons (pv 0) pa_nil)) (nomark _))), ?_⟩
  refine ⟨_, rfl, a, ys, rfl, hq, hn, fun p c hp h1 h2 => ⟨p, ys, c, rfl, upd_same, by omega, _, rfl, a, ys.map V.str, rfl, ?_, rfl, ?_⟩⟩
  · have s1 := same_new hp (SetS P w p ys c)
    exact hq.imp s1.seq (fun z => (stay_same s1).tup _ _ z)
  · refine q _ _ (same_new hp _) ?_
    rw [List.length_map, decide_eq_true_iff, ← h2]
    constructor
    · intro h
      have := V.int.inj h
      omega
    · intro h
      rw [h]
theorem pairedAt {α β : Type} {F : α → β → Prop} : ∀ {l : List α} {r : List β} {i : Nat} {x : α}, Paired F l r → l[i]? = some x → ∃ y, r[i]? = some y ∧ F x y
  | _, _, _, _, .nil, e => by simp at e
  | _, _, 0, x, .cons h t, e => by
    simp only [List.getElem?_cons_zero, Option.some.injEq] at e
    subst e
    exact ⟨_, rfl, h⟩
  | _, _, i + 1, x, .cons _ t, e => by
    obtain ⟨y, h1, h2⟩ := pairedAt (i := i) (x := x) t (by simpa using e)
    exact ⟨y, by simpa using h1, h2⟩
/-- is_parameter, of a right one -/
def spPar (K : PySem.W.Frag) : Sp := fun vs H Q _ => ∃ (v : V) (p : Str × Str), vs = [v] ∧ Pp K H v p ∧ isLet p.1 = true ∧ p.2 ∈ varz ∧ Q (.bl true) H
theorem let_len1 {x : Str} (h : isLet x = true) : x.length ≤ 100000 := by
  obtain ⟨c, e, _⟩ := isLet_iff.mp h
  show x.cps.size ≤ _
  rw [← Array.length_toList, e]
  show 1 ≤ 100000
  decide
theorem in_strs {x : Str} {l : List Str} (h : x ∈ l) : inV (.str x) (l.map V.str) = true := by
  unfold inV
  rw [List.any_eq_true]
  exact ⟨.str x, List.mem_map_of_mem h, decide_eq_true rfl⟩
theorem ok_par (G : Glo mg) (G2 : Glo2 K mg) (CL : Cal P w K mg base 1 "is_letter" ["thing"] (spTest K Tg.isL)) (D : DefAt K mg "is_parameter" s_is_parameter ["thing"]) : Cal P w K mg base 2 "is_parameter" ["thing"] (spPar K) := by
  obtain ⟨va, hva, hvs⟩ := G2.VA
  refine D.cal sc_is_parameter (fun vs H Q E h => ?_) (fun f cdv A outer s H vs Q E hr h => ?_)
  · obtain ⟨v, p, rfl, _⟩ := h
    rfl
  obtain ⟨v, p, rfl, ⟨a, rfl, hq⟩, h1, h2, q⟩ := h
  refine ⟨_, pss_cons (ps_if (PW.pt (pw_or (pt_not (pt_val (pe_isi G.isinstance G.tuple b_tuple rfl rfl (pv 0)))) (pw_or1 (pt_cmpR op_ne (pe_callB call_len_seq (by rfl) G.len PySem.boot_len (pa_cons (pv 0) pa_nil)) pe_int (nomark _))))) (pss_one (ps_ret pe_bl)) pss_nil)
    (pss_one (ps_ret (pe_and (pc CL hr rfl (pa_cons (pe_ix ix_tup (pv 0) pe_int (fun _ _ => rfl)) pa_nil)) (pe_one (pe_cmpR op_in_seq (pe_ix ix_tup (pv 0) pe_int (fun _ _ => rfl)) (pe_glob (v := .ref va) rfl hva rfl) (by rfl)))))), ?_⟩
  refine ⟨_, rfl, isi_q (b := true) (SqT.ty hq) (kit_ty (by decide +kernel)) ⟨_, rfl, iteN rfl ⟨_, rfl, a, _, rfl, .inr hq, rfl, _, rfl, iteN rfl ?_⟩⟩⟩
  refine ⟨_, rfl, a, _, 0, .str p.1, rfl, rfl, hq, atI_nat (j := 0) rfl, .str p.1, .str p.1, rfl, .str p.1 (let_len1 h1), _, rfl, iteE (show Tg.isL (.str p.1) = true from h1) ?_⟩
  refine ⟨_, rfl, a, _, 1, .str p.2, rfl, rfl, hq, atI_nat (j := 1) rfl, va, varz.map V.str, rfl, .inr (hvs _), rfl, by decide, ?_⟩
  rw [in_strs h2]
  exact q
/-- are_parameters, of right ones -/
def spPars (K : PySem.W.Frag) : Sp := fun vs H Q _ => ∃ (a : Addr) (ps : List (Str × Str)), vs = [.ref a] ∧ PsAt K H a ps ∧ ps.length ≤ 2 ∧ (∀ p ∈ ps, isLet p.1 = true ∧ p.2 ∈ varz) ∧ (ps.map Prod.fst).Nodup ∧ ∀ H', Same H H' → Q (.bl true) H'
theorem ok_pars (G : Glo mg) (CS : Cal P w K mg base 1 "is_short_tuple" ["thing"] (spShort K)) (CP : Cal P w K mg base 2 "is_parameter" ["thing"] (spPar K)) (CD : Cal P w K mg base 1 "all_differ" ["words"] (spDiffer K)) (D : DefAt K mg "are_parameters" s_are_parameters ["thing"]) : Cal P w K mg base 3 "are_parameters" ["thing"] (spPars K) := by
  refine D.cal sc_are_parameters (fun vs H Q E h => ?_) (fun f cdv A outer s H vs Q E hr h => ?_)
  · obtain ⟨v, p, rfl, _⟩ := h
    rfl
  obtain ⟨a, ps, rfl, ⟨xs, hq, hp⟩, h2, hl, hd, q⟩ := h
  have hxl : xs.length = ps.length := Paired.length hp
  refine ⟨_, pss_cons (ps_if (PW.pt (pw_or (pt_not (pt_val (pc CS (hr.mono (by decide)) rfl (pa_cons (pv 0) pa_nil)))) (pw_or1 (pt_not (pt_val (pe_callB (cr_all rfl) (by rfl) G.all (by decide +kernel) (pa_cons (pe_lc (own := [("one", 1)]) (g := gName 1) (tt := tYes) (te := fun σ H Q => tCons (tVar 1) tNil σ H fun vs H1 => spPar K vs H1 Q E0) rfl sc_are_parameters.nd (pi_tup (pv 0)) (blkOk_by (N := nm_are_parameters) (sc := defScope s_are_parameters) (own := [("one", 1)]) (by decide +kernel))
        (fun _ _ _ _ _ => pg_name (i := 1) sc_are_parameters.nd rfl (Or.inl rfl)) (fun _ _ _ _ _ => pts_nil) (fun _ _ _ _ _ => pc CP hr rfl (pa_cons (pv 1) pa_nil))) pa_nil))))))) (pss_one (ps_ret pe_bl)) pss_nil)
    (pss_one (ps_ret (pc CD (hr.mono (by decide)) rfl (pa_cons (pe_lc (own := [("one", 1)]) (g := gName 1) (tt := tYes) (te := tOp (rIxT K) (tVar 1) (tC (.int 0))) rfl sc_are_parameters.nd (pi_tup (pv 0)) (blkOk_by (N := nm_are_parameters) (sc := defScope s_are_parameters) (own := [("one", 1)]) (by decide +kernel))
        (fun _ _ _ _ _ => pg_name (i := 1) sc_are_parameters.nd rfl (Or.inl rfl)) (fun _ _ _ _ _ => pts_nil) (fun _ _ _ _ _ => pe_ix ix_tup (pv 1) pe_int (fun _ _ => rfl))) pa_nil)))), ?_⟩
  refine ⟨_, rfl, a, xs, rfl, hq, _, rfl, iteN (by rw [decide_eq_true (by omega)]; rfl) ?_⟩
  refine ⟨_, rfl, a, rfl, ⟨xs, hq⟩, fun B hB => ?_⟩
  refine lc_vals (te := fun σ H Q => tCons (tVar 1) tNil σ H fun vs H1 => spPar K vs H1 Q E0) (zs := List.replicate xs.length (.bl true)) 1 rfl (List.length_replicate ..) (by omega) hq hB (fun i x z H' Q' hx hz s1 k => ?_) (fun H1 s1 hB1 => ?_)
  · obtain ⟨p, hp1, hp2⟩ := pairedAt hp hx
    have ez : z = .bl true := by
      have := List.mem_of_getElem? hz
      exact (List.mem_replicate.mp this).2
    subst ez
    obtain ⟨l1, l2⟩ := hl p (List.mem_of_getElem? hp1)
    exact ⟨x, rfl, x, p, rfl, hp2.stay (stay_same s1), l1, l2, k _ (Same.refl _)⟩
  refine ⟨B, List.replicate xs.length true, rfl, SqL.of (by rw [hB1, List.map_replicate]), _, rfl, iteN (by simp) ?_⟩
  refine ⟨_, rfl, a, rfl, ⟨xs, (stay_same s1).tup _ _ hq⟩, fun B2 hB2 => ?_⟩
  refine lc_vals (te := tOp (rIxT K) (tVar 1) (tC (.int 0))) (zs := (ps.map Prod.fst).map V.str) 1 rfl (by rw [List.length_map, List.length_map, hxl]) (by omega) ((stay_same s1).tup _ _ hq) hB2 (fun i x z H' Q' hx hz s2 k => ?_) (fun H2 s2 hB3 => ?_)
  · obtain ⟨p, hp1, hp2⟩ := pairedAt hp hx
    obtain ⟨a', rfl, hq'⟩ := hp2
    have ez : z = .str p.1 := by
      rw [List.getElem?_map, List.getElem?_map, hp1] at hz
      exact (Option.some.inj hz).symm
    subst ez
    exact ⟨_, rfl, a', _, 0, .str p.1, rfl, rfl, (stay_same (s1.trans s2)).tup _ _ hq', atI_nat (j := 0) rfl, k _ (Same.refl _)⟩
  refine ⟨B2, ps.map Prod.fst, rfl, .inl (SqL.of hB3), by rw [List.length_map]; omega, fun H3 b s3 hb => ?_⟩
  rw [hb.mpr hd]
  exact q _ ((s1.trans s2).trans s3)
end
end N

namespace N
open PySem PySem.Spec PyProof.Rows L2
section
variable {P : Program} {w : World} {K : PySem.W.Frag} {mg : Str → Option Value} {base : Heap}
def spParts (K : PySem.W.Frag) : Sp := fun vs H Q _ => ∃ (v : V) (k : Kd), vs = [v] ∧ Kp K H v k ∧ k.nds ≤ 100000 ∧
  ∀ p H' xs, Same H H' → H p = none → H' p = some (.lst xs) → Kps K H' xs k.parts → Q (.ref p) H'
theorem nds_flat : ∀ ks : List Kd, (ks.flatMap Kd.parts).length = (ks.map Kd.nds).sum
  | [] => rfl
  | k :: ks => by
    rw [List.flatMap_cons, List.length_append, Kd.nds_parts, nds_flat ks]
    rfl
theorem sum_ge_len : ∀ ks : List Kd, ks.length ≤ (ks.map Kd.nds).sum
  | [] => Nat.zero_le _
  | k :: ks => by
    have h1 := sum_ge_len ks
    have h2 := Kd.nds_pos k
    simp only [List.length_cons, List.map_cons, List.sum_cons]
    omega
theorem snoc_last {α : Type} (xs : List α) (u : α) : (xs ++ [u])[(xs ++ [u]).length - 1]? = some u := by
  rw [List.length_append, List.length_singleton, Nat.add_sub_cancel, List.getElem?_append_right (Nat.le_refl _), Nat.sub_self] <;> rfl
theorem snoc_ne {α : Type} (xs : List α) (u : α) : (!(xs ++ [u]).isEmpty) = true := by cases xs <;> rfl
theorem ok_parts (G : Glo mg) (D : DefAt K mg "parts" s_parts ["kind"]) : Cal P w K mg base 1 "parts" ["kind"] (spParts K) := by
  refine D.cal sc_parts (fun vs H Q E h => ?_) (fun f cdv A outer s H vs Q E hr h => ?_)
  · obtain ⟨v, k, rfl, _⟩ := h
    rfl
  obtain ⟨v, k, rfl, hT, hn, q⟩ := h
  refine ⟨_, pss_cons (ps_set (i := 1) sc_parts.nd rfl (Or.inl rfl) (pe_lst pa_nil)) (pss_cons (ps_set (i := 2) sc_parts.nd rfl (Or.inl rfl) (pe_lst (pa_cons (pv 0) pa_nil)))
    (pss_cons (ps_while (passes_of rfl) (pt_truth (pv 2) (by intro _; rfl))
      (pss_cons (ps_set (i := 3) sc_parts.nd rfl (Or.inl rfl) (pe_bm0 PySem.F.plainAttrs_list PySem.F.slot_list_pop PySem.F.type_list_pop mt_pop (pv 2)))
        (pss_cons (ps_expr (pe_bm PySem.F.plainAttrs_list PySem.F.slot_list_append PySem.F.type_list_append mt_append (pv 1) (pa_cons (pv 3) pa_nil)))
        (pss_one (ps_if (pt_val (pe_isi G.isinstance G.tuple b_tuple rfl rfl (pv 3)))
          (pss_one (ps_expr (pe_bm PySem.F.plainAttrs_list PySem.F.slot_list_extend PySem.F.type_list_extend mt_extendT (pv 2) (pa_cons (pe_backT (pv 3)) pa_nil))))
          pss_nil)))))
    (pss_one (ps_ret (pv 1))))), ?_⟩
  refine ⟨by show 0 ≤ sizeLine; decide, fun fo hfo => ?_⟩
  refine ⟨v, rfl, by show 1 ≤ sizeLine; decide, fun l hl => ?_⟩
  have nfl : fo ≠ l := ne_of_none upd_same hl
  have hl0 : H l = none := by rw [upd_ne nfl.symm] at hl; exact hl
  have s0 : Same H (upd (upd H fo (.lst [])) l (.lst [v])) := (same_new hfo _).trans (same_new hl _)
  refine ⟨fun m σ H' => ∃ fs done xs ks y, m = (ks.map Kd.nds).sum ∧ σ = [some v, some (.ref fo), some (.ref l), y] ∧ Same H H' ∧ H' fo = some (.lst fs) ∧ H' l = some (.lst xs) ∧ Kps K H' fs done ∧ Kps K H' xs ks ∧ k.parts = done ++ ks.reverse.flatMap Kd.parts,
    ⟨_, [], [], [v], [k], _, rfl, rfl, s0, by rw [upd_ne nfl]; exact upd_same, upd_same, .nil, .cons (hT.stay (stay_same s0)) .nil, by simp⟩, fun m σ H' hW => ?_⟩
  obtain ⟨fs, done, xs, ks, y, rfl, rfl, sm, hf, hx, hA, hB, he⟩ := hW
  refine ⟨_, rfl, _, .inl ⟨xs, SqL.of hx, rfl⟩, ?_⟩
  have hlen := Kps.length hB
  have hlf := Kps.length hA
  have hcount : done.length + (ks.map Kd.nds).sum = k.nds := by
    have := congrArg List.length he
    rw [Kd.nds_parts, List.length_append, nds_flat, List.map_reverse, List.sum_reverse] at this
    omega
  by_cases hne : ks = []
  · subst hne
    have e0 : xs = [] := List.length_eq_zero_iff.mp hlen
    subst e0
    refine iteF ⟨_, rfl, q fo H' fs sm hfo hf ?_⟩
    rw [he]
    simpa using hA
  obtain ⟨u, xs', k', ks', e1, e2, hu, hr'⟩ := Kps.snoc hB hne
  subst e1 e2
  refine iteE (snoc_ne _ _) ?_
  have en : ((ks' ++ [k']).map Kd.nds).sum = (ks'.map Kd.nds).sum + k'.nds := by rw [List.map_append, List.sum_append]; simp
  have hp1 := Kd.nds_pos k'
  have hge := sum_ge_len ks'
  have hl2 := Kps.length hr'
  refine ⟨fun σ2 H2 => ∃ fs done xs ks y, (ks.map Kd.nds).sum < ((ks' ++ [k']).map Kd.nds).sum ∧ σ2 = [some v, some (.ref fo), some (.ref l), y] ∧ Same H H2 ∧ H2 fo = some (.lst fs) ∧ H2 l = some (.lst xs) ∧ Kps K H2 fs done ∧ Kps K H2 xs ks ∧ k.parts = done ++ ks.reverse.flatMap Kd.parts,
    fun σ2 H2 ⟨fs, done, xs, ks, y, a, b, c, d, e, f, g, h⟩ => ⟨_, a, fs, done, xs, ks, y, rfl, b, c, d, e, f, g, h⟩, ?_⟩
  refine ⟨_, rfl, .inl ⟨rfl, _, SqL.of hx⟩, l, _, u, rfl, rfl, hx, snoc_last _ _, ?_⟩
  rw [List.dropLast_concat]
  have st : Stay K H' (upd H' l (.lst xs')) := stay_lst hx
  have hf1 : (upd H' l (.lst xs')) fo = some (.lst fs) := by rw [upd_ne nfl]; exact hf
  have st1 : Stay K (upd H' l (.lst xs')) (upd (upd H' l (.lst xs')) fo (.lst (fs ++ [u]))) := stay_lst hf1
  have st2 := st.trans st1
  have hl1 : (upd (upd H' l (.lst xs')) fo (.lst (fs ++ [u]))) l = some (.lst xs') := by rw [upd_ne nfl.symm]; exact upd_same
  refine ⟨_, rfl, .inl ⟨rfl, _, SqL.of hf1⟩, u, rfl, fo, fs, u, rfl, rfl, hf1, Nat.lt_of_le_of_lt (show fs.length ≤ 100000 by omega) (by decide), ?_⟩
  have s2 : Same H (upd (upd H' l (.lst xs')) fo (.lst (fs ++ [u]))) := same_mut (same_mut sm hl0) hfo
  have hu2 := hu.stay st2
  have hr2 : Kps K _ xs' ks' := ThAll.stay st2 hr'
  have hA2 : Kps K _ (fs ++ [u]) (done ++ [k']) := Kps.app (ThAll.stay st2 hA) (.cons hu2 .nil)
  refine ⟨u, rfl, isi_tup hu2 ⟨_, rfl, ?_⟩⟩
  rw [Kd.isTu_tg]
  have hen : k.parts = (done ++ [k']) ++ (ks' ++ k'.args.reverse).reverse.flatMap Kd.parts := by
    rw [he, List.reverse_append, List.reverse_append, List.reverse_reverse, List.flatMap_append, List.flatMap_append]
    simp only [List.reverse_singleton, List.flatMap_singleton, List.append_assoc]
    rw [Kd.parts_eq k']
    simp
  cases hc : k'.isC with
  | false =>
    refine iteF ⟨_, _, xs', ks', _, ?_, rfl, s2, upd_same, hl1, hA2, hr2, ?_⟩
    · omega
    · have ea : k'.args = [] := by cases k' <;> first | rfl | cases hc
      rw [ea] at hen
      simpa using hen
  | true =>
    obtain ⟨a, zs, rfl, hq, hx5, hz⟩ := kp_C hu2 hc
    have hzl := Kps.length hz
    have hal := Kd.args_len k'
    have han := Kd.args_nds k'
    have hgs := sum_ge_len k'.args
    refine iteT ⟨_, rfl, .inl ⟨rfl, _, SqL.of hl1⟩, _, rfl, a, _, rfl, hq, by simp, fun p hp => ?_⟩
    rw [show (V.str k'.nm :: zs).drop 1 = zs from rfl]
    have npl : l ≠ p := ne_of_none hl1 hp
    have npf : fo ≠ p := ne_of_none upd_same hp
    have hx2 : (upd (upd (upd H' l (.lst xs')) fo (.lst (fs ++ [.ref a]))) p (.tup zs.reverse)) l = some (.lst xs') := by rw [upd_ne npl]; exact hl1
    have st3 : Stay K (upd (upd H' l (.lst xs')) fo (.lst (fs ++ [.ref a]))) (upd (upd (upd H' l (.lst xs')) fo (.lst (fs ++ [.ref a]))) p (.tup zs.reverse)) := stay_new hp _
    have st4 : Stay K (upd (upd (upd H' l (.lst xs')) fo (.lst (fs ++ [.ref a]))) p (.tup zs.reverse)) (upd (upd (upd (upd H' l (.lst xs')) fo (.lst (fs ++ [.ref a]))) p (.tup zs.reverse)) l (.lst (xs' ++ zs.reverse))) := stay_lst hx2
    have st5 := st3.trans st4
    refine ⟨l, p, xs', zs.reverse, rfl, rfl, hx2, .inl (.inl upd_same), sz5 (by rw [List.length_reverse]; omega), ?_⟩
    refine ⟨fs ++ [.ref a], done ++ [k'], xs' ++ zs.reverse, ks' ++ k'.args.reverse, _, ?_, rfl, same_mut (s2.trans (same_new hp _)) hl0, ?_, upd_same, ThAll.stay st5 hA2, Kps.app (ThAll.stay st5 hr2) (Kps.rev (ThAll.stay st5 hz)), hen⟩
    · rw [en, List.map_append, List.sum_append, List.map_reverse, List.sum_reverse]
      omega
    · rw [upd_ne nfl, upd_ne npf]
      exact upd_same
end
end N

namespace N
open PySem PySem.Spec PyProof.Rows L2
section
variable {P : Program} {w : World} {K : PySem.W.Frag} {mg : Str → Option Value} {base : Heap}
def spCls (K : PySem.W.Frag) : Sp := fun vs H Q _ => ∃ (a : Addr) (xs : List V) (ks : List Kd), vs = [.ref a] ∧ SqL K H a xs ∧ Kps K H xs ks ∧ xs.length ≤ 100000 ∧
  ∀ p H' ys, Same H H' → H p = none → H' p = some (.lst ys) → Kps K H' ys (ks.filter Kd.isC) → Q (.ref p) H'
theorem ok_class_types (G : Glo mg) (D : DefAt K mg "class_types" s_class_types ["kinds"]) : Cal P w K mg base 1 "class_types" ["kinds"] (spCls K) := by
  refine D.cal sc_class_types (fun vs H Q E h => ?_) (fun f cdv A outer s H vs Q E hr h => ?_)
  · obtain ⟨a, xs, ks, rfl, _⟩ := h
    rfl
  obtain ⟨a, xs, ks, rfl, hS, hk, hl, q⟩ := h
  refine ⟨_, pss_one (ps_ret (pe_lc (own := [("kind", 1)]) (g := gName 1) (tt := tB (fun σ H Q => tVar 1 σ H fun v H1 => rIsi K [v, .ty "tuple"] H1 Q)) rfl sc_class_types.nd (pi_list (pv 0)) (blkOk_by (N := nm_class_types) (sc := defScope s_class_types) (own := [("kind", 1)]) (by decide +kernel))
    (fun _ _ _ _ _ => pg_name (i := 1) sc_class_types.nd rfl (Or.inl rfl)) (fun _ _ _ _ _ => pts_one (pt_val (pe_isi G.isinstance G.tuple b_tuple rfl rfl (pv 1)))) (fun _ _ _ _ _ => pv 1))), ?_⟩
  refine ⟨_, rfl, a, rfl, ⟨xs, hS⟩, fun D hD => ?_⟩
  refine lc_list (K := K) (a := a) (xs := xs) (fun i H' => ∃ acc, Same H H' ∧ H' D = some (.lst acc) ∧ Kps K H' acc ((ks.take i).filter Kd.isC)) ⟨[], same_new hD _, upd_same, .nil⟩ (fun i H' _ ⟨acc, sm, _⟩ => sm.seq hS) (fun i x H' hx ⟨acc, sm, hacc, hk'⟩ => ?_) (fun H1 ⟨acc, sm, hacc, hk'⟩ => ?_)
  · obtain ⟨k, hk1, hk2⟩ := Kps.at hk hx
    have hx2 := hk2.stay (stay_same sm)
    have hle : acc.length ≤ 100000 := by
      have h1 := Kps.length hk'
      have h2 := Kps.length hk
      have h3 : ((ks.take i).filter Kd.isC).length ≤ ks.length := Nat.le_trans (List.length_filter_le ..) (by rw [List.length_take]; omega)
      omega
    refine ⟨rfl, x, rfl, isi_tup hx2 ⟨_, rfl, ?_⟩⟩
    rw [Kd.isTu_tg, take_snoc hk1, List.filter_append]
    cases hc : k.isC with
    | true =>
      refine iteT ⟨x, rfl, acc, hacc, Nat.lt_of_le_of_lt hle (by decide), acc ++ [x], same_mut sm hD, upd_same, ?_⟩
      have e : [k].filter Kd.isC = [k] := by simp [hc]
      rw [e]
      exact Kps.app (ThAll.stay (stay_lst hacc) hk') (.cons (hx2.stay (stay_lst hacc)) .nil)
    | false =>
      have e : [k].filter Kd.isC = [] := by simp [hc]
      rw [e, List.append_nil]
      exact iteF ⟨acc, sm, hacc, hk'⟩
  · rw [Kps.length hk, List.take_length] at hk'
    exact q D H1 acc sm hD hacc hk'
/-- a number of a kind -/
def spNum (K : PySem.W.Frag) (g : Kd → Nat) : Sp := fun vs H Q _ => ∃ (v : V) (k : Kd), vs = [v] ∧ Kp K H v k ∧ k.nds ≤ 100000 ∧ ∀ H', Same H H' → Q (.int (g k : Nat)) H'
theorem ok_size_of (G : Glo mg) (CP : Cal P w K mg base 1 "parts" ["kind"] (spParts K)) (CC : Cal P w K mg base 1 "class_types" ["kinds"] (spCls K)) (D : DefAt K mg "size_of" s_size_of ["kind"]) : Cal P w K mg base 2 "size_of" ["kind"] (spNum K Kd.size) := by
  refine D.cal sc_size_of (fun vs H Q E h => ?_) (fun f cdv A outer s H vs Q E hr h => ?_)
  · obtain ⟨v, k, rfl, _⟩ := h
    rfl
  obtain ⟨v, k, rfl, hT, hn, q⟩ := h
  refine ⟨_, pss_one (ps_ret (pe_callB call_len_seq (by rfl) G.len PySem.boot_len (pa_cons (pc CC hr rfl (pa_cons (pc CP hr rfl (pa_cons (pv 0) pa_nil)) pa_nil)) pa_nil))), ?_⟩
  refine ⟨v, rfl, v, k, rfl, hT, hn, fun p H1 xs sm hp hx hk => ?_⟩
  have hl := Kps.length hk
  rw [Kd.nds_parts] at hl
  refine ⟨p, xs, k.parts, rfl, SqL.of hx, hk, by omega, fun p2 H2 ys sm2 hp2 hy hk2 => ?_⟩
  refine ⟨p2, ys, rfl, .inl (SqL.of hy), ?_⟩
  have e : ((ys.length : Nat) : Int) = (k.size : Nat) := by rw [Kps.length hk2, ← Kd.size_parts]
  rw [e]
  exact q H2 (sm.trans sm2)
end
end N

namespace N
open PySem PySem.Spec PyProof.Rows L2
section
variable {P : Program} {w : World} {K : PySem.W.Frag} {mg : Str → Option Value} {base : Heap}
/-- is_declared, of a right kind -/
def spDecl (K : PySem.W.Frag) : Sp := fun vs H Q _ => ∃ (v : V) (k : Kd), vs = [v] ∧ Kp K H v k ∧ k.ok ∧ k.size ≤ 6 ∧ k.nds ≤ 1000 ∧ ∀ H', Same H H' → Q (.bl true) H'
theorem ok_decl (G : Glo mg) (G2 : Glo2 K mg) (CT : Cal P w K mg base 3 "is_type" ["thing"] (spAsk K isT)) (CS : Cal P w K mg base 2 "size_of" ["kind"] (spNum K Kd.size)) (D : DefAt K mg "is_declared" s_is_declared ["thing"]) : Cal P w K mg base 4 "is_declared" ["thing"] (spDecl K) := by
  obtain ⟨t6, h6⟩ := G2.MS
  refine D.cal sc_is_declared (fun vs H Q E h => ?_) (fun f cdv A outer s H vs Q E hr h => ?_)
  · obtain ⟨v, p, rfl, _⟩ := h
    rfl
  obtain ⟨v, k, rfl, hk, ok, h1, h2, q⟩ := h
  refine ⟨_, pss_one (ps_ret (pe_and (pc CT hr rfl (pa_cons (pv 0) pa_nil)) (pe_one (pe_cmpR op_le (pc CS (hr.mono (by decide)) rfl (pa_cons (pv 0) pa_nil)) (pe_glob (v := .int 6) rfl h6 ⟨_, rfl⟩) (nomark _))))), ?_⟩
  have hn := Kd.nodes_tg k
  refine ⟨v, rfl, v, k.tg, rfl, hk, by omega, fun H1 s1 => ⟨_, rfl, iteE (Kd.isT_tg ok) ?_⟩⟩
  refine ⟨v, rfl, v, k, rfl, hk.stay (stay_same s1), by omega, fun H2 s2 => ⟨_, _, rfl, rfl, ?_⟩⟩
  show Q (V.bl (decide (((k.size : Nat) : Int) ≤ 6))) H2
  rw [decide_eq_true (by omega)]
  exact q _ (s1.trans s2)
/-- are_parents, of right ones -/
def spPnts (K : PySem.W.Frag) : Sp := fun vs H Q _ => ∃ (a : Addr) (ks : List Kd), vs = [.ref a] ∧ KsAt K H a ks ∧ ks.length ≤ 2 ∧ (∀ k ∈ ks, k.ok ∧ k.isC = true ∧ k.size ≤ 6 ∧ k.nds ≤ 1000) ∧ ∀ H', Same H H' → Q (.bl true) H'
theorem ok_pnts (G : Glo mg) (CS : Cal P w K mg base 1 "is_short_tuple" ["thing"] (spShort K)) (CD : Cal P w K mg base 4 "is_declared" ["thing"] (spDecl K)) (D : DefAt K mg "are_parents" s_are_parents ["thing"]) : Cal P w K mg base 5 "are_parents" ["thing"] (spPnts K) := by
  refine D.cal sc_are_parents (fun vs H Q E h => ?_) (fun f cdv A outer s H vs Q E hr h => ?_)
  · obtain ⟨v, p, rfl, _⟩ := h
    rfl
  obtain ⟨a, ks, rfl, ⟨xs, hq, hp⟩, h2, hl, q⟩ := h
  have hxl : xs.length = ks.length := Paired.length hp
  refine ⟨_, pss_cons (ps_if (pt_not (pt_val (pc CS (hr.mono (by decide)) rfl (pa_cons (pv 0) pa_nil)))) (pss_one (ps_ret pe_bl)) pss_nil)
    (pss_one (ps_ret (pe_callB (cr_all rfl) (by rfl) G.all (by decide +kernel) (pa_cons (pe_lc (own := [("kind", 1)]) (g := gName 1) (tt := tYes) (te := tAndV (fun σ H Q => tCons (tVar 1) tNil σ H fun vs H1 => spDecl K vs H1 Q E0) (fun σ H Q => tVar 1 σ H fun v H1 => rIsi K [v, .ty "tuple"] H1 Q)) rfl sc_are_parents.nd (pi_tup (pv 0)) (blkOk_by (N := nm_are_parents) (sc := defScope s_are_parents) (own := [("kind", 1)]) (by decide +kernel))
        (fun _ _ _ _ _ => pg_name (i := 1) sc_are_parents.nd rfl (Or.inl rfl)) (fun _ _ _ _ _ => pts_nil) (fun _ _ _ _ _ => pe_and (pc CD hr rfl (pa_cons (pv 1) pa_nil)) (pe_one (pe_isi G.isinstance G.tuple b_tuple rfl rfl (pv 1))))) pa_nil)))), ?_⟩
  refine ⟨_, rfl, a, xs, rfl, hq, _, rfl, iteN (by rw [decide_eq_true (by omega)]; rfl) ?_⟩
  refine ⟨_, rfl, a, rfl, ⟨xs, hq⟩, fun B hB => ?_⟩
  refine lc_vals (te := tAndV (fun σ H Q => tCons (tVar 1) tNil σ H fun vs H1 => spDecl K vs H1 Q E0) (fun σ H Q => tVar 1 σ H fun v H1 => rIsi K [v, .ty "tuple"] H1 Q)) (zs := List.replicate xs.length (.bl true)) 1 rfl (List.length_replicate ..) (by omega) hq hB (fun i x z H' Q' hx hz s1 k => ?_) (fun H1 s1 hB1 => ?_)
  · obtain ⟨p, hp1, hp2⟩ := pairedAt hp hx
    have ez : z = .bl true := (List.mem_replicate.mp (List.mem_of_getElem? hz)).2
    subst ez
    obtain ⟨l1, l2, l3, l4⟩ := hl p (List.mem_of_getElem? hp1)
    have hp3 : Kp K H' x p := Th.stay (stay_same s1) hp2
    refine ⟨x, rfl, x, p, rfl, hp3, l1, l3, l4, fun H2 s2 => ⟨_, rfl, iteE rfl ⟨x, rfl, isi_tup (hp3.stay (stay_same s2)) ?_⟩⟩⟩
    rw [Kd.isTu_tg, l2]
    exact k _ s2
  refine ⟨B, List.replicate xs.length true, rfl, SqL.of (by rw [hB1, List.map_replicate]), ?_⟩
  rw [show (List.replicate xs.length true).all id = true by simp]
  exact q _ s1
/-- is_member, of a right one -/
def spMem (K : PySem.W.Frag) : Sp := fun vs H Q _ => ∃ (v : V) (m : Str × Str × Kd), vs = [v] ∧ Mp K H v m ∧ isNam m.1 = true ∧ m.2.1 ∈ wayz ∧ m.2.2.ok ∧ m.2.2.size ≤ 6 ∧ m.2.2.nds ≤ 1000 ∧ ∀ H', Same H H' → Q (.bl true) H'
theorem nam_len1 {x : Str} (h : isNam x = true) : x.length ≤ 100000 := by
  have := (isNam_iff.mp h).2.1
  omega
theorem ok_mem (G : Glo mg) (G2 : Glo2 K mg) (CN : Cal P w K mg base 1 "is_name" ["thing"] (spTest K Tg.isNm)) (CD : Cal P w K mg base 4 "is_declared" ["thing"] (spDecl K)) (D : DefAt K mg "is_member" s_is_member ["thing"]) : Cal P w K mg base 5 "is_member" ["thing"] (spMem K) := by
  obtain ⟨va, hva, hvs⟩ := G2.WA
  refine D.cal sc_is_member (fun vs H Q E h => ?_) (fun f cdv A outer s H vs Q E hr h => ?_)
  · obtain ⟨v, p, rfl, _⟩ := h
    rfl
  obtain ⟨v, m, rfl, ⟨a, u, rfl, hq, hu⟩, h1, h2, h3, h4, h5, q⟩ := h
  refine ⟨_, pss_cons (ps_if (PW.pt (pw_or (pt_not (pt_val (pe_isi G.isinstance G.tuple b_tuple rfl rfl (pv 0)))) (pw_or1 (pt_cmpR op_ne (pe_callB call_len_seq (by rfl) G.len PySem.boot_len (pa_cons (pv 0) pa_nil)) pe_int (nomark _))))) (pss_one (ps_ret pe_bl)) pss_nil)
    (pss_one (ps_ret (pe_and (pc CN (hr.mono (by decide)) rfl (pa_cons (pe_ix ix_tup (pv 0) pe_int (fun _ _ => rfl)) pa_nil)) (pe_and (pe_cmpR op_in_seq (pe_ix ix_tup (pv 0) pe_int (fun _ _ => rfl)) (pe_glob (v := .ref va) rfl hva rfl) (by rfl)) (pe_one (pc CD hr rfl (pa_cons (pe_ix ix_tup (pv 0) pe_int (fun _ _ => rfl)) pa_nil))))))), ?_⟩
  refine ⟨_, rfl, isi_q (b := true) (SqT.ty hq) (kit_ty (by decide +kernel)) ⟨_, rfl, iteN rfl ⟨_, rfl, a, _, rfl, .inr hq, rfl, _, rfl, iteN rfl ?_⟩⟩⟩
  refine ⟨_, rfl, a, _, 0, .str m.1, rfl, rfl, hq, atI_nat (j := 0) rfl, .str m.1, .str m.1, rfl, .str m.1 (nam_len1 h1), _, rfl, iteE (show Tg.isNm (.str m.1) = true from h1) ?_⟩
  refine ⟨_, rfl, a, _, 1, .str m.2.1, rfl, rfl, hq, atI_nat (j := 1) rfl, va, wayz.map V.str, rfl, .inr (hvs _), rfl, by decide, _, rfl, iteE (in_strs h2) ?_⟩
  exact ⟨_, rfl, a, _, 2, u, rfl, rfl, hq, atI_nat (j := 2) rfl, u, m.2.2, rfl, hu, h3, h4, h5, q⟩
/-- are_members, of right ones -/
def spMems (K : PySem.W.Frag) : Sp := fun vs H Q _ => ∃ (a : Addr) (ms : List (Str × Str × Kd)), vs = [.ref a] ∧ MsAt K H a ms ∧ ms.length ≤ 2 ∧ (∀ m ∈ ms, isNam m.1 = true ∧ m.2.1 ∈ wayz ∧ m.2.2.ok ∧ m.2.2.size ≤ 6 ∧ m.2.2.nds ≤ 1000) ∧ (ms.map Prod.fst).Nodup ∧ ∀ H', Same H H' → Q (.bl true) H'
theorem ok_mems (G : Glo mg) (CS : Cal P w K mg base 1 "is_short_tuple" ["thing"] (spShort K)) (CP : Cal P w K mg base 5 "is_member" ["thing"] (spMem K)) (CD : Cal P w K mg base 1 "all_differ" ["words"] (spDiffer K)) (D : DefAt K mg "are_members" s_are_members ["thing"]) : Cal P w K mg base 6 "are_members" ["thing"] (spMems K) := by
  refine D.cal sc_are_members (fun vs H Q E h => ?_) (fun f cdv A outer s H vs Q E hr h => ?_)
  · obtain ⟨v, p, rfl, _⟩ := h
    rfl
  obtain ⟨a, ps, rfl, ⟨xs, hq, hp⟩, h2, hl, hd, q⟩ := h
  have hxl : xs.length = ps.length := Paired.length hp
  refine ⟨_, pss_cons (ps_if (PW.pt (pw_or (pt_not (pt_val (pc CS (hr.mono (by decide)) rfl (pa_cons (pv 0) pa_nil)))) (pw_or1 (pt_not (pt_val (pe_callB (cr_all rfl) (by rfl) G.all (by decide +kernel) (pa_cons (pe_lc (own := [("one", 1)]) (g := gName 1) (tt := tYes) (te := fun σ H Q => tCons (tVar 1) tNil σ H fun vs H1 => spMem K vs H1 Q E0) rfl sc_are_members.nd (pi_tup (pv 0)) (blkOk_by (N := nm_are_members) (sc := defScope s_are_members) (own := [("one", 1)]) (by decide +kernel))
        (fun _ _ _ _ _ => pg_name (i := 1) sc_are_members.nd rfl (Or.inl rfl)) (fun _ _ _ _ _ => pts_nil) (fun _ _ _ _ _ => pc CP hr rfl (pa_cons (pv 1) pa_nil))) pa_nil))))))) (pss_one (ps_ret pe_bl)) pss_nil)
    (pss_one (ps_ret (pc CD (hr.mono (by decide)) rfl (pa_cons (pe_lc (own := [("one", 1)]) (g := gName 1) (tt := tYes) (te := tOp (rIxT K) (tVar 1) (tC (.int 0))) rfl sc_are_members.nd (pi_tup (pv 0)) (blkOk_by (N := nm_are_members) (sc := defScope s_are_members) (own := [("one", 1)]) (by decide +kernel))
        (fun _ _ _ _ _ => pg_name (i := 1) sc_are_members.nd rfl (Or.inl rfl)) (fun _ _ _ _ _ => pts_nil) (fun _ _ _ _ _ => pe_ix ix_tup (pv 1) pe_int (fun _ _ => rfl))) pa_nil)))), ?_⟩
  refine ⟨_, rfl, a, xs, rfl, hq, _, rfl, iteN (by rw [decide_eq_true (by omega)]; rfl) ?_⟩
  refine ⟨_, rfl, a, rfl, ⟨xs, hq⟩, fun B hB => ?_⟩
  refine lc_vals (te := fun σ H Q => tCons (tVar 1) tNil σ H fun vs H1 => spMem K vs H1 Q E0) (zs := List.replicate xs.length (.bl true)) 1 rfl (List.length_replicate ..) (by omega) hq hB (fun i x z H' Q' hx hz s1 k => ?_) (fun H1 s1 hB1 => ?_)
  · obtain ⟨p, hp1, hp2⟩ := pairedAt hp hx
    have ez : z = .bl true := (List.mem_replicate.mp (List.mem_of_getElem? hz)).2
    subst ez
    obtain ⟨l1, l2, l3, l4, l5⟩ := hl p (List.mem_of_getElem? hp1)
    exact ⟨x, rfl, x, p, rfl, hp2.stay (stay_same s1), l1, l2, l3, l4, l5, k⟩
  refine ⟨B, List.replicate xs.length true, rfl, SqL.of (by rw [hB1, List.map_replicate]), _, rfl, iteN (by simp) ?_⟩
  refine ⟨_, rfl, a, rfl, ⟨xs, (stay_same s1).tup _ _ hq⟩, fun B2 hB2 => ?_⟩
  refine lc_vals (te := tOp (rIxT K) (tVar 1) (tC (.int 0))) (zs := (ps.map Prod.fst).map V.str) 1 rfl (by rw [List.length_map, List.length_map, hxl]) (by omega) ((stay_same s1).tup _ _ hq) hB2 (fun i x z H' Q' hx hz s2 k => ?_) (fun H2 s2 hB3 => ?_)
  · obtain ⟨p, hp1, hp2⟩ := pairedAt hp hx
    obtain ⟨a', u, rfl, hq', _⟩ := hp2
    have ez : z = .str p.1 := by
      rw [List.getElem?_map, List.getElem?_map, hp1] at hz
      exact (Option.some.inj hz).symm
    subst ez
    exact ⟨_, rfl, a', _, 0, .str p.1, rfl, rfl, (stay_same (s1.trans s2)).tup _ _ hq', atI_nat (j := 0) rfl, k _ (Same.refl _)⟩
  refine ⟨B2, ps.map Prod.fst, rfl, .inl (SqL.of hB3), by rw [List.length_map]; omega, fun H3 b s3 hb => ?_⟩
  rw [hb.mpr hd]
  exact q _ ((s1.trans s2).trans s3)
/-- is_class, of a right one -/
def spCls1 (K : PySem.W.Frag) : Sp := fun vs H Q _ => ∃ (v : V) (c : Cls), vs = [v] ∧ Cp K H v c ∧ c.ok ∧ ∀ H', Same H H' → Q (.bl true) H'
theorem ok_class (G : Glo mg) (CN : Cal P w K mg base 1 "is_name" ["thing"] (spTest K Tg.isNm)) (CP : Cal P w K mg base 3 "are_parameters" ["thing"] (spPars K)) (CK : Cal P w K mg base 5 "are_parents" ["thing"] (spPnts K)) (CM : Cal P w K mg base 6 "are_members" ["thing"] (spMems K)) (D : DefAt K mg "is_class" s_is_class ["thing"]) : Cal P w K mg base 7 "is_class" ["thing"] (spCls1 K) := by
  refine D.cal sc_is_class (fun vs H Q E h => ?_) (fun f cdv A outer s H vs Q E hr h => ?_)
  · obtain ⟨v, p, rfl, _⟩ := h
    rfl
  obtain ⟨v, c, rfl, ⟨a, ap, ak, am, rfl, hq, hp, hk, hm⟩, ok, q⟩ := h
  refine ⟨_, pss_cons (ps_if (PW.pt (pw_or (pt_not (pt_val (pe_isi G.isinstance G.tuple b_tuple rfl rfl (pv 0)))) (pw_or1 (pt_cmpR op_ne (pe_callB call_len_seq (by rfl) G.len PySem.boot_len (pa_cons (pv 0) pa_nil)) pe_int (nomark _))))) (pss_one (ps_ret pe_bl)) pss_nil)
    (pss_cons (ps_asg (pv 0) (pg_tup (by rfl) (pgs_cons (pg_name (i := 1) sc_is_class.nd rfl (Or.inl rfl)) (pgs_cons (pg_name (i := 2) sc_is_class.nd rfl (Or.inl rfl)) (pgs_cons (pg_name (i := 3) sc_is_class.nd rfl (Or.inl rfl)) (pgs_cons (pg_name (i := 4) sc_is_class.nd rfl (Or.inl rfl)) pgs_nil))))))
    (pss_one (ps_ret (pe_and (pc CN (hr.mono (by decide)) rfl (pa_cons (pv 1) pa_nil)) (pe_and (pc CP (hr.mono (by decide)) rfl (pa_cons (pv 2) pa_nil)) (pe_and (pc CK (hr.mono (by decide)) rfl (pa_cons (pv 3) pa_nil)) (pe_one (pc CM hr rfl (pa_cons (pv 4) pa_nil))))))))), ?_⟩
  refine ⟨_, rfl, isi_q (b := true) (SqT.ty hq) (kit_ty (by decide +kernel)) ⟨_, rfl, iteN rfl ⟨_, rfl, a, _, rfl, .inr hq, rfl, _, rfl, iteN rfl ?_⟩⟩⟩
  refine ⟨_, rfl, a, _, rfl, hq, rfl, .str c.nm, [.ref ap, .ref ak, .ref am], rfl, .ref ap, [.ref ak, .ref am], rfl, .ref ak, [.ref am], rfl, .ref am, [], rfl, rfl, ?_⟩
  refine ⟨_, rfl, .str c.nm, .str c.nm, rfl, .str c.nm (nam_len1 ok.n), _, rfl, iteE (show Tg.isNm (.str c.nm) = true from ok.n) ?_⟩
  refine ⟨_, rfl, ap, c.ps, rfl, hp, ok.p2, ok.pl, ok.pd, fun H1 s1 => ⟨_, rfl, iteE rfl ?_⟩⟩
  refine ⟨_, rfl, ak, c.ks, rfl, hk.stay (stay_same s1), ok.k2, ok.kk, fun H2 s2 => ⟨_, rfl, iteE rfl ?_⟩⟩
  exact ⟨_, rfl, am, c.ms, rfl, hm.stay (stay_same (s1.trans s2)), ok.m2, ok.ml, ok.md, fun H3 s3 => q _ ((s1.trans s2).trans s3)⟩
end
end N

namespace N
open PySem PySem.Spec PyProof.Rows L2
theorem peOf {X : Cx} {e : Expr} {te te' : TE} (h : PE X e te') (q : ∀ σ H Q, te σ H Q → te' σ H Q) : PE X e te := ⟨fun pins s σ H Q I z => h.run pins s σ H Q I (q σ H Q z)⟩
/-- the classes of a table -/
def CsAt (K : PySem.W.Frag) (H : Hp) (a : Addr) (cs : List Cls) : Prop := ∃ xs, SqT K H a xs ∧ Paired (Cp K H) xs cs
theorem CsAt.stay {K : PySem.W.Frag} {H H' : Hp} {a : Addr} {cs : List Cls} (s : Stay K H H') (h : CsAt K H a cs) : CsAt K H' a cs := by
  obtain ⟨xs, q, r⟩ := h
  exact ⟨xs, s.tup _ _ q, Paired.mapP r fun _ _ z => z.stay s⟩
structure FormsOk (cs : List Cls) : Prop where
  n1 : 1 ≤ cs.length
  n5 : cs.length ≤ 5
  ok : ∀ c ∈ cs, c.ok
  nd : (cs.map Cls.nm).Nodup
  pl : ∃ c ∈ cs, c.ps = []
/-- one[0], one a class at the slot j -/
def tNm (K : PySem.W.Frag) (j : Nat) : TE := fun σ H Q => ∃ v c, σ[j]? = some (some v) ∧ Cp K H v c ∧ Q (.str c.nm) H
/-- len(one[1]) > 0 -/
def tGt (K : PySem.W.Frag) (j : Nat) : TE := fun σ H Q => ∃ v c, σ[j]? = some (some v) ∧ Cp K H v c ∧ Q (.bl (decide (0 < c.ps.length))) H
section
variable {P : Program} {w : World} {K : PySem.W.Frag} {mg : Str → Option Value} {base : Heap}
theorem tNm_ok {σ : L2.St} {H : Hp} {Q : VK} {j : Nat} (z : tNm K j σ H Q) : tOp (rIxT K) (tVar j) (tC (.int 0)) σ H Q := by
  obtain ⟨v, c, e, ⟨a, ap, ak, am, rfl, hq, _⟩, q⟩ := z
  exact ⟨_, e, a, _, 0, .str c.nm, rfl, rfl, hq, atI_nat (j := 0) rfl, q⟩
def spNames (K : PySem.W.Frag) : Sp := fun vs H Q _ => ∃ (a : Addr) (cs : List Cls), vs = [.ref a] ∧ CsAt K H a cs ∧ cs.length ≤ 100 ∧ ∀ H' p, Same H H' → SqT K H' p ((cs.map Cls.nm).map V.str) → Q (.ref p) H'
theorem ok_names (G : Glo mg) (D : DefAt K mg "names_of" s_names_of ["classes"]) : Cal P w K mg base 1 "names_of" ["classes"] (spNames K) := by
  refine D.cal sc_names_of (fun vs H Q E h => ?_) (fun f cdv A outer s H vs Q E hr h => ?_)
  · obtain ⟨v, p, rfl, _⟩ := h
    rfl
  obtain ⟨a, cs, rfl, ⟨xs, hq, hp⟩, hn, q⟩ := h
  have hxl : xs.length = cs.length := Paired.length hp
  refine ⟨_, pss_one (ps_ret (pe_callTy call_tuple_of (by rfl) G.tuple b_tuple (pa_cons (pe_lc (own := [("one", 1)]) (g := gName 1) (tt := tYes) (te := tNm K 1) rfl sc_names_of.nd (pi_tup (pv 0)) (blkOk_by (N := nm_names_of) (sc := defScope s_names_of) (own := [("one", 1)]) (by decide +kernel))
        (fun _ _ _ _ _ => pg_name (i := 1) sc_names_of.nd rfl (Or.inl rfl)) (fun _ _ _ _ _ => pts_nil) (fun _ _ _ _ _ => peOf (pe_ix ix_tup (pv 1) pe_int (fun _ _ => rfl)) (fun σ H Q z => tNm_ok z))) pa_nil))), ?_⟩
  refine ⟨_, rfl, a, rfl, ⟨xs, hq⟩, fun B hB => ?_⟩
  refine lc_vals (te := tNm K 1) (zs := (cs.map Cls.nm).map V.str) 1 rfl (by rw [List.length_map, List.length_map, hxl]) (by omega) hq hB (fun i x z H' Q' hx hz s1 k => ?_) (fun H1 s1 hB1 => ?_)
  · obtain ⟨c, hc1, hc2⟩ := pairedAt hp hx
    have ez : z = .str c.nm := by
      rw [List.getElem?_map, List.getElem?_map, hc1] at hz
      exact (Option.some.inj hz).symm
    subst ez
    exact ⟨x, c, rfl, hc2.stay (stay_same s1), k _ (Same.refl _)⟩
  exact ⟨B, _, rfl, .inl ⟨SqL.of hB1, fun l hl => q _ l (s1.trans (same_new hl _)) (.inl (.inl upd_same))⟩⟩
/-- check_forms, of right classes -/
def spForms (K : PySem.W.Frag) : Sp := fun vs H Q _ => ∃ (a : Addr) (cs : List Cls), vs = [.ref a] ∧ CsAt K H a cs ∧ FormsOk cs ∧ ∀ H', Same H H' → Q .non H'
theorem ok_forms (G : Glo mg) (G2 : Glo2 K mg) (CC : Cal P w K mg base 7 "is_class" ["thing"] (spCls1 K)) (CN : Cal P w K mg base 1 "names_of" ["classes"] (spNames K)) (CD : Cal P w K mg base 1 "all_differ" ["words"] (spDiffer K)) (D : DefAt K mg "check_forms" s_check_forms ["classes"]) : Cal P w K mg base 8 "check_forms" ["classes"] (spForms K) := by
  obtain ⟨t5, h5⟩ := G2.MC
  refine D.cal sc_check_forms (fun vs H Q E h => ?_) (fun f cdv A outer s H vs Q E hr h => ?_)
  · obtain ⟨v, p, rfl, _⟩ := h
    rfl
  obtain ⟨a, cs, rfl, ⟨xs, hq, hp⟩, F, q⟩ := h
  have hxl : xs.length = cs.length := Paired.length hp
  have n5 := F.n5
  have n1 := F.n1
  refine ⟨_, pss_cons (ps_if (pt_not (pt_val (pe_callB (cr_all rfl) (by rfl) G.all (by decide +kernel) (pa_cons (pe_lc (own := [("one", 1)]) (g := gName 1) (tt := tYes) (te := fun σ H Q => tCons (tVar 1) tNil σ H fun vs H1 => spCls1 K vs H1 Q E0) rfl sc_check_forms.nd (pi_tup (pv 0)) (blkOk_by (N := nm_check_forms) (sc := defScope s_check_forms) (own := [("one", 1)]) (by decide +kernel))
        (fun _ _ _ _ _ => pg_name (i := 1) sc_check_forms.nd rfl (Or.inl rfl)) (fun _ _ _ _ _ => pts_nil) (fun _ _ _ _ _ => pc CC hr rfl (pa_cons (pv 1) pa_nil))) pa_nil)))) (pss_one ps_never) pss_nil)
    (pss_cons (ps_if (pt_not (pt_chain op_le op_le pe_int (pe_callB call_len_seq (by rfl) G.len PySem.boot_len (pa_cons (pv 0) pa_nil)) (pe_glob (v := .int 5) rfl h5 ⟨_, rfl⟩))) (pss_one ps_never) pss_nil)
    (pss_cons (ps_if (pt_not (pt_val (pc CD (hr.mono (by decide)) rfl (pa_cons (pc CN (hr.mono (by decide)) rfl (pa_cons (pv 0) pa_nil)) pa_nil)))) (pss_one ps_never) pss_nil)
    (pss_one (ps_if (pt_val (pe_callB (cr_all rfl) (by rfl) G.all (by decide +kernel) (pa_cons (pe_lc (own := [("one", 1)]) (g := gName 1) (tt := tYes) (te := tGt K 1) rfl sc_check_forms.nd (pi_tup (pv 0)) (blkOk_by (N := nm_check_forms) (sc := defScope s_check_forms) (own := [("one", 1)]) (by decide +kernel))
        (fun _ _ _ _ _ => pg_name (i := 1) sc_check_forms.nd rfl (Or.inl rfl)) (fun _ _ _ _ _ => pts_nil) (fun _ _ _ _ _ => peOf (pe_cmpR op_gt (pe_callB call_len_seq (by rfl) G.len PySem.boot_len (pa_cons (pe_ix ix_tup (pv 1) pe_int (fun _ _ => rfl)) pa_nil)) pe_int (nomark _)) (fun σ H Q z => ?_))) pa_nil))) (pss_one ps_never) pss_nil)))), ?_⟩
  · obtain ⟨v, c, e, ⟨a, ap, ak, am, rfl, hq, ⟨ys, hy, hyp⟩, _⟩, q⟩ := z
    refine ⟨_, e, a, _, 1, .ref ap, rfl, rfl, hq, atI_nat (j := 1) rfl, ap, ys, rfl, .inr hy, _, _, rfl, rfl, ?_⟩
    have hl : ys.length = c.ps.length := Paired.length hyp
    show Q (V.bl (decide (((ys.length : Nat) : Int) > 0))) H
    have e : decide (((ys.length : Nat) : Int) > 0) = decide (0 < c.ps.length) := by
      by_cases h : 0 < c.ps.length
      · rw [decide_eq_true h, decide_eq_true (by omega)]
      · rw [decide_eq_false h, decide_eq_false (by omega)]
    rw [e]
    exact q
  refine ⟨_, rfl, a, rfl, ⟨xs, hq⟩, fun B hB => ?_⟩
  refine lc_vals (te := fun σ H Q => tCons (tVar 1) tNil σ H fun vs H1 => spCls1 K vs H1 Q E0) (zs := List.replicate xs.length (.bl true)) 1 rfl (List.length_replicate ..) (by omega) hq hB (fun i x z H' Q' hx hz s1 k => ?_) (fun H1 s1 hB1 => ?_)
  · obtain ⟨c, hc1, hc2⟩ := pairedAt hp hx
    have ez : z = .bl true := (List.mem_replicate.mp (List.mem_of_getElem? hz)).2
    subst ez
    exact ⟨x, rfl, x, c, rfl, hc2.stay (stay_same s1), F.ok c (List.mem_of_getElem? hc1), k⟩
  refine ⟨B, List.replicate xs.length true, rfl, SqL.of (by rw [hB1, List.map_replicate]), _, rfl, iteN (by simp) ?_⟩
  have a1 : CsAt K H1 a cs := CsAt.stay (stay_same s1) ⟨xs, hq, hp⟩
  have q1 := (stay_same s1).tup _ _ hq
  refine ⟨_, rfl, a, xs, rfl, .inr q1, _, _, rfl, rfl, _, rfl, iteE (by rw [decide_eq_true (show (1 : Int) ≤ (xs.length : Nat) by omega)]) ?_⟩
  refine ⟨_, _, rfl, rfl, _, rfl, iteN (by rw [decide_eq_true (show ((xs.length : Nat) : Int) ≤ 5 by omega)]; rfl) ?_⟩
  refine ⟨_, rfl, a, cs, rfl, a1, by omega, fun H2 p2 s2 h2 => ?_⟩
  refine ⟨p2, cs.map Cls.nm, rfl, .inr h2, by rw [List.length_map]; omega, fun H3 b s3 hb => ⟨_, rfl, iteN (by rw [hb.mpr F.nd]; rfl) ?_⟩⟩
  have s13 := s1.trans (s2.trans s3)
  have q3 := (stay_same s13).tup _ _ hq
  refine ⟨_, rfl, a, rfl, ⟨xs, q3⟩, fun B2 hB2 => ?_⟩
  refine lc_vals (te := tGt K 1) (zs := cs.map fun c => V.bl (decide (0 < c.ps.length))) 1 rfl (by rw [List.length_map, hxl]) (by omega) q3 hB2 (fun i x z H' Q' hx hz s4 k => ?_) (fun H4 s4 hB4 => ?_)
  · obtain ⟨c, hc1, hc2⟩ := pairedAt hp hx
    have ez : z = .bl (decide (0 < c.ps.length)) := by
      rw [List.getElem?_map, hc1] at hz
      exact (Option.some.inj hz).symm
    subst ez
    exact ⟨x, c, rfl, hc2.stay (stay_same (s13.trans s4)), k _ (Same.refl _)⟩
  refine ⟨B2, cs.map fun c => decide (0 < c.ps.length), rfl, SqL.of (by rw [hB4, List.map_map]; rfl), _, rfl, iteN ?_ (q _ (s13.trans s4))⟩
  obtain ⟨c, hc, ec⟩ := F.pl
  rw [List.all_eq_false]
  exact ⟨_, List.mem_map_of_mem hc, by rw [ec]; decide⟩
end
end N

namespace N
open PySem PySem.Spec PyProof.Rows L2
theorem put_fresh {kvs : List (Key × V)} {k : Key} {v : V} (h : k ∉ kvs.map Prod.fst) : putK kvs k v = kvs ++ [(k, v)] := by
  refine putK_new v ?_
  cases e : valV kvs k with
  | none => rfl
  | some u =>
    exact absurd (by
      clear h
      induction kvs with
      | nil => cases e
      | cons p r ih =>
        rw [List.map_cons, List.mem_cons]
        by_cases h : p.1 = k
        · exact .inl h.symm
        · refine .inr (ih ?_)
          unfold valV at e ⊢
          rw [List.find?_cons_of_neg (by simpa using h)] at e
          exact e) h
/-- all but dicts stays -/
def NoD (H H' : Hp) : Prop := ∀ b o, H b = some o → (∀ kvs, o ≠ .dK kvs) → H' b = some o
theorem NoD.of {H H' : Hp} (s : Same H H') : NoD H H' := fun b o e _ => s b o e
theorem paired_snoc2 {α β : Type} {F : α → β → Prop} : ∀ {l : List α} {r : List β} {x : α} {y : β}, Paired F l r → F x y → Paired F (l ++ [x]) (r ++ [y])
  | _, _, _, _, .nil, h => .cons h .nil
  | _, _, _, _, .cons a t, h => .cons a (paired_snoc2 t h)
theorem take_one' {α : Type} {zs : List α} {i : Nat} {z : α} (h : zs[i]? = some z) : zs.take (i + 1) = zs.take i ++ [z] := by rw [List.take_add_one, h]; rfl
section
variable {K : PySem.W.Frag} {a : Addr} {xs : List V} {cs : List Cls} {tv : TE} {σ : L2.St} {H : Hp} {D : Addr} {Qd : Hp → Prop}
/-- {one[0]: .. for one in classes} -/
theorem dc_cls {vs : List Nat} (j : Nat) (F : Hp → V → Cls → Prop) (hF : ∀ H H' v c, NoD H H' → F H v c → F H' v c) (hv : vs = [j]) (hz : cs.length ≤ 1000) (hn : (cs.map Cls.nm).Nodup) (hq : SqT K H a xs) (hp : Paired (Cp K H) xs cs) (hD : H D = none) (hj : j < σ.length)
    (step : ∀ (x : V) (c : Cls) (H' : Hp) (Q : VK), Cp K H' x c → c ∈ cs → Same H H' → (∀ H2 z, Same H' H2 → F H2 z c → Q z H2) → tv ((wipe σ vs).set j (some x)) H' Q)
    (fin : ∀ H' kvs, Same H H' → H' D = some (.dK kvs) → kvs.map Prod.fst = (cs.map Cls.nm).map Sum.inr → Paired (fun kv c => F H' kv.2 c) kvs cs → Qd H') :
    ∃ W : Nat → Nat → Hp → Prop, (∃ m, W 0 m (upd H D (.dK []))) ∧ ∀ i m H, W i m H →
      ((Itt K a).stop i H ∧ Qd H) ∨ ((Itt K a).go i H ∧ ∃ Nx : Hp → Prop, (∀ H', Nx H' → ∃ m', m' < m ∧ W (i + 1) m' H') ∧ ∀ x H', (Itt K a).yld i H x H' → gName j x (wipe σ vs) H' fun σ2 H2 => wipe σ2 vs = wipe σ vs ∧ tYes σ2 H2 fun b H3 =>
        if b = true then tNm K j σ2 H3 fun y H4 => tv σ2 H4 fun z H5 => ∃ kvs k, y = kV k ∧ H5 D = some (.dK kvs) ∧ kvs.length < sizeLine ∧ Nx (upd H5 D (.dK (putK kvs k z))) else Nx H3) := by
  subst hv
  have hxl : xs.length = cs.length := Paired.length hp
  refine dc_tup (K := K) (a := a) (xs := xs) (fun i H' => Same H H' ∧ ∃ kvs, H' D = some (.dK kvs) ∧ kvs.map Prod.fst = ((cs.take i).map Cls.nm).map Sum.inr ∧ Paired (fun kv c => F H' kv.2 c) kvs (cs.take i)) ⟨same_new hD _, [], upd_same, rfl, .nil⟩
    (fun i H' _ ⟨s, _⟩ => (stay_same s).tup _ _ hq) (fun i x H' hx ⟨s1, kvs, e1, e2, e3⟩ => ?_) (fun H' ⟨s1, kvs, e1, e2, e3⟩ => fin H' kvs s1 e1 (by rw [e2, hxl, List.take_length]) (by rw [hxl, List.take_length] at e3; exact e3))
  obtain ⟨c, hc1, hc2⟩ := pairedAt hp hx
  have hi : i < cs.length := (List.getElem?_eq_some_iff.mp hc1).1
  refine ⟨wipe_one, ?_⟩
  unfold tYes
  dsimp only
  rw [if_pos rfl]
  have hc3 := hc2.stay (stay_same s1)
  refine ⟨x, c, ?_, hc3, ?_⟩
  · show ((σ.set j none).set j (some x))[j]? = _
    rw [List.getElem?_set_self (by rw [List.length_set]; exact hj)]
  refine step x c H' _ hc3 (List.mem_of_getElem? hc1) s1 fun H2 z s2 hz2 => ?_
  have e4 := s2 _ _ e1
  have et : cs.take (i + 1) = cs.take i ++ [c] := take_one' hc1
  have fresh : (Sum.inr c.nm : Key) ∉ kvs.map Prod.fst := by
    rw [e2]
    intro hm
    obtain ⟨n, hn1, hn2⟩ := List.mem_map.mp hm
    cases Sum.inr.inj hn2
    have h3 : ((cs.take (i + 1)).map Cls.nm).Nodup := by
      rw [List.map_take]
      exact hn.sublist (List.take_sublist _ _)
    rw [et, List.map_append, List.nodup_append] at h3
    exact h3.2.2 _ hn1 _ (List.mem_map_of_mem (List.mem_singleton.mpr rfl)) rfl
  have hkl : kvs.length = i := by
    have := congrArg List.length e2
    rw [List.length_map, List.length_map, List.length_map, List.length_take] at this
    omega
  refine ⟨kvs, Sum.inr c.nm, rfl, e4, Nat.lt_of_le_of_lt (show kvs.length ≤ 100000 by omega) (by decide), same_mut (s1.trans s2) hD, _, upd_same, ?_, ?_⟩
  · rw [put_fresh fresh, et, List.map_append, e2, List.map_append, List.map_append]
    rfl
  · rw [put_fresh fresh, et]
    have nd : ∀ {H0 : Hp}, Same H0 H2 → NoD H0 (upd H2 D (.dK (kvs ++ [(Sum.inr c.nm, z)]))) := fun {H0} s b o e n => by
      have h4 := s b o e
      have nb : b ≠ D := fun q => by
        rw [q, e4] at h4
        exact n kvs (Option.some.inj h4).symm
      rw [upd_ne nb]
      exact h4
    exact paired_snoc2 (Paired.mapP e3 fun _ _ q => hF _ _ _ _ (nd s2) q) (hF _ _ _ _ (nd (Same.refl _)) hz2)
end
end N

namespace N
open PySem PySem.Spec PyProof.Rows L2
/-- len(one[1]), one a class at the slot j -/
def tLn (K : PySem.W.Frag) (j : Nat) : TE := fun σ H Q => ∃ v c, σ[j]? = some (some v) ∧ Cp K H v c ∧ Q (.int (c.ps.length : Nat)) H
def arsOf (cs : List Cls) : List (Key × V) := cs.map fun c => (Sum.inr c.nm, V.int (c.ps.length : Nat))
theorem kvs_eq {f : Cls → V} : ∀ {kvs : List (Key × V)} {cs : List Cls}, kvs.map Prod.fst = (cs.map Cls.nm).map Sum.inr → Paired (fun (kv : Key × V) c => kv.2 = f c) kvs cs → kvs = cs.map fun c => (Sum.inr c.nm, f c)
  | _, _, _, .nil => rfl
  | (k, v) :: r, c :: cs, e, .cons h t => by
    have e' : k :: r.map Prod.fst = Sum.inr c.nm :: (cs.map Cls.nm).map Sum.inr := e
    rw [List.cons.injEq] at e'
    have h' : v = f c := h
    rw [List.map_cons, ← kvs_eq e'.2 t, e'.1, h']
/-- the third things of members -/
theorem thirds {K : PySem.W.Frag} {H : Hp} : ∀ {xs : List V} {ms : List (Str × Str × Kd)}, Paired (Mp K H) xs ms → ∃ us : List V, us.length = xs.length ∧ Paired (fun v k => Kp K H v k) us (ms.map fun m => m.2.2) ∧ ∀ (i : Nat) (x : V), xs[i]? = some x → ∃ a y z u, x = .ref a ∧ SqT K H a [y, z, u] ∧ us[i]? = some u
  | _, _, .nil => ⟨[], rfl, .nil, fun i x h => by simp at h⟩
  | x :: xs, m :: ms, .cons h t => by
    obtain ⟨us, h1, h2, h3⟩ := thirds t
    obtain ⟨a, u, e, q, k⟩ := h
    refine ⟨u :: us, by rw [List.length_cons, List.length_cons, h1], .cons k h2, fun i y hy => ?_⟩
    cases i with
    | zero =>
      simp only [List.getElem?_cons_zero, Option.some.injEq] at hy
      subst hy
      exact ⟨a, _, _, u, e, q, rfl⟩
    | succ i =>
      simp only [List.getElem?_cons_succ] at hy ⊢
      exact h3 i y hy
section
variable {P : Program} {w : World} {K : PySem.W.Frag} {mg : Str → Option Value} {base : Heap}
def spArs (K : PySem.W.Frag) : Sp := fun vs H Q _ => ∃ (a : Addr) (cs : List Cls), vs = [.ref a] ∧ CsAt K H a cs ∧ cs.length ≤ 100 ∧ (cs.map Cls.nm).Nodup ∧ ∀ H' d, Same H H' → H' d = some (.dK (arsOf cs)) → Q (.ref d) H'
theorem ok_ars (G : Glo mg) (D : DefAt K mg "arities" s_arities ["classes"]) : Cal P w K mg base 1 "arities" ["classes"] (spArs K) := by
  refine D.cal sc_arities (fun vs H Q E h => ?_) (fun f cdv A outer s H vs Q E hr h => ?_)
  · obtain ⟨v, p, rfl, _⟩ := h
    rfl
  obtain ⟨a, cs, rfl, ⟨xs, hq, hp⟩, hn, nd, q⟩ := h
  refine ⟨_, pss_one (ps_ret (pe_dc (own := [("one", 1)]) (g := gName 1) (tt := tYes) (tk := tNm K 1) (tv := tLn K 1) rfl sc_arities.nd (pi_tup (pv 0)) (blkOk_by (N := nm_arities) (sc := defScope s_arities) (own := [("one", 1)]) (by decide +kernel))
        (fun _ _ _ _ _ => pg_name (i := 1) sc_arities.nd rfl (Or.inl rfl)) (fun _ _ _ _ _ => pts_nil) (fun _ _ _ _ _ => peOf (pe_ix ix_tup (pv 1) pe_int (fun _ _ => rfl)) (fun σ H Q z => tNm_ok z))
        (fun _ _ _ _ _ => peOf (pe_callB call_len_seq (by rfl) G.len PySem.boot_len (pa_cons (pe_ix ix_tup (pv 1) pe_int (fun _ _ => rfl)) pa_nil)) (fun σ H Q z => ?_)))), ?_⟩
  · obtain ⟨v, c, e, ⟨a, ap, ak, am, rfl, hq, ⟨ys, hy, hyp⟩, _⟩, q⟩ := z
    have hl : ys.length = c.ps.length := Paired.length hyp
    refine ⟨_, e, a, _, 1, .ref ap, rfl, rfl, hq, atI_nat (j := 1) rfl, ap, ys, rfl, .inr hy, ?_⟩
    rw [hl]
    exact q
  refine ⟨_, rfl, a, rfl, ⟨xs, hq⟩, fun B hB => ?_⟩
  refine dc_cls (tv := tLn K 1) 1 (fun _ v c => v = .int (c.ps.length : Nat)) (fun _ _ _ _ _ h => h) rfl (by omega) nd hq hp hB (by show 1 < 2; decide) (fun x c H' Q' hc _ s1 k => ⟨x, c, rfl, hc, k _ _ (Same.refl _) rfl⟩) (fun H' kvs s1 e1 e2 e3 => q H' B s1 ?_)
  rw [e1, kvs_eq e2 e3]
  rfl
def spLets (K : PySem.W.Frag) : Sp := fun vs H Q _ => ∃ (v : V) (c : Cls), vs = [v] ∧ Cp K H v c ∧ c.ok ∧ ∀ H' l, Same H H' → H' l = some (.lst ((c.ps.map Prod.fst).map V.str)) → Q (.ref l) H'
theorem ok_lets (D : DefAt K mg "letters_of" s_letters_of ["one"]) : Cal P w K mg base 1 "letters_of" ["one"] (spLets K) := by
  refine D.cal sc_letters_of (fun vs H Q E h => ?_) (fun f cdv A outer s H vs Q E hr h => ?_)
  · obtain ⟨v, p, rfl, _⟩ := h
    rfl
  obtain ⟨v, c, rfl, ⟨a, ap, ak, am, rfl, hq, ⟨ys, hy, hyp⟩, _⟩, ok, q⟩ := h
  have hl : ys.length = c.ps.length := Paired.length hyp
  have p2 := ok.p2
  refine ⟨_, pss_one (ps_ret (pe_lc (own := [("parameter", 1)]) (g := gName 1) (tt := tYes) (te := tOp (rIxT K) (tVar 1) (tC (.int 0))) rfl sc_letters_of.nd (pi_tup (pe_ix ix_tup (pv 0) pe_int (fun _ _ => rfl))) (blkOk_by (N := nm_letters_of) (sc := defScope s_letters_of) (own := [("parameter", 1)]) (by decide +kernel))
        (fun _ _ _ _ _ => pg_name (i := 1) sc_letters_of.nd rfl (Or.inl rfl)) (fun _ _ _ _ _ => pts_nil) (fun _ _ _ _ _ => pe_ix ix_tup (pv 1) pe_int (fun _ _ => rfl)))), ?_⟩
  refine ⟨_, rfl, a, _, 1, .ref ap, rfl, rfl, hq, atI_nat (j := 1) rfl, ap, rfl, ⟨ys, hy⟩, fun B hB => ?_⟩
  refine lc_vals (te := tOp (rIxT K) (tVar 1) (tC (.int 0))) (zs := (c.ps.map Prod.fst).map V.str) 1 rfl (by rw [List.length_map, List.length_map, hl]) (by omega) hy hB (fun i x z H' Q' hx hz s1 k => ?_) (fun H1 s1 hB1 => q H1 B s1 hB1)
  obtain ⟨p, hp1, ⟨a', rfl, hq'⟩⟩ := pairedAt hyp hx
  have ez : z = .str p.1 := by
    rw [List.getElem?_map, List.getElem?_map, hp1] at hz
    exact (Option.some.inj hz).symm
  subst ez
  exact ⟨_, rfl, a', _, 0, .str p.1, rfl, rfl, (stay_same s1).tup _ _ hq', atI_nat (j := 0) rfl, k _ (Same.refl _)⟩
/-- the kinds that a class declares -/
def Cls.decl (c : Cls) : List Kd := c.ks ++ c.ms.map fun m => m.2.2
theorem pairs_app {α β : Type} {F : α → β → Prop} : ∀ {l l' : List α} {r r' : List β}, Paired F l r → Paired F l' r' → Paired F (l ++ l') (r ++ r')
  | _, _, _, _, .nil, h => h
  | _, _, _, _, .cons a t, h => .cons a (pairs_app t h)
def spDcls (K : PySem.W.Frag) : Sp := fun vs H Q _ => ∃ (v : V) (c : Cls), vs = [v] ∧ Cp K H v c ∧ c.ok ∧ ∀ H' l ys, Same H H' → H' l = some (.lst ys) → Paired (fun v k => Kp K H' v k) ys c.decl → Q (.ref l) H'
theorem ok_dcls (G : Glo mg) (D : DefAt K mg "declared" s_declared ["one"]) : Cal P w K mg base 1 "declared" ["one"] (spDcls K) := by
  refine D.cal sc_declared (fun vs H Q E h => ?_) (fun f cdv A outer s H vs Q E hr h => ?_)
  · obtain ⟨v, p, rfl, _⟩ := h
    rfl
  obtain ⟨v, c, rfl, ⟨a, ap, ak, am, rfl, hq, _, ⟨ks, hk, hkp⟩, ⟨ys, hy, hyp⟩⟩, ok, q⟩ := h
  have hkl : ks.length = c.ks.length := Paired.length hkp
  have hyl : ys.length = c.ms.length := Paired.length hyp
  have k2 := ok.k2
  have m2 := ok.m2
  refine ⟨_, pss_one (ps_ret (pe_op op_cat (pe_callTy call_list_of (by rfl) G.list b_list (pa_cons (pe_ix ix_tup (pv 0) pe_int (fun _ _ => rfl)) pa_nil)) (pe_lc (own := [("member", 1)]) (g := gName 1) (tt := tYes) (te := tOp (rIxT K) (tVar 1) (tC (.int 2))) rfl sc_declared.nd (pi_tup (pe_ix ix_tup (pv 0) pe_int (fun _ _ => rfl))) (blkOk_by (N := nm_declared) (sc := defScope s_declared) (own := [("member", 1)]) (by decide +kernel))
        (fun _ _ _ _ _ => pg_name (i := 1) sc_declared.nd rfl (Or.inl rfl)) (fun _ _ _ _ _ => pts_nil) (fun _ _ _ _ _ => pe_ix ix_tup (pv 1) pe_int (fun _ _ => rfl))))), ?_⟩
  refine ⟨_, rfl, a, _, 2, .ref ak, rfl, rfl, hq, atI_nat (j := 2) rfl, ak, ks, rfl, .inr hk, fun l hl => ?_⟩
  have s1 := same_new hl (.lst ks)
  have hy1 := (stay_same s1).tup _ _ hy
  refine ⟨_, rfl, a, _, 3, .ref am, rfl, rfl, (stay_same s1).tup _ _ hq, atI_nat (j := 3) rfl, am, rfl, ⟨ys, hy1⟩, fun B hB => ?_⟩
  obtain ⟨us, u1, u2, u3⟩ := thirds hyp
  refine lc_vals (te := tOp (rIxT K) (tVar 1) (tC (.int 2))) (zs := us) 1 rfl u1 (by omega) hy1 hB (fun i x z H' Q' hx hz s2 k => ?_) (fun H2 s2 hB2 => ?_)
  · obtain ⟨a', y, y2, u, rfl, hq', hu⟩ := u3 i x hx
    rw [hu] at hz
    cases hz
    exact ⟨_, rfl, a', _, 2, _, rfl, rfl, (stay_same (s1.trans s2)).tup _ _ hq', atI_nat (j := 2) rfl, k _ (Same.refl _)⟩
  refine ⟨l, B, ks, us, rfl, rfl, s2 _ _ upd_same, hB2, Nat.le_trans (show _ ≤ 100000 by omega) (by decide), fun p hp0 => ?_⟩
  have s3 := (s1.trans s2).trans (same_new hp0 (.lst (ks ++ us)))
  exact q _ p _ s3 upd_same (pairs_app (Paired.mapP hkp fun _ _ z => Th.stay (stay_same s3) z) (Paired.mapP u2 fun _ _ z => Th.stay (stay_same s3) z))
end
end N

namespace N
open PySem PySem.Spec PyProof.Rows L2
/-- the names, numbers of arguments, letters of a kind are these -/
def Kd.fits (ar : List (Str × Nat)) (ls : List Str) : Kd → Prop
  | .L c => c ∈ ls
  | .C0 n => (n, 0) ∈ ar
  | .C1 n a => (n, 1) ∈ ar ∧ a.fits ar ls
  | .C2 n a b => (n, 2) ∈ ar ∧ a.fits ar ls ∧ b.fits ar ls
theorem fits_C {ar : List (Str × Nat)} {ls : List Str} : ∀ {k : Kd}, k.isC = true → k.fits ar ls → (k.nm, k.args.length) ∈ ar ∧ ∀ a ∈ k.args, a.fits ar ls
  | .C0 n, _, h => ⟨h, fun a ha => by cases ha⟩
  | .C1 n b, _, h => ⟨h.1, fun a ha => by
    have : a = b := by simpa [Kd.args] using ha
    rw [this]
    exact h.2⟩
  | .C2 n b c, _, h => ⟨h.1, fun a ha => by
    have : a = b ∨ a = c := by simpa [Kd.args] using ha
    rcases this with rfl | rfl
    · exact h.2.1
    · exact h.2.2⟩
theorem fits_L {ar : List (Str × Nat)} {ls : List Str} {k : Kd} (c : k.isC = false) (h : k.fits ar ls) : k.nm ∈ ls := by
  cases k <;> first | (cases c; done) | exact h
def arKV (ar : List (Str × Nat)) : List (Key × V) := ar.map fun p => (Sum.inr p.1, V.int (p.2 : Nat))
theorem ar_val : ∀ {ar : List (Str × Nat)} {n : Str} {m : Nat}, (ar.map Prod.fst).Nodup → (n, m) ∈ ar → valV (arKV ar) (Sum.inr n : Key) = some (.int (m : Nat))
  | p :: r, n, m, nd, h => by
    rw [List.map_cons, List.nodup_cons] at nd
    rcases List.mem_cons.mp h with e | h
    · rw [← e]
      exact valV_pos (p := (Sum.inr n, V.int (m : Nat))) rfl
    · have : ¬ (Sum.inr p.1 : Key) = Sum.inr n := fun e => nd.1 (by rw [Sum.inr.inj e]; exact List.mem_map_of_mem (f := Prod.fst) h)
      exact (valV_neg (p := (Sum.inr p.1, V.int (p.2 : Nat))) this).trans (ar_val nd.2 h)
section
variable {P : Program} {w : World} {K : PySem.W.Frag} {mg : Str → Option Value} {base : Heap}
/-- is_of, of what is right -/
def spOf (K : PySem.W.Frag) : Sp := fun vs H Q _ => ∃ (v : V) (k : Kd) (d l : Addr) (ar : List (Str × Nat)) (ls : List Str), vs = [v, .ref d, .ref l] ∧ Kp K H v k ∧ k.nds ≤ 1000 ∧ H d = some (.dK (arKV ar)) ∧ (ar.map Prod.fst).Nodup ∧ (SqL K H l (ls.map V.str) ∨ SqT K H l (ls.map V.str)) ∧ k.fits ar ls ∧
  ∀ H', Same H H' → Q (.bl true) H'
theorem sum_snoc (ks : List Kd) (k : Kd) : ((ks ++ [k]).map Kd.nds).sum = (ks.map Kd.nds).sum + k.nds := by simp
theorem nds_args : ∀ {k : Kd}, k.isC = true → (k.args.map Kd.nds).sum + 1 = k.nds
  | .C0 n, _ => rfl
  | .C1 n a, _ => by simp only [Kd.args, Kd.nds, List.map_cons, List.map_nil, List.sum_cons, List.sum_nil]; omega
  | .C2 n a b, _ => by simp only [Kd.args, Kd.nds, List.map_cons, List.map_nil, List.sum_cons, List.sum_nil]; omega
theorem ok_of (G : Glo mg) (D : DefAt K mg "is_of" s_is_of ["thing", "wanted", "letters"]) : Cal P w K mg base 1 "is_of" ["thing", "wanted", "letters"] (spOf K) := by
  refine D.cal sc_is_of (fun vs H Q E h => ?_) (fun f cdv A outer s H vs Q E hr h => ?_)
  · obtain ⟨v, k, d, l, ar, ls, rfl, _⟩ := h
    rfl
  obtain ⟨v, k, d, l, ar, ls, rfl, hk, hn, hd, nd, hl, hf, q⟩ := h
  refine ⟨_, pss_cons (ps_set (i := 3) sc_is_of.nd rfl (Or.inl rfl) (pe_lst (pa_cons (pv 0) pa_nil)))
    (pss_cons (ps_while (passes_of rfl) (pt_truth (pv 3) (by intro _; rfl))
      (pss_cons (ps_set (i := 4) sc_is_of.nd rfl (Or.inl rfl) (pe_bm0 PySem.F.plainAttrs_list PySem.F.slot_list_pop PySem.F.type_list_pop mt_pop (pv 3)))
        (pss_one (ps_if (PW.pt (pw_and (pt_val (pe_isi G.isinstance G.tuple b_tuple rfl rfl (pv 4))) (pw_and (pt_cmpR op_gt (pe_callB call_len_seq (by rfl) G.len PySem.boot_len (pa_cons (pv 4) pa_nil)) pe_int (nomark _)) (pw_and1 (pt_val (pe_isi G.isinstance G.str b_str rfl rfl (pe_ix ix_tup (pv 4) pe_int (fun _ _ => rfl))))))))
          (pss_cons (ps_if (pt_cmpR op_ne (pe_dget1 (hug hr) (pv 1) (pe_ix ix_tup (pv 4) pe_int (fun _ _ => rfl)) ⟨rfl, rfl, rfl, rfl⟩) (pe_op op_sub (pe_callB call_len_seq (by rfl) G.len PySem.boot_len (pa_cons (pv 4) pa_nil)) pe_int) (nomark _)) (pss_one (ps_ret pe_bl)) pss_nil)
            (pss_one (ps_expr (pe_bm PySem.F.plainAttrs_list PySem.F.slot_list_extend PySem.F.type_list_extend mt_extendT (pv 3) (pa_cons (pe_slice sl_tup (pv 4) (po_some pe_int) po_none) pa_nil)))))
          (pss_one (ps_if (pt_cmpR op_notIn_seq (pv 4) (pv 2) (by rfl)) (pss_one (ps_ret pe_bl)) pss_nil))))))
    (pss_one (ps_ret pe_bl))), ?_⟩
  refine ⟨v, rfl, by show 1 ≤ sizeLine; decide, fun r hr0 => ?_⟩
  refine ⟨fun m σ H' => ∃ xs ks y, m = (ks.map Kd.nds).sum ∧ σ = [some v, some (.ref d), some (.ref l), some (.ref r), y] ∧ Same H H' ∧ H' r = some (.lst xs) ∧ Kps K H' xs ks ∧ (ks.map Kd.nds).sum ≤ 1000 ∧ ∀ k ∈ ks, k.fits ar ls,
    ⟨_, [v], [k], _, rfl, rfl, same_new hr0 _, upd_same, .cons (hk.stay (stay_new hr0 _)) .nil, by simp; omega, by simpa using hf⟩, fun m σ H' hW => ?_⟩
  obtain ⟨xs, ks, y, rfl, rfl, sm, hx, hA, hm, hfs⟩ := hW
  refine ⟨_, rfl, _, .inl ⟨xs, SqL.of hx, rfl⟩, ?_⟩
  by_cases hne : ks = []
  · subst hne
    have e0 : xs = [] := List.length_eq_zero_iff.mp (Kps.length hA)
    subst e0
    exact iteF (q H' sm)
  obtain ⟨u, xs', k', ks', e1, e2, hu, hr'⟩ := Kps.snoc hA hne
  subst e1 e2
  have ek : (!(xs' ++ [u]).isEmpty) = true := by cases xs' <;> rfl
  refine iteE ek ?_
  rw [sum_snoc] at hm
  have hl2 := Kps.length hr'
  have hl3 : ks'.length ≤ (ks'.map Kd.nds).sum := sum_ge_len ks'
  have kf := hfs k' (List.mem_append_right _ (List.mem_singleton.mpr rfl))
  have kfs : ∀ k ∈ ks', k.fits ar ls := fun k h => hfs k (List.mem_append_left _ h)
  refine ⟨fun σ2 H2 => ∃ xs ks y, (ks.map Kd.nds).sum < ((ks' ++ [k']).map Kd.nds).sum ∧ σ2 = [some v, some (.ref d), some (.ref l), some (.ref r), y] ∧ Same H H2 ∧ H2 r = some (.lst xs) ∧ Kps K H2 xs ks ∧ (ks.map Kd.nds).sum ≤ 1000 ∧ ∀ k ∈ ks, k.fits ar ls,
    fun σ2 H2 ⟨xs, ks, y, a, b, c, d, e, f, g⟩ => ⟨_, a, xs, ks, y, rfl, b, c, d, e, f, g⟩, ?_⟩
  have hlast : (xs' ++ [u])[(xs' ++ [u]).length - 1]? = some u := by
    rw [List.length_append, List.length_singleton, Nat.add_sub_cancel, List.getElem?_append_right (Nat.le_refl _), Nat.sub_self] <;> rfl
  refine ⟨_, rfl, .inl ⟨rfl, _, SqL.of hx⟩, r, _, u, rfl, rfl, hx, hlast, ?_⟩
  rw [List.dropLast_concat]
  have st : Stay K H' (upd H' r (.lst xs')) := stay_lst hx
  have hu1 : Kp K _ u k' := hu.stay st
  have hr1 := ThAll.stay st hr'
  have s1 : Same H (upd H' r (.lst xs')) := same_mut sm hr0
  have hpos := Kd.nds_pos k'
  cases hc : k'.isC with
  | true =>
    obtain ⟨a, zs, rfl, hq, hnl, hz⟩ := kp_C hu1 hc
    obtain ⟨f1, f2⟩ := fits_C hc kf
    have hzl := Kps.length hz
    have hna := nds_args hc
    have hal := sum_ge_len k'.args
    refine ⟨_, rfl, isi_q (b := true) (SqT.ty hq) (kit_ty (by decide +kernel)) ⟨_, rfl, iteE rfl ?_⟩⟩
    refine ⟨_, rfl, a, _, rfl, .inr hq, _, _, rfl, rfl, _, rfl, iteE (decide_eq_true (by show (((zs.length + 1 : Nat) : Int)) > 0; omega)) ?_⟩
    refine ⟨_, rfl, a, _, 0, .str k'.nm, rfl, rfl, hq, atI_nat (j := 0) rfl, isi_q (b := true) (.base (.str _)) (kit_ty (by decide +kernel)) ⟨_, rfl, iteE rfl ?_⟩⟩
    refine ⟨_, rfl, d, rfl, .inl ⟨_, .inl (s1 _ _ hd)⟩, ?_⟩
    refine ⟨_, rfl, a, _, 0, .str k'.nm, rfl, rfl, hq, atI_nat (j := 0) rfl, some (.int (k'.args.length : Nat)), .inl ⟨_, Sum.inr k'.nm, .inl (s1 _ _ hd), rfl, (ar_val nd f1).symm⟩, ?_⟩
    refine ⟨_, rfl, a, _, rfl, .inr hq, _, _, rfl, rfl, rfl, _, rfl, iteN ?_ ?_⟩
    · have e : V.int (k'.args.length : Nat) = V.int ((((V.str k'.nm :: zs).length : Nat) : Int) - 1) := by
        rw [List.length_cons, hzl]
        congr 1
        omega
      show (!decide (V.int (k'.args.length : Nat) = V.int ((((V.str k'.nm :: zs).length : Nat) : Int) - 1))) = false
      rw [decide_eq_true e]
      rfl
    refine ⟨_, rfl, .inl ⟨rfl, _, SqL.of upd_same⟩, _, rfl, 1, rfl, a, _, rfl, hq, cut_tail_ne _ (by simp), fun p hp => ?_⟩
    rw [cut_tail]
    show ∃ _ : Addr, _
    have npl : r ≠ p := ne_of_none upd_same hp
    have hx2 : (upd (upd H' r (.lst xs')) p (.tup zs)) r = some (.lst xs') := by rw [upd_ne npl]; exact upd_same
    have st2 : Stay K (upd H' r (.lst xs')) (upd (upd H' r (.lst xs')) p (.tup zs)) := stay_new hp _
    have st3 : Stay K (upd (upd H' r (.lst xs')) p (.tup zs)) (upd (upd (upd H' r (.lst xs')) p (.tup zs)) r (.lst (xs' ++ zs))) := stay_lst hx2
    refine ⟨r, p, xs', zs, rfl, rfl, hx2, .inl (.inl upd_same), sz5 (by omega), ?_⟩
    refine ⟨xs' ++ zs, ks' ++ k'.args, _, ?_, rfl, same_mut (s1.trans (same_new hp _)) hr0, upd_same, Kps.app ((hr1.stay st2).stay st3) ((ThAll.stay st2 hz).stay st3), ?_, ?_⟩
    · rw [sum_snoc, List.map_append, List.sum_append]
      omega
    · rw [List.map_append, List.sum_append]
      omega
    · intro k hk
      rcases List.mem_append.mp hk with z | z
      · exact kfs k z
      · exact f2 k z
  | false =>
    obtain ⟨rfl, hnl⟩ := kp_L hu1 hc
    refine ⟨_, rfl, isi_q (b := false) (.base (.str _)) (kit_ty (by decide +kernel)) ⟨_, rfl, iteN rfl (iteN rfl ?_)⟩⟩
    refine ⟨_, rfl, _, rfl, l, ls.map V.str, rfl, hl.imp s1.seq (fun z => (stay_same s1).tup _ _ z), rfl, ?_, _, rfl, iteN ?_ ?_⟩
    · rw [List.all_map]
      exact List.all_eq_true.mpr fun _ _ => rfl
    · rw [in_strs (fits_L hc kf)]
      rfl
    · refine ⟨xs', ks', _, ?_, rfl, s1, upd_same, hr1, by omega, kfs⟩
      rw [sum_snoc]
      omega
end
end N

namespace N
open PySem PySem.Spec PyProof.Rows L2
def arOf (cs : List Cls) : List (Str × Nat) := cs.map fun c => (c.nm, c.ps.length)
theorem ars_eq (cs : List Cls) : arsOf cs = arKV (arOf cs) := by
  unfold arsOf arKV arOf
  rw [List.map_map]
  rfl
structure FitOk (cs : List Cls) : Prop where
  f : ∀ c ∈ cs, ∀ k ∈ c.decl, k.fits (arOf cs) (c.ps.map Prod.fst) ∧ k.nds ≤ 1000
section
variable {K : PySem.W.Frag} {a : Addr} {xs zs : List V} {te : TE} {σ : L2.St} {H : Hp} {D : Addr} {Qd : Hp → Prop}
theorem lc_valsL {vs : List Nat} (j : Nat) (hv : vs = [j]) (hl : zs.length = xs.length) (hz : xs.length ≤ 1000) (hq : SqL K H a xs) (hD : H D = none)
    (step : ∀ (i : Nat) (x z : V) (H' : Hp) (Q : VK), xs[i]? = some x → zs[i]? = some z → Same H H' → (∀ H2, Same H' H2 → Q z H2) → te ((wipe σ vs).set j (some x)) H' Q) (fin : ∀ H', Same H H' → H' D = some (.lst zs) → Qd H') :
    ∃ W : Nat → Nat → Hp → Prop, (∃ m, W 0 m (upd H D (.lst []))) ∧ ∀ i m H, W i m H →
      ((Itl K a).stop i H ∧ Qd H) ∨ ((Itl K a).go i H ∧ ∃ Nx : Hp → Prop, (∀ H', Nx H' → ∃ m', m' < m ∧ W (i + 1) m' H') ∧ ∀ x H', (Itl K a).yld i H x H' → gName j x (wipe σ vs) H' fun σ2 H2 => wipe σ2 vs = wipe σ vs ∧ tYes σ2 H2 fun b H3 =>
        if b = true then te σ2 H3 fun y H4 => ∃ acc, H4 D = some (.lst acc) ∧ acc.length < sizeLine ∧ Nx (upd H4 D (.lst (acc ++ [y]))) else Nx H3) := by
  subst hv
  refine lc_list (K := K) (a := a) (xs := xs) (fun i H' => Same H H' ∧ H' D = some (.lst (zs.take i))) ⟨same_new hD _, upd_same⟩ (fun i H' _ ⟨s, _⟩ => s.seq hq) (fun i x H' hx ⟨s1, e1⟩ => ?_) (fun H' ⟨s1, e1⟩ => fin H' s1 (by rw [e1, ← hl, List.take_length]))
  have hi : i < zs.length := by rw [hl]; exact (List.getElem?_eq_some_iff.mp hx).1
  obtain ⟨z, hz1⟩ : ∃ z, zs[i]? = some z := ⟨_, List.getElem?_eq_getElem hi⟩
  refine ⟨wipe_one, ?_⟩
  unfold tYes
  dsimp only
  rw [if_pos rfl]
  refine step i x z H' _ hx hz1 s1 fun H2 s2 => ?_
  have e2 := s2 _ _ e1
  refine ⟨_, e2, ?_, same_mut (s1.trans s2) hD, ?_⟩
  · rw [List.length_take]
    exact Nat.lt_of_le_of_lt (show min i zs.length ≤ 100000 by omega) (by decide)
  · rw [upd_same, take_one hz1]
end
section
variable {P : Program} {w : World} {K : PySem.W.Frag} {mg : Str → Option Value} {base : Heap}
/-- check_fit, of right classes -/
def spFit (K : PySem.W.Frag) : Sp := fun vs H Q _ => ∃ (a : Addr) (cs : List Cls), vs = [.ref a] ∧ CsAt K H a cs ∧ FormsOk cs ∧ FitOk cs ∧ ∀ H', Same H H' → Q .non H'
theorem ok_fit (G : Glo mg) (CA : Cal P w K mg base 1 "arities" ["classes"] (spArs K)) (CL : Cal P w K mg base 1 "letters_of" ["one"] (spLets K)) (CD : Cal P w K mg base 1 "declared" ["one"] (spDcls K)) (CO : Cal P w K mg base 1 "is_of" ["thing", "wanted", "letters"] (spOf K))
    (D : DefAt K mg "check_fit" s_check_fit ["classes"]) : Cal P w K mg base 2 "check_fit" ["classes"] (spFit K) := by
  refine D.cal sc_check_fit (fun vs H Q E h => ?_) (fun f cdv A outer s H vs Q E hr h => ?_)
  · obtain ⟨v, p, rfl, _⟩ := h
    rfl
  obtain ⟨a, cs, rfl, ⟨xs, hq, hp⟩, F, T, q⟩ := h
  have hxl : xs.length = cs.length := Paired.length hp
  have n5 := F.n5
  refine ⟨_, pss_cons (ps_set (i := 1) sc_check_fit.nd rfl (by first | exact Or.inl rfl | exact Or.inr rfl) (pc CA hr rfl (pa_cons (pv 0) pa_nil)))
    (pss_one (ps_for (passes_of rfl) rfl (pi_tup (pv 0)) (pg_name (i := 2) sc_check_fit.nd rfl (Or.inl rfl))
      (pss_cons (ps_set (i := 3) sc_check_fit.nd rfl (by first | exact Or.inl rfl | exact Or.inr rfl) (pc CL hr rfl (pa_cons (pv 2) pa_nil)))
      (pss_one (ps_if (pt_not (pt_val (pe_callB (cr_all rfl) (by rfl) G.all (by decide +kernel) (pa_cons (pe_lc (own := [("kind", 4)]) (g := gName 4) (tt := tYes) (te := fun σ H Q => tCons (tVar 4) (tCons (tVar 1) (tCons (tVar 3) tNil)) σ H fun vs H1 => spOf K vs H1 Q E0) rfl sc_check_fit.nd (pi_list (pc CD hr rfl (pa_cons (pv 2) pa_nil))) (blkOk_by (N := nm_check_fit) (sc := defScope s_check_fit) (own := [("kind", 4)]) (by decide +kernel))
        (fun _ _ _ _ _ => pg_name (i := 4) sc_check_fit.nd rfl (Or.inl rfl)) (fun _ _ _ _ _ => pts_nil) (fun _ _ _ _ _ => pc CO hr rfl (pa_cons (pv 4) (pa_cons (pv 1) (pa_cons (pv 3) pa_nil))))) pa_nil)))) (pss_one ps_never) pss_nil))))), ?_⟩
  refine ⟨_, rfl, a, cs, rfl, ⟨xs, hq, hp⟩, by omega, F.nd, fun H1 d s1 hd => ?_⟩
  rw [ars_eq] at hd
  refine ⟨_, rfl, a, rfl, ⟨xs, (stay_same s1).tup _ _ hq⟩, ?_⟩
  refine for_tup (K := K) (a := a) (xs := xs) (fun j σ H' => ∃ y2 y3 y4, σ = [some (.ref a), some (.ref d), y2, y3, y4] ∧ Same H1 H') ⟨_, _, _, rfl, Same.refl _⟩ (fun j σ H' _ ⟨_, _, _, _, sm⟩ => (stay_same (s1.trans sm)).tup _ _ hq) (fun j x σ H' hxj ⟨y2, y3, y4, eσ, sm⟩ => ?_) (fun σ H' ⟨_, _, _, _, sm⟩ => q _ (s1.trans sm))
  subst eσ
  obtain ⟨c, hc1, hc2⟩ := pairedAt hp hxj
  have hcm := List.mem_of_getElem? hc1
  have ok := F.ok c hcm
  refine ⟨_, rfl, x, c, rfl, hc2.stay (stay_same (s1.trans sm)), ok, fun H2 l s2 hl => ?_⟩
  have s12 := s1.trans (sm.trans s2)
  refine ⟨_, rfl, x, c, rfl, hc2.stay (stay_same s12), ok, fun H3 e ys s3 he hys => ?_⟩
  have hyl : ys.length = c.decl.length := Paired.length hys
  have hdl : c.decl.length ≤ 4 := by
    unfold Cls.decl
    rw [List.length_append, List.length_map]
    have := ok.k2
    have := ok.m2
    omega
  refine ⟨e, rfl, ⟨ys, SqL.of he⟩, fun B hB => ?_⟩
  refine lc_valsL (te := fun σ H Q => tCons (tVar 4) (tCons (tVar 1) (tCons (tVar 3) tNil)) σ H fun vs H1 => spOf K vs H1 Q E0) (zs := List.replicate ys.length (.bl true)) 4 rfl (List.length_replicate ..) (by omega) (SqL.of he) hB (fun i x z H' Q' hx hz s4 k => ?_) (fun H4 s4 hB4 => ?_)
  · obtain ⟨kd, hk1, hk2⟩ := pairedAt hys hx
    have ez : z = .bl true := (List.mem_replicate.mp (List.mem_of_getElem? hz)).2
    subst ez
    obtain ⟨t1, t2⟩ := T.f c hcm kd (List.mem_of_getElem? hk1)
    refine ⟨x, rfl, _, rfl, _, rfl, x, kd, d, l, arOf cs, c.ps.map Prod.fst, rfl, Th.stay (stay_same s4) hk2, t2, (sm.trans (s2.trans (s3.trans s4))) _ _ hd, ?_, .inl (SqL.of ((s3.trans s4) _ _ hl)), t1, k⟩
    unfold arOf
    rw [List.map_map]
    exact F.nd
  refine ⟨B, List.replicate ys.length true, rfl, SqL.of (by rw [hB4, List.map_replicate]), _, rfl, iteN (by simp) ?_⟩
  exact ⟨_, _, _, rfl, sm.trans (s2.trans (s3.trans s4))⟩
end
end N

namespace N
open PySem PySem.Spec PyProof.Rows L2
/-- [parent[0] for parent in one[2]], one a class at the slot j -/
def tHd (K : PySem.W.Frag) (j : Nat) : TE := fun σ H Q => ∃ v c, σ[j]? = some (some v) ∧ Cp K H v c ∧ c.ok ∧ ∀ H' l, Same H H' → H' l = some (.lst ((c.ks.map Kd.nm).map V.str)) → Q (.ref l) H'
/-- [parameter[1] for parameter in one[1]] -/
def tVr (K : PySem.W.Frag) (j : Nat) : TE := fun σ H Q => ∃ v c, σ[j]? = some (some v) ∧ Cp K H v c ∧ c.ok ∧ ∀ H' l, Same H H' → H' l = some (.lst ((c.ps.map Prod.snd).map V.str)) → Q (.ref l) H'
def FHd (H : Hp) (v : V) (c : Cls) : Prop := ∃ l, v = .ref l ∧ H l = some (.lst ((c.ks.map Kd.nm).map V.str))
def FVr (H : Hp) (v : V) (c : Cls) : Prop := ∃ l, v = .ref l ∧ H l = some (.lst ((c.ps.map Prod.snd).map V.str))
theorem hd_stay (H H' : Hp) (v : V) (c : Cls) (n : NoD H H') (h : FHd H v c) : FHd H' v c := by
  obtain ⟨l, e, q⟩ := h
  exact ⟨l, e, n _ _ q (fun _ z => by cases z)⟩
theorem vr_stay (H H' : Hp) (v : V) (c : Cls) (n : NoD H H') (h : FVr H v c) : FVr H' v c := by
  obtain ⟨l, e, q⟩ := h
  exact ⟨l, e, n _ _ q (fun _ z => by cases z)⟩
/-- the dict that heads_of makes -/
def DctAt (F : Hp → V → Cls → Prop) (H : Hp) (d : Addr) (cs : List Cls) : Prop := ∃ kvs, Rd H d (.dK kvs) ∧ kvs.map Prod.fst = (cs.map Cls.nm).map Sum.inr ∧ Paired (fun (kv : Key × V) c => F H kv.2 c) kvs cs
section
variable {P : Program} {w : World} {K : PySem.W.Frag} {mg : Str → Option Value} {base : Heap}
def spDct (K : PySem.W.Frag) (F : Hp → V → Cls → Prop) : Sp := fun vs H Q _ => ∃ (a : Addr) (cs : List Cls), vs = [.ref a] ∧ CsAt K H a cs ∧ cs.length ≤ 100 ∧ (cs.map Cls.nm).Nodup ∧ (∀ c ∈ cs, c.ok) ∧ ∀ H' d kvs, Same H H' → H' d = some (.dK kvs) → H d = none → kvs.map Prod.fst = (cs.map Cls.nm).map Sum.inr → Paired (fun (kv : Key × V) c => F H' kv.2 c) kvs cs → Q (.ref d) H'
theorem ok_heads (G : Glo mg) (D : DefAt K mg "heads_of" s_heads_of ["classes"]) : Cal P w K mg base 1 "heads_of" ["classes"] (spDct K FHd) := by
  refine D.cal sc_heads_of (fun vs H Q E h => ?_) (fun f cdv A outer s H vs Q E hr h => ?_)
  · obtain ⟨v, p, rfl, _⟩ := h
    rfl
  obtain ⟨a, cs, rfl, ⟨xs, hq, hp⟩, hn, nd, oks, q⟩ := h
  refine ⟨_, pss_one (ps_ret (pe_dc (own := [("one", 2)]) (g := gName 2) (tt := tYes) (tk := tNm K 2) (tv := tHd K 2) rfl sc_heads_of.nd (pi_tup (pv 0)) (blkOk_by (N := nm_heads_of) (sc := defScope s_heads_of) (own := [("one", 2)]) (by decide +kernel))
        (fun _ _ _ _ _ => pg_name (i := 2) sc_heads_of.nd rfl (Or.inl rfl)) (fun _ _ _ _ _ => pts_nil) (fun _ _ _ _ _ => peOf (pe_ix ix_tup (pv 2) pe_int (fun _ _ => rfl)) (fun σ H Q z => tNm_ok z))
        (fun _ _ _ _ _ => peOf (pe_lc (own := [("parent", 1)]) (g := gName 1) (tt := tYes) (te := tOp (rIxT K) (tVar 1) (tC (.int 0))) rfl sc_heads_of.nd (pi_tup (pe_ix ix_tup (pv 2) pe_int (fun _ _ => rfl))) (blkOk_by (own := [("parent", 1)]) (by rfl))
          (fun _ _ _ _ _ => pg_name (i := 1) sc_heads_of.nd rfl (Or.inl rfl)) (fun _ _ _ _ _ => pts_nil) (fun _ _ _ _ _ => pe_ix ix_tup (pv 1) pe_int (fun _ _ => rfl))) (fun σ H Q z => ?_)))), ?_⟩
  · obtain ⟨v, c, e, ⟨a, ap, ak, am, rfl, hq, _, ⟨ys, hy, hyp⟩, _⟩, ok, q⟩ := z
    have hl : ys.length = c.ks.length := Paired.length hyp
    have k2 := ok.k2
    refine ⟨_, e, a, _, 2, .ref ak, rfl, rfl, hq, atI_nat (j := 2) rfl, ak, rfl, ⟨ys, hy⟩, fun B hB => ?_⟩
    refine lc_vals (te := tOp (rIxT K) (tVar 1) (tC (.int 0))) (zs := (c.ks.map Kd.nm).map V.str) 1 rfl (by rw [List.length_map, List.length_map, hl]) (by omega) hy hB (fun i x z H' Q' hx hz s1 k => ?_) (fun H1 s1 hB1 => q H1 B s1 hB1)
    obtain ⟨kd, hk1, hk2⟩ := pairedAt hyp hx
    have ez : z = .str kd.nm := by
      rw [List.getElem?_map, List.getElem?_map, hk1] at hz
      exact (Option.some.inj hz).symm
    subst ez
    obtain ⟨a', zs, rfl, hq', _, _⟩ := kp_C hk2 (ok.kk kd (List.mem_of_getElem? hk1)).2.1
    refine ⟨_, ?_, a', _, 0, .str kd.nm, rfl, rfl, (stay_same s1).tup _ _ hq', atI_nat (j := 0) rfl, k _ (Same.refl _)⟩
    have hsl : 2 < σ.length := (List.getElem?_eq_some_iff.mp e).1
    show ((σ.set 1 none).set 1 _)[1]? = _
    rw [List.getElem?_set_self (by rw [List.length_set]; omega)]
  refine ⟨_, rfl, a, rfl, ⟨xs, hq⟩, fun B hB => ?_⟩
  refine dc_cls (tv := tHd K 2) 2 FHd hd_stay rfl (by omega) nd hq hp hB (by show 2 < 3; decide) (fun x c H' Q' hc hm s1 k => ⟨x, c, rfl, hc, oks c hm, fun H2 l s2 hl => k _ _ s2 ⟨l, rfl, hl⟩⟩) (fun H' kvs s1 e1 e2 e3 => q H' B kvs s1 e1 hB e2 e3)
theorem ok_vars (G : Glo mg) (D : DefAt K mg "variances_of" s_variances_of ["classes"]) : Cal P w K mg base 1 "variances_of" ["classes"] (spDct K FVr) := by
  refine D.cal sc_variances_of (fun vs H Q E h => ?_) (fun f cdv A outer s H vs Q E hr h => ?_)
  · obtain ⟨v, p, rfl, _⟩ := h
    rfl
  obtain ⟨a, cs, rfl, ⟨xs, hq, hp⟩, hn, nd, oks, q⟩ := h
  refine ⟨_, pss_one (ps_ret (pe_dc (own := [("one", 2)]) (g := gName 2) (tt := tYes) (tk := tNm K 2) (tv := tVr K 2) rfl sc_variances_of.nd (pi_tup (pv 0)) (blkOk_by (N := nm_variances_of) (sc := defScope s_variances_of) (own := [("one", 2)]) (by decide +kernel))
        (fun _ _ _ _ _ => pg_name (i := 2) sc_variances_of.nd rfl (Or.inl rfl)) (fun _ _ _ _ _ => pts_nil) (fun _ _ _ _ _ => peOf (pe_ix ix_tup (pv 2) pe_int (fun _ _ => rfl)) (fun σ H Q z => tNm_ok z))
        (fun _ _ _ _ _ => peOf (pe_lc (own := [("parameter", 1)]) (g := gName 1) (tt := tYes) (te := tOp (rIxT K) (tVar 1) (tC (.int 1))) rfl sc_variances_of.nd (pi_tup (pe_ix ix_tup (pv 2) pe_int (fun _ _ => rfl))) (blkOk_by (own := [("parameter", 1)]) (by rfl))
          (fun _ _ _ _ _ => pg_name (i := 1) sc_variances_of.nd rfl (Or.inl rfl)) (fun _ _ _ _ _ => pts_nil) (fun _ _ _ _ _ => pe_ix ix_tup (pv 1) pe_int (fun _ _ => rfl))) (fun σ H Q z => ?_)))), ?_⟩
  · obtain ⟨v, c, e, ⟨a, ap, ak, am, rfl, hq, ⟨ys, hy, hyp⟩, _⟩, ok, q⟩ := z
    have hl : ys.length = c.ps.length := Paired.length hyp
    have k2 := ok.p2
    refine ⟨_, e, a, _, 1, .ref ap, rfl, rfl, hq, atI_nat (j := 1) rfl, ap, rfl, ⟨ys, hy⟩, fun B hB => ?_⟩
    refine lc_vals (te := tOp (rIxT K) (tVar 1) (tC (.int 1))) (zs := (c.ps.map Prod.snd).map V.str) 1 rfl (by rw [List.length_map, List.length_map, hl]) (by omega) hy hB (fun i x z H' Q' hx hz s1 k => ?_) (fun H1 s1 hB1 => q H1 B s1 hB1)
    obtain ⟨kd, hk1, hk2⟩ := pairedAt hyp hx
    have ez : z = .str kd.2 := by
      rw [List.getElem?_map, List.getElem?_map, hk1] at hz
      exact (Option.some.inj hz).symm
    subst ez
    obtain ⟨a', rfl, hq'⟩ := hk2
    refine ⟨_, ?_, a', _, 1, .str kd.2, rfl, rfl, (stay_same s1).tup _ _ hq', atI_nat (j := 1) rfl, k _ (Same.refl _)⟩
    have hsl : 2 < σ.length := (List.getElem?_eq_some_iff.mp e).1
    show ((σ.set 1 none).set 1 _)[1]? = _
    rw [List.getElem?_set_self (by rw [List.length_set]; omega)]
  refine ⟨_, rfl, a, rfl, ⟨xs, hq⟩, fun B hB => ?_⟩
  refine dc_cls (tv := tVr K 2) 2 FVr vr_stay rfl (by omega) nd hq hp hB (by show 2 < 3; decide) (fun x c H' Q' hc hm s1 k => ⟨x, c, rfl, hc, oks c hm, fun H2 l s2 hl => k _ _ s2 ⟨l, rfl, hl⟩⟩) (fun H' kvs s1 e1 e2 e3 => q H' B kvs s1 e1 hB e2 e3)
end
end N

namespace N
open PySem PySem.Spec PyProof.Rows L2
theorem dct_val {F : Hp → V → Cls → Prop} {H : Hp} : ∀ {kvs : List (Key × V)} {cs : List Cls} {n : Str}, kvs.map Prod.fst = (cs.map Cls.nm).map Sum.inr → Paired (fun (kv : Key × V) c => F H kv.2 c) kvs cs → n ∈ cs.map Cls.nm → ∃ c ∈ cs, ∃ v, c.nm = n ∧ valV kvs (Sum.inr n : Key) = some v ∧ F H v c
  | _, _, n, _, .nil, h => by cases h
  | (k, v) :: r, c :: cs, n, e, .cons h t, hn => by
    have e' : k :: r.map Prod.fst = Sum.inr c.nm :: (cs.map Cls.nm).map Sum.inr := e
    rw [List.cons.injEq] at e'
    by_cases q : c.nm = n
    · exact ⟨c, List.mem_cons_self, v, q, valV_pos (p := (k, v)) (by rw [e'.1, q]), h⟩
    · have hn' : n ∈ cs.map Cls.nm := by
        rw [List.map_cons, List.mem_cons] at hn
        exact hn.resolve_left fun z => q z.symm
      obtain ⟨c', h1, v', h2, h3, h4⟩ := dct_val e'.2 t hn'
      exact ⟨c', List.mem_cons_of_mem _ h1, v', h2, (valV_neg (p := (k, v)) (by rw [e'.1]; exact fun z => q (Sum.inr.inj z))).trans h3, h4⟩
theorem DctAt.stay {F : Hp → V → Cls → Prop} (hF : ∀ H H' v c, NoD H H' → F H v c → F H' v c) {H H' : Hp} {d : Addr} {cs : List Cls} (s : Same H H') (h : DctAt F H d cs) : DctAt F H' d cs := by
  obtain ⟨kvs, a, b, c⟩ := h
  exact ⟨kvs, a.imp (s _ _) (fun ⟨o, h⟩ => ⟨o, s _ _ h⟩), b, Paired.mapP c fun _ _ z => hF _ _ _ _ (NoD.of s) z⟩
/-- each class stands above those that it inherits from -/
structure ElOk (cs : List Cls) (rank : Str → Nat) : Prop where
  h : ∀ c ∈ cs, ∀ k ∈ c.ks, k.nm ∈ cs.map Cls.nm ∧ rank k.nm < rank c.nm
  k2 : ∀ c ∈ cs, c.ks.length ≤ 2
section
variable {P : Program} {w : World} {K : PySem.W.Frag} {mg : Str → Option Value} {base : Heap}
def spEld (K : PySem.W.Frag) : Sp := fun vs H Q _ => ∃ (d : Addr) (n : Str) (cs : List Cls) (rank : Str → Nat), vs = [.ref d, .str n] ∧ DctAt FHd H d cs ∧ cs.length ≤ 100 ∧ (cs.map Cls.nm).Nodup ∧ ElOk cs rank ∧ n ∈ cs.map Cls.nm ∧ ∀ (H' : Hp) (l : Addr) (ys : List Str), Same H H' → H' l = some (.lst (ys.map V.str)) → ys.length ≤ 100 → (∀ y ∈ ys, rank y < rank n) → Q (.ref l) H'
theorem not_in_strs {x : Str} {l : List Str} (h : x ∉ l) : inV (.str x) (l.map V.str) = false := by
  unfold inV
  rw [List.any_eq_false]
  intro v hv
  obtain ⟨y, hy, rfl⟩ := List.mem_map.mp hv
  have : y ≠ x := fun e => h (e ▸ hy)
  show ¬ (eqV (.str y) (.str x) = true)
  show ¬ (decide (y = x) = true)
  simpa using this
theorem nodup_len : ∀ {l m : List Str}, l.Nodup → (∀ x ∈ l, x ∈ m) → l.length ≤ m.length
  | [], _, _, _ => Nat.zero_le _
  | x :: l, m, nd, h => by
    rw [List.nodup_cons] at nd
    have hx : x ∈ m := h x List.mem_cons_self
    have := nodup_len (l := l) (m := m.erase x) nd.2 fun y hy => (List.mem_erase_of_ne (fun e => nd.1 (by rw [← e]; exact hy))).mpr (h y (List.mem_cons_of_mem _ hy))
    rw [List.length_erase_of_mem hx] at this
    have : 0 < m.length := List.length_pos_of_mem hx
    rw [List.length_cons]
    omega
theorem ok_eld (G : Glo mg) (D : DefAt K mg "elders" s_elders ["heads", "name"]) : Cal P w K mg base 1 "elders" ["heads", "name"] (spEld K) := by
  refine D.cal sc_elders (fun vs H Q E h => ?_) (fun f cdv A outer s H vs Q E hr h => ?_)
  · obtain ⟨v, p, _, _, rfl, _⟩ := h
    rfl
  obtain ⟨d, n, cs, rank, rfl, hd, hn, nd, el, hnm, q⟩ := h
  refine ⟨_, pss_cons (ps_set (i := 2) sc_elders.nd rfl (Or.inl rfl) (pe_lst pa_nil))
    (pss_cons (ps_set (i := 3) sc_elders.nd rfl (Or.inl rfl) (pe_callTy call_list_of (by rfl) G.list b_list (pa_cons (pe_dget (hug hr) (pv 0) (pv 1) (fun _ _ => rfl)) pa_nil)))
    (pss_cons (ps_while (passes_of rfl) (pt_truth (pv 3) (by intro _; rfl))
      (pss_cons (ps_set (i := 4) sc_elders.nd rfl (Or.inl rfl) (pe_bm0 PySem.F.plainAttrs_list PySem.F.slot_list_pop PySem.F.type_list_pop mt_pop (pv 3)))
      (pss_one (ps_if (pt_cmpR op_notIn_seq (pv 4) (pv 2) (by rfl))
        (pss_cons (ps_expr (pe_bm PySem.F.plainAttrs_list PySem.F.slot_list_append PySem.F.type_list_append mt_append (pv 2) (pa_cons (pv 4) pa_nil)))
        (pss_one (ps_expr (pe_bm PySem.F.plainAttrs_list PySem.F.slot_list_extend PySem.F.type_list_extend mt_extend (pv 3) (pa_cons (pe_dget (hug hr) (pv 0) (pv 4) (fun _ _ => rfl)) pa_nil))))) pss_nil))))
    (pss_one (ps_ret (pv 2))))), ?_⟩
  refine ⟨Nat.zero_le _, fun fo hfo => ?_⟩
  have s1 := same_new hfo (.lst [])
  have hd1 := DctAt.stay hd_stay s1 hd
  obtain ⟨kvs, g1, g2, g3⟩ := hd1
  obtain ⟨c, hc, v, ec, hv, l0, rfl, hl0⟩ := dct_val g2 g3 hnm
  refine ⟨_, rfl, _, rfl, d, .ref l0, rfl, .inl ⟨kvs, _, g1, rfl, hv.symm⟩, l0, _, rfl, .inl (SqL.of hl0), fun re hre => ?_⟩
  have hfr : fo ≠ re := ne_of_none upd_same hre
  have s2 := s1.trans (same_new hre (.lst ((c.ks.map Kd.nm).map V.str)))
  have inK : ∀ c ∈ cs, ∀ y ∈ c.ks.map Kd.nm, y ∈ cs.map Cls.nm ∧ rank y < rank c.nm := fun c hc y hy => by
    obtain ⟨k, hk, rfl⟩ := List.mem_map.mp hy
    exact el.h c hc k hk
  refine ⟨fun m σ H' => ∃ (fs rs : List Str) (y : Option V), m = 3 * (cs.length - fs.length) + rs.length ∧ σ = [some (.ref d), some (.str n), some (.ref fo), some (.ref re), y] ∧ Same H H' ∧ H' fo = some (.lst (fs.map V.str)) ∧ H' re = some (.lst (rs.map V.str)) ∧ fs.Nodup ∧ (∀ y ∈ fs, y ∈ cs.map Cls.nm ∧ rank y < rank n) ∧ (∀ y ∈ rs, y ∈ cs.map Cls.nm ∧ rank y < rank n) ∧ rs.length ≤ 2 + 2 * fs.length,
    ⟨_, [], c.ks.map Kd.nm, _, rfl, rfl, s2, ?_, upd_same, List.nodup_nil, (fun y h => by cases h), (fun y h => by rw [← ec]; exact inK c hc y h), ?_⟩, fun m σ H' hW => ?_⟩
  · rw [upd_ne hfr]
    exact upd_same
  · rw [List.length_map]
    have := el.k2 c hc
    exact this
  obtain ⟨fs, rs, y, rfl, rfl, sm, hf, hr1, fnd, fin, rin, rl⟩ := hW
  refine ⟨_, rfl, _, .inl ⟨_, SqL.of hr1, rfl⟩, ?_⟩
  have fl : fs.length ≤ cs.length := by
    have := nodup_len fnd fun x hx => (fin x hx).1
    rwa [List.length_map] at this
  by_cases hne : rs = []
  · subst hne
    exact iteF ⟨_, rfl, q H' fo fs sm hf (by omega) (fun y hy => (fin y hy).2)⟩
  obtain ⟨rs', x, rfl⟩ : ∃ rs' x, rs = rs' ++ [x] := ⟨rs.dropLast, rs.getLast hne, (List.dropLast_concat_getLast hne).symm⟩
  have em : (rs' ++ [x]).map V.str = rs'.map V.str ++ [V.str x] := by rw [List.map_append]; rfl
  rw [em] at hr1
  refine iteE (by rw [em]; cases rs'.map V.str <;> rfl) ?_
  obtain ⟨hxn, hxr⟩ := rin x (List.mem_append_right _ (List.mem_singleton.mpr rfl))
  have rin' : ∀ y ∈ rs', y ∈ cs.map Cls.nm ∧ rank y < rank n := fun y h => rin y (List.mem_append_left _ h)
  rw [List.length_append, List.length_singleton] at rl
  refine ⟨fun σ2 H2 => ∃ (fs2 rs2 : List Str) (y : Option V), 3 * (cs.length - fs2.length) + rs2.length < 3 * (cs.length - fs.length) + (rs' ++ [x]).length ∧ σ2 = [some (.ref d), some (.str n), some (.ref fo), some (.ref re), y] ∧ Same H H2 ∧ H2 fo = some (.lst (fs2.map V.str)) ∧ H2 re = some (.lst (rs2.map V.str)) ∧ fs2.Nodup ∧ (∀ y ∈ fs2, y ∈ cs.map Cls.nm ∧ rank y < rank n) ∧ (∀ y ∈ rs2, y ∈ cs.map Cls.nm ∧ rank y < rank n) ∧ rs2.length ≤ 2 + 2 * fs2.length,
    fun σ2 H2 ⟨a, b, c, h1, h2, h3, h4, h5, h6, h7, h8, h9⟩ => ⟨_, h1, a, b, c, rfl, h2, h3, h4, h5, h6, h7, h8, h9⟩, ?_⟩
  have hlast : (rs'.map V.str ++ [V.str x])[(rs'.map V.str ++ [V.str x]).length - 1]? = some (V.str x) := by
    rw [List.length_append, List.length_singleton, Nat.add_sub_cancel, List.getElem?_append_right (Nat.le_refl _), Nat.sub_self] <;> rfl
  refine ⟨_, rfl, .inl ⟨rfl, _, SqL.of hr1⟩, re, _, V.str x, rfl, rfl, hr1, hlast, ?_⟩
  rw [List.dropLast_concat]
  have hreH : H re = none := s1.free hre
  have sm1 : Same H (upd H' re (.lst (rs'.map V.str))) := same_mut sm hreH
  have hf1 : (upd H' re (.lst (rs'.map V.str))) fo = some (.lst (fs.map V.str)) := by rw [upd_ne hfr]; exact hf
  refine ⟨_, rfl, _, rfl, fo, fs.map V.str, rfl, .inl (SqL.of hf1), rfl, ?_, _, rfl, ?_⟩
  · rw [List.all_map]
    exact List.all_eq_true.mpr fun _ _ => rfl
  by_cases hin : x ∈ fs
  · refine iteN (by rw [in_strs hin]; rfl) ?_
    refine ⟨fs, rs', _, ?_, rfl, sm1, hf1, upd_same, fnd, fin, rin', by omega⟩
    rw [List.length_append, List.length_singleton]
    omega
  · refine iteE (by rw [not_in_strs hin]; rfl) ?_
    have fl2 : fs.length + 1 ≤ cs.length := by
      have := nodup_len (l := x :: fs) (m := cs.map Cls.nm) (List.nodup_cons.mpr ⟨hin, fnd⟩) fun y hy => by
        rcases List.mem_cons.mp hy with e | h
        · rw [e]; exact hxn
        · exact (fin y h).1
      rw [List.length_map, List.length_cons] at this
      exact this
    refine ⟨_, rfl, .inl ⟨rfl, _, SqL.of hf1⟩, _, rfl, fo, fs.map V.str, .str x, rfl, rfl, hf1, Nat.lt_of_le_of_lt (show _ ≤ 100000 by rw [List.length_map]; omega) (by decide), ?_⟩
    have sm2 : Same H (upd (upd H' re (.lst (rs'.map V.str))) fo (.lst (fs.map V.str ++ [.str x]))) := same_mut sm1 hfo
    obtain ⟨kv2, b1, b2, b3⟩ := DctAt.stay hd_stay sm2 hd
    obtain ⟨cx, hcx, vx, ecx, hvx, lx, rfl, hlx⟩ := dct_val b2 b3 hxn
    have hre2 : (upd (upd H' re (.lst (rs'.map V.str))) fo (.lst (fs.map V.str ++ [.str x]))) re = some (.lst (rs'.map V.str)) := by rw [upd_ne (Ne.symm hfr)]; exact upd_same
    have hk2 := el.k2 cx hcx
    refine ⟨_, rfl, .inl ⟨rfl, _, SqL.of hre2⟩, _, rfl, _, rfl, d, .ref lx, rfl, .inl ⟨kv2, _, b1, rfl, hvx.symm⟩, ?_⟩
    refine ⟨re, lx, _, _, rfl, rfl, hre2, hlx, Nat.le_trans (show _ ≤ 100000 by rw [List.length_map, List.length_map, List.length_map]; omega) (by decide), ?_⟩
    refine ⟨fs ++ [x], rs' ++ cx.ks.map Kd.nm, _, ?_, rfl, same_mut sm2 hreH, ?_, ?_, ?_, ?_, ?_, ?_⟩
    · simp only [List.length_append, List.length_singleton, List.length_map]
      omega
    · rw [upd_ne hfr, upd_same, List.map_append]
      rfl
    · rw [upd_same, List.map_append]
    · exact nodup_snoc.mpr ⟨fnd, hin⟩
    · intro y hy
      rcases List.mem_append.mp hy with h | h
      · exact fin y h
      · rw [List.mem_singleton.mp h]
        exact ⟨hxn, hxr⟩
    · intro y hy
      rcases List.mem_append.mp hy with h | h
      · exact rin' y h
      · obtain ⟨h1, h2⟩ := inK cx hcx y h
        rw [ecx] at h2
        exact ⟨h1, Nat.lt_trans h2 hxr⟩
    · rw [List.length_append, List.length_append, List.length_singleton, List.length_map]
      omega
end
end N

namespace N
open PySem PySem.Spec PyProof.Rows L2
theorem unfrz2 {H H' : Hp} {d : Addr} {u : HO} {od : Obj} (hd : H d = some u) (s : Same (upd H d (.frz od u)) H') : Same H (upd H' d u) := fun b o e => by
  by_cases q : b = d
  · rw [q] at e ⊢
    rw [hd] at e
    cases e
    exact upd_same
  · rw [upd_ne q]
    exact s b o (by rw [upd_ne q]; exact e)
section
variable {P : Program} {w : World} {K : PySem.W.Frag} {mg : Str → Option Value} {base : Heap}
def spElds (K : PySem.W.Frag) : Sp := fun vs H Q _ => ∃ (a : Addr) (cs : List Cls) (rank : Str → Nat), vs = [.ref a] ∧ CsAt K H a cs ∧ FormsOk cs ∧ ElOk cs rank ∧ ∀ H', Same H H' → Q .non H'
theorem ok_elds (G : Glo mg) (CH : Cal P w K mg base 1 "heads_of" ["classes"] (spDct K FHd)) (CE : Cal P w K mg base 1 "elders" ["heads", "name"] (spEld K)) (D : DefAt K mg "check_elders" s_check_elders ["classes"]) : Cal P w K mg base 2 "check_elders" ["classes"] (spElds K) := by
  refine D.cal sc_check_elders (fun vs H Q E h => ?_) (fun f cdv A outer s H vs Q E hr h => ?_)
  · obtain ⟨v, p, _, rfl, _⟩ := h
    rfl
  obtain ⟨a, cs, rank, rfl, hcs, F, el, q⟩ := h
  have n5 := F.n5
  refine ⟨_, pss_cons (ps_set (i := 1) sc_check_elders.nd rfl (Or.inl rfl) (pc CH hr rfl (pa_cons (pv 0) pa_nil)))
    (pss_one (ps_lock (ps_for (passes_of rfl) rfl (pi_keys (pv 1)) (pg_name (i := 2) sc_check_elders.nd rfl (Or.inl rfl))
      (pss_one (ps_if (pt_cmpR op_in_seq (pv 2) (pc CE hr rfl (pa_cons (pv 1) (pa_cons (pv 2) pa_nil))) (by rfl)) (pss_one ps_never) pss_nil))))), ?_⟩
  refine ⟨_, rfl, a, cs, rfl, hcs, by omega, F.nd, F.ok, fun H1 d kvs s1 hd hd0 e2 e3 => ?_⟩
  refine ⟨d, .dK kvs, hd, trivial, fun od => ?_⟩
  have hkl : kvs.length = cs.length := Paired.length e3
  have dl : DctAt FHd (upd H1 d (.frz od (.dK kvs))) d cs := ⟨kvs, .inr ⟨od, upd_same⟩, e2, Paired.mapP e3 fun kv c z => by
    obtain ⟨l, e, h⟩ := z
    exact ⟨l, e, by rw [upd_ne (fun z => by rw [z, hd] at h; cases h)]; exact h⟩⟩
  refine ⟨_, rfl, d, od, rfl, .inl ⟨kvs, upd_same, ?_⟩⟩
  refine for_it walk_keys (fun i σ H' => ∃ y, σ = [some (.ref a), some (.ref d), y] ∧ Same (upd H1 d (.frz od (.dK kvs))) H') ⟨_, rfl, Same.refl _⟩ (fun i σ H' _ ⟨_, _, sm⟩ => sm _ _ upd_same) (fun i x σ H' H2 hi ⟨y, eσ, sm⟩ hy => ?_) (fun σ H' ⟨_, _, sm⟩ => ?_)
  · subst eσ
    obtain ⟨rfl, k, v, hkv, rfl⟩ := hy
    obtain ⟨c, hc1, hc2⟩ := pairedAt e3 hkv
    have ek : k = Sum.inr c.nm := by
      have h1 : (kvs.map Prod.fst)[i]? = some k := by rw [List.getElem?_map, hkv]; rfl
      rw [e2, List.getElem?_map, List.getElem?_map, hc1] at h1
      exact (Option.some.inj h1).symm
    subst ek
    have hcm := List.mem_of_getElem? hc1
    refine ⟨_, rfl, _, rfl, _, rfl, d, c.nm, cs, rank, rfl, DctAt.stay hd_stay sm dl, by omega, F.nd, el, List.mem_map_of_mem hcm, fun H3 l ys s3 hl hyl hys => ?_⟩
    refine ⟨l, ys.map V.str, rfl, .inl (SqL.of hl), rfl, ?_, _, rfl, iteN ?_ ?_⟩
    · rw [List.all_map]
      exact List.all_eq_true.mpr fun _ _ => rfl
    · exact not_in_strs fun h => Nat.lt_irrefl _ (hys _ h)
    · exact ⟨_, rfl, sm.trans s3⟩
  · refine ⟨sm _ _ upd_same, q _ (s1.trans (unfrz2 hd sm))⟩
end
end N

namespace N
open PySem PySem.Spec PyProof.Rows L2
def sgz : List Str := ["+", "-", "+-"]
def turnS (s : Str) : Str := if s = "+" then "-" else if s = "-" then "+" else "+-"
def passS (s v : Str) : Str := if v = "out" then s else if v = "in" then turnS s else "+-"
/-- whether a place of this sign is barred for a parameter of this variance -/
def barB (s v : Str) : Bool := (v == "out" && s != "+") || (v == "in" && s != "-")
/-- the signs' constants -/
structure Glo3 (K : PySem.W.Frag) (w : World) (mg : Str → Option Value) : Prop where
  BO : ∃ t, mg "BOTH" = some (.str "+-" t)
  TU : ∃ a, mg "TURNED" = some (.ref a) ∧ ∀ s ∈ sgz, KDct K w a s (.str (turnS s))
  BA : ∃ a, mg "BARRED" = some (.ref a) ∧ KDct K w a "out" (.str "-") ∧ KDct K w a "in" (.str "+")
section
variable {P : Program} {w : World} {K : PySem.W.Frag} {mg : Str → Option Value} {base : Heap}
def spPass : Sp := fun vs H Q _ => ∃ (s v : Str), vs = [.str s, .str v] ∧ s ∈ sgz ∧ v ∈ varz ∧ Q (.str (passS s v)) H
theorem ok_pass (G3 : Glo3 K w mg) (D : DefAt K mg "passed_on" s_passed_on ["sign", "variance"]) : Cal P w K mg base 1 "passed_on" ["sign", "variance"] spPass := by
  obtain ⟨tb, hb⟩ := G3.BO
  obtain ⟨ta, hta, htv⟩ := G3.TU
  refine D.cal sc_passed_on (fun vs H Q E h => ?_) (fun f cdv A outer s H vs Q E hr h => ?_)
  · obtain ⟨v, p, rfl, _⟩ := h
    rfl
  obtain ⟨sg, v, rfl, hs, hv, q⟩ := h
  refine ⟨_, pss_cons (ps_if (pt_cmpR op_eq (pv 1) pe_str (nomark _)) (pss_one (ps_ret (pv 0))) pss_nil)
    (pss_cons (ps_if (pt_cmpR op_eq (pv 1) pe_str (nomark _)) (pss_one (ps_ret (pe_ix ix_kdict (pe_glob (v := .ref ta) rfl hta rfl) (pv 0) (fun _ _ => rfl)))) pss_nil)
    (pss_one (ps_ret (pe_glob (v := .str "+-") rfl hb ⟨_, rfl⟩)))), ?_⟩
  refine ⟨_, rfl, rfl, _, rfl, ite2 (fun c => ?_) (fun c => ?_)⟩
  · have e : v = "out" := by
      have := of_decide_eq_true c
      exact V.str.inj this
    refine ⟨_, rfl, ?_⟩
    have ep : passS sg v = sg := by unfold passS; rw [if_pos e]
    rw [ep] at q
    exact q
  · have e : ¬ v = "out" := fun z => (of_decide_eq_false (Bool.eq_false_iff.mpr c)) (by rw [z])
    refine ⟨_, rfl, rfl, _, rfl, ite2 (fun c2 => ?_) (fun c2 => ?_)⟩
    · have e2 : v = "in" := V.str.inj (of_decide_eq_true c2)
      have ep : passS sg v = turnS sg := by unfold passS; rw [if_neg e, if_pos e2]
      rw [ep] at q
      exact ⟨_, rfl, ta, sg, _, rfl, rfl, htv sg hs, q⟩
    · have e2 : ¬ v = "in" := fun z => (of_decide_eq_false (Bool.eq_false_iff.mpr c2)) (by rw [z])
      have ep : passS sg v = "+-" := by unfold passS; rw [if_neg e, if_neg e2]
      rw [ep] at q
      exact q
def spBar : Sp := fun vs H Q _ => ∃ (s v : Str), vs = [.str s, .str v] ∧ s ∈ sgz ∧ v ∈ varz ∧ Q (.bl (barB s v)) H
theorem ok_bar (G3 : Glo3 K w mg) (D : DefAt K mg "is_barred" s_is_barred ["sign", "variance"]) : Cal P w K mg base 1 "is_barred" ["sign", "variance"] spBar := by
  obtain ⟨ta, hta, ho, hi⟩ := G3.BA
  refine D.cal sc_is_barred (fun vs H Q E h => ?_) (fun f cdv A outer s H vs Q E hr h => ?_)
  · obtain ⟨v, p, rfl, _⟩ := h
    rfl
  obtain ⟨sg, v, rfl, hs, hv, q⟩ := h
  refine ⟨_, pss_one (ps_ret (pe_and (pe_cmpR op_ne (pv 1) pe_str (nomark _)) (pe_one (pe_cmpR op_in_str (pe_ix ix_kdict (pe_glob (v := .ref ta) rfl hta rfl) (pv 1) (fun _ _ => rfl)) (pv 0) (by rfl))))), ?_⟩
  simp only [varz, List.mem_cons, List.not_mem_nil, or_false] at hv
  simp only [sgz, List.mem_cons, List.not_mem_nil, or_false] at hs
  rcases hv with rfl | rfl | rfl
  · refine ⟨_, rfl, rfl, _, rfl, iteE rfl ⟨_, rfl, ta, "out", _, rfl, rfl, ho, _, rfl, _, _, rfl, rfl, ?_⟩⟩
    rcases hs with rfl | rfl | rfl <;> (refine (congrArg (fun b => Q (V.bl b) H) ?_).mpr q; decide +kernel)
  · refine ⟨_, rfl, rfl, _, rfl, iteE rfl ⟨_, rfl, ta, "in", _, rfl, rfl, hi, _, rfl, _, _, rfl, rfl, ?_⟩⟩
    rcases hs with rfl | rfl | rfl <;> (refine (congrArg (fun b => Q (V.bl b) H) ?_).mpr q; decide +kernel)
  · refine ⟨_, rfl, rfl, _, rfl, iteN rfl ?_⟩
    rcases hs with rfl | rfl | rfl <;> (refine (congrArg (fun b => Q (V.bl b) H) ?_).mpr q; decide +kernel)
end
end N

namespace N
open PySem PySem.Spec PyProof.Rows L2
/-- found == letter and is_barred(sign, variance), these at the slots 5, 3, 6, 4 -/
def tBd : TE := fun σ H Q => ∃ f s l v : Str, σ[5]? = some (some (.str f)) ∧ σ[6]? = some (some (.str s)) ∧ σ[3]? = some (some (.str l)) ∧ σ[4]? = some (some (.str v)) ∧ s ∈ sgz ∧ v ∈ varz ∧ Q (.bl (decide (f = l) && barB s v)) H
section
variable {P : Program} {w : World} {K : PySem.W.Frag} {mg : Str → Option Value} {base : Heap}
/-- wrong_letters, where none is -/
def spWrong (K : PySem.W.Frag) : Sp := fun vs H Q _ => ∃ (ap pl : Addr) (ps fs : List (Str × Str)) (ws : List V), vs = [.ref ap, .ref pl] ∧ PsAt K H ap ps ∧ H pl = some (.lst ws) ∧ Paired (Pp K H) ws fs ∧ fs.length ≤ 1000 ∧ (∀ p ∈ ps, p.2 ∈ varz) ∧ (∀ q ∈ fs, q.2 ∈ sgz) ∧ (∀ p ∈ ps, ∀ q ∈ fs, q.1 = p.1 → barB q.2 p.2 = false) ∧
  ∀ H' l, Same H H' → H' l = some (.lst []) → Q (.ref l) H'
theorem ok_wrong (G : Glo mg) (hany : mg "any" = none) (CB : Cal P w K mg base 1 "is_barred" ["sign", "variance"] spBar) (D : DefAt K mg "wrong_letters" s_wrong_letters ["parameters", "places"]) : Cal P w K mg base 2 "wrong_letters" ["parameters", "places"] (spWrong K) := by
  refine D.cal sc_wrong_letters (fun vs H Q E h => ?_) (fun f cdv A outer s H vs Q E hr h => ?_)
  · obtain ⟨v, p, _, _, _, rfl, _⟩ := h
    rfl
  obtain ⟨ap, pl, ps, fs, ws, rfl, ⟨xs, hq, hp⟩, hpl, hf, hn, h1, h2, h3, q⟩ := h
  refine ⟨_, pss_cons (ps_set (i := 2) sc_wrong_letters.nd rfl (Or.inl rfl) (pe_lst pa_nil))
    (pss_cons (ps_for (passes_of rfl) rfl (pi_tup (pv 0)) (pg_tup (by rfl) (pgs_cons (pg_name (i := 3) sc_wrong_letters.nd rfl (Or.inr rfl)) (pgs_cons (pg_name (i := 4) sc_wrong_letters.nd rfl (Or.inr rfl)) pgs_nil)))
      (pss_one (ps_if (pt_val (pe_callB (cr_any rfl) (by rfl) hany (by decide +kernel) (pa_cons (pe_lc (own := [("found", 5), ("sign", 6)]) (g := gTup K 2 (gCons (gName 5) (gCons (gName 6) gNil))) (tt := tYes) (te := tBd) rfl sc_wrong_letters.nd (pi_list (pv 1)) (blkOk_by (N := nm_wrong_letters) (sc := defScope s_wrong_letters) (own := [("found", 5), ("sign", 6)]) (by decide +kernel))
        (fun _ _ _ _ _ => pg_tup (by rfl) (pgs_cons (pg_name (i := 5) sc_wrong_letters.nd rfl (Or.inl rfl)) (pgs_cons (pg_name (i := 6) sc_wrong_letters.nd rfl (Or.inl rfl)) pgs_nil))) (fun _ _ _ _ _ => pts_nil)
        (fun _ _ _ _ _ => peOf (pe_and (pe_cmpR op_eq (pv 5) (pv 3) (nomark _)) (pe_one (pc CB hr rfl (pa_cons (pv 6) (pa_cons (pv 4) pa_nil))))) (fun σ H Q z => ?_))) pa_nil))) (pss_one ps_never) pss_nil)))
    (pss_one (ps_ret (pv 2)))), ?_⟩
  · obtain ⟨f, s, l, v, e5, e6, e3, e4, hs, hv, q⟩ := z
    refine ⟨_, e5, _, e3, rfl, _, rfl, ?_⟩
    by_cases e : f = l
    · rw [decide_eq_true e, Bool.true_and] at q
      exact iteE (decide_eq_true (by rw [e])) ⟨_, e6, _, e4, s, v, rfl, hs, hv, q⟩
    · rw [decide_eq_false e, Bool.false_and] at q
      exact iteN (decide_eq_false fun z => e (V.str.inj z)) q
  refine ⟨Nat.zero_le _, fun wl hwl => ?_⟩
  have s1 := same_new hwl (.lst [])
  have hwf : ws.length = fs.length := Paired.length hf
  refine ⟨_, rfl, ap, rfl, ⟨xs, (stay_same s1).tup _ _ hq⟩, ?_⟩
  refine for_tup (K := K) (a := ap) (xs := xs) (fun j σ H' => ∃ y3 y4 y5 y6, σ = [some (.ref ap), some (.ref pl), some (.ref wl), y3, y4, y5, y6] ∧ Same H H' ∧ H' wl = some (.lst [])) ⟨_, _, _, _, rfl, s1, upd_same⟩ (fun j σ H' _ ⟨_, _, _, _, _, sm, _⟩ => (stay_same sm).tup _ _ hq) (fun j x σ H' hxj ⟨y3, y4, y5, y6, eσ, sm, hw⟩ => ?_) (fun σ H' ⟨_, _, _, _, eσ, sm, hw⟩ => ?_)
  · subst eσ
    obtain ⟨p, hp1, ⟨a', rfl, hq'⟩⟩ := pairedAt hp hxj
    have hpm := List.mem_of_getElem? hp1
    refine ⟨a', _, rfl, (stay_same sm).tup _ _ hq', rfl, .str p.1, [.str p.2], rfl, .str p.2, [], rfl, rfl, ?_⟩
    have hpl' := sm _ _ hpl
    refine ⟨_, rfl, pl, rfl, ⟨ws, SqL.of hpl'⟩, fun B hB => ?_⟩
    refine lc_list (K := K) (a := pl) (xs := ws) (te := tBd) (fun i H2 => Same H' H2 ∧ H2 B = some (.lst (List.replicate i (V.bl false)))) ⟨same_new hB _, upd_same⟩ (fun i H2 _ ⟨s2, _⟩ => SqL.of (s2 _ _ hpl')) (fun i y H2 hy ⟨s2, hB2⟩ => ?_) (fun H2 ⟨s2, hB2⟩ => ?_)
    · obtain ⟨g, hg1, ⟨b', rfl, hb'⟩⟩ := pairedAt hf hy
      have hgm := List.mem_of_getElem? hg1
      have hi : i < ws.length := (List.getElem?_eq_some_iff.mp hy).1
      refine ⟨b', _, rfl, (stay_same (sm.trans s2)).tup _ _ hb', rfl, .str g.1, [.str g.2], rfl, .str g.2, [], rfl, rfl, rfl, ?_⟩
      unfold tYes
      dsimp only
      rw [if_pos rfl]
      refine ⟨g.1, g.2, p.1, p.2, rfl, rfl, rfl, rfl, h2 g hgm, h1 p hpm, _, hB2, ?_, same_mut s2 hB, ?_⟩
      · rw [List.length_replicate]
        exact Nat.lt_of_le_of_lt (show i ≤ 100000 by omega) (by decide)
      · have e : (decide (g.1 = p.1) && barB g.2 p.2) = false := by
          by_cases e : g.1 = p.1
          · rw [h3 p hpm g hgm e, Bool.and_false]
          · rw [decide_eq_false e, Bool.false_and]
        rw [upd_same, e, ← List.replicate_succ']
    · refine ⟨B, List.replicate ws.length false, rfl, SqL.of (by rw [hB2, List.map_replicate]), _, rfl, iteN (by simp) ?_⟩
      exact ⟨_, _, _, _, rfl, sm.trans s2, s2 _ _ hw⟩
  · subst eσ
    exact ⟨_, rfl, q _ wl sm hw⟩
end
end N

/-! zip of a tuple and a list: two sources of any sort, each told by what its next does -/
namespace N
open PySem PySem.Spec PyProof.Rows L2
/-- next of the source at i: x goes out, before is S, after is S' -/
def Yields (pr : Program) (w : World) (A : Around) (i : Addr) (S S' : Heap → Prop) (x : Value) : Prop :=
  ∀ (E : Value → Shared → Prop) (s : Shared) (R : Value → Shared → Prop), S s.heap → (∀ g, S' g → Heap.SameBut i s.heap g → R x { s with heap := g }) → wpAny (model pr w) A (Builtin.SmallTypes.nextOf (.ref i)) R E s
/-- next of the source at i: it is at its end -/
def Over (pr : Program) (w : World) (A : Around) (i : Addr) (S : Heap → Prop) : Prop :=
  ∀ (E : Value → Shared → Prop) (s : Shared) (R : Value → Shared → Prop), S s.heap → (∀ g e, Heap.ExtBut i s.heap g → (∃ o, g.get? e = some o ∧ o.cls = .type "StopIteration") → E (.ref e) { s with heap := g }) → wpAny (model pr w) A (Builtin.SmallTypes.nextOf (.ref i)) R E s
/-- S looks at i and l alone -/
def Looks (S : Heap → Prop) (i l : Addr) : Prop := ∀ g g' : Heap, S g → (∀ o, g.get? i = some o → g'.get? i = some o) → (∀ o, g.get? l = some o → g'.get? l = some o) → S g'
theorem Looks.but {S : Heap → Prop} {i l c : Addr} {g g' : Heap} (k : Looks S i l) (h : S g) (q : Heap.SameBut c g g') (n1 : i ≠ c) (n2 : l ≠ c) : S g' := k g g' h (fun _ e => q.extBut _ _ n1 e) (fun _ e => q.extBut _ _ n2 e)
def SrcT (i a : Addr) (xs : Array Value) (k : Nat) (g : Heap) : Prop := g.IsTupleIter i a k ∧ g.IsTuple a xs
def SrcL (i a : Addr) (xs : Array Value) (k : Nat) (g : Heap) : Prop := g.IsListIter i a k ∧ g.IsList a xs
section
variable {pr : Program} {w : World} {A : Around} {i a : Addr} {xs : Array Value} {k : Nat} {x : Value}
theorem looksT : Looks (SrcT i a xs k) i a := fun g g' ⟨⟨o, h1, h2⟩, ⟨o', h3, h4⟩⟩ e1 e2 => ⟨⟨o, e1 _ h1, h2⟩, ⟨o', e2 _ h3, h4⟩⟩
theorem looksL : Looks (SrcL i a xs k) i a := fun g g' h e1 e2 => ⟨h.1.at e1, h.2.at e2⟩
theorem yieldsT (e : xs[k]? = some x) (n : a ≠ i) : Yields pr w A i (SrcT i a xs k) (SrcT i a xs (k + 1)) x := fun E s R h q =>
  RZ.nextOf_tuple_item h.1 h.2 e fun g h' b => q g ⟨h', by obtain ⟨o, h3, h4⟩ := h.2; exact ⟨o, b.extBut _ _ n h3, h4⟩⟩ b
theorem yieldsL (e : xs[k]? = some x) (n : a ≠ i) : Yields pr w A i (SrcL i a xs k) (SrcL i a xs (k + 1)) x := fun E s R h q =>
  wpAny_nextOf_list_item h.1 h.2 e fun g h' b => q g ⟨h', h.2.extBut b.extBut n⟩ b
theorem overT (hh : A.handled = none) (e : xs[k]? = none) : Over pr w A i (SrcT i a xs k) := fun E s R h q => RZ.nextOf_tuple_end hh h.1 h.2 e q
theorem overL (hh : A.handled = none) (e : xs[k]? = none) : Over pr w A i (SrcL i a xs k) := fun E s R h q => wpAny_nextOf_list_end hh h.1 h.2 e q
end
section
variable {pr : Program} {w : World} {A : Around} {E : Value → Shared → Prop} {s : Shared} {z TI TO i1 i2 l1 l2 : Addr} {S1 S1' S2 S2' : Heap → Prop} {x y a b : Value}
/-- what a zip holds -/
structure ZipAt (g : Heap) (z TI TO i1 i2 : Addr) (f a b : Value) : Prop where
  zz : IsZip g z TI TO f
  ti : IsPair g TI (.ref i1) (.ref i2)
  to : IsPair g TO a b
/-- one turn of a zip of two sources: the next of both, in a new pair -/
theorem duo_item {R : Value → Shared → Prop} (D : ZipApart z TI TO i1 i2 l1 l2) (Z : ZipAt s.heap z TI TO i1 i2 .none a b) (h1 : S1 s.heap) (h2 : S2 s.heap) (k1 : Looks S1 i1 l1) (k1' : Looks S1' i1 l1) (k2 : Looks S2 i2 l2) (k2' : Looks S2' i2 l2)
    (F1 : ∀ A, Yields pr w A i1 S1 S1' x) (F2 : ∀ A, Yields pr w A i2 S2 S2' y)
    (q : ∀ g, ZipAt g z TI TO i1 i2 (rawInt s.heap.objs.size) x y → S1' g → S2' g → IsPair g s.heap.objs.size x y → g.objs.size = s.heap.objs.size + 1 → (∀ c o, c ≠ z → c ≠ TO → c ≠ i1 → c ≠ i2 → s.heap.get? c = some o → g.get? c = some o) → R (.ref s.heap.objs.size) { s with heap := g }) :
    wpAny (model pr w) A (Builtin.«zip.__next__» ⟨[.ref z], []⟩) (fun fin t => ∃ v, fin = .done (.ret v) ∧ R v t) E s := by
  refine (show wpAny _ _ (field (.ref z) 2 >>= _) _ _ _ from wpAny_bind (wpAny_field Z.zz rfl (x := .bool false) rfl (show wpAny _ _ (field (.ref z) 3 >>= _) _ _ _ from wpAny_bind (wpAny_field Z.zz rfl (x := .ref TI) rfl (wpAny_bind (wpAny_seqItems Z.ti rfl ?_))))))
  refine (show wpAny _ _ (Builtin.SmallTypes.ownedTupleIsFree (.ref z) >>= _) _ _ _ from wpAny_bind ?_)
  unfold Builtin.SmallTypes.ownedTupleIsFree
  refine wpAny_bind (wpAny_field Z.zz rfl (x := .none) rfl (wpAny_pure ?_))
  rw [if_pos rfl]
  refine wpAny_bind (wpAny_rule (wpAny_bind (wpAny_field Z.zz rfl (x := .ref TO) rfl (wpAny_bind (wpAny_setField_rec Z.zz (by simp) fun g1 z1 b1 => wpAny_bind ?_)))))
  have y1 : IsZip g1 z TI TO .ellipsis := z1
  simp only [List.forIn_nil, List.forIn_cons, List.zipIdx_nil, List.zipIdx_cons]
  refine wpAny_bind (wpAny_bind (wpAny_onRaise (show wpAny _ _ (Builtin.SmallTypes.nextOf (.ref i1) >>= _) _ _ _ from wpAny_bind (F1 _ _ _ _ (k1.but h1 b1 D.i1z D.l1z) fun g2 f2 b2 => wpAny_pure ?_))))
  have o2 : IsPair g2 TO a b := b2.extBut _ _ D.TOi1 (b1.extBut _ _ D.TOz Z.to)
  refine wpAny_bind (wpAny_seqItems o2 rfl (wpAny_bind (wpAny_updateSeq_pair o2 fun g3 w3 b3 => wpAny_bind (wpAny_letGo (wpAny_pure ?_)))))
  have o3 : IsPair g3 TO x b := w3
  have h2' : S2 g3 := k2.but (k2.but (k2.but h2 b1 D.i2z D.l2z) b2 D.i12.symm D.l2i1) b3 D.TOi2.symm D.l2TO
  refine wpAny_bind (wpAny_bind (wpAny_onRaise (show wpAny _ _ (Builtin.SmallTypes.nextOf (.ref i2) >>= _) _ _ _ from wpAny_bind (F2 _ _ _ _ h2' fun g4 f4 b4 => wpAny_pure ?_))))
  have o4 : IsPair g4 TO x b := b4.extBut _ _ D.TOi2 o3
  refine wpAny_bind (wpAny_seqItems o4 rfl (wpAny_bind (wpAny_updateSeq_pair o4 fun g5 w5 b5 => wpAny_bind (wpAny_letGo (wpAny_pure ?_)))))
  have o5 : IsPair g5 TO x y := w5
  refine wpAny_pure (wpAny_bind (wpAny_seqItems o5 rfl (wpAny_bind (wpAny_newTuple ?_))))
  have sz : g5.objs.size = s.heap.objs.size := by rw [b5.1, b4.1, b3.1, b2.1, b1.1]
  have y5 : IsZip g5 z TI TO .ellipsis := b5.extBut _ _ D.TOz.symm (b4.extBut _ _ D.i2z.symm (b3.extBut _ _ D.TOz.symm (b2.extBut _ _ D.i1z.symm y1)))
  have keep : ∀ c o, c ≠ z → c ≠ TO → c ≠ i1 → c ≠ i2 → s.heap.get? c = some o → g5.get? c = some o := fun c o n1 n2 n3 n4 e => b5.extBut _ _ n2 (b4.extBut _ _ n4 (b3.extBut _ _ n2 (b2.extBut _ _ n3 (b1.extBut _ _ n1 e))))
  have e1 : S1' g5 := k1'.but (k1'.but (k1'.but f2 b3 D.TOi1.symm D.l1TO) b4 D.i12 D.l1i2) b5 D.TOi1.symm D.l1TO
  have e2 : S2' g5 := k2'.but f4 b5 D.TOi2.symm D.l2TO
  have zl : z < g5.objs.size := Heap.lt_size y5
  refine (show wpAny _ _ (Builtin.SmallTypes.ownedTupleHandOut (.ref z) (.ref g5.objs.size) >>= _) _ _ _ from wpAny_bind ?_)
  unfold Builtin.SmallTypes.ownedTupleHandOut
  have y6 : IsZip (g5.push { cls := .type "tuple", data := .seq #[x, y] }) z TI TO .ellipsis := Heap.get?_push_of_some _ y5
  refine wpAny_bind (wpAny_setField_rec y6 (by simp) fun g7 z7 b7 => ?_)
  have y7 : IsZip g7 z TI TO (rawInt g5.objs.size) := z7
  refine wpAny_setField_rec y7 (by simp) fun g8 z8 b8 => wpAny_pure ⟨_, rfl, ?_⟩
  have up : ∀ c o, c ≠ z → g5.get? c = some o → g8.get? c = some o := fun c o n e => b8.extBut _ _ n (b7.extBut _ _ n (Heap.get?_push_of_some _ e))
  have y8 : IsZip g8 z TI TO (rawInt g5.objs.size) := z8
  have t8 : IsPair g8 g5.objs.size x y := b8.extBut _ _ (Nat.ne_of_gt zl) (b7.extBut _ _ (Nat.ne_of_gt zl) (Heap.get?_push_size _ rfl))
  have n8 : g8.objs.size = g5.objs.size + 1 := by rw [b8.1, b7.1, Heap.size_push]
  show R (.ref g5.objs.size) _
  rw [sz] at y8 t8 n8 ⊢
  have TIg : IsPair g8 TI (.ref i1) (.ref i2) := up _ _ D.TIz (keep _ _ D.TIz D.TITO D.TIi1 D.TIi2 Z.ti)
  exact q g8 ⟨y8, TIg, up _ _ D.TOz o5⟩ (k1' _ _ e1 (fun _ e => up _ _ D.i1z e) (fun _ e => up _ _ D.l1z e)) (k2' _ _ e2 (fun _ e => up _ _ D.i2z e) (fun _ e => up _ _ D.l2z e)) t8 n8 fun c o n1 n2 n3 n4 e => up c o n1 (keep c o n1 n2 n3 n4 e)
/-- a zip of two sources, one of which is at its end -/
theorem duo_end {R : Fin → Shared → Prop} (D : ZipApart z TI TO i1 i2 l1 l2) (Z : ZipAt s.heap z TI TO i1 i2 .none a b) (h1 : S1 s.heap) (h2 : S2 s.heap) (k1 : Looks S1 i1 l1) (k2 : Looks S2 i2 l2)
    (F : (∀ A, A.handled = none → Over pr w A i1 S1) ∨ ((∃ x, ∀ A, Yields pr w A i1 S1 S1' x) ∧ ∀ A, A.handled = none → Over pr w A i2 S2)) (hh : A.handled = none)
    (q : ∀ g e, (∀ c o, c ≠ z → c ≠ TO → c ≠ i1 → c ≠ i2 → s.heap.get? c = some o → g.get? c = some o) → (∃ o, g.get? e = some o ∧ o.cls = .type "StopIteration") → E (.ref e) { s with heap := g }) :
    wpAny (model pr w) A (Builtin.«zip.__next__» ⟨[.ref z], []⟩) R E s := by
  refine (show wpAny _ _ (field (.ref z) 2 >>= _) _ _ _ from wpAny_bind (wpAny_field Z.zz rfl (x := .bool false) rfl (show wpAny _ _ (field (.ref z) 3 >>= _) _ _ _ from wpAny_bind (wpAny_field Z.zz rfl (x := .ref TI) rfl (wpAny_bind (wpAny_seqItems Z.ti rfl ?_))))))
  refine (show wpAny _ _ (Builtin.SmallTypes.ownedTupleIsFree (.ref z) >>= _) _ _ _ from wpAny_bind ?_)
  unfold Builtin.SmallTypes.ownedTupleIsFree
  refine wpAny_bind (wpAny_field Z.zz rfl (x := .none) rfl (wpAny_pure ?_))
  rw [if_pos rfl]
  refine wpAny_bind (wpAny_rule (wpAny_bind (wpAny_field Z.zz rfl (x := .ref TO) rfl (wpAny_bind (wpAny_setField_rec Z.zz (by simp) fun g1 z1 b1 => wpAny_bind ?_)))))
  have y1 : IsZip g1 z TI TO .ellipsis := z1
  have stop : ∀ {g g' : Heap} {e : Addr}, IsZip g z TI TO .ellipsis → (∃ o, g.get? e = some o ∧ o.cls = .type "StopIteration") → Heap.SameBut z g g' → ∃ o, g'.get? e = some o ∧ o.cls = .type "StopIteration" := fun {g g' e} hz ⟨o, ho, hc⟩ hb => by
    refine ⟨o, hb.extBut _ _ (fun q => ?_) ho, hc⟩
    subst q
    rw [hz] at ho
    cases ho
    simp at hc
  simp only [List.forIn_nil, List.forIn_cons, List.zipIdx_nil, List.zipIdx_cons]
  rcases F with F | ⟨⟨x, F1⟩, F2⟩
  · refine wpAny_bind (wpAny_bind (wpAny_onRaise (show wpAny _ _ (Builtin.SmallTypes.nextOf (.ref i1) >>= _) _ _ _ from wpAny_bind (F _ hh _ _ _ (k1.but h1 b1 D.i1z D.l1z) fun g2 e b2 he => ?_))))
    have y2 : IsZip g2 z TI TO .ellipsis := b2 _ _ D.i1z.symm y1
    exact wpAny_setField_rec y2 (by simp) fun g3 _ b3 => q g3 e (fun c o n1 _ n3 _ u => b3.extBut _ _ n1 (b2 _ _ n3 (b1.extBut _ _ n1 u))) (stop y2 he b3)
  · refine wpAny_bind (wpAny_bind (wpAny_onRaise (show wpAny _ _ (Builtin.SmallTypes.nextOf (.ref i1) >>= _) _ _ _ from wpAny_bind (F1 _ _ _ _ (k1.but h1 b1 D.i1z D.l1z) fun g2 f2 b2 => wpAny_pure ?_))))
    have o2 : IsPair g2 TO a b := b2.extBut _ _ D.TOi1 (b1.extBut _ _ D.TOz Z.to)
    refine wpAny_bind (wpAny_seqItems o2 rfl (wpAny_bind (wpAny_updateSeq_pair o2 fun g3 w3 b3 => wpAny_bind (wpAny_letGo (wpAny_pure ?_)))))
    have h2' : S2 g3 := k2.but (k2.but (k2.but h2 b1 D.i2z D.l2z) b2 D.i12.symm D.l2i1) b3 D.TOi2.symm D.l2TO
    refine wpAny_bind (wpAny_bind (wpAny_onRaise (show wpAny _ _ (Builtin.SmallTypes.nextOf (.ref i2) >>= _) _ _ _ from wpAny_bind (F2 _ hh _ _ _ h2' fun g4 e b4 he => ?_))))
    have y4 : IsZip g4 z TI TO .ellipsis := b4 _ _ D.i2z.symm (b3.extBut _ _ D.TOz.symm (b2.extBut _ _ D.i1z.symm y1))
    exact wpAny_setField_rec y4 (by simp) fun g5 _ b5 => q g5 e (fun c o n1 n2 n3 n4 u => b5.extBut _ _ n1 (b4 _ _ n4 (b3.extBut _ _ n2 (b2.extBut _ _ n3 (b1.extBut _ _ n1 u))))) (stop y4 he b5)
end
end N

namespace N
open PySem PySem.Spec PyProof.Rows L2
open PySem.Sem (wp)
/-! ### zip(a, b), a a tuple, b a list -/
abbrev mz1 (g : Heap) (a : Addr) : Heap := g.push { cls := .type "tuple_iterator", data := .fields #[.ref a, .int 0 0] }
abbrev mz2 (g : Heap) (a b : Addr) : Heap := (mz1 g a).push { cls := .type "list_iterator", data := .fields #[.ref b, .int 0 0] }
abbrev mz3 (g : Heap) (a b : Addr) : Heap := (mz2 g a b).push { cls := .type "tuple", data := .seq #[.ref g.objs.size, .ref (mz1 g a).objs.size] }
abbrev mz4 (g : Heap) (a b : Addr) : Heap := (mz3 g a b).push { cls := .type "tuple", data := .seq #[.none, .none] }
abbrev mz5 (g : Heap) (a b : Addr) : Heap := (mz4 g a b).push { cls := .type "zip", data := .fields #[.none, .bool false, .bool false, .ref (mz2 g a b).objs.size, .ref (mz3 g a b).objs.size] }
theorem zipM_made (a b : Addr) (xs ys : Array Value) : Meets (Builtin.«zip.__new__» ⟨[.type "zip", .ref a, .ref b], []⟩)
    (fun _ R s => s.heap.IsTuple a xs ∧ s.heap.IsList b ys ∧ R (.ok (.ret (.ref (mz4 s.heap a b).objs.size))) { s with heap := mz5 s.heap a b }) :=
  .of_wp fun pr w A R s h => by
    obtain ⟨hp, g, d, tk, os⟩ := s
    obtain ⟨ha, hb, h⟩ := h
    have hsub := sub_zip
    have h1 : Heap.IsTuple (Shared.heap ⟨hp, g, d, tk, os⟩) a xs := ha
    have h2 : Heap.IsList (Shared.heap ⟨mz1 hp a, g, d, tk, os⟩) b ys := Heap.IsList.push hb _
    wp_walk using wpAny_pyIter_tuple h1, wpAny_pyIter_list h2
    exact ⟨_, rfl, h⟩
section
variable {pr : Program} {w : World} {A : Around} {E : Value → Shared → Prop} {s : Shared}
theorem call_zipM {a b : Addr} {xs ys : Array Value} {R : Value → Shared → Prop} (ha : s.heap.IsTuple a xs) (hb : s.heap.IsList b ys)
    (h : ∀ g n, n = s.heap.objs.size → ZipAt g (n + 4) (n + 2) (n + 3) n (n + 1) .none .none .none → SrcT n a xs 0 g → SrcL (n + 1) b ys 0 g → (∀ c o, s.heap.get? c = some o → g.get? c = some o) → R (.ref (n + 4)) { s with heap := g }) :
    wpAny (model pr w) A (call (.type "zip") [.ref a, .ref b]) R E s := by
  refine callType_new F.called_zip (by decide) (F.typeCall_zip_2 _ _) (F.newCall_zip_2 _ _) (fun ob => F.args_object_init_3 ob _ _) F.entry_zip_new (zipM_made a b xs ys) ⟨ha, hb, ?_⟩
  have n1 : (mz1 s.heap a).objs.size = s.heap.objs.size + 1 := Heap.size_push ..
  have n2 : (mz2 s.heap a b).objs.size = s.heap.objs.size + 2 := by rw [Heap.size_push, n1]
  have n3 : (mz3 s.heap a b).objs.size = s.heap.objs.size + 3 := by rw [Heap.size_push, n2]
  have n4 : (mz4 s.heap a b).objs.size = s.heap.objs.size + 4 := by rw [Heap.size_push, n3]
  have u0 : ∀ c o, s.heap.get? c = some o → (mz1 s.heap a).get? c = some o := fun c o e => Heap.get?_push_of_some _ e
  have u1 : ∀ c o, (mz1 s.heap a).get? c = some o → (mz2 s.heap a b).get? c = some o := fun c o e => Heap.get?_push_of_some _ e
  have u2 : ∀ c o, (mz2 s.heap a b).get? c = some o → (mz3 s.heap a b).get? c = some o := fun c o e => Heap.get?_push_of_some _ e
  have u3 : ∀ c o, (mz3 s.heap a b).get? c = some o → (mz4 s.heap a b).get? c = some o := fun c o e => Heap.get?_push_of_some _ e
  have u4 : ∀ c o, (mz4 s.heap a b).get? c = some o → (mz5 s.heap a b).get? c = some o := fun c o e => Heap.get?_push_of_some _ e
  have p1 : (mz1 s.heap a).get? s.heap.objs.size = some _ := Heap.get?_push_size _ rfl
  have p2 : (mz2 s.heap a b).get? (mz1 s.heap a).objs.size = some _ := Heap.get?_push_size _ rfl
  have p3 : (mz3 s.heap a b).get? (mz2 s.heap a b).objs.size = some _ := Heap.get?_push_size _ rfl
  have p4 : (mz4 s.heap a b).get? (mz3 s.heap a b).objs.size = some _ := Heap.get?_push_size _ rfl
  have p5 : (mz5 s.heap a b).get? (mz4 s.heap a b).objs.size = some _ := Heap.get?_push_size _ rfl
  have q1 := u4 _ _ (u3 _ _ (u2 _ _ (u1 _ _ p1)))
  have q2 := u4 _ _ (u3 _ _ (u2 _ _ p2))
  have q3 := u4 _ _ (u3 _ _ p3)
  have q4 := u4 _ _ p4
  have up : ∀ c o, s.heap.get? c = some o → (mz5 s.heap a b).get? c = some o := fun c o e => u4 _ _ (u3 _ _ (u2 _ _ (u1 _ _ (u0 _ _ e))))
  show _ ∧ _
  rw [n2, n3, n4] at p5
  rw [n1, n2] at q3
  rw [n3] at q4
  rw [n1] at q2
  rw [n4]
  obtain ⟨oa, e1, e2⟩ := ha
  exact ⟨⟨_, p5, rfl⟩, h _ _ rfl ⟨p5, q3, q4⟩ ⟨⟨_, q1, rfl, rfl⟩, ⟨oa, up _ _ e1, e2⟩⟩ ⟨⟨_, q2, rfl, rfl⟩, hb.at fun o e => up _ o e⟩ up⟩
end
/-- turns over a tuple and a list at once -/
def ItzM (K : PySem.W.Frag) (a b : Addr) : It :=
  ⟨fun i H => ∃ (xs ys : List V) (x y : V), SqT K H a xs ∧ SqL K H b ys ∧ xs[i]? = some x ∧ ys[i]? = some y,
    fun i H v H' => ∃ (T : Addr) (x y : V), v = .ref T ∧ H T = none ∧ H' = upd H T (.tup [x, y]) ∧ (∀ xs, SqT K H a xs → xs[i]? = some x) ∧ (∀ ys, SqL K H b ys → ys[i]? = some y),
    fun i H => ∃ (xs ys : List V), SqT K H a xs ∧ SqL K H b ys ∧ (xs.length ≤ i ∨ ys.length ≤ i)⟩
theorem five {c z TI TO i1 i2 : Addr} (h : c ∈ [z, TI, TO, i1, i2]) : c = z ∨ c = TI ∨ c = TO ∨ c = i1 ∨ c = i2 := by simpa using h
/-- the heap's side of a turn -/
def ZipSt (a b z TI TO i1 i2 : Addr) (k : Nat) (g : Heap) : Prop := (∃ x y, ZipAt g z TI TO i1 i2 .none x y) ∧ g.IsTupleIter i1 a k ∧ g.IsListIter i2 b k
theorem ZipSt.lt {a b z TI TO i1 i2 c : Addr} {k : Nat} {g : Heap} (h : ZipSt a b z TI TO i1 i2 k g) (m : c ∈ [z, TI, TO, i1, i2]) : c < g.objs.size := by
  obtain ⟨⟨x, y, Z⟩, ⟨o1, e1, _⟩, ⟨o2, e2, _⟩⟩ := h
  rcases five m with q | q | q | q | q <;> subst q
  · exact Heap.lt_size Z.zz
  · exact Heap.lt_size Z.ti
  · exact Heap.lt_size Z.to
  · exact Heap.lt_size e1
  · exact Heap.lt_size e2
theorem turn_zipM {P : Program} {w : World} {K : PySem.W.Frag} {elts : List Expr} {kk : Nat} {tpos : Pos} {a b z TI TO i1 i2 : Addr} (D : ZipApart z TI TO i1 i2 a b) :
    Turn P w K (.Tuple elts kk tpos) (ItzM K a b) [z, TI, TO, i1, i2] z (ZipSt a b z TI TO i1 i2) where
  mem := List.mem_cons_self
  obj := fun k g st c m => by
    obtain ⟨⟨x, y, Z⟩, ⟨o1, e1, _, d1⟩, ⟨o2, e2, _, d2⟩⟩ := st
    rcases five m with q | q | q | q | q <;> subst q
    · exact ⟨_, Z.zz, fun v q => nomatch q⟩
    · exact ⟨_, Z.ti, fun v q => nomatch q⟩
    · exact ⟨_, Z.to, fun v q => nomatch q⟩
    · exact ⟨o1, e1, fun v q => by rw [d1] at q; cases q⟩
    · exact ⟨o2, e2, fun v q => by rw [d2] at q; cases q⟩
  keep := fun k g g' st u => by
    obtain ⟨⟨x, y, Z⟩, h1, h2⟩ := st
    exact ⟨⟨x, y, u z (by simp) _ Z.zz, u TI (by simp) _ Z.ti, u TO (by simp) _ Z.to⟩, h1.at fun o q => u i1 (by simp) o q, h2.at fun o q => u i2 (by simp) o q⟩
  item := by
    intro X hP hw hK hc k pins s σ H E I hf st hg
    subst hP hw hK
    have lt := fun c m => ZipSt.lt (c := c) st m
    obtain ⟨⟨x0, y0, Z⟩, h1, h2⟩ := st
    obtain ⟨xs, ys, x, y, qx, qy, hx, hy⟩ := hg
    obtain ⟨its, rv, p, _⟩ := I.tuple qx
    obtain ⟨its2, rv2, p2, _⟩ := I.list qy
    obtain ⟨u, hu, ru⟩ := rv.get hx
    obtain ⟨u2, hu2, ru2⟩ := rv2.get hy
    have zl := lt z (by simp)
    have hT : s.TypeIs (.ref z) "zip" := ⟨_, Z.zz, rfl⟩
    unfold pyNext
    refine wpAny_bind (wpAny_attempt (wpAny_callSpecial?_slot (name := Str.ofString "__next__") hT F.slot_zip_next (wpAny_call_entry F.slot_zip_next hT F.entry_zip_next
      (duo_item (S1 := SrcT i1 a its.toArray k) (S2 := SrcL i2 b its2.toArray k) D Z ⟨h1, p⟩ ⟨h2, p2.isList⟩ looksT looksT looksL looksL (fun _ => yieldsT (x := u) (by simpa using hu) D.l1i1) (fun _ => yieldsL (x := u2) (by simpa using hu2) D.l2i2) fun g Z' f1 f2 pT gs kp => wpAny_pure ?_) (F.args_zip_next_1 _))))
    refine ⟨_, rfl, wpAny_letOwnedTupleGo_zip (s := { s with heap := g }) Z'.zz fun g' z' sb => ?_⟩
    have pT' : g'.get? s.heap.objs.size = some { cls := .type "tuple", data := .seq #[u, u2] } := (sb.2 _ (Nat.ne_of_gt zl)).trans pT
    have new : ObjOk X.prog X.w (upd H s.heap.objs.size (.tup [x, y])) g' s.heap.objs.size (.tup [x, y]) := ⟨by show 2 ≤ sizeLine; decide, [u, u2], .cons ru (.cons ru2 .nil), ⟨_, pT', rfl, _, rfl⟩⟩
    have up : ∀ c o, c ∉ [z, TI, TO, i1, i2] → s.heap.get? c = some o → g'.get? c = some o := fun c o n e =>
      (sb.2 c fun q => n (by simp [q])).trans (kp c o (fun q => n (by simp [q])) (fun q => n (by simp [q])) (fun q => n (by simp [q])) (fun q => n (by simp [q])) e)
    have I1 : Inv X pins σ (upd H s.heap.objs.size (.tup [x, y])) { s with heap := g' } := I.turnedNew (t' := s.toks) (ch := [z, TI, TO, i1, i2]) (fun c o n e => up c o n e) hf (Nat.le_refl _) new
    refine ⟨.ref s.heap.objs.size, _, I1, rfl, ⟨_, x, y, rfl, I.hok.fresh (Nat.le_refl _), rfl, fun l hl => by rw [I.tuple_inj hl qx]; exact hx, fun l hl => by rw [I.list_inj hl qy]; exact hy⟩, ⟨⟨u, u2, z', ?_, ?_⟩, ?_, ?_⟩, fun c m => ?_⟩
    · exact (sb.2 _ D.TIz).trans Z'.ti
    · exact (sb.2 _ D.TOz).trans Z'.to
    · exact f1.1.at fun o q => (sb.2 _ D.i1z).trans q
    · exact f2.1.at fun o q => (sb.2 _ D.i2z).trans q
    · rw [upd_ne (Nat.ne_of_lt (lt c m))]
      exact (hf c m).1
  done := by
    intro X hP hw hK hc k pins s σ H E I hf st hg
    subst hP hw hK
    obtain ⟨⟨x0, y0, Z⟩, h1, h2⟩ := st
    obtain ⟨xs, ys, qx, qy, hend⟩ := hg
    obtain ⟨its, rv, p, _⟩ := I.tuple qx
    obtain ⟨its2, rv2, p2, _⟩ := I.list qy
    have l1 := rv.length
    have l2 := rv2.length
    have hT : s.TypeIs (.ref z) "zip" := ⟨_, Z.zz, rfl⟩
    unfold pyNext
    refine wpAny_bind (wpAny_attempt (wpAny_callSpecial?_slot (name := Str.ofString "__next__") hT F.slot_zip_next (wpAny_call_entry F.slot_zip_next hT F.entry_zip_next
      (duo_end (S1 := SrcT i1 a its.toArray k) (S1' := SrcT i1 a its.toArray (k + 1)) (S2 := SrcL i2 b its2.toArray k) D Z ⟨h1, p⟩ ⟨h2, p2.isList⟩ looksT looksL ?_ (I.ok.hd hc) fun g e kp he => ?_) (F.args_zip_next_1 _))))
    · by_cases hk : xs.length ≤ k
      · exact .inl fun _ hh => overT hh (by simp; omega)
      · have hk2 : ys.length ≤ k := hend.resolve_left hk
        have hlt : k < its.length := by omega
        exact .inr ⟨⟨its[k], fun _ => yieldsT (by simp [hlt]) D.l1i1⟩, fun _ hh => overL hh (by simp; omega)⟩
    · obtain ⟨o, ho, hcl⟩ := he
      refine wpAny_bind (wpAny_isInstance (T := "StopIteration") (b := true) ⟨o, ho, hcl⟩ isSubtype_stop (wpAny_pure ⟨rfl, ?_⟩))
      exact I.turnedL (t' := s.toks) (ch := [z, TI, TO, i1, i2]) (fun c o n q => kp c o (fun q' => n (by simp [q'])) (fun q' => n (by simp [q'])) (fun q' => n (by simp [q'])) (fun q' => n (by simp [q'])) q) hf
  self := fun A k s Q E st h => by
    obtain ⟨⟨x, y, Z⟩, _⟩ := st
    exact wpAny_pyIter_zip Z.zz h
def iZipM (K : PySem.W.Frag) (ta : TA) : TI := fun σ H R => ta σ H fun vs H1 => ∃ (a b : Addr) (xs ys : List V), vs = [.ref a, .ref b] ∧ SqT K H1 a xs ∧ SqL K H1 b ys ∧ R (ItzM K a b) H1
theorem pi_zipM {X : Cx} {e e2 : Expr} {ta : TA} {p pos tpos : Pos} {elts : List Expr} {kk : Nat} (hg : Gl X "zip") (hm : X.mg "zip" = none) (ha : PA X [e, e2] ta)
    (hs : starEach [e, e2] X.env = (false, eval e X.env) :: starEach [e2] X.env := by rfl) (hpl : (backTo pos (starEach [e2] X.env)).any (·.1) = false := by rfl) :
    PI X (.Tuple elts kk tpos) (.Call (.Name "zip" p) [e, e2] [] pos) (iZipM X.K ta) := by
  refine ⟨fun pins s σ H R I h => ?_⟩
  refine Call_ (ld_blt I hg hm PyProof.Rows.boot_zip (PyProof.Rows.callWith_type1 (thn (ha.run pos pins s σ H _ I h) fun us s1 ⟨vs, H1, I1, r1, a, b, xs, ys, ex, qx, qy, q⟩ => ?_) hs hpl))
  subst ex
  obtain ⟨its, rv, p1, _⟩ := I1.tuple qx
  obtain ⟨its2, rv2, p2, _⟩ := I1.list qy
  have la : a < s1.heap.objs.size := by
    obtain ⟨o, ho, _⟩ := id p1
    exact Heap.lt_size ho
  cases r1 with
  | cons r rr =>
    cases rr with
    | cons r' rr =>
      cases rr
      cases r
      cases r'
      refine call_zipM (show s1.heap.IsTuple a its.toArray from p1) p2.isList fun g n en Z f1 f2 up => wpAny_pyIter_zip Z.zz ?_
      subst en
      refine ⟨_, [s1.heap.objs.size + 4, s1.heap.objs.size + 2, s1.heap.objs.size + 3, s1.heap.objs.size, s1.heap.objs.size + 1], _, _, H1, rfl, I1.kept (t' := s1.toks) up, turn_zipM (PySem.W.ktu_apart s1.heap.objs.size a b la p2.lt), ⟨⟨_, _, Z⟩, f1.1, f2.1⟩, fun c m => ?_, q⟩
      have hle : s1.heap.objs.size ≤ c := by rcases five m with e | e | e | e | e <;> (rw [e]; first | exact Nat.le_refl _ | exact Nat.le_add_right _ _)
      exact I1.fpOk hle (I1.hok.fresh hle)
/-- a loop over zip(a, b) of one length -/
theorem for_zipM {K : PySem.W.Frag} {a b : Addr} {xs ys : List V} {g : TG} {tb : TS} {D : Ends} {σ : L2.St} {H : Hp} (hl : xs.length = ys.length) (Pv : Nat → L2.St → Hp → Prop) (h0 : Pv 0 σ H) (hq : ∀ i σ H, Pv i σ H → SqT K H a xs ∧ SqL K H b ys)
    (hs : ∀ (i : Nat) (x y : V) (T : Addr) (σ : L2.St) (H : Hp), xs[i]? = some x → ys[i]? = some y → Pv i σ H → H T = none → g (.ref T) σ (upd H T (.tup [x, y])) fun σ2 H2 => tb { D with nx := Pv (i + 1), ct := Pv (i + 1), bk := D.nx } σ2 H2) (hd : ∀ σ H, Pv xs.length σ H → D.nx σ H) :
    ∃ W : Nat → Nat → L2.St → Hp → Prop, (∃ m, W 0 m σ H) ∧ ∀ i m σ H, W i m σ H →
      ((ItzM K a b).stop i H ∧ D.nx σ H) ∨ ((ItzM K a b).go i H ∧ ∃ N : L2.St → Hp → Prop, (∀ σ' H', N σ' H' → ∃ m', m' < m ∧ W (i + 1) m' σ' H') ∧ ∀ v H', (ItzM K a b).yld i H v H' → g v σ H' fun σ2 H2 => tb { D with nx := N, ct := N, bk := D.nx } σ2 H2) := by
  refine ⟨fun i m σ H => m + i = xs.length ∧ Pv i σ H, ⟨xs.length, rfl, h0⟩, fun i m σ H ⟨em, p⟩ => ?_⟩
  obtain ⟨qx, qy⟩ := hq i σ H p
  cases m with
  | zero =>
    have e : i = xs.length := by omega
    subst e
    exact .inl ⟨⟨xs, ys, qx, qy, .inl (Nat.le_refl _)⟩, hd σ H p⟩
  | succ m =>
    have hx : xs[i]? = some (xs[i]'(by omega)) := List.getElem?_eq_getElem (by omega)
    have hy : ys[i]? = some (ys[i]'(by omega)) := List.getElem?_eq_getElem (by omega)
    refine .inr ⟨⟨xs, ys, _, _, qx, qy, hx, hy⟩, Pv (i + 1), fun σ' H' p' => ⟨m, Nat.lt_succ_self _, by omega, p'⟩, fun v H' y => ?_⟩
    obtain ⟨T, x', y', rfl, hT, rfl, f1, f2⟩ := y
    exact hs i x' y' T σ H (f1 xs qx) (f2 ys qy) p hT
end N

namespace N
open PySem PySem.Spec PyProof.Rows L2
/-! ### signed_letters -/
/-- the letters of a kind at their places, each with its sign, in the program's order -/
def Kd.sgl (vr : Str → List Str) (s : Str) : Kd → List (Str × Str)
  | .L c => [(c, s)]
  | .C0 _ => []
  | .C1 n a => a.sgl vr (passS s ((vr n).getD 0 ""))
  | .C2 n a b => b.sgl vr (passS s ((vr n).getD 1 "")) ++ a.sgl vr (passS s ((vr n).getD 0 ""))
def subs (vr : Str → List Str) (s : Str) (k : Kd) : List (Kd × Str) := (k.args.zip (vr k.nm)).map fun q => (q.1, passS s q.2)
def sglAll (vr : Str → List Str) (ws : List (Kd × Str)) : List (Str × Str) := ws.reverse.flatMap fun p => p.1.sgl vr p.2
theorem sgl_C {vr : Str → List Str} {s : Str} : ∀ {k : Kd}, k.isC = true → (vr k.nm).length = k.args.length → k.sgl vr s = sglAll vr (subs vr s k)
  | .C0 n, _, _ => rfl
  | .C1 n a, _, h => by
    obtain ⟨v, e⟩ : ∃ v, vr n = [v] := by
      match hv : vr n, h with
      | [v], _ => exact ⟨v, rfl⟩
      | [], h => exact absurd h (by simp [Kd.args])
      | _ :: _ :: _, h => exact absurd h (by simp [Kd.args])
    show a.sgl vr (passS s ((vr n).getD 0 "")) = sglAll vr (([a].zip (vr n)).map fun q => (q.1, passS s q.2))
    rw [e]
    simp [sglAll]
  | .C2 n a b, _, h => by
    obtain ⟨v, u, e⟩ : ∃ v u, vr n = [v, u] := by
      match hv : vr n, h with
      | [v, u], _ => exact ⟨v, u, rfl⟩
      | [], h => exact absurd h (by simp [Kd.args])
      | [_], h => exact absurd h (by simp [Kd.args])
      | _ :: _ :: _ :: _, h => exact absurd h (by simp [Kd.args])
    show b.sgl vr (passS s ((vr n).getD 1 "")) ++ a.sgl vr (passS s ((vr n).getD 0 "")) = sglAll vr (([a, b].zip (vr n)).map fun q => (q.1, passS s q.2))
    rw [e]
    simp [sglAll]
theorem sglAll_snoc (vr : Str → List Str) (ws : List (Kd × Str)) (p : Kd × Str) : sglAll vr (ws ++ [p]) = p.1.sgl vr p.2 ++ sglAll vr ws := by
  unfold sglAll
  rw [List.reverse_append, List.reverse_singleton, List.singleton_append, List.flatMap_cons]
theorem sglAll_app (vr : Str → List Str) (ws us : List (Kd × Str)) : sglAll vr (ws ++ us) = sglAll vr us ++ sglAll vr ws := by
  unfold sglAll
  rw [List.reverse_append, List.flatMap_append]
/-- the variances of a class, by its name -/
def vrOf (cs : List Cls) (n : Str) : List Str := ((cs.find? fun c => c.nm == n).map fun c => c.ps.map Prod.snd).getD []
theorem vrOf_eq : ∀ {cs : List Cls} {c : Cls}, (cs.map Cls.nm).Nodup → c ∈ cs → vrOf cs c.nm = c.ps.map Prod.snd
  | d :: cs, c, nd, h => by
    rw [List.map_cons, List.nodup_cons] at nd
    unfold vrOf
    by_cases e : d.nm = c.nm
    · have : c = d := by
        rcases List.mem_cons.mp h with h | h
        · exact h
        · exact absurd (e ▸ List.mem_map_of_mem (f := Cls.nm) h) nd.1
      subst this
      rw [List.find?_cons_of_pos (by simp)]
      rfl
    · have h' : c ∈ cs := (List.mem_cons.mp h).resolve_left fun q => e (by rw [q])
      rw [List.find?_cons_of_neg (by simpa using e)]
      exact vrOf_eq nd.2 h'
theorem mem_arOf {cs : List Cls} {n : Str} {m : Nat} (h : (n, m) ∈ arOf cs) : ∃ c ∈ cs, c.nm = n ∧ c.ps.length = m := by
  obtain ⟨c, hc, e⟩ := List.mem_map.mp h
  cases e
  exact ⟨c, hc, rfl, rfl⟩
theorem paired_last {α β : Type} {F : α → β → Prop} : ∀ {l : List α} {r : List β}, Paired F l r → r ≠ [] → ∃ l' x r' y, l = l' ++ [x] ∧ r = r' ++ [y] ∧ Paired F l' r' ∧ F x y
  | _, _, .nil, h => absurd rfl h
  | [a], [b], .cons h .nil, _ => ⟨[], a, [], b, rfl, rfl, .nil, h⟩
  | a :: a2 :: l, b :: b2 :: r, .cons h t, _ => by
    obtain ⟨l', x, r', y, e1, e2, p, q⟩ := paired_last t (by simp)
    exact ⟨a :: l', x, b :: r', y, by rw [e1]; rfl, by rw [e2]; rfl, .cons h p, q⟩
/-- a place of the work list: a kind and its sign -/
def Wp (K : PySem.W.Frag) (H : Hp) (v : V) (p : Kd × Str) : Prop := ∃ a u, v = .ref a ∧ SqT K H a [u, .str p.2] ∧ Kp K H u p.1
theorem Wp.stay {K : PySem.W.Frag} {H H' : Hp} {v : V} {p : Kd × Str} (s : Stay K H H') (h : Wp K H v p) : Wp K H' v p := by
  obtain ⟨a, u, e, q, k⟩ := h
  exact ⟨a, u, e, s.tup _ _ q, Th.stay s k⟩
def sumN (ws : List (Kd × Str)) : Nat := (ws.map fun p => p.1.nds).sum
theorem sumN_snoc (ws : List (Kd × Str)) (p : Kd × Str) : sumN (ws ++ [p]) = sumN ws + p.1.nds := by simp [sumN]
theorem sumN_app (ws us : List (Kd × Str)) : sumN (ws ++ us) = sumN ws + sumN us := by simp [sumN]
theorem sumN_len (ws : List (Kd × Str)) : ws.length ≤ sumN ws := by
  induction ws with
  | nil => exact Nat.zero_le _
  | cons p ws ih =>
    have := Kd.nds_pos p.1
    simp only [sumN, List.map_cons, List.sum_cons, List.length_cons] at *
    omega
theorem sumN_subs {vr : Str → List Str} {s : Str} {k : Kd} (h : (vr k.nm).length = k.args.length) : sumN (subs vr s k) = (k.args.map Kd.nds).sum := by
  unfold sumN subs
  rw [List.map_map]
  congr 1
  have : ∀ (l : List Kd) (r : List Str), r.length = l.length → (l.zip r).map ((fun p : Kd × Str => p.1.nds) ∘ fun q => (q.1, passS s q.2)) = l.map Kd.nds := by
    intro l
    induction l with
    | nil => intro r _; simp
    | cons a l ih =>
      intro r hr
      cases r with
      | nil => simp at hr
      | cons b r => simp only [List.zip_cons_cons, List.map_cons]; rw [ih r (by simpa using hr)]; rfl
  exact this _ _ h
theorem passS_mem {s v : Str} (h : s ∈ sgz) : passS s v ∈ sgz := by
  unfold passS turnS
  split
  · exact h
  · split
    · split
      · decide
      · split <;> decide
    · decide
section
variable {P : Program} {w : World} {K : PySem.W.Frag} {mg : Str → Option Value} {base : Heap}
def spSgl (K : PySem.W.Frag) : Sp := fun vs H Q _ => ∃ (v : V) (k : Kd) (s : Str) (d : Addr) (cs : List Cls) (ls : List Str), vs = [v, .str s, .ref d] ∧ Kp K H v k ∧ k.nds ≤ 1000 ∧ s ∈ sgz ∧ DctAt FVr H d cs ∧ (cs.map Cls.nm).Nodup ∧ (∀ c ∈ cs, c.ok) ∧ k.fits (arOf cs) ls ∧
  ∀ H' l ws, Same H H' → H' l = some (.lst ws) → H l = none → Paired (Pp K H') ws (k.sgl (vrOf cs) s) → (k.sgl (vrOf cs) s).length ≤ 1000 → Q (.ref l) H'
theorem ok_sgl (G : Glo mg) (hzip : mg "zip" = none) (CP : Cal P w K mg base 1 "passed_on" ["sign", "variance"] spPass) (D : DefAt K mg "signed_letters" s_signed_letters ["kind", "sign", "variances"]) : Cal P w K mg base 2 "signed_letters" ["kind", "sign", "variances"] (spSgl K) := by
  refine D.cal sc_signed_letters (fun vs H Q E h => ?_) (fun f cdv A outer s H vs Q E hr h => ?_)
  · obtain ⟨v, k, s, d, cs, ls, rfl, _⟩ := h
    rfl
  obtain ⟨v, k, sg, d, cs, ls, rfl, hk, hn, hs, hd, nd, oks, hf, q⟩ := h
  refine ⟨_, pss_cons (ps_set (i := 3) sc_signed_letters.nd rfl (Or.inl rfl) (pe_lst pa_nil))
    (pss_cons (ps_set (i := 4) sc_signed_letters.nd rfl (Or.inl rfl) (pe_lst (pa_cons (pe_tup (pa_cons (pv 0) (pa_cons (pv 1) pa_nil))) pa_nil)))
    (pss_cons (ps_while (passes_of rfl) (pt_truth (pv 4) (by intro _; rfl))
      (pss_cons (ps_asg (pe_bm0 PySem.F.plainAttrs_list PySem.F.slot_list_pop PySem.F.type_list_pop mt_pop (pv 4)) (pg_tup (by rfl) (pgs_cons (pg_name (i := 5) sc_signed_letters.nd rfl (Or.inl rfl)) (pgs_cons (pg_name (i := 6) sc_signed_letters.nd rfl (Or.inl rfl)) pgs_nil))))
      (pss_one (ps_if (pt_val (pe_isi G.isinstance G.str b_str rfl rfl (pv 5)))
        (pss_one (ps_expr (pe_bm PySem.F.plainAttrs_list PySem.F.slot_list_append PySem.F.type_list_append mt_append (pv 3) (pa_cons (pe_tup (pa_cons (pv 5) (pa_cons (pv 6) pa_nil))) pa_nil))))
        (pss_one (ps_for (passes_of rfl) rfl (pi_zipM rfl hzip (pa_cons (pe_slice sl_tup (pv 5) (po_some pe_int) po_none) (pa_cons (pe_dget (hug hr) (pv 2) (pe_ix ix_tup (pv 5) pe_int (fun _ _ => rfl)) (fun _ _ => rfl)) pa_nil))) (pg_tup (by rfl) (pgs_cons (pg_name (i := 7) sc_signed_letters.nd rfl (Or.inl rfl)) (pgs_cons (pg_name (i := 8) sc_signed_letters.nd rfl (Or.inl rfl)) pgs_nil)))
          (pss_one (ps_if (pt_cmpR op_notN (pv 8) pe_non (nomark _)) (pss_one (ps_expr (pe_bm PySem.F.plainAttrs_list PySem.F.slot_list_append PySem.F.type_list_append mt_append (pv 4) (pa_cons (pe_tup (pa_cons (pv 7) (pa_cons (pc CP hr rfl (pa_cons (pv 6) (pa_cons (pv 8) pa_nil))) pa_nil))) pa_nil)))) pss_nil))))))))
    (pss_one (ps_ret (pv 3))))), ?_⟩
  refine ⟨Nat.zero_le _, fun pl hpl => ?_⟩
  have s1 := same_new hpl (.lst [])
  refine ⟨v, rfl, _, rfl, by show 2 ≤ sizeLine; decide, fun t0 ht0 => ?_⟩
  have s2 := s1.trans (same_new ht0 (.tup [v, .str sg]))
  refine ⟨by show 1 ≤ sizeLine; decide, fun r hr0 => ?_⟩
  have s3 := s2.trans (same_new hr0 (.lst [.ref t0]))
  have hrH : H r = none := s2.free hr0
  have npr : pl ≠ r := ne_of_none ((same_new ht0 (.tup [v, .str sg])) _ _ upd_same) hr0
  refine ⟨fun m σ H' => ∃ xs ws out outv y5 y6 y7 y8, m = sumN ws ∧ σ = [some v, some (.str sg), some (.ref d), some (.ref pl), some (.ref r), y5, y6, y7, y8] ∧ Same H H' ∧ H' r = some (.lst xs) ∧ Paired (Wp K H') xs ws ∧ H' pl = some (.lst outv) ∧ Paired (Pp K H') outv out ∧
      k.sgl (vrOf cs) sg = out ++ sglAll (vrOf cs) ws ∧ out.length + sumN ws ≤ 1000 ∧ ∀ p ∈ ws, p.2 ∈ sgz ∧ p.1.fits (arOf cs) ls,
    ⟨_, [.ref t0], [(k, sg)], [], [], _, _, _, _, rfl, rfl, s3, upd_same, .cons ⟨t0, v, rfl, ?_, hk.stay (stay_same s3)⟩ .nil, ?_, .nil, ?_, ?_, ?_⟩, fun m σ H' hW => ?_⟩
  · exact (stay_new hr0 _).tup _ _ (.inl (.inl upd_same))
  · rw [upd_ne npr]
    exact (same_new ht0 _) _ _ upd_same
  · rw [List.nil_append, show [(k, sg)] = [] ++ [(k, sg)] from rfl, sglAll_snoc]
    simp [sglAll]
  · simp [sumN]
    exact hn
  · intro p hp
    rw [List.mem_singleton.mp hp]
    exact ⟨hs, hf⟩
  obtain ⟨xs, ws, out, outv, y5, y6, y7, y8, rfl, rfl, sm, hx, hA, ho, hO, he, hm, hfs⟩ := hW
  refine ⟨_, rfl, _, .inl ⟨xs, SqL.of hx, rfl⟩, ?_⟩
  by_cases hne : ws = []
  · subst hne
    cases hA
    refine iteF ⟨_, rfl, q H' pl outv sm ho hpl ?_ ?_⟩
    · rw [he, show sglAll (vrOf cs) [] = [] from rfl, List.append_nil]
      exact hO
    · rw [he, show sglAll (vrOf cs) [] = [] from rfl, List.append_nil]
      omega
  obtain ⟨xs', u, ws', p, e1, e2, hA', hu⟩ := paired_last hA hne
  subst e1 e2
  obtain ⟨k', sg'⟩ := p
  have ek : (!(xs' ++ [u]).isEmpty) = true := by cases xs' <;> rfl
  refine iteE ek ?_
  rw [sumN_snoc] at hm
  rw [sglAll_snoc] at he
  dsimp only at hm he
  have hl2 : xs'.length = ws'.length := Paired.length hA'
  have hl3 := sumN_len ws'
  obtain ⟨hsg, kf⟩ := hfs _ (List.mem_append_right _ (List.mem_singleton.mpr rfl))
  dsimp only at hsg kf
  have kfs : ∀ p ∈ ws', p.2 ∈ sgz ∧ p.1.fits (arOf cs) ls := fun k h => hfs k (List.mem_append_left _ h)
  refine ⟨fun σ2 H2 => ∃ xs ws out outv y5 y6 y7 y8, sumN ws < sumN (ws' ++ [(k', sg')]) ∧ σ2 = [some v, some (.str sg), some (.ref d), some (.ref pl), some (.ref r), y5, y6, y7, y8] ∧ Same H H2 ∧ H2 r = some (.lst xs) ∧ Paired (Wp K H2) xs ws ∧ H2 pl = some (.lst outv) ∧ Paired (Pp K H2) outv out ∧
      k.sgl (vrOf cs) sg = out ++ sglAll (vrOf cs) ws ∧ out.length + sumN ws ≤ 1000 ∧ ∀ p ∈ ws, p.2 ∈ sgz ∧ p.1.fits (arOf cs) ls,
    fun σ2 H2 ⟨xs, ws, out, outv, y5, y6, y7, y8, a, b⟩ => ⟨_, a, xs, ws, out, outv, y5, y6, y7, y8, rfl, b⟩, ?_⟩
  have hlast : (xs' ++ [u])[(xs' ++ [u]).length - 1]? = some u := by
    rw [List.length_append, List.length_singleton, Nat.add_sub_cancel, List.getElem?_append_right (Nat.le_refl _), Nat.sub_self] <;> rfl
  obtain ⟨au, vu, rfl, qu, ku⟩ := hu
  have st : Stay K H' (upd H' r (.lst xs')) := stay_lst hx
  have sm1 : Same H (upd H' r (.lst xs')) := same_mut sm hrH
  have ho1 : (upd H' r (.lst xs')) pl = some (.lst outv) := by rw [upd_ne npr]; exact ho
  have hA1 : Paired (Wp K (upd H' r (.lst xs'))) xs' ws' := Paired.mapP hA' fun _ _ z => z.stay st
  have hO1 : Paired (Pp K (upd H' r (.lst xs'))) outv out := Paired.mapP hO fun _ _ z => z.stay st
  have ku1 : Kp K (upd H' r (.lst xs')) vu k' := Th.stay st ku
  have hol : outv.length = out.length := Paired.length hO
  refine ⟨_, rfl, .inl ⟨rfl, _, SqL.of hx⟩, r, _, .ref au, rfl, rfl, hx, hlast, ?_⟩
  rw [List.dropLast_concat]
  refine ⟨au, _, rfl, st.tup _ _ qu, rfl, vu, [.str sg'], rfl, .str sg', [], rfl, rfl, ?_⟩
  have hpos := Kd.nds_pos k'
  cases hc : k'.isC with
  | false =>
    obtain ⟨rfl, hnl⟩ := kp_L ku1 hc
    have ekL : k' = .L k'.nm := by cases k' <;> first | rfl | cases hc
    refine ⟨_, rfl, isi_q (b := true) (.base (.str _)) (kit_ty (by decide +kernel)) ⟨_, rfl, iteE rfl ?_⟩⟩
    refine ⟨_, rfl, .inl ⟨rfl, _, SqL.of ho1⟩, _, rfl, _, rfl, by show 2 ≤ sizeLine; decide, fun t1 ht1 => ?_⟩
    have s5 := same_new ht1 (.tup [.str k'.nm, .str sg'])
    have ho2 := s5 _ _ ho1
    have st6 : Stay K (upd (upd H' r (.lst xs')) t1 (.tup [.str k'.nm, .str sg'])) (upd (upd (upd H' r (.lst xs')) t1 (.tup [.str k'.nm, .str sg'])) pl (.lst (outv ++ [.ref t1]))) := stay_lst ho2
    have st7 := (stay_same (K := K) s5).trans st6
    refine ⟨pl, outv, _, rfl, rfl, ho2, Nat.lt_of_le_of_lt (show _ ≤ 100000 by omega) (by decide), ?_⟩
    refine ⟨xs', ws', out ++ [(k'.nm, sg')], outv ++ [.ref t1], _, _, _, _, ?_, rfl, same_mut (sm1.trans s5) hpl, ?_, Paired.mapP hA1 fun _ _ z => z.stay st7, upd_same, paired_snoc2 (Paired.mapP hO1 fun _ _ z => z.stay st7) ⟨t1, rfl, st6.tup _ _ (.inl (.inl upd_same))⟩, ?_, ?_, kfs⟩
    · rw [sumN_snoc]
      dsimp only
      omega
    · rw [upd_ne npr.symm]
      exact s5 _ _ upd_same
    · rw [he, List.append_assoc]
      congr 2
      rw [ekL]
      rfl
    · rw [List.length_append, List.length_singleton]
      omega
  | true =>
    obtain ⟨a, zs, rfl, hq, hnl, hz⟩ := kp_C ku1 hc
    obtain ⟨f1, f2⟩ := fits_C hc kf
    obtain ⟨c0, hc0, en0, el0⟩ := mem_arOf f1
    obtain ⟨kvs, g1, g2, g3⟩ := hd
    obtain ⟨c, hcm, vc, ecn, hv, l0, rfl, hl0⟩ := dct_val (n := k'.nm) g2 g3 (by rw [← en0]; exact List.mem_map_of_mem (f := Cls.nm) hc0)
    have evr : vrOf cs k'.nm = c.ps.map Prod.snd := by rw [← ecn]; exact vrOf_eq nd hcm
    have evl : (vrOf cs k'.nm).length = k'.args.length := by rw [← en0, vrOf_eq nd hc0, List.length_map, el0]
    have hcl : (c.ps.map Prod.snd).length = k'.args.length := by rw [← evr]; exact evl
    have hzl : zs.length = k'.args.length := Kps.length hz
    have hna := nds_args hc
    have hal := sum_ge_len k'.args
    have lr0 : l0 ≠ r := fun q => by rw [q, hrH] at hl0; cases hl0
    refine ⟨_, rfl, isi_q (b := false) (SqT.ty hq) (kit_ty (by decide +kernel)) ⟨_, rfl, iteN rfl ?_⟩⟩
    refine ⟨_, rfl, 1, rfl, a, _, rfl, hq, cut_tail_ne _ (by simp), fun p hp => ?_⟩
    rw [cut_tail]
    have s5 := same_new hp (.tup zs)
    have sm5 := sm1.trans s5
    have st5 : Stay K (upd H' r (.lst xs')) (upd (upd H' r (.lst xs')) p (.tup zs)) := stay_same s5
    have npr2 : r ≠ p := ne_of_none upd_same hp
    have hz5 := ThAll.stay st5 hz
    refine ⟨_, rfl, _, rfl, a, _, 0, .str k'.nm, rfl, rfl, st5.tup _ _ hq, atI_nat (j := 0) rfl, d, .ref l0, rfl, .inl ⟨kvs, _, g1.imp (sm5 _ _) (fun ⟨o, h⟩ => ⟨o, sm5 _ _ h⟩), rfl, hv.symm⟩, ?_⟩
    refine ⟨p, l0, zs, (c.ps.map Prod.snd).map V.str, rfl, .inl (.inl upd_same), SqL.of (sm5 _ _ hl0), ?_⟩
    refine for_zipM (xs := zs) (ys := (c.ps.map Prod.snd).map V.str) (by rw [List.length_map, hzl, hcl]) (fun i σ2 H2 => ∃ y7 y8 xs2, σ2 = [some v, some (.str sg), some (.ref d), some (.ref pl), some (.ref r), some (.ref a), some (.str sg'), y7, y8] ∧ Same H H2 ∧ Stay K (upd (upd H' r (.lst xs')) p (.tup zs)) H2 ∧ H2 r = some (.lst (xs' ++ xs2)) ∧ Paired (Wp K H2) xs2 ((subs (vrOf cs) sg' k').take i) ∧ H2 pl = some (.lst outv))
      ⟨_, _, [], rfl, sm5, Stay.refl _, by rw [List.append_nil]; exact s5 _ _ upd_same, .nil, s5 _ _ ho1⟩ (fun i σ2 H2 ⟨_, _, _, _, sm2, st2, _⟩ => ⟨st2.tup _ _ (.inl (.inl upd_same)), SqL.of (sm2 _ _ hl0)⟩) (fun i x y T σ2 H2 hx hy ⟨y7, y8, xs2, eσ, sm2, st2, hr2, hw2, ho2⟩ hT => ?_) (fun σ2 H2 ⟨y7, y8, xs2, eσ, sm2, st2, hr2, hw2, ho2⟩ => ?_)
    · subst eσ
      obtain ⟨kk, hk1, hk2⟩ := Kps.at hz5 hx
      obtain ⟨vv, hv1, rfl⟩ : ∃ vv, (c.ps.map Prod.snd)[i]? = some vv ∧ y = .str vv := by
        rw [List.getElem?_map] at hy
        cases hq : (c.ps.map Prod.snd)[i]? with
        | none => rw [hq] at hy; cases hy
        | some vv => rw [hq] at hy; exact ⟨vv, rfl, (Option.some.inj hy).symm⟩
      have hvz : vv ∈ varz := by
        obtain ⟨pp, hpp, rfl⟩ := List.mem_map.mp (List.mem_of_getElem? hv1)
        exact ((oks c hcm).pl pp hpp).2
      have sT := same_new hT (.tup [x, .str vv])
      have smT := sm2.trans sT
      refine ⟨T, _, rfl, .inl (.inl upd_same), rfl, x, [.str vv], rfl, .str vv, [], rfl, rfl, ?_⟩
      refine ⟨_, rfl, rfl, _, rfl, iteE rfl ?_⟩
      have hr3 := sT _ _ hr2
      refine ⟨_, rfl, .inl ⟨rfl, _, SqL.of hr3⟩, _, rfl, _, rfl, _, rfl, sg', vv, rfl, hsg, hvz, by show 2 ≤ sizeLine; decide, fun t2 ht2 => ?_⟩
      have s6 := same_new ht2 (.tup [x, .str (passS sg' vv)])
      have hr4 := s6 _ _ hr3
      have st7 := ((stay_same (K := K) sT).trans (stay_same s6)).trans (stay_lst (ys := xs' ++ xs2 ++ [.ref t2]) hr4)
      have hw2l : xs2.length ≤ k'.args.length := by
        rw [Paired.length hw2, List.length_take]
        unfold subs
        rw [List.length_map, List.length_zip]
        omega
      refine ⟨r, _, _, rfl, rfl, hr4, Nat.lt_of_le_of_lt (show _ ≤ 100000 by rw [List.length_append]; omega) (by decide), ?_⟩
      refine ⟨_, _, xs2 ++ [.ref t2], rfl, same_mut (smT.trans s6) hrH, st2.trans st7, by rw [upd_same, List.append_assoc], ?_, by rw [upd_ne npr]; exact s6 _ _ (sT _ _ ho2)⟩
      have esub : (subs (vrOf cs) sg' k')[i]? = some (kk, passS sg' vv) := by
        unfold subs
        rw [List.getElem?_map, evr, show (k'.args.zip (c.ps.map Prod.snd))[i]? = some (kk, vv) from List.getElem?_zip_eq_some.mpr ⟨hk1, hv1⟩]
        rfl
      rw [take_one' esub]
      refine paired_snoc2 (Paired.mapP hw2 fun _ _ z => z.stay st7) ⟨t2, x, rfl, (stay_lst hr4).tup _ _ (.inl (.inl upd_same)), Th.stay (st2.trans st7) hk2⟩
    · subst eσ
      have esl : (subs (vrOf cs) sg' k').length = zs.length := by
        unfold subs
        rw [List.length_map, List.length_zip, evl, hzl, Nat.min_self]
      rw [← esl, List.take_length] at hw2
      have st8 := st5.trans st2
      refine ⟨xs' ++ xs2, ws' ++ subs (vrOf cs) sg' k', out, outv, _, _, _, _, ?_, rfl, sm2, hr2, pairs_app (Paired.mapP hA1 fun _ _ z => z.stay st8) hw2, ho2, Paired.mapP hO1 fun _ _ z => z.stay st8, ?_, ?_, ?_⟩
      · rw [sumN_snoc, sumN_app, sumN_subs evl]
        dsimp only
        omega
      · rw [he, sgl_C hc evl, sglAll_app]
      · rw [sumN_app, sumN_subs evl]
        omega
      · intro p hp
        rcases List.mem_append.mp hp with h | h
        · exact kfs p h
        · unfold subs at h
          obtain ⟨qq, hqq, rfl⟩ := List.mem_map.mp h
          exact ⟨passS_mem hsg, f2 _ (List.of_mem_zip hqq).1⟩
end
end N

namespace N
open PySem PySem.Spec PyProof.Rows L2
theorem sgl_len (vr : Str → List Str) : ∀ (k : Kd) (s : Str), (k.sgl vr s).length ≤ k.nds
  | .L c, s => by simp [Kd.sgl, Kd.nds]
  | .C0 n, s => by simp [Kd.sgl, Kd.nds]
  | .C1 n a, s => by
    have := sgl_len vr a (passS s ((vr n).getD 0 ""))
    simp only [Kd.sgl, Kd.nds]
    omega
  | .C2 n a b, s => by
    have := sgl_len vr a (passS s ((vr n).getD 0 ""))
    have := sgl_len vr b (passS s ((vr n).getD 1 ""))
    simp only [Kd.sgl, Kd.nds, List.length_append]
    omega
theorem sgl_sgz (vr : Str → List Str) : ∀ (k : Kd) (s : Str), s ∈ sgz → ∀ q ∈ k.sgl vr s, q.2 ∈ sgz
  | .L c, s, h, q, hq => by
    simp only [Kd.sgl, List.mem_singleton] at hq
    rw [hq]
    exact h
  | .C0 n, s, h, q, hq => by simp [Kd.sgl] at hq
  | .C1 n a, s, h, q, hq => sgl_sgz vr a _ (passS_mem h) q hq
  | .C2 n a b, s, h, q, hq => by
    simp only [Kd.sgl, List.mem_append] at hq
    rcases hq with z | z
    · exact sgl_sgz vr b _ (passS_mem h) q z
    · exact sgl_sgz vr a _ (passS_mem h) q z
theorem nds_size : ∀ k : Kd, k.nds ≤ 2 * k.size + 1
  | .L c => by simp [Kd.nds, Kd.size]
  | .C0 n => by simp [Kd.nds, Kd.size]
  | .C1 n a => by
    have := nds_size a
    simp only [Kd.nds, Kd.size]
    omega
  | .C2 n a b => by
    have := nds_size a
    have := nds_size b
    simp only [Kd.nds, Kd.size]
    omega
/-- the places of a class' parents, with their signs -/
def Cls.plz (vr : Str → List Str) (c : Cls) : List (Str × Str) := c.ks.flatMap fun k => k.sgl vr "+"
structure TurnOk (cs : List Cls) : Prop where
  t : ∀ c ∈ cs, ∀ p ∈ c.ps, ∀ q ∈ c.plz (vrOf cs), q.1 = p.1 → barB q.2 p.2 = false
/-! a comprehension over a tuple, then over lists -/
theorem lc2_tup {K : PySem.W.Frag} {a : Addr} {xs : List V} {g g1 : TG} {tt tt1 : TT} {te : TE} {wi1 : TI} {vs vs1 : List Nat} {σ : L2.St} {H1 : Hp} {D : Addr} {Qd : Hp → Prop} (Pv : Nat → Hp → Prop) (h0 : Pv 0 (upd H1 D (.lst []))) (hl : ∀ i H, Pv i H → SqT K H a xs)
    (hs : ∀ i x H, xs[i]? = some x → Pv i H → g x (wipe σ vs) H fun σ2 H2 => wipe σ2 vs = wipe σ vs ∧ tt σ2 H2 fun b H3 =>
      if b = true then wi1 σ2 H3 fun J1 H4 => ∃ W1 : Nat → Nat → Hp → Prop, (∃ m, W1 0 m H4) ∧ ∀ j k H, W1 j k H →
        (J1.stop j H ∧ Pv (i + 1) H) ∨ (J1.go j H ∧ ∃ Nx1 : Hp → Prop, (∀ H', Nx1 H' → ∃ k', k' < k ∧ W1 (j + 1) k' H') ∧ ∀ x H', J1.yld j H x H' → g1 x (wipe σ2 vs1) H' fun σ3 H5 => wipe σ3 vs1 = wipe σ2 vs1 ∧ tt1 σ3 H5 fun b H6 =>
          if b = true then te σ3 H6 fun y H7 => ∃ acc, H7 D = some (.lst acc) ∧ acc.length < sizeLine ∧ Nx1 (upd H7 D (.lst (acc ++ [y]))) else Nx1 H6)
      else Pv (i + 1) H3) (hd : ∀ H, Pv xs.length H → Qd H) :
    ∃ W : Nat → Nat → Hp → Prop, (∃ m, W 0 m (upd H1 D (.lst []))) ∧ ∀ i m H, W i m H →
      ((Itt K a).stop i H ∧ Qd H) ∨ ((Itt K a).go i H ∧ ∃ Nx : Hp → Prop, (∀ H', Nx H' → ∃ m', m' < m ∧ W (i + 1) m' H') ∧ ∀ x H', (Itt K a).yld i H x H' → g x (wipe σ vs) H' fun σ2 H2 => wipe σ2 vs = wipe σ vs ∧ tt σ2 H2 fun b H3 =>
        if b = true then wi1 σ2 H3 fun J1 H4 => ∃ W1 : Nat → Nat → Hp → Prop, (∃ m, W1 0 m H4) ∧ ∀ j k H, W1 j k H →
          (J1.stop j H ∧ Nx H) ∨ (J1.go j H ∧ ∃ Nx1 : Hp → Prop, (∀ H', Nx1 H' → ∃ k', k' < k ∧ W1 (j + 1) k' H') ∧ ∀ x H', J1.yld j H x H' → g1 x (wipe σ2 vs1) H' fun σ3 H5 => wipe σ3 vs1 = wipe σ2 vs1 ∧ tt1 σ3 H5 fun b H6 =>
            if b = true then te σ3 H6 fun y H7 => ∃ acc, H7 D = some (.lst acc) ∧ acc.length < sizeLine ∧ Nx1 (upd H7 D (.lst (acc ++ [y]))) else Nx1 H6)
        else Nx H3) := by
  refine ⟨fun i m H => m + i = xs.length ∧ Pv i H, ⟨xs.length, rfl, h0⟩, fun i m H ⟨em, p⟩ => ?_⟩
  have q := hl i H p
  cases m with
  | zero =>
    have e : i = xs.length := by omega
    subst e
    exact .inl ⟨⟨xs, q, Nat.le_refl _⟩, hd H p⟩
  | succ m =>
    have hx : xs[i]? = some (xs[i]'(by omega)) := List.getElem?_eq_getElem (by omega)
    refine .inr ⟨⟨xs, _, q, hx⟩, Pv (i + 1), fun H' p' => ⟨m, Nat.lt_succ_self _, by omega, p'⟩, fun x H' y => ?_⟩
    obtain ⟨e, y⟩ := y
    subst e
    exact hs i x _ (y xs q) p
theorem lc2_in {K : PySem.W.Frag} {l : Addr} {ys : List V} {g1 : TG} {tt1 : TT} {te : TE} {vs1 : List Nat} {σ2 : L2.St} {H4 : Hp} {D : Addr} {Nx : Hp → Prop} (Pv : Nat → Hp → Prop) (h0 : Pv 0 H4) (hl : ∀ i H, Pv i H → SqL K H l ys)
    (hs : ∀ j x H, ys[j]? = some x → Pv j H → g1 x (wipe σ2 vs1) H fun σ3 H5 => wipe σ3 vs1 = wipe σ2 vs1 ∧ tt1 σ3 H5 fun b H6 =>
        if b = true then te σ3 H6 fun y H7 => ∃ acc, H7 D = some (.lst acc) ∧ acc.length < sizeLine ∧ Pv (j + 1) (upd H7 D (.lst (acc ++ [y]))) else Pv (j + 1) H6) (hd : ∀ H, Pv ys.length H → Nx H) :
    ∃ W1 : Nat → Nat → Hp → Prop, (∃ m, W1 0 m H4) ∧ ∀ j k H, W1 j k H →
      ((Itl K l).stop j H ∧ Nx H) ∨ ((Itl K l).go j H ∧ ∃ Nx1 : Hp → Prop, (∀ H', Nx1 H' → ∃ k', k' < k ∧ W1 (j + 1) k' H') ∧ ∀ x H', (Itl K l).yld j H x H' → g1 x (wipe σ2 vs1) H' fun σ3 H5 => wipe σ3 vs1 = wipe σ2 vs1 ∧ tt1 σ3 H5 fun b H6 =>
        if b = true then te σ3 H6 fun y H7 => ∃ acc, H7 D = some (.lst acc) ∧ acc.length < sizeLine ∧ Nx1 (upd H7 D (.lst (acc ++ [y]))) else Nx1 H6) := by
  refine ⟨fun i m H => m + i = ys.length ∧ Pv i H, ⟨ys.length, rfl, h0⟩, fun i m H ⟨em, p⟩ => ?_⟩
  have q := hl i H p
  cases m with
  | zero =>
    have e : i = ys.length := by omega
    subst e
    exact .inl ⟨⟨ys, q, Nat.le_refl _⟩, hd H p⟩
  | succ m =>
    have hx : ys[i]? = some (ys[i]'(by omega)) := List.getElem?_eq_getElem (by omega)
    refine .inr ⟨⟨ys, _, q, hx⟩, Pv (i + 1), fun H' p' => ⟨m, Nat.lt_succ_self _, by omega, p'⟩, fun x H' y => ?_⟩
    obtain ⟨e, y⟩ := y
    subst e
    exact hs i x _ (y ys q) p
section
variable {P : Program} {w : World} {K : PySem.W.Frag} {mg : Str → Option Value} {base : Heap}
/-- check_parents, of right classes -/
def spPars2 (K : PySem.W.Frag) : Sp := fun vs H Q _ => ∃ (a : Addr) (cs : List Cls), vs = [.ref a] ∧ CsAt K H a cs ∧ FormsOk cs ∧ FitOk cs ∧ TurnOk cs ∧ ∀ H', Same H H' → Q .non H'
theorem ok_parents (G : Glo mg) (hPL : ∃ t, mg "PLUS" = some (.str "+" t)) (CV : Cal P w K mg base 1 "variances_of" ["classes"] (spDct K FVr)) (CS : Cal P w K mg base 2 "signed_letters" ["kind", "sign", "variances"] (spSgl K)) (CW : Cal P w K mg base 2 "wrong_letters" ["parameters", "places"] (spWrong K))
    (D : DefAt K mg "check_parents" s_check_parents ["classes"]) : Cal P w K mg base 3 "check_parents" ["classes"] (spPars2 K) := by
  obtain ⟨tp, hpl⟩ := hPL
  refine D.cal sc_check_parents (fun vs H Q E h => ?_) (fun f cdv A outer s H vs Q E hr h => ?_)
  · obtain ⟨v, p, rfl, _⟩ := h
    rfl
  obtain ⟨a, cs, rfl, ⟨xs, hq, hp⟩, F, T, U, q⟩ := h
  have n5 := F.n5
  refine ⟨_, pss_cons (ps_set (i := 1) sc_check_parents.nd rfl (by first | exact Or.inl rfl | exact Or.inr rfl) (pc CV (hr.mono (by decide)) rfl (pa_cons (pv 0) pa_nil)))
    (pss_one (ps_for (passes_of rfl) rfl (pi_tup (pv 0)) (pg_tup (by rfl) (pgs_cons (pg_name (i := 2) sc_check_parents.nd rfl (by first | exact Or.inl rfl | exact Or.inr rfl)) (pgs_cons (pg_name (i := 3) sc_check_parents.nd rfl (by first | exact Or.inl rfl | exact Or.inr rfl)) (pgs_cons (pg_name (i := 4) sc_check_parents.nd rfl (by first | exact Or.inl rfl | exact Or.inr rfl)) (pgs_cons (pg_name (i := 5) sc_check_parents.nd rfl (by first | exact Or.inl rfl | exact Or.inr rfl)) pgs_nil)))))
      (pss_cons (ps_setLc2 (i := 6) (own := [("parent", 7), ("place", 8)]) (vs1 := [8]) (g := gName 7) (tt := tYes) (g1 := gName 8) (tt1 := tYes) (te := tVar 8) (wi1 := iList K (fun σ H Q => tCons (tVar 7) (tCons (tC (.str "+")) (tCons (tVar 1) tNil)) σ H fun vs H1 => spSgl K vs H1 Q E0)) rfl sc_check_parents.nd rfl rfl (sw_true rfl rfl rfl (by decide +kernel)) (pi_tup (pv 4)) (blkOk_by (N := nm_check_parents) (sc := defScope s_check_parents) (own := [("parent", 7), ("place", 8)]) (by decide +kernel)) (by decide)
        (fun _ _ _ _ _ => pg_name (i := 7) sc_check_parents.nd rfl (Or.inl rfl)) (fun _ _ _ _ _ => pts_nil) (fun _ _ _ _ _ => pi_list (pc CS hr rfl (pa_cons (pv 7) (pa_cons (pe_glob (v := .str "+") rfl hpl ⟨_, rfl⟩) (pa_cons (pv 1) pa_nil)))))
        (fun _ _ _ _ _ => pg_name (i := 8) sc_check_parents.nd rfl (Or.inl rfl)) (fun _ _ _ _ _ => pts_nil) (fun _ _ _ _ _ => pv 8))
      (pss_cons (ps_set (i := 9) sc_check_parents.nd rfl (by first | exact Or.inl rfl | exact Or.inr rfl) (pc CW hr rfl (pa_cons (pv 3) (pa_cons (pv 6) pa_nil))))
      (pss_one (ps_if (pt_truth (pv 9) (by intro _; rfl)) (pss_one ps_never) pss_nil)))))), ?_⟩
  refine ⟨_, rfl, a, cs, rfl, ⟨xs, hq, hp⟩, by omega, F.nd, F.ok, fun H1 d kvs s1 hd hd0 e2 e3 => ?_⟩
  have dl : DctAt FVr H1 d cs := ⟨kvs, .inl hd, e2, e3⟩
  refine ⟨_, rfl, a, rfl, ⟨xs, (stay_same s1).tup _ _ hq⟩, ?_⟩
  refine for_tup (K := K) (a := a) (xs := xs) (fun j σ H' => ∃ y2 y3 y4 y5 y6 y7 y8 y9, σ = [some (.ref a), some (.ref d), y2, y3, y4, y5, y6, y7, y8, y9] ∧ Same H1 H') ⟨_, _, _, _, _, _, _, _, rfl, Same.refl _⟩ (fun j σ H' _ ⟨_, _, _, _, _, _, _, _, _, sm⟩ => (stay_same (s1.trans sm)).tup _ _ hq) (fun j x σ H' hxj ⟨y2, y3, y4, y5, y6, y7, y8, y9, eσ, sm⟩ => ?_) (fun σ H' ⟨_, _, _, _, _, _, _, _, _, sm⟩ => q _ (s1.trans sm))
  subst eσ
  obtain ⟨c, hc1, hc2⟩ := pairedAt hp hxj
  have hcm := List.mem_of_getElem? hc1
  have ok := F.ok c hcm
  obtain ⟨ac, ap, ak, am, rfl, qc, hap, hak, ham⟩ := hc2.stay (stay_same (s1.trans sm))
  obtain ⟨ks, hk, hkp⟩ := hak
  have hkl : ks.length = c.ks.length := Paired.length hkp
  have k2 := ok.k2
  refine ⟨ac, _, rfl, qc, rfl, _, _, rfl, _, _, rfl, _, _, rfl, _, _, rfl, rfl, ?_⟩
  refine ⟨_, rfl, ak, rfl, ⟨ks, hk⟩, fun B hB => ?_⟩
  have sB := same_new hB (.lst [])
  refine lc2_tup (K := K) (a := ak) (xs := ks) (fun i H2 => Same H' H2 ∧ ∃ acc, H2 B = some (.lst acc) ∧ Paired (Pp K H2) acc ((c.ks.take i).flatMap fun k => k.sgl (vrOf cs) "+") ∧ acc.length ≤ 13 * i) ⟨sB, [], upd_same, .nil, Nat.zero_le _⟩ (fun i H2 ⟨s2, _⟩ => (stay_same s2).tup _ _ hk) (fun i u H2 hu ⟨s2, acc, hacc, hpa, hal⟩ => ?_) (fun H2 ⟨s2, acc, hacc, hpa, hal⟩ => ?_)
  · obtain ⟨kd, hk1, hk2⟩ := pairedAt hkp hu
    have hkm := List.mem_of_getElem? hk1
    have hi : i < ks.length := (List.getElem?_eq_some_iff.mp hu).1
    obtain ⟨ok1, ok2, ok3, ok4⟩ := ok.kk kd hkm
    have fit := (T.f c hcm kd (by unfold Cls.decl; exact List.mem_append_left _ hkm)).1
    have hns := nds_size kd
    refine ⟨rfl, ?_⟩
    unfold tYes
    dsimp only
    rw [if_pos rfl]
    refine ⟨u, rfl, _, rfl, u, kd, "+", d, cs, c.ps.map Prod.fst, rfl, Th.stay (stay_same s2) hk2, by omega, by decide, DctAt.stay vr_stay (sm.trans s2) dl, F.nd, F.ok, fit, fun H3 l ws s3 hl hlf hws hwl => ?_⟩
    have h1 := Paired.length hws
    have h2 := sgl_len (vrOf cs) kd "+"
    have nlB : l ≠ B := fun e => by
      rw [e, hacc] at hlf
      cases hlf
    refine ⟨l, rfl, ⟨ws, SqL.of hl⟩, ?_⟩
    have hacc3 := s3 _ _ hacc
    have s23 := s2.trans s3
    show ∃ W1 : Nat → Nat → Hp → Prop, _
    refine lc2_in (K := K) (l := l) (ys := ws) (te := tVar 8) (D := B) (g1 := gName 8) (tt1 := tYes) (vs1 := [8]) (fun j H4 => Same H' H4 ∧ H4 l = some (.lst ws) ∧ Stay K H3 H4 ∧ H4 B = some (.lst (acc ++ ws.take j))) ⟨s23, hl, Stay.refl _, by rw [List.take_zero, List.append_nil]; exact hacc3⟩ (fun j H4 ⟨_, h, _⟩ => SqL.of h) (fun j y H4 hy ⟨s4, hl4, st4, hB4⟩ => ?_) (fun H4 ⟨s4, hl4, st4, hB4⟩ => ?_)
    · refine ⟨rfl, ?_⟩
      unfold tYes
      dsimp only
      rw [if_pos rfl]
      have hj : j < ws.length := (List.getElem?_eq_some_iff.mp hy).1
      refine ⟨y, rfl, _, hB4, Nat.lt_of_le_of_lt (show _ ≤ 100000 by rw [List.length_append, List.length_take]; omega) (by decide), same_mut s4 hB, by rw [upd_ne nlB]; exact hl4, st4.trans (stay_lst hB4), ?_⟩
      rw [upd_same, take_one' hy, List.append_assoc]
    · rw [List.take_length] at hB4
      refine ⟨s4, _, hB4, ?_, ?_⟩
      · rw [take_one' hk1, List.flatMap_append, List.flatMap_singleton]
        exact pairs_app (Paired.mapP hpa fun _ _ z => z.stay ((stay_same s3).trans st4)) (Paired.mapP hws fun _ _ z => z.stay st4)
      · rw [List.length_append]
        omega
  · rw [hkl, List.take_length] at hpa
    have hp2 : acc.length = (c.plz (vrOf cs)).length := Paired.length hpa
    rw [hkl] at hal
    refine ⟨_, rfl, _, rfl, ap, B, c.ps, c.plz (vrOf cs), acc, rfl, hap.stay (stay_same s2), hacc, hpa, by omega, fun p hp => (ok.pl p hp).2, fun p hp => ?_, U.t c hcm, fun H3 l s3 hl => ?_⟩
    · obtain ⟨kd, hk1, hk2⟩ := List.mem_flatMap.mp hp
      exact sgl_sgz _ kd _ (by decide) p hk2
    · exact ⟨_, rfl, _, .inl ⟨[], SqL.of hl, rfl⟩, iteN rfl ⟨_, _, _, _, _, _, _, _, rfl, sm.trans (s2.trans s3)⟩⟩
/-- what makes a table of classes a right one -/
structure TabOk (cs : List Cls) : Prop where
  f : FormsOk cs
  t : FitOk cs
  e : ∃ rank, ElOk cs rank
  u : TurnOk cs
def spChk (K : PySem.W.Frag) : Sp := fun vs H Q _ => ∃ (a : Addr) (cs : List Cls), vs = [.ref a] ∧ CsAt K H a cs ∧ TabOk cs ∧ ∀ H', Same H H' → Q .non H'
theorem ok_check (C1 : Cal P w K mg base 8 "check_forms" ["classes"] (spForms K)) (C2 : Cal P w K mg base 2 "check_fit" ["classes"] (spFit K)) (C3 : Cal P w K mg base 2 "check_elders" ["classes"] (spElds K)) (C4 : Cal P w K mg base 3 "check_parents" ["classes"] (spPars2 K))
    (D : DefAt K mg "check_classes" s_check_classes ["classes"]) : Cal P w K mg base 9 "check_classes" ["classes"] (spChk K) := by
  refine D.cal sc_check_classes (fun vs H Q E h => ?_) (fun f cdv A outer s H vs Q E hr h => ?_)
  · obtain ⟨v, p, rfl, _⟩ := h
    rfl
  obtain ⟨a, cs, rfl, hcs, T, q⟩ := h
  obtain ⟨rank, el⟩ := T.e
  refine ⟨_, pss_cons (ps_expr (pc C1 hr rfl (pa_cons (pv 0) pa_nil))) (pss_cons (ps_expr (pc C2 (hr.mono (by decide)) rfl (pa_cons (pv 0) pa_nil))) (pss_cons (ps_expr (pc C3 (hr.mono (by decide)) rfl (pa_cons (pv 0) pa_nil))) (pss_one (ps_expr (pc C4 (hr.mono (by decide)) rfl (pa_cons (pv 0) pa_nil)))))), ?_⟩
  refine ⟨_, rfl, a, cs, rfl, hcs, T.f, fun H1 s1 => ?_⟩
  refine ⟨_, rfl, a, cs, rfl, hcs.stay (stay_same s1), T.f, T.t, fun H2 s2 => ?_⟩
  refine ⟨_, rfl, a, cs, rank, rfl, hcs.stay (stay_same (s1.trans s2)), T.f, el, fun H3 s3 => ?_⟩
  exact ⟨_, rfl, a, cs, rfl, hcs.stay (stay_same (s1.trans (s2.trans s3))), T.f, T.t, T.u, fun H4 s4 => q _ (s1.trans (s2.trans (s3.trans s4)))⟩
end
end N

namespace N
open PySem PySem.Spec PyProof.Rows L2
/-! ### the class Table -/
def bodyOf : Stmt → List Stmt
  | .ClassDef _ _ _ b _ _ _ _ _ _ _ => b
  | _ => []
/-- its j-th def -/
def tabM (j : Nat) : Stmt := (bodyOf tabS).getD j (.Pass ⟨0, 0, 0, 0⟩)
/-- a def that is called with things by place, where no repr is under way -/
def FnS (P : Program) (w : World) (K : PySem.W.Frag) (mg : Str → Option Value) (base : Heap) (k : Nat) (f : Addr) (sp : Sp) : Prop :=
  ∀ (A : Around) (outer : List Env) (s : Shared) (H : Hp) (us : List Value) (vs : List V) (Q : VK) (E : XK), RoomG k A → Env0 P w K mg base A outer s H → Vals vs us → sp vs H Q E → codeAny (model P w) A (.call (.ref f) ⟨us, []⟩) (CR (L2.CX P w) outer P w H s Q E) s
section
variable {P : Program} {w : World} {K : PySem.W.Frag} {mg : Str → Option Value} {base : Heap} {k : Nat} {f C : Addr} {sp : Sp} {x q : Str} {st : Stmt} {N ps : List Str}
theorem FnS.mono {j : Nat} (F : FnS P w K mg base j f sp) (h : j ≤ k) : FnS P w K mg base k f sp := fun A outer s H us vs Q E hr => F A outer s H us vs Q E (hr.mono h)
/-- def f(a, *v) -/
theorem fnS_star {fd : FuncData} {p1 pv : Str} (F : Fun K x q st f fd) (S : FnScope N ([p1] ++ [pv]) (defScope st)) (hb : ∀ us rest : List Value, us.length = [p1].length → bindArgs fd ⟨us ++ rest, []⟩ = (newTuple rest >>= fun t => pure ([p1].zip us ++ [(pv, t)])))
    (hbody : ∀ (cdv : Value) (A : Around) (outer : List Env) (s : Shared) (H : Hp) (vs : List V) (Q : VK) (E : XK), RoomG k (A.deeper (envOfC q (defScope st) s.heap.objs.size f cdv)) → sp vs H Q E →
      ∃ t, PSs (cxOf (L2.CX P w) P w K mg base N q (defScope st) f cdv A outer s H E) (defBody st) t ∧ t { nx := fun _ H' => Q .non H', rt := Q } (start N vs) H) :
    FnS P w K mg base (k + 1) f (fun vs H Q E => ∃ v rest, vs = v :: rest ∧ rest.length ≤ 1000 ∧ ∀ p, H p = none → sp [v, .ref p] (upd H p (.tup rest)) Q E) := by
  obtain ⟨oc, od, kV, doc, pm, an, cdv, ct, osl, rfl, lk, hcd⟩ := F.ex
  intro A outer s H us vs Q E hr e0 r hsp
  obtain ⟨v, rest, rfl, hz, hq⟩ := hsp
  cases r with
  | @cons _ u _ us' r1 r2 =>
    have hn : H s.heap.objs.size = none := e0.hok.fresh (Nat.le_refl _)
    have hl2 : us'.length ≤ sizeLine := by
      rw [← r2.length]
      exact Nat.le_trans (show _ ≤ 100000 by omega) (by decide)
    refine StX.run_bnd lk hcd S hr.toRoom e0 (G := fun xs H2 => ∃ p, H p = none ∧ xs = [v, V.ref p] ∧ H2 = upd H p (.tup rest)) (fun A' Ex Q' h => ?_) fun s2 H2 xs ⟨p, hp, ex, eH⟩ hr' => ?_
    · rw [show u :: us' = [u] ++ us' from rfl, hb [u] us' rfl]
      refine wpAny_bind (wpAny_newTuple (wpAny_pure ?_) hl2)
      have new : ObjOk P w (upd H s.heap.objs.size (.tup rest)) (s.heap.push ({ cls := .type "tuple", data := .seq us'.toArray } : Obj)) s.heap.objs.size (.tup rest) := ⟨by rw [r2.length]; exact hl2, us', r2, ⟨_, Heap.get?_push_size _ rfl, rfl, _, rfl⟩⟩
      have up : ∀ (b : Addr) (o : Obj), s.heap.get? b = some o → (s.heap.push ({ cls := .type "tuple", data := .seq us'.toArray } : Obj)).get? b = some o := fun b o e => Heap.get?_push_of_some _ e
      have un := StX.un_laid (fs := frs outer) (s := s) (o := ({ cls := .type "tuple", data := .seq us'.toArray } : Obj)) (u := .tup rest) hn
      exact h _ _ [v, .ref s.heap.objs.size] [u, .ref s.heap.objs.size] (StX.env0_laid e0 new) un rfl (fun e s' => StX.cxUp outer s H _ _ E e s' un up rfl) (.cons r1 (.cons rfl .nil)) rfl ⟨_, hn, rfl, rfl⟩
    · subst ex eH
      exact hbody cdv A outer s2 _ _ Q E (hr.deeper _) (hq p hp)
/-- def f(a, b, ..), a method's -/
theorem fnS_of {fd : FuncData} (F : Fun K x q st f fd) (S : FnScope N ps (defScope st)) (hb : ∀ us : List Value, us.length = ps.length → bindArgs fd ⟨us, []⟩ = pure (ps.zip us)) (len : ∀ vs H Q E, sp vs H Q E → vs.length = ps.length)
    (hbody : ∀ (cdv : Value) (A : Around) (outer : List Env) (s : Shared) (H : Hp) (vs : List V) (Q : VK) (E : XK), RoomG k (A.deeper (envOfC q (defScope st) s.heap.objs.size f cdv)) → sp vs H Q E →
      ∃ t, PSs (cxOf (L2.CX P w) P w K mg base N q (defScope st) f cdv A outer s H E) (defBody st) t ∧ t { nx := fun _ H' => Q .non H', rt := Q } (start N vs) H) : FnS P w K mg base (k + 1) f sp := by
  obtain ⟨oc, od, kV, doc, pm, an, cdv, ct, osl, rfl, lk, hcd⟩ := F.ex
  intro A outer s H us vs Q E hr e0 r hsp
  have hl := len _ _ _ _ hsp
  refine StX.run_bnd lk hcd S hr.toRoom e0 (G := fun xs H2 => xs = vs ∧ H2 = H) (fun A' Ex Q' h => ?_) fun s2 H2 xs ⟨ex, eH⟩ hr' => ?_
  · rw [hb us (by rw [← r.length]; exact hl)]
    exact wpAny_pure (h _ _ vs us e0 Un.refl rfl (fun e s' z => z) r hl ⟨rfl, rfl⟩)
  · subst ex eH
    exact hbody cdv A outer s2 _ _ Q E (hr.deeper _) hsp
end
section
variable {X : Cx} {k : Nat} {f C : Addr} {sp : Sp} {x : Str} {e : Expr} {es : List Expr} {t : TA} {p pos : Pos}
theorem runS {pins : List (Addr × Obj)} {σ : L2.St} {H : Hp} {s : Shared} {Q : VK} {us : List Value} {vs : List V} (F : FnS X.prog X.w X.K X.mg X.base k f sp) (hr : RoomG k X.A) (I : Inv X pins σ H s) (r : Vals vs us) (h : sp vs H Q E0) :
    wpAny (model X.prog X.w) X.A (call (.ref f) us) (EP X pins σ Q) X.xe s := by
  refine wpAny_call (codeAny_mono (F X.A X.stack s H us vs Q E0 hr I.env0 r h) fun res s' hq => ?_)
  match res, hq with
  | .error e, hq => exact passL pins σ H s e s' I hq
  | .ok (.ret u), hq => exact I.after hq
  | .ok .next, hq => exact False.elim hq
  | .ok .brk, hq => exact False.elim hq
  | .ok .cont, hq => exact False.elim hq
theorem RoomG.made2 {k : Nat} {A : Around} (r : RoomG (k + 1) A) (C : Addr) (us : List Value) (kw : List (Str × Value)) : RoomG k (A.under (.builtin "type.__call__" ⟨.ref C :: us, kw⟩)) := by
  refine ⟨r.toRoom.make C us kw, ?_⟩
  show pushGuards (Code.builtin "type.__call__" ⟨.ref C :: us, kw⟩).guards A.guards = some []
  rw [r.gs]
  rfl
/-- a new instance of C -/
theorem run_mkS {pins : List (Addr × Obj)} {σ : L2.St} {H : Hp} {s : Shared} {Q : VK} {us : List Value} {vs : List V} (M : Mk X.K C f) (F : FnS X.prog X.w X.K X.mg X.base k f sp) (hr : RoomG (k + 1) X.A) (I : Inv X pins σ H s) (r : Vals vs us)
    (h : ∀ a d, H a = none → H d = none → d ≠ a → sp (.ref a :: vs) (upd (upd H d (.own a)) a (.ins C d [])) (fun v H2 => v = .non ∧ Q (.ref a) H2) E0) : wpAny (model X.prog X.w) X.A (call (.ref C) us) (EP X pins σ Q) X.xe s := by
  have lt := Nat.lt_succ_self s.heap.objs.size
  have I2 := Inv.made (C := C) I
  have hq := h (s.heap.objs.size + 1) s.heap.objs.size (I.hok.fresh (Nat.le_of_lt lt)) (I.hok.fresh (Nat.le_refl _)) (Nat.ne_of_lt lt)
  refine wpAny_call (make_map (f := f) I.kIn M.makes M.init (beq_iff_eq.mp M.fn) (codeAny_mono (F _ X.stack _ _ (.ref (s.heap.objs.size + 1) :: us) _ _ E0 (hr.made2 C us []) (I2.env0.make C us []) (.cons (show L2.RelV (.ref (s.heap.objs.size + 1)) (.ref (s.heap.objs.size + 1)) from rfl) r) hq) fun res s' hq' => ?_))
  match res, hq' with
  | .error e, hq' => exact passL pins σ _ _ e s' I2 hq'
  | .ok (.ret u), hq' =>
    obtain ⟨v, H', I3, rv, ev, q3⟩ := I2.after hq'
    subst ev
    exact ⟨rv, ⟨.ref (s.heap.objs.size + 1), H', I3, rfl, q3⟩⟩
/-- C(e, ..) -/
theorem pe_mkS (M : Mk X.K C f) (F : FnS X.prog X.w X.K X.mg X.base k f sp) (hr : RoomG (k + 1) X.A) (hg : Gl X x) (hm : X.mg x = some (.ref C)) (ha : PA X (e :: es) t) (hdb : (x == ("__debug__" : Str)) = false := by decide)
    (he : starEach (e :: es) X.env = (false, eval e X.env) :: starEach es X.env := by rfl) (hpl : (backTo pos (starEach es X.env)).any (·.1) = false := by rfl) :
    PE X (.Call (.Name x p) (e :: es) [] pos) (fun σ H Q => t σ H fun vs H1 => ∀ a d, H1 a = none → H1 d = none → d ≠ a → sp (.ref a :: vs) (upd (upd H1 d (.own a)) a (.ins C d [])) (fun v H2 => v = .non ∧ Q (.ref a) H2) E0) := by
  refine ⟨fun pins s σ H Q I h => wpAny_Call_Name_kw (ld_glob I hg hm ?_ hdb)⟩
  refine PySem.W.callWith_K (h₀ := X.base) I.ok.mod.kin M.kp (thn (ha.run pos pins s σ H _ I h) fun us s1 ⟨vs, H1, J, r, q⟩ => ⟨J.kIn, ?_⟩) he hpl
  exact run_mkS M F hr J r q
end
/-- what is known of the class Table -/
structure TabC (K : PySem.W.Frag) (mg : Str → Option Value) (C : Addr) : Prop where
  gl : mg "Table" = some (.ref C)
  c : L2.Cls K C
  na : NoAttr K C "_classes"
/-- at v stands a table of these classes -/
def TabAt (K : PySem.W.Frag) (C : Addr) (H : Hp) (v : V) (cs : List Cls) : Prop := ∃ a d p, v = .ref a ∧ H a = some (.ins C d [("_classes", .ref p)]) ∧ CsAt K H p cs
theorem TabAt.stay {K : PySem.W.Frag} {C : Addr} {H H' : Hp} {v : V} {cs : List Cls} (s : Same H H') (h : TabAt K C H v cs) : TabAt K C H' v cs := by
  obtain ⟨a, d, p, e, h1, h2⟩ := h
  exact ⟨a, d, p, e, s _ _ h1, h2.stay (stay_same s)⟩
abbrev nm_Tinit : List Str := ["self", "classes"]
theorem sc_Tinit : FnScope nm_Tinit (([("self" : Str)]) ++ [("classes" : Str)]) (defScope (tabM 0)) := ⟨rfl, rfl, rfl, by decide +kernel, rfl, by decide +kernel, by decide +kernel⟩
def spTini (K : PySem.W.Frag) (C : Addr) : Sp := fun vs H Q _ => ∃ (a d p : Addr) (cs : List Cls), vs = [.ref a, .ref p] ∧ H a = some (.ins C d []) ∧ CsAt K H p cs ∧ TabOk cs ∧ ∀ H', Same H H' → Q .non (upd H' a (.ins C d [("_classes", .ref p)]))
section
variable {P : Program} {w : World} {K : PySem.W.Frag} {mg : Str → Option Value} {base : Heap} {C f : Addr} {fd : FuncData}
theorem ok_Tinit (T : TabC K mg C) (CC : Cal P w K mg base 9 "check_classes" ["classes"] (spChk K)) (F : Fun K "__init__" "Table.__init__" (tabM 0) f fd)
    (hb : ∀ us rest : List Value, us.length = [("self" : Str)].length → bindArgs fd ⟨us ++ rest, []⟩ = (newTuple rest >>= fun t => pure ([("self" : Str)].zip us ++ [(("classes" : Str), t)]))) :
    FnS P w K mg base 10 f (fun vs H Q E => ∃ v rest, vs = v :: rest ∧ rest.length ≤ 1000 ∧ ∀ p, H p = none → spTini K C [v, .ref p] (upd H p (.tup rest)) Q E) := by
  refine fnS_star (N := nm_Tinit) F sc_Tinit hb fun cdv A outer s H vs Q E hr h => ?_
  obtain ⟨a, d, p, cs, rfl, ha, hcs, ok, q⟩ := h
  refine ⟨_, pss_cons (ps_expr (pc CC hr rfl (pa_cons (pv 1) pa_nil))) (pss_one (ps_fld (pv 0) (pv 1) rfl)), ?_⟩
  refine ⟨_, rfl, p, cs, rfl, hcs, ok, fun H1 s1 => ?_⟩
  exact ⟨_, rfl, _, rfl, a, C, d, [], rfl, s1 _ _ ha, T.c, T.na, by decide, q H1 s1⟩
end
theorem stay_ins {K : PySem.W.Frag} {H : Hp} {a C d : Addr} {fs gs : List (Str × V)} (h : H a = some (.ins C d fs)) : Stay K H (upd H a (.ins C d gs)) where
  tup := fun b xs q => by
    have k : ∀ b o, H b = some o → (∀ C d fs, o ≠ .ins C d fs) → (upd H a (.ins C d gs)) b = some o := fun b o e n => by
      rw [upd_ne]
      · exact e
      · intro z
        rw [z, h] at e
        cases e
        exact n _ _ _ rfl
    rcases q with (q | ⟨o, q⟩) | q
    · exact .inl (.inl (k _ _ q fun _ _ _ z => by cases z))
    · exact .inl (.inr ⟨o, k _ _ q fun _ _ _ z => by cases z⟩)
    · exact .inr q
  ty := fun v t q => by
    have k : ∀ b o, H b = some o → (∀ C d fs, o ≠ .ins C d fs) → (upd H a (.ins C d gs)) b = some o := fun b o e n => by
      rw [upd_ne]
      · exact e
      · intro z
        rw [z, h] at e
        cases e
        exact n _ _ _ rfl
    cases q with
    | base b =>
      cases b with
      | non => exact .base .non
      | bl x => exact .base (.bl x)
      | int i => exact .base (.int i)
      | str x => exact .base (.str x)
      | flt x => exact .base (.flt x)
      | lst e => exact .base (.lst (k _ _ e fun _ _ _ z => by cases z))
      | frz e => exact .base (.frz (k _ _ e fun _ _ _ z => by cases z))
      | tup e => exact .base (.tup (k _ _ e fun _ _ _ z => by cases z))
      | dK e => exact .base (.dK (k _ _ e fun _ _ _ z => by cases z))
      | dT e => exact .base (.dT (k _ _ e fun _ _ _ z => by cases z))
      | @ins b C2 d2 fs2 e cl ha hn htk hm =>
        by_cases z : b = a
        · subst z
          rw [h] at e
          cases e
          exact .base (.ins upd_same cl ha hn htk hm)
        · exact .base (.ins (by rw [upd_ne z]; exact e) cl ha hn htk hm)
    | byt b => exact .byt b
    | set e => exact .set (k _ _ e fun _ _ _ z => by cases z)
    | kList e c => exact .kList e c
    | kTuple e c => exact .kTuple e c
    | kDict e c => exact .kDict e c
    | fTuple e => exact .fTuple (k _ _ e fun _ _ _ z => by cases z)
    | fDict e => exact .fDict (k _ _ e fun _ _ _ z => by cases z)
section
variable {X : Cx} {f C : Addr} {e : Expr} {es : List Expr} {t : TA} {p pos : Pos}
def spTini1 (K : PySem.W.Frag) (C : Addr) : Sp := fun vs H Q E => ∃ v rest, vs = v :: rest ∧ rest.length ≤ 1000 ∧ ∀ p, H p = none → spTini K C [v, .ref p] (upd H p (.tup rest)) Q E
/-- Table(e, ..), right classes -/
def tTab (K : PySem.W.Frag) (C : Addr) (t : TA) : TE := fun σ H Q => t σ H fun vs H1 => ∃ cs, Paired (Cp K H1) vs cs ∧ TabOk cs ∧ ∀ H2 a, Same H1 H2 → H1 a = none → TabAt K C H2 (.ref a) cs → Q (.ref a) H2
theorem tab_made {K : PySem.W.Frag} {C : Addr} {H1 : Hp} {vs : List V} {cs : List Cls} {Q : VK} (hp : Paired (Cp K H1) vs cs) (ok : TabOk cs) (q : ∀ H2 a, Same H1 H2 → H1 a = none → TabAt K C H2 (.ref a) cs → Q (.ref a) H2) (a d : Addr) (ha : H1 a = none) (hd : H1 d = none) (hda : d ≠ a) :
    spTini1 K C (.ref a :: vs) (upd (upd H1 d (.own a)) a (.ins C d [])) (fun v H2 => v = .non ∧ Q (.ref a) H2) E0 := by
  have hl : vs.length = cs.length := Paired.length hp
  have n5 := ok.f.n5
  refine ⟨.ref a, vs, rfl, by omega, fun p hp0 => ?_⟩
  have s1 := same_new hd (.own a)
  have ha1 : (upd H1 d (.own a)) a = none := by rw [upd_ne (Ne.symm hda)]; exact ha
  have s2 := s1.trans (same_new ha1 (.ins C d []))
  have s3 := same_new hp0 (.tup vs)
  have s23 := s2.trans s3
  have hap := s3 _ _ (upd_same (H := upd H1 d (.own a)) (a := a) (o := .ins C d []))
  refine ⟨a, d, p, cs, rfl, hap, ⟨vs, .inl (.inl upd_same), Paired.mapP hp fun _ _ z => z.stay (stay_same s23)⟩, ok, fun H' s' => ⟨rfl, q _ a (same_mut (s23.trans s') ha) ha ⟨a, d, p, rfl, upd_same, ?_⟩⟩⟩
  exact CsAt.stay ((stay_same s').trans (stay_ins (s' _ _ hap))) ⟨vs, .inl (.inl upd_same), Paired.mapP hp fun _ _ z => z.stay (stay_same s23)⟩
theorem pe_tab (T : TabC X.K X.mg C) (M : Mk X.K C f) (F : FnS X.prog X.w X.K X.mg X.base 10 f (spTini1 X.K C)) (hr : RoomG 11 X.A) (hg : Gl X "Table") (ha : PA X (e :: es) t)
    (he : starEach (e :: es) X.env = (false, eval e X.env) :: starEach es X.env := by rfl) (hpl : (backTo pos (starEach es X.env)).any (·.1) = false := by rfl) : PE X (.Call (.Name "Table" p) (e :: es) [] pos) (tTab X.K C t) := by
  refine ⟨fun pins s σ H Q I h => wpAny_Call_Name_kw (ld_glob I hg T.gl ?_ (by decide))⟩
  refine PySem.W.callWith_K (h₀ := X.base) I.ok.mod.kin M.kp (thn (ha.run pos pins s σ H _ I h) fun us s1 ⟨vs, H1, J, r, cs, hp, ok, q⟩ => ⟨J.kIn, ?_⟩) he hpl
  exact run_mkS M F hr J r fun a d h1 h2 h3 => tab_made hp ok q a d h1 h2 h3
end
end N

namespace N
open PySem PySem.Spec PyProof.Rows L2
/-! ### signed_letters, where a variance may be None -/
def optV : Option Str → V
  | none => .non
  | some v => .str v
def passO (s : Str) (v : Option Str) (g : Str → List (Str × Str)) : List (Str × Str) := match v with
  | none => []
  | some v => g (passS s v)
def Kd.sgn (vr : Str → List (Option Str)) (s : Str) : Kd → List (Str × Str)
  | .L c => [(c, s)]
  | .C0 _ => []
  | .C1 n a => passO s ((vr n).getD 0 none) fun s => a.sgn vr s
  | .C2 n a b => passO s ((vr n).getD 1 none) (fun s => b.sgn vr s) ++ passO s ((vr n).getD 0 none) fun s => a.sgn vr s
def subN (s : Str) (q : Kd × Option Str) : Option (Kd × Str) := q.2.map fun v => (q.1, passS s v)
def subsN (vr : Str → List (Option Str)) (s : Str) (k : Kd) : List (Kd × Str) := (k.args.zip (vr k.nm)).filterMap (subN s)
def sgnAll (vr : Str → List (Option Str)) (ws : List (Kd × Str)) : List (Str × Str) := ws.reverse.flatMap fun p => p.1.sgn vr p.2
theorem sgn_C {vr : Str → List (Option Str)} {s : Str} : ∀ {k : Kd}, k.isC = true → (vr k.nm).length = k.args.length → k.sgn vr s = sgnAll vr (subsN vr s k)
  | .C0 n, _, _ => rfl
  | .C1 n a, _, h => by
    obtain ⟨v, e⟩ : ∃ v, vr n = [v] := by
      match hv : vr n, h with
      | [v], _ => exact ⟨v, rfl⟩
      | [], h => exact absurd h (by simp [Kd.args])
      | _ :: _ :: _, h => exact absurd h (by simp [Kd.args])
    show passO s ((vr n).getD 0 none) _ = sgnAll vr (([a].zip (vr n)).filterMap (subN s))
    rw [e]
    cases v <;> simp [sgnAll, subN, passO]
  | .C2 n a b, _, h => by
    obtain ⟨v, u, e⟩ : ∃ v u, vr n = [v, u] := by
      match hv : vr n, h with
      | [v, u], _ => exact ⟨v, u, rfl⟩
      | [], h => exact absurd h (by simp [Kd.args])
      | [_], h => exact absurd h (by simp [Kd.args])
      | _ :: _ :: _ :: _, h => exact absurd h (by simp [Kd.args])
    show passO s ((vr n).getD 1 none) _ ++ passO s ((vr n).getD 0 none) _ = sgnAll vr (([a, b].zip (vr n)).filterMap (subN s))
    rw [e]
    cases v <;> cases u <;> simp [sgnAll, subN, passO, List.filterMap_cons]
theorem sgnAll_snoc (vr : Str → List (Option Str)) (ws : List (Kd × Str)) (p : Kd × Str) : sgnAll vr (ws ++ [p]) = p.1.sgn vr p.2 ++ sgnAll vr ws := by
  unfold sgnAll
  rw [List.reverse_append, List.reverse_singleton, List.singleton_append, List.flatMap_cons]
theorem sgnAll_app (vr : Str → List (Option Str)) (ws us : List (Kd × Str)) : sgnAll vr (ws ++ us) = sgnAll vr us ++ sgnAll vr ws := by
  unfold sgnAll
  rw [List.reverse_append, List.flatMap_append]
theorem sumN_filt (s : Str) : ∀ l : List (Kd × Option Str), sumN (l.filterMap (subN s)) ≤ (l.map fun q => q.1.nds).sum
  | [] => Nat.le_refl _
  | (k, none) :: l => by
    have := sumN_filt s l
    rw [List.filterMap_cons_none (by rfl)]
    simp only [List.map_cons, List.sum_cons]
    omega
  | (k, some v) :: l => by
    have := sumN_filt s l
    rw [List.filterMap_cons_some (b := (k, passS s v)) (by rfl)]
    simp only [sumN, List.map_cons, List.sum_cons] at this ⊢
    omega
theorem zip_nds : ∀ (l : List Kd) (r : List (Option Str)), ((l.zip r).map fun q => q.1.nds).sum ≤ (l.map Kd.nds).sum
  | [], r => by simp
  | a :: l, [] => by simp
  | a :: l, b :: r => by
    have := zip_nds l r
    simp only [List.zip_cons_cons, List.map_cons, List.sum_cons]
    omega
theorem sumN_subsN {vr : Str → List (Option Str)} {s : Str} {k : Kd} : sumN (subsN vr s k) ≤ (k.args.map Kd.nds).sum := Nat.le_trans (sumN_filt s _) (zip_nds _ _)
/-- at d the variances of the classes, by name -/
def VrAt (H : Hp) (d : Addr) (ar : List (Str × Nat)) (vo : Str → List (Option Str)) : Prop := ∃ kvs, Rd H d (.dK kvs) ∧ ∀ p ∈ ar, (∃ l, valV kvs (Sum.inr p.1 : Key) = some (.ref l) ∧ H l = some (.lst ((vo p.1).map optV))) ∧ (vo p.1).length = p.2 ∧ ∀ v, some v ∈ vo p.1 → v ∈ varz
theorem VrAt.same {H H' : Hp} {d : Addr} {ar : List (Str × Nat)} {vo : Str → List (Option Str)} (s : Same H H') (h : VrAt H d ar vo) : VrAt H' d ar vo := by
  obtain ⟨kvs, g1, g2⟩ := h
  refine ⟨kvs, g1.imp (s _ _) (fun ⟨o, h⟩ => ⟨o, s _ _ h⟩), fun p hp => ?_⟩
  obtain ⟨⟨l, e, hl⟩, r⟩ := g2 p hp
  exact ⟨⟨l, e, s _ _ hl⟩, r⟩
section
variable {P : Program} {w : World} {K : PySem.W.Frag} {mg : Str → Option Value} {base : Heap}
def spSgn (K : PySem.W.Frag) : Sp := fun vs H Q _ => ∃ (v : V) (k : Kd) (s : Str) (d : Addr) (ar : List (Str × Nat)) (vo : Str → List (Option Str)) (ls : List Str), vs = [v, .str s, .ref d] ∧ Kp K H v k ∧ k.nds ≤ 1000 ∧ s ∈ sgz ∧ VrAt H d ar vo ∧ k.fits ar ls ∧
  ∀ H' l ws, Same H H' → H' l = some (.lst ws) → H l = none → Paired (Pp K H') ws (k.sgn vo s) → (k.sgn vo s).length ≤ 1000 → Q (.ref l) H'
theorem ok_sgn (G : Glo mg) (hzip : mg "zip" = none) (CP : Cal P w K mg base 1 "passed_on" ["sign", "variance"] spPass) (D : DefAt K mg "signed_letters" s_signed_letters ["kind", "sign", "variances"]) : Cal P w K mg base 2 "signed_letters" ["kind", "sign", "variances"] (spSgn K) := by
  refine D.cal sc_signed_letters (fun vs H Q E h => ?_) (fun f cdv A outer s H vs Q E hr h => ?_)
  · obtain ⟨v, k, s, d, ar, vo, ls, rfl, _⟩ := h
    rfl
  obtain ⟨v, k, sg, d, ar, vo, ls, rfl, hk, hn, hs, hd, hf, q⟩ := h
  refine ⟨_, pss_cons (ps_set (i := 3) sc_signed_letters.nd rfl (Or.inl rfl) (pe_lst pa_nil))
    (pss_cons (ps_set (i := 4) sc_signed_letters.nd rfl (Or.inl rfl) (pe_lst (pa_cons (pe_tup (pa_cons (pv 0) (pa_cons (pv 1) pa_nil))) pa_nil)))
    (pss_cons (ps_while (passes_of rfl) (pt_truth (pv 4) (by intro _; rfl))
      (pss_cons (ps_asg (pe_bm0 PySem.F.plainAttrs_list PySem.F.slot_list_pop PySem.F.type_list_pop mt_pop (pv 4)) (pg_tup (by rfl) (pgs_cons (pg_name (i := 5) sc_signed_letters.nd rfl (Or.inl rfl)) (pgs_cons (pg_name (i := 6) sc_signed_letters.nd rfl (Or.inl rfl)) pgs_nil))))
      (pss_one (ps_if (pt_val (pe_isi G.isinstance G.str b_str rfl rfl (pv 5)))
        (pss_one (ps_expr (pe_bm PySem.F.plainAttrs_list PySem.F.slot_list_append PySem.F.type_list_append mt_append (pv 3) (pa_cons (pe_tup (pa_cons (pv 5) (pa_cons (pv 6) pa_nil))) pa_nil))))
        (pss_one (ps_for (passes_of rfl) rfl (pi_zipM rfl hzip (pa_cons (pe_slice sl_tup (pv 5) (po_some pe_int) po_none) (pa_cons (pe_dget (hug hr) (pv 2) (pe_ix ix_tup (pv 5) pe_int (fun _ _ => rfl)) (fun _ _ => rfl)) pa_nil))) (pg_tup (by rfl) (pgs_cons (pg_name (i := 7) sc_signed_letters.nd rfl (Or.inl rfl)) (pgs_cons (pg_name (i := 8) sc_signed_letters.nd rfl (Or.inl rfl)) pgs_nil)))
          (pss_one (ps_if (pt_cmpR op_notN (pv 8) pe_non (nomark _)) (pss_one (ps_expr (pe_bm PySem.F.plainAttrs_list PySem.F.slot_list_append PySem.F.type_list_append mt_append (pv 4) (pa_cons (pe_tup (pa_cons (pv 7) (pa_cons (pc CP hr rfl (pa_cons (pv 6) (pa_cons (pv 8) pa_nil))) pa_nil))) pa_nil)))) pss_nil))))))))
    (pss_one (ps_ret (pv 3))))), ?_⟩
  refine ⟨Nat.zero_le _, fun pl hpl => ?_⟩
  have s1 := same_new hpl (.lst [])
  refine ⟨v, rfl, _, rfl, by show 2 ≤ sizeLine; decide, fun t0 ht0 => ?_⟩
  have s2 := s1.trans (same_new ht0 (.tup [v, .str sg]))
  refine ⟨by show 1 ≤ sizeLine; decide, fun r hr0 => ?_⟩
  have s3 := s2.trans (same_new hr0 (.lst [.ref t0]))
  have hrH : H r = none := s2.free hr0
  have npr : pl ≠ r := ne_of_none ((same_new ht0 (.tup [v, .str sg])) _ _ upd_same) hr0
  refine ⟨fun m σ H' => ∃ xs ws out outv y5 y6 y7 y8, m = sumN ws ∧ σ = [some v, some (.str sg), some (.ref d), some (.ref pl), some (.ref r), y5, y6, y7, y8] ∧ Same H H' ∧ H' r = some (.lst xs) ∧ Paired (Wp K H') xs ws ∧ H' pl = some (.lst outv) ∧ Paired (Pp K H') outv out ∧
      k.sgn vo sg = out ++ sgnAll vo ws ∧ out.length + sumN ws ≤ 1000 ∧ ∀ p ∈ ws, p.2 ∈ sgz ∧ p.1.fits ar ls,
    ⟨_, [.ref t0], [(k, sg)], [], [], _, _, _, _, rfl, rfl, s3, upd_same, .cons ⟨t0, v, rfl, ?_, hk.stay (stay_same s3)⟩ .nil, ?_, .nil, ?_, ?_, ?_⟩, fun m σ H' hW => ?_⟩
  · exact (stay_new hr0 _).tup _ _ (.inl (.inl upd_same))
  · rw [upd_ne npr]
    exact (same_new ht0 _) _ _ upd_same
  · rw [List.nil_append, show [(k, sg)] = [] ++ [(k, sg)] from rfl, sgnAll_snoc]
    simp [sgnAll]
  · simp [sumN]
    exact hn
  · intro p hp
    rw [List.mem_singleton.mp hp]
    exact ⟨hs, hf⟩
  obtain ⟨xs, ws, out, outv, y5, y6, y7, y8, rfl, rfl, sm, hx, hA, ho, hO, he, hm, hfs⟩ := hW
  refine ⟨_, rfl, _, .inl ⟨xs, SqL.of hx, rfl⟩, ?_⟩
  by_cases hne : ws = []
  · subst hne
    cases hA
    refine iteF ⟨_, rfl, q H' pl outv sm ho hpl ?_ ?_⟩
    · rw [he, show sgnAll vo [] = [] from rfl, List.append_nil]
      exact hO
    · rw [he, show sgnAll vo [] = [] from rfl, List.append_nil]
      omega
  obtain ⟨xs', u, ws', p, e1, e2, hA', hu⟩ := paired_last hA hne
  subst e1 e2
  obtain ⟨k', sg'⟩ := p
  have ek : (!(xs' ++ [u]).isEmpty) = true := by cases xs' <;> rfl
  refine iteE ek ?_
  rw [sumN_snoc] at hm
  rw [sgnAll_snoc] at he
  dsimp only at hm he
  have hl2 : xs'.length = ws'.length := Paired.length hA'
  have hl3 := sumN_len ws'
  obtain ⟨hsg, kf⟩ := hfs _ (List.mem_append_right _ (List.mem_singleton.mpr rfl))
  dsimp only at hsg kf
  have kfs : ∀ p ∈ ws', p.2 ∈ sgz ∧ p.1.fits ar ls := fun k h => hfs k (List.mem_append_left _ h)
  refine ⟨fun σ2 H2 => ∃ xs ws out outv y5 y6 y7 y8, sumN ws < sumN (ws' ++ [(k', sg')]) ∧ σ2 = [some v, some (.str sg), some (.ref d), some (.ref pl), some (.ref r), y5, y6, y7, y8] ∧ Same H H2 ∧ H2 r = some (.lst xs) ∧ Paired (Wp K H2) xs ws ∧ H2 pl = some (.lst outv) ∧ Paired (Pp K H2) outv out ∧
      k.sgn vo sg = out ++ sgnAll vo ws ∧ out.length + sumN ws ≤ 1000 ∧ ∀ p ∈ ws, p.2 ∈ sgz ∧ p.1.fits ar ls,
    fun σ2 H2 ⟨xs, ws, out, outv, y5, y6, y7, y8, a, b⟩ => ⟨_, a, xs, ws, out, outv, y5, y6, y7, y8, rfl, b⟩, ?_⟩
  have hlast : (xs' ++ [u])[(xs' ++ [u]).length - 1]? = some u := by
    rw [List.length_append, List.length_singleton, Nat.add_sub_cancel, List.getElem?_append_right (Nat.le_refl _), Nat.sub_self] <;> rfl
  obtain ⟨au, vu, rfl, qu, ku⟩ := hu
  have st : Stay K H' (upd H' r (.lst xs')) := stay_lst hx
  have sm1 : Same H (upd H' r (.lst xs')) := same_mut sm hrH
  have ho1 : (upd H' r (.lst xs')) pl = some (.lst outv) := by rw [upd_ne npr]; exact ho
  have hA1 : Paired (Wp K (upd H' r (.lst xs'))) xs' ws' := Paired.mapP hA' fun _ _ z => z.stay st
  have hO1 : Paired (Pp K (upd H' r (.lst xs'))) outv out := Paired.mapP hO fun _ _ z => z.stay st
  have ku1 : Kp K (upd H' r (.lst xs')) vu k' := Th.stay st ku
  have hol : outv.length = out.length := Paired.length hO
  refine ⟨_, rfl, .inl ⟨rfl, _, SqL.of hx⟩, r, _, .ref au, rfl, rfl, hx, hlast, ?_⟩
  rw [List.dropLast_concat]
  refine ⟨au, _, rfl, st.tup _ _ qu, rfl, vu, [.str sg'], rfl, .str sg', [], rfl, rfl, ?_⟩
  have hpos := Kd.nds_pos k'
  cases hc : k'.isC with
  | false =>
    obtain ⟨rfl, hnl⟩ := kp_L ku1 hc
    have ekL : k' = .L k'.nm := by cases k' <;> first | rfl | cases hc
    refine ⟨_, rfl, isi_q (b := true) (.base (.str _)) (kit_ty (by decide +kernel)) ⟨_, rfl, iteE rfl ?_⟩⟩
    refine ⟨_, rfl, .inl ⟨rfl, _, SqL.of ho1⟩, _, rfl, _, rfl, by show 2 ≤ sizeLine; decide, fun t1 ht1 => ?_⟩
    have s5 := same_new ht1 (.tup [.str k'.nm, .str sg'])
    have ho2 := s5 _ _ ho1
    have st6 : Stay K (upd (upd H' r (.lst xs')) t1 (.tup [.str k'.nm, .str sg'])) (upd (upd (upd H' r (.lst xs')) t1 (.tup [.str k'.nm, .str sg'])) pl (.lst (outv ++ [.ref t1]))) := stay_lst ho2
    have st7 := (stay_same (K := K) s5).trans st6
    refine ⟨pl, outv, _, rfl, rfl, ho2, Nat.lt_of_le_of_lt (show _ ≤ 100000 by omega) (by decide), ?_⟩
    refine ⟨xs', ws', out ++ [(k'.nm, sg')], outv ++ [.ref t1], _, _, _, _, ?_, rfl, same_mut (sm1.trans s5) hpl, ?_, Paired.mapP hA1 fun _ _ z => z.stay st7, upd_same, paired_snoc2 (Paired.mapP hO1 fun _ _ z => z.stay st7) ⟨t1, rfl, st6.tup _ _ (.inl (.inl upd_same))⟩, ?_, ?_, kfs⟩
    · rw [sumN_snoc]
      dsimp only
      omega
    · rw [upd_ne npr.symm]
      exact s5 _ _ upd_same
    · rw [he, List.append_assoc]
      congr 2
      rw [ekL]
      rfl
    · rw [List.length_append, List.length_singleton]
      omega
  | true =>
    obtain ⟨a, zs, rfl, hq, hnl, hz⟩ := kp_C ku1 hc
    obtain ⟨f1, f2⟩ := fits_C hc kf
    obtain ⟨kvs, g1, g2⟩ := hd
    obtain ⟨⟨l0, hv, hl0⟩, evl, hvz0⟩ := g2 _ f1
    dsimp only at hv hl0 evl hvz0
    have hzl : zs.length = k'.args.length := Kps.length hz
    have hna := nds_args hc
    have hal := sum_ge_len k'.args
    have lr0 : l0 ≠ r := fun q => by rw [q, hrH] at hl0; cases hl0
    refine ⟨_, rfl, isi_q (b := false) (SqT.ty hq) (kit_ty (by decide +kernel)) ⟨_, rfl, iteN rfl ?_⟩⟩
    refine ⟨_, rfl, 1, rfl, a, _, rfl, hq, cut_tail_ne _ (by simp), fun p hp => ?_⟩
    rw [cut_tail]
    have s5 := same_new hp (.tup zs)
    have sm5 := sm1.trans s5
    have st5 : Stay K (upd H' r (.lst xs')) (upd (upd H' r (.lst xs')) p (.tup zs)) := stay_same s5
    have npr2 : r ≠ p := ne_of_none upd_same hp
    have hz5 := ThAll.stay st5 hz
    refine ⟨_, rfl, _, rfl, a, _, 0, .str k'.nm, rfl, rfl, st5.tup _ _ hq, atI_nat (j := 0) rfl, d, .ref l0, rfl, .inl ⟨kvs, _, g1.imp (sm5 _ _) (fun ⟨o, h⟩ => ⟨o, sm5 _ _ h⟩), rfl, hv.symm⟩, ?_⟩
    refine ⟨p, l0, zs, (vo k'.nm).map optV, rfl, .inl (.inl upd_same), SqL.of (sm5 _ _ hl0), ?_⟩
    refine for_zipM (xs := zs) (ys := (vo k'.nm).map optV) (by rw [List.length_map, hzl, evl]) (fun i σ2 H2 => ∃ y7 y8 xs2, σ2 = [some v, some (.str sg), some (.ref d), some (.ref pl), some (.ref r), some (.ref a), some (.str sg'), y7, y8] ∧ Same H H2 ∧ Stay K (upd (upd H' r (.lst xs')) p (.tup zs)) H2 ∧ H2 r = some (.lst (xs' ++ xs2)) ∧ Paired (Wp K H2) xs2 (((k'.args.zip (vo k'.nm)).take i).filterMap (subN sg')) ∧ H2 pl = some (.lst outv))
      ⟨_, _, [], rfl, sm5, Stay.refl _, by rw [List.append_nil]; exact s5 _ _ upd_same, .nil, s5 _ _ ho1⟩ (fun i σ2 H2 ⟨_, _, _, _, sm2, st2, _⟩ => ⟨st2.tup _ _ (.inl (.inl upd_same)), SqL.of (sm2 _ _ hl0)⟩) (fun i x y T σ2 H2 hx hy ⟨y7, y8, xs2, eσ, sm2, st2, hr2, hw2, ho2⟩ hT => ?_) (fun σ2 H2 ⟨y7, y8, xs2, eσ, sm2, st2, hr2, hw2, ho2⟩ => ?_)
    · subst eσ
      obtain ⟨kk, hk1, hk2⟩ := Kps.at hz5 hx
      obtain ⟨ov, hv1, rfl⟩ : ∃ ov, (vo k'.nm)[i]? = some ov ∧ y = optV ov := by
        rw [List.getElem?_map] at hy
        cases hq : (vo k'.nm)[i]? with
        | none => rw [hq] at hy; cases hy
        | some vv => rw [hq] at hy; exact ⟨vv, rfl, (Option.some.inj hy).symm⟩
      have hzip : (k'.args.zip (vo k'.nm))[i]? = some (kk, ov) := List.getElem?_zip_eq_some.mpr ⟨hk1, hv1⟩
      have sT := same_new hT (.tup [x, optV ov])
      have smT := sm2.trans sT
      refine ⟨T, _, rfl, .inl (.inl upd_same), rfl, x, [optV ov], rfl, optV ov, [], rfl, rfl, ?_⟩
      cases ov with
      | none =>
        refine ⟨_, rfl, rfl, _, rfl, iteN rfl ⟨_, _, xs2, rfl, smT, st2.trans (stay_same sT), sT _ _ hr2, ?_, sT _ _ ho2⟩⟩
        rw [take_one' hzip, List.filterMap_append, List.filterMap_cons_none (by rfl), List.filterMap_nil, List.append_nil]
        exact Paired.mapP hw2 fun _ _ z => z.stay (stay_same sT)
      | some vv =>
      have hvz : vv ∈ varz := hvz0 vv (List.mem_of_getElem? hv1)
      refine ⟨_, rfl, rfl, _, rfl, iteE rfl ?_⟩
      have hr3 := sT _ _ hr2
      refine ⟨_, rfl, .inl ⟨rfl, _, SqL.of hr3⟩, _, rfl, _, rfl, _, rfl, sg', vv, rfl, hsg, hvz, by show 2 ≤ sizeLine; decide, fun t2 ht2 => ?_⟩
      have s6 := same_new ht2 (.tup [x, .str (passS sg' vv)])
      have hr4 := s6 _ _ hr3
      have st7 := ((stay_same (K := K) sT).trans (stay_same s6)).trans (stay_lst (ys := xs' ++ xs2 ++ [.ref t2]) hr4)
      have hw2l : xs2.length ≤ k'.args.length := by
        rw [Paired.length hw2]
        have h1 := List.length_filterMap_le (subN sg') ((k'.args.zip (vo k'.nm)).take i)
        rw [List.length_take, List.length_zip] at h1
        omega
      refine ⟨r, _, _, rfl, rfl, hr4, Nat.lt_of_le_of_lt (show _ ≤ 100000 by rw [List.length_append]; omega) (by decide), ?_⟩
      refine ⟨_, _, xs2 ++ [.ref t2], rfl, same_mut (smT.trans s6) hrH, st2.trans st7, by rw [upd_same, List.append_assoc], ?_, by rw [upd_ne npr]; exact s6 _ _ (sT _ _ ho2)⟩
      rw [take_one' hzip, List.filterMap_append, List.filterMap_cons_some (b := (kk, passS sg' vv)) (by rfl), List.filterMap_nil]
      refine paired_snoc2 (Paired.mapP hw2 fun _ _ z => z.stay st7) ⟨t2, x, rfl, (stay_lst hr4).tup _ _ (.inl (.inl upd_same)), Th.stay (st2.trans st7) hk2⟩
    · subst eσ
      have esl : (k'.args.zip (vo k'.nm)).length = zs.length := by
        rw [List.length_zip, evl, hzl, Nat.min_self]
      rw [← esl, List.take_length] at hw2
      have hsn := sumN_subsN (vr := vo) (s := sg') (k := k')
      have st8 := st5.trans st2
      refine ⟨xs' ++ xs2, ws' ++ subsN vo sg' k', out, outv, _, _, _, _, ?_, rfl, sm2, hr2, pairs_app (Paired.mapP hA1 fun _ _ z => z.stay st8) hw2, ho2, Paired.mapP hO1 fun _ _ z => z.stay st8, ?_, ?_, ?_⟩
      · rw [sumN_snoc, sumN_app]
        dsimp only
        omega
      · rw [he, sgn_C hc evl, sgnAll_app]
      · rw [sumN_app]
        omega
      · intro p hp
        rcases List.mem_append.mp hp with h | h
        · exact kfs p h
        · unfold subsN at h
          obtain ⟨qq, hqq, e⟩ := List.mem_filterMap.mp h
          unfold subN at e
          obtain ⟨vv, _, rfl⟩ := Option.map_eq_some_iff.mp e
          exact ⟨passS_mem hsg, f2 _ (List.of_mem_zip hqq).1⟩
end
end N

namespace N
open PySem PySem.Spec PyProof.Rows L2
section
variable {P : Program} {w : World} {K : PySem.W.Frag} {mg : Str → Option Value} {base : Heap}
/-- all but what stands at p is as it was -/
def Bar (p : Addr) (H H' : Hp) : Prop := ∀ b o, b ≠ p → H b = some o → H' b = some o
def Pen (H : Hp) (p : Addr) : Prop := ∃ i j k : Int, H p = some (.lst [.int i, .int j, .int k]) ∧ 0 ≤ i ∧ 0 ≤ j ∧ j < 2147483648
theorem Bar.refl (p : Addr) (H : Hp) : Bar p H H := fun _ _ _ h => h
theorem Bar.trans {p : Addr} {H H1 H2 : Hp} (a : Bar p H H1) (b : Bar p H1 H2) : Bar p H H2 := fun x o n h => b x o n (a x o n h)
theorem bar_same {p : Addr} {H H' : Hp} (a : Same H H') : Bar p H H' := fun x o _ h => a x o h
theorem bar_upd {p : Addr} {H : Hp} (o : HO) : Bar p H (upd H p o) := fun b u n h => by rw [upd_ne n]; exact h
theorem Pen.same {p : Addr} {H H' : Hp} (a : Same H H') (h : Pen H p) : Pen H' p := by
  obtain ⟨i, j, k, e, r⟩ := h
  exact ⟨i, j, k, a _ _ e, r⟩
theorem bar_stay {p : Addr} {H H' : Hp} (a : Bar p H H') (h : Pen H p) (h' : Pen H' p) : Stay K H H' := by
  obtain ⟨i, j, k, e, _⟩ := h
  obtain ⟨i', j', k', e', _⟩ := h'
  refine stay_of (fun b o q => ?_) fun b x q => a b _ (ne_of q e (by intro z; cases z)) q
  by_cases hb : b = p
  · subst hb
    rw [e] at q
    cases q
    exact .inr ⟨_, _, rfl, e'⟩
  · exact .inl (a b o hb q)
theorem bar_seq {p a : Addr} {H H' : Hp} {xs : List V} (b : Bar p H H') (n : a ≠ p) (h : SqL K H a xs) : SqL K H' a xs := by
  rcases h with (h | ⟨o, h⟩) | h
  · exact .inl (.inl (b _ _ n h))
  · exact .inl (.inr ⟨o, b _ _ n h⟩)
  · exact .inr h
theorem pen_free {p q : Addr} {H H' : Hp} (b : Bar p H H') (h : Pen H p) (n : H' q = none) (hq : Pen H' p) : H q = none := by
  cases e : H q with
  | none => rfl
  | some o =>
    obtain ⟨_, _, _, e', _⟩ := hq
    by_cases hb : q = p
    · subst hb; rw [e'] at n; cases n
    · rw [b q o hb e] at n; cases n
def spCell (K : PySem.W.Frag) : Sp := fun vs H Q _ => ∃ (a : Addr) (ns : List Int) (k : Nat), vs = [.ref a, .int k] ∧ SqL K H a (ns.map V.int) ∧ ∀ n : Int, Q (.int n) H
theorem ok_cell (G : Glo mg) (D : DefAt K mg "_law_cell_at" s_Lcell_at ["_law_script", "_law_k"]) : Cal P w K mg base 1 "_law_cell_at" ["_law_script", "_law_k"] (spCell K) := by
  refine D.cal sc_Lcell_at (fun vs H Q E h => ?_) (fun f cdv A outer s H vs Q E hr h => ?_)
  · obtain ⟨a, ns, k, rfl, _⟩ := h
    rfl
  obtain ⟨a, ns, k, rfl, hS, q⟩ := h
  refine ⟨_, pss_cons (ps_if (pt_cmpR op_lt (pv 1) (pe_callB call_len_seq (by rfl) G.len PySem.boot_len (pa_cons (pv 0) pa_nil)) (nomark _)) (pss_one (ps_ret (pe_ix ix_list (pv 0) (pv 1) (fun _ _ => rfl)))) pss_nil) (pss_one (ps_ret pe_int)), ?_⟩
  refine ⟨_, rfl, _, rfl, a, _, rfl, .inl hS, _, _, rfl, rfl, _, rfl, ite2 (fun c => ?_) (fun c => ?_)⟩
  · have c' : ((k : Nat) : Int) < (((ns.map V.int).length : Nat) : Int) := of_decide_eq_true c
    rw [List.length_map] at c'
    have hk : k < ns.length := by omega
    exact ⟨_, rfl, _, rfl, a, _, _, .int ns[k], rfl, rfl, hS, atI_nat (by rw [List.getElem?_map, List.getElem?_eq_getElem hk] <;> rfl), q _⟩
  · exact q 0
def spPen (K : PySem.W.Frag) : Sp := fun vs H Q _ => ∃ n : Int, vs = [.int n] ∧ ∀ p H', Same H H' → H p = none → Pen H' p → Q (.ref p) H'
theorem ok_pen (G : Glo mg) (D : DefAt K mg "_law_ink" s_Link ["_law_cell"]) : Cal P w K mg base 1 "_law_ink" ["_law_cell"] (spPen K) := by
  refine D.cal sc_Link (fun vs H Q E h => ?_) (fun f cdv A outer s H vs Q E hr h => ?_)
  · obtain ⟨n, rfl, _⟩ := h
    rfl
  obtain ⟨n, rfl, q⟩ := h
  refine ⟨_, pss_one (ps_ret (pe_lst (pa_cons (pe_callB (call_max2 rfl) (by rfl) G.max (by decide +kernel) (pa_cons pe_int (pa_cons (pe_op op_sub (pv 0) (pe_op op_pow pe_int pe_int)) pa_nil)))
    (pa_cons (pe_op op_add (pe_op op_modN (pv 0) pe_int) pe_int) (pa_cons pe_int pa_nil))))), ?_⟩
  refine ⟨_, rfl, _, _, rfl, rfl, ⟨by decide, by decide, by decide⟩, _, _, rfl, rfl, _, _, rfl, ?_⟩
  refine ⟨_, rfl, _, _, rfl, rfl, (by show (2147483629 : Int) ≠ 0; decide), _, _, rfl, rfl, by show 3 ≤ sizeLine; decide, fun p hp => ?_⟩
  refine q p _ (same_new hp _) hp ⟨_, _, _, upd_same, ?_, ?_, ?_⟩
  · split <;> omega
  · rw [Int.fmod_eq_emod_of_nonneg _ (by decide)]; omega
  · rw [Int.fmod_eq_emod_of_nonneg _ (by decide)]; omega
def spDraw (K : PySem.W.Frag) : Sp := fun vs H Q _ => ∃ (p : Addr) (n : Int), vs = [.ref p, .int n] ∧ Pen H p ∧ 0 < n ∧ n < 1073741824 ∧ ∀ H' r, Bar p H H' → Pen H' p → 0 ≤ r → r < n → Q (.int r) H'
theorem ok_draw (D : DefAt K mg "_law_draw" s_Ldraw ["_law_pen", "_law_many"]) : Cal P w K mg base 1 "_law_draw" ["_law_pen", "_law_many"] (spDraw K) := by
  refine D.cal sc_Ldraw (fun vs H Q E h => ?_) (fun f cdv A outer s H vs Q E hr h => ?_)
  · obtain ⟨p, n, rfl, _⟩ := h
    rfl
  obtain ⟨p, n, rfl, ⟨i, j, k, e, hi, hj, hj2⟩, hn, hn2, q⟩ := h
  refine ⟨_, pss_cons (ps_if (pt_cmpR op_gt (pe_ix ix_list (pv 0) pe_int (fun _ _ => rfl)) pe_int (nomark _))
      (pss_cons (ps_set (i := 2) sc_Ldraw.nd rfl (Or.inl rfl) (pe_op op_modN (pe_ix ix_list (pv 0) pe_int (fun _ _ => rfl)) (pv 1)))
      (pss_cons (ps_asg (pe_op op_fdivN (pe_ix ix_list (pv 0) pe_int (fun _ _ => rfl)) (pv 1)) (pg_sub (pv 0) pe_int set_list)) (pss_one (ps_ret (pv 2))))) pss_nil)
    (pss_cons (ps_asg (pe_op op_add (pe_ix ix_list (pv 0) pe_int (fun _ _ => rfl)) pe_int) (pg_sub (pv 0) pe_int set_list))
    (pss_cons (ps_asg (pe_op op_modN (pe_op op_add (pe_op op_add (pe_op op_mul (pe_ix ix_list (pv 0) pe_int (fun _ _ => rfl)) pe_int) (pe_op op_mul pe_int (pe_ix ix_list (pv 0) pe_int (fun _ _ => rfl)))) pe_int) pe_int) (pg_sub (pv 0) pe_int set_list))
    (pss_cons (ps_set (i := 3) sc_Ldraw.nd rfl (Or.inl rfl) (pe_op op_modN (pe_op op_add (pe_op op_add (pe_op op_mul (pe_ix ix_list (pv 0) pe_int (fun _ _ => rfl)) (pe_ix ix_list (pv 0) pe_int (fun _ _ => rfl))) (pe_op op_mul pe_int (pe_ix ix_list (pv 0) pe_int (fun _ _ => rfl)))) pe_int) pe_int))
    (pss_cons (ps_set (i := 3) sc_Ldraw.nd rfl (Or.inl rfl) (pe_op op_modN (pe_op op_add (pe_op op_mul (pv 3) (pv 3)) (pe_op op_mul pe_int (pv 3))) pe_int))
    (pss_one (ps_ret (pe_op op_modN (pe_op op_fdivN (pv 3) pe_int) (pv 1)))))))), ?_⟩
  refine ⟨_, rfl, p, _, 0, .int i, rfl, rfl, SqL.of e, atI_nat (j := 0) rfl, _, _, rfl, rfl, _, rfl, ite2 (fun c => ?_) (fun c => ?_)⟩
  · have c' : i > 0 := of_decide_eq_true c
    refine ⟨_, rfl, p, _, 0, .int i, rfl, rfl, SqL.of e, atI_nat (j := 0) rfl, _, rfl, _, _, rfl, rfl, (by show n ≠ 0; omega), ?_⟩
    refine ⟨_, rfl, p, _, 0, .int i, rfl, rfl, SqL.of e, atI_nat (j := 0) rfl, _, rfl, _, _, rfl, rfl, ⟨by omega, by omega⟩, ?_⟩
    refine ⟨_, rfl, p, _, 0, 0, rfl, rfl, e, rfl, ?_⟩
    refine ⟨_, rfl, q _ _ (bar_upd _) ⟨_, j, k, upd_same, ?_, hj, hj2⟩ ?_ ?_⟩
    · rw [Int.fdiv_eq_ediv_of_nonneg _ (by omega)]
      exact Int.ediv_nonneg hi (by omega)
    · rw [Int.fmod_eq_emod_of_nonneg _ (by omega)]
      exact Int.emod_nonneg _ (by omega)
    · rw [Int.fmod_eq_emod_of_nonneg _ (by omega)]
      exact Int.emod_lt_of_pos _ hn
  · refine ⟨_, rfl, p, _, 2, .int k, rfl, rfl, SqL.of e, atI_nat (j := 2) rfl, _, _, rfl, rfl, ?_⟩
    refine ⟨_, rfl, p, _, 2, 2, rfl, rfl, e, rfl, ?_⟩
    have e1 : (upd H p (.lst ([.int i, .int j, .int k].set 2 (.int (k + 1))))) p = some (.lst [.int i, .int j, .int (k + 1)]) := upd_same
    refine ⟨_, rfl, p, _, 1, .int j, rfl, rfl, SqL.of e1, atI_nat (j := 1) rfl, _, _, rfl, rfl, .inl ⟨by omega, by omega⟩, ?_⟩
    refine ⟨_, rfl, p, _, 2, .int (k + 1), rfl, rfl, SqL.of e1, atI_nat (j := 2) rfl, _, _, rfl, rfl, .inl ⟨by decide, by decide⟩, _, _, rfl, rfl, _, _, rfl, rfl, _, _, rfl, rfl, (by show (2147483647 : Int) ≠ 0; decide), ?_⟩
    have hj0 : 0 ≤ ((j * 48271 + 1009 * (k + 1) + 7).fmod 2147483647) ∧ ((j * 48271 + 1009 * (k + 1) + 7).fmod 2147483647) < 2147483648 := by rw [Int.fmod_eq_emod_of_nonneg _ (by decide)]; omega
    dsimp only
    revert hj0
    generalize (j * 48271 + 1009 * (k + 1) + 7).fmod 2147483647 = j'
    intro hj'
    refine ⟨_, rfl, p, _, 1, 1, rfl, rfl, e1, rfl, ?_⟩
    have e2 : (upd (upd H p (.lst ([.int i, .int j, .int k].set 2 (.int (k + 1))))) p (.lst (([.int i, .int j, .int (k + 1)] : List V).set 1 (.int j')))) p = some (.lst [.int i, .int j', .int (k + 1)]) := upd_same
    have b2 : Bar p H (upd (upd H p (.lst ([.int i, .int j, .int k].set 2 (.int (k + 1))))) p (.lst (([.int i, .int j, .int (k + 1)] : List V).set 1 (.int j')))) := (bar_upd _).trans (bar_upd _)
    refine ⟨_, rfl, p, _, 1, .int j', rfl, rfl, SqL.of e2, atI_nat (j := 1) rfl, ?_⟩
    refine ⟨_, rfl, p, _, 1, .int j', rfl, rfl, SqL.of e2, atI_nat (j := 1) rfl, _, _, rfl, rfl, .inl ⟨by omega, by omega⟩, ?_⟩
    refine ⟨_, rfl, p, _, 1, .int j', rfl, rfl, SqL.of e2, atI_nat (j := 1) rfl, _, _, rfl, rfl, .inl ⟨by decide, by decide⟩, _, _, rfl, rfl, _, _, rfl, rfl, _, _, rfl, rfl, (by show (2147483629 : Int) ≠ 0; decide), ?_⟩
    have hm0 : 0 ≤ ((j' * j' + 69621 * j' + 11).fmod 2147483629) ∧ ((j' * j' + 69621 * j' + 11).fmod 2147483629) < 2147483648 := by rw [Int.fmod_eq_emod_of_nonneg _ (by decide)]; omega
    dsimp only
    revert hm0
    generalize (j' * j' + 69621 * j' + 11).fmod 2147483629 = m
    intro hm
    refine ⟨_, rfl, _, rfl, _, _, rfl, rfl, .inl ⟨by omega, by omega⟩, _, rfl, _, _, rfl, rfl, .inl ⟨by decide, by decide⟩, _, _, rfl, rfl, _, _, rfl, rfl, (by show (2147483587 : Int) ≠ 0; decide), ?_⟩
    refine ⟨_, rfl, _, _, rfl, rfl, ⟨by decide, by decide⟩, _, rfl, _, _, rfl, rfl, (by show n ≠ 0; omega), q _ _ b2 ⟨i, j', k + 1, e2, hi, hj'⟩ ?_ ?_⟩
    · rw [Int.fmod_eq_emod_of_nonneg _ (by omega)]
      exact Int.emod_nonneg _ (by omega)
    · rw [Int.fmod_eq_emod_of_nonneg _ (by omega)]
      exact Int.emod_lt_of_pos _ hn
end
end N

namespace N
open PySem PySem.Spec PyProof.Rows L2
/-! ### data with lists and dicts, and its repr -/
mutual
/-- scalars and tuples -/
inductive Dt (K : PySem.W.Frag) (H : Hp) : V → PyData → Prop
  | non : Dt K H .non .none
  | bl (b : Bool) : Dt K H (.bl b) (.bool b)
  | int (i : Int) : Dt K H (.int i) (.int i)
  | str (x : Str) : Dt K H (.str x) (.str x)
  | tup {a : Addr} {xs : List V} {ds : List PyData} : SqT K H a xs → DtAll K H xs ds → Dt K H (.ref a) (.tuple ds)
inductive DtAll (K : PySem.W.Frag) (H : Hp) : List V → List PyData → Prop
  | nil : DtAll K H [] []
  | cons {v : V} {vs : List V} {d : PyData} {ds : List PyData} : Dt K H v d → DtAll K H vs ds → DtAll K H (v :: vs) (d :: ds)
end
/-- the entries of a dict whose keys are texts -/
def KvT (K : PySem.W.Frag) (H : Hp) : List (Key × V) → List (Str × PyData) → Prop := Paired fun p q => p.1 = Sum.inr q.1 ∧ Dt K H p.2 q.2
mutual
/-- .. and lists and dicts of such -/
inductive Dq (K : PySem.W.Frag) (H : Hp) (p : Addr) : V → PyData → Prop
  | t {v : V} {d : PyData} : Dt K H v d → Dq K H p v d
  | tup {a : Addr} {xs : List V} {ds : List PyData} : SqT K H a xs → DqAll K H p xs ds → Dq K H p (.ref a) (.tuple ds)
  | lst {a : Addr} {xs : List V} {ds : List PyData} : H a = some (.lst xs) → (a == sysModules) = false → a ≠ p → DtAll K H xs ds → Dq K H p (.ref a) (.list ds)
  | dct {a : Addr} {kvs : List (Key × V)} {m : List (Str × PyData)} : H a = some (.dK kvs) → KvT K H kvs m → Dq K H p (.ref a) (.dict (m.map fun q => (PyData.str q.1, q.2)))
inductive DqAll (K : PySem.W.Frag) (H : Hp) (p : Addr) : List V → List PyData → Prop
  | nil : DqAll K H p [] []
  | cons {v : V} {vs : List V} {d : PyData} {ds : List PyData} : Dq K H p v d → DqAll K H p vs ds → DqAll K H p (v :: vs) (d :: ds)
end
section
variable {X : Cx} {pins : List (Addr × Obj)} {σ : L2.St} {H : Hp} {s : Shared}
mutual
theorem dt_reads (I : Inv X pins σ H s) : ∀ (d : PyData) (v : V) (u : Value), Dt X.K H v d → RelV v u → Reads s.heap u d []
  | .none, _, _, h, r => by cases h; cases r; exact .none
  | .bool b, _, _, h, r => by cases h; cases r; exact .bool b
  | .int i, _, _, h, r => by cases h; obtain ⟨t, rfl⟩ := r; exact .int i t
  | .str x, _, _, h, r => by cases h; obtain ⟨t, rfl⟩ := r; exact .str x t
  | .list _, _, _, h, _ => by cases h
  | .dict _, _, _, h, _ => by cases h
  | .tuple ds, _, _, h, r => by
    cases h with
    | tup hs ha =>
      cases r
      obtain ⟨its, rv, ⟨o, ho, hc, n, hd⟩, _⟩ := I.tuple hs
      exact .tuple ho hc hd (dts_reads I ds _ its ha rv)
theorem dts_reads (I : Inv X pins σ H s) : ∀ (ds : List PyData) (vs : List V) (us : List Value), DtAll X.K H vs ds → Vals vs us → ReadsAll s.heap us ds []
  | [], _, _, h, r => by cases h; cases r; exact .nil
  | d :: ds, _, _, h, r => by
    cases h with
    | cons a b =>
      cases r with
      | cons r1 r2 =>
        show ReadsAll s.heap _ _ ([] ++ [])
        exact .cons (dt_reads I d _ _ a r1) (dts_reads I ds _ _ b r2)
end
theorem kvt_keys {P : Program} {w : World} {h : Heap} {es : List DictEntry} {vs : List (Key × Value)} (hp : Pairs (mixKind P w) es vs) : ∀ {kvs : List (Key × V)} {m : List (Str × PyData)}, KV kvs vs → KvT X.K H kvs m → ReadsAll h (es.map (·.key)) (m.map fun q => PyData.str q.1) [] := by
  induction hp with
  | nil =>
    intro kvs m k r
    cases k
    cases r
    exact .nil
  | @cons e kv es vs h1 h2 h3 ih =>
    intro kvs m k r
    cases k with
    | cons k1 k2 =>
      cases r with
      | @cons _ q _ m' r1 r2 =>
        have ih' := ih k2 r2
        rw [← k1.1, r1.1] at h1
        rcases keyIs_shape (show keyIs (Sum.inr q.1) e.key = true from h1) with ⟨i, t, z, _⟩ | ⟨x, t, z, ek⟩
        · cases z
        · cases z
          show ReadsAll h (e.key :: es.map (·.key)) (PyData.str q.1 :: m'.map fun q => PyData.str q.1) ([] ++ [])
          rw [ek]
          exact .cons (.str q.1 t) ih'
theorem kvt_vals (I : Inv X pins σ H s) {P : Program} {w : World} {es : List DictEntry} {vs : List (Key × Value)} (hp : Pairs (mixKind P w) es vs) : ∀ {kvs : List (Key × V)} {m : List (Str × PyData)}, KV kvs vs → KvT X.K H kvs m → ReadsAll s.heap (es.map (·.val)) (m.map Prod.snd) [] := by
  induction hp with
  | nil =>
    intro kvs m k r
    cases k
    cases r
    exact .nil
  | @cons e kv es vs h1 h2 h3 ih =>
    intro kvs m k r
    cases k with
    | cons k1 k2 =>
      cases r with
      | @cons _ q _ m' r1 r2 =>
        have ih' := ih k2 r2
        show ReadsAll s.heap (e.val :: es.map (·.val)) (q.2 :: m'.map Prod.snd) ([] ++ [])
        rw [h2]
        exact .cons (dt_reads I q.2 _ _ r1.2 k1.2) ih'
mutual
theorem dq_reads (I : Inv X pins σ H s) {p : Addr} : ∀ (d : PyData) (v : V) (u : Value), Dq X.K H p v d → RelV v u → ∃ as, Reads s.heap u d as ∧ sysModules ∉ as
  | .none, v, u, h, r => by cases h with | t h => exact ⟨_, dt_reads I _ v u h r, by simp⟩
  | .bool b, v, u, h, r => by cases h with | t h => exact ⟨_, dt_reads I _ v u h r, by simp⟩
  | .int i, v, u, h, r => by cases h with | t h => exact ⟨_, dt_reads I _ v u h r, by simp⟩
  | .str x, v, u, h, r => by cases h with | t h => exact ⟨_, dt_reads I _ v u h r, by simp⟩
  | .list ds, v, u, h, r => by
    cases h with
    | t h => cases h
    | lst h1 h2 h4 h3 =>
      cases r
      obtain ⟨z, its, n, rv, ho⟩ := I.hok _ _ h1
      refine ⟨_, .list ho rfl rfl (dts_reads I ds _ its h3 rv), fun hm => ?_⟩
      rw [← List.mem_singleton.mp hm] at h2
      exact absurd h2 (by simp)
  | .dict mm, v, u, h, r => by
    cases h with
    | t h => cases h
    | @dct a kvs m h1 h2 =>
      cases r
      obtain ⟨_, hsm, vs, hkv, o, es, ep, ho, hx, hd, _, hpr, _⟩ := dk_of I.hok h1
      have q := Reads.dict (kvs := m.map fun q => (PyData.str q.1, q.2)) ho hx.1 hd (by rw [List.map_map]; exact kvt_keys (X := X) (H := H) hpr hkv h2) (by rw [List.map_map]; exact kvt_vals I hpr hkv h2)
      refine ⟨_, q, fun hm => ?_⟩
      rcases List.mem_append.mp hm with hm | hm
      · rw [← List.mem_singleton.mp hm] at hsm
        exact absurd hsm (by simp)
      · cases hm
  | .tuple ds, v, u, h, r => by
    cases h with
    | t h => exact ⟨_, dt_reads I _ v u h r, by simp⟩
    | tup hs ha =>
      cases r
      obtain ⟨its, rv, ⟨o, ho, hc, n, hd⟩, _⟩ := I.tuple hs
      obtain ⟨as, q1, q2⟩ := dqs_reads I ds _ its ha rv
      exact ⟨as, .tuple ho hc hd q1, q2⟩
theorem dqs_reads (I : Inv X pins σ H s) {p : Addr} : ∀ (ds : List PyData) (vs : List V) (us : List Value), DqAll X.K H p vs ds → Vals vs us → ∃ as, ReadsAll s.heap us ds as ∧ sysModules ∉ as
  | [], _, _, h, r => by cases h; cases r; exact ⟨_, .nil, by simp⟩
  | d :: ds, _, _, h, r => by
    cases h with
    | cons a b =>
      cases r with
      | cons r1 r2 =>
        obtain ⟨as, q1, q2⟩ := dq_reads I d _ _ a r1
        obtain ⟨bs, q3, q4⟩ := dqs_reads I ds _ _ b r2
        exact ⟨_, .cons q1 q3, fun hm => (List.mem_append.mp hm).elim q2 q4⟩
end
end
section
variable {X : Cx}
/-- repr(x), x any such value -/
def rReprQ (K : PySem.W.Frag) : List V → Hp → VK → Prop := fun xs H Q => ∃ (v : V) (d : PyData) (p : Addr), xs = [v] ∧ Dq K H p v d ∧ d.showable = true ∧ d.depth ≤ 60 ∧ d.shown.length ≤ sizeLine ∧ (∀ i, d = .int i → i.natAbs.log2 < 1920) ∧ Q (.str d.shown) H
theorem call_reprQ {j : Nat} (hr : RoomG j X.A) : CallR X (.builtin "repr") (rReprQ X.K) := by
  intro pins s σ H xs us Q I r h
  obtain ⟨v, d, p, rfl, hd, hs, hdp, hz, hi, q⟩ := h
  obtain ⟨u, rfl, ru⟩ := vals1 r
  obtain ⟨as, rd, hm⟩ := dq_reads I d v u hd ru
  have hun := hr.toRoom.units
  have main : ∀ a : Addr, v = .ref a → wpAny (model X.prog X.w) X.A (call (.builtin "repr") [u]) (EP X pins σ Q) X.xe s := fun a ea => by
    subst ea
    cases (show u = Value.ref a from ru)
    exact repr_of_reads' rd hs (fun _ => hm) hr.gs (by omega) (fun b o e => e) (fun h' u tk hk => ⟨.str d.shown, H, I.kept (t' := tk) hk, ⟨_, rfl⟩, q⟩) hz
  cases hd with
  | tup _ _ => exact main _ rfl
  | lst _ _ _ _ => exact main _ rfl
  | dct _ _ => exact main _ rfl
  | t ht =>
    cases ht with
    | tup _ _ => exact main _ rfl
    | non =>
      cases ru
      exact PySem.P.repr_of_none ⟨.str "None", H, I.tok _, ⟨_, rfl⟩, q⟩
    | bl b =>
      cases ru
      exact PySem.P.repr_of_bool ⟨.str (if b then "True" else "False"), H, I.tok _, ⟨_, rfl⟩, by cases b <;> exact q⟩
    | int i =>
      obtain ⟨t, rfl⟩ := ru
      exact PySem.P.repr_of_int (hi i rfl) ⟨.str (toString i), H, I.tok _, ⟨_, rfl⟩, q⟩
    | str x =>
      obtain ⟨t, rfl⟩ := ru
      exact PySem.P.repr_of_str ⟨.str (reprText x), H, I.tok _, ⟨_, rfl⟩, q⟩ hz
end
/-! ### it stays -/
section
variable {K : PySem.W.Frag} {H H' : Hp} {p : Addr}
mutual
theorem dt_stay (s : Stay K H H') : ∀ (d : PyData) (v : V), Dt K H v d → Dt K H' v d
  | .none, _, h => by cases h; exact .non
  | .bool b, _, h => by cases h; exact .bl b
  | .int i, _, h => by cases h; exact .int i
  | .str x, _, h => by cases h; exact .str x
  | .list _, _, h => by cases h
  | .dict _, _, h => by cases h
  | .tuple ds, _, h => by
    cases h with
    | tup hs ha => exact .tup (s.tup _ _ hs) (dts_stay s ds _ ha)
theorem dts_stay (s : Stay K H H') : ∀ (ds : List PyData) (vs : List V), DtAll K H vs ds → DtAll K H' vs ds
  | [], _, h => by cases h; exact .nil
  | d :: ds, _, h => by
    cases h with
    | cons a b => exact .cons (dt_stay s d _ a) (dts_stay s ds _ b)
end
theorem kvt_stay (s : Stay K H H') {kvs : List (Key × V)} {m : List (Str × PyData)} (h : KvT K H kvs m) : KvT K H' kvs m := Paired.mapP h fun _ q ⟨e, z⟩ => ⟨e, dt_stay s q.2 _ z⟩
mutual
theorem dq_bar (b : Bar p H H') (hp : Pen H p) (s : Stay K H H') : ∀ (d : PyData) (v : V), Dq K H p v d → Dq K H' p v d
  | .none, _, h => by cases h with | t h => exact .t (dt_stay s _ _ h)
  | .bool _, _, h => by cases h with | t h => exact .t (dt_stay s _ _ h)
  | .int _, _, h => by cases h with | t h => exact .t (dt_stay s _ _ h)
  | .str _, _, h => by cases h with | t h => exact .t (dt_stay s _ _ h)
  | .list ds, _, h => by
    cases h with
    | t h => cases h
    | lst h1 h2 h4 h3 => exact .lst (b _ _ h4 h1) h2 h4 (dts_stay s ds _ h3)
  | .dict mm, _, h => by
    cases h with
    | t h => cases h
    | dct h1 h2 => exact .dct (b _ _ (fun e => by
        obtain ⟨i, j, k, z, _⟩ := hp
        rw [e, z] at h1
        cases h1) h1) (kvt_stay s h2)
  | .tuple ds, _, h => by
    cases h with
    | t h => exact .t (dt_stay s _ _ h)
    | tup hs ha => exact .tup (s.tup _ _ hs) (dqs_bar b hp s ds _ ha)
theorem dqs_bar (b : Bar p H H') (hp : Pen H p) (s : Stay K H H') : ∀ (ds : List PyData) (vs : List V), DqAll K H p vs ds → DqAll K H' p vs ds
  | [], _, h => by cases h; exact .nil
  | d :: ds, _, h => by
    cases h with
    | cons a c => exact .cons (dq_bar b hp s d _ a) (dqs_bar b hp s ds _ c)
end
mutual
theorem dq_same (b : Same H H') : ∀ (d : PyData) (v : V), Dq K H p v d → Dq K H' p v d
  | .none, _, h => by cases h with | t h => exact .t (dt_stay (stay_same b) _ _ h)
  | .bool _, _, h => by cases h with | t h => exact .t (dt_stay (stay_same b) _ _ h)
  | .int _, _, h => by cases h with | t h => exact .t (dt_stay (stay_same b) _ _ h)
  | .str _, _, h => by cases h with | t h => exact .t (dt_stay (stay_same b) _ _ h)
  | .list ds, _, h => by
    cases h with
    | t h => cases h
    | lst h1 h2 h4 h3 => exact .lst (b _ _ h1) h2 h4 (dts_stay (stay_same b) ds _ h3)
  | .dict mm, _, h => by
    cases h with
    | t h => cases h
    | dct h1 h2 => exact .dct (b _ _ h1) (kvt_stay (stay_same b) h2)
  | .tuple ds, _, h => by
    cases h with
    | t h => exact .t (dt_stay (stay_same b) _ _ h)
    | tup hs ha => exact .tup ((stay_same b).tup _ _ hs) (dqs_same b ds _ ha)
theorem dqs_same (b : Same H H') : ∀ (ds : List PyData) (vs : List V), DqAll K H p vs ds → DqAll K H' p vs ds
  | [], _, h => by cases h; exact .nil
  | d :: ds, _, h => by
    cases h with
    | cons a c => exact .cons (dq_same b d _ a) (dqs_same b ds _ c)
end
end
end N

namespace N
open PySem PySem.Spec PyProof.Rows L2
/-! ### dicts whose keys are tuples of tuples -/
mutual
/-- the value is this key -/
inductive NkV (K : PySem.W.Frag) (H : Hp) : V → NestedKey → Prop
  | int (i : Int) : NkV K H (.int i) (.num i)
  | str (x : Str) : NkV K H (.str x) (.text x)
  | tup {a : Addr} {xs : List V} {ks : List NestedKey} : SqT K H a xs → NkAll K H xs ks → NkV K H (.ref a) (.tup ks)
inductive NkAll (K : PySem.W.Frag) (H : Hp) : List V → List NestedKey → Prop
  | nil : NkAll K H [] []
  | cons {v : V} {vs : List V} {k : NestedKey} {ks : List NestedKey} : NkV K H v k → NkAll K H vs ks → NkAll K H (v :: vs) (k :: ks)
end
section
variable {X : Cx} {pins : List (Addr × Obj)} {σ : L2.St} {H : Hp} {s : Shared}
mutual
theorem nk_is (I : Inv X pins σ H s) : ∀ (k : NestedKey) (v : V) (u : Value), NkV X.K H v k → RelV v u → NestedIs s.heap k u
  | .none, _, _, h, _ => by cases h
  | .num i, _, _, h, r => by cases h; obtain ⟨t, rfl⟩ := r; exact .int i t
  | .text x, _, _, h, r => by cases h; obtain ⟨t, rfl⟩ := r; exact .text x t
  | .tup ks, _, _, h, r => by
    cases h with
    | tup hs ha =>
      cases r
      obtain ⟨its, rv, ⟨o, ho, hc, n, hd⟩, _⟩ := I.tuple hs
      exact .tup ho hc hd (by simpa using nks_is I ks _ its ha rv)
theorem nks_is (I : Inv X pins σ H s) : ∀ (ks : List NestedKey) (vs : List V) (us : List Value), NkAll X.K H vs ks → Vals vs us → NestedAll s.heap ks us
  | [], _, _, h, r => by cases h; cases r; exact .nil
  | k :: ks, _, _, h, r => by
    cases h with
    | cons a b =>
      cases r with
      | cons r1 r2 => exact .cons (nk_is I k _ _ a r1) (nks_is I ks _ _ b r2)
end
end
section
variable {K : PySem.W.Frag} {H H' : Hp}
mutual
theorem nk_stay (s : Stay K H H') : ∀ (k : NestedKey) (v : V), NkV K H v k → NkV K H' v k
  | .none, _, h => by cases h
  | .num i, _, h => by cases h; exact .int i
  | .text x, _, h => by cases h; exact .str x
  | .tup ks, _, h => by
    cases h with
    | tup hs ha => exact .tup (s.tup _ _ hs) (nks_stay s ks _ ha)
theorem nks_stay (s : Stay K H H') : ∀ (ks : List NestedKey) (vs : List V), NkAll K H vs ks → NkAll K H' vs ks
  | [], _, h => by cases h; exact .nil
  | k :: ks, _, h => by
    cases h with
    | cons a b => exact .cons (nk_stay s k _ a) (nks_stay s ks _ b)
end
mutual
theorem nk_dt : ∀ (k : NestedKey) (v : V), NkV K H v k → Dt K H v k.data
  | .none, _, h => by cases h
  | .num i, _, h => by cases h; exact .int i
  | .text x, _, h => by cases h; exact .str x
  | .tup ks, _, h => by
    cases h with
    | tup hs ha => exact .tup hs (nks_dt ks _ ha)
theorem nks_dt : ∀ (ks : List NestedKey) (vs : List V), NkAll K H vs ks → DtAll K H vs (NestedKey.datas ks)
  | [], _, h => by cases h; exact .nil
  | k :: ks, _, h => by
    cases h with
    | cons a b => exact .cons (nk_dt k _ a) (nks_dt ks _ b)
end
end
theorem stay_ext {K : PySem.W.Frag} {H : Hp} {d : Addr} {φ ψ : Heap → Prop} (e : H d = some (.ext φ)) : Stay K H (upd H d (.ext ψ)) := by
  have k : ∀ a o, H a = some o → (∀ χ, o ≠ .ext χ) → (upd H d (.ext ψ)) a = some o := fun a o q n => by
    rw [upd_ne fun z => by
      rw [z, e] at q
      exact n φ (Option.some.inj q).symm]
    exact q
  refine ⟨fun a xs q => ?_, fun v t q => ?_⟩
  · rcases q with (q | ⟨o, q⟩) | q
    · exact .inl (.inl (k _ _ q fun _ z => by cases z))
    · exact .inl (.inr ⟨o, k _ _ q fun _ z => by cases z⟩)
    · exact .inr q
  · cases q with
    | base b =>
      cases b with
      | non => exact .base .non
      | bl x => exact .base (.bl x)
      | int i => exact .base (.int i)
      | str x => exact .base (.str x)
      | flt x => exact .base (.flt x)
      | lst e => exact .base (.lst (k _ _ e fun _ z => by cases z))
      | frz e => exact .base (.frz (k _ _ e fun xs z => by cases z))
      | tup e => exact .base (.tup (k _ _ e fun xs z => by cases z))
      | dK e => exact .base (.dK (k _ _ e fun xs z => by cases z))
      | dT e => exact .base (.dT (k _ _ e fun xs z => by cases z))
      | ins e cl ha hn htk hm => exact .base (.ins (k _ _ e fun xs z => by cases z) cl ha hn htk hm)
    | byt b => exact .byt b
    | set e => exact .set (k _ _ e fun xs z => by cases z)
    | kList e c => exact .kList e c
    | kTuple e c => exact .kTuple e c
    | kDict e c => exact .kDict e c
    | fTuple e => exact .fTuple (k _ _ e fun xs z => by cases z)
    | fDict e => exact .fDict (k _ _ e fun xs z => by cases z)
/-- the object of such a dict -/
def RawD (P : Program) (w : World) (d : Addr) (xs : List (NestedKey × Addr × Value)) : Heap → Prop := fun h => ∃ o es ep, h.get? d = some o ∧ o.ExactDict ∧ o.data = .dict es ep ∧ es.toList = xs.map (entryOfKey (nestedKind P w))
def KTn (K : PySem.W.Frag) (H : Hp) : List (NestedKey × V) → List (NestedKey × Addr × Value) → Prop := Paired fun p q => p.1 = q.1 ∧ (NkV K H (.ref q.2.1) p.1 ∧ p.1.depth ≤ 8) ∧ RelV p.2 q.2.2
/-- at d a dict with these keys and values, in the order of insertion -/
def DN (P : Program) (w : World) (K : PySem.W.Frag) (H : Hp) (d : Addr) (kvs : List (NestedKey × V)) : Prop := kvs.length ≤ sizeLine ∧ (d == sysModules) = false ∧ ∃ xs, H d = some (.ext (RawD P w d xs)) ∧ KTn K H kvs xs ∧ (xs.map (·.1)).Nodup
section
variable {K : PySem.W.Frag} {H H' : Hp} {P : Program} {w : World} {d : Addr} {kvs : List (NestedKey × V)} {xs : List (NestedKey × Addr × Value)}
theorem KTn.stay (s : Stay K H H') (h : KTn K H kvs xs) : KTn K H' kvs xs := Paired.mapP h fun _ _ z => ⟨z.1, ⟨nk_stay s _ _ z.2.1.1, z.2.1.2⟩, z.2.2⟩
/-- it stays where its object and the tuples stay -/
theorem DN.keep (s : Stay K H H') (hd : ∀ o, H d = some o → H' d = some o) (h : DN P w K H d kvs) : DN P w K H' d kvs := by
  obtain ⟨a, b, xs, c, e, n⟩ := h
  exact ⟨a, b, xs, hd _ c, e.stay s, n⟩
theorem DN.same (s : Same H H') (h : DN P w K H d kvs) : DN P w K H' d kvs := h.keep (stay_same s) (s d)
def valN {β : Type} (kvs : List (NestedKey × β)) (k : NestedKey) : Option β := (kvs.find? fun p => decide (p.1 = k)).map Prod.snd
def putN (kvs : List (NestedKey × V)) (k : NestedKey) (v : V) : List (NestedKey × V) := if (kvs.any fun kv => decide (kv.1 = k)) = true then kvs.map fun kv => if kv.1 = k then (kv.1, v) else kv else kvs ++ [(k, v)]
theorem KTn.val (r : KTn K H kvs xs) (k : NestedKey) : RelO (valN kvs k) ((atKey xs k).map (·.2)) := by
  induction r with
  | nil => exact True.intro
  | @cons p q ps qs h t ih =>
    obtain ⟨h1, _, h2⟩ := h
    by_cases e : p.1 = k
    · have e' : q.1 = k := h1.symm.trans e
      have b : atKey (q :: qs) k = some q.2 := by simp [atKey, List.find?_cons, e']
      have a : valN (p :: ps) k = some p.2 := by simp [valN, List.find?_cons, e]
      rw [a, b]; exact h2
    · have e' : ¬ q.1 = k := fun z => e (h1.trans z)
      have b : atKey (q :: qs) k = atKey qs k := by simp [atKey, List.find?_cons, e']
      have a : valN (p :: ps) k = valN ps k := by simp [valN, List.find?_cons, e]
      rw [a, b]; exact ih
theorem KTn.repl (r : KTn K H kvs xs) (k : NestedKey) {y : V} {u : Value} (ry : RelV y u) : KTn K H (kvs.map fun kv => if kv.1 = k then (kv.1, y) else kv) (xs.map (putAt k u)) := by
  induction r with
  | nil => exact .nil
  | @cons p q ps qs h t ih =>
    rw [List.map_cons, List.map_cons]
    refine .cons ?_ ih
    obtain ⟨h1, h2, h3⟩ := h
    unfold putAt
    by_cases e : p.1 = k
    · rw [if_pos e, if_pos (h1.symm.trans e)]; exact ⟨h1, h2, ry⟩
    · rw [if_neg e, if_neg (fun z => e (h1.trans z))]; exact ⟨h1, h2, h3⟩
theorem valN_any (kvs : List (NestedKey × V)) (k : NestedKey) : (kvs.any fun kv => decide (kv.1 = k)) = (valN kvs k).isSome := by
  induction kvs with
  | nil => rfl
  | cons p ps ih =>
    by_cases e : p.1 = k
    · simp [valN, List.find?_cons, e]
    · have a : valN (p :: ps) k = valN ps k := by simp [valN, List.find?_cons, e]
      rw [a, ← ih, List.any_cons, decide_eq_false e, Bool.false_or]
theorem KTn.put (r : KTn K H kvs xs) (k : NestedKey) {b : Addr} {y : V} {u : Value} (hb : NkV K H (.ref b) k ∧ k.depth ≤ 8) (ry : RelV y u) : KTn K H (putN kvs k y) (storedH xs k b u) := by
  have e : (kvs.any fun kv => decide (kv.1 = k)) = (atKey xs k).isSome := by
    rw [valN_any, (r.val k).isSome_eq, Option.isSome_map]
  unfold putN storedH
  rw [e]
  by_cases q : (atKey xs k).isSome = true
  · rw [if_pos q, if_pos q]; exact r.repl k ry
  · rw [if_neg q, if_neg q]; exact Paired.snoc r ⟨rfl, hb, ry⟩
theorem putN_length (kvs : List (NestedKey × V)) (k : NestedKey) (v : V) : (putN kvs k v).length ≤ kvs.length + 1 := by
  unfold putN
  split
  · rw [List.length_map]; omega
  · rw [List.length_append]; exact Nat.le_refl _
end
section
variable {X : Cx} {pins : List (Addr × Obj)} {σ : L2.St} {H : Hp} {s : Shared} {d a : Addr} {kvs : List (NestedKey × V)} {k : NestedKey} {v : V} {r : Value} {A : Around} {E : Value → Shared → Prop}
theorem dn_of (I : Inv X pins σ H s) (h : DN X.prog X.w X.K H d kvs) : kvs.length ≤ sizeLine ∧ (d == sysModules) = false ∧ ∃ xs, H d = some (.ext (RawD X.prog X.w d xs)) ∧ KTn X.K H kvs xs ∧ s.heap.DictOfH (nestedKind X.prog X.w) d xs := by
  obtain ⟨z, y, xs, e, q, n⟩ := h
  obtain ⟨⟨o, es, ep, h1, h2, h3, h4⟩, _, _⟩ := (show ObjOk X.prog X.w H s.heap d (.ext (RawD X.prog X.w d xs)) from I.hok d _ e)
  refine ⟨z, y, xs, e, q, o, es, ep, h1, h2, h3, h4, fun x hx => ?_, n⟩
  have all : ∀ {l : List (NestedKey × V)} {m : List (NestedKey × Addr × Value)}, KTn X.K H l m → ∀ x ∈ m, (nestedKind X.prog X.w).is s.heap x.1 x.2.1 := by
    intro l m q
    induction q with
    | nil => intro x hx; exact nomatch hx
    | @cons p q ps qs hq t ih =>
      intro x hx
      rcases List.mem_cons.mp hx with e | hx
      · subst e
        rw [← hq.1]
        exact ⟨nk_is I _ _ _ hq.2.1.1 rfl, hq.2.1.2⟩
      · exact ih x hx
  exact all q x hx
theorem nk_key (I : Inv X pins σ H s) (h : NkV X.K H (.ref a) k) (hd : k.depth ≤ 8) : (nestedKind X.prog X.w).is s.heap k a := ⟨nk_is I _ _ _ h rfl, hd⟩
/-- d[k] -/
theorem dn_getItem {Q : Value → Shared → Prop} (hu : A.units + 9 < cLine) (I : Inv X pins σ H s) (h : DN X.prog X.w X.K H d kvs) (hk : NkV X.K H (.ref a) k) (hd : k.depth ≤ 8) (l : valN kvs k = some v) (q : ∀ w' s', Inv X pins σ H s' → RelV v w' → Q w' s') :
    wpAny (model X.prog X.w) A (getItem (.ref d) (.ref a)) Q E s := by
  obtain ⟨z, hs, xs, _, rel, dd⟩ := dn_of I h
  obtain ⟨w', hw, rw'⟩ := RelO.some_of (v := v) (o := (atKey xs k).map (·.2)) (by rw [← l]; exact rel.val k)
  obtain ⟨p, hp, hp2⟩ := Option.map_eq_some_iff.mp hw
  refine wpAny_getItem_heap (by show A.units + 1 + 8 < cLine; omega) (nk_key I hk hd) dd hp ?_
  rw [hp2]
  exact q w' _ (I.tok _) rw'
/-- d[k] = v -/
theorem dn_setItem {Q : Unit → Shared → Prop} (hu : A.units + 9 < cLine) (I : Inv X pins σ H s) (h : DN X.prog X.w X.K H d kvs) (hk : NkV X.K H (.ref a) k) (hd : k.depth ≤ 8) (rv : RelV v r) (hl : kvs.length < sizeLine)
    (q : ∀ H' s', Inv X pins σ H' s' → (∀ b, b ≠ d → H' b = H b) → (∃ φ, H' d = some (.ext φ)) → DN X.prog X.w X.K H' d (putN kvs k v) → Q () s') : wpAny (model X.prog X.w) A (setItem (.ref d) (.ref a) r) Q E s := by
  obtain ⟨z, hs, xs, e, rel, dd⟩ := dn_of I h
  have hz : xs.length ≤ sizeLine := by rw [← Paired.length rel]; exact z
  have hl2 : (putN kvs k v).length ≤ sizeLine := by have := putN_length kvs k v; omega
  refine wpAny_setItem_heap (hsz := hz) (by show A.units + 1 + 8 < cLine; omega) (nk_key I hk hd) dd fun h' dd' hs' => ?_
  obtain ⟨o, es, ep, hq, h2, h3, h4, _, h5⟩ := dd'
  have st : Stay X.K H (upd H d (.ext (RawD X.prog X.w d (storedH xs k a r)))) := stay_ext e
  refine q (upd H d (.ext (RawD X.prog X.w d (storedH xs k a r)))) _ (d_write I (by rw [e]; exact True.intro) hs' ⟨o, hq⟩ ?_) (fun b hb => upd_ne hb) ⟨_, upd_same⟩ ⟨hl2, hs, _, upd_same, (rel.put k ⟨hk, hd⟩ rv).stay st, h5⟩
  refine ⟨⟨o, es, ep, hq, h2, h3, h4⟩, ⟨o, hq⟩, fun h1 h2 ⟨o', es', ep', a1, a2, a3, a4⟩ kp => ⟨o', es', ep', kp _ a1, a2, a3, a4⟩⟩
end
end N

namespace N
open PySem PySem.Spec PyProof.Rows L2
/-! ### such dicts: the rules -/
section
variable {X : Cx} {pins : List (Addr × Obj)} {σ : L2.St} {H : Hp} {s : Shared} {d a : Addr} {kvs : List (NestedKey × V)} {k : NestedKey} {v : V} {r : Value} {A : Around} {E : Value → Shared → Prop}
theorem dn_type (I : Inv X pins σ H s) (h : DN X.prog X.w X.K H d kvs) : s.TypeIs (.ref d) "dict" ∧ (∀ b, Value.ref d = .ref b → ∃ ob, s.heap.get? b = some ob ∧ ob.dict = none) := by
  obtain ⟨_, hd, xs, _, _, dd⟩ := dn_of I h
  refine ⟨dd.typeIs, fun b q => ?_⟩
  cases q
  obtain ⟨ob, _, _, h1, h2, _⟩ := dd
  exact ⟨ob, h1, h2.2.1⟩
theorem relO_getD {o : Option V} {o' : Option Value} {x : V} {u : Value} (h : RelO o o') (hx : RelV x u) : RelV (o.getD x) (o'.getD u) := h.getD hx
/-- d.get(k, x) -/
theorem dn_get2 {Q : Value → Shared → Prop} (hu : A.units + 9 < cLine) (I : Inv X pins σ H s) (h : DN X.prog X.w X.K H d kvs) (hk : NkV X.K H (.ref a) k) (hd : k.depth ≤ 8) (rd : RelV v r) (q : ∀ w' s', Inv X pins σ H s' → RelV ((valN kvs k).getD v) w' → Q w' s') :
    wpAny (model X.prog X.w) A (call (.builtin "dict.get") [.ref d, .ref a, r]) Q E s := by
  obtain ⟨z, hs, xs, _, rel, dd⟩ := dn_of I h
  exact call_meetsIn PySem.F.slot_dict_get dd.typeIs PySem.F.entry_dict_get (PySem.F.args_dict_get_3 _ _ _) (meetsH_dict_get_default (nestedKind X.prog X.w) d a hs r) ⟨by show A.units + 1 + 8 < cLine; omega, k, xs, nk_key I hk hd, dd, q _ _ (I.tok _) ((rel.val k).getD rd)⟩
end
def tNGet (P : Program) (w : World) (K : PySem.W.Frag) (td ty : TE) : TE := fun σ H Q => td σ H fun x H1 => ty σ H1 fun y H2 => ∃ a b kvs k v, x = .ref a ∧ y = .ref b ∧ DN P w K H2 a kvs ∧ NkV K H2 (.ref b) k ∧ k.depth ≤ 8 ∧ valN kvs k = some v ∧ Q v H2
def tNGet2 (P : Program) (w : World) (K : PySem.W.Frag) (td ty tx : TE) : TE := fun σ H Q => td σ H fun x H1 => ∃ a kv0, x = .ref a ∧ DN P w K H1 a kv0 ∧ ty σ H1 fun y H2 => tx σ H2 fun z H3 => ∃ b kvs k, y = .ref b ∧ DN P w K H3 a kvs ∧ NkV K H3 (.ref b) k ∧ k.depth ≤ 8 ∧ Q ((valN kvs k).getD z) H3
def sNPut (P : Program) (w : World) (K : PySem.W.Frag) (td ty tv : TE) : TS := fun D σ H => tv σ H fun v H1 => td σ H1 fun x H2 => ty σ H2 fun y H3 => ∃ a b kvs k, x = .ref a ∧ y = .ref b ∧ DN P w K H3 a kvs ∧ kvs.length < sizeLine ∧ NkV K H3 (.ref b) k ∧ k.depth ≤ 8 ∧
  ∀ H4, (∀ c, c ≠ a → H4 c = H3 c) → (∃ φ, H4 a = some (.ext φ)) → DN P w K H4 a (putN kvs k v) → D.nx σ H4
/-- {} -/
def tNNew (P : Program) (w : World) (K : PySem.W.Frag) : TE := fun _ H Q => ∀ p, H p = none → ∀ H', Same H H' → H' = upd H p (.ext (RawD P w p [])) → DN P w K H' p [] → Q (.ref p) H'
section
variable {X : Cx} {o i e f value : Expr} {pos pos' apos cpos : Pos} {td ty tx tv : TE}
theorem pe_nnew : PE X (.Dict [] [] pos) (tNNew X.prog X.w X.K) := ⟨fun pins s σ H Q I h => by
  have hn := I.hok.fresh (Nat.le_refl s.heap.objs.size)
  have sy : (s.heap.objs.size == sysModules) = false := beq_eq_false_iff_ne.mpr (Nat.ne_of_gt I.big)
  have ho : (s.heap.push { cls := .type "dict", data := .dict #[] }).get? s.heap.objs.size = some { cls := .type "dict", data := .dict #[] } := Heap.get?_push_size _ rfl
  have raw : RawD X.prog X.w s.heap.objs.size [] (s.heap.push { cls := .type "dict", data := .dict #[] }) := ⟨_, #[], 0, ho, ⟨rfl, rfl, rfl⟩, rfl, rfl⟩
  refine wpAny_Dict_empty ⟨.ref s.heap.objs.size, _, I.laid (a := s.heap.objs.size) (o := .ext (RawD X.prog X.w s.heap.objs.size [])) (t' := s.toks) (fun _ _ q => Heap.get?_push_of_some _ q) (Nat.le_refl _) ⟨raw, ⟨_, ho⟩, fun h1 h2 ⟨o', es', ep', a1, a2, a3, a4⟩ kp => ⟨o', es', ep', kp _ a1, a2, a3, a4⟩⟩, rfl, h _ hn _ (same_new hn _) rfl ⟨Nat.zero_le _, sy, [], upd_same, .nil, List.nodup_nil⟩⟩⟩
theorem pe_nget (hu : X.A.units + 9 < cLine) (ho : PE X o td) (hi : PE X i ty) (hs : NoSl i) : PE X (.Subscript o i pos) (tNGet X.prog X.w X.K td ty) := by
  refine ⟨fun pins s σ H Q I h => ?_⟩
  refine subD_of PySem.F.slot_dict_getitem.lookup hs (thn (ho.run pins s σ H _ I h) fun u s1 ⟨x, H1, I1, rx, q1⟩ => thn (hi.run pins s1 σ H1 _ I1 q1) fun iv s2 ⟨y, H2, I2, ry, a, b, kvs, k, v, ex, ey, hd, hk, h8, l, q2⟩ => ?_)
  subst ex ey
  obtain rfl : u = Value.ref a := rx
  obtain rfl : iv = Value.ref b := ry
  exact ⟨(dn_type I2 hd).1, dn_getItem hu I2 hd hk h8 l fun w' s3 I3 rw' => ⟨v, H2, I3, rw', q2⟩⟩
theorem pe_nget2 (hu : X.A.units + 9 < cLine) (ho : PE X o td) (he : PE X e ty) (hf : PE X f tx) (m : M2 X o "get" apos e f cpos) : PE X (.Call (.Attribute o "get" apos) [e, f] [] cpos) (tNGet2 X.prog X.w X.K td ty tx) := by
  refine ⟨fun pins s σ H Q I h => ?_⟩
  refine wpAny_Call_method m.base m.few m.line PySem.F.plainAttrs_dict PySem.F.slot_dict_get PySem.F.type_dict_get (thn (ho.run pins s σ H _ I h) fun u s1 ⟨x, H1, I1, rx, a, kv0, ex, d, q1⟩ => ?_)
  subst ex
  obtain rfl : u = Value.ref a := rx
  obtain ⟨t1, t2⟩ := dn_type I1 d
  refine ⟨t1, t2, ?_⟩
  rw [m.trees]
  refine Calls.callWith_builtin rfl (Calls.evalArgs_plain (Calls.spliced_cons (thn (he.run pins s1 σ H1 _ I1 q1) fun iv s2 ⟨y, H2, I2, ry, q2⟩ =>
    Calls.spliced_cons (thn (hf.run pins s2 σ H2 _ I2 q2) fun fv s3 ⟨z, H3, I3, rz, b, kvs, k, ey, hd, hk, h8, q3⟩ => Calls.spliced_nil ?_))))
  subst ey
  obtain rfl : iv = Value.ref b := ry
  exact dn_get2 hu I3 hd hk h8 rz fun w' s4 I4 rw' => ⟨_, H3, I4, rw', q3⟩
theorem ps_nput (hu : X.A.units + 9 < cLine) (ho : PE X o td) (hi : PE X i ty) (hv : PE X value tv) (hs : swapsWith value (some (.Subscript o i pos')) pos.line X.env = pure false) :
    PS X (.Assign [.Subscript o i pos'] value pos) (sNPut X.prog X.w X.K td ty tv) := by
  refine ⟨fun pins s σ H D I h => ?_⟩
  refine wpAny_Assign_Subscript (thn (hv.run pins s σ H _ I h) fun r s1 ⟨v, H1, I1, rv, q1⟩ => thn (ho.run pins s1 σ H1 _ I1 q1) fun u s2 ⟨x, H2, I2, rx, q2⟩ => thn (hi.run pins s2 σ H2 _ I2 q2) fun iv s3 ⟨y, H3, I3, ry, a, b, kvs, k, ex, ey, hd, hl, hk, h8, q3⟩ => ?_) hs
  subst ex ey
  obtain rfl : u = Value.ref a := rx
  obtain rfl : iv = Value.ref b := ry
  exact dn_setItem hu I3 hd hk h8 rv hl fun H4 s4 I4 h1 h2 h3 => ⟨σ, H4, I4, q3 H4 h1 h2 h3⟩
end
/-! list(d), sorted(d), sorted of its keys -/
def PsOk (K : PySem.W.Frag) (H : Hp) (ps : List (NestedKey × Addr)) : Prop := ∀ p ∈ ps, NkV K H (.ref p.2) p.1 ∧ p.1.depth ≤ 8
def psV (ps : List (NestedKey × Addr)) : List V := ps.map fun p => V.ref p.2
theorem psV_vals : ∀ ps : List (NestedKey × Addr), Vals (psV ps) (ps.map fun p => Value.ref p.2)
  | [] => .nil
  | p :: ps => .cons rfl (psV_vals ps)
theorem vals_psV : ∀ {ps : List (NestedKey × Addr)} {us : List Value}, Vals (psV ps) us → us = ps.map fun p => Value.ref p.2
  | [], _, r => by cases r; rfl
  | p :: ps, _, r => by
    cases r with
    | cons h t =>
      rw [List.map_cons, ← vals_psV t]
      exact congrArg (· :: _) h
section
variable {X : Cx} {pins : List (Addr × Obj)} {σ : L2.St} {H : Hp} {s : Shared} {d : Addr} {kvs : List (NestedKey × V)}
/-- the entries of such a dict -/
theorem dn_keys (I : Inv X pins σ H s) (h : DN X.prog X.w X.K H d kvs) : (d == sysModules) = false ∧ ∃ (o : Obj) (es : Array DictEntry) (ep : Nat) (ps : List (NestedKey × Addr)), s.heap.get? d = some o ∧ o.ExactDict ∧ o.data = .dict es ep ∧ es.size = ps.length ∧ ps.length ≤ sizeLine ∧ PsOk X.K H ps ∧ ps.map Prod.fst = kvs.map Prod.fst ∧
    ∀ acc : Array Value, ItemsOf (fun i v => ∃ en : DictEntry, es[i]? = some en ∧ v = en.key) acc es.size → acc.toList = ps.map fun p => Value.ref p.2 := by
  obtain ⟨z, y, xs, e, rel, o, es, ep, h1, h2, h3, h4, h5, h6⟩ := dn_of I h
  have l1 : es.size = xs.length := size_of_entries h4
  have l2 : kvs.length = xs.length := Paired.length rel
  have kk : ∀ {l : List (NestedKey × V)} {m : List (NestedKey × Addr × Value)}, KTn X.K H l m → (m.map fun x => (x.1, x.2.1)).map Prod.fst = l.map Prod.fst ∧ PsOk X.K H (m.map fun x => (x.1, x.2.1)) := by
    intro l m q
    induction q with
    | nil => exact ⟨rfl, fun p hp => by cases hp⟩
    | @cons p q ps qs hq t ih =>
      refine ⟨?_, fun p' hp => ?_⟩
      · rw [List.map_cons, List.map_cons, List.map_cons, ih.1, hq.1]
      · rcases List.mem_cons.mp hp with rfl | hp
        · rw [← hq.1]
          exact hq.2.1
        · exact ih.2 p' hp
  refine ⟨y, o, es, ep, xs.map fun x => (x.1, x.2.1), h1, h2, h3, by rw [List.length_map]; exact l1, by rw [List.length_map]; omega, (kk rel).2, (kk rel).1, fun acc it => ?_⟩
  have hl : acc.toList.length = xs.length := by rw [Array.length_toList, it.1]; exact l1
  rw [List.map_map]
  apply List.ext_getElem?
  intro j
  rw [List.getElem?_map]
  cases hj : acc.toList[j]? with
  | none =>
    have h1 := List.getElem?_eq_none_iff.mp hj
    rw [List.getElem?_eq_none (by omega)]
    all_goals rfl
  | some v =>
    obtain ⟨en, hen, hv⟩ := it.2 j v (by rw [← Array.getElem?_toList]; exact hj)
    have qe := entry_at h4 j
    rw [hen] at qe
    cases hb : xs[j]? with
    | none =>
      rw [hb] at qe
      exact nomatch (show some en = none from qe)
    | some b =>
      rw [hb] at qe
      have e2 : en = entryOfKey (nestedKind X.prog X.w) b := Option.some.inj qe
      rw [hv, e2]
      all_goals rfl
end
section
variable {X : Cx}
/-- list(d) -/
theorem call_list_DN (hc : X.calm = true) : CallR X (.type "list") (fun xs H Q => ∃ d kvs, xs = [V.ref d] ∧ DN X.prog X.w X.K H d kvs ∧ ∀ p ps, H p = none → PsOk X.K H ps → ps.map Prod.fst = kvs.map Prod.fst → Q (.ref p) (upd H p (.lst (psV ps)))) := by
  intro pins s σ H xs us Q I r h
  obtain ⟨d, kvs, rfl, hd, q⟩ := h
  obtain ⟨u, rfl, rx⟩ := r.one
  cases rx
  obtain ⟨hs, o, es, ep, ps, ho, hx, hdt, l1, l2, hp, hk, hacc⟩ := dn_keys I hd
  refine PySem.W.kdl_call (kdl_raw hs hx hdt) (I.ok.hd hc) ho (by omega) fun h' tk acc' c' kp e it => ?_
  have eb := hacc acc' it
  have rv : Vals (psV ps) acc'.toList := by rw [eb]; exact psV_vals _
  have hz : (psV ps).length ≤ sizeLine := by unfold psV; rw [List.length_map]; exact l2
  refine ⟨.ref s.heap.objs.size, _, I.laid (t' := tk) (o := .lst (psV ps)) kp (Nat.le_refl _) ?_, rfl, q _ _ (I.hok.fresh (Nat.le_refl _)) hp hk⟩
  exact ⟨hz, acc'.toList, c', rv, by rw [Array.toArray_toList]; exact e⟩
/-- the order of keys -/
def leN (p q : NestedKey × Addr) : Bool := PySem.W.dataLe false (fun p : NestedKey × Addr => p.1.data) p q
/-- what may be sorted -/
structure Srtb (ps : List (NestedKey × Addr)) : Prop where
  a : PySem.W.AllAlike (ps.map fun p => p.1.data)
  s : PySem.W.Sortable (ps.map fun p => p.1.data)
  d : ∀ p ∈ ps, p.1.data.depth ≤ 20
theorem each_ref {K : PySem.W.Frag} {H : Hp} : ∀ ps : List (NestedKey × Addr), PySem.W.EachIs (fun v (p : NestedKey × Addr) => v = Value.ref p.2) (ps.map fun p => Value.ref p.2) ps
  | [] => .nil
  | p :: ps => .cons rfl (each_ref (K := K) (H := H) ps)
theorem each_ref' : ∀ {vs : List Value} {ps : List (NestedKey × Addr)}, PySem.W.EachIs (fun v (p : NestedKey × Addr) => v = Value.ref p.2) vs ps → vs = ps.map fun p => Value.ref p.2
  | _, _, .nil => rfl
  | _, _, .cons h t => by rw [h, each_ref' t, List.map_cons]
section
variable {pins : List (Addr × Obj)} {σ : L2.St} {H : Hp} {s : Shared}
theorem each_reads (I : Inv X pins σ H s) {h' : Heap} (kp : ∀ b o, s.heap.get? b = some o → h'.get? b = some o) : ∀ {ps : List (NestedKey × Addr)}, PsOk X.K H ps → PySem.W.EachIs (fun v (p : NestedKey × Addr) => Reads h' v p.1.data []) (ps.map fun p => Value.ref p.2) ps
  | [], _ => .nil
  | p :: ps, h => .cons (PyProof.Rows.Reads.keeps kp (dt_reads I p.1.data _ _ (nk_dt _ _ (h p List.mem_cons_self).1) rfl)) (each_reads I kp fun q hq => h q (List.mem_cons_of_mem _ hq))
end
def rSortedNk (X : Cx) : List V → Hp → VK → Prop := fun xs H Q => ∃ (l : Addr) (ps : List (NestedKey × Addr)), xs = [V.ref l] ∧ SqL X.K H l (psV ps) ∧ PsOk X.K H ps ∧ Srtb ps ∧ ∀ p, H p = none → Q (.ref p) (upd H p (.lst (psV (ps.mergeSort leN))))
/-- sorted(l), l a list of keys -/
theorem call_sorted_nk (hu : X.A.units + 100 < cLine) : CallR X (.builtin "sorted") (rSortedNk X) := by
  intro pins s σ H xs us Q I r h
  obtain ⟨l, ps, rfl, hs, hp, hS, q⟩ := h
  obtain ⟨its, rv, hl, hz⟩ := I.list hs
  obtain ⟨u, rfl, rx⟩ := r.one
  cases rx
  have ei := vals_psV rv
  subst ei
  have hz' : ps.length ≤ sizeLine := by
    have : (psV ps).length = ps.length := by unfold psV; rw [List.length_map]
    omega
  refine PySem.W.sorted_data (R := fun v (p : NestedKey × Addr) => v = Value.ref p.2) (enc := fun p : NestedKey × Addr => p.1.data) (bs := ps) hl.isList (each_ref (K := X.K) (H := H) ps) ((each_reads I (fun _ _ e => e) hp).mono fun _ _ r => ⟨[], r⟩) hS.a hS.s hz' (fun b hb => by have := hS.d b hb; omega) fun out ho eo => ?_
  have eo' := each_ref' eo
  obtain ⟨ep, he'⟩ := PyProof.Rows.sortedAll_at s.heap (ps.map fun p => Value.ref p.2) out.toArray
  have hlen : (psV (ps.mergeSort leN)).length ≤ sizeLine := by unfold psV; rw [List.length_map, List.length_mergeSort]; exact hz'
  exact ⟨.ref _, upd H (s.heap.objs.size + 1) (.lst (psV (ps.mergeSort leN))), I.laid (t' := s.toks) (fun _ _ => PyProof.Rows.sortedAll_old) (Nat.le_succ _) ⟨hlen, out, ep, by rw [eo']; exact psV_vals _, he'⟩, rfl, q _ (I.hok.fresh (Nat.le_succ _))⟩
def rSortedDN (X : Cx) : List V → Hp → VK → Prop := fun xs H Q => ∃ (d : Addr) (kvs : List (NestedKey × V)), xs = [V.ref d] ∧ DN X.prog X.w X.K H d kvs ∧ ∀ ps : List (NestedKey × Addr), PsOk X.K H ps → ps.map Prod.fst = kvs.map Prod.fst → Srtb ps ∧ ∀ p, H p = none → Q (.ref p) (upd H p (.lst (psV (ps.mergeSort leN))))
/-- sorted(d) -/
theorem call_sorted_dn (hc : X.calm = true) (hu : X.A.units + 100 < cLine) : CallR X (.builtin "sorted") (rSortedDN X) := by
  intro pins s σ H xs us Q I r h
  obtain ⟨d, kvs, rfl, hd, q⟩ := h
  obtain ⟨u, rfl, rx⟩ := r.one
  cases rx
  obtain ⟨hs, o, es, ep, ps, ho, hx, hdt, l1, l2, hp, hk, hacc⟩ := dn_keys I hd
  obtain ⟨hS, q⟩ := q ps hp hk
  refine PySem.Calls.call_function_entry PyProof.Rows.kind_sorted PyProof.Rows.plain_sorted PyProof.Rows.entry_sorted (PyProof.Rows.args_sorted1 _) ?_
  unfold Builtin.«sorted»
  refine wpAny_bind (m := checkCount "sorted" 1 1 _) (wpAny_pure ?_)
  refine wpAny_bind (PySem.W.kdu_collect (A := X.A.in1) (kdl_raw hs hx hdt) (I.ok.hd hc) ho (by omega) fun h' tk acc kp it => ?_)
  have eb := hacc acc it
  rw [eb]
  refine wpAny_bind (wpAny_newList ?_ (by rw [List.length_map]; exact l2))
  have hz' : ps.length ≤ sizeLine := l2
  have ho' : (h'.push { cls := .type "list", data := .seq (ps.map fun p => Value.ref p.2).toArray }).get? h'.objs.size = some (seqObj "list" (ps.map fun p => Value.ref p.2).toArray 0) := Heap.get?_push_size _ rfl
  have kp2 : ∀ b o, s.heap.get? b = some o → (h'.push { cls := .type "list", data := .seq (ps.map fun p => Value.ref p.2).toArray }).get? b = some o := fun b o e => Heap.get?_push_of_some _ (kp b o e)
  have key := PySem.W.list_sort_data (prog := X.prog) (w := X.w) (E := X.xe) (A := X.A.in1) (s := { s with heap := h'.push { cls := .type "list", data := .seq (ps.map fun p => Value.ref p.2).toArray }, toks := tk }) (R := fun v (p : NestedKey × Addr) => v = Value.ref p.2) (enc := fun p : NestedKey × Addr => p.1.data) (bs := ps) (a := h'.objs.size) (n := 0) ho' (each_ref (K := X.K) (H := H) ps) ((each_reads I kp2 hp).mono fun _ _ r => ⟨[], r, by simp⟩) hS.a hS.s hz' (fun b hb => by have := hS.d b hb; show X.A.units + 1 + 1 + _ < cLine; omega)
    (Q := fun _ s' => EP X pins σ Q (.ref h'.objs.size) s') fun out ho eo => ?_
  · refine wpAny_bind (wpAny_holding (wpAny_mono key (fun _ s' x => ?_) fun _ _ e => e))
    exact wpAny_pure ⟨_, rfl, x⟩
  · have eo' := each_ref' eo
    obtain ⟨ep, he'⟩ := PyProof.Rows.sortedHeap_at (vs := ps.map fun p => Value.ref p.2) (out := out.toArray) ho'
    have hlen : (psV (ps.mergeSort leN)).length ≤ sizeLine := by unfold psV; rw [List.length_map, List.length_mergeSort]; exact hz'
    have g0 : s.heap.get? h'.objs.size = none := by
      cases e : s.heap.get? h'.objs.size with
      | none => rfl
      | some o => exact absurd (Heap.lt_size (kp _ _ e)) (Nat.lt_irrefl _)
    have hn := I.hok.gone g0
    refine ⟨.ref _, upd H h'.objs.size (.lst (psV (ps.mergeSort leN))), I.laidN (t' := tk) (fun b o e => ?_) g0 hn ⟨hlen, out, ep, by rw [eo']; exact psV_vals _, he'⟩, rfl, q _ hn⟩
    have hb : b ≠ h'.objs.size := Nat.ne_of_lt (Heap.lt_size (kp b o e))
    exact (PyProof.Rows.sortedHeap_old hb (Heap.lt_size (kp2 b o e))).trans (kp2 b o e)
end
end N

namespace N
open PySem PySem.Spec PySem.Calls PyProof.Rows PyProof.V L2
/-! ### dicts by tuples that have the same keys: are they equal? -/
section
variable {prog : Program} {w : World} {K : Type} [DecidableEq K] {knd : HeapKind prog w K} {A : Around} {E : Value → Shared → Prop} {s : Shared}
theorem samePairsH {nm : String} {a b : Addr} {xs ys : List (K × Addr × Value)} {f : K → Bool} {Q : Bool → Shared → Prop} (hu : knd.room A) (ha : (a == sysModules) = false) (hb : (b == sysModules) = false)
    (da : s.heap.DictOfH knd a xs) (db : s.heap.DictOfH knd b ys) (hl : xs.length = ys.length) (hv : ∀ x ∈ xs, ∃ p, atKey ys x.1 = some p ∧ SeqAt.EqAt A s x.2.2 p.2 (f x.1)) (h : Q (xs.all fun x => f x.1) s) :
    wpAny (model prog w) A (Builtin.Dict.samePairs nm a b) Q E s := by
  obtain ⟨oa, es, ep, hoa, _, hda, hka, hpa, _⟩ := da
  obtain ⟨ob, es', ep', hob, _, hdb, hkb, hpb, hnb⟩ := db
  have hla : es.size = xs.length := size_of_entries hka
  have hlb : es'.size = ys.length := size_of_entries hkb
  unfold Builtin.Dict.samePairs Builtin.Dict.showsAll
  rw [if_neg (show ¬ (a == sysModules) = true by rw [ha]; exact Bool.false_ne_true), if_neg (show ¬ (b == sysModules) = true by rw [hb]; exact Bool.false_ne_true)]
  refine wpAny_bind (wpAny_pure (wpAny_bind (wpAny_pure ?_)))
  refine wpAny_bind (wpAny_dictEntries hoa hda ?_)
  dsimp only
  refine wpAny_bind (wpAny_dictEntries hob hdb ?_)
  have hsz : es.size = es'.size := by omega
  rw [if_neg (by rw [hsz]; simp)]
  refine wpAny_bind (wpAny_dictEpoch hoa hda ?_)
  refine wpAny_bind ?_
  rw [Std.Legacy.Range.forIn_eq_forIn_range']
  simp only [Std.Legacy.Range.size, Nat.sub_zero, Nat.add_sub_cancel, Nat.div_one]
  refine wpAny_forIn_list _
    (fun rest q s' => s' = s ∧ q = (none, ()) ∧ ∃ i, rest = List.range' i (es.size - i) ∧ i ≤ es.size ∧ (xs.all fun x => f x.1) = ((xs.drop i).all fun x => f x.1))
    _ ?_ ?_ _ _ ⟨rfl, rfl, 0, by simp, Nat.zero_le _, rfl⟩
  · rintro x rest q s' ⟨rfl, rfl, i, hr, hi, hpre⟩
    have hlt : i < es.size := by
      rcases Nat.lt_or_ge i es.size with h | h
      · exact h
      · rw [Nat.sub_eq_zero_of_le h] at hr; simp at hr
    obtain ⟨rfl, hrest⟩ : x = i ∧ rest = List.range' (i + 1) (es.size - (i + 1)) := by
      have e : es.size - i = (es.size - (i + 1)) + 1 := by omega
      rw [e, List.range'_succ] at hr
      injection hr with h1 h2
      exact ⟨h1, h2⟩
    refine wpAny_bind (wpAny_dictEntries hoa hda ?_)
    have hlt' : x < xs.length := by omega
    obtain ⟨k, ad, v, hkv⟩ : ∃ k ad v, xs[x] = (k, ad, v) := ⟨_, _, _, rfl⟩
    have hget : xs[x]? = some (k, ad, v) := by rw [List.getElem?_eq_getElem hlt', hkv]
    have hdrop : xs.drop x = (k, ad, v) :: xs.drop (x + 1) := by rw [← hkv]; exact List.drop_eq_getElem_cons hlt'
    have hmem : (k, ad, v) ∈ xs := List.mem_of_getElem? hget
    have hent : es[x]? = some (entryOfKey knd (k, ad, v)) := by rw [entry_at hka x, hget]; rfl
    rw [hent]
    obtain ⟨p, hp, he⟩ := hv _ hmem
    have hkey := hpa _ hmem
    rw [hdrop, List.all_cons] at hpre
    show wpAny _ _ (holding [Value.ref ad, v] _ >>= _) _ _ _
    refine wpAny_bind (wpAny_holding (wpAny_bind (wpAny_dictFind_heap hu hkey hob hdb hkb hpb hnb (fun hnone => ?_) (fun j p' hj => ?_))))
    · exfalso
      rw [atKey_none_of_get hnone] at hp
      exact nomatch hp
    · have hent' : es'[j]? = some (entryOfKey knd (k, p')) := by rw [entry_at hkb j, hj]; rfl
      have ep' : p' = p := by
        have := atKey_of_get hnb hj
        rw [this] at hp
        exact Option.some.inj hp
      subst ep'
      refine wpAny_bind (wpAny_dictEntries hob hdb ?_)
      rw [hent']
      refine wpAny_holding (he prog w _ _ ?_)
      cases hf : f k with
      | false =>
        have hfv : f (k, ad, v).1 = false := hf
        rw [hfv, Bool.false_and] at hpre
        rw [hpre] at h
        show wpAny _ _ (if (!false) = true then _ else _) _ _ _
        rw [if_pos (by decide)]
        exact wpAny_pure (wpAny_pure h)
      | true =>
        have hfv : f (k, ad, v).1 = true := hf
        rw [hfv, Bool.true_and] at hpre
        show wpAny _ _ (if (!true) = true then _ else _) _ _ _
        rw [if_neg (by decide)]
        refine wpAny_bind (wpAny_dictEpoch hoa hda ?_)
        rw [if_neg (by simp)]
        exact wpAny_pure ⟨rfl, rfl, x + 1, hrest, hlt, hpre⟩
  · rintro q s' ⟨rfl, rfl, i, hr, hi, hpre⟩
    have hin : i = es.size := by
      rcases Nat.lt_or_ge i es.size with h | h
      · have e : es.size - i = (es.size - (i + 1)) + 1 := by omega
        rw [e, List.range'_succ] at hr; exact nomatch hr
      · exact Nat.le_antisymm hi h
    refine wpAny_pure ?_
    rw [hin, hla, List.drop_length] at hpre
    rw [hpre] at h
    exact h
theorem dictsH_ne {a b : Addr} {xs ys : List (K × Addr × Value)} {f : K → Bool} {Q : Value → Shared → Prop} (hu0 : A.units < cLine) (hu : knd.room A.in1) (ha : (a == sysModules) = false) (hb : (b == sysModules) = false)
    (da : s.heap.DictOfH knd a xs) (db : s.heap.DictOfH knd b ys) (hl : xs.length = ys.length) (hv : ∀ x ∈ xs, ∃ p, atKey ys x.1 = some p ∧ SeqAt.EqAt A.in1 s x.2.2 p.2 (f x.1)) (h : Q (.bool (!(xs.all fun x => f x.1))) s) :
    wpAny (model prog w) A (compareOp .NotEq (.ref a) (.ref b)) Q E s := by
  refine wpAny_richCompare_same_room (op := .NotEq) da.typeIs db.typeIs PySem.F.slot_dict_ne (wpAny_call_entry PySem.F.slot_dict_ne da.typeIs PySem.F.entry_dict_ne ?_ (PySem.F.args_dict_ne_2 _ _)) hu0
  show wpAny _ _ (Builtin.Dict.dictSlotArgs "__ne__" ⟨[.ref a, .ref b], []⟩ >>= _) _ _ s
  refine wpAny_bind ?_
  unfold Builtin.Dict.dictSlotArgs
  refine wpAny_bind (wpAny_notOrdered_dict da.typeIs ?_)
  show wpAny _ _ (pure (Value.ref a, Value.ref b)) _ _ s
  refine wpAny_pure ?_
  refine wpAny_bind (wpAny_isInstance (T := "dict") db.typeIs PySem.F.sub_dict_dict ?_)
  simp only [Bool.not_true, Bool.false_eq_true, if_false]
  refine wpAny_bind (wpAny_pure (wpAny_bind (wpAny_pure ?_)))
  refine wpAny_bind (samePairsH hu ha hb da db hl hv ?_)
  refine wpAny_pure ⟨_, rfl, ?_, ?_⟩
  · exact fun x => nomatch x
  · simpa using h
end
/-- what two dicts of texts, with the same keys, have at their keys -/
def sameAt (g n : List (NestedKey × Str)) : Bool := n.all fun p => decide (valN g p.1 = some p.2)
def strV (g : List (NestedKey × Str)) : List (NestedKey × V) := g.map fun p => (p.1, V.str p.2)
theorem valN_strV (g : List (NestedKey × Str)) (k : NestedKey) : valN (strV g) k = (valN g k).map V.str := by
  unfold valN strV
  rw [List.find?_map]
  cases h : g.find? ((fun p : NestedKey × V => decide (p.1 = k)) ∘ fun p => (p.1, V.str p.2)) with
  | none =>
    have h' : g.find? (fun p => decide (p.1 = k)) = none := h
    rw [h']
    rfl
  | some q =>
    have h' : g.find? (fun p => decide (p.1 = k)) = some q := h
    rw [h']
    rfl
/-- d != e -/
def rNeDN (X : Cx) : R2 := fun x y H Q => ∃ (a b : Addr) (n g : List (NestedKey × Str)), x = .ref a ∧ y = .ref b ∧ DN X.prog X.w X.K H a (strV n) ∧ DN X.prog X.w X.K H b (strV g) ∧ n.map Prod.fst = g.map Prod.fst ∧ (n.map Prod.fst).Nodup ∧ Q (.bl (!sameAt g n)) H
section
variable {X : Cx}
theorem paired_mem {α β : Type} {F : α → β → Prop} : ∀ {l : List α} {r : List β}, Paired F l r → ∀ y ∈ r, ∃ x ∈ l, F x y
  | _, _, .nil, y, h => by cases h
  | _, _, .cons a t, y, h => by
    rcases List.mem_cons.mp h with rfl | h
    · exact ⟨_, List.mem_cons_self, a⟩
    · obtain ⟨x, hx, f⟩ := paired_mem t y h
      exact ⟨x, List.mem_cons_of_mem _ hx, f⟩
theorem valN_mem {g : List (NestedKey × Str)} (nd : (g.map Prod.fst).Nodup) {p : NestedKey × Str} (h : p ∈ g) : valN g p.1 = some p.2 := by
  induction g with
  | nil => cases h
  | cons q g ih =>
    rw [List.map_cons, List.nodup_cons] at nd
    rcases List.mem_cons.mp h with rfl | h
    · simp [valN]
    · have ne : ¬ q.1 = p.1 := fun e => nd.1 (by rw [e]; exact List.mem_map_of_mem h)
      have : valN (q :: g) p.1 = valN g p.1 := by simp [valN, List.find?_cons, ne]
      rw [this]
      exact ih nd.2 h
theorem ktn_keys {K : PySem.W.Frag} {H : Hp} : ∀ {kvs : List (NestedKey × V)} {xs : List (NestedKey × Addr × Value)}, KTn K H kvs xs → xs.map (·.1) = kvs.map Prod.fst
  | _, _, .nil => rfl
  | _, _, .cons h t => by rw [List.map_cons, List.map_cons, ktn_keys t, h.1]
theorem op_neDN (hu : X.A.units + 80 < cLine) : OpR X (compareOp .NotEq) (rNeDN X) := by
  intro pins s σ H x y v u Q I rx ry h
  obtain ⟨a, b, n, g, rfl, rfl, hn, hg, ek, nd, q⟩ := h
  cases rx
  cases ry
  obtain ⟨_, sa, xs, _, ra, da⟩ := dn_of I hn
  obtain ⟨_, sb, ys, _, rb, db⟩ := dn_of I hg
  have hl : xs.length = ys.length := by
    have h1 := congrArg List.length (ktn_keys ra)
    have h2 := congrArg List.length (ktn_keys rb)
    have h3 := congrArg List.length ek
    unfold strV at h1 h2
    simp only [List.length_map] at h1 h2 h3
    omega
  have ndg : (g.map Prod.fst).Nodup := by rw [← ek]; exact nd
  have key : (xs.all fun x => decide (valN g x.1 = valN n x.1)) = sameAt g n := by
    have h1 : (xs.all fun x => decide (valN g x.1 = valN n x.1)) = ((xs.map (·.1)).all fun k => decide (valN g k = valN n k)) := by rw [List.all_map]; rfl
    have h2 : (strV n).map Prod.fst = n.map Prod.fst := by unfold strV; rw [List.map_map]; rfl
    rw [h1, ktn_keys ra, h2, List.all_map]
    unfold sameAt
    rw [Bool.eq_iff_iff, List.all_eq_true, List.all_eq_true]
    constructor
    · intro z p hp
      have := z p hp
      simpa [valN_mem nd hp] using this
    · intro z p hp
      have := z p hp
      simpa [valN_mem nd hp] using this
  refine dictsH_ne (knd := nestedKind X.prog X.w) (f := fun k => decide (valN g k = valN n k)) (by omega) (by show X.A.units + 1 + 8 < cLine; omega) sa sb da db hl (fun x hx => ?_) ?_
  · obtain ⟨kv, hkv, e1, _, e2⟩ := paired_mem ra x hx
    obtain ⟨p, hp, rfl⟩ := List.mem_map.mp hkv
    have vn : valN n p.1 = some p.2 := valN_mem nd hp
    have hkg : p.1 ∈ g.map Prod.fst := by rw [← ek]; exact List.mem_map_of_mem hp
    obtain ⟨p2, hp2, ep2⟩ := List.mem_map.mp hkg
    have vg : valN g p.1 = some p2.2 := by rw [← ep2]; exact valN_mem ndg hp2
    have rel : RelO (some (V.str p2.2)) ((atKey ys p.1).map (·.2)) := by
      have := rb.val p.1
      rw [valN_strV, vg] at this
      exact this
    obtain ⟨w', hw, rw'⟩ := RelO.some_of (v := V.str p2.2) (o := (atKey ys p.1).map (·.2)) rel
    obtain ⟨q', hq, hq2⟩ := Option.map_eq_some_iff.mp hw
    have e1' : p.1 = x.1 := e1
    refine ⟨q', by rw [← e1']; exact hq, ?_⟩
    obtain ⟨t1, ev1⟩ := e2
    rw [← hq2] at rw'
    obtain ⟨t2, ev2⟩ := rw'
    rw [ev1, ev2, ← e1', vg, vn]
    have := PySem.W.keq_flat (A := X.A.in1) (s := s) (v := .str p.2 t1) (y := .str p2.2 t2) (d := .str p.2) (e := .str p2.2) (fun h => .str _ _) (fun h => .str _ _)
    have e3 : PyData.eqv (.str p.2) (.str p2.2) = decide (some p2.2 = some p.2) := by
      show (p.2 == p2.2) = _
      rw [Bool.eq_iff_iff, beq_iff_eq, decide_eq_true_iff]
      exact ⟨fun z => by rw [z], fun z => (Option.some.inj z).symm⟩
    rw [e3] at this
    exact this
  · rw [key]
    exact ⟨.bl (!sameAt g n), H, I, rfl, q⟩
end
end N

namespace N
open PySem PySem.Spec PyProof.Rows L2
/-! ### comprehensions whose things are told by a relation that stays -/
theorem lcT_map {K : PySem.W.Frag} {β γ : Type} {F : Hp → V → γ → Prop} {a : Addr} {xs : List V} {rs : List β} {te : TE} {σ : L2.St} {vs : List Nat} {H : Hp} {D : Addr} {Qd : Hp → Prop} (i1 : Nat) (f : β → γ) (hv : vs = [i1]) (hF : ∀ {H H' : Hp} {v : V} {c : γ}, Stay K H H' → F H v c → F H' v c)
    (hl : xs.length = rs.length) (hz : rs.length ≤ 1000) (hq : SqT K H a xs) (hD : H D = none)
    (hs : ∀ (i : Nat) x r H' Q', xs[i]? = some x → rs[i]? = some r → Same H H' → (∀ y H2, Same H' H2 → F H2 y (f r) → Q' y H2) → te ((wipe σ [i1]).set i1 (some x)) H' Q')
    (hd : ∀ H' acc, Same H H' → H' D = some (.lst acc) → Paired (F H') acc (rs.map f) → Qd H') :
    ∃ W : Nat → Nat → Hp → Prop, (∃ m, W 0 m (upd H D (.lst []))) ∧ ∀ i m H, W i m H →
      ((Itt K a).stop i H ∧ Qd H) ∨ ((Itt K a).go i H ∧ ∃ Nx : Hp → Prop, (∀ H', Nx H' → ∃ m', m' < m ∧ W (i + 1) m' H') ∧ ∀ x H', (Itt K a).yld i H x H' → gName i1 x (wipe σ vs) H' fun σ2 H2 => wipe σ2 vs = wipe σ vs ∧ tYes σ2 H2 fun b H3 =>
        if b = true then te σ2 H3 fun y H4 => ∃ acc, H4 D = some (.lst acc) ∧ acc.length < sizeLine ∧ Nx (upd H4 D (.lst (acc ++ [y]))) else Nx H3) := by
  subst hv
  refine lc_tup (K := K) (a := a) (xs := xs) (fun i H' => Same H H' ∧ ∃ acc, H' D = some (.lst acc) ∧ Paired (F H') acc ((rs.take i).map f)) ⟨same_new hD _, [], upd_same, .nil⟩ (fun i H' _ ⟨s, _⟩ => (stay_same s).tup _ _ hq) (fun i x H' hx ⟨s, acc, hacc, hp⟩ => ?_) (fun H' ⟨s, acc, hacc, hp⟩ => ?_)
  · have hlt : i < xs.length := (List.getElem?_eq_some_iff.mp hx).1
    obtain ⟨r, hr⟩ : ∃ r, rs[i]? = some r := ⟨_, List.getElem?_eq_getElem (by omega)⟩
    refine ⟨wipe_one, ?_⟩
    unfold tYes
    dsimp only
    rw [if_pos rfl]
    refine hs i x r H' _ hx hr s fun y H2 s2 hy => ?_
    have hacc2 := s2 _ _ hacc
    have e1 := Paired.length hp
    rw [List.length_map, List.length_take] at e1
    refine ⟨acc, hacc2, Nat.lt_of_le_of_lt (show _ ≤ 100000 by omega) (by decide), same_mut (s.trans s2) hD, _, upd_same, ?_⟩
    have sl := stay_lst (K := K) (xs := acc) (ys := acc ++ [y]) hacc2
    rw [take_one' hr, List.map_append]
    exact pairs_app (Paired.mapP hp fun _ _ z => hF ((stay_same s2).trans sl) z) (.cons (hF sl hy) .nil)
  · rw [hl, List.take_length] at hp
    exact hd H' acc s hacc hp
/-- two clauses, the outer over a list -/
theorem lc2_lst {K : PySem.W.Frag} {a : Addr} {xs : List V} {g g1 : TG} {tt tt1 : TT} {te : TE} {wi1 : TI} {vs vs1 : List Nat} {σ : L2.St} {H1 : Hp} {D : Addr} {Qd : Hp → Prop} (Pv : Nat → Hp → Prop) (h0 : Pv 0 (upd H1 D (.lst []))) (hl : ∀ i H, Pv i H → SqL K H a xs)
    (hs : ∀ i x H, xs[i]? = some x → Pv i H → g x (wipe σ vs) H fun σ2 H2 => wipe σ2 vs = wipe σ vs ∧ tt σ2 H2 fun b H3 =>
      if b = true then wi1 σ2 H3 fun J1 H4 => ∃ W1 : Nat → Nat → Hp → Prop, (∃ m, W1 0 m H4) ∧ ∀ j k H, W1 j k H →
        (J1.stop j H ∧ Pv (i + 1) H) ∨ (J1.go j H ∧ ∃ Nx1 : Hp → Prop, (∀ H', Nx1 H' → ∃ k', k' < k ∧ W1 (j + 1) k' H') ∧ ∀ x H', J1.yld j H x H' → g1 x (wipe σ2 vs1) H' fun σ3 H5 => wipe σ3 vs1 = wipe σ2 vs1 ∧ tt1 σ3 H5 fun b H6 =>
          if b = true then te σ3 H6 fun y H7 => ∃ acc, H7 D = some (.lst acc) ∧ acc.length < sizeLine ∧ Nx1 (upd H7 D (.lst (acc ++ [y]))) else Nx1 H6)
      else Pv (i + 1) H3) (hd : ∀ H, Pv xs.length H → Qd H) :
    ∃ W : Nat → Nat → Hp → Prop, (∃ m, W 0 m (upd H1 D (.lst []))) ∧ ∀ i m H, W i m H →
      ((Itl K a).stop i H ∧ Qd H) ∨ ((Itl K a).go i H ∧ ∃ Nx : Hp → Prop, (∀ H', Nx H' → ∃ m', m' < m ∧ W (i + 1) m' H') ∧ ∀ x H', (Itl K a).yld i H x H' → g x (wipe σ vs) H' fun σ2 H2 => wipe σ2 vs = wipe σ vs ∧ tt σ2 H2 fun b H3 =>
        if b = true then wi1 σ2 H3 fun J1 H4 => ∃ W1 : Nat → Nat → Hp → Prop, (∃ m, W1 0 m H4) ∧ ∀ j k H, W1 j k H →
          (J1.stop j H ∧ Nx H) ∨ (J1.go j H ∧ ∃ Nx1 : Hp → Prop, (∀ H', Nx1 H' → ∃ k', k' < k ∧ W1 (j + 1) k' H') ∧ ∀ x H', J1.yld j H x H' → g1 x (wipe σ2 vs1) H' fun σ3 H5 => wipe σ3 vs1 = wipe σ2 vs1 ∧ tt1 σ3 H5 fun b H6 =>
            if b = true then te σ3 H6 fun y H7 => ∃ acc, H7 D = some (.lst acc) ∧ acc.length < sizeLine ∧ Nx1 (upd H7 D (.lst (acc ++ [y]))) else Nx1 H6)
        else Nx H3) := by
  refine ⟨fun i m H => m + i = xs.length ∧ Pv i H, ⟨xs.length, rfl, h0⟩, fun i m H ⟨em, p⟩ => ?_⟩
  have q := hl i H p
  cases m with
  | zero =>
    have e : i = xs.length := by omega
    subst e
    exact .inl ⟨⟨xs, q, Nat.le_refl _⟩, hd H p⟩
  | succ m =>
    have hx : xs[i]? = some (xs[i]'(by omega)) := List.getElem?_eq_getElem (by omega)
    refine .inr ⟨⟨xs, _, q, hx⟩, Pv (i + 1), fun H' p' => ⟨m, Nat.lt_succ_self _, by omega, p'⟩, fun x H' y => ?_⟩
    obtain ⟨e, y⟩ := y
    subst e
    exact hs i x _ (y xs q) p
/-! ### signed_places -/
def signOf (w : Str) : Str := if w = "reads" then "+" else if w = "takes" then "-" else "+-"
/-- the kinds that a class declares, with their signs -/
def Cls.knd (c : Cls) : List (Kd × Str) := (c.ks.map fun k => (k, ("+" : Str))) ++ c.ms.map fun m => (m.2.2, signOf m.2.1)
/-- its letters at their places, with their signs -/
def Cls.spl (vo : Str → List (Option Str)) (c : Cls) : List (Str × Str) := c.knd.flatMap fun p => p.1.sgn vo p.2
structure Glo4 (K : PySem.W.Frag) (w : World) (mg : Str → Option Value) : Prop where
  PL : ∃ t, mg "PLUS" = some (.str "+" t)
  SO : ∃ a, mg "SIGN_OF" = some (.ref a) ∧ ∀ s ∈ wayz, KDct K w a s (.str (signOf s))
theorem sgn_len (vo : Str → List (Option Str)) : ∀ (k : Kd) (s : Str), (k.sgn vo s).length ≤ k.nds
  | .L c, s => by simp [Kd.sgn, Kd.nds]
  | .C0 n, s => by simp [Kd.sgn, Kd.nds]
  | .C1 n a, s => by
    simp only [Kd.sgn, Kd.nds]
    cases (vo n).getD 0 none with
    | none => exact Nat.zero_le _
    | some v =>
      have := sgn_len vo a (passS s v)
      simp only [passO]
      omega
  | .C2 n a b, s => by
    simp only [Kd.sgn, Kd.nds, List.length_append]
    have h1 : (passO s ((vo n).getD 0 none) fun s => a.sgn vo s).length ≤ a.nds := by
      cases (vo n).getD 0 none with
      | none => exact Nat.zero_le _
      | some v => exact sgn_len vo a (passS s v)
    have h2 : (passO s ((vo n).getD 1 none) fun s => b.sgn vo s).length ≤ b.nds := by
      cases (vo n).getD 1 none with
      | none => exact Nat.zero_le _
      | some v => exact sgn_len vo b (passS s v)
    omega
theorem sgn_sgz (vo : Str → List (Option Str)) : ∀ (k : Kd) (s : Str), s ∈ sgz → ∀ q ∈ k.sgn vo s, q.2 ∈ sgz
  | .L c, s, h, q, hq => by
    simp only [Kd.sgn, List.mem_singleton] at hq
    rw [hq]
    exact h
  | .C0 n, s, h, q, hq => by simp [Kd.sgn] at hq
  | .C1 n a, s, h, q, hq => by
    simp only [Kd.sgn] at hq
    cases hv : (vo n).getD 0 none with
    | none => rw [hv] at hq; cases hq
    | some v => rw [hv] at hq; exact sgn_sgz vo a _ (passS_mem h) q hq
  | .C2 n a b, s, h, q, hq => by
    simp only [Kd.sgn, List.mem_append] at hq
    rcases hq with z | z
    · cases hv : (vo n).getD 1 none with
      | none => rw [hv] at z; cases z
      | some v => rw [hv] at z; exact sgn_sgz vo b _ (passS_mem h) q z
    · cases hv : (vo n).getD 0 none with
      | none => rw [hv] at z; cases z
      | some v => rw [hv] at z; exact sgn_sgz vo a _ (passS_mem h) q z
theorem signOf_sgz {w : Str} : signOf w ∈ sgz := by
  unfold signOf
  split
  · decide
  · split <;> decide
theorem knd_ok {c : Cls} (ok : c.ok) : c.knd.length ≤ 4 ∧ ∀ p ∈ c.knd, p.1.nds ≤ 13 ∧ p.2 ∈ sgz ∧ p.1 ∈ c.decl := by
  have k2 := ok.k2
  have m2 := ok.m2
  unfold Cls.knd
  refine ⟨by rw [List.length_append, List.length_map, List.length_map]; omega, fun p hp => ?_⟩
  rcases List.mem_append.mp hp with h | h
  · obtain ⟨k, hk, rfl⟩ := List.mem_map.mp h
    have h1 := nds_size k
    have h2 := (ok.kk k hk).2.2.1
    exact ⟨by dsimp only; omega, by show ("+" : Str) ∈ sgz; decide, List.mem_append_left _ hk⟩
  · obtain ⟨m, hm, rfl⟩ := List.mem_map.mp h
    have h1 := nds_size m.2.2
    have h2 := (ok.ml m hm).2.2.2.1
    exact ⟨by dsimp only; omega, signOf_sgz, List.mem_append_right _ (List.mem_map_of_mem hm)⟩
theorem spl_len {vo : Str → List (Option Str)} {c : Cls} (ok : c.ok) : (c.spl vo).length ≤ 52 := by
  obtain ⟨h1, h2⟩ := knd_ok ok
  have : ∀ l : List (Kd × Str), (∀ p ∈ l, p.1.nds ≤ 13) → (l.flatMap fun p => p.1.sgn vo p.2).length ≤ 13 * l.length := by
    intro l
    induction l with
    | nil => intro _; exact Nat.le_refl _
    | cons p l ih =>
      intro h
      have a := ih fun q hq => h q (List.mem_cons_of_mem _ hq)
      have b := sgn_len vo p.1 p.2
      have d := h p List.mem_cons_self
      rw [List.flatMap_cons, List.length_append, List.length_cons]
      omega
  have := this c.knd fun p hp => (h2 p hp).1
  unfold Cls.spl
  omega
theorem spl_sgz {vo : Str → List (Option Str)} {c : Cls} (ok : c.ok) : ∀ q ∈ c.spl vo, q.2 ∈ sgz := fun q hq => by
  obtain ⟨p, hp, h⟩ := List.mem_flatMap.mp hq
  exact sgn_sgz vo p.1 p.2 ((knd_ok ok).2 p hp).2.1 q h
/-- (parent, PLUS), the parent at the slot 3 -/
def tPar : TE := fun σ H Q => ∃ v, σ[3]? = some (some v) ∧ ∀ t, H t = none → Q (.ref t) (upd H t (.tup [v, .str "+"]))
/-- (member[2], SIGN_OF[member[1]]), the member at the slot 4 -/
def tMem (K : PySem.W.Frag) : TE := fun σ H Q => ∃ v m, σ[4]? = some (some v) ∧ Mp K H v m ∧ m.2.1 ∈ wayz ∧ ∀ t u, Kp K H u m.2.2 → H t = none → Q (.ref t) (upd H t (.tup [u, .str (signOf m.2.1)]))
section
variable {P : Program} {w : World} {K : PySem.W.Frag} {mg : Str → Option Value} {base : Heap}
def spPlz (K : PySem.W.Frag) : Sp := fun vs H Q _ => ∃ (v : V) (c : Cls) (d : Addr) (ar : List (Str × Nat)) (vo : Str → List (Option Str)) (ls : List Str), vs = [v, .ref d] ∧ Cp K H v c ∧ c.ok ∧ VrAt H d ar vo ∧ (∀ k ∈ c.decl, k.fits ar ls) ∧
  ∀ H' l ws, Same H H' → H' l = some (.lst ws) → H l = none → Paired (Pp K H') ws (c.spl vo) → Q (.ref l) H'
theorem ok_plz (G : Glo mg) (G4 : Glo4 K w mg) (CS : Cal P w K mg base 2 "signed_letters" ["kind", "sign", "variances"] (spSgn K)) (D : DefAt K mg "signed_places" s_signed_places ["one", "variances"]) : Cal P w K mg base 3 "signed_places" ["one", "variances"] (spPlz K) := by
  obtain ⟨tp, hpl⟩ := G4.PL
  obtain ⟨ta, hta, hso⟩ := G4.SO
  refine D.cal sc_signed_places (fun vs H Q E h => ?_) (fun f cdv A outer s H vs Q E hr h => ?_)
  · obtain ⟨v, c, d, ar, vo, ls, rfl, _⟩ := h
    rfl
  obtain ⟨v, c, d, ar, vo, ls, rfl, ⟨a, ap, ak, am, rfl, hq, _, ⟨ks, hk, hkp⟩, ⟨ys, hy, hyp⟩⟩, ok, hd, hf, q⟩ := h
  have hkl : ks.length = c.ks.length := Paired.length hkp
  have hyl : ys.length = c.ms.length := Paired.length hyp
  have k2 := ok.k2
  have m2 := ok.m2
  obtain ⟨kn4, knd⟩ := knd_ok ok
  refine ⟨_, pss_cons (ps_set (i := 2) sc_signed_places.nd rfl (Or.inl rfl) (pe_op op_cat
      (pe_lc (own := [("parent", 3)]) (g := gName 3) (tt := tYes) (te := tPar) rfl sc_signed_places.nd (pi_tup (pe_ix ix_tup (pv 0) pe_int (fun _ _ => rfl))) (blkOk_by (N := nm_signed_places) (sc := defScope s_signed_places) (own := [("parent", 3)]) (by decide +kernel))
        (fun _ _ _ _ _ => pg_name (i := 3) sc_signed_places.nd rfl (Or.inl rfl)) (fun _ _ _ _ _ => pts_nil) (fun _ _ _ _ _ => peOf (pe_tup (pa_cons (pv 3) (pa_cons (pe_glob (v := .str "+") rfl hpl ⟨_, rfl⟩) pa_nil))) (fun σ H Q z => ?_)))
      (pe_lc (own := [("member", 4)]) (g := gName 4) (tt := tYes) (te := tMem K) rfl sc_signed_places.nd (pi_tup (pe_ix ix_tup (pv 0) pe_int (fun _ _ => rfl))) (blkOk_by (N := nm_signed_places) (sc := defScope s_signed_places) (own := [("member", 4)]) (by decide +kernel))
        (fun _ _ _ _ _ => pg_name (i := 4) sc_signed_places.nd rfl (Or.inl rfl)) (fun _ _ _ _ _ => pts_nil) (fun _ _ _ _ _ => peOf (pe_tup (pa_cons (pe_ix ix_tup (pv 4) pe_int (fun _ _ => rfl)) (pa_cons (pe_ix ix_kdict (pe_glob (v := .ref ta) rfl hta rfl) (pe_ix ix_tup (pv 4) pe_int (fun _ _ => rfl)) (fun _ _ => rfl)) pa_nil))) (fun σ H Q z => ?_)))))
    (pss_one (ps_ret (pe_lc2 (own := [("kind", 5), ("sign", 6), ("place", 7)]) (vs1 := [7]) (g := gTup K 2 (gCons (gName 5) (gCons (gName 6) gNil))) (tt := tYes) (g1 := gName 7) (tt1 := tYes) (te := tVar 7) (wi1 := iList K (fun σ H Q => tCons (tVar 5) (tCons (tVar 6) (tCons (tVar 1) tNil)) σ H fun vs H1 => spSgn K vs H1 Q E0)) rfl sc_signed_places.nd (pi_list (pv 2)) (blkOk_by (N := nm_signed_places) (sc := defScope s_signed_places) (own := [("kind", 5), ("sign", 6), ("place", 7)]) (by decide +kernel)) (by decide)
        (fun _ _ _ _ _ => pg_tup (by rfl) (pgs_cons (pg_name (i := 5) sc_signed_places.nd rfl (Or.inl rfl)) (pgs_cons (pg_name (i := 6) sc_signed_places.nd rfl (Or.inl rfl)) pgs_nil))) (fun _ _ _ _ _ => pts_nil) (fun _ _ _ _ _ => pi_list (pc CS hr rfl (pa_cons (pv 5) (pa_cons (pv 6) (pa_cons (pv 1) pa_nil)))))
        (fun _ _ _ _ _ => pg_name (i := 7) sc_signed_places.nd rfl (Or.inl rfl)) (fun _ _ _ _ _ => pts_nil) (fun _ _ _ _ _ => pv 7)))), ?_⟩
  · obtain ⟨v, e, q⟩ := z
    exact ⟨_, e, by show 2 ≤ sizeLine; decide, fun t ht => q t ht⟩
  · obtain ⟨v, m, e, ⟨a, u, rfl, hm, hu⟩, hw, q⟩ := z
    exact ⟨_, e, a, _, 2, u, rfl, rfl, hm, atI_nat (j := 2) rfl, _, e, a, _, 1, .str m.2.1, rfl, rfl, hm, atI_nat (j := 1) rfl, ta, m.2.1, _, rfl, rfl, hso _ hw, by show 2 ≤ sizeLine; decide, fun t ht => q t u hu ht⟩
  have wst : ∀ {H H' : Hp} {v : V} {p : Kd × Str}, Stay K H H' → Wp K H v p → Wp K H' v p := fun s h => h.stay s
  refine ⟨_, rfl, a, _, 2, .ref ak, rfl, rfl, hq, atI_nat (j := 2) rfl, ak, rfl, ⟨ks, hk⟩, fun B hB => ?_⟩
  refine lcT_map (F := Wp K) (te := tPar) 3 (fun k => (k, ("+" : Str))) rfl wst hkl (by omega) hk hB (fun i x k H' Q' hx hk1 s1 kq => ?_) (fun H1 acc s1 hB1 hp1 => ?_)
  · obtain ⟨kd, hkd, hkx⟩ := pairedAt hkp hx
    rw [hk1] at hkd
    cases hkd
    refine ⟨x, rfl, fun t ht => kq _ _ (same_new ht _) ⟨t, x, rfl, .inl (.inl upd_same), Th.stay ((stay_same s1).trans (stay_new ht _)) hkx⟩⟩
  have q1 := (stay_same (K := K) s1).tup _ _ hq
  have hy1 := (stay_same (K := K) s1).tup _ _ hy
  refine ⟨_, rfl, a, _, 3, .ref am, rfl, rfl, q1, atI_nat (j := 3) rfl, am, rfl, ⟨ys, hy1⟩, fun B2 hB2 => ?_⟩
  refine lcT_map (F := Wp K) (te := tMem K) 4 (fun m : Str × Str × Kd => (m.2.2, signOf m.2.1)) rfl wst hyl (by omega) hy1 hB2 (fun i x m H' Q' hx hm1 s2 kq => ?_) (fun H2 acc2 s2 hB22 hp2 => ?_)
  · obtain ⟨m', hmm, hmx⟩ := pairedAt hyp hx
    rw [hm1] at hmm
    cases hmm
    have hmi := List.mem_of_getElem? hm1
    refine ⟨x, m, rfl, Mp.stay (stay_same (s1.trans s2)) hmx, (ok.ml m hmi).2.1, fun t u hu ht => kq _ _ (same_new ht _) ⟨t, u, rfl, .inl (.inl upd_same), Th.stay (stay_new ht _) hu⟩⟩
  have l1 := Paired.length hp1
  have l2 := Paired.length hp2
  rw [List.length_map] at l1 l2
  refine ⟨B, B2, acc, acc2, rfl, rfl, s2 _ _ hB1, hB22, Nat.le_trans (show _ ≤ 100000 by omega) (by decide), fun p hp0 => ?_⟩
  have s3 := same_new hp0 (.lst (acc ++ acc2))
  have s13 := s1.trans (s2.trans s3)
  have hW : Paired (Wp K (upd H2 p (.lst (acc ++ acc2)))) (acc ++ acc2) c.knd := pairs_app (Paired.mapP hp1 fun _ _ z => z.stay ((stay_same s2).trans (stay_same s3))) (Paired.mapP hp2 fun _ _ z => z.stay (stay_same s3))
  have hpl2 : (upd H2 p (.lst (acc ++ acc2))) p = some (.lst (acc ++ acc2)) := upd_same
  generalize upd H2 p (.lst (acc ++ acc2)) = H3 at s3 s13 hW hpl2 ⊢
  generalize acc ++ acc2 = xs at hW hpl2 ⊢
  have xl : xs.length = c.knd.length := Paired.length hW
  refine ⟨_, rfl, p, rfl, ⟨xs, SqL.of hpl2⟩, fun L hL => ?_⟩
  have sL := same_new hL (.lst [])
  refine lc2_lst (K := K) (a := p) (xs := xs) (fun i H4 => Same H3 H4 ∧ ∃ acc, H4 L = some (.lst acc) ∧ Paired (Pp K H4) acc ((c.knd.take i).flatMap fun p => p.1.sgn vo p.2) ∧ acc.length ≤ 13 * i) ⟨sL, [], upd_same, .nil, Nat.zero_le _⟩ (fun i H4 ⟨s4, _⟩ => SqL.of (s4 _ _ hpl2)) (fun i u H4 hu ⟨s4, acc, hacc, hpa, hal⟩ => ?_) (fun H4 ⟨s4, acc, hacc, hpa, hal⟩ => ?_)
  · obtain ⟨kp, hk1, hk2⟩ := pairedAt hW hu
    have hkm := List.mem_of_getElem? hk1
    have hi : i < xs.length := (List.getElem?_eq_some_iff.mp hu).1
    obtain ⟨n13, sg, dc⟩ := knd kp hkm
    obtain ⟨t, w0, rfl, qt, kt⟩ := hk2.stay (stay_same s4)
    refine ⟨t, _, rfl, qt, rfl, w0, [.str kp.2], rfl, .str kp.2, [], rfl, rfl, rfl, ?_⟩
    unfold tYes
    dsimp only
    rw [if_pos rfl]
    refine ⟨w0, rfl, _, rfl, _, rfl, w0, kp.1, kp.2, d, ar, vo, ls, rfl, kt, by omega, sg, hd.same (s13.trans s4), hf _ dc, fun H5 l ws s5 hl hlf hws hwl => ?_⟩
    have h1 := Paired.length hws
    have h2 := sgn_len vo kp.1 kp.2
    have nlB : l ≠ L := fun e => by
      rw [e, hacc] at hlf
      cases hlf
    refine ⟨l, rfl, ⟨ws, SqL.of hl⟩, ?_⟩
    have hacc5 := s5 _ _ hacc
    have s45 := s4.trans s5
    show ∃ W1 : Nat → Nat → Hp → Prop, _
    refine lc2_in (K := K) (l := l) (ys := ws) (te := tVar 7) (D := L) (g1 := gName 7) (tt1 := tYes) (vs1 := [7]) (fun j H6 => Same H3 H6 ∧ H6 l = some (.lst ws) ∧ Stay K H5 H6 ∧ H6 L = some (.lst (acc ++ ws.take j))) ⟨s45, hl, Stay.refl _, by rw [List.take_zero, List.append_nil]; exact hacc5⟩ (fun j H6 ⟨_, h, _⟩ => SqL.of h) (fun j y H6 hy ⟨s6, hl6, st6, hB6⟩ => ?_) (fun H6 ⟨s6, hl6, st6, hB6⟩ => ?_)
    · refine ⟨rfl, ?_⟩
      unfold tYes
      dsimp only
      rw [if_pos rfl]
      have hj : j < ws.length := (List.getElem?_eq_some_iff.mp hy).1
      refine ⟨y, rfl, _, hB6, Nat.lt_of_le_of_lt (show _ ≤ 100000 by rw [List.length_append, List.length_take]; omega) (by decide), same_mut s6 hL, by rw [upd_ne nlB]; exact hl6, st6.trans (stay_lst hB6), ?_⟩
      rw [upd_same, take_one' hy, List.append_assoc]
    · rw [List.take_length] at hB6
      refine ⟨s6, _, hB6, ?_, ?_⟩
      · rw [take_one' hk1, List.flatMap_append, List.flatMap_singleton]
        exact pairs_app (Paired.mapP hpa fun _ _ z => z.stay ((stay_same s5).trans st6)) (Paired.mapP hws fun _ _ z => z.stay st6)
      · rw [List.length_append]
        omega
  · rw [xl, List.take_length] at hpa
    exact q H4 L acc (s13.trans s4) hacc (by
      cases h : H L with
      | none => rfl
      | some o => rw [s13 _ _ h] at hL; cases hL) hpa
end
end N

namespace N
open PySem PySem.Spec PyProof.Rows L2
/-! ### joined -/
def occB (sg r : Str) : Bool := !(Builtin.Str.occurrences r sg 0 r.length 1).isEmpty
def pmz : List Str := ["+", "-"]
def joinS (rows : List Str) : Str := Txt.join "" (pmz.filter fun s => rows.any (occB s))
theorem tt_of {X : Cx} {e : Expr} {t t' : TT} (h : PT X e t') (q : ∀ σ H Q, t σ H Q → t' σ H Q) : PT X e t := ⟨fun pins s σ H Q I z => h.run pins s σ H Q I (q σ H Q z)⟩
/-- any([sign in row for row in rows]), sign at 1, rows at 0 -/
def tHas (K : PySem.W.Frag) : TT := fun σ H Q => ∃ (sg : Str) (l : Addr) (rows : List Str), σ[1]? = some (some (.str sg)) ∧ σ[0]? = some (some (.ref l)) ∧ 3 ≤ σ.length ∧ SqL K H l (rows.map V.str) ∧ rows.length ≤ 1000 ∧ ∀ H', Same H H' → Q (rows.any (occB sg)) H'
/-- sign in row -/
def tOcc : TE := fun σ H Q => ∃ sg r : Str, σ[1]? = some (some (.str sg)) ∧ σ[2]? = some (some (.str r)) ∧ Q (.bl (occB sg r)) H
section
variable {P : Program} {w : World} {K : PySem.W.Frag} {mg : Str → Option Value} {base : Heap}
def spJoin (K : PySem.W.Frag) : Sp := fun vs H Q _ => ∃ (l : Addr) (rows : List Str), vs = [.ref l] ∧ SqL K H l (rows.map V.str) ∧ rows.length ≤ 1000 ∧ ∀ H', Same H H' → Q (.str (joinS rows)) H'
theorem ok_join (G : Glo mg) (hany : mg "any" = none) (hBO : ∃ t, mg "BOTH" = some (.str "+-" t)) (D : DefAt K mg "joined" s_joined ["rows"]) : Cal P w K mg base 1 "joined" ["rows"] (spJoin K) := by
  obtain ⟨tb, hb⟩ := hBO
  refine D.cal sc_joined (fun vs H Q E h => ?_) (fun f cdv A outer s H vs Q E hr h => ?_)
  · obtain ⟨l, rows, rfl, _⟩ := h
    rfl
  obtain ⟨l, rows, rfl, hl, hz, q⟩ := h
  refine ⟨_, pss_one (ps_ret (pe_join pe_str (pe_lc (own := [("sign", 1)]) (g := gName 1) (tt := tHas K) (te := tVar 1) rfl sc_joined.nd (pi_str (pe_glob (v := .str "+-") rfl hb ⟨_, rfl⟩)) (blkOk_by (N := nm_joined) (sc := defScope s_joined) (own := [("sign", 1)]) (by decide +kernel))
      (fun _ _ _ _ _ => pg_name (i := 1) sc_joined.nd rfl (by first | exact Or.inl rfl | exact Or.inr rfl))
      (fun _ _ _ _ _ => pts_one (tt_of (pt_val (pe_callB (cr_any rfl) (by rfl) hany (by decide +kernel) (pa_cons (pe_lc (own := [("row", 2)]) (g := gName 2) (tt := tYes) (te := tOcc) rfl sc_joined.nd (pi_list (pv 0)) (by exact blkOk_by (N := nm_joined) (by rfl))
        (fun _ _ _ _ _ => pg_name (i := 2) sc_joined.nd rfl (by first | exact Or.inl rfl | exact Or.inr rfl)) (fun _ _ _ _ _ => pts_nil)
        (fun _ _ _ _ _ => peOf (pe_cmpR op_in_str (pv 1) (pv 2) (by rfl)) (fun σ H Q z => ?_))) pa_nil))) (fun σ H Q z => ?_)))
      (fun _ _ _ _ _ => pv 1)))), ?_⟩
  · obtain ⟨sg, r, e1, e2, q⟩ := z
    exact ⟨_, e1, _, e2, _, _, rfl, rfl, q⟩
  · obtain ⟨sg, l, rows, e1, e0, hσ, hl, hz, q⟩ := z
    refine ⟨_, e0, l, rfl, ⟨_, hl⟩, fun B hB => ?_⟩
    refine lc_list (K := K) (a := l) (xs := rows.map V.str) (te := tOcc) (fun i H2 => Same H H2 ∧ H2 B = some (.lst (((rows.take i).map (occB sg)).map V.bl))) ⟨same_new hB _, upd_same⟩ (fun i H2 _ ⟨s2, _⟩ => s2.seq hl) (fun i y H2 hy ⟨s2, hB2⟩ => ?_) (fun H2 ⟨s2, hB2⟩ => ?_)
    · obtain ⟨r, hr1, rfl⟩ : ∃ r, rows[i]? = some r ∧ y = .str r := by
        rw [List.getElem?_map] at hy
        cases hq : rows[i]? with
        | none => rw [hq] at hy; cases hy
        | some r => rw [hq] at hy; exact ⟨r, rfl, (Option.some.inj hy).symm⟩
      have hi : i < rows.length := (List.getElem?_eq_some_iff.mp hr1).1
      refine ⟨wipe_one, ?_⟩
      unfold tYes
      dsimp only
      rw [if_pos rfl]
      refine ⟨sg, r, ?_, List.getElem?_set_self (by show 2 < (σ.set 2 none).length; rw [List.length_set]; omega), _, hB2, ?_, same_mut s2 hB, ?_⟩
      · rw [List.getElem?_set_ne (by decide)]
        show (σ.set 2 none)[1]? = _
        rw [List.getElem?_set_ne (by decide)]
        exact e1
      · rw [List.length_map, List.length_map, List.length_take]
        exact Nat.lt_of_le_of_lt (show _ ≤ 100000 by omega) (by decide)
      · rw [upd_same, take_one' hr1, List.map_append, List.map_append]
        rfl
    · rw [List.length_map, List.take_length] at hB2
      refine ⟨B, rows.map (occB sg), rfl, SqL.of hB2, _, rfl, ?_⟩
      rw [show (rows.map (occB sg)).any id = rows.any (occB sg) from by rw [List.any_map]; rfl]
      exact q H2 s2
  refine ⟨⟨_, rfl⟩, _, rfl, fun B hB => ?_⟩
  refine ⟨fun i m H' => m + i = 2 ∧ Same H H' ∧ H' B = some (.lst (((pmz.take i).filter fun s => rows.any (occB s)).map V.str)), ⟨2, rfl, same_new hB _, upd_same⟩, fun i m H' ⟨em, s1, hB1⟩ => ?_⟩
  by_cases h2 : i < 2
  · refine .inr ⟨show i < ("+-" : Str).cps.size from h2, fun H' => Same H H' ∧ H' B = some (.lst (((pmz.take (i + 1)).filter fun s => rows.any (occB s)).map V.str)), fun H' p => ⟨m - 1, by omega, by omega, p⟩, fun x H2 y => ?_⟩
    obtain ⟨rfl, c, hc, rfl⟩ := y
    have ec : pmz[i]? = some (⟨#[c]⟩ : Str) := by
      match i, h2 with
      | 0, _ => cases hc; rfl
      | 1, _ => cases hc; rfl
    refine ⟨rfl, ⟨#[c]⟩, l, rows, rfl, rfl, Nat.le_refl 3, s1.seq hl, hz, fun H3 s3 => ?_⟩
    have hB3 := s3 _ _ hB1
    cases hb : rows.any (occB ⟨#[c]⟩) with
    | true =>
      refine iteE rfl ?_
      refine ⟨_, rfl, _, hB3, ?_, same_mut (s1.trans s3) hB, ?_⟩
      · rw [List.length_map]
        have := List.length_filter_le (fun s => rows.any (occB s)) (pmz.take i)
        rw [List.length_take] at this
        exact Nat.lt_of_le_of_lt (show _ ≤ 100000 by omega) (by decide)
      · rw [upd_same, take_one' ec, List.filter_append, List.filter_cons, if_pos hb, List.filter_nil, List.map_append]
        rfl
    | false =>
      refine iteN rfl ?_
      refine ⟨s1.trans s3, ?_⟩
      rw [take_one' ec, List.filter_append, List.filter_cons, if_neg (by rw [hb]; exact Bool.false_ne_true), List.filter_nil, List.append_nil]
      exact hB3
  · have ei : i = 2 := by omega
    subst ei
    refine .inl ⟨show ("+-" : Str).cps.size ≤ 2 from Nat.le_refl 2, ?_⟩
    refine ⟨_, _, _, rfl, rfl, .inl (SqL.of hB1), ?_, q H' s1⟩
    have h1 : ∀ ys : List Str, (∀ y ∈ ys, y ∈ pmz) → ys.length ≤ 2 → (ys.map (·.length)).sum ≤ 2 := by
      intro ys h hy
      have : ∀ y ∈ ys, y.length = 1 := fun y hm => by
        have := h y hm
        simp only [pmz, List.mem_cons, List.not_mem_nil, or_false] at this
        rcases this with rfl | rfl <;> rfl
      have : (ys.map (·.length)).sum = ys.length := by
        clear hy h
        induction ys with
        | nil => rfl
        | cons y ys ih =>
          rw [List.map_cons, List.sum_cons, ih fun z hz => this z (List.mem_cons_of_mem _ hz), this y List.mem_cons_self, List.length_cons]
          omega
      omega
    have h2 := List.length_filter_le (fun s => rows.any (occB s)) (pmz.take 2)
    have h3 := h1 ((pmz.take 2).filter fun s => rows.any (occB s)) (fun y hy => List.mem_of_mem_take (List.mem_filter.mp hy).1) h2
    show _ + _ * 0 ≤ _
    omega
end
end N

namespace N
open PySem PySem.Spec PyProof.Rows L2
/-! ### a dict comprehension of two clauses, its keys tuples -/
theorem dturn2_out (kx vx t0 i0 t1 i1 : Expr) (ifs0 ifs1 : List Expr) (scope : Scope) (pos : Pos) (it : Value) (D : Addr) (env : Env) :
    compTurn (.DictComp kx vx [⟨t0, i0, ifs0, 0⟩, ⟨t1, i1, ifs1, 0⟩] scope pos) 0 it (.ref D) env = (do
      standAt i0.pos
      match ← pyNext it with
      | none => pure (.done .next)
      | some v =>
        letOwnedTupleGo t0 it v
        assign t0 env v
        let mut ok := true
        for c in ifs0 do
          if ok then ok ← isTrue c env (eval c env)
        if ok then
          let x ← eval i1 env
          standAt i1.pos
          let x ← foldedSetIterable i1 env x
          let _ ← runOwn (.compStart (.DictComp kx vx [⟨t0, i0, ifs0, 0⟩, ⟨t1, i1, ifs1, 0⟩] scope pos) 1 (← holding [x] (pyIter x)) (.ref D) env) env
        again (.compLoop (.DictComp kx vx [⟨t0, i0, ifs0, 0⟩, ⟨t1, i1, ifs1, 0⟩] scope pos) 0 it (.ref D) env)) := by rfl
theorem dturn2_in (kx vx t0 i0 t1 i1 : Expr) (ifs0 ifs1 : List Expr) (scope : Scope) (pos : Pos) (it : Value) (D : Addr) (env : Env) :
    compTurn (.DictComp kx vx [⟨t0, i0, ifs0, 0⟩, ⟨t1, i1, ifs1, 0⟩] scope pos) 1 it (.ref D) env = (do
      standAt i1.pos
      match ← pyNext it with
      | none => pure (.done .next)
      | some v =>
        letOwnedTupleGo t1 it v
        assign t1 env v
        let mut ok := true
        for c in ifs1 do
          if ok then ok ← isTrue c env (eval c env)
        if ok then
          (do
            let kv ← eval kx env
            let vv ← holding [kv] (eval vx env)
            standAt { kx.pos with endLine := vx.pos.endLine, endCol := vx.pos.endCol }
            holding [kv, vv] (dictSet D kv vv))
        again (.compLoop (.DictComp kx vx [⟨t0, i0, ifs0, 0⟩, ⟨t1, i1, ifs1, 0⟩] scope pos) 1 it (.ref D) env)) := by rfl
section
variable {prog : Program} {w : World} {A : Around} {R : Result → Shared → Prop} {s : Shared} {kx vx t0 i0 t1 i1 : Expr} {ifs0 ifs1 : List Expr} {scope : Scope} {pos : Pos} {it : Value} {D : Addr} {env : Env}
theorem dloop2_out (hs : ∀ x, foldedSetIterable i1 env x = pure x) (I : Nat → Shared → Prop)
    (turn : ∀ n s, I n s → wpAny (model prog w) A (pyNext it) (fun r s₁ => match r with
      | none => R (.ok .next) s₁
      | some v => wpAny (model prog w) A (letOwnedTupleGo t0 it v) (fun _ s₁' => wpAny (model prog w) A (assign t0 env v) (fun _ s₂ =>
          wpAny (model prog w) A (forIn ifs0 true fun c r => if r = true then do let ok ← isTrue c env (eval c env); pure (ForInStep.yield ok) else pure (ForInStep.yield r)) (fun ok s₃ =>
            if ok = true then wpAny (model prog w) A (eval i1 env) (fun x s₄ => wpAny (model prog w) A (pyIter x) (fun it1 s₅ =>
              codeAny (model prog w) A (.compStart (.DictComp kx vx [⟨t0, i0, ifs0, 0⟩, ⟨t1, i1, ifs1, 0⟩] scope pos) 1 it1 (.ref D) env) (fun r s' => match r with
                | .ok _ => ∃ m, m < n ∧ I m s'
                | .error _ => False) s₅) (notedBy (model prog w) A env fun e s' => R (.error e) s') s₄) (notedBy (model prog w) A env fun e s' => R (.error e) s') s₃
            else ∃ m, m < n ∧ I m s₃) (notedBy (model prog w) A env fun e s' => R (.error e) s') s₂) (notedBy (model prog w) A env fun e s' => R (.error e) s') s₁') (notedBy (model prog w) A env fun e s' => R (.error e) s') s₁) (notedBy (model prog w) A env fun e s' => R (.error e) s') s)
    (n : Nat) (h : I n s) :
    codeAny (model prog w) A (.compLoop (.DictComp kx vx [⟨t0, i0, ifs0, 0⟩, ⟨t1, i1, ifs1, 0⟩] scope pos) 0 it (.ref D) env) R s := by
  refine codeAny_loop rfl I (fun n s hI => ?_) n h
  show wpAny _ A ((compTurn (.DictComp kx vx [⟨t0, i0, ifs0, 0⟩, ⟨t1, i1, ifs1, 0⟩] scope pos) 0 it (.ref D) env).onRaise (fun x => do noteFrame x env; theTreesLotGoes x)) _ _ s
  refine wpAny_noted ?_
  rw [dturn2_out]
  refine wpAny_bind (wpAny_standAt (wpAny_bind (wpAny_mono (turn n s hI) (fun r s₁ h₁ => ?_) fun _ _ h' => h')))
  cases r with
  | none => exact wpAny_pure h₁
  | some v =>
    refine wpAny_bind (wpAny_mono h₁ (fun _ s₁' h₁' => ?_) fun _ _ h' => h')
    refine wpAny_bind (wpAny_mono h₁' (fun _ s₂ h₂ => wpAny_bind (wpAny_mono h₂ (fun ok s₃ h₃ => ?_) fun _ _ h' => h')) fun _ _ h' => h')
    cases ok with
    | false => exact wpAny_pure ⟨rfl, h₃⟩
    | true =>
      refine wpAny_bind (wpAny_mono h₃ (fun x s₄ h₄ => ?_) fun _ _ h' => h')
      refine wpAny_bind (wpAny_standAt (wpAny_bind (wpAny_of_eq (hs x) (wpAny_bind (wpAny_holding (wpAny_mono h₄ (fun it1 s₅ h₅ => ?_) fun _ _ h' => h'))))))
      refine wpAny_bind (wpAny_runOwn ?_)
      rw [Around.mark_none]
      refine codeAny_mono h₅ fun r s' hr => ?_
      cases r with
      | ok f =>
        first
          | exact wpAny_pure ⟨rfl, hr⟩
          | exact wpAny_bind (wpAny_pure (wpAny_pure ⟨rfl, hr⟩))
      | error e => exact hr.elim
theorem dloop2_in (I : Nat → Shared → Prop)
    (turn : ∀ n s, I n s → wpAny (model prog w) A (pyNext it) (fun r s₁ => match r with
      | none => R (.ok .next) s₁
      | some v => wpAny (model prog w) A (letOwnedTupleGo t1 it v) (fun _ s₁' => wpAny (model prog w) A (assign t1 env v) (fun _ s₂ =>
          wpAny (model prog w) A (forIn ifs1 true fun c r => if r = true then do let ok ← isTrue c env (eval c env); pure (ForInStep.yield ok) else pure (ForInStep.yield r)) (fun ok s₃ =>
            if ok = true then wpAny (model prog w) A (eval kx env) (fun kv s₄ => wpAny (model prog w) A (eval vx env) (fun vv s₅ =>
              wpAny (model prog w) A (dictSet D kv vv) (fun _ s₆ => ∃ m, m < n ∧ I m s₆) (notedBy (model prog w) A env fun e s' => R (.error e) s') s₅) (notedBy (model prog w) A env fun e s' => R (.error e) s') s₄) (notedBy (model prog w) A env fun e s' => R (.error e) s') s₃
            else ∃ m, m < n ∧ I m s₃) (notedBy (model prog w) A env fun e s' => R (.error e) s') s₂) (notedBy (model prog w) A env fun e s' => R (.error e) s') s₁') (notedBy (model prog w) A env fun e s' => R (.error e) s') s₁) (notedBy (model prog w) A env fun e s' => R (.error e) s') s)
    (n : Nat) (h : I n s) :
    codeAny (model prog w) A (.compLoop (.DictComp kx vx [⟨t0, i0, ifs0, 0⟩, ⟨t1, i1, ifs1, 0⟩] scope pos) 1 it (.ref D) env) R s := by
  refine codeAny_loop rfl I (fun n s hI => ?_) n h
  show wpAny _ A ((compTurn (.DictComp kx vx [⟨t0, i0, ifs0, 0⟩, ⟨t1, i1, ifs1, 0⟩] scope pos) 1 it (.ref D) env).onRaise (fun x => do noteFrame x env; theTreesLotGoes x)) _ _ s
  refine wpAny_noted ?_
  rw [dturn2_in]
  refine wpAny_bind (wpAny_standAt (wpAny_bind (wpAny_mono (turn n s hI) (fun r s₁ h₁ => ?_) fun _ _ h' => h')))
  cases r with
  | none => exact wpAny_pure h₁
  | some v =>
    refine wpAny_bind (wpAny_mono h₁ (fun _ s₁' h₁' => ?_) fun _ _ h' => h')
    refine wpAny_bind (wpAny_mono h₁' (fun _ s₂ h₂ => wpAny_bind (wpAny_mono h₂ (fun ok s₃ h₃ => ?_) fun _ _ h' => h')) fun _ _ h' => h')
    cases ok with
    | false => exact wpAny_pure ⟨rfl, h₃⟩
    | true =>
      exact wpAny_bind (wpAny_bind (wpAny_mono h₃ (fun kv s₄ h₄ => wpAny_bind (wpAny_holding (wpAny_mono h₄ (fun vv s₅ h₅ => wpAny_bind (wpAny_standAt (wpAny_holding (wpAny_mono h₅ (fun _ s₆ h₆ => wpAny_pure ⟨rfl, h₆⟩) fun _ _ h' => h')))) fun _ _ h' => h'))) fun _ _ h' => h'))
theorem dstart1_ok (h0 : codeAny (model prog w) A (.compLoop (.DictComp kx vx [⟨t0, i0, ifs0, 0⟩, ⟨t1, i1, ifs1, 0⟩] scope pos) 1 it (.ref D) env) R s)
    (h : wpAny (model prog w) A (pyIter it) (fun it' s' => codeAny (model prog w) A (.compLoop (.DictComp kx vx [⟨t0, i0, ifs0, 0⟩, ⟨t1, i1, ifs1, 0⟩] scope pos) 1 it' (.ref D) env) R s')
      (notedBy (model prog w) A env fun x s' => R (.error x) s') s) :
    codeAny (model prog w) A (.compStart (.DictComp kx vx [⟨t0, i0, ifs0, 0⟩, ⟨t1, i1, ifs1, 0⟩] scope pos) 1 it (.ref D) env) R s := by
  refine codeAny_of_tree ?_
  show wpAny _ _ ((compStart (.DictComp kx vx [⟨t0, i0, ifs0, 0⟩, ⟨t1, i1, ifs1, 0⟩] scope pos) 1 it (.ref D) env).onRaise (fun x => do noteFrame x env; standAt theWindowsPlace)) _ _ s
  refine wpAny_notedAt ?_
  unfold compStart
  show wpAny _ _ (ask >>= _) _ _ s
  refine wpAny_bind (wpAny_askSetting (wpAny_ite ?_))
  split
  · first
      | exact wpAny_bind (wpAny_pure (wpAny_pure (And.intro rfl h0)))
      | exact wpAny_pure (And.intro rfl h0)
  · first
      | exact wpAny_bind (wpAny_rule (wpAny_bind (wpAny_standAt (wpAny_bind (wpAny_mono h (fun it' s' h' => wpAny_pure (And.intro rfl h')) fun _ _ x => x)))))
      | (refine wpAny_bind (wpAny_rule ?_); show wpAny _ _ (standAt i1.pos >>= _) _ _ s; exact wpAny_bind (wpAny_standAt (wpAny_bind (wpAny_mono h (fun it' s' h' => wpAny_pure (And.intro rfl h')) fun _ _ x => x))))
end
section
variable {X : Cx} {pins : List (Addr × Obj)} {σ : L2.St} {H : Hp} {s : Shared} {d a : Addr} {kvs : List (NestedKey × V)} {k : NestedKey} {v : V} {r : Value} {A : Around} {E : Value → Shared → Prop}
/-- D[k] = v, by a comprehension -/
theorem dn_dictSet {Q : Unit → Shared → Prop} (hu : A.units + 8 < cLine) (I : Inv X pins σ H s) (h : DN X.prog X.w X.K H d kvs) (hk : NkV X.K H (.ref a) k) (hd : k.depth ≤ 8) (rv : RelV v r) (hl : kvs.length < sizeLine)
    (q : ∀ H' s', Inv X pins σ H' s' → (∀ b, b ≠ d → H' b = H b) → (∃ φ, H' d = some (.ext φ)) → DN X.prog X.w X.K H' d (putN kvs k v) → Q () s') : wpAny (model X.prog X.w) A (dictSet d (.ref a) r) Q E s := by
  obtain ⟨z, hs, xs, e, rel, dd⟩ := dn_of I h
  have hz : xs.length ≤ sizeLine := by rw [← Paired.length rel]; exact z
  have hl2 : (putN kvs k v).length ≤ sizeLine := by have := putN_length kvs k v; omega
  refine wpAny_dictSet_heap (hsz := hz) hu (nk_key I hk hd) dd fun h' dd' hs' => ?_
  obtain ⟨o, es, ep, hq, h2, h3, h4, _, h5⟩ := dd'
  have st : Stay X.K H (upd H d (.ext (RawD X.prog X.w d (storedH xs k a r)))) := stay_ext e
  refine q (upd H d (.ext (RawD X.prog X.w d (storedH xs k a r)))) _ (d_write I (by rw [e]; exact True.intro) hs' ⟨o, hq⟩ ?_) (fun b hb => upd_ne hb) ⟨_, upd_same⟩ ⟨hl2, hs, _, upd_same, (rel.put k ⟨hk, hd⟩ rv).stay st, h5⟩
  refine ⟨⟨o, es, ep, hq, h2, h3, h4⟩, ⟨o, hq⟩, fun h1 h2 ⟨o', es', ep', a1, a2, a3, a4⟩ kp => ⟨o', es', ep', kp _ a1, a2, a3, a4⟩⟩
end
/-- {k: v for tg in iter if .. for tg1 in iter1 if ..} -/
def tDc2 (P : Program) (w : World) (K : PySem.W.Frag) (wi : TI) (g : TG) (tt : TT) (wi1 : TI) (g1 : TG) (tt1 : TT) (tk tv : TE) (vs vs1 : List Nat) : TE := fun σ H Q => wi σ H fun J H1 => ∀ D, H1 D = none → ∀ H0, H0 = upd H1 D (.ext (RawD P w D [])) → DN P w K H0 D [] → ∃ W : Nat → Nat → Hp → Prop, (∃ m, W 0 m H0) ∧ ∀ i m H, W i m H →
  (J.stop i H ∧ Q (.ref D) H) ∨ (J.go i H ∧ ∃ Nx : Hp → Prop, (∀ H', Nx H' → ∃ m', m' < m ∧ W (i + 1) m' H') ∧ ∀ x H', J.yld i H x H' → g x (wipe σ vs) H' fun σ2 H2 => wipe σ2 vs = wipe σ vs ∧ tt σ2 H2 fun b H3 =>
    if b = true then wi1 σ2 H3 fun J1 H4 => ∃ W1 : Nat → Nat → Hp → Prop, (∃ m, W1 0 m H4) ∧ ∀ j k H, W1 j k H →
      (J1.stop j H ∧ Nx H) ∨ (J1.go j H ∧ ∃ Nx1 : Hp → Prop, (∀ H', Nx1 H' → ∃ k', k' < k ∧ W1 (j + 1) k' H') ∧ ∀ x H', J1.yld j H x H' → g1 x (wipe σ2 vs1) H' fun σ3 H5 => wipe σ3 vs1 = wipe σ2 vs1 ∧ tt1 σ3 H5 fun b H6 =>
        if b = true then tk σ3 H6 fun y H7 => tv σ3 H7 fun z H8 => ∃ a kvs k, y = .ref a ∧ DN P w K H8 D kvs ∧ kvs.length < sizeLine ∧ NkV K H8 (.ref a) k ∧ k.depth ≤ 8 ∧ ∀ H9, (∀ c, c ≠ D → H9 c = H8 c) → (∃ φ, H9 D = some (.ext φ)) → DN P w K H9 D (putN kvs k z) → Nx1 H9 else Nx1 H6)
    else Nx H3)
section
variable {X : Cx}
theorem dc2_core {pins : List (Addr × Obj)} {s : Shared} {σ : L2.St} {H : Hp} {Q : VK} {kx vx tg iter tg1 iter1 : Expr} {ifs ifs1 : List Expr} {scope : Scope} {own : List (Str × Nat)} {vs1 : List Nat} {pos pos' : Pos} {wi wi1 : TI} {g g1 : TG} {tt tt1 : TT} {tk tv : TE} {use : Option (Value → Sem Unit)} {Qf : Value → Shared → Prop}
    (hu : X.A.units + 8 < cLine) (hc : X.calm = true) (hN : X.N.Nodup) (I : Inv X pins σ H s) (hi : PI X tg iter wi) (ok : BlkOk X.N X.env.scope scope own) (hv : ∀ i ∈ vs1, i ∈ own.map (·.2))
    (hg : ∀ (s : Shared) (H : Hp) (C : Addr) (cl : List (Str × Addr)) (fp : List Addr), PG (X.blk s H scope (compEnvC scope cl C X.env) fp) tg g) (ht : ∀ (s : Shared) (H : Hp) (C : Addr) (cl : List (Str × Addr)) (fp : List Addr), PTs (X.blk s H scope (compEnvC scope cl C X.env) fp) ifs tt)
    (hk : ∀ (s : Shared) (H : Hp) (C : Addr) (cl : List (Str × Addr)) (fp : List Addr), PE (X.blk s H scope (compEnvC scope cl C X.env) fp) kx tk)
    (he : ∀ (s : Shared) (H : Hp) (C : Addr) (cl : List (Str × Addr)) (fp : List Addr), PE (X.blk s H scope (compEnvC scope cl C X.env) fp) vx tv) (hs : ∀ x, foldedSetIterable iter X.env x = pure x)
    (hi1 : ∀ (s : Shared) (H : Hp) (C : Addr) (cl : List (Str × Addr)) (fp : List Addr), PI (X.blk s H scope (compEnvC scope cl C X.env) fp) tg1 iter1 wi1)
    (hg1 : ∀ (s : Shared) (H : Hp) (C : Addr) (cl : List (Str × Addr)) (fp : List Addr), PG (X.blk s H scope (compEnvC scope cl C X.env) fp) tg1 g1)
    (ht1 : ∀ (s : Shared) (H : Hp) (C : Addr) (cl : List (Str × Addr)) (fp : List Addr), PTs (X.blk s H scope (compEnvC scope cl C X.env) fp) ifs1 tt1)
    (hs1 : ∀ env x, foldedSetIterable iter1 env x = pure x)
    (h : tDc2 X.prog X.w X.K wi g tt wi1 g1 tt1 tk tv (own.map (·.2)) vs1 σ H Q)
    (hRR : ∀ D C s' m H', Inv X pins σ H' s' → Q (.ref D) H' → s'.heap.Ns C m → FpOk X pins H' C → compPost (model X.prog X.w) X.A X.xe use Qf (.ref D) C (.ok .next) s') :
    wpAny (model X.prog X.w) X.A (comprehension (.DictComp kx vx [⟨tg, iter, ifs, 0⟩, ⟨tg1, iter1, ifs1, 0⟩] scope pos) scope X.env pos' newDict false (eval iter X.env) use) Qf X.xe s := by
  have hfree : ∀ y ∈ scope.names, y.2 = .free → ∃ c, X.env.cells.lookup y.1 = some c := fun y hy e => by
    rcases ok.free y hy e with k | k
    · exact I.ok.has _ (.inl k)
    · exact I.ok.has _ (.inr k)
  refine wpAny_comprehension_free (use := use) rfl hs (closure_ok hfree) ok.kind (fun y hy e => by rw [ok.uniq y hy, e])
    (thn (hi.run pins s σ H _ I h) fun xv s1 hx => thn hx fun itv s2 h2 => ?_)
  obtain ⟨it, fp, tn, J, H2, e, I2, T, st2, f2, q⟩ := h2
  subst e
  refine wpAny_newObj_type (newEnv_comp ?_)
  generalize hD : s2.heap.objs.size = D
  have hDn : H2 D = none := I2.hok.fresh (Nat.le_of_eq hD)
  have sy : (D == sysModules) = false := by rw [← hD]; exact beq_eq_false_iff_ne.mpr (Nat.ne_of_gt I2.big)
  obtain ⟨W, ⟨m0, w0⟩, turn⟩ := q D hDn _ rfl ⟨Nat.zero_le _, sy, [], upd_same, .nil, List.nodup_nil⟩
  generalize hs3 : ({ s2 with heap := s2.heap.push { cls := .type "dict", data := .dict #[] } } : Shared) = s3
  have I3 : Inv X pins σ (upd H2 D (.ext (RawD X.prog X.w D []))) s3 := by
    rw [← hs3]
    have ho : (s2.heap.push { cls := .type "dict", data := .dict #[] }).get? D = some { cls := .type "dict", data := .dict #[] } := by rw [← hD]; exact Heap.get?_push_size _ rfl
    exact I2.laid (t' := s2.toks) (fun b o e => Heap.get?_push_of_some _ e) (Nat.le_of_eq hD) ⟨⟨_, #[], 0, ho, ⟨rfl, rfl, rfl⟩, rfl, rfl⟩, ⟨_, ho⟩, fun h1 h2 ⟨o', es', ep', a1, a2, a3, a4⟩ kp => ⟨o', es', ep', kp _ a1, a2, a3, a4⟩⟩
  have h3 : s3.heap = s2.heap.push { cls := .type "dict", data := .dict #[] } := by rw [← hs3]
  have sz : ∀ b ∈ fp, b < s2.heap.objs.size := fun b hb => by
    obtain ⟨o, e, _⟩ := T.obj _ _ st2 b hb
    exact Heap.lt_size e
  have f3 : ∀ b ∈ fp, FpOk X pins (upd H2 D (.ext (RawD X.prog X.w D []))) b ∧ b < s3.heap.objs.size := fun b hb => by
    have hlt := sz b hb
    refine ⟨⟨?_, (f2 b hb).2⟩, by rw [h3, Heap.size_push]; exact Nat.lt_succ_of_lt hlt⟩
    rw [upd_ne (by rw [← hD]; exact Nat.ne_of_lt hlt)]
    exact (f2 b hb).1
  have st3 : tn 0 s3.heap := T.keep _ _ _ st2 fun b _ o e => by rw [h3]; exact Heap.get?_push_of_some _ e
  have I4 := block_start I3 ok hN f3
  have pg := hg s3 (upd H2 D (.ext (RawD X.prog X.w D []))) s3.heap.objs.size (cellsFrom (s3.heap.objs.size + 1) scope.names (cloFrom X.env.cells scope.names [])) fp
  have pt := ht s3 (upd H2 D (.ext (RawD X.prog X.w D []))) s3.heap.objs.size (cellsFrom (s3.heap.objs.size + 1) scope.names (cloFrom X.env.cells scope.names [])) fp
  have pk := hk s3 (upd H2 D (.ext (RawD X.prog X.w D []))) s3.heap.objs.size (cellsFrom (s3.heap.objs.size + 1) scope.names (cloFrom X.env.cells scope.names [])) fp
  have pe := he s3 (upd H2 D (.ext (RawD X.prog X.w D []))) s3.heap.objs.size (cellsFrom (s3.heap.objs.size + 1) scope.names (cloFrom X.env.cells scope.names [])) fp
  have pi1 := hi1 s3 (upd H2 D (.ext (RawD X.prog X.w D []))) s3.heap.objs.size (cellsFrom (s3.heap.objs.size + 1) scope.names (cloFrom X.env.cells scope.names [])) fp
  have pg1 := hg1 s3 (upd H2 D (.ext (RawD X.prog X.w D []))) s3.heap.objs.size (cellsFrom (s3.heap.objs.size + 1) scope.names (cloFrom X.env.cells scope.names [])) fp
  have pt1 := ht1 s3 (upd H2 D (.ext (RawD X.prog X.w D []))) s3.heap.objs.size (cellsFrom (s3.heap.objs.size + 1) scope.names (cloFrom X.env.cells scope.names [])) fp
  show codeAny _ _ (.compStart (.DictComp kx vx [⟨tg, iter, ifs, 0⟩, ⟨tg1, iter1, ifs1, 0⟩] scope pos) 0 (.ref it) (.ref D) (compEnvC scope (cellsFrom (s3.heap.objs.size + 1) scope.names (cloFrom X.env.cells scope.names [])) s3.heap.objs.size X.env)) (compPost (model X.prog X.w) X.A X.xe use Qf (.ref D) s3.heap.objs.size) { s3 with heap := pushCells (s3.heap.push { cls := .type "dict", data := .dict #[] }) scope.names }
  have nfp : ∀ b ∈ fp, (upd H2 D (.ext (RawD X.prog X.w D []))) b = none := fun b hb => (f3 b hb).1.1
  generalize hce : compEnvC scope (cellsFrom (s3.heap.objs.size + 1) scope.names (cloFrom X.env.cells scope.names [])) s3.heap.objs.size X.env = ce at I4 pg pt pk pe pi1 pg1 pt1 ⊢
  have cL : ce.locals = s3.heap.objs.size := by subst hce; rfl
  generalize hH3 : upd H2 D (.ext (RawD X.prog X.w D [])) = H3 at I3 I4 pg pt pk pe pi1 pg1 pt1 w0 nfp f3
  generalize hs4 : ({ s3 with heap := pushCells (s3.heap.push { cls := .type "dict", data := .dict #[] }) scope.names } : Shared) = s4 at I4 ⊢
  have st4 : tn 0 s4.heap := T.keep _ _ _ st3 fun b _ o e => by rw [← hs4]; exact pushCells_keeps _ _ _ _ (Heap.get?_push_of_some _ e)
  have stat : ∀ {σ' : L2.St} {H' : Hp} {s' : Shared}, Inv (X.blk s3 H3 scope ce fp) [] σ' H' s' → (∀ b ∈ fp, H' b = none) → ∀ b ∈ fp, FpOk (X.blk s3 H3 scope ce fp) [] H' b := fun {σ' H' s'} I' hn b hb =>
    ⟨hn b hb, (I'.ok.exf b hb).1, I'.ok.exfs b hb, .inl hb, fun x c e => (I'.ok.exf b hb).2 x c e, fun p hp => absurd (show p ∈ ([] : List (Addr × Obj)) ++ [] from hp) (by simp)⟩
  have loop : codeAny (model X.prog X.w) X.A (.compLoop (.DictComp kx vx [⟨tg, iter, ifs, 0⟩, ⟨tg1, iter1, ifs1, 0⟩] scope pos) 0 (.ref it) (.ref D) ce) (compPost (model X.prog X.w) X.A X.xe use Qf (.ref D) s3.heap.objs.size) s4 := by
    refine dloop2_out (hs1 ce) (fun n s' => ∃ i H', Inv (X.blk s3 H3 scope ce fp) [] (wipe σ (own.map (·.2))) H' s' ∧ tn i s'.heap ∧ (∀ b ∈ fp, H' b = none) ∧ W i n H') ?_ m0 ⟨0, H3, I4, st4, nfp, w0⟩
    rintro n s5 ⟨i, H5, I5, st5, n5, w5⟩
    rcases turn i n H5 w5 with ⟨stop, qq⟩ | ⟨go, Nx, hNx, step⟩
    · have td := T.done (X.blk s3 H3 scope ce fp) rfl rfl rfl hc i [] s5 _ H5 (fun _ _ => False) I5 (stat I5 n5) st5 stop
      refine thnF td fun r s6 ⟨hr, I6⟩ => ?_
      subst hr
      have I7 : Inv X pins σ H5 s6 := I3.call' (ch := fp) I6.os I6.base I6.hok I6.bare fun b hb => ⟨(f3 b hb).1.2.2.2.1, (f3 b hb).1.2.1, (f3 b hb).1.2.2.2.2.1, (f3 b hb).1.2.2.2.2.2⟩
      have nC : H5 s3.heap.objs.size = none := by
        have z : H5 ce.locals = none := I6.free
        rw [cL] at z
        exact z
      obtain ⟨m, hn, _⟩ := I6.loc
      have hn : s6.heap.Ns ce.locals m := hn
      rw [cL] at hn
      exact hRR D s3.heap.objs.size s6 m H5 I7 qq hn (I3.fpOk (Nat.le_refl _) nC)
    · have ti := T.item (X.blk s3 H3 scope ce fp) rfl rfl rfl hc i [] s5 _ H5 (fun _ _ => False) I5 (stat I5 n5) st5 go
      refine thnF ti fun r s6 ⟨u, hr, h6⟩ => ?_
      subst hr
      refine thnF h6 fun _ s7 ⟨x, H7, I7, r7, y7, st7, n7⟩ => ?_
      have I7' := I7.pinned (stat I7 n7) (T.obj _ _ st7)
      refine thnF (pg.run _ s7 _ H7 x u _ I7' r7 (step x H7 y7)) fun _ s8 ⟨σ8, H8, I8, hw8, q8⟩ => ?_
      refine thnF (pt.run _ s8 σ8 H8 _ I8 q8) fun b s9 ⟨H9, I9, q9⟩ => ?_
      have fin : ∀ {σ9 : L2.St} {s' : Shared} {H' : Hp}, Inv (X.blk s3 H3 scope ce fp) ([] ++ pinsAt fp s7.heap) σ9 H' s' → (wipe σ (own.map (·.2))).length = σ9.length → (∀ (j : Nat) v, (wipe σ (own.map (·.2)))[j]? = some (some v) → σ9[j]? = some (some v)) → Nx H' →
          ∃ m, m < n ∧ ∃ i H', Inv (X.blk s3 H3 scope ce fp) [] (wipe σ (own.map (·.2))) H' s' ∧ tn i s'.heap ∧ (∀ b ∈ fp, H' b = none) ∧ W i m H' := fun {σ9 s' H'} I' hl hk nx => by
        obtain ⟨m', hm, w'⟩ := hNx H' nx
        have pin' : ∀ b ∈ fp, ∀ o, s7.heap.get? b = some o → s'.heap.get? b = some o ∧ H' b = none := fun b hb o e =>
          let z := I'.pin (b, o) (List.mem_append_right _ (List.mem_append_right _ (mem_pinsAt hb e)))
          ⟨z.1, z.2.1⟩
        refine ⟨m', hm, i + 1, H', (I'.unpinned (pins := [])).weak hl hk, T.keep _ _ _ st7 fun b hb o e => (pin' b hb o e).1, fun b hb => ?_, w'⟩
        obtain ⟨o, e, _⟩ := T.obj _ _ st7 b hb
        exact (pin' b hb o e).2
      have hl8 : (wipe σ (own.map (·.2))).length = σ8.length := by rw [← hw8, wipe_length]
      have hk8 : ∀ (j : Nat) v, (wipe σ (own.map (·.2)))[j]? = some (some v) → σ8[j]? = some (some v) := fun j v e => by
        rw [← hw8] at e
        exact (wipe_some e).1
      have hk9 : ∀ (j : Nat) v, (wipe σ (own.map (·.2)))[j]? = some (some v) → (wipe σ8 vs1)[j]? = some (some v) := fun j v e => by
        rw [← hw8] at e
        obtain ⟨e1, e2⟩ := wipe_some e
        rw [wipe_out fun z => e2 (hv j z)]
        exact e1
      cases b with
      | false =>
        simp only [Bool.false_eq_true, if_false] at q9 ⊢
        exact fin I9 hl8 hk8 q9
      | true =>
        simp only [if_true] at q9 ⊢
        refine thnF (pi1.run _ s9 σ8 H9 _ I9 q9) fun xv s10 hx => thnF hx fun itv s11 h11 => ?_
        obtain ⟨it1, fp1, tn1, J1, H11, e1, I11, T1, st11, f11, W1, ⟨m1, w1⟩, turn1⟩ := h11
        subst e1
        have stat1 : ∀ {H' : Hp}, (∀ b ∈ fp1, H' b = none) → ∀ b ∈ fp1, FpOk (X.blk s3 H3 scope ce fp) ([] ++ pinsAt fp s7.heap) H' b := fun hn b hb => ⟨hn b hb, (f11 b hb).2⟩
        have loop1 : codeAny (model X.prog X.w) X.A (.compLoop (.DictComp kx vx [⟨tg, iter, ifs, 0⟩, ⟨tg1, iter1, ifs1, 0⟩] scope pos) 1 (.ref it1) (.ref D) ce)
            (fun r s' => match r with
              | .ok _ => ∃ m, m < n ∧ ∃ i H', Inv (X.blk s3 H3 scope ce fp) [] (wipe σ (own.map (·.2))) H' s' ∧ tn i s'.heap ∧ (∀ b ∈ fp, H' b = none) ∧ W i m H'
              | .error _ => False) s11 := by
          refine dloop2_in (fun k s' => ∃ j H', Inv (X.blk s3 H3 scope ce fp) ([] ++ pinsAt fp s7.heap) (wipe σ8 vs1) H' s' ∧ tn1 j s'.heap ∧ (∀ b ∈ fp1, H' b = none) ∧ W1 j k H') ?_ m1 ⟨0, H11, I11.weak (wipe_length _ _) (fun j v e => (wipe_some e).1), st11, fun b hb => (f11 b hb).1, w1⟩
          rintro k s12 ⟨j, H12, I12, st12, n12, w12⟩
          rcases turn1 j k H12 w12 with ⟨stop1, nx1⟩ | ⟨go1, Nx1, hNx1, step1⟩
          · refine thnF (T1.done (X.blk s3 H3 scope ce fp) rfl rfl rfl hc j _ s12 (wipe σ8 vs1) H12 (fun _ _ => False) I12 (stat1 n12) st12 stop1) fun r s13 ⟨hr, I13⟩ => ?_
            subst hr
            exact fin I13 (hl8.trans (wipe_length σ8 vs1).symm) hk9 nx1
          · refine thnF (T1.item (X.blk s3 H3 scope ce fp) rfl rfl rfl hc j _ s12 (wipe σ8 vs1) H12 (fun _ _ => False) I12 (stat1 n12) st12 go1) fun r s13 ⟨u1, hr, h13⟩ => ?_
            subst hr
            refine thnF h13 fun _ s14 ⟨x1, H14, I14, r14, y14, st14, n14⟩ => ?_
            have I14' := I14.pinned (stat1 n14) (T1.obj _ _ st14)
            refine thnF (pg1.run _ s14 (wipe σ8 vs1) H14 x1 u1 _ I14' r14 (step1 x1 H14 y14)) fun _ s15 ⟨σ15, H15, I15, hw15, q15⟩ => ?_
            refine thnF (pt1.run _ s15 σ15 H15 _ I15 q15) fun b1 s16 ⟨H16, I16, q16⟩ => ?_
            have fin1 : ∀ {s' : Shared} {H' : Hp}, Inv (X.blk s3 H3 scope ce fp) (([] ++ pinsAt fp s7.heap) ++ pinsAt fp1 s14.heap) σ15 H' s' → Nx1 H' → ∃ m, m < k ∧ ∃ j H', Inv (X.blk s3 H3 scope ce fp) ([] ++ pinsAt fp s7.heap) (wipe σ8 vs1) H' s' ∧ tn1 j s'.heap ∧ (∀ b ∈ fp1, H' b = none) ∧ W1 j m H' := fun {s' H'} I' nx => by
              obtain ⟨m', hm, w'⟩ := hNx1 H' nx
              have pin' : ∀ b ∈ fp1, ∀ o, s14.heap.get? b = some o → s'.heap.get? b = some o ∧ H' b = none := fun b hb o e =>
                let z := I'.pin (b, o) (List.mem_append_right _ (List.mem_append_right _ (mem_pinsAt hb e)))
                ⟨z.1, z.2.1⟩
              refine ⟨m', hm, j + 1, H', I'.unpinned.weak (by rw [← hw15, wipe_length]) (fun j v e => by rw [← hw15] at e; exact (wipe_some e).1), T1.keep _ _ _ st14 fun b hb o e => (pin' b hb o e).1, fun b hb => ?_, w'⟩
              obtain ⟨o, e, _⟩ := T1.obj _ _ st14 b hb
              exact (pin' b hb o e).2
            cases b1 with
            | false =>
              simp only [Bool.false_eq_true, if_false] at q16 ⊢
              exact fin1 I16 q16
            | true =>
              simp only [if_true] at q16 ⊢
              refine thnF (pk.run _ s16 σ15 H16 _ I16 q16) fun z0 s17 ⟨yk, H17, I17, r17, q17⟩ => ?_
              refine thnF (pe.run _ s17 σ15 H17 _ I17 q17) fun z s18 ⟨yv, H18, I18, r18, a, kvs, k, ek, hD18, hz18, hk18, hd18, nx⟩ => ?_
              subst ek
              obtain rfl : z0 = Value.ref a := r17
              exact dn_dictSet (X := X.blk s3 H3 scope ce fp) hu I18 hD18 hk18 hd18 r18 hz18 fun H19 s19 I19 e1 e2 e3 => fin1 I19 (nx H19 e1 e2 e3)
        exact dstart1_ok loop1 (T1.self X.A 0 _ _ _ st11 loop1)
  exact codeAny_compStart_dict loop (T.self X.A 0 _ _ _ st4 loop)
theorem pe_dc2 {kx vx tg iter tg1 iter1 : Expr} {ifs ifs1 : List Expr} {scope : Scope} {own : List (Str × Nat)} {vs1 : List Nat} {pos : Pos} {wi wi1 : TI} {g g1 : TG} {tt tt1 : TT} {tk tv : TE} (hu : X.A.units + 8 < cLine) (hc : X.calm = true) (hN : X.N.Nodup) (hi : PI X tg iter wi) (ok : BlkOk X.N X.env.scope scope own) (hv : ∀ i ∈ vs1, i ∈ own.map (·.2))
    (hg : ∀ (s : Shared) (H : Hp) (C : Addr) (cl : List (Str × Addr)) (fp : List Addr), PG (X.blk s H scope (compEnvC scope cl C X.env) fp) tg g) (ht : ∀ (s : Shared) (H : Hp) (C : Addr) (cl : List (Str × Addr)) (fp : List Addr), PTs (X.blk s H scope (compEnvC scope cl C X.env) fp) ifs tt)
    (hi1 : ∀ (s : Shared) (H : Hp) (C : Addr) (cl : List (Str × Addr)) (fp : List Addr), PI (X.blk s H scope (compEnvC scope cl C X.env) fp) tg1 iter1 wi1)
    (hg1 : ∀ (s : Shared) (H : Hp) (C : Addr) (cl : List (Str × Addr)) (fp : List Addr), PG (X.blk s H scope (compEnvC scope cl C X.env) fp) tg1 g1) (ht1 : ∀ (s : Shared) (H : Hp) (C : Addr) (cl : List (Str × Addr)) (fp : List Addr), PTs (X.blk s H scope (compEnvC scope cl C X.env) fp) ifs1 tt1)
    (hk : ∀ (s : Shared) (H : Hp) (C : Addr) (cl : List (Str × Addr)) (fp : List Addr), PE (X.blk s H scope (compEnvC scope cl C X.env) fp) kx tk)
    (he : ∀ (s : Shared) (H : Hp) (C : Addr) (cl : List (Str × Addr)) (fp : List Addr), PE (X.blk s H scope (compEnvC scope cl C X.env) fp) vx tv) (hs : ∀ x, foldedSetIterable iter X.env x = pure x := by intro _; rfl) (hs1 : ∀ env x, foldedSetIterable iter1 env x = pure x := by intro _ _; rfl) :
    PE X (.DictComp kx vx [⟨tg, iter, ifs, 0⟩, ⟨tg1, iter1, ifs1, 0⟩] scope pos) (tDc2 X.prog X.w X.K wi g tt wi1 g1 tt1 tk tv (own.map (·.2)) vs1) := by
  refine ⟨fun pins s σ H Q I h => ?_⟩
  rw [arm_eval_DictComp]
  refine dc2_core hu hc hN I hi ok hv hg ht hk he hs hi1 hg1 ht1 hs1 h fun D C s' m H' I' q hn f => ⟨m, hn, fun h'' sb => ?_⟩
  obtain ⟨f0, f1, f2, f3, f4, f5⟩ := f
  exact ⟨.ref D, H', I'.turned (t' := s'.toks) (fun b o hb e => (sb.2 b hb).trans e) f0 f1 f3 f4 f5, rfl, q⟩
end
end N

namespace N
open PySem PySem.Spec PyProof.Rows L2
/-! ### signs_under -/
def sg4 : List Str := ["", "+", "-", "+-"]
def stdF (s : Str) : Option Str := if s = "+" then some "out" else if s = "-" then some "in" else if s = "+-" then some "same" else none
def keyP (n l : Str) : NestedKey := .tup [.text n, .text l]
theorem keyP_inj {n l n' l' : Str} (h : keyP n l = keyP n' l') : n = n' ∧ l = l' := by
  unfold keyP at h
  simp only [NestedKey.tup.injEq, List.cons.injEq, NestedKey.text.injEq, and_true] at h
  exact h
theorem keyP_depth (n l : Str) : (keyP n l).depth ≤ 8 := by simp [keyP, NestedKey.depth, NestedKey.depthAll]
/-- what a dict by class and letter holds -/
def rowG (f : Cls → Str → Str) (c : Cls) : List (NestedKey × Str) := c.ps.map fun p => (keyP c.nm p.1, f c p.1)
def tabG (cs : List Cls) (f : Cls → Str → Str) : List (NestedKey × Str) := cs.flatMap (rowG f)
def keyL (c : Cls) : List NestedKey := c.ps.map fun p => keyP c.nm p.1
theorem rowG_keys (f : Cls → Str → Str) (c : Cls) : (rowG f c).map Prod.fst = keyL c := by
  unfold rowG keyL
  rw [List.map_map]
  rfl
theorem tabG_keys (f : Cls → Str → Str) : ∀ cs : List Cls, (tabG cs f).map Prod.fst = cs.flatMap keyL
  | [] => rfl
  | c :: cs => by
    unfold tabG
    rw [List.flatMap_cons, List.flatMap_cons, List.map_append, rowG_keys]
    exact congrArg (keyL c ++ ·) (tabG_keys f cs)
theorem keyL_nm {c : Cls} {k : NestedKey} (h : k ∈ keyL c) : ∃ l, k = keyP c.nm l := by
  obtain ⟨p, _, rfl⟩ := List.mem_map.mp h
  exact ⟨p.1, rfl⟩
theorem keys_nd {cs : List Cls} (nd : (cs.map Cls.nm).Nodup) (ok : ∀ c ∈ cs, c.ok) : (cs.flatMap keyL).Nodup := by
  unfold List.Nodup
  rw [List.pairwise_flatMap]
  constructor
  · intro c hc
    have pd := (ok c hc).pd
    unfold keyL
    rw [List.pairwise_map]
    exact (List.pairwise_map.mp pd).imp fun {p q} hne e => hne (keyP_inj e).2
  · refine (List.pairwise_map.mp nd).imp fun {c c'} hne q hq r hr e => hne ?_
    obtain ⟨l, rfl⟩ := keyL_nm hq
    obtain ⟨l', rfl⟩ := keyL_nm hr
    exact (keyP_inj e).1
theorem tabG_len {cs : List Cls} (f : Cls → Str → Str) (ok : ∀ c ∈ cs, c.ok) : (tabG cs f).length ≤ 2 * cs.length := by
  unfold tabG
  induction cs with
  | nil => exact Nat.le_refl _
  | cons c cs ih =>
    have h1 := ih fun d hd => ok d (List.mem_cons_of_mem _ hd)
    have h2 := (ok c List.mem_cons_self).p2
    rw [List.flatMap_cons, List.length_append, List.length_cons]
    unfold rowG at h1 ⊢
    rw [List.length_map]
    omega
theorem tabG_val {cs : List Cls} {f : Cls → Str → Str} (nd : (cs.map Cls.nm).Nodup) (ok : ∀ c ∈ cs, c.ok) {c : Cls} (hc : c ∈ cs) {p : Str × Str} (hp : p ∈ c.ps) : valN (tabG cs f) (keyP c.nm p.1) = some (f c p.1) := by
  have h1 : ((tabG cs f).map Prod.fst).Nodup := by rw [tabG_keys]; exact keys_nd nd ok
  exact valN_mem h1 (p := (keyP c.nm p.1, f c p.1)) (List.mem_flatMap.mpr ⟨c, hc, List.mem_map_of_mem (f := fun p => (keyP c.nm p.1, f c p.1)) hp⟩)
theorem valN_nil {β : Type} : ∀ {l : List (NestedKey × β)} {k : NestedKey}, k ∉ l.map Prod.fst → valN l k = none
  | [], _, _ => rfl
  | p :: l, k, h => by
    rw [List.map_cons, List.mem_cons, not_or] at h
    have : valN (p :: l) k = valN l k := by simp [valN, List.find?_cons, Ne.symm h.1]
    rw [this]
    exact valN_nil h.2
theorem putN_new {l : List (NestedKey × V)} {k : NestedKey} {v : V} (h : k ∉ l.map Prod.fst) : putN l k v = l ++ [(k, v)] := by
  unfold putN
  rw [valN_any, valN_nil h, if_neg (by simp)]
theorem strV_app (a b : List (NestedKey × Str)) : strV (a ++ b) = strV a ++ strV b := by unfold strV; rw [List.map_append]
theorem strV_keys (a : List (NestedKey × Str)) : (strV a).map Prod.fst = a.map Prod.fst := by unfold strV; rw [List.map_map]; rfl
/-- the variances that f gives to a class -/
def voC (f : Cls → Str → Str) (c : Cls) : List (Option Str) := c.ps.map fun p => stdF (f c p.1)
def voF (cs : List Cls) (f : Cls → Str → Str) (n : Str) : List (Option Str) := ((cs.find? fun c => c.nm == n).map (voC f)).getD []
theorem voF_eq {f : Cls → Str → Str} : ∀ {cs : List Cls} {c : Cls}, (cs.map Cls.nm).Nodup → c ∈ cs → voF cs f c.nm = voC f c
  | d :: cs, c, nd, h => by
    rw [List.map_cons, List.nodup_cons] at nd
    unfold voF
    by_cases e : d.nm = c.nm
    · have : c = d := by
        rcases List.mem_cons.mp h with h | h
        · exact h
        · exact absurd (e ▸ List.mem_map_of_mem (f := Cls.nm) h) nd.1
      subst this
      rw [List.find?_cons_of_pos (by simp)]
      rfl
    · have h' : c ∈ cs := (List.mem_cons.mp h).resolve_left fun q => e (by rw [q])
      rw [List.find?_cons_of_neg (by simpa using e)]
      exact voF_eq nd.2 h'
/-- the sign of a letter of a class -/
def rowsAt (vo : Str → List (Option Str)) (c : Cls) (l : Str) : List Str := ((c.spl vo).filter fun q => decide (q.1 = l)).map Prod.snd
def signAt (vo : Str → List (Option Str)) (c : Cls) (l : Str) : Str := joinS (rowsAt vo c l)
theorem joinS_sg4 (rows : List Str) : joinS rows ∈ sg4 := by
  unfold joinS
  cases h1 : rows.any (occB "+") <;> cases h2 : rows.any (occB "-")
  · have : (pmz.filter fun s => rows.any (occB s)) = [] := by simp [pmz, List.filter_cons, h1, h2]
    rw [this]; decide +kernel
  · have : (pmz.filter fun s => rows.any (occB s)) = (["-"] : List Str) := by simp [pmz, List.filter_cons, h1, h2]
    rw [this]; decide +kernel
  · have : (pmz.filter fun s => rows.any (occB s)) = (["+"] : List Str) := by simp [pmz, List.filter_cons, h1, h2]
    rw [this]; decide +kernel
  · have : (pmz.filter fun s => rows.any (occB s)) = (["+", "-"] : List Str) := by simp [pmz, List.filter_cons, h1, h2]
    rw [this]; decide +kernel
theorem stdF_varz {s v : Str} (h : stdF s = some v) : v ∈ varz := by
  unfold stdF at h
  split at h
  · cases h; decide
  · split at h
    · cases h; decide
    · split at h
      · cases h; decide
      · cases h
theorem hu9x {k : Nat} {A : Around} (hr : RoomG k A) : A.units + 9 < cLine := by
  have := hr.toRoom.un
  omega
structure Glo5 (K : PySem.W.Frag) (w : World) (mg : Str → Option Value) : Prop where
  BO : ∃ t, mg "BOTH" = some (.str "+-" t)
  ST : ∃ a, mg "STANDS_FOR" = some (.ref a) ∧ ∀ s ∈ sg4, KDct K w a s (optV (stdF s))
def FVo (f : Cls → Str → Str) (H : Hp) (v : V) (c : Cls) : Prop := ∃ l, v = .ref l ∧ H l = some (.lst ((voC f c).map optV))
theorem valV_nil {κ : Type} [DecidableEq κ] : ∀ {l : List (κ × V)} {k : κ}, k ∉ l.map Prod.fst → valV l k = none
  | [], _, _ => rfl
  | p :: l, k, h => by
    rw [List.map_cons, List.mem_cons, not_or] at h
    rw [valV_neg (Ne.symm h.1)]
    exact valV_nil h.2
theorem nm_fresh {cs : List Cls} {i : Nat} {c : Cls} (nd : (cs.map Cls.nm).Nodup) (h : cs[i]? = some c) : c.nm ∉ (cs.take i).map Cls.nm := by
  have e := take_snoc h
  have h1 : ((cs.take (i + 1)).map Cls.nm).Nodup := nd.sublist ((List.take_sublist _ _).map _)
  rw [e, List.map_append, List.nodup_append] at h1
  intro hm
  exact h1.2.2 _ hm _ (by simp) rfl
theorem keyL_fresh {cs : List Cls} {i : Nat} {c : Cls} (nd : (cs.map Cls.nm).Nodup) (h : cs[i]? = some c) (l : Str) : keyP c.nm l ∉ (cs.take i).flatMap keyL := fun hm => by
  obtain ⟨d, hd, hk⟩ := List.mem_flatMap.mp hm
  obtain ⟨l', e⟩ := keyL_nm hk
  exact nm_fresh nd h (by rw [(keyP_inj e).1]; exact List.mem_map_of_mem hd)
theorem row_fresh {c : Cls} {j : Nat} {p : Str × Str} (pd : (c.ps.map Prod.fst).Nodup) (h : c.ps[j]? = some p) (f : Cls → Str → Str) : keyP c.nm p.1 ∉ ((rowG f c).take j).map Prod.fst := fun hm => by
  unfold rowG at hm
  rw [← List.map_take, List.map_map] at hm
  obtain ⟨q, hq, e⟩ := List.mem_map.mp hm
  have e1 := take_snoc h
  have h1 : ((c.ps.take (j + 1)).map Prod.fst).Nodup := pd.sublist ((List.take_sublist _ _).map _)
  rw [e1, List.map_append, List.nodup_append] at h1
  exact h1.2.2 _ (List.mem_map_of_mem hq) _ (by simp) (keyP_inj e).2
theorem paired_eqO : ∀ {l : List V} {r : List (Option Str)}, Paired (fun v z => v = optV z) l r → l = r.map optV
  | _, _, .nil => rfl
  | _, _, .cons a t => by rw [a, paired_eqO t, List.map_cons]
theorem vrAt_of {H : Hp} {vd : Addr} {kvs : List (Key × V)} {cs : List Cls} {f : Cls → Str → Str} (nd : (cs.map Cls.nm).Nodup) (hk : H vd = some (.dK kvs)) (e : kvs.map Prod.fst = (cs.map Cls.nm).map Sum.inr) (hp : Paired (fun (kv : Key × V) c => FVo f H kv.2 c) kvs cs) : VrAt H vd (arOf cs) (voF cs f) := by
  refine ⟨kvs, .inl hk, fun p hp0 => ?_⟩
  obtain ⟨c0, hc0, en, el⟩ := mem_arOf hp0
  obtain ⟨c, hc, v, ecn, hv, l, rfl, hl⟩ := dct_val (n := p.1) e hp (by rw [← en]; exact List.mem_map_of_mem hc0)
  have e1 : voF cs f p.1 = voC f c := by rw [← ecn]; exact voF_eq nd hc
  refine ⟨⟨l, hv, by rw [e1]; exact hl⟩, ?_, fun v hv => ?_⟩
  · rw [← en, voF_eq nd hc0]
    unfold voC
    rw [List.length_map, el]
  · rw [e1] at hv
    unfold voC at hv
    obtain ⟨q, _, e2⟩ := List.mem_map.mp hv
    exact stdF_varz e2
theorem ext_is {H H' : Hp} {p : Addr} {φ : Heap → Prop} (h : ∀ c, c ≠ p → H' c = H c) (e : H' p = some (.ext φ)) : H' = upd H p (.ext φ) := by
  funext c
  by_cases z : c = p
  · subst z
    rw [e, upd_same]
  · rw [upd_ne z]
    exact h c z
theorem rowsAt_len {vo : Str → List (Option Str)} {c : Cls} (ok : c.ok) (l : Str) : (rowsAt vo c l).length ≤ 52 := by
  have h1 := spl_len (vo := vo) ok
  have h2 := List.length_filter_le (fun q : Str × Str => decide (q.1 = l)) (c.spl vo)
  unfold rowsAt
  rw [List.length_map]
  omega
/-- STANDS_FOR[given[one[0], parameter[0]]], one at 3, parameter at 4, given at 1 -/
def tStd (P : Program) (w : World) (K : PySem.W.Frag) : TE := fun σ H Q => ∃ (vc vp : V) (c : Cls) (p : Str × Str) (d : Addr) (g : List (NestedKey × Str)) (s : Str), σ[3]? = some (some vc) ∧ σ[4]? = some (some vp) ∧ σ[1]? = some (some (.ref d)) ∧ Cp K H vc c ∧ Pp K H vp p ∧ DN P w K H d (strV g) ∧ valN g (keyP c.nm p.1) = some s ∧ s ∈ sg4 ∧ ∀ H', Same H H' → Q (optV (stdF s)) H'
section
variable {P : Program} {w : World} {K : PySem.W.Frag} {mg : Str → Option Value} {base : Heap}
def spUnder (P : Program) (w : World) (K : PySem.W.Frag) : Sp := fun vs H Q _ => ∃ (a d : Addr) (cs : List Cls) (f : Cls → Str → Str), vs = [.ref a, .ref d] ∧ CsAt K H a cs ∧ FormsOk cs ∧ FitOk cs ∧ DN P w K H d (strV (tabG cs f)) ∧ (∀ c ∈ cs, ∀ p ∈ c.ps, f c p.1 ∈ sg4) ∧
  ∀ p H', Same H H' → H p = none → DN P w K H' p (strV (tabG cs (signAt (voF cs f)))) → Q (.ref p) H'
theorem ok_under (G : Glo mg) (G5 : Glo5 K w mg) (CP : Cal P w K mg base 3 "signed_places" ["one", "variances"] (spPlz K)) (CL : Cal P w K mg base 1 "letters_of" ["one"] (spLets K)) (CJ : Cal P w K mg base 1 "joined" ["rows"] (spJoin K)) (D : DefAt K mg "signs_under" s_signs_under ["classes", "given"]) :
    Cal P w K mg base 4 "signs_under" ["classes", "given"] (spUnder P w K) := by
  obtain ⟨ta, hta, hst⟩ := G5.ST
  refine D.cal sc_signs_under (fun vs H Q E h => ?_) (fun f0 cdv A outer s H vs Q E hr h => ?_)
  · obtain ⟨a, d, cs, f, rfl, _⟩ := h
    rfl
  obtain ⟨a, d, cs, f, rfl, ⟨xs, hq, hp⟩, F, T, hd, hf4, q⟩ := h
  have n5 := F.n5
  have hr1 : RoomG 1 (A.deeper (envOfC "signs_under" (defScope s_signs_under) s.heap.objs.size f0 cdv)) := hr.mono (by decide)
  refine ⟨_, pss_cons (ps_set (i := 2) sc_signs_under.nd rfl (by first | exact Or.inl rfl | exact Or.inr rfl) pe_dnewK)
    (pss_cons (ps_for (passes_of rfl) rfl (pi_tup (pv 0)) (pg_name (i := 3) sc_signs_under.nd rfl (by first | exact Or.inl rfl | exact Or.inr rfl))
      (pss_one (ps_dput (hug hr) (pv 2) (pe_ix ix_tup (pv 3) pe_int (fun _ _ => rfl)) (pe_lc (own := [("parameter", 4)]) (g := gName 4) (tt := tYes) (te := tStd P w K) rfl sc_signs_under.nd (pi_tup (pe_ix ix_tup (pv 3) pe_int (fun _ _ => rfl))) (blkOk_by (N := nm_signs_under) (sc := defScope s_signs_under) (own := [("parameter", 4)]) (by decide +kernel))
        (fun _ _ _ _ _ => pg_name (i := 4) sc_signs_under.nd rfl (by first | exact Or.inl rfl | exact Or.inr rfl)) (fun _ _ _ _ _ => pts_nil)
        (fun _ _ _ _ _ => peOf (pe_ix ix_kdict (pe_glob (v := .ref ta) rfl hta rfl) (pe_nget (hu9x hr) (pv 1) (pe_tup (pa_cons (pe_ix ix_tup (pv 3) pe_int (fun _ _ => rfl)) (pa_cons (pe_ix ix_tup (pv 4) pe_int (fun _ _ => rfl)) pa_nil))) (fun _ _ => rfl)) (fun _ _ => rfl)) (fun σ H Q z => ?_))) rfl)))
    (pss_cons (ps_set (i := 5) sc_signs_under.nd rfl (by first | exact Or.inl rfl | exact Or.inr rfl) pe_nnew)
    (pss_cons (ps_for (passes_of rfl) rfl (pi_tup (pv 0)) (pg_name (i := 3) sc_signs_under.nd rfl (by first | exact Or.inl rfl | exact Or.inr rfl))
      (pss_cons (ps_set (i := 6) sc_signs_under.nd rfl (by first | exact Or.inl rfl | exact Or.inr rfl) (pc CP hr rfl (pa_cons (pv 3) (pa_cons (pv 2) pa_nil))))
      (pss_one (ps_for (passes_of rfl) rfl (pi_list (pc CL hr1 rfl (pa_cons (pv 3) pa_nil))) (pg_name (i := 7) sc_signs_under.nd rfl (by first | exact Or.inl rfl | exact Or.inr rfl))
        (pss_one (ps_nput (hu9x hr) (pv 5) (pe_tup (pa_cons (pe_ix ix_tup (pv 3) pe_int (fun _ _ => rfl)) (pa_cons (pv 7) pa_nil))) (pc CJ hr1 rfl (pa_cons (pe_lc (own := [("other", 8), ("sign", 9)]) (g := gTup K 2 (gCons (gName 8) (gCons (gName 9) gNil))) (te := tVar 9) rfl sc_signs_under.nd (pi_list (pv 6)) (blkOk_by (N := nm_signs_under) (sc := defScope s_signs_under) (own := [("other", 8), ("sign", 9)]) (by decide +kernel))
          (fun _ _ _ _ _ => pg_tup (by rfl) (pgs_cons (pg_name (i := 8) sc_signs_under.nd rfl (by first | exact Or.inl rfl | exact Or.inr rfl)) (pgs_cons (pg_name (i := 9) sc_signs_under.nd rfl (by first | exact Or.inl rfl | exact Or.inr rfl)) pgs_nil)))
          (fun _ _ _ _ _ => pts_one (pt_cmpR op_eq (pv 8) (pv 7) (nomark _))) (fun _ _ _ _ _ => pv 9)) pa_nil)) rfl))))))
    (pss_one (ps_ret (pv 5)))))), ?_⟩
  · obtain ⟨vc, vp, c, p, dd, g, s, e3, e4, e1, ⟨ac, ap, ak, am, rfl, hqc, _⟩, ⟨aq, rfl, hqp⟩, hdn, hv, hs, q⟩ := z
    refine ⟨_, e1, _, e3, ac, _, 0, .str c.nm, rfl, rfl, hqc, atI_nat (j := 0) rfl, _, e4, aq, _, 0, .str p.1, rfl, rfl, hqp, atI_nat (j := 0) rfl, by show 2 ≤ sizeLine; decide, fun t ht => ?_⟩
    have st := same_new ht (.tup [.str c.nm, .str p.1])
    refine ⟨dd, t, strV g, keyP c.nm p.1, .str s, rfl, rfl, hdn.same st, .tup (.inl (.inl upd_same)) (.cons (.str _) (.cons (.str _) .nil)), keyP_depth _ _, by rw [valN_strV, hv]; rfl, ?_⟩
    exact ⟨ta, s, _, rfl, rfl, hst s hs, q _ st⟩
  intro vd hvd
  have s0 := same_new hvd (.dK [])
  refine ⟨_, rfl, a, rfl, ⟨xs, (stay_same s0).tup _ _ hq⟩, ?_⟩
  have xl : xs.length = cs.length := Paired.length hp
  refine for_tup (K := K) (a := a) (xs := xs) (fun i σ H' => ∃ y3 kvs, σ = [some (.ref a), some (.ref d), some (.ref vd), y3, none, none, none, none, none, none] ∧ Same H H' ∧ H' vd = some (.dK kvs) ∧ kvs.map Prod.fst = ((cs.take i).map Cls.nm).map Sum.inr ∧ Paired (fun (kv : Key × V) c => FVo f H' kv.2 c) kvs (cs.take i))
    ⟨_, [], rfl, s0, upd_same, rfl, .nil⟩ (fun i σ H' _ ⟨_, _, _, sm, _⟩ => (stay_same sm).tup _ _ hq) (fun i x σ H1 hxi ⟨y3, kvs, eσ, s1, hk1, ek1, hp1⟩ => ?_) (fun σ H1 ⟨y3, kvs, eσ, s1, hk1, ek1, hp1⟩ => ?_)
  · subst eσ
    obtain ⟨c, hc1, hc2⟩ := pairedAt hp hxi
    have hcm := List.mem_of_getElem? hc1
    have ok := F.ok c hcm
    have hc3 := hc2.stay (stay_same (K := K) s1)
    obtain ⟨ac, ap, ak, am, rfl, qc, ⟨ys, hy, hyp⟩, hak, ham⟩ := hc3
    have hyl : ys.length = c.ps.length := Paired.length hyp
    have p2 := ok.p2
    refine ⟨_, rfl, ac, _, 1, .ref ap, rfl, rfl, qc, atI_nat (j := 1) rfl, ap, rfl, ⟨ys, hy⟩, fun B hB => ?_⟩
    refine lcT_map (F := fun _ v z => v = optV z) (te := tStd P w K) 4 (fun p : Str × Str => stdF (f c p.1)) rfl (fun _ h => h) hyl (by omega) hy hB (fun j y p H' Q' hyj hpj s2 kq => ?_) (fun H2 acc s2 hB2 hacc => ?_)
    · obtain ⟨p', hp', hpy⟩ := pairedAt hyp hyj
      rw [hpj] at hp'
      cases hp'
      have hpm := List.mem_of_getElem? hpj
      have s12 := s1.trans s2
      exact ⟨_, y, c, p, d, tabG cs f, f c p.1, rfl, rfl, rfl, hc2.stay (stay_same s12), hpy.stay (stay_same s2), hd.same s12, tabG_val F.nd F.ok hcm hpm, hf4 c hcm p hpm, fun H3 s3 => kq _ _ s3 rfl⟩
    have hacc2 := paired_eqO hacc
    subst hacc2
    have hk2 := s2 _ _ hk1
    have kl : kvs.length = (cs.take i).length := Paired.length hp1
    rw [List.length_take] at kl
    have fresh : valV kvs (Sum.inr c.nm : Key) = none := valV_nil (by
      rw [ek1]
      intro hm
      obtain ⟨n, hn, e⟩ := List.mem_map.mp hm
      cases e
      exact nm_fresh F.nd hc1 hn)
    refine ⟨_, rfl, _, rfl, ac, _, 0, .str c.nm, rfl, rfl, (stay_same s2).tup _ _ qc, atI_nat (j := 0) rfl, vd, _, rfl, .inl ⟨kvs, Sum.inr c.nm, hk2, rfl, Nat.lt_of_le_of_lt (show kvs.length ≤ 100000 by omega) (by decide), rfl⟩, ?_⟩
    rw [putK_new _ fresh]
    have nBv : B ≠ vd := fun z => by rw [z, hk2] at hB2; cases hB2
    refine ⟨_, kvs ++ [(Sum.inr c.nm, .ref B)], rfl, same_mut (s1.trans s2) hvd, upd_same, ?_, ?_⟩
    · rw [List.map_append, ek1, take_snoc hc1, List.map_append, List.map_append]
      rfl
    · rw [take_snoc hc1]
      refine pairs_app (Paired.mapP hp1 fun kv c' ⟨l, e, hl⟩ => ⟨l, e, ?_⟩) (.cons ⟨B, rfl, ?_⟩ .nil)
      · have hl2 := s2 _ _ hl
        rw [upd_ne (fun z => by rw [z, hk2] at hl2; cases hl2)]
        exact hl2
      · rw [upd_ne nBv]
        exact hB2
  subst eσ
  rw [xl, List.take_length] at ek1 hp1
  have vr1 := vrAt_of (f := f) F.nd hk1 ek1 hp1
  generalize voF cs f = vo at vr1 q ⊢
  intro fo hfo H2 s2 e2 h2
  have hφ2 : ∃ φ, H2 fo = some (.ext φ) := ⟨_, by rw [e2]; exact upd_same⟩
  have keepS : ∀ {H3 H4 : Hp}, Same H1 H3 → (∀ c, c ≠ fo → H4 c = H3 c) → Same H1 H4 := fun {H3 H4} s3 hc b o e => by
    have nb : b ≠ fo := fun z => by rw [z, hfo] at e; cases e
    rw [hc b nb]
    exact s3 _ _ e
  refine ⟨_, rfl, a, rfl, ⟨xs, (stay_same (s1.trans s2)).tup _ _ hq⟩, ?_⟩
  refine for_tup (K := K) (a := a) (xs := xs) (fun i σ H' => ∃ y3 y6 y7, σ = [some (.ref a), some (.ref d), some (.ref vd), y3, none, some (.ref fo), y6, y7, none, none] ∧ Same H1 H' ∧ (∃ φ, H' fo = some (.ext φ)) ∧ DN P w K H' fo (strV (tabG (cs.take i) (signAt vo))))
    ⟨_, _, _, rfl, s2, hφ2, h2⟩ (fun i σ H' _ ⟨_, _, _, _, sm, _⟩ => (stay_same (s1.trans sm)).tup _ _ hq) (fun i x σ H3 hxi ⟨y3, y6, y7, eσ, s3, hφ3, hd3⟩ => ?_) (fun σ H3 ⟨y3, y6, y7, eσ, s3, hφ3, hd3⟩ => ?_)
  rotate_left
  · subst eσ
    rw [xl, List.take_length] at hd3
    exact ⟨_, rfl, q fo H3 (s1.trans s3) (s1.free hfo) hd3⟩
  subst eσ
  obtain ⟨c, hc1, hc2⟩ := pairedAt hp hxi
  have hcm := List.mem_of_getElem? hc1
  have ok := F.ok c hcm
  have p2 := ok.p2
  have hc3 := hc2.stay (stay_same (K := K) (s1.trans s3))
  have hi : i < cs.length := (List.getElem?_eq_some_iff.mp hc1).1
  refine ⟨_, rfl, _, rfl, x, c, vd, arOf cs, vo, c.ps.map Prod.fst, rfl, hc3, ok, vr1.same s3, fun k hk => (T.f c hcm k hk).1, fun H4 l ws s4 hl hlf hws => ?_⟩
  have s34 := s3.trans s4
  refine ⟨_, rfl, x, c, rfl, hc2.stay (stay_same (s1.trans s34)), ok, fun H5 l2 s5 hl2 => ?_⟩
  have s35 := s34.trans s5
  have s45 := s4.trans s5
  obtain ⟨φ3, hφ3⟩ := hφ3
  have hφ5 := s45 _ _ hφ3
  have hl5 := s5 _ _ hl
  have nlf : l ≠ fo := fun z => by rw [z, hφ5] at hl5; cases hl5
  have nlf2 : l2 ≠ fo := fun z => by rw [z, hφ5] at hl2; cases hl2
  have hws5 := Paired.mapP hws fun _ _ z => z.stay (stay_same (K := K) s5)
  have wl : ws.length = (c.spl vo).length := Paired.length hws
  have spl52 := spl_len (vo := vo) ok
  have tl := tabG_len (cs := cs.take i) (signAt vo) fun e he => F.ok e (List.mem_of_mem_take he)
  rw [List.length_take] at tl
  refine ⟨l2, rfl, ⟨_, SqL.of hl2⟩, ?_⟩
  refine for_list (K := K) (a := l2) (xs := (c.ps.map Prod.fst).map V.str) (fun j σ H' => ∃ y7, σ = [some (.ref a), some (.ref d), some (.ref vd), some x, none, some (.ref fo), some (.ref l), y7, none, none] ∧ Same H1 H' ∧ (∃ φ, H' fo = some (.ext φ)) ∧ H' l = some (.lst ws) ∧ H' l2 = some (.lst ((c.ps.map Prod.fst).map V.str)) ∧ Paired (Pp K H') ws (c.spl vo) ∧ DN P w K H' fo (strV (tabG (cs.take i) (signAt vo) ++ (rowG (signAt vo) c).take j)))
    ⟨_, rfl, s35, ⟨_, hφ5⟩, hl5, hl2, hws5, by rw [List.take_zero, List.append_nil]; exact hd3.same s45⟩ (fun j σ H' _ ⟨_, _, _, _, _, h, _⟩ => SqL.of h) (fun j y σ H6 hyj ⟨y7, eσ, s6, ⟨φ6, hφ6⟩, hl6, hl26, hws6, hd6⟩ => ?_) (fun σ H6 ⟨y7, eσ, s6, hφ6, hl6, hl26, hws6, hd6⟩ => ?_)
  rotate_left
  · subst eσ
    have e3 : (rowG (signAt vo) c).take ((c.ps.map Prod.fst).map V.str).length = rowG (signAt vo) c := by
      rw [List.length_map, List.length_map]
      exact List.take_of_length_le (by unfold rowG; rw [List.length_map]; exact Nat.le_refl _)
    rw [e3] at hd6
    refine ⟨_, _, _, rfl, s6, hφ6, ?_⟩
    rw [take_snoc hc1]
    unfold tabG
    rw [List.flatMap_append, List.flatMap_singleton]
    exact hd6
  subst eσ
  obtain ⟨p, hpj, rfl⟩ : ∃ p, c.ps[j]? = some p ∧ y = .str p.1 := by
    rw [List.getElem?_map, List.getElem?_map] at hyj
    cases hq : c.ps[j]? with
    | none => rw [hq] at hyj; cases hyj
    | some p => rw [hq] at hyj; exact ⟨p, rfl, (Option.some.inj hyj).symm⟩
  have hjl : j < c.ps.length := (List.getElem?_eq_some_iff.mp hpj).1
  refine ⟨_, rfl, l, rfl, ⟨ws, SqL.of hl6⟩, fun B hB => ?_⟩
  refine lc_list (K := K) (a := l) (xs := ws) (te := tVar 9) (fun i H' => Same H6 H' ∧ H' B = some (.lst (((((c.spl vo).take i).filter fun q => decide (q.1 = p.1)).map Prod.snd).map V.str))) ⟨same_new hB _, upd_same⟩ (fun i H' _ ⟨s, _⟩ => SqL.of (s _ _ hl6)) (fun i u H7 hu ⟨s7, hB7⟩ => ?_) (fun H7 ⟨s7, hB7⟩ => ?_)
  · obtain ⟨g, hg1, ⟨b', rfl, hb'⟩⟩ := pairedAt hws6 hu
    have hil : i < ws.length := (List.getElem?_eq_some_iff.mp hu).1
    refine ⟨b', _, rfl, (stay_same s7).tup _ _ hb', rfl, .str g.1, [.str g.2], rfl, .str g.2, [], rfl, rfl, rfl, ?_⟩
    refine ⟨_, rfl, _, rfl, rfl, _, rfl, ?_⟩
    by_cases e : g.1 = p.1
    · refine iteE (decide_eq_true (by rw [e])) ⟨_, rfl, _, hB7, ?_, same_mut s7 hB, ?_⟩
      · have h2 := List.length_filter_le (fun q : Str × Str => decide (q.1 = p.1)) ((c.spl vo).take i)
        rw [List.length_take] at h2
        rw [List.length_map, List.length_map]
        exact Nat.lt_of_le_of_lt (show _ ≤ 100000 by omega) (by decide)
      · rw [upd_same, take_snoc hg1, List.filter_append, List.filter_cons, if_pos (decide_eq_true e), List.filter_nil, List.map_append, List.map_append]
        rfl
    · refine iteN (decide_eq_false fun z => e (V.str.inj z)) ⟨s7, ?_⟩
      rw [take_snoc hg1, List.filter_append, List.filter_cons, if_neg (by rw [decide_eq_false e]; exact Bool.false_ne_true), List.filter_nil, List.append_nil]
      exact hB7
  rw [wl, List.take_length] at hB7
  have r52 := rowsAt_len (vo := vo) ok p.1
  refine ⟨B, rowsAt vo c p.1, rfl, SqL.of hB7, by omega, fun H8 s8 => ?_⟩
  have s68 := s7.trans s8
  have hc8 := hc2.stay (stay_same (K := K) (s1.trans (s6.trans s68)))
  obtain ⟨ac, ap, ak, am, rfl, qc, _⟩ := hc8
  refine ⟨_, rfl, _, rfl, ac, _, 0, .str c.nm, rfl, rfl, qc, atI_nat (j := 0) rfl, _, rfl, by show 2 ≤ sizeLine; decide, fun t ht => ?_⟩
  have st := same_new ht (.tup [.str c.nm, .str p.1])
  have s69 := s68.trans st
  refine ⟨fo, t, _, keyP c.nm p.1, rfl, rfl, hd6.same s69, ?_, .tup (.inl (.inl upd_same)) (.cons (.str _) (.cons (.str _) .nil)), keyP_depth _ _, fun H9 e9 ⟨φ9, hφ9⟩ hd9 => ?_⟩
  · unfold strV
    rw [List.length_map, List.length_append]
    have h2 : ((rowG (signAt vo) c).take j).length ≤ j := by rw [List.length_take]; omega
    exact Nat.lt_of_le_of_lt (show _ ≤ 100000 by omega) (by decide)
  have ew := ext_is e9 hφ9
  have hφ69 := s69 _ _ hφ6
  have sx : Stay K (upd H8 t (.tup [.str c.nm, .str p.1])) H9 := by rw [ew]; exact stay_ext hφ69
  have frk : keyP c.nm p.1 ∉ (strV (tabG (cs.take i) (signAt vo) ++ (rowG (signAt vo) c).take j)).map Prod.fst := by
    rw [strV_keys, List.map_append, List.mem_append, not_or]
    exact ⟨by rw [tabG_keys]; exact keyL_fresh F.nd hc1 p.1, row_fresh ok.pd hpj _⟩
  rw [putN_new frk] at hd9
  refine ⟨_, rfl, keepS (s6.trans s69) e9, ⟨_, hφ9⟩, by rw [e9 _ nlf]; exact s69 _ _ hl6, by rw [e9 _ nlf2]; exact s69 _ _ hl26, Paired.mapP hws6 fun _ _ z => (z.stay (stay_same s69)).stay sx, ?_⟩
  have er : (rowG (signAt vo) c)[j]? = some (keyP c.nm p.1, signAt vo c p.1) := by
    unfold rowG
    rw [List.getElem?_map, hpj]
    rfl
  rw [take_snoc er, ← List.append_assoc, strV_app]
  exact hd9
end
end N

namespace N
open PySem PySem.Spec PyProof.Rows L2
section
variable {P : Program} {w : World} {K : PySem.W.Frag} {mg : Str → Option Value} {base : Heap}
theorem let_len {x : Str} (h : isLet x = true) : x.length ≤ 100000 := by
  unfold isLet at h
  simp only [Bool.and_eq_true, decide_eq_true_eq] at h
  omega
theorem nam_len {x : Str} (h : isNam x = true) : x.length ≤ 100000 := by
  have := (isNam_iff.mp h).2.1
  omega
theorem Kps.mem {H : Hp} : ∀ {vs : List V} {ks : List Kd} {v : V}, Kps K H vs ks → v ∈ vs → ∃ k ∈ ks, Kp K H v k
  | _, [], v, .nil, h => by cases h
  | _, k :: ks, v, .cons r t, h => by
    rcases List.mem_cons.mp h with rfl | h
    · exact ⟨k, List.mem_cons_self, r⟩
    · obtain ⟨k', h1, h2⟩ := Kps.mem t h
      exact ⟨k', List.mem_cons_of_mem _ h1, h2⟩
theorem eqv_letters (ls : List Str) : PyData.eqv (.list (ls.map .str)) (.list []) = ls.isEmpty := by
  cases ls <;> simp [PyData.eqv, PyData.eqvAll]
theorem dp_letters {H : Hp} : ∀ ls : List Str, DpAll K H (ls.map .str) (ls.map .str)
  | [] => .nil
  | c :: ls => .cons (.str c) (dp_letters ls)
theorem strOk_of {x : Str} (h : ∀ c ∈ x.cps.toList, c < 1114112) : PyData.strOk x = true := by
  obtain ⟨⟨l⟩⟩ := x
  show Array.all _ _ = true
  rw [List.all_toArray, List.all_eq_true]
  intro c hc
  exact decide_eq_true (h c hc)
theorem let_strOk {x : Str} (h : isLet x = true) : PyData.strOk x = true := by
  obtain ⟨c, e, h1, h2⟩ := isLet_iff.mp h
  refine strOk_of fun z hz => ?_
  rw [e] at hz
  have := List.mem_singleton.mp hz
  omega
theorem nam_strOk {x : Str} (h : isNam x = true) : PyData.strOk x = true := by
  obtain ⟨_, _, h3⟩ := isNam_iff.mp h
  refine strOk_of fun z hz => ?_
  have := h3 z hz
  unfold Low at this
  omega
theorem shaped_letters {ls : List Str} (hl : ∀ c ∈ ls, isLet c = true) : SeqAt.shaped (.list (ls.map .str)) = true := by
  have h1 : ∀ ls : List Str, (∀ c ∈ ls, isLet c = true) → PyData.canLayAll0 (ls.map .str) = true := fun ls => by
    induction ls with
    | nil => intro _; simp [PyData.canLayAll0]
    | cons c ls ih =>
      intro h
      simp [PyData.canLayAll0, PyData.canLay0, ih fun x hx => h x (List.mem_cons_of_mem _ hx), let_strOk (h c List.mem_cons_self)]
  have h2 : ∀ ls : List Str, PyData.depthAll (ls.map .str) ≤ 1 := fun ls => by
    induction ls with
    | nil => simp [PyData.depthAll]
    | cons c ls ih => simp only [List.map_cons, PyData.depthAll, PyData.depth]; omega
  show (PyData.canLay0 _ && decide (PyData.depth _ ≤ 64)) = true
  rw [Bool.and_eq_true, decide_eq_true_eq]
  refine ⟨by simp only [PyData.canLay0]; exact h1 ls hl, ?_⟩
  have := h2 ls
  simp only [PyData.depth]
  omega
end
end N

/-! ### == and != of an instance whose class has an own == and no own != -/
namespace OwnQ
open PySem PySem.W PySem.SeqAt
open AutoSeq1 (wpAny_loadPart')
section
variable {prog : Program} {w : World} {A : Around} {E : Value → Shared → Prop} {s : Shared} {K : Frag} {x C L f : Addr} {h₀ : Heap} {m : Str → Option Value} {ox : Obj} {od : Option Obj} {b tb : Value}
/-- the class's own == at f, object's != -/
theorem ifBound_B {M : Model} {name : Str} {id : String} {args : List Value} {Q : Option Value → Shared → Prop} (X : K.In s.heap) (I : InstAt s.heap x ox C od) (hs : findIn K (.ref C) name = some (some (.builtin id))) (hb : ∀ self, bindSpecial (.builtin id) self = pure (.builtin id, [self]))
    (h : wpAny M A (call (.builtin id) (.ref x :: args)) (fun v => Q (some v)) E s) : wpAny M A (callSpecialIfBound? (.ref x) name args) Q E s := by
  simp only [callSpecialIfBound?, bindSpecialIfBound?]
  refine wpAny_holding (wpAny_bind (wpAny_bind (wpAny_bind (I.type.here ((looks_findIn X hs).here ?_)))))
  refine wpAny_bind (wpAny_askSetting (wpAny_ite ?_))
  have fin : wpAny M A (call (.builtin id) ([.ref x] ++ args) >>= fun v => pure (some v)) Q E s := wpAny_bind (wpAny_mono h (fun v s' h' => wpAny_pure h') fun _ _ e => e)
  simp only [hb]
  split
  · exact wpAny_bind (wpAny_pure (wpAny_pure (by exact fin)))
  · exact wpAny_tryCatch (wpAny_bind (wpAny_pure (wpAny_pure (by exact fin))))
theorem ne_K {Q : Value → Shared → Prop} (hu : A.units + 1 < cLine) (X : K.In s.heap) (I : InstAt s.heap x ox C od) (hb : Looks (model prog w) s.heap (typeOf b) tb) (hn : notFirst K C tb = true)
    (hne : findIn K (.ref C) "__ne__" = some (some (.builtin "object.__ne__"))) (hm : mroIn K C (.type "object") = some true) (hs : findIn K (.ref C) "__eq__" = some (some (.ref f))) (hf : isFn K (.ref f) = true)
    (h : codeAny (model prog w) A.in1 (.call (.ref f) ⟨[.ref x, b], []⟩) (fun r s' => match r with | .ok (.ret v) => ∃ r, v = .bool r ∧ Q (.bool (!r)) s' | .ok _ => False | .error e => E e s') s) : wpAny (model prog w) A (richCompare .NotEq (.ref x) b) Q E s := by
  have hu0 : A.units < cLine := Nat.lt_of_succ_lt hu
  have one : wpAny (model prog w) A (tryCompare (.ref x) (cmpInfo .NotEq).2.1 b) (fun r s' => ∃ v, r = some v ∧ Q v s') E s := by
    unfold tryCompare
    refine wpAny_bind (ifBound_B X I hne F.cmp_object.ne.bind ?_)
    refine wpAny_call (codeAny_call_builtin F.cmp_object.ne.plain F.cmpEntry_ne (check_slot F.cmpKind_ne F.cmpSplit_ne (I.type.andThen (looks_mroIn X hm)) (F.cmpArgs_ne _ _) ?_))
    unfold Builtin.«object.__ne__»
    have hu1 : A.in1.units < cLine := hu
    repeat (first | with_reducible refine wpAny_cRoomFor hu1 ?_ | with_reducible refine ifBound_K X I hs hf ?_ | wp_step)
    refine codeAny_mono h fun r s' hq => ?_
    match r, hq with
    | .error e, hq => exact hq
    | .ok (.ret v), hq =>
      obtain ⟨r, rfl, q⟩ := hq
      show wpAny _ _ _ _ _ _
      repeat (first | with_reducible refine wpAny_truthy_bool ?_ | wp_step)
      exact ⟨_, rfl, q⟩
    | .ok .next, hq => exact hq.elim
    | .ok .brk, hq => exact hq.elim
    | .ok .cont, hq => exact hq.elim
  unfold richCompare
  simp only [oneThing_ref]
  refine wpAny_holding (wpAny_bind (wpAny_cRoomFor hu0 ?_))
  refine wpAny_bind (I.type.here (wpAny_bind (hb.here ?_)))
  split
  · rename_i q
    have e : subIn K tb (.ref C) = some false := by
      rcases Bool.or_eq_true_iff.mp hn with e | e
      · rw [beq_iff_eq.mp e] at q; simp at q
      · exact beq_iff_eq.mp e
    refine wpAny_bind ((looks_subIn X e).here ?_)
    simp only [Bool.false_eq_true, if_false]
    refine wpAny_bind (wpAny_mono one (fun r s' z => ?_) fun _ _ e => e)
    obtain ⟨v, rfl, hq⟩ := z
    exact wpAny_pure hq
  · refine wpAny_bind (wpAny_pure ?_)
    simp only [Bool.false_eq_true, if_false]
    refine wpAny_bind (wpAny_mono one (fun r s' z => ?_) fun _ _ e => e)
    obtain ⟨v, rfl, hq⟩ := z
    exact wpAny_pure hq
/-- a thing of a built-in type that declines, then the class's own == -/
theorem refl_K {T id : String} {Q : Value → Shared → Prop} (hu : A.units < cLine) (X : K.In s.heap) (I : InstAt s.heap x ox C od) (hb : s.TypeIs b T) (hm : mroIn K C (.type T) = some false) (slot : Slot T (cmpInfo .Eq).2.1 id)
    (hc : ∀ Q' : Value → Shared → Prop, Q' .notImplemented s → wpAny (model prog w) A (call (.builtin id) [b, .ref x]) Q' E s) (hs : findIn K (.ref C) "__eq__" = some (some (.ref f))) (hf : isFn K (.ref f) = true)
    (h : wpAny (model prog w) A (call (.ref f) [.ref x, b]) (CmpBack Q) E s) : wpAny (model prog w) A (richCompare .Eq b (.ref x)) Q E s := by
  have one : wpAny (model prog w) A (tryCompare (.ref x) "__eq__" b) (fun r s' => ∃ v, r = some v ∧ Q v s') E s := by
    unfold tryCompare
    refine wpAny_bind (ifBound_K X I hs hf (wpAny_mono h (fun v s' hv => ?_) fun _ _ e => e))
    cases v <;> first | exact hv.elim | exact wpAny_pure ⟨_, rfl, hv⟩
  rcases hi : cmpInfo CmpOp.Eq with ⟨sym, f1, r1⟩
  have er : r1 = ("__eq__" : Str) := by
    have := congrArg (fun z => z.2.2) hi
    exact this.symm
  rw [hi] at slot
  simp only [richCompare, hi, hb.oneThing_none]
  refine wpAny_holding (wpAny_bind (wpAny_cRoomFor hu ?_))
  refine wpAny_bind (wpAny_typeOf hb (wpAny_bind (I.type.here ?_)))
  have e : (Value.type T != Value.ref C) = true := rfl
  simp only [e, if_true]
  refine wpAny_bind ((looks_mroIn X hm).here ?_)
  simp only [Bool.false_eq_true, if_false, Bool.not_false, if_true]
  refine wpAny_bind (m := tryCompare b _ (.ref x)) (wpAny_tryCompare_declines hb slot (hc _ ⟨rfl, ?_⟩))
  rw [er]
  refine wpAny_bind (m := tryCompare (.ref x) _ b) (wpAny_mono one (fun r s' z => ?_) fun _ _ e => e)
  obtain ⟨v, rfl, hq⟩ := z
  exact wpAny_pure hq
/-! the built-in types decline -/
theorem dec_int {i : Int} {u : Tok} {dx : Addr} {Q : Value → Shared → Prop} (hx : s.heap.get? x = some (instObj C dx)) (q : Q .notImplemented s) : wpAny (model prog w) A (call (.builtin "int.__eq__") [.int i u, .ref x]) Q E s := by
  refine wpAny_call (codeAny_call_builtin F.slot_int_eq.plain F.entry_int_eq (F.slot_int_eq.check _ _ _ _ _ _ _ _ (typeIs_int s i u) (F.args_int_eq_2 _ _) ?_))
  obtain ⟨hp, g, d, tk, os⟩ := s
  wp_walk using wpAny_load hx
  exact q
theorem dec_bool {i : Bool} {dx : Addr} {Q : Value → Shared → Prop} (hx : s.heap.get? x = some (instObj C dx)) (q : Q .notImplemented s) : wpAny (model prog w) A (call (.builtin "int.__eq__") [.bool i, .ref x]) Q E s := by
  refine wpAny_call (codeAny_call_builtin F.slot_bool_eq.plain F.entry_int_eq (F.slot_bool_eq.check _ _ _ _ _ _ _ _ rfl (F.args_int_eq_2 _ _) ?_))
  obtain ⟨hp, g, d, tk, os⟩ := s
  wp_walk using wpAny_load hx
  exact q
theorem dec_str {i : Str} {u : Tok} {dx : Addr} {Q : Value → Shared → Prop} (hx : s.heap.get? x = some (instObj C dx)) (q : Q .notImplemented s) : wpAny (model prog w) A (call (.builtin "str.__eq__") [.str i u, .ref x]) Q E s := by
  refine wpAny_call (codeAny_call_builtin F.slot_str_eq.plain F.entry_str_eq (F.slot_str_eq.check _ _ _ _ _ _ _ _ (typeIs_str s i u) (F.args_str_eq_2 _ _) ?_))
  obtain ⟨hp, g, d, tk, os⟩ := s
  wp_walk using wpAny_load hx
  exact q
theorem dec_none {Q : Value → Shared → Prop} (q : Q .notImplemented s) : wpAny (model prog w) A (call (.builtin "NoneType.__eq__") [.none, .ref x]) Q E s :=
  call_gives F.slot_NoneType_eq rfl F.entry_NoneType_eq (F.args_NoneType_eq_2 _ _) (NoneType___eq___none_ref_0 x) q
theorem dec_list {l : Addr} {items : Array Value} {n : Nat} {dd : Option Addr} {sl : Array (Option Value)} {Q : Value → Shared → Prop} (hl : s.heap.get? l = some { cls := .type "list", dict := dd, data := .seq items n, slots := sl }) (X : K.In s.heap) (I : InstAt s.heap x ox C od)
    (hm : mroIn K C (.type "list") = some false) (q : Q .notImplemented s) : wpAny (model prog w) A (call (.builtin "list.__eq__") [.ref l, .ref x]) Q E s := by
  refine wpAny_call (codeAny_call_builtin F.slot_list_eq.plain F.entry_list_eq (F.slot_list_eq.check _ _ _ _ _ _ _ _ ⟨_, hl, rfl⟩ (F.args_list_eq_2 _ _) ?_))
  have L : Looks (model prog w) s.heap (isInstance (.ref x) (.type "list")) false := I.type.andThen (looks_mroIn X hm)
  wp_walk using L.here
  exact q
theorem dec_tup {l : Addr} {items : Array Value} {n : Nat} {dd : Option Addr} {sl : Array (Option Value)} {Q : Value → Shared → Prop} (hl : s.heap.get? l = some { cls := .type "tuple", dict := dd, data := .seq items n, slots := sl }) (X : K.In s.heap) (I : InstAt s.heap x ox C od)
    (hm : mroIn K C (.type "tuple") = some false) (q : Q .notImplemented s) : wpAny (model prog w) A (call (.builtin "tuple.__eq__") [.ref l, .ref x]) Q E s := by
  refine wpAny_call (codeAny_call_builtin F.slot_tuple_eq.plain F.entry_tuple_eq (F.slot_tuple_eq.check _ _ _ _ _ _ _ _ ⟨_, hl, rfl⟩ (F.args_tuple_eq_2 _ _) ?_))
  have L : Looks (model prog w) s.heap (isInstance (.ref x) (.type "tuple")) false := I.type.andThen (looks_mroIn X hm)
  wp_walk using L.here
  exact q
theorem dec_dict {l : Addr} {o : Obj} {Q : Value → Shared → Prop} (hl : s.heap.get? l = some o) (hc : o.cls = .type "dict") (X : K.In s.heap) (I : InstAt s.heap x ox C od)
    (hm : mroIn K C (.type "dict") = some false) (q : Q .notImplemented s) : wpAny (model prog w) A (call (.builtin "dict.__eq__") [.ref l, .ref x]) Q E s := by
  refine wpAny_call (codeAny_call_builtin F.slot_dict_eq.plain F.entry_dict_eq (F.slot_dict_eq.check _ _ _ _ _ _ _ _ ⟨_, hl, hc⟩ (F.args_dict_eq_2 _ _) ?_))
  have L : Looks (model prog w) s.heap (isInstance (.ref x) (.type "dict")) false := I.type.andThen (looks_mroIn X hm)
  wp_walk using L.here
  exact q
end
end OwnQ

namespace OwnQ
open PySem PySem.W PySem.SeqAt GQ
open AutoSeq1 (wpAny_loadPart')
open MeetsSeq MeetsSeq2 MeetsSeq3 SeqRoads2
section
variable {prog : Program} {w : World} {A : Around} {R : Result → Shared → Prop}
/-- at each turn the list is read anew: N items, the i-th is equal to x as e says -/
def ContI (prog : Program) (w : World) (A : Around) (E : Value → Shared → Prop) (l : Addr) (N : Nat) (x : Value) (e : Nat → Bool) (J : Shared → Prop) : Prop :=
  ∀ s, J s → ∃ (items : Array Value) (n : Nat), s.heap.get? l = some { cls := .type "list", data := .seq items n } ∧ items.size = N ∧
    ∀ i (h : i < items.size), wpAny (model prog w) A.in1 (eqBool items[i] x) (fun r s' => r = e i ∧ J s') E s
/-- x in a list whose items' comparisons may run code -/
theorem cont_loop (l : Addr) (N : Nat) (x : Value) (J : Shared → Prop) (e : Nat → Bool) (hl : ContI prog w A (fun e s' => R (.error e) s') l N x e J) (k : Nat) :
    ∀ i : Nat, N - i = k → (∀ s, J s → R (.ok (.ret (.bool ((List.range' i k).any e)))) s) → ∀ s, J s →
      wpAny (model prog w) A.in1 (Builtin.«list.__contains__.loop» ⟨[.ref l, x, rawInt i], []⟩) (FinOf prog w A R) (fun e s' => R (.error e) s') s := by
  induction k with
  | zero =>
    intro i hk fin s h
    obtain ⟨items, n, hl1, hN, _⟩ := hl _ h
    have hR := fin s h
    obtain ⟨hp, g, d, tk, os⟩ := s
    wp_walk using wpAny_loadPart' hl1
    have hi1 : items[((i : Nat) : Int).toNat]? = none := by simp; omega
    rw [hi1]
    wp_walk
    exact hR
  | succ k ih =>
    intro i hk fin s h
    obtain ⟨items, n, hl1, hN, turn⟩ := hl _ h
    have hlt : i < items.size := by omega
    have ht := turn i hlt
    obtain ⟨hp, g, d, tk, os⟩ := s
    wp_walk using wpAny_loadPart' hl1
    have hi1 : items[((i : Nat) : Int).toNat]? = some items[i] := by simp [hlt]
    have hc : ((i : Int) + 1) = ((i + 1 : Nat) : Int) := by omega
    rw [hi1]
    refine wpAny_bind (wpAny_mono ht (fun r s2 h2 => ?_) fun _ _ x => x)
    obtain ⟨hr, h2⟩ := h2
    subst hr
    cases hb : e i with
    | true =>
      have hR := fin s2 h2
      rw [List.range'_succ, List.any_cons, hb] at hR
      obtain ⟨hp2, g2, d2, tk2, os2⟩ := s2
      wp_walk
      exact hR
    | false =>
      have hrec := ih (i + 1) (by omega) (fun s hs => by
        have := fin s hs
        rw [List.range'_succ, List.any_cons, hb] at this
        exact this) s2 h2
      obtain ⟨hp2, g2, d2, tk2, os2⟩ := s2
      wp_walk
      rw [hc]
      exact ⟨plainId_quiet plain_contains_loop _, codeAny_builtin entry_contains_loop (by
        rw [Around.under_plainId plain_contains_loop _]
        exact hrec)⟩
end
section
variable {prog : Program} {w : World} {A : Around} {E : Value → Shared → Prop} {s : Shared}
theorem in_listG (l : Addr) (N : Nat) (x : Value) (J : Shared → Prop) (e : Nat → Bool) {Q : Value → Shared → Prop} (hl : ContI prog w A E l N x e J)
    (fin : ∀ s, J s → Q (.bool ((List.range' 0 N).any e)) s) (h : J s) : wpAny (model prog w) A (compareOp .In x (.ref l)) Q E s := by
  show wpAny _ A (do return .bool (← contains (.ref l) x)) Q E s
  obtain ⟨items, n, hl1, _, _⟩ := hl _ h
  refine wpAny_bind (wpAny_contains_slot ⟨_, hl1, rfl⟩ F.slot_list_contains (wpAny_mono (call_here (Q := fun v s' => ∃ b, v = .bool b ∧ Q (.bool b) s') F.slot_list_contains ⟨_, hl1, rfl⟩ F.entry_list_contains (F.args_list_contains_2 _ _) ?_) (fun v s' hv => ?_) fun _ _ e => e))
  · have hrec := cont_loop (A := A) (R := wants (fun v s' => ∃ b, v = .bool b ∧ Q (.bool b) s') E) l N x J e hl N 0 (by omega) (fun s hs => ⟨_, rfl, fin s hs⟩) s h
    obtain ⟨hp, g, d, tk, os⟩ := s
    wp_walk using wpAny_loadPart' hl1
    exact ⟨plainId_quiet plain_contains_loop _, codeAny_builtin entry_contains_loop (by
      rw [Around.under_plainId plain_contains_loop _]
      exact hrec)⟩
  · obtain ⟨b, rfl, hq⟩ := hv
    exact wpAny_truthy_bool (wpAny_pure hq)
end
end OwnQ

namespace N
open PySem PySem.Spec PyProof.Rows L2 StX
/-! ### kinds and classes as data -/
def Kd.pd : Kd → PyData
  | L c => .str c
  | C0 n => .tuple [.str n]
  | C1 n a => .tuple [.str n, a.pd]
  | C2 n a b => .tuple [.str n, a.pd, b.pd]
theorem pd_lay : ∀ {k : Kd}, k.ok → k.pd.canLay0 = true
  | .L c, h => by simp [Kd.pd, PyData.canLay0, let_strOk (show isLet c = true from h)]
  | .C0 n, h => by simp [Kd.pd, PyData.canLay0, PyData.canLayAll0, nam_strOk (show isNam n = true from h)]
  | .C1 n a, h => by simp [Kd.pd, PyData.canLay0, PyData.canLayAll0, nam_strOk h.1, pd_lay h.2]
  | .C2 n a b, h => by simp [Kd.pd, PyData.canLay0, PyData.canLayAll0, nam_strOk h.1, pd_lay h.2.1, pd_lay h.2.2]
theorem pd_dsz : ∀ k : Kd, k.pd.depth ≤ k.size + 1
  | .L c => by simp [Kd.pd, PyData.depth]
  | .C0 n => by simp [Kd.pd, PyData.depth, PyData.depthAll]
  | .C1 n a => by
    have := pd_dsz a
    simp only [Kd.pd, PyData.depth, PyData.depthAll, Kd.size]
    omega
  | .C2 n a b => by
    have := pd_dsz a
    have := pd_dsz b
    simp only [Kd.pd, PyData.depth, PyData.depthAll, Kd.size]
    omega
theorem kp_dp {K : PySem.W.Frag} {H : Hp} : ∀ {k : Kd} {v : V}, Kp K H v k → Dp K H v k.pd
  | .L c, v, h => by
    obtain ⟨e, _⟩ := kp_L h rfl
    rw [e]
    exact .str c
  | .C0 n, v, h => by
    obtain ⟨a, xs, e, hq, _, r⟩ := kp_C h rfl
    rw [e]
    cases r
    exact .tup hq (.cons (.str n) .nil)
  | .C1 n b, v, h => by
    obtain ⟨a, xs, e, hq, _, r⟩ := kp_C h rfl
    rw [e]
    cases r with
    | cons h1 t =>
      cases t
      exact .tup hq (.cons (.str n) (.cons (kp_dp h1) .nil))
  | .C2 n b c, v, h => by
    obtain ⟨a, xs, e, hq, _, r⟩ := kp_C h rfl
    rw [e]
    cases r with
    | cons h1 t =>
      cases t with
      | cons h2 t =>
        cases t
        exact .tup hq (.cons (.str n) (.cons (kp_dp h1) (.cons (kp_dp h2) .nil)))
def psD (ps : List (Str × Str)) : PyData := .tuple (ps.map fun p => .tuple [.str p.1, .str p.2])
def ksD (ks : List Kd) : PyData := .tuple (ks.map Kd.pd)
def msD (ms : List (Str × Str × Kd)) : PyData := .tuple (ms.map fun m => .tuple [.str m.1, .str m.2.1, m.2.2.pd])
def Cls.pd (c : Cls) : PyData := .tuple [.str c.nm, psD c.ps, ksD c.ks, msD c.ms]
def csD (cs : List Cls) : PyData := .tuple (cs.map Cls.pd)
theorem dpAll_of {α : Type} {K : PySem.W.Frag} {H : Hp} {F : V → α → Prop} {g : α → PyData} (h : ∀ v x, F v x → Dp K H v (g x)) : ∀ {vs : List V} {xs : List α}, Paired F vs xs → DpAll K H vs (xs.map g)
  | _, _, .nil => .nil
  | _, _, .cons a t => .cons (h _ _ a) (dpAll_of h t)
section
variable {K : PySem.W.Frag} {H : Hp}
theorem ps_dp {a : Addr} {ps : List (Str × Str)} (h : PsAt K H a ps) : Dp K H (.ref a) (psD ps) := by
  obtain ⟨xs, q, r⟩ := h
  refine .tup q (dpAll_of (fun v p z => ?_) r)
  obtain ⟨b, rfl, hb⟩ := z
  exact .tup hb (.cons (.str _) (.cons (.str _) .nil))
theorem ks_dp {a : Addr} {ks : List Kd} (h : KsAt K H a ks) : Dp K H (.ref a) (ksD ks) := by
  obtain ⟨xs, q, r⟩ := h
  exact .tup q (dpAll_of (fun v p z => kp_dp z) r)
theorem ms_dp {a : Addr} {ms : List (Str × Str × Kd)} (h : MsAt K H a ms) : Dp K H (.ref a) (msD ms) := by
  obtain ⟨xs, q, r⟩ := h
  refine .tup q (dpAll_of (fun v p z => ?_) r)
  obtain ⟨b, u, rfl, hb, hu⟩ := z
  exact .tup hb (.cons (.str _) (.cons (.str _) (.cons (kp_dp hu) .nil)))
theorem cp_dp {v : V} {c : Cls} (h : Cp K H v c) : Dp K H v c.pd := by
  obtain ⟨a, ap, ak, am, rfl, q, h1, h2, h3⟩ := h
  exact .tup q (.cons (.str _) (.cons (ps_dp h1) (.cons (ks_dp h2) (.cons (ms_dp h3) .nil))))
theorem cs_dp {a : Addr} {cs : List Cls} (h : CsAt K H a cs) : Dp K H (.ref a) (csD cs) := by
  obtain ⟨xs, q, r⟩ := h
  exact .tup q (dpAll_of (fun v p z => cp_dp z) r)
end
theorem lay_all {ds : List PyData} : (∀ d ∈ ds, d.canLay0 = true) → PyData.canLayAll0 ds = true := fun h => by
  induction ds with
  | nil => simp [PyData.canLayAll0]
  | cons d ds ih => simp [PyData.canLayAll0, h d List.mem_cons_self, ih fun x hx => h x (List.mem_cons_of_mem _ hx)]
theorem depth_all {ds : List PyData} {n : Nat} : (∀ d ∈ ds, d.depth ≤ n) → PyData.depthAll ds ≤ n := fun h => by
  induction ds with
  | nil => simp [PyData.depthAll]
  | cons d ds ih =>
    have h1 := h d List.mem_cons_self
    have h2 := ih fun x hx => h x (List.mem_cons_of_mem _ hx)
    simp only [PyData.depthAll]
    omega
theorem lay_map {α : Type} {xs : List α} {g : α → PyData} {n : Nat} (h : ∀ x ∈ xs, (g x).canLay0 = true ∧ (g x).depth ≤ n) : (PyData.tuple (xs.map g)).canLay0 = true ∧ (PyData.tuple (xs.map g)).depth ≤ n + 1 := by
  constructor
  · simp only [PyData.canLay0]
    refine lay_all fun d hd => ?_
    obtain ⟨x, hx, rfl⟩ := List.mem_map.mp hd
    exact (h x hx).1
  · simp only [PyData.depth]
    have := depth_all (n := n) (ds := xs.map g) fun d hd => by
      obtain ⟨x, hx, rfl⟩ := List.mem_map.mp hd
      exact (h x hx).2
    omega
theorem way_strOk : ∀ x ∈ wayz ++ varz, PyData.strOk x = true := by decide +kernel
theorem cls_lay {c : Cls} (h : c.ok) : c.pd.canLay0 = true ∧ c.pd.depth ≤ 12 := by
  have h1 : (psD c.ps).canLay0 = true ∧ (psD c.ps).depth ≤ 2 := lay_map fun p hp => by
    have e1 := let_strOk (h.pl p hp).1
    have e2 := way_strOk p.2 (List.mem_append_right _ (h.pl p hp).2)
    simp [PyData.canLay0, PyData.canLayAll0, PyData.depth, PyData.depthAll, e1, e2]
  have h2 : (ksD c.ks).canLay0 = true ∧ (ksD c.ks).depth ≤ 8 := lay_map fun k hk => by
    obtain ⟨a, _, b, _⟩ := h.kk k hk
    have := pd_dsz k
    exact ⟨pd_lay a, by omega⟩
  have h3 : (msD c.ms).canLay0 = true ∧ (msD c.ms).depth ≤ 9 := lay_map fun m hm => by
    obtain ⟨a, b, d, e, _⟩ := h.ml m hm
    have e1 := nam_strOk a
    have e2 := way_strOk m.2.1 (List.mem_append_left _ b)
    have e3 := pd_lay d
    have := pd_dsz m.2.2
    simp [PyData.canLay0, PyData.canLayAll0, PyData.depth, PyData.depthAll, e1, e2, e3]
    omega
  have e := nam_strOk h.n
  unfold Cls.pd
  simp only [PyData.canLay0, PyData.canLayAll0, PyData.depth, PyData.depthAll, e, h1.1, h2.1, h3.1, Bool.and_self, true_and]
  omega
theorem cs_shaped {cs : List Cls} (h : ∀ c ∈ cs, c.ok) : SeqAt.shaped (csD cs) = true := by
  have := lay_map (xs := cs) (g := Cls.pd) (n := 12) fun c hc => cls_lay (h c hc)
  show ((csD cs).canLay0 && decide ((csD cs).depth ≤ 64)) = true
  rw [Bool.and_eq_true, decide_eq_true_eq]
  exact ⟨this.1, by have := this.2; unfold csD; omega⟩
/-! data of texts and tuples alone: equal exactly if the same -/
mutual
def tx : PyData → Bool
  | .str _ => true
  | .tuple xs => txAll xs
  | .none => false
  | .bool _ => false
  | .int _ => false
  | .list _ => false
  | .dict _ => false
def txAll : List PyData → Bool
  | [] => true
  | x :: xs => tx x && txAll xs
end
mutual
theorem eqv_tx : ∀ a b : PyData, tx a = true → tx b = true → (PyData.eqv a b = true ↔ a = b)
  | .str x, .str y, _, _ => by simp [PyData.eqv]
  | .tuple xs, .tuple ys, h, h2 => by
    simp only [tx] at h h2
    have := eqvAll_tx xs ys h h2
    simp only [PyData.eqv]
    rw [this]
    constructor
    · intro e; rw [e]
    · intro e; exact PyData.tuple.inj e
  | .str x, .tuple ys, _, _ => by simp [PyData.eqv]
  | .tuple xs, .str y, _, _ => by simp [PyData.eqv]
  | .none, _, h, _ => by simp [tx] at h
  | .bool _, _, h, _ => by simp [tx] at h
  | .int _, _, h, _ => by simp [tx] at h
  | .list _, _, h, _ => by simp [tx] at h
  | .dict _, _, h, _ => by simp [tx] at h
  | .str _, .none, _, h => by simp [tx] at h
  | .str _, .bool _, _, h => by simp [tx] at h
  | .str _, .int _, _, h => by simp [tx] at h
  | .str _, .list _, _, h => by simp [tx] at h
  | .str _, .dict _, _, h => by simp [tx] at h
  | .tuple _, .none, _, h => by simp [tx] at h
  | .tuple _, .bool _, _, h => by simp [tx] at h
  | .tuple _, .int _, _, h => by simp [tx] at h
  | .tuple _, .list _, _, h => by simp [tx] at h
  | .tuple _, .dict _, _, h => by simp [tx] at h
theorem eqvAll_tx : ∀ xs ys : List PyData, txAll xs = true → txAll ys = true → (PyData.eqvAll xs ys = true ↔ xs = ys)
  | [], [], _, _ => by simp [PyData.eqvAll]
  | [], _ :: _, _, _ => by simp [PyData.eqvAll]
  | _ :: _, [], _, _ => by simp [PyData.eqvAll]
  | x :: xs, y :: ys, h, h2 => by
    simp only [txAll, Bool.and_eq_true] at h h2
    simp only [PyData.eqvAll, Bool.and_eq_true]
    rw [eqv_tx x y h.1 h2.1, eqvAll_tx xs ys h.2 h2.2]
    simp
end
theorem tx_all {ds : List PyData} : (∀ d ∈ ds, tx d = true) → txAll ds = true := fun h => by
  induction ds with
  | nil => simp [txAll]
  | cons d ds ih => simp [txAll, h d List.mem_cons_self, ih fun x hx => h x (List.mem_cons_of_mem _ hx)]
theorem tx_map {α : Type} {xs : List α} {g : α → PyData} (h : ∀ x, tx (g x) = true) : tx (.tuple (xs.map g)) = true := by
  simp only [tx]
  refine tx_all fun d hd => ?_
  obtain ⟨x, hx, rfl⟩ := List.mem_map.mp hd
  exact h x
theorem tx_kd : ∀ k : Kd, tx k.pd = true
  | .L c => by simp [Kd.pd, tx]
  | .C0 n => by simp [Kd.pd, tx, txAll]
  | .C1 n a => by simp [Kd.pd, tx, txAll, tx_kd a]
  | .C2 n a b => by simp [Kd.pd, tx, txAll, tx_kd a, tx_kd b]
theorem tx_cls (c : Cls) : tx c.pd = true := by
  have h1 : tx (psD c.ps) = true := tx_map fun p => by simp [tx, txAll]
  have h2 : tx (ksD c.ks) = true := tx_map tx_kd
  have h3 : tx (msD c.ms) = true := tx_map fun m => by simp [tx, txAll, tx_kd]
  simp [Cls.pd, tx, txAll, h1, h2, h3]
theorem tx_cs (cs : List Cls) : tx (csD cs) = true := tx_map tx_cls
theorem eqv_refl (cs : List Cls) : PyData.eqv (csD cs) (csD cs) = true := (eqv_tx _ _ (tx_cs _) (tx_cs _)).mpr rfl
theorem eqv_comm (cs ds : List Cls) : PyData.eqv (csD cs) (csD ds) = PyData.eqv (csD ds) (csD cs) := by
  rw [Bool.eq_iff_iff, eqv_tx _ _ (tx_cs _) (tx_cs _), eqv_tx _ _ (tx_cs _) (tx_cs _)]
  exact ⟨fun e => e.symm, fun e => e.symm⟩
theorem eqv_more (cs : List Cls) (c : Cls) : PyData.eqv (csD cs) (csD (cs ++ [c])) = false := by
  rw [Bool.eq_false_iff]
  intro h
  have := PyData.tuple.inj ((eqv_tx _ _ (tx_cs _) (tx_cs _)).mp h)
  have := congrArg List.length this
  simp at this
end N

namespace N
open PySem PySem.Spec PyProof.Rows L2 StX
/-! ### == , != and in of tables -/
def Tys : List String := ["NoneType", "bool", "int", "str", "list", "tuple", "dict"]
structure TabE (K : PySem.W.Frag) (C f : Addr) : Prop where
  eq : PySem.W.findIn K (.ref C) "__eq__" = some (some (.ref f))
  fn : PySem.W.isFn K (.ref f) = true
  ne : PySem.W.findIn K (.ref C) "__ne__" = some (some (.builtin "object.__ne__"))
  obj : PySem.W.mroIn K C (.type "object") = some true
  mro : ∀ T ∈ Tys, PySem.W.mroIn K C (.type T) = some false
theorem notFirst_ty {K : PySem.W.Frag} {C : Addr} : ∀ T ∈ Tys, PySem.W.notFirst K C (.type T) = true := fun T h => by
  simp only [Tys, List.mem_cons, List.not_mem_nil, or_false] at h
  rcases h with rfl | rfl | rfl | rfl | rfl | rfl | rfl <;> rfl
/-- the answer of a == y, a table at a -/
def AnsT (K : PySem.W.Frag) (C : Addr) (H : Hp) (a : Addr) (y : V) (b : Bool) : Prop := (∃ d fs T, H a = some (.ins C d fs) ∧ TyB K H y T ∧ T ∈ Tys ∧ b = false) ∨
  ∃ a' cs cs', y = .ref a' ∧ TabAt K C H (.ref a) cs ∧ TabAt K C H (.ref a') cs' ∧ (∀ c ∈ cs, c.ok) ∧ (∀ c ∈ cs', c.ok) ∧ b = PyData.eqv (csD cs) (csD cs')
theorem tyb_same {K : PySem.W.Frag} {H H' : Hp} {y : V} {T : String} (s : Same H H') (h : TyB K H y T) : TyB K H' y T := by
  cases h with
  | non => exact .non
  | bl b => exact .bl b
  | int i => exact .int i
  | str x => exact .str x
  | byt b => exact .byt b
  | lst h => exact .lst (s.seq h)
  | tup h => exact .tup ((stay_same s).tup _ _ h)
  | dK h => exact .dK (s _ _ h)
theorem AnsT.same {K : PySem.W.Frag} {C a : Addr} {H H' : Hp} {y : V} {b : Bool} (s : Same H H') (h : AnsT K C H a y b) : AnsT K C H' a y b := by
  rcases h with ⟨d, fs, T, h1, h2, h3, h4⟩ | ⟨a', cs, cs', e, h1, h2, h3, h4, h5⟩
  · exact .inl ⟨d, fs, T, s _ _ h1, tyb_same s h2, h3, h4⟩
  · exact .inr ⟨a', cs, cs', e, h1.stay s, h2.stay s, h3, h4, h5⟩
def spTeq (K : PySem.W.Frag) (C : Addr) : Sp := fun vs H Q _ => ∃ a y b, vs = [.ref a, y] ∧ AnsT K C H a y b ∧ ∀ H', Same H H' → Q (.bl b) H'
/-- somewhere below the running body, no repr under way -/
structure SubG (X : Cx) (n : Nat) (A : Around) : Prop where
  room : RoomG n A
  fr : A.frames = X.A.frames
theorem SubG.in1 {X : Cx} {n : Nat} {A : Around} (s : SubG X (n + 1) A) : SubG X n A.in1 := ⟨⟨s.room.toRoom.in1, s.room.gs⟩, s.fr⟩
theorem SubG.mono {X : Cx} {n m : Nat} {A : Around} (s : SubG X n A) (h : m ≤ n) : SubG X m A := ⟨s.room.mono h, s.fr⟩
section
variable {X : Cx} {A : Around} {pins : List (Addr × Obj)} {σ : L2.St} {H : Hp} {s : Shared} {n : Nat} {C f a : Addr} {sp : Sp} {y : V} {u : Value} {b : Bool}
theorem runA {Q : VK} {us : List Value} {vs : List V} (F : FnS X.prog X.w X.K X.mg X.base n f sp) (sb : SubG X n A) (I : Inv X pins σ H s) (r : Vals vs us) (h : sp vs H Q E0) :
    codeAny (model X.prog X.w) A (.call (.ref f) ⟨us, []⟩) (fun r s' => match r with | .ok (.ret v) => EP X pins σ Q v s' | .ok _ => False | .error e => X.xe e s') s := by
  have e0 : Env0 X.prog X.w X.K X.mg X.base A X.stack s H := by
    have e := I.env0
    exact ⟨by rw [sb.fr]; exact e.frames, e.mod, e.bs, e.bsz, e.funs, e.frf, e.hok, e.bare⟩
  refine codeAny_mono (F A X.stack s H us vs Q E0 sb.room e0 r h) fun res s' hq => ?_
  match res, hq with
  | .error e, hq => exact passL pins σ H s e s' I hq
  | .ok (.ret u), hq => exact I.after hq
  | .ok .next, hq => exact False.elim hq
  | .ok .brk, hq => exact False.elim hq
  | .ok .cont, hq => exact False.elim hq
theorem looks_type {M : Model} {T : String} (h : s.TypeIs u T) : PySem.W.Looks M s.heap (typeOf u) (.type T) := by
  intro A Q E s' k q
  refine wpAny_typeOf ?_ q
  cases u <;> first | exact h | skip
  obtain ⟨o, h1, h2⟩ := h
  exact ⟨o, k _ _ h1, h2⟩
theorem tab_inst (I : Inv X pins σ H s) (ans : AnsT X.K C H a y b) : ∃ od dx, PySem.W.InstAt s.heap a (PySem.W.instObj C dx) C od := by
  have key : ∀ d fs, H a = some (.ins C d fs) → ∃ od dx, PySem.W.InstAt s.heap a (PySem.W.instObj C dx) C od := fun d fs h => by
    obtain ⟨mA, J, _⟩ := ins_get I.hok h
    obtain ⟨od, J, _⟩ := J.look
    exact ⟨_, _, J⟩
  rcases ans with ⟨d, fs, T, h1, _⟩ | ⟨a', cs, cs', e, ⟨a2, d, p, e2, h1, _⟩, _⟩
  · exact key d fs h1
  · cases e2
    exact key d _ h1

/-- a == y -/
theorem rcT (T : TabE X.K C f) (F : FnS X.prog X.w X.K X.mg X.base n f (spTeq X.K C)) (sb : SubG X n A) (I : Inv X pins σ H s) (ry : RelV y u) (ans : AnsT X.K C H a y b) :
    wpAny (model X.prog X.w) A (richCompare .Eq (.ref a) u) (fun r s' => r = .bool b ∧ ∃ H', Inv X pins σ H' s' ∧ Same H H') X.xe s := by
  obtain ⟨od, dx, J⟩ := tab_inst I ans
  obtain ⟨m, hF⟩ := I.fr
  obtain ⟨tb, hb, hn⟩ : ∃ tb, PySem.W.Looks (model X.prog X.w) s.heap (typeOf u) tb ∧ PySem.W.notFirst X.K C tb = true := by
    rcases ans with ⟨d, fs, Ty, h1, h2, h3, _⟩ | ⟨a', cs, cs', e, _, ⟨a2, d, p, e2, h1, _⟩, _⟩
    · exact ⟨_, looks_type (TyB.is I ry h2), notFirst_ty _ h3⟩
    · subst e
      cases (show u = Value.ref a' from ry)
      cases e2
      obtain ⟨mA, J', _⟩ := ins_get I.hok h1
      obtain ⟨od', J', _⟩ := J'.look
      exact ⟨_, J'.type, by simp [PySem.W.notFirst]⟩
  refine PySem.W.cmp_K (op := .Eq) (tb := tb) sb.room.toRoom.units0 hF I.ok.mod.kin J hb hn T.eq T.fn ?_
  refine wpAny_call (codeAny_mono (runA (us := [.ref a, u]) (vs := [.ref a, y]) (Q := fun v H' => v = .bl b ∧ Same H H') F sb I (.cons rfl (.cons ry .nil)) ⟨a, y, b, rfl, ans, fun H' s' => ⟨rfl, s'⟩⟩) fun r s' hq => ?_)
  match r, hq with
  | .error e, hq => exact hq
  | .ok .next, hq => exact hq.elim
  | .ok .brk, hq => exact hq.elim
  | .ok .cont, hq => exact hq.elim
  | .ok (.ret v), hq =>
    obtain ⟨z, H', I', rz, ez, ex⟩ := hq
    subst ez
    cases rz
    exact ⟨rfl, H', I', ex⟩
/-- a != y -/
theorem neT (T : TabE X.K C f) (F : FnS X.prog X.w X.K X.mg X.base n f (spTeq X.K C)) (sb : SubG X (n + 1) A) (I : Inv X pins σ H s) (ry : RelV y u) (ans : AnsT X.K C H a y b) :
    wpAny (model X.prog X.w) A (richCompare .NotEq (.ref a) u) (fun r s' => r = .bool (!b) ∧ ∃ H', Inv X pins σ H' s' ∧ Same H H') X.xe s := by
  obtain ⟨od, dx, J⟩ := tab_inst I ans
  obtain ⟨tb, hb, hn⟩ : ∃ tb, PySem.W.Looks (model X.prog X.w) s.heap (typeOf u) tb ∧ PySem.W.notFirst X.K C tb = true := by
    rcases ans with ⟨d, fs, Ty, h1, h2, h3, _⟩ | ⟨a', cs, cs', e, _, ⟨a2, d, p, e2, h1, _⟩, _⟩
    · exact ⟨_, looks_type (TyB.is I ry h2), notFirst_ty _ h3⟩
    · subst e
      cases (show u = Value.ref a' from ry)
      cases e2
      obtain ⟨mA, J', _⟩ := ins_get I.hok h1
      obtain ⟨od', J', _⟩ := J'.look
      exact ⟨_, J'.type, by simp [PySem.W.notFirst]⟩
  refine OwnQ.ne_K sb.in1.room.toRoom.units0 I.kIn J hb hn T.ne T.obj T.eq T.fn ?_
  refine codeAny_mono (runA (us := [.ref a, u]) (vs := [.ref a, y]) (Q := fun v H' => v = .bl b ∧ Same H H') F sb.in1 I (.cons rfl (.cons ry .nil)) ⟨a, y, b, rfl, ans, fun H' s' => ⟨rfl, s'⟩⟩) fun r s' hq => ?_
  match r, hq with
  | .error e, hq => exact hq
  | .ok .next, hq => exact hq.elim
  | .ok .brk, hq => exact hq.elim
  | .ok .cont, hq => exact hq.elim
  | .ok (.ret v), hq =>
    obtain ⟨z, H', I', rz, ez, ex⟩ := hq
    subst ez
    cases rz
    exact ⟨b, rfl, rfl, H', I', ex⟩
/-- y == a, y of a built-in type -/
theorem rcR {Ty : String} {d : Addr} {fs : List (Str × V)} (T : TabE X.K C f) (F : FnS X.prog X.w X.K X.mg X.base n f (spTeq X.K C)) (sb : SubG X n A) (I : Inv X pins σ H s) (ry : RelV y u) (ha : H a = some (.ins C d fs)) (hy : TyB X.K H y Ty) (hT : Ty ∈ Tys) :
    wpAny (model X.prog X.w) A (richCompare .Eq u (.ref a)) (fun r s' => r = .bool false ∧ ∃ H', Inv X pins σ H' s' ∧ Same H H') X.xe s := by
  have ans : AnsT X.K C H a y false := .inl ⟨d, fs, Ty, ha, hy, hT, rfl⟩
  obtain ⟨od, dx, J⟩ := tab_inst I ans
  have X1 := I.kIn
  have hu := sb.room.toRoom.units0
  have own : wpAny (model X.prog X.w) A (call (.ref f) [.ref a, u]) (PySem.W.CmpBack (fun r s' => r = .bool false ∧ ∃ H', Inv X pins σ H' s' ∧ Same H H')) X.xe s := by
    refine wpAny_call (codeAny_mono (runA (us := [.ref a, u]) (vs := [.ref a, y]) (Q := fun v H' => v = .bl false ∧ Same H H') F sb I (.cons rfl (.cons ry .nil)) ⟨a, y, false, rfl, ans, fun H' s' => ⟨rfl, s'⟩⟩) fun r s' hq => ?_)
    match r, hq with
    | .error e, hq => exact hq
    | .ok .next, hq => exact hq.elim
    | .ok .brk, hq => exact hq.elim
    | .ok .cont, hq => exact hq.elim
    | .ok (.ret v), hq =>
      obtain ⟨z, H', I', rz, ez, ex⟩ := hq
      subst ez
      cases rz
      exact ⟨rfl, H', I', ex⟩
  have ht := TyB.is I ry hy
  have hm := T.mro Ty hT
  cases hy with
  | byt b => simp [Tys] at hT
  | non => 
    cases (show u = Value.none from ry)
    exact OwnQ.refl_K hu X1 J ht hm PySem.F.slot_NoneType_eq (fun _ q => OwnQ.dec_none q) T.eq T.fn own
  | bl b =>
    cases (show u = Value.bool b from ry)
    exact OwnQ.refl_K hu X1 J ht hm PySem.F.slot_bool_eq (fun _ q => OwnQ.dec_bool J.at_ q) T.eq T.fn own
  | int i =>
    obtain ⟨t, rfl⟩ := (show ∃ t, u = Value.int i t from ry)
    exact OwnQ.refl_K hu X1 J ht hm PySem.F.slot_int_eq (fun _ q => OwnQ.dec_int J.at_ q) T.eq T.fn own
  | str x =>
    obtain ⟨t, rfl⟩ := (show ∃ t, u = Value.str x t from ry)
    exact OwnQ.refl_K hu X1 J ht hm PySem.F.slot_str_eq (fun _ q => OwnQ.dec_str J.at_ q) T.eq T.fn own
  | @lst p xs h =>
    cases (show u = Value.ref p from ry)
    obtain ⟨its, r, pl, hz⟩ := I.list h
    obtain ⟨⟨cls, dd, data, sl⟩, ho, hc, k, hd⟩ := pl.isList
    simp only at hc hd
    subst hc hd
    exact OwnQ.refl_K hu X1 J ht hm PySem.F.slot_list_eq (fun _ q => OwnQ.dec_list ho X1 J hm q) T.eq T.fn own
  | @tup p xs h =>
    cases (show u = Value.ref p from ry)
    obtain ⟨its, r, pl, hz⟩ := I.tuple h
    obtain ⟨⟨cls, dd, data, sl⟩, ho, hc, k, hd⟩ := pl
    simp only at hc hd
    subst hc hd
    exact OwnQ.refl_K hu X1 J ht hm PySem.F.slot_tuple_eq (fun _ q => OwnQ.dec_tup ho X1 J hm q) T.eq T.fn own
  | @dK p kvs h =>
    cases (show u = Value.ref p from ry)
    obtain ⟨o, ho, hc⟩ := id ht
    exact OwnQ.refl_K hu X1 J ht hm PySem.F.slot_dict_eq (fun _ q => OwnQ.dec_dict ho hc X1 J hm q) T.eq T.fn own

/-- y == a within a list -/
theorem ebR {Ty : String} {d : Addr} {fs : List (Str × V)} (T : TabE X.K C f) (F : FnS X.prog X.w X.K X.mg X.base n f (spTeq X.K C)) (sb : SubG X n A) (I : Inv X pins σ H s) (ry : RelV y u) (ha : H a = some (.ins C d fs)) (hy : TyB X.K H y Ty) (hT : Ty ∈ Tys) :
    wpAny (model X.prog X.w) A (eqBool u (.ref a)) (fun r s' => r = false ∧ ∃ H', Inv X pins σ H' s' ∧ Same H H') X.xe s := by
  have h := rcR T F sb I ry ha hy hT
  have ans : AnsT X.K C H a y false := .inl ⟨d, fs, Ty, ha, hy, hT, rfl⟩
  obtain ⟨od, dx, J⟩ := tab_inst I ans
  have ht := TyB.is I ry hy
  have hne : u ≠ Value.ref a := fun e => by
    subst e
    obtain ⟨o, h1, h2⟩ := (show ∃ o, s.heap.get? a = some o ∧ o.cls = .type Ty from ht)
    rw [J.at_] at h1
    cases h1
    cases h2
  unfold eqBool
  refine wpAny_holding ?_
  refine wpAny_ite_split (fun hab => absurd (eq_of_beq hab) hne) (fun _ => ?_)
  have fin : wpAny (model X.prog X.w) A (richCompare .Eq u (.ref a) >>= truthOfDropped) (fun r s' => r = false ∧ ∃ H', Inv X pins σ H' s' ∧ Same H H') X.xe s := by
    refine wpAny_bind (wpAny_mono h (fun v s' hv => ?_) fun _ _ x => x)
    obtain ⟨rfl, q⟩ := hv
    exact wpAny_truthy_bool ⟨rfl, q⟩
  cases u <;> exact fin
theorem ebT {a' : Addr} (T : TabE X.K C f) (F : FnS X.prog X.w X.K X.mg X.base n f (spTeq X.K C)) (sb : SubG X n A) (I : Inv X pins σ H s) (hne : a' ≠ a) (ans : AnsT X.K C H a' (.ref a) b) :
    wpAny (model X.prog X.w) A (eqBool (.ref a') (.ref a)) (fun r s' => r = b ∧ ∃ H', Inv X pins σ H' s' ∧ Same H H') X.xe s := by
  refine GQ.eqBool_refG hne (wpAny_mono (rcT (y := .ref a) (u := .ref a) T F sb I rfl ans) (fun r s' q => ?_) fun _ _ x => x)
  obtain ⟨hr, q⟩ := q
  exact ⟨b, hr, rfl, q⟩
/-- an item of the list in which a table is sought, and whether it is equal -/
def ItT (K : PySem.W.Frag) (C : Addr) (H : Hp) (a : Addr) (y : V) (b : Bool) : Prop := (∃ d fs T, H a = some (.ins C d fs) ∧ TyB K H y T ∧ T ∈ Tys ∧ b = false) ∨ ∃ a', y = .ref a' ∧ a' ≠ a ∧ AnsT K C H a' (.ref a) b
theorem ItT.same {K : PySem.W.Frag} {H H' : Hp} (s : Same H H') (h : ItT K C H a y b) : ItT K C H' a y b := by
  rcases h with ⟨d, fs, T, h1, h2, h3, h4⟩ | ⟨a', e, h1, h2⟩
  · exact .inl ⟨d, fs, T, s _ _ h1, tyb_same s h2, h3, h4⟩
  · exact .inr ⟨a', e, h1, h2.same s⟩
theorem ebI (T : TabE X.K C f) (F : FnS X.prog X.w X.K X.mg X.base n f (spTeq X.K C)) (sb : SubG X n A) (I : Inv X pins σ H s) (ry : RelV y u) (it : ItT X.K C H a y b) :
    wpAny (model X.prog X.w) A (eqBool u (.ref a)) (fun r s' => r = b ∧ ∃ H', Inv X pins σ H' s' ∧ Same H H') X.xe s := by
  rcases it with ⟨d, fs, Ty, h1, h2, h3, h4⟩ | ⟨a', e, h1, h2⟩
  · subst h4
    exact ebR T F sb I ry h1 h2 h3
  · subst e
    cases (show u = Value.ref a' from ry)
    exact ebT T F sb I h1 h2
def rInT (K : PySem.W.Frag) (C : Addr) : R2 := fun x y H Q => ∃ (a p : Addr) (ys : List V) (bs : List Bool), x = .ref a ∧ y = .ref p ∧ H p = some (.lst ys) ∧ Paired (fun y b => ItT K C H a y b) ys bs ∧ ∀ H', Same H H' → Q (.bl (bs.any id)) H'
theorem any_at : ∀ (bs : List Bool) (k : Nat), (List.range' k bs.length).any (fun i => bs.getD (i - k) false) = bs.any id
  | [], k => rfl
  | b :: bs, k => by
    rw [List.length_cons, List.range'_succ, List.any_cons, List.any_cons, Nat.sub_self]
    have h : (List.range' (k + 1) bs.length).any (fun i => (b :: bs).getD (i - k) false) = (List.range' (k + 1) bs.length).any (fun i => bs.getD (i - (k + 1)) false) := by
      have e : ∀ i ∈ List.range' (k + 1) bs.length, (b :: bs).getD (i - k) false = bs.getD (i - (k + 1)) false := fun i hi => by
        have := (List.mem_range'_1.mp hi).1
        have e2 : i - k = i - (k + 1) + 1 := by omega
        rw [e2, List.getD_cons_succ]
      rw [Bool.eq_iff_iff, List.any_eq_true, List.any_eq_true]
      exact ⟨fun ⟨i, h1, h2⟩ => ⟨i, h1, by rw [← e i h1]; exact h2⟩, fun ⟨i, h1, h2⟩ => ⟨i, h1, by rw [e i h1]; exact h2⟩⟩
    rw [h, any_at bs (k + 1)]
    rfl
theorem op_inT (T : TabE X.K C f) (F : FnS X.prog X.w X.K X.mg X.base n f (spTeq X.K C)) (hr : RoomG (n + 1) X.A) : OpR X (compareOp .In) (rInT X.K C) := by
  intro pins s σ H x y v u Q I rx ry h
  obtain ⟨a, p, ys, bs, rfl, rfl, hp, hi, q⟩ := h
  cases rx
  cases ry
  have sb : SubG X (n + 1) X.A := ⟨hr, rfl⟩
  refine OwnQ.in_listG p bs.length (.ref a) (fun s' => ∃ H', Inv X pins σ H' s' ∧ Same H H') (fun i => bs.getD i false) (fun s' ⟨H', I', sm⟩ => ?_) (fun s' ⟨H', I', sm⟩ => ?_) ⟨H, I, Same.refl _⟩
  · obtain ⟨_, its, k, r, e⟩ := I'.hok p _ (sm _ _ hp)
    have hl : its.length = bs.length := by rw [← r.length]; exact Paired.length hi
    refine ⟨its.toArray, k, e, by rw [List.size_toArray]; exact hl, fun i h1 => ?_⟩
    have h2 : i < its.length := by simpa using h1
    have h3 : i < ys.length := by rw [r.length]; exact h2
    obtain ⟨u, hu, ru⟩ := r.get (List.getElem?_eq_getElem h3)
    have g1 : its[i]? = some its.toArray[i] := by rw [List.getElem?_eq_getElem h2] <;> simp
    rw [g1] at hu
    rw [Option.some.inj hu]
    obtain ⟨b, hb, hit⟩ := pairedAt hi (List.getElem?_eq_getElem h3)
    have eb : bs.getD i false = b := by rw [List.getD_eq_getElem?_getD, hb]; rfl
    refine wpAny_mono (ebI T F sb.in1 I' ru (hit.same sm)) (fun r s2 z => ?_) fun _ _ x => x
    obtain ⟨z1, H2, I2, z2⟩ := z
    exact ⟨z1.trans eb.symm, H2, I2, sm.trans z2⟩
  · have := any_at bs 0
    simp only [Nat.sub_zero] at this
    rw [this]
    exact ⟨.bl _, H', I', rfl, q H' sm⟩
def rEqT (K : PySem.W.Frag) (C : Addr) : R2 := fun x y H Q => ∃ a b, x = .ref a ∧ AnsT K C H a y b ∧ ∀ H', Same H H' → Q (.bl b) H'
def rNeT (K : PySem.W.Frag) (C : Addr) : R2 := fun x y H Q => ∃ a b, x = .ref a ∧ AnsT K C H a y b ∧ ∀ H', Same H H' → Q (.bl (!b)) H'
def rEqR (K : PySem.W.Frag) (C : Addr) : R2 := fun x y H Q => ∃ a d fs T, y = .ref a ∧ H a = some (.ins C d fs) ∧ TyB K H x T ∧ T ∈ Tys ∧ ∀ H', Same H H' → Q (.bl false) H'
theorem op_eqT (T : TabE X.K C f) (F : FnS X.prog X.w X.K X.mg X.base n f (spTeq X.K C)) (hr : RoomG n X.A) : OpR X (compareOp .Eq) (rEqT X.K C) := by
  intro pins s σ H x y v u Q I rx ry h
  obtain ⟨a, b, rfl, ans, q⟩ := h
  cases rx
  show wpAny (model X.prog X.w) X.A (richCompare .Eq _ u) (EP X pins σ Q) X.xe s
  refine wpAny_mono (rcT T F ⟨hr, rfl⟩ I ry ans) (fun r s' z => ?_) fun _ _ x => x
  obtain ⟨rfl, H', I', e⟩ := z
  exact ⟨.bl b, H', I', rfl, q H' e⟩
theorem op_neT (T : TabE X.K C f) (F : FnS X.prog X.w X.K X.mg X.base n f (spTeq X.K C)) (hr : RoomG (n + 1) X.A) : OpR X (compareOp .NotEq) (rNeT X.K C) := by
  intro pins s σ H x y v u Q I rx ry h
  obtain ⟨a, b, rfl, ans, q⟩ := h
  cases rx
  show wpAny (model X.prog X.w) X.A (richCompare .NotEq _ u) (EP X pins σ Q) X.xe s
  refine wpAny_mono (neT T F ⟨hr, rfl⟩ I ry ans) (fun r s' z => ?_) fun _ _ x => x
  obtain ⟨rfl, H', I', e⟩ := z
  exact ⟨.bl (!b), H', I', rfl, q H' e⟩
theorem op_eqR (T : TabE X.K C f) (F : FnS X.prog X.w X.K X.mg X.base n f (spTeq X.K C)) (hr : RoomG n X.A) : OpR X (compareOp .Eq) (rEqR X.K C) := by
  intro pins s σ H x y v u Q I rx ry h
  obtain ⟨a, d, fs, Ty, rfl, h1, h2, h3, q⟩ := h
  cases ry
  show wpAny (model X.prog X.w) X.A (richCompare .Eq v _) (EP X pins σ Q) X.xe s
  refine wpAny_mono (rcR T F ⟨hr, rfl⟩ I rx h1 h2 h3) (fun r s' z => ?_) fun _ _ x => x
  obtain ⟨rfl, H', I', e⟩ := z
  exact ⟨.bl false, H', I', rfl, q H' e⟩
end
end N

/-! ### repr(x) and x + y by the class's own defs -/
namespace OwnQ
open PySem PySem.W PySem.SeqAt
section
variable {prog : Program} {w : World} {A : Around} {E : Value → Shared → Prop} {s : Shared} {K : Frag} {x C f : Addr} {ox : Obj} {od : Option Obj} {b : Value}
theorem repr_own {Q : Value → Shared → Prop} (hu : A.units + 1 < cLine) (X : K.In s.heap) (I : InstAt s.heap x ox C od) (hs : findIn K (.ref C) "__repr__" = some (some (.ref f))) (hf : isFn K (.ref f) = true)
    (h : codeAny (model prog w) A.in1 (.call (.ref f) ⟨[.ref x], []⟩) (fun r s' => match r with | .ok (.ret v) => ∃ z t, v = .str z t ∧ Q (.str z t) s' | .ok _ => False | .error e => E e s') s) :
    wpAny (model prog w) A (call (.builtin "repr") [.ref x]) Q E s := by
  refine Calls.call_function_entry F.kind_repr F.plain_repr F.entry_repr (F.args_repr1 _) ?_
  unfold Builtin.«repr»
  refine wpAny_bind (m := oneArg "repr" _) (wpAny_pure ?_)
  refine wpAny_bind (wpAny_cRoomFor (show A.in1.units < cLine from hu) ?_)
  have L : Looks (model prog w) s.heap (specialOf (.ref x) "__repr__") (some (.ref f)) := I.type.andThen (looks_findIn X hs)
  refine wpAny_bind (L.here ?_)
  refine wpAny_bind (m := callSpecialIfBound? (.ref x) (Str.ofString "__repr__")) (ifBound_K X I hs hf (wpAny_call (codeAny_mono h fun r s' hq => ?_)))
  match r, hq with
  | .error e, hq => exact hq
  | .ok .next, hq => exact hq.elim
  | .ok .brk, hq => exact hq.elim
  | .ok .cont, hq => exact hq.elim
  | .ok (.ret v), hq =>
    obtain ⟨z, t, rfl, q⟩ := hq
    refine wpAny_bind (wpAny_isInstance (T := "str") (b := true) (typeIs_str _ z t) isSubtype_str_str ?_)
    exact wpAny_pure ⟨_, rfl, q⟩
theorem fills_own {M : Model} {h : Heap} {cd : ClassData} {rest : List Value} (X : K.In h) (hc : clsIn K C = some cd) (hm : cd.mro = .ref C :: rest) (hs : findIn K (.ref C) "__add__" = some (some (.ref f))) : Looks M h (fillsNumberSlot (.ref C) "add") true := by
  unfold fillsNumberSlot
  have L : Looks M h (mroOf (.ref C)) (.ref C :: rest) := hm ▸ (looks_clsIn X hc).andThen .now
  refine L.andThen ?_
  have L2 : Looks M h (typeLookup (.ref C) (dunder "add")) (some (.ref f)) := looks_findIn X hs
  intro A Q E s k q
  simp only [List.anyM]
  refine wpAny_bind (wpAny_bind (wpAny_bind (L2 A _ E s k ?_)))
  have e : (!ownNameWrapper (.ref f) (dunder "add")) = true := rfl
  simp only [e, if_true]
  exact wpAny_pure (wpAny_pure (wpAny_pure q))
/-- x + b, b a tuple -/
theorem add_own {cd : ClassData} {rest : List Value} {Q : Value → Shared → Prop} (X : K.In s.heap) (I : InstAt s.heap x ox C od) (hc : clsIn K C = some cd) (hm : cd.mro = .ref C :: rest) (hs : findIn K (.ref C) "__add__" = some (some (.ref f))) (hf : isFn K (.ref f) = true) (hb : s.TypeIs b "tuple")
    (h : codeAny (model prog w) A (.call (.ref f) ⟨[.ref x, b], []⟩) (fun r s' => match r with | .ok (.ret v) => CmpBack Q v s' | .ok _ => False | .error e => E e s') s) : wpAny (model prog w) A (binaryOp .Add (.ref x) b) Q E s := by
  have one : wpAny (model prog w) A (tryMethod (.ref x) (dunder "add") b) (fun r s' => ∃ v, r = some v ∧ Q v s') E s := by
    unfold tryMethod callSpecial?
    have L : Looks (model prog w) s.heap (specialOf (.ref x) (dunder "add")) (some (.ref f)) := I.type.andThen (looks_findIn X hs)
    refine wpAny_bind (wpAny_bind (L.here ?_))
    refine wpAny_holding (wpAny_bind ((bind_fn X _ (beq_iff_eq.mp hf)).here ?_))
    refine wpAny_bind (wpAny_call (codeAny_mono h fun r s' hq => ?_))
    match r, hq with
    | .error e, hq => exact hq
    | .ok .next, hq => exact hq.elim
    | .ok .brk, hq => exact hq.elim
    | .ok .cont, hq => exact hq.elim
    | .ok (.ret v), hq =>
      refine wpAny_pure ?_
      cases v <;> first | exact hq.elim | exact wpAny_pure ⟨_, rfl, hq⟩
  have bin : wpAny (model prog w) A (binaryOp1 "add" (.ref x) b) (fun r s' => ∃ v, r = some v ∧ Q v s') E s := by
    unfold binaryOp1
    refine wpAny_bind (I.type.here (wpAny_bind (wpAny_typeOf hb ?_)))
    refine wpAny_bind ((fills_own X hc hm hs).here ?_)
    have e1 : (Value.ref C == Value.type "tuple") = false := rfl
    simp only [e1, Bool.false_eq_true, if_false]
    refine wpAny_bind (wpAny_of_eq noFill_tuple_add ?_)
    simp only [Bool.and_false, Bool.false_and, Bool.false_eq_true, if_false, if_true, Bool.true_and]
    refine wpAny_bind (wpAny_pure ?_)
    simp only [Bool.false_eq_true, if_false]
    refine wpAny_bind (wpAny_mono one (fun r s' hq => ?_) fun _ _ e => e)
    obtain ⟨v, rfl, q⟩ := hq
    exact wpAny_pure ⟨_, rfl, q⟩
  unfold binaryOp
  refine wpAny_holding ?_
  refine wpAny_bind (wpAny_mono bin (fun r s' hq => ?_) fun _ _ e => e)
  obtain ⟨v, rfl, q⟩ := hq
  exact wpAny_pure q
end
end OwnQ

namespace OwnQ
open PySem PySem.W
section
variable {M : Model} {A : Around} {E : Value → Shared → Prop} {s : Shared} {K : Frag} {env : Env} {pos p : Pos} {f : Value} {first : List Value} {Q : Value → Shared → Prop} {h₀ : Heap} {e e2 : Expr} {rest : List Expr}
/-- f(*e, e2, ..) -/
theorem evalArgs_star {f : Value} {x : Sem Value} {b : Bool × Sem Value} {rest : List (Bool × Sem Value)} {Q : Args → Shared → Prop}
    (h : wpAny M A (spliced ((true, x) :: b :: rest)) (fun vs s' => Q ⟨vs, []⟩ s') E s) : wpAny M A (evalArgs f true ((true, x) :: b :: rest) []) Q E s := by
  unfold evalArgs
  show wpAny M A (spliced ((true, x) :: b :: rest) >>= _) Q E s
  refine wpAny_bind (wpAny_mono h (fun vs s' h' => ?_) fun _ _ x => x)
  refine wpAny_holding ?_
  exact wpAny_bind (wpAny_pure (wpAny_bind (wpAny_pure (wpAny_pure h'))))
theorem callWith_S3 (_X : K.In h₀) (hk : keepIn K f = true) (h : wpAny M A (spliced (backTo pos (starEach (.Starred e p :: e2 :: rest) env))) (fun vs s₁ => K.In s₁.heap ∧ wpAny M A (call f (first ++ vs)) Q E s₁) E s)
    (he : starEach (.Starred e p :: e2 :: rest) env = (true, eval e env) :: (false, eval e2 env) :: starEach rest env := by rfl) :
    wpAny M A (callWith pos f first (backTo pos (starEach (.Starred e p :: e2 :: rest) env)) []) Q E s := by
  rw [he] at h ⊢
  exact ks_call rfl (keeps_K hk) (evalArgs_star h)
end
end OwnQ
namespace N
open PySem PySem.Spec PyProof.Rows L2 StX
section
variable {X : Cx} {f C : Addr} {e e2 : Expr} {es : List Expr} {t : TA} {p sp_ pos : Pos}
/-- Table(*e, e2, ..), right classes -/
theorem pe_tabS (T : TabC X.K X.mg C) (M : Mk X.K C f) (F : FnS X.prog X.w X.K X.mg X.base 10 f (spTini1 X.K C)) (hr : RoomG 11 X.A) (hg : Gl X "Table") (ha : PA X (.Starred e sp_ :: e2 :: es) t)
    (he : starEach (.Starred e sp_ :: e2 :: es) X.env = (true, eval e X.env) :: (false, eval e2 X.env) :: starEach es X.env := by rfl) : PE X (.Call (.Name "Table" p) (.Starred e sp_ :: e2 :: es) [] pos) (tTab X.K C t) := by
  refine ⟨fun pins s σ H Q I h => wpAny_Call_Name_kw (ld_glob I hg T.gl ?_ (by decide))⟩
  refine OwnQ.callWith_S3 (h₀ := X.base) I.ok.mod.kin M.kp (thn (ha.run pos pins s σ H _ I h) fun us s1 ⟨vs, H1, J, r, cs, hp, ok, q⟩ => ⟨J.kIn, ?_⟩) he
  exact run_mkS M F hr J r fun a d h1 h2 h3 => tab_made hp ok q a d h1 h2 h3
/-- isinstance(e, c), c an own class -/
theorem pe_isiO {p2 : Pos} {te : TE} {c : Str} {C : Addr} (hm : X.mg "isinstance" = none) (hmc : X.mg c = some (.ref C)) (hg : Gl X "isinstance") (hgc : Gl X c) (he : PE X e te) (hdb : (c == ("__debug__" : Str)) = false := by decide)
    (hst2 : starEach [e, .Name c p2] X.env = (false, eval e X.env) :: starEach [.Name c p2] X.env := by rfl) (hpl : (backTo pos (starEach [.Name c p2] X.env)).any (·.1) = false := by rfl) (hs3 : starEach [.Name c p2] X.env = (false, eval (.Name c p2) X.env) :: starEach [] X.env := by rfl) :
    PE X (.Call (.Name "isinstance" p) [e, .Name c p2] [] pos) (fun σ H Q => te σ H fun v H1 => rIsi X.K [v, .ref C] H1 Q) :=
  pe_callB call_isi hg hm (by decide +kernel) (pa_cons he (pa_cons (pe_glob (v := .ref C) hgc hmc rfl hdb) pa_nil hs3) hst2) (by decide) (by decide) hst2 hpl
end
/-- what else is known of the class Table -/
structure TabI (K : PySem.W.Frag) (C : Addr) : Prop where
  ca : PySem.W.findIn K (.ref C) "__class__" = some (some (.builtin "object.__class__"))
  cn : PySem.W.specialIn K (.builtin "object.__class__") "__get__" = some (some (.builtin "getset_descriptor.__get__"))
  ct : PySem.W.takesIn K (.builtin "object.__class__") = some true
  kit : ∀ T ∈ Tys, PySem.W.kitOne K (.type T) (.ref C) = some false
  kitc : PySem.W.kitOne K (.ref C) (.ref C) = some true
structure TabA (K : PySem.W.Frag) (C fa : Addr) : Prop where
  add : PySem.W.findIn K (.ref C) "__add__" = some (some (.ref fa))
  fn : PySem.W.isFn K (.ref fa) = true
  sf : PySem.W.selfFirst K C = true
structure TabR (K : PySem.W.Frag) (C fr : Addr) : Prop where
  rep : PySem.W.findIn K (.ref C) "__repr__" = some (some (.ref fr))
  fn : PySem.W.isFn K (.ref fr) = true
theorem tyx_of {K : PySem.W.Frag} {H : Hp} {y : V} {T : String} (h : TyB K H y T) : TyX K H y (.type T) := by
  cases h with
  | non => exact .base .non
  | bl b => exact .base (.bl b)
  | int i => exact .base (.int i)
  | str x => exact .base (.str x)
  | byt b => exact .byt b
  | lst h =>
    rcases h with (h | ⟨o, h⟩) | ⟨o, its, n, h, c, _⟩
    · exact .base (.lst h)
    · exact .base (.frz h)
    · exact .kList h c
  | tup h => exact SqT.ty h
  | dK h => exact .base (.dK h)
section
variable {X : Cx} {n : Nat} {C f : Addr} {sp : Sp}
def rReprT (C : Addr) (sp : Sp) : List V → Hp → VK → Prop := fun xs H Q => ∃ a d fs, xs = [V.ref a] ∧ H a = some (.ins C d fs) ∧ sp [.ref a] H (fun v H' => ∃ z, v = .str z ∧ Q v H') E0
theorem call_reprT (R : TabR X.K C f) (F : FnS X.prog X.w X.K X.mg X.base n f sp) (hr : RoomG (n + 1) X.A) : CallR X (.builtin "repr") (rReprT C sp) := by
  intro pins s σ H xs us Q I r h
  obtain ⟨a, d, fs, rfl, ha, q⟩ := h
  obtain ⟨u, rfl, ru⟩ := r.one
  cases (show u = Value.ref a from ru)
  obtain ⟨mA, J, _⟩ := ins_get I.hok ha
  obtain ⟨od, J, _⟩ := J.look
  have sb : SubG X (n + 1) X.A := ⟨hr, rfl⟩
  refine OwnQ.repr_own sb.in1.room.toRoom.units0 I.kIn J R.rep R.fn ?_
  refine codeAny_mono (runA (us := [.ref a]) (vs := [.ref a]) F sb.in1 I (.cons rfl .nil) q) fun r s' hq => ?_
  match r, hq with
  | .error e, hq => exact hq
  | .ok .next, hq => exact hq.elim
  | .ok .brk, hq => exact hq.elim
  | .ok .cont, hq => exact hq.elim
  | .ok (.ret v), hq =>
    obtain ⟨z, H', I', rz, w, ez, qz⟩ := hq
    subst ez
    obtain ⟨t, rfl⟩ := rz
    exact ⟨w, t, rfl, .str w, H', I', ⟨t, rfl⟩, qz⟩
def rAddT (K : PySem.W.Frag) (C : Addr) (sp : Sp) : R2 := fun x y H Q => ∃ a b d fs ys, x = .ref a ∧ y = .ref b ∧ H a = some (.ins C d fs) ∧ SqT K H b ys ∧ sp [x, y] H (fun v H' => ∃ z, v = .ref z ∧ Q v H') E0
theorem op_addT (R : TabA X.K C f) (F : FnS X.prog X.w X.K X.mg X.base n f sp) (hr : RoomG n X.A) : OpR X (binaryOp .Add) (rAddT X.K C sp) := by
  intro pins s σ H x y v u Q I rx ry h
  obtain ⟨a, b, d, fs, ys, rfl, rfl, ha, hb, q⟩ := h
  cases rx
  cases ry
  obtain ⟨mA, J, _⟩ := ins_get I.hok ha
  obtain ⟨od, J, _⟩ := J.look
  obtain ⟨cd, hc, hm⟩ := PySem.W.any_some R.sf
  obtain ⟨rest, hm⟩ : ∃ rest, cd.mro = .ref C :: rest := by
    cases e : cd.mro with
    | nil => rw [e] at hm; simp at hm
    | cons z rest =>
      rw [e] at hm
      have : z = .ref C := by simpa using hm
      exact ⟨rest, by rw [this]⟩
  have hT : s.TypeIs (.ref b) "tuple" := TyB.is (x := .ref b) (u := .ref b) I rfl (.tup hb)
  refine OwnQ.add_own I.kIn J hc hm R.add R.fn hT ?_
  refine codeAny_mono (runA (us := [.ref a, .ref b]) (vs := [.ref a, .ref b]) F ⟨hr, rfl⟩ I (.cons rfl (.cons rfl .nil)) q) fun r s' hq => ?_
  match r, hq with
  | .error e, hq => exact hq
  | .ok .next, hq => exact hq.elim
  | .ok .brk, hq => exact hq.elim
  | .ok .cont, hq => exact hq.elim
  | .ok (.ret v), hq =>
    obtain ⟨z, H', I', rz, w, ez, qz⟩ := hq
    subst ez
    cases rz
    exact ⟨.ref w, H', I', rfl, qz⟩
end
end N

namespace N
open PySem PySem.Spec PyProof.Rows L2 StX
/-! ### Table's own defs -/
abbrev nm_Teq : List Str := ["self", "other"]
theorem sc_Teq : FnScope nm_Teq ["self", "other"] (defScope (tabM 5)) := ⟨rfl, rfl, rfl, by decide +kernel, rfl, by decide +kernel, by decide +kernel⟩
abbrev nm_Trepr : List Str := ["self"]
theorem sc_Trepr : FnScope nm_Trepr ["self"] (defScope (tabM 6)) := ⟨rfl, rfl, rfl, by decide +kernel, rfl, by decide +kernel, by decide +kernel⟩
abbrev nm_Tnames : List Str := ["self"]
theorem sc_Tnames : FnScope nm_Tnames ["self"] (defScope (tabM 2)) := ⟨rfl, rfl, rfl, by decide +kernel, rfl, by decide +kernel, by decide +kernel⟩
abbrev nm_Tadd : List Str := ["self", "other"]
theorem sc_Tadd : FnScope nm_Tadd ["self", "other"] (defScope (tabM 9)) := ⟨rfl, rfl, rfl, by decide +kernel, rfl, by decide +kernel, by decide +kernel⟩
section
variable {P : Program} {w : World} {K : PySem.W.Frag} {mg : Str → Option Value} {base : Heap} {C f : Addr} {fd : FuncData}
theorem ok_Teq (G : Glo mg) (T : TabC K mg C) (TI : TabI K C) (ob : PySem.W.mroIn K C (.type "object") = some true) (F : Fun K "__eq__" "Table.__eq__" (tabM 5) f fd)
    (hb : ∀ us : List Value, us.length = nm_Teq.length → bindArgs fd ⟨us, []⟩ = pure (nm_Teq.zip us)) : FnS P w K mg base 1 f (spTeq K C) := by
  refine fnS_of (N := nm_Teq) F sc_Teq hb (fun vs H Q E h => ?_) fun cdv A outer s H vs Q E hr h => ?_
  · obtain ⟨a, y, b, rfl, _⟩ := h
    rfl
  obtain ⟨a, y, b, rfl, ans, q⟩ := h
  refine ⟨_, pss_one (ps_ret (pe_and (pe_isiO G.isinstance T.gl rfl rfl (pv 1)) (pe_one (pe_cmpR (op_eqD hr.units) (pe_fld (pv 0) rfl) (pe_fld (pv 1) rfl) (nomark _))))), ?_⟩
  rcases ans with ⟨d, fs, Ty, h1, h2, h3, h4⟩ | ⟨a', cs, cs', e, ⟨a0, d, p, e0, h1, hc⟩, ⟨a2, d', p', e2, h1', hc'⟩, oks, oks', h4⟩
  · subst h4
    exact ⟨_, rfl, y, .ref C, .type Ty, _, false, rfl, .own C, tyx_of h2, TI.kit Ty h3, false, rfl, iteF (q H (Same.refl _))⟩
  · subst e
    cases e0
    cases e2
    subst h4
    refine ⟨_, rfl, .ref a', .ref C, .ref C, _, true, rfl, .own C, .base (.ins h1' T.c TI.ca TI.cn TI.ct ob), TI.kitc, true, rfl, iteT ?_⟩
    exact ⟨_, rfl, a, C, d, _, .ref p, rfl, h1, T.c, T.na, rfl, _, rfl, a', C, d', _, .ref p', rfl, h1', T.c, T.na, rfl, _, _, cs_dp hc, cs_dp hc', cs_shaped oks, cs_shaped oks', q H (Same.refl _)⟩
def spTrepr (K : PySem.W.Frag) (C : Addr) : Sp := fun vs H Q _ => ∃ a cs, vs = [.ref a] ∧ TabAt K C H (.ref a) cs ∧ cs.length ≤ 5 ∧ ∀ z, Q (.str z) H
theorem num_len : ∀ n : Nat, n < 6 → ((Str.empty ++ ("Table(" : Str)) ++ (toString ((n : Nat) : Int) : Str) ++ (" classes)" : Str)).length ≤ 1000 ∧ ((Str.empty ++ ("Table(" : Str)) ++ (toString ((n : Nat) : Int) : Str)).length ≤ 1000 ∧ ((n : Nat) : Int).natAbs.log2 < 1920 := by decide +kernel
theorem ok_Trepr (G : Glo mg) (T : TabC K mg C) (F : Fun K "__repr__" "Table.__repr__" (tabM 6) f fd)
    (hb : ∀ us : List Value, us.length = nm_Trepr.length → bindArgs fd ⟨us, []⟩ = pure (nm_Trepr.zip us)) : FnS P w K mg base 1 f (spTrepr K C) := by
  refine fnS_of (N := nm_Trepr) F sc_Trepr hb (fun vs H Q E h => ?_) fun cdv A outer s H vs Q E hr h => ?_
  · obtain ⟨a, cs, rfl, _⟩ := h
    rfl
  obtain ⟨a, cs, rfl, ⟨a0, d, p, e0, h1, xs, hc, hp⟩, h5, q⟩ := h
  cases e0
  refine ⟨_, pss_one (ps_ret (pe_joined (.cons pe_str (.cons (pe_fmt (pe_callB call_len_seq (by rfl) G.len PySem.boot_len (pa_cons (pe_fld (pv 0) rfl) pa_nil))) (.cons pe_str .nil))))), ?_⟩
  have hl : xs.length = cs.length := Paired.length hp
  obtain ⟨k1, k2, k3⟩ := num_len xs.length (by omega)
  refine ⟨_, rfl, by decide +kernel, ?_⟩
  refine ⟨_, rfl, a, C, d, _, .ref p, rfl, h1, T.c, T.na, rfl, p, xs, rfl, .inr hc, .inr ⟨_, rfl, k3, _, rfl, sz5 (by omega), _, rfl, sz5 (by omega), q _⟩⟩
def spTnames (K : PySem.W.Frag) (C : Addr) : Sp := fun vs H Q _ => ∃ a cs, vs = [.ref a] ∧ TabAt K C H (.ref a) cs ∧ cs.length ≤ 100 ∧ ∀ H' p, Same H H' → SqT K H' p ((cs.map Cls.nm).map V.str) → Q (.ref p) H'
theorem ok_Tnames (G : Glo mg) (T : TabC K mg C) (CN : Cal P w K mg base 1 "names_of" ["classes"] (spNames K)) (F : Fun K "names" "Table.names" (tabM 2) f fd)
    (hb : ∀ us : List Value, us.length = nm_Tnames.length → bindArgs fd ⟨us, []⟩ = pure (nm_Tnames.zip us)) : FnS P w K mg base 2 f (spTnames K C) := by
  refine fnS_of (N := nm_Tnames) F sc_Tnames hb (fun vs H Q E h => ?_) fun cdv A outer s H vs Q E hr h => ?_
  · obtain ⟨a, cs, rfl, _⟩ := h
    rfl
  obtain ⟨a, cs, rfl, ⟨a0, d, p, e0, h1, hc⟩, hn, q⟩ := h
  cases e0
  refine ⟨_, pss_one (ps_ret (pc CN hr rfl (pa_cons (pe_fld (pv 0) rfl) pa_nil))), ?_⟩
  exact ⟨_, rfl, a, C, d, _, .ref p, rfl, h1, T.c, T.na, rfl, p, cs, rfl, hc, hn, q⟩
def spTadd (K : PySem.W.Frag) (C : Addr) : Sp := fun vs H Q _ => ∃ a b cs c, vs = [.ref a, .ref b] ∧ TabAt K C H (.ref a) cs ∧ Cp K H (.ref b) c ∧ TabOk (cs ++ [c]) ∧ ∀ H' x, Same H H' → H x = none → TabAt K C H' (.ref x) (cs ++ [c]) → Q (.ref x) H'
theorem ok_Tadd {fi : Addr} (T : TabC K mg C) (M : Mk K C fi) (FI : FnS P w K mg base 10 fi (spTini1 K C)) (F : Fun K "__add__" "Table.__add__" (tabM 9) f fd)
    (hb : ∀ us : List Value, us.length = nm_Tadd.length → bindArgs fd ⟨us, []⟩ = pure (nm_Tadd.zip us)) : FnS P w K mg base 12 f (spTadd K C) := by
  refine fnS_of (N := nm_Tadd) F sc_Tadd hb (fun vs H Q E h => ?_) fun cdv A outer s H vs Q E hr h => ?_
  · obtain ⟨a, b, cs, c, rfl, _⟩ := h
    rfl
  obtain ⟨a, b, cs, c, rfl, ⟨a0, d, p, e0, h1, xs, hq, hp⟩, hc, ok, q⟩ := h
  cases e0
  refine ⟨_, pss_one (ps_ret (pe_tabS T M FI hr rfl (pa_star (pe_fld (pv 0) rfl) (pa_cons (pv 1) pa_nil)))), ?_⟩
  exact ⟨_, rfl, a, C, d, _, .ref p, rfl, h1, T.c, T.na, rfl, p, xs, rfl, .inl hq, _, rfl, cs ++ [c], pairs_app hp (.cons hc .nil), ok, fun H2 x s2 hx ht => q H2 x s2 hx ht⟩
end
end N

namespace N
open PySem PySem.Spec PyProof.Rows L2 StX
/-! ### len(t), x in t, t[x], t.f: by the class's own defs -/
theorem noE0 {P : Program} {w : World} {outer : List Env} {H : Hp} {s s' : Shared} {e : Value} (h : L2.CX P w outer H s E0 e s') : False := by
  obtain ⟨_, _, _, _, _, _, _, _, _, _, _, _, z⟩ := h
  exact z
section
variable {X : Cx} {n : Nat} {C p g : Addr} {f : Str} {sp : Sp} {e e2 : Expr} {ta tb : TE} {pos : Pos} {W : WX}
theorem runA0 {A : Around} {pins : List (Addr × Obj)} {σ : L2.St} {H : Hp} {s : Shared} {Q : VK} {us : List Value} {vs : List V} (F : FnS X.prog X.w X.K X.mg X.base n g sp) (sb : SubG X n A) (I : Inv X pins σ H s) (r : Vals vs us) (h : sp vs H Q E0) :
    codeAny (model X.prog X.w) A (.call (.ref g) ⟨us, []⟩) (fun r s' => match r with | .ok (.ret v) => EP X pins σ Q v s' | _ => False) s := by
  have e0 : Env0 X.prog X.w X.K X.mg X.base A X.stack s H := by
    have e := I.env0
    exact ⟨by rw [sb.fr]; exact e.frames, e.mod, e.bs, e.bsz, e.funs, e.frf, e.hok, e.bare⟩
  refine codeAny_mono (F A X.stack s H us vs Q E0 sb.room e0 r h) fun res s' hq => ?_
  match res, hq with
  | .error e, hq => exact noE0 hq
  | .ok (.ret u), hq => exact I.after hq
  | .ok .next, hq => exact False.elim hq
  | .ok .brk, hq => exact False.elim hq
  | .ok .cont, hq => exact False.elim hq
theorem runW {A : Around} {pins : List (Addr × Obj)} {σ : L2.St} {H : Hp} {s : Shared} {Q : VK} {us : List Value} {vs : List V} (tk : Takes X W) (F : FnS X.prog X.w X.K X.mg X.base n g sp) (sb : SubG X n A) (I : Inv X pins σ H s) (r : Vals vs us) (h : sp vs H Q (WE W σ)) :
    codeAny (model X.prog X.w) A (.call (.ref g) ⟨us, []⟩) (fun r s' => match r with | .ok (.ret v) => EP X pins σ Q v s' | .ok _ => False | .error e => X.xe e s') s := by
  have e0 : Env0 X.prog X.w X.K X.mg X.base A X.stack s H := by
    have e := I.env0
    exact ⟨by rw [sb.fr]; exact e.frames, e.mod, e.bs, e.bsz, e.funs, e.frf, e.hok, e.bare⟩
  refine codeAny_mono (F A X.stack s H us vs Q (WE W σ) sb.room e0 r h) fun res s' hq => ?_
  match res, hq with
  | .error e, hq => exact passAt tk σ pins H s e s' I hq
  | .ok (.ret u), hq => exact I.after hq
  | .ok .next, hq => exact False.elim hq
  | .ok .brk, hq => exact False.elim hq
  | .ok .cont, hq => exact False.elim hq
def tPropS (C : Addr) (sp : Sp) (ta : TE) : TE := fun σ H Q => ta σ H fun x H1 => ∃ a dx fs, x = .ref a ∧ H1 a = some (.ins C dx fs) ∧ sp [.ref a] H1 Q E0
/-- e.f, a property: its getter is called -/
theorem pe_propS (he : PE X e ta) (c : L2.Cls X.K C) (hp : PropOf X.K C f p g) (F : FnS X.prog X.w X.K X.mg X.base n g sp) (hr : RoomG (n + 1) X.A) (hab : attributeBase e f X.env (eval e X.env) = eval e X.env) : PE X (.Attribute e f pos) (tPropS C sp ta) := by
  refine ⟨fun pins s σ H Q I h => ?_⟩
  refine attr_of hab (thn (he.run pins s σ H _ I h) fun u s1 ⟨x, H1, I1, rx, a, dx, fs, ex, ea, q⟩ => ?_)
  subst ex
  obtain rfl : u = Value.ref a := rx
  obtain ⟨mA, O, _, _, _, _⟩ := ins_get I1.hok ea
  obtain ⟨od, J, _⟩ := O.look
  obtain ⟨rest, hrec⟩ := hp.rec_
  have I2 := I1.tok (s1.toks + 1)
  have hc : (PySem.W.clsIn X.K C).isSome = true := by
    obtain ⟨cd, hc, _⟩ := PySem.W.any_some c.hd
    rw [hc]
    rfl
  have sb : SubG X (n + 1) X.A := ⟨hr, rfl⟩
  refine PySem.W.get_bind I1.kIn J (PySem.W.plainGet_of (c.get f)).1 (PySem.W.findObj_data hc hp.at_ hp.get hp.tak) (PySem.W.plainGet_of (c.get f)).2 (wpAny_call (PySem.W.prop_get (s := { s1 with toks := s1.toks + 1 }) I1.kIn hrec ?_))
  refine codeAny_mono (runA0 (us := [.ref a]) (vs := [.ref a]) F sb.in1 I2 (.cons rfl .nil) q) fun r s' hq => ?_
  match r, hq with
  | .error e, hq => exact hq.elim
  | .ok .next, hq => exact hq.elim
  | .ok .brk, hq => exact hq.elim
  | .ok .cont, hq => exact hq.elim
  | .ok (.ret v), hq =>
    obtain ⟨z, H', I3, rv, q3⟩ := hq
    show wpAny _ _ (handedOut v) _ _ _
    rw [PySem.W.handedOut_of (handed_of rv)]
    exact wpAny_pure ⟨z, H', I3, rv, q3⟩
/-- x in t -/
def rInC (C : Addr) (sp : Sp) : R2 := fun x y H Q => ∃ a d fs, y = .ref a ∧ H a = some (.ins C d fs) ∧ sp [.ref a, x] H (fun v H' => ∃ b, v = .bl b ∧ Q (.bl b) H') E0
theorem op_inC (hs : PySem.W.findIn X.K (.ref C) "__contains__" = some (some (.ref g))) (hf : PySem.W.isFn X.K (.ref g) = true) (F : FnS X.prog X.w X.K X.mg X.base n g sp) (hr : RoomG n X.A) : OpR X (compareOp .In) (rInC C sp) := by
  intro pins s σ H x y v u Q I rx ry h
  obtain ⟨a, d, fs, rfl, ha, q⟩ := h
  cases ry
  obtain ⟨mA, J, _⟩ := ins_get I.hok ha
  obtain ⟨od, J, _⟩ := J.look
  obtain ⟨m, hF⟩ := I.fr
  refine PySem.W.in_K hF I.ok.mod.kin J hs hf (wpAny_call (codeAny_mono (runA0 (us := [.ref a, v]) (vs := [.ref a, x]) F ⟨hr, rfl⟩ I (.cons rfl (.cons rx .nil)) q) fun r s' hq => ?_))
  match r, hq with
  | .error e, hq => exact hq.elim
  | .ok .next, hq => exact hq.elim
  | .ok .brk, hq => exact hq.elim
  | .ok .cont, hq => exact hq.elim
  | .ok (.ret z), hq =>
    obtain ⟨z', H', I', rz, b, ez, qz⟩ := hq
    subst ez
    cases rz
    exact wpAny_truthy_bool ⟨.bl b, H', I', rfl, qz⟩
/-- len(t) -/
def rLenT (C : Addr) (sp : Sp) : List V → Hp → VK → Prop := fun xs H Q => ∃ a d fs, xs = [V.ref a] ∧ H a = some (.ins C d fs) ∧ sp [.ref a] H (fun v H' => ∃ i : Nat, i ≤ 1000 ∧ v = .int (i : Nat) ∧ Q (.int (i : Nat)) H') E0
theorem call_lenT (hs : PySem.W.findIn X.K (.ref C) "__len__" = some (some (.ref g))) (hf : PySem.W.isFn X.K (.ref g) = true) (F : FnS X.prog X.w X.K X.mg X.base n g sp) (hr : RoomG (n + 1) X.A) : CallR X (.builtin "len") (rLenT C sp) := by
  intro pins s σ H xs us Q I r h
  obtain ⟨a, d, fs, rfl, ha, q⟩ := h
  obtain ⟨u, rfl, ru⟩ := r.one
  cases (show u = Value.ref a from ru)
  obtain ⟨mA, J, _⟩ := ins_get I.hok ha
  obtain ⟨od, J, _⟩ := J.look
  obtain ⟨m, hF⟩ := I.fr
  have sb : SubG X (n + 1) X.A := ⟨hr, rfl⟩
  refine PySem.W.len_K hF I.ok.mod.kin J hs hf (wpAny_call (codeAny_mono (runA0 (us := [.ref a]) (vs := [.ref a]) F sb.in1 I (.cons rfl .nil) q) fun r s' hq => ?_))
  match r, hq with
  | .error e, hq => exact hq.elim
  | .ok .next, hq => exact hq.elim
  | .ok .brk, hq => exact hq.elim
  | .ok .cont, hq => exact hq.elim
  | .ok (.ret z), hq =>
    obtain ⟨z', H', I', rz, i, hi, ez, qz⟩ := hq
    subst ez
    obtain ⟨t, rfl⟩ := rz
    exact ⟨⟨by omega, by omega⟩, .int (i : Nat), H', I'.tok _, ⟨_, rfl⟩, qz⟩
/-- t[x] -/
def tIxT (C : Addr) (sp : Sp) (W : WX) (ta tb : TE) : TE := fun σ H Q => ta σ H fun x H1 => tb σ H1 fun y H2 => ∃ a d fs, x = .ref a ∧ H2 a = some (.ins C d fs) ∧ sp [.ref a, y] H2 Q (WE W σ)
theorem pe_ixTab (tk : Takes X W) (hs : PySem.W.findIn X.K (.ref C) "__getitem__" = some (some (.ref g))) (hf : PySem.W.fnIn X.K g = true) (hfn : PySem.W.isFn X.K (.ref g) = true) (F : FnS X.prog X.w X.K X.mg X.base n g sp) (hr : RoomG (n + 1) X.A)
    (ha : PE X e ta) (hb : PE X e2 tb) (hsl : ∀ (v i : Value), subscripted e2 true v i = runValue (.builtin "lifetime.subscript" ⟨[v, i], []⟩)) : PE X (.Subscript e e2 pos) (tIxT C sp W ta tb) := by
  refine ⟨fun pins s σ H Q I h => ?_⟩
  refine Subscript_ (binT ha hb I (R := fun x y H2 => ∃ a d fs, x = .ref a ∧ H2 a = some (.ins C d fs) ∧ sp [.ref a, y] H2 Q (WE W σ)) h fun v u s2 x y H2 I2 rx ry q => ?_)
  obtain ⟨a, d, fs, rfl, ha2, q⟩ := q
  cases rx
  obtain ⟨mA, J, _⟩ := ins_get I2.hok ha2
  obtain ⟨od, J, _⟩ := J.look
  obtain ⟨m, hF⟩ := I2.fr
  have sb : SubG X (n + 1) X.A := ⟨hr, rfl⟩
  refine PySem.W.sub_K hF I2.ok.mod.kin J hs hf hfn (wpAny_call (codeAny_mono (runW (us := [.ref a, u]) (vs := [.ref a, y]) tk F sb.in1 I2 (.cons rfl (.cons ry .nil)) q) fun r s' hq => ?_)) (hsl _ _)
  match r, hq with
  | .error e, hq => exact hq
  | .ok .next, hq => exact hq.elim
  | .ok .brk, hq => exact hq.elim
  | .ok .cont, hq => exact hq.elim
  | .ok (.ret z), hq => exact hq
end
end N

namespace N
open PySem PySem.Spec PyProof.Rows L2 StX
/-! ### is_of, of any thing, no letters -/
def headOk (ar : List (Str × Nat)) (n : Str) (m : Nat) : Bool := decide (valV (arKV ar) (Sum.inr n : Key) = some (.int (m : Nat)))
theorem ar_vals (n : Str) : ∀ ar : List (Str × Nat), valV (arKV ar) (Sum.inr n : Key) = none ∨ ∃ m : Nat, valV (arKV ar) (Sum.inr n : Key) = some (.int (m : Nat))
  | [] => .inl rfl
  | p :: r => by
    by_cases e : (Sum.inr p.1 : Key) = Sum.inr n
    · exact .inr ⟨p.2, valV_pos (p := (Sum.inr p.1, V.int (p.2 : Nat))) e⟩
    · have e1 : valV (arKV (p :: r)) (Sum.inr n : Key) = valV (arKV r) (Sum.inr n : Key) := valV_neg (p := (Sum.inr p.1, V.int (p.2 : Nat))) e
      rw [e1]
      exact ar_vals n r
mutual
def ofT (ar : List (Str × Nat)) : Tg → Bool
  | .str _ => false
  | .oth => false
  | .tup [] => false
  | .tup (.str n :: ts) => headOk ar n ts.length && ofTAll ar ts
  | .tup (.oth :: _) => false
  | .tup (.tup _ :: _) => false
def ofTAll (ar : List (Str × Nat)) : List Tg → Bool
  | [] => true
  | t :: ts => ofT ar t && ofTAll ar ts
end
theorem ofTAll_app (ar : List (Str × Nat)) : ∀ a b : List Tg, ofTAll ar (a ++ b) = (ofTAll ar a && ofTAll ar b)
  | [], b => by simp [ofTAll]
  | t :: a, b => by simp [ofTAll, ofTAll_app ar a b, Bool.and_assoc]
section
variable {X : Cx}
/-- x not in () -/
theorem op_notIn_nil : OpR X (compareOp .NotIn) (fun _ y H Q => ∃ p, y = .ref p ∧ SqT X.K H p [] ∧ Q (.bl true) H) := by
  intro pins s σ H x y v u Q I rx ry h
  obtain ⟨p, rfl, hq, q⟩ := h
  cases ry
  obtain ⟨its, r, pl, hz⟩ := I.tuple hq
  cases r
  refine SeqAt.notIn_tupleAt (fun _ => false) pl (fun w hw => by simp at hw) ⟨.bl _, H, I, rfl, ?_⟩
  simpa using q
end
theorem th_mem {K : PySem.W.Frag} {H : Hp} : ∀ {vs : List V} {ts : List Tg}, ThAll K H vs ts → vs = [] ∨ ∃ v vs' t ts', vs = v :: vs' ∧ ts = t :: ts' ∧ Th K H v t ∧ ThAll K H vs' ts'
  | _, _, .nil => .inl rfl
  | _, _, .cons h r => .inr ⟨_, _, _, _, rfl, rfl, h, r⟩
theorem isi_tu {K : PySem.W.Frag} {H : Hp} {v : V} {t : Tg} {Q : VK} (h : Th K H v t) (q : Q (.bl t.isTu) H) : rIsi K [v, .ty "tuple"] H Q := by
  cases h with
  | str x hx => exact isi_q (b := false) (.base (.str x)) (kit_ty (by decide +kernel)) q
  | oth ty a b => exact isi_q ty b q
  | tup h r => exact isi_q (b := true) (SqT.ty h) (kit_ty (by decide +kernel)) q
section
variable {P : Program} {w : World} {K : PySem.W.Frag} {mg : Str → Option Value} {base : Heap}
def spOfX (K : PySem.W.Frag) : Sp := fun vs H Q _ => ∃ (v : V) (t : Tg) (d l : Addr) (ar : List (Str × Nat)), vs = [v, .ref d, .ref l] ∧ Th K H v t ∧ t.nodes ≤ 50000 ∧ H d = some (.dK (arKV ar)) ∧ SqT K H l [] ∧ ∀ H', Same H H' → Q (.bl (ofT ar t)) H'
theorem ok_ofX (G : Glo mg) (D : DefAt K mg "is_of" s_is_of ["thing", "wanted", "letters"]) : Cal P w K mg base 1 "is_of" ["thing", "wanted", "letters"] (spOfX K) := by
  refine D.cal sc_is_of (fun vs H Q E h => ?_) (fun f cdv A outer s H vs Q E hr h => ?_)
  · obtain ⟨v, t, d, l, ar, rfl, _⟩ := h
    rfl
  obtain ⟨v, t, d, l, ar, rfl, hT, hn, hd, hl, q⟩ := h
  refine ⟨_, pss_cons (ps_set (i := 3) sc_is_of.nd rfl (Or.inl rfl) (pe_lst (pa_cons (pv 0) pa_nil)))
    (pss_cons (ps_while (passes_of rfl) (pt_truth (pv 3) (by intro _; rfl))
      (pss_cons (ps_set (i := 4) sc_is_of.nd rfl (Or.inl rfl) (pe_bm0 PySem.F.plainAttrs_list PySem.F.slot_list_pop PySem.F.type_list_pop mt_pop (pv 3)))
        (pss_one (ps_if (PW.pt (pw_and (pt_val (pe_isi G.isinstance G.tuple b_tuple rfl rfl (pv 4))) (pw_and (pt_cmpR op_gt (pe_callB call_len_seq (by rfl) G.len PySem.boot_len (pa_cons (pv 4) pa_nil)) pe_int (nomark _)) (pw_and1 (pt_val (pe_isi G.isinstance G.str b_str rfl rfl (pe_ix ix_tup (pv 4) pe_int (fun _ _ => rfl))))))))
          (pss_cons (ps_if (pt_cmpR op_ne (pe_dget1 (hug hr) (pv 1) (pe_ix ix_tup (pv 4) pe_int (fun _ _ => rfl)) ⟨rfl, rfl, rfl, rfl⟩) (pe_op op_sub (pe_callB call_len_seq (by rfl) G.len PySem.boot_len (pa_cons (pv 4) pa_nil)) pe_int) (nomark _)) (pss_one (ps_ret pe_bl)) pss_nil)
            (pss_one (ps_expr (pe_bm PySem.F.plainAttrs_list PySem.F.slot_list_extend PySem.F.type_list_extend mt_extendT (pv 3) (pa_cons (pe_slice sl_tup (pv 4) (po_some pe_int) po_none) pa_nil)))))
          (pss_one (ps_if (pt_cmpR op_notIn_nil (pv 4) (pv 2) (by rfl)) (pss_one (ps_ret pe_bl)) pss_nil))))))
    (pss_one (ps_ret pe_bl))), ?_⟩
  refine ⟨v, rfl, by show 1 ≤ sizeLine; decide, fun r hr0 => ?_⟩
  refine ⟨fun m σ H' => ∃ xs ts y, m = nodesAll ts ∧ σ = [some v, some (.ref d), some (.ref l), some (.ref r), y] ∧ Same H H' ∧ H' r = some (.lst xs) ∧ ThAll K H' xs ts ∧ nodesAll ts ≤ 50000 ∧ ofT ar t = ofTAll ar ts,
    ⟨_, [v], [t], _, rfl, rfl, same_new hr0 _, upd_same, .cons (hT.stay (stay_new hr0 _)) .nil, by simp only [nodesAll]; omega, by simp [ofTAll]⟩, fun m σ H' hW => ?_⟩
  obtain ⟨xs, ts, y, rfl, rfl, sm, hx, hA, hm, hof⟩ := hW
  refine ⟨_, rfl, _, .inl ⟨xs, SqL.of hx, rfl⟩, ?_⟩
  by_cases hne : ts = []
  · subst hne
    have e0 : xs = [] := List.length_eq_zero_iff.mp (ThAll.length hA)
    subst e0
    refine iteF ?_
    have := q H' sm
    rw [hof] at this
    exact this
  obtain ⟨u, xs', t', ts', e1, e2, hu, hr'⟩ := ThAll.snoc hA hne
  subst e1 e2
  have ek : (!(xs' ++ [u]).isEmpty) = true := by cases xs' <;> rfl
  refine iteE ek ?_
  rw [nodesAll_app] at hm
  rw [ofTAll_app] at hof
  have hl2 := ThAll.length hr'
  have h1t : nodesAll [t'] = t'.nodes := by simp [nodesAll]
  refine ⟨fun σ2 H2 => ∃ xs ts y, nodesAll ts < nodesAll (ts' ++ [t']) ∧ σ2 = [some v, some (.ref d), some (.ref l), some (.ref r), y] ∧ Same H H2 ∧ H2 r = some (.lst xs) ∧ ThAll K H2 xs ts ∧ nodesAll ts ≤ 50000 ∧ ofT ar t = ofTAll ar ts,
    fun σ2 H2 ⟨xs, ts, y, a, b, c, d, e, f, g⟩ => ⟨_, a, xs, ts, y, rfl, b, c, d, e, f, g⟩, ?_⟩
  have hlast : (xs' ++ [u])[(xs' ++ [u]).length - 1]? = some u := by
    rw [List.length_append, List.length_singleton, Nat.add_sub_cancel, List.getElem?_append_right (Nat.le_refl _), Nat.sub_self] <;> rfl
  refine ⟨_, rfl, .inl ⟨rfl, _, SqL.of hx⟩, r, _, u, rfl, rfl, hx, hlast, ?_⟩
  rw [List.dropLast_concat]
  have st : Stay K H' (upd H' r (.lst xs')) := stay_lst hx
  have hu1 : Th K _ u t' := hu.stay st
  have hr1 := ThAll.stay st hr'
  have s1 : Same H (upd H' r (.lst xs')) := same_mut sm hr0
  have hl1 := (stay_same (K := K) s1).tup _ _ hl
  -- what is no tuple with a text ahead: not in ()
  have no : ofT ar t' = false → ∀ {D : Ends} {σ : L2.St}, σ[2]? = some (some (.ref l)) → σ[4]? = some (some u) → D.rt (.bl false) (upd H' r (.lst xs')) → (tIfS (tTest (tOp (fun _ y H Q => ∃ p, y = .ref p ∧ SqT K H p [] ∧ Q (.bl true) H) (tVar 4) (tVar 2))) (tRet (tC (.bl false))) tNext) D σ (upd H' r (.lst xs')) := fun h D σ e2 e4 hq => by
    exact ⟨_, e4, _, e2, l, rfl, hl1, _, rfl, iteE rfl hq⟩
  have fin : ofT ar t' = false → Q (.bl false) (upd H' r (.lst xs')) := fun h => by
    have := q _ s1
    rw [hof, show ofTAll ar [t'] = false by simp [ofTAll, h], Bool.and_false] at this
    exact this
  cases hu1 with
  | str x hx => 
    have h0 : ofT ar (.str x) = false := by simp [ofT]
    exact ⟨_, rfl, isi_q (b := false) (.base (.str _)) (kit_ty (by decide +kernel)) ⟨_, rfl, iteN rfl (iteN rfl (no h0 rfl rfl (fin h0)))⟩⟩
  | oth ty a b =>
    have h0 : ofT ar .oth = false := by simp [ofT]
    exact ⟨_, rfl, isi_q ty b ⟨_, rfl, iteN rfl (iteN rfl (no h0 rfl rfl (fin h0)))⟩⟩
  | @tup a ys us hq hz =>
    refine ⟨_, rfl, isi_q (b := true) (SqT.ty hq) (kit_ty (by decide +kernel)) ⟨_, rfl, iteE rfl ?_⟩⟩
    rcases th_mem hz with rfl | ⟨y0, ys', t0, us', rfl, rfl, hy0, hys⟩
    · have e : us = [] := List.length_eq_zero_iff.mp (ThAll.length hz).symm
      subst e
      have h0 : ofT ar (.tup []) = false := by simp [ofT]
      exact ⟨_, rfl, a, _, rfl, .inr hq, _, _, rfl, rfl, _, rfl, iteN rfl (iteN rfl (no h0 rfl rfl (fin h0)))⟩
    · have hzl := ThAll.length hys
      refine ⟨_, rfl, a, _, rfl, .inr hq, _, _, rfl, rfl, _, rfl, iteE (decide_eq_true (by show (((ys'.length + 1 : Nat) : Int)) > 0; omega)) ?_⟩
      refine ⟨_, rfl, a, _, 0, y0, rfl, rfl, hq, atI_nat (j := 0) rfl, isi_str hy0 ⟨_, rfl, ?_⟩⟩
      cases hy0 with
      | oth ty b c =>
        have h0 : ofT ar (.tup (.oth :: us')) = false := by simp [ofT]
        exact iteN rfl (no h0 rfl rfl (fin h0))
      | tup hq2 hz2 =>
        rename_i us2
        have h0 : ofT ar (.tup (.tup us2 :: us')) = false := by simp [ofT]
        exact iteN rfl (no h0 rfl rfl (fin h0))
      | str n hn0 =>
        refine iteE rfl ?_
        refine ⟨_, rfl, d, rfl, .inl ⟨_, .inl (s1 _ _ hd)⟩, ?_⟩
        refine ⟨_, rfl, a, _, 0, .str n, rfl, rfl, hq, atI_nat (j := 0) rfl, valV (arKV ar) (Sum.inr n : Key), .inl ⟨_, Sum.inr n, .inl (s1 _ _ hd), rfl, rfl⟩, ?_⟩
        have hof' : ofT ar (.tup (.str n :: us')) = (headOk ar n us'.length && ofTAll ar us') := by simp [ofT]
        have el : ((((V.str n :: ys').length : Nat) : Int) - 1) = ((us'.length : Nat) : Int) := by rw [List.length_cons, hzl]; omega
        refine ⟨_, rfl, a, _, rfl, .inr hq, _, _, rfl, rfl, ?_, _, rfl, ?_⟩
        · rcases ar_vals n ar with e | ⟨m, e⟩
          · rw [e]
            rfl
          · rw [e]
            rfl
        show if (!decide ((valV (arKV ar) (Sum.inr n : Key)).getD V.non = V.int ((((V.str n :: ys').length : Nat) : Int) - 1))) = true then _ else _
        rw [el]
        by_cases hh : headOk ar n us'.length = true
        · have hv : valV (arKV ar) (Sum.inr n : Key) = some (.int (us'.length : Nat)) := of_decide_eq_true hh
          rw [hv, show (some (V.int ((us'.length : Nat) : Int))).getD V.non = V.int ((us'.length : Nat) : Int) from rfl, decide_eq_true rfl]
          refine iteN rfl ?_
          refine ⟨_, rfl, .inl ⟨rfl, _, SqL.of upd_same⟩, _, rfl, 1, rfl, a, _, rfl, hq, cut_tail_ne _ (by simp), fun p hp => ?_⟩
          rw [cut_tail]
          show ∃ _ : Addr, _
          have npl : r ≠ p := ne_of_none upd_same hp
          have hx2 : (upd (upd H' r (.lst xs')) p (.tup ys')) r = some (.lst xs') := by rw [upd_ne npl]; exact upd_same
          have st2 : Stay K (upd H' r (.lst xs')) (upd (upd H' r (.lst xs')) p (.tup ys')) := stay_new hp _
          have st3 : Stay K (upd (upd H' r (.lst xs')) p (.tup ys')) (upd (upd (upd H' r (.lst xs')) p (.tup ys')) r (.lst (xs' ++ ys'))) := stay_lst hx2
          have hn1 : ∀ l : List Tg, l.length ≤ nodesAll l := fun l => by
            induction l with
            | nil => exact Nat.zero_le _
            | cons a l ih =>
              have := nodes_pos a
              simp only [nodesAll, List.length_cons]
              omega
          have k1 := hn1 ts'
          have k2 := hn1 us'
          have hnt : nodesAll [Tg.tup (.str n :: us')] = 2 + nodesAll us' := by simp only [nodesAll, Tg.nodes]; omega
          rw [hnt] at hm
          refine ⟨r, p, xs', ys', rfl, rfl, hx2, .inl (.inl upd_same), sz5 (by omega), ?_⟩
          refine ⟨xs' ++ ys', ts' ++ us', _, ?_, rfl, same_mut (s1.trans (same_new hp _)) hr0, upd_same, ThAll.app ((hr1.stay st2).stay st3) ((hys.stay st2).stay st3), ?_, ?_⟩
          · rw [nodesAll_app, nodesAll_app, hnt]
            omega
          · rw [nodesAll_app]
            omega
          · rw [hof, ofTAll_app, show ofTAll ar [Tg.tup (.str n :: us')] = ofTAll ar us' by simp [ofTAll, hof', hh]]
        · have hv : ¬ ((valV (arKV ar) (Sum.inr n : Key)).getD V.non = V.int ((us'.length : Nat) : Int)) := fun e => hh (by
            rcases ar_vals n ar with e2 | ⟨m, e2⟩
            · rw [e2] at e
              cases e
            · rw [e2] at e
              unfold headOk
              rw [e2]
              exact decide_eq_true (congrArg some e))
          rw [decide_eq_false hv]
          refine iteE rfl (fin ?_)
          rw [hof']
          have : headOk ar n us'.length = false := by simpa using hh
          rw [this, Bool.false_and]
end
end N

namespace OwnQ
open PySem PySem.W PySem.SeqAt
section
variable {prog : Program} {w : World} {A : Around} {E : Value → Shared → Prop} {s : Shared}
theorem sub_dict_str : isSubtype (.type "dict") (.type "str") = pure false := by rw [isSubtype_type]; kernel_rfl
theorem sub_str_dict : isSubtype (.type "str") (.type "dict") = pure false := by rw [isSubtype_type]; kernel_rfl
/-- a text == a dict -/
theorem rc_str_dict {p : Addr} {o : Obj} {b : Str} {u : Tok} {es : Array DictEntry} {n : Nat} {Q : Value → Shared → Prop} (ho : s.heap.get? p = some o) (hc : o.cls = .type "dict") (hd : o.data = .dict es n) (hu : A.units < cLine) (h : Q (.bool false) s) :
    wpAny (model prog w) A (richCompare .Eq (.str b u) (.ref p)) Q E s := by
  obtain ⟨cls, dd, data, sl⟩ := o
  simp only at hc hd
  subst hc hd
  refine rc_eq_decline_or (k := false) (typeIs_str s b u) ⟨_, ho, rfl⟩ (by decide) sub_dict_str F.slot_str_eq F.slot_dict_eq_refl (fun Q' hq => ?_) (fun Q' hq => ?_)
    (fun _ hq => wpAny_of_eq (rfl : isSame (.str b u) (.ref p) = pure false) hq) (.inr hu) h
  · refine wpAny_call (codeAny_call_builtin F.slot_str_eq.plain F.entry_str_eq (F.slot_str_eq.check _ _ _ _ _ _ _ _ (typeIs_str s b u) (F.args_str_eq_2 _ _) ?_))
    obtain ⟨hp, g, d, tk, os⟩ := s
    wp_walk using wpAny_load ho
    exact hq
  · refine wpAny_call (codeAny_call_builtin F.slot_dict_eq_refl.plain F.entry_dict_eq (F.slot_dict_eq_refl.check _ _ _ _ _ _ _ _ ⟨_, ho, rfl⟩ (F.args_dict_eq_2 _ _) ?_))
    have f1 := sub_str_dict
    wp_walk
    exact hq
end
end OwnQ
namespace N
open PySem PySem.Spec PyProof.Rows L2 StX
/-- a text == any thing -/
def rStrQ (K : PySem.W.Frag) (C : Addr) : R2 := fun x y H Q => ∃ n, x = .str n ∧ ((∃ m, y = .str m ∧ Q (.bl (decide (n = m))) H) ∨ (∃ T ∈ Tys, TyB K H y T ∧ T ≠ "str" ∧ Q (.bl false) H) ∨ (∃ a d fs, y = .ref a ∧ H a = some (.ins C d fs) ∧ ∀ H', Same H H' → Q (.bl false) H'))
section
variable {X : Cx} {n : Nat} {C f : Addr}
theorem op_strQ (T : TabE X.K C f) (F : FnS X.prog X.w X.K X.mg X.base n f (spTeq X.K C)) (hr : RoomG n X.A) : OpR X (compareOp .Eq) (rStrQ X.K C) := by
  intro pins s σ H x y v u Q I rx ry h
  obtain ⟨b, rfl, h⟩ := h
  obtain ⟨t, rfl⟩ := rx
  have hu := hr.toRoom.units0
  show wpAny (model X.prog X.w) X.A (richCompare .Eq (.str b t) u) (EP X pins σ Q) X.xe s
  rcases h with ⟨m, rfl, q⟩ | ⟨Ty, hT, hy, hne, q⟩ | ⟨a, d, fs, rfl, ha, q⟩
  · obtain ⟨t2, rfl⟩ := ry
    refine SeqAt.RcAt.str_str b t m t2 X.prog X.w X.xe _ ⟨.bl (decide (b = m)), H, I, ?_, q⟩
    show Value.bool (b == m) = Value.bool (decide (b = m))
    congr 1
  · have e0 : EP X pins σ Q (.bool false) s := ⟨.bl false, H, I, rfl, q⟩
    cases hy with
    | byt b => simp [Tys] at hT
    | str x => exact absurd rfl hne
    | non =>
      cases (show u = Value.none from ry)
      exact SeqAt.RcAt.str_none b t X.prog X.w X.xe _ e0
    | bl c =>
      cases (show u = Value.bool c from ry)
      exact SeqAt.RcAt.str_bool b t c X.prog X.w X.xe _ e0
    | int i =>
      obtain ⟨t2, rfl⟩ := (show ∃ t, u = Value.int i t from ry)
      exact SeqAt.RcAt.str_int b t i t2 X.prog X.w X.xe _ e0
    | @lst p xs h =>
      cases (show u = Value.ref p from ry)
      obtain ⟨its, r, pl, hz⟩ := I.list h
      exact SeqAt.RcAt.str_list b t pl.isList hu X.prog X.w X.xe _ e0
    | @tup p xs h =>
      cases (show u = Value.ref p from ry)
      obtain ⟨its, r, pl, hz⟩ := I.tuple h
      exact SeqAt.RcAt.str_tuple b t pl hu X.prog X.w X.xe _ e0
    | @dK p kvs h =>
      cases (show u = Value.ref p from ry)
      obtain ⟨_, _, vs, _, o, es, ep, ho, hx, hd, _⟩ := I.hok p _ h
      exact OwnQ.rc_str_dict ho hx.1 hd hu e0
  · cases ry
    refine wpAny_mono (rcR (y := .str b) T F ⟨hr, rfl⟩ I ⟨t, rfl⟩ ha (.str b) (by decide)) (fun r s' z => ?_) fun _ _ x => x
    obtain ⟨rfl, H', I', e⟩ := z
    exact ⟨.bl false, H', I', rfl, q H' e⟩
end
end N

namespace N
open PySem PySem.Spec PyProof.Rows L2 StX
/-! ### Table: classes, len, in, an item -/
abbrev nm_Tcls : List Str := ["self"]
theorem sc_Tcls : FnScope nm_Tcls ["self"] (defScope (tabM 1)) := ⟨rfl, rfl, rfl, by decide +kernel, rfl, by decide +kernel, by decide +kernel⟩
abbrev nm_Tlen : List Str := ["self"]
theorem sc_Tlen : FnScope nm_Tlen ["self"] (defScope (tabM 3)) := ⟨rfl, rfl, rfl, by decide +kernel, rfl, by decide +kernel, by decide +kernel⟩
abbrev nm_Tcon : List Str := ["self", "x"]
theorem sc_Tcon : FnScope nm_Tcon ["self", "x"] (defScope (tabM 4)) := ⟨rfl, rfl, rfl, by decide +kernel, rfl, by decide +kernel, by decide +kernel⟩
abbrev nm_Tget : List Str := ["self", "at", "one"]
theorem sc_Tget : FnScope nm_Tget ["self", "at"] (defScope (tabM 7)) := ⟨rfl, rfl, rfl, by decide +kernel, rfl, by decide +kernel, by decide +kernel⟩
/-- a thing that is no text -/
def NoS (K : PySem.W.Frag) (C : Addr) (H : Hp) (y : V) : Prop := (∃ T ∈ Tys, TyB K H y T ∧ T ≠ "str") ∨ ∃ a d fs, y = .ref a ∧ H a = some (.ins C d fs)
theorem NoS.same {K : PySem.W.Frag} {C : Addr} {H H' : Hp} {y : V} (s : Same H H') (h : NoS K C H y) : NoS K C H' y := by
  rcases h with ⟨T, h1, h2, h3⟩ | ⟨a, d, fs, e, h⟩
  · exact .inl ⟨T, h1, tyb_same s h2, h3⟩
  · exact .inr ⟨a, d, fs, e, s _ _ h⟩
section
variable {P : Program} {w : World} {K : PySem.W.Frag} {mg : Str → Option Value} {base : Heap} {C f fe : Addr} {fd : FuncData}
def spTcls (K : PySem.W.Frag) (C : Addr) : Sp := fun vs H Q _ => ∃ a cs, vs = [.ref a] ∧ TabAt K C H (.ref a) cs ∧ ∀ p, CsAt K H p cs → Q (.ref p) H
theorem ok_Tcls (T : TabC K mg C) (F : Fun K "classes" "Table.classes" (tabM 1) f fd) (hb : ∀ us : List Value, us.length = nm_Tcls.length → bindArgs fd ⟨us, []⟩ = pure (nm_Tcls.zip us)) : FnS P w K mg base 1 f (spTcls K C) := by
  refine fnS_of (N := nm_Tcls) F sc_Tcls hb (fun vs H Q E h => ?_) fun cdv A outer s H vs Q E hr h => ?_
  · obtain ⟨a, cs, rfl, _⟩ := h
    rfl
  obtain ⟨a, cs, rfl, ⟨a0, d, p, e0, h1, hc⟩, q⟩ := h
  cases e0
  exact ⟨_, pss_one (ps_ret (pe_fld (pv 0) rfl)), ⟨_, rfl, a, C, d, _, .ref p, rfl, h1, T.c, T.na, rfl, q p hc⟩⟩
def spTlen (K : PySem.W.Frag) (C : Addr) : Sp := fun vs H Q _ => ∃ a cs, vs = [.ref a] ∧ TabAt K C H (.ref a) cs ∧ Q (.int (cs.length : Nat)) H
theorem ok_Tlen (G : Glo mg) (T : TabC K mg C) (F : Fun K "__len__" "Table.__len__" (tabM 3) f fd) (hb : ∀ us : List Value, us.length = nm_Tlen.length → bindArgs fd ⟨us, []⟩ = pure (nm_Tlen.zip us)) : FnS P w K mg base 1 f (spTlen K C) := by
  refine fnS_of (N := nm_Tlen) F sc_Tlen hb (fun vs H Q E h => ?_) fun cdv A outer s H vs Q E hr h => ?_
  · obtain ⟨a, cs, rfl, _⟩ := h
    rfl
  obtain ⟨a, cs, rfl, ⟨a0, d, p, e0, h1, xs, hc, hp⟩, q⟩ := h
  cases e0
  have hl : xs.length = cs.length := Paired.length hp
  rw [← hl] at q
  exact ⟨_, pss_one (ps_ret (pe_callB call_len_seq (by rfl) G.len PySem.boot_len (pa_cons (pe_fld (pv 0) rfl) pa_nil))), ⟨_, rfl, a, C, d, _, .ref p, rfl, h1, T.c, T.na, rfl, p, xs, rfl, .inr hc, q⟩⟩
def spTcon (K : PySem.W.Frag) (C : Addr) : Sp := fun vs H Q _ => ∃ a cs v t, vs = [.ref a, v] ∧ TabAt K C H (.ref a) cs ∧ cs.length ≤ 100 ∧ (cs.map Cls.nm).Nodup ∧ Th K H v t ∧ t.nodes ≤ 50000 ∧ ∀ H', Same H H' → Q (.bl (ofT (arOf cs) t)) H'
theorem ok_Tcon (T : TabC K mg C) (CO : Cal P w K mg base 1 "is_of" ["thing", "wanted", "letters"] (spOfX K)) (CA : Cal P w K mg base 1 "arities" ["classes"] (spArs K)) (F : Fun K "__contains__" "Table.__contains__" (tabM 4) f fd) (hb : ∀ us : List Value, us.length = (["self", "x"] : List Str).length → bindArgs fd ⟨us, []⟩ = pure ((["self", "x"] : List Str).zip us)) : FnS P w K mg base 2 f (spTcon K C) := by
  refine fnS_of (N := nm_Tcon) F sc_Tcon hb (fun vs H Q E h => ?_) fun cdv A outer s H vs Q E hr h => ?_
  · obtain ⟨a, cs, v, t, rfl, _⟩ := h
    rfl
  obtain ⟨a, cs, v, t, rfl, ⟨a0, d, p, e0, h1, hc⟩, hl, nd, hT, hn, q⟩ := h
  cases e0
  refine ⟨_, pss_one (ps_ret (pc CO hr rfl (pa_cons (pv 1) (pa_cons (pc CA hr rfl (pa_cons (pe_fld (pv 0) rfl) pa_nil)) (pa_cons (pe_tup pa_nil) pa_nil))))), ?_⟩
  refine ⟨_, rfl, _, rfl, a, C, d, _, .ref p, rfl, h1, T.c, T.na, rfl, p, cs, rfl, hc, hl, nd, fun H1 dd s1 hd => ⟨Nat.zero_le _, fun l hl => ?_⟩⟩
  have s2 := same_new hl (.tup [])
  rw [ars_eq] at hd
  exact ⟨v, t, dd, l, arOf cs, rfl, (hT.stay (stay_same s1)).stay (stay_same s2), hn, s2 _ _ hd, .inl (.inl upd_same), fun H' s3 => q H' ((s1.trans s2).trans s3)⟩
def spTget (K : PySem.W.Frag) (C CN : Addr) : Sp := fun vs H Q E => ∃ a cs y, vs = [.ref a, y] ∧ TabAt K C H (.ref a) cs ∧
  ((∃ n, y = .str n ∧ (∀ c v H', c ∈ cs → c.nm = n → Same H H' → Cp K H' v c → Q v H') ∧ (n ∉ cs.map Cls.nm → ∀ H', Same H H' → E (.ref CN) none H')) ∨ (NoS K C H y ∧ ∀ H', Same H H' → E (.ref CN) none H'))
theorem ok_Tget {CN : Addr} (T : TabC K mg C) (TE : TabE K C fe) (Fe : FnS P w K mg base 1 fe (spTeq K C)) (X : ExcAt K mg "NoName" CN) (F : Fun K "__getitem__" "Table.__getitem__" (tabM 7) f fd) (hb : ∀ us : List Value, us.length = (["self", "at"] : List Str).length → bindArgs fd ⟨us, []⟩ = pure ((["self", "at"] : List Str).zip us)) : FnS P w K mg base 3 f (spTget K C CN) := by
  refine fnS_of (N := nm_Tget) F sc_Tget hb (fun vs H Q E h => ?_) fun cdv A outer s H vs Q E hr h => ?_
  · obtain ⟨a, cs, y, rfl, _⟩ := h
    rfl
  obtain ⟨a, cs, y, rfl, ⟨a0, d, p, e0, h1, xs, hq, hp⟩, q⟩ := h
  cases e0
  have hr1 : RoomG 1 _ := hr.mono (by decide)
  refine ⟨_, pss_cons (ps_for (passes_of rfl) rfl (pi_tup (pe_fld (pv 0) rfl)) (pg_name (i := 2) sc_Tget.nd rfl (by first | exact Or.inl rfl | exact Or.inr rfl))
      (pss_one (ps_if (pt_cmpR (op_strQ TE Fe hr1) (pe_ix ix_tup (pv 2) pe_int (fun _ _ => rfl)) (pv 1) (nomark _)) (pss_one (ps_ret (pv 2))) pss_nil)))
    (pss_one (ps_raise rfl (takes_of rfl rfl rfl rfl) (pmk_own PySem.F.excBase_ValueError X.x X.g X.k (raises_own X.b X.t) rfl))), ?_⟩
  refine ⟨_, rfl, a, C, d, _, .ref p, rfl, h1, T.c, T.na, rfl, p, rfl, ⟨xs, hq⟩, ?_⟩
  have hxl : xs.length = cs.length := Paired.length hp
  refine for_tup (K := K) (a := p) (xs := xs) (fun i σ H' => ∃ y2, σ = [some (.ref a), some y, y2] ∧ Same H H' ∧ ∀ n, y = .str n → n ∉ (cs.take i).map Cls.nm) ⟨_, rfl, Same.refl _, fun n _ h => by cases h⟩ (fun i σ H' _ ⟨_, _, sm, _⟩ => (stay_same sm).tup _ _ hq) (fun i x σ H' hx ⟨y2, eσ, sm, hno⟩ => ?_) (fun σ H' ⟨y2, eσ, sm, hno⟩ => ?_)
  · subst eσ
    obtain ⟨c, hc1, hc2⟩ := pairedAt hp hx
    have hcm := List.mem_of_getElem? hc1
    have hc3 := Cp.stay (stay_same sm) hc2
    obtain ⟨ax, ap, ak, am, rfl, qc, _⟩ := id hc3
    refine ⟨_, rfl, ax, _, 0, .str c.nm, rfl, rfl, qc, atI_nat (j := 0) rfl, _, rfl, ?_⟩
    rcases q with ⟨n, rfl, q1, q2⟩ | ⟨hns, q2⟩
    · refine ⟨c.nm, rfl, .inl ⟨n, rfl, _, rfl, ?_⟩⟩
      by_cases e : c.nm = n
      · rw [decide_eq_true e]
        exact iteE rfl ⟨_, rfl, q1 c (.ref ax) H' hcm e sm hc3⟩
      · rw [decide_eq_false e]
        refine iteN rfl ⟨_, rfl, sm, fun n' e' => ?_⟩
        cases e'
        rw [take_one' hc1, List.map_append]
        intro hm
        rcases List.mem_append.mp hm with z | z
        · exact hno _ rfl z
        · exact e (List.mem_singleton.mp z).symm
    · have hn1 := hns.same sm
      have step : ∀ H2, Same H H2 → ∃ y2, [some (V.ref a), some y, some (V.ref ax)] = [some (V.ref a), some y, y2] ∧ Same H H2 ∧ ∀ n, y = .str n → n ∉ (cs.take (i + 1)).map Cls.nm := fun H2 s2 => ⟨_, rfl, s2, fun n e => by
        subst e
        rcases hns with ⟨T, h1, h2, h3⟩ | ⟨a, d, fs, e, _⟩
        · cases h2
          exact absurd rfl h3
        · cases e⟩
      rcases hn1 with ⟨T, h1, h2, h3⟩ | ⟨a', d', fs, e, h⟩
      · exact ⟨c.nm, rfl, .inr (.inl ⟨T, h1, h2, h3, _, rfl, iteN rfl (step H' sm)⟩)⟩
      · exact ⟨c.nm, rfl, .inr (.inr ⟨a', d', fs, e, h, fun H2 s2 => ⟨_, rfl, iteN rfl (step H2 (sm.trans s2))⟩⟩)⟩
  · subst eσ
    rw [hxl, List.take_length] at hno
    rcases q with ⟨n, rfl, q1, q2⟩ | ⟨hns, q2⟩
    · exact q2 (hno n rfl) H' sm
    · exact q2 H' sm
end
end N

namespace N
open PySem PySem.Spec PyProof.Rows L2 StX
/-! ### signs(table) -/
/-- the signs, as they stand after n rounds -/
def itG (cs : List Cls) : Nat → Cls → Str → Str
  | 0 => fun _ _ => ""
  | n + 1 => signAt (voF cs (itG cs n))
def eqG (cs : List Cls) (f g : Cls → Str → Str) : Bool := cs.all fun c => c.ps.all fun p => decide (f c p.1 = g c p.1)
/-- the rounds end after n of them -/
structure FixAt (cs : List Cls) (n : Nat) : Prop where
  at_ : eqG cs (itG cs n) (itG cs (n + 1)) = true
  bf : ∀ k, k < n → eqG cs (itG cs k) (itG cs (k + 1)) = false
theorem itG_sg4 (cs : List Cls) (n : Nat) (c : Cls) (l : Str) : itG cs n c l ∈ sg4 := by
  cases n with
  | zero => show ("" : Str) ∈ sg4; decide
  | succ n => exact joinS_sg4 _
theorem sameAt_eq {cs : List Cls} (nd : (cs.map Cls.nm).Nodup) (ok : ∀ c ∈ cs, c.ok) (f g : Cls → Str → Str) : sameAt (tabG cs f) (tabG cs g) = eqG cs f g := by
  unfold sameAt eqG
  rw [Bool.eq_iff_iff, List.all_eq_true, List.all_eq_true]
  constructor
  · intro h c hc
    rw [List.all_eq_true]
    intro p hp
    have h1 := h (keyP c.nm p.1, g c p.1) (List.mem_flatMap.mpr ⟨c, hc, List.mem_map_of_mem (f := fun p => (keyP c.nm p.1, g c p.1)) hp⟩)
    have h2 := of_decide_eq_true h1
    dsimp only at h2
    rw [tabG_val nd ok hc hp] at h2
    exact decide_eq_true (Option.some.inj h2)
  · intro h q hq
    obtain ⟨c, hc, hq⟩ := List.mem_flatMap.mp hq
    obtain ⟨p, hp, rfl⟩ := List.mem_map.mp hq
    have h1 := List.all_eq_true.mp (h c hc) p hp
    refine decide_eq_true ?_
    rw [tabG_val nd ok hc hp, of_decide_eq_true h1]
def leKx (k k' : NestedKey) : Bool := PySem.W.dataLe false NestedKey.data k k'
theorem sort_fstx (ps : List (NestedKey × Addr)) : (ps.mergeSort leN).map Prod.fst = (ps.map Prod.fst).mergeSort leKx := List.map_mergeSort fun a _ b _ => rfl
/-- keys of texts -/
def IsTx (m : Nat) (k : NestedKey) : Prop := ∃ xs : List Str, xs.length = m ∧ k = .tup (xs.map .text)
theorem tx_datas : ∀ xs : List Str, NestedKey.datas (xs.map .text) = xs.map PyData.str
  | [] => rfl
  | x :: xs => by rw [List.map_cons, List.map_cons]; exact congrArg (PyData.str x :: ·) (tx_datas xs)
theorem tx_alikeAll : ∀ {xs ys : List Str}, PySem.W.alikeAll (xs.map PyData.str) (ys.map PyData.str) = true
  | [], [] => rfl
  | [], _ :: _ => rfl
  | _ :: _, [] => rfl
  | x :: xs, y :: ys => by
    have h := tx_alikeAll (xs := xs) (ys := ys)
    simp only [List.map_cons, PySem.W.alikeAll, PySem.W.alike]
    simpa using h
/-- a thing that is the tuple of these texts -/
def trD (xs : List Str) : PyData := .tuple (xs.map PyData.str)
theorem valN_someS {l : List (NestedKey × Str)} {k : NestedKey} (h : k ∈ l.map Prod.fst) : valN l k = some ((valN l k).getD "") := by
  obtain ⟨p, hp, e⟩ := List.mem_map.mp h
  unfold valN
  cases hv : l.find? fun p => decide (p.1 = k) with
  | none => exact absurd (decide_eq_true e) (by simpa using List.find?_eq_none.mp hv p hp)
  | some n => rfl
end N

namespace N
open PySem PySem.Spec PyProof.Rows L2
/-! ### defs that are called by the names of their parameters -/
def CalF (P : Program) (w : World) (K : PySem.W.Frag) (mg : Str → Option Value) (base : Heap) (k : Nat) (x : Str) (st : Stmt) (ps : List Str) (sp : Sp) : Prop :=
  ∃ (f : Addr) (fd : FuncData), mg x = some (.ref f) ∧ Fun K x x st f fd ∧ Binds K fd ps [] ∧ FnG P w K mg base (L2.CX P w) k f fd ps sp
def CalK (P : Program) (w : World) (K : PySem.W.Frag) (mg : Str → Option Value) (base : Heap) (k : Nat) (x : Str) (ps : List Str) (sp : Sp) : Prop :=
  ∃ (f : Addr) (fd : FuncData), mg x = some (.ref f) ∧ PySem.W.keepIn K (.ref f) = true ∧ (∀ ws : List Value, ws.length = ps.length → bindArgs fd ⟨[], ps.zip ws⟩ = pure (ps.zip ws)) ∧ FnG P w K mg base (L2.CX P w) k f fd ps sp
section
variable {P : Program} {w : World} {K : PySem.W.Frag} {mg : Str → Option Value} {base : Heap} {k : Nat} {x : Str} {ps N : List Str} {sp : Sp} {st : Stmt}
theorem CalF.cal (c : CalF P w K mg base k x st ps sp) : Cal P w K mg base k x ps sp := by
  obtain ⟨f, fd, a, F, b, g⟩ := c
  exact ⟨f, fd, a, F.kp, b, g⟩
theorem CalF.calK (c : CalF P w K mg base k x st ps sp) (h : ∀ (kV doc pm : Value) (an : Option Addr) (cdv ct : Value) (ws : List Value), ws.length = ps.length → bindArgs (PySem.W.fnOf x x (defArgs st) (defBody st) (defScope st) .none kV doc pm an cdv ct) ⟨[], ps.zip ws⟩ = pure (ps.zip ws)) : CalK P w K mg base k x ps sp := by
  obtain ⟨f, fd, a, F, b, g⟩ := c
  have kp := F.kp
  obtain ⟨oc, od, kV, doc, pm, an, cdv, ct, osl, rfl, _⟩ := F.ex
  exact ⟨f, _, a, kp, fun ws hl => h kV doc pm an cdv ct ws hl, g⟩
theorem DefAt.calF (D : DefAt K mg x st ps) (S : FnScope N ps (defScope st)) (len : ∀ vs H Q E, sp vs H Q E → vs.length = ps.length)
    (hbody : ∀ (f : Addr) (cdv : Value) (A : Around) (outer : List Env) (s : Shared) (H : Hp) (vs : List V) (Q : VK) (E : XK), RoomG k (A.deeper (envOfC x (defScope st) s.heap.objs.size f cdv)) → sp vs H Q E →
      ∃ t, PSs (cxOf (L2.CX P w) P w K mg base N x (defScope st) f cdv A outer s H E) (defBody st) t ∧ t { nx := fun _ H' => Q .non H', rt := Q } (start N vs) H) : CalF P w K mg base (k + 1) x st ps sp := by
  obtain ⟨f, fd, a, F, b⟩ := D
  exact ⟨f, fd, a, F, b, fnG_of F S len fun cdv A outer s H vs Q E hr h => hbody f cdv A outer s H vs Q E hr h⟩
end
section
variable {X : Cx} {k : Nat} {x : Str} {ps : List Str} {sp : Sp} {p pos : Pos} {kws : List Keyword} {tk : TA}
/-- f(x=e, ..), all by name, in the parameters' order -/
theorem pcK (c : CalK X.prog X.w X.K X.mg X.base k x ps sp) (hr : RoomG k X.A) (hg : Gl X x) (hkw : PK X kws tk) (hdb : (x == ("__debug__" : Str)) = false := by decide)
    (hall : (backToKw pos (keywordEach kws X.env)).all (·.1.isSome) = true := by rfl) (hks : (backToKw pos (keywordEach kws X.env)).filterMap (·.1) = ps := by rfl)
    (hpl : ((backTo pos (starEach [] X.env)).any (·.1) || (backToKw pos (keywordEach kws X.env)).any (·.1.isNone)) = false := by rfl) :
    PE X (.Call (.Name x p) [] kws pos) (fun σ H Q => tk σ H fun vs H1 => sp vs H1 Q E0) := by
  obtain ⟨f, fd, hm, hk, hb, F⟩ := c
  refine ⟨fun pins s σ H Q I h => wpAny_Call_Name_kw (ld_glob I hg hm ?_ hdb)⟩
  refine PySem.W.callWith_KW0 (h₀ := X.base) I.ok.mod.kin hk hall ?_ hpl
  refine thn (hkw.run pos pins s σ H _ I h) fun ws s2 ⟨vs, H2, J, r, q⟩ => ⟨J.kIn, ?_⟩
  rw [hks]
  have hl : ws.length = ps.length := by rw [← r.length]; exact F.len _ _ _ _ q
  refine wpAny_call (codeAny_mono (F.run X.A X.stack s2 H2 ⟨[], ps.zip ws⟩ ws vs Q E0 hr J.env0 (.of_eq (hb ws hl)) r q) fun res s' hq => ?_)
  match res, hq with
  | .error e, hq => exact passL pins σ H2 s2 e s' J hq
  | .ok (.ret u), hq => exact J.after hq
  | .ok .next, hq => exact False.elim hq
  | .ok .brk, hq => exact False.elim hq
  | .ok .cont, hq => exact False.elim hq
end
end N

namespace N
open PySem PySem.Spec PyProof.Rows L2 StX
theorem tx_srtb {m : Nat} {ps : List (NestedKey × Addr)} (h : ∀ p ∈ ps, IsTx (m + 1) p.1) : Srtb ps where
  a := fun d hd d' hd' => by
    obtain ⟨p, hp, rfl⟩ := List.mem_map.mp hd
    obtain ⟨p', hp', rfl⟩ := List.mem_map.mp hd'
    obtain ⟨xs, _, e⟩ := h p hp
    obtain ⟨ys, _, e'⟩ := h p' hp'
    rw [e, e']
    show PySem.W.alikeAll (NestedKey.datas _) (NestedKey.datas _) = true
    rw [tx_datas, tx_datas]
    exact tx_alikeAll
  s := .inl fun d hd => by
    obtain ⟨p, hp, rfl⟩ := List.mem_map.mp hd
    obtain ⟨xs, hl, e⟩ := h p hp
    rw [e]
    match xs, hl with
    | x :: xs, _ => exact ⟨_, _, rfl⟩
  d := fun p hp => by
    obtain ⟨xs, _, e⟩ := h p hp
    rw [e]
    have : ∀ ys : List Str, PyData.depthAll (ys.map PyData.str) ≤ 1 := by
      intro ys
      induction ys with
      | nil => simp [PyData.depthAll]
      | cons y ys ih => simp only [List.map_cons, PyData.depthAll, PyData.depth]; omega
    show PyData.depth (.tuple (NestedKey.datas _)) ≤ 20
    rw [tx_datas]
    have := this xs
    simp only [PyData.depth]
    omega
theorem nk_txs {K : PySem.W.Frag} {H : Hp} : ∀ {xs : List Str} {vs : List V}, NkAll K H vs (xs.map .text) → vs = xs.map V.str
  | [], _, h => by cases h; rfl
  | x :: xs, _, h => by
    cases h with
    | cons a b =>
      cases a
      rw [List.map_cons, nk_txs b]
theorem nk_tx {K : PySem.W.Frag} {H : Hp} {b : Addr} {xs : List Str} (h : NkV K H (.ref b) (.tup (xs.map .text))) : SqT K H b (xs.map V.str) := by
  cases h with
  | tup hs ha => rw [nk_txs ha] at hs; exact hs
theorem dp_txs {K : PySem.W.Frag} {H : Hp} : ∀ xs : List Str, DpAll K H (xs.map V.str) (xs.map PyData.str)
  | [] => .nil
  | x :: xs => .cons (.str x) (dp_txs xs)
/-- the tuple of these texts stands at v -/
def TxV (K : PySem.W.Frag) (H : Hp) (v : V) (xs : List Str) : Prop := ∃ b, v = .ref b ∧ SqT K H b (xs.map V.str)
theorem TxV.stay {K : PySem.W.Frag} {H H' : Hp} {v : V} {xs : List Str} (s : Stay K H H') (h : TxV K H v xs) : TxV K H' v xs := by
  obtain ⟨b, e, q⟩ := h
  exact ⟨b, e, s.tup _ _ q⟩
theorem txv_dps {K : PySem.W.Frag} {H : Hp} : ∀ {vs : List V} {rs : List (List Str)}, Paired (TxV K H) vs rs → DpAll K H vs (rs.map trD)
  | _, _, .nil => .nil
  | _, _, .cons ⟨b, e, q⟩ t => by
    subst e
    exact .cons (.tup q (dp_txs _)) (txv_dps t)
/-- what signs tells -/
def keyT : NestedKey → List Str
  | .tup [.text n, .text l] => [n, l]
  | _ => []
def sigK (cs : List Cls) : List NestedKey := (cs.flatMap keyL).mergeSort leKx
def sigR (cs : List Cls) (f : Cls → Str → Str) : List (List Str) := (sigK cs).map fun k => keyT k ++ [(valN (tabG cs f) k).getD ""]
theorem keyL_tx {cs : List Cls} {k : NestedKey} (h : k ∈ cs.flatMap keyL) : ∃ n l, k = keyP n l := by
  obtain ⟨c, _, hk⟩ := List.mem_flatMap.mp h
  obtain ⟨l, e⟩ := keyL_nm hk
  exact ⟨_, l, e⟩
theorem keyP_tx (n l : Str) : IsTx 2 (keyP n l) := ⟨[n, l], rfl, rfl⟩
/-- (one[0], letter), one at 3, letter at 4 -/
def tKey2 (K : PySem.W.Frag) : TE := fun σ H Q => ∃ (vc : V) (c : Cls) (l : Str), σ[3]? = some (some vc) ∧ Cp K H vc c ∧ σ[4]? = some (some (.str l)) ∧ ∀ t, H t = none → Q (.ref t) (upd H t (.tup [.str c.nm, .str l]))
/-- (name, letter, given[name, letter]), name at 6, letter at 4, given at 2 -/
def tTri (P : Program) (w : World) (K : PySem.W.Frag) : TE := fun σ H Q => ∃ (n l s : Str) (d : Addr) (g : List (NestedKey × Str)), σ[6]? = some (some (.str n)) ∧ σ[4]? = some (some (.str l)) ∧ σ[2]? = some (some (.ref d)) ∧ DN P w K H d (strV g) ∧ valN g (keyP n l) = some s ∧ ∀ H' t, Same H H' → SqT K H' t [.str n, .str l, .str s] → Q (.ref t) H'
section
variable {P : Program} {w : World} {K : PySem.W.Frag} {mg : Str → Option Value} {base : Heap} {C CN fc pc' : Addr}
def spChkx (K : PySem.W.Frag) (C : Addr) : Sp := fun vs H Q _ => ∃ (v : V) (cs : List Cls), vs = [v] ∧ TabAt K C H v cs ∧ Q .non H
theorem ok_chkx (G : Glo mg) (T : TabC K mg C) (TI : TabI K C) (ob : PySem.W.mroIn K C (.type "object") = some true) (X : ExcAt K mg "NoTable" CN) (D : DefAt K mg "check_table" s_check_table ["thing"]) : Cal P w K mg base 1 "check_table" ["thing"] (spChkx K C) := by
  refine D.cal sc_check_table (fun vs H Q E h => ?_) (fun f cdv A outer s H vs Q E hr h => ?_)
  · obtain ⟨v, cs, rfl, _⟩ := h
    rfl
  obtain ⟨v, cs, rfl, ⟨a, d, p, rfl, h1, hc⟩, q⟩ := h
  refine ⟨_, pss_one (ps_if (pt_not (pt_val (pe_isiO G.isinstance T.gl rfl rfl (pv 0)))) (pss_one (ps_raise rfl (takes_of rfl rfl rfl rfl) (pmk_own PySem.F.excBase_ValueError X.x X.g X.k (raises_own X.b X.t) rfl))) pss_nil), ?_⟩
  exact ⟨_, rfl, .ref a, .ref C, .ref C, _, true, rfl, .own C, .base (.ins h1 T.c TI.ca TI.cn TI.ct ob), TI.kitc, true, rfl, iteN rfl q⟩
theorem hu100x {k : Nat} {A : Around} (hr : RoomG k A) : A.units + 100 < cLine := by
  have := hr.toRoom.un
  omega
theorem hu80x {k : Nat} {A : Around} (hr : RoomG k A) : A.units + 80 < cLine := by
  have := hr.toRoom.un
  omega
theorem hu8x {k : Nat} {A : Around} (hr : RoomG k A) : A.units + 8 < cLine := by
  have := hr.toRoom.un
  omega
def spSigns (K : PySem.W.Frag) (C : Addr) : Sp := fun vs H Q _ => ∃ (a : Addr) (cs : List Cls) (n : Nat), vs = [.ref a] ∧ TabAt K C H (.ref a) cs ∧ FormsOk cs ∧ FitOk cs ∧ FixAt cs n ∧ ∀ H' p vs, Same H H' → SqT K H' p vs → Paired (TxV K H') vs (sigR cs (itG cs n)) → Q (.ref p) H'
theorem ok_signs (G : Glo mg) (hsrt : mg "sorted" = none) (T : TabC K mg C) (PC : PropOf K C "classes" pc' fc) (FC : FnS P w K mg base 1 fc (spTcls K C)) (CT : Cal P w K mg base 1 "check_table" ["thing"] (spChkx K C)) (CL : Cal P w K mg base 1 "letters_of" ["one"] (spLets K)) (CU : Cal P w K mg base 4 "signs_under" ["classes", "given"] (spUnder P w K))
    (D : DefAt K mg "signs" s_signs ["table"]) : CalF P w K mg base 5 "signs" s_signs ["table"] (spSigns K C) := by
  refine D.calF sc_signs (fun vs H Q E h => ?_) (fun f0 cdv A outer s H vs Q E hr h => ?_)
  · obtain ⟨a, cs, n, rfl, _⟩ := h
    rfl
  obtain ⟨a, cs, n, rfl, hT, F, Tf, Fx, q⟩ := h
  have n5 := F.n5
  have hr1 : RoomG 1 (A.deeper (envOfC "signs" (defScope s_signs) s.heap.objs.size f0 cdv)) := hr.mono (by decide)
  have hr2 : RoomG 2 (A.deeper (envOfC "signs" (defScope s_signs) s.heap.objs.size f0 cdv)) := hr.mono (by decide)
  have hun := hr.toRoom.un
  have kt2 := tabG_keys (fun _ _ => "") cs
  refine ⟨_, pss_cons (ps_expr (pc CT hr1 rfl (pa_cons (pv 0) pa_nil)))
    (pss_cons (ps_set (i := 1) sc_signs.nd rfl (by first | exact Or.inl rfl | exact Or.inr rfl) (pe_propS (pv 0) T.c PC FC hr2 rfl))
    (pss_cons (ps_set (i := 2) sc_signs.nd rfl (by first | exact Or.inl rfl | exact Or.inr rfl) (pe_dc2 (own := [("one", 3), ("letter", 4)]) (vs1 := [4]) (g := gName 3) (tt := tYes) (g1 := gName 4) (tt1 := tYes) (tk := tKey2 K) (tv := tC (.str "")) (wi1 := iList K (fun σ H Q => tCons (tVar 3) tNil σ H fun vs H1 => spLets K vs H1 Q E0)) (hu8x hr) rfl sc_signs.nd (pi_tup (pv 1)) (blkOk_by (N := nm_signs) (sc := defScope s_signs) (own := [("one", 3), ("letter", 4)]) (by decide +kernel)) (by decide)
        (fun _ _ _ _ _ => pg_name (i := 3) sc_signs.nd rfl (by first | exact Or.inl rfl | exact Or.inr rfl)) (fun _ _ _ _ _ => pts_nil) (fun _ _ _ _ _ => pi_list (pc CL hr1 rfl (pa_cons (pv 3) pa_nil)))
        (fun _ _ _ _ _ => pg_name (i := 4) sc_signs.nd rfl (by first | exact Or.inl rfl | exact Or.inr rfl)) (fun _ _ _ _ _ => pts_nil)
        (fun _ _ _ _ _ => peOf (pe_tup (pa_cons (pe_ix ix_tup (pv 3) pe_int (fun _ _ => rfl)) (pa_cons (pv 4) pa_nil))) (fun σ H Q z => ?_)) (fun _ _ _ _ _ => pe_str)))
    (pss_cons (ps_set (i := 5) sc_signs.nd rfl (by first | exact Or.inl rfl | exact Or.inr rfl) (pc CU hr rfl (pa_cons (pv 1) (pa_cons (pv 2) pa_nil))))
    (pss_cons (ps_while (passes_of rfl) (pt_cmpR (op_neDN (hu80x hr)) (pv 5) (pv 2) (nomark _))
      (pss_cons (ps_set (i := 2) sc_signs.nd rfl (by first | exact Or.inl rfl | exact Or.inr rfl) (pv 5))
      (pss_one (ps_set (i := 5) sc_signs.nd rfl (by first | exact Or.inl rfl | exact Or.inr rfl) (pc CU hr rfl (pa_cons (pv 1) (pa_cons (pv 2) pa_nil)))))))
    (pss_one (ps_ret (pe_callTy call_tuple_of (by rfl) G.tuple b_tuple (pa_cons (pe_lc (own := [("name", 6), ("letter", 4)]) (g := gTup K 2 (gCons (gName 6) (gCons (gName 4) gNil))) (tt := tYes) (te := tTri P w K) rfl sc_signs.nd (pi_list (pe_callB (call_sorted_dn rfl (hu100x hr)) (by rfl) hsrt (by decide +kernel) (pa_cons (pv 2) pa_nil))) (blkOk_by (N := nm_signs) (sc := defScope s_signs) (own := [("name", 6), ("letter", 4)]) (by decide +kernel))
      (fun _ _ _ _ _ => pg_tup (by rfl) (pgs_cons (pg_name (i := 6) sc_signs.nd rfl (by first | exact Or.inl rfl | exact Or.inr rfl)) (pgs_cons (pg_name (i := 4) sc_signs.nd rfl (by first | exact Or.inl rfl | exact Or.inr rfl)) pgs_nil))) (fun _ _ _ _ _ => pts_nil)
      (fun _ _ _ _ _ => peOf (pe_tup (pa_cons (pv 6) (pa_cons (pv 4) (pa_cons (pe_nget (hu9x hr) (pv 2) (pe_tup (pa_cons (pv 6) (pa_cons (pv 4) pa_nil))) (fun _ _ => rfl)) pa_nil)))) (fun σ H Q z => ?_))) pa_nil)))))))), ?_⟩
  · obtain ⟨vc, c, l, e3, ⟨ac, ap, ak, am, rfl, hqc, _⟩, e4, q⟩ := z
    exact ⟨_, e3, ac, _, 0, .str c.nm, rfl, rfl, hqc, atI_nat (j := 0) rfl, _, e4, by show 2 ≤ sizeLine; decide, fun t ht => q t ht⟩
  · obtain ⟨n, l, s, dd, g, e6, e4, e2, hd, hv, r⟩ := z
    refine ⟨_, e6, _, e4, _, e2, _, e6, _, e4, by show 2 ≤ sizeLine; decide, fun t ht => ?_⟩
    have s1 := same_new ht (.tup [V.str n, .str l])
    refine ⟨dd, t, strV g, keyP n l, .str s, rfl, rfl, hd.same s1, .tup (.inl (.inl upd_same)) (.cons (.str _) (.cons (.str _) .nil)), keyP_depth _ _, by rw [valN_strV, hv]; rfl, by show 3 ≤ sizeLine; decide, fun t2 ht2 => ?_⟩
    exact r _ t2 (s1.trans (same_new ht2 _)) (.inl (.inl upd_same))
  obtain ⟨a0, d0, p0, e0, hi, hcs⟩ := id hT
  cases e0
  refine ⟨_, rfl, .ref a, cs, rfl, hT, ?_⟩
  refine ⟨_, rfl, a, d0, _, rfl, hi, a, cs, rfl, hT, fun p hp => ?_⟩
  obtain ⟨xs, hq, hpx⟩ := id hp
  have xl : xs.length = cs.length := Paired.length hpx
  refine ⟨_, rfl, p, rfl, ⟨xs, hq⟩, fun D hD H0 e0 hd0 => ?_⟩
  refine ⟨fun i m H' => m + i = xs.length ∧ Same H H' ∧ (∃ φ, H' D = some (.ext φ)) ∧ DN P w K H' D (strV (tabG (cs.take i) fun _ _ => "")), ⟨xs.length, rfl, by rw [e0]; exact same_new hD _, ⟨_, by rw [e0]; exact upd_same⟩, hd0⟩, fun i m H1 ⟨em, s1, hφ1, hd1⟩ => ?_⟩
  have hq1 := (stay_same (K := K) s1).tup _ _ hq
  by_cases hlt : i < xs.length
  · refine .inr ⟨⟨xs, _, hq1, List.getElem?_eq_getElem hlt⟩, fun H' => Same H H' ∧ (∃ φ, H' D = some (.ext φ)) ∧ DN P w K H' D (strV (tabG (cs.take (i + 1)) fun _ _ => "")), fun H' p' => ⟨m - 1, by omega, by omega, p'⟩, fun x H2 y => ?_⟩
    obtain ⟨e, y⟩ := y
    subst e
    have hxi := y xs hq1
    obtain ⟨c, hc1, hc2⟩ := pairedAt hpx hxi
    have hcm := List.mem_of_getElem? hc1
    have ok := F.ok c hcm
    have p2 := ok.p2
    have tl := tabG_len (cs := cs.take i) (fun _ _ => "") fun e he => F.ok e (List.mem_of_mem_take he)
    rw [List.length_take] at tl
    refine ⟨rfl, ?_⟩
    unfold tYes
    dsimp only
    rw [if_pos rfl]
    refine ⟨x, rfl, x, c, rfl, hc2.stay (stay_same s1), ok, fun H3 l s3 hl => ?_⟩
    obtain ⟨φ1, hφ1⟩ := hφ1
    have hφ3 := s3 _ _ hφ1
    refine ⟨l, rfl, ⟨_, SqL.of hl⟩, ?_⟩
    show ∃ W1 : Nat → Nat → Hp → Prop, _
    refine ⟨fun j k H' => k + j = ((c.ps.map Prod.fst).map V.str).length ∧ Same H H' ∧ H' l = some (.lst ((c.ps.map Prod.fst).map V.str)) ∧ (∃ φ, H' D = some (.ext φ)) ∧ DN P w K H' D (strV (tabG (cs.take i) (fun _ _ => "") ++ (rowG (fun _ _ => "") c).take j)), ⟨_, rfl, s1.trans s3, hl, ⟨_, hφ3⟩, by rw [List.take_zero, List.append_nil]; exact hd1.same s3⟩, fun j k H4 ⟨ek, s4, hl4, hφ4, hd4⟩ => ?_⟩
    by_cases hj : j < ((c.ps.map Prod.fst).map V.str).length
    · refine .inr ⟨⟨_, _, SqL.of hl4, List.getElem?_eq_getElem hj⟩, fun H' => Same H H' ∧ H' l = some (.lst ((c.ps.map Prod.fst).map V.str)) ∧ (∃ φ, H' D = some (.ext φ)) ∧ DN P w K H' D (strV (tabG (cs.take i) (fun _ _ => "") ++ (rowG (fun _ _ => "") c).take (j + 1))), fun H' p' => ⟨k - 1, by omega, by omega, p'⟩, fun u H5 z => ?_⟩
      obtain ⟨e, z⟩ := z
      subst e
      have huj := z _ (SqL.of hl4)
      obtain ⟨pr, hpj, rfl⟩ : ∃ pr, c.ps[j]? = some pr ∧ u = .str pr.1 := by
        rw [List.getElem?_map, List.getElem?_map] at huj
        cases hq : c.ps[j]? with
        | none => rw [hq] at huj; cases huj
        | some pr => rw [hq] at huj; exact ⟨pr, rfl, (Option.some.inj huj).symm⟩
      refine ⟨rfl, ?_⟩
      rw [if_pos rfl]
      refine ⟨x, c, pr.1, rfl, hc2.stay (stay_same s4), rfl, fun t ht => ?_⟩
      have st := same_new ht (.tup [.str c.nm, .str pr.1])
      obtain ⟨φ4, hφ4⟩ := hφ4
      have hlD : l ≠ D := fun z => by rw [z, hφ4] at hl4; cases hl4
      refine ⟨t, _, keyP c.nm pr.1, rfl, hd4.same st, ?_, .tup (.inl (.inl upd_same)) (.cons (.str _) (.cons (.str _) .nil)), keyP_depth _ _, fun H9 e9 ⟨φ9, hφ9⟩ hd9 => ?_⟩
      · unfold strV
        rw [List.length_map, List.length_append]
        have h2 : ((rowG (fun _ _ => "") c).take j).length ≤ j := by rw [List.length_take]; omega
        rw [List.length_map, List.length_map] at hj
        exact Nat.lt_of_le_of_lt (show _ ≤ 100000 by omega) (by decide)
      have frk : keyP c.nm pr.1 ∉ (strV (tabG (cs.take i) (fun _ _ => "") ++ (rowG (fun _ _ => "") c).take j)).map Prod.fst := by
        rw [strV_keys, List.map_append, List.mem_append, not_or]
        exact ⟨by rw [tabG_keys]; exact keyL_fresh F.nd hc1 pr.1, row_fresh ok.pd hpj _⟩
      rw [putN_new frk] at hd9
      have er : (rowG (fun _ _ => "") c)[j]? = some (keyP c.nm pr.1, ("" : Str)) := by
        unfold rowG
        rw [List.getElem?_map, hpj]
        rfl
      have s9 : Same H H9 := fun b o e => by
        have nb : b ≠ D := fun z => by rw [z, hD] at e; cases e
        rw [e9 b nb]
        exact st _ _ (s4 _ _ e)
      refine ⟨s9, by rw [e9 _ hlD]; exact st _ _ hl4, ⟨_, hφ9⟩, ?_⟩
      rw [take_snoc er, ← List.append_assoc, strV_app]
      exact hd9
    · refine .inl ⟨⟨_, SqL.of hl4, by omega⟩, s4, hφ4, ?_⟩
      have e3 : (rowG (fun _ _ => "") c).take j = rowG (fun _ _ => "") c := List.take_of_length_le (by
        unfold rowG
        rw [List.length_map] at hj ⊢
        rw [List.length_map] at hj
        omega)
      rw [e3] at hd4
      rw [take_snoc hc1]
      unfold tabG
      rw [List.flatMap_append, List.flatMap_singleton]
      exact hd4
  refine .inl ⟨⟨xs, hq1, by omega⟩, ?_⟩
  have ei : i = cs.length := by omega
  rw [ei, List.take_length] at hd1
  have hd1 : DN P w K H1 D (strV (tabG cs (itG cs 0))) := hd1
  refine ⟨_, rfl, _, rfl, p, D, cs, itG cs 0, rfl, hp.stay (stay_same s1), F, Tf, hd1, fun c _ p _ => itG_sg4 cs 0 c p.1, fun p2 H2 s2 hp2 hd2 => ?_⟩
  refine ⟨fun m σ H' => ∃ k dg dn, m = n - k ∧ k ≤ n ∧ σ = [some (.ref a), some (.ref p), some (.ref dg), none, none, some (.ref dn), none] ∧ Same H H' ∧ DN P w K H' dg (strV (tabG cs (itG cs k))) ∧ DN P w K H' dn (strV (tabG cs (itG cs (k + 1)))), ⟨_, 0, D, p2, rfl, Nat.zero_le _, rfl, s1.trans s2, hd1.same s2, hd2⟩, fun m σ H3 hW => ?_⟩
  obtain ⟨k, dg, dn, rfl, hk, rfl, s3, hdg, hdn⟩ := hW
  refine ⟨_, rfl, _, rfl, dn, dg, tabG cs (itG cs (k + 1)), tabG cs (itG cs k), rfl, rfl, hdn, hdg, by rw [tabG_keys, tabG_keys], by rw [tabG_keys]; exact keys_nd F.nd F.ok, _, rfl, ?_⟩
  rw [sameAt_eq F.nd F.ok]
  by_cases hkn : k = n
  · subst hkn
    refine iteN (by rw [Fx.at_]; rfl) ?_
    refine ⟨_, rfl, dg, _, rfl, hdg, fun ps hps hfst => ?_⟩
    have hkeys : ps.map Prod.fst = cs.flatMap keyL := by rw [hfst, strV_keys, tabG_keys]
    refine ⟨tx_srtb (m := 1) fun r hr => ?_, fun sl hsl => ?_⟩
    · have : r.1 ∈ cs.flatMap keyL := by rw [← hkeys]; exact List.mem_map_of_mem hr
      obtain ⟨n', l', e⟩ := keyL_tx this
      rw [e]
      exact keyP_tx n' l'
    have s4 := same_new hsl (.lst (psV (ps.mergeSort leN)))
    generalize hL : ps.mergeSort leN = L at s4 hsl
    have eL : L.map Prod.fst = sigK cs := by rw [← hL, sort_fstx, hkeys]; rfl
    have hLm : ∀ r ∈ L, NkV K H3 (.ref r.2) r.1 ∧ r.1.depth ≤ 8 := fun r hr => hps r (by rw [← hL] at hr; exact List.mem_mergeSort.mp hr)
    have hsl4 : (upd H3 sl (.lst (psV L))) sl = some (.lst (psV L)) := upd_same
    generalize upd H3 sl (.lst (psV L)) = H4 at s4 hsl4
    have tl := tabG_len (cs := cs) (itG cs k) F.ok
    have hLl : L.length ≤ 10 := by
      have h1 := congrArg List.length eL
      have h2 := congrArg List.length (tabG_keys (itG cs k) cs)
      unfold sigK at h1
      rw [List.length_map, List.length_mergeSort] at h1
      rw [List.length_map] at h2
      omega
    refine ⟨sl, rfl, ⟨_, SqL.of hsl4⟩, fun B hB => ?_⟩
    refine lc_list (K := K) (a := sl) (xs := psV L) (fun i H' => ∃ acc, Same H4 H' ∧ H' B = some (.lst acc) ∧ Paired (TxV K H') acc ((sigR cs (itG cs k)).take i)) ⟨[], same_new hB _, upd_same, .nil⟩ (fun i H' _ ⟨acc, sm, _⟩ => sm.seq (SqL.of hsl4)) (fun i x H5 hx ⟨acc, sm, hacc, hpa⟩ => ?_) (fun H5 ⟨acc, sm, hacc, hpa⟩ => ?_)
    · obtain ⟨⟨k0, ad⟩, hr, rfl⟩ : ∃ r, L[i]? = some r ∧ x = V.ref r.2 := by
        unfold psV at hx
        rw [List.getElem?_map] at hx
        cases hq : L[i]? with
        | none => rw [hq] at hx; cases hx
        | some r => rw [hq] at hx; exact ⟨r, rfl, (Option.some.inj hx).symm⟩
      have hrm := List.mem_of_getElem? hr
      have hil : i < L.length := (List.getElem?_eq_some_iff.mp hr).1
      obtain ⟨hnk, h8⟩ := hLm _ hrm
      dsimp only at hnk h8
      have hkey : k0 ∈ cs.flatMap keyL := by
        have : k0 ∈ L.map Prod.fst := List.mem_map_of_mem hrm
        rw [eL] at this
        exact List.mem_mergeSort.mp this
      obtain ⟨n', l', rfl⟩ := keyL_tx hkey
      have hos : (sigR cs (itG cs k))[i]? = some [n', l', (valN (tabG cs (itG cs k)) (keyP n' l')).getD ""] := by
        unfold sigR
        rw [← eL, List.map_map, List.getElem?_map, hr]
        rfl
      have hval := valN_someS (l := tabG cs (itG cs k)) (k := keyP n' l') (by rw [tabG_keys]; exact hkey)
      have st5 := (stay_same (K := K) s4).trans (stay_same sm)
      have hsq := st5.tup _ _ (nk_tx (xs := [n', l']) hnk)
      have hal := Paired.length hpa
      rw [List.length_take] at hal
      refine ⟨ad, _, rfl, hsq, rfl, .str n', [.str l'], rfl, .str l', [], rfl, rfl, rfl, ?_⟩
      unfold tYes
      dsimp only
      rw [if_pos rfl]
      refine ⟨n', l', _, dg, tabG cs (itG cs k), rfl, rfl, rfl, hdg.same (s4.trans sm), hval, fun H6 t s6 ht => ?_⟩
      have hacc6 := s6 _ _ hacc
      refine ⟨acc, hacc6, Nat.lt_of_le_of_lt (show _ ≤ 100000 by omega) (by decide), acc ++ [.ref t], same_mut (sm.trans s6) hB, upd_same, ?_⟩
      rw [take_snoc hos]
      exact pairs_app (Paired.mapP hpa fun _ _ z => z.stay ((stay_same s6).trans (stay_lst hacc6))) (.cons ⟨t, rfl, (stay_lst hacc6).tup _ _ ht⟩ .nil)
    · have hLs : (psV L).length = (sigR cs (itG cs k)).length := by
        have := congrArg List.length eL
        rw [List.length_map] at this
        unfold psV sigR
        rw [List.length_map, List.length_map, this]
      rw [hLs, List.take_length] at hpa
      exact ⟨B, acc, rfl, .inl ⟨SqL.of hacc, fun l hl => q _ l acc (s3.trans (s4.trans (sm.trans (same_new hl _)))) (.inl (.inl upd_same)) (Paired.mapP hpa fun _ _ z => z.stay (stay_same (same_new hl _)))⟩⟩
  · refine iteE (by rw [Fx.bf k (by omega)]; rfl) ?_
    refine ⟨fun σ2 H2 => ∃ k2 dg dn, n - k2 < n - k ∧ k2 ≤ n ∧ σ2 = [some (.ref a), some (.ref p), some (.ref dg), none, none, some (.ref dn), none] ∧ Same H H2 ∧ DN P w K H2 dg (strV (tabG cs (itG cs k2))) ∧ DN P w K H2 dn (strV (tabG cs (itG cs (k2 + 1)))), fun σ2 H2 ⟨k2, dg, dn, h1, h2⟩ => ⟨_, h1, k2, dg, dn, rfl, h2⟩, ?_⟩
    refine ⟨_, rfl, ?_⟩
    refine ⟨_, rfl, _, rfl, p, dn, cs, itG cs (k + 1), rfl, hp.stay (stay_same s3), F, Tf, hdn, fun c _ p _ => itG_sg4 cs (k + 1) c p.1, fun p3 H4 s4 hp3 hd4 => ?_⟩
    exact ⟨k + 1, dn, p3, by omega, by omega, rfl, s3.trans s4, hdn.same s4, hd4⟩
end
end N

namespace N
open PySem PySem.Spec PyProof.Rows L2 LamX NdefX
/-! ### lambdas with parameters and captured names -/
/-- the words of a lambda; its expression stands beside -/
def lamF (q : Str) (params : Arguments) (scope : Scope) (cl : List (Str × Addr)) (c : Addr) : NF := ⟨"<lambda>", q, params, [], scope, cl, c⟩
/-- at f stands the lambda -/
def LamO (f : Addr) (F : NF) (body : Expr) : HO := .ext fun h => ∃ pm ctv : Value, h.get? f = some (PySem.W.kla_obj F.name F.qual F.params body F.scope F.cl pm F.c ctv)
theorem lamO_at {P : Program} {w : World} {H : Hp} {h : Heap} {f : Addr} {F : NF} {body : Expr} (hok : HOk P w H h) (e : H f = some (LamO f F body)) : ∃ pm ctv : Value, h.get? f = some (PySem.W.kla_obj F.name F.qual F.params body F.scope F.cl pm F.c ctv) := (hok f _ e).1
theorem lamO_ne {f : Addr} {F : NF} {body : Expr} (ps : Array Value) : LamO f F body ≠ .tbl ps := fun z => by
  unfold LamO at z
  cases z
section
variable {X : Cx} {pins : List (Addr × Obj)} {σ : L2.St} {H : Hp} {s : Shared}
theorem tabS_more {H : Hp} {P c : Addr} {q : Str} {ps : Array Value} {pos : Pos} (hP : H P = some (.tbl ps)) (ht : TriplesOk ps.toList) (ha : ∀ (p' : Pos) (cv : Value), codeAmong p' ps.toList = some cv → ∃ c0, cv = .ref c0 ∧ H c0 = some (CodeO c0 q)) (hc : H c = none) :
    TabS (upd (upd H P (.tbl (ps ++ #[rawInt pos.line, rawInt pos.col, .ref c]))) c (CodeO c q)) P q := by
  have hne : P ≠ c := ne_of_none hP hc
  have el : (ps ++ #[rawInt pos.line, rawInt pos.col, .ref c]).toList = ps.toList ++ [rawInt pos.line, rawInt pos.col, .ref c] := by simp
  refine ⟨_, (by rw [upd_ne hne]; exact upd_same), by rw [el]; exact PySem.TriplesOk_snoc _ _ _ _ ht, ?_⟩
  intro p' cv hv
  rw [el] at hv
  rcases among_app _ ht hv with y | y
  · obtain ⟨c0, y1, y2⟩ := ha p' cv y
    have n1 : c0 ≠ c := ne_of_none y2 hc
    have n2 : c0 ≠ P := fun z => by
      rw [z, hP] at y2
      exact codeO_ne ps (Option.some.inj y2).symm
    exact ⟨c0, y1, by rw [upd_ne n1, upd_ne n2]; exact y2⟩
  · exact ⟨c, y, upd_same⟩
/-- a lambda is made; it is known from now on -/
theorem lam_new {c P : Addr} {params : Arguments} {body : Expr} {scope : Scope} {pos : Pos} {E : Value → Shared → Prop} {Q : Value → Shared → Prop} (I : Inv X pins σ H s) (TB : TabB X.base X.mg c P) (hcode : X.env.code = .ref c) (hT : TabS H P (X.env.qual ++ "<lambda>"))
    (hdef : defaultsOf params X.env = ([], [])) (hfree : ∀ y ∈ scope.names, y.2 = .free → ∃ c, X.env.cells.lookup y.1 = some c)
    (h : ∀ (f c' : Addr) (H1 : Hp) (s' : Shared), Inv X pins σ H1 s' → ExtN H H1 → TabS H1 P (X.env.qual ++ "<lambda>") → (∀ b, H1 b = none → H b = none) → H f = none → H1 f = some (LamO f (lamF (X.env.qual ++ "<lambda>") params scope (cloFrom X.env.cells scope.names []) c') body) → H1 c' = some (CodeO c' (X.env.qual ++ "<lambda>")) → Q (.ref f) s') :
    wpAny (model X.prog X.w) X.A (eval (.Lambda params body scope pos) X.env) Q E s := by
  obtain ⟨ps, hP, ht, ha⟩ := hT
  apply PySem.W.kla_eval hdef
  have hb : s.heap.BuiltinsAt X.mg P := TB.bm.keeps I.bk
  have tP : s.heap.get? P = some { cls := .none, data := .fields ps } := I.hok P _ hP
  -- the function object itself
  have fin : ∀ (h' : Heap) (tk : Nat) (c' : Addr) (ctv : Value) (H1 : Hp), Inv X pins σ H1 { s with heap := h', toks := tk } → ExtN H H1 → TabS H1 P (X.env.qual ++ "<lambda>") → (∀ b, H1 b = none → H b = none) → H1 c' = some (CodeO c' (X.env.qual ++ "<lambda>")) →
      Q (.ref h'.objs.size) { s with heap := h'.push (PySem.W.kla_obj "<lambda>" (X.env.qual ++ "<lambda>") params body scope (cloFrom X.env.cells scope.names []) ((X.mg "__name__").getD .none) c' ctv), toks := tk } := by
    intro h' tk c' ctv H1 J e1 T1 n1 k1
    have nf : H1 h'.objs.size = none := J.hok.fresh (Nat.le_refl _)
    have here : (h'.push (PySem.W.kla_obj "<lambda>" (X.env.qual ++ "<lambda>") params body scope (cloFrom X.env.cells scope.names []) ((X.mg "__name__").getD .none) c' ctv)).get? h'.objs.size = some _ := Heap.get?_push_size _ rfl
    have J2 := J.laid (t' := tk) (a := h'.objs.size) (o := LamO h'.objs.size (lamF (X.env.qual ++ "<lambda>") params scope (cloFrom X.env.cells scope.names []) c') body) (fun b u e => Heap.get?_push_of_some _ e) (Nat.le_refl _)
      ⟨⟨_, _, here⟩, ⟨_, here⟩, fun h1 h2 y st => by obtain ⟨a, b, z⟩ := y; exact ⟨a, b, st _ z⟩⟩
    have sm := same_new nf (LamO h'.objs.size (lamF (X.env.qual ++ "<lambda>") params scope (cloFrom X.env.cells scope.names []) c') body)
    exact h _ c' _ _ J2 (e1.trans (ExtN.of sm)) (T1.ext sm) (fun b z => n1 b (sm.free z)) (n1 _ nf) upd_same (sm _ _ k1)
  cases hc : codeAmong pos ps.toList with
  | some cv =>
    obtain ⟨c', ec, hco⟩ := ha pos cv hc
    subst ec
    refine PySem.W.kla_makeFunctionHit (closure_ok hfree) I.ok.glob (I.mod.glob.keeps I.bk) hcode (TB.code.keeps I.bk) tP ht hc hb (fun ctv h' tk kx _ => ?_)
    exact fin h' tk c' ctv H (I.kept kx) (ExtN.refl H) ⟨ps, hP, ht, ha⟩ (fun b z => z) hco
  | none =>
    refine PySem.W.kla_makeFunction (closure_ok hfree) I.ok.glob (I.mod.glob.keeps I.bk) hcode (TB.code.keeps I.bk) tP ht hc TB.gP hb (fun c' ctv h' tk kx hge hlt hrec htb => ?_)
    obtain ⟨c2, oc, vs, t, e2, y1, y2, y3⟩ := hrec
    cases e2
    have nc : H c' = none := I.hok.fresh hge
    have J := inv_table (t' := tk) (more := #[rawInt pos.line, rawInt pos.col, .ref c']) (h' := h') (q := X.env.qual ++ "<lambda>") I hP (fun b o n e => kx b o n e) htb hge ⟨oc, vs, t, y1, y2, y3⟩
    refine fin h' tk c' ctv _ J (fun b o e n => ?_) (tabS_more hP ht ha nc) (fun b z => upd_none (upd_none z)) upd_same
    rw [upd_ne (ne_of_none e nc), upd_ne (fun z => n ps (Option.some.inj (e.symm.trans (by rw [z]; exact hP))))]
    exact e
/-- what the cells held at the entry they hold -/
theorem cells_later {cl : List (Str × Addr)} {fr : List Str} {ws : List (Option V)} (C : CellsAt cl fr ws X.s_0.heap X.H_0) (hx : X.ex = []) (I : Inv X pins σ H s) : CellsAt cl fr ws s.heap H := by
  have kp : ∀ y c, cl.lookup y = some c → ∀ v, X.s_0.heap.IsCell c v → s.heap.IsCell c v := fun y c e v z => by
    obtain ⟨o, ho, hd⟩ := z
    obtain ⟨sl, z2⟩ := I.base.any ho (C.all y c e).1 (by rw [hx]; simp)
    exact ⟨_, z2, hd⟩
  refine ⟨C.len, fun y c e => ?_, C.inj, fun i y e => ?_⟩
  · obtain ⟨n, v, z⟩ := C.all y c e
    have z0 := z
    obtain ⟨o, ho, _⟩ := z0
    exact ⟨I.base.free c o ho n (by rw [hx]; simp), v, kp y c e _ z⟩
  · obtain ⟨c, e1, e2⟩ := C.has i y e
    exact ⟨c, e1, fun v ev => (e2 v ev).imp fun u r => ⟨r.1, kp y c e1 _ r.2⟩⟩
end
section
variable {P : Program} {w : World} {K : PySem.W.Frag} {mg : Str → Option Value} {base : Heap} {N ps fr : List Str} {F : NF} {f : Addr} {k : Nat} {body : Expr} {tb : TE}
/-- a lambda called -/
theorem run_lam (S : NScope N ps fr F.scope) (hb : ∀ (pm ctv : Value) (us : List Value), us.length = ps.length → bindArgs (PySem.W.kla_fn F.name F.qual F.params body F.scope F.cl pm (.ref F.c) ctv) ⟨us, []⟩ = pure (ps.zip us))
    {A : Around} {outer : List Env} {s : Shared} {H : Hp} {us : List Value} {vs : List V} {ws : List (Option V)} {Q : VK}
    (hbody : ∀ (s : Shared) (H : Hp), PE (ncx (L2.CX P w) P w K mg base N F f A outer s H E0) body tb)
    (hr : RoomG (k + 1) A) (e0 : Env0 P w K mg base A outer s H) (hf : H f = some (LamO f F body)) (hc : H F.c = some (CodeO F.c F.qual)) (C : CellsAt F.cl fr ws s.heap H) (r : Vals vs us) (hl : vs.length = ps.length) (q : tb (startF N vs ws) H Q) :
    codeAny (model P w) A (.call (.ref f) ⟨us, []⟩) (CR (L2.CX P w) outer P w H s Q E0) s := by
  have lim : s.heap.NoLimit := e0.mod.nolimit.keeps fun b o e => (e0.bs b o e).1
  obtain ⟨pm, ctv, ho⟩ := lamO_at e0.hok hf
  refine PySem.W.kla_callFunE hr.toRoom.depth ho rfl S.co S.gen rfl (codeO_at e0.hok hc) ?_
  rw [hb pm ctv us (by rw [← r.length]; exact hl)]
  refine wpAny_pure (wpAny_newFunctionEnv S.nocell (fun y hy => S.par y.1 (List.of_mem_zip (show (y.1, y.2) ∈ ps.zip us from hy)).1) (fun h1 hns hsb => ⟨lim.fresh _ hsb, ?_⟩) S.kind)
  show codeAny _ _ (.expr body (envF F f s.heap.objs.size)) _ _
  have kp : ∀ b o, s.heap.get? b = some o → h1.get? b = some o := fun b o e => hsb.extBut b o (Nat.ne_of_lt (Heap.lt_size e)) (Heap.get?_push_of_some _ e)
  have J : Inv (ncx (L2.CX P w) P w K mg base N F f A outer s H E0) [] (startF N vs ws) H { s with heap := h1, toks := s.toks + (ps.zip us).length } := inv_startN S hr.toRoom.hd e0 hl r C hns kp
  refine PySem.W.kla_codeExpr (wpAny_mono ((hbody s H).run [] _ _ H Q J q) (fun v s' z => ?_) fun e s' z => z)
  obtain ⟨v', H', J', rv, z2⟩ := z
  exact ⟨v', H', J'.os, J'.bare, J'.base, J'.hok, rv, z2⟩
end
section
variable {Z : Cx} {Nm ps fr : List Str} {F : NF} {f : Addr} {k i : Nat} {body : Expr} {tb : TE} {ws : List (Option V)} {G : List V → Hp → VK → Prop} {a : Str} {e : Expr} {es : List Expr} {t : TA} {p1 p2 : Pos}
theorem pe_actL (S : NScope Nm ps fr F.scope) (hb : ∀ (pm ctv : Value) (us : List Value), us.length = ps.length → bindArgs (PySem.W.kla_fn F.name F.qual F.params body F.scope F.cl pm (.ref F.c) ctv) ⟨us, []⟩ = pure (ps.zip us))
    (hbody : ∀ (s : Shared) (H : Hp), PE (ncx (L2.CX Z.prog Z.w) Z.prog Z.w Z.K Z.mg Z.base Nm F f Z.A Z.stack s H E0) body tb) (hr : RoomG (k + 1) Z.A) (C : CellsAt F.cl fr ws Z.s_0.heap Z.H_0) (hx : Z.ex = []) (hG : ∀ vs H1 Q, G vs H1 Q → H1 f = some (LamO f F body) ∧ H1 F.c = some (CodeO F.c F.qual) ∧ vs.length = ps.length ∧ tb (startF Nm vs ws) H1 Q)
    (hN : Z.N[i]? = some a) (hv : Vis Z.env.scope a) (ha : PA Z (e :: es) t) (hd : (a == ("__debug__" : Str)) = false := by decide) (hcd : (a == ("__classdict__" : Str)) = false := by decide)
    (he : starEach (e :: es) Z.env = (false, eval e Z.env) :: starEach es Z.env := by rfl) (hpl : (backTo p2 (starEach es Z.env)).any (·.1) = false := by rfl) :
    PE Z (.Call (.Name a p1) (e :: es) [] p2) (fun σ H Q => σ[i]? = some (some (.ref f)) ∧ H f = some (LamO f F body) ∧ t σ H fun vs H1 => G vs H1 Q) := by
  refine ⟨fun pins s σ H Q I h => ?_⟩
  obtain ⟨hs, hf, ht⟩ := h
  refine wpAny_Call_Name_kw (thn ((pe_var (pos := p1) hN hv hd hcd).run pins s σ H (fun v H1 => v = .ref f ∧ H1 = H) I ⟨.ref f, hs, rfl, rfl⟩) fun u s1 z => ?_)
  obtain ⟨v, H1, J, r1, ev, eH⟩ := z
  subst ev
  rw [eH] at J
  obtain rfl : u = Value.ref f := r1
  have fnAt : ∀ {s : Shared} {H : Hp} {pins : List (Addr × Obj)} {σ : L2.St}, Inv Z pins σ H s → H f = some (LamO f F body) → PySem.W.FnAt f s.heap := fun I e => by
    obtain ⟨pm, ctv, ho⟩ := lamO_at I.hok e
    exact ⟨_, _, _, _, ho⟩
  refine PySem.W.callWith_F (first := []) (fnAt J hf) (thn (ha.run p2 pins s1 σ H _ J ht) fun us s2 z => ?_) he hpl
  obtain ⟨vs, H2, J2, r, gg⟩ := z
  obtain ⟨q1, q2, q3, q4⟩ := hG vs H2 Q gg
  refine ⟨fnAt J2 q1, ?_⟩
  show wpAny _ _ (call (.ref f) us) _ _ _
  refine wpAny_call (codeAny_mono (run_lam S hb hbody hr J2.env0 q1 q2 (cells_later C hx J2) r q3 q4) fun res s' hq => ?_)
  match res, hq with
  | .error e, hq => exact passL pins σ H2 s2 e s' J2 hq
  | .ok (.ret u), hq => exact J2.after hq
  | .ok .next, hq => exact False.elim hq
  | .ok .brk, hq => exact False.elim hq
  | .ok .cont, hq => exact False.elim hq
end
end N

namespace N
open PySem PySem.Spec PyProof.Rows L2 LamX NdefX
/-! ### values that are called, by what they do -/
/-- at f stands a lambda that does spL, its cells being as they are in the heap h -/
def ActL (P : Program) (w : World) (K : PySem.W.Frag) (mg : Str → Option Value) (base : Heap) (f : Addr) (h : Heap) (H : Hp) (spL : List V → Hp → VK → Prop) : Prop :=
  ∃ (F : NF) (body : Expr) (Nm ps fr : List Str) (ws : List (Option V)) (tb : TE), NScope Nm ps fr F.scope ∧
    (∀ (pm ctv : Value) (us : List Value), us.length = ps.length → bindArgs (PySem.W.kla_fn F.name F.qual F.params body F.scope F.cl pm (.ref F.c) ctv) ⟨us, []⟩ = pure (ps.zip us)) ∧
    (∀ (A : Around) (outer : List Env) (s : Shared) (H : Hp), RoomG 0 (A.deeper (envF F f s.heap.objs.size)) → PE (ncx (L2.CX P w) P w K mg base Nm F f A outer s H E0) body tb) ∧ CellsAt F.cl fr ws h H ∧
    H f = some (LamO f F body) ∧ H F.c = some (CodeO F.c F.qual) ∧ ∀ vs H' Q, spL vs H' Q → vs.length = ps.length ∧ tb (startF Nm vs ws) H' Q
section
variable {Z : Cx} {f : Addr} {i : Nat} {a : Str} {e : Expr} {es : List Expr} {t : TA} {p1 p2 : Pos} {spL : List V → Hp → VK → Prop}
theorem pe_actS (L : ActL Z.prog Z.w Z.K Z.mg Z.base f Z.s_0.heap Z.H_0 spL) (hr : RoomG 1 Z.A) (hx : Z.ex = [])
    (hN : Z.N[i]? = some a) (hv : Vis Z.env.scope a) (ha : PA Z (e :: es) t) (hd : (a == ("__debug__" : Str)) = false := by decide) (hcd : (a == ("__classdict__" : Str)) = false := by decide)
    (he : starEach (e :: es) Z.env = (false, eval e Z.env) :: starEach es Z.env := by rfl) (hpl : (backTo p2 (starEach es Z.env)).any (·.1) = false := by rfl) :
    PE Z (.Call (.Name a p1) (e :: es) [] p2) (fun σ H Q => σ[i]? = some (some (.ref f)) ∧ Same Z.H_0 H ∧ t σ H fun vs H1 => Same Z.H_0 H1 ∧ spL vs H1 Q) := by
  obtain ⟨F, body, Nm, ps, fr, ws, tb, S, hb, hbody, C, h1, h2, hsp⟩ := L
  have q := pe_actL (Z := Z) (i := i) (f := f) (k := 0) (p1 := p1) (G := fun vs H1 Q => Same Z.H_0 H1 ∧ spL vs H1 Q) S hb (fun s H => hbody Z.A Z.stack s H (hr.deeper _)) hr C hx (fun vs H1 Q z => ⟨z.1 _ _ h1, z.1 _ _ h2, hsp vs H1 Q z.2⟩) hN hv ha hd hcd he hpl
  refine ⟨fun pins s σ H Q I h => ?_⟩
  obtain ⟨g1, g2, g3⟩ := h
  exact q.run pins s σ H Q I ⟨g1, g2 _ _ h1, g3⟩
end
end N

namespace N
open PySem PySem.Spec PyProof.Rows L2 LamX NdefX
section
variable {X : Cx} {k : Nat} {x : Str} {st : Stmt} {ps Ng : List Str} {p pos : Pos} {e : Expr} {es : List Expr} {t : TA}
/-- lambda ..: .. as a value -/
theorem pe_lamT {c P : Addr} {params : Arguments} {body : Expr} {scope : Scope} (TB : TabB X.base X.mg c P) (hcode : X.env.code = .ref c) (hdef : defaultsOf params X.env = ([], []) := by rfl)
    (fre : ∀ y ∈ scope.names, y.2 = .free → X.env.scope.names.lookup y.1 = some .cell ∨ X.env.scope.names.lookup y.1 = some .free := by decide +kernel) :
    PE X (.Lambda params body scope pos) (fun σ H Q => TabS H P (X.env.qual ++ "<lambda>") ∧ ∀ (f c' : Addr) (H1 : Hp), ExtN H H1 → TabS H1 P (X.env.qual ++ "<lambda>") → (∀ b, H1 b = none → H b = none) → H f = none →
      H1 f = some (LamO f (lamF (X.env.qual ++ "<lambda>") params scope (cloFrom X.env.cells scope.names []) c') body) → H1 c' = some (CodeO c' (X.env.qual ++ "<lambda>")) → Q (.ref f) H1) := by
  refine ⟨fun pins s σ H Q I h => ?_⟩
  obtain ⟨hT, h⟩ := h
  refine lam_new I TB hcode hT hdef (fun y hy ey => (fre y hy ey).elim (fun z => I.ok.has _ (.inl z)) fun z => I.ok.has _ (.inr z)) (fun f c' H1 s' J g1 g2 g3 g4 g5 g6 => ?_)
  exact ⟨.ref f, H1, J, rfl, h f c' H1 g1 g2 g3 g4 g5 g6⟩
/-- x(e, ..), the promise told of the very state -/
theorem pe_callH {RR : L2.St → List V → Hp → VK → Prop} (D : DefAt X.K X.mg x st ps) (Sg : FnScope Ng ps (defScope st)) (hr : RoomG (k + 1) X.A) (hg : Gl X x) (ha : PA X (e :: es) t) (hlen : ∀ σ vs H Q, RR σ vs H Q → vs.length = ps.length)
    (hG : ∀ (g : Addr) (cdv : Value) (pins : List (Addr × Obj)) (s : Shared) (σ : L2.St) (H : Hp) (vs : List V) (Q : VK), Inv X pins σ H s → RoomG k (X.A.deeper (envOfC x (defScope st) s.heap.objs.size g cdv)) → RR σ vs H Q →
      ∃ t, PSs (cxOf (L2.CX X.prog X.w) X.prog X.w X.K X.mg X.base Ng x (defScope st) g cdv X.A X.stack s H E0) (defBody st) t ∧ t { nx := fun _ H' => Q .non H', rt := Q } (L2.start Ng vs) H)
    (hdb : (x == ("__debug__" : Str)) = false := by decide) (he : starEach (e :: es) X.env = (false, eval e X.env) :: starEach es X.env := by rfl) (hpl : (backTo pos (starEach es X.env)).any (·.1) = false := by rfl) :
    PE X (.Call (.Name x p) (e :: es) [] pos) (fun σ H Q => t σ H fun vs H1 => RR σ vs H1 Q) := by
  obtain ⟨g, fd, hm, F, hb⟩ := D
  have hk := F.kp
  obtain ⟨oc, od, kV, doc, pm, an, cdv, ct, osl, rfl, lk, hcd⟩ := F.ex
  refine ⟨fun pins s σ H Q I h => wpAny_Call_Name_kw (ld_glob I hg hm ?_ hdb)⟩
  refine PySem.W.callWith_K (h₀ := X.base) I.ok.mod.kin hk (thn (ha.run pos pins s σ H _ I h) fun us s1 z => ?_) he hpl
  obtain ⟨vs, H1, J, r, q⟩ := z
  refine ⟨J.kIn, ?_⟩
  have hl := hlen _ _ _ _ q
  have b := hb s1 us J.kIn (by rw [List.append_nil, ← r.length]; exact hl)
  rw [List.append_nil] at b
  show wpAny _ _ (call (.ref g) us) _ _ _
  refine wpAny_call (codeAny_mono (run_ofS (CX := L2.CX X.prog X.w) (E := E0) lk hcd Sg hr.toRoom J.env0 b r hl fun hr' => hG g cdv pins s1 σ H1 vs Q J ⟨hr', hr.gs⟩ q) fun res s' hq => ?_)
  match res, hq with
  | .error e, hq => exact passL pins σ H1 s1 e s' J hq
  | .ok (.ret u), hq => exact J.after hq
  | .ok .next, hq => exact False.elim hq
  | .ok .brk, hq => exact False.elim hq
  | .ok .cont, hq => exact False.elim hq
end
/-! ### a def whose code object is named -/
def DefAtC (K : PySem.W.Frag) (mg : Str → Option Value) (x : Str) (st : Stmt) (ps : List Str) (c : Addr) : Prop :=
  ∃ (f : Addr) (fd : FuncData) (oc : Value) (od : Option Addr) (kV doc pm : Value) (an : Option Addr) (ct : Value) (osl : Array (Option Value)), mg x = some (.ref f) ∧ fd = PySem.W.fnOf x x (defArgs st) (defBody st) (defScope st) .none kV doc pm an (.ref c) ct ∧
    K.lookup f = some ⟨oc, od, .func fd, osl⟩ ∧ PySem.W.codeIn K (.ref c) x = true ∧ PySem.W.keepIn K (.ref f) = true ∧ Binds K fd ps []
section
variable {P : Program} {w : World} {K : PySem.W.Frag} {mg : Str → Option Value} {base : Heap} {k : Nat} {x : Str} {ps Nm : List Str} {sp : Sp} {st : Stmt} {c : Addr}
theorem DefAtC.cal (D : DefAtC K mg x st ps c) (S : FnScope Nm ps (defScope st)) (len : ∀ vs H Q E, sp vs H Q E → vs.length = ps.length)
    (hbody : ∀ (f : Addr) (A : Around) (outer : List Env) (s : Shared) (H : Hp) (vs : List V) (Q : VK) (E : XK), RoomG k (A.deeper (envOfC x (defScope st) s.heap.objs.size f (.ref c))) → sp vs H Q E →
      ∃ t, PSs (cxOf (L2.CX P w) P w K mg base Nm x (defScope st) f (.ref c) A outer s H E) (defBody st) t ∧ t { nx := fun _ H' => Q .non H', rt := Q } (start Nm vs) H) : Cal P w K mg base (k + 1) x ps sp := by
  obtain ⟨f, fd, oc, od, kV, doc, pm, an, ct, osl, hm, rfl, lk, hcd, hk, hb⟩ := D
  refine ⟨f, _, hm, hk, hb, len, fun A outer s H args us vs Q E hr e0 bt r hsp => ?_⟩
  exact run_ofS lk hcd S hr.toRoom e0 bt r (len _ _ _ _ hsp) fun hr' => hbody f A outer s H vs Q E ⟨hr', hr.gs⟩ hsp
end
theorem mk_defC {h : Heap} {K : PySem.W.Frag} {mg : Str → Option Value} {x : Str} {st : Stmt} {ps : List Str} {c : Addr} {f : Addr} {oc : Value} {od an : Option Addr} {osl : Array (Option Value)} {kV doc pm ct : Value} (X : K.In h) (G : h.Ns mainGlobals mg)
    (a : PySem.W.nsIn K mainGlobals x = some (some (.ref f))) (l : K.lookup f = some ⟨oc, od, .func (PySem.W.fnOf x x (defArgs st) (defBody st) (defScope st) .none kV doc pm an (.ref c) ct), osl⟩) (hc : PySem.W.codeIn K (.ref c) x = true) (k : PySem.W.keepIn K (.ref f) = true)
    (b : ∀ (kV doc pm : Value) (an : Option Addr) (cdv ct : Value) (us : List Value), us.length = ps.length → bindArgs (PySem.W.fnOf x x (defArgs st) (defBody st) (defScope st) .none kV doc pm an cdv ct) ⟨us, []⟩ = pure (ps.zip us)) : DefAtC K mg x st ps c :=
  ⟨f, _, oc, od, kV, doc, pm, an, ct, osl, PySem.W.mg_of X G a, rfl, l, hc, k, (fun_mk l hc k).binds b⟩
end N

namespace N
open PySem PySem.Spec PyProof.Rows L2 StX
/-! ### wrong_letters, with the sign that is barred -/
def barS (v : Str) : Str := if v = "out" then "-" else "+"
def badL (fs : List (Str × Str)) (p : Str × Str) : Bool := fs.any fun q => decide (q.1 = p.1) && barB q.2 p.2
def Cls.badP (cs : List Cls) (c : Cls) : Option Str := (c.ps.find? (badL (c.plz (vrOf cs)))).map Prod.fst
/-- the first class with its first letter for which its parents are not right -/
def turnOf (cs : List Cls) : Option (Str × Str) := cs.findSome? fun c => (c.badP cs).map fun l => (c.nm, l)
theorem bad_two {fs : List (Str × Str)} {p : Str × Str} (h : badL fs p = true) : p.2 = "out" ∨ p.2 = "in" := by
  unfold badL at h
  obtain ⟨q, _, hq⟩ := List.any_eq_true.mp h
  rw [Bool.and_eq_true] at hq
  have hb := hq.2
  unfold barB at hb
  rw [Bool.or_eq_true, Bool.and_eq_true, Bool.and_eq_true, beq_iff_eq, beq_iff_eq] at hb
  rcases hb with h | h
  · exact .inl h.1
  · exact .inr h.1
def Lp (K : PySem.W.Frag) (H : Hp) (v : V) (p : Str × Str) : Prop := ∃ a, v = .ref a ∧ SqT K H a [.str p.1, .str (barS p.2)]
theorem Lp.stay {K : PySem.W.Frag} {H H' : Hp} {v : V} {p : Str × Str} (s : Stay K H H') (h : Lp K H v p) : Lp K H' v p := by
  obtain ⟨a, e, q⟩ := h
  exact ⟨a, e, s.tup _ _ q⟩
/-- (letter, BARRED[variance]), these at the slots 3, 4 -/
def tLb (K : PySem.W.Frag) : TE := fun σ H Q => ∃ l v : Str, σ[3]? = some (some (.str l)) ∧ σ[4]? = some (some (.str v)) ∧ (v = "out" ∨ v = "in") ∧ ∀ t, H t = none → Q (.ref t) (upd H t (.tup [.str l, .str (barS v)]))
section
variable {P : Program} {w : World} {K : PySem.W.Frag} {mg : Str → Option Value} {base : Heap} {CT : Addr}
def spWrongX (K : PySem.W.Frag) : Sp := fun vs H Q _ => ∃ (ap pl : Addr) (ps fs : List (Str × Str)) (ws : List V), vs = [.ref ap, .ref pl] ∧ PsAt K H ap ps ∧ H pl = some (.lst ws) ∧ Paired (Pp K H) ws fs ∧ fs.length ≤ 1000 ∧ ps.length ≤ 100 ∧ (∀ p ∈ ps, p.2 ∈ varz) ∧ (∀ q ∈ fs, q.2 ∈ sgz) ∧
  ∀ H' l us, Same H H' → H' l = some (.lst us) → Paired (Lp K H') us (ps.filter (badL fs)) → Q (.ref l) H'
theorem ok_wrongX (G : Glo mg) (G3 : Glo3 K w mg) (hany : mg "any" = none) (CB : Cal P w K mg base 1 "is_barred" ["sign", "variance"] spBar) (D : DefAt K mg "wrong_letters" s_wrong_letters ["parameters", "places"]) : Cal P w K mg base 2 "wrong_letters" ["parameters", "places"] (spWrongX K) := by
  obtain ⟨ta, hta, ho, hi⟩ := G3.BA
  refine D.cal sc_wrong_letters (fun vs H Q E h => ?_) (fun f cdv A outer s H vs Q E hr h => ?_)
  · obtain ⟨v, p, _, _, _, rfl, _⟩ := h
    rfl
  obtain ⟨ap, pl, ps, fs, ws, rfl, ⟨xs, hq, hp⟩, hpl, hf, hn, hn2, h1, h2, q⟩ := h
  refine ⟨_, pss_cons (ps_set (i := 2) sc_wrong_letters.nd rfl (Or.inl rfl) (pe_lst pa_nil))
    (pss_cons (ps_for (passes_of rfl) rfl (pi_tup (pv 0)) (pg_tup (by rfl) (pgs_cons (pg_name (i := 3) sc_wrong_letters.nd rfl (Or.inr rfl)) (pgs_cons (pg_name (i := 4) sc_wrong_letters.nd rfl (Or.inr rfl)) pgs_nil)))
      (pss_one (ps_if (pt_val (pe_callB (cr_any rfl) (by rfl) hany (by decide +kernel) (pa_cons (pe_lc (own := [("found", 5), ("sign", 6)]) (g := gTup K 2 (gCons (gName 5) (gCons (gName 6) gNil))) (tt := tYes) (te := tBd) rfl sc_wrong_letters.nd (pi_list (pv 1)) (blkOk_by (N := nm_wrong_letters) (sc := defScope s_wrong_letters) (own := [("found", 5), ("sign", 6)]) (by decide +kernel))
        (fun _ _ _ _ _ => pg_tup (by rfl) (pgs_cons (pg_name (i := 5) sc_wrong_letters.nd rfl (Or.inl rfl)) (pgs_cons (pg_name (i := 6) sc_wrong_letters.nd rfl (Or.inl rfl)) pgs_nil))) (fun _ _ _ _ _ => pts_nil)
        (fun _ _ _ _ _ => peOf (pe_and (pe_cmpR op_eq (pv 5) (pv 3) (nomark _)) (pe_one (pc CB hr rfl (pa_cons (pv 6) (pa_cons (pv 4) pa_nil))))) (fun σ H Q z => ?_))) pa_nil)))
        (pss_one (ps_expr (pe_bm PySem.F.plainAttrs_list PySem.F.slot_list_append PySem.F.type_list_append mt_append (pv 2) (pa_cons (peOf (te := tLb K) (pe_tup (pa_cons (pv 3) (pa_cons (pe_ix ix_kdict (pe_glob (v := .ref ta) rfl hta rfl) (pv 4) (fun _ _ => rfl)) pa_nil))) (fun σ H Q z => ?_)) pa_nil)))) pss_nil)))
    (pss_one (ps_ret (pv 2)))), ?_⟩
  · obtain ⟨f, s, l, v, e5, e6, e3, e4, hs, hv, q⟩ := z
    refine ⟨_, e5, _, e3, rfl, _, rfl, ?_⟩
    by_cases e : f = l
    · rw [decide_eq_true e, Bool.true_and] at q
      exact iteE (decide_eq_true (by rw [e])) ⟨_, e6, _, e4, s, v, rfl, hs, hv, q⟩
    · rw [decide_eq_false e, Bool.false_and] at q
      exact iteN (decide_eq_false fun z => e (V.str.inj z)) q
  · obtain ⟨l, v, e3, e4, hv, q⟩ := z
    rcases hv with rfl | rfl
    · exact ⟨_, e3, _, e4, ta, "out", _, rfl, rfl, ho, by show 2 ≤ sizeLine; decide, fun t ht => q t ht⟩
    · exact ⟨_, e3, _, e4, ta, "in", _, rfl, rfl, hi, by show 2 ≤ sizeLine; decide, fun t ht => q t ht⟩
  refine ⟨Nat.zero_le _, fun wl hwl => ?_⟩
  have s1 := same_new hwl (.lst [])
  have hwf : ws.length = fs.length := Paired.length hf
  have hxl : xs.length = ps.length := Paired.length hp
  refine ⟨_, rfl, ap, rfl, ⟨xs, (stay_same s1).tup _ _ hq⟩, ?_⟩
  refine for_tup (K := K) (a := ap) (xs := xs) (fun j σ H' => ∃ y3 y4 y5 y6, σ = [some (.ref ap), some (.ref pl), some (.ref wl), y3, y4, y5, y6] ∧ Same H H' ∧ ∃ us, H' wl = some (.lst us) ∧ Paired (Lp K H') us ((ps.take j).filter (badL fs))) ⟨_, _, _, _, rfl, s1, [], upd_same, .nil⟩ (fun j σ H' _ ⟨_, _, _, _, _, sm, _⟩ => (stay_same sm).tup _ _ hq) (fun j x σ H' hxj ⟨y3, y4, y5, y6, eσ, sm, us, hw, hu⟩ => ?_) (fun σ H' ⟨_, _, _, _, eσ, sm, us, hw, hu⟩ => ?_)
  · subst eσ
    obtain ⟨p, hp1, ⟨a', rfl, hq'⟩⟩ := pairedAt hp hxj
    have hpm := List.mem_of_getElem? hp1
    refine ⟨a', _, rfl, (stay_same sm).tup _ _ hq', rfl, .str p.1, [.str p.2], rfl, .str p.2, [], rfl, rfl, ?_⟩
    have hpl' := sm _ _ hpl
    refine ⟨_, rfl, pl, rfl, ⟨ws, SqL.of hpl'⟩, fun B hB => ?_⟩
    refine lc_list (K := K) (a := pl) (xs := ws) (te := tBd) (fun i H2 => Same H' H2 ∧ H2 B = some (.lst (((fs.take i).map fun q => decide (q.1 = p.1) && barB q.2 p.2).map V.bl))) ⟨same_new hB _, upd_same⟩ (fun i H2 _ ⟨s2, _⟩ => SqL.of (s2 _ _ hpl')) (fun i y H2 hy ⟨s2, hB2⟩ => ?_) (fun H2 ⟨s2, hB2⟩ => ?_)
    · obtain ⟨g, hg1, ⟨b', rfl, hb'⟩⟩ := pairedAt hf hy
      have hgm := List.mem_of_getElem? hg1
      have hi : i < ws.length := (List.getElem?_eq_some_iff.mp hy).1
      refine ⟨b', _, rfl, (stay_same (sm.trans s2)).tup _ _ hb', rfl, .str g.1, [.str g.2], rfl, .str g.2, [], rfl, rfl, rfl, ?_⟩
      unfold tYes
      dsimp only
      rw [if_pos rfl]
      refine ⟨g.1, g.2, p.1, p.2, rfl, rfl, rfl, rfl, h2 g hgm, h1 p hpm, _, hB2, ?_, same_mut s2 hB, ?_⟩
      · rw [List.length_map, List.length_map, List.length_take]
        exact Nat.lt_of_le_of_lt (show _ ≤ 100000 by omega) (by decide)
      · rw [upd_same, take_one' hg1, List.map_append, List.map_append]
        rfl
    · rw [hwf, List.take_length] at hB2
      have ev : (fs.map fun q => decide (q.1 = p.1) && barB q.2 p.2).any id = badL fs p := by
        unfold badL
        rw [List.any_map]
        rfl
      have sm2 := sm.trans s2
      have hw2 := s2 _ _ hw
      have hu2 := Paired.mapP hu fun _ _ z => z.stay (stay_same (K := K) s2)
      have hul : us.length ≤ 100 := by
        have h3 := Paired.length hu
        have h4 := List.length_filter_le (badL fs) (ps.take j)
        rw [List.length_take] at h4
        omega
      refine ⟨B, fs.map fun q => decide (q.1 = p.1) && barB q.2 p.2, rfl, SqL.of hB2, _, rfl, ?_⟩
      rw [ev]
      cases hb : badL fs p with
      | false =>
        refine iteN rfl ⟨_, _, _, _, rfl, sm2, us, hw2, ?_⟩
        rw [take_one' hp1, List.filter_append, List.filter_cons, hb, if_neg Bool.false_ne_true, List.filter_nil, List.append_nil]
        exact hu2
      | true =>
        refine iteE rfl ⟨_, rfl, .inl ⟨rfl, _, SqL.of hw2⟩, p.1, p.2, rfl, rfl, bad_two hb, fun t ht => ?_⟩
        have st := same_new ht (.tup [V.str p.1, .str (barS p.2)])
        refine ⟨wl, us, .ref t, rfl, rfl, st _ _ hw2, Nat.lt_of_le_of_lt (show us.length ≤ 100000 by omega) (by decide), ?_⟩
        refine ⟨_, _, _, _, rfl, same_mut (sm2.trans st) hwl, us ++ [.ref t], upd_same, ?_⟩
        rw [take_one' hp1, List.filter_append, List.filter_cons, hb, if_pos rfl, List.filter_nil]
        have sl := stay_lst (K := K) (xs := us) (ys := us ++ [.ref t]) (st _ _ hw2)
        exact pairs_app (Paired.mapP hu2 fun _ _ z => (z.stay (stay_same st)).stay sl) (.cons ⟨t, rfl, sl.tup _ _ (.inl (.inl upd_same))⟩ .nil)
  · subst eσ
    rw [hxl, List.take_length] at hu
    exact ⟨_, rfl, q _ wl us sm hw hu⟩
end
end N

namespace N
open PySem PySem.Spec PyProof.Rows L2 StX
/-! ### faults(table) -/
def voV (cs : List Cls) (n : Str) : List (Option Str) := (vrOf cs n).map some
theorem vrAt_vr {H : Hp} {d : Addr} {cs : List Cls} (nd : (cs.map Cls.nm).Nodup) (ok : ∀ c ∈ cs, c.ok) (h : DctAt FVr H d cs) : VrAt H d (arOf cs) (voV cs) := by
  obtain ⟨kvs, g1, g2, g3⟩ := h
  refine ⟨kvs, g1, fun p hp0 => ?_⟩
  obtain ⟨c0, hc0, en, el⟩ := mem_arOf hp0
  obtain ⟨c, hc, v, ecn, hv, l, rfl, hl⟩ := dct_val (n := p.1) g2 g3 (by rw [← en]; exact List.mem_map_of_mem hc0)
  have e1 : voV cs p.1 = (c.ps.map Prod.snd).map some := by
    unfold voV
    rw [← ecn, vrOf_eq nd hc]
  refine ⟨⟨l, hv, ?_⟩, ?_, fun v hv => ?_⟩
  · rw [e1, List.map_map]
    exact hl
  · rw [← en]
    unfold voV
    rw [vrOf_eq nd hc0, List.length_map, List.length_map, el]
  · rw [e1] at hv
    obtain ⟨q, hq, e2⟩ := List.mem_map.mp hv
    obtain ⟨p', hp', rfl⟩ := List.mem_map.mp hq
    cases e2
    exact ((ok c hc).pl p' hp').2
def fltC (vo : Str → List (Option Str)) (c : Cls) : List (List Str) := (c.ps.filter (badL (c.spl vo))).map fun p => [c.nm, p.1, barS p.2]
/-- the faults of a table's classes, in their order -/
def fltR (cs : List Cls) : List (List Str) := cs.flatMap (fltC (voV cs))
def txK (xs : List Str) : NestedKey := .tup (xs.map .text)
def txO : NestedKey → Str
  | .text x => x
  | _ => ""
def txB : NestedKey → List Str
  | .tup ks => ks.map txO
  | _ => []
theorem txB_K (xs : List Str) : txB (txK xs) = xs := by
  unfold txK txB
  dsimp only
  rw [List.map_map]
  exact List.map_id'' (fun _ => rfl) xs
/-- the faults told, in order -/
def fltS (cs : List Cls) : List (List Str) := (((fltR cs).map txK).mergeSort leKx).map txB
theorem nk_of_txs {K : PySem.W.Frag} {H : Hp} : ∀ xs : List Str, NkAll K H (xs.map V.str) (xs.map .text)
  | [] => .nil
  | x :: xs => .cons (.str x) (nk_of_txs xs)
theorem depth_txs : ∀ xs : List Str, NestedKey.depthAll (xs.map .text) ≤ 1
  | [] => by simp [NestedKey.depthAll]
  | x :: xs => by
    have := depth_txs xs
    simp only [List.map_cons, NestedKey.depthAll, NestedKey.depth]
    omega
theorem txv_ps {K : PySem.W.Frag} {H : Hp} : ∀ {vs : List V} {rs : List (List Str)}, Paired (TxV K H) vs rs → ∃ ps : List (NestedKey × Addr), vs = psV ps ∧ ps.map Prod.fst = rs.map txK ∧ PsOk K H ps
  | _, _, .nil => ⟨[], rfl, rfl, fun p h => by cases h⟩
  | _, _, .cons (a := v) (b := r) ⟨b, e, q⟩ t => by
    obtain ⟨ps, e1, e2, e3⟩ := txv_ps t
    subst e
    refine ⟨(txK r, b) :: ps, by rw [e1]; rfl, by rw [List.map_cons, List.map_cons, e2], fun p hp => ?_⟩
    rcases List.mem_cons.mp hp with rfl | h
    · refine ⟨.tup q (nk_of_txs r), ?_⟩
      have := depth_txs r
      unfold txK
      simp only [NestedKey.depth]
      omega
    · exact e3 p h
/-- (one[0], letter, sign), one at 4, letter at 6, sign at 7 -/
def tFlt (K : PySem.W.Frag) : TE := fun σ H Q => ∃ (vc : V) (c : Cls) (l s : Str), σ[4]? = some (some vc) ∧ Cp K H vc c ∧ σ[6]? = some (some (.str l)) ∧ σ[7]? = some (some (.str s)) ∧ ∀ t, H t = none → Q (.ref t) (upd H t (.tup [.str c.nm, .str l, .str s]))
section
variable {P : Program} {w : World} {K : PySem.W.Frag} {mg : Str → Option Value} {base : Heap} {C fc pc' : Addr}
def spFaults (K : PySem.W.Frag) (C : Addr) : Sp := fun vs H Q _ => ∃ (a : Addr) (cs : List Cls), vs = [.ref a] ∧ TabAt K C H (.ref a) cs ∧ FormsOk cs ∧ FitOk cs ∧ ∀ H' p vs, Same H H' → SqT K H' p vs → Paired (TxV K H') vs (fltS cs) → Q (.ref p) H'
theorem ok_faults (G : Glo mg) (hsrt : mg "sorted" = none) (T : TabC K mg C) (PC : PropOf K C "classes" pc' fc) (FC : FnS P w K mg base 1 fc (spTcls K C)) (CT : Cal P w K mg base 1 "check_table" ["thing"] (spChkx K C)) (CV : Cal P w K mg base 1 "variances_of" ["classes"] (spDct K FVr)) (CP : Cal P w K mg base 3 "signed_places" ["one", "variances"] (spPlz K)) (CW : Cal P w K mg base 2 "wrong_letters" ["parameters", "places"] (spWrongX K))
    (D : DefAt K mg "faults" s_faults ["table"]) : CalF P w K mg base 4 "faults" s_faults ["table"] (spFaults K C) := by
  refine D.calF sc_faults (fun vs H Q E h => ?_) (fun f0 cdv A outer s H vs Q E hr h => ?_)
  · obtain ⟨a, cs, rfl, _⟩ := h
    rfl
  obtain ⟨a, cs, rfl, hT, F, Tf, q⟩ := h
  have n5 := F.n5
  have hr1 : RoomG 1 (A.deeper (envOfC "faults" (defScope s_faults) s.heap.objs.size f0 cdv)) := hr.mono (by decide)
  have hr2 : RoomG 2 (A.deeper (envOfC "faults" (defScope s_faults) s.heap.objs.size f0 cdv)) := hr.mono (by decide)
  refine ⟨_, pss_cons (ps_expr (pc CT hr1 rfl (pa_cons (pv 0) pa_nil)))
    (pss_cons (ps_set (i := 1) sc_faults.nd rfl (by first | exact Or.inl rfl | exact Or.inr rfl) (pe_propS (pv 0) T.c PC FC hr2 rfl))
    (pss_cons (ps_set (i := 2) sc_faults.nd rfl (by first | exact Or.inl rfl | exact Or.inr rfl) (pc CV hr1 rfl (pa_cons (pv 1) pa_nil)))
    (pss_cons (ps_set (i := 3) sc_faults.nd rfl (by first | exact Or.inl rfl | exact Or.inr rfl) (pe_lst pa_nil))
    (pss_cons (ps_for (passes_of rfl) rfl (pi_tup (pv 1)) (pg_name (i := 4) sc_faults.nd rfl (by first | exact Or.inl rfl | exact Or.inr rfl))
      (pss_cons (ps_set (i := 5) sc_faults.nd rfl (by first | exact Or.inl rfl | exact Or.inr rfl) (pc CW hr2 rfl (pa_cons (pe_ix ix_tup (pv 4) pe_int (fun _ _ => rfl)) (pa_cons (pc CP hr rfl (pa_cons (pv 4) (pa_cons (pv 2) pa_nil))) pa_nil))))
      (pss_one (ps_expr (pe_bm PySem.F.plainAttrs_list PySem.F.slot_list_extend PySem.F.type_list_extend mt_extend (pv 3) (pa_cons (pe_lc (own := [("letter", 6), ("sign", 7)]) (g := gTup K 2 (gCons (gName 6) (gCons (gName 7) gNil))) (tt := tYes) (te := tFlt K) rfl sc_faults.nd (pi_list (pv 5)) (blkOk_by (N := nm_faults) (sc := defScope s_faults) (own := [("letter", 6), ("sign", 7)]) (by decide +kernel))
        (fun _ _ _ _ _ => pg_tup (by rfl) (pgs_cons (pg_name (i := 6) sc_faults.nd rfl (by first | exact Or.inl rfl | exact Or.inr rfl)) (pgs_cons (pg_name (i := 7) sc_faults.nd rfl (by first | exact Or.inl rfl | exact Or.inr rfl)) pgs_nil))) (fun _ _ _ _ _ => pts_nil)
        (fun _ _ _ _ _ => peOf (pe_tup (pa_cons (pe_ix ix_tup (pv 4) pe_int (fun _ _ => rfl)) (pa_cons (pv 6) (pa_cons (pv 7) pa_nil)))) (fun σ H Q z => ?_))) pa_nil))))))
    (pss_one (ps_ret (pe_callTy call_tuple_of (by rfl) G.tuple b_tuple (pa_cons (pe_callB (call_sorted_nk (hu100x hr)) (by rfl) hsrt (by decide +kernel) (pa_cons (pv 3) pa_nil)) pa_nil)))))))), ?_⟩
  · obtain ⟨vc, c, l, s, e4, ⟨ac, ap, ak, am, rfl, hqc, _⟩, e6, e7, q⟩ := z
    exact ⟨_, e4, ac, _, 0, .str c.nm, rfl, rfl, hqc, atI_nat (j := 0) rfl, _, e6, _, e7, by show 3 ≤ sizeLine; decide, fun t ht => q t ht⟩
  obtain ⟨a0, d0, p0, e0, hi, hcs⟩ := id hT
  cases e0
  refine ⟨_, rfl, .ref a, cs, rfl, hT, ?_⟩
  refine ⟨_, rfl, a, d0, _, rfl, hi, a, cs, rfl, hT, fun p hp => ?_⟩
  obtain ⟨xs, hq, hpx⟩ := id hp
  have xl : xs.length = cs.length := Paired.length hpx
  refine ⟨_, rfl, p, cs, rfl, hp, by omega, F.nd, F.ok, fun H1 d kvs s1 hd hd0 e2 e3 => ?_⟩
  have vr1 := vrAt_vr F.nd F.ok (show DctAt FVr H1 d cs from ⟨kvs, .inl hd, e2, e3⟩)
  have hrw : ∀ c ∈ cs, (c.ps.filter (badL (c.spl (voV cs)))).length ≤ 2 := fun c hc => by
    have h1 := List.length_filter_le (badL (c.spl (voV cs))) c.ps
    have h2 := (F.ok c hc).p2
    omega
  have flen : ∀ i, ((cs.take i).flatMap (fltC (voV cs))).length ≤ 10 := fun i => by
    have : ∀ l : List Cls, (∀ c ∈ l, c ∈ cs) → (l.flatMap (fltC (voV cs))).length ≤ 2 * l.length := by
      intro l
      induction l with
      | nil => intro _; exact Nat.le_refl _
      | cons c l ih =>
        intro h
        have h1 := ih fun e he => h e (List.mem_cons_of_mem _ he)
        have h2 := hrw c (h c List.mem_cons_self)
        rw [List.flatMap_cons, List.length_append, List.length_cons]
        unfold fltC at h1 ⊢
        rw [List.length_map]
        omega
    have := this (cs.take i) fun c hc => List.mem_of_mem_take hc
    rw [List.length_take] at this
    omega
  refine ⟨Nat.zero_le _, fun fl hfl => ?_⟩
  have s2 := same_new hfl (.lst [])
  have s12 := s1.trans s2
  refine ⟨_, rfl, p, rfl, ⟨xs, (stay_same s12).tup _ _ hq⟩, ?_⟩
  refine for_tup (K := K) (a := p) (xs := xs) (fun i σ H' => ∃ y4 y5, σ = [some (.ref a), some (.ref p), some (.ref d), some (.ref fl), y4, y5, none, none] ∧ Same H1 H' ∧ ∃ acc, H' fl = some (.lst acc) ∧ Paired (TxV K H') acc ((cs.take i).flatMap (fltC (voV cs))))
    ⟨_, _, rfl, s2, [], upd_same, .nil⟩ (fun i σ H' _ ⟨_, _, _, sm, _⟩ => (stay_same (s1.trans sm)).tup _ _ hq) (fun i x σ H2 hxi ⟨y4, y5, eσ, sm, acc, hacc, hpa⟩ => ?_) (fun σ H2 ⟨y4, y5, eσ, sm, acc, hacc, hpa⟩ => ?_)
  · subst eσ
    obtain ⟨c, hc1, hc2⟩ := pairedAt hpx hxi
    have hcm := List.mem_of_getElem? hc1
    have ok := F.ok c hcm
    have p2 := ok.p2
    have hc3 := hc2.stay (stay_same (K := K) (s1.trans sm))
    obtain ⟨ac, ap, ak, am, rfl, qc, hap, hak, ham⟩ := id hc3
    refine ⟨_, rfl, ac, _, 1, .ref ap, rfl, rfl, qc, atI_nat (j := 1) rfl, _, rfl, _, rfl, .ref ac, c, d, arOf cs, voV cs, c.ps.map Prod.fst, rfl, hc3, ok, vr1.same sm, fun k hk => (Tf.f c hcm k hk).1, fun H3 l ws s3 hl hlf hws => ?_⟩
    have spl52 := spl_len (vo := voV cs) ok
    refine ⟨ap, l, c.ps, c.spl (voV cs), ws, rfl, hap.stay (stay_same s3), hl, hws, by omega, by omega, fun p hp => (ok.pl p hp).2, spl_sgz ok, fun H4 l2 us s4 hl2 hus => ?_⟩
    have s34 := s3.trans s4
    have hacc4 := s34 _ _ hacc
    refine ⟨_, rfl, .inl ⟨rfl, _, SqL.of hacc4⟩, _, rfl, l2, rfl, ⟨us, SqL.of hl2⟩, fun B hB => ?_⟩
    have ul : us.length = (c.ps.filter (badL (c.spl (voV cs)))).length := Paired.length hus
    have h22 := hrw c hcm
    refine lc_list (K := K) (a := l2) (xs := us) (te := tFlt K) (fun i H' => Same H4 H' ∧ ∃ acc2, H' B = some (.lst acc2) ∧ Paired (TxV K H') acc2 ((fltC (voV cs) c).take i)) ⟨same_new hB _, [], upd_same, .nil⟩ (fun i H' _ ⟨s, _⟩ => SqL.of (s _ _ hl2)) (fun j u H5 hu ⟨s5, acc2, hacc2, hp2⟩ => ?_) (fun H5 ⟨s5, acc2, hacc2, hp2⟩ => ?_)
    · obtain ⟨pr, hpr, ⟨b, rfl, hb⟩⟩ := pairedAt hus hu
      have hjl : j < us.length := (List.getElem?_eq_some_iff.mp hu).1
      refine ⟨b, _, rfl, (stay_same s5).tup _ _ hb, rfl, .str pr.1, [.str (barS pr.2)], rfl, .str (barS pr.2), [], rfl, rfl, rfl, ?_⟩
      unfold tYes
      dsimp only
      rw [if_pos rfl]
      refine ⟨.ref ac, c, pr.1, barS pr.2, rfl, hc3.stay (stay_same (s34.trans s5)), rfl, rfl, fun t ht => ?_⟩
      have st := same_new ht (.tup [.str c.nm, .str pr.1, .str (barS pr.2)])
      have hl2' := Paired.length hp2
      rw [List.length_take] at hl2'
      refine ⟨acc2, st _ _ hacc2, Nat.lt_of_le_of_lt (show _ ≤ 100000 by omega) (by decide), same_mut (s5.trans st) hB, _, upd_same, ?_⟩
      have sl := stay_lst (K := K) (xs := acc2) (ys := acc2 ++ [.ref t]) (st _ _ hacc2)
      have er : (fltC (voV cs) c)[j]? = some [c.nm, pr.1, barS pr.2] := by
        unfold fltC
        rw [List.getElem?_map, hpr]
        rfl
      rw [take_snoc er]
      exact pairs_app (Paired.mapP hp2 fun _ _ z => (z.stay (stay_same st)).stay sl) (.cons ⟨t, rfl, sl.tup _ _ (.inl (.inl upd_same))⟩ .nil)
    · have e3 : (fltC (voV cs) c).take us.length = fltC (voV cs) c := List.take_of_length_le (by unfold fltC; rw [List.length_map, ul]; exact Nat.le_refl _)
      rw [e3] at hp2
      have hacc5 := s5 _ _ hacc4
      have l1 := Paired.length hpa
      have l2 := Paired.length hp2
      have f1 := flen i
      have f2 : (fltC (voV cs) c).length ≤ 2 := by unfold fltC; rw [List.length_map]; exact h22
      refine ⟨fl, B, acc, acc2, rfl, rfl, hacc5, hacc2, sz5 (by omega), ?_⟩
      have sl := stay_lst (K := K) (xs := acc) (ys := acc ++ acc2) hacc5
      refine ⟨_, _, rfl, same_mut (sm.trans (s34.trans s5)) hfl, acc ++ acc2, upd_same, ?_⟩
      rw [take_snoc hc1, List.flatMap_append, List.flatMap_singleton]
      exact pairs_app (Paired.mapP hpa fun _ _ z => (z.stay (stay_same (s34.trans s5))).stay sl) (Paired.mapP hp2 fun _ _ z => z.stay sl)
  · subst eσ
    rw [xl, List.take_length] at hpa
    obtain ⟨ps, rfl, ek, hps⟩ := txv_ps hpa
    have hsr : ∀ r ∈ ps, IsTx 3 r.1 := fun r hr => by
      have : r.1 ∈ (cs.flatMap (fltC (voV cs))).map txK := by rw [← ek]; exact List.mem_map_of_mem hr
      obtain ⟨xs, hx, e⟩ := List.mem_map.mp this
      obtain ⟨c, _, hc⟩ := List.mem_flatMap.mp hx
      obtain ⟨pp, _, rfl⟩ := List.mem_map.mp hc
      exact ⟨_, rfl, e.symm⟩
    refine ⟨_, rfl, fl, ps, rfl, SqL.of hacc, hps, tx_srtb (m := 2) hsr, fun sl hsl => ?_⟩
    have s4 := same_new hsl (.lst (psV (ps.mergeSort leN)))
    have hLm : ∀ r ∈ ps.mergeSort leN, NkV K H2 (.ref r.2) r.1 := fun r hr => (hps r (List.mem_mergeSort.mp hr)).1
    have hLt : ∀ r ∈ ps.mergeSort leN, IsTx 3 r.1 := fun r hr => hsr r (List.mem_mergeSort.mp hr)
    have eL : (ps.mergeSort leN).map Prod.fst = ((fltR cs).map txK).mergeSort leKx := by rw [sort_fstx, ek]; rfl
    have hsl4 : (upd H2 sl (.lst (psV (ps.mergeSort leN)))) sl = some (.lst (psV (ps.mergeSort leN))) := upd_same
    generalize upd H2 sl (.lst (psV (ps.mergeSort leN))) = H4 at s4 hsl4
    generalize ps.mergeSort leN = L at hLm hLt eL hsl4
    have key : ∀ {H' : Hp}, Same H2 H' → ∀ L : List (NestedKey × Addr), (∀ r ∈ L, NkV K H2 (.ref r.2) r.1) → (∀ r ∈ L, IsTx 3 r.1) → Paired (TxV K H') (psV L) ((L.map Prod.fst).map txB) := by
      intro H' sH L
      induction L with
      | nil => intro _ _; exact .nil
      | cons r L ih =>
        intro h1 h2
        refine .cons ?_ (ih (fun x hx => h1 x (List.mem_cons_of_mem _ hx)) fun x hx => h2 x (List.mem_cons_of_mem _ hx))
        obtain ⟨ys, _, e⟩ := h2 r List.mem_cons_self
        have h3 := h1 r List.mem_cons_self
        rw [e] at h3 ⊢
        refine ⟨r.2, rfl, ?_⟩
        show SqT K H' r.2 ((txB (txK ys)).map V.str)
        rw [txB_K]
        exact (stay_same sH).tup _ _ (nk_tx h3)
    refine ⟨sl, psV L, rfl, .inl ⟨SqL.of hsl4, fun l hl => ?_⟩⟩
    have s5 := same_new hl (.tup (psV L))
    refine q _ l (psV L) (s1.trans (sm.trans (s4.trans s5))) (.inl (.inl upd_same)) ?_
    unfold fltS
    rw [← eL]
    exact key (s4.trans s5) L hLm hLt
end
end N

namespace N
open PySem PySem.Spec PyProof.Rows L2
/-! ### exceptions of own classes as values -/
/-- v is an exception of the class at C, with these fields -/
def ExP (H : Hp) (v : V) (C : Addr) (fs : List (Str × V)) : Prop := ∃ a, v = .ref a ∧ ((H a = some (exo a C none) ∧ fs = []) ∨ ∃ d, H a = some (exo a C (some d)) ∧ H d = some (exd d fs))
theorem ExP.same {H H' : Hp} {v : V} {C : Addr} {fs : List (Str × V)} (s : Same H H') (h : ExP H v C fs) : ExP H' v C fs := by
  obtain ⟨a, e, r⟩ := h
  rcases r with ⟨h1, h2⟩ | ⟨d, h1, h2⟩
  · exact ⟨a, e, .inl ⟨s _ _ h1, h2⟩⟩
  · exact ⟨a, e, .inr ⟨d, s _ _ h1, s _ _ h2⟩⟩
abbrev veB : List Value := [.type "ValueError", .type "Exception", .type "BaseException", .type "object"]
section
variable {X : Cx} {pins : List (Addr × Obj)} {σ : L2.St} {H : Hp} {s : Shared}
/-- where it lies -/
theorem exP_at {v : V} {C : Addr} {fs : List (Str × V)} (I : Inv X pins σ H s) (h : ExP H v C fs) : ∃ (a : Addr) (ox : Obj) (od : Option Obj), v = .ref a ∧ PySem.W.InstAt s.heap a ox C od ∧ (fs ≠ [] → ∃ o, od = some o ∧ ∃ mA : Str → Option Value, (∀ n, PySem.W.lookIn n o = some (mA n)) ∧ ∀ f, RelO (fs.lookup f) (mA f)) := by
  obtain ⟨a, e, r⟩ := h
  rcases r with ⟨h1, h2⟩ | ⟨d, h1, h2⟩
  · obtain ⟨t1, ho⟩ := exo_at I.hok h1
    exact ⟨a, _, none, e, ⟨ho, rfl, rfl, trivial⟩, fun n => absurd h2 n⟩
  · obtain ⟨t1, ho⟩ := exo_at I.hok h1
    obtain ⟨mA, hns, rel⟩ := exd_at I.hok h2
    obtain ⟨od, hd, hl⟩ := lookIn_ns hns
    exact ⟨a, _, some od, e, ⟨ho, rfl, rfl, hd⟩, fun _ => ⟨od, rfl, mA, hl, rel⟩⟩
theorem call_ex {C : Addr} {us : List Value} {Q : VK} (I : Inv X pins σ H s) (q : PySem.W.excIn X.K C veB "ValueError.__new__" = true) (hz : us.length ≤ sizeLine) (h : ∀ a, H a = none → Q (.ref a) (upd H a (exo a C none))) :
    wpAny (model X.prog X.w) X.A (call (.ref C) us) (EP X pins σ Q) X.xe s := by
  obtain ⟨bm, Na, nm, qn, bs, hdct, sn, sub, ab, col, dd, k0, k1, k2, k3, k5, mN, hC, hN, hni, T⟩ := exc_obj I.kIn q
  refine wpAny_call_exc_subT PySem.F.excBase_ValueError T hC hN hni (fun h' a hm => ?_) hz
  have hn : H a = none := I.hok.gone hm.new
  obtain ⟨t, ht, _⟩ := hm.there
  exact ⟨.ref a, _, I.laidN hm.keeps hm.new hn (exo_ok ht), rfl, h a hn⟩
end
section
variable {X : Cx} {C : Addr} {x : Str} {p pos : Pos} {e : Expr} {es : List Expr} {t : TA} {te : TE}
/-- C(), C(e, ..), an own class over ValueError without own __init__ -/
theorem pe_ex0 (q : PySem.W.excIn X.K C veB "ValueError.__new__" = true) (gC : X.mg x = some (.ref C)) (kC : PySem.W.keepIn X.K (.ref C) = true) (hg : Gl X x) (hdb : (x == ("__debug__" : Str)) = false := by decide) :
    PE X (.Call (.Name x p) [] [] pos) (fun _ H Q => ∀ a, H a = none → Q (.ref a) (upd H a (exo a C none))) := by
  refine ⟨fun pins s σ H Q I h => wpAny_Call_Name_kw (ld_glob I hg gC ?_ hdb)⟩
  exact PySem.W.callWith_K0 I.kIn kC (call_ex (us := []) I q (Nat.zero_le _) h)
theorem pe_exN (q : PySem.W.excIn X.K C veB "ValueError.__new__" = true) (gC : X.mg x = some (.ref C)) (kC : PySem.W.keepIn X.K (.ref C) = true) (hg : Gl X x) (ha : PA X (e :: es) t) (hdb : (x == ("__debug__" : Str)) = false := by decide)
    (he : starEach (e :: es) X.env = (false, eval e X.env) :: starEach es X.env := by rfl) (hpl : (backTo pos (starEach es X.env)).any (·.1) = false := by rfl) :
    PE X (.Call (.Name x p) (e :: es) [] pos) (fun σ H Q => t σ H fun vs H1 => vs.length ≤ sizeLine ∧ ∀ a, H1 a = none → Q (.ref a) (upd H1 a (exo a C none))) := by
  refine ⟨fun pins s σ H Q I h => wpAny_Call_Name_kw (ld_glob I hg gC ?_ hdb)⟩
  refine PySem.W.callWith_K (h₀ := X.base) I.ok.mod.kin kC (thn (ha.run pos pins s σ H _ I h) fun us s1 z => ?_) he hpl
  obtain ⟨vs, H1, J, r, hz, q1⟩ := z
  exact ⟨J.kIn, (show wpAny _ _ (call (.ref C) us) _ _ _ from call_ex J q (by rw [← r.length]; exact hz) q1)⟩
/-- isinstance(e, c), e such an exception -/
def rIsX (K : PySem.W.Frag) : List V → Hp → VK → Prop := fun xs H Q => ∃ (v c : V) (C : Addr) (fs : List (Str × V)) (cv : Value) (b : Bool), xs = [v, c] ∧ ExP H v C fs ∧ ExcC K C ∧ (∀ u, RelV c u → u = cv) ∧ PySem.W.kitOne K (.ref C) cv = some b ∧ Q (.bl b) H
theorem call_isX : CallR X (.builtin "isinstance") (rIsX X.K) := by
  intro pins s σ H xs us Q I r h
  obtain ⟨v, c, C, fs, cv, b, rfl, hx, T, hcv, e, q⟩ := h
  obtain ⟨a, ox, od, rfl, J, _⟩ := exP_at I hx
  cases r with
  | cons rx rr =>
    cases rr with
    | cons rt rr =>
      cases rr
      cases rx
      have ec := hcv _ rt
      subst ec
      have hcl : (PySem.W.clsIn X.K C).isSome = true := by
        obtain ⟨cd, hc, _⟩ := PySem.W.any_some T.hd
        rw [hc]
        rfl
      exact PySem.W.kia_one (PySem.W.kitx_exc hcl T.hg T.hk T.hs T.ha T.hn T.ht T.hm) I.kIn J e (fun z => nomatch z) fun tk => ⟨.bl b, H, I.kept (t' := tk) fun _ _ z => z, rfl, q⟩
/-- e.f, a field of such an exception -/
theorem pe_exf {n : Str} (he : PE X e te) (hb : attributeBase e n X.env (eval e X.env) = eval e X.env := by rfl) :
    PE X (.Attribute e n pos) (fun σ H Q => te σ H fun x H1 => ∃ (C : Addr) (fs : List (Str × V)) (v : V), ExP H1 x C fs ∧ XfC X.K C ∧ PySem.W.findIn X.K (.ref C) n = some none ∧ fs.lookup n = some v ∧ Q v H1) := by
  refine ⟨fun pins s σ H Q I h => ?_⟩
  refine attr_of hb (thn (he.run pins s σ H _ I h) fun u s1 z => ?_)
  obtain ⟨x, H1, J, rx, C, fs, v, hx, T, hno, hl, q⟩ := z
  obtain ⟨a, ox, od, rfl, A, hf⟩ := exP_at J hx
  obtain rfl : u = Value.ref a := rx
  obtain ⟨o, rfl, mA, hlk, rel⟩ := hf (fun z => by rw [z] at hl; cases hl)
  obtain ⟨u2, hu, ru⟩ := RelO.some_of (v := v) (o := mA n) (by rw [← hl]; exact rel n)
  exact HandSPX.exc_get J.kIn A T.ga T.gg T.exC (PySem.W.findObj_own T.hdC hno rfl (by rw [hlk, hu])) (handed_of ru) ⟨v, H1, J.tok _, ru, q⟩
end
end N

namespace N
open PySem PySem.Spec PyProof.Rows L2 NdefX
/-! ### an own __init__ that begins with super().__init__(..) -/
/-- at u stands the bound ValueError.__init__ of the exception at a -/
def MwO (u a : Addr) : HO := .ext fun h => h.get? u = some (PySem.W.kxs_mw "ValueError.__init__" a)
theorem mwO_ok {P : Program} {w : World} {H : Hp} {h : Heap} {u a : Addr} (e : h.get? u = some (PySem.W.kxs_mw "ValueError.__init__" a)) : ObjOk P w H h u (MwO u a) := ⟨e, ⟨_, e⟩, fun _ _ z k => k _ z⟩
section
variable {prog : Program} {w : World} {A : Around} {E : Value → Shared → Prop} {h : Heap} {g : Array GenState} {d : PySem.Drawn} {t : Nat} {os : OsState}
variable {nm q : Str} {C Na : Addr} {bs bm : List Value} {hdct : Bool} {sn : List Str} {sub : List Value} {ab : Bool} {col : Option Bool} {dd : Option Addr} {k0 k1 k2 k3 k5 : Option Value}
theorem mw_run {u e t0 : Addr} {us : List Value} {Q : Value → Shared → Prop} (hC : h.get? C = some (excClassObj nm q C Na bs bm hdct sn sub ab col dd k0 k1 k2 k3 k5 "ValueError.__new__")) (hE : h.get? e = some (HandSPX.excO C t0))
    (hU : h.get? u = some (PySem.W.kxs_mw "ValueError.__init__" e)) (hz : us.length ≤ sizeLine) (fin : ∀ h' t1, (∀ b o, b ≠ e → h.get? b = some o → h'.get? b = some o) → h'.get? e = some (HandSPX.excO C t1) → Q .none ⟨h', g, d, t, os⟩) :
    wpAny (model prog w) A (call (.ref u) us) Q E ⟨h, g, d, t, os⟩ := by
  have w1 : (Value.type "method-wrapper" == Value.type "method" || Value.type "method-wrapper" == Value.type "builtin_function_or_method" || Value.type "method-wrapper" == Value.type "method-wrapper") = true := by decide
  refine wpAny_call (codeAny_of_tree (show wpAny _ A.in1 (callAny (.ref u) ⟨us, []⟩) _ _ _ from ?_))
  simp only [callAny]
  refine wpAny_bind (wpAny_load (o := PySem.W.kxs_mw "ValueError.__init__" e) hU ?_)
  simp only [PySem.W.kxs_mw, w1, if_true]
  refine PySem.W.KFB.if_so (by decide) (wpAny_bind (PySem.W.check_bound_init PySem.F.excBase_ValueError.toExcCallFacts hC hE rfl (wpAny_bind (wpAny_pure (wpAny_pure ?_)))))
  refine ⟨Code.quiet_builtin _ (by decide +kernel), codeAny_builtin PySem.F.excBase_ValueError.initEntry ?_⟩
  rw [Around.under_plainId PySem.F.excBase_ValueError.init.plain _]
  wp_walk
  refine fin _ h.objs.size (fun b o nb hb => ?_) ?_
  · rw [Heap.get?_update_other _ _ (fun z => nb z.symm)]
    exact Heap.get?_push_of_some _ hb
  · rw [Heap.get?_update_self _ (Heap.get?_push_of_some _ hE) rfl] <;> rfl
end
section
variable {X : Cx} {pins : List (Addr × Obj)} {σ : L2.St} {H : Hp} {s : Shared} {A : Around}
theorem call_mw {u a C : Addr} {us : List Value} {Q : Value → Shared → Prop} {E : Value → Shared → Prop} (T : OexC X.K C) (I : Inv X pins σ H s) (ea : H a = some (exo a C none)) (eu : H u = some (MwO u a)) (hl : us.length ≤ sizeLine) (h : ∀ s', Inv X pins σ H s' → Q .none s') :
    wpAny (model X.prog X.w) A (call (.ref u) us) Q E s := by
  obtain ⟨nm, q, Na, bs, bm, sn, sub, ab, col, dd, k0, k1, k2, k3, k5, hC, hbm⟩ := T.cls
  obtain ⟨t1, hE⟩ := exo_at I.hok ea
  have hU : s.heap.get? u = some (PySem.W.kxs_mw "ValueError.__init__" a) := (I.hok u _ eu).1
  obtain ⟨hp, g, d, t, os⟩ := s
  refine mw_run (I.kIn _ _ hC) hE hU hl (fun h' t2 k hx => ?_)
  have J := I.write (t' := t) (x := a) (e := a) (o := exo a C none) (by rw [ea]; exact True.intro) (.inl rfl) k ⟨_, hx⟩ (exo_ok hx)
  have eq : upd H a (exo a C none) = H := by
    funext b
    by_cases e : b = a
    · subst e
      rw [upd_same, ea]
    · rw [upd_ne e]
  rw [eq] at J
  exact h _ J
end
/-- what the written part says of a class with such an __init__ -/
structure IniC (K : PySem.W.Frag) (file : Str) (C f cc cda : Addr) (qual : Str) (params : Arguments) (body : List Stmt) (scope : Scope) : Prop where
  ox : OexC K C
  fn : ∃ oc od dV kV doc pm an ct osl, K.lookup f = some ⟨oc, od, .func (PySem.W.ksFn "__init__" qual params body scope dV kV doc pm an (.ref cda) ct cc), osl⟩
  code : PySem.W.codeIn K (.ref cda) qual = true
  cda : ∃ ccl cdd vs ccs tf, K.lookup cda = some ⟨ccl, cdd, .fields vs, ccs⟩ ∧ vs[2]? = some (.str file tf)
  cell : ∃ cl cld csl, K.lookup cc = some ⟨cl, cld, .cell (some (.ref C)), csl⟩
  cls : (PySem.W.clsIn K C).isSome = true
  own : PySem.W.mroIn K C (.ref C) = some true
  up : PySem.W.ks_superIn K C C "__init__" = some (some (.builtin "ValueError.__init__"))
  ve : PySem.W.subIn K (.ref C) (.type "ValueError") = some true
  any : PySem.W.nsIn K cStatics "thirdparty.any" = some none
  ini : PySem.W.findIn K (.ref C) "__init__" = some (some (.ref f))
  tyf : PySem.W.typeIn K (.ref f) = some (.type "function")
end N

namespace N
open PySem PySem.Spec PyProof.Rows L2 NdefX
/-- the words of such an __init__ -/
abbrev iF (qual : Str) (params : Arguments) (body : List Stmt) (scope : Scope) (cc cda : Addr) : NF := ⟨"__init__", qual, params, body, scope, [("__class__", cc)], cda⟩
theorem callE {M : Model} {A : Around} {E : Value → Shared → Prop} {s : Shared} {pos : Pos} {env : Env} {e : Expr} {rest : List Expr} {u x : Addr} {i : String} {first : List Value} {Q : Value → Shared → Prop}
    (he : starEach (e :: rest) env = (false, eval e env) :: starEach rest env) (hpl : (backTo pos (starEach rest env)).any (·.1) = false)
    (h : wpAny M A (spliced (backTo pos (starEach (e :: rest) env))) (fun vs s₁ => PySem.W.KxsAt i u x s₁.heap ∧ wpAny M A (call (.ref u) (first ++ vs)) Q E s₁) E s) :
    wpAny M A (callWith pos (.ref u) first (backTo pos (starEach (e :: rest) env)) []) Q E s := by
  rw [he] at h ⊢
  refine PySem.W.kxs_callWith (i := i) (x := x) (by show (false || (backTo pos (starEach rest env)).any (·.1)) = false; rw [hpl]; rfl) ?_
  exact Calls.evalArgs_plain h
section
variable {P : Program} {w : World} {K : PySem.W.Frag} {mg : Str → Option Value} {base : Heap} {Nm ps : List Str} {k : Nat} {C f cc cda : Addr} {qual file : Str} {params : Arguments} {body rest : List Stmt} {scope : Scope} {t : TA} {tb : TS} {e : Expr} {es : List Expr} {p0 p1 p2 p3 p4 : Pos} {ar : Arg}
/-- super().__init__(e, ..) as a statement, in the frame of such an __init__ -/
theorem run_super {A : Around} {outer : List Env} {s0 s : Shared} {H0 H : Hp} {E : XK} {σ : L2.St} {a : Addr} {Q : Flow → Shared → Prop} {pins : List (Addr × Obj)} (D : IniC K file C f cc cda qual params body scope) (S : NScope Nm ps ["__class__"] scope) (hfile : ((P.main.file : Str) == file) = true) (htop : (P.main.scope.names.lookup ("super" : Str)).isSome = false)
    (hg : scope.names.lookup ("super" : Str) = some .globalImplicit) (hms : mg "super" = none) (har : (params.posonlyargs ++ params.args).head? = some ar) (h0 : Nm[0]? = some ar.arg) (hv0 : scope.names.lookup ar.arg = some .local)
    (I : Inv (ncx (L2.CX P w) P w K mg base Nm (iF qual params body scope cc cda) f A outer s0 H0 E) pins σ H s) (hs : σ[0]? = some (some (.ref a))) (ea : H a = some (exo a C none))
    (ha : PA (ncx (L2.CX P w) P w K mg base Nm (iF qual params body scope cc cda) f A outer s0 H0 E) (e :: es) t)
    (hq : ∀ u, H u = none → t σ (upd H u (MwO u a)) fun vs H1 => vs.length ≤ sizeLine ∧ H1 = upd H u (MwO u a) ∧ ∀ s', Inv (ncx (L2.CX P w) P w K mg base Nm (iF qual params body scope cc cda) f A outer s0 H0 E) pins σ (upd H u (MwO u a)) s' → Q .next s')
    (he : starEach (e :: es) (envF (iF qual params body scope cc cda) f s0.heap.objs.size) = (false, eval e (envF (iF qual params body scope cc cda) f s0.heap.objs.size)) :: starEach es (envF (iF qual params body scope cc cda) f s0.heap.objs.size))
    (hpl : (backTo p3 (starEach es (envF (iF qual params body scope cc cda) f s0.heap.objs.size))).any (·.1) = false)
    {pl : Sem Bool} (hcl : eval (.Call (.Attribute (.Call (.Name "super" p0) [] [] p1) "__init__" p2) (e :: es) [] p3) (envF (iF qual params body scope cc cda) f s0.heap.objs.size) = (do
      let ov ← attributeBase (.Call (.Name "super" p0) [] [] p1) "__init__" (envF (iF qual params body scope cc cda) f s0.heap.objs.size) (eval (.Call (.Name "super" p0) [] [] p1) (envF (iF qual params body scope cc cda) f s0.heap.objs.size))
      standAt p2.atName
      let (f', first) ← holding [ov] (getMethod ov "__init__" pl)
      callWith p3 f' first (backTo p3 (starEach (e :: es) (envF (iF qual params body scope cc cda) f s0.heap.objs.size))) [])) :
    PySem.wpAt (model P w) (A.deeper (envF (iF qual params body scope cc cda) f s0.heap.objs.size)) (.func body (envF (iF qual params body scope cc cda) f s0.heap.objs.size))
      (exec (.Expr (.Call (.Attribute (.Call (.Name "super" p0) [] [] p1) "__init__" p2) (e :: es) [] p3) p4) (envF (iF qual params body scope cc cda) f s0.heap.objs.size)) Q (ncx (L2.CX P w) P w K mg base Nm (iF qual params body scope cc cda) f A outer s0 H0 E).xe s := by
  obtain ⟨oc, od, dV, kV, doc, pm, an, ct, osl, lk⟩ := D.fn
  obtain ⟨ccl, cdd, vs, ccs, tf, lc, hvs⟩ := D.cda
  obtain ⟨cl, cld, csl, lx⟩ := D.cell
  obtain ⟨cdD, hD⟩ := Option.isSome_iff_exists.mp D.cls
  have KX : K.In s.heap := I.kIn
  obtain ⟨oD, hD1, hD2⟩ : ∃ oD, s.heap.get? C = some oD ∧ oD.data = .cls cdD := by
    unfold PySem.W.clsIn at hD
    split at hD
    · rename_i ho
      cases hD
      exact ⟨_, KX _ _ ho, rfl⟩
    · cases hD
  obtain ⟨t1, hx⟩ := exo_at I.hok ea
  refine ks_wpAt_Expr_any (ks_wpAt_MethodCall ?_ hcl) (by show (scope.kind == .module && _) = false; rw [S.kind]; rfl)
  refine ks_wpAt_super_base (f := f) (cc := cda) (env := envF (iF qual params body scope cc cda) f s0.heap.objs.size) hg (S.frk _ (List.mem_singleton.mpr rfl)) (by decide) rfl (KX _ _ lk) rfl har rfl (KX _ _ lc) rfl hvs hfile htop ?_
  obtain ⟨mb, hb1, hb2⟩ := I.mod.blt
  refine PySem.W.ks_loadName_global S.kind hg (Calls.loadGlobal_builtin (by exact I.mod.glob.keeps I.bk) hms (by exact hb1.keeps I.bk) ((hb2 "super" (by decide)).trans (show bootBuiltins "super" = some (.type "super") by decide +kernel)) ⟨rfl, ?_⟩)
  refine wpAny_loadName_free S.kind (S.frk _ (List.mem_singleton.mpr rfl)) rfl ⟨_, KX _ _ lx, rfl⟩ ?_
  obtain ⟨m, hn, hl⟩ := I.loc
  obtain ⟨u0, ru, hm⟩ := hl 0 ar.arg (.ref a) h0 hs (.inl hv0)
  obtain rfl : u0 = Value.ref a := ru
  have hm0 : m ar.arg = some (.ref a) := by
    rcases hm with ⟨_, z⟩ | ⟨z, _⟩
    · exact z
    · exfalso
      have z' : scope.names.lookup ar.arg = some .cell ∨ scope.names.lookup ar.arg = some .free := z
      rw [hv0] at z'
      rcases z' with z' | z' <;> cases z'
  refine wpAny_loadName_local S.kind hv0 hn hm0 ?_
  refine ks_wpAny_isType_cls hD1 hD2 ⟨rfl, ?_⟩
  obtain ⟨hp, g, dr, tk, os⟩ := s
  refine ks_wpAny_call_super hD1 hD2 hx rfl (fun c z => by cases z) (PySem.W.looks_mroIn KX D.own) (fun h' es' kx => ?_)
  have J : Inv (ncx (L2.CX P w) P w K mg base Nm (iF qual params body scope cc cda) f A outer s0 H0 E) pins σ H ⟨h', g, dr, tk, os⟩ := I.kept (t' := tk) kx
  have KX' : K.In h' := J.kIn
  have IA : PySem.W.InstAt h' a _ C none := ⟨kx _ _ hx, rfl, rfl, trivial⟩
  have nC : a ≠ C := PySem.W.ks_ne KX' IA hD
  have up := D.up
  unfold PySem.W.ks_superIn at up
  rw [hD] at up
  have isV : PySem.W.Looks (model P w) h' (isInstance (.ref a) (.type "ValueError")) true := IA.type.andThen (PySem.W.looks_subIn KX' D.ve)
  refine PySem.W.kxs_getMethod PySem.W.kxs_ValueError es' (PySem.W.looks_opaque KX' D.any) (l₀ := cdD.mro) (fun A Q E s k q => wpAny_bind ((PySem.W.looks_clsIn KX' hD) A _ E s k (wpAny_pure q))) rfl KX' up isV nC (by decide) ?_
  have fr : H h'.objs.size = none := J.hok.fresh (Nat.le_refl _)
  have mw : (h'.push (PySem.W.kxs_mw "ValueError.__init__" a)).get? h'.objs.size = some (PySem.W.kxs_mw "ValueError.__init__" a) := Heap.get?_push_size _ rfl
  have J2 := J.laid (t' := tk + 1) (a := h'.objs.size) (o := MwO h'.objs.size a) (fun b u e => Heap.get?_push_of_some _ e) (Nat.le_refl _) (mwO_ok mw)
  have nua : a ≠ h'.objs.size := fun z => by rw [z, fr] at ea; cases ea
  refine callE (i := "ValueError.__init__") (x := a) he hpl ?_
  refine thn (ha.run p3 pins _ σ _ _ J2 (hq _ fr)) (fun us s2 z => ?_)
  obtain ⟨vs', H2, J3, r, hz, e2, fin⟩ := z
  subst e2
  refine ⟨(J3.hok _ _ upd_same).1, ?_⟩
  exact call_mw D.ox J3 (by rw [upd_ne nua]; exact ea) upd_same (by rw [List.nil_append, ← r.length]; exact hz) fun s' J4 => fin s' J4
end
end N

namespace N
open PySem PySem.Spec PyProof.Rows L2 NdefX
section
variable {P : Program} {w : World} {K : PySem.W.Frag} {mg : Str → Option Value} {base : Heap} {Nm ps : List Str} {k : Nat} {C f cc cda : Addr} {qual file : Str} {params : Arguments} {rest : List Stmt} {scope : Scope} {e : Expr} {es : List Expr} {p0 p1 p2 p3 p4 : Pos} {ar : Arg}
variable {oc dV kV doc pm ct : Value} {od an : Option Addr} {osl : Array (Option Value)}
abbrev supS (e : Expr) (es : List Expr) (p0 p1 p2 p3 p4 : Pos) : Stmt := .Expr (.Call (.Attribute (.Call (.Name "super" p0) [] [] p1) "__init__" p2) (e :: es) [] p3) p4
/-- an own __init__ that begins with super().__init__(e, ..): what it keeps -/
theorem ini_fn {sp : Sp} (D : IniC K file C f cc cda qual params (supS e es p0 p1 p2 p3 p4 :: rest) scope)
    (lk : K.lookup f = some ⟨oc, od, .func (PySem.W.ksFn "__init__" qual params (supS e es p0 p1 p2 p3 p4 :: rest) scope dV kV doc pm an (.ref cda) ct cc), osl⟩)
    (S : NScope Nm ps ["__class__"] scope) (hfile : ((P.main.file : Str) == file) = true) (htop : (P.main.scope.names.lookup ("super" : Str)).isSome = false)
    (hg : scope.names.lookup ("super" : Str) = some .globalImplicit) (hms : mg "super" = none) (har : (params.posonlyargs ++ params.args).head? = some ar) (h0 : Nm[0]? = some ar.arg) (hv0 : scope.names.lookup ar.arg = some .local)
    (len : ∀ vs H Q E, sp vs H Q E → vs.length = ps.length)
    (hbody : ∀ (A : Around) (outer : List Env) (s : Shared) (H : Hp) (vs : List V) (Q : VK) (E : XK), RoomG k (A.deeper (envF (iF qual params (supS e es p0 p1 p2 p3 p4 :: rest) scope cc cda) f s.heap.objs.size)) → sp vs H Q E →
      ∃ (a : Addr) (vr : List V) (t : TA) (tr : TS), vs = .ref a :: vr ∧ H a = some (exo a C none) ∧
        PA (ncx (L2.CX P w) P w K mg base Nm (iF qual params (supS e es p0 p1 p2 p3 p4 :: rest) scope cc cda) f A outer s H E) (e :: es) t ∧
        PSs (ncx (L2.CX P w) P w K mg base Nm (iF qual params (supS e es p0 p1 p2 p3 p4 :: rest) scope cc cda) f A outer s H E) rest tr ∧
        ∀ u, H u = none → ∃ ws : List V, ws.length ≤ sizeLine ∧ (∀ R : List V → Hp → Prop, R ws (upd H u (MwO u a)) → t (startF Nm vs [none]) (upd H u (MwO u a)) R) ∧ tr { nx := fun _ H' => Q .non H', rt := Q } (startF Nm vs [none]) (upd H u (MwO u a)))
    (he : ∀ L, starEach (e :: es) (envF (iF qual params (supS e es p0 p1 p2 p3 p4 :: rest) scope cc cda) f L) = (false, eval e (envF (iF qual params (supS e es p0 p1 p2 p3 p4 :: rest) scope cc cda) f L)) :: starEach es (envF (iF qual params (supS e es p0 p1 p2 p3 p4 :: rest) scope cc cda) f L))
    (hpl : ∀ L, (backTo p3 (starEach es (envF (iF qual params (supS e es p0 p1 p2 p3 p4 :: rest) scope cc cda) f L))).any (·.1) = false)
    (pl : Nat → Sem Bool) (hcl : ∀ L, eval (.Call (.Attribute (.Call (.Name "super" p0) [] [] p1) "__init__" p2) (e :: es) [] p3) (envF (iF qual params (supS e es p0 p1 p2 p3 p4 :: rest) scope cc cda) f L) = (do
      let ov ← attributeBase (.Call (.Name "super" p0) [] [] p1) "__init__" (envF (iF qual params (supS e es p0 p1 p2 p3 p4 :: rest) scope cc cda) f L) (eval (.Call (.Name "super" p0) [] [] p1) (envF (iF qual params (supS e es p0 p1 p2 p3 p4 :: rest) scope cc cda) f L))
      standAt p2.atName
      let (f', first) ← holding [ov] (getMethod ov "__init__" (pl L))
      callWith p3 f' first (backTo p3 (starEach (e :: es) (envF (iF qual params (supS e es p0 p1 p2 p3 p4 :: rest) scope cc cda) f L))) [])) :
    FnG P w K mg base (L2.CX P w) (k + 1) f (PySem.W.ksFn "__init__" qual params (supS e es p0 p1 p2 p3 p4 :: rest) scope dV kV doc pm an (.ref cda) ct cc) ps sp := by
  refine ⟨len, fun A outer s H args us vs Q E hr e0 hb r hsp => ?_⟩
  have KX : K.In s.heap := e0.mod.kin.keeps fun b o e => (e0.bs b o e).1
  have lim : s.heap.NoLimit := e0.mod.nolimit.keeps fun b o e => (e0.bs b o e).1
  have hl := len _ _ _ _ hsp
  obtain ⟨cl, cld, csl, lx⟩ := D.cell
  have CA : CellsAt [(("__class__" : Str), cc)] ["__class__"] [none] s.heap H := by
    have bc := e0.bs _ _ (e0.mod.kin _ _ lx)
    refine ⟨rfl, fun y c z => ?_, fun x y c z1 z2 => ?_, fun i y z => ?_⟩
    · have : c = cc := by
        simp only [List.lookup] at z
        split at z
        · exact (Option.some.inj z).symm
        · cases z
      subst this
      exact ⟨bc.2, _, _, bc.1, rfl⟩
    · simp only [List.lookup] at z1 z2
      split at z1
      · rename_i q1
        split at z2
        · rename_i q2
          rw [eq_of_beq q1, eq_of_beq q2]
        · cases z2
      · cases z1
    · match i, z with
      | 0, z =>
        have z' : (("__class__" : Str)) = y := Option.some.inj z
        subst z'
        exact ⟨cc, by simp [List.lookup], fun v q => by cases q⟩
      | i + 1, z => cases z
  refine ks_codeAny_call_defAt hr.depth (KX _ _ lk) rfl lim (PySem.W.codeRec_of KX D.code) rfl hb (fun x hx => S.nocell x hx) (fun ⟨n, _⟩ hy => S.par n (List.of_mem_zip hy).1) (fun h₀ hns kp => ?_) S.co S.gen S.kind
  obtain ⟨a, vr, t, tr, ev, ea, ha, hrest, hq⟩ := hbody A outer s H vs Q E (hr.deeper _) hsp
  have I := inv_startN (CX := L2.CX P w) (P := P) (w := w) (mg := mg) (E := E) (f := f) (F := iF qual params (supS e es p0 p1 p2 p3 p4 :: rest) scope cc cda) (N := Nm) (tk := s.toks + (ps.zip us).length) S hr.hd e0 hl r CA hns kp
  have hs0 : (startF Nm vs [none])[0]? = some (some (.ref a)) := by rw [ev]; rfl
  refine ks_wpAt_execs_cons ?_
  refine run_super (outer := outer) (s0 := s) (H0 := H) (E := E) D S hfile htop hg hms har h0 hv0 I hs0 ea ha (fun u hu => ?_) (he _) (hpl _) (hcl _)
  obtain ⟨ws, z1, z2, z3⟩ := hq u hu
  refine z2 _ ⟨z1, rfl, fun s' J => ?_⟩
  refine wpAt_of_wpAny ?_
  refine wpAny_mono (hrest.run [] s' _ _ _ J z3) (fun fl s'' hs => ?_) fun er s'' hs => hs
  cases fl with
  | ret v => obtain ⟨v', σ', H', J', rv, q⟩ := hs; exact ⟨v', H', J'.os, J'.bare, J'.base, J'.hok, rv, q⟩
  | next => obtain ⟨σ', H', J', q⟩ := hs; exact ⟨.non, H', J'.os, J'.bare, J'.base, J'.hok, rfl, q⟩
  | brk => obtain ⟨_, _, _, q⟩ := hs; exact False.elim q
  | cont => obtain ⟨_, _, _, q⟩ := hs; exact False.elim q
end
end N

namespace N
open PySem PySem.Spec PySem.HandSPX
section
variable {M : Model} {prog : Program} {w : World} {A : Around} {E : Value → Shared → Prop} {R : Result → Shared → Prop} {h : Heap} {g : Array GenState} {d : PySem.Drawn} {t : Nat} {os : OsState}
variable {nm q : Str} {C Na : Addr} {bs bm bmB : List Value} {hdct : Bool} {sn : List Str} {sub : List Value} {ab : Bool} {col : Option Bool} {dd : Option Addr} {k0 k1 k2 k3 k5 : Option Value} {B newId initId : String} {xs : List Value} {kw : List (Str × Value)}
/-- C(.., n=e): the same with names -/
theorem chkK (B0 : ExcBaseFacts B newId initId bmB) (hT : ∀ X : String, bm.contains (.type X) = bmB.contains (.type X)) {Q : Unit → Shared → Prop}
    (hC : h.get? C = some (excClassObj nm q C Na bs bm hdct sn sub ab col dd k0 k1 k2 k3 k5 newId)) (hq : Q () ⟨h, g, d, t, os⟩) : wpAny M A (checkBuiltinCall newId ⟨.ref C :: xs, kw⟩) Q E ⟨h, g, d, t, os⟩ := by
  have z1 : (Value.ref C :: bm).contains (.type B) = true := by rw [List.contains_cons, hT B]; exact (congrArg _ B0.hasB).trans (Bool.or_true _)
  have z2 := B0.noStar
  simp only [checkBuiltinCall, B0.newKind, B0.newSplit, B0.newRow]
  repeat (first | refine wpAny_loadPart_at hC ?_ | (refine wpAny_isSubtype_exc hC ?_; rw [z1]) | refine wpAny_staticBase_exc hC ?_ | refine wpAny_madeBy_exc hC ?_ | (simp only [bne_self_eq_false, Bool.false_eq_true, if_false]) | wp_step)
  exact hq
theorem newK (B0 : ExcBaseFacts B newId initId bmB) (hT : ∀ X : String, bm.contains (.type X) = bmB.contains (.type X))
    (hC : h.get? C = some (excClassObj nm q C Na bs bm hdct sn sub ab col dd k0 k1 k2 k3 k5 newId))
    (hq : R (.ok (.ret (.ref (h.objs.size + 1)))) ⟨(h.push (PySem.W.kdv_tup xs)).push (excO C h.objs.size), g, d, t, os⟩) (hz : xs.length ≤ sizeLine) :
    codeAny (model prog w) A (.builtin newId ⟨.ref C :: xs, kw⟩) R ⟨h, g, d, t, os⟩ := by
  have z0 := B0.ends
  have z1 : (Value.ref C :: bm).contains (.type B) = true := by rw [List.contains_cons, hT B]; exact (congrArg _ B0.hasB).trans (Bool.or_true _)
  have z2 : (Value.ref C :: bm).contains (.type "AttributeError") = false := by rw [List.contains_cons, hT _]; exact (congrArg _ B0.noAttr).trans rfl
  have z3 : (Value.ref C :: bm).contains (.type "NameError") = false := by rw [List.contains_cons, hT _]; exact (congrArg _ B0.noName).trans rfl
  refine codeAny_builtinAt B0.entry ?_
  unfold Builtin.«BaseException.__new__»
  refine wpAt_bind ?_
  show wpAt _ _ _ (stack >>= _) _ _ _
  refine wpAt_bind (wpAt_stack fun p below => PySem.wpAt_of_wpAny ?_)
  wp_walk
  refine PySem.wpAt_of_wpAny ?_
  rw [B0.owner]
  repeat (first | with_reducible refine wpAny_madeHere_exc B0.canon hC ?_ | with_reducible refine wpAny_loadPart_at hC ?_ | (with_reducible refine wpAny_isSubtype_exc hC ?_; first | rw [z1] | rw [z2] | rw [z3]) | wp_step)
  show R _ _
  rw [Heap.size_push]
  exact hq
theorem chkT (hC : h.get? C = some (excClassObj nm q C Na bs bm hdct sn sub ab col dd k0 k1 k2 k3 k5 newId)) {Q : Unit → Shared → Prop}
    (hq : Q () ⟨h, g, d, t, os⟩) : wpAny M A (checkBuiltinCall "type.__call__" ⟨.ref C :: xs, kw⟩) Q E ⟨h, g, d, t, os⟩ := by
  have z3 := tc_sub
  have z4 : (⟨h, g, d, t, os⟩ : Shared).TypeIs (.ref C) "type" := ⟨_, hC, rfl⟩
  simp only [checkBuiltinCall, tc_kind, tc_split]
  repeat (any_goals (first | assumption | with_reducible refine wpAny_loadPart_at hC ?_ | with_reducible refine wpAny_onRaise ?_ | with_reducible refine wpAny_map ?_ | wp_step))
theorem typeK (B0 : ExcBaseFacts B newId initId bmB) (hT : ∀ X : String, bm.contains (.type X) = bmB.contains (.type X)) {fI : Addr} {Q : PySem.Fin → Shared → Prop}
    (hC : h.get? C = some (excClassObj nm q C Na bs bm hdct sn sub ab col dd k0 k1 k2 k3 k5 newId)) (hz : xs.length ≤ sizeLine)
    (hi : W.Looks (model prog w) h (typeLookup (.ref C) "__init__") (some (.ref fI))) (hb : ∀ self, W.Looks (model prog w) h (bindSpecial (.ref fI) self) (.ref fI, [self]))
    (hq : codeAny (model prog w) A (.call (.ref fI) ⟨.ref (h.objs.size + 1) :: xs, kw⟩)
      (fun r s' => match r with | .ok (.ret v) => v = .none ∧ Q (.done (.ret (.ref (h.objs.size + 1)))) s' | .ok _ => False | .error e => E e s')
      ⟨(h.push (PySem.W.kdv_tup xs)).push (excO C h.objs.size), g, d, t, os⟩) :
    wpAny (model prog w) A (Builtin.«type.__call__» ⟨.ref C :: xs, kw⟩) Q E ⟨h, g, d, t, os⟩ := by
  repeat (first | with_reducible refine wpAny_loadPart_at hC ?_ | with_reducible refine wpAny_madeBy_exc hC ?_ | wp_step)
  refine codeAny_call_builtin_code (Code.quiet_builtin _ B0.quiet) (chkK B0 hT hC ?_)
  refine newK B0 hT hC ?_ hz
  show wpAny _ _ _ _ _ _
  have k : ∀ b o, h.get? b = some o → ((h.push (PySem.W.kdv_tup xs)).push (excO C h.objs.size)).get? b = some o := fun b o z => Heap.get?_push_of_some _ (Heap.get?_push_of_some _ z)
  have y1 := k _ _ hC
  have y2 : ((h.push (PySem.W.kdv_tup xs)).push (excO C h.objs.size)).get? (h.objs.size + 1) = some (excO C h.objs.size) := by heap_get
  have y3 : (Value.ref C :: bm).contains (.ref C) = true := by simp
  have y4 := hi.keeps k
  have y5 := (hb (.ref (h.objs.size + 1))).keeps k
  unfold isInstance
  repeat (first | with_reducible refine wpAny_loadPart_at y2 ?_ | (with_reducible refine wpAny_isSubtype_exc y1 ?_; rw [y3]) | wp_step)
  show wpAny _ _ (typeLookup (.ref C) _) _ _ _
  refine y4.at ?_
  refine wpAny_holding (wpAny_bind (y5.at ?_))
  refine wpAny_bind (wpAny_call (codeAny_mono hq fun r s' z => ?_))
  match r, z with
  | .error e, z => exact z
  | .ok (.ret v), z =>
    obtain ⟨rfl, z⟩ := z
    first
      | exact wpAny_pure (wpAny_pure z)
      | (wp_walk; exact z)
theorem callK (B0 : ExcBaseFacts B newId initId bmB) (hT : ∀ X : String, bm.contains (.type X) = bmB.contains (.type X)) {fI : Addr}
    (hC : h.get? C = some (excClassObj nm q C Na bs bm hdct sn sub ab col dd k0 k1 k2 k3 k5 newId)) (hz : xs.length ≤ sizeLine)
    (hi : W.Looks (model prog w) h (typeLookup (.ref C) "__init__") (some (.ref fI))) (hb : ∀ self, W.Looks (model prog w) h (bindSpecial (.ref fI) self) (.ref fI, [self]))
    (hq : codeAny (model prog w) (A.under (.builtin "type.__call__" ⟨.ref C :: xs, kw⟩)) (.call (.ref fI) ⟨.ref (h.objs.size + 1) :: xs, kw⟩) (W.InitBack (h.objs.size + 1) R)
      ⟨(h.push (PySem.W.kdv_tup xs)).push (excO C h.objs.size), g, d, t, os⟩) :
    codeAny (model prog w) A (.call (.ref C) ⟨xs, kw⟩) R ⟨h, g, d, t, os⟩ := by
  have z1 := tc_lookup
  have z2 := tc_bind (.ref C)
  have z3 : (⟨h, g, d, t, os⟩ : Shared).TypeIs (.ref C) "type" := ⟨_, hC, rfl⟩
  refine codeAny_of_tree ?_
  show wpAny _ _ (callAny (.ref C) _) _ _ _
  repeat (any_goals (first | assumption | with_reducible refine wpAny_loadPart_at hC ?_ | wp_step))
  refine ⟨rfl, ?_⟩
  refine codeAny_call_builtin_at (Code.quiet_builtin _ (by decide +kernel)) entry_typeCall (chkT hC (typeK B0 hT hC hz hi hb ?_))
  refine codeAny_mono hq fun r s' z => ?_
  match r, z with
  | .error e, z => exact z
  | .ok (.ret v), z => exact z
end
end N

namespace N
open PySem PySem.Spec PyProof.Rows L2
theorem RoomG.made {k : Nat} {A : Around} (r : RoomG (k + 1) A) (C : Addr) (us : List Value) (kw : List (Str × Value)) : RoomG k (A.under (.builtin "type.__call__" ⟨.ref C :: us, kw⟩)) :=
  ⟨r.toRoom.make C us kw, (by show pushGuards (Code.builtin "type.__call__" ⟨.ref C :: us, kw⟩).guards A.guards = some []; rw [r.gs]; rfl)⟩
/-- what is needed of a class with an own __init__ -/
structure OwnC (P : Program) (w : World) (K : PySem.W.Frag) (mg : Str → Option Value) (base : Heap) (k : Nat) (x : Str) (C : Addr) (fI : Addr) (fd : FuncData) (ps : List Str) (sp : Sp) : Prop where
  gl : mg x = some (.ref C)
  ox : OexC K C
  ini : PySem.W.findIn K (.ref C) "__init__" = some (some (.ref fI))
  tyf : PySem.W.typeIn K (.ref fI) = some (.type "function")
  fn : FnG P w K mg base (L2.CX P w) k fI fd ps sp
section
variable {X : Cx} {k n : Nat} {fI C : Addr} {fd : FuncData} {ps ks : List Str} {sp : Sp} {x : Str} {p pos : Pos} {e : Expr} {es : List Expr} {kws : List Keyword} {t tk : TA} {g : List Value → List Value → List Value} {gV : List V → List V → List V}
theorem run_own {pins : List (Addr × Obj)} {σ : L2.St} {H : Hp} {s : Shared} {Q : VK} {us ws : List Value} {vs zs : List V} (T : OwnC X.prog X.w X.K X.mg X.base k x C fI fd ps sp) (hr : RoomG (k + 1) X.A) (hb : KBn X.K fd ps (n + 1) ks g gV)
    (I : Inv X pins σ H s) (r : Vals vs us) (rz : Vals zs ws) (l1 : vs.length = n) (l2 : zs.length = ks.length) (hz : n ≤ 1000)
    (h : ∀ a, H a = none → sp (gV (.ref a :: vs) zs) (upd H a (exo a C none)) (fun v H2 => v = .non ∧ Q (.ref a) H2) E0) :
    wpAny (model X.prog X.w) X.A (call (.ref C) us (ks.zip ws)) (EP X pins σ Q) X.xe s := by
  obtain ⟨nm, q, Na, bs, bm, sn, sub, ab, col, dd, k0, k1, k2, k3, k5, hC, hbm⟩ := T.ox.cls
  obtain ⟨hp, gg, dr, tk, os⟩ := s
  have lt : hp.objs.size ≤ hp.objs.size + 1 := Nat.le_succ _
  have hn : H (hp.objs.size + 1) = none := I.hok.fresh lt
  have hq := h (hp.objs.size + 1) hn
  have kk : ∀ b o, hp.get? b = some o → ((hp.push (PySem.W.kdv_tup us)).push (PySem.HandSPX.excO C hp.objs.size)).get? b = some o := fun b o z => Heap.get?_push_of_some _ (Heap.get?_push_of_some _ z)
  have hg : ((hp.push (PySem.W.kdv_tup us)).push (PySem.HandSPX.excO C hp.objs.size)).get? (hp.objs.size + 1) = some (PySem.HandSPX.excO C hp.objs.size) := by heap_get
  have I2 : Inv X pins σ (upd H (hp.objs.size + 1) (exo (hp.objs.size + 1) C none)) ⟨(hp.push (PySem.W.kdv_tup us)).push (PySem.HandSPX.excO C hp.objs.size), gg, dr, tk, os⟩ :=
    I.laid (t' := tk) (a := hp.objs.size + 1) (o := exo (hp.objs.size + 1) C none) kk lt (exo_ok hg)
  have r1 : Vals (V.ref (hp.objs.size + 1) :: vs) (Value.ref (hp.objs.size + 1) :: us) := .cons rfl r
  have r2 := hb.rel r1 rz
  have n1 : (Value.ref (hp.objs.size + 1) :: us).length = n + 1 := by
    rw [List.length_cons, ← r.length, l1]
  have hus : us.length ≤ sizeLine := by
    rw [← r.length, sizeLine_eq]
    omega
  refine wpAny_call (callK PySem.F.excBase_ValueError (fun Y => PySem.HandSPX.refsVE_contains Y bm hbm) (I.kIn _ _ hC) hus (PySem.W.looks_findIn I.kIn T.ini) (fun self => PySem.W.bind_fn I.kIn self T.tyf)
    (codeAny_mono (T.fn.run _ X.stack _ _ ⟨Value.ref (hp.objs.size + 1) :: us, ks.zip ws⟩ (g (Value.ref (hp.objs.size + 1) :: us) ws) _ _ E0 (hr.made C us (ks.zip ws)) (I2.env0.make C us (ks.zip ws))
      (hb.to _ (Value.ref (hp.objs.size + 1) :: us) ws I2.kIn n1 (rz.length.symm.trans l2)) r2 hq) fun r s' hq' => ?_))
  match r, hq' with
  | .error er, hq' => exact passL pins σ _ _ er s' I2 hq'
  | .ok (.ret u), hq' =>
    obtain ⟨v, H', I3, rv, ev, q3⟩ := I2.after hq'
    subst ev
    exact ⟨rv, ⟨V.ref (hp.objs.size + 1), H', I3, rfl, q3⟩⟩
/-- C(e, ..) as a value -/
theorem pe_own (T : OwnC X.prog X.w X.K X.mg X.base k x C fI fd ps sp) (hr : RoomG (k + 1) X.A) (hb : KBn X.K fd ps (n + 1) [] g gV) (hz : n ≤ 1000) (hg : Gl X x) (ha : PA X (e :: es) t) (hdb : (x == ("__debug__" : Str)) = false := by decide)
    (he : starEach (e :: es) X.env = (false, eval e X.env) :: starEach es X.env := by rfl) (hpl : (backTo pos (starEach es X.env)).any (·.1) = false := by rfl) :
    PE X (.Call (.Name x p) (e :: es) [] pos) (fun σ H Q => t σ H fun vs H1 => vs.length = n ∧ ∀ a, H1 a = none → sp (gV (.ref a :: vs) []) (upd H1 a (exo a C none)) (fun v H2 => v = .non ∧ Q (.ref a) H2) E0) := by
  refine ⟨fun pins s σ H Q I h => wpAny_Call_Name_kw (ld_glob I hg T.gl ?_ hdb)⟩
  refine PySem.W.callWith_K (h₀ := X.base) I.ok.mod.kin T.ox.kC (thn (ha.run pos pins s σ H _ I h) fun us s1 ⟨vs, H1, J, r, l, q⟩ => ⟨J.kIn, ?_⟩) he hpl
  exact run_own (ks := []) (ws := []) (zs := []) T hr hb J r .nil l rfl hz q
/-- C(n=e, ..) as a value -/
theorem pe_ownK (T : OwnC X.prog X.w X.K X.mg X.base k x C fI fd ps sp) (hr : RoomG (k + 1) X.A) (hb : KBn X.K fd ps 1 ks g gV) (hg : Gl X x) (hkw : PK X kws tk)
    (hall : (backToKw pos (keywordEach kws X.env)).all (·.1.isSome) = true := by rfl) (hks : (backToKw pos (keywordEach kws X.env)).filterMap (·.1) = ks := by rfl) (hdb : (x == ("__debug__" : Str)) = false := by decide)
    (hpl : ((backTo pos (starEach [] X.env)).any (·.1) || (backToKw pos (keywordEach kws X.env)).any (·.1.isNone)) = false := by rfl) :
    PE X (.Call (.Name x p) [] kws pos) (fun σ H Q => tk σ H fun zs H1 => zs.length = ks.length ∧ ∀ a, H1 a = none → sp (gV [.ref a] zs) (upd H1 a (exo a C none)) (fun v H2 => v = .non ∧ Q (.ref a) H2) E0) := by
  refine ⟨fun pins s σ H Q I h => wpAny_Call_Name_kw (ld_glob I hg T.gl ?_ hdb)⟩
  refine PySem.W.callWith_KW0 (h₀ := X.base) I.ok.mod.kin T.ox.kC hall ?_ hpl
  refine thn (hkw.run pos pins s σ H _ I h) fun ws s2 ⟨zs, H2, J, rz, l2, q2⟩ => ⟨J.kIn, ?_⟩
  rw [hks]
  exact run_own (n := 0) (us := []) (vs := []) T hr hb J .nil rz rfl l2 (Nat.zero_le _) q2
end
end N

namespace N
open PySem
abbrev turS : Stmt := topS 10
end N

namespace N
open PySem PySem.Spec PyProof.Rows L2 NdefX
/-! ### raise Turned(e, e2) (as U3 and X10 do for the three) -/

def clsBody : Stmt → List Stmt
  | .ClassDef _ _ _ b _ _ _ _ _ _ _ => b
  | _ => []
def turI : Stmt := (clsBody turS).getD 0 (.Pass ⟨0, 0, 0, 0⟩)
/-- all but a -/
def But (a : Addr) (H H' : Hp) : Prop := ∀ b o, b ≠ a → H b = some o → H' b = some o
def okT : List V → Hp → Prop := fun ys _ => ∀ y ∈ ys, ∃ z : Str, y = .str z ∧ z.length ≤ sizeLine
/-- what such an __init__ keeps, its dict being new -/
def spIniF (C : Addr) (n : Nat) (ok : List V → Hp → Prop) (fs : List V → List (Str × V)) : Sp := fun vs H Q _ => ∃ (a : Addr) (ys : List V), vs = .ref a :: ys ∧ ys.length = n ∧ H a = some (exo a C none) ∧ ok ys H ∧ ∀ H' dx, But a H H' → H dx = none → dx ≠ a → H' a = some (exo a C (some dx)) → H' dx = some (exd dx (fs ys)) → Q .non H'
section
variable {P : Program} {w : World} {K : PySem.W.Frag} {mg : Str → Option Value} {base : Heap} {C f cc cda : Addr} {file : Str} {oc dV kV doc pm ct : Value} {od an : Option Addr} {osl : Array (Option Value)}
theorem nsc_Turned : NScope ["self", "name", "letter", "__class__"] ["self", "name", "letter"] ["__class__"] (defScope (turI)) := nscope_by (by decide +kernel)
theorem inf_Turned (hms : mg "super" = none) (hfile : ((P.main.file : Str) == file) = true) (htop : (P.main.scope.names.lookup ("super" : Str)).isSome = false) (D : IniC K file C f cc cda "Turned.__init__" (defArgs (turI)) (defBody (turI)) (defScope (turI))) (n0 : PySem.W.findIn K (.ref C) "name" = some none) (n1 : PySem.W.findIn K (.ref C) "letter" = some none)
    (lk : K.lookup f = some ⟨oc, od, .func (PySem.W.ksFn "__init__" "Turned.__init__" (defArgs (turI)) (defBody (turI)) (defScope (turI)) dV kV doc pm an (.ref cda) ct cc), osl⟩) :
    FnG P w K mg base (L2.CX P w) 2 f (PySem.W.ksFn "__init__" "Turned.__init__" (defArgs (turI)) (defBody (turI)) (defScope (turI)) dV kV doc pm an (.ref cda) ct cc) ["self", "name", "letter"] (spIniF C 2 okT (fun (ys : List V) => [("letter", ys.getD 1 .non), ("name", ys.getD 0 .non)])) := by
  refine ini_fn (Nm := ["self", "name", "letter", "__class__"]) (k := 1) (ar := (defArgs (turI)).args.getD 0 default) D lk nsc_Turned hfile htop rfl hms rfl rfl rfl (fun vs H Q E h => ?_) (fun A outer s H vs Q E hr h => ?_) (fun _ => rfl) (fun _ => rfl) _ (fun _ => rfl)
  · obtain ⟨a, ys, rfl, hl, _⟩ := h
    rw [List.length_cons, hl]
    rfl
  obtain ⟨a, ys, rfl, hl, ea, hok, q⟩ := h
  refine ⟨a, ys, _, _, rfl, ea, (pa_cons (pe_joined1 (pe_fmt (pv 1))) (pa_cons (pe_joined1 (pe_fmt (pv 2))) pa_nil)), (pss_cons (ps_ost (pv 0) (pv 1)) (pss_one (ps_ost (pv 0) (pv 2)))), fun u hu => ?_⟩
  obtain ⟨y, y', rfl⟩ : ∃ y y', ys = [y, y'] := by
    match ys, hl with
    | [y, y'], _ => exact ⟨y, y', rfl⟩
  obtain ⟨z, rfl, hz⟩ := hok y List.mem_cons_self
  obtain ⟨z', rfl, hz'⟩ := hok y' (List.mem_cons_of_mem _ List.mem_cons_self)
  refine ⟨[.str z, .str z'], by show 2 ≤ sizeLine; decide, fun R hR => ⟨_, rfl, .inl ⟨z, rfl, hz, _, rfl, .inl ⟨z', rfl, hz', hR⟩⟩⟩, ?_⟩
  have nau : a ≠ u := ne_of_none ea hu
  refine ⟨_, rfl, _, rfl, a, C, rfl, D.ox, n0, .inl ⟨by rw [upd_ne nau]; exact ea, fun dx hdx hda => ?_⟩⟩
  have old : ∀ b o, H b = some o → b ≠ u ∧ b ≠ dx := fun b o z => ⟨ne_of_none z hu, ne_of_none (by rw [upd_ne (ne_of_none z hu)]; exact z) hdx⟩
  refine ⟨_, rfl, _, rfl, a, C, rfl, D.ox, n1, .inr ⟨dx, _, upd_same, by rw [upd_ne hda]; exact upd_same, by show 1 ≤ 900; decide, ?_⟩⟩
  exact q _ dx (fun b o hb z => by rw [upd_ne (old b o z).2, upd_ne hb, upd_ne (old b o z).2, upd_ne (old b o z).1]; exact z) (upd_none hdx) hda (by rw [upd_ne (Ne.symm hda)]; exact upd_same) upd_same

end
section
variable {X : Cx} {k : Nat} {C fI : Addr} {fd : FuncData} {ps : List Str} {sp : Sp} {x : Str} {p pos pos' : Pos} {e e2 : Expr} {es : List Expr} {ta : TA} {te te2 : TE} {W : WX}
theorem pmk_oexG (T : OwnC X.prog X.w X.K X.mg X.base k x C fI fd ps sp) (hr : RoomG (k + 1) X.A) (hb : Binds X.K fd ps []) (hg : Gl X x) (ha : PA X (e :: es) ta)
    (hdb : (x == ("__debug__" : Str)) = false := by decide) (he : starEach (e :: es) X.env = (false, eval e X.env) :: starEach es X.env := by rfl) (hpl : (backTo pos (starEach es X.env)).any (·.1) = false := by rfl) :
    PMk X (.Call (.Name x p) (e :: es) [] pos) (tMkO C sp [] ta) := by
  intro pins s σ H Q I h
  obtain ⟨nm, q, N, bs, bm, sn, sub, ab, col, dd, k0, k1, k2, k3, k5, hC, hbm⟩ := T.ox.cls
  refine wpAny_Call_Name_kw (ld_glob I hg T.gl ?_ hdb)
  refine PySem.W.callWith_K (h₀ := X.base) I.ok.mod.kin T.ox.kC (thn (ha.run pos pins s σ H _ I h) fun us s1 ⟨vs, H1, I1, r1, hz, q1⟩ => ⟨I1.kIn, ?_⟩) he hpl
  show wpAny _ _ (call (.ref C) us) _ _ _
  obtain ⟨hp, g, dr, tk, os⟩ := s1
  have hsz : hp.objs.size ≤ hp.objs.size + 1 := Nat.le_succ _
  have hn : H1 (hp.objs.size + 1) = none := I1.hok.fresh hsz
  have hq := q1 (hp.objs.size + 1) hn
  rw [List.append_nil] at hq
  have kk : ∀ b o, hp.get? b = some o → ((hp.push (PySem.W.kdv_tup us)).push (PySem.HandSPX.excO C hp.objs.size)).get? b = some o := fun b o e => Heap.get?_push_of_some _ (Heap.get?_push_of_some _ e)
  have hget : ((hp.push (PySem.W.kdv_tup us)).push (PySem.HandSPX.excO C hp.objs.size)).get? (hp.objs.size + 1) = some (PySem.HandSPX.excO C hp.objs.size) := by heap_get
  have I2 : Inv X pins σ (upd H1 (hp.objs.size + 1) (exo (hp.objs.size + 1) C none)) ⟨(hp.push (PySem.W.kdv_tup us)).push (PySem.HandSPX.excO C hp.objs.size), g, dr, tk, os⟩ :=
    I1.laid (t' := tk) (a := hp.objs.size + 1) (o := exo (hp.objs.size + 1) C none) (h' := (hp.push (PySem.W.kdv_tup us)).push (PySem.HandSPX.excO C hp.objs.size)) kk hsz (exo_ok hget)
  have r2 : Vals (V.ref (hp.objs.size + 1) :: vs) (Value.ref (hp.objs.size + 1) :: us) := .cons rfl r1
  have hl : (Value.ref (hp.objs.size + 1) :: us).length = ps.length := by
    have e := r2.length
    rw [T.fn.len _ _ _ _ hq] at e
    exact e.symm
  have hus : us.length ≤ sizeLine := by
    rw [← Paired.length r1, sizeLine_eq]
    omega
  have hbd := hb ⟨(hp.push (PySem.W.kdv_tup us)).push (PySem.HandSPX.excO C hp.objs.size), g, dr, tk, os⟩ (Value.ref (hp.objs.size + 1) :: us) I2.kIn (by rw [List.append_nil]; exact hl)
  rw [List.append_nil] at hbd
  refine wpAny_call (PySem.HandSPX.call_own F.excBase_ValueError (fun Y => PySem.HandSPX.refsVE_contains Y bm hbm) (I1.kIn _ _ hC) (PySem.W.looks_findIn I1.kIn T.ini) (fun self => PySem.W.bind_fn I1.kIn self T.tyf) hus
    (codeAny_mono (T.fn.run _ X.stack _ _ ⟨Value.ref (hp.objs.size + 1) :: us, []⟩ (Value.ref (hp.objs.size + 1) :: us) _ _ E0 (hr.made C us []) (I2.env0.make C us []) hbd r2 hq) fun r s' hq' => ?_))
  cases r with
  | error er => exact passL pins σ _ _ er s' I2 hq'
  | ok fl =>
    cases fl with
    | ret u =>
      obtain ⟨v, H2, os2, bare2, un2, hok2, rv, ev, d, fs, ea, ed, hd1, q2⟩ := hq'
      subst ev
      obtain ⟨h2, g2, d2, t2, os'⟩ := s'
      exact ⟨rv, mk_end (raises_own T.ox.exC T.ox.tyC) I1 hsz kk un2 hok2 os2 bare2 ea ed hd1 q2⟩
    | next => exact False.elim hq'
    | brk => exact False.elim hq'
    | cont => exact False.elim hq'
end
theorem psImp {X : Cx} {st : Stmt} {t t' : TS} (h : PS X st t) (q : ∀ D σ H, t' D σ H → t D σ H) : PS X st t' := ⟨fun pins s σ H D I z => h.run pins s σ H D I (q _ _ _ z)⟩
structure Ra2 (P : Program) (w : World) (K : PySem.W.Frag) (mg : Str → Option Value) (base : Heap) (x : Str) (C : Addr) : Prop where
  o : ∃ (fI : Addr) (fd : FuncData), OwnC P w K mg base 2 x C fI fd ["self", "name", "letter"] (spIniF C 2 okT fun ys => [("letter", ys.getD 1 .non), ("name", ys.getD 0 .non)]) ∧ Binds K fd ["self", "name", "letter"] []
section
variable {X : Cx} {C : Addr} {x : Str} {p pos pos' : Pos} {e e2 : Expr} {te te2 : TE} {W : WX}
theorem raised_same {H1 H2 : Hp} {a C d : Addr} {fs : List (Str × V)} (ha : H1 a = none) (hd : H1 d = none) (b : But a (upd H1 a (exo a C none)) H2) : Same H1 (upd (del H2 a) d (.xd fs)) := fun q o z => by
  have n1 : q ≠ a := ne_of_none z ha
  have n2 : q ≠ d := ne_of_none z hd
  rw [upd_ne n2, del_ne n1]
  exact b q o n1 (by rw [upd_ne n1]; exact z)
def tRa2 (C : Addr) (W : WX) (te te2 : TE) : TS := fun _ σ H => tMkO C (spIniF C 2 okT fun ys => [("letter", ys.getD 1 .non), ("name", ys.getD 0 .non)]) [] (tCons te (tCons te2 tNil)) σ H fun cls d H' => W cls d σ H'
theorem ps_ra2 (O : Ra2 X.prog X.w X.K X.mg X.base x C) (hc : X.calm = true) (tk : Takes X W) (hr : RoomG 3 X.A) (hg : Gl X x) (he : PE X e te) (he2 : PE X e2 te2) (hdb : (x == ("__debug__" : Str)) = false := by decide)
    (hst : starEach [e, e2] X.env = (false, eval e X.env) :: starEach [e2] X.env := by rfl) (hst2 : starEach [e2] X.env = (false, eval e2 X.env) :: starEach [] X.env := by rfl) (hpl : (backTo pos (starEach [e2] X.env)).any (·.1) = false := by rfl) : PS X (.Raise (some (.Call (.Name x p) [e, e2] [] pos)) none pos') (tRa2 C W te te2) := by
  obtain ⟨fI, fd, O, hb⟩ := O.o
  exact ps_raise hc tk (pmk_oexG O hr hb hg (pa_cons he (pa_cons he2 pa_nil hst2) hst) hdb hst hpl)
theorem ra2_q {H1 : Hp} {n l : Str} {Q : XK} (hn : n.length ≤ 1000) (hl : l.length ≤ 1000) (q : ∀ H' dd, Same H1 H' → H' dd = some (.xd [("letter", .str l), ("name", .str n)]) → Q (.ref C) (some dd) H') :
    ([V.str n, V.str l] : List V).length ≤ 1000 ∧ ∀ a, H1 a = none → spIniF C 2 okT (fun ys => [("letter", ys.getD 1 .non), ("name", ys.getD 0 .non)]) (.ref a :: ([V.str n, V.str l] ++ [])) (upd H1 a (exo a C none))
      (fun v H2 => v = .non ∧ ∃ (d : Addr) (fs : List (Str × V)), H2 a = some (exo a C (some d)) ∧ H2 d = some (exd d fs) ∧ H1 d = none ∧ Q (.ref C) (some d) (upd (del H2 a) d (.xd fs))) (fun _ _ _ => False) := by
  refine ⟨by show 2 ≤ 1000; decide, fun a ha => ⟨a, [.str n, .str l], rfl, rfl, upd_same, fun y hy => ?_, fun H' dx b hdx hda e1 e2 => ⟨rfl, dx, _, e1, e2, ?_, ?_⟩⟩⟩
  · simp only [List.mem_cons, List.not_mem_nil, or_false] at hy
    rcases hy with rfl | rfl
    · exact ⟨n, rfl, sz5 (by omega)⟩
    · exact ⟨l, rfl, sz5 (by omega)⟩
  · exact upd_none hdx
  · exact q _ dx (raised_same ha (upd_none hdx) b) upd_same
end
end N

namespace N
open PySem PySem.Spec PyProof.Rows L2 StX
/-! ### check_parents, of any classes that fit -/
theorem take_all {α : Type} {p : α → Prop} {l : List α} {j : Nat} {x : α} (h : ∀ d ∈ l.take j, p d) (e : l[j]? = some x) (hx : p x) : ∀ d ∈ l.take (j + 1), p d := fun d hd => by
  rw [take_one' e] at hd
  rcases List.mem_append.mp hd with z | z
  · exact h d z
  · rw [List.mem_singleton.mp z]
    exact hx
theorem let_short {x : Str} (h : isLet x = true) : x.length ≤ 1000 := by
  unfold isLet at h
  simp only [Bool.and_eq_true, decide_eq_true_eq] at h
  omega
theorem some_at {cs0 : List Cls} : ∀ {cs : List Cls} {j : Nat} {c : Cls} {l : Str}, (∀ d ∈ cs.take j, d.badP cs0 = none) → cs[j]? = some c → c.badP cs0 = some l → (cs.findSome? fun c => (c.badP cs0).map fun l => (c.nm, l)) = some (c.nm, l)
  | [], j, c, l, _, h, _ => by simp at h
  | y :: cs, 0, c, l, _, h, hb => by
    simp only [List.getElem?_cons_zero, Option.some.injEq] at h
    subst h
    rw [List.findSome?_cons, hb]
    rfl
  | y :: cs, j + 1, c, l, ha, h, hb => by
    have hy := ha y (by simp)
    rw [List.findSome?_cons, hy]
    exact some_at (j := j) (fun d hd => ha d (by rw [List.take_succ_cons]; exact List.mem_cons_of_mem _ hd)) (by simpa using h) hb
section
variable {P : Program} {w : World} {K : PySem.W.Frag} {mg : Str → Option Value} {base : Heap} {CT : Addr}
def spParsX (K : PySem.W.Frag) (CT : Addr) : Sp := fun vs H Q E => ∃ (a : Addr) (cs : List Cls), vs = [.ref a] ∧ CsAt K H a cs ∧ FormsOk cs ∧ (∀ c ∈ cs, ∀ k ∈ c.ks, k.fits (arOf cs) (c.ps.map Prod.fst)) ∧ (turnOf cs = none → ∀ H', Same H H' → Q .non H') ∧
  (∀ n l, turnOf cs = some (n, l) → ∀ H' dd, Same H H' → H' dd = some (.xd [("letter", .str l), ("name", .str n)]) → E (.ref CT) (some dd) H')
theorem ok_parsX (G : Glo mg) (RT : Ra2 P w K mg base "Turned" CT) (hPL : ∃ t, mg "PLUS" = some (.str "+" t)) (CV : Cal P w K mg base 1 "variances_of" ["classes"] (spDct K FVr)) (CS : Cal P w K mg base 2 "signed_letters" ["kind", "sign", "variances"] (spSgl K)) (CW : Cal P w K mg base 2 "wrong_letters" ["parameters", "places"] (spWrongX K))
    (D : DefAt K mg "check_parents" s_check_parents ["classes"]) : Cal P w K mg base 4 "check_parents" ["classes"] (spParsX K CT) := by
  obtain ⟨tp, hpl⟩ := hPL
  refine D.cal sc_check_parents (fun vs H Q E h => ?_) (fun f cdv A outer s H vs Q E hr h => ?_)
  · obtain ⟨v, p, rfl, _⟩ := h
    rfl
  obtain ⟨a, cs, rfl, ⟨xs, hq, hp⟩, F, T, q1, q2⟩ := h
  have hr2 : RoomG 2 (A.deeper (envOfC "check_parents" (defScope s_check_parents) s.heap.objs.size f cdv)) := hr.mono (by decide)
  have n5 := F.n5
  refine ⟨_, pss_cons (ps_set (i := 1) sc_check_parents.nd rfl (by first | exact Or.inl rfl | exact Or.inr rfl) (pc CV (hr.mono (by decide)) rfl (pa_cons (pv 0) pa_nil)))
    (pss_one (ps_for (passes_of rfl) rfl (pi_tup (pv 0)) (pg_tup (by rfl) (pgs_cons (pg_name (i := 2) sc_check_parents.nd rfl (by first | exact Or.inl rfl | exact Or.inr rfl)) (pgs_cons (pg_name (i := 3) sc_check_parents.nd rfl (by first | exact Or.inl rfl | exact Or.inr rfl)) (pgs_cons (pg_name (i := 4) sc_check_parents.nd rfl (by first | exact Or.inl rfl | exact Or.inr rfl)) (pgs_cons (pg_name (i := 5) sc_check_parents.nd rfl (by first | exact Or.inl rfl | exact Or.inr rfl)) pgs_nil)))))
      (pss_cons (ps_setLc2 (i := 6) (own := [("parent", 7), ("place", 8)]) (vs1 := [8]) (g := gName 7) (tt := tYes) (g1 := gName 8) (tt1 := tYes) (te := tVar 8) (wi1 := iList K (fun σ H Q => tCons (tVar 7) (tCons (tC (.str "+")) (tCons (tVar 1) tNil)) σ H fun vs H1 => spSgl K vs H1 Q E0)) rfl sc_check_parents.nd rfl rfl (sw_true rfl rfl rfl (by decide +kernel)) (pi_tup (pv 4)) (blkOk_by (N := nm_check_parents) (sc := defScope s_check_parents) (own := [("parent", 7), ("place", 8)]) (by decide +kernel)) (by decide)
        (fun _ _ _ _ _ => pg_name (i := 7) sc_check_parents.nd rfl (Or.inl rfl)) (fun _ _ _ _ _ => pts_nil) (fun _ _ _ _ _ => pi_list (pc CS hr2 rfl (pa_cons (pv 7) (pa_cons (pe_glob (v := .str "+") rfl hpl ⟨_, rfl⟩) (pa_cons (pv 1) pa_nil)))))
        (fun _ _ _ _ _ => pg_name (i := 8) sc_check_parents.nd rfl (Or.inl rfl)) (fun _ _ _ _ _ => pts_nil) (fun _ _ _ _ _ => pv 8))
      (pss_cons (ps_set (i := 9) sc_check_parents.nd rfl (by first | exact Or.inl rfl | exact Or.inr rfl) (pc CW hr2 rfl (pa_cons (pv 3) (pa_cons (pv 6) pa_nil))))
      (pss_one (ps_if (pt_truth (pv 9) (by intro _; rfl)) (pss_one (ps_ra2 RT rfl (takes_of rfl rfl rfl rfl) hr (by rfl) (pv 2) (pe_ix ix_tup (pe_ix ix_list (pv 9) pe_int (fun _ _ => rfl)) pe_int (fun _ _ => rfl)))) pss_nil)))))), ?_⟩
  refine ⟨_, rfl, a, cs, rfl, ⟨xs, hq, hp⟩, by omega, F.nd, F.ok, fun H1 d kvs s1 hd hd0 e2 e3 => ?_⟩
  have dl : DctAt FVr H1 d cs := ⟨kvs, .inl hd, e2, e3⟩
  refine ⟨_, rfl, a, rfl, ⟨xs, (stay_same s1).tup _ _ hq⟩, ?_⟩
  refine for_tup (K := K) (a := a) (xs := xs) (fun j σ H' => ∃ y2 y3 y4 y5 y6 y7 y8 y9, σ = [some (.ref a), some (.ref d), y2, y3, y4, y5, y6, y7, y8, y9] ∧ Same H1 H' ∧ ∀ c ∈ cs.take j, c.badP cs = none) ⟨_, _, _, _, _, _, _, _, rfl, Same.refl _, fun c h => by simp at h⟩ (fun j σ H' _ ⟨_, _, _, _, _, _, _, _, _, sm, _⟩ => (stay_same (s1.trans sm)).tup _ _ hq) (fun j x σ H' hxj ⟨y2, y3, y4, y5, y6, y7, y8, y9, eσ, sm, hall⟩ => ?_) (fun σ H' ⟨_, _, _, _, _, _, _, _, _, sm, hall⟩ => ?_)
  case refine_2 =>
    refine q1 ?_ _ (s1.trans sm)
    rw [show xs.length = cs.length from Paired.length hp, List.take_length] at hall
    unfold turnOf
    rw [List.findSome?_eq_none_iff]
    intro c hc
    rw [hall c hc]
    rfl
  subst eσ
  obtain ⟨c, hc1, hc2⟩ := pairedAt hp hxj
  have hcm := List.mem_of_getElem? hc1
  have ok := F.ok c hcm
  obtain ⟨ac, ap, ak, am, rfl, qc, hap, hak, ham⟩ := hc2.stay (stay_same (s1.trans sm))
  obtain ⟨ks, hk, hkp⟩ := hak
  have hkl : ks.length = c.ks.length := Paired.length hkp
  have k2 := ok.k2
  refine ⟨ac, _, rfl, qc, rfl, _, _, rfl, _, _, rfl, _, _, rfl, _, _, rfl, rfl, ?_⟩
  refine ⟨_, rfl, ak, rfl, ⟨ks, hk⟩, fun B hB => ?_⟩
  have sB := same_new hB (.lst [])
  refine lc2_tup (K := K) (a := ak) (xs := ks) (fun i H2 => Same H' H2 ∧ ∃ acc, H2 B = some (.lst acc) ∧ Paired (Pp K H2) acc ((c.ks.take i).flatMap fun k => k.sgl (vrOf cs) "+") ∧ acc.length ≤ 13 * i) ⟨sB, [], upd_same, .nil, Nat.zero_le _⟩ (fun i H2 ⟨s2, _⟩ => (stay_same s2).tup _ _ hk) (fun i u H2 hu ⟨s2, acc, hacc, hpa, hal⟩ => ?_) (fun H2 ⟨s2, acc, hacc, hpa, hal⟩ => ?_)
  · obtain ⟨kd, hk1, hk2⟩ := pairedAt hkp hu
    have hkm := List.mem_of_getElem? hk1
    have hi : i < ks.length := (List.getElem?_eq_some_iff.mp hu).1
    obtain ⟨ok1, ok2, ok3, ok4⟩ := ok.kk kd hkm
    have fit := T c hcm kd hkm
    have hns := nds_size kd
    refine ⟨rfl, ?_⟩
    unfold tYes
    dsimp only
    rw [if_pos rfl]
    refine ⟨u, rfl, _, rfl, u, kd, "+", d, cs, c.ps.map Prod.fst, rfl, Th.stay (stay_same s2) hk2, by omega, by decide, DctAt.stay vr_stay (sm.trans s2) dl, F.nd, F.ok, fit, fun H3 l ws s3 hl hlf hws hwl => ?_⟩
    have h1 := Paired.length hws
    have h2 := sgl_len (vrOf cs) kd "+"
    have nlB : l ≠ B := fun e => by
      rw [e, hacc] at hlf
      cases hlf
    refine ⟨l, rfl, ⟨ws, SqL.of hl⟩, ?_⟩
    have hacc3 := s3 _ _ hacc
    have s23 := s2.trans s3
    show ∃ W1 : Nat → Nat → Hp → Prop, _
    refine lc2_in (K := K) (l := l) (ys := ws) (te := tVar 8) (D := B) (g1 := gName 8) (tt1 := tYes) (vs1 := [8]) (fun j H4 => Same H' H4 ∧ H4 l = some (.lst ws) ∧ Stay K H3 H4 ∧ H4 B = some (.lst (acc ++ ws.take j))) ⟨s23, hl, Stay.refl _, by rw [List.take_zero, List.append_nil]; exact hacc3⟩ (fun j H4 ⟨_, h, _⟩ => SqL.of h) (fun j y H4 hy ⟨s4, hl4, st4, hB4⟩ => ?_) (fun H4 ⟨s4, hl4, st4, hB4⟩ => ?_)
    · refine ⟨rfl, ?_⟩
      unfold tYes
      dsimp only
      rw [if_pos rfl]
      have hj : j < ws.length := (List.getElem?_eq_some_iff.mp hy).1
      refine ⟨y, rfl, _, hB4, Nat.lt_of_le_of_lt (show _ ≤ 100000 by rw [List.length_append, List.length_take]; omega) (by decide), same_mut s4 hB, by rw [upd_ne nlB]; exact hl4, st4.trans (stay_lst hB4), ?_⟩
      rw [upd_same, take_one' hy, List.append_assoc]
    · rw [List.take_length] at hB4
      refine ⟨s4, _, hB4, ?_, ?_⟩
      · rw [take_one' hk1, List.flatMap_append, List.flatMap_singleton]
        exact pairs_app (Paired.mapP hpa fun _ _ z => z.stay ((stay_same s3).trans st4)) (Paired.mapP hws fun _ _ z => z.stay st4)
      · rw [List.length_append]
        omega
  · rw [hkl, List.take_length] at hpa
    have hp2 : acc.length = (c.plz (vrOf cs)).length := Paired.length hpa
    rw [hkl] at hal
    have p2 := ok.p2
    refine ⟨_, rfl, _, rfl, ap, B, c.ps, c.plz (vrOf cs), acc, rfl, hap.stay (stay_same s2), hacc, hpa, by omega, by omega, fun p hp => (ok.pl p hp).2, fun p hp => ?_, fun H3 l us s3 hl hus => ?_⟩
    · obtain ⟨kd, hk1, hk2⟩ := List.mem_flatMap.mp hp
      exact sgl_sgz _ kd _ (by decide) p hk2
    · have s13 := sm.trans (s2.trans s3)
      refine ⟨_, rfl, _, .inl ⟨us, SqL.of hl, rfl⟩, ?_⟩
      cases hf : c.ps.filter (badL (c.plz (vrOf cs))) with
      | nil =>
        rw [hf] at hus
        have e0 : us = [] := List.length_eq_zero_iff.mp (Paired.length hus)
        subst e0
        refine iteF ⟨_, _, _, _, _, _, _, _, rfl, s13, take_all hall hc1 ?_⟩
        unfold Cls.badP
        rw [← List.head?_filter, hf]
        rfl
      | cons p rest =>
        rw [hf] at hus
        obtain ⟨u0, us', e0, ⟨b, e1, hb⟩⟩ : ∃ u0 us', us = u0 :: us' ∧ Lp K H3 u0 p := by
          cases hus with
          | cons h t => exact ⟨_, _, rfl, h⟩
        subst e0 e1
        have hbad : c.badP cs = some p.1 := by
          unfold Cls.badP
          rw [← List.head?_filter, hf]
          rfl
        have hpm : p ∈ c.ps := (List.mem_filter.mp (by rw [hf]; exact List.mem_cons_self)).1
        refine iteE rfl ?_
        refine ⟨_, rfl, _, rfl, l, _, 0, _, rfl, rfl, SqL.of hl, atI_nat (j := 0) rfl, b, _, 0, _, rfl, rfl, hb, atI_nat (j := 0) rfl, ?_⟩
        have hn := (isNam_iff.mp ok.n).2.1
        have hln := let_len ((ok.pl p hpm).1)
        have hl1 := let_short ((ok.pl p hpm).1)
        refine ra2_q (C := CT) (n := c.nm) (l := p.1) (by omega) hl1 fun H5 dd s5 hdd => ?_
        refine q2 c.nm p.1 ?_ H5 dd (s1.trans (s13.trans s5)) hdd
        unfold turnOf
        exact some_at hall hc1 hbad
end
end N

namespace N
open PySem PySem.Spec PyProof.Rows L2 StX
/-! ### Table(..), of classes that are right but for their parents' signs -/
structure PreOk (cs : List Cls) : Prop where
  f : FormsOk cs
  t : FitOk cs
  e : ∃ rank, ElOk cs rank
/-- what is raised -/
def TurnX (CT : Addr) (E : XK) (H : Hp) (cs : List Cls) : Prop := ∀ n l, turnOf cs = some (n, l) → ∀ H' dd, Same H H' → H' dd = some (.xd [("letter", .str l), ("name", .str n)]) → E (.ref CT) (some dd) H'
section
variable {P : Program} {w : World} {K : PySem.W.Frag} {mg : Str → Option Value} {base : Heap} {CT C f : Addr} {fd : FuncData}
def spChkZ (K : PySem.W.Frag) (CT : Addr) : Sp := fun vs H Q E => ∃ (a : Addr) (cs : List Cls), vs = [.ref a] ∧ CsAt K H a cs ∧ PreOk cs ∧ (turnOf cs = none → ∀ H', Same H H' → Q .non H') ∧ TurnX CT E H cs
theorem ok_checkZ (C1 : Cal P w K mg base 8 "check_forms" ["classes"] (spForms K)) (C2 : Cal P w K mg base 2 "check_fit" ["classes"] (spFit K)) (C3 : Cal P w K mg base 2 "check_elders" ["classes"] (spElds K)) (C4 : Cal P w K mg base 4 "check_parents" ["classes"] (spParsX K CT))
    (D : DefAt K mg "check_classes" s_check_classes ["classes"]) : Cal P w K mg base 9 "check_classes" ["classes"] (spChkZ K CT) := by
  refine D.cal sc_check_classes (fun vs H Q E h => ?_) (fun f cdv A outer s H vs Q E hr h => ?_)
  · obtain ⟨v, p, rfl, _⟩ := h
    rfl
  obtain ⟨a, cs, rfl, hcs, T, q1, q2⟩ := h
  obtain ⟨rank, el⟩ := T.e
  refine ⟨_, pss_cons (ps_expr (pc C1 hr rfl (pa_cons (pv 0) pa_nil))) (pss_cons (ps_expr (pc C2 (hr.mono (by decide)) rfl (pa_cons (pv 0) pa_nil))) (pss_cons (ps_expr (pc C3 (hr.mono (by decide)) rfl (pa_cons (pv 0) pa_nil))) (pss_one (ps_expr (pcE (takes_of rfl rfl rfl rfl) C4 (hr.mono (by decide)) rfl (pa_cons (pv 0) pa_nil)))))), ?_⟩
  refine ⟨_, rfl, a, cs, rfl, hcs, T.f, fun H1 s1 => ?_⟩
  refine ⟨_, rfl, a, cs, rfl, hcs.stay (stay_same s1), T.f, T.t, fun H2 s2 => ?_⟩
  refine ⟨_, rfl, a, cs, rank, rfl, hcs.stay (stay_same (s1.trans s2)), T.f, el, fun H3 s3 => ?_⟩
  have s13 := s1.trans (s2.trans s3)
  exact ⟨_, rfl, a, cs, rfl, hcs.stay (stay_same s13), T.f, fun c hc k hk => (T.t.f c hc k (by unfold Cls.decl; exact List.mem_append_left _ hk)).1, fun ht H4 s4 => q1 ht _ (s13.trans s4), fun n l ht H4 dd s4 hd => q2 n l ht _ dd (s13.trans s4) hd⟩
def spTiniZ (K : PySem.W.Frag) (C CT : Addr) : Sp := fun vs H Q E => ∃ (a d p : Addr) (cs : List Cls), vs = [.ref a, .ref p] ∧ H a = some (.ins C d []) ∧ CsAt K H p cs ∧ PreOk cs ∧ (turnOf cs = none → ∀ H', Same H H' → Q .non (upd H' a (.ins C d [("_classes", .ref p)]))) ∧ TurnX CT E H cs
theorem ok_TinitZ (T : TabC K mg C) (CC : Cal P w K mg base 9 "check_classes" ["classes"] (spChkZ K CT)) (F : Fun K "__init__" "Table.__init__" (tabM 0) f fd)
    (hb : ∀ us rest : List Value, us.length = [("self" : Str)].length → bindArgs fd ⟨us ++ rest, []⟩ = (newTuple rest >>= fun t => pure ([("self" : Str)].zip us ++ [(("classes" : Str), t)]))) :
    FnS P w K mg base 10 f (fun vs H Q E => ∃ v rest, vs = v :: rest ∧ rest.length ≤ 1000 ∧ ∀ p, H p = none → spTiniZ K C CT [v, .ref p] (upd H p (.tup rest)) Q E) := by
  refine fnS_star (N := nm_Tinit) F sc_Tinit hb fun cdv A outer s H vs Q E hr h => ?_
  obtain ⟨a, d, p, cs, rfl, ha, hcs, ok, q1, q2⟩ := h
  refine ⟨_, pss_cons (ps_expr (pcE (takes_of rfl rfl rfl rfl) CC hr rfl (pa_cons (pv 1) pa_nil))) (pss_one (ps_fld (pv 0) (pv 1) rfl)), ?_⟩
  refine ⟨_, rfl, p, cs, rfl, hcs, ok, fun hn H1 s1 => ?_, q2⟩
  exact ⟨_, rfl, _, rfl, a, C, d, [], rfl, s1 _ _ ha, T.c, T.na, by decide, q1 hn H1 s1⟩
def spTini1Z (K : PySem.W.Frag) (C CT : Addr) : Sp := fun vs H Q E => ∃ v rest, vs = v :: rest ∧ rest.length ≤ 1000 ∧ ∀ p, H p = none → spTiniZ K C CT [v, .ref p] (upd H p (.tup rest)) Q E
end
section
variable {X : Cx} {k : Nat} {f C CT : Addr} {e : Expr} {es : List Expr} {t : TA} {p pos : Pos} {sp : Sp} {W : WX}
/-- a new instance of C, or what is raised -/
theorem run_mkE {pins : List (Addr × Obj)} {σ : L2.St} {H : Hp} {s : Shared} {Q : VK} {us : List Value} {vs : List V} (tk : Takes X W) (M : Mk X.K C f) (F : FnS X.prog X.w X.K X.mg X.base k f sp) (hr : RoomG (k + 1) X.A) (I : Inv X pins σ H s) (r : Vals vs us)
    (h : ∀ a d, H a = none → H d = none → d ≠ a → sp (.ref a :: vs) (upd (upd H d (.own a)) a (.ins C d [])) (fun v H2 => v = .non ∧ Q (.ref a) H2) (WE W σ)) : wpAny (model X.prog X.w) X.A (call (.ref C) us) (EP X pins σ Q) X.xe s := by
  have lt := Nat.lt_succ_self s.heap.objs.size
  have I2 := Inv.made (C := C) I
  have hq := h (s.heap.objs.size + 1) s.heap.objs.size (I.hok.fresh (Nat.le_of_lt lt)) (I.hok.fresh (Nat.le_refl _)) (Nat.ne_of_lt lt)
  refine wpAny_call (make_map (f := f) I.kIn M.makes M.init (beq_iff_eq.mp M.fn) (codeAny_mono (F _ X.stack _ _ (.ref (s.heap.objs.size + 1) :: us) _ _ (WE W σ) (hr.made2 C us []) (I2.env0.make C us []) (.cons (show L2.RelV (.ref (s.heap.objs.size + 1)) (.ref (s.heap.objs.size + 1)) from rfl) r) hq) fun res s' hq' => ?_))
  match res, hq' with
  | .error e, hq' => exact passAt tk σ pins _ _ e s' I2 hq'
  | .ok (.ret u), hq' =>
    obtain ⟨v, H', I3, rv, ev, q3⟩ := I2.after hq'
    subst ev
    exact ⟨rv, ⟨.ref (s.heap.objs.size + 1), H', I3, rfl, q3⟩⟩
/-- Table(e, ..) -/
def tTabZ (K : PySem.W.Frag) (C CT : Addr) (W : WX) (t : TA) : TE := fun σ H Q => t σ H fun vs H1 => ∃ cs, Paired (Cp K H1) vs cs ∧ PreOk cs ∧ (turnOf cs = none → ∀ H2 a, Same H1 H2 → H1 a = none → TabAt K C H2 (.ref a) cs → Q (.ref a) H2) ∧ TurnX CT (WE W σ) H1 cs
theorem pe_tabZ (tk : Takes X W) (T : TabC X.K X.mg C) (M : Mk X.K C f) (F : FnS X.prog X.w X.K X.mg X.base 10 f (spTini1Z X.K C CT)) (hr : RoomG 11 X.A) (hg : Gl X "Table") (ha : PA X (e :: es) t)
    (he : starEach (e :: es) X.env = (false, eval e X.env) :: starEach es X.env := by rfl) (hpl : (backTo pos (starEach es X.env)).any (·.1) = false := by rfl) : PE X (.Call (.Name "Table" p) (e :: es) [] pos) (tTabZ X.K C CT W t) := by
  refine ⟨fun pins s σ H Q I h => wpAny_Call_Name_kw (ld_glob I hg T.gl ?_ (by decide))⟩
  refine PySem.W.callWith_K (h₀ := X.base) I.ok.mod.kin M.kp (thn (ha.run pos pins s σ H _ I h) fun us s1 ⟨vs, H1, J, r, cs, hp, ok, q1, q2⟩ => ⟨J.kIn, ?_⟩) he hpl
  refine run_mkE tk M F hr J r fun a d h1 h2 h3 => ?_
  have hl : vs.length = cs.length := Paired.length hp
  have n5 := ok.f.n5
  refine ⟨.ref a, vs, rfl, by omega, fun p hp0 => ?_⟩
  have s1 := same_new h2 (.own a)
  have ha1 : (upd H1 d (.own a)) a = none := by rw [upd_ne (Ne.symm h3)]; exact h1
  have s2 := s1.trans (same_new ha1 (.ins C d []))
  have s3 := same_new hp0 (.tup vs)
  have s23 := s2.trans s3
  have hap := s3 _ _ (upd_same (H := upd H1 d (.own a)) (a := a) (o := .ins C d []))
  refine ⟨a, d, p, cs, rfl, hap, ⟨vs, .inl (.inl upd_same), Paired.mapP hp fun _ _ z => z.stay (stay_same s23)⟩, ok, fun hn H' s' => ⟨rfl, q1 hn _ a (same_mut (s23.trans s') h1) h1 ⟨a, d, p, rfl, upd_same, ?_⟩⟩, fun n l ht H' dd s' hs => q2 n l ht H' dd (s23.trans s') hs⟩
  exact CsAt.stay ((stay_same s').trans (stay_ins (s' _ _ hap))) ⟨vs, .inl (.inl upd_same), Paired.mapP hp fun _ _ z => z.stay (stay_same s23)⟩
end
end N

namespace N
open PySem PySem.Spec PyProof.Rows L2 StX
/-! ### right classes by a Boolean look; classes that are written out -/
def okK : Kd → Bool
  | .L c => isLet c
  | .C0 n => isNam n
  | .C1 n a => isNam n && okK a
  | .C2 n a b => isNam n && (okK a && okK b)
theorem okK_ok : ∀ {k : Kd}, okK k = true → k.ok
  | .L c, h => h
  | .C0 n, h => h
  | .C1 n a, h => by
    obtain ⟨h1, h2⟩ := (Bool.and_eq_true _ _).mp h
    exact ⟨h1, okK_ok h2⟩
  | .C2 n a b, h => by
    obtain ⟨h1, h2⟩ := (Bool.and_eq_true _ _).mp h
    obtain ⟨h2, h3⟩ := (Bool.and_eq_true _ _).mp h2
    exact ⟨h1, okK_ok h2, okK_ok h3⟩
def okC (c : Cls) : Bool := isNam c.nm && (decide (c.ps.length ≤ 2) && (c.ps.all (fun p => isLet p.1 && decide (p.2 ∈ varz)) && (decide ((c.ps.map Prod.fst).Nodup) && (decide (c.ks.length ≤ 2) && (c.ks.all (fun k => okK k && (k.isC && (decide (k.size ≤ 6) && decide (k.nds ≤ 1000)))) &&
  (decide (c.ms.length ≤ 2) && (c.ms.all (fun m => isNam m.1 && (decide (m.2.1 ∈ wayz) && (okK m.2.2 && (decide (m.2.2.size ≤ 6) && decide (m.2.2.nds ≤ 1000))))) && decide ((c.ms.map Prod.fst).Nodup))))))))
theorem okC_ok {c : Cls} (h : okC c = true) : c.ok := by
  unfold okC at h
  simp only [Bool.and_eq_true, decide_eq_true_eq, List.all_eq_true] at h
  obtain ⟨h1, h2, h3, h4, h5, h6, h7, h8, h9⟩ := h
  exact ⟨h1, h2, h3, h4, h5, fun k hk => ⟨okK_ok (h6 k hk).1, (h6 k hk).2.1, (h6 k hk).2.2.1, (h6 k hk).2.2.2⟩, h7, fun m hm => ⟨(h8 m hm).1, (h8 m hm).2.1, okK_ok (h8 m hm).2.2.1, (h8 m hm).2.2.2.1, (h8 m hm).2.2.2.2⟩, h9⟩
def okF (cs : List Cls) : Bool := decide (1 ≤ cs.length) && (decide (cs.length ≤ 5) && (cs.all okC && (decide ((cs.map Cls.nm).Nodup) && cs.any fun c => c.ps.isEmpty)))
theorem okF_ok {cs : List Cls} (h : okF cs = true) : FormsOk cs := by
  unfold okF at h
  simp only [Bool.and_eq_true, decide_eq_true_eq, List.all_eq_true, List.any_eq_true] at h
  obtain ⟨h1, h2, h3, h4, c, hc, h5⟩ := h
  exact ⟨h1, h2, fun c hc => okC_ok (h3 c hc), h4, c, hc, List.isEmpty_iff.mp h5⟩
/-- kinds fit: a Boolean look -/
def fitK (ar : List (Str × Nat)) (ls : List Str) : Kd → Bool
  | .L c => decide (c ∈ ls)
  | .C0 n => decide ((n, 0) ∈ ar)
  | .C1 n a => decide ((n, 1) ∈ ar) && fitK ar ls a
  | .C2 n a b => decide ((n, 2) ∈ ar) && (fitK ar ls a && fitK ar ls b)
theorem fitK_ok {ar : List (Str × Nat)} {ls : List Str} : ∀ {k : Kd}, fitK ar ls k = true → k.fits ar ls
  | .L c, h => of_decide_eq_true (p := c ∈ ls) h
  | .C0 n, h => of_decide_eq_true (p := (n, 0) ∈ ar) h
  | .C1 n a, h => by
    obtain ⟨h1, h2⟩ := (Bool.and_eq_true _ _).mp h
    exact ⟨of_decide_eq_true h1, fitK_ok h2⟩
  | .C2 n a b, h => by
    obtain ⟨h1, h2⟩ := (Bool.and_eq_true _ _).mp h
    obtain ⟨h2, h3⟩ := (Bool.and_eq_true _ _).mp h2
    exact ⟨of_decide_eq_true h1, fitK_ok h2, fitK_ok h3⟩
def okTB (cs : List Cls) (rank : Str → Nat) : Bool := okF cs && (cs.all (fun c => c.decl.all fun k => fitK (arOf cs) (c.ps.map Prod.fst) k && decide (k.nds ≤ 1000)) &&
  (cs.all (fun c => c.ks.all fun k => decide (k.nm ∈ cs.map Cls.nm) && decide (rank k.nm < rank c.nm)) && cs.all (fun c => c.ps.all fun p => (c.plz (vrOf cs)).all fun q => !decide (q.1 = p.1) || !barB q.2 p.2)))
theorem okTB_ok {cs : List Cls} {rank : Str → Nat} (h : okTB cs rank = true) : TabOk cs := by
  unfold okTB at h
  simp only [Bool.and_eq_true, List.all_eq_true] at h
  obtain ⟨h1, h2, h3, h4⟩ := h
  have F := okF_ok h1
  refine ⟨F, ⟨fun c hc k hk => ⟨fitK_ok (h2 c hc k hk).1, of_decide_eq_true (h2 c hc k hk).2⟩⟩, ⟨rank, fun c hc k hk => ⟨of_decide_eq_true (h3 c hc k hk).1, of_decide_eq_true (h3 c hc k hk).2⟩, fun c hc => (F.ok c hc).k2⟩, ⟨fun c hc p hp q hq e => ?_⟩⟩
  have := h4 c hc p hp q hq
  rw [decide_eq_true e] at this
  simpa using this
def Imp (t t' : TE) : Prop := ∀ (σ : L2.St) (H : Hp) (Q : VK), t σ H Q → t' σ H Q
def tKd (K : PySem.W.Frag) (k : Kd) : TE := fun _ H Q => ∀ H' v, Same H H' → Kp K H' v k → Q v H'
def tAt (R : Hp → Addr → Prop) : TE := fun _ H Q => ∀ H' a, Same H H' → R H' a → Q (.ref a) H'
def tCl (K : PySem.W.Frag) (c : Cls) : TE := fun _ H Q => ∀ H' v, Same H H' → Cp K H' v c → Q v H'
section
variable {K : PySem.W.Frag}
theorem kdL {x : Str} (h : x.length ≤ 100000) : Imp (tKd K (.L x)) (tC (.str x)) := fun σ H Q z => z H _ (Same.refl _) (.str x h)
theorem kd0 {n : Str} (h : n.length ≤ 100000) : Imp (tKd K (.C0 n)) (tTup (tCons (tC (.str n)) tNil)) := fun σ H Q z =>
  ⟨by show 1 ≤ sizeLine; decide, fun t ht => z _ _ (same_new ht _) (.tup (.inl (.inl upd_same)) (.cons (.str n h) .nil))⟩
theorem kd1 {n : Str} {a : Kd} {ta : TE} (h : n.length ≤ 100000) (ha : Imp (tKd K a) ta) : Imp (tKd K (.C1 n a)) (tTup (tCons (tC (.str n)) (tCons ta tNil))) := fun σ H Q z =>
  ha σ H _ fun H1 v s1 hv => ⟨by show 2 ≤ sizeLine; decide, fun t ht => z _ _ (s1.trans (same_new ht _)) (.tup (.inl (.inl upd_same)) (.cons (.str n h) (.cons (hv.stay (stay_same (same_new ht _))) .nil)))⟩
theorem psI0 : Imp (tAt fun H a => PsAt K H a []) (tTup tNil) := fun σ H Q z => ⟨Nat.zero_le _, fun t ht => z _ _ (same_new ht _) ⟨[], .inl (.inl upd_same), .nil⟩⟩
theorem ksI0 : Imp (tAt fun H a => KsAt K H a []) (tTup tNil) := fun σ H Q z => ⟨Nat.zero_le _, fun t ht => z _ _ (same_new ht _) ⟨[], .inl (.inl upd_same), .nil⟩⟩
theorem msI0 : Imp (tAt fun H a => MsAt K H a []) (tTup tNil) := fun σ H Q z => ⟨Nat.zero_le _, fun t ht => z _ _ (same_new ht _) ⟨[], .inl (.inl upd_same), .nil⟩⟩
theorem psI1 {l v : Str} : Imp (tAt fun H a => PsAt K H a [(l, v)]) (tTup (tCons (tTup (tCons (tC (.str l)) (tCons (tC (.str v)) tNil))) tNil)) := fun σ H Q z =>
  ⟨by show 2 ≤ sizeLine; decide, fun t ht => ⟨by show 1 ≤ sizeLine; decide, fun t2 ht2 => z _ _ ((same_new ht _).trans (same_new ht2 _)) ⟨_, .inl (.inl upd_same), .cons ⟨t, rfl, (stay_same (same_new ht2 _)).tup _ _ (.inl (.inl upd_same))⟩ .nil⟩⟩⟩
theorem ksI1 {k : Kd} {tk : TE} (hk : Imp (tKd K k) tk) : Imp (tAt fun H a => KsAt K H a [k]) (tTup (tCons tk tNil)) := fun σ H Q z =>
  hk σ H _ fun H1 v s1 hv => ⟨by show 1 ≤ sizeLine; decide, fun t ht => z _ _ (s1.trans (same_new ht _)) ⟨_, .inl (.inl upd_same), .cons (hv.stay (stay_same (same_new ht _))) .nil⟩⟩
theorem msI1 {m y : Str} {k : Kd} {tk : TE} (hk : Imp (tKd K k) tk) : Imp (tAt fun H a => MsAt K H a [(m, y, k)]) (tTup (tCons (tTup (tCons (tC (.str m)) (tCons (tC (.str y)) (tCons tk tNil)))) tNil)) := fun σ H Q z =>
  hk σ H _ fun H1 v s1 hv => ⟨by show 3 ≤ sizeLine; decide, fun t ht => ⟨by show 1 ≤ sizeLine; decide, fun t2 ht2 => z _ _ ((s1.trans (same_new ht _)).trans (same_new ht2 _)) ⟨_, .inl (.inl upd_same), .cons ⟨t, v, rfl, (stay_same (same_new ht2 _)).tup _ _ (.inl (.inl upd_same)), hv.stay (stay_same ((same_new ht _).trans (same_new ht2 _)))⟩ .nil⟩⟩⟩
theorem clI {c : Cls} {tp tk tm : TE} (hp : Imp (tAt fun H a => PsAt K H a c.ps) tp) (hk : Imp (tAt fun H a => KsAt K H a c.ks) tk) (hm : Imp (tAt fun H a => MsAt K H a c.ms) tm) : Imp (tCl K c) (tTup (tCons (tC (.str c.nm)) (tCons tp (tCons tk (tCons tm tNil))))) := fun σ H Q z =>
  hp σ H _ fun H1 a1 s1 h1 => hk σ H1 _ fun H2 a2 s2 h2 => hm σ H2 _ fun H3 a3 s3 h3 => ⟨by show 4 ≤ sizeLine; decide, fun t ht => z _ _ (((s1.trans s2).trans s3).trans (same_new ht _))
    ⟨t, a1, a2, a3, rfl, .inl (.inl upd_same), h1.stay (stay_same ((s2.trans s3).trans (same_new ht _))), h2.stay (stay_same (s3.trans (same_new ht _))), h3.stay (stay_same (same_new ht _))⟩⟩
end
section
variable {K : PySem.W.Frag}
theorem kd2 {n : Str} {a b : Kd} {ta tb : TE} (h : n.length ≤ 100000) (ha : Imp (tKd K a) ta) (hb : Imp (tKd K b) tb) : Imp (tKd K (.C2 n a b)) (tTup (tCons (tC (.str n)) (tCons ta (tCons tb tNil)))) := fun σ H Q z =>
  ha σ H _ fun H1 v s1 hv => hb σ H1 _ fun H2 u s2 hu => ⟨by show 3 ≤ sizeLine; decide, fun t ht => z _ _ ((s1.trans s2).trans (same_new ht _)) (.tup (.inl (.inl upd_same)) (.cons (.str n h) (.cons (hv.stay (stay_same (s2.trans (same_new ht _)))) (.cons (hu.stay (stay_same (same_new ht _))) .nil))))⟩
theorem psI2 {l v l2 v2 : Str} : Imp (tAt fun H a => PsAt K H a [(l, v), (l2, v2)]) (tTup (tCons (tTup (tCons (tC (.str l)) (tCons (tC (.str v)) tNil))) (tCons (tTup (tCons (tC (.str l2)) (tCons (tC (.str v2)) tNil))) tNil))) := fun σ H Q z =>
  ⟨by show 2 ≤ sizeLine; decide, fun t ht => ⟨by show 2 ≤ sizeLine; decide, fun t1 ht1 => ⟨by show 2 ≤ sizeLine; decide, fun t2 ht2 => z _ _ ((same_new ht _).trans ((same_new ht1 _).trans (same_new ht2 _))) ⟨_, .inl (.inl upd_same), .cons ⟨t, rfl, (stay_same ((same_new ht1 _).trans (same_new ht2 _))).tup _ _ (.inl (.inl upd_same))⟩ (.cons ⟨t1, rfl, (stay_same (same_new ht2 _)).tup _ _ (.inl (.inl upd_same))⟩ .nil)⟩⟩⟩⟩
end
end N

namespace N
open PySem PySem.Spec PyProof.Rows L2 StX
/-! ### k69: _law_table, _law_wrapped, _law_told -/
def xOne : Cls := ⟨"one", [], [], []⟩
def xBox : Cls := ⟨"box", [("X", "out")], [], [("first", "reads", .L "X")]⟩
def xSink : Cls := ⟨"sink", [("X", "in")], [], [("first", "takes", .L "X")]⟩
def x4 (c : Cls) : List Cls := [xOne, xBox, xSink, c]
def tupD (rs : List (List Str)) : PyData := .tuple (rs.map trD)
theorem slAx {K : PySem.W.Frag} {a : Addr} {xs : List V} {lo hi : Option Int} {H : Hp} {Q : VK} (h : SqT K H a xs) (q : ∀ H2 b, Same H H2 → SqT K H2 b (cutV xs lo hi) → Q (.ref b) H2) : rSlA K (.ref a) lo hi H Q := by
  refine ⟨a, xs, rfl, h, fun hw => q H a (Same.refl _) ?_, fun _ p hp => q _ p (same_new hp _) (.inl (.inl upd_same))⟩
  have e : cutV xs lo hi = xs := by
    unfold cutV
    rw [hw.1, hw.2, List.drop_zero, Nat.sub_zero, List.take_length]
  rw [e]
  exact h
theorem cut_dropx (xs : List V) (j : Nat) (h : j ≤ xs.length) : cutV xs (some (j : Int)) none = xs.drop j := by
  have h1 : HT.sIx xs.length 0 (some (j : Int)) = j := by
    rw [HT.sIx_nat]
    omega
  have h2 : HT.sIx xs.length xs.length none = xs.length := rfl
  unfold cutV
  rw [h1, h2, ← List.length_drop, List.take_length]
theorem cut_takex (xs : List V) (r : Nat) : cutV xs none (some (r : Int)) = xs.take r := by
  have h1 : HT.sIx xs.length 0 none = 0 := rfl
  have h2 : HT.sIx xs.length xs.length (some (r : Int)) = min r xs.length := by
    rw [HT.sIx_nat]
  unfold cutV
  rw [h1, h2, List.drop_zero, Nat.sub_zero]
  rcases Nat.le_total r xs.length with h | h
  · rw [Nat.min_eq_left h]
  · rw [Nat.min_eq_right h, List.take_length, List.take_of_length_le h]
theorem paired_drop {α β : Type} {F : α → β → Prop} : ∀ {l : List α} {r : List β} (n : Nat), Paired F l r → Paired F (l.drop n) (r.drop n)
  | _, _, 0, h => h
  | _, _, n + 1, .nil => .nil
  | _, _, n + 1, .cons _ t => paired_drop n t
theorem paired_take {α β : Type} {F : α → β → Prop} : ∀ {l : List α} {r : List β} (n : Nat), Paired F l r → Paired F (l.take n) (r.take n)
  | _, _, 0, h => .nil
  | _, _, n + 1, .nil => .nil
  | _, _, n + 1, .cons a t => .cons a (paired_take n t)
def wrapK (n : Str) (k : Kd) : Nat → Kd
  | 0 => k
  | m + 1 => .C1 n (wrapK n k m)
section
variable {P : Program} {w : World} {K : PySem.W.Frag} {mg : Str → Option Value} {base : Heap} {C CT fi fc pc' : Addr}
def spTblZ (K : PySem.W.Frag) (C CT : Addr) : Sp := fun vs H Q E => ∃ (a : Addr) (v1 v2 v3 v4 : V) (cs : List Cls), vs = [.ref a] ∧ SqL K H a [v1, v2, v3, v4] ∧ Paired (Cp K H) [v1, v2, v3, v4] cs ∧ PreOk cs ∧ (turnOf cs = none → ∀ H' b, Same H H' → TabAt K C H' (.ref b) cs → Q (.ref b) H') ∧ TurnX CT E H cs
theorem ok_LtableZ (G : Glo mg) (T : TabC K mg C) (M : Mk K C fi) (F : FnS P w K mg base 10 fi (spTini1Z K C CT)) (D : DefAt K mg "_law_table" s_Ltable ["_law_some"]) : Cal P w K mg base 12 "_law_table" ["_law_some"] (spTblZ K C CT) := by
  refine D.cal sc_Ltable (fun vs H Q E h => ?_) (fun f cdv A outer s H vs Q E hr h => ?_)
  · obtain ⟨a, v1, v2, v3, v4, cs, rfl, _⟩ := h
    rfl
  obtain ⟨a, v1, v2, v3, v4, cs, rfl, hs, hp, ok, q1, q2⟩ := h
  refine ⟨_, pss_cons (ps_if (pt_cmpR op_eq (pe_callB call_len_seq (by rfl) G.len PySem.boot_len (pa_cons (pv 0) pa_nil)) pe_int (nomark _)) (pss_one ps_never) pss_nil)
    (pss_cons (ps_if (pt_cmpR op_eq (pe_callB call_len_seq (by rfl) G.len PySem.boot_len (pa_cons (pv 0) pa_nil)) pe_int (nomark _)) (pss_one ps_never) pss_nil)
    (pss_cons (ps_if (pt_cmpR op_eq (pe_callB call_len_seq (by rfl) G.len PySem.boot_len (pa_cons (pv 0) pa_nil)) pe_int (nomark _)) (pss_one ps_never) pss_nil)
    (pss_cons (ps_if (pt_cmpR op_eq (pe_callB call_len_seq (by rfl) G.len PySem.boot_len (pa_cons (pv 0) pa_nil)) pe_int (nomark _)) (pss_one (ps_ret (pe_tabZ (takes_of rfl rfl rfl rfl) T M F hr rfl (pa_cons (pe_ix ix_list (pv 0) pe_int (fun _ _ => rfl)) (pa_cons (pe_ix ix_list (pv 0) pe_int (fun _ _ => rfl)) (pa_cons (pe_ix ix_list (pv 0) pe_int (fun _ _ => rfl)) (pa_cons (pe_ix ix_list (pv 0) pe_int (fun _ _ => rfl)) pa_nil))))))) pss_nil)
    (pss_one ps_never)))), ?_⟩
  refine ⟨_, rfl, a, _, rfl, .inl hs, rfl, _, rfl, iteN rfl ⟨_, rfl, a, _, rfl, .inl hs, rfl, _, rfl, iteN rfl ⟨_, rfl, a, _, rfl, .inl hs, rfl, _, rfl, iteN rfl ⟨_, rfl, a, _, rfl, .inl hs, rfl, _, rfl, iteE rfl ?_⟩⟩⟩⟩
  refine ⟨_, rfl, a, _, 0, v1, rfl, rfl, hs, atI_nat (j := 0) rfl, _, rfl, a, _, 1, v2, rfl, rfl, hs, atI_nat (j := 1) rfl, _, rfl, a, _, 2, v3, rfl, rfl, hs, atI_nat (j := 2) rfl, _, rfl, a, _, 3, v4, rfl, rfl, hs, atI_nat (j := 3) rfl, cs, hp, ok, fun hn H2 b s2 _ ht => q1 hn H2 b s2 ht, q2⟩
def spWrap (K : PySem.W.Frag) : Sp := fun vs H Q _ => ∃ (n : Str) (v : V) (k : Kd) (m : Nat), vs = [.str n, v, .int (m : Nat)] ∧ n.length ≤ 100 ∧ Kp K H v k ∧ m ≤ 100 ∧ ∀ H' u, Same H H' → Kp K H' u (wrapK n k m) → Q u H'
theorem ok_wrap (G : Glo mg) (D : DefAt K mg "_law_wrapped" s_Lwrapped ["_law_name", "_law_inner", "_law_many"]) : Cal P w K mg base 1 "_law_wrapped" ["_law_name", "_law_inner", "_law_many"] (spWrap K) := by
  refine D.cal sc_Lwrapped (fun vs H Q E h => ?_) (fun f cdv A outer s H vs Q E hr h => ?_)
  · obtain ⟨n, v, k, m, rfl, _⟩ := h
    rfl
  obtain ⟨n, v, k, m, rfl, hn, hk, hm, q⟩ := h
  refine ⟨_, pss_cons (ps_for (passes_of rfl) rfl (pi_range1 rfl G.range (pa_cons (pv 2) pa_nil)) (pg_name (i := 3) sc_Lwrapped.nd rfl (by first | exact Or.inl rfl | exact Or.inr rfl))
      (pss_one (ps_set (i := 1) sc_Lwrapped.nd rfl (by first | exact Or.inl rfl | exact Or.inr rfl) (pe_tup (pa_cons (pv 0) (pa_cons (pv 1) pa_nil))))))
    (pss_one (ps_ret (pv 1))), ?_⟩
  refine ⟨_, rfl, m, rfl, by omega, by omega, ?_⟩
  refine for_range (n := m) (fun i σ H' => ∃ u y3, σ = [some (.str n), some u, some (.int (m : Nat)), y3] ∧ Same H H' ∧ Kp K H' u (wrapK n k i)) ⟨v, _, rfl, Same.refl _, hk⟩ (fun i σ H' hi ⟨u, y3, eσ, sm, hu⟩ => ?_) (fun σ H' ⟨u, y3, eσ, sm, hu⟩ => ?_)
  · subst eσ
    refine ⟨_, rfl, _, rfl, by show 2 ≤ sizeLine; decide, fun t ht => ?_⟩
    have st := same_new ht (.tup [.str n, u])
    exact ⟨.ref t, _, rfl, sm.trans st, .tup (.inl (.inl upd_same)) (.cons (.str n (by omega)) (.cons (hu.stay (stay_same st)) .nil))⟩
  · subst eσ
    exact ⟨_, rfl, q H' u sm hu⟩
theorem sig_two {c : Cls} {f : Cls → Str → Str} (_ : FormsOk (x4 c)) : 2 ≤ (sigR (x4 c) f).length := by
  unfold sigR sigK
  rw [List.length_map, List.length_mergeSort]
  show 2 ≤ ((x4 c).flatMap keyL).length
  unfold x4
  simp only [List.flatMap_cons, List.flatMap_nil, List.length_append]
  show 2 ≤ 0 + (1 + (1 + _))
  omega
def spTold (K : PySem.W.Frag) (CT : Addr) : Sp := fun vs H Q E => ∃ (l : Addr) (x : V) (c : Cls), vs = [.ref l] ∧ H l = some (.lst [x]) ∧ Cp K H x c ∧ PreOk (x4 c) ∧
  (turnOf (x4 c) = none → ∃ n, FixAt (x4 c) n ∧ ∀ H' r a1 a2 a3, Same H H' → H' r = some (.lst [.ref a1, .ref a2, .ref a3]) → Dp K H' (.ref a1) (tupD (fltS (x4 c))) → Dp K H' (.ref a2) (tupD ((sigR (x4 c) (itG (x4 c) n)).drop 2)) → Dp K H' (.ref a3) (tupD ((sigR (x4 c) (itG (x4 c) n)).take 2)) → Q (.ref r) H') ∧ TurnX CT E H (x4 c)
theorem TurnX.same {E : XK} {H H' : Hp} {cs : List Cls} (s : Same H H') (h : TurnX CT E H cs) : TurnX CT E H' cs := fun n l ht H2 dd s2 hd => h n l ht H2 dd (s.trans s2) hd
mutual
theorem dp_same {H H' : Hp} (s : Same H H') : ∀ (d : PyData) (x : V), Dp K H x d → Dp K H' x d
  | .none, _, h => by cases h; exact .non
  | .bool b, _, h => by cases h; exact .bl b
  | .int i, _, h => by cases h; exact .int i
  | .str y, _, h => by cases h; exact .str y
  | .list ds, _, h => by
    cases h with
    | lst hs ha => exact .lst (s.seq hs) (dps_same s ds _ ha)
  | .tuple ds, _, h => by
    cases h with
    | tup hs ha => exact .tup ((stay_same s).tup _ _ hs) (dps_same s ds _ ha)
  | .dict _, _, h => by cases h
theorem dps_same {H H' : Hp} (s : Same H H') : ∀ (ds : List PyData) (xs : List V), DpAll K H xs ds → DpAll K H' xs ds
  | [], _, h => by cases h; exact .nil
  | d :: ds, _, h => by
    cases h with
    | cons a b => exact .cons (dp_same s d _ a) (dps_same s ds _ b)
end
theorem ok_told (G : Glo mg) (CB : Cal P w K mg base 12 "_law_table" ["_law_some"] (spTblZ K C CT)) (CF : CalK P w K mg base 4 "faults" ["table"] (spFaults K C)) (CS : Cal P w K mg base 5 "signs" ["table"] (spSigns K C)) (CSK : CalK P w K mg base 5 "signs" ["table"] (spSigns K C))
    (D : DefAt K mg "_law_told" s_Ltold ["_law_some"]) : Cal P w K mg base 13 "_law_told" ["_law_some"] (spTold K CT) := by
  refine D.cal sc_Ltold (fun vs H Q E h => ?_) (fun f cdv A outer s H vs Q E hr h => ?_)
  · obtain ⟨l, x, c, rfl, _⟩ := h
    rfl
  obtain ⟨l, x, c, rfl, hl, hx, pre, q1, q2⟩ := h
  have hr4 : RoomG 4 (A.deeper (envOfC "_law_told" (defScope s_Ltold) s.heap.objs.size f cdv)) := hr.mono (by decide)
  have hr5 : RoomG 5 (A.deeper (envOfC "_law_told" (defScope s_Ltold) s.heap.objs.size f cdv)) := hr.mono (by decide)
  refine ⟨_, pss_cons (ps_set (i := 1) sc_Ltold.nd rfl (by first | exact Or.inl rfl | exact Or.inr rfl) (peOf (te := tCl K xBox) (pe_tup (pa_cons pe_str (pa_cons (pe_tup (pa_cons (pe_tup (pa_cons pe_str (pa_cons pe_str pa_nil))) pa_nil)) (pa_cons (pe_tup pa_nil) (pa_cons (pe_tup (pa_cons (pe_tup (pa_cons pe_str (pa_cons pe_str (pa_cons pe_str pa_nil)))) pa_nil)) pa_nil))))) (clI (c := xBox) psI1 ksI0 (msI1 (kdL (by decide +kernel))))))
    (pss_cons (ps_set (i := 2) sc_Ltold.nd rfl (by first | exact Or.inl rfl | exact Or.inr rfl) (peOf (te := tCl K xSink) (pe_tup (pa_cons pe_str (pa_cons (pe_tup (pa_cons (pe_tup (pa_cons pe_str (pa_cons pe_str pa_nil))) pa_nil)) (pa_cons (pe_tup pa_nil) (pa_cons (pe_tup (pa_cons (pe_tup (pa_cons pe_str (pa_cons pe_str (pa_cons pe_str pa_nil)))) pa_nil)) pa_nil))))) (clI (c := xSink) psI1 ksI0 (msI1 (kdL (by decide +kernel))))))
    (pss_cons (ps_set (i := 3) sc_Ltold.nd rfl (by first | exact Or.inl rfl | exact Or.inr rfl) (pcE (takes_of rfl rfl rfl rfl) CB (hr.mono (by decide)) rfl (pa_cons (pe_op op_cat (pe_lst (pa_cons (peOf (te := tCl K xOne) (pe_tup (pa_cons pe_str (pa_cons (pe_tup pa_nil) (pa_cons (pe_tup pa_nil) (pa_cons (pe_tup pa_nil) pa_nil))))) (clI (c := xOne) psI0 ksI0 msI0)) (pa_cons (pv 1) (pa_cons (pv 2) pa_nil)))) (pv 0)) pa_nil)))
    (pss_one (ps_ret (pe_lst (pa_cons (pcK CF hr4 rfl (pk_cons (pv 3) pk_nil)) (pa_cons (pe_slice sl_tupA (pc CS hr5 rfl (pa_cons (pv 3) pa_nil)) (po_some pe_int) po_none) (pa_cons (pe_slice sl_tupA (pcK CSK hr5 rfl (pk_cons (pv 3) pk_nil)) po_none (po_some pe_int)) pa_nil)))))))), ?_⟩
  intro H1 v1 s1 h1
  intro H2 v2 s2 h2
  intro H3 v3 s3 h3
  refine ⟨_, rfl, _, rfl, by show 3 ≤ sizeLine; decide, fun L hL => ?_⟩
  have s4 := same_new hL (.lst [v3, v1, v2])
  have s14 := s1.trans (s2.trans (s3.trans s4))
  refine ⟨_, rfl, L, l, _, _, rfl, rfl, upd_same, s14 _ _ hl, by show 4 ≤ sizeLine; decide, fun p hp => ?_⟩
  have s5 := same_new hp (.lst ([v3, v1, v2] ++ [x]))
  have s45 := s4.trans s5
  have hsq : SqL K (upd (upd H3 L (.lst [v3, v1, v2])) p (.lst ([v3, v1, v2] ++ [x]))) p [v3, v1, v2, x] := SqL.of upd_same
  generalize upd (upd H3 L (.lst [v3, v1, v2])) p (.lst ([v3, v1, v2] ++ [x])) = H5 at s5 s45 hsq
  have s15 := s1.trans (s2.trans (s3.trans s45))
  refine ⟨p, v3, v1, v2, x, x4 c, rfl, hsq, ?_, pre, fun hn H6 b s6 hT => ?_, q2.same s15⟩
  · exact .cons (h3.stay (stay_same s45)) (.cons (h1.stay (stay_same (s2.trans (s3.trans s45)))) (.cons (h2.stay (stay_same (s3.trans s45))) (.cons (hx.stay (stay_same s15)) .nil)))
  obtain ⟨n, Fx, q⟩ := q1 hn
  have s16 := s15.trans s6
  refine ⟨_, rfl, b, x4 c, rfl, hT, pre.f, pre.t, fun H7 p1 w1 s7 hp1 hw1 => ?_⟩
  refine ⟨_, rfl, b, x4 c, n, rfl, hT.stay s7, pre.f, pre.t, Fx, fun H8 p2 w2 s8 hp2 hw2 => ?_⟩
  refine ⟨2, rfl, ?_⟩
  dsimp only [tNoPart]
  refine slAx hp2 fun H9 p3 s9 hp3 => ?_
  refine ⟨_, rfl, b, x4 c, n, rfl, hT.stay (s7.trans (s8.trans s9)), pre.f, pre.t, Fx, fun H10 p4 w4 s10 hp4 hw4 => ?_⟩
  refine ⟨2, rfl, ?_⟩
  dsimp only [tNoPart]
  refine slAx hp4 fun H11 p5 s11 hp5 => ?_
  refine ⟨by show 3 ≤ sizeLine; decide, fun r hr0 => ?_⟩
  have s12 := same_new hr0 (.lst [.ref p1, .ref p3, .ref p5])
  have d1 : Dp K H7 (.ref p1) (tupD (fltS (x4 c))) := .tup hp1 (txv_dps hw1)
  have d2 : Dp K H9 (.ref p3) (tupD ((sigR (x4 c) (itG (x4 c) n)).drop 2)) := by
    have hl := Paired.length hw2
    have h3 := Paired.mapP hw2 fun _ _ z => z.stay (stay_same (K := K) s9)
    by_cases h2 : 2 ≤ w2.length
    · have e := cut_dropx w2 2 h2
      rw [show (some 2 : Option Int) = some ((2 : Nat) : Int) from rfl, e] at hp3
      exact .tup hp3 (txv_dps (paired_drop 2 h3))
    · exact absurd (sig_two (f := itG (x4 c) n) pre.f) (by omega)
  have d3 : Dp K H11 (.ref p5) (tupD ((sigR (x4 c) (itG (x4 c) n)).take 2)) := by
    have h3 := Paired.mapP hw4 fun _ _ z => z.stay (stay_same (K := K) s11)
    rw [show (some 2 : Option Int) = some ((2 : Nat) : Int) from rfl, cut_takex] at hp5
    exact .tup hp5 (txv_dps (paired_take 2 h3))
  exact q _ r p1 p3 p5 (s16.trans (s7.trans (s8.trans (s9.trans (s10.trans (s11.trans s12)))))) upd_same (dp_same (s8.trans (s9.trans (s10.trans (s11.trans s12)))) _ _ d1) (dp_same (s10.trans (s11.trans s12)) _ _ d2) (dp_same s12 _ _ d3)
end
end N

namespace N
open PySem PySem.Spec PyProof.Rows L2 L2H LamX NdefX
/-! ### a lambda without parameters that is called, and may raise -/
/-- at f stands a lambda that does spL, its cells being as they are in the heap h -/
def ActR (P : Program) (w : World) (K : PySem.W.Frag) (mg : Str → Option Value) (base : Heap) (k : Nat) (f : Addr) (h : Heap) (H : Hp) (spL : Hp → VK → XK → Prop) : Prop :=
  ∃ (F : NF) (body : Expr) (Nm fr : List Str) (ws : List (Option V)) (tb : XK → TE), NScope Nm [] fr F.scope ∧
    (∀ (pm ctv : Value), bindArgs (PySem.W.kla_fn F.name F.qual F.params body F.scope F.cl pm (.ref F.c) ctv) ⟨[], []⟩ = pure []) ∧
    (∀ (A : Around) (outer : List Env) (s : Shared) (H : Hp) (E : XK), RoomG k (A.deeper (envF F f s.heap.objs.size)) → PE (ncx (L2.CX P w) P w K mg base Nm F f A outer s H E) body (tb E)) ∧ CellsAt F.cl fr ws h H ∧
    H f = some (LamO f F body) ∧ H F.c = some (CodeO F.c F.qual) ∧ ∀ H' Q E, spL H' Q E → tb E (startF Nm [] ws) H' Q
section
variable {P : Program} {w : World} {K : PySem.W.Frag} {mg : Str → Option Value} {base : Heap} {Nm fr : List Str} {F : NF} {f : Addr} {k : Nat} {body : Expr} {tb : TE}
theorem run_lamE (S : NScope Nm [] fr F.scope) (hb : ∀ (pm ctv : Value), bindArgs (PySem.W.kla_fn F.name F.qual F.params body F.scope F.cl pm (.ref F.c) ctv) ⟨[], []⟩ = pure [])
    {A : Around} {outer : List Env} {s : Shared} {H : Hp} {ws : List (Option V)} {Q : VK} {E : XK}
    (hbody : PE (ncx (L2.CX P w) P w K mg base Nm F f A outer s H E) body tb)
    (hr : RoomG (k + 1) A) (e0 : Env0 P w K mg base A outer s H) (hf : H f = some (LamO f F body)) (hc : H F.c = some (CodeO F.c F.qual)) (C : CellsAt F.cl fr ws s.heap H) (q : tb (startF Nm [] ws) H Q) :
    codeAny (model P w) A (.call (.ref f) ⟨[], []⟩) (CR (L2.CX P w) outer P w H s Q E) s := by
  have lim : s.heap.NoLimit := e0.mod.nolimit.keeps fun b o e => (e0.bs b o e).1
  obtain ⟨pm, ctv, ho⟩ := lamO_at e0.hok hf
  refine PySem.W.kla_callFunE hr.toRoom.depth ho rfl S.co S.gen rfl (codeO_at e0.hok hc) ?_
  rw [hb pm ctv]
  refine wpAny_pure (wpAny_newFunctionEnv S.nocell (fun y hy => by cases hy) (fun h1 hns hsb => ⟨lim.fresh _ hsb, ?_⟩) S.kind)
  show codeAny _ _ (.expr body (envF F f s.heap.objs.size)) _ _
  have kp : ∀ b o, s.heap.get? b = some o → h1.get? b = some o := fun b o e => hsb.extBut b o (Nat.ne_of_lt (Heap.lt_size e)) (Heap.get?_push_of_some _ e)
  have J : Inv (ncx (L2.CX P w) P w K mg base Nm F f A outer s H E) [] (startF Nm [] ws) H { s with heap := h1, toks := s.toks } := inv_startN (us := []) S hr.toRoom.hd e0 rfl .nil C hns kp
  refine PySem.W.kla_codeExpr (wpAny_mono (hbody.run [] _ _ H Q J q) (fun v s' z => ?_) fun e s' z => z)
  obtain ⟨v', H', J', rv, z2⟩ := z
  exact ⟨v', H', J'.os, J'.bare, J'.base, J'.hok, rv, z2⟩
end
section
variable {Z : Cx} {f : Addr} {i k : Nat} {a : Str} {p1 p2 : Pos} {spL : Hp → VK → XK → Prop} {W : WX}
/-- a(), a the name of such a lambda -/
theorem pe_actR (L : ActR Z.prog Z.w Z.K Z.mg Z.base k f Z.s_0.heap Z.H_0 spL) (tk : Takes Z W) (hr : RoomG (k + 1) Z.A) (hx : Z.ex = [])
    (hN : Z.N[i]? = some a) (hv : Vis Z.env.scope a) (hd : (a == ("__debug__" : Str)) = false := by decide) (hcd : (a == ("__classdict__" : Str)) = false := by decide) :
    PE Z (.Call (.Name a p1) [] [] p2) (fun σ H Q => σ[i]? = some (some (.ref f)) ∧ Same Z.H_0 H ∧ spL H Q (WE W σ)) := by
  obtain ⟨F, body, Nm, fr, ws, tb, S, hb, hbody, C, h1, h2, hsp⟩ := L
  refine ⟨fun pins s σ H Q I h => ?_⟩
  obtain ⟨hs, sm, hq⟩ := h
  refine wpAny_Call_Name_kw (thn ((pe_var (pos := p1) hN hv hd hcd).run pins s σ H (fun v H1 => v = .ref f ∧ H1 = H) I ⟨.ref f, hs, rfl, rfl⟩) fun u s1 z => ?_)
  obtain ⟨v, H1, J, r1, ev, eH⟩ := z
  subst ev
  rw [eH] at J
  obtain rfl : u = Value.ref f := r1
  have e1 := sm _ _ h1
  have at_ : PySem.W.FnAt f s1.heap := by
    obtain ⟨pm, ctv, ho⟩ := lamO_at J.hok e1
    exact ⟨_, _, _, _, ho⟩
  refine PySem.W.callWith_F0 (first := []) at_ ?_
  show wpAny _ _ (call (.ref f) []) _ _ _
  refine wpAny_call (codeAny_mono (run_lamE (k := k) (E := WE W σ) S hb (hbody Z.A Z.stack s1 H _ (hr.deeper _)) hr J.env0 e1 (sm _ _ h2) (cells_later C hx J) (hsp H Q _ hq)) fun res s' hq => ?_)
  match res, hq with
  | .error e, hq => exact passAt tk σ pins H s1 e s' J hq
  | .ok (.ret u), hq => exact J.after hq
  | .ok .next, hq => exact False.elim hq
  | .ok .brk, hq => exact False.elim hq
  | .ok .cont, hq => exact False.elim hq
end
section
variable {X : Cx}
/-- repr(x), x an int, a text or data without dicts -/
def rReprU (K : PySem.W.Frag) : List V → Hp → VK → Prop := fun xs H Q => ∃ v, xs = [v] ∧ ((∃ i : Int, v = .int i ∧ i.natAbs.log2 < 1920 ∧ Q (.str (toString i)) H) ∨ ∃ d, ((∃ a, v = .ref a) ∨ ∃ x, v = .str x) ∧ Dp K H v d ∧ d.showable = true ∧ d.hasDict = false ∧ d.depth ≤ 60 ∧ d.shown.length ≤ sizeLine ∧ Q (.str d.shown) H)
theorem call_reprU {j : Nat} (hr : RoomG j X.A) : CallR X (.builtin "repr") (rReprU X.K) := by
  intro pins s σ H xs us Q I r h
  obtain ⟨v, rfl, h⟩ := h
  rcases h with ⟨i, rfl, hi, q⟩ | ⟨d, hv, hd, hs, hn, hdp, hz, q⟩
  · exact SkE.call_repr_int pins s σ H [.int i] us Q I r ⟨i, rfl, hi, q⟩
  rcases hv with ⟨a, rfl⟩ | ⟨x, rfl⟩
  · exact call_repr hr pins s σ H [.ref a] us Q I r ⟨a, d, rfl, hd, hs, hn, hdp, hz, q⟩
  · obtain ⟨u, rfl, t, rfl⟩ := vals1 r
    cases hd
    simp only [PyData.shown] at hz q
    exact PySem.P.repr_of_str ⟨.str (reprText x), H, I.kept (t' := s.toks + 1) fun b o e => e, ⟨_, rfl⟩, q⟩ hz
theorem pe_no {e : Expr} : PE X e (fun _ _ _ => False) := ⟨fun _ _ _ _ _ _ h => h.elim⟩
end
end N

namespace N
open PySem PySem.Spec PyProof.Rows L2
section
variable {X : Cx}
/-- list.count of a flat item among flat items -/
def rCnt (K : PySem.W.Frag) : V → List V → Hp → VK → Prop := fun x xs H Q => ∃ (p : Addr) (ys : List V) (y : V), x = .ref p ∧ xs = [y] ∧ SqL K H p ys ∧ flatV y = true ∧ ys.all flatV = true ∧ Q (.int ((ys.countP fun z => eqV z y : Nat))) H
theorem count_of {y : V} : ∀ {ys : List V} {us : List Value}, Vals ys us → ys.all flatV = true → us.countP (eqU y) = ys.countP fun z => eqV z y
  | _, _, .nil, _ => rfl
  | z :: ys, _, .cons r t, h => by
    rw [List.all_cons, Bool.and_eq_true] at h
    rw [List.countP_cons, List.countP_cons, count_of t h.2, eqU_of r h.1]
theorem mt_cnt : MtR X "list.count" (rCnt X.K) := by
  intro pins s σ H x xs v us Q I rx rxs h
  obtain ⟨p, ys, y, rfl, rfl, hs, fy, fys, q⟩ := h
  cases rx
  obtain ⟨uy, rfl, ry⟩ := rxs.one
  obtain ⟨its, rv, ⟨⟨cls, dd, data, sl⟩, n, ho, hc, hdn, hd⟩, hlen⟩ := I.list hs
  simp only at hc hd
  subst hc hd
  refine call_meets PySem.F.slot_list_count ⟨_, ho, rfl⟩ PySem.F.entry_list_count (PySem.F.args_list_count_2 _ _)
    (SeqAt.list_countAt p its.toArray n dd sl uy (eqU y)) ⟨ho, fun u' hu' => mem_eqAt ry fy rv fys u' (by simpa using hu'), ?_⟩
  have ec : its.toArray.toList.countP (eqU y) = ys.countP fun z => eqV z y := count_of rv fys
  refine ⟨.int ((ys.countP fun z => eqV z y : Nat)), H, I.tok _, ⟨s.toks, ?_⟩, q⟩
  show Value.int ((its.toArray.toList.countP (eqU y) : Nat) : Int) s.toks = _
  rw [ec]
end
end N

namespace N
open PySem PySem.Spec PyProof.Rows L2 LamX NdefX
/-! ### lambdas where more than one table is known -/
/-- all but what stands at P stays -/
def ExtP (P : Addr) (H H' : Hp) : Prop := ∀ b o, H b = some o → b ≠ P → H' b = some o
theorem ExtP.refl (P : Addr) (H : Hp) : ExtP P H H := fun _ _ h _ => h
theorem ExtP.of {P : Addr} {H H' : Hp} (s : Same H H') : ExtP P H H' := fun b o h _ => s b o h
theorem ExtP.trans {P : Addr} {H H1 H2 : Hp} (a : ExtP P H H1) (b : ExtP P H1 H2) : ExtP P H H2 := fun c o h n => b c o (a c o h n) n
theorem ExtP.tab {P P2 : Addr} {q : Str} {H H' : Hp} (e : ExtP P H H') (n : P2 ≠ P) (hP : ∃ ps, H P = some (.tbl ps)) (t : TabS H P2 q) : TabS H' P2 q := by
  obtain ⟨ps, h1, h2, h3⟩ := t
  obtain ⟨qs, hq⟩ := hP
  refine ⟨ps, e _ _ h1 n, h2, fun p' cv z => ?_⟩
  obtain ⟨c0, ec, hc⟩ := h3 p' cv z
  refine ⟨c0, ec, e _ _ hc fun z => ?_⟩
  rw [z, hq] at hc
  exact codeO_ne qs (Option.some.inj hc).symm
section
variable {X : Cx} {pins : List (Addr × Obj)} {σ : L2.St} {H : Hp} {s : Shared}
theorem lam_new2 {c P : Addr} {params : Arguments} {body : Expr} {scope : Scope} {pos : Pos} {E : Value → Shared → Prop} {Q : Value → Shared → Prop} (I : Inv X pins σ H s) (TB : TabB X.base X.mg c P) (hcode : X.env.code = .ref c) (hT : TabS H P (X.env.qual ++ "<lambda>"))
    (hdef : defaultsOf params X.env = ([], [])) (hfree : ∀ y ∈ scope.names, y.2 = .free → ∃ c, X.env.cells.lookup y.1 = some c)
    (h : ∀ (f c' : Addr) (H1 : Hp) (s' : Shared), Inv X pins σ H1 s' → ExtP P H H1 → ExtN H H1 → TabS H1 P (X.env.qual ++ "<lambda>") → (∀ b, H1 b = none → H b = none) → H f = none → H1 f = some (LamO f (lamF (X.env.qual ++ "<lambda>") params scope (cloFrom X.env.cells scope.names []) c') body) → H1 c' = some (CodeO c' (X.env.qual ++ "<lambda>")) → Q (.ref f) s') :
    wpAny (model X.prog X.w) X.A (eval (.Lambda params body scope pos) X.env) Q E s := by
  obtain ⟨ps, hP, ht, ha⟩ := hT
  apply PySem.W.kla_eval hdef
  have hb : s.heap.BuiltinsAt X.mg P := TB.bm.keeps I.bk
  have tP : s.heap.get? P = some { cls := .none, data := .fields ps } := I.hok P _ hP
  -- the function object itself
  have fin : ∀ (h' : Heap) (tk : Nat) (c' : Addr) (ctv : Value) (H1 : Hp), Inv X pins σ H1 { s with heap := h', toks := tk } → ExtP P H H1 → ExtN H H1 → TabS H1 P (X.env.qual ++ "<lambda>") → (∀ b, H1 b = none → H b = none) → H1 c' = some (CodeO c' (X.env.qual ++ "<lambda>")) →
      Q (.ref h'.objs.size) { s with heap := h'.push (PySem.W.kla_obj "<lambda>" (X.env.qual ++ "<lambda>") params body scope (cloFrom X.env.cells scope.names []) ((X.mg "__name__").getD .none) c' ctv), toks := tk } := by
    intro h' tk c' ctv H1 J e0 e1 T1 n1 k1
    have nf : H1 h'.objs.size = none := J.hok.fresh (Nat.le_refl _)
    have here : (h'.push (PySem.W.kla_obj "<lambda>" (X.env.qual ++ "<lambda>") params body scope (cloFrom X.env.cells scope.names []) ((X.mg "__name__").getD .none) c' ctv)).get? h'.objs.size = some _ := Heap.get?_push_size _ rfl
    have J2 := J.laid (t' := tk) (a := h'.objs.size) (o := LamO h'.objs.size (lamF (X.env.qual ++ "<lambda>") params scope (cloFrom X.env.cells scope.names []) c') body) (fun b u e => Heap.get?_push_of_some _ e) (Nat.le_refl _)
      ⟨⟨_, _, here⟩, ⟨_, here⟩, fun h1 h2 y st => by obtain ⟨a, b, z⟩ := y; exact ⟨a, b, st _ z⟩⟩
    have sm := same_new nf (LamO h'.objs.size (lamF (X.env.qual ++ "<lambda>") params scope (cloFrom X.env.cells scope.names []) c') body)
    exact h _ c' _ _ J2 (e0.trans (ExtP.of sm)) (e1.trans (ExtN.of sm)) (T1.ext sm) (fun b z => n1 b (sm.free z)) (n1 _ nf) upd_same (sm _ _ k1)
  cases hc : codeAmong pos ps.toList with
  | some cv =>
    obtain ⟨c', ec, hco⟩ := ha pos cv hc
    subst ec
    refine PySem.W.kla_makeFunctionHit (closure_ok hfree) I.ok.glob (I.mod.glob.keeps I.bk) hcode (TB.code.keeps I.bk) tP ht hc hb (fun ctv h' tk kx _ => ?_)
    exact fin h' tk c' ctv H (I.kept kx) (ExtP.refl P H) (ExtN.refl H) ⟨ps, hP, ht, ha⟩ (fun b z => z) hco
  | none =>
    refine PySem.W.kla_makeFunction (closure_ok hfree) I.ok.glob (I.mod.glob.keeps I.bk) hcode (TB.code.keeps I.bk) tP ht hc TB.gP hb (fun c' ctv h' tk kx hge hlt hrec htb => ?_)
    obtain ⟨c2, oc, vs, t, e2, y1, y2, y3⟩ := hrec
    cases e2
    have nc : H c' = none := I.hok.fresh hge
    have J := inv_table (t' := tk) (more := #[rawInt pos.line, rawInt pos.col, .ref c']) (h' := h') (q := X.env.qual ++ "<lambda>") I hP (fun b o n e => kx b o n e) htb hge ⟨oc, vs, t, y1, y2, y3⟩
    refine fin h' tk c' ctv _ J (fun b o e n => ?_) (fun b o e n => ?_) (tabS_more hP ht ha nc) (fun b z => upd_none (upd_none z)) upd_same
    · rw [upd_ne (ne_of_none e nc), upd_ne n]
      exact e
    · rw [upd_ne (ne_of_none e nc), upd_ne (fun z => n ps (Option.some.inj (e.symm.trans (by rw [z]; exact hP))))]
      exact e
/-- lambda ..: .. as a value -/
theorem pe_lamT2 {c P : Addr} {params : Arguments} {body : Expr} {scope : Scope} {pos : Pos} (TB : TabB X.base X.mg c P) (hcode : X.env.code = .ref c) (hdef : defaultsOf params X.env = ([], []) := by rfl)
    (fre : ∀ y ∈ scope.names, y.2 = .free → X.env.scope.names.lookup y.1 = some .cell ∨ X.env.scope.names.lookup y.1 = some .free := by decide +kernel) :
    PE X (.Lambda params body scope pos) (fun σ H Q => TabS H P (X.env.qual ++ "<lambda>") ∧ ∀ (f c' : Addr) (H1 : Hp), ExtP P H H1 → ExtN H H1 → TabS H1 P (X.env.qual ++ "<lambda>") → (∀ b, H1 b = none → H b = none) → H f = none →
      H1 f = some (LamO f (lamF (X.env.qual ++ "<lambda>") params scope (cloFrom X.env.cells scope.names []) c') body) → H1 c' = some (CodeO c' (X.env.qual ++ "<lambda>")) → Q (.ref f) H1) := by
  refine ⟨fun pins s σ H Q I h => ?_⟩
  obtain ⟨hT, h⟩ := h
  refine lam_new2 I TB hcode hT hdef (fun y hy ey => (fre y hy ey).elim (fun z => I.ok.has _ (.inl z)) fun z => I.ok.has _ (.inr z)) (fun f c' H1 s' J g0 g1 g2 g3 g4 g5 g6 => ?_)
  exact ⟨.ref f, H1, J, rfl, h f c' H1 g0 g1 g2 g3 g4 g5 g6⟩
end
end N

namespace N
open PySem PySem.Spec PyProof.Rows L2 StX LamX NdefX
theorem ext_stay {K : PySem.W.Frag} {H H' : Hp} (e : ExtN H H') : Stay K H H' where
  tup := fun a xs q => by
    rcases q with (q | ⟨o', q⟩) | q
    · exact .inl (.inl (e _ _ q (fun ps z => by cases z)))
    · exact .inl (.inr ⟨o', e _ _ q (fun ps z => by cases z)⟩)
    · exact .inr q
  ty := fun v t q => by
    cases q with
    | base b =>
      cases b with
      | non => exact .base .non
      | bl x => exact .base (.bl x)
      | int i => exact .base (.int i)
      | str x => exact .base (.str x)
      | flt x => exact .base (.flt x)
      | lst z => exact .base (.lst (e _ _ z (fun ps y => by cases y)))
      | frz z => exact .base (.frz (e _ _ z (fun ps y => by cases y)))
      | tup z => exact .base (.tup (e _ _ z (fun ps y => by cases y)))
      | dK z => exact .base (.dK (e _ _ z (fun ps y => by cases y)))
      | dT z => exact .base (.dT (e _ _ z (fun ps y => by cases y)))
      | ins z cl ha hn htk hm => exact .base (.ins (e _ _ z (fun ps y => by cases y)) cl ha hn htk hm)
    | byt b => exact .byt b
    | set z => exact .set (e _ _ z (fun ps y => by cases y))
    | kList z c => exact .kList z c
    | kTuple z c => exact .kTuple z c
    | kDict z c => exact .kDict z c
    | fTuple z => exact .fTuple (e _ _ z (fun ps y => by cases y))
    | fDict z => exact .fDict (e _ _ z (fun ps y => by cases y))
/-- all but the tables stays, and nothing that was tracked is gone -/
structure Gro (H H' : Hp) : Prop where
  e : ExtN H H'
  n : ∀ b, H' b = none → H b = none
theorem Gro.of {H H' : Hp} (s : Same H H') : Gro H H' := ⟨ExtN.of s, fun b z => s.free z⟩
theorem Gro.trans {H H1 H2 : Hp} (a : Gro H H1) (b : Gro H1 H2) : Gro H H2 := ⟨a.e.trans b.e, fun x z => a.n x (b.n x z)⟩
theorem Gro.refl (H : Hp) : Gro H H := ⟨ExtN.refl H, fun _ z => z⟩
theorem Gro.stay {K : PySem.W.Frag} {H H' : Hp} (g : Gro H H') : Stay K H H' := ext_stay g.e
theorem Gro.seq {K : PySem.W.Frag} {H H' : Hp} {a : Addr} {xs : List V} (g : Gro H H') (h : SqL K H a xs) : SqL K H' a xs := by
  rcases h with (h | ⟨o, h⟩) | h
  · exact .inl (.inl (g.e _ _ h (fun ps z => by cases z)))
  · exact .inl (.inr ⟨o, g.e _ _ h (fun ps z => by cases z)⟩)
  · exact .inr h
/-- .. and all but the table at P stays -/
structure GroP (P : Addr) (H H' : Hp) : Prop where
  g : Gro H H'
  x : ExtP P H H'
theorem GroP.of {P : Addr} {H H' : Hp} (s : Same H H') : GroP P H H' := ⟨Gro.of s, ExtP.of s⟩
theorem GroP.trans {P : Addr} {H H1 H2 : Hp} (a : GroP P H H1) (b : GroP P H1 H2) : GroP P H H2 := ⟨a.g.trans b.g, a.x.trans b.x⟩
theorem GroP.refl (P : Addr) (H : Hp) : GroP P H H := ⟨Gro.refl H, ExtP.refl P H⟩
end N

namespace N
open PySem PySem.Spec PyProof.Rows L2 L2H StX LamX NdefX
/-! ### _law_said, of a call that raises Turned -/
def DXz (d : Option Addr) (H : Hp) : Prop := ∃ dd fs, d = some dd ∧ H dd = some (.xd fs)
theorem DXz.same {d : Option Addr} {H H' : Hp} (s : Same H H') (h : DXz d H) : DXz d H' := by
  obtain ⟨dd, fs, e, q⟩ := h
  exact ⟨dd, fs, e, s _ _ q⟩
section
variable {X : Cx} {C : Addr} {d : Option Addr}
def rIsZ (K : PySem.W.Frag) (a C : Addr) (d : Option Addr) : List V → Hp → VK → Prop := fun xs H Q => ∃ (c : V) (cv : Value) (b : Bool), xs = [.ref a, c] ∧ (∀ u, RelV c u → u = cv) ∧ PySem.W.kitOne K (.ref C) cv = some b ∧ DXz d H ∧ Q (.bl b) H
theorem call_isZ {p : Addr × Obj} (T : ExcC X.K C) (hp : p ∈ X.pn) (hz : Zc (.ref C) d p.2) (hf : ∃ ws, p.2.data = .fields ws) : CallR X (.builtin "isinstance") (rIsZ X.K p.1 C d) := by
  intro pins s σ H xs us Q I r h
  obtain ⟨c, cv, b, rfl, hcv, e, ⟨dd, fs, ed, hd⟩, q⟩ := h
  cases r with
  | cons rx rr =>
    cases rr with
    | cons rt rr =>
      cases rr
      cases rx
      have ec := hcv _ rt
      subst ec
      obtain ⟨hget, _⟩ := I.pin p (List.mem_append_left _ hp)
      obtain ⟨ws, hv⟩ := hf
      have nc : PySem.W.notCls p.2 = true := by unfold PySem.W.notCls; rw [hv] <;> rfl
      obtain ⟨od, J⟩ : ∃ od, PySem.W.InstAt s.heap p.1 p.2 C od := by
        subst ed
        obtain ⟨mA, hns, hr⟩ := (I.hok dd _ hd : ObjOk X.prog X.w H s.heap dd (.xd fs))
        obtain ⟨od, ho, hl⟩ := lookIn_ns hns
        exact ⟨some od, hget, hz.1, nc, by rw [hz.2]; exact ho⟩
      have hcl : (PySem.W.clsIn X.K C).isSome = true := by
        obtain ⟨cd, hc, _⟩ := PySem.W.any_some T.hd
        rw [hc]
        rfl
      exact PySem.W.kia_one (PySem.W.kitx_exc hcl T.hg T.hk T.hs T.ha T.hn T.ht T.hm) I.kIn J e (fun z => nomatch z) fun tk => ⟨.bl b, H, I.kept (t' := tk) fun _ _ z => z, rfl, q⟩
end
/-- the classes that said asks for -/
structure SaidT (K : PySem.W.Frag) (mg : Str → Option Value) (CT ke n0 n1 n2 n3 : Addr) : Prop where
  g0 : mg "NoType" = some (.ref n0)
  g1 : mg "NoTable" = some (.ref n1)
  g2 : mg "Endless" = some (.ref n2)
  g3 : mg "TooMany" = some (.ref n3)
  g4 : mg "Turned" = some (.ref CT)
  k0 : PySem.W.kitOne K (.ref CT) (.ref n0) = some false
  k1 : PySem.W.kitOne K (.ref CT) (.ref n1) = some false
  k2 : PySem.W.kitOne K (.ref CT) (.ref n2) = some false
  k3 : PySem.W.kitOne K (.ref CT) (.ref n3) = some false
  k4 : PySem.W.kitOne K (.ref CT) (.ref CT) = some true
  kv : PySem.W.kitOne K (.ref CT) (.type "ValueError") = some true
  ex : ExcC K CT
  ve : mg "ValueError" = none
  kE : mg "KindError" = some (.ref ke)
  xm : PySem.W.exmOne K (.ref CT) (.ref ke) = some true
def tActZ (f : Addr) (i : Nat) (H0 : Hp) (spL : Hp → VK → XK → Prop) (W : WX) : TE := fun σ H Q => σ[i]? = some (some (.ref f)) ∧ Same H0 H ∧ spL H Q (WE W σ)
theorem pssImpZ {X : Cx} {b : List Stmt} {t t' : TS} (h : PSs X b t) (q : ∀ D σ H, t' D σ H → t D σ H) : PSs X b t' := ⟨fun pins s σ H D I z => h.run pins s σ H D I (q _ _ _ z)⟩
def mk5 : List V := [.bl false, .bl false, .bl false, .bl false, .bl true]
section
variable {P : Program} {w : World} {K : PySem.W.Frag} {mg : Str → Option Value} {base : Heap} {CT ke n0 n1 n2 n3 : Addr}
theorem said_turned {kk : Nat} {g f : Addr} {cdv : Value} {A : Around} {outer : List Env} {s : Shared} {H : Hp} {Q : VK} {spL : Hp → VK → XK → Prop} (G : Glo mg) (ST : SaidT K mg CT ke n0 n1 n2 n3)
    (L : ActR P w K mg base kk f s.heap H spL) (hk1 : 1 ≤ kk) (hr : RoomG (kk + 1) (A.deeper (envOfC "_law_said" (defScope s_Lsaid) s.heap.objs.size g cdv)))
    (hm : ∀ (R R' : VK) (E E' : XK), (∀ v H1, R v H1 → R' v H1) → (∀ cls d H1, E cls d H1 → E' cls d H1) → spL H R E → spL H R' E')
    (q : spL H (fun _ _ => False) (fun cls d H1 => cls = .ref CT ∧ DXz d H1 ∧ ∀ H2, Same H1 H2 → Q (.str "! Turned") H2)) :
    ∃ t, PSs (cxOf (L2.CX P w) P w K mg base nm_Lsaid "_law_said" (defScope s_Lsaid) g cdv A outer s H E0) (defBody s_Lsaid) t ∧ t { nx := fun _ H' => Q .non H', rt := Q } (L2.start nm_Lsaid [.ref f]) H := by
  refine ⟨_, pss_one (ps_try_as (i := 1) (c := .ref ke) (Wout := fun cls d _ H => E0 cls d H) (ts := fun a cls d D σ H => ∃ x y, σ = [x, some (.ref a), y] ∧ cls = .ref CT ∧ DXz d H ∧ ∀ H2, Same H H2 → D.rt (.str "! Turned") H2) rfl rfl sc_Lsaid.nd rfl rfl ⟨rfl, by decide, .inl ST.kE⟩ (takes_of rfl rfl rfl rfl)
    (fun W pn xe tk po => pss_one (ps_ret (pe_callB (id := "repr") (r := rReprU K) (call_reprU hr) (by rfl) G.repr (by decide +kernel) (pa_cons (show PE _ _ (tActZ f 0 H spL W) from pe_actR (i := 0) L tk hr rfl rfl (.inl rfl)) pa_nil))))
    (fun a oe cls d pn hz hf => ⟨fun pins s' σ H' D I h => ?_⟩)), ?_⟩
  · obtain ⟨x, y, rfl, rfl, dx, h⟩ := h
    have len : ∀ n, n ≤ 18 → n ≤ sizeLine := fun n h => by rw [sizeLine_eq]; omega
    refine (pssImpZ (t' := fun D σ H => σ = [x, some (.ref a), y] ∧ DXz d H ∧ ∀ H2, Same H H2 → D.rt (.str "! Turned") H2)
      (pss_cons (ps_set (i := 2) sc_Lsaid.nd rfl (Or.inl rfl) (pe_lst (pa_cons (pe_callB (call_isZ ST.ex List.mem_cons_self hz hf) (by rfl) G.isinstance (by decide +kernel) (pa_cons (pv 1) (pa_cons (pe_glob (v := .ref n0) (by rfl) ST.g0 rfl) pa_nil))) (pa_cons (pe_callB (call_isZ ST.ex List.mem_cons_self hz hf) (by rfl) G.isinstance (by decide +kernel) (pa_cons (pv 1) (pa_cons (pe_glob (v := .ref n1) (by rfl) ST.g1 rfl) pa_nil))) pa_nil))))
      (pss_cons (ps_set (i := 2) sc_Lsaid.nd rfl (Or.inl rfl) (pe_op op_cat (pv 2) (pe_lst (pa_cons (pe_callB (call_isZ ST.ex List.mem_cons_self hz hf) (by rfl) G.isinstance (by decide +kernel) (pa_cons (pv 1) (pa_cons (pe_glob (v := .ref n2) (by rfl) ST.g2 rfl) pa_nil))) (pa_cons (pe_callB (call_isZ ST.ex List.mem_cons_self hz hf) (by rfl) G.isinstance (by decide +kernel) (pa_cons (pv 1) (pa_cons (pe_glob (v := .ref n3) (by rfl) ST.g3 rfl) pa_nil))) (pa_cons (pe_callB (call_isZ ST.ex List.mem_cons_self hz hf) (by rfl) G.isinstance (by decide +kernel) (pa_cons (pv 1) (pa_cons (pe_glob (v := .ref CT) (by rfl) ST.g4 rfl) pa_nil))) pa_nil))))))
      (pss_cons (ps_if (PW.pt (pw_or (pt_cmpR op_ne (pe_bm PySem.F.plainAttrs_list PySem.F.slot_list_count PySem.F.type_list_count mt_cnt (pv 2) (pa_cons pe_bl pa_nil)) pe_int (nomark _)) (pw_or1 (pt_not (pt_val (pe_callB (call_isZ ST.ex List.mem_cons_self hz hf) (by rfl) G.isinstance (by decide +kernel) (pa_cons (pv 1) (pa_cons (pe_bltn (v := .ty "ValueError") (by rfl) ST.ve (by decide +kernel) rfl) pa_nil)))))))) (pss_one (ps_ret pe_str)) pss_nil)
      (pss_one (ps_ret (pe_op op_add_str pe_str (pe_ix ix_list (pe_lst (pa_cons pe_str (pa_cons pe_str (pa_cons pe_str (pa_cons pe_str (pa_cons pe_str pa_nil)))))) (pe_bm PySem.F.plainAttrs_list PySem.F.slot_list_index PySem.F.type_list_index mt_index (pv 2) (pa_cons pe_bl pa_nil)) (fun _ _ => rfl)))))))) fun D σ H z => ?_).run pins s' _ H' D I ⟨rfl, dx, h⟩
    obtain ⟨rfl, dx, z⟩ := z
    refine ⟨_, rfl, .ref n0, .ref n0, _, rfl, fun u r => r, ST.k0, dx, ⟨_, rfl, .ref n1, .ref n1, _, rfl, fun u r => r, ST.k1, dx, ⟨len 2 (by decide), fun a1 h1 => ?_⟩⟩⟩
    have s1 := same_new h1 (.lst [V.bl false, .bl false])
    have dx1 := dx.same s1
    refine ⟨_, rfl, ⟨_, rfl, .ref n2, .ref n2, _, rfl, fun u r => r, ST.k2, dx1, ⟨_, rfl, .ref n3, .ref n3, _, rfl, fun u r => r, ST.k3, dx1, ⟨_, rfl, .ref CT, .ref CT, _, rfl, fun u r => r, ST.k4, dx1, ⟨len 3 (by decide), fun b1 g1 => ?_⟩⟩⟩⟩⟩
    have s2 := same_new g1 (.lst [V.bl false, .bl false, .bl true])
    refine ⟨a1, b1, _, _, rfl, rfl, s2 _ _ upd_same, upd_same, len 5 (by decide), fun a2 h2 => ?_⟩
    have s3 := same_new h2 (.lst mk5)
    have s13 := s1.trans (s2.trans s3)
    have l3 := upd_same (H := upd (upd H a1 (.lst [V.bl false, .bl false])) b1 (.lst [V.bl false, .bl false, .bl true])) (a := a2) (o := .lst mk5)
    revert s3 s13 l3
    show Same _ (upd _ a2 (.lst mk5)) → _
    intro s3 s13 l3
    have dx3 := dx.same s13
    refine ⟨_, rfl, .inl ⟨rfl, _, SqL.of l3⟩, a2, mk5, .bl true, rfl, rfl, SqL.of l3, rfl, by decide +kernel, ?_⟩
    refine ⟨rfl, _, rfl, ite2 (fun z => absurd z (by decide)) (fun _ => ?_)⟩
    refine ⟨_, rfl, .ty "ValueError", .type "ValueError", _, rfl, fun u r => r, ST.kv, dx3, _, rfl, ite2 (fun z => absurd z (by decide)) (fun _ => ?_)⟩
    refine ⟨len 5 (by decide), fun d1 e1 => ?_⟩
    have s4 := same_new e1 (.lst ((["NoType", "NoTable", "Endless", "TooMany", "Turned"] : List Str).map V.str))
    refine ⟨_, rfl, .inl ⟨rfl, _, SqL.of (s4 _ _ l3)⟩, a2, mk5, .bl true, 4, .bl true, rfl, rfl, SqL.of (s4 _ _ l3), rfl, by decide +kernel, rfl, rfl, fun m z hm hz => ?_, ?_⟩
    · match m, hm with
      | 0, _ => cases hz; rfl
      | 1, _ => cases hz; rfl
      | 2, _ => cases hz; rfl
      | 3, _ => cases hz; rfl
    · refine ⟨d1, _, _, _, rfl, rfl, SqL.of upd_same, atI_nat (j := 4) rfl, ?_⟩
      exact ⟨_, _, rfl, rfl, by decide +kernel, z _ (s13.trans s4)⟩
  · refine ⟨rfl, Same.refl _, hm _ _ _ _ (fun v H1 z => z.elim) (fun cls d H1 z => ?_) q⟩
    obtain ⟨rfl, dx, z⟩ := z
    exact ⟨true, ST.xm, fun _ a ha => ⟨_, _, rfl, rfl, dx, z⟩, fun z => by cases z⟩
end
end N

namespace N
open PySem PySem.Spec PyProof.Rows L2 StX
/-! ### the tables of k69, reckoned -/
def rk4 (n : Str) : Nat := if n = "tray" then 1 else 0
def preB (cs : List Cls) (rank : Str → Nat) : Bool := okF cs && (cs.all (fun c => c.decl.all fun k => fitK (arOf cs) (c.ps.map Prod.fst) k && decide (k.nds ≤ 1000)) &&
  cs.all (fun c => c.ks.all fun k => decide (k.nm ∈ cs.map Cls.nm) && decide (rank k.nm < rank c.nm)))
theorem preB_ok {cs : List Cls} {rank : Str → Nat} (h : preB cs rank = true) : PreOk cs := by
  unfold preB at h
  simp only [Bool.and_eq_true, List.all_eq_true] at h
  obtain ⟨h1, h2, h3⟩ := h
  have F := okF_ok h1
  exact ⟨F, ⟨fun c hc k hk => ⟨fitK_ok (h2 c hc k hk).1, of_decide_eq_true (h2 c hc k hk).2⟩⟩, ⟨rank, fun c hc k hk => ⟨of_decide_eq_true (h3 c hc k hk).1, of_decide_eq_true (h3 c hc k hk).2⟩, fun c hc => (F.ok c hc).k2⟩⟩
def pre2 : List (List Str) := [["box", "X", "+"], ["sink", "X", "-"]]
/-- what is told of a table, as a Boolean look -/
def toldB (c : Cls) (n : Nat) (fl sg : List (List Str)) : Bool := preB (x4 c) rk4 && (decide (turnOf (x4 c) = none) && (eqG (x4 c) (itG (x4 c) n) (itG (x4 c) (n + 1)) && ((List.range n).all (fun k => !eqG (x4 c) (itG (x4 c) k) (itG (x4 c) (k + 1))) && (decide (fltR (x4 c) = fl) && (decide (fl.length ≤ 1) &&
  (decide (((x4 c).flatMap keyL).Pairwise fun a b => leKx a b = true) && decide (((x4 c).flatMap keyL).map (fun k => keyT k ++ [(valN (tabG (x4 c) (itG (x4 c) n)) k).getD ""]) = pre2 ++ sg)))))))
structure Told (c : Cls) (n : Nat) (fl sg : List (List Str)) : Prop where
  pre : PreOk (x4 c)
  tn : turnOf (x4 c) = none
  fx : FixAt (x4 c) n
  fl : fltS (x4 c) = fl
  sg : sigR (x4 c) (itG (x4 c) n) = pre2 ++ sg
theorem told_ok {c : Cls} {n : Nat} {fl sg : List (List Str)} (h : toldB c n fl sg = true) : Told c n fl sg := by
  unfold toldB at h
  simp only [Bool.and_eq_true, decide_eq_true_eq, List.all_eq_true, Bool.not_eq_true', List.mem_range] at h
  obtain ⟨h1, h2, h3, h4, h5, h6, h7, h8⟩ := h
  refine ⟨preB_ok h1, h2, ⟨h3, h4⟩, ?_, ?_⟩
  · unfold fltS
    rw [h5]
    match fl, h6 with
    | [], _ => simp
    | [x], _ => simp [txB_K]
  · unfold sigR sigK
    rw [List.mergeSort_of_pairwise h7]
    exact h8
def trayW (v : Str) (m : Nat) : Cls := ⟨"tray", [("X", v)], [], [("first", "takes", wrapK "sink" (.L "X") m)]⟩
def sgn1 (m : Nat) : Str := if m % 2 = 1 then "+" else "-"
def fl1 (s : Str) : List (List Str) := [["tray", "X", s]]
theorem tWO : ∀ m, 1 ≤ m → m ≤ 5 → toldB (trayW "out" m) 2 (if sgn1 m = "-" then fl1 "-" else []) (fl1 (sgn1 m)) = true := by
  have h : ([1, 2, 3, 4, 5].all fun m => toldB (trayW "out" m) 2 (if sgn1 m = "-" then fl1 "-" else []) (fl1 (sgn1 m))) = true := by decide +kernel
  intro m h1 h5
  exact List.all_eq_true.mp h m (by simp; omega)
theorem tWI : ∀ m, 1 ≤ m → m ≤ 5 → toldB (trayW "in" m) 2 (if sgn1 m = "+" then fl1 "+" else []) (fl1 (sgn1 m)) = true := by
  have h : ([1, 2, 3, 4, 5].all fun m => toldB (trayW "in" m) 2 (if sgn1 m = "+" then fl1 "+" else []) (fl1 (sgn1 m))) = true := by decide +kernel
  intro m h1 h5
  exact List.all_eq_true.mp h m (by simp; omega)
theorem sgn1_or (m : Nat) : sgn1 m = "+" ∨ sgn1 m = "-" := by
  unfold sgn1
  split
  · exact .inl rfl
  · exact .inr rfl
def xSwap : Cls := ⟨"tray", [("X", "same"), ("Y", "same")], [], [("first", "takes", .C2 "tray" (.L "Y") (.L "X")), ("second", "reads", .L "X")]⟩
def xKnot : Cls := ⟨"tray", [("X", "out")], [], [("first", "takes", .C1 "tray" (.L "X")), ("second", "reads", .L "X")]⟩
def xLoop : Cls := ⟨"tray", [("X", "out")], [], [("first", "reads", .C1 "tray" (.L "X"))]⟩
def xHeld : Cls := ⟨"tray", [("X", "in")], [], [("first", "holds", .C1 "box" (.L "X"))]⟩
def trayP (v : Str) (k : Kd) : Cls := ⟨"tray", [("X", v)], [k], []⟩
def kBS : Kd := .C1 "box" (.C1 "sink" (.L "X"))
def kSS : Kd := .C1 "sink" (.C1 "sink" (.L "X"))
theorem tSwap : Told xSwap 2 [] [["tray", "X", "+"], ["tray", "Y", "-"]] := told_ok (by decide +kernel)
theorem tKnot : Told xKnot 2 (fl1 "-") (fl1 "+-") := told_ok (by decide +kernel)
theorem tLoop : Told xLoop 1 [] (fl1 "") := told_ok (by decide +kernel)
theorem tHeld : Told xHeld 2 (fl1 "+") (fl1 "+-") := told_ok (by decide +kernel)
theorem tGB : Told (trayP "in" kBS) 2 [] (fl1 "-") := told_ok (by decide +kernel)
theorem tGS : Told (trayP "out" kSS) 2 [] (fl1 "+") := told_ok (by decide +kernel)
theorem bB : preB (x4 (trayP "out" kBS)) rk4 = true ∧ turnOf (x4 (trayP "out" kBS)) ≠ none := by decide +kernel
theorem bS : preB (x4 (trayP "in" kSS)) rk4 = true ∧ turnOf (x4 (trayP "in" kSS)) ≠ none := by decide +kernel
end N

namespace N
open PySem PySem.Spec PyProof.Rows L2 L2H StX LamX NdefX
/-! ### k69: _law_one_right, _law_two_right -/
def tRes (K : PySem.W.Frag) (d : PyData) : TE := fun _ H Q => ∀ H' v, Same H H' → Dp K H' v d → Q v H'
section
variable {K : PySem.W.Frag}
theorem rsT {xs : List Str} (h : xs.length ≤ 10) : Imp (tRes K (trD xs)) (fun σ H Q => xs.length ≤ sizeLine ∧ ∀ p, H p = none → Q (.ref p) (upd H p (.tup (xs.map V.str)))) := fun σ H Q z =>
  ⟨Nat.le_trans (show _ ≤ 100000 by omega) (by decide), fun p hp => z _ _ (same_new hp _) (.tup (.inl (.inl upd_same)) (dp_txs xs))⟩
theorem rs3 {a b c : Str} : Imp (tRes K (trD [a, b, c])) (tTup (tCons (tC (.str a)) (tCons (tC (.str b)) (tCons (tC (.str c)) tNil)))) := rsT (xs := [a, b, c]) (by show 3 ≤ 10; decide)
theorem rs0 : Imp (tRes K (tupD [])) (tTup tNil) := fun σ H Q z => ⟨Nat.zero_le _, fun p hp => z _ _ (same_new hp _) (.tup (.inl (.inl upd_same)) .nil)⟩
theorem rsC1 {x : List Str} {t : TE} (h : Imp (tRes K (trD x)) t) : Imp (tRes K (tupD [x])) (tTup (tCons t tNil)) := fun σ H Q z =>
  h σ H _ fun H1 v s1 hv => ⟨by show 1 ≤ sizeLine; decide, fun p hp => z _ _ (s1.trans (same_new hp _)) (.tup (.inl (.inl upd_same)) (.cons (dp_same (same_new hp _) _ _ hv) .nil))⟩
theorem rsC2 {x y : List Str} {t u : TE} (h : Imp (tRes K (trD x)) t) (h2 : Imp (tRes K (trD y)) u) : Imp (tRes K (tupD [x, y])) (tTup (tCons t (tCons u tNil))) := fun σ H Q z =>
  h σ H _ fun H1 v s1 hv => h2 σ H1 _ fun H2 v2 s2 hv2 => ⟨by show 2 ≤ sizeLine; decide, fun p hp => z _ _ (s1.trans (s2.trans (same_new hp _))) (.tup (.inl (.inl upd_same)) (.cons (dp_same (s2.trans (same_new hp _)) _ _ hv) (.cons (dp_same (same_new hp _) _ _ hv2) .nil)))⟩
theorem rsL2 {d e : PyData} {t u : TE} (h : Imp (tRes K d) t) (h2 : Imp (tRes K e) u) : Imp (tRes K (.list [d, e])) (tLst (tCons t (tCons u tNil))) := fun σ H Q z =>
  h σ H _ fun H1 v s1 hv => h2 σ H1 _ fun H2 v2 s2 hv2 => ⟨by show 2 ≤ sizeLine; decide, fun p hp => z _ _ (s1.trans (s2.trans (same_new hp _))) (.lst (SqL.of upd_same) (.cons (dp_same (s2.trans (same_new hp _)) _ _ hv) (.cons (dp_same (same_new hp _) _ _ hv2) .nil)))⟩
theorem rsL3 {d e f : PyData} {t u x : TE} (h : Imp (tRes K d) t) (h2 : Imp (tRes K e) u) (h3 : Imp (tRes K f) x) : Imp (tRes K (.list [d, e, f])) (tLst (tCons t (tCons u (tCons x tNil)))) := fun σ H Q z =>
  h σ H _ fun H1 v s1 hv => h2 σ H1 _ fun H2 v2 s2 hv2 => h3 σ H2 _ fun H3 v3 s3 hv3 => ⟨by show 3 ≤ sizeLine; decide, fun p hp => z _ _ (s1.trans (s2.trans (s3.trans (same_new hp _)))) (.lst (SqL.of upd_same) (.cons (dp_same (s2.trans (s3.trans (same_new hp _))) _ _ hv) (.cons (dp_same (s3.trans (same_new hp _)) _ _ hv2) (.cons (dp_same (same_new hp _) _ _ hv3) .nil))))⟩
/-- ('tray', 'X', sign), sign at i -/
theorem rsV {σ : L2.St} {H : Hp} {Q : VK} {i : Nat} {s : Str} (e : σ[i]? = some (some (.str s))) (z : ∀ H' v, Same H H' → Dp K H' v (tupD (fl1 s)) → Q v H') :
    tTup (tCons (tTup (tCons (tC (.str "tray")) (tCons (tC (.str "X")) (tCons (tVar i) tNil)))) tNil) σ H Q :=
  ⟨_, e, by show 3 ≤ sizeLine; decide, fun t ht => ⟨by show 1 ≤ sizeLine; decide, fun p hp => z _ _ ((same_new ht _).trans (same_new hp _)) (.tup (.inl (.inl upd_same)) (.cons (.tup ((stay_same (same_new hp _)).tup _ _ (.inl (.inl upd_same))) (dp_txs ["tray", "X", s])) .nil))⟩⟩
theorem clV {σ : L2.St} {H : Hp} {Q : VK} {i : Nat} {v : V} {k : Kd} {n mn mw : Str} {ps : List (Str × Str)} {ks : List Kd} {tp tk : TE} (hp : Imp (tAt fun H a => PsAt K H a ps) tp) (hkk : Imp (tAt fun H a => KsAt K H a ks) tk) (e : σ[i]? = some (some v)) (hk : Kp K H v k) (z : ∀ H' u, Same H H' → Cp K H' u ⟨n, ps, ks, [(mn, mw, k)]⟩ → Q u H') :
    tTup (tCons (tC (.str n)) (tCons tp (tCons tk (tCons (tTup (tCons (tTup (tCons (tC (.str mn)) (tCons (tC (.str mw)) (tCons (tVar i) tNil)))) tNil)) tNil)))) σ H Q :=
  hp σ H _ fun H1 a1 s1 h1 => hkk σ H1 _ fun H2 a2 s2 h2 => ⟨v, e, by show 3 ≤ sizeLine; decide, fun t4 h4 => ⟨by show 1 ≤ sizeLine; decide, fun t5 h5 => ⟨by show 4 ≤ sizeLine; decide, fun t6 h6 =>
    z _ _ (s1.trans (s2.trans ((same_new h4 _).trans ((same_new h5 _).trans (same_new h6 _)))))
      ⟨t6, a1, a2, t5, rfl, .inl (.inl upd_same), h1.stay (stay_same (s2.trans ((same_new h4 _).trans ((same_new h5 _).trans (same_new h6 _))))), h2.stay (stay_same ((same_new h4 _).trans ((same_new h5 _).trans (same_new h6 _)))),
        ⟨_, (stay_same (same_new h6 _)).tup _ _ (.inl (.inl upd_same)), .cons ⟨t4, v, rfl, (stay_same ((same_new h5 _).trans (same_new h6 _))).tup _ _ (.inl (.inl upd_same)), hk.stay (stay_same (s1.trans (s2.trans ((same_new h4 _).trans ((same_new h5 _).trans (same_new h6 _))))))⟩ .nil⟩⟩⟩⟩⟩
theorem trW {σ : L2.St} {H : Hp} {Q : VK} {i : Nat} {v : V} {k : Kd} {vr : Str} (e : σ[i]? = some (some v)) (hk : Kp K H v k) (z : ∀ H' u, Same H H' → Cp K H' u ⟨"tray", [("X", vr)], [], [("first", "takes", k)]⟩ → Q u H') :
    tTup (tCons (tC (.str "tray")) (tCons (tTup (tCons (tTup (tCons (tC (.str "X")) (tCons (tC (.str vr)) tNil))) tNil)) (tCons (tTup tNil) (tCons (tTup (tCons (tTup (tCons (tC (.str "first")) (tCons (tC (.str "takes")) (tCons (tVar i) tNil)))) tNil)) tNil)))) σ H Q := clV psI1 ksI0 e hk z
theorem trP {σ : L2.St} {H : Hp} {Q : VK} {i j : Nat} {v : V} {k : Kd} {vr : Str} (e : σ[i]? = some (some (.str vr))) (e2 : σ[j]? = some (some v)) (hk : Kp K H v k) (z : ∀ H' u, Same H H' → Cp K H' u (trayP vr k) → Q u H') :
    tTup (tCons (tC (.str "tray")) (tCons (tTup (tCons (tTup (tCons (tC (.str "X")) (tCons (tVar i) tNil))) tNil)) (tCons (tTup (tCons (tVar j) tNil)) (tCons (tTup tNil) tNil)))) σ H Q :=
  ⟨_, e, by show 2 ≤ sizeLine; decide, fun t1 h1 => ⟨by show 1 ≤ sizeLine; decide, fun t2 h2 => ⟨v, e2, by show 1 ≤ sizeLine; decide, fun t3 h3 => ⟨Nat.zero_le _, fun t4 h4 => ⟨by show 4 ≤ sizeLine; decide, fun t5 h5 =>
    z _ _ ((same_new h1 _).trans ((same_new h2 _).trans ((same_new h3 _).trans ((same_new h4 _).trans (same_new h5 _)))))
      ⟨t5, t2, t3, t4, rfl, .inl (.inl upd_same), ⟨_, (stay_same ((same_new h3 _).trans ((same_new h4 _).trans (same_new h5 _)))).tup _ _ (.inl (.inl upd_same)), .cons ⟨t1, rfl, (stay_same ((same_new h2 _).trans ((same_new h3 _).trans ((same_new h4 _).trans (same_new h5 _))))).tup _ _ (.inl (.inl upd_same))⟩ .nil⟩,
        ⟨_, (stay_same ((same_new h4 _).trans (same_new h5 _))).tup _ _ (.inl (.inl upd_same)), .cons (hk.stay (stay_same ((same_new h1 _).trans ((same_new h2 _).trans ((same_new h3 _).trans ((same_new h4 _).trans (same_new h5 _))))))) .nil⟩,
        ⟨_, (stay_same (same_new h5 _)).tup _ _ (.inl (.inl upd_same)), .nil⟩⟩⟩⟩⟩⟩⟩
end
/-- what is told of a table that is made -/
def tTold (K : PySem.W.Frag) (c : Cls) (n : Nat) (fl sg : List (List Str)) (H : Hp) (Q : VK) : Prop := ∀ H' r a1 a2 a3, Same H H' → H' r = some (.lst [.ref a1, .ref a2, .ref a3]) → Dp K H' (.ref a1) (tupD fl) → Dp K H' (.ref a2) (tupD sg) → Dp K H' (.ref a3) (tupD pre2) → Q (.ref r) H'
def dR (fl sg : List (List Str)) : PyData := .list [tupD fl, tupD sg]
structure DOk (d : PyData) : Prop where
  s : SeqAt.shaped d = true
  e : PyData.eqv d d = true
theorem dOk1 : DOk (dR [] (fl1 "+")) := ⟨by decide +kernel, by decide +kernel⟩
theorem dOk2 : DOk (dR [] (fl1 "-")) := ⟨by decide +kernel, by decide +kernel⟩
theorem dOk3 : DOk (dR (fl1 "-") (fl1 "-")) := ⟨by decide +kernel, by decide +kernel⟩
theorem dOk4 : DOk (dR (fl1 "+") (fl1 "+")) := ⟨by decide +kernel, by decide +kernel⟩
theorem dOk5 : DOk (dR [] [["tray", "X", "+"], ["tray", "Y", "-"]]) := ⟨by decide +kernel, by decide +kernel⟩
theorem dOk6 : DOk (dR (fl1 "-") (fl1 "+-")) := ⟨by decide +kernel, by decide +kernel⟩
theorem dOk7 : DOk (dR [] (fl1 "")) := ⟨by decide +kernel, by decide +kernel⟩
theorem dOk8 : DOk (.list [tupD (fl1 "+"), tupD (fl1 "+-"), tupD pre2]) := ⟨by decide +kernel, by decide +kernel⟩
theorem ne_q {K : PySem.W.Frag} {x y : V} {d : PyData} {H : Hp} {Q : VK} (o : DOk d) (h1 : Dp K H x d) (h2 : Dp K H y d) (q : Q (.bl false) H) : rNeD K x y H Q := ⟨d, d, h1, h2, o.s, o.s, by rw [o.e]; exact q⟩
theorem eq_q {K : PySem.W.Frag} {x y : V} {d : PyData} {H : Hp} {Q : VK} (o : DOk d) (h1 : Dp K H x d) (h2 : Dp K H y d) (q : Q (.bl true) H) : rEqD K x y H Q := ⟨d, d, h1, h2, o.s, o.s, by rw [o.e]; exact q⟩
section
variable {P : Program} {w : World} {K : PySem.W.Frag} {mg : Str → Option Value} {base : Heap} {CT : Addr}
theorem told_q {H : Hp} {Q : VK} {E : XK} {l : Addr} {x : V} {c : Cls} {n : Nat} {fl sg : List (List Str)} (T : Told c n fl sg) (hl : H l = some (.lst [x])) (hx : Cp K H x c) (q : tTold K c n fl sg H Q) : spTold K CT [.ref l] H Q E := by
  refine ⟨l, x, c, rfl, hl, hx, T.pre, fun _ => ⟨n, T.fx, fun H' r a1 a2 a3 s h d1 d2 d3 => ?_⟩, fun n' l' ht => by rw [T.tn] at ht; cases ht⟩
  rw [T.fl] at d1
  rw [T.sg] at d2 d3
  exact q H' r a1 a2 a3 s h d1 d2 d3
/-- ('tray', (('X', vr),), (), (('first', 'takes', inner),)), inner at 1 -/
def tTrW (K : PySem.W.Frag) (vr : Str) : TE := fun σ H Q => ∃ v k, σ[1]? = some (some v) ∧ Kp K H v k ∧ ∀ H' u, Same H H' → Cp K H' u ⟨"tray", [("X", vr)], [], [("first", "takes", k)]⟩ → Q u H'
/-- what one_right expects, sign at 2 -/
def tCmp (K : PySem.W.Frag) (t : Str) : TE := fun σ H Q => ∃ s : Str, σ[2]? = some (some (.str s)) ∧ (s = "+" ∨ s = "-") ∧ ∀ H' v, Same H H' → Dp K H' v (dR (if s = t then fl1 t else []) (fl1 s)) → Q v H'
theorem tCmp_ok {σ : L2.St} {H : Hp} {Q : VK} {t : Str} (ht : t = "+" ∨ t = "-") (z : tCmp K t σ H Q) :
    tLst (tCons (tIf (tTest (tOp rEq (tVar 2) (tC (.str t)))) (tTup (tCons (tTup (tCons (tC (.str "tray")) (tCons (tC (.str "X")) (tCons (tC (.str t)) tNil)))) tNil)) (tTup tNil)) (tCons (tTup (tCons (tTup (tCons (tC (.str "tray")) (tCons (tC (.str "X")) (tCons (tVar 2) tNil)))) tNil)) tNil)) σ H Q := by
  obtain ⟨s, e, hs, z⟩ := z
  refine ⟨_, e, rfl, _, rfl, ?_⟩
  by_cases hst : s = t
  · subst hst
    rw [if_pos rfl] at z
    refine iteE (decide_eq_true rfl) ?_
    exact rsC1 (K := K) rs3 σ H _ fun H1 v1 s1 d1 => rsV (K := K) e fun H2 v2 s2 d2 => ⟨by show 2 ≤ sizeLine; decide, fun p hp => z _ _ (s1.trans (s2.trans (same_new hp _))) (.lst (SqL.of upd_same) (.cons (dp_same (s2.trans (same_new hp _)) _ _ d1) (.cons (dp_same (same_new hp _) _ _ d2) .nil)))⟩
  · rw [if_neg hst] at z
    refine iteN (decide_eq_false fun q => hst (V.str.inj q)) ?_
    exact rs0 (K := K) σ H _ fun H1 v1 s1 d1 => rsV (K := K) e fun H2 v2 s2 d2 => ⟨by show 2 ≤ sizeLine; decide, fun p hp => z _ _ (s1.trans (s2.trans (same_new hp _))) (.lst (SqL.of upd_same) (.cons (dp_same (s2.trans (same_new hp _)) _ _ d1) (.cons (dp_same (same_new hp _) _ _ d2) .nil)))⟩
def spOne (K : PySem.W.Frag) : Sp := fun vs H Q _ => ∃ m : Nat, vs = [.int (m : Nat)] ∧ 1 ≤ m ∧ m ≤ 5 ∧ ∀ H', Same H H' → Q (.bl true) H'
theorem ok_one (G : Glo mg) (CW : Cal P w K mg base 1 "_law_wrapped" ["_law_name", "_law_inner", "_law_many"] (spWrap K)) (CM : Cal P w K mg base 13 "_law_told" ["_law_some"] (spTold K CT)) (D : DefAt K mg "_law_one_right" s_Lone_right ["_law_many"]) : Cal P w K mg base 14 "_law_one_right" ["_law_many"] (spOne K) := by
  refine D.cal sc_Lone_right (fun vs H Q E h => ?_) (fun f cdv A outer s H vs Q E hr h => ?_)
  · obtain ⟨m, rfl, _⟩ := h
    rfl
  obtain ⟨m, rfl, h1, h5, q⟩ := h
  have hr1 : RoomG 1 (A.deeper (envOfC "_law_one_right" (defScope s_Lone_right) s.heap.objs.size f cdv)) := hr.mono (by decide)
  refine ⟨_, pss_cons (ps_set (i := 1) sc_Lone_right.nd rfl (by first | exact Or.inl rfl | exact Or.inr rfl) (pc CW hr1 rfl (pa_cons pe_str (pa_cons pe_str (pa_cons (pv 0) pa_nil)))))
    (pss_cons (ps_set (i := 2) sc_Lone_right.nd rfl (by first | exact Or.inl rfl | exact Or.inr rfl) (pe_ix ix_list (pe_lst (pa_cons pe_str (pa_cons pe_str pa_nil))) (pe_op op_mod (pv 0) pe_int) (fun _ _ => rfl)))
    (pss_cons (ps_set (i := 3) sc_Lone_right.nd rfl (by first | exact Or.inl rfl | exact Or.inr rfl) (pc CM hr rfl (pa_cons (pe_lst (pa_cons (peOf (te := tTrW K "out") (pe_tup (pa_cons pe_str (pa_cons (pe_tup (pa_cons (pe_tup (pa_cons pe_str (pa_cons pe_str pa_nil))) pa_nil)) (pa_cons (pe_tup pa_nil) (pa_cons (pe_tup (pa_cons (pe_tup (pa_cons pe_str (pa_cons pe_str (pa_cons (pv 1) pa_nil)))) pa_nil)) pa_nil))))) (fun σ H Q ⟨_, _, e, hk, z⟩ => trW e hk z)) pa_nil)) pa_nil)))
    (pss_cons (ps_if (pt_cmpR (op_neD hr.units) (pe_slice sl_list (pv 3) po_none (po_some pe_int)) (peOf (te := tCmp K "-") (pe_lst (pa_cons (pe_ifExp (pt_cmpR op_eq (pv 2) pe_str (nomark _)) (pe_tup (pa_cons (pe_tup (pa_cons pe_str (pa_cons pe_str (pa_cons pe_str pa_nil)))) pa_nil)) (pe_tup pa_nil)) (pa_cons (pe_tup (pa_cons (pe_tup (pa_cons pe_str (pa_cons pe_str (pa_cons (pv 2) pa_nil)))) pa_nil)) pa_nil))) (fun σ H Q z => tCmp_ok (.inr rfl) z)) (nomark _)) (pss_one ps_never) pss_nil)
    (pss_cons (ps_set (i := 3) sc_Lone_right.nd rfl (by first | exact Or.inl rfl | exact Or.inr rfl) (pc CM hr rfl (pa_cons (pe_lst (pa_cons (peOf (te := tTrW K "in") (pe_tup (pa_cons pe_str (pa_cons (pe_tup (pa_cons (pe_tup (pa_cons pe_str (pa_cons pe_str pa_nil))) pa_nil)) (pa_cons (pe_tup pa_nil) (pa_cons (pe_tup (pa_cons (pe_tup (pa_cons pe_str (pa_cons pe_str (pa_cons (pv 1) pa_nil)))) pa_nil)) pa_nil))))) (fun σ H Q ⟨_, _, e, hk, z⟩ => trW e hk z)) pa_nil)) pa_nil)))
    (pss_one (ps_ret (pe_cmpR (op_eqD hr.units) (pe_slice sl_list (pv 3) po_none (po_some pe_int)) (peOf (te := tCmp K "+") (pe_lst (pa_cons (pe_ifExp (pt_cmpR op_eq (pv 2) pe_str (nomark _)) (pe_tup (pa_cons (pe_tup (pa_cons pe_str (pa_cons pe_str (pa_cons pe_str pa_nil)))) pa_nil)) (pe_tup pa_nil)) (pa_cons (pe_tup (pa_cons (pe_tup (pa_cons pe_str (pa_cons pe_str (pa_cons (pv 2) pa_nil)))) pa_nil)) pa_nil))) (fun σ H Q z => tCmp_ok (.inl rfl) z)) (nomark _)))))))), ?_⟩
  have tO := told_ok (tWO m h1 h5)
  have tI := told_ok (tWI m h1 h5)
  have hsg : ([V.str "-", .str "+"] : List V)[m % 2]? = some (.str (sgn1 m)) := by
    unfold sgn1
    rcases Nat.mod_two_eq_zero_or_one m with h | h <;> rw [h] <;> rfl
  refine ⟨_, rfl, "sink", .str "X", .L "X", m, rfl, by decide +kernel, .str "X" (by decide +kernel), by omega, fun H1 u s1 hu => ?_⟩
  refine ⟨by show 2 ≤ sizeLine; decide, fun l0 hl0 => ?_⟩
  have s2 := s1.trans (same_new hl0 (.lst [V.str "-", .str "+"]))
  refine ⟨_, rfl, m, 2, rfl, rfl, by show (0 : Int) < 2; decide, ?_⟩
  refine ⟨l0, _, _, .str (sgn1 m), rfl, rfl, SqL.of upd_same, by rw [show ((m : Nat) : Int) % 2 = ((m % 2 : Nat) : Int) from by omega]; exact atI_nat hsg, ?_⟩
  have hu2 := hu.stay (stay_same (K := K) (same_new hl0 (.lst [V.str "-", .str "+"])))
  generalize upd H1 l0 (.lst [V.str "-", .str "+"]) = H2 at s2 hu2
  have hor := sgn1_or m
  revert tO tI hor
  generalize sgn1 m = sg
  intro tO tI hor
  refine ⟨u, _, rfl, hu2, fun H3 c3 s3 hc3 => ⟨by show 1 ≤ sizeLine; decide, fun L hL => ?_⟩⟩
  dsimp only [tNil]
  refine told_q tO upd_same (hc3.stay (stay_same (same_new hL _))) fun H4 r a1 a2 a3 s4 hr4 d1 d2 d3 => ?_
  have s24 := s3.trans ((same_new hL (.lst [c3])).trans s4)
  refine ⟨_, rfl, 2, rfl, r, _, rfl, SqL.of hr4, fun p hp => ?_⟩
  rw [show (some 2 : Option Int) = some ((2 : Nat) : Int) from rfl, cut_takex]
  have s5 := same_new hp (.lst [V.ref a1, .ref a2])
  have e1 : Dp K (upd H4 p (.lst [V.ref a1, .ref a2])) (.ref p) (dR (if sg = "-" then fl1 "-" else []) (fl1 sg)) := .lst (SqL.of upd_same) (.cons (dp_same s5 _ _ d1) (.cons (dp_same s5 _ _ d2) .nil))
  refine ⟨sg, rfl, hor, fun H6 v6 s6 d6 => ?_⟩
  have ok1 : DOk (dR (if sg = "-" then fl1 "-" else []) (fl1 sg)) := by
    rcases hor with rfl | rfl
    · exact dOk1
    · exact dOk3
  refine ne_q ok1 (dp_same s6 _ _ e1) d6 ⟨_, rfl, iteN rfl ?_⟩
  have s26 := s24.trans (s5.trans s6)
  refine ⟨u, _, rfl, hu2.stay (stay_same s26), fun H7 c7 s7 hc7 => ⟨by show 1 ≤ sizeLine; decide, fun L2 hL2 => ?_⟩⟩
  dsimp only [tNil]
  refine told_q tI upd_same (hc7.stay (stay_same (same_new hL2 _))) fun H8 r8 b1 b2 b3 s8 hr8 f1 f2 f3 => ?_
  refine ⟨_, rfl, 2, rfl, r8, _, rfl, SqL.of hr8, fun p9 hp9 => ?_⟩
  rw [show (some 2 : Option Int) = some ((2 : Nat) : Int) from rfl, cut_takex]
  have s9 := same_new hp9 (.lst [V.ref b1, .ref b2])
  have e2 : Dp K (upd H8 p9 (.lst [V.ref b1, .ref b2])) (.ref p9) (dR (if sg = "+" then fl1 "+" else []) (fl1 sg)) := .lst (SqL.of upd_same) (.cons (dp_same s9 _ _ f1) (.cons (dp_same s9 _ _ f2) .nil))
  refine ⟨sg, rfl, hor, fun H10 v10 s10 d10 => ?_⟩
  have ok2 : DOk (dR (if sg = "+" then fl1 "+" else []) (fl1 sg)) := by
    rcases hor with rfl | rfl
    · exact dOk4
    · exact dOk2
  exact eq_q ok2 (dp_same s10 _ _ e2) d10 (q _ (s2.trans (s26.trans (s7.trans ((same_new hL2 _).trans (s8.trans (s9.trans s10)))))))
end
end N

namespace N
open PySem PySem.Spec PyProof.Rows L2 L2H StX LamX NdefX
/-! ### k69: _law_two_right -/
section
variable {K : PySem.W.Frag}
theorem msI2 {m y m2 y2 : Str} {k k2 : Kd} {tk tk2 : TE} (hk : Imp (tKd K k) tk) (hk2 : Imp (tKd K k2) tk2) : Imp (tAt fun H a => MsAt K H a [(m, y, k), (m2, y2, k2)]) (tTup (tCons (tTup (tCons (tC (.str m)) (tCons (tC (.str y)) (tCons tk tNil)))) (tCons (tTup (tCons (tC (.str m2)) (tCons (tC (.str y2)) (tCons tk2 tNil)))) tNil))) := fun σ H Q z =>
  hk σ H _ fun H1 v s1 hv => ⟨by show 3 ≤ sizeLine; decide, fun t ht => hk2 σ _ _ fun H2 v2 s2 hv2 => ⟨by show 3 ≤ sizeLine; decide, fun t2 ht2 => ⟨by show 2 ≤ sizeLine; decide, fun t3 ht3 =>
    z _ _ (s1.trans ((same_new ht _).trans (s2.trans ((same_new ht2 _).trans (same_new ht3 _))))) ⟨_, .inl (.inl upd_same),
      .cons ⟨t, v, rfl, (stay_same (s2.trans ((same_new ht2 _).trans (same_new ht3 _)))).tup _ _ (.inl (.inl upd_same)), hv.stay (stay_same ((same_new ht _).trans (s2.trans ((same_new ht2 _).trans (same_new ht3 _)))))⟩
      (.cons ⟨t2, v2, rfl, (stay_same (same_new ht3 _)).tup _ _ (.inl (.inl upd_same)), hv2.stay (stay_same ((same_new ht2 _).trans (same_new ht3 _)))⟩ .nil)⟩⟩⟩⟩
end
/-- (name, ps, (), members), members at 0 -/
def tClM (K : PySem.W.Frag) (n : Str) (ps : List (Str × Str)) : TE := fun σ H Q => ∃ a ms, σ[0]? = some (some (.ref a)) ∧ MsAt K H a ms ∧ ∀ H' v, Same H H' → Cp K H' v ⟨n, ps, [], ms⟩ → Q v H'
theorem tClM_ok {K : PySem.W.Frag} {n : Str} {ps : List (Str × Str)} {tp : TE} (hp : Imp (tAt fun H a => PsAt K H a ps) tp) : Imp (tClM K n ps) (tTup (tCons (tC (.str n)) (tCons tp (tCons (tTup tNil) (tCons (tVar 0) tNil))))) := fun σ H Q ⟨a, ms, e, hm, z⟩ =>
  hp σ H _ fun H1 a1 s1 h1 => ksI0 (K := K) σ H1 _ fun H2 a2 s2 h2 => ⟨_, e, by show 4 ≤ sizeLine; decide, fun t ht => z _ _ (s1.trans (s2.trans (same_new ht _)))
    ⟨t, a1, a2, a, rfl, .inl (.inl upd_same), h1.stay (stay_same (s2.trans (same_new ht _))), h2.stay (stay_same (same_new ht _)), hm.stay (stay_same (s1.trans (s2.trans (same_new ht _))))⟩⟩
section
variable {P : Program} {w : World} {K : PySem.W.Frag} {mg : Str → Option Value} {base : Heap} {CT : Addr}
def spTwo : Sp := fun vs H Q _ => vs = [] ∧ ∀ H', Same H H' → Q (.bl true) H'
theorem ok_two (G : Glo mg) (CM : Cal P w K mg base 13 "_law_told" ["_law_some"] (spTold K CT)) (D : DefAt K mg "_law_two_right" s_Ltwo_right []) : Cal P w K mg base 14 "_law_two_right" [] spTwo := by
  refine D.cal sc_Ltwo_right (fun vs H Q E h => ?_) (fun f cdv A outer s H vs Q E hr h => ?_)
  · obtain ⟨rfl, _⟩ := h
    rfl
  obtain ⟨rfl, q⟩ := h
  refine ⟨_, pss_cons (ps_set (i := 0) sc_Ltwo_right.nd rfl (by first | exact Or.inl rfl | exact Or.inr rfl) (peOf (te := tAt fun H a => MsAt K H a xSwap.ms) (pe_tup (pa_cons (pe_tup (pa_cons pe_str (pa_cons pe_str (pa_cons (pe_tup (pa_cons pe_str (pa_cons pe_str (pa_cons pe_str pa_nil)))) pa_nil)))) (pa_cons (pe_tup (pa_cons pe_str (pa_cons pe_str (pa_cons pe_str pa_nil)))) pa_nil))) (msI2 (kd2 (by decide +kernel) (kdL (by decide +kernel)) (kdL (by decide +kernel))) (kdL (by decide +kernel)))))
    (pss_cons (ps_set (i := 1) sc_Ltwo_right.nd rfl (by first | exact Or.inl rfl | exact Or.inr rfl) (peOf (te := tClM K "tray" xSwap.ps) (pe_tup (pa_cons pe_str (pa_cons (pe_tup (pa_cons (pe_tup (pa_cons pe_str (pa_cons pe_str pa_nil))) (pa_cons (pe_tup (pa_cons pe_str (pa_cons pe_str pa_nil))) pa_nil))) (pa_cons (pe_tup pa_nil) (pa_cons (pv 0) pa_nil))))) (tClM_ok psI2)))
    (pss_cons (ps_if (pt_cmpR (op_neD hr.units) (pe_slice sl_list (pc CM hr rfl (pa_cons (pe_lst (pa_cons (pv 1) pa_nil)) pa_nil)) po_none (po_some pe_int)) (peOf (te := tRes K (dR [] [["tray", "X", "+"], ["tray", "Y", "-"]])) (pe_lst (pa_cons (pe_tup pa_nil) (pa_cons (pe_tup (pa_cons (pe_tup (pa_cons pe_str (pa_cons pe_str (pa_cons pe_str pa_nil)))) (pa_cons (pe_tup (pa_cons pe_str (pa_cons pe_str (pa_cons pe_str pa_nil)))) pa_nil))) pa_nil))) (rsL2 rs0 (rsC2 rs3 rs3))) (nomark _)) (pss_one ps_never) pss_nil)
    (pss_cons (ps_set (i := 2) sc_Ltwo_right.nd rfl (by first | exact Or.inl rfl | exact Or.inr rfl) (peOf (te := tCl K xKnot) (pe_tup (pa_cons pe_str (pa_cons (pe_tup (pa_cons (pe_tup (pa_cons pe_str (pa_cons pe_str pa_nil))) pa_nil)) (pa_cons (pe_tup pa_nil) (pa_cons (pe_tup (pa_cons (pe_tup (pa_cons pe_str (pa_cons pe_str (pa_cons (pe_tup (pa_cons pe_str (pa_cons pe_str pa_nil))) pa_nil)))) (pa_cons (pe_tup (pa_cons pe_str (pa_cons pe_str (pa_cons pe_str pa_nil)))) pa_nil))) pa_nil))))) (clI (c := xKnot) psI1 ksI0 (msI2 (kd1 (by decide +kernel) (kdL (by decide +kernel))) (kdL (by decide +kernel))))))
    (pss_cons (ps_if (pt_cmpR (op_neD hr.units) (pe_slice sl_list (pc CM hr rfl (pa_cons (pe_lst (pa_cons (pv 2) pa_nil)) pa_nil)) po_none (po_some pe_int)) (peOf (te := tRes K (dR (fl1 "-") (fl1 "+-"))) (pe_lst (pa_cons (pe_tup (pa_cons (pe_tup (pa_cons pe_str (pa_cons pe_str (pa_cons pe_str pa_nil)))) pa_nil)) (pa_cons (pe_tup (pa_cons (pe_tup (pa_cons pe_str (pa_cons pe_str (pa_cons pe_str pa_nil)))) pa_nil)) pa_nil))) (rsL2 (rsC1 rs3) (rsC1 rs3))) (nomark _)) (pss_one ps_never) pss_nil)
    (pss_cons (ps_set (i := 3) sc_Ltwo_right.nd rfl (by first | exact Or.inl rfl | exact Or.inr rfl) (peOf (te := tCl K xLoop) (pe_tup (pa_cons pe_str (pa_cons (pe_tup (pa_cons (pe_tup (pa_cons pe_str (pa_cons pe_str pa_nil))) pa_nil)) (pa_cons (pe_tup pa_nil) (pa_cons (pe_tup (pa_cons (pe_tup (pa_cons pe_str (pa_cons pe_str (pa_cons (pe_tup (pa_cons pe_str (pa_cons pe_str pa_nil))) pa_nil)))) pa_nil)) pa_nil))))) (clI (c := xLoop) psI1 ksI0 (msI1 (kd1 (by decide +kernel) (kdL (by decide +kernel)))))))
    (pss_cons (ps_if (pt_cmpR (op_neD hr.units) (pe_slice sl_list (pc CM hr rfl (pa_cons (pe_lst (pa_cons (pv 3) pa_nil)) pa_nil)) po_none (po_some pe_int)) (peOf (te := tRes K (dR [] (fl1 ""))) (pe_lst (pa_cons (pe_tup pa_nil) (pa_cons (pe_tup (pa_cons (pe_tup (pa_cons pe_str (pa_cons pe_str (pa_cons pe_str pa_nil)))) pa_nil)) pa_nil))) (rsL2 rs0 (rsC1 rs3))) (nomark _)) (pss_one ps_never) pss_nil)
    (pss_cons (ps_set (i := 4) sc_Ltwo_right.nd rfl (by first | exact Or.inl rfl | exact Or.inr rfl) (peOf (te := tCl K xHeld) (pe_tup (pa_cons pe_str (pa_cons (pe_tup (pa_cons (pe_tup (pa_cons pe_str (pa_cons pe_str pa_nil))) pa_nil)) (pa_cons (pe_tup pa_nil) (pa_cons (pe_tup (pa_cons (pe_tup (pa_cons pe_str (pa_cons pe_str (pa_cons (pe_tup (pa_cons pe_str (pa_cons pe_str pa_nil))) pa_nil)))) pa_nil)) pa_nil))))) (clI (c := xHeld) psI1 ksI0 (msI1 (kd1 (by decide +kernel) (kdL (by decide +kernel)))))))
    (pss_cons (ps_set (i := 5) sc_Ltwo_right.nd rfl (by first | exact Or.inl rfl | exact Or.inr rfl) (pc CM hr rfl (pa_cons (pe_lst (pa_cons (pv 4) pa_nil)) pa_nil)))
    (pss_one (ps_ret (pe_cmpR (op_eqD hr.units) (pv 5) (peOf (te := tRes K (.list [tupD (fl1 "+"), tupD (fl1 "+-"), tupD pre2])) (pe_lst (pa_cons (pe_tup (pa_cons (pe_tup (pa_cons pe_str (pa_cons pe_str (pa_cons pe_str pa_nil)))) pa_nil)) (pa_cons (pe_tup (pa_cons (pe_tup (pa_cons pe_str (pa_cons pe_str (pa_cons pe_str pa_nil)))) pa_nil)) (pa_cons (pe_tup (pa_cons (pe_tup (pa_cons pe_str (pa_cons pe_str (pa_cons pe_str pa_nil)))) (pa_cons (pe_tup (pa_cons pe_str (pa_cons pe_str (pa_cons pe_str pa_nil)))) pa_nil))) pa_nil)))) (rsL3 (rsC1 rs3) (rsC1 rs3) (rsC2 rs3 rs3))) (nomark _)))))))))))), ?_⟩
  intro H1 am s1 hm
  refine ⟨am, _, rfl, hm, fun H2 v2 s2 h2 => ?_⟩
  have g1 := s1.trans s2
  refine ⟨_, rfl, by show 1 ≤ sizeLine; decide, fun L hL => ?_⟩
  dsimp only [tNil]
  refine told_q tSwap upd_same (Cp.stay (stay_same (same_new hL _)) h2) fun H3 r a1 a2 a3 s3 hr3 d1 d2 d3 => ?_
  refine ⟨2, rfl, r, _, rfl, SqL.of hr3, fun p hp => ?_⟩
  rw [show (some 2 : Option Int) = some ((2 : Nat) : Int) from rfl, cut_takex]
  have s4 := same_new hp (.lst [V.ref a1, .ref a2])
  have e1 : Dp K (upd H3 p (.lst [V.ref a1, .ref a2])) (.ref p) (dR [] [["tray", "X", "+"], ["tray", "Y", "-"]]) := .lst (SqL.of upd_same) (.cons (dp_same s4 _ _ d1) (.cons (dp_same s4 _ _ d2) .nil))
  intro H5 v5 s5 d5
  refine ne_q dOk5 (dp_same s5 _ _ e1) d5 ⟨_, rfl, iteN rfl ?_⟩
  have g2 := g1.trans ((same_new hL (.lst [v2])).trans (s3.trans (s4.trans s5)))
  -- the knot
  intro H6 v6 s6 h6
  refine ⟨_, rfl, by show 1 ≤ sizeLine; decide, fun L hL => ?_⟩
  dsimp only [tNil]
  refine told_q tKnot upd_same (Cp.stay (stay_same (same_new hL _)) h6) fun H7 r a1 a2 a3 s7 hr7 d1 d2 d3 => ?_
  refine ⟨2, rfl, r, _, rfl, SqL.of hr7, fun p hp => ?_⟩
  rw [show (some 2 : Option Int) = some ((2 : Nat) : Int) from rfl, cut_takex]
  have s8 := same_new hp (.lst [V.ref a1, .ref a2])
  have e1 : Dp K (upd H7 p (.lst [V.ref a1, .ref a2])) (.ref p) (dR (fl1 "-") (fl1 "+-")) := .lst (SqL.of upd_same) (.cons (dp_same s8 _ _ d1) (.cons (dp_same s8 _ _ d2) .nil))
  intro H9 v9 s9 d9
  refine ne_q dOk6 (dp_same s9 _ _ e1) d9 ⟨_, rfl, iteN rfl ?_⟩
  have g3 := g2.trans (s6.trans ((same_new hL (.lst [v6])).trans (s7.trans (s8.trans s9))))
  -- the loop
  intro H10 v10 s10 h10
  refine ⟨_, rfl, by show 1 ≤ sizeLine; decide, fun L hL => ?_⟩
  dsimp only [tNil]
  refine told_q tLoop upd_same (Cp.stay (stay_same (same_new hL _)) h10) fun H11 r a1 a2 a3 s11 hr11 d1 d2 d3 => ?_
  refine ⟨2, rfl, r, _, rfl, SqL.of hr11, fun p hp => ?_⟩
  rw [show (some 2 : Option Int) = some ((2 : Nat) : Int) from rfl, cut_takex]
  have s12 := same_new hp (.lst [V.ref a1, .ref a2])
  have e1 : Dp K (upd H11 p (.lst [V.ref a1, .ref a2])) (.ref p) (dR [] (fl1 "")) := .lst (SqL.of upd_same) (.cons (dp_same s12 _ _ d1) (.cons (dp_same s12 _ _ d2) .nil))
  intro H13 v13 s13 d13
  refine ne_q dOk7 (dp_same s13 _ _ e1) d13 ⟨_, rfl, iteN rfl ?_⟩
  have g4 := g3.trans (s10.trans ((same_new hL (.lst [v10])).trans (s11.trans (s12.trans s13))))
  -- what is held
  intro H14 v14 s14 h14
  refine ⟨_, rfl, by show 1 ≤ sizeLine; decide, fun L hL => ?_⟩
  dsimp only [tNil]
  refine told_q tHeld upd_same (Cp.stay (stay_same (same_new hL _)) h14) fun H15 r a1 a2 a3 s15 hr15 d1 d2 d3 => ?_
  have e1 : Dp K H15 (.ref r) (.list [tupD (fl1 "+"), tupD (fl1 "+-"), tupD pre2]) := .lst (SqL.of hr15) (.cons d1 (.cons d2 (.cons d3 .nil)))
  refine ⟨_, rfl, ?_⟩
  intro H16 v16 s16 d16
  exact eq_q dOk8 (dp_same s16 _ _ e1) d16 (q _ (g4.trans (s14.trans ((same_new hL _).trans (s15.trans s16)))))
end
end N

namespace N
open PySem PySem.Spec PyProof.Rows L2 L2H StX LamX NdefX
/-! ### k69: _law_parents_right, the law -/
def tqP : Str := ("_law_parents_right" : Str) ++ ".<locals>." ++ "<lambda>"
def lamOfP : List Stmt → Option (Arguments × Expr × Scope)
  | .For _ _ (.If (.Compare (.Call _ [.Lambda a b s _] _ _) _ _ _) _ _ _ :: _) _ _ :: _ => some (a, b, s)
  | _ => none
def lamP : Arguments × Expr × Scope := (lamOfP (defBody s_Lparents_right)).getD (defArgs s_Lparents_right, .Name "x" ⟨0, 0, 0, 0⟩, defScope s_Lparents_right)
theorem sc_lamP : NScope ["_law_bad", "_law_parent"] [] ["_law_bad", "_law_parent"] lamP.2.2 := nscope_by (by decide +kernel)
theorem freP : ∀ y ∈ lamP.2.2.names, y.2 = .free → (defScope s_Lparents_right).names.lookup y.1 = some .cell ∨ (defScope s_Lparents_right).names.lookup y.1 = some .free := ndef_free (fr := []) (by decide +kernel)
/-- ('tray', (('X', variance),), (parent,), ()), these at i, j -/
def tTrP (K : PySem.W.Frag) (i j : Nat) : TE := fun σ H Q => ∃ (vr : Str) (v : V) (k : Kd), σ[i]? = some (some (.str vr)) ∧ σ[j]? = some (some v) ∧ Kp K H v k ∧ ∀ H' u, Same H H' → Cp K H' u (trayP vr k) → Q u H'
theorem tTrP_ok {K : PySem.W.Frag} {i j : Nat} {σ : L2.St} {H : Hp} {Q : VK} (z : tTrP K i j σ H Q) : tTup (tCons (tC (.str "tray")) (tCons (tTup (tCons (tTup (tCons (tC (.str "X")) (tCons (tVar i) tNil))) tNil)) (tCons (tTup (tCons (tVar j) tNil)) (tCons (tTup tNil) tNil)))) σ H Q := by
  obtain ⟨vr, v, k, e, e2, hk, z⟩ := z
  exact trP e e2 hk z
/-- [(), (('tray', 'X', sign),)], sign at 3 -/
def tCmP (K : PySem.W.Frag) : TE := fun σ H Q => ∃ s : Str, σ[3]? = some (some (.str s)) ∧ ∀ H' v, Same H H' → Dp K H' v (dR [] (fl1 s)) → Q v H'
theorem rsLV {K : PySem.W.Frag} {σ : L2.St} {H : Hp} {Q : VK} {d e : PyData} {t u : TE} (h : Imp (tRes K d) t) (h2 : ∀ H' Q', (∀ H2 v, Same H' H2 → Dp K H2 v e → Q' v H2) → u σ H' Q') (z : ∀ H' v, Same H H' → Dp K H' v (.list [d, e]) → Q v H') : tLst (tCons t (tCons u tNil)) σ H Q :=
  h σ H _ fun H1 v s1 hv => h2 H1 _ fun H2 v2 s2 hv2 => ⟨by show 2 ≤ sizeLine; decide, fun p hp => z _ _ (s1.trans (s2.trans (same_new hp _))) (.lst (SqL.of upd_same) (.cons (dp_same (s2.trans (same_new hp _)) _ _ hv) (.cons (dp_same (same_new hp _) _ _ hv2) .nil)))⟩
theorem tCmP_ok {K : PySem.W.Frag} {σ : L2.St} {H : Hp} {Q : VK} (z : tCmP K σ H Q) : tLst (tCons (tTup tNil) (tCons (tTup (tCons (tTup (tCons (tC (.str "tray")) (tCons (tC (.str "X")) (tCons (tVar 3) tNil)))) tNil)) tNil)) σ H Q := by
  obtain ⟨s, e, z⟩ := z
  exact rsLV (K := K) (d := tupD []) (e := tupD (fl1 s)) rs0 (fun H' Q' z' => rsV e z') z
/-- a row: a parent, the good variance, the bad one -/
def RowV3 (K : PySem.W.Frag) (H : Hp) (v : V) (r : Kd × Str × Str) : Prop := ∃ t u, v = .ref t ∧ SqT K H t [u, .str r.2.1, .str r.2.2] ∧ Kp K H u r.1
def tRow3 (K : PySem.W.Frag) (r : Kd × Str × Str) : TE := fun _ H Q => ∀ H' v, Same H H' → RowV3 K H' v r → Q v H'
theorem RowV3.stay {K : PySem.W.Frag} {H H' : Hp} {v : V} {r : Kd × Str × Str} (s : Stay K H H') (h : RowV3 K H v r) : RowV3 K H' v r := by
  obtain ⟨t, u, e, q, k⟩ := h
  exact ⟨t, u, e, s.tup _ _ q, k.stay s⟩
theorem row3I {K : PySem.W.Frag} {k : Kd} {g b : Str} {tk : TE} (hk : Imp (tKd K k) tk) : Imp (tRow3 K (k, g, b)) (tTup (tCons tk (tCons (tC (.str g)) (tCons (tC (.str b)) tNil)))) := fun σ H Q z =>
  hk σ H _ fun H1 v s1 hv => ⟨by show 3 ≤ sizeLine; decide, fun t ht => z _ _ (s1.trans (same_new ht _)) ⟨t, v, rfl, .inl (.inl upd_same), hv.stay (stay_same (same_new ht _))⟩⟩
def rows3 : List (Kd × Str × Str) := [(kBS, "in", "out"), (kSS, "out", "in")]
structure RowF (r : Kd × Str × Str) : Prop where
  t : Told (trayP r.2.1 r.1) 2 [] (fl1 (if r.2.1 = "in" then "-" else "+"))
  p : PreOk (x4 (trayP r.2.2 r.1))
  n : turnOf (x4 (trayP r.2.2 r.1)) ≠ none
  o : DOk (dR [] (fl1 (if r.2.1 = "in" then "-" else "+")))
theorem rows3_ok : ∀ r ∈ rows3, RowF r := by
  intro r hr
  simp only [rows3, List.mem_cons, List.not_mem_nil, or_false] at hr
  rcases hr with rfl | rfl
  · exact ⟨tGB, preB_ok bB.1, bB.2, dOk2⟩
  · exact ⟨tGS, preB_ok bS.1, bS.2, dOk1⟩
def spTurn (K : PySem.W.Frag) (CT : Addr) (v : V) (k : Kd) : Hp → VK → XK → Prop := fun H _ E => Kp K H v k ∧ ∀ H' dd fs, Same H H' → H' dd = some (.xd fs) → E (.ref CT) (some dd) H'
section
variable {P : Program} {w : World} {K : PySem.W.Frag} {mg : Str → Option Value} {base : Heap} {CT ke n0 n1 n2 n3 : Addr} {F : NF} {f : Addr} {h : Heap} {H : Hp}
theorem spTurn_mon {v : V} {k : Kd} (R R' : VK) (E E' : XK) (h1 : ∀ v H1, R v H1 → R' v H1) (h2 : ∀ cls d H1, E cls d H1 → E' cls d H1) (h : spTurn K CT v k H R E) : spTurn K CT v k H R' E' := ⟨h.1, fun H' dd fs s hd => h2 _ _ _ (h.2 H' dd fs s hd)⟩
theorem act_par {v : V} {k : Kd} {b : Str} (CM : Cal P w K mg base 13 "_law_told" ["_law_some"] (spTold K CT)) (eF : F.params = lamP.1 ∧ F.scope = lamP.2.2) (pre : PreOk (x4 (trayP b k))) (tn : turnOf (x4 (trayP b k)) ≠ none) (Cc : CellsAt F.cl ["_law_bad", "_law_parent"] [some (.str b), some v] h H) (h1 : H f = some (LamO f F lamP.2.1)) (h2 : H F.c = some (CodeO F.c F.qual)) :
    ActR P w K mg base 13 f h H (spTurn K CT v k) := by
  obtain ⟨name, qual, params, fb, scope, cl, c'⟩ := F
  obtain ⟨rfl, rfl⟩ := eF
  refine ⟨_, lamP.2.1, _, _, _, fun E => tCallS (spTold K CT) (WE fun cls d _ H => E cls d H) (tCons (tLst (tCons (tTrP K 0 1) tNil)) tNil), sc_lamP, fun pm ctv => rfl, fun A outer s H E hr => pcE (takes_of rfl rfl rfl rfl) CM hr (by rfl) (pa_cons (pe_lst (pa_cons (peOf (te := tTrP K 0 1) (pe_tup (pa_cons pe_str (pa_cons (pe_tup (pa_cons (pe_tup (pa_cons pe_str (pa_cons (pe_var (x := "_law_bad") (i := 0) rfl (.inr (.inr rfl))) pa_nil))) pa_nil)) (pa_cons (pe_tup (pa_cons (pe_var (x := "_law_parent") (i := 1) rfl (.inr (.inr rfl))) pa_nil)) (pa_cons (pe_tup pa_nil) pa_nil))))) (fun σ H Q z => tTrP_ok z)) pa_nil)) pa_nil), Cc, h1, h2, fun H' Q E z => ?_⟩
  refine ⟨b, v, k, rfl, rfl, z.1, fun H2 u s2 hc => ⟨by show 1 ≤ sizeLine; decide, fun L hL => ?_⟩⟩
  dsimp only [tNil]
  exact ⟨L, u, trayP b k, rfl, upd_same, hc.stay (stay_same (same_new hL _)), pre, fun ht => absurd ht tn, fun n l ht H3 dd s3 hd => z.2 H3 dd _ (s2.trans ((same_new hL _).trans s3)) hd⟩
def RRP (K : PySem.W.Frag) (cells : List (Str × Addr)) : L2.St → List V → Hp → VK → Prop := fun σ vs H1 Q1 => ∃ (f1 c1 : Addr) (v : V) (k : Kd) (b : Str), vs = [.ref f1] ∧ slotAt σ 2 = some (.str b) ∧ slotAt σ 0 = some v ∧ H1 f1 = some (LamO f1 (lamF tqP lamP.1 lamP.2.2 (cloFrom cells lamP.2.2.names []) c1) lamP.2.1) ∧ H1 c1 = some (CodeO c1 tqP) ∧
  Kp K H1 v k ∧ PreOk (x4 (trayP b k)) ∧ turnOf (x4 (trayP b k)) ≠ none ∧ ∀ H2, Same H1 H2 → Q1 (.str "! Turned") H2
def spParR (P1 : Addr) : Sp := fun vs H Q _ => vs = [] ∧ TabS H P1 tqP ∧ ∀ H', Q (.bl true) H'
theorem ok_parents_right {cc P1 : Addr} (G : Glo mg) (TB : TabB base mg cc P1) (ST : SaidT K mg CT ke n0 n1 n2 n3) (CM : Cal P w K mg base 13 "_law_told" ["_law_some"] (spTold K CT)) (DS : DefAt K mg "_law_said" s_Lsaid ["_law_call"]) (D : DefAtC K mg "_law_parents_right" s_Lparents_right [] cc) : Cal P w K mg base 16 "_law_parents_right" [] (spParR P1) := by
  refine D.cal sc_Lparents_right (fun vs H Q E h => ?_) (fun f A outer s H vs Q E hr h => ?_)
  · obtain ⟨rfl, _⟩ := h
    rfl
  obtain ⟨rfl, ht0, q⟩ := h
  have hr15 : RoomG (14 + 1) (A.deeper (envOfC "_law_parents_right" (defScope s_Lparents_right) s.heap.objs.size f (.ref cc))) := hr.mono (by decide)
  have hr13 : RoomG 13 (A.deeper (envOfC "_law_parents_right" (defScope s_Lparents_right) s.heap.objs.size f (.ref cc))) := hr.mono (by decide)
  refine ⟨_, pss_cons (ps_for (passes_of rfl) rfl (pi_list (pe_lst (pa_cons (peOf (te := tRow3 K (kBS, "in", "out")) (pe_tup (pa_cons (pe_tup (pa_cons pe_str (pa_cons (pe_tup (pa_cons pe_str (pa_cons pe_str pa_nil))) pa_nil))) (pa_cons pe_str (pa_cons pe_str pa_nil)))) (row3I (kd1 (by decide +kernel) (kd1 (by decide +kernel) (kdL (by decide +kernel)))))) (pa_cons (peOf (te := tRow3 K (kSS, "out", "in")) (pe_tup (pa_cons (pe_tup (pa_cons pe_str (pa_cons (pe_tup (pa_cons pe_str (pa_cons pe_str pa_nil))) pa_nil))) (pa_cons pe_str (pa_cons pe_str pa_nil)))) (row3I (kd1 (by decide +kernel) (kd1 (by decide +kernel) (kdL (by decide +kernel)))))) pa_nil)))) (pg_tup (by rfl) (pgs_cons (pg_name (i := 0) sc_Lparents_right.nd rfl (by first | exact Or.inl rfl | exact Or.inr rfl)) (pgs_cons (pg_name (i := 1) sc_Lparents_right.nd rfl (by first | exact Or.inl rfl | exact Or.inr rfl)) (pgs_cons (pg_name (i := 2) sc_Lparents_right.nd rfl (by first | exact Or.inl rfl | exact Or.inr rfl)) pgs_nil))))
      (pss_cons (ps_if (pt_cmpR op_ne (pe_callH (k := 14) (RR := RRP K (envOfC "_law_parents_right" (defScope s_Lparents_right) s.heap.objs.size f (.ref cc)).cells) DS sc_Lsaid hr15 rfl (pa_cons (pe_lamT2 TB rfl rfl freP) pa_nil) (fun σ vs H1 Q1 z => by obtain ⟨f1, c1, v, k, b, rfl, _⟩ := z; rfl) (fun g cdv pins s1 σ H1 vs Q1 J hr' z => ?_)) pe_str (nomark _)) (pss_one ps_never) pss_nil)
      (pss_cons (ps_set (i := 3) sc_Lparents_right.nd rfl (by first | exact Or.inl rfl | exact Or.inr rfl) (pe_ifExp (pt_cmpR op_eq (pv 1) pe_str (nomark _)) pe_str pe_str))
      (pss_one (ps_if (pt_cmpR (op_neD hr.units) (pe_slice sl_list (pc CM hr13 rfl (pa_cons (pe_lst (pa_cons (peOf (te := tTrP K 1 0) (pe_tup (pa_cons pe_str (pa_cons (pe_tup (pa_cons (pe_tup (pa_cons pe_str (pa_cons (pv 1) pa_nil))) pa_nil)) (pa_cons (pe_tup (pa_cons (pv 0) pa_nil)) (pa_cons (pe_tup pa_nil) pa_nil))))) (fun σ H Q z => tTrP_ok z)) pa_nil)) pa_nil)) po_none (po_some pe_int)) (peOf (te := tCmP K) (pe_lst (pa_cons (pe_tup pa_nil) (pa_cons (pe_tup (pa_cons (pe_tup (pa_cons pe_str (pa_cons pe_str (pa_cons (pv 3) pa_nil)))) pa_nil)) pa_nil))) (fun σ H Q z => tCmP_ok z)) (nomark _)) (pss_one ps_never) pss_nil)))))
    (pss_one (ps_ret pe_bl)), ?_⟩
  · obtain ⟨f1, c1, v, k, b, rfl, h2, h0, x1, x2, hk, pre, tn, q1⟩ := z
    have Cc := cells_of (js := [2, 0]) (fr := ["_law_bad", "_law_parent"]) J (Caps.made (scope := lamP.2.2) J.ok freP (by decide +kernel) rfl)
    have eC : ([2, 0] : List Nat).map (slotAt σ) = [some (V.str b), some v] := by rw [← h2, ← h0]; rfl
    rw [eC] at Cc
    exact said_turned G ST (act_par (F := lamF tqP lamP.1 lamP.2.2 _ c1) CM ⟨rfl, rfl⟩ pre tn Cc x1 x2) (by decide) hr' spTurn_mon ⟨hk, fun H' dd fs s hd => ⟨rfl, ⟨dd, fs, rfl, hd⟩, fun H2 s2 => q1 H2 (s.trans s2)⟩⟩
  intro H1 v1 s1 r1
  intro H2 v2 s2 r2
  refine ⟨by show 2 ≤ sizeLine; decide, fun L hL => ?_⟩
  have s3 := same_new hL (.lst [v1, v2])
  have hsq : SqL K (upd H2 L (.lst [v1, v2])) L [v1, v2] := SqL.of upd_same
  have hrw : Paired (RowV3 K (upd H2 L (.lst [v1, v2]))) [v1, v2] rows3 := .cons (r1.stay (stay_same (s2.trans s3))) (.cons (r2.stay (stay_same s3)) .nil)
  have ht1 := ht0.ext (s1.trans (s2.trans s3))
  generalize upd H2 L (.lst [v1, v2]) = H3 at hsq hrw ht1
  refine ⟨L, rfl, ⟨_, hsq⟩, ?_⟩
  refine for_list (K := K) (a := L) (xs := [v1, v2]) (fun i σ H' => ∃ y0 y1 y2 y3, σ = [y0, y1, y2, y3] ∧ Gro H3 H' ∧ TabS H' P1 tqP) ⟨_, _, _, _, rfl, Gro.refl _, ht1⟩ (fun i σ H' _ ⟨_, _, _, _, _, gr, _⟩ => gr.seq hsq) (fun i x σ H' hx ⟨y0, y1, y2, y3, eσ, gr, tt⟩ => ?_) (fun σ H' ⟨_, _, _, _, eσ, gr, tt⟩ => q H')
  subst eσ
  obtain ⟨r, hr1, hr2⟩ := pairedAt hrw hx
  have rf := rows3_ok r (List.mem_of_getElem? hr1)
  obtain ⟨k, g, b⟩ := r
  obtain ⟨t, u, rfl, qt, ku⟩ := hr2.stay gr.stay
  dsimp only at qt ku
  refine ⟨t, _, rfl, qt, rfl, u, _, rfl, .str g, _, rfl, .str b, _, rfl, rfl, ?_⟩
  refine ⟨tt, fun f1 c1 H4 x4 e4 t4 n4 z4 y4 k4 => ⟨f1, c1, u, k, b, rfl, rfl, rfl, y4, k4, ku.stay (ext_stay e4), rf.p, rf.n, fun H5 s5 => ?_⟩⟩
  have g45 : Gro H' H5 := (⟨e4, n4⟩ : Gro H' H4).trans (Gro.of s5)
  have g5 : Gro H3 H5 := gr.trans g45
  refine ⟨rfl, _, rfl, iteN (by decide +kernel) ?_⟩
  refine ⟨_, rfl, rfl, _, rfl, ?_⟩
  have hs : ∀ (A B : Prop), (g = "in" → A) → (g ≠ "in" → B) → (if decide (V.str g = V.str "in") = true then A else B) := fun A B ha hb => by
    by_cases e : g = "in"
    · rw [if_pos (decide_eq_true (by rw [e]))]; exact ha e
    · rw [if_neg (by rw [decide_eq_false fun z => e (V.str.inj z)]; exact Bool.false_ne_true)]; exact hb e
  refine hs _ _ (fun e => ?_) (fun e => ?_)
  · have T : Told (trayP g k) 2 [] (fl1 "-") := by
      have := rf.t
      dsimp only at this
      rw [if_pos e] at this
      exact this
    refine ⟨g, u, k, rfl, rfl, ku.stay g45.stay, fun H6 c6 s6 hc6 => ⟨by show 1 ≤ sizeLine; decide, fun L2 hL2 => ?_⟩⟩
    dsimp only [tNil]
    refine told_q T upd_same (hc6.stay (stay_same (same_new hL2 _))) fun H7 r7 a1 a2 a3 s7 hr7 d1 d2 d3 => ?_
    refine ⟨2, rfl, r7, _, rfl, SqL.of hr7, fun p8 hp8 => ?_⟩
    rw [show (some 2 : Option Int) = some ((2 : Nat) : Int) from rfl, cut_takex]
    have s8 := same_new hp8 (.lst [V.ref a1, .ref a2])
    have e1 : Dp K (upd H7 p8 (.lst [V.ref a1, .ref a2])) (.ref p8) (dR [] (fl1 "-")) := .lst (SqL.of upd_same) (.cons (dp_same s8 _ _ d1) (.cons (dp_same s8 _ _ d2) .nil))
    refine ⟨"-", rfl, fun H9 v9 s9 d9 => ?_⟩
    have s59 := s6.trans ((same_new hL2 (.lst [c6])).trans (s7.trans (s8.trans s9)))
    exact ne_q dOk2 (dp_same s9 _ _ e1) d9 ⟨_, rfl, iteN rfl ⟨_, _, _, _, rfl, g5.trans (Gro.of s59), (t4.ext s5).ext s59⟩⟩
  · have T : Told (trayP g k) 2 [] (fl1 "+") := by
      have := rf.t
      dsimp only at this
      rw [if_neg e] at this
      exact this
    refine ⟨g, u, k, rfl, rfl, ku.stay g45.stay, fun H6 c6 s6 hc6 => ⟨by show 1 ≤ sizeLine; decide, fun L2 hL2 => ?_⟩⟩
    dsimp only [tNil]
    refine told_q T upd_same (hc6.stay (stay_same (same_new hL2 _))) fun H7 r7 a1 a2 a3 s7 hr7 d1 d2 d3 => ?_
    refine ⟨2, rfl, r7, _, rfl, SqL.of hr7, fun p8 hp8 => ?_⟩
    rw [show (some 2 : Option Int) = some ((2 : Nat) : Int) from rfl, cut_takex]
    have s8 := same_new hp8 (.lst [V.ref a1, .ref a2])
    have e1 : Dp K (upd H7 p8 (.lst [V.ref a1, .ref a2])) (.ref p8) (dR [] (fl1 "+")) := .lst (SqL.of upd_same) (.cons (dp_same s8 _ _ d1) (.cons (dp_same s8 _ _ d2) .nil))
    refine ⟨"+", rfl, fun H9 v9 s9 d9 => ?_⟩
    have s59 := s6.trans ((same_new hL2 (.lst [c6])).trans (s7.trans (s8.trans s9)))
    exact ne_q dOk1 (dp_same s9 _ _ e1) d9 ⟨_, rfl, iteN rfl ⟨_, _, _, _, rfl, g5.trans (Gro.of s59), (t4.ext s5).ext s59⟩⟩
def spLaw69 (K : PySem.W.Frag) (P1 : Addr) : Sp := fun vs H Q _ => ∃ (a : Addr) (ns : List Int), vs = [.ref a] ∧ SqL K H a (ns.map V.int) ∧ ns.length ≤ 63 ∧ TabS H P1 tqP ∧ ∀ H', Q (.bl true) H'
theorem ok_law69 {P1 : Addr} (G : Glo mg) (CC : Cal P w K mg base 1 "_law_cell_at" ["_law_script", "_law_k"] (spCell K)) (CP : Cal P w K mg base 1 "_law_ink" ["_law_cell"] (spPen K)) (CD : Cal P w K mg base 1 "_law_draw" ["_law_pen", "_law_many"] (spDraw K))
    (CO : Cal P w K mg base 14 "_law_one_right" ["_law_many"] (spOne K)) (C2 : Cal P w K mg base 14 "_law_two_right" [] spTwo) (C3 : Cal P w K mg base 16 "_law_parents_right" [] (spParR P1))
    {f : Addr} {fd : FuncData} (D : Fun K "law" "law" s_law f fd) : FnG P w K mg base (L2.CX P w) 17 f fd ["_law_script"] (spLaw69 K P1) := by
  refine fnG_of D sc_law (fun vs H Q E h => ?_) (fun cdv A outer s H vs Q E hr h => ?_)
  · obtain ⟨a, ns, rfl, _⟩ := h
    rfl
  obtain ⟨a, ns, rfl, hS, hlen, ht0, q⟩ := h
  have hr1 : RoomG 1 _ := hr.mono (by decide)
  have hr14 : RoomG 14 _ := hr.mono (by decide)
  refine ⟨_, pss_cons (ps_for (passes_of rfl) rfl (pi_range1 rfl G.range (pa_cons (pe_callB (call_max2 rfl) (by rfl) G.max (by decide +kernel) (pa_cons pe_int (pa_cons (pe_callB (call_min2 rfl) (by rfl) G.min (by decide +kernel) (pa_cons (pe_callB call_len_seq (by rfl) G.len PySem.boot_len (pa_cons (pv 0) pa_nil)) (pa_cons pe_int pa_nil))) pa_nil))) pa_nil)) (pg_name (i := 1) sc_law.nd rfl (by first | exact Or.inl rfl | exact Or.inr rfl))
      (pss_one (ps_if (pt_not (pt_val (pc CO hr14 rfl (pa_cons (pe_op op_add pe_int (pc CD hr1 rfl (pa_cons (pc CP hr1 rfl (pa_cons (pc CC hr1 rfl (pa_cons (pv 0) (pa_cons (pv 1) pa_nil))) pa_nil)) (pa_cons pe_int pa_nil)))) pa_nil)))) (pss_one ps_never) pss_nil)))
    (pss_one (ps_ret (pe_and (pc0 C2 hr14 rfl) (pe_one (pc0 C3 hr rfl))))), ?_⟩
  refine ⟨_, rfl, a, _, rfl, .inl hS, _, _, rfl, _, _, rfl, _, rfl, ?_, ?_, ?_⟩
  · rw [List.length_map]; split <;> split <;> omega
  · rw [List.length_map]; split <;> split <;> omega
  refine for_range (fun i σ H' => ∃ y1, σ = [some (.ref a), y1] ∧ Same H H') ⟨_, rfl, Same.refl _⟩ (fun i σ H' hi ⟨y1, eσ, sm⟩ => ?_) (fun σ H' ⟨y1, eσ, sm⟩ => ?_)
  · subst eσ
    refine ⟨_, rfl, _, rfl, a, ns, i, by rw [Int.zero_add], sm.seq hS, fun n => ⟨n, rfl, fun p H1 sm1 hp0 pn1 => ?_⟩⟩
    have smp : Same H H1 := sm.trans sm1
    have hpS : H p = none := sm.free hp0
    refine ⟨p, 5, rfl, pn1, by decide, by decide, fun H2 r b2 pn2 r0 r5 => ?_⟩
    have s2 : Same H H2 := fun x o e => b2 x o (ne_of_none e hpS) (smp x o e)
    refine ⟨1, r, rfl, rfl, (1 + r).toNat, by rw [Int.toNat_of_nonneg (by omega)], by omega, by omega, fun H3 s3 => ⟨true, rfl, iteN rfl ⟨_, rfl, s2.trans s3⟩⟩⟩
  · subst eσ
    exact ⟨rfl, fun H1 s1 => ⟨true, rfl, iteE rfl ⟨rfl, (ht0.ext sm).ext s1, fun H2 => q H2⟩⟩⟩
end
end N

namespace N
open PySem PySem.Spec PyProof.Rows L2 StX NdefX
theorem glo_mk {K : PySem.W.Frag} {h : Heap} {mg : Str → Option Value} {t8 t2 : Tok} (X : K.In h) (G : h.Ns mainGlobals mg)
    (z_isinstance : PySem.W.nsIn K mainGlobals "isinstance" = some none)
    (z_str : PySem.W.nsIn K mainGlobals "str" = some none)
    (z_tuple : PySem.W.nsIn K mainGlobals "tuple" = some none)
    (z_dict : PySem.W.nsIn K mainGlobals "dict" = some none)
    (z_list : PySem.W.nsIn K mainGlobals "list" = some none)
    (z_len : PySem.W.nsIn K mainGlobals "len" = some none)
    (z_all : PySem.W.nsIn K mainGlobals "all" = some none)
    (z_max : PySem.W.nsIn K mainGlobals "max" = some none)
    (z_min : PySem.W.nsIn K mainGlobals "min" = some none)
    (z_range : PySem.W.nsIn K mainGlobals "range" = some none)
    (z_repr : PySem.W.nsIn K mainGlobals "repr" = some none)
    (z_sum : PySem.W.nsIn K mainGlobals "sum" = some none)
    (zl : PySem.W.nsIn K mainGlobals "LONGEST_NAME" = some (some (.int 8 t8))) (zm : PySem.W.nsIn K mainGlobals "MOST_ARGUMENTS" = some (some (.int 2 t2))) : Glo mg :=
  ⟨PySem.W.mg_none_of X G z_isinstance, PySem.W.mg_none_of X G z_str, PySem.W.mg_none_of X G z_tuple, PySem.W.mg_none_of X G z_dict, PySem.W.mg_none_of X G z_list, PySem.W.mg_none_of X G z_len, PySem.W.mg_none_of X G z_all, PySem.W.mg_none_of X G z_max, PySem.W.mg_none_of X G z_min, PySem.W.mg_none_of X G z_range, PySem.W.mg_none_of X G z_repr, PySem.W.mg_none_of X G z_sum, ⟨_, PySem.W.mg_of X G zl⟩, ⟨_, PySem.W.mg_of X G zm⟩⟩
/-- a tuple of three texts in the written part -/
theorem sq3 {K : PySem.W.Frag} {a : Addr} {od : Option Addr} {x0 x1 x2 : Str} {t0 t1 t2 : Tok} {n : Nat} {sl : Array (Option Value)} (l : K.lookup a = some ⟨.type "tuple", od, .seq #[.str x0 t0, .str x1 t1, .str x2 t2] n, sl⟩) (H : Hp) : SqT K H a [.str x0, .str x1, .str x2] :=
  .inr ⟨_, _, n, l, rfl, rfl, by show 3 ≤ sizeLine; decide, .cons ⟨t0, rfl⟩ (.cons ⟨t1, rfl⟩ (.cons ⟨t2, rfl⟩ .nil))⟩
theorem glo2_mk {K : PySem.W.Frag} {h : Heap} {mg : Str → Option Value} {t5 t2 t6 v0 v1 v2 w0 w1 w2 : Tok} {va wa : Addr} {od od2 : Option Addr} {n n2 : Nat} {sl sl2 : Array (Option Value)} (X : K.In h) (G : h.Ns mainGlobals mg) (zs : PySem.W.nsIn K mainGlobals "set" = some none)
    (c5 : PySem.W.nsIn K mainGlobals "MOST_CLASSES" = some (some (.int 5 t5))) (c2 : PySem.W.nsIn K mainGlobals "MOST_IN_CLASS" = some (some (.int 2 t2))) (c6 : PySem.W.nsIn K mainGlobals "MOST_SIZE" = some (some (.int 6 t6)))
    (gv : PySem.W.nsIn K mainGlobals "VARIANCES" = some (some (.ref va))) (lv : K.lookup va = some ⟨.type "tuple", od, .seq #[.str "out" v0, .str "in" v1, .str "same" v2] n, sl⟩)
    (gw : PySem.W.nsIn K mainGlobals "WAYS" = some (some (.ref wa))) (lw : K.lookup wa = some ⟨.type "tuple", od2, .seq #[.str "reads" w0, .str "takes" w1, .str "holds" w2] n2, sl2⟩) : Glo2 K mg :=
  ⟨PySem.W.mg_none_of X G zs, ⟨_, PySem.W.mg_of X G c5⟩, ⟨_, PySem.W.mg_of X G c2⟩, ⟨_, PySem.W.mg_of X G c6⟩, ⟨va, PySem.W.mg_of X G gv, fun H => sq3 lv H⟩, ⟨wa, PySem.W.mg_of X G gw, fun H => sq3 lw H⟩⟩
theorem kd_mk {K : PySem.W.Frag} {w : World} {a : Addr} {ks : List Str} {x z : Str} {t : Tok} (h : He.dicW K a = some (He.keysIn w.params ks)) (e : PySem.W.nsIn K a x = some (some (.str z t))) : KDct K w a x (.str z) := by
  obtain ⟨es, n, D⟩ := He.dicW_ok h
  exact ⟨es, n, _, D.at_, D.lit, e, ⟨t, rfl⟩⟩
theorem glo3_mk {K : PySem.W.Frag} {w : World} {h : Heap} {mg : Str → Option Value} {tb a0 a1 a2 b0 b1 : Tok} {ta ba : Addr} (X : K.In h) (G : h.Ns mainGlobals mg) (gb : PySem.W.nsIn K mainGlobals "BOTH" = some (some (.str "+-" tb)))
    (gt : PySem.W.nsIn K mainGlobals "TURNED" = some (some (.ref ta))) (dt : He.dicW K ta = some (He.keysIn w.params ["+", "-", "+-"])) (n0 : PySem.W.nsIn K ta "+" = some (some (.str "-" a0))) (n1 : PySem.W.nsIn K ta "-" = some (some (.str "+" a1))) (n2 : PySem.W.nsIn K ta "+-" = some (some (.str "+-" a2)))
    (gr : PySem.W.nsIn K mainGlobals "BARRED" = some (some (.ref ba))) (dr : He.dicW K ba = some (He.keysIn w.params ["out", "in"])) (m0 : PySem.W.nsIn K ba "out" = some (some (.str "-" b0))) (m1 : PySem.W.nsIn K ba "in" = some (some (.str "+" b1))) : Glo3 K w mg := by
  refine ⟨⟨_, PySem.W.mg_of X G gb⟩, ⟨ta, PySem.W.mg_of X G gt, fun s hs => ?_⟩, ⟨ba, PySem.W.mg_of X G gr, kd_mk dr m0, kd_mk dr m1⟩⟩
  simp only [sgz, List.mem_cons, List.not_mem_nil, or_false] at hs
  have e0 : turnS "+" = "-" := by decide +kernel
  have e1 : turnS "-" = "+" := by decide +kernel
  have e2 : turnS "+-" = "+-" := by decide +kernel
  rcases hs with rfl | rfl | rfl
  · rw [e0]
    exact kd_mk dt n0
  · rw [e1]
    exact kd_mk dt n1
  · rw [e2]
    exact kd_mk dt n2
theorem plus_mk {K : PySem.W.Frag} {h : Heap} {mg : Str → Option Value} {t : Tok} (X : K.In h) (G : h.Ns mainGlobals mg) (e : PySem.W.nsIn K mainGlobals "PLUS" = some (some (.str "+" t))) : ∃ t, mg "PLUS" = some (.str "+" t) := ⟨t, PySem.W.mg_of X G e⟩
/-! ### the class Table -/
/-- what is asked of the class Table where it is made and shown alone -/
structure TabY (K : PySem.W.Frag) (mg : Str → Option Value) (C fi fr : Addr) : Prop where
  c : TabC K mg C
  r : TabR K C fr
  m : Mk K C fi
theorem tabY_all {K : PySem.W.Frag} {h : Heap} {mg : Str → Option Value} {C fi fr : Addr} (X : K.In h) (G : h.Ns mainGlobals mg) (gl : PySem.W.nsIn K mainGlobals "Table" = some (some (.ref C)))
    (pg : PySem.W.plainGet K C Str.empty = true) (hd : PySem.W.hasDictIn K C = true) (po : PySem.W.plainOver K C = true) (sa : PySem.W.findIn K (.ref C) "__setattr__" = some (some (.builtin "object.__setattr__"))) (na : PySem.W.findIn K (.ref C) "_classes" = some none)
    (mk : PySem.W.makesIn K C = true) (ini : PySem.W.findIn K (.ref C) "__init__" = some (some (.ref fi))) (fni : PySem.W.isFn K (.ref fi) = true) (kp : PySem.W.keepIn K (.ref C) = true)
    (rep : PySem.W.findIn K (.ref C) "__repr__" = some (some (.ref fr))) (fnr : PySem.W.isFn K (.ref fr) = true) : TabY K mg C fi fr :=
  ⟨⟨PySem.W.mg_of X G gl, ⟨pg, hd, po, sa⟩, na⟩, ⟨rep, fnr⟩, ⟨mk, ini, fni, kp⟩⟩
def MetAt (K : PySem.W.Frag) (x qual : Str) (j : Nat) (ps : List Str) (f : Addr) : Prop := ∃ fd, Fun K x qual (tabM j) f fd ∧ ∀ us : List Value, us.length = ps.length → bindArgs fd ⟨us, []⟩ = pure (ps.zip us)
theorem met_mk {K : PySem.W.Frag} {x qual : Str} {j : Nat} {ps : List Str} {f : Addr} {oc : Value} {od an : Option Addr} {osl : Array (Option Value)} {kV doc pm cdv ct : Value} (l : K.lookup f = some ⟨oc, od, .func (PySem.W.fnOf x qual (defArgs (tabM j)) (defBody (tabM j)) (defScope (tabM j)) .none kV doc pm an cdv ct), osl⟩)
    (c : PySem.W.codeIn K cdv qual = true) (k : PySem.W.keepIn K (.ref f) = true) (b : ∀ (kV doc pm : Value) (an : Option Addr) (cdv ct : Value) (us : List Value), us.length = ps.length → bindArgs (PySem.W.fnOf x qual (defArgs (tabM j)) (defBody (tabM j)) (defScope (tabM j)) .none kV doc pm an cdv ct) ⟨us, []⟩ = pure (ps.zip us)) : MetAt K x qual j ps f :=
  ⟨_, fun_mk l c k, b kV doc pm an cdv ct⟩
def IniAt (K : PySem.W.Frag) (f : Addr) : Prop := ∃ fd, Fun K "__init__" "Table.__init__" (tabM 0) f fd ∧ ∀ us rest : List Value, us.length = [("self" : Str)].length → bindArgs fd ⟨us ++ rest, []⟩ = (newTuple rest >>= fun t => pure ([("self" : Str)].zip us ++ [(("classes" : Str), t)]))
theorem ini_mk {K : PySem.W.Frag} {f : Addr} {oc : Value} {od an : Option Addr} {osl : Array (Option Value)} {kV doc pm cdv ct : Value} (l : K.lookup f = some ⟨oc, od, .func (PySem.W.fnOf "__init__" "Table.__init__" (defArgs (tabM 0)) (defBody (tabM 0)) (defScope (tabM 0)) .none kV doc pm an cdv ct), osl⟩)
    (c : PySem.W.codeIn K cdv "Table.__init__" = true) (k : PySem.W.keepIn K (.ref f) = true) (b0 : ∀ (kV doc pm : Value) (an : Option Addr) (cdv ct a : Value), bindArgs (PySem.W.fnOf "__init__" "Table.__init__" (defArgs (tabM 0)) (defBody (tabM 0)) (defScope (tabM 0)) .none kV doc pm an cdv ct) ⟨[a], []⟩ = (newTuple [] >>= fun t => pure [(("self" : Str), a), (("classes" : Str), t)]))
    (b1 : ∀ (kV doc pm : Value) (an : Option Addr) (cdv ct a r : Value) (rs : List Value), bindArgs (PySem.W.fnOf "__init__" "Table.__init__" (defArgs (tabM 0)) (defBody (tabM 0)) (defScope (tabM 0)) .none kV doc pm an cdv ct) ⟨a :: r :: rs, []⟩ = (newTuple (r :: rs) >>= fun t => pure [(("self" : Str), a), (("classes" : Str), t)])) : IniAt K f :=
  ⟨_, fun_mk l c k, fun us rest hl => match us, rest, hl with
    | [a], [], _ => b0 kV doc pm an cdv ct a
    | [a], r :: rs, _ => b1 kV doc pm an cdv ct a r rs⟩
/-! ### more of the class Table, the class Web -/
def kitBG (K : PySem.W.Frag) (C : Addr) : Bool := (Tys.all fun T => decide (PySem.W.kitOne K (.type T) (.ref C) = some false)) && decide (PySem.W.kitOne K (.ref C) (.ref C) = some true)
theorem tabI_mk {K : PySem.W.Frag} {C : Addr} (ca : PySem.W.findIn K (.ref C) "__class__" = some (some (.builtin "object.__class__"))) (cn : PySem.W.specialIn K (.builtin "object.__class__") "__get__" = some (some (.builtin "getset_descriptor.__get__"))) (ct : PySem.W.takesIn K (.builtin "object.__class__") = some true) (kt : kitBG K C = true) : TabI K C := by
  unfold kitBG at kt
  simp only [Bool.and_eq_true, List.all_eq_true, decide_eq_true_eq] at kt
  exact ⟨ca, cn, ct, kt.1, kt.2⟩
theorem prop_mk {K : PySem.W.Frag} {C pn fn : Addr} {x : Str} {rest : List Value} (nm : PySem.W.findIn K (.ref C) x = some (some (.ref pn))) (ng : PySem.W.specialIn K (.ref pn) "__get__" = some (some (.builtin "property.__get__"))) (nt : PySem.W.takesIn K (.ref pn) = some true) (nr : PySem.W.recIn K pn "property" = some (.ref fn :: rest)) : PropOf K C x pn fn :=
  ⟨nm, ng, nt, rest, nr⟩
theorem exc_mk {K : PySem.W.Frag} {h : Heap} {mg : Str → Option Value} {x : Str} {C : Addr} (X : K.In h) (G : h.Ns mainGlobals mg) (a : PySem.W.nsIn K mainGlobals x = some (some (.ref C))) (k : PySem.W.keepIn K (.ref C) = true) (b : PySem.W.subIn K (.ref C) (.type "BaseException") = some true) (t : PySem.W.typeIn K (.ref C) = some (.type "type"))
    (e : PySem.W.excIn K C [.type "ValueError", .type "Exception", .type "BaseException", .type "object"] "ValueError.__new__" = true) : ExcAt K mg x C := ⟨PySem.W.mg_of X G a, k, b, t, e⟩
theorem iniC_ofY {K : PySem.W.Frag} {file : Str} {C f cc cda : Addr} {qual : Str} {params : Arguments} {body : List Stmt} {scope : Scope} {nm q : Str} {Na : Addr} {bs bm : List Value} {sn : List Str} {sub : List Value} {ab : Bool} {col : Option Bool} {dd : Option Addr} {k0 k1 k2 k3 k5 : Option Value}
    {oc dV kV doc pm ct : Value} {od an : Option Addr} {osl : Array (Option Value)} {ccl : Value} {cdd : Option Addr} {vs : Array Value} {ccs : Array (Option Value)} {tf : Tok} {cl : Value} {cld : Option Addr} {csl : Array (Option Value)} {cd : ClassData}
    (ini : PySem.W.findIn K (.ref C) "__init__" = some (some (.ref f)))
    (lk : K.lookup f = some ⟨oc, od, .func (PySem.W.ksFn "__init__" qual params body scope dV kV doc pm an (.ref cda) ct cc), osl⟩)
    (lc : K.lookup C = some (excClassObj nm q C Na bs bm true sn sub ab col dd k0 k1 k2 k3 k5 "ValueError.__new__")) (hb : PySem.HandSPX.refsVE bm = true)
    (sa : PySem.W.findIn K (.ref C) "__setattr__" = some (some (.builtin "object.__setattr__"))) (ex : PySem.W.subIn K (.ref C) (.type "BaseException") = some true) (ty : PySem.W.typeIn K (.ref C) = some (.type "type")) (kp : PySem.W.keepIn K (.ref C) = true)
    (cod : PySem.W.codeIn K (.ref cda) qual = true) (lcda : K.lookup cda = some ⟨ccl, cdd, .fields vs, ccs⟩) (hvs : vs[2]? = some (.str file tf)) (lcc : K.lookup cc = some ⟨cl, cld, .cell (some (.ref C)), csl⟩)
    (cls : PySem.W.clsIn K C = some cd) (own : PySem.W.mroIn K C (.ref C) = some true) (up : PySem.W.ks_superIn K C C "__init__" = some (some (.builtin "ValueError.__init__"))) (ve : PySem.W.subIn K (.ref C) (.type "ValueError") = some true)
    (any : PySem.W.nsIn K cStatics "thirdparty.any" = some none) (tyf : PySem.W.typeIn K (.ref f) = some (.type "function")) : IniC K file C f cc cda qual params body scope :=
  ⟨⟨⟨nm, q, Na, bs, bm, sn, sub, ab, col, dd, k0, k1, k2, k3, k5, lc, hb⟩, sa, ex, ty, kp⟩, ⟨oc, od, dV, kV, doc, pm, an, ct, osl, lk⟩, cod, ⟨ccl, cdd, vs, ccs, tf, lcda, hvs⟩, ⟨cl, cld, csl, lcc⟩, by rw [cls] <;> rfl, own, up, ve, any, ini, tyf⟩
section
variable {P : Program} {w : World} {K : PySem.W.Frag} {mg : Str → Option Value} {h : Heap} {file : Str} {C f cc cda : Addr} {nm q : Str} {Na : Addr} {bs bm : List Value} {sn : List Str} {sub : List Value} {ab : Bool} {col : Option Bool} {dd : Option Addr} {k0 k1 k2 k3 k5 : Option Value}
    {oc kV doc pm ct : Value} {od an : Option Addr} {osl : Array (Option Value)} {ccl : Value} {cdd : Option Addr} {vs : Array Value} {ccs : Array (Option Value)} {tf : Tok} {cl : Value} {cld : Option Addr} {csl : Array (Option Value)} {cd : ClassData}
theorem mkR_Turned (X : K.In h) (G : h.Ns mainGlobals mg) (hfile : ((P.main.file : Str) == file) = true) (htop : (P.main.scope.names.lookup ("super" : Str)).isSome = false) (zs : PySem.W.nsIn K mainGlobals "super" = some none)
    (a : PySem.W.nsIn K mainGlobals "Turned" = some (some (.ref C))) (ini : PySem.W.findIn K (.ref C) "__init__" = some (some (.ref f)))
    (lk : K.lookup f = some ⟨oc, od, .func (PySem.W.ksFn "__init__" "Turned.__init__" (defArgs (turI)) (defBody (turI)) (defScope (turI)) .none kV doc pm an (.ref cda) ct cc), osl⟩)
    (lc : K.lookup C = some (excClassObj nm q C Na bs bm true sn sub ab col dd k0 k1 k2 k3 k5 "ValueError.__new__")) (hb : PySem.HandSPX.refsVE bm = true)
    (sa : PySem.W.findIn K (.ref C) "__setattr__" = some (some (.builtin "object.__setattr__"))) (ex : PySem.W.subIn K (.ref C) (.type "BaseException") = some true) (ty : PySem.W.typeIn K (.ref C) = some (.type "type")) (kp : PySem.W.keepIn K (.ref C) = true)
    (cod : PySem.W.codeIn K (.ref cda) "Turned.__init__" = true) (lcda : K.lookup cda = some ⟨ccl, cdd, .fields vs, ccs⟩) (hvs : vs[2]? = some (.str file tf)) (lcc : K.lookup cc = some ⟨cl, cld, .cell (some (.ref C)), csl⟩)
    (cls : PySem.W.clsIn K C = some cd) (own : PySem.W.mroIn K C (.ref C) = some true) (up : PySem.W.ks_superIn K C C "__init__" = some (some (.builtin "ValueError.__init__"))) (ve : PySem.W.subIn K (.ref C) (.type "ValueError") = some true)
    (any : PySem.W.nsIn K cStatics "thirdparty.any" = some none) (tyf : PySem.W.typeIn K (.ref f) = some (.type "function")) (n0 : PySem.W.findIn K (.ref C) "name" = some none) (n1 : PySem.W.findIn K (.ref C) "letter" = some none) : ∀ base : Heap, Ra2 P w K mg base "Turned" C := fun base => by
  have I : IniC K file C f cc cda "Turned.__init__" (defArgs (turI)) (defBody (turI)) (defScope (turI)) := iniC_ofY ini lk lc hb sa ex ty kp cod lcda hvs lcc cls own up ve any tyf
  refine ⟨⟨f, _, ⟨PySem.W.mg_of X G a, I.ox, ini, tyf, inf_Turned (PySem.W.mg_none_of X G zs) hfile htop I n0 n1 lk⟩, fun s us _ hl => ?_⟩⟩
  rw [List.append_nil] at hl ⊢
  exact .of_eq (match us, hl with | [_, _, _], _ => rfl)
end
def excBz (K : PySem.W.Frag) (D : Addr) : Bool :=
  decide (PySem.W.findIn K (.ref D) "__getattribute__" = some (some (.builtin "BaseException.__getattribute__"))) && (decide (PySem.W.findIn K (.ref D) "__getattr__" = some none) && (decide (PySem.W.subIn K (.ref D) (.type "BaseException") = some true) && (PySem.W.hasDictIn K D && (decide (PySem.W.findIn K (.ref D) "__class__" = some (some (.builtin "object.__class__"))) &&
    (decide (PySem.W.specialIn K (.builtin "object.__class__") "__get__" = some (some (.builtin "getset_descriptor.__get__"))) && (decide (PySem.W.takesIn K (.builtin "object.__class__") = some true) && decide (PySem.W.mroIn K D (.type "object") = some true)))))))
theorem excBz_ok {K : PySem.W.Frag} {D : Addr} (h : excBz K D = true) : ExcC K D := by
  unfold excBz at h
  simp only [Bool.and_eq_true, decide_eq_true_eq] at h
  obtain ⟨a, b, c, d, e, f, g, i⟩ := h
  exact ⟨a, b, c, d, e, f, g, i⟩

def saidB (K : PySem.W.Frag) (CT ke n0 n1 n2 n3 : Addr) : Bool :=
  decide (PySem.W.kitOne K (.ref CT) (.ref n0) = some false) && (decide (PySem.W.kitOne K (.ref CT) (.ref n1) = some false) && (decide (PySem.W.kitOne K (.ref CT) (.ref n2) = some false) && (decide (PySem.W.kitOne K (.ref CT) (.ref n3) = some false) &&
    (decide (PySem.W.kitOne K (.ref CT) (.ref CT) = some true) && (decide (PySem.W.kitOne K (.ref CT) (.type "ValueError") = some true) && (excBz K CT && decide (PySem.W.exmOne K (.ref CT) (.ref ke) = some true)))))))
theorem saidT_mk {K : PySem.W.Frag} {h : Heap} {mg : Str → Option Value} {CT ke n0 n1 n2 n3 : Addr} (X : K.In h) (G : h.Ns mainGlobals mg) (zv : PySem.W.nsIn K mainGlobals "ValueError" = some none)
    (a0 : PySem.W.nsIn K mainGlobals "NoType" = some (some (.ref n0))) (a1 : PySem.W.nsIn K mainGlobals "NoTable" = some (some (.ref n1))) (a2 : PySem.W.nsIn K mainGlobals "Endless" = some (some (.ref n2))) (a3 : PySem.W.nsIn K mainGlobals "TooMany" = some (some (.ref n3)))
    (a4 : PySem.W.nsIn K mainGlobals "Turned" = some (some (.ref CT))) (ak : PySem.W.nsIn K mainGlobals "KindError" = some (some (.ref ke))) (b : saidB K CT ke n0 n1 n2 n3 = true) : SaidT K mg CT ke n0 n1 n2 n3 := by
  unfold saidB at b
  simp only [Bool.and_eq_true, decide_eq_true_eq] at b
  obtain ⟨b0, b1, b2, b3, b4, b5, b6, b7⟩ := b
  exact ⟨PySem.W.mg_of X G a0, PySem.W.mg_of X G a1, PySem.W.mg_of X G a2, PySem.W.mg_of X G a3, PySem.W.mg_of X G a4, b0, b1, b2, b3, b4, b5, excBz_ok b6, PySem.W.mg_none_of X G zv, PySem.W.mg_of X G ak, b7⟩
theorem kdN_mk {K : PySem.W.Frag} {w : World} {a : Addr} {ks : List Str} {x : Str} (h : He.dicW K a = some (He.keysIn w.params ks)) (e : PySem.W.nsIn K a x = some (some .none)) : KDct K w a x .non := by
  obtain ⟨es, n, D⟩ := He.dicW_ok h
  exact ⟨es, n, _, D.at_, D.lit, e, rfl⟩
theorem glo4_mk {K : PySem.W.Frag} {w : World} {h : Heap} {mg : Str → Option Value} {tp a0 a1 a2 : Tok} {ta : Addr} (X : K.In h) (G : h.Ns mainGlobals mg) (gp : PySem.W.nsIn K mainGlobals "PLUS" = some (some (.str "+" tp)))
    (gt : PySem.W.nsIn K mainGlobals "SIGN_OF" = some (some (.ref ta))) (dt : He.dicW K ta = some (He.keysIn w.params ["reads", "takes", "holds"])) (n0 : PySem.W.nsIn K ta "reads" = some (some (.str "+" a0))) (n1 : PySem.W.nsIn K ta "takes" = some (some (.str "-" a1))) (n2 : PySem.W.nsIn K ta "holds" = some (some (.str "+-" a2))) : Glo4 K w mg := by
  refine ⟨⟨_, PySem.W.mg_of X G gp⟩, ⟨ta, PySem.W.mg_of X G gt, fun s hs => ?_⟩⟩
  simp only [wayz, List.mem_cons, List.not_mem_nil, or_false] at hs
  have e0 : signOf "reads" = "+" := by decide +kernel
  have e1 : signOf "takes" = "-" := by decide +kernel
  have e2 : signOf "holds" = "+-" := by decide +kernel
  rcases hs with rfl | rfl | rfl
  · rw [e0]
    exact kd_mk dt n0
  · rw [e1]
    exact kd_mk dt n1
  · rw [e2]
    exact kd_mk dt n2
theorem glo5_mk {K : PySem.W.Frag} {w : World} {h : Heap} {mg : Str → Option Value} {tp a0 a1 a2 : Tok} {ta : Addr} (X : K.In h) (G : h.Ns mainGlobals mg) (gp : PySem.W.nsIn K mainGlobals "BOTH" = some (some (.str "+-" tp)))
    (gt : PySem.W.nsIn K mainGlobals "STANDS_FOR" = some (some (.ref ta))) (dt : He.dicW K ta = some (He.keysIn w.params ["", "+", "-", "+-"])) (nn : PySem.W.nsIn K ta "" = some (some .none)) (n0 : PySem.W.nsIn K ta "+" = some (some (.str "out" a0))) (n1 : PySem.W.nsIn K ta "-" = some (some (.str "in" a1))) (n2 : PySem.W.nsIn K ta "+-" = some (some (.str "same" a2))) : Glo5 K w mg := by
  refine ⟨⟨_, PySem.W.mg_of X G gp⟩, ⟨ta, PySem.W.mg_of X G gt, fun s hs => ?_⟩⟩
  simp only [sg4, List.mem_cons, List.not_mem_nil, or_false] at hs
  have en : optV (stdF "") = .non := by
    have : stdF "" = none := by decide +kernel
    rw [this]; rfl
  have e0 : optV (stdF "+") = .str "out" := by
    have : stdF "+" = some "out" := by decide +kernel
    rw [this]; rfl
  have e1 : optV (stdF "-") = .str "in" := by
    have : stdF "-" = some "in" := by decide +kernel
    rw [this]; rfl
  have e2 : optV (stdF "+-") = .str "same" := by
    have : stdF "+-" = some "same" := by decide +kernel
    rw [this]; rfl
  rcases hs with rfl | rfl | rfl | rfl
  · rw [en]
    exact kdN_mk dt nn
  · rw [e0]
    exact kd_mk dt n0
  · rw [e1]
    exact kd_mk dt n1
  · rw [e2]
    exact kd_mk dt n2
end N

namespace N
open PySem PySem.Spec PyProof.Rows L2 StX LamX NdefX
theorem all_here {P : Program} {w : World} {K : PySem.W.Frag} {mg : Str → Option Value} {h : Heap} {f_ CT KE N0 N1 N2 N3 C fi fr fc pc_ c1 P1 : Addr} (KX : K.In h) (GN : h.Ns mainGlobals mg) (hfa : mg "law" = some (.ref f_)) (G : Glo mg) (G2 : Glo2 K mg) (G3 : Glo3 K w mg) (hPL : ∃ t, mg "PLUS" = some (.str "+" t)) (h_any : mg "any" = none) (h_zip : mg "zip" = none) (h_sorted : mg "sorted" = none)
    (T : TabY K mg C fi fr) (M_ini : IniAt K fi) (M_cls : MetAt K "classes" "Table.classes" 1 ["self"] fc)
    (PR_classes : PropOf K C "classes" pc_ fc)
    (tI : TabI K C)
    (tO : PySem.W.mroIn K C (.type "object") = some true)
    (xNT : ExcAt K mg "NoTable" N1)
    (sT : SaidT K mg CT KE N0 N1 N2 N3)
    (oT : ∀ base : Heap, Ra2 P w K mg base "Turned" CT)
    (g4 : Glo4 K w mg)
    (g5 : Glo5 K w mg)
    (D_is_letter : DefAt K mg "is_letter" s_is_letter ["thing"])
    (D_is_name : DefAt K mg "is_name" s_is_name ["thing"])
    (D_begins_class_type : DefAt K mg "begins_class_type" s_begins_class_type ["thing"])
    (D_is_type : DefAt K mg "is_type" s_is_type ["thing"])
    (D_parts : DefAt K mg "parts" s_parts ["kind"])
    (D_class_types : DefAt K mg "class_types" s_class_types ["kinds"])
    (D_size_of : DefAt K mg "size_of" s_size_of ["kind"])
    (D_is_short_tuple : DefAt K mg "is_short_tuple" s_is_short_tuple ["thing"])
    (D_all_differ : DefAt K mg "all_differ" s_all_differ ["words"])
    (D_is_parameter : DefAt K mg "is_parameter" s_is_parameter ["thing"])
    (D_are_parameters : DefAt K mg "are_parameters" s_are_parameters ["thing"])
    (D_is_declared : DefAt K mg "is_declared" s_is_declared ["thing"])
    (D_are_parents : DefAt K mg "are_parents" s_are_parents ["thing"])
    (D_is_member : DefAt K mg "is_member" s_is_member ["thing"])
    (D_are_members : DefAt K mg "are_members" s_are_members ["thing"])
    (D_is_class : DefAt K mg "is_class" s_is_class ["thing"])
    (D_names_of : DefAt K mg "names_of" s_names_of ["classes"])
    (D_check_forms : DefAt K mg "check_forms" s_check_forms ["classes"])
    (D_arities : DefAt K mg "arities" s_arities ["classes"])
    (D_letters_of : DefAt K mg "letters_of" s_letters_of ["one"])
    (D_declared : DefAt K mg "declared" s_declared ["one"])
    (D_is_of : DefAt K mg "is_of" s_is_of ["thing", "wanted", "letters"])
    (D_check_fit : DefAt K mg "check_fit" s_check_fit ["classes"])
    (D_heads_of : DefAt K mg "heads_of" s_heads_of ["classes"])
    (D_variances_of : DefAt K mg "variances_of" s_variances_of ["classes"])
    (D_elders : DefAt K mg "elders" s_elders ["heads", "name"])
    (D_check_elders : DefAt K mg "check_elders" s_check_elders ["classes"])
    (D_passed_on : DefAt K mg "passed_on" s_passed_on ["sign", "variance"])
    (D_is_barred : DefAt K mg "is_barred" s_is_barred ["sign", "variance"])
    (D_wrong_letters : DefAt K mg "wrong_letters" s_wrong_letters ["parameters", "places"])
    (D_signed_letters : DefAt K mg "signed_letters" s_signed_letters ["kind", "sign", "variances"])
    (D_check_parents : DefAt K mg "check_parents" s_check_parents ["classes"])
    (D_check_classes : DefAt K mg "check_classes" s_check_classes ["classes"])
    (D_check_table : DefAt K mg "check_table" s_check_table ["thing"])
    (D_signed_places : DefAt K mg "signed_places" s_signed_places ["one", "variances"])
    (D_faults : DefAt K mg "faults" s_faults ["table"])
    (D_joined : DefAt K mg "joined" s_joined ["rows"])
    (D_signs_under : DefAt K mg "signs_under" s_signs_under ["classes", "given"])
    (D_signs : DefAt K mg "signs" s_signs ["table"])
    (D_Lcell_at : DefAt K mg "_law_cell_at" s_Lcell_at ["_law_script", "_law_k"])
    (D_Link : DefAt K mg "_law_ink" s_Link ["_law_cell"])
    (D_Ldraw : DefAt K mg "_law_draw" s_Ldraw ["_law_pen", "_law_many"])
    (D_Ltable : DefAt K mg "_law_table" s_Ltable ["_law_some"])
    (D_Lsaid : DefAt K mg "_law_said" s_Lsaid ["_law_call"])
    (D_Lwrapped : DefAt K mg "_law_wrapped" s_Lwrapped ["_law_name", "_law_inner", "_law_many"])
    (D_Ltold : DefAt K mg "_law_told" s_Ltold ["_law_some"])
    (D_Lone_right : DefAt K mg "_law_one_right" s_Lone_right ["_law_many"])
    (D_Ltwo_right : DefAt K mg "_law_two_right" s_Ltwo_right [])
    (D_Lparents_right : DefAtC K mg "_law_parents_right" s_Lparents_right [] c1)
    (D_law : DefAt K mg "law" s_law ["_law_script"])
    : ∃ fd : FuncData, (∀ (s : Shared) (u : Value), BindsTo s fd ⟨[u], []⟩ [("_law_script", u)]) ∧ ∀ base : Heap, K.In base → base.Ns mainGlobals mg → TabB base mg c1 P1 → FnG P w K mg base (L2.CX P w) 17 f_ fd ["_law_script"] (spLaw69 K P1) := by
  obtain ⟨f, fd, hm, F, _⟩ := D_law
  have ef := hm.symm.trans hfa
  cases ef
  obtain ⟨fdi, Fi, bi⟩ := M_ini
  obtain ⟨fd_cls, F_cls, b_cls⟩ := M_cls
  refine ⟨fd, fun s u => ?_, fun base _ _ TB1 => ?_⟩
  · obtain ⟨oc, od, kV, doc, pm, an, cdv, ct, osl, rfl, _, _⟩ := F.ex
    exact .of_eq rfl
  have c_isl := ok_is_letter (P := P) (w := w) (base := base) G D_is_letter
  have c_isn := ok_is_name (P := P) (w := w) (base := base) G D_is_name
  have c_beg := ok_begins G c_isn D_begins_class_type
  have c_ist := ok_is_type c_isl c_beg D_is_type
  have c_par := ok_parts (P := P) (w := w) (base := base) G D_parts
  have c_cty := ok_class_types (P := P) (w := w) (base := base) G D_class_types
  have c_siz := ok_size_of G c_par c_cty D_size_of
  have c_sho := ok_short (P := P) (w := w) (base := base) G G2 D_is_short_tuple
  have c_dif := ok_differ (P := P) (w := w) (base := base) G G2 D_all_differ
  have c_ipa := ok_par G G2 c_isl D_is_parameter
  have c_aps := ok_pars G c_sho c_ipa c_dif D_are_parameters
  have c_dec := ok_decl G G2 c_ist c_siz D_is_declared
  have c_pnt := ok_pnts G c_sho c_dec D_are_parents
  have c_mem := ok_mem G G2 c_isn c_dec D_is_member
  have c_mms := ok_mems G c_sho c_mem c_dif D_are_members
  have c_cla := ok_class G c_isn c_aps c_pnt c_mms D_is_class
  have c_nam := ok_names (P := P) (w := w) (base := base) G D_names_of
  have c_for := ok_forms G G2 c_cla c_nam c_dif D_check_forms
  have c_ars := ok_ars (P := P) (w := w) (base := base) G D_arities
  have c_let := ok_lets (P := P) (w := w) (base := base) D_letters_of
  have c_dcl := ok_dcls (P := P) (w := w) (base := base) G D_declared
  have c_iof := ok_of (P := P) (w := w) (base := base) G D_is_of
  have c_fit := ok_fit G c_ars c_let c_dcl c_iof D_check_fit
  have c_hea := ok_heads (P := P) (w := w) (base := base) G D_heads_of
  have c_var := ok_vars (P := P) (w := w) (base := base) G D_variances_of
  have c_eld := ok_eld (P := P) (w := w) (base := base) G D_elders
  have c_els := ok_elds G c_hea c_eld D_check_elders
  have c_pas := ok_pass (P := P) (w := w) (base := base) G3 D_passed_on
  have c_bar := ok_bar (P := P) (w := w) (base := base) G3 D_is_barred
  have c_wro := ok_wrongX G G3 h_any c_bar D_wrong_letters
  have c_sgl := ok_sgl G h_zip c_pas D_signed_letters
  have c_cpa := ok_parsX G (oT base) hPL c_var c_sgl c_wro D_check_parents
  have c_chk := ok_checkZ c_for c_fit c_els c_cpa D_check_classes
  have t_ini := ok_TinitZ T.c c_chk Fi bi
  have t_cls := ok_Tcls (P := P) (w := w) (base := base) T.c F_cls b_cls
  have c_ckt := ok_chkx (P := P) (w := w) (base := base) G T.c tI tO xNT D_check_table
  have c_sgn := ok_sgn G h_zip c_pas D_signed_letters
  have c_plz := ok_plz G g4 c_sgn D_signed_places
  have c_joi := ok_join (P := P) (w := w) (base := base) G h_any g5.BO D_joined
  have c_und := ok_under G g5 c_plz c_let c_joi D_signs_under
  have c_sig := ok_signs G h_sorted T.c PR_classes t_cls c_ckt c_let c_und D_signs
  have c_flt := ok_faults G h_sorted T.c PR_classes t_cls c_ckt c_var c_plz c_wro D_faults
  have c_cel := ok_cell (P := P) (w := w) (base := base) G D_Lcell_at
  have c_pen := ok_pen (P := P) (w := w) (base := base) G D_Link
  have c_dra := ok_draw (P := P) (w := w) (base := base) D_Ldraw
  have c_tbl := ok_LtableZ G T.c T.m t_ini D_Ltable
  have c_wrp := ok_wrap (P := P) (w := w) (base := base) G D_Lwrapped
  have c_tld := ok_told G c_tbl (c_flt.calK (fun _ _ _ _ _ _ ws h => match ws, h with | [_], _ => rfl)) c_sig.cal (c_sig.calK (fun _ _ _ _ _ _ ws h => match ws, h with | [_], _ => rfl)) D_Ltold
  have c_one := ok_one G c_wrp c_tld D_Lone_right
  have c_two := ok_two G c_tld D_Ltwo_right
  have c_prr := ok_parents_right G TB1 sT c_tld D_Lsaid D_Lparents_right
  exact ok_law69 G c_cel c_pen c_dra c_one c_two c_prr F
end N

namespace N
open PySem PySem.Spec PyProof.Rows L2 LamX NdefX
/-! ### the end of a law, where one def makes lambdas -/
/-- what the end wants of the heap where the law is called -/
structure TabHere (K : PySem.W.Frag) (mg : Str → Option Value) (h : Heap) (c Pt : Addr) : Prop where
  tab : h.get? Pt = some { cls := .none, data := .fields #[] }
  off : K.lookup Pt = none
  hd : PySem.W.CodeHd h c Pt
  bm : ∃ (bm : Addr) (ob : Obj), mg "__builtins__" = some (.ref bm) ∧ bm ≠ builtinsNs ∧ h.get? bm = some ob ∧ ob.cls = .type "module" ∧ ob.dict = some builtinsNs ∧ ob.data = .plain
section
variable {P : Program} {w : World} {K : PySem.W.Frag} {mg mb : Str → Option Value} {CX : CXT} {k : Nat} {fa a c Pt : Addr} {fd : FuncData} {x : Str} {sp : Sp} {s₁ : Shared} {vs : List Value} {ns : List Int}
theorem run_lawT (H : Hp) (KX : K.In s₁.heap) (hns : s₁.heap.Ns mainGlobals mg) (hb : s₁.heap.Ns builtinsNs mb) (hbb : ∀ x : Str, x ≠ "__name__" → mb x = bootBuiltins x) (hlim : s₁.heap.NoLimit) (hg : s₁.gens = #[]) (T : TabHere K mg s₁.heap c Pt)
    (ha : s₁.heap.get? a = some { cls := .type "list", data := .seq vs.toArray }) (hr : Room k callerA) (F : ∀ base : Heap, K.In base → base.Ns mainGlobals mg → TabB base mg c Pt → FnG P w K mg base CX k fa fd [x] sp) (hbind : ∀ (s : Shared) (u : Value), BindsTo s fd ⟨[u], []⟩ [(x, u)])
    (hsp : sp [.ref a] H (fun v _ => v = .bl true) fun _ _ _ => False) (hCX : ∀ e s', CX [] H s₁ (fun _ _ _ => False) e s' → False) (hO : ∀ b, b ≠ Pt → H b = none ∨ ∃ o xs, H b = some (.frz o (.lst xs))) (hHP : H Pt = some (.tbl #[])) (hok : HOk P w H s₁.heap)
    (hA : ∀ b, H b ≠ none → b = a ∨ b = Pt) (hK : H a ≠ none → K.lookup a = none) :
    codeAny (model P w) callerA (.call (.ref fa) ⟨[.ref a], []⟩) (fun r s' => r = .ok (.ret (.bool true)) ∧ OldK s₁.heap s'.heap ∧ s'.os = s₁.os ∧ AllBare s'.gens) s₁ := by
  have tabH := T.tab
  -- what is neither the script nor the table is not tracked
  have free : ∀ {b : Addr} {o : Obj}, s₁.heap.get? b = some o → (∀ us n, o.data ≠ .seq us n) → o.data ≠ .fields #[] → H b = none := fun {b o} e n1 n2 => by
    cases q : H b with
    | none => rfl
    | some u =>
      rcases hA b (by rw [q]; exact fun z => by cases z) with z | z
      · rw [z, ha] at e
        cases e
        exact absurd rfl (n1 _ _)
      · rw [z, tabH] at e
        cases e
        exact absurd rfl n2
  have dictF : ∀ {b : Addr} {o : Obj} {es : Array DictEntry} {ep : Nat}, s₁.heap.get? b = some o → o.data = .dict es ep → H b = none := fun {b o es ep} e d => free e (fun us n z => by rw [d] at z; cases z) (fun z => by rw [d] at z; cases z)
  have nsK : ∀ {b : Addr} {m : Str → Option Value}, s₁.heap.Ns b m → (hidT s₁.heap H).Ns b m := fun {b m} z => by
    obtain ⟨o, es, ep, e, d, r⟩ := z
    exact ⟨o, es, ep, hidT_get e (dictF e d), d, r⟩
  have hKb : K.In (hidT s₁.heap H) := fun b o e => hidT_get (KX b o e) (by
    cases q : H b with
    | none => rfl
    | some u =>
      rcases hA b (by rw [q]; exact fun z => by cases z) with z | z
      · subst z
        rw [hK (by rw [q]; exact fun z => by cases z)] at e
        cases e
      · subst z
        rw [T.off] at e
        cases e)
  have hM : Mod K mg (hidT s₁.heap H) := ⟨hKb, nsK hns, ⟨mb, nsK hb, hbb⟩, let ⟨mc, h1, h2⟩ := hlim; ⟨mc, nsK h1, h2⟩⟩
  have gP : mainGlobals ≠ Pt := fun z => by
    obtain ⟨o, es, ep, e, d, _⟩ := hns
    rw [z, tabH] at e
    cases e
    cases d
  have TB : TabB (hidT s₁.heap H) mg c Pt := by
    refine ⟨?_, ?_, gP⟩
    · obtain ⟨o, us, file, tf, flags, tg, inF, text, tt, e1, r1, r2, r3, rest⟩ := T.hd
      refine ⟨o, us, file, tf, flags, tg, inF, text, tt, hidT_get e1 (free e1 (fun us n z => by rw [r2] at z; cases z) (fun z => ?_)), r1, r2, r3, rest⟩
      rw [r2] at z
      cases z
      simp at r3
    · obtain ⟨bm, ob, b1, b2, b3, b4, b5, b6⟩ := T.bm
      refine ⟨bm, ob, b1, b2, fun z => ?_, fun z => ?_, hidT_get b3 (free b3 (fun us n z => by rw [b6] at z; cases z) (fun z => by rw [b6] at z; cases z)), b4, b5, b6⟩
      · obtain ⟨o, es, ep, e, d, _⟩ := hns
        rw [z, e] at b3
        cases b3
        rw [d] at b6
        cases b6
      · rw [z, tabH] at b3
        cases b3
        cases b6
  have e0 : Env0 P w K mg (hidT s₁.heap H) callerA [] s₁ H := ⟨rfl, hM, fun b o e => of_hidT e, Nat.le_of_eq (hidT_size _ _), trivial, fun b hb => absurd (show b ∈ ([] : List Addr) from hb) (by simp), hok, .of_eq hg⟩
  have go := (F _ hKb (nsK hns) TB).run callerA [] s₁ H ⟨[.ref a], []⟩ [.ref a] [.ref a] (fun v _ => v = .bl true) (fun _ _ _ => False) (roomG_caller hr) e0 (hbind s₁ (.ref a)) (.cons rfl .nil) hsp
  refine codeAny_mono go fun r s' h => ?_
  match r, h with
  | .error e, h => exact (hCX e s' h).elim
  | .ok .next, h => exact False.elim h
  | .ok .brk, h => exact False.elim h
  | .ok .cont, h => exact False.elim h
  | .ok (.ret u), h =>
    obtain ⟨v, H', os, bare, un, hok', r', q⟩ := h
    have q' : v = .bl true := q
    subst q'
    obtain rfl : u = Value.bool true := r'
    obtain ⟨more, hm⟩ := un.tbls Pt #[] hHP
    have hm' : s'.heap.get? Pt = some { cls := .none, data := .fields (#[] ++ more) } := hok' Pt _ hm
    have key : ∀ b o, b ≠ Pt → s₁.heap.get? b = some o → s'.heap.get? b = some o := fun b o nb e => by
      cases q : H b with
      | none => exact un.keep b o e q (by intro z; exact absurd (show b ∈ ([] : List Addr) from z) (by simp)) (by simp)
      | some u =>
        rcases hO b nb with z | ⟨ob, xs, z⟩
        · rw [q] at z; cases z
        · have e1 := (hok b _ z).1
          have e2 := (hok' b _ (un.frzs b ob _ z)).1
          rw [e] at e1
          cases e1
          exact e2
    refine ⟨rfl, ⟨fun b o e => ?_, fun b o e => ?_⟩, os, bare⟩
    · by_cases nb : b = Pt
      · subst nb
        rw [tabH] at e
        cases e
        exact .inr (.inl ⟨(T.hd.tab tabH).isCodeTable, rfl, #[], more, rfl, hm'⟩)
      · exact .inl (key b o nb e)
    · by_cases nb : b = Pt
      · subst nb
        exact ⟨_, hm'⟩
      · exact ⟨o, key b o nb e⟩
end
theorem walkGT {l : PySem.W.OpenLaw} {n k : Nat} {q : Program} {loose : List Str} {XP : (Str → Option Value) → Heap → Prop} {YP : World → Heap → Prop} {d : DefRec} {K : Params → PySem.W.Frag} {CX : World → CXT} {sp : World → Sp} {x : Str} {Pt : Addr}
    (hn : l.most = some n) (hn2 : n ≤ sizeLine) (hdf : d.params.defaults = []) (hr : Room k callerA) (hY : ∀ (w : World) (h : Heap), YP w h → (K w.params).In h) (hP : ∀ (w : World) (h : Heap), YP w h → h.get? Pt = some { cls := .none, data := .fields #[] })
    (hoff : ∀ w : World, (K w.params).lookup Pt = none)
    (F : ∀ (w : World) (mg : Str → Option Value) (fa : Addr) (h : Heap), (K w.params).In h → h.Ns mainGlobals mg → mg d.name = some (.ref fa) →
      ∃ (c : Addr) (fd : FuncData), PySem.W.codeHdIn (K w.params) c Pt = true ∧ (∀ (s : Shared) (u : Value), BindsTo s fd ⟨[u], []⟩ [(x, u)]) ∧ ∀ base : Heap, (K w.params).In base → base.Ns mainGlobals mg → TabB base mg c Pt → FnG l.prog w (K w.params) mg base (CX w) k fa fd [x] (sp w))
    (hsp : ∀ (w : World) (H : Hp) (a : Addr) (ns : List Int), ns.length ≤ n → H Pt = some (.tbl #[]) → SqL (K w.params) H a (ns.map V.int) → sp w [.ref a] H (fun v _ => v = .bl true) fun _ _ _ => False)
    (hCX : ∀ (w : World) (H : Hp) (s : Shared) (e : Value) (s' : Shared), CX w [] H s (fun _ _ _ => False) e s' → False) : PySem.W.WalkO q loose XP YP l.row.toRowW d [] (fun f vs => PySem.call f vs) := by
  refine Att.attach_call hn hdf fun w s₀ s₁ mg mb fa o pm cd doc a vs ns G Y ho hd hcd hmg ha hi hlen hg => ?_
  have KX := hY w _ Y
  obtain ⟨c, fd, hcc, hb, hF⟩ := F w mg fa _ KX G.T.g hmg
  have ht := hP w _ Y
  have T : TabHere (K w.params) mg s₁.heap c Pt := ⟨ht, hoff w, PySem.W.codeHd_of_K KX hcc, G.T.bmain⟩
  have rv := vals_ints hi
  have lenV := hi.length
  have hl : ns.length ≤ sizeLine := Nat.le_trans hlen hn2
  have naP : a ≠ Pt := fun z => by
    rw [z, ht] at ha
    cases ha
  have one := fun (H : Hp) (hS : SqL (K w.params) H a (ns.map V.int)) (hHP : H Pt = some (.tbl #[])) => run_lawT H KX G.T.g G.T.b G.T.builtins G.T.nolimit hg T ha hr hF hb (hsp w H a ns hlen hHP hS) (fun e s' => hCX w H s₁ e s')
  cases hk : (K w.params).lookup a with
  | some o' =>
    have e := KX a o' hk
    rw [ha] at e
    cases e
    have at_ : ∀ {b : Addr}, b ≠ Pt → (if b = Pt then some (HO.tbl #[]) else none) = none := fun n => if_neg n
    refine one (fun b => if b = Pt then some (.tbl #[]) else none) (.inr ⟨_, vs.toArray, _, hk, rfl, rfl, rfl, by rw [List.size_toArray, lenV]; exact hl, by simpa using rv⟩) (if_pos rfl) (fun b nb => .inl (at_ nb)) (if_pos rfl) (fun b u z => ?_) (fun b z => ?_) fun z => absurd (at_ naP) z
    · by_cases nb : b = Pt
      · have z' := (if_pos nb).symm.trans z
        cases z'
        rw [nb]
        exact ht
      · have z' := (at_ nb).symm.trans z
        cases z'
    · by_cases nb : b = Pt
      · exact .inr nb
      · exact absurd (at_ nb) z
  | none =>
    have yP : (if Pt = a then some (HO.frz { cls := .type "list", data := .seq vs.toArray } (.lst (ns.map V.int))) else if Pt = Pt then some (.tbl #[]) else none) = some (.tbl #[]) := (if_neg (Ne.symm naP)).trans (if_pos rfl)
    refine one (fun b => if b = a then some (.frz { cls := .type "list", data := .seq vs.toArray } (.lst (ns.map V.int))) else if b = Pt then some (.tbl #[]) else none) (.inl (.inr ⟨{ cls := .type "list", data := .seq vs.toArray }, if_pos rfl⟩)) yP (fun b nb => ?_) yP (fun b u z => ?_) (fun b z => ?_) fun _ => hk
    · by_cases hb : b = a
      · exact .inr ⟨_, _, if_pos hb⟩
      · exact .inl ((if_neg hb).trans (if_neg nb))
    · by_cases hb : b = a
      · have z' := (if_pos hb).symm.trans z
        cases z'
        rw [hb]
        exact ⟨ha, by rw [List.length_map]; exact hl, vs, _, rv, ha⟩
      · have z1 := (if_neg hb).symm.trans z
        by_cases nb : b = Pt
        · have z' := (if_pos nb).symm.trans z1
          cases z'
          rw [nb]
          exact ht
        · have z' := (if_neg nb).symm.trans z1
          cases z'
    · by_cases hb : b = a
      · exact .inl hb
      · by_cases nb : b = Pt
        · exact .inr nb
        · exact absurd ((if_neg hb).trans (if_neg nb)) z
theorem packT {K : PySem.W.Frag} {c Pt : Addr} {A : FuncData → Prop} {B : Addr → FuncData → Prop} (h : ∃ fd, A fd ∧ B c fd) (hc : PySem.W.codeHdIn K c Pt = true) : ∃ c fd, PySem.W.codeHdIn K c Pt = true ∧ A fd ∧ B c fd := by
  obtain ⟨fd, a, b⟩ := h
  exact ⟨c, fd, hc, a, b⟩
end N

open PySem PySem.W PyProof.Rows
set_option maxHeartbeats 0 in
theorem PySem.Challenge.cw_endlesskinds_k69_signs_by_hand_holds : PySem.Challenge.rw_endlesskinds_k69_signs_by_hand.Holds := by
  w_on; o_law
  refine holds_open (q := N.hQ) (loose := N.hLo) (d := N.topD PySem.Challenge.pw_endlesskinds_k69_signs_by_hand 97) (kwd := []) (XP := XL N.hQ []) (YP := Hook.says (kmHook N.kmade.heap_1 N.hAs N.hAs_eq [687])) N.hleft (Hook.of (kmHook N.kmade.heap_1 N.hAs N.hAs_eq [687])) (Hook.keeps (kmHook N.kmade.heap_1 N.hAs N.hAs_eq [687])) (fun s e => xl_of s (Bool.and_eq_true_iff.mp e).1) XL.keeps N.hdef N.hdef2 (by kernel_rfl) (fun s e => recFacts_of (Bool.and_eq_true_iff.mp e).2) (by rfl) ?zws N.hok ⟨rfl, rfl, rfl, rfl, rfl, by decide +kernel⟩ ?hw ?hc
  case zws => first | assumption | decide +kernel
  case hw => w_witness2
  k_fill
  refine N.walkGT (l := PySem.Challenge.rw_endlesskinds_k69_signs_by_hand) (n := 63) (k := 17) (x := "_law_script") (Pt := 687) (CX := fun w => L2.CX PySem.Challenge.rw_endlesskinds_k69_signs_by_hand.prog w) (sp := fun w => N.spLaw69 _ 687) rfl (by decide) rfl ⟨rfl, by decide, by decide⟩ (fun w h Y => PySem.W.km_in_of Y) (fun w h Y => PySem.W.km_tabs_of Y 687 List.mem_cons_self) ?zoff ?F (fun w H a ns hl hP hS => ⟨a, ns, rfl, hS, hl, LamX.TabS.nil hP, fun _ => rfl⟩) (fun w H s e s' h => by obtain ⟨_, _, _, _, _, _, _, _, _, _, _, _, z⟩ := h; exact z)
  case zoff =>
    intro w
    kernel_rfl
  case F =>
    intro w mg fa h KX G hmg
    refine' N.packT (N.all_here (P := PySem.Challenge.rw_endlesskinds_k69_signs_by_hand.prog) KX G hmg ?glo ?glo2 ?glo3 ?hpl ?n_any ?n_zip ?n_sorted ?tab ?mini ?m_cls ?pr_classes ?tI ?tO ?xNT ?sT ?oT ?g4 ?g5 ?d_is_letter ?d_is_name ?d_begins_class_type ?d_is_type ?d_parts ?d_class_types ?d_size_of ?d_is_short_tuple ?d_all_differ ?d_is_parameter ?d_are_parameters ?d_is_declared ?d_are_parents ?d_is_member ?d_are_members ?d_is_class ?d_names_of ?d_check_forms ?d_arities ?d_letters_of ?d_declared ?d_is_of ?d_check_fit ?d_heads_of ?d_variances_of ?d_elders ?d_check_elders ?d_passed_on ?d_is_barred ?d_wrong_letters ?d_signed_letters ?d_check_parents ?d_check_classes ?d_check_table ?d_signed_places ?d_faults ?d_joined ?d_signs_under ?d_signs ?d_Lcell_at ?d_Link ?d_Ldraw ?d_Ltable ?d_Lsaid ?d_Lwrapped ?d_Ltold ?d_Lone_right ?d_Ltwo_right ?d_Lparents_right ?d_law) ?zcd
    case glo =>
      refine' N.glo_mk KX G ?zg0 ?zg1 ?zg2 ?zg3 ?zg4 ?zg5 ?zg6 ?zg7 ?zg8 ?zg9 ?zg10 ?zg11 ?zgl ?zgm
      (case zg0 => k_is); (case zg1 => k_is); (case zg2 => k_is); (case zg3 => k_is); (case zg4 => k_is); (case zg5 => k_is); (case zg6 => k_is); (case zg7 => k_is); (case zg8 => k_is); (case zg9 => k_is); (case zg10 => k_is); (case zg11 => k_is); (case zgl => k_is); (case zgm => k_is)
    case glo2 =>
      refine' N.glo2_mk KX G ?y0 ?y1 ?y2 ?y3 ?y4 ?y5 ?y6 ?y7
      (case y0 => k_is); (case y1 => k_is); (case y2 => k_is); (case y3 => k_is); (case y4 => k_is); (case y5 => k_is); (case y6 => k_is); (case y7 => k_is)
    case glo3 =>
      refine' N.glo3_mk KX G ?x0 ?x1 ?x2 ?x3 ?x4 ?x5 ?x6 ?x7 ?x8 ?x9
      (case x0 => k_is); (case x1 => k_is); (case x2 => kernel_rfl); (case x3 => k_is); (case x4 => k_is); (case x5 => k_is); (case x6 => k_is); (case x7 => kernel_rfl); (case x8 => k_is); (case x9 => k_is)
    case hpl =>
      refine' N.plus_mk KX G ?z_pl
      (case z_pl => k_is)
    case n_any =>
      refine' PySem.W.mg_none_of KX G ?zn_any
      (case zn_any => k_is)
    case n_zip =>
      refine' PySem.W.mg_none_of KX G ?zn_zip
      (case zn_zip => k_is)
    case n_sorted =>
      refine' PySem.W.mg_none_of KX G ?zn_sorted
      (case zn_sorted => k_is)
    case tab =>
      refine' N.tabY_all KX G ?t_gl ?t_pg ?t_hd ?t_po ?t_sa ?t_na ?t_mk ?t_ini ?t_fni ?t_kp ?t_rep ?t_fnr
      (case t_gl => k_is); (case t_pg => k_is); (case t_hd => k_is); (case t_po => k_is); (case t_sa => k_is); (case t_na => k_is); (case t_mk => k_is); (case t_ini => k_is); (case t_fni => k_is); (case t_kp => k_is); (case t_rep => k_is); (case t_fnr => k_is)
    case tI =>
      refine' N.tabI_mk ?tabI_mk0 ?tabI_mk1 ?tabI_mk2 ?tabI_mk3
      (case tabI_mk0 => k_is); (case tabI_mk1 => k_is); (case tabI_mk2 => k_is); (case tabI_mk3 => kernel_rfl)
    case tO =>
      k_is
    case xNT =>
      refine' N.exc_mk KX G ?exc_mk0 ?exc_mk1 ?exc_mk2 ?exc_mk3 ?exc_mk4
      (case exc_mk0 => k_is); (case exc_mk1 => k_is); (case exc_mk2 => k_is); (case exc_mk3 => k_is); (case exc_mk4 => k_exc)
    case sT =>
      refine' N.saidT_mk KX G ?saidT_mk0 ?saidT_mk1 ?saidT_mk2 ?saidT_mk3 ?saidT_mk4 ?saidT_mk5 ?saidT_mk6 ?saidT_mk7
      (case saidT_mk0 => k_is); (case saidT_mk1 => k_is); (case saidT_mk2 => k_is); (case saidT_mk3 => k_is); (case saidT_mk4 => k_is); (case saidT_mk5 => k_is); (case saidT_mk6 => k_is); (case saidT_mk7 => kernel_rfl)
    case oT =>
      refine' N.mkR_Turned KX G ?hfile_oT ?htop_oT ?zs_oT ?a_oT ?ini_oT ?lk_oT ?lc_oT ?hb_oT ?sa_oT ?ex_oT ?ty_oT ?kp_oT ?cod_oT ?lcda_oT ?hvs_oT ?lcc_oT ?cls_oT ?own_oT ?up_oT ?ve_oT ?any_oT ?tyf_oT ?n0_oT ?n1_oT
      (case zs_oT => k_is)
      (case a_oT => k_is)
      (case ini_oT => k_is)
      (case lk_oT => k_is)
      (case lc_oT => k_is)
      (case hb_oT => kernel_rfl)
      (case sa_oT => k_is)
      (case ex_oT => k_is)
      (case ty_oT => k_is)
      (case kp_oT => k_is)
      (case cod_oT => k_is)
      (case lcda_oT => k_is)
      (case hvs_oT => rfl)
      (case hfile_oT => kernel_rfl)
      (case htop_oT => kernel_rfl)
      (case lcc_oT => k_is)
      (case cls_oT => k_is)
      (case own_oT => k_is)
      (case up_oT => kernel_rfl)
      (case ve_oT => k_is)
      (case any_oT => k_is)
      (case tyf_oT => k_is)
      (case n0_oT => k_is)
      (case n1_oT => k_is)
    case g4 =>
      refine' N.glo4_mk KX G ?glo4_mk0 ?glo4_mk1 ?glo4_mk2 ?glo4_mk3 ?glo4_mk4 ?glo4_mk5
      (case glo4_mk0 => k_is); (case glo4_mk1 => k_is); (case glo4_mk2 => kernel_rfl); (case glo4_mk3 => k_is); (case glo4_mk4 => k_is); (case glo4_mk5 => k_is)
    case g5 =>
      refine' N.glo5_mk KX G ?glo5_mk0 ?glo5_mk1 ?glo5_mk2 ?glo5_mk3 ?glo5_mk4 ?glo5_mk5 ?glo5_mk6
      (case glo5_mk0 => k_is); (case glo5_mk1 => k_is); (case glo5_mk2 => kernel_rfl); (case glo5_mk3 => k_is); (case glo5_mk4 => k_is); (case glo5_mk5 => k_is); (case glo5_mk6 => k_is)
    case mini =>
      refine' N.ini_mk ?i_l ?i_c ?i_k ?i_0 ?i_1
      (case i_l => k_is); (case i_c => k_is); (case i_k => k_is); (case i_0 => exact fun _ _ _ _ _ _ _ => rfl); (case i_1 => exact fun _ _ _ _ _ _ _ _ _ => rfl)
    case pr_classes =>
      refine' N.prop_mk ?pclasses_1 ?pclasses_2 ?pclasses_3 ?pclasses_4
      (case pclasses_1 => k_is); (case pclasses_2 => k_is); (case pclasses_3 => k_is); (case pclasses_4 => k_is)
    case m_cls =>
      refine' N.met_mk ?qcls_l ?qcls_c ?qcls_k ?qcls_b
      (case qcls_l => k_is); (case qcls_c => k_is); (case qcls_k => k_is); (case qcls_b => exact fun _ _ _ _ _ _ us hl => match us, hl with | [_], _ => rfl)
    case d_is_letter =>
      refine' N.mk_def KX G ?za_d_is_letter ?zl_d_is_letter ?zc_d_is_letter ?zk_d_is_letter ?zb_d_is_letter
      (case za_d_is_letter => k_is); (case zl_d_is_letter => k_is); (case zc_d_is_letter => k_is); (case zk_d_is_letter => k_is); (case zb_d_is_letter => exact fun _ _ _ _ _ _ us hl => match us, hl with | [_], _ => rfl)
    case d_is_name =>
      refine' N.mk_def KX G ?za_d_is_name ?zl_d_is_name ?zc_d_is_name ?zk_d_is_name ?zb_d_is_name
      (case za_d_is_name => k_is); (case zl_d_is_name => k_is); (case zc_d_is_name => k_is); (case zk_d_is_name => k_is); (case zb_d_is_name => exact fun _ _ _ _ _ _ us hl => match us, hl with | [_], _ => rfl)
    case d_begins_class_type =>
      refine' N.mk_def KX G ?za_d_begins_class_type ?zl_d_begins_class_type ?zc_d_begins_class_type ?zk_d_begins_class_type ?zb_d_begins_class_type
      (case za_d_begins_class_type => k_is); (case zl_d_begins_class_type => k_is); (case zc_d_begins_class_type => k_is); (case zk_d_begins_class_type => k_is); (case zb_d_begins_class_type => exact fun _ _ _ _ _ _ us hl => match us, hl with | [_], _ => rfl)
    case d_is_type =>
      refine' N.mk_def KX G ?za_d_is_type ?zl_d_is_type ?zc_d_is_type ?zk_d_is_type ?zb_d_is_type
      (case za_d_is_type => k_is); (case zl_d_is_type => k_is); (case zc_d_is_type => k_is); (case zk_d_is_type => k_is); (case zb_d_is_type => exact fun _ _ _ _ _ _ us hl => match us, hl with | [_], _ => rfl)
    case d_parts =>
      refine' N.mk_def KX G ?za_d_parts ?zl_d_parts ?zc_d_parts ?zk_d_parts ?zb_d_parts
      (case za_d_parts => k_is); (case zl_d_parts => k_is); (case zc_d_parts => k_is); (case zk_d_parts => k_is); (case zb_d_parts => exact fun _ _ _ _ _ _ us hl => match us, hl with | [_], _ => rfl)
    case d_class_types =>
      refine' N.mk_def KX G ?za_d_class_types ?zl_d_class_types ?zc_d_class_types ?zk_d_class_types ?zb_d_class_types
      (case za_d_class_types => k_is); (case zl_d_class_types => k_is); (case zc_d_class_types => k_is); (case zk_d_class_types => k_is); (case zb_d_class_types => exact fun _ _ _ _ _ _ us hl => match us, hl with | [_], _ => rfl)
    case d_size_of =>
      refine' N.mk_def KX G ?za_d_size_of ?zl_d_size_of ?zc_d_size_of ?zk_d_size_of ?zb_d_size_of
      (case za_d_size_of => k_is); (case zl_d_size_of => k_is); (case zc_d_size_of => k_is); (case zk_d_size_of => k_is); (case zb_d_size_of => exact fun _ _ _ _ _ _ us hl => match us, hl with | [_], _ => rfl)
    case d_is_short_tuple =>
      refine' N.mk_def KX G ?za_d_is_short_tuple ?zl_d_is_short_tuple ?zc_d_is_short_tuple ?zk_d_is_short_tuple ?zb_d_is_short_tuple
      (case za_d_is_short_tuple => k_is); (case zl_d_is_short_tuple => k_is); (case zc_d_is_short_tuple => k_is); (case zk_d_is_short_tuple => k_is); (case zb_d_is_short_tuple => exact fun _ _ _ _ _ _ us hl => match us, hl with | [_], _ => rfl)
    case d_all_differ =>
      refine' N.mk_def KX G ?za_d_all_differ ?zl_d_all_differ ?zc_d_all_differ ?zk_d_all_differ ?zb_d_all_differ
      (case za_d_all_differ => k_is); (case zl_d_all_differ => k_is); (case zc_d_all_differ => k_is); (case zk_d_all_differ => k_is); (case zb_d_all_differ => exact fun _ _ _ _ _ _ us hl => match us, hl with | [_], _ => rfl)
    case d_is_parameter =>
      refine' N.mk_def KX G ?za_d_is_parameter ?zl_d_is_parameter ?zc_d_is_parameter ?zk_d_is_parameter ?zb_d_is_parameter
      (case za_d_is_parameter => k_is); (case zl_d_is_parameter => k_is); (case zc_d_is_parameter => k_is); (case zk_d_is_parameter => k_is); (case zb_d_is_parameter => exact fun _ _ _ _ _ _ us hl => match us, hl with | [_], _ => rfl)
    case d_are_parameters =>
      refine' N.mk_def KX G ?za_d_are_parameters ?zl_d_are_parameters ?zc_d_are_parameters ?zk_d_are_parameters ?zb_d_are_parameters
      (case za_d_are_parameters => k_is); (case zl_d_are_parameters => k_is); (case zc_d_are_parameters => k_is); (case zk_d_are_parameters => k_is); (case zb_d_are_parameters => exact fun _ _ _ _ _ _ us hl => match us, hl with | [_], _ => rfl)
    case d_is_declared =>
      refine' N.mk_def KX G ?za_d_is_declared ?zl_d_is_declared ?zc_d_is_declared ?zk_d_is_declared ?zb_d_is_declared
      (case za_d_is_declared => k_is); (case zl_d_is_declared => k_is); (case zc_d_is_declared => k_is); (case zk_d_is_declared => k_is); (case zb_d_is_declared => exact fun _ _ _ _ _ _ us hl => match us, hl with | [_], _ => rfl)
    case d_are_parents =>
      refine' N.mk_def KX G ?za_d_are_parents ?zl_d_are_parents ?zc_d_are_parents ?zk_d_are_parents ?zb_d_are_parents
      (case za_d_are_parents => k_is); (case zl_d_are_parents => k_is); (case zc_d_are_parents => k_is); (case zk_d_are_parents => k_is); (case zb_d_are_parents => exact fun _ _ _ _ _ _ us hl => match us, hl with | [_], _ => rfl)
    case d_is_member =>
      refine' N.mk_def KX G ?za_d_is_member ?zl_d_is_member ?zc_d_is_member ?zk_d_is_member ?zb_d_is_member
      (case za_d_is_member => k_is); (case zl_d_is_member => k_is); (case zc_d_is_member => k_is); (case zk_d_is_member => k_is); (case zb_d_is_member => exact fun _ _ _ _ _ _ us hl => match us, hl with | [_], _ => rfl)
    case d_are_members =>
      refine' N.mk_def KX G ?za_d_are_members ?zl_d_are_members ?zc_d_are_members ?zk_d_are_members ?zb_d_are_members
      (case za_d_are_members => k_is); (case zl_d_are_members => k_is); (case zc_d_are_members => k_is); (case zk_d_are_members => k_is); (case zb_d_are_members => exact fun _ _ _ _ _ _ us hl => match us, hl with | [_], _ => rfl)
    case d_is_class =>
      refine' N.mk_def KX G ?za_d_is_class ?zl_d_is_class ?zc_d_is_class ?zk_d_is_class ?zb_d_is_class
      (case za_d_is_class => k_is); (case zl_d_is_class => k_is); (case zc_d_is_class => k_is); (case zk_d_is_class => k_is); (case zb_d_is_class => exact fun _ _ _ _ _ _ us hl => match us, hl with | [_], _ => rfl)
    case d_names_of =>
      refine' N.mk_def KX G ?za_d_names_of ?zl_d_names_of ?zc_d_names_of ?zk_d_names_of ?zb_d_names_of
      (case za_d_names_of => k_is); (case zl_d_names_of => k_is); (case zc_d_names_of => k_is); (case zk_d_names_of => k_is); (case zb_d_names_of => exact fun _ _ _ _ _ _ us hl => match us, hl with | [_], _ => rfl)
    case d_check_forms =>
      refine' N.mk_def KX G ?za_d_check_forms ?zl_d_check_forms ?zc_d_check_forms ?zk_d_check_forms ?zb_d_check_forms
      (case za_d_check_forms => k_is); (case zl_d_check_forms => k_is); (case zc_d_check_forms => k_is); (case zk_d_check_forms => k_is); (case zb_d_check_forms => exact fun _ _ _ _ _ _ us hl => match us, hl with | [_], _ => rfl)
    case d_arities =>
      refine' N.mk_def KX G ?za_d_arities ?zl_d_arities ?zc_d_arities ?zk_d_arities ?zb_d_arities
      (case za_d_arities => k_is); (case zl_d_arities => k_is); (case zc_d_arities => k_is); (case zk_d_arities => k_is); (case zb_d_arities => exact fun _ _ _ _ _ _ us hl => match us, hl with | [_], _ => rfl)
    case d_letters_of =>
      refine' N.mk_def KX G ?za_d_letters_of ?zl_d_letters_of ?zc_d_letters_of ?zk_d_letters_of ?zb_d_letters_of
      (case za_d_letters_of => k_is); (case zl_d_letters_of => k_is); (case zc_d_letters_of => k_is); (case zk_d_letters_of => k_is); (case zb_d_letters_of => exact fun _ _ _ _ _ _ us hl => match us, hl with | [_], _ => rfl)
    case d_declared =>
      refine' N.mk_def KX G ?za_d_declared ?zl_d_declared ?zc_d_declared ?zk_d_declared ?zb_d_declared
      (case za_d_declared => k_is); (case zl_d_declared => k_is); (case zc_d_declared => k_is); (case zk_d_declared => k_is); (case zb_d_declared => exact fun _ _ _ _ _ _ us hl => match us, hl with | [_], _ => rfl)
    case d_is_of =>
      refine' N.mk_def KX G ?za_d_is_of ?zl_d_is_of ?zc_d_is_of ?zk_d_is_of ?zb_d_is_of
      (case za_d_is_of => k_is); (case zl_d_is_of => k_is); (case zc_d_is_of => k_is); (case zk_d_is_of => k_is); (case zb_d_is_of => exact fun _ _ _ _ _ _ us hl => match us, hl with | [_, _, _], _ => rfl)
    case d_check_fit =>
      refine' N.mk_def KX G ?za_d_check_fit ?zl_d_check_fit ?zc_d_check_fit ?zk_d_check_fit ?zb_d_check_fit
      (case za_d_check_fit => k_is); (case zl_d_check_fit => k_is); (case zc_d_check_fit => k_is); (case zk_d_check_fit => k_is); (case zb_d_check_fit => exact fun _ _ _ _ _ _ us hl => match us, hl with | [_], _ => rfl)
    case d_heads_of =>
      refine' N.mk_def KX G ?za_d_heads_of ?zl_d_heads_of ?zc_d_heads_of ?zk_d_heads_of ?zb_d_heads_of
      (case za_d_heads_of => k_is); (case zl_d_heads_of => k_is); (case zc_d_heads_of => k_is); (case zk_d_heads_of => k_is); (case zb_d_heads_of => exact fun _ _ _ _ _ _ us hl => match us, hl with | [_], _ => rfl)
    case d_variances_of =>
      refine' N.mk_def KX G ?za_d_variances_of ?zl_d_variances_of ?zc_d_variances_of ?zk_d_variances_of ?zb_d_variances_of
      (case za_d_variances_of => k_is); (case zl_d_variances_of => k_is); (case zc_d_variances_of => k_is); (case zk_d_variances_of => k_is); (case zb_d_variances_of => exact fun _ _ _ _ _ _ us hl => match us, hl with | [_], _ => rfl)
    case d_elders =>
      refine' N.mk_def KX G ?za_d_elders ?zl_d_elders ?zc_d_elders ?zk_d_elders ?zb_d_elders
      (case za_d_elders => k_is); (case zl_d_elders => k_is); (case zc_d_elders => k_is); (case zk_d_elders => k_is); (case zb_d_elders => exact fun _ _ _ _ _ _ us hl => match us, hl with | [_, _], _ => rfl)
    case d_check_elders =>
      refine' N.mk_def KX G ?za_d_check_elders ?zl_d_check_elders ?zc_d_check_elders ?zk_d_check_elders ?zb_d_check_elders
      (case za_d_check_elders => k_is); (case zl_d_check_elders => k_is); (case zc_d_check_elders => k_is); (case zk_d_check_elders => k_is); (case zb_d_check_elders => exact fun _ _ _ _ _ _ us hl => match us, hl with | [_], _ => rfl)
    case d_passed_on =>
      refine' N.mk_def KX G ?za_d_passed_on ?zl_d_passed_on ?zc_d_passed_on ?zk_d_passed_on ?zb_d_passed_on
      (case za_d_passed_on => k_is); (case zl_d_passed_on => k_is); (case zc_d_passed_on => k_is); (case zk_d_passed_on => k_is); (case zb_d_passed_on => exact fun _ _ _ _ _ _ us hl => match us, hl with | [_, _], _ => rfl)
    case d_is_barred =>
      refine' N.mk_def KX G ?za_d_is_barred ?zl_d_is_barred ?zc_d_is_barred ?zk_d_is_barred ?zb_d_is_barred
      (case za_d_is_barred => k_is); (case zl_d_is_barred => k_is); (case zc_d_is_barred => k_is); (case zk_d_is_barred => k_is); (case zb_d_is_barred => exact fun _ _ _ _ _ _ us hl => match us, hl with | [_, _], _ => rfl)
    case d_wrong_letters =>
      refine' N.mk_def KX G ?za_d_wrong_letters ?zl_d_wrong_letters ?zc_d_wrong_letters ?zk_d_wrong_letters ?zb_d_wrong_letters
      (case za_d_wrong_letters => k_is); (case zl_d_wrong_letters => k_is); (case zc_d_wrong_letters => k_is); (case zk_d_wrong_letters => k_is); (case zb_d_wrong_letters => exact fun _ _ _ _ _ _ us hl => match us, hl with | [_, _], _ => rfl)
    case d_signed_letters =>
      refine' N.mk_def KX G ?za_d_signed_letters ?zl_d_signed_letters ?zc_d_signed_letters ?zk_d_signed_letters ?zb_d_signed_letters
      (case za_d_signed_letters => k_is); (case zl_d_signed_letters => k_is); (case zc_d_signed_letters => k_is); (case zk_d_signed_letters => k_is); (case zb_d_signed_letters => exact fun _ _ _ _ _ _ us hl => match us, hl with | [_, _, _], _ => rfl)
    case d_check_parents =>
      refine' N.mk_def KX G ?za_d_check_parents ?zl_d_check_parents ?zc_d_check_parents ?zk_d_check_parents ?zb_d_check_parents
      (case za_d_check_parents => k_is); (case zl_d_check_parents => k_is); (case zc_d_check_parents => k_is); (case zk_d_check_parents => k_is); (case zb_d_check_parents => exact fun _ _ _ _ _ _ us hl => match us, hl with | [_], _ => rfl)
    case d_check_classes =>
      refine' N.mk_def KX G ?za_d_check_classes ?zl_d_check_classes ?zc_d_check_classes ?zk_d_check_classes ?zb_d_check_classes
      (case za_d_check_classes => k_is); (case zl_d_check_classes => k_is); (case zc_d_check_classes => k_is); (case zk_d_check_classes => k_is); (case zb_d_check_classes => exact fun _ _ _ _ _ _ us hl => match us, hl with | [_], _ => rfl)
    case d_check_table =>
      refine' N.mk_def KX G ?za_d_check_table ?zl_d_check_table ?zc_d_check_table ?zk_d_check_table ?zb_d_check_table
      (case za_d_check_table => k_is); (case zl_d_check_table => k_is); (case zc_d_check_table => k_is); (case zk_d_check_table => k_is); (case zb_d_check_table => exact fun _ _ _ _ _ _ us hl => match us, hl with | [_], _ => rfl)
    case d_signed_places =>
      refine' N.mk_def KX G ?za_d_signed_places ?zl_d_signed_places ?zc_d_signed_places ?zk_d_signed_places ?zb_d_signed_places
      (case za_d_signed_places => k_is); (case zl_d_signed_places => k_is); (case zc_d_signed_places => k_is); (case zk_d_signed_places => k_is); (case zb_d_signed_places => exact fun _ _ _ _ _ _ us hl => match us, hl with | [_, _], _ => rfl)
    case d_faults =>
      refine' N.mk_def KX G ?za_d_faults ?zl_d_faults ?zc_d_faults ?zk_d_faults ?zb_d_faults
      (case za_d_faults => k_is); (case zl_d_faults => k_is); (case zc_d_faults => k_is); (case zk_d_faults => k_is); (case zb_d_faults => exact fun _ _ _ _ _ _ us hl => match us, hl with | [_], _ => rfl)
    case d_joined =>
      refine' N.mk_def KX G ?za_d_joined ?zl_d_joined ?zc_d_joined ?zk_d_joined ?zb_d_joined
      (case za_d_joined => k_is); (case zl_d_joined => k_is); (case zc_d_joined => k_is); (case zk_d_joined => k_is); (case zb_d_joined => exact fun _ _ _ _ _ _ us hl => match us, hl with | [_], _ => rfl)
    case d_signs_under =>
      refine' N.mk_def KX G ?za_d_signs_under ?zl_d_signs_under ?zc_d_signs_under ?zk_d_signs_under ?zb_d_signs_under
      (case za_d_signs_under => k_is); (case zl_d_signs_under => k_is); (case zc_d_signs_under => k_is); (case zk_d_signs_under => k_is); (case zb_d_signs_under => exact fun _ _ _ _ _ _ us hl => match us, hl with | [_, _], _ => rfl)
    case d_signs =>
      refine' N.mk_def KX G ?za_d_signs ?zl_d_signs ?zc_d_signs ?zk_d_signs ?zb_d_signs
      (case za_d_signs => k_is); (case zl_d_signs => k_is); (case zc_d_signs => k_is); (case zk_d_signs => k_is); (case zb_d_signs => exact fun _ _ _ _ _ _ us hl => match us, hl with | [_], _ => rfl)
    case d_Lcell_at =>
      refine' N.mk_def KX G ?za_d_Lcell_at ?zl_d_Lcell_at ?zc_d_Lcell_at ?zk_d_Lcell_at ?zb_d_Lcell_at
      (case za_d_Lcell_at => k_is); (case zl_d_Lcell_at => k_is); (case zc_d_Lcell_at => k_is); (case zk_d_Lcell_at => k_is); (case zb_d_Lcell_at => exact fun _ _ _ _ _ _ us hl => match us, hl with | [_, _], _ => rfl)
    case d_Link =>
      refine' N.mk_def KX G ?za_d_Link ?zl_d_Link ?zc_d_Link ?zk_d_Link ?zb_d_Link
      (case za_d_Link => k_is); (case zl_d_Link => k_is); (case zc_d_Link => k_is); (case zk_d_Link => k_is); (case zb_d_Link => exact fun _ _ _ _ _ _ us hl => match us, hl with | [_], _ => rfl)
    case d_Ldraw =>
      refine' N.mk_def KX G ?za_d_Ldraw ?zl_d_Ldraw ?zc_d_Ldraw ?zk_d_Ldraw ?zb_d_Ldraw
      (case za_d_Ldraw => k_is); (case zl_d_Ldraw => k_is); (case zc_d_Ldraw => k_is); (case zk_d_Ldraw => k_is); (case zb_d_Ldraw => exact fun _ _ _ _ _ _ us hl => match us, hl with | [_, _], _ => rfl)
    case d_Ltable =>
      refine' N.mk_def KX G ?za_d_Ltable ?zl_d_Ltable ?zc_d_Ltable ?zk_d_Ltable ?zb_d_Ltable
      (case za_d_Ltable => k_is); (case zl_d_Ltable => k_is); (case zc_d_Ltable => k_is); (case zk_d_Ltable => k_is); (case zb_d_Ltable => exact fun _ _ _ _ _ _ us hl => match us, hl with | [_], _ => rfl)
    case d_Lsaid =>
      refine' N.mk_def KX G ?za_d_Lsaid ?zl_d_Lsaid ?zc_d_Lsaid ?zk_d_Lsaid ?zb_d_Lsaid
      (case za_d_Lsaid => k_is); (case zl_d_Lsaid => k_is); (case zc_d_Lsaid => k_is); (case zk_d_Lsaid => k_is); (case zb_d_Lsaid => exact fun _ _ _ _ _ _ us hl => match us, hl with | [_], _ => rfl)
    case d_Lwrapped =>
      refine' N.mk_def KX G ?za_d_Lwrapped ?zl_d_Lwrapped ?zc_d_Lwrapped ?zk_d_Lwrapped ?zb_d_Lwrapped
      (case za_d_Lwrapped => k_is); (case zl_d_Lwrapped => k_is); (case zc_d_Lwrapped => k_is); (case zk_d_Lwrapped => k_is); (case zb_d_Lwrapped => exact fun _ _ _ _ _ _ us hl => match us, hl with | [_, _, _], _ => rfl)
    case d_Ltold =>
      refine' N.mk_def KX G ?za_d_Ltold ?zl_d_Ltold ?zc_d_Ltold ?zk_d_Ltold ?zb_d_Ltold
      (case za_d_Ltold => k_is); (case zl_d_Ltold => k_is); (case zc_d_Ltold => k_is); (case zk_d_Ltold => k_is); (case zb_d_Ltold => exact fun _ _ _ _ _ _ us hl => match us, hl with | [_], _ => rfl)
    case d_Lone_right =>
      refine' N.mk_def KX G ?za_d_Lone_right ?zl_d_Lone_right ?zc_d_Lone_right ?zk_d_Lone_right ?zb_d_Lone_right
      (case za_d_Lone_right => k_is); (case zl_d_Lone_right => k_is); (case zc_d_Lone_right => k_is); (case zk_d_Lone_right => k_is); (case zb_d_Lone_right => exact fun _ _ _ _ _ _ us hl => match us, hl with | [_], _ => rfl)
    case d_Ltwo_right =>
      refine' N.mk_def KX G ?za_d_Ltwo_right ?zl_d_Ltwo_right ?zc_d_Ltwo_right ?zk_d_Ltwo_right ?zb_d_Ltwo_right
      (case za_d_Ltwo_right => k_is); (case zl_d_Ltwo_right => k_is); (case zc_d_Ltwo_right => k_is); (case zk_d_Ltwo_right => k_is); (case zb_d_Ltwo_right => exact fun _ _ _ _ _ _ us hl => match us, hl with | [], _ => rfl)
    case d_Lparents_right =>
      refine' N.mk_defC KX G ?za_d_Lparents_right ?zl_d_Lparents_right ?zc_d_Lparents_right ?zk_d_Lparents_right ?zb_d_Lparents_right
      (case za_d_Lparents_right => k_is); (case zl_d_Lparents_right => k_is); (case zc_d_Lparents_right => k_is); (case zk_d_Lparents_right => k_is); (case zb_d_Lparents_right => exact fun _ _ _ _ _ _ us hl => match us, hl with | [], _ => rfl)
    case d_law =>
      refine' N.mk_def KX G ?za_d_law ?zl_d_law ?zc_d_law ?zk_d_law ?zb_d_law
      (case za_d_law => k_is); (case zl_d_law => k_is); (case zc_d_law => k_is); (case zk_d_law => k_is); (case zb_d_law => exact fun _ _ _ _ _ _ us hl => match us, hl with | [_], _ => rfl)
    case zcd => kernel_rfl

