import PyProof.Rows.All
import Wide.All
import OpenK.AllK
import Wide.FinOn
import HandS.ForMost
import HandS.ForExc
import HandS.Star
import HandS.IsInst
import HandS.TupAny
import HandS.StrMore
import HandS.Style
import HandS.Flow
import HandS.Walk
import HandS.ExcInit
import HandS.ExcValue
import HandS.ExcIs
import HandS.ExcField
import KE.KExcIs
import HandS.Nested
import HandS.ExcSuper
import KE.KExcSuper
import HandS.FStr
import HandS.Defaults
import HandS.MakeKw
import HandS.SetFor
import HandS.HotCalls
import HandS.RaiseMore
import KE.KDictDisplayH
import KE.KDictCopyH
import KE.KDictWalk
import HandS.EndTab
import KE.KNestM
import PySem.Challenge.RW_endlesskinds_k04_kinds_refused
set_option Elab.async false
set_option linter.all false
set_option maxRecDepth 100000
set_option maxHeartbeats 8000000
namespace N
open PySem PySem.Spec PyProof.Rows L2
/-! ### rules that were lacking -/
theorem extend_tup_any (l : Addr) (items : Array Value) (n : Nat) (b : Addr) (items2 : Array Value) (n2 : Nat) (dd : Option Addr) (sl : Array (Option Value)) (hs0 : ¬(!items.isEmpty && Builtin.List.listTooLong (items.size + items2.size)) = true) (hs1 : items.size ≤ sizeLine) (hs2 : items.size + items2.size ≤ sizeLine + 1) :
    Meets (Builtin.«list.extend» ⟨[.ref l, .ref b], []⟩) (fun _ R s => s.heap.get? l = some { cls := .type "list", dict := none, data := .seq items n, slots := #[] } ∧ s.heap.get? b = some { cls := .type "tuple", dict := dd, data := .seq items2 n2, slots := sl } ∧ R (.ok (.ret Value.none)) { s with heap := s.heap.update l (Obj.mapSeq fun x => x ++ items2), toks := s.toks }) :=
  .of_wp fun prog w A R s h => by
    obtain ⟨hp, g, d, tk, os⟩ := s; obtain ⟨hl, hb, h⟩ := h
    have f1 := AutoSeq1.idx_int; have f2 := AutoSeq1.sub_tuple_tuple; have f3 := AutoSeq1.sub_list_list; have f4 := AutoSeq1.sub_tuple_list; have f5 := AutoSeq1.sub_list_tuple
    have hz' : (items ++ items2).size ≤ sizeLine + 1 := by rw [Array.size_append]; exact hs2
    wp_walk using (wpAny_updateSeq hl rfl (hz := hs1) (_hz' := hz')), AutoSeq1.wpAny_loadPart' hl, AutoSeq1.wpAny_loadPart' hb; exact ⟨_, rfl, h⟩
/-- l.extend(t), t a tuple -/
def rExtendT (K : PySem.W.Frag) : V → List V → Hp → VK → Prop := fun x vs H Q => ∃ l b xs zs, x = .ref l ∧ vs = [.ref b] ∧ H l = some (.lst xs) ∧ SqT K H b zs ∧ xs.length + zs.length ≤ sizeLine ∧ Q .non (upd H l (.lst (xs ++ zs)))
section
variable {X : Cx}
theorem mt_extendT : MtM X "list.extend" (rExtendT X.K) := by
  intro pins s σ H x vs v us Q I rx rv h
  obtain ⟨l, b, xs, zs, rfl, rfl, hH, hB, hz, q⟩ := h
  cases rx
  obtain ⟨u, rfl, ru⟩ := rv.one
  cases ru
  obtain ⟨z, its, n, r, hl, e⟩ := I.lstM hH
  obtain ⟨its2, r2, ⟨⟨cls, dd, data, sls⟩, e2, hc, n2, hd⟩, hl2⟩ := I.tuple hB
  simp only at hc hd
  subst hc hd
  have hx1 := r.length
  have hx2 := r2.length
  have hsz : its.toArray.size + its2.toArray.size ≤ sizeLine := by rw [List.size_toArray, List.size_toArray]; omega
  have hlong : ¬ (!its.toArray.isEmpty && Builtin.List.listTooLong (its.toArray.size + its2.toArray.size)) = true := by
    rw [notLongL hsz, Bool.and_false]
    exact Bool.false_ne_true
  refine call_meets F.slot_list_extend ⟨_, e, rfl⟩ F.entry_list_extend (F.args_list_extend_2 _ _)
    (extend_tup_any l its.toArray n b its2.toArray n2 dd sls hlong (by rw [List.size_toArray]; omega) (by omega)) ⟨e, e2, ?_⟩
  refine ⟨.non, _, I.lset (its' := its ++ its2) hH e (by simp) (r.append r2) ?_, rfl, q⟩
  rw [List.length_append]
  omega
end
end N

namespace N
open PySem PySem.Spec PyProof.Rows L2 HT
section
variable {prog : Program} {w : World} {A : Around} {E : Value → Shared → Prop} {s : Shared}
theorem adjust_back (n : Nat) (h : 1 ≤ n) : Builtin.Slice.sliceAdjust none (some 0) (-1) (n : Int) = ((n : Int) - 1, 0) := by
  unfold Builtin.Slice.sliceAdjust
  have h1 : ((-1 : Int) < 0) := by omega
  simp only [h1, if_true]
  refine Prod.ext ?_ ?_
  · first | rfl | (simp; done) | omega
  · show _ = _
    simp
    omega
theorem places_back (n : Nat) (h : 1 ≤ n) : Builtin.Slice.slicePlaces ((n : Int) - 1) 0 (-1) = n - 1 := by
  unfold Builtin.Slice.slicePlaces
  have h1 : ¬ ((-1 : Int) > 0) := by omega
  simp only [h1, if_false]
  have e : (- -1 : Int) = 1 := by decide
  rw [e, Int.ediv_one]
  split <;> omega
theorem applied_back {sl : Addr} {vl vu vs : Value} {n : Nat} {Q : Int × Int × Nat → Shared → Prop} (h1 : 1 ≤ n) (hs : s.heap.IsSliceOf sl vl vu vs) (pl : IsPart vl none) (pu : IsPart vu (some 0)) (ps : IsPart vs (some (-1)))
    (h : Q ((n : Int) - 1, -1, n - 1) s) : wpAny (model prog w) A (Builtin.Slice.sliceApplied (.ref sl) (pure (n : Int))) Q E s := by
  obtain ⟨os, hos, hcs, hds⟩ := id hs
  unfold Builtin.Slice.sliceApplied Builtin.Slice.sliceFields
  refine wpAny_bind (wpAny_bind (wpAny_field hos hds (x := vl) rfl (wpAny_bind (wpAny_field hos hds (x := vu) rfl (wpAny_bind (wpAny_field hos hds (x := vs) rfl (wpAny_pure ?_)))))))
  refine wpAny_bind (slicePart_ ps ?_)
  show wpAny _ _ (if ((-1 : Int) == 0) = true then _ else _) _ _ s
  rw [if_neg (by decide)]
  refine wpAny_bind (slicePart_ pl (wpAny_bind (slicePart_ pu (wpAny_bind (wpAny_pure ?_)))))
  show wpAny _ _ (match Builtin.Slice.sliceAdjust none (some 0) (-1) (n : Int) with | (lo, hi) => pure (lo, (-1 : Int), Builtin.Slice.slicePlaces lo hi (-1))) _ _ s
  rw [adjust_back n h1]
  show wpAny _ _ (pure ((n : Int) - 1, (-1 : Int), Builtin.Slice.slicePlaces ((n : Int) - 1) 0 (-1))) _ _ s
  rw [places_back n h1]
  exact wpAny_pure h
theorem pick_back (xs : Array Value) (h : 1 ≤ xs.size) : ((List.range (xs.size - 1)).filterMap fun (m : Nat) => xs[(((xs.size : Int) - 1) + (m : Int) * (-1)).toNat]?).toArray = (xs.toList.drop 1).reverse.toArray := by
  refine congrArg List.toArray ?_
  have e : ∀ m ∈ List.range (xs.size - 1), xs[(((xs.size : Int) - 1) + (m : Int) * (-1)).toNat]? = some (xs.toList.reverse.getD m .none) := by
    intro m hm
    have hm' := List.mem_range.mp hm
    have e1 : (((xs.size : Int) - 1) + (m : Int) * (-1)).toNat = xs.size - 1 - m := by omega
    rw [e1, ← Array.getElem?_toList, List.getD_eq_getElem?_getD, List.getElem?_reverse (by rw [Array.length_toList]; omega), Array.length_toList,
      List.getElem?_eq_getElem (show xs.size - 1 - m < xs.toList.length by rw [Array.length_toList]; omega)]
    rfl
  have e2 : (List.range (xs.size - 1)).filterMap (fun (m : Nat) => xs[(((xs.size : Int) - 1) + (m : Int) * (-1)).toNat]?) = (List.range (xs.size - 1)).filterMap (fun m => some (xs.toList.reverse.getD m .none)) := by
    generalize List.range (xs.size - 1) = l at e
    induction l with
    | nil => rfl
    | cons a r ih =>
      rw [List.filterMap_cons, List.filterMap_cons, e a List.mem_cons_self, ih fun m hm => e m (List.mem_cons_of_mem _ hm)]
  rw [e2, List.filterMap_eq_map' ] <;> try rfl
  apply List.ext_getElem?
  intro i
  rw [List.getElem?_map]
  by_cases hi : i < xs.size - 1
  · rw [List.getElem?_range hi, List.getElem?_reverse (by rw [List.length_drop, Array.length_toList]; omega), List.length_drop, Array.length_toList, List.getElem?_drop,
      Option.map_some, List.getD_eq_getElem?_getD, List.getElem?_reverse (by rw [Array.length_toList]; omega), Array.length_toList,
      show 1 + (xs.size - 1 - 1 - i) = xs.size - 1 - i by omega, List.getElem?_eq_getElem (show xs.size - 1 - i < xs.toList.length by rw [Array.length_toList]; omega)]
    rfl
  · rw [List.getElem?_eq_none (by rw [List.length_range]; omega), List.getElem?_eq_none (by rw [List.length_reverse, List.length_drop, Array.length_toList]; omega)]
    rfl
theorem getItem_tuple_back {t sl : Addr} {items : Array Value} {vl vu vs : Value} {Q : Value → Shared → Prop} (ht : IsTup s.heap t items) (h1 : 1 ≤ items.size) (hs : s.heap.IsSliceOf sl vl vu vs) (pl : IsPart vl none) (pu : IsPart vu (some 0)) (ps : IsPart vs (some (-1)))
    (h : Q (.ref s.heap.objs.size) { s with heap := s.heap.push { cls := .type "tuple", data := .seq (items.toList.drop 1).reverse.toArray } })
    (hsz : items.size ≤ sizeLine) : wpAny (model prog w) A (getItem (.ref t) (.ref sl)) Q E s := by
  have htake : sizeOk (.seq (items.toList.drop 1).reverse.toArray) := by
    show ((items.toList.drop 1).reverse).toArray.size ≤ sizeLine
    rw [List.size_toArray, List.length_reverse, List.length_drop, Array.length_toList]
    omega
  obtain ⟨os, hos, hcs, hds⟩ := id hs
  have hTs : s.TypeIs (.ref sl) "slice" := ⟨os, hos, hcs⟩
  unfold getItem
  try with_reducible refine wpAny_holding ?_
  first | refine wpAny_bind (wpAny_pure ?_) | skip
  refine wpAny_bind (wpAny_sequenceKey ht.typeIs (by decide) ?_)
  refine wpAny_bind (wpAny_callSpecial?_slot (name := Str.ofString "__getitem__") ht.typeIs PyProof.Rows.slot_tuple_getitem
    (wpAny_call_entry PyProof.Rows.slot_tuple_getitem ht.typeIs entry_tuple_getitem ?_ (args_tuple_getitem _ _)))
  show wpAny _ _ (Builtin.Tuple.tupleItemsOf (.ref t) >>= _) _ _ s
  refine wpAny_bind (tupleItemsOf_ ht ?_)
  refine wpAny_bind (wpAny_typeOf hTs ?_)
  rw [if_pos (by decide)]
  refine wpAny_bind (applied_back h1 hs pl pu ps ?_)
  show wpAny _ _ (if ((((items.size : Int) - 1)) == 0 && (-1 : Int) == 1 && (items.size - 1) == items.size) = true then _ else _) _ _ s
  rw [if_neg (by simp), pick_back items h1]
  first
    | exact wpAny_bind (m := Builtin.Tuple.tupleExact _) (wpAny_newObj_type (wpAny_pure ⟨_, rfl, wpAny_pure h⟩) htake)
    | exact wpAny_bind (m := Builtin.Tuple.tupleExact _) (wpAny_newObj_type (wpAny_bind (wpAny_pure (wpAny_pure ⟨_, rfl, wpAny_pure h⟩))) htake)
    | exact wpAny_bind (wpAny_bind (m := Builtin.Tuple.tupleExact _) (wpAny_newObj_type (wpAny_pure (wpAny_pure ⟨_, rfl, wpAny_pure h⟩)) htake))
    | exact wpAny_bind (wpAny_bind (m := Builtin.Tuple.tupleExact _) (wpAny_newObj_type (wpAny_pure ⟨_, rfl, wpAny_pure h⟩) htake))
end
/-- t[:0:-1] -/
def tBackT (K : PySem.W.Frag) (te : TE) : TE := fun σ H Q => te σ H fun x H1 => ∃ a xs, x = .ref a ∧ SqT K H1 a xs ∧ 1 ≤ xs.length ∧ ∀ p, H1 p = none → Q (.ref p) (upd H1 p (.tup (xs.drop 1).reverse))
section
variable {X : Cx}
theorem pe_backT {e : Expr} {te : TE} {k k0 : Nat} {p0 p1 p2 p3 pos : Pos} (he : PE X e te) : PE X (.Subscript e (.Slice none (some (.Constant (.int 0) k0 p0)) (some (.UnaryOp .USub (.Constant (.int 1) k p1) p2)) p3) pos) (tBackT X.K te) := by
  refine ⟨fun pins s σ H Q I h => ?_⟩
  refine Subscript_ (thn (he.run pins s σ H _ I h) fun v s1 ⟨x, H1, I1, r1, q1⟩ => ?_)
  obtain ⟨a, xs, ex, hx, h1, q⟩ := q1
  subst ex
  cases r1
  have hst : PO X (some (.UnaryOp .USub (.Constant (.int 1) k p1) p2)) (tPart (tUn (rU fun i => .int (-i)) (tC (.int 1)))) := po_some (pe_un un_neg pe_int)
  have hhi : PO X (some (.Constant (.int 0) k0 p0)) (tPart (tC (.int 0))) := po_some pe_int
  refine wpAny_Slice (thn (po_none.run pins s1 σ H1 (fun o H2 => o = none ∧ H2 = H1) I1 ⟨rfl, rfl⟩) fun vl s2 ⟨l, H2, I2, pl, el, e2⟩ => ?_)
  subst el e2
  refine thn (hhi.run pins s2 σ H2 (fun o H3 => o = some 0 ∧ H3 = H2) I2 ⟨0, rfl, rfl, rfl⟩) fun vu s3 ⟨u, H3, I3, pu, eu, e3⟩ => ?_
  subst eu e3
  refine thn (hst.run pins s3 σ H3 (fun o H4 => o = some (-1) ∧ H4 = H3) I3 ⟨1, rfl, -1, rfl, rfl, rfl⟩) fun vs s4 ⟨o, H4, I4, ps, eo, e4⟩ => ?_
  subst eo e4
  have I5 : Inv X pins σ H4 { s4 with heap := s4.heap.push { cls := .type "slice", data := .fields #[vl, vu, vs] } } := I4.kept (t' := s4.toks) fun b ob q => Heap.get?_push_of_some _ q
  obtain ⟨its, r, ht, hz⟩ := I5.tuple hx
  have hlen := r.length
  show wpAny (model X.prog X.w) X.A (subscriptTail e (.Slice none (some (.Constant (.int 0) k0 p0)) (some (.UnaryOp .USub (.Constant (.int 1) k p1) p2)) p3) (.ref a) (.ref s4.heap.objs.size)) (EP X pins σ Q) X.xe { s4 with heap := s4.heap.push { cls := .type "slice", data := .fields #[vl, vu, vs] } }
  refine tail_any (ops := [.ref a, .ref s4.heap.objs.size]) ht.typeIs (PyProof.Rows.slot_tuple_getitem.lookup) ?_ (by with_unfolding_all rfl)
  refine getItem_tuple_back ht (by rw [List.size_toArray]; omega) (Heap.IsSliceOf.new _ vl vu vs) pl pu ps ?_ (by rw [List.size_toArray]; omega)
  refine ⟨.ref _, _, I5.laid (t' := s4.toks) (o := .tup (xs.drop 1).reverse) (fun b ob q => Heap.get?_push_of_some _ q) (Nat.le_refl _) ?_, rfl, q _ (I5.hok.fresh (Nat.le_refl _))⟩
  refine ⟨by rw [List.length_reverse, List.length_drop]; omega, (its.drop 1).reverse, ?_, ⟨_, Heap.get?_push_size _ rfl, rfl, _, rfl⟩⟩
  exact (r.drop 1).reverse
end
end N

namespace N
open PySem PySem.Spec PyProof.Rows L2
/-! ### words -/
theorem asc_alpha : ∀ c : Nat, c < 128 → Unicode.isAlpha c = (decide (65 ≤ c ∧ c ≤ 90) || decide (97 ≤ c ∧ c ≤ 122)) := by
  intro c h
  have q : ∀ c : Fin 128, Unicode.isAlpha c.1 = (decide (65 ≤ c.1 ∧ c.1 ≤ 90) || decide (97 ≤ c.1 ∧ c.1 ≤ 122)) := by decide +kernel
  exact q ⟨c, h⟩
theorem asc_lower : ∀ c : Nat, c < 128 → Unicode.isLower c = decide (97 ≤ c ∧ c ≤ 122) := by
  intro c h
  have q : ∀ c : Fin 128, Unicode.isLower c.1 = decide (97 ≤ c.1 ∧ c.1 ≤ 122) := by decide +kernel
  exact q ⟨c, h⟩
theorem asc_upper : ∀ c : Nat, c < 128 → (Unicode.isUpper c || Unicode.isTitle c) = decide (65 ≤ c ∧ c ≤ 90) := by
  intro c h
  have q : ∀ c : Fin 128, (Unicode.isUpper c.1 || Unicode.isTitle c.1) = decide (65 ≤ c.1 ∧ c.1 ≤ 90) := by decide +kernel
  exact q ⟨c, h⟩
/-- a letter, as the def says it -/
def isLet (x : Str) : Bool := decide (x.length = 1) && (!decide (x.cps.toList < ("A" : Str).cps.toList) && !decide (("Z" : Str).cps.toList < x.cps.toList))
def isNam (x : Str) : Bool := !decide (8 < x.length) && (Txt.isascii x && (Txt.isalpha x && Txt.islower x))
def Low (c : Nat) : Prop := 97 ≤ c ∧ c ≤ 122
theorem isLet_iff {x : Str} : isLet x = true ↔ ∃ c, x.cps.toList = [c] ∧ 65 ≤ c ∧ c ≤ 90 := by
  unfold isLet Str.length
  have eA : ("A" : Str).cps.toList = [65] := by decide +kernel
  have eZ : ("Z" : Str).cps.toList = [90] := by decide +kernel
  rw [eA, eZ]
  obtain ⟨⟨l⟩⟩ := x
  simp only [Bool.and_eq_true, decide_eq_true_eq, Bool.not_eq_true', decide_eq_false_iff_not, List.size_toArray]
  constructor
  · rintro ⟨h1, h2, h3⟩
    match l, h1 with
    | [c], _ =>
      refine ⟨c, rfl, ?_, ?_⟩
      · have : ¬ c < 65 := fun q => h2 (by simp [List.cons_lt_cons_iff, q])
        omega
      · have : ¬ 90 < c := fun q => h3 (by simp [List.cons_lt_cons_iff, q])
        omega
  · rintro ⟨c, h, h2, h3⟩
    subst h
    refine ⟨rfl, fun q => ?_, fun q => ?_⟩
    · simp [List.cons_lt_cons_iff] at q
      omega
    · simp [List.cons_lt_cons_iff] at q
      omega
theorem isNam_iff {x : Str} : isNam x = true ↔ 1 ≤ x.length ∧ x.length ≤ 8 ∧ ∀ c ∈ x.cps.toList, Low c := by
  obtain ⟨⟨l⟩⟩ := x
  have e1 : Txt.isascii ⟨⟨l⟩⟩ = l.all (fun c => decide (c < 128)) := by
    show Array.all _ _ = _
    exact List.all_toArray ..
  have e2 : Txt.isalpha ⟨⟨l⟩⟩ = (decide (l.length > 0) && l.all Unicode.isAlpha) := by
    show (decide _ && Array.all _ _) = _
    exact congrArg _ (List.all_toArray ..)
  have e3 : Txt.islower ⟨⟨l⟩⟩ = (l.any Unicode.isLower && !l.any fun c => Unicode.isUpper c || Unicode.isTitle c) := by
    show (Array.any _ _ && !Array.any _ _) = _
    exact congr (congrArg _ (List.any_toArray ..)) (congrArg _ (List.any_toArray ..))
  unfold isNam
  rw [e1, e2, e3]
  show (!decide (8 < l.length) && _) = true ↔ 1 ≤ l.length ∧ l.length ≤ 8 ∧ ∀ c ∈ l, Low c
  simp only [Bool.and_eq_true, Bool.not_eq_true', decide_eq_false_iff_not, decide_eq_true_eq, List.all_eq_true, List.any_eq_true, List.any_eq_false, Nat.not_lt]
  constructor
  · rintro ⟨h8, ha, ⟨h1, hb⟩, h3, h4⟩
    refine ⟨by omega, h8, fun c hc => ?_⟩
    have a1 := ha c hc
    have a2 := hb c hc
    rw [asc_alpha c a1] at a2
    have a3 := h4 c hc
    rw [asc_upper c a1] at a3
    simp only [Bool.or_eq_true, decide_eq_true_eq] at a2 a3
    unfold Low
    omega
  · rintro ⟨h1, h8, h⟩
    have hl : ∀ c ∈ l, 97 ≤ c ∧ c ≤ 122 := h
    refine ⟨h8, fun c hc => ?_, ⟨by omega, fun c hc => ?_⟩, ?_, fun c hc => ?_⟩
    · have := hl c hc
      omega
    · have q := hl c hc
      rw [asc_alpha c (by omega)]
      simp [q]
    · match l, h1 with
      | c :: r, _ =>
        refine ⟨c, List.mem_cons_self, ?_⟩
        have q := hl c List.mem_cons_self
        rw [asc_lower c (by omega)]
        simp [q]
    · have q := hl c hc
      rw [asc_upper _ (by omega)]
      simp
      omega
theorem let_not_nam {x : Str} (h : isLet x = true) : isNam x = false := by
  obtain ⟨c, e, h1, h2⟩ := isLet_iff.mp h
  cases q : isNam x with
  | false => rfl
  | true =>
    obtain ⟨_, _, h3⟩ := isNam_iff.mp q
    have := h3 c (by rw [e]; exact List.mem_cons_self)
    unfold Low at this
    omega

/-! ### any thing, as the program sees it -/
inductive Tg where
  | str (x : Str) | oth | tup (ts : List Tg)
mutual
def Tg.nodes : Tg → Nat
  | .str _ => 1
  | .oth => 1
  | .tup ts => 1 + nodesAll ts
def nodesAll : List Tg → Nat
  | [] => 0
  | t :: ts => t.nodes + nodesAll ts
end
theorem nodes_pos (t : Tg) : 1 ≤ t.nodes := by
  cases t <;> simp only [Tg.nodes] <;> omega
theorem nodesAll_app : ∀ a b : List Tg, nodesAll (a ++ b) = nodesAll a + nodesAll b
  | [], b => by simp [nodesAll]
  | t :: a, b => by
    rw [List.cons_append]
    simp only [nodesAll]
    rw [nodesAll_app a b]
    omega
theorem length_le_nodes : ∀ a : List Tg, a.length ≤ nodesAll a
  | [] => Nat.zero_le _
  | t :: a => by
    have h1 := length_le_nodes a
    have h2 := nodes_pos t
    simp only [nodesAll, List.length_cons]
    omega
def Tg.isNm : Tg → Bool
  | .str x => isNam x
  | _ => false
/-- a class type as far as its name and the number of its arguments go -/
def begT : Tg → Bool
  | .tup (n :: ts) => decide (ts.length ≤ 2) && n.isNm
  | _ => false
def Tg.isL : Tg → Bool
  | .str x => isLet x
  | _ => false
mutual
def isT : Tg → Bool
  | .str x => isLet x
  | .oth => false
  | .tup [] => false
  | .tup (n :: ts) => (decide (ts.length ≤ 2) && n.isNm) && isTAll ts
def isTAll : List Tg → Bool
  | [] => true
  | t :: ts => isT t && isTAll ts
end
theorem isTAll_app : ∀ a b : List Tg, isTAll (a ++ b) = (isTAll a && isTAll b)
  | [], b => by simp [isTAll]
  | t :: a, b => by
    rw [List.cons_append]
    simp only [isTAll]
    rw [isTAll_app a b, Bool.and_assoc]
def Tg.args : Tg → List Tg
  | .tup (_ :: ts) => ts
  | _ => []
theorem isT_beg {t : Tg} (h : begT t = true) : isT t = isTAll t.args := by
  match t, h with
  | .tup (n :: ts), h =>
    have h' : (decide (ts.length ≤ 2) && n.isNm) = true := h
    simp only [isT, Tg.args]
    rw [h', Bool.true_and]
theorem isT_nbeg {t : Tg} (h : begT t = false) : isT t = t.isL := by
  match t, h with
  | .str x, _ => simp [isT, Tg.isL]
  | .oth, _ => simp [isT, Tg.isL]
  | .tup [], _ => simp [isT, Tg.isL]
  | .tup (n :: ts), h =>
    have h' : (decide (ts.length ≤ 2) && n.isNm) = false := h
    simp only [isT, Tg.isL]
    rw [h', Bool.false_and]
theorem args_nodes {t : Tg} (h : begT t = true) : nodesAll t.args + 1 < t.nodes + 1 := by
  match t, h with
  | .tup (n :: ts), _ =>
    have := nodes_pos n
    simp only [Tg.args, Tg.nodes, nodesAll]
    omega
mutual
/-- at v stands such a thing -/
inductive Th (K : PySem.W.Frag) (H : Hp) : V → Tg → Prop
  | str (x : Str) (hx : x.length ≤ 100000) : Th K H (.str x) (.str x)
  | oth {v : V} {t : Value} (ty : TyX K H v t) (a : PySem.W.kitOne K t (.type "str") = some false) (b : PySem.W.kitOne K t (.type "tuple") = some false) : Th K H v .oth
  | tup {a : Addr} {xs : List V} {ts : List Tg} (h : SqT K H a xs) (r : ThAll K H xs ts) : Th K H (.ref a) (.tup ts)
inductive ThAll (K : PySem.W.Frag) (H : Hp) : List V → List Tg → Prop
  | nil : ThAll K H [] []
  | cons {v : V} {vs : List V} {t : Tg} {ts : List Tg} (h : Th K H v t) (r : ThAll K H vs ts) : ThAll K H (v :: vs) (t :: ts)
end
theorem ThAll.length {K : PySem.W.Frag} {H : Hp} : ∀ {vs : List V} {ts : List Tg}, ThAll K H vs ts → vs.length = ts.length
  | _, _, .nil => rfl
  | _, _, .cons _ r => by simp [ThAll.length r]
theorem ThAll.app {K : PySem.W.Frag} {H : Hp} : ∀ {vs ws : List V} {ts us : List Tg}, ThAll K H vs ts → ThAll K H ws us → ThAll K H (vs ++ ws) (ts ++ us)
  | _, _, _, _, .nil, r => r
  | _, _, _, _, .cons h r, q => .cons h (r.app q)
theorem ThAll.snoc {K : PySem.W.Frag} {H : Hp} {vs : List V} {ts : List Tg} (h : ThAll K H vs ts) (hn : ts ≠ []) : ∃ v vs' t ts', vs = vs' ++ [v] ∧ ts = ts' ++ [t] ∧ Th K H v t ∧ ThAll K H vs' ts' := by
  match vs, ts, h with
  | _, _, .nil => exact absurd rfl hn
  | _, _, .cons (v := v) (vs := vs) (t := t) (ts := ts) h r =>
    by_cases e : ts = []
    · subst e
      match vs, r with
      | _, .nil => exact ⟨v, [], t, [], rfl, rfl, h, .nil⟩
    · obtain ⟨v', vs', t', ts', e1, e2, h1, h2⟩ := r.snoc e
      exact ⟨v', v :: vs', t', t :: ts', by rw [e1]; rfl, by rw [e2]; rfl, h1, .cons h h2⟩
/-- what is needed of a change of the heap, for things to stay -/
structure Stay (K : PySem.W.Frag) (H H' : Hp) : Prop where
  tup : ∀ a xs, SqT K H a xs → SqT K H' a xs
  ty : ∀ v t, TyX K H v t → TyX K H' v t
mutual
theorem Th.stay {K : PySem.W.Frag} {H H' : Hp} (s : Stay K H H') : ∀ {v : V} {t : Tg}, Th K H v t → Th K H' v t
  | _, _, .str x hx => .str x hx
  | _, _, .oth ty a b => .oth (s.ty _ _ ty) a b
  | _, _, .tup h r => .tup (s.tup _ _ h) (ThAll.stay s r)
theorem ThAll.stay {K : PySem.W.Frag} {H H' : Hp} (s : Stay K H H') : ∀ {vs : List V} {ts : List Tg}, ThAll K H vs ts → ThAll K H' vs ts
  | _, _, .nil => .nil
  | _, _, .cons h r => .cons (Th.stay s h) (ThAll.stay s r)
end
theorem Stay.refl {K : PySem.W.Frag} (H : Hp) : Stay K H H := ⟨fun _ _ h => h, fun _ _ h => h⟩
theorem Stay.trans {K : PySem.W.Frag} {H H1 H2 : Hp} (a : Stay K H H1) (b : Stay K H1 H2) : Stay K H H2 := ⟨fun x y h => b.tup x y (a.tup x y h), fun x y h => b.ty x y (a.ty x y h)⟩
theorem stay_of {K : PySem.W.Frag} {H H' : Hp} (h : ∀ a o, H a = some o → H' a = some o ∨ ∃ xs ys, o = .lst xs ∧ H' a = some (.lst ys)) (hdx : ∀ a x, H a = some (.own x) → H' a = some (.own x)) : Stay K H H' where
  tup := fun a xs q => by
    rcases q with (q | ⟨o, q⟩) | q
    · rcases h a _ q with h1 | ⟨_, _, e, _⟩
      · exact .inl (.inl h1)
      · cases e
    · rcases h a _ q with h1 | ⟨_, _, e, _⟩
      · exact .inl (.inr ⟨o, h1⟩)
      · cases e
    · exact .inr q
  ty := fun v t q => by
    have k : ∀ a o, H a = some o → (∀ xs, o ≠ .lst xs) → H' a = some o := fun a o e n => by
      rcases h a o e with h1 | ⟨xs, _, e2, _⟩
      · exact h1
      · exact absurd e2 (n xs)
    cases q with
    | base b =>
      cases b with
      | non => exact .base .non
      | bl x => exact .base (.bl x)
      | int i => exact .base (.int i)
      | str x => exact .base (.str x)
      | flt x => exact .base (.flt x)
      | @lst a xs e =>
        rcases h a _ e with h1 | ⟨_, ys, _, h1⟩
        · exact .base (.lst h1)
        · exact .base (.lst h1)
      | frz e => exact .base (.frz (k _ _ e fun xs z => by cases z))
      | tup e => exact .base (.tup (k _ _ e fun xs z => by cases z))
      | dK e => exact .base (.dK (k _ _ e fun xs z => by cases z))
      | dT e => exact .base (.dT (k _ _ e fun xs z => by cases z))
      | ins e cl ha hn htk hm => exact .base (.ins (k _ _ e fun xs z => by cases z) cl ha hn htk hm)
    | byt b => exact .byt b
    | set e => exact .set (k _ _ e fun xs z => by cases z)
    | kList e c => exact .kList e c
    | kTuple e c => exact .kTuple e c
    | kDict e c => exact .kDict e c
    | fTuple e => exact .fTuple (k _ _ e fun xs z => by cases z)
    | fDict e => exact .fDict (k _ _ e fun xs z => by cases z)
theorem stay_same {K : PySem.W.Frag} {H H' : Hp} (e : Same H H') : Stay K H H' := stay_of (fun a o q => .inl (e a o q)) fun a x q => e a _ q
theorem same_new {H : Hp} {p : Addr} (h : H p = none) (o : HO) : Same H (upd H p o) := fun b u q => by rw [upd_ne (ne_of_none q h)]; exact q
theorem stay_new {K : PySem.W.Frag} {H : Hp} {p : Addr} (h : H p = none) (o : HO) : Stay K H (upd H p o) := stay_same (same_new h o)
theorem stay_lst {K : PySem.W.Frag} {H : Hp} {p : Addr} {xs ys : List V} (h : H p = some (.lst xs)) : Stay K H (upd H p (.lst ys)) := stay_of (fun a o q => by
    by_cases e : a = p
    · subst e
      rw [h] at q
      cases q
      exact .inr ⟨xs, ys, rfl, upd_same⟩
    · exact .inl (by rw [upd_ne e]; exact q)) fun a x q => by
  rw [upd_ne (ne_of q h (by intro z; cases z))]
  exact q
theorem SqT.ty {K : PySem.W.Frag} {H : Hp} {a : Addr} {xs : List V} (h : SqT K H a xs) : TyX K H (.ref a) (.type "tuple") := by
  rcases h with (h | ⟨o, h⟩) | ⟨o, its, n, h, c, _⟩
  · exact .base (.tup h)
  · exact .fTuple h
  · exact .kTuple h c
end N

namespace N
open PySem PySem.Spec PyProof.Rows L2
/-! ### promises where no repr is under way -/
structure RoomG (k : Nat) (A : Around) : Prop extends Room k A where
  gs : A.guards = some []
theorem RoomG.mono {j k : Nat} {A : Around} (r : RoomG k A) (h : j ≤ k) : RoomG j A := ⟨r.toRoom.mono h, r.gs⟩
theorem RoomG.deeper {k : Nat} {A : Around} (r : RoomG (k + 1) A) (env : Env) : RoomG k (A.deeper env) := ⟨r.toRoom.deeper env, r.gs⟩
theorem roomG_caller {k : Nat} (r : Room k callerA) : RoomG k callerA := ⟨r, rfl⟩
structure FnG (P : Program) (w : World) (K : PySem.W.Frag) (mg : Str → Option Value) (base : Heap) (CX : CXT) (k : Nat) (f : Addr) (fd : FuncData) (ps : List Str) (sp : Sp) : Prop where
  len : ∀ vs H Q E, sp vs H Q E → vs.length = ps.length
  run : ∀ (A : Around) (outer : List Env) (s : Shared) (H : Hp) (args : Args) (us : List Value) (vs : List V) (Q : VK) (E : XK), RoomG k A → Env0 P w K mg base A outer s H → BindsTo s fd args (ps.zip us) → Vals vs us → sp vs H Q E →
    codeAny (model P w) A (.call (.ref f) args) (CR CX outer P w H s Q E) s
section
variable {P : Program} {w : World} {K : PySem.W.Frag} {mg : Str → Option Value} {base : Heap} {CX : CXT} {j k : Nat} {f : Addr} {fd : FuncData} {ps : List Str} {sp : Sp}
theorem FnG.mono (F : FnG P w K mg base CX j f fd ps sp) (h : j ≤ k) : FnG P w K mg base CX k f fd ps sp := ⟨F.len, fun A outer s H args us vs Q E hr => F.run A outer s H args us vs Q E (hr.mono h)⟩
theorem FnG.imp {sp' : Sp} (F : FnG P w K mg base CX k f fd ps sp) (h : ∀ vs H Q E, sp' vs H Q E → sp vs H Q E) : FnG P w K mg base CX k f fd ps sp' :=
  ⟨fun vs H Q E q => F.len vs H Q E (h _ _ _ _ q), fun A outer s H args us vs Q E hr he hb hv hs => F.run A outer s H args us vs Q E hr he hb hv (h _ _ _ _ hs)⟩
/-- one entry, the surroundings fixed: the library's rule for a def is asked with a promise that holds there alone -/
theorem fnG_of {x : Str} {st : Stmt} {N : List Str} (F : Fun K x x st f fd) (S : FnScope N ps (defScope st)) (len : ∀ vs H Q E, sp vs H Q E → vs.length = ps.length)
    (hbody : ∀ (cdv : Value) (A : Around) (outer : List Env) (s : Shared) (H : Hp) (vs : List V) (Q : VK) (E : XK), RoomG k (A.deeper (envOfC x (defScope st) s.heap.objs.size f cdv)) → sp vs H Q E →
      ∃ t, PSs (cxOf CX P w K mg base N x (defScope st) f cdv A outer s H E) (defBody st) t ∧ t { nx := fun _ H' => Q .non H', rt := Q } (start N vs) H) : FnG P w K mg base CX (k + 1) f fd ps sp := by
  obtain ⟨oc, od, kV, doc, pm, an, cdv, ct, osl, rfl, lk, hcd⟩ := F.ex
  refine ⟨len, fun A outer s H args us vs Q E hr e0 hb r hsp => ?_⟩
  have KX : K.In s.heap := e0.mod.kin.keeps fun b o e => (e0.bs b o e).1
  have lim : s.heap.NoLimit := e0.mod.nolimit.keeps fun b o e => (e0.bs b o e).1
  have hkind : ∀ y ∈ ps.zip us, (defScope st).names.lookup y.1 = some .local ∨ ((defScope st).names.lookup y.1 = some .cell ∧ ((cellsFrom (s.heap.objs.size + 1) (defScope st).names []).lookup y.1).isSome = true) := fun ⟨n, v⟩ hy =>
    (S.par n (List.of_mem_zip hy).1).elim .inl fun q => .inr ⟨q, PySem.W.cellsFrom_some _ _ _ (.inl q)⟩
  refine codeAny_call_function hr.depth (KX _ _ lk) rfl S.co S.gen rfl (PySem.W.codeRec_of KX hcd) (hb _ _ _ _ ?_)
  refine wpAny_newFunctionEnv_cells S.kind hkind fun env he s1 x => ?_
  subst he
  refine ⟨lim.keeps x.toInCall.keep, codeAny_func ?_⟩
  obtain ⟨t, ht, hq⟩ := hbody cdv A outer s H vs Q E (hr.deeper _) hsp
  have I := inv_start (CX := CX) (P := P) (w := w) (mg := mg) (E := E) S hr.hd e0 (len _ _ _ _ hsp) r x
  refine wpAny_mono (ht.run [] s1 (start N vs) H _ I hq) (fun fl s' hs => ?_) fun e s' hs => hs
  cases fl with
  | ret u => obtain ⟨v, σ', H', J, rv, q⟩ := hs; exact ⟨v, H', J.os, J.bare, J.base, J.hok, rv, q⟩
  | next => obtain ⟨σ', H', J, q⟩ := hs; exact ⟨.non, H', J.os, J.bare, J.base, J.hok, rfl, q⟩
  | brk => obtain ⟨_, _, _, q⟩ := hs; exact False.elim q
  | cont => obtain ⟨_, _, _, q⟩ := hs; exact False.elim q
end
section
variable {X : Cx} {CX : CXT} {k : Nat} {f : Addr} {fd : FuncData} {ps : List Str} {sp : Sp} {E : XK}
theorem runG {pins : List (Addr × Obj)} {σ : L2.St} {H : Hp} {s : Shared} {Q : VK} {us : List Value} {vs : List V} (F : FnG X.prog X.w X.K X.mg X.base CX k f fd ps sp) (hr : RoomG k X.A) (hb : Binds X.K fd ps [])
    (hx : ∀ e s', CX X.stack H s E e s' → X.xe e s') (I : Inv X pins σ H s) (r : Vals vs us) (h : sp vs H Q E) : wpAny (model X.prog X.w) X.A (call (.ref f) us) (EP X pins σ Q) X.xe s := by
  have b := hb s us I.kIn (by rw [List.append_nil, ← r.length]; exact F.len _ _ _ _ h)
  rw [List.append_nil] at b
  refine wpAny_call (codeAny_mono (F.run X.A X.stack s H ⟨us, []⟩ us vs Q E hr I.env0 b r h) fun res s' hq => ?_)
  match res, hq with
  | .error e, hq => exact hx e s' hq
  | .ok (.ret u), hq => exact I.after hq
  | .ok .next, hq => exact False.elim hq
  | .ok .brk, hq => exact False.elim hq
  | .ok .cont, hq => exact False.elim hq
end
end N

namespace N
open PySem PySem.Spec PyProof.Rows L2
/-! ### defs as they stand behind the top, and what they promise -/
def DefAt (K : PySem.W.Frag) (mg : Str → Option Value) (x : Str) (st : Stmt) (ps : List Str) : Prop :=
  ∃ (f : Addr) (fd : FuncData), mg x = some (.ref f) ∧ Fun K x x st f fd ∧ Binds K fd ps []
def Cal (P : Program) (w : World) (K : PySem.W.Frag) (mg : Str → Option Value) (base : Heap) (k : Nat) (x : Str) (ps : List Str) (sp : Sp) : Prop :=
  ∃ (f : Addr) (fd : FuncData), mg x = some (.ref f) ∧ PySem.W.keepIn K (.ref f) = true ∧ Binds K fd ps [] ∧ FnG P w K mg base (L2.CX P w) k f fd ps sp
section
variable {P : Program} {w : World} {K : PySem.W.Frag} {mg : Str → Option Value} {base : Heap} {k : Nat} {x : Str} {ps N : List Str} {sp : Sp} {st : Stmt}
theorem Cal.mono {j : Nat} (c : Cal P w K mg base j x ps sp) (h : j ≤ k) : Cal P w K mg base k x ps sp := by
  obtain ⟨f, fd, a, b, d, F⟩ := c
  exact ⟨f, fd, a, b, d, F.mono h⟩
theorem Cal.imp {sp' : Sp} (c : Cal P w K mg base k x ps sp) (h : ∀ vs H Q E, sp' vs H Q E → sp vs H Q E) : Cal P w K mg base k x ps sp' := by
  obtain ⟨f, fd, a, b, d, F⟩ := c
  exact ⟨f, fd, a, b, d, F.imp h⟩
theorem DefAt.cal (D : DefAt K mg x st ps) (S : FnScope N ps (defScope st)) (len : ∀ vs H Q E, sp vs H Q E → vs.length = ps.length)
    (hbody : ∀ (f : Addr) (cdv : Value) (A : Around) (outer : List Env) (s : Shared) (H : Hp) (vs : List V) (Q : VK) (E : XK), RoomG k (A.deeper (envOfC x (defScope st) s.heap.objs.size f cdv)) → sp vs H Q E →
      ∃ t, PSs (cxOf (L2.CX P w) P w K mg base N x (defScope st) f cdv A outer s H E) (defBody st) t ∧ t { nx := fun _ H' => Q .non H', rt := Q } (start N vs) H) : Cal P w K mg base (k + 1) x ps sp := by
  obtain ⟨f, fd, a, F, b⟩ := D
  exact ⟨f, fd, a, F.kp, b, fnG_of F S len fun cdv A outer s H vs Q E hr h => hbody f cdv A outer s H vs Q E hr h⟩
theorem mk_def {h : Heap} {f : Addr} {oc : Value} {od an : Option Addr} {osl : Array (Option Value)} {kV doc pm cdv ct : Value} (X : K.In h) (G : h.Ns mainGlobals mg)
    (a : PySem.W.nsIn K mainGlobals x = some (some (.ref f))) (l : K.lookup f = some ⟨oc, od, .func (PySem.W.fnOf x x (defArgs st) (defBody st) (defScope st) .none kV doc pm an cdv ct), osl⟩) (c : PySem.W.codeIn K cdv x = true) (k : PySem.W.keepIn K (.ref f) = true)
    (b : ∀ (kV doc pm : Value) (an : Option Addr) (cdv ct : Value) (us : List Value), us.length = ps.length → bindArgs (PySem.W.fnOf x x (defArgs st) (defBody st) (defScope st) .none kV doc pm an cdv ct) ⟨us, []⟩ = pure (ps.zip us)) : DefAt K mg x st ps :=
  ⟨f, _, PySem.W.mg_of X G a, fun_mk l c k, (fun_mk l c k).binds b⟩
end
section
variable {X : Cx} {k : Nat} {x : Str} {ps : List Str} {sp : Sp} {p pos : Pos} {e : Expr} {es : List Expr} {t : TA} {W : WX}
/-- f(e, ..): what is raised goes where W says -/
theorem pcE (tk : Takes X W) (c : Cal X.prog X.w X.K X.mg X.base k x ps sp) (hr : RoomG k X.A) (hg : Gl X x) (ha : PA X (e :: es) t) (hdb : (x == ("__debug__" : Str)) = false := by decide) (he : starEach (e :: es) X.env = (false, eval e X.env) :: starEach es X.env := by rfl)
    (hpl : (backTo pos (starEach es X.env)).any (·.1) = false := by rfl) : PE X (.Call (.Name x p) (e :: es) [] pos) (tCallS sp (WE W) t) := by
  obtain ⟨f, fd, hm, hk, hb, F⟩ := c
  refine ⟨fun pins s σ H Q I h => wpAny_Call_Name_kw (ld_glob I hg hm ?_ hdb)⟩
  refine PySem.W.callWith_K (h₀ := X.base) I.ok.mod.kin hk (thn (ha.run pos pins s σ H _ I h) fun us s1 ⟨vs, H1, I1, r, q⟩ => ⟨I1.kIn, ?_⟩) he hpl
  exact runG F hr hb (fun e s' z => passAt tk σ pins H1 s1 e s' I1 z) I1 r q
/-- f(e, ..): nothing that is raised is let out -/
theorem pc (c : Cal X.prog X.w X.K X.mg X.base k x ps sp) (hr : RoomG k X.A) (hg : Gl X x) (ha : PA X (e :: es) t) (hdb : (x == ("__debug__" : Str)) = false := by decide) (he : starEach (e :: es) X.env = (false, eval e X.env) :: starEach es X.env := by rfl)
    (hpl : (backTo pos (starEach es X.env)).any (·.1) = false := by rfl) : PE X (.Call (.Name x p) (e :: es) [] pos) (fun σ H Q => t σ H fun vs H1 => sp vs H1 Q E0) := by
  obtain ⟨f, fd, hm, hk, hb, F⟩ := c
  refine ⟨fun pins s σ H Q I h => wpAny_Call_Name_kw (ld_glob I hg hm ?_ hdb)⟩
  refine PySem.W.callWith_K (h₀ := X.base) I.ok.mod.kin hk (thn (ha.run pos pins s σ H _ I h) fun us s1 ⟨vs, H1, I1, r, q⟩ => ⟨I1.kIn, ?_⟩) he hpl
  exact runG F hr hb (fun e s' z => passL pins σ H1 s1 e s' I1 z) I1 r q
theorem pc0 (c : Cal X.prog X.w X.K X.mg X.base k x [] sp) (hr : RoomG k X.A) (hg : Gl X x) (hdb : (x == ("__debug__" : Str)) = false := by decide) : PE X (.Call (.Name x p) [] [] pos) (fun _ H Q => sp [] H Q E0) := by
  obtain ⟨f, fd, hm, hk, hb, F⟩ := c
  refine ⟨fun pins s σ H Q I h => wpAny_Call_Name_kw (ld_glob I hg hm ?_ hdb)⟩
  exact PySem.W.callWith_K0 I.kIn hk (runG (us := []) F hr hb (fun e s' z => passL pins σ H s e s' I z) I .nil h)
end
theorem hug {k : Nat} {A : Around} (hr : RoomG k A) : A.units + 1 < cLine := hu_of hr.toRoom
/-- an own error class over ValueError, without an __init__ -/
structure ExcAt (K : PySem.W.Frag) (mg : Str → Option Value) (x : Str) (C : Addr) : Prop where
  g : mg x = some (.ref C)
  k : PySem.W.keepIn K (.ref C) = true
  b : PySem.W.subIn K (.ref C) (.type "BaseException") = some true
  t : PySem.W.typeIn K (.ref C) = some (.type "type")
  x : PySem.W.excIn K C [.type "ValueError", .type "Exception", .type "BaseException", .type "object"] "ValueError.__new__" = true
theorem b_str : bootBuiltins "str" = some (.type "str") := by decide +kernel
theorem b_tuple : bootBuiltins "tuple" = some (.type "tuple") := by decide +kernel
theorem b_dict : bootBuiltins "dict" = some (.type "dict") := by decide +kernel
theorem b_list : bootBuiltins "list" = some (.type "list") := by decide +kernel
/-- isinstance(e, T), T a built-in class -/
theorem pe_isi {X : Cx} {p p2 pos : Pos} {e : Expr} {te : TE} {n : String} {c : Str} (hm : X.mg "isinstance" = none) (hmc : X.mg c = none) (hv : bootBuiltins c = some (.type n)) (hg : Gl X "isinstance") (hgc : Gl X c) (he : PE X e te) (hn : c ≠ "__name__" := by decide)
    (hdb : (c == ("__debug__" : Str)) = false := by decide) (hst2 : starEach [e, .Name c p2] X.env = (false, eval e X.env) :: starEach [.Name c p2] X.env := by rfl) (hpl : (backTo pos (starEach [.Name c p2] X.env)).any (·.1) = false := by rfl) (hs3 : starEach [.Name c p2] X.env = (false, eval (.Name c p2) X.env) :: starEach [] X.env := by rfl) :
    PE X (.Call (.Name "isinstance" p) [e, .Name c p2] [] pos) (fun σ H Q => te σ H fun v H1 => rIsi X.K [v, .ty n] H1 Q) :=
  pe_callB call_isi hg hm (by decide +kernel) (pa_cons he (pa_cons (pe_bltn (v := .ty n) hgc hmc hv rfl hn hdb) pa_nil hs3) hst2) (by decide) (by decide) hst2 hpl
theorem isi_q {K : PySem.W.Frag} {H : Hp} {v : V} {t : Value} {n : String} {b : Bool} {Q : VK} (ty : TyX K H v t) (e : PySem.W.kitOne K t (.type n) = some b) (q : Q (.bl b) H) : rIsi K [v, .ty n] H Q := ⟨v, .ty n, t, _, b, rfl, .ty n, ty, e, q⟩
def Tg.isS : Tg → Bool
  | .str _ => true
  | _ => false
def Tg.isTu : Tg → Bool
  | .tup _ => true
  | _ => false
theorem isi_str {K : PySem.W.Frag} {H : Hp} {v : V} {t : Tg} {Q : VK} (h : Th K H v t) (q : Q (.bl t.isS) H) : rIsi K [v, .ty "str"] H Q := by
  cases h with
  | str x hx => exact isi_q (b := true) (.base (.str x)) (kit_ty (by decide +kernel)) q
  | oth ty a b => exact isi_q ty a q
  | tup h r => exact isi_q (b := false) (SqT.ty h) (kit_ty (by decide +kernel)) q
theorem isi_tup {K : PySem.W.Frag} {H : Hp} {v : V} {t : Tg} {Q : VK} (h : Th K H v t) (q : Q (.bl t.isTu) H) : rIsi K [v, .ty "tuple"] H Q := by
  cases h with
  | str x hx => exact isi_q (b := false) (.base (.str x)) (kit_ty (by decide +kernel)) q
  | oth ty a b => exact isi_q ty b q
  | tup h r => exact isi_q (b := true) (SqT.ty h) (kit_ty (by decide +kernel)) q
end N

namespace N
open PySem PySem.Spec PyProof.Rows L2
/-! ### the end of a law over such promises -/
section
variable {P : Program} {w : World} {K : PySem.W.Frag} {mg mb : Str → Option Value} {CX : CXT} {k : Nat} {fa a : Addr} {fd : FuncData} {x : Str} {sp : Sp} {s₁ : Shared} {vs : List Value} {ns : List Int}
/-- the law is run where at most the script is tracked -/
theorem run_law (H : Hp) (KX : K.In s₁.heap) (hns : s₁.heap.Ns mainGlobals mg) (hb : s₁.heap.Ns builtinsNs mb) (hbb : ∀ x : Str, x ≠ "__name__" → mb x = bootBuiltins x) (hlim : s₁.heap.NoLimit) (hg : s₁.gens = #[])
    (ha : s₁.heap.get? a = some { cls := .type "list", data := .seq vs.toArray }) (hr : Room k callerA) (F : ∀ base : Heap, K.In base → base.Ns mainGlobals mg → FnG P w K mg base CX k fa fd [x] sp) (hbind : ∀ (s : Shared) (u : Value), BindsTo s fd ⟨[u], []⟩ [(x, u)])
    (hsp : sp [.ref a] H (fun v _ => v = .bl true) fun _ _ _ => False) (hCX : ∀ e s', CX [] H s₁ (fun _ _ _ => False) e s' → False) (hO : Only H) (hok : HOk P w H s₁.heap) (hA : ∀ b, H b ≠ none → b = a) (hK : H a ≠ none → K.lookup a = none) :
    codeAny (model P w) callerA (.call (.ref fa) ⟨[.ref a], []⟩) (fun r s' => r = .ok (.ret (.bool true)) ∧ OldK s₁.heap s'.heap ∧ s'.os = s₁.os ∧ AllBare s'.gens) s₁ := by
  have free : ∀ {b : Addr}, b ≠ a → H b = none := fun {b} n => by
    cases q : H b with
    | none => rfl
    | some u => exact absurd (hA b (by rw [q]; exact fun z => by cases z)) n
  have nsK : ∀ {b : Addr} {m : Str → Option Value}, s₁.heap.Ns b m → (hidT s₁.heap H).Ns b m := fun {b m} ⟨o, es, ep, e, d, r⟩ => by
    have nb : b ≠ a := fun z => by
      subst z
      rw [ha] at e
      cases e
      have d' : Data.seq vs.toArray _ = Data.dict es ep := d
      cases d'
    exact ⟨o, es, ep, hidT_get e (free nb), d, r⟩
  have hKb : K.In (hidT s₁.heap H) := fun b o e => hidT_get (KX b o e) (by
    by_cases nb : b = a
    · subst nb
      cases q : H b with
      | none => rfl
      | some u =>
        have := hK (by rw [q]; exact fun z => by cases z)
        rw [this] at e
        cases e
    · exact free nb)
  have hM : Mod K mg (hidT s₁.heap H) := ⟨hKb, nsK hns, ⟨mb, nsK hb, hbb⟩, let ⟨mc, h1, h2⟩ := hlim; ⟨mc, nsK h1, h2⟩⟩
  have e0 : Env0 P w K mg (hidT s₁.heap H) callerA [] s₁ H := ⟨rfl, hM, fun b o e => of_hidT e, Nat.le_of_eq (hidT_size _ _), trivial, fun b hb => absurd (show b ∈ ([] : List Addr) from hb) (by simp), hok, .of_eq hg⟩
  have go := (F _ hKb (nsK hns)).run callerA [] s₁ H ⟨[.ref a], []⟩ [.ref a] [.ref a] (fun v _ => v = .bl true) (fun _ _ _ => False) (roomG_caller hr) e0 (hbind s₁ (.ref a)) (.cons rfl .nil) hsp
  refine codeAny_mono go fun r s' h => ?_
  match r, h with
  | .error e, h => exact (hCX e s' h).elim
  | .ok .next, h => exact False.elim h
  | .ok .brk, h => exact False.elim h
  | .ok .cont, h => exact False.elim h
  | .ok (.ret u), h =>
    obtain ⟨v, H', os, bare, un, hok', r', q⟩ := h
    have q' : v = .bl true := q
    subst q'
    obtain rfl : u = Value.bool true := r'
    refine ⟨rfl, OldK.of_keep fun b o e => ?_, os, bare⟩
    cases q : H b with
    | none => exact un.keep b o e q (by intro z; exact absurd (show b ∈ ([] : List Addr) from z) (by simp)) (by simp)
    | some u =>
      rcases hO b with z | ⟨ob, xs, z⟩
      · rw [q] at z; cases z
      · have e1 := (hok b _ z).1
        have e2 := (hok' b _ (un.frzs b ob _ z)).1
        rw [e] at e1
        cases e1
        exact e2
end
theorem walkG {l : PySem.W.OpenLaw} {n k : Nat} {q : Program} {loose : List Str} {XP : (Str → Option Value) → Heap → Prop} {YP : World → Heap → Prop} {d : DefRec} {K : Params → PySem.W.Frag} {CX : World → CXT} {sp : World → Sp} {x : Str}
    (hn : l.most = some n) (hn2 : n ≤ sizeLine) (hdf : d.params.defaults = []) (hr : Room k callerA) (hY : ∀ (w : World) (h : Heap), YP w h → (K w.params).In h)
    (F : ∀ (w : World) (mg : Str → Option Value) (fa : Addr) (h : Heap), (K w.params).In h → h.Ns mainGlobals mg → mg d.name = some (.ref fa) →
      ∃ fd : FuncData, (∀ (s : Shared) (u : Value), BindsTo s fd ⟨[u], []⟩ [(x, u)]) ∧ ∀ base : Heap, (K w.params).In base → base.Ns mainGlobals mg → FnG l.prog w (K w.params) mg base (CX w) k fa fd [x] (sp w))
    (hsp : ∀ (w : World) (H : Hp) (a : Addr) (ns : List Int), ns.length ≤ n → Only H → SqL (K w.params) H a (ns.map V.int) → sp w [.ref a] H (fun v _ => v = .bl true) fun _ _ _ => False)
    (hCX : ∀ (w : World) (H : Hp) (s : Shared) (e : Value) (s' : Shared), CX w [] H s (fun _ _ _ => False) e s' → False) : PySem.W.WalkO q loose XP YP l.row.toRowW d [] (fun f vs => PySem.call f vs) := by
  refine Att.attach_call hn hdf fun w s₀ s₁ mg mb fa o pm cd doc a vs ns G Y ho hd hcd hmg ha hi hlen hg => ?_
  have KX := hY w _ Y
  obtain ⟨fd, hb, hF⟩ := F w mg fa _ KX G.T.g hmg
  have rv := vals_ints hi
  have lenV := hi.length
  have hl : ns.length ≤ sizeLine := Nat.le_trans hlen hn2
  have one := fun (H : Hp) (hO : Only H) (hS : SqL (K w.params) H a (ns.map V.int)) => run_law H KX G.T.g G.T.b G.T.builtins G.T.nolimit hg ha hr hF hb (hsp w H a ns hlen hO hS) (fun e s' => hCX w H s₁ e s') hO
  cases hk : (K w.params).lookup a with
  | some o' =>
    have e := KX a o' hk
    rw [ha] at e
    cases e
    refine one (fun _ => none) (fun _ => .inl rfl) (.inr ⟨_, vs.toArray, _, hk, rfl, rfl, rfl, by rw [List.size_toArray, lenV]; exact hl, by simpa using rv⟩) (fun b u z => ?_) (fun b z => absurd rfl z) fun z => absurd rfl z
    have z' : (none : Option HO) = some u := z
    cases z'
  | none =>
    have ya : ∀ {b : Addr} {u : HO}, (if b = a then some (HO.frz { cls := .type "list", data := .seq vs.toArray } (.lst (ns.map V.int))) else none) = some u → b = a ∧ u = .frz { cls := .type "list", data := .seq vs.toArray } (.lst (ns.map V.int)) := fun {b u} z => by
      by_cases hb : b = a
      · rw [if_pos hb] at z
        exact ⟨hb, (Option.some.inj z).symm⟩
      · rw [if_neg hb] at z
        cases z
    refine one (fun b => if b = a then some (.frz { cls := .type "list", data := .seq vs.toArray } (.lst (ns.map V.int))) else none) (fun b => ?_) (.inl (.inr ⟨{ cls := .type "list", data := .seq vs.toArray }, if_pos rfl⟩)) (fun b u z => ?_) (fun b z => ?_) fun _ => hk
    · by_cases hb : b = a
      · exact .inr ⟨_, _, if_pos hb⟩
      · exact .inl (if_neg hb)
    · obtain ⟨e1, e2⟩ := ya z
      subst e1 e2
      exact ⟨ha, by rw [List.length_map]; exact hl, vs, _, rv, ha⟩
    · by_cases hb : b = a
      · exact hb
      · exact absurd (if_neg hb) z
end N

namespace N
open PySem PySem.Spec PyProof.Rows L2
/-! ### repr of data -/
/-- repr(x), x a list or a tuple of data without dicts -/
def rRepr (K : PySem.W.Frag) : List V → Hp → VK → Prop := fun xs H Q => ∃ (a : Addr) (d : PyData), xs = [V.ref a] ∧ Dp K H (.ref a) d ∧ d.showable = true ∧ d.hasDict = false ∧ d.depth ≤ 60 ∧ d.shown.length ≤ sizeLine ∧ Q (.str d.shown) H
theorem call_repr {X : Cx} {k : Nat} (hr : RoomG k X.A) : CallR X (.builtin "repr") (rRepr X.K) := by
  intro pins s σ H xs us Q I r h
  obtain ⟨a, d, rfl, hd, hs, hn, hdp, hz, q⟩ := h
  obtain ⟨u, rfl, ru⟩ := vals1 r
  cases (show u = Value.ref a from ru)
  obtain ⟨as, rd⟩ := Dp.reads I d _ _ hd rfl
  have hun := hr.toRoom.units
  exact repr_of_reads' rd hs (PyData.noDict_hsm hn) hr.gs (by omega) (fun b o e => e) (fun h' u tk hk => ⟨.str d.shown, H, I.kept (t' := tk) hk, ⟨_, rfl⟩, q⟩) hz
end N

namespace N
open PySem PySem.Spec PyProof.Rows L2
/-! ### exceptions of own classes as values -/
/-- v is an exception of the class at C, with these fields -/
def ExP (H : Hp) (v : V) (C : Addr) (fs : List (Str × V)) : Prop := ∃ a, v = .ref a ∧ ((H a = some (exo a C none) ∧ fs = []) ∨ ∃ d, H a = some (exo a C (some d)) ∧ H d = some (exd d fs))
theorem ExP.same {H H' : Hp} {v : V} {C : Addr} {fs : List (Str × V)} (s : Same H H') (h : ExP H v C fs) : ExP H' v C fs := by
  obtain ⟨a, e, r⟩ := h
  rcases r with ⟨h1, h2⟩ | ⟨d, h1, h2⟩
  · exact ⟨a, e, .inl ⟨s _ _ h1, h2⟩⟩
  · exact ⟨a, e, .inr ⟨d, s _ _ h1, s _ _ h2⟩⟩
abbrev veB : List Value := [.type "ValueError", .type "Exception", .type "BaseException", .type "object"]
section
variable {X : Cx} {pins : List (Addr × Obj)} {σ : L2.St} {H : Hp} {s : Shared}
/-- where it lies -/
theorem exP_at {v : V} {C : Addr} {fs : List (Str × V)} (I : Inv X pins σ H s) (h : ExP H v C fs) : ∃ (a : Addr) (ox : Obj) (od : Option Obj), v = .ref a ∧ PySem.W.InstAt s.heap a ox C od ∧ (fs ≠ [] → ∃ o, od = some o ∧ ∃ mA : Str → Option Value, (∀ n, PySem.W.lookIn n o = some (mA n)) ∧ ∀ f, RelO (fs.lookup f) (mA f)) := by
  obtain ⟨a, e, r⟩ := h
  rcases r with ⟨h1, h2⟩ | ⟨d, h1, h2⟩
  · obtain ⟨t1, ho⟩ := exo_at I.hok h1
    exact ⟨a, _, none, e, ⟨ho, rfl, rfl, trivial⟩, fun n => absurd h2 n⟩
  · obtain ⟨t1, ho⟩ := exo_at I.hok h1
    obtain ⟨mA, hns, rel⟩ := exd_at I.hok h2
    obtain ⟨od, hd, hl⟩ := lookIn_ns hns
    exact ⟨a, _, some od, e, ⟨ho, rfl, rfl, hd⟩, fun _ => ⟨od, rfl, mA, hl, rel⟩⟩
theorem call_ex {C : Addr} {us : List Value} {Q : VK} (I : Inv X pins σ H s) (q : PySem.W.excIn X.K C veB "ValueError.__new__" = true) (hz : us.length ≤ sizeLine) (h : ∀ a, H a = none → Q (.ref a) (upd H a (exo a C none))) :
    wpAny (model X.prog X.w) X.A (call (.ref C) us) (EP X pins σ Q) X.xe s := by
  obtain ⟨bm, Na, nm, qn, bs, hdct, sn, sub, ab, col, dd, k0, k1, k2, k3, k5, mN, hC, hN, hni, T⟩ := exc_obj I.kIn q
  refine wpAny_call_exc_subT PySem.F.excBase_ValueError T hC hN hni (fun h' a hm => ?_) hz
  have hn : H a = none := I.hok.gone hm.new
  obtain ⟨t, ht, _⟩ := hm.there
  exact ⟨.ref a, _, I.laidN hm.keeps hm.new hn (exo_ok ht), rfl, h a hn⟩
end
section
variable {X : Cx} {C : Addr} {x : Str} {p pos : Pos} {e : Expr} {es : List Expr} {t : TA} {te : TE}
/-- C(), C(e, ..), an own class over ValueError without own __init__ -/
theorem pe_ex0 (q : PySem.W.excIn X.K C veB "ValueError.__new__" = true) (gC : X.mg x = some (.ref C)) (kC : PySem.W.keepIn X.K (.ref C) = true) (hg : Gl X x) (hdb : (x == ("__debug__" : Str)) = false := by decide) :
    PE X (.Call (.Name x p) [] [] pos) (fun _ H Q => ∀ a, H a = none → Q (.ref a) (upd H a (exo a C none))) := by
  refine ⟨fun pins s σ H Q I h => wpAny_Call_Name_kw (ld_glob I hg gC ?_ hdb)⟩
  exact PySem.W.callWith_K0 I.kIn kC (call_ex (us := []) I q (Nat.zero_le _) h)
theorem pe_exN (q : PySem.W.excIn X.K C veB "ValueError.__new__" = true) (gC : X.mg x = some (.ref C)) (kC : PySem.W.keepIn X.K (.ref C) = true) (hg : Gl X x) (ha : PA X (e :: es) t) (hdb : (x == ("__debug__" : Str)) = false := by decide)
    (he : starEach (e :: es) X.env = (false, eval e X.env) :: starEach es X.env := by rfl) (hpl : (backTo pos (starEach es X.env)).any (·.1) = false := by rfl) :
    PE X (.Call (.Name x p) (e :: es) [] pos) (fun σ H Q => t σ H fun vs H1 => vs.length ≤ sizeLine ∧ ∀ a, H1 a = none → Q (.ref a) (upd H1 a (exo a C none))) := by
  refine ⟨fun pins s σ H Q I h => wpAny_Call_Name_kw (ld_glob I hg gC ?_ hdb)⟩
  refine PySem.W.callWith_K (h₀ := X.base) I.ok.mod.kin kC (thn (ha.run pos pins s σ H _ I h) fun us s1 z => ?_) he hpl
  obtain ⟨vs, H1, J, r, hz, q1⟩ := z
  exact ⟨J.kIn, (show wpAny _ _ (call (.ref C) us) _ _ _ from call_ex J q (by rw [← r.length]; exact hz) q1)⟩
/-- isinstance(e, c), e such an exception -/
def rIsX (K : PySem.W.Frag) : List V → Hp → VK → Prop := fun xs H Q => ∃ (v c : V) (C : Addr) (fs : List (Str × V)) (cv : Value) (b : Bool), xs = [v, c] ∧ ExP H v C fs ∧ ExcC K C ∧ (∀ u, RelV c u → u = cv) ∧ PySem.W.kitOne K (.ref C) cv = some b ∧ Q (.bl b) H
theorem call_isX : CallR X (.builtin "isinstance") (rIsX X.K) := by
  intro pins s σ H xs us Q I r h
  obtain ⟨v, c, C, fs, cv, b, rfl, hx, T, hcv, e, q⟩ := h
  obtain ⟨a, ox, od, rfl, J, _⟩ := exP_at I hx
  cases r with
  | cons rx rr =>
    cases rr with
    | cons rt rr =>
      cases rr
      cases rx
      have ec := hcv _ rt
      subst ec
      have hcl : (PySem.W.clsIn X.K C).isSome = true := by
        obtain ⟨cd, hc, _⟩ := PySem.W.any_some T.hd
        rw [hc]
        rfl
      exact PySem.W.kia_one (PySem.W.kitx_exc hcl T.hg T.hk T.hs T.ha T.hn T.ht T.hm) I.kIn J e (fun z => nomatch z) fun tk => ⟨.bl b, H, I.kept (t' := tk) fun _ _ z => z, rfl, q⟩
/-- e.f, a field of such an exception -/
theorem pe_exf {n : Str} (he : PE X e te) (hb : attributeBase e n X.env (eval e X.env) = eval e X.env := by rfl) :
    PE X (.Attribute e n pos) (fun σ H Q => te σ H fun x H1 => ∃ (C : Addr) (fs : List (Str × V)) (v : V), ExP H1 x C fs ∧ XfC X.K C ∧ PySem.W.findIn X.K (.ref C) n = some none ∧ fs.lookup n = some v ∧ Q v H1) := by
  refine ⟨fun pins s σ H Q I h => ?_⟩
  refine attr_of hb (thn (he.run pins s σ H _ I h) fun u s1 z => ?_)
  obtain ⟨x, H1, J, rx, C, fs, v, hx, T, hno, hl, q⟩ := z
  obtain ⟨a, ox, od, rfl, A, hf⟩ := exP_at J hx
  obtain rfl : u = Value.ref a := rx
  obtain ⟨o, rfl, mA, hlk, rel⟩ := hf (fun z => by rw [z] at hl; cases hl)
  obtain ⟨u2, hu, ru⟩ := RelO.some_of (v := v) (o := mA n) (by rw [← hl]; exact rel n)
  exact HandSPX.exc_get J.kIn A T.ga T.gg T.exC (PySem.W.findObj_own T.hdC hno rfl (by rw [hlk, hu])) (handed_of ru) ⟨v, H1, J.tok _, ru, q⟩
end
end N

namespace N
open PySem PySem.Spec PyProof.Rows L2 NdefX
/-! ### an own __init__ that begins with super().__init__(..) -/
/-- at u stands the bound ValueError.__init__ of the exception at a -/
def MwO (u a : Addr) : HO := .ext fun h => h.get? u = some (PySem.W.kxs_mw "ValueError.__init__" a)
theorem mwO_ok {P : Program} {w : World} {H : Hp} {h : Heap} {u a : Addr} (e : h.get? u = some (PySem.W.kxs_mw "ValueError.__init__" a)) : ObjOk P w H h u (MwO u a) := ⟨e, ⟨_, e⟩, fun _ _ z k => k _ z⟩
section
variable {prog : Program} {w : World} {A : Around} {E : Value → Shared → Prop} {h : Heap} {g : Array GenState} {d : Drawn} {t : Nat} {os : OsState}
variable {nm q : Str} {C Na : Addr} {bs bm : List Value} {hdct : Bool} {sn : List Str} {sub : List Value} {ab : Bool} {col : Option Bool} {dd : Option Addr} {k0 k1 k2 k3 k5 : Option Value}
theorem mw_run {u e t0 : Addr} {us : List Value} {Q : Value → Shared → Prop} (hC : h.get? C = some (excClassObj nm q C Na bs bm hdct sn sub ab col dd k0 k1 k2 k3 k5 "ValueError.__new__")) (hE : h.get? e = some (HandSPX.excO C t0))
    (hU : h.get? u = some (PySem.W.kxs_mw "ValueError.__init__" e)) (hz : us.length ≤ sizeLine) (fin : ∀ h' t1, (∀ b o, b ≠ e → h.get? b = some o → h'.get? b = some o) → h'.get? e = some (HandSPX.excO C t1) → Q .none ⟨h', g, d, t, os⟩) :
    wpAny (model prog w) A (call (.ref u) us) Q E ⟨h, g, d, t, os⟩ := by
  have w1 : (Value.type "method-wrapper" == Value.type "method" || Value.type "method-wrapper" == Value.type "builtin_function_or_method" || Value.type "method-wrapper" == Value.type "method-wrapper") = true := by decide
  refine wpAny_call (codeAny_of_tree (show wpAny _ A.in1 (callAny (.ref u) ⟨us, []⟩) _ _ _ from ?_))
  simp only [callAny]
  refine wpAny_bind (wpAny_load (o := PySem.W.kxs_mw "ValueError.__init__" e) hU ?_)
  simp only [PySem.W.kxs_mw, w1, if_true]
  refine PySem.W.KFB.if_so (by decide) (wpAny_bind (PySem.W.check_bound_init PySem.F.excBase_ValueError.toExcCallFacts hC hE rfl (wpAny_bind (wpAny_pure (wpAny_pure ?_)))))
  refine ⟨Code.quiet_builtin _ (by decide +kernel), codeAny_builtin PySem.F.excBase_ValueError.initEntry ?_⟩
  rw [Around.under_plainId PySem.F.excBase_ValueError.init.plain _]
  wp_walk
  refine fin _ h.objs.size (fun b o nb hb => ?_) ?_
  · rw [Heap.get?_update_other _ _ (fun z => nb z.symm)]
    exact Heap.get?_push_of_some _ hb
  · rw [Heap.get?_update_self _ (Heap.get?_push_of_some _ hE) rfl] <;> rfl
end
section
variable {X : Cx} {pins : List (Addr × Obj)} {σ : L2.St} {H : Hp} {s : Shared} {A : Around}
theorem call_mw {u a C : Addr} {us : List Value} {Q : Value → Shared → Prop} {E : Value → Shared → Prop} (T : OexC X.K C) (I : Inv X pins σ H s) (ea : H a = some (exo a C none)) (eu : H u = some (MwO u a)) (hl : us.length ≤ sizeLine) (h : ∀ s', Inv X pins σ H s' → Q .none s') :
    wpAny (model X.prog X.w) A (call (.ref u) us) Q E s := by
  obtain ⟨nm, q, Na, bs, bm, sn, sub, ab, col, dd, k0, k1, k2, k3, k5, hC, hbm⟩ := T.cls
  obtain ⟨t1, hE⟩ := exo_at I.hok ea
  have hU : s.heap.get? u = some (PySem.W.kxs_mw "ValueError.__init__" a) := (I.hok u _ eu).1
  obtain ⟨hp, g, d, t, os⟩ := s
  refine mw_run (I.kIn _ _ hC) hE hU hl (fun h' t2 k hx => ?_)
  have J := I.write (t' := t) (x := a) (e := a) (o := exo a C none) (by rw [ea]; exact True.intro) (.inl rfl) k ⟨_, hx⟩ (exo_ok hx)
  have eq : upd H a (exo a C none) = H := by
    funext b
    by_cases e : b = a
    · subst e
      rw [upd_same, ea]
    · rw [upd_ne e]
  rw [eq] at J
  exact h _ J
end
/-- what the written part says of a class with such an __init__ -/
structure IniC (K : PySem.W.Frag) (file : Str) (C f cc cda : Addr) (qual : Str) (params : Arguments) (body : List Stmt) (scope : Scope) : Prop where
  ox : OexC K C
  fn : ∃ oc od dV kV doc pm an ct osl, K.lookup f = some ⟨oc, od, .func (PySem.W.ksFn "__init__" qual params body scope dV kV doc pm an (.ref cda) ct cc), osl⟩
  code : PySem.W.codeIn K (.ref cda) qual = true
  cda : ∃ ccl cdd vs ccs tf, K.lookup cda = some ⟨ccl, cdd, .fields vs, ccs⟩ ∧ vs[2]? = some (.str file tf)
  cell : ∃ cl cld csl, K.lookup cc = some ⟨cl, cld, .cell (some (.ref C)), csl⟩
  cls : (PySem.W.clsIn K C).isSome = true
  own : PySem.W.mroIn K C (.ref C) = some true
  up : PySem.W.ks_superIn K C C "__init__" = some (some (.builtin "ValueError.__init__"))
  ve : PySem.W.subIn K (.ref C) (.type "ValueError") = some true
  any : PySem.W.nsIn K cStatics "thirdparty.any" = some none
  ini : PySem.W.findIn K (.ref C) "__init__" = some (some (.ref f))
  tyf : PySem.W.typeIn K (.ref f) = some (.type "function")
end N

namespace N
open PySem PySem.Spec PyProof.Rows L2 NdefX
/-- the words of such an __init__ -/
abbrev iF (qual : Str) (params : Arguments) (body : List Stmt) (scope : Scope) (cc cda : Addr) : NF := ⟨"__init__", qual, params, body, scope, [("__class__", cc)], cda⟩
theorem callE {M : Model} {A : Around} {E : Value → Shared → Prop} {s : Shared} {pos : Pos} {env : Env} {e : Expr} {rest : List Expr} {u x : Addr} {i : String} {first : List Value} {Q : Value → Shared → Prop}
    (he : starEach (e :: rest) env = (false, eval e env) :: starEach rest env) (hpl : (backTo pos (starEach rest env)).any (·.1) = false)
    (h : wpAny M A (spliced (backTo pos (starEach (e :: rest) env))) (fun vs s₁ => PySem.W.KxsAt i u x s₁.heap ∧ wpAny M A (call (.ref u) (first ++ vs)) Q E s₁) E s) :
    wpAny M A (callWith pos (.ref u) first (backTo pos (starEach (e :: rest) env)) []) Q E s := by
  rw [he] at h ⊢
  refine PySem.W.kxs_callWith (i := i) (x := x) (by show (false || (backTo pos (starEach rest env)).any (·.1)) = false; rw [hpl]; rfl) ?_
  exact Calls.evalArgs_plain h
section
variable {P : Program} {w : World} {K : PySem.W.Frag} {mg : Str → Option Value} {base : Heap} {Nm ps : List Str} {k : Nat} {C f cc cda : Addr} {qual file : Str} {params : Arguments} {body rest : List Stmt} {scope : Scope} {t : TA} {tb : TS} {e : Expr} {es : List Expr} {p0 p1 p2 p3 p4 : Pos} {ar : Arg}
/-- super().__init__(e, ..) as a statement, in the frame of such an __init__ -/
theorem run_super {A : Around} {outer : List Env} {s0 s : Shared} {H0 H : Hp} {E : XK} {σ : L2.St} {a : Addr} {Q : Flow → Shared → Prop} {pins : List (Addr × Obj)} (D : IniC K file C f cc cda qual params body scope) (S : NScope Nm ps ["__class__"] scope) (hfile : ((P.main.file : Str) == file) = true) (htop : (P.main.scope.names.lookup ("super" : Str)).isSome = false)
    (hg : scope.names.lookup ("super" : Str) = some .globalImplicit) (hms : mg "super" = none) (har : (params.posonlyargs ++ params.args).head? = some ar) (h0 : Nm[0]? = some ar.arg) (hv0 : scope.names.lookup ar.arg = some .local)
    (I : Inv (ncx (L2.CX P w) P w K mg base Nm (iF qual params body scope cc cda) f A outer s0 H0 E) pins σ H s) (hs : σ[0]? = some (some (.ref a))) (ea : H a = some (exo a C none))
    (ha : PA (ncx (L2.CX P w) P w K mg base Nm (iF qual params body scope cc cda) f A outer s0 H0 E) (e :: es) t)
    (hq : ∀ u, H u = none → t σ (upd H u (MwO u a)) fun vs H1 => vs.length ≤ sizeLine ∧ H1 = upd H u (MwO u a) ∧ ∀ s', Inv (ncx (L2.CX P w) P w K mg base Nm (iF qual params body scope cc cda) f A outer s0 H0 E) pins σ (upd H u (MwO u a)) s' → Q .next s')
    (he : starEach (e :: es) (envF (iF qual params body scope cc cda) f s0.heap.objs.size) = (false, eval e (envF (iF qual params body scope cc cda) f s0.heap.objs.size)) :: starEach es (envF (iF qual params body scope cc cda) f s0.heap.objs.size))
    (hpl : (backTo p3 (starEach es (envF (iF qual params body scope cc cda) f s0.heap.objs.size))).any (·.1) = false)
    {pl : Sem Bool} (hcl : eval (.Call (.Attribute (.Call (.Name "super" p0) [] [] p1) "__init__" p2) (e :: es) [] p3) (envF (iF qual params body scope cc cda) f s0.heap.objs.size) = (do
      let ov ← attributeBase (.Call (.Name "super" p0) [] [] p1) "__init__" (envF (iF qual params body scope cc cda) f s0.heap.objs.size) (eval (.Call (.Name "super" p0) [] [] p1) (envF (iF qual params body scope cc cda) f s0.heap.objs.size))
      standAt p2.atName
      let (f', first) ← holding [ov] (getMethod ov "__init__" pl)
      callWith p3 f' first (backTo p3 (starEach (e :: es) (envF (iF qual params body scope cc cda) f s0.heap.objs.size))) [])) :
    PySem.wpAt (model P w) (A.deeper (envF (iF qual params body scope cc cda) f s0.heap.objs.size)) (.func body (envF (iF qual params body scope cc cda) f s0.heap.objs.size))
      (exec (.Expr (.Call (.Attribute (.Call (.Name "super" p0) [] [] p1) "__init__" p2) (e :: es) [] p3) p4) (envF (iF qual params body scope cc cda) f s0.heap.objs.size)) Q (ncx (L2.CX P w) P w K mg base Nm (iF qual params body scope cc cda) f A outer s0 H0 E).xe s := by
  obtain ⟨oc, od, dV, kV, doc, pm, an, ct, osl, lk⟩ := D.fn
  obtain ⟨ccl, cdd, vs, ccs, tf, lc, hvs⟩ := D.cda
  obtain ⟨cl, cld, csl, lx⟩ := D.cell
  obtain ⟨cdD, hD⟩ := Option.isSome_iff_exists.mp D.cls
  have KX : K.In s.heap := I.kIn
  obtain ⟨oD, hD1, hD2⟩ : ∃ oD, s.heap.get? C = some oD ∧ oD.data = .cls cdD := by
    unfold PySem.W.clsIn at hD
    split at hD
    · rename_i ho
      cases hD
      exact ⟨_, KX _ _ ho, rfl⟩
    · cases hD
  obtain ⟨t1, hx⟩ := exo_at I.hok ea
  refine ks_wpAt_Expr_any (ks_wpAt_MethodCall ?_ hcl) (by show (scope.kind == .module && _) = false; rw [S.kind]; rfl)
  refine ks_wpAt_super_base (f := f) (cc := cda) (env := envF (iF qual params body scope cc cda) f s0.heap.objs.size) hg (S.frk _ (List.mem_singleton.mpr rfl)) (by decide) rfl (KX _ _ lk) rfl har rfl (KX _ _ lc) rfl hvs hfile htop ?_
  obtain ⟨mb, hb1, hb2⟩ := I.mod.blt
  refine PySem.W.ks_loadName_global S.kind hg (Calls.loadGlobal_builtin (by exact I.mod.glob.keeps I.bk) hms (by exact hb1.keeps I.bk) ((hb2 "super" (by decide)).trans (show bootBuiltins "super" = some (.type "super") by decide +kernel)) ⟨rfl, ?_⟩)
  refine wpAny_loadName_free S.kind (S.frk _ (List.mem_singleton.mpr rfl)) rfl ⟨_, KX _ _ lx, rfl⟩ ?_
  obtain ⟨m, hn, hl⟩ := I.loc
  obtain ⟨u0, ru, hm⟩ := hl 0 ar.arg (.ref a) h0 hs (.inl hv0)
  obtain rfl : u0 = Value.ref a := ru
  have hm0 : m ar.arg = some (.ref a) := by
    rcases hm with ⟨_, z⟩ | ⟨z, _⟩
    · exact z
    · exfalso
      have z' : scope.names.lookup ar.arg = some .cell ∨ scope.names.lookup ar.arg = some .free := z
      rw [hv0] at z'
      rcases z' with z' | z' <;> cases z'
  refine wpAny_loadName_local S.kind hv0 hn hm0 ?_
  refine ks_wpAny_isType_cls hD1 hD2 ⟨rfl, ?_⟩
  obtain ⟨hp, g, dr, tk, os⟩ := s
  refine ks_wpAny_call_super hD1 hD2 hx rfl (fun c z => by cases z) (PySem.W.looks_mroIn KX D.own) (fun h' es' kx => ?_)
  have J : Inv (ncx (L2.CX P w) P w K mg base Nm (iF qual params body scope cc cda) f A outer s0 H0 E) pins σ H ⟨h', g, dr, tk, os⟩ := I.kept (t' := tk) kx
  have KX' : K.In h' := J.kIn
  have IA : PySem.W.InstAt h' a _ C none := ⟨kx _ _ hx, rfl, rfl, trivial⟩
  have nC : a ≠ C := PySem.W.ks_ne KX' IA hD
  have up := D.up
  unfold PySem.W.ks_superIn at up
  rw [hD] at up
  have isV : PySem.W.Looks (model P w) h' (isInstance (.ref a) (.type "ValueError")) true := IA.type.andThen (PySem.W.looks_subIn KX' D.ve)
  refine PySem.W.kxs_getMethod PySem.W.kxs_ValueError es' (PySem.W.looks_opaque KX' D.any) (l₀ := cdD.mro) (fun A Q E s k q => wpAny_bind ((PySem.W.looks_clsIn KX' hD) A _ E s k (wpAny_pure q))) rfl KX' up isV nC (by decide) ?_
  have fr : H h'.objs.size = none := J.hok.fresh (Nat.le_refl _)
  have mw : (h'.push (PySem.W.kxs_mw "ValueError.__init__" a)).get? h'.objs.size = some (PySem.W.kxs_mw "ValueError.__init__" a) := Heap.get?_push_size _ rfl
  have J2 := J.laid (t' := tk + 1) (a := h'.objs.size) (o := MwO h'.objs.size a) (fun b u e => Heap.get?_push_of_some _ e) (Nat.le_refl _) (mwO_ok mw)
  have nua : a ≠ h'.objs.size := fun z => by rw [z, fr] at ea; cases ea
  refine callE (i := "ValueError.__init__") (x := a) he hpl ?_
  refine thn (ha.run p3 pins _ σ _ _ J2 (hq _ fr)) (fun us s2 z => ?_)
  obtain ⟨vs', H2, J3, r, hz, e2, fin⟩ := z
  subst e2
  refine ⟨(J3.hok _ _ upd_same).1, ?_⟩
  exact call_mw D.ox J3 (by rw [upd_ne nua]; exact ea) upd_same (by rw [List.nil_append, ← r.length]; exact hz) fun s' J4 => fin s' J4
end
end N

namespace N
open PySem PySem.Spec PyProof.Rows L2 NdefX
section
variable {P : Program} {w : World} {K : PySem.W.Frag} {mg : Str → Option Value} {base : Heap} {Nm ps : List Str} {k : Nat} {C f cc cda : Addr} {qual file : Str} {params : Arguments} {rest : List Stmt} {scope : Scope} {e : Expr} {es : List Expr} {p0 p1 p2 p3 p4 : Pos} {ar : Arg}
variable {oc dV kV doc pm ct : Value} {od an : Option Addr} {osl : Array (Option Value)}
abbrev supS (e : Expr) (es : List Expr) (p0 p1 p2 p3 p4 : Pos) : Stmt := .Expr (.Call (.Attribute (.Call (.Name "super" p0) [] [] p1) "__init__" p2) (e :: es) [] p3) p4
/-- an own __init__ that begins with super().__init__(e, ..): what it keeps -/
theorem ini_fn {sp : Sp} (D : IniC K file C f cc cda qual params (supS e es p0 p1 p2 p3 p4 :: rest) scope)
    (lk : K.lookup f = some ⟨oc, od, .func (PySem.W.ksFn "__init__" qual params (supS e es p0 p1 p2 p3 p4 :: rest) scope dV kV doc pm an (.ref cda) ct cc), osl⟩)
    (S : NScope Nm ps ["__class__"] scope) (hfile : ((P.main.file : Str) == file) = true) (htop : (P.main.scope.names.lookup ("super" : Str)).isSome = false)
    (hg : scope.names.lookup ("super" : Str) = some .globalImplicit) (hms : mg "super" = none) (har : (params.posonlyargs ++ params.args).head? = some ar) (h0 : Nm[0]? = some ar.arg) (hv0 : scope.names.lookup ar.arg = some .local)
    (len : ∀ vs H Q E, sp vs H Q E → vs.length = ps.length)
    (hbody : ∀ (A : Around) (outer : List Env) (s : Shared) (H : Hp) (vs : List V) (Q : VK) (E : XK), RoomG k (A.deeper (envF (iF qual params (supS e es p0 p1 p2 p3 p4 :: rest) scope cc cda) f s.heap.objs.size)) → sp vs H Q E →
      ∃ (a : Addr) (vr : List V) (t : TA) (tr : TS), vs = .ref a :: vr ∧ H a = some (exo a C none) ∧
        PA (ncx (L2.CX P w) P w K mg base Nm (iF qual params (supS e es p0 p1 p2 p3 p4 :: rest) scope cc cda) f A outer s H E) (e :: es) t ∧
        PSs (ncx (L2.CX P w) P w K mg base Nm (iF qual params (supS e es p0 p1 p2 p3 p4 :: rest) scope cc cda) f A outer s H E) rest tr ∧
        ∀ u, H u = none → ∃ ws : List V, ws.length ≤ sizeLine ∧ (∀ R : List V → Hp → Prop, R ws (upd H u (MwO u a)) → t (startF Nm vs [none]) (upd H u (MwO u a)) R) ∧ tr { nx := fun _ H' => Q .non H', rt := Q } (startF Nm vs [none]) (upd H u (MwO u a)))
    (he : ∀ L, starEach (e :: es) (envF (iF qual params (supS e es p0 p1 p2 p3 p4 :: rest) scope cc cda) f L) = (false, eval e (envF (iF qual params (supS e es p0 p1 p2 p3 p4 :: rest) scope cc cda) f L)) :: starEach es (envF (iF qual params (supS e es p0 p1 p2 p3 p4 :: rest) scope cc cda) f L))
    (hpl : ∀ L, (backTo p3 (starEach es (envF (iF qual params (supS e es p0 p1 p2 p3 p4 :: rest) scope cc cda) f L))).any (·.1) = false)
    (pl : Nat → Sem Bool) (hcl : ∀ L, eval (.Call (.Attribute (.Call (.Name "super" p0) [] [] p1) "__init__" p2) (e :: es) [] p3) (envF (iF qual params (supS e es p0 p1 p2 p3 p4 :: rest) scope cc cda) f L) = (do
      let ov ← attributeBase (.Call (.Name "super" p0) [] [] p1) "__init__" (envF (iF qual params (supS e es p0 p1 p2 p3 p4 :: rest) scope cc cda) f L) (eval (.Call (.Name "super" p0) [] [] p1) (envF (iF qual params (supS e es p0 p1 p2 p3 p4 :: rest) scope cc cda) f L))
      standAt p2.atName
      let (f', first) ← holding [ov] (getMethod ov "__init__" (pl L))
      callWith p3 f' first (backTo p3 (starEach (e :: es) (envF (iF qual params (supS e es p0 p1 p2 p3 p4 :: rest) scope cc cda) f L))) [])) :
    FnG P w K mg base (L2.CX P w) (k + 1) f (PySem.W.ksFn "__init__" qual params (supS e es p0 p1 p2 p3 p4 :: rest) scope dV kV doc pm an (.ref cda) ct cc) ps sp := by
  refine ⟨len, fun A outer s H args us vs Q E hr e0 hb r hsp => ?_⟩
  have KX : K.In s.heap := e0.mod.kin.keeps fun b o e => (e0.bs b o e).1
  have lim : s.heap.NoLimit := e0.mod.nolimit.keeps fun b o e => (e0.bs b o e).1
  have hl := len _ _ _ _ hsp
  obtain ⟨cl, cld, csl, lx⟩ := D.cell
  have CA : CellsAt [(("__class__" : Str), cc)] ["__class__"] [none] s.heap H := by
    have bc := e0.bs _ _ (e0.mod.kin _ _ lx)
    refine ⟨rfl, fun y c z => ?_, fun x y c z1 z2 => ?_, fun i y z => ?_⟩
    · have : c = cc := by
        simp only [List.lookup] at z
        split at z
        · exact (Option.some.inj z).symm
        · cases z
      subst this
      exact ⟨bc.2, _, _, bc.1, rfl⟩
    · simp only [List.lookup] at z1 z2
      split at z1
      · rename_i q1
        split at z2
        · rename_i q2
          rw [eq_of_beq q1, eq_of_beq q2]
        · cases z2
      · cases z1
    · match i, z with
      | 0, z =>
        have z' : (("__class__" : Str)) = y := Option.some.inj z
        subst z'
        exact ⟨cc, by simp [List.lookup], fun v q => by cases q⟩
      | i + 1, z => cases z
  refine ks_codeAny_call_defAt hr.depth (KX _ _ lk) rfl lim (PySem.W.codeRec_of KX D.code) rfl hb (fun x hx => S.nocell x hx) (fun ⟨n, _⟩ hy => S.par n (List.of_mem_zip hy).1) (fun h₀ hns kp => ?_) S.co S.gen S.kind
  obtain ⟨a, vr, t, tr, ev, ea, ha, hrest, hq⟩ := hbody A outer s H vs Q E (hr.deeper _) hsp
  have I := inv_startN (CX := L2.CX P w) (P := P) (w := w) (mg := mg) (E := E) (f := f) (F := iF qual params (supS e es p0 p1 p2 p3 p4 :: rest) scope cc cda) (N := Nm) (tk := s.toks + (ps.zip us).length) S hr.hd e0 hl r CA hns kp
  have hs0 : (startF Nm vs [none])[0]? = some (some (.ref a)) := by rw [ev]; rfl
  refine ks_wpAt_execs_cons ?_
  refine run_super (outer := outer) (s0 := s) (H0 := H) (E := E) D S hfile htop hg hms har h0 hv0 I hs0 ea ha (fun u hu => ?_) (he _) (hpl _) (hcl _)
  obtain ⟨ws, z1, z2, z3⟩ := hq u hu
  refine z2 _ ⟨z1, rfl, fun s' J => ?_⟩
  refine wpAt_of_wpAny ?_
  refine wpAny_mono (hrest.run [] s' _ _ _ J z3) (fun fl s'' hs => ?_) fun er s'' hs => hs
  cases fl with
  | ret v => obtain ⟨v', σ', H', J', rv, q⟩ := hs; exact ⟨v', H', J'.os, J'.bare, J'.base, J'.hok, rv, q⟩
  | next => obtain ⟨σ', H', J', q⟩ := hs; exact ⟨.non, H', J'.os, J'.bare, J'.base, J'.hok, rfl, q⟩
  | brk => obtain ⟨_, _, _, q⟩ := hs; exact False.elim q
  | cont => obtain ⟨_, _, _, q⟩ := hs; exact False.elim q
end
end N

namespace N
open PySem PySem.Spec PySem.HandSPX
section
variable {M : Model} {prog : Program} {w : World} {A : Around} {E : Value → Shared → Prop} {R : Result → Shared → Prop} {h : Heap} {g : Array GenState} {d : Drawn} {t : Nat} {os : OsState}
variable {nm q : Str} {C Na : Addr} {bs bm bmB : List Value} {hdct : Bool} {sn : List Str} {sub : List Value} {ab : Bool} {col : Option Bool} {dd : Option Addr} {k0 k1 k2 k3 k5 : Option Value} {B newId initId : String} {xs : List Value} {kw : List (Str × Value)}
/-- C(.., n=e): the same with names -/
theorem chkK (B0 : ExcBaseFacts B newId initId bmB) (hT : ∀ X : String, bm.contains (.type X) = bmB.contains (.type X)) {Q : Unit → Shared → Prop}
    (hC : h.get? C = some (excClassObj nm q C Na bs bm hdct sn sub ab col dd k0 k1 k2 k3 k5 newId)) (hq : Q () ⟨h, g, d, t, os⟩) : wpAny M A (checkBuiltinCall newId ⟨.ref C :: xs, kw⟩) Q E ⟨h, g, d, t, os⟩ := by
  have z1 : (Value.ref C :: bm).contains (.type B) = true := by rw [List.contains_cons, hT B]; exact (congrArg _ B0.hasB).trans (Bool.or_true _)
  have z2 := B0.noStar
  simp only [checkBuiltinCall, B0.newKind, B0.newSplit, B0.newRow]
  repeat (first | refine wpAny_loadPart_at hC ?_ | (refine wpAny_isSubtype_exc hC ?_; rw [z1]) | refine wpAny_staticBase_exc hC ?_ | refine wpAny_madeBy_exc hC ?_ | (simp only [bne_self_eq_false, Bool.false_eq_true, if_false]) | wp_step)
  exact hq
theorem newK (B0 : ExcBaseFacts B newId initId bmB) (hT : ∀ X : String, bm.contains (.type X) = bmB.contains (.type X))
    (hC : h.get? C = some (excClassObj nm q C Na bs bm hdct sn sub ab col dd k0 k1 k2 k3 k5 newId))
    (hq : R (.ok (.ret (.ref (h.objs.size + 1)))) ⟨(h.push (PySem.W.kdv_tup xs)).push (excO C h.objs.size), g, d, t, os⟩) (hz : xs.length ≤ sizeLine) :
    codeAny (model prog w) A (.builtin newId ⟨.ref C :: xs, kw⟩) R ⟨h, g, d, t, os⟩ := by
  have z0 := B0.ends
  have z1 : (Value.ref C :: bm).contains (.type B) = true := by rw [List.contains_cons, hT B]; exact (congrArg _ B0.hasB).trans (Bool.or_true _)
  have z2 : (Value.ref C :: bm).contains (.type "AttributeError") = false := by rw [List.contains_cons, hT _]; exact (congrArg _ B0.noAttr).trans rfl
  have z3 : (Value.ref C :: bm).contains (.type "NameError") = false := by rw [List.contains_cons, hT _]; exact (congrArg _ B0.noName).trans rfl
  refine codeAny_builtinAt B0.entry ?_
  unfold Builtin.«BaseException.__new__»
  refine wpAt_bind ?_
  show wpAt _ _ _ (stack >>= _) _ _ _
  refine wpAt_bind (wpAt_stack fun p below => PySem.wpAt_of_wpAny ?_)
  wp_walk
  refine PySem.wpAt_of_wpAny ?_
  rw [B0.owner]
  repeat (first | with_reducible refine wpAny_madeHere_exc B0.canon hC ?_ | with_reducible refine wpAny_loadPart_at hC ?_ | (with_reducible refine wpAny_isSubtype_exc hC ?_; first | rw [z1] | rw [z2] | rw [z3]) | wp_step)
  show R _ _
  rw [Heap.size_push]
  exact hq
theorem chkT (hC : h.get? C = some (excClassObj nm q C Na bs bm hdct sn sub ab col dd k0 k1 k2 k3 k5 newId)) {Q : Unit → Shared → Prop}
    (hq : Q () ⟨h, g, d, t, os⟩) : wpAny M A (checkBuiltinCall "type.__call__" ⟨.ref C :: xs, kw⟩) Q E ⟨h, g, d, t, os⟩ := by
  have z3 := tc_sub
  have z4 : (⟨h, g, d, t, os⟩ : Shared).TypeIs (.ref C) "type" := ⟨_, hC, rfl⟩
  simp only [checkBuiltinCall, tc_kind, tc_split]
  repeat (any_goals (first | assumption | with_reducible refine wpAny_loadPart_at hC ?_ | with_reducible refine wpAny_onRaise ?_ | with_reducible refine wpAny_map ?_ | wp_step))
theorem typeK (B0 : ExcBaseFacts B newId initId bmB) (hT : ∀ X : String, bm.contains (.type X) = bmB.contains (.type X)) {fI : Addr} {Q : PySem.Fin → Shared → Prop}
    (hC : h.get? C = some (excClassObj nm q C Na bs bm hdct sn sub ab col dd k0 k1 k2 k3 k5 newId)) (hz : xs.length ≤ sizeLine)
    (hi : W.Looks (model prog w) h (typeLookup (.ref C) "__init__") (some (.ref fI))) (hb : ∀ self, W.Looks (model prog w) h (bindSpecial (.ref fI) self) (.ref fI, [self]))
    (hq : codeAny (model prog w) A (.call (.ref fI) ⟨.ref (h.objs.size + 1) :: xs, kw⟩)
      (fun r s' => match r with | .ok (.ret v) => v = .none ∧ Q (.done (.ret (.ref (h.objs.size + 1)))) s' | .ok _ => False | .error e => E e s')
      ⟨(h.push (PySem.W.kdv_tup xs)).push (excO C h.objs.size), g, d, t, os⟩) :
    wpAny (model prog w) A (Builtin.«type.__call__» ⟨.ref C :: xs, kw⟩) Q E ⟨h, g, d, t, os⟩ := by
  repeat (first | with_reducible refine wpAny_loadPart_at hC ?_ | with_reducible refine wpAny_madeBy_exc hC ?_ | wp_step)
  refine codeAny_call_builtin_code (Code.quiet_builtin _ B0.quiet) (chkK B0 hT hC ?_)
  refine newK B0 hT hC ?_ hz
  show wpAny _ _ _ _ _ _
  have k : ∀ b o, h.get? b = some o → ((h.push (PySem.W.kdv_tup xs)).push (excO C h.objs.size)).get? b = some o := fun b o z => Heap.get?_push_of_some _ (Heap.get?_push_of_some _ z)
  have y1 := k _ _ hC
  have y2 : ((h.push (PySem.W.kdv_tup xs)).push (excO C h.objs.size)).get? (h.objs.size + 1) = some (excO C h.objs.size) := by heap_get
  have y3 : (Value.ref C :: bm).contains (.ref C) = true := by simp
  have y4 := hi.keeps k
  have y5 := (hb (.ref (h.objs.size + 1))).keeps k
  unfold isInstance
  repeat (first | with_reducible refine wpAny_loadPart_at y2 ?_ | (with_reducible refine wpAny_isSubtype_exc y1 ?_; rw [y3]) | wp_step)
  show wpAny _ _ (typeLookup (.ref C) _) _ _ _
  refine y4.at ?_
  refine wpAny_holding (wpAny_bind (y5.at ?_))
  refine wpAny_bind (wpAny_call (codeAny_mono hq fun r s' z => ?_))
  match r, z with
  | .error e, z => exact z
  | .ok (.ret v), z =>
    obtain ⟨rfl, z⟩ := z
    first
      | exact wpAny_pure (wpAny_pure z)
      | (wp_walk; exact z)
theorem callK (B0 : ExcBaseFacts B newId initId bmB) (hT : ∀ X : String, bm.contains (.type X) = bmB.contains (.type X)) {fI : Addr}
    (hC : h.get? C = some (excClassObj nm q C Na bs bm hdct sn sub ab col dd k0 k1 k2 k3 k5 newId)) (hz : xs.length ≤ sizeLine)
    (hi : W.Looks (model prog w) h (typeLookup (.ref C) "__init__") (some (.ref fI))) (hb : ∀ self, W.Looks (model prog w) h (bindSpecial (.ref fI) self) (.ref fI, [self]))
    (hq : codeAny (model prog w) (A.under (.builtin "type.__call__" ⟨.ref C :: xs, kw⟩)) (.call (.ref fI) ⟨.ref (h.objs.size + 1) :: xs, kw⟩) (W.InitBack (h.objs.size + 1) R)
      ⟨(h.push (PySem.W.kdv_tup xs)).push (excO C h.objs.size), g, d, t, os⟩) :
    codeAny (model prog w) A (.call (.ref C) ⟨xs, kw⟩) R ⟨h, g, d, t, os⟩ := by
  have z1 := tc_lookup
  have z2 := tc_bind (.ref C)
  have z3 : (⟨h, g, d, t, os⟩ : Shared).TypeIs (.ref C) "type" := ⟨_, hC, rfl⟩
  refine codeAny_of_tree ?_
  show wpAny _ _ (callAny (.ref C) _) _ _ _
  repeat (any_goals (first | assumption | with_reducible refine wpAny_loadPart_at hC ?_ | wp_step))
  refine ⟨rfl, ?_⟩
  refine codeAny_call_builtin_at (Code.quiet_builtin _ (by decide +kernel)) entry_typeCall (chkT hC (typeK B0 hT hC hz hi hb ?_))
  refine codeAny_mono hq fun r s' z => ?_
  match r, z with
  | .error e, z => exact z
  | .ok (.ret v), z => exact z
end
end N

namespace N
open PySem PySem.Spec PyProof.Rows L2
theorem RoomG.made {k : Nat} {A : Around} (r : RoomG (k + 1) A) (C : Addr) (us : List Value) (kw : List (Str × Value)) : RoomG k (A.under (.builtin "type.__call__" ⟨.ref C :: us, kw⟩)) :=
  ⟨r.toRoom.make C us kw, (by show pushGuards (Code.builtin "type.__call__" ⟨.ref C :: us, kw⟩).guards A.guards = some []; rw [r.gs]; rfl)⟩
/-- what is needed of a class with an own __init__ -/
structure OwnC (P : Program) (w : World) (K : PySem.W.Frag) (mg : Str → Option Value) (base : Heap) (k : Nat) (x : Str) (C : Addr) (fI : Addr) (fd : FuncData) (ps : List Str) (sp : Sp) : Prop where
  gl : mg x = some (.ref C)
  ox : OexC K C
  ini : PySem.W.findIn K (.ref C) "__init__" = some (some (.ref fI))
  tyf : PySem.W.typeIn K (.ref fI) = some (.type "function")
  fn : FnG P w K mg base (L2.CX P w) k fI fd ps sp
section
variable {X : Cx} {k n : Nat} {fI C : Addr} {fd : FuncData} {ps ks : List Str} {sp : Sp} {x : Str} {p pos : Pos} {e : Expr} {es : List Expr} {kws : List Keyword} {t tk : TA} {g : List Value → List Value → List Value} {gV : List V → List V → List V}
theorem run_own {pins : List (Addr × Obj)} {σ : L2.St} {H : Hp} {s : Shared} {Q : VK} {us ws : List Value} {vs zs : List V} (T : OwnC X.prog X.w X.K X.mg X.base k x C fI fd ps sp) (hr : RoomG (k + 1) X.A) (hb : KBn X.K fd ps (n + 1) ks g gV)
    (I : Inv X pins σ H s) (r : Vals vs us) (rz : Vals zs ws) (l1 : vs.length = n) (l2 : zs.length = ks.length) (hz : n ≤ 1000)
    (h : ∀ a, H a = none → sp (gV (.ref a :: vs) zs) (upd H a (exo a C none)) (fun v H2 => v = .non ∧ Q (.ref a) H2) E0) :
    wpAny (model X.prog X.w) X.A (call (.ref C) us (ks.zip ws)) (EP X pins σ Q) X.xe s := by
  obtain ⟨nm, q, Na, bs, bm, sn, sub, ab, col, dd, k0, k1, k2, k3, k5, hC, hbm⟩ := T.ox.cls
  obtain ⟨hp, gg, dr, tk, os⟩ := s
  have lt : hp.objs.size ≤ hp.objs.size + 1 := Nat.le_succ _
  have hn : H (hp.objs.size + 1) = none := I.hok.fresh lt
  have hq := h (hp.objs.size + 1) hn
  have kk : ∀ b o, hp.get? b = some o → ((hp.push (PySem.W.kdv_tup us)).push (PySem.HandSPX.excO C hp.objs.size)).get? b = some o := fun b o z => Heap.get?_push_of_some _ (Heap.get?_push_of_some _ z)
  have hg : ((hp.push (PySem.W.kdv_tup us)).push (PySem.HandSPX.excO C hp.objs.size)).get? (hp.objs.size + 1) = some (PySem.HandSPX.excO C hp.objs.size) := by heap_get
  have I2 : Inv X pins σ (upd H (hp.objs.size + 1) (exo (hp.objs.size + 1) C none)) ⟨(hp.push (PySem.W.kdv_tup us)).push (PySem.HandSPX.excO C hp.objs.size), gg, dr, tk, os⟩ :=
    I.laid (t' := tk) (a := hp.objs.size + 1) (o := exo (hp.objs.size + 1) C none) kk lt (exo_ok hg)
  have r1 : Vals (V.ref (hp.objs.size + 1) :: vs) (Value.ref (hp.objs.size + 1) :: us) := .cons rfl r
  have r2 := hb.rel r1 rz
  have n1 : (Value.ref (hp.objs.size + 1) :: us).length = n + 1 := by
    rw [List.length_cons, ← r.length, l1]
  have hus : us.length ≤ sizeLine := by
    rw [← r.length, sizeLine_eq]
    omega
  refine wpAny_call (callK PySem.F.excBase_ValueError (fun Y => PySem.HandSPX.refsVE_contains Y bm hbm) (I.kIn _ _ hC) hus (PySem.W.looks_findIn I.kIn T.ini) (fun self => PySem.W.bind_fn I.kIn self T.tyf)
    (codeAny_mono (T.fn.run _ X.stack _ _ ⟨Value.ref (hp.objs.size + 1) :: us, ks.zip ws⟩ (g (Value.ref (hp.objs.size + 1) :: us) ws) _ _ E0 (hr.made C us (ks.zip ws)) (I2.env0.make C us (ks.zip ws))
      (hb.to _ (Value.ref (hp.objs.size + 1) :: us) ws I2.kIn n1 (rz.length.symm.trans l2)) r2 hq) fun r s' hq' => ?_))
  match r, hq' with
  | .error er, hq' => exact passL pins σ _ _ er s' I2 hq'
  | .ok (.ret u), hq' =>
    obtain ⟨v, H', I3, rv, ev, q3⟩ := I2.after hq'
    subst ev
    exact ⟨rv, ⟨V.ref (hp.objs.size + 1), H', I3, rfl, q3⟩⟩
/-- C(e, ..) as a value -/
theorem pe_own (T : OwnC X.prog X.w X.K X.mg X.base k x C fI fd ps sp) (hr : RoomG (k + 1) X.A) (hb : KBn X.K fd ps (n + 1) [] g gV) (hz : n ≤ 1000) (hg : Gl X x) (ha : PA X (e :: es) t) (hdb : (x == ("__debug__" : Str)) = false := by decide)
    (he : starEach (e :: es) X.env = (false, eval e X.env) :: starEach es X.env := by rfl) (hpl : (backTo pos (starEach es X.env)).any (·.1) = false := by rfl) :
    PE X (.Call (.Name x p) (e :: es) [] pos) (fun σ H Q => t σ H fun vs H1 => vs.length = n ∧ ∀ a, H1 a = none → sp (gV (.ref a :: vs) []) (upd H1 a (exo a C none)) (fun v H2 => v = .non ∧ Q (.ref a) H2) E0) := by
  refine ⟨fun pins s σ H Q I h => wpAny_Call_Name_kw (ld_glob I hg T.gl ?_ hdb)⟩
  refine PySem.W.callWith_K (h₀ := X.base) I.ok.mod.kin T.ox.kC (thn (ha.run pos pins s σ H _ I h) fun us s1 ⟨vs, H1, J, r, l, q⟩ => ⟨J.kIn, ?_⟩) he hpl
  exact run_own (ks := []) (ws := []) (zs := []) T hr hb J r .nil l rfl hz q
/-- C(n=e, ..) as a value -/
theorem pe_ownK (T : OwnC X.prog X.w X.K X.mg X.base k x C fI fd ps sp) (hr : RoomG (k + 1) X.A) (hb : KBn X.K fd ps 1 ks g gV) (hg : Gl X x) (hkw : PK X kws tk)
    (hall : (backToKw pos (keywordEach kws X.env)).all (·.1.isSome) = true := by rfl) (hks : (backToKw pos (keywordEach kws X.env)).filterMap (·.1) = ks := by rfl) (hdb : (x == ("__debug__" : Str)) = false := by decide)
    (hpl : ((backTo pos (starEach [] X.env)).any (·.1) || (backToKw pos (keywordEach kws X.env)).any (·.1.isNone)) = false := by rfl) :
    PE X (.Call (.Name x p) [] kws pos) (fun σ H Q => tk σ H fun zs H1 => zs.length = ks.length ∧ ∀ a, H1 a = none → sp (gV [.ref a] zs) (upd H1 a (exo a C none)) (fun v H2 => v = .non ∧ Q (.ref a) H2) E0) := by
  refine ⟨fun pins s σ H Q I h => wpAny_Call_Name_kw (ld_glob I hg T.gl ?_ hdb)⟩
  refine PySem.W.callWith_KW0 (h₀ := X.base) I.ok.mod.kin T.ox.kC hall ?_ hpl
  refine thn (hkw.run pos pins s σ H _ I h) fun ws s2 ⟨zs, H2, J, rz, l2, q2⟩ => ⟨J.kIn, ?_⟩
  rw [hks]
  exact run_own (n := 0) (us := []) (vs := []) T hr hb J .nil rz rfl l2 (Nat.zero_le _) q2
end
end N

namespace N
open PySem PySem.Spec PyProof.Rows L2
/-! ### kinds -/
inductive Kd where
  | L (c : Str) | C0 (n : Str) | C1 (n : Str) (a : Kd) | C2 (n : Str) (a b : Kd)
  deriving DecidableEq
namespace Kd
def args : Kd → List Kd
  | L _ => []
  | C0 _ => []
  | C1 _ a => [a]
  | C2 _ a b => [a, b]
def nm : Kd → Str
  | L c => c
  | C0 n => n
  | C1 n _ => n
  | C2 n _ _ => n
def isC : Kd → Bool
  | L _ => false
  | _ => true
def tg : Kd → Tg
  | L c => .str c
  | C0 n => .tup [.str n]
  | C1 n a => .tup [.str n, a.tg]
  | C2 n a b => .tup [.str n, a.tg, b.tg]
def ok : Kd → Prop
  | L c => isLet c = true
  | C0 n => isNam n = true
  | C1 n a => isNam n = true ∧ a.ok
  | C2 n a b => isNam n = true ∧ a.ok ∧ b.ok
def parts : Kd → List Kd
  | L c => [L c]
  | C0 n => [C0 n]
  | C1 n a => C1 n a :: a.parts
  | C2 n a b => C2 n a b :: (a.parts ++ b.parts)
def size : Kd → Nat
  | L _ => 0
  | C0 _ => 1
  | C1 _ a => 1 + a.size
  | C2 _ a b => 1 + a.size + b.size
def depth : Kd → Nat
  | L _ => 0
  | C0 _ => 1
  | C1 _ a => 1 + a.depth
  | C2 _ a b => 1 + max a.depth b.depth
/-- how many letters and names -/
def nds : Kd → Nat
  | L _ => 1
  | C0 _ => 1
  | C1 _ a => 1 + a.nds
  | C2 _ a b => 1 + a.nds + b.nds
theorem parts_eq (k : Kd) : k.parts = k :: k.args.flatMap parts := by
  cases k <;> simp [parts, args]
theorem tg_C {k : Kd} (h : k.isC = true) : k.tg = .tup (.str k.nm :: k.args.map tg) := by
  cases k <;> first | (cases h; done) | rfl
theorem tg_L {k : Kd} (h : k.isC = false) : k = L k.nm ∧ k.tg = .str k.nm := by
  cases k <;> first | (cases h; done) | exact ⟨rfl, rfl⟩
theorem isTu_tg (k : Kd) : k.tg.isTu = k.isC := by cases k <;> rfl
theorem isS_tg (k : Kd) : k.tg.isS = !k.isC := by cases k <;> rfl
theorem nds_parts (k : Kd) : k.parts.length = k.nds := by
  induction k with
  | L c => rfl
  | C0 n => rfl
  | C1 n a ih => simp [parts, nds, ih]; omega
  | C2 n a b ih1 ih2 => simp [parts, nds, ih1, ih2]; omega
theorem nds_pos (k : Kd) : 1 ≤ k.nds := by cases k <;> simp [nds] <;> omega
theorem nodes_tg (k : Kd) : k.tg.nodes ≤ 3 * k.nds := by
  induction k with
  | L c => simp [tg, nds, Tg.nodes]
  | C0 n => simp [tg, nds, Tg.nodes, nodesAll]
  | C1 n a ih => simp only [tg, nds, Tg.nodes, nodesAll]; omega
  | C2 n a b ih1 ih2 => simp only [tg, nds, Tg.nodes, nodesAll]; omega
theorem args_ok {k : Kd} (h : k.ok) : ∀ a ∈ k.args, a.ok := by
  cases k <;> simp only [args, ok] at * <;> simp_all
theorem isT_tg : ∀ {k : Kd}, k.ok → isT k.tg = true
  | L c, h => by
    show isT (.str c) = true
    simp only [isT]
    exact h
  | C0 n, h => by simp [tg, isT, isTAll, Tg.isNm, show isNam n = true from h]
  | C1 n a, h => by simp [tg, isT, isTAll, Tg.isNm, show isNam n = true from h.1, isT_tg h.2]
  | C2 n a b, h => by simp [tg, isT, isTAll, Tg.isNm, show isNam n = true from h.1, isT_tg h.2.1, isT_tg h.2.2]
theorem args_nds (k : Kd) : (k.args.map nds).sum + 1 ≤ k.nds := by
  cases k <;> simp [args, nds] <;> omega
theorem args_len (k : Kd) : k.args.length ≤ 2 := by cases k <;> simp [args]
end Kd
mutual
theorem of_isT : ∀ {t : Tg}, isT t = true → ∃ k : Kd, k.ok ∧ t = k.tg
  | .str x, h => ⟨.L x, by simpa [isT, Kd.ok] using h, rfl⟩
  | .oth, h => by simp [isT] at h
  | .tup [], h => by simp [isT] at h
  | .tup (n :: ts), h => by
    simp only [isT, Bool.and_eq_true, decide_eq_true_eq] at h
    obtain ⟨⟨h1, h2⟩, h3⟩ := h
    obtain ⟨ks, e, hk⟩ := of_isTAll h3
    match n, h2 with
    | .str x, h2 =>
      have h2' : isNam x = true := h2
      match ks, e with
      | [], e => exact ⟨.C0 x, h2', by rw [e]; rfl⟩
      | [a], e => exact ⟨.C1 x a, ⟨h2', hk a (by simp)⟩, by rw [e]; rfl⟩
      | [a, b], e => exact ⟨.C2 x a b, ⟨h2', hk a (by simp), hk b (by simp)⟩, by rw [e]; rfl⟩
      | a :: b :: c :: r, e => rw [e] at h1; simp at h1
theorem of_isTAll : ∀ {ts : List Tg}, isTAll ts = true → ∃ ks : List Kd, ts = ks.map Kd.tg ∧ ∀ k ∈ ks, k.ok
  | [], _ => ⟨[], rfl, fun k h => by cases h⟩
  | t :: ts, h => by
    simp only [isTAll, Bool.and_eq_true] at h
    obtain ⟨k, hk, e⟩ := of_isT h.1
    obtain ⟨ks, e2, hks⟩ := of_isTAll h.2
    exact ⟨k :: ks, by rw [e, e2]; rfl, fun z hz => by
      rcases List.mem_cons.mp hz with rfl | hz
      · exact hk
      · exact hks z hz⟩
end
/-- at v stands a kind; in vs kinds -/
abbrev Kp (K : PySem.W.Frag) (H : Hp) (v : V) (k : Kd) : Prop := Th K H v k.tg
abbrev Kps (K : PySem.W.Frag) (H : Hp) (vs : List V) (ks : List Kd) : Prop := ThAll K H vs (ks.map Kd.tg)
section
variable {K : PySem.W.Frag} {H : Hp}
theorem Kps.snoc {vs : List V} {ks : List Kd} (h : Kps K H vs ks) (hn : ks ≠ []) : ∃ v vs' k ks', vs = vs' ++ [v] ∧ ks = ks' ++ [k] ∧ Kp K H v k ∧ Kps K H vs' ks' := by
  obtain ⟨v, vs', t, ts', e1, e2, h1, h2⟩ := ThAll.snoc h (by simpa using hn)
  obtain ⟨ks', k, rfl⟩ : ∃ ks' k, ks = ks' ++ [k] := ⟨ks.dropLast, ks.getLast hn, (List.dropLast_concat_getLast hn).symm⟩
  rw [List.map_append, List.map_singleton] at e2
  obtain ⟨e3, e4⟩ := List.append_inj' e2 rfl
  cases e4
  exact ⟨v, vs', k, ks', e1, rfl, h1, by rw [← e3] at h2; exact h2⟩
theorem kp_L {v : V} {k : Kd} (h : Kp K H v k) (c : k.isC = false) : v = .str k.nm ∧ k.nm.length ≤ 100000 := by
  obtain ⟨_, e⟩ := Kd.tg_L c
  have h' : Th K H v (.str k.nm) := by rw [← e]; exact h
  cases h' with
  | str x hx => exact ⟨rfl, hx⟩
theorem kp_C {v : V} {k : Kd} (h : Kp K H v k) (c : k.isC = true) : ∃ (a : Addr) (xs : List V), v = .ref a ∧ SqT K H a (.str k.nm :: xs) ∧ k.nm.length ≤ 100000 ∧ Kps K H xs k.args := by
  have h' : Th K H v (.tup (.str k.nm :: k.args.map Kd.tg)) := by rw [← Kd.tg_C c]; exact h
  cases h' with
  | @tup a xs ts h r =>
    cases r with
    | @cons y ys n ts hy r =>
      cases hy with
      | str x hx => exact ⟨a, ys, rfl, h, hx, r⟩
theorem kp_mk {a : Addr} {k : Kd} {xs : List V} (c : k.isC = true) (h : SqT K H a (.str k.nm :: xs)) (hx : k.nm.length ≤ 100000) (r : Kps K H xs k.args) : Kp K H (.ref a) k := by
  show Th K H (.ref a) k.tg
  rw [Kd.tg_C c]
  exact .tup h (.cons (.str _ hx) r)
theorem ThAll.rev {vs : List V} {ts : List Tg} (h : ThAll K H vs ts) : ThAll K H vs.reverse ts.reverse := by
  induction vs generalizing ts with
  | nil => cases h; exact .nil
  | cons v vs ih =>
    cases h with
    | cons h r =>
      rw [List.reverse_cons, List.reverse_cons]
      exact (ih r).app (.cons h .nil)
theorem Kps.rev {vs : List V} {ks : List Kd} (h : Kps K H vs ks) : Kps K H vs.reverse ks.reverse := by
  have := ThAll.rev h
  rw [← List.map_reverse] at this
  exact this
theorem Kps.app {vs ws : List V} {ks js : List Kd} (h : Kps K H vs ks) (h2 : Kps K H ws js) : Kps K H (vs ++ ws) (ks ++ js) := by
  have := ThAll.app h h2
  rw [← List.map_append] at this
  exact this
theorem Kps.length {vs : List V} {ks : List Kd} (h : Kps K H vs ks) : vs.length = ks.length := by
  have := ThAll.length h
  rw [List.length_map] at this
  exact this
end
end N

namespace N
open PySem PySem.Spec PyProof.Rows L2
namespace Kd
theorem size_parts (k : Kd) : k.size = (k.parts.filter isC).length := by
  induction k with
  | L c => rfl
  | C0 n => rfl
  | C1 n a ih =>
    show 1 + a.size = ((C1 n a :: a.parts).filter isC).length
    rw [List.filter_cons_of_pos (by rfl), List.length_cons, ih]
    omega
  | C2 n a b ih1 ih2 =>
    show 1 + a.size + b.size = ((C2 n a b :: (a.parts ++ b.parts)).filter isC).length
    rw [List.filter_cons_of_pos (by rfl), List.length_cons, List.filter_append, List.length_append, ih1, ih2]
    omega
theorem nds_le (k : Kd) : k.nds ≤ k.tg.nodes := by
  induction k with
  | L c => simp [tg, nds, Tg.nodes]
  | C0 n => simp [tg, nds, Tg.nodes, nodesAll]
  | C1 n a ih => simp only [tg, nds, Tg.nodes, nodesAll]; omega
  | C2 n a b ih1 ih2 => simp only [tg, nds, Tg.nodes, nodesAll]; omega
end Kd
section
variable {K : PySem.W.Frag}
theorem Kps.at {H : Hp} : ∀ {vs : List V} {ks : List Kd} {i : Nat} {x : V}, Kps K H vs ks → vs[i]? = some x → ∃ k, ks[i]? = some k ∧ Kp K H x k
  | _, [], i, x, .nil, h => by simp at h
  | _, k :: ks, 0, x, .cons r _, h => by
    simp at h
    subst h
    exact ⟨k, rfl, r⟩
  | _, k :: ks, i + 1, x, .cons _ t, h => by
    obtain ⟨k', e, r⟩ := Kps.at (ks := ks) (i := i) (x := x) t (by simpa using h)
    exact ⟨k', by simpa using e, r⟩
theorem take_snoc {α : Type} {l : List α} {i : Nat} {x : α} (h : l[i]? = some x) : l.take (i + 1) = l.take i ++ [x] := by rw [List.take_add_one, h]; rfl
end
end N

namespace N
open PySem PySem.Spec PyProof.Rows L2
def topS (i : Nat) : Stmt := PySem.Challenge.pw_endlesskinds_k04_kinds_refused.main.body.getD i (.Pass ⟨0, 0, 0, 0⟩)
abbrev s_is_letter : Stmt := topS 23
abbrev nm_is_letter : List Str := ["thing"]
theorem sc_is_letter : FnScope nm_is_letter ["thing"] (defScope s_is_letter) := ⟨rfl, rfl, rfl, by decide +kernel, rfl, by decide +kernel, by decide +kernel⟩
abbrev s_is_name : Stmt := topS 24
abbrev nm_is_name : List Str := ["thing"]
theorem sc_is_name : FnScope nm_is_name ["thing"] (defScope s_is_name) := ⟨rfl, rfl, rfl, by decide +kernel, rfl, by decide +kernel, by decide +kernel⟩
abbrev s_begins_class_type : Stmt := topS 25
abbrev nm_begins_class_type : List Str := ["thing"]
theorem sc_begins_class_type : FnScope nm_begins_class_type ["thing"] (defScope s_begins_class_type) := ⟨rfl, rfl, rfl, by decide +kernel, rfl, by decide +kernel, by decide +kernel⟩
abbrev s_is_type : Stmt := topS 26
abbrev nm_is_type : List Str := ["thing", "rest", "part"]
theorem sc_is_type : FnScope nm_is_type ["thing"] (defScope s_is_type) := ⟨rfl, rfl, rfl, by decide +kernel, rfl, by decide +kernel, by decide +kernel⟩
abbrev s_check_type : Stmt := topS 27
abbrev nm_check_type : List Str := ["thing"]
theorem sc_check_type : FnScope nm_check_type ["thing"] (defScope s_check_type) := ⟨rfl, rfl, rfl, by decide +kernel, rfl, by decide +kernel, by decide +kernel⟩
abbrev s_parts : Stmt := topS 28
abbrev nm_parts : List Str := ["kind", "found", "rest", "part"]
theorem sc_parts : FnScope nm_parts ["kind"] (defScope s_parts) := ⟨rfl, rfl, rfl, by decide +kernel, rfl, by decide +kernel, by decide +kernel⟩
abbrev s_class_types : Stmt := topS 29
abbrev nm_class_types : List Str := ["kinds", "kind"]
theorem sc_class_types : FnScope nm_class_types ["kinds"] (defScope s_class_types) := ⟨rfl, rfl, rfl, by decide +kernel, rfl, by decide +kernel, by decide +kernel⟩
abbrev s_size_of : Stmt := topS 30
abbrev nm_size_of : List Str := ["kind"]
theorem sc_size_of : FnScope nm_size_of ["kind"] (defScope s_size_of) := ⟨rfl, rfl, rfl, by decide +kernel, rfl, by decide +kernel, by decide +kernel⟩
abbrev s_size : Stmt := topS 31
abbrev nm_size : List Str := ["kind"]
theorem sc_size : FnScope nm_size ["kind"] (defScope s_size) := ⟨rfl, rfl, rfl, by decide +kernel, rfl, by decide +kernel, by decide +kernel⟩
abbrev s_depth_of : Stmt := topS 32
abbrev nm_depth_of : List Str := ["kind", "count", "level", "part", "argument"]
theorem sc_depth_of : FnScope nm_depth_of ["kind"] (defScope s_depth_of) := ⟨rfl, rfl, rfl, by decide +kernel, rfl, by decide +kernel, by decide +kernel⟩
abbrev s_depth : Stmt := topS 33
abbrev nm_depth : List Str := ["kind"]
theorem sc_depth : FnScope nm_depth ["kind"] (defScope s_depth) := ⟨rfl, rfl, rfl, by decide +kernel, rfl, by decide +kernel, by decide +kernel⟩
abbrev s_folded : Stmt := topS 34
abbrev nm_folded : List Str := ["kind", "of_letter", "of_class", "done", "part", "arguments", "_"]
theorem sc_folded : FnScope nm_folded ["kind", "of_letter", "of_class"] (defScope s_folded) := ⟨rfl, rfl, rfl, by decide +kernel, rfl, by decide +kernel, by decide +kernel⟩
abbrev s_filled : Stmt := topS 35
abbrev nm_filled : List Str := ["kind", "values"]
theorem sc_filled : FnScope nm_filled ["kind", "values"] (defScope s_filled) := ⟨rfl, rfl, rfl, by decide +kernel, rfl, by decide +kernel, by decide +kernel⟩
abbrev s_are_values : Stmt := topS 36
abbrev nm_are_values : List Str := ["thing", "letter", "kind"]
theorem sc_are_values : FnScope nm_are_values ["thing"] (defScope s_are_values) := ⟨rfl, rfl, rfl, by decide +kernel, rfl, by decide +kernel, by decide +kernel⟩
abbrev s_fill : Stmt := topS 37
abbrev nm_fill : List Str := ["kind", "values"]
theorem sc_fill : FnScope nm_fill ["kind", "values"] (defScope s_fill) := ⟨rfl, rfl, rfl, by decide +kernel, rfl, by decide +kernel, by decide +kernel⟩
abbrev s_written : Stmt := topS 38
abbrev nm_written : List Str := ["kind", "row", "before", "argument"]
theorem sc_written : FnScope nm_written ["kind"] (defScope s_written) := ⟨rfl, rfl, rfl, by decide +kernel, rfl, by decide +kernel, by decide +kernel⟩
abbrev s_text_of : Stmt := topS 39
abbrev nm_text_of : List Str := ["kind", "pieces", "rest", "part"]
theorem sc_text_of : FnScope nm_text_of ["kind"] (defScope s_text_of) := ⟨rfl, rfl, rfl, by decide +kernel, rfl, by decide +kernel, by decide +kernel⟩
abbrev s_text : Stmt := topS 40
abbrev nm_text : List Str := ["kind"]
theorem sc_text : FnScope nm_text ["kind"] (defScope s_text) := ⟨rfl, rfl, rfl, by decide +kernel, rfl, by decide +kernel, by decide +kernel⟩
abbrev s_Lcell_at : Stmt := topS 42
abbrev nm_Lcell_at : List Str := ["_law_script", "_law_k"]
theorem sc_Lcell_at : FnScope nm_Lcell_at ["_law_script", "_law_k"] (defScope s_Lcell_at) := ⟨rfl, rfl, rfl, by decide +kernel, rfl, by decide +kernel, by decide +kernel⟩
abbrev s_Lpen : Stmt := topS 43
abbrev nm_Lpen : List Str := ["_law_cell"]
theorem sc_Lpen : FnScope nm_Lpen ["_law_cell"] (defScope s_Lpen) := ⟨rfl, rfl, rfl, by decide +kernel, rfl, by decide +kernel, by decide +kernel⟩
abbrev s_Ldraw : Stmt := topS 44
abbrev nm_Ldraw : List Str := ["_law_pen_here", "_law_many", "_law_found", "_law_mixed"]
theorem sc_Ldraw : FnScope nm_Ldraw ["_law_pen_here", "_law_many"] (defScope s_Ldraw) := ⟨rfl, rfl, rfl, by decide +kernel, rfl, by decide +kernel, by decide +kernel⟩
abbrev s_Lsame : Stmt := topS 45
abbrev nm_Lsame : List Str := ["_law_found", "_law_due"]
theorem sc_Lsame : FnScope nm_Lsame ["_law_found", "_law_due"] (defScope s_Lsame) := ⟨rfl, rfl, rfl, by decide +kernel, rfl, by decide +kernel, by decide +kernel⟩
abbrev s_Lpick : Stmt := topS 46
abbrev nm_Lpick : List Str := ["_law_pen_here", "_law_some"]
theorem sc_Lpick : FnScope nm_Lpick ["_law_pen_here", "_law_some"] (defScope s_Lpick) := ⟨rfl, rfl, rfl, by decide +kernel, rfl, by decide +kernel, by decide +kernel⟩
abbrev s_Lword : Stmt := topS 47
abbrev nm_Lword : List Str := ["_law_e", "_law_marks", "_law_names"]
theorem sc_Lword : FnScope nm_Lword ["_law_e"] (defScope s_Lword) := ⟨rfl, rfl, rfl, by decide +kernel, rfl, by decide +kernel, by decide +kernel⟩
abbrev s_Lsaid : Stmt := topS 48
abbrev nm_Lsaid : List Str := ["_law_call", "_law_e", "_law_found"]
theorem sc_Lsaid : FnScope nm_Lsaid ["_law_call"] (defScope s_Lsaid) := ⟨rfl, rfl, rfl, by decide +kernel, rfl, by decide +kernel, by decide +kernel⟩
abbrev s_Lodd : Stmt := topS 49
abbrev nm_Lodd : List Str := ["_law_found"]
theorem sc_Lodd : FnScope nm_Lodd [] (defScope s_Lodd) := ⟨rfl, rfl, rfl, by decide +kernel, rfl, by decide +kernel, by decide +kernel⟩
abbrev s_Lis_kind : Stmt := topS 50
abbrev nm_Lis_kind : List Str := ["_law_thing", "_law_small", "_law_sign", "_law_one"]
theorem sc_Lis_kind : FnScope nm_Lis_kind ["_law_thing"] (defScope s_Lis_kind) := ⟨rfl, rfl, rfl, by decide +kernel, rfl, by decide +kernel, by decide +kernel⟩
abbrev s_Lno_values : Stmt := topS 51
abbrev nm_Lno_values : List Str := ["_law_found"]
theorem sc_Lno_values : FnScope nm_Lno_values [] (defScope s_Lno_values) := ⟨rfl, rfl, rfl, by decide +kernel, rfl, by decide +kernel, by decide +kernel⟩
abbrev s_law : Stmt := topS 52
abbrev nm_law : List Str := ["_law_script", "_law_k", "_law_pen_here", "_law_thing", "_law_held", "_law_kept", "_law_told", "_law_kind"]
theorem sc_law : FnScope nm_law ["_law_script"] (defScope s_law) := ⟨rfl, rfl, rfl, by decide +kernel, rfl, by decide +kernel, by decide +kernel⟩
/-- what the top holds besides its defs -/
structure Glo (mg : Str → Option Value) : Prop where
  isinstance : mg "isinstance" = none
  str : mg "str" = none
  tuple : mg "tuple" = none
  dict : mg "dict" = none
  list : mg "list" = none
  len : mg "len" = none
  all : mg "all" = none
  max : mg "max" = none
  min : mg "min" = none
  range : mg "range" = none
  repr : mg "repr" = none
  sum : mg "sum" = none
  LN : ∃ t, mg "LONGEST_NAME" = some (.int 8 t)
  MA : ∃ t, mg "MOST_ARGUMENTS" = some (.int 2 t)
end N

namespace N
open PySem PySem.Spec PyProof.Rows L2
section
variable {P : Program} {w : World} {K : PySem.W.Frag} {mg : Str → Option Value} {base : Heap}
/-- all but what stands at p is as it was -/
def Bar (p : Addr) (H H' : Hp) : Prop := ∀ b o, b ≠ p → H b = some o → H' b = some o
def Pen (H : Hp) (p : Addr) : Prop := ∃ i j k : Int, H p = some (.lst [.int i, .int j, .int k]) ∧ 0 ≤ i ∧ 0 ≤ j ∧ j < 2147483648
theorem Bar.refl (p : Addr) (H : Hp) : Bar p H H := fun _ _ _ h => h
theorem Bar.trans {p : Addr} {H H1 H2 : Hp} (a : Bar p H H1) (b : Bar p H1 H2) : Bar p H H2 := fun x o n h => b x o n (a x o n h)
theorem bar_same {p : Addr} {H H' : Hp} (a : Same H H') : Bar p H H' := fun x o _ h => a x o h
theorem bar_upd {p : Addr} {H : Hp} (o : HO) : Bar p H (upd H p o) := fun b u n h => by rw [upd_ne n]; exact h
theorem Pen.same {p : Addr} {H H' : Hp} (a : Same H H') (h : Pen H p) : Pen H' p := by
  obtain ⟨i, j, k, e, r⟩ := h
  exact ⟨i, j, k, a _ _ e, r⟩
theorem bar_stay {p : Addr} {H H' : Hp} (a : Bar p H H') (h : Pen H p) (h' : Pen H' p) : Stay K H H' := by
  obtain ⟨i, j, k, e, _⟩ := h
  obtain ⟨i', j', k', e', _⟩ := h'
  refine stay_of (fun b o q => ?_) fun b x q => a b _ (ne_of q e (by intro z; cases z)) q
  by_cases hb : b = p
  · subst hb
    rw [e] at q
    cases q
    exact .inr ⟨_, _, rfl, e'⟩
  · exact .inl (a b o hb q)
theorem bar_seq {p a : Addr} {H H' : Hp} {xs : List V} (b : Bar p H H') (n : a ≠ p) (h : SqL K H a xs) : SqL K H' a xs := by
  rcases h with (h | ⟨o, h⟩) | h
  · exact .inl (.inl (b _ _ n h))
  · exact .inl (.inr ⟨o, b _ _ n h⟩)
  · exact .inr h
theorem pen_free {p q : Addr} {H H' : Hp} (b : Bar p H H') (h : Pen H p) (n : H' q = none) (hq : Pen H' p) : H q = none := by
  cases e : H q with
  | none => rfl
  | some o =>
    obtain ⟨_, _, _, e', _⟩ := hq
    by_cases hb : q = p
    · subst hb; rw [e'] at n; cases n
    · rw [b q o hb e] at n; cases n
def spCell (K : PySem.W.Frag) : Sp := fun vs H Q _ => ∃ (a : Addr) (ns : List Int) (k : Nat), vs = [.ref a, .int k] ∧ SqL K H a (ns.map V.int) ∧ ∀ n : Int, Q (.int n) H
theorem ok_cell (G : Glo mg) (D : DefAt K mg "_law_cell_at" s_Lcell_at ["_law_script", "_law_k"]) : Cal P w K mg base 1 "_law_cell_at" ["_law_script", "_law_k"] (spCell K) := by
  refine D.cal sc_Lcell_at (fun vs H Q E h => ?_) (fun f cdv A outer s H vs Q E hr h => ?_)
  · obtain ⟨a, ns, k, rfl, _⟩ := h
    rfl
  obtain ⟨a, ns, k, rfl, hS, q⟩ := h
  refine ⟨_, pss_cons (ps_if (pt_cmpR op_lt (pv 1) (pe_callB call_len_seq (by rfl) G.len PySem.boot_len (pa_cons (pv 0) pa_nil)) (nomark _)) (pss_one (ps_ret (pe_ix ix_list (pv 0) (pv 1) (fun _ _ => rfl)))) pss_nil) (pss_one (ps_ret pe_int)), ?_⟩
  refine ⟨_, rfl, _, rfl, a, _, rfl, .inl hS, _, _, rfl, rfl, _, rfl, ite2 (fun c => ?_) (fun c => ?_)⟩
  · have c' : ((k : Nat) : Int) < (((ns.map V.int).length : Nat) : Int) := of_decide_eq_true c
    rw [List.length_map] at c'
    have hk : k < ns.length := by omega
    exact ⟨_, rfl, _, rfl, a, _, _, .int ns[k], rfl, rfl, hS, atI_nat (by rw [List.getElem?_map, List.getElem?_eq_getElem hk] <;> rfl), q _⟩
  · exact q 0
def spPen (K : PySem.W.Frag) : Sp := fun vs H Q _ => ∃ n : Int, vs = [.int n] ∧ ∀ p H', Same H H' → H p = none → Pen H' p → Q (.ref p) H'
theorem ok_pen (G : Glo mg) (D : DefAt K mg "_law_pen" s_Lpen ["_law_cell"]) : Cal P w K mg base 1 "_law_pen" ["_law_cell"] (spPen K) := by
  refine D.cal sc_Lpen (fun vs H Q E h => ?_) (fun f cdv A outer s H vs Q E hr h => ?_)
  · obtain ⟨n, rfl, _⟩ := h
    rfl
  obtain ⟨n, rfl, q⟩ := h
  refine ⟨_, pss_one (ps_ret (pe_lst (pa_cons (pe_callB (call_max2 rfl) (by rfl) G.max (by decide +kernel) (pa_cons pe_int (pa_cons (pe_op op_sub (pv 0) (pe_op op_pow pe_int pe_int)) pa_nil)))
    (pa_cons (pe_op op_add (pe_op op_modN (pv 0) pe_int) pe_int) (pa_cons pe_int pa_nil))))), ?_⟩
  refine ⟨_, rfl, _, _, rfl, rfl, ⟨by decide, by decide, by decide⟩, _, _, rfl, rfl, _, _, rfl, ?_⟩
  refine ⟨_, rfl, _, _, rfl, rfl, (by show (2147483629 : Int) ≠ 0; decide), _, _, rfl, rfl, by show 3 ≤ sizeLine; decide, fun p hp => ?_⟩
  refine q p _ (same_new hp _) hp ⟨_, _, _, upd_same, ?_, ?_, ?_⟩
  · split <;> omega
  · rw [Int.fmod_eq_emod_of_nonneg _ (by decide)]; omega
  · rw [Int.fmod_eq_emod_of_nonneg _ (by decide)]; omega
def spDraw (K : PySem.W.Frag) : Sp := fun vs H Q _ => ∃ (p : Addr) (n : Int), vs = [.ref p, .int n] ∧ Pen H p ∧ 0 < n ∧ n < 1073741824 ∧ ∀ H' r, Bar p H H' → Pen H' p → 0 ≤ r → r < n → Q (.int r) H'
theorem ok_draw (D : DefAt K mg "_law_draw" s_Ldraw ["_law_pen_here", "_law_many"]) : Cal P w K mg base 1 "_law_draw" ["_law_pen_here", "_law_many"] (spDraw K) := by
  refine D.cal sc_Ldraw (fun vs H Q E h => ?_) (fun f cdv A outer s H vs Q E hr h => ?_)
  · obtain ⟨p, n, rfl, _⟩ := h
    rfl
  obtain ⟨p, n, rfl, ⟨i, j, k, e, hi, hj, hj2⟩, hn, hn2, q⟩ := h
  refine ⟨_, pss_cons (ps_if (pt_cmpR op_gt (pe_ix ix_list (pv 0) pe_int (fun _ _ => rfl)) pe_int (nomark _))
      (pss_cons (ps_set (i := 2) sc_Ldraw.nd rfl (Or.inl rfl) (pe_op op_modN (pe_ix ix_list (pv 0) pe_int (fun _ _ => rfl)) (pv 1)))
      (pss_cons (ps_asg (pe_op op_fdivN (pe_ix ix_list (pv 0) pe_int (fun _ _ => rfl)) (pv 1)) (pg_sub (pv 0) pe_int set_list)) (pss_one (ps_ret (pv 2))))) pss_nil)
    (pss_cons (ps_asg (pe_op op_add (pe_ix ix_list (pv 0) pe_int (fun _ _ => rfl)) pe_int) (pg_sub (pv 0) pe_int set_list))
    (pss_cons (ps_asg (pe_op op_modN (pe_op op_add (pe_op op_add (pe_op op_mul (pe_ix ix_list (pv 0) pe_int (fun _ _ => rfl)) pe_int) (pe_op op_mul pe_int (pe_ix ix_list (pv 0) pe_int (fun _ _ => rfl)))) pe_int) pe_int) (pg_sub (pv 0) pe_int set_list))
    (pss_cons (ps_set (i := 3) sc_Ldraw.nd rfl (Or.inl rfl) (pe_op op_modN (pe_op op_add (pe_op op_add (pe_op op_mul (pe_ix ix_list (pv 0) pe_int (fun _ _ => rfl)) (pe_ix ix_list (pv 0) pe_int (fun _ _ => rfl))) (pe_op op_mul pe_int (pe_ix ix_list (pv 0) pe_int (fun _ _ => rfl)))) pe_int) pe_int))
    (pss_cons (ps_set (i := 3) sc_Ldraw.nd rfl (Or.inl rfl) (pe_op op_modN (pe_op op_add (pe_op op_mul (pv 3) (pv 3)) (pe_op op_mul pe_int (pv 3))) pe_int))
    (pss_one (ps_ret (pe_op op_modN (pe_op op_fdivN (pv 3) pe_int) (pv 1)))))))), ?_⟩
  refine ⟨_, rfl, p, _, 0, .int i, rfl, rfl, SqL.of e, atI_nat (j := 0) rfl, _, _, rfl, rfl, _, rfl, ite2 (fun c => ?_) (fun c => ?_)⟩
  · have c' : i > 0 := of_decide_eq_true c
    refine ⟨_, rfl, p, _, 0, .int i, rfl, rfl, SqL.of e, atI_nat (j := 0) rfl, _, rfl, _, _, rfl, rfl, (by show n ≠ 0; omega), ?_⟩
    refine ⟨_, rfl, p, _, 0, .int i, rfl, rfl, SqL.of e, atI_nat (j := 0) rfl, _, rfl, _, _, rfl, rfl, ⟨by omega, by omega⟩, ?_⟩
    refine ⟨_, rfl, p, _, 0, 0, rfl, rfl, e, rfl, ?_⟩
    refine ⟨_, rfl, q _ _ (bar_upd _) ⟨_, j, k, upd_same, ?_, hj, hj2⟩ ?_ ?_⟩
    · rw [Int.fdiv_eq_ediv_of_nonneg _ (by omega)]
      exact Int.ediv_nonneg hi (by omega)
    · rw [Int.fmod_eq_emod_of_nonneg _ (by omega)]
      exact Int.emod_nonneg _ (by omega)
    · rw [Int.fmod_eq_emod_of_nonneg _ (by omega)]
      exact Int.emod_lt_of_pos _ hn
  · refine ⟨_, rfl, p, _, 2, .int k, rfl, rfl, SqL.of e, atI_nat (j := 2) rfl, _, _, rfl, rfl, ?_⟩
    refine ⟨_, rfl, p, _, 2, 2, rfl, rfl, e, rfl, ?_⟩
    have e1 : (upd H p (.lst ([.int i, .int j, .int k].set 2 (.int (k + 1))))) p = some (.lst [.int i, .int j, .int (k + 1)]) := upd_same
    refine ⟨_, rfl, p, _, 1, .int j, rfl, rfl, SqL.of e1, atI_nat (j := 1) rfl, _, _, rfl, rfl, .inl ⟨by omega, by omega⟩, ?_⟩
    refine ⟨_, rfl, p, _, 2, .int (k + 1), rfl, rfl, SqL.of e1, atI_nat (j := 2) rfl, _, _, rfl, rfl, .inl ⟨by decide, by decide⟩, _, _, rfl, rfl, _, _, rfl, rfl, _, _, rfl, rfl, (by show (2147483647 : Int) ≠ 0; decide), ?_⟩
    have hj0 : 0 ≤ ((j * 48271 + 1009 * (k + 1) + 7).fmod 2147483647) ∧ ((j * 48271 + 1009 * (k + 1) + 7).fmod 2147483647) < 2147483648 := by rw [Int.fmod_eq_emod_of_nonneg _ (by decide)]; omega
    dsimp only
    revert hj0
    generalize (j * 48271 + 1009 * (k + 1) + 7).fmod 2147483647 = j'
    intro hj'
    refine ⟨_, rfl, p, _, 1, 1, rfl, rfl, e1, rfl, ?_⟩
    have e2 : (upd (upd H p (.lst ([.int i, .int j, .int k].set 2 (.int (k + 1))))) p (.lst (([.int i, .int j, .int (k + 1)] : List V).set 1 (.int j')))) p = some (.lst [.int i, .int j', .int (k + 1)]) := upd_same
    have b2 : Bar p H (upd (upd H p (.lst ([.int i, .int j, .int k].set 2 (.int (k + 1))))) p (.lst (([.int i, .int j, .int (k + 1)] : List V).set 1 (.int j')))) := (bar_upd _).trans (bar_upd _)
    refine ⟨_, rfl, p, _, 1, .int j', rfl, rfl, SqL.of e2, atI_nat (j := 1) rfl, ?_⟩
    refine ⟨_, rfl, p, _, 1, .int j', rfl, rfl, SqL.of e2, atI_nat (j := 1) rfl, _, _, rfl, rfl, .inl ⟨by omega, by omega⟩, ?_⟩
    refine ⟨_, rfl, p, _, 1, .int j', rfl, rfl, SqL.of e2, atI_nat (j := 1) rfl, _, _, rfl, rfl, .inl ⟨by decide, by decide⟩, _, _, rfl, rfl, _, _, rfl, rfl, _, _, rfl, rfl, (by show (2147483629 : Int) ≠ 0; decide), ?_⟩
    have hm0 : 0 ≤ ((j' * j' + 69621 * j' + 11).fmod 2147483629) ∧ ((j' * j' + 69621 * j' + 11).fmod 2147483629) < 2147483648 := by rw [Int.fmod_eq_emod_of_nonneg _ (by decide)]; omega
    dsimp only
    revert hm0
    generalize (j' * j' + 69621 * j' + 11).fmod 2147483629 = m
    intro hm
    refine ⟨_, rfl, _, rfl, _, _, rfl, rfl, .inl ⟨by omega, by omega⟩, _, rfl, _, _, rfl, rfl, .inl ⟨by decide, by decide⟩, _, _, rfl, rfl, _, _, rfl, rfl, (by show (2147483587 : Int) ≠ 0; decide), ?_⟩
    refine ⟨_, rfl, _, _, rfl, rfl, ⟨by decide, by decide⟩, _, rfl, _, _, rfl, rfl, (by show n ≠ 0; omega), q _ _ b2 ⟨i, j', k + 1, e2, hi, hj'⟩ ?_ ?_⟩
    · rw [Int.fmod_eq_emod_of_nonneg _ (by omega)]
      exact Int.emod_nonneg _ (by omega)
    · rw [Int.fmod_eq_emod_of_nonneg _ (by omega)]
      exact Int.emod_lt_of_pos _ hn
end
end N

namespace N
open PySem PySem.Spec PyProof.Rows L2
section
variable {P : Program} {w : World} {K : PySem.W.Frag} {mg : Str → Option Value} {base : Heap}
def spPick (K : PySem.W.Frag) : Sp := fun vs H Q _ => ∃ (p a : Addr) (xs : List V), vs = [.ref p, .ref a] ∧ Pen H p ∧ a ≠ p ∧ SqL K H a xs ∧ 0 < xs.length ∧ xs.length ≤ 1000 ∧ ∀ H' x, Bar p H H' → Pen H' p → x ∈ xs → Q x H'
theorem ok_pick (G : Glo mg) (CD : Cal P w K mg base 1 "_law_draw" ["_law_pen_here", "_law_many"] (spDraw K)) (D : DefAt K mg "_law_pick" s_Lpick ["_law_pen_here", "_law_some"]) : Cal P w K mg base 2 "_law_pick" ["_law_pen_here", "_law_some"] (spPick K) := by
  refine D.cal sc_Lpick (fun vs H Q E h => ?_) (fun f cdv A outer s H vs Q E hr h => ?_)
  · obtain ⟨p, a, xs, rfl, _⟩ := h
    rfl
  obtain ⟨p, a, xs, rfl, hp, hne, hS, h0, h1, q⟩ := h
  refine ⟨_, pss_one (ps_ret (pe_ix ix_list (pv 1) (pc CD hr rfl (pa_cons (pv 0) (pa_cons (pe_callB call_len_seq (by rfl) G.len PySem.boot_len (pa_cons (pv 1) pa_nil)) pa_nil))) (fun _ _ => rfl))), ?_⟩
  refine ⟨_, rfl, _, rfl, _, rfl, a, _, rfl, .inl hS, p, _, rfl, hp, by omega, by omega, fun H' r b pn r0 r1 => ?_⟩
  have hk : r.toNat < xs.length := by omega
  have er : r = ((r.toNat : Nat) : Int) := by omega
  refine ⟨a, xs, r, xs[r.toNat], rfl, rfl, bar_seq b hne hS, ?_, q H' _ b pn (List.getElem_mem hk)⟩
  have := atI_nat (xs := xs) (List.getElem?_eq_getElem hk)
  rw [← er] at this
  exact this
end
end N

namespace N
open PySem PySem.Spec PyProof.Rows L2
section
variable {X : Cx}
/-- list.count of a flat item among flat items -/
def rCnt (K : PySem.W.Frag) : V → List V → Hp → VK → Prop := fun x xs H Q => ∃ (p : Addr) (ys : List V) (y : V), x = .ref p ∧ xs = [y] ∧ SqL K H p ys ∧ flatV y = true ∧ ys.all flatV = true ∧ Q (.int ((ys.countP fun z => eqV z y : Nat))) H
theorem count_of {y : V} : ∀ {ys : List V} {us : List Value}, Vals ys us → ys.all flatV = true → us.countP (eqU y) = ys.countP fun z => eqV z y
  | _, _, .nil, _ => rfl
  | z :: ys, _, .cons r t, h => by
    rw [List.all_cons, Bool.and_eq_true] at h
    rw [List.countP_cons, List.countP_cons, count_of t h.2, eqU_of r h.1]
theorem mt_cnt : MtR X "list.count" (rCnt X.K) := by
  intro pins s σ H x xs v us Q I rx rxs h
  obtain ⟨p, ys, y, rfl, rfl, hs, fy, fys, q⟩ := h
  cases rx
  obtain ⟨uy, rfl, ry⟩ := rxs.one
  obtain ⟨its, rv, ⟨⟨cls, dd, data, sl⟩, n, ho, hc, hdn, hd⟩, hlen⟩ := I.list hs
  simp only at hc hd
  subst hc hd
  refine call_meets PySem.F.slot_list_count ⟨_, ho, rfl⟩ PySem.F.entry_list_count (PySem.F.args_list_count_2 _ _)
    (SeqAt.list_countAt p its.toArray n dd sl uy (eqU y)) ⟨ho, fun u' hu' => mem_eqAt ry fy rv fys u' (by simpa using hu'), ?_⟩
  have ec : its.toArray.toList.countP (eqU y) = ys.countP fun z => eqV z y := count_of rv fys
  refine ⟨.int ((ys.countP fun z => eqV z y : Nat)), H, I.tok _, ⟨s.toks, ?_⟩, q⟩
  show Value.int ((its.toArray.toList.countP (eqU y) : Nat) : Int) s.toks = _
  rw [ec]
end
end N

namespace N
open PySem PySem.Spec PyProof.Rows L2
/-! ### the eighteen classes, and word -/
def exA : List Str := ["NoType", "NoValues", "NoText", "NoClass", "NoTable", "NoName", "NoMost", "NoRoots", "NoRoot", "NoDeed"]
def exB : List Str := ["TooMany", "Crowded", "NothingDone", "Unfit", "Looped", "Turned", "Endless", "Clash"]
def exN (j : Nat) : Str := (exA ++ exB).getD j ""
structure Kls (K : PySem.W.Frag) (mg : Str → Option Value) (c : Nat → Addr) : Prop where
  gl : ∀ j, j < 18 → mg (exN j) = some (.ref (c j))
  ex : ∀ j, j < 18 → ExcC K (c j)
  kit : ∀ i j, i < 18 → j < 18 → PySem.W.kitOne K (.ref (c i)) (.ref (c j)) = some (decide (i = j))
  ve : ∀ i, i < 18 → PySem.W.kitOne K (.ref (c i)) (.type "ValueError") = some true
  ke : ∃ e, mg "KindError" = some (.ref e) ∧ ∀ i, i < 18 → PySem.W.kitOne K (.ref (c i)) (.ref e) = some true
section
variable {P : Program} {w : World} {K : PySem.W.Frag} {mg : Str → Option Value} {base : Heap} {c : Nat → Addr}
theorem isx_q (Kl : Kls K mg c) {H : Hp} {v : V} {i : Nat} {fs : List (Str × V)} (j : Nat) {Q : VK} (hx : ExP H v (c i) fs) (hi : i < 18) (q : Q (.bl (decide (i = j))) H) (hj : j < 18 := by decide) : rIsX K [v, .ref (c j)] H Q :=
  ⟨v, .ref (c j), c i, fs, .ref (c j), _, rfl, hx, Kl.ex i hi, fun u r => r, Kl.kit i j hi hj, q⟩
def mks (i : Nat) : List V := (List.range 18).map fun j => V.bl (decide (i = j))
theorem mks_cnt : ∀ i, i < 18 → (mks i).countP (fun z => eqV z (.bl true)) = 1 := by decide +kernel
theorem mks_at : ∀ i, i < 18 → (mks i)[i]? = some (.bl true) := by
  intro i hi
  unfold mks
  rw [List.getElem?_map, List.getElem?_range hi]
  simp
theorem mks_no : ∀ (i m : Nat) (z : V), i < 18 → m < i → (mks i)[m]? = some z → eqV z (.bl true) = false := by
  intro i m z hi hm h
  unfold mks at h
  rw [List.getElem?_map, List.getElem?_range (by omega)] at h
  cases h
  show eqV (V.bl (decide (i = m))) (.bl true) = false
  rw [decide_eq_false (by omega : ¬ i = m)]
  rfl
theorem mks_flat : ∀ i, i < 18 → (mks i).all flatV = true := by decide +kernel
theorem nm_at : ∀ i, i < 18 → ((exA ++ exB).map V.str)[i]? = some (.str (exN i)) := by
  intro i hi
  rw [List.getElem?_map]
  unfold exN
  rw [List.getD_eq_getElem?_getD, List.getElem?_eq_getElem (show i < (exA ++ exB).length from hi)]
  rfl
/-- word: the name of e's class -/
def spWord (K : PySem.W.Frag) (c : Nat → Addr) : Sp := fun vs H Q _ => ∃ (v : V) (i : Nat) (fs : List (Str × V)), vs = [v] ∧ i < 18 ∧ ExP H v (c i) fs ∧ ∀ H', Same H H' → Q (.str (exN i)) H'
theorem ok_word (G : Glo mg) (Kl : Kls K mg c) (hve : mg "ValueError" = none) (D : DefAt K mg "_law_word" s_Lword ["_law_e"]) : Cal P w K mg base 1 "_law_word" ["_law_e"] (spWord K c) := by
  refine D.cal sc_Lword (fun vs H Q E h => ?_) (fun f cdv A outer s H vs Q E hr h => ?_)
  · obtain ⟨v, i, fs, rfl, _⟩ := h
    rfl
  obtain ⟨v, i, fs, rfl, hi, hx, q⟩ := h
  have g := Kl.gl
  refine ⟨_, (pss_cons (ps_set (i := 1) sc_Lword.nd rfl (Or.inl rfl) (pe_lst (pa_cons (pe_callB call_isX (by rfl) G.isinstance (by decide +kernel) (pa_cons (pv 0) (pa_cons (pe_glob (v := .ref (c 0)) (by rfl) (g 0 (by decide)) rfl) pa_nil))) (pa_cons (pe_callB call_isX (by rfl) G.isinstance (by decide +kernel) (pa_cons (pv 0) (pa_cons (pe_glob (v := .ref (c 1)) (by rfl) (g 1 (by decide)) rfl) pa_nil))) (pa_cons (pe_callB call_isX (by rfl) G.isinstance (by decide +kernel) (pa_cons (pv 0) (pa_cons (pe_glob (v := .ref (c 2)) (by rfl) (g 2 (by decide)) rfl) pa_nil))) (pa_cons (pe_callB call_isX (by rfl) G.isinstance (by decide +kernel) (pa_cons (pv 0) (pa_cons (pe_glob (v := .ref (c 3)) (by rfl) (g 3 (by decide)) rfl) pa_nil))) pa_nil))))))
    (pss_cons (ps_set (i := 1) sc_Lword.nd rfl (Or.inl rfl) (pe_op op_cat (pv 1) (pe_lst (pa_cons (pe_callB call_isX (by rfl) G.isinstance (by decide +kernel) (pa_cons (pv 0) (pa_cons (pe_glob (v := .ref (c 4)) (by rfl) (g 4 (by decide)) rfl) pa_nil))) (pa_cons (pe_callB call_isX (by rfl) G.isinstance (by decide +kernel) (pa_cons (pv 0) (pa_cons (pe_glob (v := .ref (c 5)) (by rfl) (g 5 (by decide)) rfl) pa_nil))) (pa_cons (pe_callB call_isX (by rfl) G.isinstance (by decide +kernel) (pa_cons (pv 0) (pa_cons (pe_glob (v := .ref (c 6)) (by rfl) (g 6 (by decide)) rfl) pa_nil))) (pa_cons (pe_callB call_isX (by rfl) G.isinstance (by decide +kernel) (pa_cons (pv 0) (pa_cons (pe_glob (v := .ref (c 7)) (by rfl) (g 7 (by decide)) rfl) pa_nil))) pa_nil)))))))
    (pss_cons (ps_set (i := 1) sc_Lword.nd rfl (Or.inl rfl) (pe_op op_cat (pv 1) (pe_lst (pa_cons (pe_callB call_isX (by rfl) G.isinstance (by decide +kernel) (pa_cons (pv 0) (pa_cons (pe_glob (v := .ref (c 8)) (by rfl) (g 8 (by decide)) rfl) pa_nil))) (pa_cons (pe_callB call_isX (by rfl) G.isinstance (by decide +kernel) (pa_cons (pv 0) (pa_cons (pe_glob (v := .ref (c 9)) (by rfl) (g 9 (by decide)) rfl) pa_nil))) (pa_cons (pe_callB call_isX (by rfl) G.isinstance (by decide +kernel) (pa_cons (pv 0) (pa_cons (pe_glob (v := .ref (c 10)) (by rfl) (g 10 (by decide)) rfl) pa_nil))) (pa_cons (pe_callB call_isX (by rfl) G.isinstance (by decide +kernel) (pa_cons (pv 0) (pa_cons (pe_glob (v := .ref (c 11)) (by rfl) (g 11 (by decide)) rfl) pa_nil))) pa_nil)))))))
    (pss_cons (ps_set (i := 1) sc_Lword.nd rfl (Or.inl rfl) (pe_op op_cat (pv 1) (pe_lst (pa_cons (pe_callB call_isX (by rfl) G.isinstance (by decide +kernel) (pa_cons (pv 0) (pa_cons (pe_glob (v := .ref (c 12)) (by rfl) (g 12 (by decide)) rfl) pa_nil))) (pa_cons (pe_callB call_isX (by rfl) G.isinstance (by decide +kernel) (pa_cons (pv 0) (pa_cons (pe_glob (v := .ref (c 13)) (by rfl) (g 13 (by decide)) rfl) pa_nil))) (pa_cons (pe_callB call_isX (by rfl) G.isinstance (by decide +kernel) (pa_cons (pv 0) (pa_cons (pe_glob (v := .ref (c 14)) (by rfl) (g 14 (by decide)) rfl) pa_nil))) (pa_cons (pe_callB call_isX (by rfl) G.isinstance (by decide +kernel) (pa_cons (pv 0) (pa_cons (pe_glob (v := .ref (c 15)) (by rfl) (g 15 (by decide)) rfl) pa_nil))) pa_nil)))))))
    (pss_cons (ps_set (i := 1) sc_Lword.nd rfl (Or.inl rfl) (pe_op op_cat (pv 1) (pe_lst (pa_cons (pe_callB call_isX (by rfl) G.isinstance (by decide +kernel) (pa_cons (pv 0) (pa_cons (pe_glob (v := .ref (c 16)) (by rfl) (g 16 (by decide)) rfl) pa_nil))) (pa_cons (pe_callB call_isX (by rfl) G.isinstance (by decide +kernel) (pa_cons (pv 0) (pa_cons (pe_glob (v := .ref (c 17)) (by rfl) (g 17 (by decide)) rfl) pa_nil))) pa_nil)))))
    (pss_cons (ps_set (i := 2) sc_Lword.nd rfl (Or.inl rfl) (pe_lst (pa_cons pe_str (pa_cons pe_str (pa_cons pe_str (pa_cons pe_str (pa_cons pe_str (pa_cons pe_str (pa_cons pe_str (pa_cons pe_str (pa_cons pe_str (pa_cons pe_str pa_nil))))))))))))
    (pss_cons (ps_set (i := 2) sc_Lword.nd rfl (Or.inl rfl) (pe_op op_cat (pv 2) (pe_lst (pa_cons pe_str (pa_cons pe_str (pa_cons pe_str (pa_cons pe_str (pa_cons pe_str (pa_cons pe_str (pa_cons pe_str (pa_cons pe_str pa_nil)))))))))))
    (pss_cons (ps_if (PW.pt (pw_or (pt_cmpR op_ne (pe_bm PySem.F.plainAttrs_list PySem.F.slot_list_count PySem.F.type_list_count mt_cnt (pv 1) (pa_cons pe_bl pa_nil)) pe_int (nomark _)) (pw_or1 (pt_not (pt_val (pe_callB call_isX (by rfl) G.isinstance (by decide +kernel) (pa_cons (pv 0) (pa_cons (pe_bltn (v := .ty "ValueError") (by rfl) hve (by decide +kernel) rfl) pa_nil)))))))) (pss_one (ps_ret pe_str)) pss_nil)
    (pss_one (ps_ret (pe_ix ix_list (pv 2) (pe_bm PySem.F.plainAttrs_list PySem.F.slot_list_index PySem.F.type_list_index mt_index (pv 1) (pa_cons pe_bl pa_nil)) (fun _ _ => rfl)))))))))))), ?_⟩
  have len : ∀ n, n ≤ 18 → n ≤ sizeLine := fun n h => by rw [sizeLine_eq]; omega
  refine ⟨v, rfl, v, .ref (c 0), c i, fs, .ref (c 0), _, rfl, hx, Kl.ex i hi, fun u r => r, Kl.kit i 0 hi (by decide), ⟨v, rfl, v, .ref (c 1), c i, fs, .ref (c 1), _, rfl, hx, Kl.ex i hi, fun u r => r, Kl.kit i 1 hi (by decide), ⟨v, rfl, v, .ref (c 2), c i, fs, .ref (c 2), _, rfl, hx, Kl.ex i hi, fun u r => r, Kl.kit i 2 hi (by decide), ⟨v, rfl, v, .ref (c 3), c i, fs, .ref (c 3), _, rfl, hx, Kl.ex i hi, fun u r => r, Kl.kit i 3 hi (by decide), ⟨len 4 (by decide), fun a1 h1 => ?_⟩⟩⟩⟩⟩
  have s1 : Same H (upd H a1 (.lst [V.bl (decide (i = 0)), V.bl (decide (i = 1)), V.bl (decide (i = 2)), V.bl (decide (i = 3))])) := same_new h1 _
  have l1 : (upd H a1 (.lst [V.bl (decide (i = 0)), V.bl (decide (i = 1)), V.bl (decide (i = 2)), V.bl (decide (i = 3))])) a1 = some (.lst [V.bl (decide (i = 0)), V.bl (decide (i = 1)), V.bl (decide (i = 2)), V.bl (decide (i = 3))]) := upd_same
  revert s1 l1
  generalize upd H a1 (.lst [V.bl (decide (i = 0)), V.bl (decide (i = 1)), V.bl (decide (i = 2)), V.bl (decide (i = 3))]) = H1
  intro s1 l1
  refine ⟨_, rfl, ⟨v, rfl, v, .ref (c 4), c i, fs, .ref (c 4), _, rfl, (hx.same s1), Kl.ex i hi, fun u r => r, Kl.kit i 4 hi (by decide), ⟨v, rfl, v, .ref (c 5), c i, fs, .ref (c 5), _, rfl, (hx.same s1), Kl.ex i hi, fun u r => r, Kl.kit i 5 hi (by decide), ⟨v, rfl, v, .ref (c 6), c i, fs, .ref (c 6), _, rfl, (hx.same s1), Kl.ex i hi, fun u r => r, Kl.kit i 6 hi (by decide), ⟨v, rfl, v, .ref (c 7), c i, fs, .ref (c 7), _, rfl, (hx.same s1), Kl.ex i hi, fun u r => r, Kl.kit i 7 hi (by decide), ⟨len 4 (by decide), fun b1 g1 => ?_⟩⟩⟩⟩⟩⟩
  refine ⟨a1, b1, _, _, rfl, rfl, same_new g1 _ _ _ l1, upd_same, len 8 (by decide), fun a2 h2 => ?_⟩
  have s2 : Same H (upd (upd H1 b1 (.lst [V.bl (decide (i = 4)), V.bl (decide (i = 5)), V.bl (decide (i = 6)), V.bl (decide (i = 7))])) a2 (.lst ([V.bl (decide (i = 0)), V.bl (decide (i = 1)), V.bl (decide (i = 2)), V.bl (decide (i = 3))] ++ [V.bl (decide (i = 4)), V.bl (decide (i = 5)), V.bl (decide (i = 6)), V.bl (decide (i = 7))]))) := (s1.trans (same_new g1 _)).trans (same_new h2 _)
  have l2 : (upd (upd H1 b1 (.lst [V.bl (decide (i = 4)), V.bl (decide (i = 5)), V.bl (decide (i = 6)), V.bl (decide (i = 7))])) a2 (.lst ([V.bl (decide (i = 0)), V.bl (decide (i = 1)), V.bl (decide (i = 2)), V.bl (decide (i = 3))] ++ [V.bl (decide (i = 4)), V.bl (decide (i = 5)), V.bl (decide (i = 6)), V.bl (decide (i = 7))]))) a2 = some (.lst ([V.bl (decide (i = 0)), V.bl (decide (i = 1)), V.bl (decide (i = 2)), V.bl (decide (i = 3))] ++ [V.bl (decide (i = 4)), V.bl (decide (i = 5)), V.bl (decide (i = 6)), V.bl (decide (i = 7))])) := upd_same
  revert s2 l2
  generalize (upd (upd H1 b1 (.lst [V.bl (decide (i = 4)), V.bl (decide (i = 5)), V.bl (decide (i = 6)), V.bl (decide (i = 7))])) a2 (.lst ([V.bl (decide (i = 0)), V.bl (decide (i = 1)), V.bl (decide (i = 2)), V.bl (decide (i = 3))] ++ [V.bl (decide (i = 4)), V.bl (decide (i = 5)), V.bl (decide (i = 6)), V.bl (decide (i = 7))]))) = H2
  intro s2 l2
  refine ⟨_, rfl, ⟨v, rfl, v, .ref (c 8), c i, fs, .ref (c 8), _, rfl, (hx.same s2), Kl.ex i hi, fun u r => r, Kl.kit i 8 hi (by decide), ⟨v, rfl, v, .ref (c 9), c i, fs, .ref (c 9), _, rfl, (hx.same s2), Kl.ex i hi, fun u r => r, Kl.kit i 9 hi (by decide), ⟨v, rfl, v, .ref (c 10), c i, fs, .ref (c 10), _, rfl, (hx.same s2), Kl.ex i hi, fun u r => r, Kl.kit i 10 hi (by decide), ⟨v, rfl, v, .ref (c 11), c i, fs, .ref (c 11), _, rfl, (hx.same s2), Kl.ex i hi, fun u r => r, Kl.kit i 11 hi (by decide), ⟨len 4 (by decide), fun b2 g2 => ?_⟩⟩⟩⟩⟩⟩
  refine ⟨a2, b2, _, _, rfl, rfl, same_new g2 _ _ _ l2, upd_same, len 12 (by decide), fun a3 h3 => ?_⟩
  have s3 : Same H (upd (upd H2 b2 (.lst [V.bl (decide (i = 8)), V.bl (decide (i = 9)), V.bl (decide (i = 10)), V.bl (decide (i = 11))])) a3 (.lst (([V.bl (decide (i = 0)), V.bl (decide (i = 1)), V.bl (decide (i = 2)), V.bl (decide (i = 3))] ++ [V.bl (decide (i = 4)), V.bl (decide (i = 5)), V.bl (decide (i = 6)), V.bl (decide (i = 7))]) ++ [V.bl (decide (i = 8)), V.bl (decide (i = 9)), V.bl (decide (i = 10)), V.bl (decide (i = 11))]))) := (s2.trans (same_new g2 _)).trans (same_new h3 _)
  have l3 : (upd (upd H2 b2 (.lst [V.bl (decide (i = 8)), V.bl (decide (i = 9)), V.bl (decide (i = 10)), V.bl (decide (i = 11))])) a3 (.lst (([V.bl (decide (i = 0)), V.bl (decide (i = 1)), V.bl (decide (i = 2)), V.bl (decide (i = 3))] ++ [V.bl (decide (i = 4)), V.bl (decide (i = 5)), V.bl (decide (i = 6)), V.bl (decide (i = 7))]) ++ [V.bl (decide (i = 8)), V.bl (decide (i = 9)), V.bl (decide (i = 10)), V.bl (decide (i = 11))]))) a3 = some (.lst (([V.bl (decide (i = 0)), V.bl (decide (i = 1)), V.bl (decide (i = 2)), V.bl (decide (i = 3))] ++ [V.bl (decide (i = 4)), V.bl (decide (i = 5)), V.bl (decide (i = 6)), V.bl (decide (i = 7))]) ++ [V.bl (decide (i = 8)), V.bl (decide (i = 9)), V.bl (decide (i = 10)), V.bl (decide (i = 11))])) := upd_same
  revert s3 l3
  generalize (upd (upd H2 b2 (.lst [V.bl (decide (i = 8)), V.bl (decide (i = 9)), V.bl (decide (i = 10)), V.bl (decide (i = 11))])) a3 (.lst (([V.bl (decide (i = 0)), V.bl (decide (i = 1)), V.bl (decide (i = 2)), V.bl (decide (i = 3))] ++ [V.bl (decide (i = 4)), V.bl (decide (i = 5)), V.bl (decide (i = 6)), V.bl (decide (i = 7))]) ++ [V.bl (decide (i = 8)), V.bl (decide (i = 9)), V.bl (decide (i = 10)), V.bl (decide (i = 11))]))) = H3
  intro s3 l3
  refine ⟨_, rfl, ⟨v, rfl, v, .ref (c 12), c i, fs, .ref (c 12), _, rfl, (hx.same s3), Kl.ex i hi, fun u r => r, Kl.kit i 12 hi (by decide), ⟨v, rfl, v, .ref (c 13), c i, fs, .ref (c 13), _, rfl, (hx.same s3), Kl.ex i hi, fun u r => r, Kl.kit i 13 hi (by decide), ⟨v, rfl, v, .ref (c 14), c i, fs, .ref (c 14), _, rfl, (hx.same s3), Kl.ex i hi, fun u r => r, Kl.kit i 14 hi (by decide), ⟨v, rfl, v, .ref (c 15), c i, fs, .ref (c 15), _, rfl, (hx.same s3), Kl.ex i hi, fun u r => r, Kl.kit i 15 hi (by decide), ⟨len 4 (by decide), fun b3 g3 => ?_⟩⟩⟩⟩⟩⟩
  refine ⟨a3, b3, _, _, rfl, rfl, same_new g3 _ _ _ l3, upd_same, len 16 (by decide), fun a4 h4 => ?_⟩
  have s4 : Same H (upd (upd H3 b3 (.lst [V.bl (decide (i = 12)), V.bl (decide (i = 13)), V.bl (decide (i = 14)), V.bl (decide (i = 15))])) a4 (.lst ((([V.bl (decide (i = 0)), V.bl (decide (i = 1)), V.bl (decide (i = 2)), V.bl (decide (i = 3))] ++ [V.bl (decide (i = 4)), V.bl (decide (i = 5)), V.bl (decide (i = 6)), V.bl (decide (i = 7))]) ++ [V.bl (decide (i = 8)), V.bl (decide (i = 9)), V.bl (decide (i = 10)), V.bl (decide (i = 11))]) ++ [V.bl (decide (i = 12)), V.bl (decide (i = 13)), V.bl (decide (i = 14)), V.bl (decide (i = 15))]))) := (s3.trans (same_new g3 _)).trans (same_new h4 _)
  have l4 : (upd (upd H3 b3 (.lst [V.bl (decide (i = 12)), V.bl (decide (i = 13)), V.bl (decide (i = 14)), V.bl (decide (i = 15))])) a4 (.lst ((([V.bl (decide (i = 0)), V.bl (decide (i = 1)), V.bl (decide (i = 2)), V.bl (decide (i = 3))] ++ [V.bl (decide (i = 4)), V.bl (decide (i = 5)), V.bl (decide (i = 6)), V.bl (decide (i = 7))]) ++ [V.bl (decide (i = 8)), V.bl (decide (i = 9)), V.bl (decide (i = 10)), V.bl (decide (i = 11))]) ++ [V.bl (decide (i = 12)), V.bl (decide (i = 13)), V.bl (decide (i = 14)), V.bl (decide (i = 15))]))) a4 = some (.lst ((([V.bl (decide (i = 0)), V.bl (decide (i = 1)), V.bl (decide (i = 2)), V.bl (decide (i = 3))] ++ [V.bl (decide (i = 4)), V.bl (decide (i = 5)), V.bl (decide (i = 6)), V.bl (decide (i = 7))]) ++ [V.bl (decide (i = 8)), V.bl (decide (i = 9)), V.bl (decide (i = 10)), V.bl (decide (i = 11))]) ++ [V.bl (decide (i = 12)), V.bl (decide (i = 13)), V.bl (decide (i = 14)), V.bl (decide (i = 15))])) := upd_same
  revert s4 l4
  generalize (upd (upd H3 b3 (.lst [V.bl (decide (i = 12)), V.bl (decide (i = 13)), V.bl (decide (i = 14)), V.bl (decide (i = 15))])) a4 (.lst ((([V.bl (decide (i = 0)), V.bl (decide (i = 1)), V.bl (decide (i = 2)), V.bl (decide (i = 3))] ++ [V.bl (decide (i = 4)), V.bl (decide (i = 5)), V.bl (decide (i = 6)), V.bl (decide (i = 7))]) ++ [V.bl (decide (i = 8)), V.bl (decide (i = 9)), V.bl (decide (i = 10)), V.bl (decide (i = 11))]) ++ [V.bl (decide (i = 12)), V.bl (decide (i = 13)), V.bl (decide (i = 14)), V.bl (decide (i = 15))]))) = H4
  intro s4 l4
  refine ⟨_, rfl, ⟨v, rfl, v, .ref (c 16), c i, fs, .ref (c 16), _, rfl, (hx.same s4), Kl.ex i hi, fun u r => r, Kl.kit i 16 hi (by decide), ⟨v, rfl, v, .ref (c 17), c i, fs, .ref (c 17), _, rfl, (hx.same s4), Kl.ex i hi, fun u r => r, Kl.kit i 17 hi (by decide), ⟨len 2 (by decide), fun b4 g4 => ?_⟩⟩⟩⟩
  refine ⟨a4, b4, _, _, rfl, rfl, same_new g4 _ _ _ l4, upd_same, len 18 (by decide), fun a5 h5 => ?_⟩
  have s5 : Same H (upd (upd H4 b4 (.lst [V.bl (decide (i = 16)), V.bl (decide (i = 17))])) a5 (.lst (((([V.bl (decide (i = 0)), V.bl (decide (i = 1)), V.bl (decide (i = 2)), V.bl (decide (i = 3))] ++ [V.bl (decide (i = 4)), V.bl (decide (i = 5)), V.bl (decide (i = 6)), V.bl (decide (i = 7))]) ++ [V.bl (decide (i = 8)), V.bl (decide (i = 9)), V.bl (decide (i = 10)), V.bl (decide (i = 11))]) ++ [V.bl (decide (i = 12)), V.bl (decide (i = 13)), V.bl (decide (i = 14)), V.bl (decide (i = 15))]) ++ [V.bl (decide (i = 16)), V.bl (decide (i = 17))]))) := (s4.trans (same_new g4 _)).trans (same_new h5 _)
  have l5 : (upd (upd H4 b4 (.lst [V.bl (decide (i = 16)), V.bl (decide (i = 17))])) a5 (.lst (((([V.bl (decide (i = 0)), V.bl (decide (i = 1)), V.bl (decide (i = 2)), V.bl (decide (i = 3))] ++ [V.bl (decide (i = 4)), V.bl (decide (i = 5)), V.bl (decide (i = 6)), V.bl (decide (i = 7))]) ++ [V.bl (decide (i = 8)), V.bl (decide (i = 9)), V.bl (decide (i = 10)), V.bl (decide (i = 11))]) ++ [V.bl (decide (i = 12)), V.bl (decide (i = 13)), V.bl (decide (i = 14)), V.bl (decide (i = 15))]) ++ [V.bl (decide (i = 16)), V.bl (decide (i = 17))]))) a5 = some (.lst (((([V.bl (decide (i = 0)), V.bl (decide (i = 1)), V.bl (decide (i = 2)), V.bl (decide (i = 3))] ++ [V.bl (decide (i = 4)), V.bl (decide (i = 5)), V.bl (decide (i = 6)), V.bl (decide (i = 7))]) ++ [V.bl (decide (i = 8)), V.bl (decide (i = 9)), V.bl (decide (i = 10)), V.bl (decide (i = 11))]) ++ [V.bl (decide (i = 12)), V.bl (decide (i = 13)), V.bl (decide (i = 14)), V.bl (decide (i = 15))]) ++ [V.bl (decide (i = 16)), V.bl (decide (i = 17))])) := upd_same
  revert s5 l5
  generalize (upd (upd H4 b4 (.lst [V.bl (decide (i = 16)), V.bl (decide (i = 17))])) a5 (.lst (((([V.bl (decide (i = 0)), V.bl (decide (i = 1)), V.bl (decide (i = 2)), V.bl (decide (i = 3))] ++ [V.bl (decide (i = 4)), V.bl (decide (i = 5)), V.bl (decide (i = 6)), V.bl (decide (i = 7))]) ++ [V.bl (decide (i = 8)), V.bl (decide (i = 9)), V.bl (decide (i = 10)), V.bl (decide (i = 11))]) ++ [V.bl (decide (i = 12)), V.bl (decide (i = 13)), V.bl (decide (i = 14)), V.bl (decide (i = 15))]) ++ [V.bl (decide (i = 16)), V.bl (decide (i = 17))]))) = H5
  intro s5 l5
  refine ⟨len 10 (by decide), fun d1 e1 => ?_⟩
  refine ⟨_, rfl, len 8 (by decide), fun d2 e2 => ?_⟩
  refine ⟨d1, d2, _, _, rfl, rfl, same_new e2 _ _ _ upd_same, upd_same, len 18 (by decide), fun d3 e3 => ?_⟩
  have l6 := same_new e3 (.lst ((exA ++ exB).map V.str)) _ _ (same_new e2 (.lst (exB.map V.str)) _ _ (same_new e1 (.lst (exA.map V.str)) _ _ l5))
  have s6 := ((s5.trans (same_new e1 (.lst (exA.map V.str)))).trans (same_new e2 (.lst (exB.map V.str)))).trans (same_new e3 (.lst ((exA ++ exB).map V.str)))
  refine ⟨_, rfl, .inl ⟨rfl, _, SqL.of l6⟩, a5, mks i, .bl true, rfl, rfl, SqL.of l6, rfl, mks_flat i hi, ?_⟩
  rw [mks_cnt i hi]
  refine ⟨rfl, _, rfl, ite2 (fun z => absurd z (by decide)) (fun _ => ?_)⟩
  refine ⟨v, rfl, v, .ty "ValueError", c i, fs, .type "ValueError", _, rfl, hx.same s6, Kl.ex i hi, fun u r => r, Kl.ve i hi, _, rfl, ite2 (fun z => absurd z (by decide)) (fun _ => ?_)⟩
  refine ⟨_, rfl, _, rfl, .inl ⟨rfl, _, SqL.of l6⟩, a5, mks i, .bl true, i, .bl true, rfl, rfl, SqL.of l6, rfl, mks_flat i hi, mks_at i hi, rfl, fun m z hm hz => mks_no i m z hi hm hz, ?_⟩
  exact ⟨d3, _, _, _, rfl, rfl, SqL.of upd_same, atI_nat (nm_at i hi), q _ s6⟩
end
end N

namespace N
open PySem PySem.Spec PyProof.Rows L2 L2H
/-! ### defs that are handed the caught exception, in its suite -/
/-- what such a def keeps: p the exception's object, of the class at C, no field of its own beside those of its dict d -/
structure FnP (P : Program) (w : World) (K : PySem.W.Frag) (mg : Str → Option Value) (base : Heap) (CX : CXT) (k : Nat) (f : Addr) (fd : FuncData) (ps : List Str) (sp : Addr → Addr → Option Addr → Sp) : Prop where
  len : ∀ a C d vs H Q E, sp a C d vs H Q E → vs.length = ps.length
  run : ∀ (A : Around) (outer : List Env) (s : Shared) (H : Hp) (args : Args) (us : List Value) (vs : List V) (Q : VK) (E : XK) (p : Addr × Obj) (C : Addr) (d : Option Addr), RoomH k A → PinOk outer H s p → Zc (.ref C) d p.2 → (∃ ws, p.2.data = .fields ws) → Env0 P w K mg base A outer s H → BindsTo s fd args (ps.zip us) → Vals vs us → sp p.1 C d vs H Q E →
    codeAny (model P w) A (.call (.ref f) args) (CR CX outer P w H s Q E) s
section
variable {P : Program} {w : World} {K : PySem.W.Frag} {mg : Str → Option Value} {base : Heap} {CX : CXT} {k : Nat} {f : Addr} {fd : FuncData} {ps : List Str} {sp : Addr → Addr → Option Addr → Sp}
theorem fnP_of {x : Str} {st : Stmt} {Nm : List Str} (F : Fun K x x st f fd) (S : FnScope Nm ps (defScope st)) (len : ∀ a C d vs H Q E, sp a C d vs H Q E → vs.length = ps.length)
    (hbody : ∀ (cdv : Value) (A : Around) (outer : List Env) (s : Shared) (H : Hp) (vs : List V) (Q : VK) (E : XK) (p : Addr × Obj) (C : Addr) (d : Option Addr), Zc (.ref C) d p.2 → (∃ ws, p.2.data = .fields ws) → RoomH k (A.deeper (envOfC x (defScope st) s.heap.objs.size f cdv)) → sp p.1 C d vs H Q E →
      ∃ t, PSs (cxH CX P w K mg base Nm x (defScope st) f cdv A outer s H E p) (defBody st) t ∧ t { nx := fun _ H' => Q .non H', rt := Q } (L2.start Nm vs) H) :
    FnP P w K mg base CX (k + 1) f fd ps sp := by
  obtain ⟨oc, od, kV, doc, pm, an, cdv, ct, osl, rfl, lk, hcd⟩ := F.ex
  refine ⟨len, fun A outer s H args us vs Q E p C d hr hpin hz hf e0 hb r hsp => ?_⟩
  have KX : K.In s.heap := e0.mod.kin.keeps fun b o e => (e0.bs b o e).1
  have lim : s.heap.NoLimit := e0.mod.nolimit.keeps fun b o e => (e0.bs b o e).1
  have hk : ∀ y ∈ ps.zip us, (defScope st).names.lookup y.1 = some .local ∨ ((defScope st).names.lookup y.1 = some .cell ∧ ((cellsFrom (s.heap.objs.size + 1) (defScope st).names []).lookup y.1).isSome = true) := fun ⟨n, v⟩ hy =>
    (S.par n (List.of_mem_zip hy).1).elim .inl fun q => .inr ⟨q, PySem.W.cellsFrom_some _ _ _ (.inl q)⟩
  refine codeAny_call_function hr.depth (KX _ _ lk) rfl S.co S.gen rfl (PySem.W.codeRec_of KX hcd) (hb _ _ _ _ ?_)
  refine wpAny_newFunctionEnv_cells S.kind hk fun env he s1 x => ?_
  subst he
  refine ⟨lim.keeps x.toInCall.keep, codeAny_func ?_⟩
  obtain ⟨t, ht, hq⟩ := hbody cdv A outer s H vs Q E p C d hz hf (hr.deeper _) hsp
  have I := inv_startH (CX := CX) (P := P) (w := w) (mg := mg) (E := E) S hpin e0 (len _ _ _ _ _ _ _ hsp) r x
  refine wpAny_mono (ht.run [] s1 (L2.start Nm vs) H _ I hq) (fun fl s' hs => ?_) fun e s' hs => hs
  cases fl with
  | ret u => obtain ⟨v, σ', H', J, rv, q⟩ := hs; exact ⟨v, H', J.os, J.bare, J.base, J.hok, rv, q⟩
  | next => obtain ⟨σ', H', J, q⟩ := hs; exact ⟨.non, H', J.os, J.bare, J.base, J.hok, rfl, q⟩
  | brk => obtain ⟨_, _, _, q⟩ := hs; exact False.elim q
  | cont => obtain ⟨_, _, _, q⟩ := hs; exact False.elim q
end
section
variable {X : Cx} {k : Nat} {x : Str} {ps : List Str} {sp : Addr → Addr → Option Addr → Sp} {q pos : Pos} {e : Expr} {es : List Expr} {t : TA} {C : Addr} {d : Option Addr}
/-- a def behind the top that keeps such a promise -/
def CalP (P : Program) (w : World) (K : PySem.W.Frag) (mg : Str → Option Value) (base : Heap) (k : Nat) (x : Str) (ps : List Str) (sp : Addr → Addr → Option Addr → Sp) : Prop :=
  ∃ (f : Addr) (fd : FuncData), mg x = some (.ref f) ∧ PySem.W.keepIn K (.ref f) = true ∧ Binds K fd ps [] ∧ FnP P w K mg base (L2.CX P w) k f fd ps sp
theorem pcP {p : Addr × Obj} (c : CalP X.prog X.w X.K X.mg X.base k x ps sp) (hp : p ∈ X.pn) (hz : Zc (.ref C) d p.2) (hf : ∃ ws, p.2.data = .fields ws) (hr : RoomH k X.A) (hg : Gl X x) (ha : PA X (e :: es) t) (hdb : (x == ("__debug__" : Str)) = false := by decide) (he : starEach (e :: es) X.env = (false, eval e X.env) :: starEach es X.env := by rfl)
    (hpl : (backTo pos (starEach es X.env)).any (·.1) = false := by rfl) : PE X (.Call (.Name x q) (e :: es) [] pos) (fun σ H Q => t σ H fun vs H1 => sp p.1 C d vs H1 Q E0) := by
  obtain ⟨f, fd, hm, hk, hb, F⟩ := c
  refine ⟨fun pins s σ H Q I h => wpAny_Call_Name_kw (ld_glob I hg hm ?_ hdb)⟩
  refine PySem.W.callWith_K (h₀ := X.base) I.ok.mod.kin hk (thn (ha.run pos pins s σ H _ I h) fun us s1 ⟨vs, H1, I1, r, z⟩ => ⟨I1.kIn, ?_⟩) he hpl
  have b := hb s1 us I1.kIn (by rw [List.append_nil, ← r.length]; exact F.len _ _ _ _ _ _ _ z)
  rw [List.append_nil] at b
  have P1 := I1.pin p (List.mem_append_left _ hp)
  have hpin : PinOk X.stack H1 s1 p := ⟨P1.1, P1.2.1, fun hm => (List.mem_cons.mp (I1.stkSub p.1 hm)).elim P1.2.2.1 P1.2.2.2.1, P1.2.2.2.2⟩
  refine wpAny_call (codeAny_mono (F.run X.A X.stack s1 H1 ⟨us, []⟩ us vs Q E0 p C d hr hpin hz hf I1.env0 b r z) fun res s' hq => ?_)
  match res, hq with
  | .error e, hq => exact passL pins σ H1 s1 e s' I1 hq
  | .ok (.ret u), hq => exact I1.after hq
  | .ok .next, hq => exact False.elim hq
  | .ok .brk, hq => exact False.elim hq
  | .ok .cont, hq => exact False.elim hq
/-- isinstance(e, c), e the pinned exception -/
def rIsP (K : PySem.W.Frag) (a C : Addr) : List V → Hp → VK → Prop := fun xs H Q => ∃ (c : V) (cv : Value) (b : Bool), xs = [.ref a, c] ∧ (∀ u, RelV c u → u = cv) ∧ PySem.W.kitOne K (.ref C) cv = some b ∧ Q (.bl b) H
theorem call_isP {p : Addr × Obj} (T : ExcC X.K C) (hp : p ∈ X.pn) (hz : Zc (.ref C) d p.2) (hd : PySem.W.hasDictIn X.K C = true) (hf : ∃ ws, p.2.data = .fields ws) (hn : d = none) : CallR X (.builtin "isinstance") (rIsP X.K p.1 C) := by
  intro pins s σ H xs us Q I r h
  obtain ⟨c, cv, b, rfl, hcv, e, q⟩ := h
  subst hn
  cases r with
  | cons rx rr =>
    cases rr with
    | cons rt rr =>
      cases rr
      cases rx
      have ec := hcv _ rt
      subst ec
      obtain ⟨hget, _⟩ := I.pin p (List.mem_append_left _ hp)
      obtain ⟨ws, hv⟩ := hf
      have J : PySem.W.InstAt s.heap p.1 p.2 C none := by
        obtain ⟨pa, ⟨oc, od, oda, osl⟩⟩ := p
        obtain ⟨h1, h2⟩ := hz
        dsimp only at h1 h2 hv
        subst h1 h2 hv
        exact ⟨hget, rfl, rfl, trivial⟩
      exact PySem.W.kia_one (PySem.W.handS_kitx_exc T.hg T.hk T.hs T.hd T.ha T.hn T.ht T.hm) I.kIn J e (fun z => nomatch z) fun tk => ⟨.bl b, H, I.kept (t' := tk) fun _ _ z => z, rfl, q⟩
end
end N

namespace N
open PySem PySem.Spec PyProof.Rows L2 L2H
section
variable {P : Program} {w : World} {K : PySem.W.Frag} {mg : Str → Option Value} {base : Heap} {c : Nat → Addr}
/-- word, of the exception that is handled -/
def spWordP (c : Nat → Addr) : Addr → Addr → Option Addr → Sp := fun a C d vs H Q _ => ∃ i : Nat, vs = [.ref a] ∧ i < 18 ∧ C = c i ∧ d = none ∧ ∀ H', Same H H' → Q (.str (exN i)) H'
theorem ok_wordP (G : Glo mg) (Kl : Kls K mg c) (hve : mg "ValueError" = none) (D : DefAt K mg "_law_word" s_Lword ["_law_e"]) : CalP P w K mg base 1 "_law_word" ["_law_e"] (spWordP c) := by
  obtain ⟨f, fd, a, F, b⟩ := D
  refine ⟨f, fd, a, F.kp, b, fnP_of F sc_Lword (fun a C d vs H Q E h => ?_) (fun cdv A outer s H vs Q E p C d hz hf hr h => ?_)⟩
  · obtain ⟨i, rfl, _⟩ := h
    rfl
  obtain ⟨i, rfl, hi, rfl, rfl, q⟩ := h
  have g := Kl.gl
  have ci : CallR (cxH (L2.CX P w) P w K mg base nm_Lword "_law_word" (defScope s_Lword) f cdv A outer s H E p) (.builtin "isinstance") (rIsP K p.1 (c i)) := call_isP (Kl.ex i hi) (List.mem_singleton.mpr rfl) hz (Kl.ex i hi).hd hf rfl
  refine ⟨_, (pss_cons (ps_set (i := 1) sc_Lword.nd rfl (Or.inl rfl) (pe_lst (pa_cons (pe_callB ci (by rfl) G.isinstance (by decide +kernel) (pa_cons (pv 0) (pa_cons (pe_glob (v := .ref (c 0)) (by rfl) (g 0 (by decide)) rfl) pa_nil))) (pa_cons (pe_callB ci (by rfl) G.isinstance (by decide +kernel) (pa_cons (pv 0) (pa_cons (pe_glob (v := .ref (c 1)) (by rfl) (g 1 (by decide)) rfl) pa_nil))) (pa_cons (pe_callB ci (by rfl) G.isinstance (by decide +kernel) (pa_cons (pv 0) (pa_cons (pe_glob (v := .ref (c 2)) (by rfl) (g 2 (by decide)) rfl) pa_nil))) (pa_cons (pe_callB ci (by rfl) G.isinstance (by decide +kernel) (pa_cons (pv 0) (pa_cons (pe_glob (v := .ref (c 3)) (by rfl) (g 3 (by decide)) rfl) pa_nil))) pa_nil))))))
    (pss_cons (ps_set (i := 1) sc_Lword.nd rfl (Or.inl rfl) (pe_op op_cat (pv 1) (pe_lst (pa_cons (pe_callB ci (by rfl) G.isinstance (by decide +kernel) (pa_cons (pv 0) (pa_cons (pe_glob (v := .ref (c 4)) (by rfl) (g 4 (by decide)) rfl) pa_nil))) (pa_cons (pe_callB ci (by rfl) G.isinstance (by decide +kernel) (pa_cons (pv 0) (pa_cons (pe_glob (v := .ref (c 5)) (by rfl) (g 5 (by decide)) rfl) pa_nil))) (pa_cons (pe_callB ci (by rfl) G.isinstance (by decide +kernel) (pa_cons (pv 0) (pa_cons (pe_glob (v := .ref (c 6)) (by rfl) (g 6 (by decide)) rfl) pa_nil))) (pa_cons (pe_callB ci (by rfl) G.isinstance (by decide +kernel) (pa_cons (pv 0) (pa_cons (pe_glob (v := .ref (c 7)) (by rfl) (g 7 (by decide)) rfl) pa_nil))) pa_nil)))))))
    (pss_cons (ps_set (i := 1) sc_Lword.nd rfl (Or.inl rfl) (pe_op op_cat (pv 1) (pe_lst (pa_cons (pe_callB ci (by rfl) G.isinstance (by decide +kernel) (pa_cons (pv 0) (pa_cons (pe_glob (v := .ref (c 8)) (by rfl) (g 8 (by decide)) rfl) pa_nil))) (pa_cons (pe_callB ci (by rfl) G.isinstance (by decide +kernel) (pa_cons (pv 0) (pa_cons (pe_glob (v := .ref (c 9)) (by rfl) (g 9 (by decide)) rfl) pa_nil))) (pa_cons (pe_callB ci (by rfl) G.isinstance (by decide +kernel) (pa_cons (pv 0) (pa_cons (pe_glob (v := .ref (c 10)) (by rfl) (g 10 (by decide)) rfl) pa_nil))) (pa_cons (pe_callB ci (by rfl) G.isinstance (by decide +kernel) (pa_cons (pv 0) (pa_cons (pe_glob (v := .ref (c 11)) (by rfl) (g 11 (by decide)) rfl) pa_nil))) pa_nil)))))))
    (pss_cons (ps_set (i := 1) sc_Lword.nd rfl (Or.inl rfl) (pe_op op_cat (pv 1) (pe_lst (pa_cons (pe_callB ci (by rfl) G.isinstance (by decide +kernel) (pa_cons (pv 0) (pa_cons (pe_glob (v := .ref (c 12)) (by rfl) (g 12 (by decide)) rfl) pa_nil))) (pa_cons (pe_callB ci (by rfl) G.isinstance (by decide +kernel) (pa_cons (pv 0) (pa_cons (pe_glob (v := .ref (c 13)) (by rfl) (g 13 (by decide)) rfl) pa_nil))) (pa_cons (pe_callB ci (by rfl) G.isinstance (by decide +kernel) (pa_cons (pv 0) (pa_cons (pe_glob (v := .ref (c 14)) (by rfl) (g 14 (by decide)) rfl) pa_nil))) (pa_cons (pe_callB ci (by rfl) G.isinstance (by decide +kernel) (pa_cons (pv 0) (pa_cons (pe_glob (v := .ref (c 15)) (by rfl) (g 15 (by decide)) rfl) pa_nil))) pa_nil)))))))
    (pss_cons (ps_set (i := 1) sc_Lword.nd rfl (Or.inl rfl) (pe_op op_cat (pv 1) (pe_lst (pa_cons (pe_callB ci (by rfl) G.isinstance (by decide +kernel) (pa_cons (pv 0) (pa_cons (pe_glob (v := .ref (c 16)) (by rfl) (g 16 (by decide)) rfl) pa_nil))) (pa_cons (pe_callB ci (by rfl) G.isinstance (by decide +kernel) (pa_cons (pv 0) (pa_cons (pe_glob (v := .ref (c 17)) (by rfl) (g 17 (by decide)) rfl) pa_nil))) pa_nil)))))
    (pss_cons (ps_set (i := 2) sc_Lword.nd rfl (Or.inl rfl) (pe_lst (pa_cons pe_str (pa_cons pe_str (pa_cons pe_str (pa_cons pe_str (pa_cons pe_str (pa_cons pe_str (pa_cons pe_str (pa_cons pe_str (pa_cons pe_str (pa_cons pe_str pa_nil))))))))))))
    (pss_cons (ps_set (i := 2) sc_Lword.nd rfl (Or.inl rfl) (pe_op op_cat (pv 2) (pe_lst (pa_cons pe_str (pa_cons pe_str (pa_cons pe_str (pa_cons pe_str (pa_cons pe_str (pa_cons pe_str (pa_cons pe_str (pa_cons pe_str pa_nil)))))))))))
    (pss_cons (ps_if (PW.pt (pw_or (pt_cmpR op_ne (pe_bm PySem.F.plainAttrs_list PySem.F.slot_list_count PySem.F.type_list_count mt_cnt (pv 1) (pa_cons pe_bl pa_nil)) pe_int (nomark _)) (pw_or1 (pt_not (pt_val (pe_callB ci (by rfl) G.isinstance (by decide +kernel) (pa_cons (pv 0) (pa_cons (pe_bltn (v := .ty "ValueError") (by rfl) hve (by decide +kernel) rfl) pa_nil)))))))) (pss_one (ps_ret pe_str)) pss_nil)
    (pss_one (ps_ret (pe_ix ix_list (pv 2) (pe_bm PySem.F.plainAttrs_list PySem.F.slot_list_index PySem.F.type_list_index mt_index (pv 1) (pa_cons pe_bl pa_nil)) (fun _ _ => rfl)))))))))))), ?_⟩
  have len : ∀ n, n ≤ 18 → n ≤ sizeLine := fun n h => by rw [sizeLine_eq]; omega
  refine ⟨_, rfl, .ref (c 0), .ref (c 0), _, rfl, fun u r => r, Kl.kit i 0 hi (by decide), ⟨_, rfl, .ref (c 1), .ref (c 1), _, rfl, fun u r => r, Kl.kit i 1 hi (by decide), ⟨_, rfl, .ref (c 2), .ref (c 2), _, rfl, fun u r => r, Kl.kit i 2 hi (by decide), ⟨_, rfl, .ref (c 3), .ref (c 3), _, rfl, fun u r => r, Kl.kit i 3 hi (by decide), ⟨len 4 (by decide), fun a1 h1 => ?_⟩⟩⟩⟩⟩
  have s1 : Same H (upd H a1 (.lst [V.bl (decide (i = 0)), V.bl (decide (i = 1)), V.bl (decide (i = 2)), V.bl (decide (i = 3))])) := same_new h1 _
  have l1 : (upd H a1 (.lst [V.bl (decide (i = 0)), V.bl (decide (i = 1)), V.bl (decide (i = 2)), V.bl (decide (i = 3))])) a1 = some (.lst [V.bl (decide (i = 0)), V.bl (decide (i = 1)), V.bl (decide (i = 2)), V.bl (decide (i = 3))]) := upd_same
  revert s1 l1
  generalize upd H a1 (.lst [V.bl (decide (i = 0)), V.bl (decide (i = 1)), V.bl (decide (i = 2)), V.bl (decide (i = 3))]) = H1
  intro s1 l1
  refine ⟨_, rfl, ⟨_, rfl, .ref (c 4), .ref (c 4), _, rfl, fun u r => r, Kl.kit i 4 hi (by decide), ⟨_, rfl, .ref (c 5), .ref (c 5), _, rfl, fun u r => r, Kl.kit i 5 hi (by decide), ⟨_, rfl, .ref (c 6), .ref (c 6), _, rfl, fun u r => r, Kl.kit i 6 hi (by decide), ⟨_, rfl, .ref (c 7), .ref (c 7), _, rfl, fun u r => r, Kl.kit i 7 hi (by decide), ⟨len 4 (by decide), fun b1 g1 => ?_⟩⟩⟩⟩⟩⟩
  refine ⟨a1, b1, _, _, rfl, rfl, same_new g1 _ _ _ l1, upd_same, len 8 (by decide), fun a2 h2 => ?_⟩
  have s2 : Same H (upd (upd H1 b1 (.lst [V.bl (decide (i = 4)), V.bl (decide (i = 5)), V.bl (decide (i = 6)), V.bl (decide (i = 7))])) a2 (.lst ([V.bl (decide (i = 0)), V.bl (decide (i = 1)), V.bl (decide (i = 2)), V.bl (decide (i = 3))] ++ [V.bl (decide (i = 4)), V.bl (decide (i = 5)), V.bl (decide (i = 6)), V.bl (decide (i = 7))]))) := (s1.trans (same_new g1 _)).trans (same_new h2 _)
  have l2 : (upd (upd H1 b1 (.lst [V.bl (decide (i = 4)), V.bl (decide (i = 5)), V.bl (decide (i = 6)), V.bl (decide (i = 7))])) a2 (.lst ([V.bl (decide (i = 0)), V.bl (decide (i = 1)), V.bl (decide (i = 2)), V.bl (decide (i = 3))] ++ [V.bl (decide (i = 4)), V.bl (decide (i = 5)), V.bl (decide (i = 6)), V.bl (decide (i = 7))]))) a2 = some (.lst ([V.bl (decide (i = 0)), V.bl (decide (i = 1)), V.bl (decide (i = 2)), V.bl (decide (i = 3))] ++ [V.bl (decide (i = 4)), V.bl (decide (i = 5)), V.bl (decide (i = 6)), V.bl (decide (i = 7))])) := upd_same
  revert s2 l2
  generalize (upd (upd H1 b1 (.lst [V.bl (decide (i = 4)), V.bl (decide (i = 5)), V.bl (decide (i = 6)), V.bl (decide (i = 7))])) a2 (.lst ([V.bl (decide (i = 0)), V.bl (decide (i = 1)), V.bl (decide (i = 2)), V.bl (decide (i = 3))] ++ [V.bl (decide (i = 4)), V.bl (decide (i = 5)), V.bl (decide (i = 6)), V.bl (decide (i = 7))]))) = H2
  intro s2 l2
  refine ⟨_, rfl, ⟨_, rfl, .ref (c 8), .ref (c 8), _, rfl, fun u r => r, Kl.kit i 8 hi (by decide), ⟨_, rfl, .ref (c 9), .ref (c 9), _, rfl, fun u r => r, Kl.kit i 9 hi (by decide), ⟨_, rfl, .ref (c 10), .ref (c 10), _, rfl, fun u r => r, Kl.kit i 10 hi (by decide), ⟨_, rfl, .ref (c 11), .ref (c 11), _, rfl, fun u r => r, Kl.kit i 11 hi (by decide), ⟨len 4 (by decide), fun b2 g2 => ?_⟩⟩⟩⟩⟩⟩
  refine ⟨a2, b2, _, _, rfl, rfl, same_new g2 _ _ _ l2, upd_same, len 12 (by decide), fun a3 h3 => ?_⟩
  have s3 : Same H (upd (upd H2 b2 (.lst [V.bl (decide (i = 8)), V.bl (decide (i = 9)), V.bl (decide (i = 10)), V.bl (decide (i = 11))])) a3 (.lst (([V.bl (decide (i = 0)), V.bl (decide (i = 1)), V.bl (decide (i = 2)), V.bl (decide (i = 3))] ++ [V.bl (decide (i = 4)), V.bl (decide (i = 5)), V.bl (decide (i = 6)), V.bl (decide (i = 7))]) ++ [V.bl (decide (i = 8)), V.bl (decide (i = 9)), V.bl (decide (i = 10)), V.bl (decide (i = 11))]))) := (s2.trans (same_new g2 _)).trans (same_new h3 _)
  have l3 : (upd (upd H2 b2 (.lst [V.bl (decide (i = 8)), V.bl (decide (i = 9)), V.bl (decide (i = 10)), V.bl (decide (i = 11))])) a3 (.lst (([V.bl (decide (i = 0)), V.bl (decide (i = 1)), V.bl (decide (i = 2)), V.bl (decide (i = 3))] ++ [V.bl (decide (i = 4)), V.bl (decide (i = 5)), V.bl (decide (i = 6)), V.bl (decide (i = 7))]) ++ [V.bl (decide (i = 8)), V.bl (decide (i = 9)), V.bl (decide (i = 10)), V.bl (decide (i = 11))]))) a3 = some (.lst (([V.bl (decide (i = 0)), V.bl (decide (i = 1)), V.bl (decide (i = 2)), V.bl (decide (i = 3))] ++ [V.bl (decide (i = 4)), V.bl (decide (i = 5)), V.bl (decide (i = 6)), V.bl (decide (i = 7))]) ++ [V.bl (decide (i = 8)), V.bl (decide (i = 9)), V.bl (decide (i = 10)), V.bl (decide (i = 11))])) := upd_same
  revert s3 l3
  generalize (upd (upd H2 b2 (.lst [V.bl (decide (i = 8)), V.bl (decide (i = 9)), V.bl (decide (i = 10)), V.bl (decide (i = 11))])) a3 (.lst (([V.bl (decide (i = 0)), V.bl (decide (i = 1)), V.bl (decide (i = 2)), V.bl (decide (i = 3))] ++ [V.bl (decide (i = 4)), V.bl (decide (i = 5)), V.bl (decide (i = 6)), V.bl (decide (i = 7))]) ++ [V.bl (decide (i = 8)), V.bl (decide (i = 9)), V.bl (decide (i = 10)), V.bl (decide (i = 11))]))) = H3
  intro s3 l3
  refine ⟨_, rfl, ⟨_, rfl, .ref (c 12), .ref (c 12), _, rfl, fun u r => r, Kl.kit i 12 hi (by decide), ⟨_, rfl, .ref (c 13), .ref (c 13), _, rfl, fun u r => r, Kl.kit i 13 hi (by decide), ⟨_, rfl, .ref (c 14), .ref (c 14), _, rfl, fun u r => r, Kl.kit i 14 hi (by decide), ⟨_, rfl, .ref (c 15), .ref (c 15), _, rfl, fun u r => r, Kl.kit i 15 hi (by decide), ⟨len 4 (by decide), fun b3 g3 => ?_⟩⟩⟩⟩⟩⟩
  refine ⟨a3, b3, _, _, rfl, rfl, same_new g3 _ _ _ l3, upd_same, len 16 (by decide), fun a4 h4 => ?_⟩
  have s4 : Same H (upd (upd H3 b3 (.lst [V.bl (decide (i = 12)), V.bl (decide (i = 13)), V.bl (decide (i = 14)), V.bl (decide (i = 15))])) a4 (.lst ((([V.bl (decide (i = 0)), V.bl (decide (i = 1)), V.bl (decide (i = 2)), V.bl (decide (i = 3))] ++ [V.bl (decide (i = 4)), V.bl (decide (i = 5)), V.bl (decide (i = 6)), V.bl (decide (i = 7))]) ++ [V.bl (decide (i = 8)), V.bl (decide (i = 9)), V.bl (decide (i = 10)), V.bl (decide (i = 11))]) ++ [V.bl (decide (i = 12)), V.bl (decide (i = 13)), V.bl (decide (i = 14)), V.bl (decide (i = 15))]))) := (s3.trans (same_new g3 _)).trans (same_new h4 _)
  have l4 : (upd (upd H3 b3 (.lst [V.bl (decide (i = 12)), V.bl (decide (i = 13)), V.bl (decide (i = 14)), V.bl (decide (i = 15))])) a4 (.lst ((([V.bl (decide (i = 0)), V.bl (decide (i = 1)), V.bl (decide (i = 2)), V.bl (decide (i = 3))] ++ [V.bl (decide (i = 4)), V.bl (decide (i = 5)), V.bl (decide (i = 6)), V.bl (decide (i = 7))]) ++ [V.bl (decide (i = 8)), V.bl (decide (i = 9)), V.bl (decide (i = 10)), V.bl (decide (i = 11))]) ++ [V.bl (decide (i = 12)), V.bl (decide (i = 13)), V.bl (decide (i = 14)), V.bl (decide (i = 15))]))) a4 = some (.lst ((([V.bl (decide (i = 0)), V.bl (decide (i = 1)), V.bl (decide (i = 2)), V.bl (decide (i = 3))] ++ [V.bl (decide (i = 4)), V.bl (decide (i = 5)), V.bl (decide (i = 6)), V.bl (decide (i = 7))]) ++ [V.bl (decide (i = 8)), V.bl (decide (i = 9)), V.bl (decide (i = 10)), V.bl (decide (i = 11))]) ++ [V.bl (decide (i = 12)), V.bl (decide (i = 13)), V.bl (decide (i = 14)), V.bl (decide (i = 15))])) := upd_same
  revert s4 l4
  generalize (upd (upd H3 b3 (.lst [V.bl (decide (i = 12)), V.bl (decide (i = 13)), V.bl (decide (i = 14)), V.bl (decide (i = 15))])) a4 (.lst ((([V.bl (decide (i = 0)), V.bl (decide (i = 1)), V.bl (decide (i = 2)), V.bl (decide (i = 3))] ++ [V.bl (decide (i = 4)), V.bl (decide (i = 5)), V.bl (decide (i = 6)), V.bl (decide (i = 7))]) ++ [V.bl (decide (i = 8)), V.bl (decide (i = 9)), V.bl (decide (i = 10)), V.bl (decide (i = 11))]) ++ [V.bl (decide (i = 12)), V.bl (decide (i = 13)), V.bl (decide (i = 14)), V.bl (decide (i = 15))]))) = H4
  intro s4 l4
  refine ⟨_, rfl, ⟨_, rfl, .ref (c 16), .ref (c 16), _, rfl, fun u r => r, Kl.kit i 16 hi (by decide), ⟨_, rfl, .ref (c 17), .ref (c 17), _, rfl, fun u r => r, Kl.kit i 17 hi (by decide), ⟨len 2 (by decide), fun b4 g4 => ?_⟩⟩⟩⟩
  refine ⟨a4, b4, _, _, rfl, rfl, same_new g4 _ _ _ l4, upd_same, len 18 (by decide), fun a5 h5 => ?_⟩
  have s5 : Same H (upd (upd H4 b4 (.lst [V.bl (decide (i = 16)), V.bl (decide (i = 17))])) a5 (.lst (((([V.bl (decide (i = 0)), V.bl (decide (i = 1)), V.bl (decide (i = 2)), V.bl (decide (i = 3))] ++ [V.bl (decide (i = 4)), V.bl (decide (i = 5)), V.bl (decide (i = 6)), V.bl (decide (i = 7))]) ++ [V.bl (decide (i = 8)), V.bl (decide (i = 9)), V.bl (decide (i = 10)), V.bl (decide (i = 11))]) ++ [V.bl (decide (i = 12)), V.bl (decide (i = 13)), V.bl (decide (i = 14)), V.bl (decide (i = 15))]) ++ [V.bl (decide (i = 16)), V.bl (decide (i = 17))]))) := (s4.trans (same_new g4 _)).trans (same_new h5 _)
  have l5 : (upd (upd H4 b4 (.lst [V.bl (decide (i = 16)), V.bl (decide (i = 17))])) a5 (.lst (((([V.bl (decide (i = 0)), V.bl (decide (i = 1)), V.bl (decide (i = 2)), V.bl (decide (i = 3))] ++ [V.bl (decide (i = 4)), V.bl (decide (i = 5)), V.bl (decide (i = 6)), V.bl (decide (i = 7))]) ++ [V.bl (decide (i = 8)), V.bl (decide (i = 9)), V.bl (decide (i = 10)), V.bl (decide (i = 11))]) ++ [V.bl (decide (i = 12)), V.bl (decide (i = 13)), V.bl (decide (i = 14)), V.bl (decide (i = 15))]) ++ [V.bl (decide (i = 16)), V.bl (decide (i = 17))]))) a5 = some (.lst (((([V.bl (decide (i = 0)), V.bl (decide (i = 1)), V.bl (decide (i = 2)), V.bl (decide (i = 3))] ++ [V.bl (decide (i = 4)), V.bl (decide (i = 5)), V.bl (decide (i = 6)), V.bl (decide (i = 7))]) ++ [V.bl (decide (i = 8)), V.bl (decide (i = 9)), V.bl (decide (i = 10)), V.bl (decide (i = 11))]) ++ [V.bl (decide (i = 12)), V.bl (decide (i = 13)), V.bl (decide (i = 14)), V.bl (decide (i = 15))]) ++ [V.bl (decide (i = 16)), V.bl (decide (i = 17))])) := upd_same
  revert s5 l5
  generalize (upd (upd H4 b4 (.lst [V.bl (decide (i = 16)), V.bl (decide (i = 17))])) a5 (.lst (((([V.bl (decide (i = 0)), V.bl (decide (i = 1)), V.bl (decide (i = 2)), V.bl (decide (i = 3))] ++ [V.bl (decide (i = 4)), V.bl (decide (i = 5)), V.bl (decide (i = 6)), V.bl (decide (i = 7))]) ++ [V.bl (decide (i = 8)), V.bl (decide (i = 9)), V.bl (decide (i = 10)), V.bl (decide (i = 11))]) ++ [V.bl (decide (i = 12)), V.bl (decide (i = 13)), V.bl (decide (i = 14)), V.bl (decide (i = 15))]) ++ [V.bl (decide (i = 16)), V.bl (decide (i = 17))]))) = H5
  intro s5 l5
  refine ⟨len 10 (by decide), fun d1 e1 => ?_⟩
  refine ⟨_, rfl, len 8 (by decide), fun d2 e2 => ?_⟩
  refine ⟨d1, d2, _, _, rfl, rfl, same_new e2 _ _ _ upd_same, upd_same, len 18 (by decide), fun d3 e3 => ?_⟩
  have l6 := same_new e3 (.lst ((exA ++ exB).map V.str)) _ _ (same_new e2 (.lst (exB.map V.str)) _ _ (same_new e1 (.lst (exA.map V.str)) _ _ l5))
  have s6 := ((s5.trans (same_new e1 (.lst (exA.map V.str)))).trans (same_new e2 (.lst (exB.map V.str)))).trans (same_new e3 (.lst ((exA ++ exB).map V.str)))
  refine ⟨_, rfl, .inl ⟨rfl, _, SqL.of l6⟩, a5, mks i, .bl true, rfl, rfl, SqL.of l6, rfl, mks_flat i hi, ?_⟩
  rw [mks_cnt i hi]
  refine ⟨rfl, _, rfl, ite2 (fun z => absurd z (by decide)) (fun _ => ?_)⟩
  refine ⟨_, rfl, .ty "ValueError", .type "ValueError", _, rfl, fun u r => r, Kl.ve i hi, _, rfl, ite2 (fun z => absurd z (by decide)) (fun _ => ?_)⟩
  refine ⟨_, rfl, _, rfl, .inl ⟨rfl, _, SqL.of l6⟩, a5, mks i, .bl true, i, .bl true, rfl, rfl, SqL.of l6, rfl, mks_flat i hi, mks_at i hi, rfl, fun m z hm hz => mks_no i m z hi hm hz, ?_⟩
  exact ⟨d3, _, _, _, rfl, rfl, SqL.of upd_same, atI_nat (nm_at i hi), q _ s6⟩
end
end N

namespace N
open PySem PySem.Spec PyProof.Rows L2 LamX NdefX
/-! ### lambdas with parameters and captured names -/
/-- the words of a lambda; its expression stands beside -/
def lamF (q : Str) (params : Arguments) (scope : Scope) (cl : List (Str × Addr)) (c : Addr) : NF := ⟨"<lambda>", q, params, [], scope, cl, c⟩
/-- at f stands the lambda -/
def LamO (f : Addr) (F : NF) (body : Expr) : HO := .ext fun h => ∃ pm ctv : Value, h.get? f = some (PySem.W.kla_obj F.name F.qual F.params body F.scope F.cl pm F.c ctv)
theorem lamO_at {P : Program} {w : World} {H : Hp} {h : Heap} {f : Addr} {F : NF} {body : Expr} (hok : HOk P w H h) (e : H f = some (LamO f F body)) : ∃ pm ctv : Value, h.get? f = some (PySem.W.kla_obj F.name F.qual F.params body F.scope F.cl pm F.c ctv) := (hok f _ e).1
theorem lamO_ne {f : Addr} {F : NF} {body : Expr} (ps : Array Value) : LamO f F body ≠ .tbl ps := fun z => by
  unfold LamO at z
  cases z
section
variable {X : Cx} {pins : List (Addr × Obj)} {σ : L2.St} {H : Hp} {s : Shared}
theorem tabS_more {H : Hp} {P c : Addr} {q : Str} {ps : Array Value} {pos : Pos} (hP : H P = some (.tbl ps)) (ht : TriplesOk ps.toList) (ha : ∀ (p' : Pos) (cv : Value), codeAmong p' ps.toList = some cv → ∃ c0, cv = .ref c0 ∧ H c0 = some (CodeO c0 q)) (hc : H c = none) :
    TabS (upd (upd H P (.tbl (ps ++ #[rawInt pos.line, rawInt pos.col, .ref c]))) c (CodeO c q)) P q := by
  have hne : P ≠ c := ne_of_none hP hc
  have el : (ps ++ #[rawInt pos.line, rawInt pos.col, .ref c]).toList = ps.toList ++ [rawInt pos.line, rawInt pos.col, .ref c] := by simp
  refine ⟨_, (by rw [upd_ne hne]; exact upd_same), by rw [el]; exact PySem.TriplesOk_snoc _ _ _ _ ht, ?_⟩
  intro p' cv hv
  rw [el] at hv
  rcases among_app _ ht hv with y | y
  · obtain ⟨c0, y1, y2⟩ := ha p' cv y
    have n1 : c0 ≠ c := ne_of_none y2 hc
    have n2 : c0 ≠ P := fun z => by
      rw [z, hP] at y2
      exact codeO_ne ps (Option.some.inj y2).symm
    exact ⟨c0, y1, by rw [upd_ne n1, upd_ne n2]; exact y2⟩
  · exact ⟨c, y, upd_same⟩
/-- a lambda is made; it is known from now on -/
theorem lam_new {c P : Addr} {params : Arguments} {body : Expr} {scope : Scope} {pos : Pos} {E : Value → Shared → Prop} {Q : Value → Shared → Prop} (I : Inv X pins σ H s) (TB : TabB X.base X.mg c P) (hcode : X.env.code = .ref c) (hT : TabS H P (X.env.qual ++ "<lambda>"))
    (hdef : defaultsOf params X.env = ([], [])) (hfree : ∀ y ∈ scope.names, y.2 = .free → ∃ c, X.env.cells.lookup y.1 = some c)
    (h : ∀ (f c' : Addr) (H1 : Hp) (s' : Shared), Inv X pins σ H1 s' → ExtN H H1 → TabS H1 P (X.env.qual ++ "<lambda>") → (∀ b, H1 b = none → H b = none) → H f = none → H1 f = some (LamO f (lamF (X.env.qual ++ "<lambda>") params scope (cloFrom X.env.cells scope.names []) c') body) → H1 c' = some (CodeO c' (X.env.qual ++ "<lambda>")) → Q (.ref f) s') :
    wpAny (model X.prog X.w) X.A (eval (.Lambda params body scope pos) X.env) Q E s := by
  obtain ⟨ps, hP, ht, ha⟩ := hT
  apply PySem.W.kla_eval hdef
  have hb : s.heap.BuiltinsAt X.mg P := TB.bm.keeps I.bk
  have tP : s.heap.get? P = some { cls := .none, data := .fields ps } := I.hok P _ hP
  -- the function object itself
  have fin : ∀ (h' : Heap) (tk : Nat) (c' : Addr) (ctv : Value) (H1 : Hp), Inv X pins σ H1 { s with heap := h', toks := tk } → ExtN H H1 → TabS H1 P (X.env.qual ++ "<lambda>") → (∀ b, H1 b = none → H b = none) → H1 c' = some (CodeO c' (X.env.qual ++ "<lambda>")) →
      Q (.ref h'.objs.size) { s with heap := h'.push (PySem.W.kla_obj "<lambda>" (X.env.qual ++ "<lambda>") params body scope (cloFrom X.env.cells scope.names []) ((X.mg "__name__").getD .none) c' ctv), toks := tk } := by
    intro h' tk c' ctv H1 J e1 T1 n1 k1
    have nf : H1 h'.objs.size = none := J.hok.fresh (Nat.le_refl _)
    have here : (h'.push (PySem.W.kla_obj "<lambda>" (X.env.qual ++ "<lambda>") params body scope (cloFrom X.env.cells scope.names []) ((X.mg "__name__").getD .none) c' ctv)).get? h'.objs.size = some _ := Heap.get?_push_size _ rfl
    have J2 := J.laid (t' := tk) (a := h'.objs.size) (o := LamO h'.objs.size (lamF (X.env.qual ++ "<lambda>") params scope (cloFrom X.env.cells scope.names []) c') body) (fun b u e => Heap.get?_push_of_some _ e) (Nat.le_refl _)
      ⟨⟨_, _, here⟩, ⟨_, here⟩, fun h1 h2 y st => by obtain ⟨a, b, z⟩ := y; exact ⟨a, b, st _ z⟩⟩
    have sm := same_new nf (LamO h'.objs.size (lamF (X.env.qual ++ "<lambda>") params scope (cloFrom X.env.cells scope.names []) c') body)
    exact h _ c' _ _ J2 (e1.trans (ExtN.of sm)) (T1.ext sm) (fun b z => n1 b (sm.free z)) (n1 _ nf) upd_same (sm _ _ k1)
  cases hc : codeAmong pos ps.toList with
  | some cv =>
    obtain ⟨c', ec, hco⟩ := ha pos cv hc
    subst ec
    refine PySem.W.kla_makeFunctionHit (closure_ok hfree) I.ok.glob (I.mod.glob.keeps I.bk) hcode (TB.code.keeps I.bk) tP ht hc hb (fun ctv h' tk kx _ => ?_)
    exact fin h' tk c' ctv H (I.kept kx) (ExtN.refl H) ⟨ps, hP, ht, ha⟩ (fun b z => z) hco
  | none =>
    refine PySem.W.kla_makeFunction (closure_ok hfree) I.ok.glob (I.mod.glob.keeps I.bk) hcode (TB.code.keeps I.bk) tP ht hc TB.gP hb (fun c' ctv h' tk kx hge hlt hrec htb => ?_)
    obtain ⟨c2, oc, vs, t, e2, y1, y2, y3⟩ := hrec
    cases e2
    have nc : H c' = none := I.hok.fresh hge
    have J := inv_table (t' := tk) (more := #[rawInt pos.line, rawInt pos.col, .ref c']) (h' := h') (q := X.env.qual ++ "<lambda>") I hP (fun b o n e => kx b o n e) htb hge ⟨oc, vs, t, y1, y2, y3⟩
    refine fin h' tk c' ctv _ J (fun b o e n => ?_) (tabS_more hP ht ha nc) (fun b z => upd_none (upd_none z)) upd_same
    rw [upd_ne (ne_of_none e nc), upd_ne (fun z => n ps (Option.some.inj (e.symm.trans (by rw [z]; exact hP))))]
    exact e
/-- what the cells held at the entry they hold -/
theorem cells_later {cl : List (Str × Addr)} {fr : List Str} {ws : List (Option V)} (C : CellsAt cl fr ws X.s_0.heap X.H_0) (hx : X.ex = []) (I : Inv X pins σ H s) : CellsAt cl fr ws s.heap H := by
  have kp : ∀ y c, cl.lookup y = some c → ∀ v, X.s_0.heap.IsCell c v → s.heap.IsCell c v := fun y c e v z => by
    obtain ⟨o, ho, hd⟩ := z
    obtain ⟨sl, z2⟩ := I.base.any ho (C.all y c e).1 (by rw [hx]; simp)
    exact ⟨_, z2, hd⟩
  refine ⟨C.len, fun y c e => ?_, C.inj, fun i y e => ?_⟩
  · obtain ⟨n, v, z⟩ := C.all y c e
    have z0 := z
    obtain ⟨o, ho, _⟩ := z0
    exact ⟨I.base.free c o ho n (by rw [hx]; simp), v, kp y c e _ z⟩
  · obtain ⟨c, e1, e2⟩ := C.has i y e
    exact ⟨c, e1, fun v ev => (e2 v ev).imp fun u r => ⟨r.1, kp y c e1 _ r.2⟩⟩
end
section
variable {P : Program} {w : World} {K : PySem.W.Frag} {mg : Str → Option Value} {base : Heap} {N ps fr : List Str} {F : NF} {f : Addr} {k : Nat} {body : Expr} {tb : TE}
/-- a lambda called -/
theorem run_lam (S : NScope N ps fr F.scope) (hb : ∀ (pm ctv : Value) (us : List Value), us.length = ps.length → bindArgs (PySem.W.kla_fn F.name F.qual F.params body F.scope F.cl pm (.ref F.c) ctv) ⟨us, []⟩ = pure (ps.zip us))
    {A : Around} {outer : List Env} {s : Shared} {H : Hp} {us : List Value} {vs : List V} {ws : List (Option V)} {Q : VK}
    (hbody : ∀ (s : Shared) (H : Hp), PE (ncx (L2.CX P w) P w K mg base N F f A outer s H E0) body tb)
    (hr : RoomG (k + 1) A) (e0 : Env0 P w K mg base A outer s H) (hf : H f = some (LamO f F body)) (hc : H F.c = some (CodeO F.c F.qual)) (C : CellsAt F.cl fr ws s.heap H) (r : Vals vs us) (hl : vs.length = ps.length) (q : tb (startF N vs ws) H Q) :
    codeAny (model P w) A (.call (.ref f) ⟨us, []⟩) (CR (L2.CX P w) outer P w H s Q E0) s := by
  have lim : s.heap.NoLimit := e0.mod.nolimit.keeps fun b o e => (e0.bs b o e).1
  obtain ⟨pm, ctv, ho⟩ := lamO_at e0.hok hf
  refine PySem.W.kla_callFunE hr.toRoom.depth ho rfl S.co S.gen rfl (codeO_at e0.hok hc) ?_
  rw [hb pm ctv us (by rw [← r.length]; exact hl)]
  refine wpAny_pure (wpAny_newFunctionEnv S.nocell (fun y hy => S.par y.1 (List.of_mem_zip (show (y.1, y.2) ∈ ps.zip us from hy)).1) (fun h1 hns hsb => ⟨lim.fresh _ hsb, ?_⟩) S.kind)
  show codeAny _ _ (.expr body (envF F f s.heap.objs.size)) _ _
  have kp : ∀ b o, s.heap.get? b = some o → h1.get? b = some o := fun b o e => hsb.extBut b o (Nat.ne_of_lt (Heap.lt_size e)) (Heap.get?_push_of_some _ e)
  have J : Inv (ncx (L2.CX P w) P w K mg base N F f A outer s H E0) [] (startF N vs ws) H { s with heap := h1, toks := s.toks + (ps.zip us).length } := inv_startN S hr.toRoom.hd e0 hl r C hns kp
  refine PySem.W.kla_codeExpr (wpAny_mono ((hbody s H).run [] _ _ H Q J q) (fun v s' z => ?_) fun e s' z => z)
  obtain ⟨v', H', J', rv, z2⟩ := z
  exact ⟨v', H', J'.os, J'.bare, J'.base, J'.hok, rv, z2⟩
end
section
variable {Z : Cx} {Nm ps fr : List Str} {F : NF} {f : Addr} {k i : Nat} {body : Expr} {tb : TE} {ws : List (Option V)} {G : List V → Hp → VK → Prop} {a : Str} {e : Expr} {es : List Expr} {t : TA} {p1 p2 : Pos}
theorem pe_actL (S : NScope Nm ps fr F.scope) (hb : ∀ (pm ctv : Value) (us : List Value), us.length = ps.length → bindArgs (PySem.W.kla_fn F.name F.qual F.params body F.scope F.cl pm (.ref F.c) ctv) ⟨us, []⟩ = pure (ps.zip us))
    (hbody : ∀ (s : Shared) (H : Hp), PE (ncx (L2.CX Z.prog Z.w) Z.prog Z.w Z.K Z.mg Z.base Nm F f Z.A Z.stack s H E0) body tb) (hr : RoomG (k + 1) Z.A) (C : CellsAt F.cl fr ws Z.s_0.heap Z.H_0) (hx : Z.ex = []) (hG : ∀ vs H1 Q, G vs H1 Q → H1 f = some (LamO f F body) ∧ H1 F.c = some (CodeO F.c F.qual) ∧ vs.length = ps.length ∧ tb (startF Nm vs ws) H1 Q)
    (hN : Z.N[i]? = some a) (hv : Vis Z.env.scope a) (ha : PA Z (e :: es) t) (hd : (a == ("__debug__" : Str)) = false := by decide) (hcd : (a == ("__classdict__" : Str)) = false := by decide)
    (he : starEach (e :: es) Z.env = (false, eval e Z.env) :: starEach es Z.env := by rfl) (hpl : (backTo p2 (starEach es Z.env)).any (·.1) = false := by rfl) :
    PE Z (.Call (.Name a p1) (e :: es) [] p2) (fun σ H Q => σ[i]? = some (some (.ref f)) ∧ H f = some (LamO f F body) ∧ t σ H fun vs H1 => G vs H1 Q) := by
  refine ⟨fun pins s σ H Q I h => ?_⟩
  obtain ⟨hs, hf, ht⟩ := h
  refine wpAny_Call_Name_kw (thn ((pe_var (pos := p1) hN hv hd hcd).run pins s σ H (fun v H1 => v = .ref f ∧ H1 = H) I ⟨.ref f, hs, rfl, rfl⟩) fun u s1 z => ?_)
  obtain ⟨v, H1, J, r1, ev, eH⟩ := z
  subst ev
  rw [eH] at J
  obtain rfl : u = Value.ref f := r1
  have fnAt : ∀ {s : Shared} {H : Hp} {pins : List (Addr × Obj)} {σ : L2.St}, Inv Z pins σ H s → H f = some (LamO f F body) → PySem.W.FnAt f s.heap := fun I e => by
    obtain ⟨pm, ctv, ho⟩ := lamO_at I.hok e
    exact ⟨_, _, _, _, ho⟩
  refine PySem.W.callWith_F (first := []) (fnAt J hf) (thn (ha.run p2 pins s1 σ H _ J ht) fun us s2 z => ?_) he hpl
  obtain ⟨vs, H2, J2, r, gg⟩ := z
  obtain ⟨q1, q2, q3, q4⟩ := hG vs H2 Q gg
  refine ⟨fnAt J2 q1, ?_⟩
  show wpAny _ _ (call (.ref f) us) _ _ _
  refine wpAny_call (codeAny_mono (run_lam S hb hbody hr J2.env0 q1 q2 (cells_later C hx J2) r q3 q4) fun res s' hq => ?_)
  match res, hq with
  | .error e, hq => exact passL pins σ H2 s2 e s' J2 hq
  | .ok (.ret u), hq => exact J2.after hq
  | .ok .next, hq => exact False.elim hq
  | .ok .brk, hq => exact False.elim hq
  | .ok .cont, hq => exact False.elim hq
end
end N

namespace N
open PySem PySem.Spec PyProof.Rows L2 LamX NdefX
/-! ### values that are called, by what they do -/
/-- at f stands a lambda that does spL, its cells being as they are in the heap h -/
def ActL (P : Program) (w : World) (K : PySem.W.Frag) (mg : Str → Option Value) (base : Heap) (f : Addr) (h : Heap) (H : Hp) (spL : List V → Hp → VK → Prop) : Prop :=
  ∃ (F : NF) (body : Expr) (Nm ps fr : List Str) (ws : List (Option V)) (tb : TE), NScope Nm ps fr F.scope ∧
    (∀ (pm ctv : Value) (us : List Value), us.length = ps.length → bindArgs (PySem.W.kla_fn F.name F.qual F.params body F.scope F.cl pm (.ref F.c) ctv) ⟨us, []⟩ = pure (ps.zip us)) ∧
    (∀ (A : Around) (outer : List Env) (s : Shared) (H : Hp), RoomG 0 (A.deeper (envF F f s.heap.objs.size)) → PE (ncx (L2.CX P w) P w K mg base Nm F f A outer s H E0) body tb) ∧ CellsAt F.cl fr ws h H ∧
    H f = some (LamO f F body) ∧ H F.c = some (CodeO F.c F.qual) ∧ ∀ vs H' Q, spL vs H' Q → vs.length = ps.length ∧ tb (startF Nm vs ws) H' Q
section
variable {Z : Cx} {f : Addr} {i : Nat} {a : Str} {e : Expr} {es : List Expr} {t : TA} {p1 p2 : Pos} {spL : List V → Hp → VK → Prop}
theorem pe_actS (L : ActL Z.prog Z.w Z.K Z.mg Z.base f Z.s_0.heap Z.H_0 spL) (hr : RoomG 1 Z.A) (hx : Z.ex = [])
    (hN : Z.N[i]? = some a) (hv : Vis Z.env.scope a) (ha : PA Z (e :: es) t) (hd : (a == ("__debug__" : Str)) = false := by decide) (hcd : (a == ("__classdict__" : Str)) = false := by decide)
    (he : starEach (e :: es) Z.env = (false, eval e Z.env) :: starEach es Z.env := by rfl) (hpl : (backTo p2 (starEach es Z.env)).any (·.1) = false := by rfl) :
    PE Z (.Call (.Name a p1) (e :: es) [] p2) (fun σ H Q => σ[i]? = some (some (.ref f)) ∧ Same Z.H_0 H ∧ t σ H fun vs H1 => Same Z.H_0 H1 ∧ spL vs H1 Q) := by
  obtain ⟨F, body, Nm, ps, fr, ws, tb, S, hb, hbody, C, h1, h2, hsp⟩ := L
  have q := pe_actL (Z := Z) (i := i) (f := f) (k := 0) (p1 := p1) (G := fun vs H1 Q => Same Z.H_0 H1 ∧ spL vs H1 Q) S hb (fun s H => hbody Z.A Z.stack s H (hr.deeper _)) hr C hx (fun vs H1 Q z => ⟨z.1 _ _ h1, z.1 _ _ h2, hsp vs H1 Q z.2⟩) hN hv ha hd hcd he hpl
  refine ⟨fun pins s σ H Q I h => ?_⟩
  obtain ⟨g1, g2, g3⟩ := h
  exact q.run pins s σ H Q I ⟨g1, g2 _ _ h1, g3⟩
end
end N

namespace N
open PySem PySem.Spec PyProof.Rows L2 LamX NdefX
section
variable {X : Cx} {k : Nat} {x : Str} {st : Stmt} {ps Ng : List Str} {p pos : Pos} {e : Expr} {es : List Expr} {t : TA}
/-- lambda ..: .. as a value -/
theorem pe_lamT {c P : Addr} {params : Arguments} {body : Expr} {scope : Scope} (TB : TabB X.base X.mg c P) (hcode : X.env.code = .ref c) (hdef : defaultsOf params X.env = ([], []) := by rfl)
    (fre : ∀ y ∈ scope.names, y.2 = .free → X.env.scope.names.lookup y.1 = some .cell ∨ X.env.scope.names.lookup y.1 = some .free := by decide +kernel) :
    PE X (.Lambda params body scope pos) (fun σ H Q => TabS H P (X.env.qual ++ "<lambda>") ∧ ∀ (f c' : Addr) (H1 : Hp), ExtN H H1 → TabS H1 P (X.env.qual ++ "<lambda>") → (∀ b, H1 b = none → H b = none) → H f = none →
      H1 f = some (LamO f (lamF (X.env.qual ++ "<lambda>") params scope (cloFrom X.env.cells scope.names []) c') body) → H1 c' = some (CodeO c' (X.env.qual ++ "<lambda>")) → Q (.ref f) H1) := by
  refine ⟨fun pins s σ H Q I h => ?_⟩
  obtain ⟨hT, h⟩ := h
  refine lam_new I TB hcode hT hdef (fun y hy ey => (fre y hy ey).elim (fun z => I.ok.has _ (.inl z)) fun z => I.ok.has _ (.inr z)) (fun f c' H1 s' J g1 g2 g3 g4 g5 g6 => ?_)
  exact ⟨.ref f, H1, J, rfl, h f c' H1 g1 g2 g3 g4 g5 g6⟩
/-- x(e, ..), the promise told of the very state -/
theorem pe_callH {RR : L2.St → List V → Hp → VK → Prop} (D : DefAt X.K X.mg x st ps) (Sg : FnScope Ng ps (defScope st)) (hr : RoomG (k + 1) X.A) (hg : Gl X x) (ha : PA X (e :: es) t) (hlen : ∀ σ vs H Q, RR σ vs H Q → vs.length = ps.length)
    (hG : ∀ (g : Addr) (cdv : Value) (pins : List (Addr × Obj)) (s : Shared) (σ : L2.St) (H : Hp) (vs : List V) (Q : VK), Inv X pins σ H s → RoomG k (X.A.deeper (envOfC x (defScope st) s.heap.objs.size g cdv)) → RR σ vs H Q →
      ∃ t, PSs (cxOf (L2.CX X.prog X.w) X.prog X.w X.K X.mg X.base Ng x (defScope st) g cdv X.A X.stack s H E0) (defBody st) t ∧ t { nx := fun _ H' => Q .non H', rt := Q } (L2.start Ng vs) H)
    (hdb : (x == ("__debug__" : Str)) = false := by decide) (he : starEach (e :: es) X.env = (false, eval e X.env) :: starEach es X.env := by rfl) (hpl : (backTo pos (starEach es X.env)).any (·.1) = false := by rfl) :
    PE X (.Call (.Name x p) (e :: es) [] pos) (fun σ H Q => t σ H fun vs H1 => RR σ vs H1 Q) := by
  obtain ⟨g, fd, hm, F, hb⟩ := D
  have hk := F.kp
  obtain ⟨oc, od, kV, doc, pm, an, cdv, ct, osl, rfl, lk, hcd⟩ := F.ex
  refine ⟨fun pins s σ H Q I h => wpAny_Call_Name_kw (ld_glob I hg hm ?_ hdb)⟩
  refine PySem.W.callWith_K (h₀ := X.base) I.ok.mod.kin hk (thn (ha.run pos pins s σ H _ I h) fun us s1 z => ?_) he hpl
  obtain ⟨vs, H1, J, r, q⟩ := z
  refine ⟨J.kIn, ?_⟩
  have hl := hlen _ _ _ _ q
  have b := hb s1 us J.kIn (by rw [List.append_nil, ← r.length]; exact hl)
  rw [List.append_nil] at b
  show wpAny _ _ (call (.ref g) us) _ _ _
  refine wpAny_call (codeAny_mono (run_ofS (CX := L2.CX X.prog X.w) (E := E0) lk hcd Sg hr.toRoom J.env0 b r hl fun hr' => hG g cdv pins s1 σ H1 vs Q J ⟨hr', hr.gs⟩ q) fun res s' hq => ?_)
  match res, hq with
  | .error e, hq => exact passL pins σ H1 s1 e s' J hq
  | .ok (.ret u), hq => exact J.after hq
  | .ok .next, hq => exact False.elim hq
  | .ok .brk, hq => exact False.elim hq
  | .ok .cont, hq => exact False.elim hq
end
/-! ### a def whose code object is named -/
def DefAtC (K : PySem.W.Frag) (mg : Str → Option Value) (x : Str) (st : Stmt) (ps : List Str) (c : Addr) : Prop :=
  ∃ (f : Addr) (fd : FuncData) (oc : Value) (od : Option Addr) (kV doc pm : Value) (an : Option Addr) (ct : Value) (osl : Array (Option Value)), mg x = some (.ref f) ∧ fd = PySem.W.fnOf x x (defArgs st) (defBody st) (defScope st) .none kV doc pm an (.ref c) ct ∧
    K.lookup f = some ⟨oc, od, .func fd, osl⟩ ∧ PySem.W.codeIn K (.ref c) x = true ∧ PySem.W.keepIn K (.ref f) = true ∧ Binds K fd ps []
section
variable {P : Program} {w : World} {K : PySem.W.Frag} {mg : Str → Option Value} {base : Heap} {k : Nat} {x : Str} {ps Nm : List Str} {sp : Sp} {st : Stmt} {c : Addr}
theorem DefAtC.cal (D : DefAtC K mg x st ps c) (S : FnScope Nm ps (defScope st)) (len : ∀ vs H Q E, sp vs H Q E → vs.length = ps.length)
    (hbody : ∀ (f : Addr) (A : Around) (outer : List Env) (s : Shared) (H : Hp) (vs : List V) (Q : VK) (E : XK), RoomG k (A.deeper (envOfC x (defScope st) s.heap.objs.size f (.ref c))) → sp vs H Q E →
      ∃ t, PSs (cxOf (L2.CX P w) P w K mg base Nm x (defScope st) f (.ref c) A outer s H E) (defBody st) t ∧ t { nx := fun _ H' => Q .non H', rt := Q } (start Nm vs) H) : Cal P w K mg base (k + 1) x ps sp := by
  obtain ⟨f, fd, oc, od, kV, doc, pm, an, ct, osl, hm, rfl, lk, hcd, hk, hb⟩ := D
  refine ⟨f, _, hm, hk, hb, len, fun A outer s H args us vs Q E hr e0 bt r hsp => ?_⟩
  exact run_ofS lk hcd S hr.toRoom e0 bt r (len _ _ _ _ hsp) fun hr' => hbody f A outer s H vs Q E ⟨hr', hr.gs⟩ hsp
end
theorem mk_defC {h : Heap} {K : PySem.W.Frag} {mg : Str → Option Value} {x : Str} {st : Stmt} {ps : List Str} {c : Addr} {f : Addr} {oc : Value} {od an : Option Addr} {osl : Array (Option Value)} {kV doc pm ct : Value} (X : K.In h) (G : h.Ns mainGlobals mg)
    (a : PySem.W.nsIn K mainGlobals x = some (some (.ref f))) (l : K.lookup f = some ⟨oc, od, .func (PySem.W.fnOf x x (defArgs st) (defBody st) (defScope st) .none kV doc pm an (.ref c) ct), osl⟩) (hc : PySem.W.codeIn K (.ref c) x = true) (k : PySem.W.keepIn K (.ref f) = true)
    (b : ∀ (kV doc pm : Value) (an : Option Addr) (cdv ct : Value) (us : List Value), us.length = ps.length → bindArgs (PySem.W.fnOf x x (defArgs st) (defBody st) (defScope st) .none kV doc pm an cdv ct) ⟨us, []⟩ = pure (ps.zip us)) : DefAtC K mg x st ps c :=
  ⟨f, _, oc, od, kV, doc, pm, an, ct, osl, PySem.W.mg_of X G a, rfl, l, hc, k, (fun_mk l hc k).binds b⟩
end N

namespace N
open PySem PySem.Spec PyProof.Rows L2 L2H LamX NdefX
/-! ### a lambda without parameters that is called, and may raise -/
/-- at f stands a lambda that does spL, its cells being as they are in the heap h -/
def ActR (P : Program) (w : World) (K : PySem.W.Frag) (mg : Str → Option Value) (base : Heap) (k : Nat) (f : Addr) (h : Heap) (H : Hp) (spL : Hp → VK → XK → Prop) : Prop :=
  ∃ (F : NF) (body : Expr) (Nm fr : List Str) (ws : List (Option V)) (tb : XK → TE), NScope Nm [] fr F.scope ∧
    (∀ (pm ctv : Value), bindArgs (PySem.W.kla_fn F.name F.qual F.params body F.scope F.cl pm (.ref F.c) ctv) ⟨[], []⟩ = pure []) ∧
    (∀ (A : Around) (outer : List Env) (s : Shared) (H : Hp) (E : XK), RoomG k (A.deeper (envF F f s.heap.objs.size)) → PE (ncx (L2.CX P w) P w K mg base Nm F f A outer s H E) body (tb E)) ∧ CellsAt F.cl fr ws h H ∧
    H f = some (LamO f F body) ∧ H F.c = some (CodeO F.c F.qual) ∧ ∀ H' Q E, spL H' Q E → tb E (startF Nm [] ws) H' Q
section
variable {P : Program} {w : World} {K : PySem.W.Frag} {mg : Str → Option Value} {base : Heap} {Nm fr : List Str} {F : NF} {f : Addr} {k : Nat} {body : Expr} {tb : TE}
theorem run_lamE (S : NScope Nm [] fr F.scope) (hb : ∀ (pm ctv : Value), bindArgs (PySem.W.kla_fn F.name F.qual F.params body F.scope F.cl pm (.ref F.c) ctv) ⟨[], []⟩ = pure [])
    {A : Around} {outer : List Env} {s : Shared} {H : Hp} {ws : List (Option V)} {Q : VK} {E : XK}
    (hbody : PE (ncx (L2.CX P w) P w K mg base Nm F f A outer s H E) body tb)
    (hr : RoomG (k + 1) A) (e0 : Env0 P w K mg base A outer s H) (hf : H f = some (LamO f F body)) (hc : H F.c = some (CodeO F.c F.qual)) (C : CellsAt F.cl fr ws s.heap H) (q : tb (startF Nm [] ws) H Q) :
    codeAny (model P w) A (.call (.ref f) ⟨[], []⟩) (CR (L2.CX P w) outer P w H s Q E) s := by
  have lim : s.heap.NoLimit := e0.mod.nolimit.keeps fun b o e => (e0.bs b o e).1
  obtain ⟨pm, ctv, ho⟩ := lamO_at e0.hok hf
  refine PySem.W.kla_callFunE hr.toRoom.depth ho rfl S.co S.gen rfl (codeO_at e0.hok hc) ?_
  rw [hb pm ctv]
  refine wpAny_pure (wpAny_newFunctionEnv S.nocell (fun y hy => by cases hy) (fun h1 hns hsb => ⟨lim.fresh _ hsb, ?_⟩) S.kind)
  show codeAny _ _ (.expr body (envF F f s.heap.objs.size)) _ _
  have kp : ∀ b o, s.heap.get? b = some o → h1.get? b = some o := fun b o e => hsb.extBut b o (Nat.ne_of_lt (Heap.lt_size e)) (Heap.get?_push_of_some _ e)
  have J : Inv (ncx (L2.CX P w) P w K mg base Nm F f A outer s H E) [] (startF Nm [] ws) H { s with heap := h1, toks := s.toks } := inv_startN (us := []) S hr.toRoom.hd e0 rfl .nil C hns kp
  refine PySem.W.kla_codeExpr (wpAny_mono (hbody.run [] _ _ H Q J q) (fun v s' z => ?_) fun e s' z => z)
  obtain ⟨v', H', J', rv, z2⟩ := z
  exact ⟨v', H', J'.os, J'.bare, J'.base, J'.hok, rv, z2⟩
end
section
variable {Z : Cx} {f : Addr} {i k : Nat} {a : Str} {p1 p2 : Pos} {spL : Hp → VK → XK → Prop} {W : WX}
/-- a(), a the name of such a lambda -/
theorem pe_actR (L : ActR Z.prog Z.w Z.K Z.mg Z.base k f Z.s_0.heap Z.H_0 spL) (tk : Takes Z W) (hr : RoomG (k + 1) Z.A) (hx : Z.ex = [])
    (hN : Z.N[i]? = some a) (hv : Vis Z.env.scope a) (hd : (a == ("__debug__" : Str)) = false := by decide) (hcd : (a == ("__classdict__" : Str)) = false := by decide) :
    PE Z (.Call (.Name a p1) [] [] p2) (fun σ H Q => σ[i]? = some (some (.ref f)) ∧ Same Z.H_0 H ∧ spL H Q (WE W σ)) := by
  obtain ⟨F, body, Nm, fr, ws, tb, S, hb, hbody, C, h1, h2, hsp⟩ := L
  refine ⟨fun pins s σ H Q I h => ?_⟩
  obtain ⟨hs, sm, hq⟩ := h
  refine wpAny_Call_Name_kw (thn ((pe_var (pos := p1) hN hv hd hcd).run pins s σ H (fun v H1 => v = .ref f ∧ H1 = H) I ⟨.ref f, hs, rfl, rfl⟩) fun u s1 z => ?_)
  obtain ⟨v, H1, J, r1, ev, eH⟩ := z
  subst ev
  rw [eH] at J
  obtain rfl : u = Value.ref f := r1
  have e1 := sm _ _ h1
  have at_ : PySem.W.FnAt f s1.heap := by
    obtain ⟨pm, ctv, ho⟩ := lamO_at J.hok e1
    exact ⟨_, _, _, _, ho⟩
  refine PySem.W.callWith_F0 (first := []) at_ ?_
  show wpAny _ _ (call (.ref f) []) _ _ _
  refine wpAny_call (codeAny_mono (run_lamE (k := k) (E := WE W σ) S hb (hbody Z.A Z.stack s1 H _ (hr.deeper _)) hr J.env0 e1 (sm _ _ h2) (cells_later C hx J) (hsp H Q _ hq)) fun res s' hq => ?_)
  match res, hq with
  | .error e, hq => exact passAt tk σ pins H s1 e s' J hq
  | .ok (.ret u), hq => exact J.after hq
  | .ok .next, hq => exact False.elim hq
  | .ok .brk, hq => exact False.elim hq
  | .ok .cont, hq => exact False.elim hq
end
section
variable {X : Cx}
/-- repr(x), x an int, a text or data without dicts -/
def rReprU (K : PySem.W.Frag) : List V → Hp → VK → Prop := fun xs H Q => ∃ v, xs = [v] ∧ ((∃ i : Int, v = .int i ∧ i.natAbs.log2 < 1920 ∧ Q (.str (toString i)) H) ∨ ∃ d, ((∃ a, v = .ref a) ∨ ∃ x, v = .str x) ∧ Dp K H v d ∧ d.showable = true ∧ d.hasDict = false ∧ d.depth ≤ 60 ∧ d.shown.length ≤ sizeLine ∧ Q (.str d.shown) H)
theorem call_reprU {j : Nat} (hr : RoomG j X.A) : CallR X (.builtin "repr") (rReprU X.K) := by
  intro pins s σ H xs us Q I r h
  obtain ⟨v, rfl, h⟩ := h
  rcases h with ⟨i, rfl, hi, q⟩ | ⟨d, hv, hd, hs, hn, hdp, hz, q⟩
  · exact SkE.call_repr_int pins s σ H [.int i] us Q I r ⟨i, rfl, hi, q⟩
  rcases hv with ⟨a, rfl⟩ | ⟨x, rfl⟩
  · exact call_repr hr pins s σ H [.ref a] us Q I r ⟨a, d, rfl, hd, hs, hn, hdp, hz, q⟩
  · obtain ⟨u, rfl, t, rfl⟩ := vals1 r
    cases hd
    simp only [PyData.shown] at hz q
    exact PySem.P.repr_of_str ⟨.str (reprText x), H, I.kept (t' := s.toks + 1) fun b o e => e, ⟨_, rfl⟩, q⟩ hz
theorem pe_no {e : Expr} : PE X e (fun _ _ _ => False) := ⟨fun _ _ _ _ _ _ h => h.elim⟩
end
end N

namespace N
open PySem PySem.Spec PyProof.Rows L2
section
variable {P : Program} {w : World} {K : PySem.W.Frag} {mg : Str → Option Value} {base : Heap}
theorem sz5 {n : Nat} (h : n ≤ 100000) : n ≤ sizeLine := Nat.le_trans h (by decide)
/-- one thing, nothing changed -/
def spTest (K : PySem.W.Frag) (g : Tg → Bool) : Sp := fun vs H Q _ => ∃ v t, vs = [v] ∧ Th K H v t ∧ Q (.bl (g t)) H
theorem ok_is_letter (G : Glo mg) (D : DefAt K mg "is_letter" s_is_letter ["thing"]) : Cal P w K mg base 1 "is_letter" ["thing"] (spTest K Tg.isL) := by
  refine D.cal sc_is_letter (fun vs H Q E h => ?_) (fun f cdv A outer s H vs Q E hr h => ?_)
  · obtain ⟨v, t, rfl, _⟩ := h
    rfl
  obtain ⟨v, t, rfl, hT, q⟩ := h
  refine ⟨_, pss_one (ps_ret (pe_and (pe_isi G.isinstance G.str b_str rfl rfl (pv 0))
    (pe_and (pe_cmpR op_eq (pe_callB call_len_str (by rfl) G.len PySem.boot_len (pa_cons (pv 0) pa_nil)) pe_int (nomark _))
    (pe_one (pe_chain op_le_str op_le_str pe_str (pv 0) pe_str))))), ?_⟩
  refine ⟨v, rfl, isi_str hT ?_⟩
  cases hT with
  | str x hx =>
    refine ⟨true, rfl, iteT ⟨_, rfl, x, rfl, sz5 hx, rfl, _, rfl, ?_⟩⟩
    have e : decide (V.int (x.length : Int) = V.int 1) = decide (x.length = 1) := by
      by_cases h : x.length = 1
      · rw [h]
        decide
      · rw [decide_eq_false h, decide_eq_false (fun z => h (by have := V.int.inj z; omega))]
    rw [e]
    refine ite2 (fun c => ?_) (fun c => ?_)
    · refine ⟨_, rfl, _, _, rfl, rfl, _, rfl, ?_⟩
      refine ite2 (fun c2 => ?_) (fun c2 => ?_)
      · refine ⟨_, _, rfl, rfl, ?_⟩
        have e2 : Tg.isL (.str x) = (!decide (("Z" : Str).cps.toList < x.cps.toList)) := by
          show isLet x = _
          unfold isLet
          rw [c, c2, Bool.true_and, Bool.true_and]
        rw [← e2]
        exact q
      · have e2 : Tg.isL (.str x) = false := by
          show isLet x = _
          unfold isLet
          rw [Bool.eq_false_iff.mpr c2, Bool.false_and, Bool.and_false]
        rw [e2] at q
        exact q
    · have e2 : Tg.isL (.str x) = false := by
        show isLet x = _
        unfold isLet
        rw [Bool.eq_false_iff.mpr c, Bool.false_and]
      rw [e2] at q
      exact q
  | oth ty a b => exact ⟨false, rfl, iteF q⟩
  | tup h r => exact ⟨false, rfl, iteF q⟩
end
end N

namespace N
open PySem PySem.Spec PyProof.Rows L2
section
variable {P : Program} {w : World} {K : PySem.W.Frag} {mg : Str → Option Value} {base : Heap}
theorem ok_is_name (G : Glo mg) (D : DefAt K mg "is_name" s_is_name ["thing"]) : Cal P w K mg base 1 "is_name" ["thing"] (spTest K Tg.isNm) := by
  obtain ⟨t8, h8⟩ := G.LN
  refine D.cal sc_is_name (fun vs H Q E h => ?_) (fun f cdv A outer s H vs Q E hr h => ?_)
  · obtain ⟨v, t, rfl, _⟩ := h
    rfl
  obtain ⟨v, t, rfl, hT, q⟩ := h
  refine ⟨_, pss_cons (ps_if (PW.pt (pw_or (pt_not (pt_val (pe_isi G.isinstance G.str b_str rfl rfl (pv 0))))
      (pw_or1 (pt_cmpR op_gt (pe_callB call_len_str (by rfl) G.len PySem.boot_len (pa_cons (pv 0) pa_nil)) (pe_glob (v := .int 8) rfl h8 ⟨_, rfl⟩) (nomark _)))))
      (pss_one (ps_ret pe_bl)) pss_nil)
    (pss_one (ps_ret (pe_and (pe_m0 PySem.F.slot_str_isascii PySem.F.type_str_isascii mt_isascii (pv 0))
      (pe_and (pe_m0 PySem.F.slot_str_isalpha PySem.F.type_str_isalpha mt_isalpha (pv 0)) (pe_one (pe_m0 PySem.F.slot_str_islower PySem.F.type_str_islower mt_islower (pv 0))))))), ?_⟩
  refine ⟨v, rfl, isi_str hT ?_⟩
  cases hT with
  | str x hx =>
    refine ⟨true, rfl, iteF ⟨_, rfl, x, rfl, sz5 hx, _, _, rfl, rfl, _, rfl, ?_⟩⟩
    refine ite2 (fun c => ?_) (fun c => ?_)
    · have c' : ((x.length : Nat) : Int) > 8 := of_decide_eq_true c
      have e2 : Tg.isNm (.str x) = false := by
        show isNam x = _
        unfold isNam
        rw [decide_eq_true (show 8 < x.length by omega)]
        rfl
      rw [e2] at q
      exact q
    · have c' : ¬ ((x.length : Nat) : Int) > 8 := of_decide_eq_false (Bool.eq_false_iff.mpr c)
      have e2 : Tg.isNm (.str x) = (Txt.isascii x && (Txt.isalpha x && Txt.islower x)) := by
        show isNam x = _
        unfold isNam
        rw [decide_eq_false (show ¬ 8 < x.length by omega)]
        rfl
      rw [e2] at q
      refine ⟨_, rfl, ⟨_, rfl⟩, x, rfl, rfl, trivial, _, rfl, ?_⟩
      refine ite2 (fun c => ?_) (fun c => ?_)
      · rw [c, Bool.true_and] at q
        refine ⟨_, rfl, ⟨_, rfl⟩, x, rfl, rfl, trivial, _, rfl, ?_⟩
        refine ite2 (fun c => ?_) (fun c => ?_)
        · rw [c, Bool.true_and] at q
          exact ⟨_, rfl, ⟨_, rfl⟩, x, rfl, rfl, trivial, q⟩
        · rw [Bool.eq_false_iff.mpr c, Bool.false_and] at q
          exact q
      · rw [Bool.eq_false_iff.mpr c, Bool.false_and] at q
        exact q
  | oth ty a b => exact ⟨false, rfl, iteT q⟩
  | tup h r => exact ⟨false, rfl, iteT q⟩

theorem begT_long {ts : List Tg} (h : 3 < ts.length) : begT (.tup ts) = false := by
  match ts, h with
  | n :: ts, h =>
    show (decide (ts.length ≤ 2) && n.isNm) = false
    rw [decide_eq_false (by rw [List.length_cons] at h; omega), Bool.false_and]
theorem begT_none {ts : List Tg} (h : ts.length < 1) : begT (.tup ts) = false := by
  match ts, h with
  | [], _ => rfl
theorem ok_begins (G : Glo mg) (CN : Cal P w K mg base 1 "is_name" ["thing"] (spTest K Tg.isNm)) (D : DefAt K mg "begins_class_type" s_begins_class_type ["thing"]) : Cal P w K mg base 2 "begins_class_type" ["thing"] (spTest K begT) := by
  obtain ⟨t2, h2⟩ := G.MA
  refine D.cal sc_begins_class_type (fun vs H Q E h => ?_) (fun f cdv A outer s H vs Q E hr h => ?_)
  · obtain ⟨v, t, rfl, _⟩ := h
    rfl
  obtain ⟨v, t, rfl, hT, q⟩ := h
  refine ⟨_, pss_cons (ps_if (PW.pt (pw_or (pt_not (pt_val (pe_isi G.isinstance G.tuple b_tuple rfl rfl (pv 0))))
      (pw_or1 (pt_not (pt_chain op_le op_le pe_int (pe_callB call_len_seq (by rfl) G.len PySem.boot_len (pa_cons (pv 0) pa_nil)) (pe_op op_add pe_int (pe_glob (v := .int 2) rfl h2 ⟨_, rfl⟩)))))))
      (pss_one (ps_ret pe_bl)) pss_nil)
    (pss_one (ps_ret (pc CN hr rfl (pa_cons (pe_ix ix_tup (pv 0) pe_int (fun _ _ => rfl)) pa_nil)))), ?_⟩
  refine ⟨v, rfl, isi_tup hT ?_⟩
  cases hT with
  | str x hx => exact ⟨false, rfl, iteT q⟩
  | oth ty a b => exact ⟨false, rfl, iteT q⟩
  | @tup a xs ts h r =>
    have hl := r.length
    refine ⟨true, rfl, iteF ⟨_, rfl, a, xs, rfl, .inr h, _, _, rfl, rfl, _, rfl, ?_⟩⟩
    refine ite2 (fun c => ?_) (fun c => ?_)
    · have c' : (1 : Int) ≤ (xs.length : Nat) := of_decide_eq_true c
      refine ⟨_, _, rfl, rfl, _, _, rfl, rfl, _, rfl, ?_⟩
      refine ite2 (fun c2 => ?_) (fun c2 => ?_)
      · have c2' : ¬ ((xs.length : Nat) : Int) ≤ 1 + 2 := by
          have z := c2
          rw [Bool.not_eq_true'] at z
          exact of_decide_eq_false z
        rw [begT_long (by omega)] at q
        exact q
      · have c2' : ((xs.length : Nat) : Int) ≤ 1 + 2 := by
          have z := c2
          rw [Bool.not_eq_true', Bool.not_eq_false] at z
          exact of_decide_eq_true z
        cases r with
        | nil => exact absurd c' (by decide)
        | @cons y ys n ts hy r =>
          refine ⟨_, rfl, a, _, 0, y, rfl, rfl, h, atI_nat (j := 0) rfl, y, n, rfl, hy, ?_⟩
          have e2 : begT (.tup (n :: ts)) = n.isNm := by
            show (decide (ts.length ≤ 2) && n.isNm) = _
            rw [decide_eq_true (by rw [List.length_cons] at c2'; have := r.length; omega), Bool.true_and]
          rw [e2] at q
          exact q
    · have c' : ¬ (1 : Int) ≤ (xs.length : Nat) := of_decide_eq_false (Bool.eq_false_iff.mpr c)
      rw [begT_none (by omega)] at q
      exact ⟨false, rfl, iteT q⟩

end
end N

namespace N
open PySem PySem.Spec PyProof.Rows L2
section
variable {P : Program} {w : World} {K : PySem.W.Frag} {mg : Str → Option Value} {base : Heap}
/-- a question about one thing: all that stood stands -/
def spAsk (K : PySem.W.Frag) (g : Tg → Bool) : Sp := fun vs H Q _ => ∃ v t, vs = [v] ∧ Th K H v t ∧ t.nodes ≤ 100000 ∧ ∀ H', Same H H' → Q (.bl (g t)) H'
theorem cut_tail (xs : List V) : cutV xs (some 1) none = xs.drop 1 := by
  unfold cutV
  rw [show HT.sIx xs.length 0 (some 1) = min 1 xs.length from HT.sIx_nat xs.length 0 1, HT.sIx_none]
  cases xs with
  | nil => rfl
  | cons x r =>
    rw [show min 1 (x :: r).length = 1 by rw [List.length_cons]; omega]
    show (List.take ((x :: r).length - 1) r) = r
    rw [List.length_cons, Nat.add_sub_cancel]
    exact List.take_length
theorem cut_tail_ne (xs : List V) (h : 1 ≤ xs.length) : ¬ (HT.sIx xs.length 0 (some 1) = 0 ∧ HT.sIx xs.length xs.length none = xs.length) := fun q => by
  have e : HT.sIx xs.length 0 (some 1) = min 1 xs.length := HT.sIx_nat xs.length 0 1
  rw [e] at q
  omega
/-- a tuple's arguments -/
theorem beg_tup {K : PySem.W.Frag} {H : Hp} {v : V} {t : Tg} (h : Th K H v t) (b : begT t = true) : ∃ (a : Addr) (n : V) (x : Str) (xs : List V), v = .ref a ∧ SqT K H a (n :: xs) ∧ n = .str x ∧ t = .tup (.str x :: t.args) ∧ isNam x = true ∧ t.args.length ≤ 2 ∧ ThAll K H xs t.args := by
  cases h with
  | str x hx => cases b
  | oth ty a b' => cases b
  | @tup a xs ts h r =>
    cases r with
    | nil => cases b
    | @cons y ys n ts hy r =>
      have b' : (decide (ts.length ≤ 2) && n.isNm) = true := b
      rw [Bool.and_eq_true, decide_eq_true_eq] at b'
      cases hy with
      | str x hx => exact ⟨a, _, x, ys, rfl, h, rfl, rfl, b'.2, b'.1, r⟩
      | oth ty a b => cases b'.2
      | tup h r => cases b'.2
theorem iteE {b : Bool} {A B : Prop} (e : b = true) (h : A) : if b = true then A else B := by
  rw [if_pos e]
  exact h
theorem iteN {b : Bool} {A B : Prop} (e : b = false) (h : B) : if b = true then A else B := by
  rw [if_neg (by rw [e]; exact Bool.false_ne_true)]
  exact h
theorem same_mut {H H' : Hp} {p : Addr} {o : HO} (e : Same H H') (h : H p = none) : Same H (upd H' p o) := fun b u q => by rw [upd_ne (ne_of_none q h)]; exact e b u q
theorem ok_is_type (CL : Cal P w K mg base 1 "is_letter" ["thing"] (spTest K Tg.isL)) (CB : Cal P w K mg base 2 "begins_class_type" ["thing"] (spTest K begT)) (D : DefAt K mg "is_type" s_is_type ["thing"]) : Cal P w K mg base 3 "is_type" ["thing"] (spAsk K isT) := by
  refine D.cal sc_is_type (fun vs H Q E h => ?_) (fun f cdv A outer s H vs Q E hr h => ?_)
  · obtain ⟨v, t, rfl, _⟩ := h
    rfl
  obtain ⟨v, t, rfl, hT, hn, q⟩ := h
  refine ⟨_, pss_cons (ps_set (i := 1) sc_is_type.nd rfl (Or.inl rfl) (pe_lst (pa_cons (pv 0) pa_nil)))
    (pss_cons (ps_while (passes_of rfl) (pt_truth (pv 1) (by intro _; rfl))
      (pss_cons (ps_set (i := 2) sc_is_type.nd rfl (Or.inl rfl) (pe_bm0 PySem.F.plainAttrs_list PySem.F.slot_list_pop PySem.F.type_list_pop mt_pop (pv 1)))
        (pss_one (ps_if (pt_val (pc CB hr rfl (pa_cons (pv 2) pa_nil)))
          (pss_one (ps_expr (pe_bm PySem.F.plainAttrs_list PySem.F.slot_list_extend PySem.F.type_list_extend mt_extendT (pv 1) (pa_cons (pe_slice sl_tup (pv 2) (po_some pe_int) po_none) pa_nil))))
          (pss_one (ps_if (pt_not (pt_val (pc CL (hr.mono (by decide)) rfl (pa_cons (pv 2) pa_nil)))) (pss_one (ps_ret pe_bl)) pss_nil))))))
    (pss_one (ps_ret pe_bl))), ?_⟩
  refine ⟨v, rfl, by show 1 ≤ sizeLine; decide, fun l hl => ?_⟩
  refine ⟨fun m σ H' => ∃ xs ts y, m = nodesAll ts ∧ σ = [some v, some (.ref l), y] ∧ Same H H' ∧ H' l = some (.lst xs) ∧ ThAll K H' xs ts ∧ nodesAll ts ≤ 100000 ∧ isT t = isTAll ts,
    ⟨_, [v], [t], _, rfl, rfl, same_new hl _, upd_same, .cons (hT.stay (stay_new hl _)) .nil, by simp only [nodesAll]; omega, by simp only [isTAll, Bool.and_true]⟩, fun m σ H' hW => ?_⟩
  obtain ⟨xs, ts, y, rfl, rfl, sm, hx, hA, hm, ht⟩ := hW
  refine ⟨_, rfl, _, .inl ⟨xs, SqL.of hx, rfl⟩, ?_⟩
  have hlen := hA.length
  by_cases hne : ts = []
  · subst hne
    have e0 : xs = [] := List.length_eq_zero_iff.mp hlen
    subst e0
    rw [ht] at q
    exact iteF (q H' sm)
  obtain ⟨u, xs', t', ts', e1, e2, hu, hr'⟩ := hA.snoc hne
  subst e1 e2
  have ek : (!(xs' ++ [u]).isEmpty) = true := by cases xs' <;> rfl
  refine iteE ek ?_
  have en : nodesAll (ts' ++ [t']) = nodesAll ts' + t'.nodes := by rw [nodesAll_app]; simp only [nodesAll]; omega
  have et : isTAll (ts' ++ [t']) = (isTAll ts' && isT t') := by rw [isTAll_app]; simp only [isTAll, Bool.and_true]
  have hl' := length_le_nodes ts'
  have hl2 := hr'.length
  refine ⟨fun σ2 H2 => ∃ xs ts y, nodesAll ts < nodesAll (ts' ++ [t']) ∧ σ2 = [some v, some (.ref l), y] ∧ Same H H2 ∧ H2 l = some (.lst xs) ∧ ThAll K H2 xs ts ∧ nodesAll ts ≤ 100000 ∧ isT t = isTAll ts,
    fun σ2 H2 ⟨xs, ts, y, a, b, c, d, e, f, g⟩ => ⟨nodesAll ts, a, xs, ts, y, rfl, b, c, d, e, f, g⟩, ?_⟩
  have hlast : (xs' ++ [u])[(xs' ++ [u]).length - 1]? = some u := by
    rw [List.length_append, List.length_singleton, Nat.add_sub_cancel, List.getElem?_append_right (Nat.le_refl _), Nat.sub_self] <;> rfl
  refine ⟨_, rfl, .inl ⟨rfl, _, SqL.of hx⟩, l, _, u, rfl, rfl, hx, hlast, ?_⟩
  rw [List.dropLast_concat]
  have st : Stay K H' (upd H' l (.lst xs')) := stay_lst hx
  have hu1 := hu.stay st
  have hr1 := ThAll.stay st hr'
  have s1 : Same H (upd H' l (.lst xs')) := same_mut sm hl
  refine ⟨u, rfl, u, t', rfl, hu1, begT t', rfl, ?_⟩
  refine ite2 (fun c => ?_) (fun c => ?_)
  · obtain ⟨a, n, x, ys, rfl, hq, rfl, et', hnm, hl3, hr3⟩ := beg_tup hu1 c
    have el : 1 ≤ ((.str x : V) :: ys).length := by rw [List.length_cons]; omega
    refine ⟨_, rfl, .inl ⟨rfl, _, SqL.of upd_same⟩, _, rfl, 1, rfl, a, _, rfl, hq, cut_tail_ne _ el, fun p hp => ?_⟩
    rw [cut_tail]
    show ∃ _ : Addr, _
    have npl : l ≠ p := ne_of_none upd_same hp
    have hx2 : (upd (upd H' l (.lst xs')) p (.tup ys)) l = some (.lst xs') := by rw [upd_ne npl]; exact upd_same
    have hl4 := hr3.length
    have st2 : Stay K (upd H' l (.lst xs')) (upd (upd H' l (.lst xs')) p (.tup ys)) := stay_new hp _
    have st3 : Stay K (upd (upd H' l (.lst xs')) p (.tup ys)) (upd (upd (upd H' l (.lst xs')) p (.tup ys)) l (.lst (xs' ++ ys))) := stay_lst hx2
    have ea := args_nodes c
    have hl5 := length_le_nodes t'.args
    refine ⟨l, p, xs', ys, rfl, rfl, hx2, .inl (.inl upd_same), sz5 (by omega), ?_⟩
    refine ⟨xs' ++ ys, ts' ++ t'.args, _, ?_, rfl, ?_, upd_same, ((hr1.stay st2).stay st3).app ((hr3.stay st2).stay st3), ?_, ?_⟩
    · rw [nodesAll_app, en]; omega
    · exact same_mut (s1.trans (same_new hp _)) hl
    · rw [nodesAll_app]; omega
    · rw [ht, et, isTAll_app, isT_beg c]
  · have eb : begT t' = false := Bool.eq_false_iff.mpr c
    refine ⟨u, rfl, u, t', rfl, hu1, Tg.isL t', rfl, ?_⟩
    have e3 : isT t' = t'.isL := isT_nbeg eb
    refine ite2 (fun c2 => ?_) (fun c2 => ?_)
    · have c3 : t'.isL = false := by simpa using c2
      rw [ht, et, e3, c3, Bool.and_false] at q
      exact q _ s1
    · have c3 : t'.isL = true := by simpa using c2
      have hp1 := nodes_pos t'
      refine ⟨xs', ts', _, by omega, rfl, s1, upd_same, hr1, by omega, ?_⟩
      rw [ht, et, e3, c3, Bool.and_true]
end
end N

namespace N
open PySem PySem.Spec PyProof.Rows L2 L2H LamX NdefX
theorem pssImp {X : Cx} {b : List Stmt} {t t' : TS} (h : PSs X b t) (q : ∀ D σ H, t' D σ H → t D σ H) : PSs X b t' := ⟨fun pins s σ H D I z => h.run pins s σ H D I (q _ _ _ z)⟩
theorem no_in : ∀ i, i < 13 → inV (.str (exN i)) [.str "Unfit", .str "Looped"] = false := by decide +kernel
theorem no_turned : ∀ i, i < 13 → decide (V.str (exN i) = V.str "Turned") = false := by decide +kernel
theorem no_endless : ∀ i, i < 13 → decide (V.str (exN i) = V.str "Endless") = false := by decide +kernel
theorem plain_words : ∀ i, i < 13 → exN i ≠ "Unfit" ∧ exN i ≠ "Looped" ∧ exN i ≠ "Turned" ∧ exN i ≠ "Endless" ∧ (exN i).length ≤ 20 := by decide +kernel
/-- a(), a the name at i, where the call is asked in the state H0 -/
def tActR (f : Addr) (i : Nat) (H0 : Hp) (spL : Hp → VK → XK → Prop) (W : WX) : TE := fun σ H Q => σ[i]? = some (some (.ref f)) ∧ Same H0 H ∧ spL H Q (WE W σ)
section
variable {P : Program} {w : World} {K : PySem.W.Frag} {mg : Str → Option Value} {base : Heap} {c : Nat → Addr}
theorem said_body {kk : Nat} {g f ke : Addr} {cdv : Value} {A : Around} {outer : List Env} {s : Shared} {H : Hp} {Q : VK} {spL : Hp → VK → XK → Prop} (G : Glo mg) (CW : CalP P w K mg base 1 "_law_word" ["_law_e"] (spWordP c))
    (gk : mg "KindError" = some (.ref ke)) (hx : ∀ i, i < 13 → PySem.W.exmOne K (.ref (c i)) (.ref ke) = some true)
    (L : ActR P w K mg base kk f s.heap H spL) (hr : RoomG (kk + 1) (A.deeper (envOfC "_law_said" (defScope s_Lsaid) s.heap.objs.size g cdv)))
    (hm : ∀ (R R' : VK) (E E' : XK), (∀ v H1, R v H1 → R' v H1) → (∀ cls d H1, E cls d H1 → E' cls d H1) → spL H R E → spL H R' E')
    (q : spL H (fun v H1 => rReprU K [v] H1 Q) (fun cls d H1 => ∃ i, i < 13 ∧ cls = .ref (c i) ∧ d = none ∧ ∀ H2, Same H1 H2 → Q (.str ("! " ++ exN i)) H2)) :
    ∃ t, PSs (cxOf (L2.CX P w) P w K mg base nm_Lsaid "_law_said" (defScope s_Lsaid) g cdv A outer s H E0) (defBody s_Lsaid) t ∧ t { nx := fun _ H' => Q .non H', rt := Q } (L2.start nm_Lsaid [.ref f]) H := by
  have hrH : RoomH 1 (A.deeper (envOfC "_law_said" (defScope s_Lsaid) s.heap.objs.size g cdv)) := roomH_of (hr.toRoom.mono (by omega))
  refine ⟨_, pss_one (ps_try_as (i := 1) (c := .ref ke) (Wout := fun cls d _ H => E0 cls d H) (ts := fun a cls d D σ H => ∃ C x y, cls = .ref C ∧ σ = [x, some (.ref a), y] ∧ ∃ i, i < 13 ∧ C = c i ∧ d = none ∧ ∀ H2, Same H H2 → D.rt (.str ("! " ++ exN i)) H2) rfl rfl sc_Lsaid.nd rfl rfl ⟨rfl, by decide, .inl gk⟩ (takes_of rfl rfl rfl rfl)
    (fun W pn xe tk po => pss_one (ps_ret (pe_callB (id := "repr") (r := rReprU K) (call_reprU hr) (by rfl) G.repr (by decide +kernel) (pa_cons (show PE _ _ (tActR f 0 H spL W) from pe_actR (i := 0) L tk hr rfl rfl (.inl rfl)) pa_nil))))
    (fun a oe cls d pn hz hf => ⟨fun pins s' σ H' D I h => ?_⟩)), ?_⟩
  · obtain ⟨C, x, y, rfl, rfl, i, hi, rfl, rfl, h⟩ := h
    refine (pssImp (t' := fun D σ H => σ = [x, some (.ref a), y] ∧ ∀ H2, Same H H2 → D.rt (.str ("! " ++ exN i)) H2) (pss_cons (ps_set (i := 2) sc_Lsaid.nd rfl (Or.inl rfl) (pcP CW (List.mem_cons_self) hz hf ⟨hrH.dp, hrH.un⟩ (by rfl) (pa_cons (pv 1) pa_nil)))
      (pss_cons (ps_if (pt_cmpR op_in_seq (pv 2) (pe_tup (pa_cons pe_str (pa_cons pe_str pa_nil))) (by rfl)) (pss_one ps_never) pss_nil)
      (pss_cons (ps_if (pt_cmpR op_eq (pv 2) pe_str (nomark _)) (pss_one ps_never) pss_nil)
      (pss_one (ps_ret (pe_ifExp (pt_cmpR op_eq (pv 2) pe_str (nomark _)) pe_no (pe_op op_add_str pe_str (pv 2)))))))) fun D σ H z => ?_).run pins s' _ H' D I ⟨rfl, h⟩
    obtain ⟨rfl, z⟩ := z
    refine ⟨_, rfl, i, rfl, by omega, rfl, rfl, fun H1 s1 => ?_⟩
    refine ⟨_, rfl, by show 2 ≤ sizeLine; decide, fun t ht => ⟨t, _, rfl, .inr (.inl (.inl upd_same)), rfl, rfl, _, rfl, iteN (no_in i hi) ?_⟩⟩
    refine ⟨_, rfl, rfl, _, rfl, iteN (no_turned i hi) ?_⟩
    refine ⟨_, rfl, rfl, _, rfl, iteN (no_endless i hi) ?_⟩
    exact ⟨_, rfl, _, _, rfl, rfl, Nat.le_trans (show ("! " : Str).length + (exN i).length ≤ 100 from Nat.le_trans (Nat.add_le_add_left (plain_words i hi).2.2.2.2 _) (by decide +kernel)) (by rw [sizeLine_eq]; omega), z _ (s1.trans (same_new ht _))⟩
  · refine ⟨rfl, Same.refl _, hm _ _ _ _ (fun v H1 z => z) (fun cls d H1 z => ?_) q⟩
    obtain ⟨i, hi, rfl, rfl, z⟩ := z
    exact ⟨true, hx i hi, fun _ a ha => ⟨c i, _, _, rfl, rfl, i, hi, rfl, rfl, z⟩, fun z => by cases z⟩
end
end N

namespace N
open PySem PySem.Spec PyProof.Rows L2
section
variable {P : Program} {w : World} {K : PySem.W.Frag} {mg : Str → Option Value} {base : Heap}
def spCheck (K : PySem.W.Frag) (C : Addr) : Sp := fun vs H Q E => ∃ v t, vs = [v] ∧ Th K H v t ∧ t.nodes ≤ 100000 ∧ (isT t = true → ∀ H', Same H H' → Q .non H') ∧ (isT t = false → ∀ H', Same H H' → E (.ref C) none H')
theorem ok_check_type {C : Addr} (X : ExcAt K mg "NoType" C) (CT : Cal P w K mg base 3 "is_type" ["thing"] (spAsk K isT)) (D : DefAt K mg "check_type" s_check_type ["thing"]) : Cal P w K mg base 4 "check_type" ["thing"] (spCheck K C) := by
  refine D.cal sc_check_type (fun vs H Q E h => ?_) (fun f cdv A outer s H vs Q E hr h => ?_)
  · obtain ⟨v, t, rfl, _⟩ := h
    rfl
  obtain ⟨v, t, rfl, hT, hn, q1, q2⟩ := h
  refine ⟨_, pss_one (ps_if (pt_not (pt_val (pc CT hr rfl (pa_cons (pv 0) pa_nil)))) (pss_one (ps_raise rfl (takes_of rfl rfl rfl rfl) (pmk_own PySem.F.excBase_ValueError X.x X.g X.k (raises_own X.b X.t) rfl))) pss_nil), ?_⟩
  refine ⟨v, rfl, v, t, rfl, hT, hn, fun H' sm => ⟨_, rfl, ?_⟩⟩
  refine ite2 (fun c => ?_) (fun c => ?_)
  · exact q2 (by simpa using c) H' sm
  · exact q1 (by simpa using c) H' sm
end
end N

namespace N
open PySem PySem.Spec PyProof.Rows L2
section
variable {P : Program} {w : World} {K : PySem.W.Frag} {mg : Str → Option Value} {base : Heap}
def spParts (K : PySem.W.Frag) : Sp := fun vs H Q _ => ∃ (v : V) (k : Kd), vs = [v] ∧ Kp K H v k ∧ k.nds ≤ 100000 ∧
  ∀ p H' xs, Same H H' → H p = none → H' p = some (.lst xs) → Kps K H' xs k.parts → Q (.ref p) H'
theorem nds_flat : ∀ ks : List Kd, (ks.flatMap Kd.parts).length = (ks.map Kd.nds).sum
  | [] => rfl
  | k :: ks => by
    rw [List.flatMap_cons, List.length_append, Kd.nds_parts, nds_flat ks]
    rfl
theorem sum_ge_len : ∀ ks : List Kd, ks.length ≤ (ks.map Kd.nds).sum
  | [] => Nat.zero_le _
  | k :: ks => by
    have h1 := sum_ge_len ks
    have h2 := Kd.nds_pos k
    simp only [List.length_cons, List.map_cons, List.sum_cons]
    omega
theorem snoc_last {α : Type} (xs : List α) (u : α) : (xs ++ [u])[(xs ++ [u]).length - 1]? = some u := by
  rw [List.length_append, List.length_singleton, Nat.add_sub_cancel, List.getElem?_append_right (Nat.le_refl _), Nat.sub_self] <;> rfl
theorem snoc_ne {α : Type} (xs : List α) (u : α) : (!(xs ++ [u]).isEmpty) = true := by cases xs <;> rfl
theorem ok_parts (G : Glo mg) (D : DefAt K mg "parts" s_parts ["kind"]) : Cal P w K mg base 1 "parts" ["kind"] (spParts K) := by
  refine D.cal sc_parts (fun vs H Q E h => ?_) (fun f cdv A outer s H vs Q E hr h => ?_)
  · obtain ⟨v, k, rfl, _⟩ := h
    rfl
  obtain ⟨v, k, rfl, hT, hn, q⟩ := h
  refine ⟨_, pss_cons (ps_set (i := 1) sc_parts.nd rfl (Or.inl rfl) (pe_lst pa_nil)) (pss_cons (ps_set (i := 2) sc_parts.nd rfl (Or.inl rfl) (pe_lst (pa_cons (pv 0) pa_nil)))
    (pss_cons (ps_while (passes_of rfl) (pt_truth (pv 2) (by intro _; rfl))
      (pss_cons (ps_set (i := 3) sc_parts.nd rfl (Or.inl rfl) (pe_bm0 PySem.F.plainAttrs_list PySem.F.slot_list_pop PySem.F.type_list_pop mt_pop (pv 2)))
        (pss_cons (ps_expr (pe_bm PySem.F.plainAttrs_list PySem.F.slot_list_append PySem.F.type_list_append mt_append (pv 1) (pa_cons (pv 3) pa_nil)))
        (pss_one (ps_if (pt_val (pe_isi G.isinstance G.tuple b_tuple rfl rfl (pv 3)))
          (pss_one (ps_expr (pe_bm PySem.F.plainAttrs_list PySem.F.slot_list_extend PySem.F.type_list_extend mt_extendT (pv 2) (pa_cons (pe_backT (pv 3)) pa_nil))))
          pss_nil)))))
    (pss_one (ps_ret (pv 1))))), ?_⟩
  refine ⟨by show 0 ≤ sizeLine; decide, fun fo hfo => ?_⟩
  refine ⟨v, rfl, by show 1 ≤ sizeLine; decide, fun l hl => ?_⟩
  have nfl : fo ≠ l := ne_of_none upd_same hl
  have hl0 : H l = none := by rw [upd_ne nfl.symm] at hl; exact hl
  have s0 : Same H (upd (upd H fo (.lst [])) l (.lst [v])) := (same_new hfo _).trans (same_new hl _)
  refine ⟨fun m σ H' => ∃ fs done xs ks y, m = (ks.map Kd.nds).sum ∧ σ = [some v, some (.ref fo), some (.ref l), y] ∧ Same H H' ∧ H' fo = some (.lst fs) ∧ H' l = some (.lst xs) ∧ Kps K H' fs done ∧ Kps K H' xs ks ∧ k.parts = done ++ ks.reverse.flatMap Kd.parts,
    ⟨_, [], [], [v], [k], _, rfl, rfl, s0, by rw [upd_ne nfl]; exact upd_same, upd_same, .nil, .cons (hT.stay (stay_same s0)) .nil, by simp⟩, fun m σ H' hW => ?_⟩
  obtain ⟨fs, done, xs, ks, y, rfl, rfl, sm, hf, hx, hA, hB, he⟩ := hW
  refine ⟨_, rfl, _, .inl ⟨xs, SqL.of hx, rfl⟩, ?_⟩
  have hlen := Kps.length hB
  have hlf := Kps.length hA
  have hcount : done.length + (ks.map Kd.nds).sum = k.nds := by
    have := congrArg List.length he
    rw [Kd.nds_parts, List.length_append, nds_flat, List.map_reverse, List.sum_reverse] at this
    omega
  by_cases hne : ks = []
  · subst hne
    have e0 : xs = [] := List.length_eq_zero_iff.mp hlen
    subst e0
    refine iteF ⟨_, rfl, q fo H' fs sm hfo hf ?_⟩
    rw [he]
    simpa using hA
  obtain ⟨u, xs', k', ks', e1, e2, hu, hr'⟩ := Kps.snoc hB hne
  subst e1 e2
  refine iteE (snoc_ne _ _) ?_
  have en : ((ks' ++ [k']).map Kd.nds).sum = (ks'.map Kd.nds).sum + k'.nds := by rw [List.map_append, List.sum_append]; simp
  have hp1 := Kd.nds_pos k'
  have hge := sum_ge_len ks'
  have hl2 := Kps.length hr'
  refine ⟨fun σ2 H2 => ∃ fs done xs ks y, (ks.map Kd.nds).sum < ((ks' ++ [k']).map Kd.nds).sum ∧ σ2 = [some v, some (.ref fo), some (.ref l), y] ∧ Same H H2 ∧ H2 fo = some (.lst fs) ∧ H2 l = some (.lst xs) ∧ Kps K H2 fs done ∧ Kps K H2 xs ks ∧ k.parts = done ++ ks.reverse.flatMap Kd.parts,
    fun σ2 H2 ⟨fs, done, xs, ks, y, a, b, c, d, e, f, g, h⟩ => ⟨_, a, fs, done, xs, ks, y, rfl, b, c, d, e, f, g, h⟩, ?_⟩
  refine ⟨_, rfl, .inl ⟨rfl, _, SqL.of hx⟩, l, _, u, rfl, rfl, hx, snoc_last _ _, ?_⟩
  rw [List.dropLast_concat]
  have st : Stay K H' (upd H' l (.lst xs')) := stay_lst hx
  have hf1 : (upd H' l (.lst xs')) fo = some (.lst fs) := by rw [upd_ne nfl]; exact hf
  have st1 : Stay K (upd H' l (.lst xs')) (upd (upd H' l (.lst xs')) fo (.lst (fs ++ [u]))) := stay_lst hf1
  have st2 := st.trans st1
  have hl1 : (upd (upd H' l (.lst xs')) fo (.lst (fs ++ [u]))) l = some (.lst xs') := by rw [upd_ne nfl.symm]; exact upd_same
  refine ⟨_, rfl, .inl ⟨rfl, _, SqL.of hf1⟩, u, rfl, fo, fs, u, rfl, rfl, hf1, Nat.lt_of_le_of_lt (show fs.length ≤ 100000 by omega) (by decide), ?_⟩
  have s2 : Same H (upd (upd H' l (.lst xs')) fo (.lst (fs ++ [u]))) := same_mut (same_mut sm hl0) hfo
  have hu2 := hu.stay st2
  have hr2 : Kps K _ xs' ks' := ThAll.stay st2 hr'
  have hA2 : Kps K _ (fs ++ [u]) (done ++ [k']) := Kps.app (ThAll.stay st2 hA) (.cons hu2 .nil)
  refine ⟨u, rfl, isi_tup hu2 ⟨_, rfl, ?_⟩⟩
  rw [Kd.isTu_tg]
  have hen : k.parts = (done ++ [k']) ++ (ks' ++ k'.args.reverse).reverse.flatMap Kd.parts := by
    rw [he, List.reverse_append, List.reverse_append, List.reverse_reverse, List.flatMap_append, List.flatMap_append]
    simp only [List.reverse_singleton, List.flatMap_singleton, List.append_assoc]
    rw [Kd.parts_eq k']
    simp
  cases hc : k'.isC with
  | false =>
    refine iteF ⟨_, _, xs', ks', _, ?_, rfl, s2, upd_same, hl1, hA2, hr2, ?_⟩
    · omega
    · have ea : k'.args = [] := by cases k' <;> first | rfl | cases hc
      rw [ea] at hen
      simpa using hen
  | true =>
    obtain ⟨a, zs, rfl, hq, hx5, hz⟩ := kp_C hu2 hc
    have hzl := Kps.length hz
    have hal := Kd.args_len k'
    have han := Kd.args_nds k'
    have hgs := sum_ge_len k'.args
    refine iteT ⟨_, rfl, .inl ⟨rfl, _, SqL.of hl1⟩, _, rfl, a, _, rfl, hq, by simp, fun p hp => ?_⟩
    rw [show (V.str k'.nm :: zs).drop 1 = zs from rfl]
    have npl : l ≠ p := ne_of_none hl1 hp
    have npf : fo ≠ p := ne_of_none upd_same hp
    have hx2 : (upd (upd (upd H' l (.lst xs')) fo (.lst (fs ++ [.ref a]))) p (.tup zs.reverse)) l = some (.lst xs') := by rw [upd_ne npl]; exact hl1
    have st3 : Stay K (upd (upd H' l (.lst xs')) fo (.lst (fs ++ [.ref a]))) (upd (upd (upd H' l (.lst xs')) fo (.lst (fs ++ [.ref a]))) p (.tup zs.reverse)) := stay_new hp _
    have st4 : Stay K (upd (upd (upd H' l (.lst xs')) fo (.lst (fs ++ [.ref a]))) p (.tup zs.reverse)) (upd (upd (upd (upd H' l (.lst xs')) fo (.lst (fs ++ [.ref a]))) p (.tup zs.reverse)) l (.lst (xs' ++ zs.reverse))) := stay_lst hx2
    have st5 := st3.trans st4
    refine ⟨l, p, xs', zs.reverse, rfl, rfl, hx2, .inl (.inl upd_same), sz5 (by rw [List.length_reverse]; omega), ?_⟩
    refine ⟨fs ++ [.ref a], done ++ [k'], xs' ++ zs.reverse, ks' ++ k'.args.reverse, _, ?_, rfl, same_mut (s2.trans (same_new hp _)) hl0, ?_, upd_same, ThAll.stay st5 hA2, Kps.app (ThAll.stay st5 hr2) (Kps.rev (ThAll.stay st5 hz)), hen⟩
    · rw [en, List.map_append, List.sum_append, List.map_reverse, List.sum_reverse]
      omega
    · rw [upd_ne nfl, upd_ne npf]
      exact upd_same
end
end N

namespace N
open PySem PySem.Spec PyProof.Rows L2
/-! ### is_kind, of any thing -/
def upS : Str := "ABCDEFGHIJKLMNOPQRSTUVWXYZ"
def loS : Str := "abcdefghijklmnopqrstuvwxyz"
theorem up_mem (c : Nat) : decide (c ∈ upS.cps.toList) = decide (65 ≤ c ∧ c ≤ 90) := by
  have e : upS.cps.toList = (List.range 26).map (65 + ·) := by decide +kernel
  rw [e]
  apply decide_eq_decide.mpr
  simp only [List.mem_map, List.mem_range]
  constructor
  · rintro ⟨k, hk, rfl⟩; omega
  · intro h; exact ⟨c - 65, by omega, by omega⟩
theorem lo_mem (c : Nat) : (c ∈ loS.cps.toList) ↔ Low c := by
  have e : loS.cps.toList = (List.range 26).map (97 + ·) := by decide +kernel
  rw [e]
  unfold Low
  simp only [List.mem_map, List.mem_range]
  constructor
  · rintro ⟨k, hk, rfl⟩; omega
  · intro h; exact ⟨c - 97, by omega, by omega⟩
theorem isLet_one (c : Nat) : isLet ⟨#[c]⟩ = decide (c ∈ upS.cps.toList) := by
  rw [up_mem, Bool.eq_iff_iff, isLet_iff, decide_eq_true_eq]
  constructor
  · rintro ⟨d, e, h⟩
    have : [c] = [d] := e
    cases this
    exact h
  · intro h
    exact ⟨c, rfl, h⟩
theorem isLet_len {x : Str} (h : x.length ≠ 1) : isLet x = false := by
  unfold isLet
  rw [decide_eq_false h, Bool.false_and]
theorem dec_one (n : Nat) (k : Nat) : decide (V.int (n : Int) = V.int (k : Int)) = decide (n = k) := by
  apply decide_eq_decide.mpr
  constructor
  · intro z; have := V.int.inj z; omega
  · intro z; rw [z]
theorem str_one {x : Str} (h : x.length = 1) : ∃ c, x = ⟨#[c]⟩ := by
  obtain ⟨⟨l⟩⟩ := x
  match l, h with
  | [c], _ => exact ⟨c, rfl⟩
/-- how many of the first i signs are no small letters: a list of ones -/
def bads (x : Str) (i : Nat) : List V := ((x.cps.toList.take i).filter fun c => !decide (c ∈ loS.cps.toList)).map fun _ => V.int 1
theorem bads_step {x : Str} {i c : Nat} (h : x.cps[i]? = some c) : bads x (i + 1) = bads x i ++ (if decide (c ∈ loS.cps.toList) = true then [] else [V.int 1]) := by
  have h' : x.cps.toList[i]? = some c := by rw [Array.getElem?_toList]; exact h
  unfold bads
  rw [take_snoc h', List.filter_append, List.map_append]
  congr 1
  by_cases hc : c ∈ loS.cps.toList
  · rw [List.filter_cons, decide_eq_true hc]
    rfl
  · rw [List.filter_cons, decide_eq_false hc]
    rfl
theorem bads_len (x : Str) (i : Nat) : (bads x i).length ≤ i := by
  unfold bads
  rw [List.length_map]
  exact Nat.le_trans (List.length_filter_le ..) (by rw [List.length_take]; omega)
theorem isNam_bads {x : Str} (h1 : 1 ≤ x.length) (h8 : x.length ≤ 8) : isNam x = (bads x x.cps.size).isEmpty := by
  rw [Bool.eq_iff_iff, isNam_iff]
  unfold bads
  rw [List.isEmpty_iff, List.map_eq_nil_iff, List.filter_eq_nil_iff, List.take_of_length_le (by rw [Array.length_toList]; exact Nat.le_refl _)]
  constructor
  · rintro ⟨_, _, h⟩ c hc
    rw [decide_eq_true ((lo_mem c).mpr (h c hc))]
    exact Bool.false_ne_true
  · intro h
    refine ⟨h1, h8, fun c hc => ?_⟩
    have := h c hc
    by_cases hm : c ∈ loS.cps.toList
    · exact (lo_mem c).mp hm
    · rw [decide_eq_false hm] at this
      exact absurd rfl this
theorem eqv_ones : ∀ l : List V, (∀ v ∈ l, v = V.int 1) → PyData.eqv (.list (l.map fun _ => PyData.int 1)) (.list []) = l.isEmpty
  | [], _ => by simp [PyData.eqv, PyData.eqvAll]
  | _ :: _, _ => by simp [PyData.eqv, PyData.eqvAll]
theorem dp_ones {K : PySem.W.Frag} {H : Hp} : ∀ l : List V, (∀ v ∈ l, v = V.int 1) → DpAll K H l (l.map fun _ => PyData.int 1)
  | [], _ => .nil
  | v :: l, h => by
    rw [h v List.mem_cons_self]
    exact .cons (.int 1) (dp_ones l fun u hu => h u (List.mem_cons_of_mem _ hu))
theorem shaped_ones (l : List V) : SeqAt.shaped (.list (l.map fun _ => PyData.int 1)) = true := by
  have h1 : ∀ l : List V, PyData.canLayAll0 (l.map fun _ => PyData.int 1) = true := fun l => by
    induction l with
    | nil => simp [PyData.canLayAll0]
    | cons c l ih => simp [PyData.canLayAll0, PyData.canLay0, ih]
  have h2 : ∀ l : List V, PyData.depthAll (l.map fun _ => PyData.int 1) ≤ 1 := fun l => by
    induction l with
    | nil => simp [PyData.depthAll]
    | cons c l ih => simp only [List.map_cons, PyData.depthAll, PyData.depth]; omega
  show (PyData.canLay0 _ && decide (PyData.depth _ ≤ 64)) = true
  rw [Bool.and_eq_true, decide_eq_true_eq]
  refine ⟨by simp only [PyData.canLay0]; exact h1 l, ?_⟩
  have := h2 l
  simp only [PyData.depth]
  omega
end N

namespace N
open PySem PySem.Spec PyProof.Rows L2
section
variable {P : Program} {w : World} {K : PySem.W.Frag} {mg : Str → Option Value} {base : Heap}
abbrev rNiS : R2 := fun x y H Q => ∃ (c : Nat) (z : Str), x = .str ⟨#[c]⟩ ∧ y = .str z ∧ Q (.bl (!decide (c ∈ z.cps.toList))) H
def spIsK (K : PySem.W.Frag) (n : Nat) : Sp := fun vs H Q _ => ∃ v t, vs = [v] ∧ Th K H v t ∧ t.nodes < n ∧ n ≤ 1000 ∧ ∀ H', Same H H' → Q (.bl (isT t)) H'
theorem isT_long {ts : List Tg} (h : 3 < ts.length) : isT (.tup ts) = false := by
  match ts, h with
  | n :: ts, h =>
    show ((decide (ts.length ≤ 2) && n.isNm) && isTAll ts) = false
    rw [decide_eq_false (by rw [List.length_cons] at h; omega), Bool.false_and, Bool.false_and]
theorem isT_nonm {n : Tg} {ts : List Tg} (h : n.isNm = false) : isT (.tup (n :: ts)) = false := by
  show ((decide (ts.length ≤ 2) && n.isNm) && isTAll ts) = false
  rw [h, Bool.and_false, Bool.false_and]
def badT (ts : List Tg) (i : Nat) : List V := ((ts.take i).filter fun t => !isT t).map fun _ => V.int 1
theorem badT_step {ts : List Tg} {i : Nat} {t : Tg} (h : ts[i]? = some t) : badT ts (i + 1) = badT ts i ++ (if isT t = true then [] else [V.int 1]) := by
  unfold badT
  rw [take_snoc h, List.filter_append, List.map_append]
  congr 1
  by_cases hc : isT t = true
  · rw [List.filter_cons, hc]
    rfl
  · rw [List.filter_cons, Bool.eq_false_iff.mpr hc]
    rfl
theorem badT_len (ts : List Tg) (i : Nat) : (badT ts i).length ≤ i := by
  unfold badT
  rw [List.length_map]
  exact Nat.le_trans (List.length_filter_le ..) (by rw [List.length_take]; omega)
theorem badT_all : ∀ ts : List Tg, (badT ts ts.length).isEmpty = isTAll ts := by
  intro ts
  unfold badT
  rw [List.take_length]
  induction ts with
  | nil => rfl
  | cons t ts ih =>
    show _ = (isT t && isTAll ts)
    rw [← ih, List.filter_cons]
    cases isT t <;> rfl
theorem thall_at {H : Hp} : ∀ {vs : List V} {ts : List Tg} {i : Nat} {x : V}, ThAll K H vs ts → vs[i]? = some x → ∃ t, ts[i]? = some t ∧ Th K H x t
  | _, _, i, x, .nil, h => by simp at h
  | _, _, 0, x, .cons r _, h => by
    simp at h
    subst h
    exact ⟨_, rfl, r⟩
  | _, _, i + 1, x, .cons _ t, h => by
    obtain ⟨k, e, r⟩ := thall_at (i := i) (x := x) t (by simpa using h)
    exact ⟨k, by simpa using e, r⟩
theorem nodes_at : ∀ {ts : List Tg} {i : Nat} {t : Tg}, ts[i]? = some t → t.nodes ≤ nodesAll ts
  | [], i, t, h => by simp at h
  | u :: ts, 0, t, h => by
    simp at h
    subst h
    simp only [nodesAll]
    omega
  | u :: ts, i + 1, t, h => by
    have := nodes_at (ts := ts) (i := i) (t := t) (by simpa using h)
    simp only [nodesAll]
    omega
theorem ones_of {l : List V} {α : Type} {m : List α} (h : l = m.map fun _ => V.int 1) : ∀ v ∈ l, v = V.int 1 := fun v hv => by
  rw [h] at hv
  obtain ⟨_, _, e⟩ := List.mem_map.mp hv
  exact e.symm
theorem isk_none (D : DefAt K mg "_law_is_kind" s_Lis_kind ["_law_thing"]) : Cal P w K mg base 1 "_law_is_kind" ["_law_thing"] (spIsK K 0) := by
  obtain ⟨f, fd, a, F, b⟩ := D
  have no : ∀ vs H Q E, ¬ spIsK K 0 vs H Q E := fun vs H Q E h => by
    obtain ⟨_, _, _, _, hm, _⟩ := h
    omega
  exact ⟨f, fd, a, F.kp, b, fun vs H Q E h => absurd h (no vs H Q E), fun A outer s H args us vs Q E _ _ _ _ h => absurd h (no vs H Q E)⟩
def tIK (K : PySem.W.Frag) (n : Nat) : TE := fun σ H Q => tCons (tVar 3) tNil σ H fun vs H1 => spIsK K n vs H1 Q E0
theorem isk_step {n : Nat} (hn : n + 1 ≤ 1000) (G : Glo mg) (CK : Cal P w K mg base (n + 1) "_law_is_kind" ["_law_thing"] (spIsK K n)) (D : DefAt K mg "_law_is_kind" s_Lis_kind ["_law_thing"]) : Cal P w K mg base (n + 1 + 1) "_law_is_kind" ["_law_thing"] (spIsK K (n + 1)) := by
  refine D.cal sc_Lis_kind (fun vs H Q E h => ?_) (fun f cdv A outer s H vs Q E hr h => ?_)
  · obtain ⟨v, t, rfl, _⟩ := h
    rfl
  obtain ⟨v, t, rfl, hT, hnd, _, q⟩ := h
  refine ⟨_, pss_cons (ps_if (pt_val (pe_isi G.isinstance G.str b_str rfl rfl (pv 0))) (pss_one (ps_ret (pe_and (pe_cmpR op_eq (pe_callB call_len_str (by rfl) G.len PySem.boot_len (pa_cons (pv 0) pa_nil)) pe_int (nomark _)) (pe_one (pe_cmpR op_in_sign (pv 0) pe_str (by rfl)))))) pss_nil)
    (pss_cons (ps_if (PW.pt (pw_or (pt_not (pt_val (pe_isi G.isinstance G.tuple b_tuple rfl rfl (pv 0)))) (pw_or (pt_not (pt_chain op_le op_le pe_int (pe_callB call_len_seq (by rfl) G.len PySem.boot_len (pa_cons (pv 0) pa_nil)) pe_int))
        (pw_or1 (pt_not (pt_val (pe_isi G.isinstance G.str b_str rfl rfl (pe_ix ix_tup (pv 0) pe_int (fun _ _ => rfl))))))))) (pss_one (ps_ret pe_bl)) pss_nil)
    (pss_cons (ps_set (i := 1) sc_Lis_kind.nd rfl (Or.inr rfl) pe_str)
    (pss_cons (ps_if (PW.pt (pw_or (pt_not (pt_chain op_le op_le pe_int (pe_callB call_len_str (by rfl) G.len PySem.boot_len (pa_cons (pe_ix ix_tup (pv 0) pe_int (fun _ _ => rfl)) pa_nil)) pe_int))
        (pw_or1 (pt_cmpR (op_neD hr.units) (pe_lc (own := [("_law_sign", 2)]) (g := gName 2) (tt := tTest (tOp rNiS (tVar 2) (tVar 1))) (te := tC (.int 1)) rfl sc_Lis_kind.nd (pi_str (pe_ix ix_tup (pv 0) pe_int (fun _ _ => rfl))) (blkOk_by (N := nm_Lis_kind) (sc := defScope s_Lis_kind) (own := [("_law_sign", 2)]) (by decide +kernel))
          (fun _ _ _ _ _ => pg_name (i := 2) sc_Lis_kind.nd rfl (Or.inl rfl)) (fun _ _ _ _ _ => pts_one (pt_cmpR op_notIn_sign (pv 2) (pv 1) (by rfl))) (fun _ _ _ _ _ => pe_int)) (pe_lst pa_nil) (nomark _))))) (pss_one (ps_ret pe_bl)) pss_nil)
    (pss_one (ps_ret (pe_cmpR (op_eqD hr.units) (pe_lc (own := [("_law_one", 3)]) (g := gName 3) (tt := tNot (tB (tIK K n))) (te := tC (.int 1)) rfl sc_Lis_kind.nd (pi_tup (pe_slice sl_tup (pv 0) (po_some pe_int) po_none)) (blkOk_by (N := nm_Lis_kind) (sc := defScope s_Lis_kind) (own := [("_law_one", 3)]) (by decide +kernel))
          (fun _ _ _ _ _ => pg_name (i := 3) sc_Lis_kind.nd rfl (Or.inl rfl)) (fun _ _ _ _ _ => pts_one (pt_not (pt_val (pc CK hr rfl (pa_cons (pv 3) pa_nil))))) (fun _ _ _ _ _ => pe_int)) (pe_lst pa_nil) (nomark _))))))), ?_⟩
  refine ⟨v, rfl, isi_str hT ?_⟩
  cases hT with
  | str x hx =>
    refine ⟨true, rfl, iteT ⟨_, rfl, x, rfl, sz5 hx, rfl, _, rfl, ?_⟩⟩
    rw [show decide (V.int (x.length : Int) = V.int 1) = decide (x.length = 1) from dec_one _ 1]
    have q' := q H (Same.refl _)
    refine ite2 (fun c => ?_) (fun c => ?_)
    · obtain ⟨ch, rfl⟩ := str_one (of_decide_eq_true c)
      refine ⟨_, rfl, ch, upS, rfl, rfl, ?_⟩
      rw [← isLet_one]
      exact q'
    · have e2 : isT (.str x) = false := isLet_len (of_decide_eq_false (Bool.eq_false_iff.mpr c))
      rw [e2] at q'
      exact q'
  | oth ty a b =>
    refine ⟨false, rfl, iteF ⟨v, rfl, isi_tup (.oth ty a b) ⟨_, rfl, iteT ?_⟩⟩⟩
    exact q H (Same.refl _)
  | @tup a xs ts h r =>
    refine ⟨false, rfl, iteF ⟨.ref a, rfl, isi_tup (.tup h r) ⟨_, rfl, iteF ?_⟩⟩⟩
    have hl := r.length
    have q0 := q H (Same.refl _)
    refine ⟨_, rfl, a, xs, rfl, .inr h, _, _, rfl, rfl, _, rfl, ?_⟩
    refine ite2 (fun c => ?_) (fun c => ?_)
    rotate_left
    · have c' : ¬ (1 : Int) ≤ (xs.length : Nat) := of_decide_eq_false (Bool.eq_false_iff.mpr c)
      have e : ts = [] := List.length_eq_zero_iff.mp (by omega)
      subst e
      exact ⟨false, rfl, iteT q0⟩
    have c' : (1 : Int) ≤ (xs.length : Nat) := of_decide_eq_true c
    refine ⟨_, _, rfl, rfl, _, rfl, ?_⟩
    refine ite2 (fun c2 => ?_) (fun c2 => ?_)
    · have c2' : ¬ ((xs.length : Nat) : Int) ≤ 3 := by
        have z := c2
        rw [Bool.not_eq_true'] at z
        exact of_decide_eq_false z
      rw [isT_long (by omega)] at q0
      exact q0
    have c2' : ((xs.length : Nat) : Int) ≤ 3 := by
      have z := c2
      rw [Bool.not_eq_true', Bool.not_eq_false] at z
      exact of_decide_eq_true z
    cases r with
    | nil => exact absurd c' (by decide)
    | @cons y ys n ts hy r =>
      refine ⟨_, rfl, a, _, 0, y, rfl, rfl, h, atI_nat (j := 0) rfl, isi_str hy ⟨_, rfl, ?_⟩⟩
      cases hy with
      | oth ty a b => exact iteT (by rw [isT_nonm rfl] at q0; exact q0)
      | tup h r => exact iteT (by rw [isT_nonm rfl] at q0; exact q0)
      | str x hx =>
        refine iteF ?_
        refine ⟨_, rfl, a, _, 0, .str x, rfl, rfl, h, atI_nat (j := 0) rfl, x, rfl, sz5 hx, _, _, rfl, rfl, _, rfl, ?_⟩
        refine ite2 (fun d => ?_) (fun d => ?_)
        rotate_left
        · have d' : ¬ (1 : Int) ≤ (x.length : Nat) := of_decide_eq_false (Bool.eq_false_iff.mpr d)
          have e : isNam x = false := by
            cases z : isNam x with
            | false => rfl
            | true => exact absurd (isNam_iff.mp z).1 (by omega)
          rw [isT_nonm (n := .str x) e] at q0
          exact ⟨false, rfl, iteT q0⟩
        have d' : (1 : Int) ≤ (x.length : Nat) := of_decide_eq_true d
        refine ⟨_, _, rfl, rfl, _, rfl, ?_⟩
        refine ite2 (fun d2 => ?_) (fun d2 => ?_)
        · have d2' : ¬ ((x.length : Nat) : Int) ≤ 8 := by
            have z := d2
            rw [Bool.not_eq_true'] at z
            exact of_decide_eq_false z
          have e : isNam x = false := by
            cases z : isNam x with
            | false => rfl
            | true => exact absurd (isNam_iff.mp z).2.1 (by omega)
          rw [isT_nonm (n := .str x) e] at q0
          exact q0
        have d2' : ((x.length : Nat) : Int) ≤ 8 := by
          have z := d2
          rw [Bool.not_eq_true', Bool.not_eq_false] at z
          exact of_decide_eq_true z
        have hb := isNam_bads (x := x) (by omega) (by omega)
        refine ⟨_, rfl, a, _, 0, .str x, rfl, rfl, h, atI_nat (j := 0) rfl, x, rfl, fun D hD => ?_⟩
        refine lc_it (walk_str (z := x)) (te := tC (.int 1)) (tt := tTest (tOp rNiS (tVar 2) (tVar 1))) (fun i H' => ∃ acc, Same H H' ∧ H' D = some (.lst acc) ∧ acc = bads x i) ⟨[], same_new hD _, upd_same, rfl⟩ (fun _ _ _ _ => trivial) (fun i u H' H2 hi ⟨acc, sm, hacc, ea⟩ hy => ?_) (fun H' ⟨acc, sm, hacc, ea⟩ => ?_)
        · obtain ⟨rfl, ch, hc, rfl⟩ := hy
          refine ⟨rfl, _, rfl, _, rfl, ch, loS, rfl, rfl, _, rfl, ?_⟩
          have st := bads_step hc
          refine ite2 (fun m => ?_) (fun m => ?_)
          · have m' : decide (ch ∈ loS.cps.toList) = false := by simpa using m
            rw [m'] at st
            refine ⟨acc, hacc, ?_, acc ++ [.int 1], same_mut sm hD, upd_same, by rw [ea, st]; rfl⟩
            rw [ea]
            have z1 : x.cps.size = x.length := rfl
            exact Nat.lt_of_le_of_lt (bads_len x i) (by rw [sizeLine_eq]; omega)
          · have m' : decide (ch ∈ loS.cps.toList) = true := by
              cases z : decide (ch ∈ loS.cps.toList) with
              | true => rfl
              | false => rw [z] at m; exact absurd rfl m
            rw [m'] at st
            exact ⟨acc, sm, hacc, by rw [ea, st]; simp⟩
        refine ⟨Nat.zero_le _, fun e he => ?_⟩
        have hones := ones_of (l := acc) (by rw [ea]; rfl)
        have s1 := same_new he (.lst [])
        refine ⟨.list (acc.map fun _ => .int 1), .list [], .lst (SqL.of (s1 _ _ hacc)) (dp_ones acc hones), .lst (SqL.of upd_same) .nil, shaped_ones acc, shaped_ones [], _, rfl, ?_⟩
        rw [eqv_ones acc hones, ea, ← hb]
        have sH := sm.trans s1
        refine ite2 (fun m => ?_) (fun m => ?_)
        · have m' : isNam x = false := by simpa using m
          have q1 := q _ sH
          rw [isT_nonm (n := .str x) m'] at q1
          exact q1
        have hnam : isNam x = true := by
          cases z : isNam x with
          | true => rfl
          | false => rw [z] at m; exact absurd rfl m
        revert sH
        generalize upd H' e (.lst []) = Hm
        intro sH
        have hm := (stay_same (K := K) sH).tup _ _ h
        refine ⟨_, rfl, 1, rfl, a, _, rfl, hm, cut_tail_ne _ (by simp), fun pz hpz => ?_⟩
        rw [cut_tail]
        have hpS : (upd Hm pz (.tup (List.drop 1 (V.str x :: ys)))) pz = some (.tup ys) := upd_same
        have sP := sH.trans (same_new hpz (.tup (List.drop 1 (V.str x :: ys))))
        refine ⟨pz, rfl, ⟨ys, .inl (.inl hpS)⟩, fun D2 hD2 => ?_⟩
        have bm := badT_all ts
        have lys : ys.length = ts.length := r.length
        refine lc_tup (K := K) (te := tC (.int 1)) (tt := tNot (tB (tIK K n))) (a := pz) (xs := ys) (fun i H'' => ∃ acc, Same (upd Hm pz (.tup (List.drop 1 (V.str x :: ys)))) H'' ∧ H'' D2 = some (.lst acc) ∧ acc = badT ts i) ⟨[], same_new hD2 _, upd_same, rfl⟩ (fun i H'' _ ⟨acc, sm, _⟩ => (stay_same (K := K) sm).tup _ _ (.inl (.inl hpS))) (fun i u H'' hu ⟨acc, sm, hacc, ea⟩ => ?_) (fun H'' ⟨acc, sm, hacc, ea⟩ => ?_)
        · obtain ⟨t, ht, hth⟩ := thall_at r hu
          have hi : i < ts.length := (List.getElem?_eq_some_iff.mp ht).1
          have nt := nodes_at ht
          have ntot : (Tg.tup (Tg.str x :: ts)).nodes = 1 + (1 + nodesAll ts) := by simp only [Tg.nodes, nodesAll]
          have st := badT_step ht
          refine ⟨rfl, u, rfl, u, t, rfl, hth.stay (stay_same (sP.trans sm)), by omega, by omega, fun H3 s3 => ⟨_, rfl, ?_⟩⟩
          refine ite2 (fun m => ?_) (fun m => ?_)
          · have m' : isT t = false := by simpa using m
            rw [m'] at st
            refine ⟨acc, s3 _ _ hacc, ?_, acc ++ [.int 1], same_mut (sm.trans s3) hD2, upd_same, by rw [ea, st]; rfl⟩
            rw [ea]
            exact Nat.lt_of_le_of_lt (badT_len ts i) (by rw [sizeLine_eq]; rw [List.length_cons] at c2'; omega)
          · have m' : isT t = true := by
              cases z : isT t with
              | true => rfl
              | false => rw [z] at m; exact absurd rfl m
            rw [m'] at st
            exact ⟨acc, sm.trans s3, s3 _ _ hacc, by rw [ea, st]; simp⟩
        rw [lys] at ea
        have hones2 := ones_of (l := acc) (by rw [ea]; rfl)
        refine ⟨Nat.zero_le _, fun e2 he2 => ?_⟩
        have s2 := same_new he2 (.lst [])
        refine ⟨.list (acc.map fun _ => .int 1), .list [], .lst (SqL.of (s2 _ _ hacc)) (dp_ones acc hones2), .lst (SqL.of upd_same) .nil, shaped_ones acc, shaped_ones [], ?_⟩
        rw [eqv_ones acc hones2, ea, bm]
        have fin := q _ ((sP.trans sm).trans s2)
        have ev : isT (.tup (.str x :: ts)) = isTAll ts := by
          show ((decide (ts.length ≤ 2) && isNam x) && isTAll ts) = _
          rw [hnam, decide_eq_true (by rw [List.length_cons] at c2'; omega), Bool.true_and, Bool.true_and]
        rw [ev] at fin
        exact fin
/-- is_kind, of things of fewer than n parts -/
theorem ok_is_kind (G : Glo mg) (D : DefAt K mg "_law_is_kind" s_Lis_kind ["_law_thing"]) : ∀ n, n ≤ 1000 → Cal P w K mg base (n + 1) "_law_is_kind" ["_law_thing"] (spIsK K n)
  | 0, _ => isk_none D
  | n + 1, h => isk_step h G (ok_is_kind G D n (by omega)) D
end
end N

namespace N
open PySem PySem.Spec PyProof.Rows L2
/-! ### data with lists and dicts, and its repr -/
mutual
/-- scalars and tuples -/
inductive Dt (K : PySem.W.Frag) (H : Hp) : V → PyData → Prop
  | non : Dt K H .non .none
  | bl (b : Bool) : Dt K H (.bl b) (.bool b)
  | int (i : Int) : Dt K H (.int i) (.int i)
  | str (x : Str) : Dt K H (.str x) (.str x)
  | tup {a : Addr} {xs : List V} {ds : List PyData} : SqT K H a xs → DtAll K H xs ds → Dt K H (.ref a) (.tuple ds)
inductive DtAll (K : PySem.W.Frag) (H : Hp) : List V → List PyData → Prop
  | nil : DtAll K H [] []
  | cons {v : V} {vs : List V} {d : PyData} {ds : List PyData} : Dt K H v d → DtAll K H vs ds → DtAll K H (v :: vs) (d :: ds)
end
/-- the entries of a dict whose keys are texts -/
def KvT (K : PySem.W.Frag) (H : Hp) : List (Key × V) → List (Str × PyData) → Prop := Paired fun p q => p.1 = Sum.inr q.1 ∧ Dt K H p.2 q.2
mutual
/-- .. and lists and dicts of such -/
inductive Dq (K : PySem.W.Frag) (H : Hp) (p : Addr) : V → PyData → Prop
  | t {v : V} {d : PyData} : Dt K H v d → Dq K H p v d
  | tup {a : Addr} {xs : List V} {ds : List PyData} : SqT K H a xs → DqAll K H p xs ds → Dq K H p (.ref a) (.tuple ds)
  | lst {a : Addr} {xs : List V} {ds : List PyData} : H a = some (.lst xs) → (a == sysModules) = false → a ≠ p → DtAll K H xs ds → Dq K H p (.ref a) (.list ds)
  | dct {a : Addr} {kvs : List (Key × V)} {m : List (Str × PyData)} : H a = some (.dK kvs) → KvT K H kvs m → Dq K H p (.ref a) (.dict (m.map fun q => (PyData.str q.1, q.2)))
inductive DqAll (K : PySem.W.Frag) (H : Hp) (p : Addr) : List V → List PyData → Prop
  | nil : DqAll K H p [] []
  | cons {v : V} {vs : List V} {d : PyData} {ds : List PyData} : Dq K H p v d → DqAll K H p vs ds → DqAll K H p (v :: vs) (d :: ds)
end
section
variable {X : Cx} {pins : List (Addr × Obj)} {σ : L2.St} {H : Hp} {s : Shared}
mutual
theorem dt_reads (I : Inv X pins σ H s) : ∀ (d : PyData) (v : V) (u : Value), Dt X.K H v d → RelV v u → Reads s.heap u d []
  | .none, _, _, h, r => by cases h; cases r; exact .none
  | .bool b, _, _, h, r => by cases h; cases r; exact .bool b
  | .int i, _, _, h, r => by cases h; obtain ⟨t, rfl⟩ := r; exact .int i t
  | .str x, _, _, h, r => by cases h; obtain ⟨t, rfl⟩ := r; exact .str x t
  | .list _, _, _, h, _ => by cases h
  | .dict _, _, _, h, _ => by cases h
  | .tuple ds, _, _, h, r => by
    cases h with
    | tup hs ha =>
      cases r
      obtain ⟨its, rv, ⟨o, ho, hc, n, hd⟩, _⟩ := I.tuple hs
      exact .tuple ho hc hd (dts_reads I ds _ its ha rv)
theorem dts_reads (I : Inv X pins σ H s) : ∀ (ds : List PyData) (vs : List V) (us : List Value), DtAll X.K H vs ds → Vals vs us → ReadsAll s.heap us ds []
  | [], _, _, h, r => by cases h; cases r; exact .nil
  | d :: ds, _, _, h, r => by
    cases h with
    | cons a b =>
      cases r with
      | cons r1 r2 =>
        show ReadsAll s.heap _ _ ([] ++ [])
        exact .cons (dt_reads I d _ _ a r1) (dts_reads I ds _ _ b r2)
end
theorem kvt_keys {P : Program} {w : World} {h : Heap} {es : List DictEntry} {vs : List (Key × Value)} (hp : Pairs (mixKind P w) es vs) : ∀ {kvs : List (Key × V)} {m : List (Str × PyData)}, KV kvs vs → KvT X.K H kvs m → ReadsAll h (es.map (·.key)) (m.map fun q => PyData.str q.1) [] := by
  induction hp with
  | nil =>
    intro kvs m k r
    cases k
    cases r
    exact .nil
  | @cons e kv es vs h1 h2 h3 ih =>
    intro kvs m k r
    cases k with
    | cons k1 k2 =>
      cases r with
      | @cons _ q _ m' r1 r2 =>
        have ih' := ih k2 r2
        rw [← k1.1, r1.1] at h1
        rcases keyIs_shape (show keyIs (Sum.inr q.1) e.key = true from h1) with ⟨i, t, z, _⟩ | ⟨x, t, z, ek⟩
        · cases z
        · cases z
          show ReadsAll h (e.key :: es.map (·.key)) (PyData.str q.1 :: m'.map fun q => PyData.str q.1) ([] ++ [])
          rw [ek]
          exact .cons (.str q.1 t) ih'
theorem kvt_vals (I : Inv X pins σ H s) {P : Program} {w : World} {es : List DictEntry} {vs : List (Key × Value)} (hp : Pairs (mixKind P w) es vs) : ∀ {kvs : List (Key × V)} {m : List (Str × PyData)}, KV kvs vs → KvT X.K H kvs m → ReadsAll s.heap (es.map (·.val)) (m.map Prod.snd) [] := by
  induction hp with
  | nil =>
    intro kvs m k r
    cases k
    cases r
    exact .nil
  | @cons e kv es vs h1 h2 h3 ih =>
    intro kvs m k r
    cases k with
    | cons k1 k2 =>
      cases r with
      | @cons _ q _ m' r1 r2 =>
        have ih' := ih k2 r2
        show ReadsAll s.heap (e.val :: es.map (·.val)) (q.2 :: m'.map Prod.snd) ([] ++ [])
        rw [h2]
        exact .cons (dt_reads I q.2 _ _ r1.2 k1.2) ih'
mutual
theorem dq_reads (I : Inv X pins σ H s) {p : Addr} : ∀ (d : PyData) (v : V) (u : Value), Dq X.K H p v d → RelV v u → ∃ as, Reads s.heap u d as ∧ sysModules ∉ as
  | .none, v, u, h, r => by cases h with | t h => exact ⟨_, dt_reads I _ v u h r, by simp⟩
  | .bool b, v, u, h, r => by cases h with | t h => exact ⟨_, dt_reads I _ v u h r, by simp⟩
  | .int i, v, u, h, r => by cases h with | t h => exact ⟨_, dt_reads I _ v u h r, by simp⟩
  | .str x, v, u, h, r => by cases h with | t h => exact ⟨_, dt_reads I _ v u h r, by simp⟩
  | .list ds, v, u, h, r => by
    cases h with
    | t h => cases h
    | lst h1 h2 h4 h3 =>
      cases r
      obtain ⟨z, its, n, rv, ho⟩ := I.hok _ _ h1
      refine ⟨_, .list ho rfl rfl (dts_reads I ds _ its h3 rv), fun hm => ?_⟩
      rw [← List.mem_singleton.mp hm] at h2
      exact absurd h2 (by simp)
  | .dict mm, v, u, h, r => by
    cases h with
    | t h => cases h
    | @dct a kvs m h1 h2 =>
      cases r
      obtain ⟨_, hsm, vs, hkv, o, es, ep, ho, hx, hd, _, hpr, _⟩ := dk_of I.hok h1
      have q := Reads.dict (kvs := m.map fun q => (PyData.str q.1, q.2)) ho hx.1 hd (by rw [List.map_map]; exact kvt_keys (X := X) (H := H) hpr hkv h2) (by rw [List.map_map]; exact kvt_vals I hpr hkv h2)
      refine ⟨_, q, fun hm => ?_⟩
      rcases List.mem_append.mp hm with hm | hm
      · rw [← List.mem_singleton.mp hm] at hsm
        exact absurd hsm (by simp)
      · cases hm
  | .tuple ds, v, u, h, r => by
    cases h with
    | t h => exact ⟨_, dt_reads I _ v u h r, by simp⟩
    | tup hs ha =>
      cases r
      obtain ⟨its, rv, ⟨o, ho, hc, n, hd⟩, _⟩ := I.tuple hs
      obtain ⟨as, q1, q2⟩ := dqs_reads I ds _ its ha rv
      exact ⟨as, .tuple ho hc hd q1, q2⟩
theorem dqs_reads (I : Inv X pins σ H s) {p : Addr} : ∀ (ds : List PyData) (vs : List V) (us : List Value), DqAll X.K H p vs ds → Vals vs us → ∃ as, ReadsAll s.heap us ds as ∧ sysModules ∉ as
  | [], _, _, h, r => by cases h; cases r; exact ⟨_, .nil, by simp⟩
  | d :: ds, _, _, h, r => by
    cases h with
    | cons a b =>
      cases r with
      | cons r1 r2 =>
        obtain ⟨as, q1, q2⟩ := dq_reads I d _ _ a r1
        obtain ⟨bs, q3, q4⟩ := dqs_reads I ds _ _ b r2
        exact ⟨_, .cons q1 q3, fun hm => (List.mem_append.mp hm).elim q2 q4⟩
end
end
section
variable {X : Cx}
/-- repr(x), x any such value -/
def rReprQ (K : PySem.W.Frag) : List V → Hp → VK → Prop := fun xs H Q => ∃ (v : V) (d : PyData) (p : Addr), xs = [v] ∧ Dq K H p v d ∧ d.showable = true ∧ d.depth ≤ 60 ∧ d.shown.length ≤ sizeLine ∧ (∀ i, d = .int i → i.natAbs.log2 < 1920) ∧ Q (.str d.shown) H
theorem call_reprQ {j : Nat} (hr : RoomG j X.A) : CallR X (.builtin "repr") (rReprQ X.K) := by
  intro pins s σ H xs us Q I r h
  obtain ⟨v, d, p, rfl, hd, hs, hdp, hz, hi, q⟩ := h
  obtain ⟨u, rfl, ru⟩ := vals1 r
  obtain ⟨as, rd, hm⟩ := dq_reads I d v u hd ru
  have hun := hr.toRoom.units
  have main : ∀ a : Addr, v = .ref a → wpAny (model X.prog X.w) X.A (call (.builtin "repr") [u]) (EP X pins σ Q) X.xe s := fun a ea => by
    subst ea
    cases (show u = Value.ref a from ru)
    exact repr_of_reads' rd hs (fun _ => hm) hr.gs (by omega) (fun b o e => e) (fun h' u tk hk => ⟨.str d.shown, H, I.kept (t' := tk) hk, ⟨_, rfl⟩, q⟩) hz
  cases hd with
  | tup _ _ => exact main _ rfl
  | lst _ _ _ _ => exact main _ rfl
  | dct _ _ => exact main _ rfl
  | t ht =>
    cases ht with
    | tup _ _ => exact main _ rfl
    | non =>
      cases ru
      exact PySem.P.repr_of_none ⟨.str "None", H, I.tok _, ⟨_, rfl⟩, q⟩
    | bl b =>
      cases ru
      exact PySem.P.repr_of_bool ⟨.str (if b then "True" else "False"), H, I.tok _, ⟨_, rfl⟩, by cases b <;> exact q⟩
    | int i =>
      obtain ⟨t, rfl⟩ := ru
      exact PySem.P.repr_of_int (hi i rfl) ⟨.str (toString i), H, I.tok _, ⟨_, rfl⟩, q⟩
    | str x =>
      obtain ⟨t, rfl⟩ := ru
      exact PySem.P.repr_of_str ⟨.str (reprText x), H, I.tok _, ⟨_, rfl⟩, q⟩ hz
end
/-! ### it stays -/
section
variable {K : PySem.W.Frag} {H H' : Hp} {p : Addr}
mutual
theorem dt_stay (s : Stay K H H') : ∀ (d : PyData) (v : V), Dt K H v d → Dt K H' v d
  | .none, _, h => by cases h; exact .non
  | .bool b, _, h => by cases h; exact .bl b
  | .int i, _, h => by cases h; exact .int i
  | .str x, _, h => by cases h; exact .str x
  | .list _, _, h => by cases h
  | .dict _, _, h => by cases h
  | .tuple ds, _, h => by
    cases h with
    | tup hs ha => exact .tup (s.tup _ _ hs) (dts_stay s ds _ ha)
theorem dts_stay (s : Stay K H H') : ∀ (ds : List PyData) (vs : List V), DtAll K H vs ds → DtAll K H' vs ds
  | [], _, h => by cases h; exact .nil
  | d :: ds, _, h => by
    cases h with
    | cons a b => exact .cons (dt_stay s d _ a) (dts_stay s ds _ b)
end
theorem kvt_stay (s : Stay K H H') {kvs : List (Key × V)} {m : List (Str × PyData)} (h : KvT K H kvs m) : KvT K H' kvs m := Paired.mapP h fun _ q ⟨e, z⟩ => ⟨e, dt_stay s q.2 _ z⟩
mutual
theorem dq_bar (b : Bar p H H') (hp : Pen H p) (s : Stay K H H') : ∀ (d : PyData) (v : V), Dq K H p v d → Dq K H' p v d
  | .none, _, h => by cases h with | t h => exact .t (dt_stay s _ _ h)
  | .bool _, _, h => by cases h with | t h => exact .t (dt_stay s _ _ h)
  | .int _, _, h => by cases h with | t h => exact .t (dt_stay s _ _ h)
  | .str _, _, h => by cases h with | t h => exact .t (dt_stay s _ _ h)
  | .list ds, _, h => by
    cases h with
    | t h => cases h
    | lst h1 h2 h4 h3 => exact .lst (b _ _ h4 h1) h2 h4 (dts_stay s ds _ h3)
  | .dict mm, _, h => by
    cases h with
    | t h => cases h
    | dct h1 h2 => exact .dct (b _ _ (fun e => by
        obtain ⟨i, j, k, z, _⟩ := hp
        rw [e, z] at h1
        cases h1) h1) (kvt_stay s h2)
  | .tuple ds, _, h => by
    cases h with
    | t h => exact .t (dt_stay s _ _ h)
    | tup hs ha => exact .tup (s.tup _ _ hs) (dqs_bar b hp s ds _ ha)
theorem dqs_bar (b : Bar p H H') (hp : Pen H p) (s : Stay K H H') : ∀ (ds : List PyData) (vs : List V), DqAll K H p vs ds → DqAll K H' p vs ds
  | [], _, h => by cases h; exact .nil
  | d :: ds, _, h => by
    cases h with
    | cons a c => exact .cons (dq_bar b hp s d _ a) (dqs_bar b hp s ds _ c)
end
mutual
theorem dq_same (b : Same H H') : ∀ (d : PyData) (v : V), Dq K H p v d → Dq K H' p v d
  | .none, _, h => by cases h with | t h => exact .t (dt_stay (stay_same b) _ _ h)
  | .bool _, _, h => by cases h with | t h => exact .t (dt_stay (stay_same b) _ _ h)
  | .int _, _, h => by cases h with | t h => exact .t (dt_stay (stay_same b) _ _ h)
  | .str _, _, h => by cases h with | t h => exact .t (dt_stay (stay_same b) _ _ h)
  | .list ds, _, h => by
    cases h with
    | t h => cases h
    | lst h1 h2 h4 h3 => exact .lst (b _ _ h1) h2 h4 (dts_stay (stay_same b) ds _ h3)
  | .dict mm, _, h => by
    cases h with
    | t h => cases h
    | dct h1 h2 => exact .dct (b _ _ h1) (kvt_stay (stay_same b) h2)
  | .tuple ds, _, h => by
    cases h with
    | t h => exact .t (dt_stay (stay_same b) _ _ h)
    | tup hs ha => exact .tup ((stay_same b).tup _ _ hs) (dqs_same b ds _ ha)
theorem dqs_same (b : Same H H') : ∀ (ds : List PyData) (vs : List V), DqAll K H p vs ds → DqAll K H' p vs ds
  | [], _, h => by cases h; exact .nil
  | d :: ds, _, h => by
    cases h with
    | cons a c => exact .cons (dq_same b d _ a) (dqs_same b ds _ c)
end
end
end N

namespace N
open PySem PySem.Spec PyProof.Rows L2 LamX NdefX
/-! ### lambdas where more than one table is known -/
/-- all but what stands at P stays -/
def ExtP (P : Addr) (H H' : Hp) : Prop := ∀ b o, H b = some o → b ≠ P → H' b = some o
theorem ExtP.refl (P : Addr) (H : Hp) : ExtP P H H := fun _ _ h _ => h
theorem ExtP.of {P : Addr} {H H' : Hp} (s : Same H H') : ExtP P H H' := fun b o h _ => s b o h
theorem ExtP.trans {P : Addr} {H H1 H2 : Hp} (a : ExtP P H H1) (b : ExtP P H1 H2) : ExtP P H H2 := fun c o h n => b c o (a c o h n) n
theorem ExtP.tab {P P2 : Addr} {q : Str} {H H' : Hp} (e : ExtP P H H') (n : P2 ≠ P) (hP : ∃ ps, H P = some (.tbl ps)) (t : TabS H P2 q) : TabS H' P2 q := by
  obtain ⟨ps, h1, h2, h3⟩ := t
  obtain ⟨qs, hq⟩ := hP
  refine ⟨ps, e _ _ h1 n, h2, fun p' cv z => ?_⟩
  obtain ⟨c0, ec, hc⟩ := h3 p' cv z
  refine ⟨c0, ec, e _ _ hc fun z => ?_⟩
  rw [z, hq] at hc
  exact codeO_ne qs (Option.some.inj hc).symm
section
variable {X : Cx} {pins : List (Addr × Obj)} {σ : L2.St} {H : Hp} {s : Shared}
theorem lam_new2 {c P : Addr} {params : Arguments} {body : Expr} {scope : Scope} {pos : Pos} {E : Value → Shared → Prop} {Q : Value → Shared → Prop} (I : Inv X pins σ H s) (TB : TabB X.base X.mg c P) (hcode : X.env.code = .ref c) (hT : TabS H P (X.env.qual ++ "<lambda>"))
    (hdef : defaultsOf params X.env = ([], [])) (hfree : ∀ y ∈ scope.names, y.2 = .free → ∃ c, X.env.cells.lookup y.1 = some c)
    (h : ∀ (f c' : Addr) (H1 : Hp) (s' : Shared), Inv X pins σ H1 s' → ExtP P H H1 → ExtN H H1 → TabS H1 P (X.env.qual ++ "<lambda>") → (∀ b, H1 b = none → H b = none) → H f = none → H1 f = some (LamO f (lamF (X.env.qual ++ "<lambda>") params scope (cloFrom X.env.cells scope.names []) c') body) → H1 c' = some (CodeO c' (X.env.qual ++ "<lambda>")) → Q (.ref f) s') :
    wpAny (model X.prog X.w) X.A (eval (.Lambda params body scope pos) X.env) Q E s := by
  obtain ⟨ps, hP, ht, ha⟩ := hT
  apply PySem.W.kla_eval hdef
  have hb : s.heap.BuiltinsAt X.mg P := TB.bm.keeps I.bk
  have tP : s.heap.get? P = some { cls := .none, data := .fields ps } := I.hok P _ hP
  -- the function object itself
  have fin : ∀ (h' : Heap) (tk : Nat) (c' : Addr) (ctv : Value) (H1 : Hp), Inv X pins σ H1 { s with heap := h', toks := tk } → ExtP P H H1 → ExtN H H1 → TabS H1 P (X.env.qual ++ "<lambda>") → (∀ b, H1 b = none → H b = none) → H1 c' = some (CodeO c' (X.env.qual ++ "<lambda>")) →
      Q (.ref h'.objs.size) { s with heap := h'.push (PySem.W.kla_obj "<lambda>" (X.env.qual ++ "<lambda>") params body scope (cloFrom X.env.cells scope.names []) ((X.mg "__name__").getD .none) c' ctv), toks := tk } := by
    intro h' tk c' ctv H1 J e0 e1 T1 n1 k1
    have nf : H1 h'.objs.size = none := J.hok.fresh (Nat.le_refl _)
    have here : (h'.push (PySem.W.kla_obj "<lambda>" (X.env.qual ++ "<lambda>") params body scope (cloFrom X.env.cells scope.names []) ((X.mg "__name__").getD .none) c' ctv)).get? h'.objs.size = some _ := Heap.get?_push_size _ rfl
    have J2 := J.laid (t' := tk) (a := h'.objs.size) (o := LamO h'.objs.size (lamF (X.env.qual ++ "<lambda>") params scope (cloFrom X.env.cells scope.names []) c') body) (fun b u e => Heap.get?_push_of_some _ e) (Nat.le_refl _)
      ⟨⟨_, _, here⟩, ⟨_, here⟩, fun h1 h2 y st => by obtain ⟨a, b, z⟩ := y; exact ⟨a, b, st _ z⟩⟩
    have sm := same_new nf (LamO h'.objs.size (lamF (X.env.qual ++ "<lambda>") params scope (cloFrom X.env.cells scope.names []) c') body)
    exact h _ c' _ _ J2 (e0.trans (ExtP.of sm)) (e1.trans (ExtN.of sm)) (T1.ext sm) (fun b z => n1 b (sm.free z)) (n1 _ nf) upd_same (sm _ _ k1)
  cases hc : codeAmong pos ps.toList with
  | some cv =>
    obtain ⟨c', ec, hco⟩ := ha pos cv hc
    subst ec
    refine PySem.W.kla_makeFunctionHit (closure_ok hfree) I.ok.glob (I.mod.glob.keeps I.bk) hcode (TB.code.keeps I.bk) tP ht hc hb (fun ctv h' tk kx _ => ?_)
    exact fin h' tk c' ctv H (I.kept kx) (ExtP.refl P H) (ExtN.refl H) ⟨ps, hP, ht, ha⟩ (fun b z => z) hco
  | none =>
    refine PySem.W.kla_makeFunction (closure_ok hfree) I.ok.glob (I.mod.glob.keeps I.bk) hcode (TB.code.keeps I.bk) tP ht hc TB.gP hb (fun c' ctv h' tk kx hge hlt hrec htb => ?_)
    obtain ⟨c2, oc, vs, t, e2, y1, y2, y3⟩ := hrec
    cases e2
    have nc : H c' = none := I.hok.fresh hge
    have J := inv_table (t' := tk) (more := #[rawInt pos.line, rawInt pos.col, .ref c']) (h' := h') (q := X.env.qual ++ "<lambda>") I hP (fun b o n e => kx b o n e) htb hge ⟨oc, vs, t, y1, y2, y3⟩
    refine fin h' tk c' ctv _ J (fun b o e n => ?_) (fun b o e n => ?_) (tabS_more hP ht ha nc) (fun b z => upd_none (upd_none z)) upd_same
    · rw [upd_ne (ne_of_none e nc), upd_ne n]
      exact e
    · rw [upd_ne (ne_of_none e nc), upd_ne (fun z => n ps (Option.some.inj (e.symm.trans (by rw [z]; exact hP))))]
      exact e
/-- lambda ..: .. as a value -/
theorem pe_lamT2 {c P : Addr} {params : Arguments} {body : Expr} {scope : Scope} {pos : Pos} (TB : TabB X.base X.mg c P) (hcode : X.env.code = .ref c) (hdef : defaultsOf params X.env = ([], []) := by rfl)
    (fre : ∀ y ∈ scope.names, y.2 = .free → X.env.scope.names.lookup y.1 = some .cell ∨ X.env.scope.names.lookup y.1 = some .free := by decide +kernel) :
    PE X (.Lambda params body scope pos) (fun σ H Q => TabS H P (X.env.qual ++ "<lambda>") ∧ ∀ (f c' : Addr) (H1 : Hp), ExtP P H H1 → ExtN H H1 → TabS H1 P (X.env.qual ++ "<lambda>") → (∀ b, H1 b = none → H b = none) → H f = none →
      H1 f = some (LamO f (lamF (X.env.qual ++ "<lambda>") params scope (cloFrom X.env.cells scope.names []) c') body) → H1 c' = some (CodeO c' (X.env.qual ++ "<lambda>")) → Q (.ref f) H1) := by
  refine ⟨fun pins s σ H Q I h => ?_⟩
  obtain ⟨hT, h⟩ := h
  refine lam_new2 I TB hcode hT hdef (fun y hy ey => (fre y hy ey).elim (fun z => I.ok.has _ (.inl z)) fun z => I.ok.has _ (.inr z)) (fun f c' H1 s' J g0 g1 g2 g3 g4 g5 g6 => ?_)
  exact ⟨.ref f, H1, J, rfl, h f c' H1 g0 g1 g2 g3 g4 g5 g6⟩
end
end N

namespace N
open PySem PySem.Spec PyProof.Rows L2
/-! ### a dict of one entry, whatever its key -/
/-- the object of a dict with one entry -/
def OneD (o : Obj) (x y : V) : Prop := o.ExactDict ∧ ∃ (es : Array DictEntry) (ep : Nat) (en : DictEntry), o.data = .dict es ep ∧ es = #[en] ∧ RelV x en.key ∧ RelV y en.val
/-- a thing that is known to the object -/
def GO (o : Obj) : HO := .frz o (.own 0)
section
variable {X : Cx} {pins : List (Addr × Obj)} {σ : L2.St} {H : Hp} {s : Shared}
theorem go_at {d : Addr} {o : Obj} (I : Inv X pins σ H s) (h : H d = some (GO o)) : s.heap.get? d = some o := (I.hok d _ h).1
def rIsG : List V → Hp → VK → Prop := fun xs H Q => ∃ (a : Addr) (o : Obj), xs = [.ref a, .ty "dict"] ∧ H a = some (GO o) ∧ o.ExactDict ∧ Q (.bl true) H
theorem call_isG : CallR X (.builtin "isinstance") rIsG := by
  intro pins s σ H xs us Q I r h
  obtain ⟨a, o, rfl, ha, hx, q⟩ := h
  obtain ⟨u1, u2, rfl, r1, r2⟩ := vals2 r
  cases (show u1 = Value.ref a from r1)
  cases (show u2 = Value.type "dict" from r2)
  exact PySem.W.kia_one PySem.W.kitx_dict I.kIn ⟨o, go_at I ha, hx.1⟩ (kit_ty (b := "dict") (r := true) (by decide +kernel)) (fun z => nomatch z) fun tk => ⟨.bl true, H, I.tok tk, rfl, q⟩
/-- {None: v} -/
theorem pe_dispN {k v : Expr} {tk tv : TE} {pos : Pos} (hk : PE X k tk) (hv : PE X v tv) : PE X (.Dict [some k] [v] pos) (fun σ H Q => ∀ p, H p = none → (p == sysModules) = false → tk σ (upd H p (.dK [])) fun x H1 => tv σ H1 fun y H2 => H2 p = some (.dK []) ∧ x = .non ∧ ∀ o, OneD o .non y → Q (.ref p) (upd H2 p (GO o))) := by
  refine ⟨fun pins s σ H Q I q => ?_⟩
  have hn := I.hok.fresh (Nat.le_refl s.heap.objs.size)
  have I1 := I.laid (a := s.heap.objs.size) (o := .dK []) (h' := s.heap.push { cls := .type "dict", data := .dict #[] }) (t' := s.toks) (fun _ _ q => Heap.get?_push_of_some _ q) (Nat.le_refl _) (dk_empty s.heap I.big)
  refine wpAny_Dict_walk (knd := leafKind X.prog X.w) rfl rfl (by simp) (by show 1 ≤ 15; decide) ?_
  refine pairTrees_cons_walk (thn (hk.run pins _ σ _ _ I1 (q _ hn (beq_eq_false_iff_ne.mpr (Nat.ne_of_gt I.big)))) fun u s1 ⟨x, H1, I1', rx, q1⟩ => thn (hv.run pins s1 σ H1 _ I1' q1) fun w2 s2 ⟨y, H2, I2, ry, e, ex, q2⟩ => pairTrees_nil_walk ?_)
  subst ex
  obtain rfl : u = Value.none := rx
  obtain ⟨z, hd, vs0, r0, dd⟩ := dk_of I2.hok e
  cases r0
  have dd' : s2.heap.DictOf (leafKind X.prog X.w) s.heap.objs.size [] := by
    obtain ⟨o, es, ep, h1, h2, h3, h4, h5, h6⟩ := dd
    obtain ⟨l⟩ := es
    cases h5
    exact ⟨o, _, ep, h1, h2, h3, fun e he => by simp at he, .nil, List.nodup_nil⟩
  refine ⟨[(Leaf.none, w2)], ⟨rfl, rfl, trivial⟩, dd', fun h' dd2 hs => ?_⟩
  obtain ⟨o, ⟨l⟩, ep, h1, h2, h3, h4, h5, h6⟩ := dd2
  have h5' : Pairs (leafKind X.prog X.w) l [(Leaf.none, w2)] := h5
  cases h5' with
  | @cons en _ _ _ k1 k2 k3 =>
    cases k3
    have ek : en.key = .none := by
      have k1' : Leaf.isOf Leaf.none en.key = true := k1
      cases hz : en.key <;> rw [hz] at k1' <;> first | rfl | cases k1'
    refine ⟨.ref s.heap.objs.size, _, d_write I2 (by rw [e]; exact True.intro) hs ⟨o, h1⟩ (show ObjOk X.prog X.w _ h' s.heap.objs.size (GO o) from ⟨h1, o, h1⟩), rfl, q2 o ⟨h2, _, ep, en, h3, rfl, ?_, ?_⟩⟩
    · rw [ek]; rfl
    · rw [k2]; exact ry
/-- {t: v}, t a tuple of texts and ints -/
theorem pe_dispT {k v : Expr} {tk tv : TE} {pos : Pos} (hu : X.A.units < cLine) (hk : PE X k tk) (hv : PE X v tv) : PE X (.Dict [some k] [v] pos) (fun σ H Q => ∀ p, H p = none → (p == sysModules) = false → tk σ (upd H p (.dT [])) fun x H1 => tv σ H1 fun y H2 => H2 p = some (.dT []) ∧ ∃ (b : Addr) (ks : List Key), x = .ref b ∧ H2 b = some (.tup (ks.map kV)) ∧ ∀ o, OneD o (.ref b) y → Q (.ref p) (upd H2 p (GO o))) := by
  refine ⟨fun pins s σ H Q I q => ?_⟩
  have hn := I.hok.fresh (Nat.le_refl s.heap.objs.size)
  have I1 := I.laid (a := s.heap.objs.size) (o := .dT []) (h' := s.heap.push { cls := .type "dict", data := .dict #[] }) (t' := s.toks) (fun _ _ q => Heap.get?_push_of_some _ q) (Nat.le_refl _) (dt_empty s.heap I.big)
  rw [arm_eval_Dict, zip_pairTrees [some k] [v] X.env pos rfl rfl, dictDisplay_pairs (pairTrees [some k] [v] X.env pos) (by simp [pairTrees]) (by show 1 < 17; decide)]
  refine wpAny_bind (wpAny_standAt (wpAny_bind (wpAny_subDictH (knd := tupleKind (mixKind X.prog X.w)) (Q := fun d s' => wpAny (model X.prog X.w) X.A (pure (Value.ref d)) _ _ s') hu (by show 1 ≤ 15; decide) ?_)))
  refine pairTrees_cons_walk (thn (hk.run pins _ σ _ _ I1 (q _ hn (beq_eq_false_iff_ne.mpr (Nat.ne_of_gt I.big)))) fun u s1 ⟨x, H1, I1', rx, q1⟩ => thn (hv.run pins s1 σ H1 _ I1' q1) fun w2 s2 ⟨y, H2, I2, ry, e, b, ks, ex, eb, q2⟩ => pairTrees_nil_walk ?_)
  subst ex
  obtain rfl : u = Value.ref b := rx
  obtain ⟨z, hd, xs0, r0, o0, es0, ep0, g1, g2, g3, g4, g5⟩ := (show ObjOk X.prog X.w H2 s2.heap s.heap.objs.size (.dT []) from I2.hok _ _ e)
  cases r0
  refine ⟨[(ks, b, w2)], ⟨rfl, rfl, key_of I2.hok eb, trivial⟩, ⟨o0, es0, ep0, g1, g2, g3, g4, fun x hx => by simp at hx, List.nodup_nil⟩, fun h' tk dd hs => wpAny_pure ?_⟩
  obtain ⟨o, ⟨l⟩, ep, h1, h2, h3, h4, h5, h6⟩ := dd
  have h4' : l = [entryOfKey (tupleKind (mixKind X.prog X.w)) (ks, b, w2)] := h4
  subst h4'
  exact ⟨.ref s.heap.objs.size, _, d_write I2 (by rw [e]; exact True.intro) hs ⟨o, h1⟩ (show ObjOk X.prog X.w _ h' s.heap.objs.size (GO o) from ⟨h1, o, h1⟩), rfl, q2 o ⟨h2, _, ep, _, h3, rfl, rfl, ry⟩⟩
end
/-! ### its entries -/
/-- its one pair, a new tuple -/
def ItG (d : Addr) (o : Obj) (x y : V) : It :=
  ⟨fun i H => H d = some (GO o) ∧ i < 1, fun i H u H' => ∃ T, u = .ref T ∧ H T = none ∧ H' = upd H T (.tup [x, y]), fun i H => H d = some (GO o) ∧ 1 ≤ i⟩
theorem walk_itemsG {d : Addr} {o : Obj} {x y : V} : Walk (ItG d o x y) 1 (fun H => H d = some (GO o)) (fun i H u H' => ∃ T, u = .ref T ∧ H T = none ∧ H' = upd H T (.tup [x, y])) :=
  ⟨fun _ _ hi q => ⟨q, hi⟩, fun _ q => ⟨q, Nat.le_refl _⟩, fun _ _ _ _ _ _ y => y⟩
section
variable {P : Program} {w : World} {K : PySem.W.Frag} {d : Addr} {o : Obj} {es : Array DictEntry} {ep : Nat}
theorem turn_itemsG {x y : V} {en : DictEntry} {elts : List Expr} {kk : Nat} {tpos : Pos} (it : Addr) (hx : o.ExactDict) (hod : o.data = .dict es ep) (hes : es = #[en]) (r1 : RelV x en.key) (r2 : RelV y en.val) :
    Turn P w K (.Tuple elts kk tpos) (ItG d o x y) [it] it (fun i h => ∃ ok ov, IsItemIter h it d i es.size ep ok ov) where
  mem := by simp
  obj := fun i h st b hb => by
    have e : b = it := by simpa using hb
    subst e
    obtain ⟨ok, ov, e⟩ := st
    exact ⟨_, e, fun v z => nomatch z⟩
  keep := fun i h h' st k => let ⟨ok, ov, e⟩ := st; ⟨ok, ov, k it (by simp) _ e⟩
  item := by
    intro X hP hw hK hc i pins s σ H E I hf st hg
    subst hP hw hK
    obtain ⟨hd, hi⟩ := hg
    have hgd := go_at I hd
    obtain ⟨ok, ov, he⟩ := st
    have hlt : it < s.heap.objs.size := Heap.lt_size he
    have i0 : i = 0 := by omega
    subst i0
    subst hes
    refine wpAny_pyNext_items_item_raw he ⟨o, hgd, hx, hod⟩ (by show 0 < 1; decide) fun h' ho hT hz hk => ?_
    refine ⟨_, rfl, wpAny_letOwnedTupleGo_items (s := { s with heap := h' }) ho fun h'' he' sb => ?_⟩
    have hT2 : h''.get? s.heap.objs.size = some { cls := .type "tuple", data := .seq #[en.key, en.val] } := (sb.2 _ (Nat.ne_of_gt hlt)).trans hT
    have new : ObjOk X.prog X.w (upd H s.heap.objs.size (.tup [x, y])) h'' s.heap.objs.size (.tup [x, y]) :=
      ⟨by show 2 ≤ sizeLine; decide, [en.key, en.val], .cons r1 (.cons r2 .nil), ⟨_, hT2, rfl, _, rfl⟩⟩
    have I1 : Inv X pins σ (upd H s.heap.objs.size (.tup [x, y])) { s with heap := h'' } :=
      I.turnedNew (t' := s.toks) (ch := [it]) (fun b ob hb e => (sb.2 b (by simpa using hb)).trans (hk b ob (by simpa using hb) e)) hf (Nat.le_refl _) new
    refine ⟨.ref s.heap.objs.size, _, I1, rfl, ⟨_, rfl, I.hok.fresh (Nat.le_refl _), rfl⟩, ⟨_, _, he'⟩, fun b hb => ?_⟩
    · have e : b = it := by simpa using hb
      rw [e, upd_ne (Nat.ne_of_lt hlt)]
      exact (hf it (by simp)).1
  done := by
    intro X hP hw hK hc i pins s σ H E I hf st hg
    subst hP hw hK
    obtain ⟨hd, hi⟩ := hg
    obtain ⟨f0, f1, f2, f3, f4, f5⟩ := hf it (by simp)
    have hgd := go_at I hd
    obtain ⟨ok, ov, he⟩ := st
    subst hes
    exact wpAny_pyNext_items_end_raw (I.ok.hd hc) he ⟨o, hgd, hx, hod⟩ hi fun h' eb => ⟨rfl, I.turned (t' := s.toks) (fun b ob hb e => eb b ob hb e) f0 f1 f3 f4 f5⟩
  self := fun A i s Q E st h => let ⟨_, _, e⟩ := st; PySem.W.kcp_self e h
end
def iItemsG (td : TE) : TI := fun σ H R => td σ H fun x H1 => ∃ d o k v, x = .ref d ∧ H1 d = some (GO o) ∧ (d == sysModules) = false ∧ OneD o k v ∧ R (ItG d o k v) H1
section
variable {X : Cx} {tg e : Expr} {td : TE} {apos cpos : Pos}
theorem pi_itemsG {elts : List Expr} {kk : Nat} {tpos : Pos} (he : PE X e td) (hbase : attributeBase e "items" X.env (eval e X.env) = eval e X.env := by rfl) (hline : (apos.endLine == cpos.line) = true := by rfl) :
    PI X (.Tuple elts kk tpos) (.Call (.Attribute e "items" apos) [] [] cpos) (iItemsG td) := by
  refine ⟨fun pins s σ H R I h => ?_⟩
  refine wpAny_Call_method (T := "dict") (id := "dict.items") hbase rfl hline PySem.F.plainAttrs_dict PySem.F.slot_dict_items PySem.F.type_dict_items (thn (he.run pins s σ H _ I h) fun u s1 ⟨x, H1, I1, rx, d, o, k, v, ex, hd, hs, od, q⟩ => ?_)
  subst ex
  obtain rfl : u = Value.ref d := rx
  obtain ⟨hx, es, ep, en, hdt, hes, r1, r2⟩ := od
  have hgd := go_at I1 hd
  have raw : s1.heap.DictRaw d es ep := ⟨o, hgd, hx, hdt⟩
  refine ⟨raw.typeIs, fun b eb => by cases eb; exact ⟨o, hgd, hx.2.1⟩, ?_⟩
  have I2 : Inv X pins σ H1 { s1 with heap := s1.heap.push { cls := .type "dict_items", data := .fields #[.ref d] } } := I1.kept (t' := s1.toks) fun b ob q => Heap.get?_push_of_some _ q
  have fin : wpAny (model X.prog X.w) X.A (pyIter (.ref s1.heap.objs.size)) (PIE X pins σ (.Tuple elts kk tpos) R) X.xe { s1 with heap := s1.heap.push { cls := .type "dict_items", data := .fields #[.ref d] } } :=
    wpAny_pyIter_items_raw (d := d) ⟨_, Heap.get?_push_size _ rfl, rfl, rfl⟩ (raw.push _) (pi_one (tk := s1.toks) I2 _ (turn_itemsG _ hx hdt hes r1 r2) ⟨.none, .none, Heap.get?_push_size _ rfl⟩ q)
  show wpAny _ _ (callWith cpos (.builtin "dict.items") [.ref d] [] []) _ X.xe s1
  exact method_meetsIn PySem.F.slot_dict_items PySem.F.entry_dict_items rfl (PySem.evalArgs_none ⟨rfl, raw.typeIs, PySem.F.args_dict_items_1 _, _, meets_dict_items_raw d hs, ⟨es, ep, raw⟩, fin⟩)
end
end N

namespace N
open PySem PySem.Spec PyProof.Rows L2 StX LamX NdefX
theorem ext_stay {K : PySem.W.Frag} {H H' : Hp} (e : ExtN H H') : Stay K H H' where
  tup := fun a xs q => by
    rcases q with (q | ⟨o', q⟩) | q
    · exact .inl (.inl (e _ _ q (fun ps z => by cases z)))
    · exact .inl (.inr ⟨o', e _ _ q (fun ps z => by cases z)⟩)
    · exact .inr q
  ty := fun v t q => by
    cases q with
    | base b =>
      cases b with
      | non => exact .base .non
      | bl x => exact .base (.bl x)
      | int i => exact .base (.int i)
      | str x => exact .base (.str x)
      | flt x => exact .base (.flt x)
      | lst z => exact .base (.lst (e _ _ z (fun ps y => by cases y)))
      | frz z => exact .base (.frz (e _ _ z (fun ps y => by cases y)))
      | tup z => exact .base (.tup (e _ _ z (fun ps y => by cases y)))
      | dK z => exact .base (.dK (e _ _ z (fun ps y => by cases y)))
      | dT z => exact .base (.dT (e _ _ z (fun ps y => by cases y)))
      | ins z cl ha hn htk hm => exact .base (.ins (e _ _ z (fun ps y => by cases y)) cl ha hn htk hm)
    | byt b => exact .byt b
    | set z => exact .set (e _ _ z (fun ps y => by cases y))
    | kList z c => exact .kList z c
    | kTuple z c => exact .kTuple z c
    | kDict z c => exact .kDict z c
    | fTuple z => exact .fTuple (e _ _ z (fun ps y => by cases y))
    | fDict z => exact .fDict (e _ _ z (fun ps y => by cases y))
/-- all but the tables stays, and nothing that was tracked is gone -/
structure Gro (H H' : Hp) : Prop where
  e : ExtN H H'
  n : ∀ b, H' b = none → H b = none
theorem Gro.of {H H' : Hp} (s : Same H H') : Gro H H' := ⟨ExtN.of s, fun b z => s.free z⟩
theorem Gro.trans {H H1 H2 : Hp} (a : Gro H H1) (b : Gro H1 H2) : Gro H H2 := ⟨a.e.trans b.e, fun x z => a.n x (b.n x z)⟩
theorem Gro.refl (H : Hp) : Gro H H := ⟨ExtN.refl H, fun _ z => z⟩
theorem Gro.stay {K : PySem.W.Frag} {H H' : Hp} (g : Gro H H') : Stay K H H' := ext_stay g.e
theorem Gro.seq {K : PySem.W.Frag} {H H' : Hp} {a : Addr} {xs : List V} (g : Gro H H') (h : SqL K H a xs) : SqL K H' a xs := by
  rcases h with (h | ⟨o, h⟩) | h
  · exact .inl (.inl (g.e _ _ h (fun ps z => by cases z)))
  · exact .inl (.inr ⟨o, g.e _ _ h (fun ps z => by cases z)⟩)
  · exact .inr h
/-- .. and all but the table at P stays -/
structure GroP (P : Addr) (H H' : Hp) : Prop where
  g : Gro H H'
  x : ExtP P H H'
theorem GroP.of {P : Addr} {H H' : Hp} (s : Same H H') : GroP P H H' := ⟨Gro.of s, ExtP.of s⟩
theorem GroP.trans {P : Addr} {H H1 H2 : Hp} (a : GroP P H H1) (b : GroP P H1 H2) : GroP P H H2 := ⟨a.g.trans b.g, a.x.trans b.x⟩
theorem GroP.refl (P : Addr) (H : Hp) : GroP P H H := ⟨Gro.refl H, ExtP.refl P H⟩
end N

namespace N
open PySem PySem.Spec PyProof.Rows L2
/-! ### things by their look and their data -/
def Ob (K : PySem.W.Frag) (H : Hp) (p : Addr) (v : V) (e : Tg × PyData) : Prop := Th K H v e.1 ∧ Dq K H p v e.2
theorem Ob.same {K : PySem.W.Frag} {H H' : Hp} {p : Addr} {v : V} {e : Tg × PyData} (s : Same H H') (h : Ob K H p v e) : Ob K H' p v e := ⟨h.1.stay (stay_same s), dq_same s _ _ h.2⟩
def tOb (K : PySem.W.Frag) (p : Addr) (e : Tg × PyData) : TE := fun _ H Q => (∃ o, H p = some o) ∧ ∀ v H', Same H H' → Ob K H' p v e → Q v H'
def tObs (K : PySem.W.Frag) (p : Addr) (es : List (Tg × PyData)) : TA := fun _ H Q => (∃ o, H p = some o) ∧ ∀ vs H', Same H H' → Paired (Ob K H' p) vs es → Q vs H'
theorem th_all {K : PySem.W.Frag} {H : Hp} {p : Addr} : ∀ {vs : List V} {es : List (Tg × PyData)}, Paired (Ob K H p) vs es → ThAll K H vs (es.map Prod.fst)
  | _, _, .nil => .nil
  | _, _, .cons a b => .cons a.1 (th_all b)
theorem dq_all {K : PySem.W.Frag} {H : Hp} {p : Addr} : ∀ {vs : List V} {es : List (Tg × PyData)}, Paired (Ob K H p) vs es → DqAll K H p vs (es.map Prod.snd)
  | _, _, .nil => .nil
  | _, _, .cons a b => .cons a.2 (dq_all b)
theorem dt_strs {K : PySem.W.Frag} {H : Hp} : ∀ ls : List Str, DtAll K H (ls.map .str) (ls.map .str)
  | [] => .nil
  | c :: ls => .cons (.str c) (dt_strs ls)
section
variable {X : Cx} {p : Addr} {e : Tg × PyData} {es : List (Tg × PyData)} {x : Expr} {xs : List Expr} {pos : Pos}
theorem peImp {te te' : TE} (h : PE X x te) (q : ∀ σ H Q, te' σ H Q → te σ H Q) : PE X x te' := ⟨fun pins s σ H Q I z => h.run pins s σ H Q I (q _ _ _ z)⟩
theorem paImp' {t t' : TA} (h : PA X xs t) (q : ∀ σ H Q, t' σ H Q → t σ H Q) : PA X xs t' := ⟨fun pos pins s σ H Q I z => h.run pos pins s σ H Q I (q _ _ _ z)⟩
theorem ob_v {te : TE} {v : V} (h : PE X x te) (hq : ∀ σ H (Q : VK), Q v H → te σ H Q) (ob : ∀ H, Ob X.K H p v e) : PE X x (tOb X.K p e) := peImp h fun σ H Q z => hq σ H Q (z.2 v H (Same.refl H) (ob H))
theorem ob_str {s : Str} {j : Nat} (hs : s.length ≤ 100000 := by decide +kernel) : PE X (.Constant (.str s) j pos) (tOb X.K p (.str s, .str s)) := ob_v (v := .str s) pe_str (fun σ H Q z => z) fun H => ⟨.str s hs, .t (.str s)⟩
theorem ob_non {j : Nat} : PE X (.Constant .none j pos) (tOb X.K p (.oth, .none)) := ob_v (v := .non) pe_non (fun σ H Q z => z) fun H => ⟨.oth (.base .non) (kit_ty (by decide +kernel)) (kit_ty (by decide +kernel)), .t .non⟩
theorem ob_bl {b : Bool} {j : Nat} : PE X (.Constant (.bool b) j pos) (tOb X.K p (.oth, .bool b)) := ob_v (v := .bl b) pe_bl (fun σ H Q z => z) fun H => ⟨.oth (.base (.bl b)) (kit_ty (by decide +kernel)) (kit_ty (by decide +kernel)), .t (.bl b)⟩
theorem ob_i {te : TE} {i : Int} (h : PE X x te) (hq : ∀ σ H (Q : VK), Q (.int i) H → te σ H Q) : PE X x (tOb X.K p (.oth, .int i)) := ob_v h hq fun H => ⟨.oth (.base (.int i)) (kit_ty (by decide +kernel)) (kit_ty (by decide +kernel)), .t (.int i)⟩
theorem ob_nil : PA X [] (tObs X.K p []) := paImp' pa_nil fun σ H Q z => z.2 [] H (Same.refl H) .nil
theorem ob_cons (h : PE X x (tOb X.K p e)) (hr : PA X xs (tObs X.K p es)) (hst : starEach (x :: xs) X.env = (false, eval x X.env) :: starEach xs X.env := by rfl) : PA X (x :: xs) (tObs X.K p (e :: es)) :=
  paImp' (pa_cons h hr hst) fun σ H Q ⟨⟨o, ho⟩, z⟩ => ⟨⟨o, ho⟩, fun v H1 s1 ob => ⟨⟨o, s1 _ _ ho⟩, fun vs H2 s2 obs => z (v :: vs) H2 (s1.trans s2) (.cons (ob.same s2) obs)⟩⟩
theorem ob_tup {j : Nat} (h : PA X xs (tObs X.K p es)) (hl : es.length ≤ 1000 := by decide) : PE X (.Tuple xs j pos) (tOb X.K p (.tup (es.map Prod.fst), .tuple (es.map Prod.snd))) :=
  peImp (pe_tup h) fun σ H Q ⟨⟨o, ho⟩, z⟩ => ⟨⟨o, ho⟩, fun vs H1 s1 obs => ⟨by rw [Paired.length obs, sizeLine_eq]; omega, fun q hq => z (.ref q) _ (s1.trans (same_new hq _)) (by
    have obs' : Paired (Ob X.K (upd H1 q (.tup vs)) p) vs es := Paired.mapP obs fun _ _ y => y.same (same_new hq _)
    exact ⟨.tup (.inl (.inl upd_same)) (th_all obs'), .tup (.inl (.inl upd_same)) (dq_all obs')⟩)⟩⟩
/-- [e, ..], the list known not to be the table of modules -/
theorem pe_lstF {t : TA} (ha : PA X xs t) : PE X (.List xs pos) (fun σ H Q => t σ H fun vs H1 => vs.length ≤ sizeLine ∧ ∀ q, H1 q = none → (q == sysModules) = false → Q (.ref q) (upd H1 q (.lst vs))) := by
  refine ⟨fun pins s σ H Q I hq => ?_⟩
  refine wpAny_List_spliced (thn (ha.run pos pins s σ H _ I hq) fun us s1 ⟨vs, H1, J, r, z, q⟩ => ?_)
  have fr : H1 s1.heap.objs.size = none := J.hok.fresh (Nat.le_refl _)
  have big : (s1.heap.objs.size == sysModules) = false := beq_eq_false_iff_ne.mpr (Nat.ne_of_gt J.big)
  refine ⟨by rw [← r.length]; exact z, .ref s1.heap.objs.size, upd H1 s1.heap.objs.size (.lst vs), ?_, rfl, q _ fr big⟩
  exact J.laid (t' := s1.toks) (fun b u e => Heap.get?_push_of_some _ e) (Nat.le_refl _) ⟨z, us, 0, r, Heap.get?_push_size _ rfl⟩
theorem ob_lst (ls : List Str) (h : PA X xs (fun _ H Q => Q (ls.map .str) H)) (hl : ls.length ≤ 1000 := by decide) : PE X (.List xs pos) (tOb X.K p (.oth, .list (ls.map .str))) :=
  peImp (pe_lstF h) fun σ H Q ⟨⟨o, ho⟩, z⟩ => ⟨by rw [List.length_map, sizeLine_eq]; omega, fun q hq hs => z (.ref q) _ (same_new hq _)
    ⟨.oth (.base (.lst upd_same)) (kit_ty (by decide +kernel)) (kit_ty (by decide +kernel)), .lst upd_same hs (fun e => by rw [e, ho] at hq; cases hq) (dt_strs ls)⟩⟩
theorem ob_d0 : PE X (.Dict [] [] pos) (tOb X.K p (.oth, .dict [])) :=
  peImp pe_dnewK fun σ H Q z => fun q hq => z.2 (.ref q) _ (same_new hq _) ⟨.oth (.base (.dK upd_same)) (kit_ty (by decide +kernel)) (kit_ty (by decide +kernel)), .dct (m := []) upd_same .nil⟩
theorem ob_d1 {a b : Str} {j j1 j2 : Nat} {p1 p2 p3 : Pos} : PE X (.Dict [some (.Constant (.str a) j1 p1)] [.Tuple [.Constant (.str b) j2 p2] j p3] pos) (tOb X.K p (.oth, .dict [(.str a, .tuple [.str b])])) :=
  peImp (pe_disp (pps_cons pe_str (pe_tup (pa_cons pe_str pa_nil)) pps_nil) (by rfl) (by rfl) (fun z => by cases z) (by show 1 ≤ 15; decide)) fun σ H Q ⟨⟨o, ho⟩, z⟩ => fun q hq => by
    refine ⟨by show 1 ≤ sizeLine; decide, fun t ht => ?_⟩
    have nq : q ≠ t := fun e => by
      rw [← e, upd_same] at ht
      cases ht
    refine ⟨by rw [upd_ne nq]; exact upd_same, [(Sum.inr a, .ref t)], rfl, by show 1 ≤ 15; decide, ?_⟩
    have e1 : mergeK [] [((Sum.inr a : Key), V.ref t)] = [((Sum.inr a : Key), V.ref t)] := by rfl
    rw [e1]
    have sm := same_mut ((same_new hq (.dK [])).trans (same_new ht (.tup [.str b]))) hq (o := .dK [((Sum.inr a : Key), V.ref t)])
    refine z (.ref q) _ sm ⟨.oth (.base (.dK upd_same)) (kit_ty (by decide +kernel)) (kit_ty (by decide +kernel)), .dct (m := [(a, .tuple [.str b])]) upd_same (.cons ⟨rfl, .tup (.inl (.inl ?_)) (.cons (.str b) .nil)⟩ .nil)⟩
    rw [upd_ne (Ne.symm nq)]
    exact upd_same
end
/-! ### odd -/
def oT (ls : List Str) : Tg × PyData := (.tup (ls.map .str), .tuple (ls.map .str))
def oS (x : Str) : Tg × PyData := (.str x, .str x)
def oI (i : Int) : Tg × PyData := (.oth, .int i)
def od1 : List (Tg × PyData) := [(.oth, .none), (.oth, .bool true), (.oth, .bool false), oI 0, oI 1, oI (-1), oI (10 ^ 12), oS "", oS "X", oS "Y", oS "x", oS "one", oS "XY", oS "box(one)", oS "one()", oS " ", oS "\n"]
def od2 : List (Tg × PyData) := [oT [], oT ["one"], oT ["X"], (.oth, .list [.str "one"]), (.oth, .list []), (.oth, .dict []), (.oth, .dict [(.str "X", .tuple [.str "one"])]), oT ["one", "X"], oT ["box", "X"], (.tup [.str "box", .oth], .tuple [.str "box", .none])]
def od3 : List (Tg × PyData) := [(.tup [.str "box", .oth], .tuple [.str "box", .list [.str "one"]]), oT ["Box", "X"], oT ["", "X"], oT ["boxboxbox", "X"], (.tup [.str "box", .tup [.str "one"], .str "X"], .tuple [.str "box", .tuple [.str "one"], .str "X"]), (.tup [.tup [.str "one"]], .tuple [.tuple [.str "one"]])]
def od4 : List (Tg × PyData) := [oT ["box", "x"], oT ["box", "X", "X", "X"], (.tup [.str "box", .tup [.str "box", .tup [.str "box", .oth]]], .tuple [.str "box", .tuple [.str "box", .tuple [.str "box", .int 1]]]), (.tup [.oth, .str "X"], .tuple [.bool true, .str "X"]), oT ["b1"], oT ["b x"]]
def oddT : List (Tg × PyData) := od1 ++ od2 ++ od3 ++ od4
end N

namespace N
open PySem PySem.Spec PyProof.Rows L2 StX LamX NdefX
/-! ### what stays while a law runs: all but the pen and the tables -/
structure Tr (p : Addr) (H H' : Hp) : Prop where
  e : ∀ b o, b ≠ p → (∀ ps, o ≠ .tbl ps) → H b = some o → H' b = some o
  n : ∀ b, H' b = none → H b = none
  p : Pen H p → Pen H' p
theorem Tr.refl (p : Addr) (H : Hp) : Tr p H H := ⟨fun _ _ _ _ h => h, fun _ h => h, fun h => h⟩
theorem Tr.trans {p : Addr} {H H1 H2 : Hp} (a : Tr p H H1) (b : Tr p H1 H2) : Tr p H H2 := ⟨fun c o n t h => b.e c o n t (a.e c o n t h), fun c h => a.n c (b.n c h), fun h => b.p (a.p h)⟩
theorem Tr.same {p : Addr} {H H' : Hp} (s : Same H H') : Tr p H H' := ⟨fun b o _ _ h => s b o h, fun b h => s.free h, fun h => h.same s⟩
theorem Tr.bar {p : Addr} {H H' : Hp} (b : Bar p H H') (pn : Pen H p) (pn' : Pen H' p) : Tr p H H' := ⟨fun c o n _ h => b c o n h, fun c h => pen_free b pn h pn', fun _ => pn'⟩
theorem Tr.gro {p : Addr} {H H' : Hp} (g : Gro H H') : Tr p H H' := ⟨fun b o _ t h => g.e b o h t, g.n, fun h => by
  obtain ⟨i, j, k, e, r⟩ := h
  exact ⟨i, j, k, g.e _ _ e (fun ps z => by cases z), r⟩⟩
theorem Tr.stay {K : PySem.W.Frag} {p : Addr} {H H' : Hp} (t : Tr p H H') (h : Pen H p) : Stay K H H' := by
  obtain ⟨i', j', k', e', _⟩ := t.p h
  obtain ⟨i, j, k, e, _⟩ := h
  have k1 : ∀ b o, H b = some o → (∀ xs, o ≠ .lst xs) → (∀ ps, o ≠ .tbl ps) → H' b = some o := fun b o q n1 n2 => t.e b o (fun z => by rw [z, e] at q; exact n1 _ (Option.some.inj q).symm) n2 q
  refine ⟨fun a xs q => ?_, fun v ty q => ?_⟩
  · rcases q with (q | ⟨o', q⟩) | q
    · exact .inl (.inl (k1 _ _ q (fun _ z => by cases z) (fun _ z => by cases z)))
    · exact .inl (.inr ⟨o', k1 _ _ q (fun _ z => by cases z) (fun _ z => by cases z)⟩)
    · exact .inr q
  · cases q with
    | base b =>
      cases b with
      | non => exact .base .non
      | bl x => exact .base (.bl x)
      | int i => exact .base (.int i)
      | str x => exact .base (.str x)
      | flt x => exact .base (.flt x)
      | @lst a xs z =>
        by_cases ea : a = p
        · subst ea
          exact .base (.lst e')
        · exact .base (.lst (t.e _ _ ea (fun _ y => by cases y) z))
      | frz z => exact .base (.frz (k1 _ _ z (fun _ y => by cases y) (fun _ y => by cases y)))
      | tup z => exact .base (.tup (k1 _ _ z (fun _ y => by cases y) (fun _ y => by cases y)))
      | dK z => exact .base (.dK (k1 _ _ z (fun _ y => by cases y) (fun _ y => by cases y)))
      | dT z => exact .base (.dT (k1 _ _ z (fun _ y => by cases y) (fun _ y => by cases y)))
      | ins z cl ha hn htk hm => exact .base (.ins (k1 _ _ z (fun _ y => by cases y) (fun _ y => by cases y)) cl ha hn htk hm)
    | byt b => exact .byt b
    | set z => exact .set (k1 _ _ z (fun _ y => by cases y) (fun _ y => by cases y))
    | kList z c => exact .kList z c
    | kTuple z c => exact .kTuple z c
    | kDict z c => exact .kDict z c
    | fTuple z => exact .fTuple (k1 _ _ z (fun _ y => by cases y) (fun _ y => by cases y))
    | fDict z => exact .fDict (k1 _ _ z (fun _ y => by cases y) (fun _ y => by cases y))
theorem Tr.seq {K : PySem.W.Frag} {p a : Addr} {H H' : Hp} {xs : List V} (t : Tr p H H') (n : a ≠ p) (h : SqL K H a xs) : SqL K H' a xs := by
  rcases h with (h | ⟨o, h⟩) | h
  · exact .inl (.inl (t.e _ _ n (fun _ z => by cases z) h))
  · exact .inl (.inr ⟨o, t.e _ _ n (fun _ z => by cases z) h⟩)
  · exact .inr h
/-- what is no list and no table stays -/
theorem Tr.at {p a : Addr} {H H' : Hp} {o : HO} (t : Tr p H H') (pn : Pen H p) (h : H a = some o) (n1 : ∀ xs, o ≠ .lst xs) (n2 : ∀ ps, o ≠ .tbl ps) : H' a = some o := by
  obtain ⟨i, j, k, e, _⟩ := pn
  exact t.e a o (fun z => by rw [z, e] at h; exact n1 _ (Option.some.inj h).symm) n2 h
section
variable {K : PySem.W.Frag} {H H' : Hp} {p : Addr}
mutual
theorem dq_tr (t : Tr p H H') (hp : Pen H p) : ∀ (d : PyData) (v : V), Dq K H p v d → Dq K H' p v d
  | .none, _, h => by cases h with | t h => exact .t (dt_stay (t.stay hp) _ _ h)
  | .bool _, _, h => by cases h with | t h => exact .t (dt_stay (t.stay hp) _ _ h)
  | .int _, _, h => by cases h with | t h => exact .t (dt_stay (t.stay hp) _ _ h)
  | .str _, _, h => by cases h with | t h => exact .t (dt_stay (t.stay hp) _ _ h)
  | .list ds, _, h => by
    cases h with
    | t h => cases h
    | lst h1 h2 h4 h3 => exact .lst (t.e _ _ h4 (fun _ z => by cases z) h1) h2 h4 (dts_stay (t.stay hp) ds _ h3)
  | .dict mm, _, h => by
    cases h with
    | t h => cases h
    | dct h1 h2 => exact .dct (t.at hp h1 (fun _ z => by cases z) (fun _ z => by cases z)) (kvt_stay (t.stay hp) h2)
  | .tuple ds, _, h => by
    cases h with
    | t h => exact .t (dt_stay (t.stay hp) _ _ h)
    | tup hs ha => exact .tup ((t.stay hp).tup _ _ hs) (dqs_tr t hp ds _ ha)
theorem dqs_tr (t : Tr p H H') (hp : Pen H p) : ∀ (ds : List PyData) (vs : List V), DqAll K H p vs ds → DqAll K H' p vs ds
  | [], _, h => by cases h; exact .nil
  | d :: ds, _, h => by
    cases h with
    | cons a c => exact .cons (dq_tr t hp d _ a) (dqs_tr t hp ds _ c)
end
theorem Ob.tr {v : V} {e : Tg × PyData} (t : Tr p H H') (hp : Pen H p) (h : Ob K H p v e) : Ob K H' p v e := ⟨h.1.stay (t.stay hp), dq_tr t hp _ _ h.2⟩
end
/-! ### data with dicts of other keys -/
def keyD : Key → PyData
  | .inl i => .int i
  | .inr x => .str x
def KvQ (K : PySem.W.Frag) (H : Hp) (p : Addr) : List (Key × V) → List (PyData × PyData) → Prop := Paired fun q e => e.1 = keyD q.1 ∧ Dq K H p q.2 e.2
inductive Dh (K : PySem.W.Frag) (H : Hp) (p : Addr) : V → PyData → Prop
  | q {v : V} {d : PyData} : Dq K H p v d → Dh K H p v d
  | dk {a : Addr} {kvs : List (Key × V)} {m : List (PyData × PyData)} : H a = some (.dK kvs) → KvQ K H p kvs m → Dh K H p (.ref a) (.dict m)
  | g {a : Addr} {o : Obj} {x y : V} {dx dy : PyData} : H a = some (GO o) → (a == sysModules) = false → OneD o x y → Dt K H x dx → Dt K H y dy → Dh K H p (.ref a) (.dict [(dx, dy)])
theorem Dh.same {K : PySem.W.Frag} {H H' : Hp} {p : Addr} {v : V} {d : PyData} (s : Same H H') (h : Dh K H p v d) : Dh K H' p v d := by
  cases h with
  | q h => exact .q (dq_same s _ _ h)
  | dk h1 h2 => exact .dk (s _ _ h1) (Paired.mapP h2 fun _ _ z => ⟨z.1, dq_same s _ _ z.2⟩)
  | g h1 h2 h3 h4 h5 => exact .g (s _ _ h1) h2 h3 (dt_stay (stay_same s) _ _ h4) (dt_stay (stay_same s) _ _ h5)
theorem Dh.tr {K : PySem.W.Frag} {H H' : Hp} {p : Addr} {v : V} {d : PyData} (t : Tr p H H') (hp : Pen H p) (h : Dh K H p v d) : Dh K H' p v d := by
  cases h with
  | q h => exact .q (dq_tr t hp _ _ h)
  | dk h1 h2 => exact .dk (t.at hp h1 (fun _ z => by cases z) (fun _ z => by cases z)) (Paired.mapP h2 fun _ _ z => ⟨z.1, dq_tr t hp _ _ z.2⟩)
  | g h1 h2 h3 h4 h5 => exact .g (t.at hp h1 (fun _ z => by unfold GO at z; cases z) (fun _ z => by unfold GO at z; cases z)) h2 h3 (dt_stay (t.stay hp) _ _ h4) (dt_stay (t.stay hp) _ _ h5)
section
variable {X : Cx} {pins : List (Addr × Obj)} {σ : L2.St} {H : Hp} {s : Shared} {p : Addr}
theorem kvq_keys {P : Program} {w : World} {h : Heap} {es : List DictEntry} {vs : List (Key × Value)} (hp : Pairs (mixKind P w) es vs) : ∀ {kvs : List (Key × V)} {m : List (PyData × PyData)}, KV kvs vs → KvQ X.K H p kvs m → ReadsAll h (es.map (·.key)) (m.map Prod.fst) [] := by
  induction hp with
  | nil =>
    intro kvs m k r
    cases k
    cases r
    exact .nil
  | @cons e kv es vs h1 h2 h3 ih =>
    intro kvs m k r
    cases k with
    | cons k1 k2 =>
      cases r with
      | @cons _ q _ m' r1 r2 =>
        have ih' := ih k2 r2
        rw [← k1.1] at h1
        show ReadsAll h (e.key :: es.map (·.key)) (q.1 :: m'.map Prod.fst) ([] ++ [])
        rw [r1.1]
        rcases keyIs_shape (show keyIs _ e.key = true from h1) with ⟨i, t, z, ek⟩ | ⟨x, t, z, ek⟩
        · rw [z, ek]; exact .cons (.int i t) ih'
        · rw [z, ek]; exact .cons (.str x t) ih'
theorem kvq_vals (I : Inv X pins σ H s) {P : Program} {w : World} {es : List DictEntry} {vs : List (Key × Value)} (hp : Pairs (mixKind P w) es vs) : ∀ {kvs : List (Key × V)} {m : List (PyData × PyData)}, KV kvs vs → KvQ X.K H p kvs m → ∃ as, ReadsAll s.heap (es.map (·.val)) (m.map Prod.snd) as ∧ sysModules ∉ as := by
  induction hp with
  | nil =>
    intro kvs m k r
    cases k
    cases r
    exact ⟨_, .nil, by simp⟩
  | @cons e kv es vs h1 h2 h3 ih =>
    intro kvs m k r
    cases k with
    | cons k1 k2 =>
      cases r with
      | @cons _ q _ m' r1 r2 =>
        obtain ⟨bs, q3, q4⟩ := ih k2 r2
        obtain ⟨as, q1, q2⟩ := dq_reads I q.2 _ _ r1.2 k1.2
        refine ⟨as ++ bs, ?_, fun hm => (List.mem_append.mp hm).elim q2 q4⟩
        show ReadsAll s.heap (e.val :: es.map (·.val)) (q.2 :: m'.map Prod.snd) (as ++ bs)
        rw [h2]
        exact .cons q1 q3
theorem dh_reads (I : Inv X pins σ H s) {d : PyData} {v : V} {u : Value} (h : Dh X.K H p v d) (r : RelV v u) : ∃ as, Reads s.heap u d as ∧ sysModules ∉ as := by
  cases h with
  | q h => exact dq_reads I d v u h r
  | @dk a kvs m h1 h2 =>
    cases r
    obtain ⟨_, hsm, vs, hkv, o, es, ep, ho, hx, hd, _, hpr, _⟩ := dk_of I.hok h1
    obtain ⟨as, q1, q2⟩ := kvq_vals I hpr hkv h2
    refine ⟨_, Reads.dict ho hx.1 hd (kvq_keys (X := X) (H := H) hpr hkv h2) q1, fun hm => ?_⟩
    rcases List.mem_append.mp hm with hm | hm
    · rw [← List.mem_singleton.mp hm] at hsm
      exact absurd hsm (by simp)
    · exact q2 hm
  | @g a o x y dx dy h1 hsm h2 h3 h4 =>
    cases r
    obtain ⟨hx, es, ep, en, hd, he, r1, r2⟩ := h2
    subst he
    have ho := go_at I h1
    refine ⟨_, Reads.dict ho hx.1 hd (show ReadsAll s.heap [en.key] [dx] ([] ++ []) from .cons (dt_reads I dx x _ h3 r1) .nil) (show ReadsAll s.heap [en.val] [dy] ([] ++ []) from .cons (dt_reads I dy y _ h4 r2) .nil), fun hm => ?_⟩
    rcases List.mem_append.mp hm with hm | hm
    · rw [← List.mem_singleton.mp hm] at hsm
      exact absurd hsm (by simp)
    · simp at hm
end
section
variable {X : Cx}
/-- bounds that repr wants -/
structure Fit (d : PyData) : Prop where
  sh : d.showable = true
  dp : d.depth ≤ 60
  ln : d.shown.length ≤ sizeLine
  it : ∀ i, d = .int i → i.natAbs.log2 < 1920
/-- repr(v), v such data -/
def rReprH (K : PySem.W.Frag) : List V → Hp → VK → Prop := fun xs H Q => ∃ (v : V) (d : PyData) (p : Addr), xs = [v] ∧ Dh K H p v d ∧ Fit d ∧ Q (.str d.shown) H
theorem call_reprH {j : Nat} (hr : RoomG j X.A) : CallR X (.builtin "repr") (rReprH X.K) := by
  intro pins s σ H xs us Q I r h
  obtain ⟨v, d, p, rfl, hd, hf, q⟩ := h
  have hun := hr.toRoom.units
  have hdp := hf.dp
  have main : ∀ (a : Addr) (u : Value), v = .ref a → RelV v u → wpAny (model X.prog X.w) X.A (call (.builtin "repr") [u]) (EP X pins σ Q) X.xe s := fun a u ea ru => by
    obtain ⟨as, rd, hm⟩ := dh_reads I hd ru
    subst ea
    cases (show u = Value.ref a from ru)
    exact repr_of_reads' rd hf.sh (fun _ => hm) hr.gs (by omega) (fun b o e => e) (fun h' u tk hk => ⟨.str d.shown, H, I.kept (t' := tk) hk, ⟨_, rfl⟩, q⟩) hf.ln
  cases hd with
  | q hq => exact call_reprQ hr pins s σ H [v] us Q I r ⟨v, d, p, rfl, hq, hf.sh, hf.dp, hf.ln, hf.it, q⟩
  | dk h1 h2 =>
    obtain ⟨u, rfl, ru⟩ := vals1 r
    exact main _ u rfl ru
  | g h1 h2 h3 h4 h5 =>
    obtain ⟨u, rfl, ru⟩ := vals1 r
    exact main _ u rfl ru
/-- repr([x, y]) of two such -/
def rRepr2 (K : PySem.W.Frag) : List V → Hp → VK → Prop := fun xs H Q => ∃ (a : Addr) (v u : V) (d e : PyData) (p : Addr), xs = [.ref a] ∧ H a = some (.lst [v, u]) ∧ (a == sysModules) = false ∧ Dh K H p v d ∧ Dh K H p u e ∧ Fit (.list [d, e]) ∧ Q (.str (PyData.list [d, e]).shown) H
theorem call_repr2 {j : Nat} (hr : RoomG j X.A) : CallR X (.builtin "repr") (rRepr2 X.K) := by
  intro pins s σ H xs us Q I r h
  obtain ⟨a, v, u, d, e, p, rfl, ha, hsm, hd, he, hf, q⟩ := h
  have hun := hr.toRoom.units
  have hdp := hf.dp
  obtain ⟨w, rfl, rw'⟩ := vals1 r
  cases (show w = Value.ref a from rw')
  obtain ⟨z, its, n, rv, ho⟩ := I.hok _ _ ha
  cases rv with
  | cons r1 rr =>
    cases rr with
    | cons r2 rr =>
      cases rr
      obtain ⟨as, q1, q2⟩ := dh_reads I hd r1
      obtain ⟨bs, q3, q4⟩ := dh_reads I he r2
      have rd := Reads.list ho rfl rfl (ReadsAll.cons q1 (ReadsAll.cons q3 .nil))
      refine repr_of_reads' rd hf.sh (fun _ hm => ?_) hr.gs (by omega) (fun b o e => e) (fun h' u tk hk => ⟨.str _, H, I.kept (t' := tk) hk, ⟨_, rfl⟩, q⟩) hf.ln
      rcases List.mem_cons.mp hm with hm | hm
      · rw [← hm] at hsm
        exact absurd hsm (by simp)
      · rcases List.mem_append.mp hm with hm | hm
        · exact q2 hm
        · rcases List.mem_append.mp hm with hm | hm
          · exact q4 hm
          · cases hm
end
end N

namespace N
open PySem PySem.Spec PyProof.Rows L2 StX LamX NdefX
/-! ### fill -/
abbrev Map := List (Str × Kd)
def look (m : Map) (c : Str) : Kd := match m.find? (fun p => decide (p.1 = c)) with
  | some p => p.2
  | none => .L c
def fillK (m : Map) : Kd → Kd
  | .L c => look m c
  | .C0 n => .C0 n
  | .C1 n a => .C1 n (fillK m a)
  | .C2 n a b => .C2 n (fillK m a) (fillK m b)
def mkN (n : Str) : List Kd → Kd
  | [] => .C0 n
  | [a] => .C1 n a
  | a :: b :: _ => .C2 n a b
def stepF (m : Map) (S : List Kd) (p : Kd) : Option (List Kd) :=
  match p with
  | .L c => some (S ++ [look m c])
  | p => if p.args.length ≤ S.length then some (S.take (S.length - p.args.length) ++ [mkN p.nm (S.drop (S.length - p.args.length)).reverse]) else none
theorem stepF_C {m : Map} {S : List Kd} {p : Kd} (h : p.isC = true) : stepF m S p = if p.args.length ≤ S.length then some (S.take (S.length - p.args.length) ++ [mkN p.nm (S.drop (S.length - p.args.length)).reverse]) else none := by
  cases p <;> first | rfl | cases h
theorem run_fill (m : Map) (k : Kd) : ∀ S : List Kd, k.parts.reverse.foldlM (stepF m) S = some (S ++ [fillK m k]) := by
  induction k with
  | L c => intro S; rfl
  | C0 n =>
    intro S
    show (stepF m S (.C0 n)).bind some = _
    simp [stepF, Kd.args, mkN, fillK, Kd.nm]
  | C1 n a ih =>
    intro S
    show (Kd.C1 n a :: a.parts).reverse.foldlM (stepF m) S = _
    rw [List.reverse_cons, List.foldlM_append, ih S]
    simp [stepF, Kd.args, mkN, fillK, Kd.nm, List.foldlM]
  | C2 n a b ih1 ih2 =>
    intro S
    show (Kd.C2 n a b :: (a.parts ++ b.parts)).reverse.foldlM (stepF m) S = _
    rw [List.reverse_cons, List.reverse_append, List.foldlM_append, List.foldlM_append, ih2 S]
    show ((Option.bind (some (S ++ [fillK m b])) fun S' => a.parts.reverse.foldlM (stepF m) S').bind fun s' => [Kd.C2 n a b].foldlM (stepF m) s') = _
    show (a.parts.reverse.foldlM (stepF m) (S ++ [fillK m b])).bind _ = _
    rw [ih1 (S ++ [fillK m b])]
    simp [stepF, Kd.args, mkN, fillK, Kd.nm, List.foldlM]
theorem foldlM_take {α β : Type} {f : β → α → Option β} {l : List α} {b r : β} (h : l.foldlM f b = some r) (i : Nat) (x : α) (hx : l[i]? = some x) : ∃ s s', (l.take i).foldlM f b = some s ∧ f s x = some s' ∧ (l.take (i + 1)).foldlM f b = some s' := by
  have e : l = l.take (i + 1) ++ l.drop (i + 1) := (List.take_append_drop _ _).symm
  have e2 : l.take (i + 1) = l.take i ++ [x] := take_snoc hx
  rw [e, List.foldlM_append] at h
  cases q : (l.take (i + 1)).foldlM f b with
  | none => rw [q] at h; cases h
  | some s' =>
    rw [e2, List.foldlM_append] at q
    cases q2 : (l.take i).foldlM f b with
    | none => rw [q2] at q; cases q
    | some s =>
      rw [q2] at q
      refine ⟨s, s', rfl, ?_, rfl⟩
      have : (f s x).bind some = some s' := q
      cases q3 : f s x with
      | none => rw [q3] at this; cases this
      | some z => rw [q3] at this; exact this
section
variable {P : Program} {w : World} {K : PySem.W.Frag} {mg : Str → Option Value} {base : Heap}
def Held (K : PySem.W.Frag) (H : Hp) (d : Addr) (m : Map) : Prop := ∃ kvs, H d = some (.dK kvs) ∧ Paired (fun (p : Key × V) (q : Str × Kd) => p.1 = Sum.inr q.1 ∧ Kp K H p.2 q.2) kvs m
theorem Held.stay {H H' : Hp} {d : Addr} {m : Map} (sm : Same H H') (h : Held K H d m) : Held K H' d m := by
  obtain ⟨kvs, e, r⟩ := h
  exact ⟨kvs, sm _ _ e, Paired.mapP r fun p q z => ⟨z.1, z.2.stay (stay_same sm)⟩⟩
theorem held_look {H : Hp} : ∀ {kvs : List (Key × V)} {m : Map} {c : Str}, Paired (fun (p : Key × V) (q : Str × Kd) => p.1 = Sum.inr q.1 ∧ Kp K H p.2 q.2) kvs m → c.length ≤ 100000 → Kp K H ((valV kvs (Sum.inr c)).getD (.str c)) (look m c)
  | _, _, c, .nil, hc => by
    show Th K H (.str c) (.str c)
    exact .str c hc
  | _, _, c, .cons (a := p) (b := q) (l₁ := kvs) (l₂ := m) r t, hc => by
    have ih := held_look t hc
    by_cases e : q.1 = c
    · have e2 : p.1 = Sum.inr c := by rw [r.1, e]
      rw [valV_pos e2]
      have e3 : look (q :: m) c = q.2 := by
        unfold look
        rw [List.find?_cons_of_pos (by simpa using e)]
      rw [e3]
      exact r.2
    · have e2 : ¬ p.1 = Sum.inr c := fun z => e (Sum.inr.inj (r.1.symm.trans z))
      rw [valV_neg e2]
      have e3 : look (q :: m) c = look m c := by
        unfold look
        rw [List.find?_cons_of_neg (by simpa using e)]
      rw [e3]
      exact ih
theorem mkN_nm (n : Str) : ∀ ks : List Kd, (mkN n ks).nm = n ∧ (mkN n ks).isC = true
  | [] => ⟨rfl, rfl⟩
  | [_] => ⟨rfl, rfl⟩
  | _ :: _ :: _ => ⟨rfl, rfl⟩
theorem mkN_args (n : Str) : ∀ ks : List Kd, ks.length ≤ 2 → (mkN n ks).args = ks
  | [], _ => rfl
  | [_], _ => rfl
  | [_, _], _ => rfl
  | _ :: _ :: _ :: _, h => by simp at h
theorem step_len {m : Map} {S S' : List Kd} {p : Kd} (h : stepF m S p = some S') : S'.length ≤ S.length + 1 := by
  cases hc : p.isC with
  | false =>
    obtain ⟨e, _⟩ := Kd.tg_L hc
    rw [e] at h
    have e2 : S ++ [look m p.nm] = S' := Option.some.inj h
    rw [← e2, List.length_append, List.length_singleton]
    omega
  | true =>
    rw [stepF_C hc] at h
    split at h
    · have e2 := Option.some.inj h
      rw [← e2, List.length_append, List.length_singleton, List.length_take]
      omega
    · cases h
theorem pop_take {α : Type} {l : List α} {j : Nat} (h : j < l.length) : (l.take (l.length - j))[(l.take (l.length - j)).length - 1]? = some l[l.length - j - 1] ∧ (l.take (l.length - j)).dropLast = l.take (l.length - (j + 1)) ∧
    (l.drop (l.length - j)).reverse ++ [l[l.length - j - 1]] = (l.drop (l.length - (j + 1))).reverse := by
  have e0 : (l.take (l.length - j)).length = l.length - j := by rw [List.length_take]; omega
  refine ⟨?_, ?_, ?_⟩
  · rw [e0, List.getElem?_take, if_pos (by omega), List.getElem?_eq_getElem (by omega)]
  · rw [List.dropLast_eq_take, e0, List.take_take]
    congr 1
    omega
  · have e1 : l.drop (l.length - (j + 1)) = l[l.length - j - 1] :: l.drop (l.length - j) := by
      have h1 : l.length - (j + 1) = l.length - j - 1 := by omega
      have h3 := List.drop_eq_getElem_cons (l := l) (i := l.length - j - 1) (by omega)
      rw [show l.length - j - 1 + 1 = l.length - j by omega] at h3
      rw [h1]
      exact h3
    rw [e1, List.reverse_cons]
theorem Kps.take {H : Hp} : ∀ {vs : List V} {ks : List Kd} (n : Nat), Kps K H vs ks → Kps K H (vs.take n) (ks.take n)
  | _, _, 0, _ => .nil
  | _, [], n + 1, .nil => .nil
  | _, k :: ks, n + 1, .cons r t => .cons r (Kps.take (ks := ks) n t)
theorem Kps.drop {H : Hp} : ∀ {vs : List V} {ks : List Kd} (n : Nat), Kps K H vs ks → Kps K H (vs.drop n) (ks.drop n)
  | _, _, 0, h => h
  | _, [], n + 1, .nil => .nil
  | _, k :: ks, n + 1, .cons r t => Kps.drop (ks := ks) n t
/-! ### folded, over a letter's value and a class's making -/
/-- what the first lambda does, d holding the map m -/
def lamLet (K : PySem.W.Frag) (d : Addr) (m : Map) : List V → Hp → VK → Prop := fun vs H Q => ∃ c : Str, vs = [.str c] ∧ c.length ≤ 100000 ∧ Held K H d m ∧ ∀ u, Kp K H u (look m c) → Q u H
/-- what the second one does -/
def lamCls (K : PySem.W.Frag) : List V → Hp → VK → Prop := fun vs H Q => ∃ (n : Str) (D : Addr) (xs : List V), vs = [.str n, .ref D] ∧ SqL K H D xs ∧ xs.length ≤ 1000 ∧ ∀ t, H t = none → Q (.ref t) (upd H t (.tup (.str n :: xs)))
structure FoldRR (P : Program) (w : World) (K : PySem.W.Frag) (mg : Str → Option Value) (base : Heap) (h : Heap) (v : V) (f1 f2 d : Addr) (k : Kd) (m : Map) (H : Hp) : Prop where
  a1 : ActL P w K mg base f1 h H (lamLet K d m)
  a2 : ActL P w K mg base f2 h H (lamCls K)
  kp : Kp K H v k
  nd : k.nds ≤ 100000
  hd : Held K H d m
theorem folded_body (G : Glo mg) (CP : Cal P w K mg base 1 "parts" ["kind"] (spParts K)) {g : Addr} {cdv : Value} {A : Around} {outer : List Env} {s : Shared} {H : Hp} {Q : VK} (hr : RoomG 1 (A.deeper (envOfC "folded" (defScope s_folded) s.heap.objs.size g cdv)))
    {v : V} {f1 f2 d : Addr} {k : Kd} {m : Map} (R : FoldRR P w K mg base s.heap v f1 f2 d k m H) (q : ∀ H' u, Same H H' → Kp K H' u (fillK m k) → Q u H') :
    ∃ t, PSs (cxOf (L2.CX P w) P w K mg base nm_folded "folded" (defScope s_folded) g cdv A outer s H E0) (defBody s_folded) t ∧ t { nx := fun _ H' => Q .non H', rt := Q } (L2.start nm_folded [v, .ref f1, .ref f2]) H := by
  obtain ⟨a1, a2, hT, hn, hd⟩ := R
  refine ⟨_, pss_cons (ps_set (i := 3) sc_folded.nd rfl (Or.inr rfl) (pe_lst pa_nil))
    (pss_cons (ps_for (passes_of rfl) rfl (pi_list (pe_revL (pc CP hr rfl (pa_cons (pv 0) pa_nil)))) (pg_name (i := 4) sc_folded.nd rfl (Or.inl rfl))
      (pss_one (ps_if (pt_val (pe_isi G.isinstance G.str b_str rfl rfl (pv 4)))
        (pss_one (ps_expr (pe_bm PySem.F.plainAttrs_list PySem.F.slot_list_append PySem.F.type_list_append mt_append (pv 3) (pa_cons (pe_actS (i := 1) a1 hr rfl rfl (.inl rfl) (pa_cons (pv 4) pa_nil)) pa_nil))))
        (pss_cons (ps_setLc (i := 5) (own := [("_", 6)]) (te := tBM0 K "list" rPop (tVar 3)) (by rfl) sc_folded.nd rfl rfl (sw_true rfl rfl rfl (by decide +kernel)) (pi_tup (pe_slice sl_tup (pv 4) (po_some pe_int) po_none)) (blkOk_by (N := nm_folded) (sc := defScope s_folded) (own := [("_", 6)]) (by decide +kernel))
            (fun _ _ _ _ _ => pg_name (i := 6) sc_folded.nd rfl (Or.inl rfl)) (fun _ _ _ _ _ => pts_nil) (fun _ _ _ _ _ => pe_bm0 PySem.F.plainAttrs_list PySem.F.slot_list_pop PySem.F.type_list_pop mt_pop (pv 3)))
          (pss_one (ps_expr (pe_bm PySem.F.plainAttrs_list PySem.F.slot_list_append PySem.F.type_list_append mt_append (pv 3) (pa_cons (pe_actS (i := 2) a2 hr rfl rfl (.inl rfl) (pa_cons (pe_ix ix_tup (pv 4) pe_int (fun _ _ => rfl)) (pa_cons (pv 5) pa_nil))) pa_nil))))))))
    (pss_one (ps_ret (pe_bm0 PySem.F.plainAttrs_list PySem.F.slot_list_pop PySem.F.type_list_pop mt_pop (pv 3))))), ?_⟩
  refine ⟨by show 0 ≤ sizeLine; decide, fun dn hdn => ?_⟩
  have s0 : Same H (upd H dn (.lst [])) := same_new hdn _
  refine ⟨v, rfl, v, k, rfl, hT.stay (stay_same s0), hn, fun p H1 xs sm1 hp hx hk => ?_⟩
  refine ⟨p, xs, rfl, SqL.of hx, fun p2 hp2 => ?_⟩
  have sm2 : Same H (upd H1 p2 (.lst xs.reverse)) := s0.trans (sm1.trans (same_new hp2 _))
  have hdn1 : (upd H1 p2 (.lst xs.reverse)) dn = some (.lst []) := (sm1.trans (same_new hp2 _)) _ _ upd_same
  have nd2 : dn ≠ p2 := ne_of_none (sm1 _ _ upd_same) hp2
  have hk2 : Kps K (upd H1 p2 (.lst xs.reverse)) xs.reverse k.parts.reverse := Kps.rev (ThAll.stay (stay_new hp2 _) hk)
  have htot := run_fill m k []
  refine ⟨p2, rfl, ⟨xs.reverse, SqL.of upd_same⟩, for_list (K := K) (a := p2) (xs := xs.reverse) (fun i σ H' => ∃ ss S y3 y4 y5, σ = [some v, some (.ref f1), some (.ref f2), some (.ref dn), y3, y4, y5] ∧ Same H H' ∧ Stay K (upd H1 p2 (.lst xs.reverse)) H' ∧ H' p2 = some (.lst xs.reverse) ∧ H' dn = some (.lst ss) ∧ Kps K H' ss S ∧ (k.parts.reverse.take i).foldlM (stepF m) [] = some S ∧ S.length ≤ i)
    ⟨[], [], _, _, _, rfl, sm2, Stay.refl _, upd_same, hdn1, .nil, rfl, Nat.le_refl _⟩ (fun i σ H' _ ⟨ss, S, y3, y4, y5, _, _, _, h, _⟩ => SqL.of h) (fun i x σ H' hxi ⟨ss, S, y3, y4, y5, eσ, sm, st, hp2', hdn', hS, hrun, hlen⟩ => ?_) (fun σ H' ⟨ss, S, y3, y4, y5, eσ, sm, st, hp2', hdn', hS, hrun, hlen⟩ => ?_)⟩
  · subst eσ
    obtain ⟨k', hk1, hk3⟩ := Kps.at hk2 hxi
    have hx3 := hk3.stay st
    obtain ⟨S0, S', e1, e2, e3⟩ := foldlM_take htot i k' hk1
    rw [hrun] at e1
    cases e1
    have hsl := step_len e2
    have hlS := Kps.length hS
    have hil : i < k.parts.reverse.length := (List.getElem?_eq_some_iff.mp hk1).1
    rw [List.length_reverse, Kd.nds_parts] at hil
    refine ⟨x, rfl, isi_str hx3 ⟨_, rfl, ?_⟩⟩
    rw [Kd.isS_tg]
    cases hc : k'.isC with
    | false =>
      obtain ⟨ex, hcl⟩ := kp_L hx3 hc
      subst ex
      have eS : S' = S ++ [look m k'.nm] := by
        obtain ⟨e4, _⟩ := Kd.tg_L hc
        rw [e4] at e2
        exact (Option.some.inj e2).symm
      refine iteT ⟨_, rfl, .inl ⟨rfl, _, SqL.of hdn'⟩, rfl, sm, _, rfl, sm, k'.nm, rfl, hcl, hd.stay sm, fun u hlk => ?_⟩
      refine ⟨dn, ss, _, rfl, rfl, hdn', Nat.lt_of_le_of_lt (show ss.length ≤ 100000 by omega) (by decide), ?_⟩
      refine ⟨_, S', _, _, _, rfl, same_mut sm hdn, st.trans (stay_lst hdn'), by rw [upd_ne nd2.symm]; exact hp2', upd_same, ?_, e3, by omega⟩
      rw [eS]
      exact Kps.app (ThAll.stay (stay_lst hdn') hS) (.cons (hlk.stay (stay_lst hdn')) .nil)
    | true =>
      rw [stepF_C hc] at e2
      split at e2
      case isFalse => cases e2
      rename_i hle
      have eS := (Option.some.inj e2).symm
      obtain ⟨a, zs, ea, hq, hnl, hz⟩ := kp_C hx3 hc
      subst ea
      have hzl := Kps.length hz
      have hal := Kd.args_len k'
      refine iteF ⟨_, rfl, 1, rfl, a, _, rfl, hq, cut_tail_ne _ (by simp), fun pz hpz => ?_⟩
      rw [cut_tail]
      show ∃ _ : Addr, _
      have ndz : dn ≠ pz := ne_of_none hdn' hpz
      have npz : p2 ≠ pz := ne_of_none hp2' hpz
      refine ⟨pz, rfl, ⟨zs, .inl (.inl upd_same)⟩, fun Dl hDl => ?_⟩
      have nzD : pz ≠ Dl := ne_of_none upd_same hDl
      have ndD : dn ≠ Dl := ne_of_none (show (upd H' pz (.tup zs)) dn = some (.lst ss) by rw [upd_ne ndz]; exact hdn') hDl
      have npD : p2 ≠ Dl := ne_of_none (show (upd H' pz (.tup zs)) p2 = some (.lst xs.reverse) by rw [upd_ne npz]; exact hp2') hDl
      refine lc_tup (K := K) (a := pz) (xs := zs) (fun j H2 => Same H H2 ∧ Stay K H' H2 ∧ H2 p2 = some (.lst xs.reverse) ∧ H2 pz = some (.tup zs) ∧ H2 dn = some (.lst (ss.take (ss.length - j))) ∧ H2 Dl = some (.lst (ss.drop (ss.length - j)).reverse))
        ⟨sm.trans ((same_new hpz _).trans (same_new hDl _)), (stay_new hpz _).trans (stay_new hDl _), by rw [upd_ne npD, upd_ne npz]; exact hp2', by rw [upd_ne nzD]; exact upd_same, by rw [upd_ne ndD, upd_ne ndz, Nat.sub_zero, List.take_length]; exact hdn', by rw [Nat.sub_zero, List.drop_length]; exact upd_same⟩
        (fun j H2 _ ⟨_, _, _, h, _⟩ => .inl (.inl h)) (fun j y H2 hy ⟨g1, g2, g3, g4, g5, g6⟩ => ?_) (fun H2 ⟨g1, g2, g3, g4, g5, g6⟩ => ?_)
      · have hj : j < zs.length := (List.getElem?_eq_some_iff.mp hy).1
        have hjs : j < ss.length := by omega
        obtain ⟨t1, t2, t3⟩ := pop_take hjs
        refine ⟨rfl, _, rfl, .inl ⟨rfl, _, SqL.of g5⟩, dn, _, _, rfl, rfl, g5, t1, ?_⟩
        rw [t2]
        have g6' : (upd H2 dn (.lst (ss.take (ss.length - (j + 1))))) Dl = some (.lst (ss.drop (ss.length - j)).reverse) := by rw [upd_ne ndD.symm]; exact g6
        refine ⟨_, g6', ?_, same_mut (same_mut g1 hdn) ?_, g2.trans ((stay_lst g5).trans (stay_lst g6')), ?_, ?_, ?_, ?_⟩
        · rw [List.length_reverse, List.length_drop]
          exact Nat.lt_of_le_of_lt (show _ ≤ 100000 by omega) (by decide)
        · exact sm.free (by have := hDl; rw [upd_ne nzD.symm] at this; exact this)
        · rw [upd_ne npD, upd_ne nd2.symm]; exact g3
        · rw [upd_ne nzD, upd_ne ndz.symm]; exact g4
        · rw [upd_ne ndD]; exact upd_same
        · rw [t3]; exact upd_same
      · have hzr : zs.length = k'.args.length := hzl
        rw [hzr] at g5 g6
        have hhead := g2.tup _ _ hq
        refine ⟨_, rfl, .inl ⟨rfl, _, SqL.of g5⟩, rfl, g1, _, rfl, a, _, 0, .str k'.nm, rfl, rfl, hhead, atI_nat (j := 0) rfl, _, rfl, g1, k'.nm, Dl, _, rfl, SqL.of g6, ?_, fun t ht => ?_⟩
        · rw [List.length_reverse, List.length_drop]
          omega
        have ndt : dn ≠ t := ne_of_none g5 ht
        have npt : p2 ≠ t := ne_of_none g3 ht
        have g5t : (upd H2 t (.tup (.str k'.nm :: (ss.drop (ss.length - k'.args.length)).reverse))) dn = some (.lst (ss.take (ss.length - k'.args.length))) := by rw [upd_ne ndt]; exact g5
        refine ⟨dn, _, .ref t, rfl, rfl, g5t, ?_, ?_⟩
        · rw [List.length_take]
          exact Nat.lt_of_le_of_lt (show _ ≤ 100000 by omega) (by decide)
        have stt : Stay K H' (upd (upd H2 t (.tup (.str k'.nm :: (ss.drop (ss.length - k'.args.length)).reverse))) dn (.lst (ss.take (ss.length - k'.args.length) ++ [.ref t]))) := g2.trans ((stay_new ht _).trans (stay_lst g5t))
        refine ⟨_, S', _, _, _, rfl, same_mut (g1.trans (same_new ht _)) hdn, st.trans stt, ?_, upd_same, ?_, e3, by omega⟩
        · rw [upd_ne nd2.symm, upd_ne npt]; exact g3
        · rw [eS]
          have hSt : Kps K _ ss S := ThAll.stay stt hS
          have ht1 := Kps.take (ss.length - k'.args.length) hSt
          have ht2 := Kps.rev (Kps.drop (ss.length - k'.args.length) hSt)
          rw [hlS] at ht1 ht2 ⊢
          refine Kps.app ht1 (.cons ?_ .nil)
          have hrl : (S.drop (S.length - k'.args.length)).reverse.length = k'.args.length := by rw [List.length_reverse, List.length_drop]; omega
          refine kp_mk (xs := (ss.drop (S.length - k'.args.length)).reverse) (mkN_nm _ _).2 ?_ ?_ ?_
          · rw [(mkN_nm _ _).1]
            refine .inl (.inl ?_)
            rw [upd_ne ndt.symm]
            exact upd_same
          · rw [(mkN_nm _ _).1]
            exact hnl
          · rw [mkN_args _ _ (by omega)]
            exact ht2
  · subst eσ
    have e : k.parts.reverse.take xs.reverse.length = k.parts.reverse := List.take_of_length_le (by rw [← Kps.length hk2]; exact Nat.le_refl _)
    rw [e, htot] at hrun
    have eS := Option.some.inj hrun
    rw [List.nil_append] at eS
    subst eS
    have hl1 := Kps.length hS
    match ss, hl1, hS, hdn' with
    | [u], _, hS, hdn' =>
      refine ⟨_, rfl, .inl ⟨rfl, _, SqL.of hdn'⟩, dn, _, u, rfl, rfl, hdn', rfl, ?_⟩
      cases hS with
      | cons hu _ => exact q _ u (same_mut sm hdn) (hu.stay (stay_lst hdn'))
end
end N

namespace N
open PySem PySem.Spec PyProof.Rows L2 StX LamX NdefX
/-! ### filled, with its lambdas -/
def tq : Str := ("filled" : Str) ++ ".<locals>." ++ "<lambda>"
/-- the two lambdas of filled: parameters, expression, names -/
def lamsOf (b : List Stmt) (o : Arguments × Expr × Scope) : (Arguments × Expr × Scope) × (Arguments × Expr × Scope) := match b with
  | [.Return (some (.Call _ [_, .Lambda a1 b1 s1 _, .Lambda a2 b2 s2 _] _ _)) _] => ((a1, b1, s1), (a2, b2, s2))
  | _ => (o, o)
def lams : (Arguments × Expr × Scope) × (Arguments × Expr × Scope) := lamsOf (defBody s_filled) (defArgs s_filled, .Name "x" ⟨0, 0, 0, 0⟩, defScope s_filled)
theorem sc_lam1 : NScope ["letter", "values"] ["letter"] ["values"] lams.1.2.2 := nscope_by (by decide +kernel)
theorem sc_lam2 : NScope ["name", "arguments"] ["name", "arguments"] [] lams.2.2.2 := nscope_by (by decide +kernel)
theorem fre1 : ∀ y ∈ lams.1.2.2.names, y.2 = .free → (defScope s_filled).names.lookup y.1 = some .cell ∨ (defScope s_filled).names.lookup y.1 = some .free := ndef_free (fr := []) (by decide +kernel)
theorem fre2 : ∀ y ∈ lams.2.2.2.names, y.2 = .free → (defScope s_filled).names.lookup y.1 = some .cell ∨ (defScope s_filled).names.lookup y.1 = some .free := ndef_free (fr := []) (by decide +kernel)
section
variable {P : Program} {w : World} {K : PySem.W.Frag} {mg : Str → Option Value} {base : Heap}
theorem act_let {F : NF} {f d : Addr} {m : Map} {h : Heap} {H : Hp} (eF : F.params = lams.1.1 ∧ F.scope = lams.1.2.2) (C : CellsAt F.cl ["values"] [some (V.ref d)] h H) (h1 : H f = some (LamO f F lams.1.2.1)) (h2 : H F.c = some (CodeO F.c F.qual)) : ActL P w K mg base f h H (lamLet K d m) := by
  obtain ⟨name, qual, params, fb, scope, cl, c⟩ := F
  obtain ⟨rfl, rfl⟩ := eF
  refine ⟨_, lams.1.2.1, _, _, _, _, _, sc_lam1, fun pm ctv us hl => match us, hl with | [_], _ => rfl, fun A outer s H hr => pe_dget2 (hug hr) (pe_var (x := "values") (i := 1) rfl (.inr (.inr rfl))) (pe_var (x := "letter") (i := 0) rfl (.inl rfl)) (pe_var (x := "letter") (i := 0) rfl (.inl rfl)) ⟨rfl, rfl, rfl, rfl⟩, C, h1, h2, fun vs H' Q z => ?_⟩
  obtain ⟨x, rfl, hx, ⟨kvs, hkv, hpr⟩, q⟩ := z
  exact ⟨rfl, _, rfl, d, rfl, .inl ⟨kvs, .inl hkv⟩, _, rfl, _, rfl, _, DGet.k (k := Sum.inr x) hkv, q _ (held_look hpr hx)⟩
theorem act_cls {F : NF} {f : Addr} {h : Heap} {H : Hp} (eF : F.params = lams.2.1 ∧ F.scope = lams.2.2.2) (C : CellsAt F.cl [] [] h H) (h1 : H f = some (LamO f F lams.2.2.1)) (h2 : H F.c = some (CodeO F.c F.qual)) : ActL P w K mg base f h H (lamCls K) := by
  obtain ⟨name, qual, params, fb, scope, cl, c⟩ := F
  obtain ⟨rfl, rfl⟩ := eF
  refine ⟨_, lams.2.2.1, _, _, _, _, tTup (tCons (tVar 0) (tStar K (tVar 1) tNil)), sc_lam2, fun pm ctv us hl => match us, hl with | [_, _], _ => rfl, fun A outer s H hr => by exact pe_tup (pa_cons (pv 0) (pa_star (pv 1) pa_nil)), C, h1, h2, fun vs H' Q z => ?_⟩
  obtain ⟨n, D, xs, rfl, hS, hl, q⟩ := z
  refine ⟨rfl, _, rfl, _, rfl, D, xs, rfl, .inr hS, ?_, fun t ht => ?_⟩
  · rw [List.append_nil, List.length_cons]
    exact Nat.le_trans (show _ ≤ 100000 by omega) (by decide)
  · rw [List.append_nil]
    exact q t ht
theorem Held.ext {H H' : Hp} {d : Addr} {m : Map} (e : ExtN H H') (h : Held K H d m) : Held K H' d m := by
  obtain ⟨kvs, z, r⟩ := h
  exact ⟨kvs, e _ _ z (fun ps y => by cases y), Paired.mapP r fun p q y => ⟨y.1, y.2.stay (ext_stay e)⟩⟩
def spFilledT (K : PySem.W.Frag) (Pt : Addr) : Sp := fun vs H Q _ => ∃ (v : V) (d : Addr) (k : Kd) (m : Map), vs = [v, .ref d] ∧ Kp K H v k ∧ k.nds ≤ 100000 ∧ Held K H d m ∧ TabS H Pt tq ∧ ∀ H' u, GroP Pt H H' → TabS H' Pt tq → Kp K H' u (fillK m k) → Q u H'
theorem ok_filledT {c Pt : Addr} (G : Glo mg) (TB : TabB base mg c Pt) (CP : Cal P w K mg base 1 "parts" ["kind"] (spParts K)) (DF : DefAt K mg "folded" s_folded ["kind", "of_letter", "of_class"]) (D : DefAtC K mg "filled" s_filled ["kind", "values"] c) : Cal P w K mg base 3 "filled" ["kind", "values"] (spFilledT K Pt) := by
  refine D.cal sc_filled (fun vs H Q E h => ?_) (fun f A outer s H vs Q E hr h => ?_)
  · obtain ⟨v, d, k, m, rfl, _⟩ := h
    rfl
  obtain ⟨v, d, k, m, rfl, hT, hn, hd, ht, q⟩ := h
  refine ⟨_, pss_one (ps_ret (pe_callH (k := 1) (RR := fun σ vs H1 Q1 => ∃ (f1 c1 f2 c2 : Addr), vs = [v, .ref f1, .ref f2] ∧ slotAt σ 1 = some (.ref d) ∧
      H1 f1 = some (LamO f1 (lamF tq lams.1.1 lams.1.2.2 (cloFrom (envOfC "filled" (defScope s_filled) s.heap.objs.size f (.ref c)).cells lams.1.2.2.names []) c1) lams.1.2.1) ∧ H1 c1 = some (CodeO c1 tq) ∧
      H1 f2 = some (LamO f2 (lamF tq lams.2.1 lams.2.2.2 (cloFrom (envOfC "filled" (defScope s_filled) s.heap.objs.size f (.ref c)).cells lams.2.2.2.names []) c2) lams.2.2.1) ∧ H1 c2 = some (CodeO c2 tq) ∧
      Kp K H1 v k ∧ Held K H1 d m ∧ ∀ H' u, Same H1 H' → Kp K H' u (fillK m k) → Q1 u H') DF sc_folded hr rfl (pa_cons (pv 0) (pa_cons (pe_lamT2 TB rfl rfl fre1) (pa_cons (pe_lamT2 TB rfl rfl fre2) pa_nil)))
      (fun σ vs H1 Q1 z => by obtain ⟨f1, c1, f2, c2, rfl, _⟩ := z; rfl)
      (fun g cdv pins s1 σ H1 vs Q1 J hr1 z => ?_))), ?_⟩
  · obtain ⟨f1, c1, f2, c2, rfl, hsl, x1, x2, x3, x4, x5, x6, q1⟩ := z
    refine folded_body G CP hr1 (d := d) (m := m) (k := k) ⟨act_let (F := lamF tq lams.1.1 lams.1.2.2 _ c1) ⟨rfl, rfl⟩ ?_ x1 x2, act_cls (F := lamF tq lams.2.1 lams.2.2.2 _ c2) ⟨rfl, rfl⟩ ?_ x3 x4, x5, hn, x6⟩ q1
    · have C := cells_of (js := [1]) (fr := ["values"]) J (Caps.made (scope := lams.1.2.2) J.ok fre1 (by decide +kernel) rfl)
      have e : ([1] : List Nat).map (slotAt σ) = [some (V.ref d)] := by rw [← hsl]; rfl
      rw [e] at C
      exact C
    · exact cells_of (js := []) (fr := []) J (Caps.made (scope := lams.2.2.2) J.ok fre2 (by decide +kernel) rfl)
  · refine ⟨v, rfl, ht, fun f1 c1 H1 x1 e1 t1 n1 z1 y1 k1 => ⟨t1, fun f2 c2 H2 x2 e2 t2 n2 z2 y2 k2 => ?_⟩⟩
    have e12 := e1.trans e2
    have n12 : ∀ b, H2 b = none → H b = none := fun b z => n1 b (n2 b z)
    refine ⟨f1, c1, f2, c2, rfl, rfl, e2 _ _ y1 lamO_ne, e2 _ _ k1 codeO_ne, y2, k2, hT.stay (ext_stay e12), hd.ext e12, fun H' u sm hu => ?_⟩
    exact q H' u (GroP.trans ⟨⟨e12, n12⟩, x1.trans x2⟩ (GroP.of sm)) (t2.ext sm) hu
end
end N

namespace N
open PySem PySem.Spec PyProof.Rows L2 StX LamX NdefX
section
variable {P : Program} {w : World} {K : PySem.W.Frag} {mg : Str → Option Value} {base : Heap}
theorem stay_frz {H : Hp} {d : Addr} {o : Obj} {kvs : List (Key × V)} (h : H d = some (.dK kvs)) : Stay K H (upd H d (.frz o (.dK kvs))) where
  tup := fun a xs q => by
    rcases q with (q | ⟨o', q⟩) | q
    · refine .inl (.inl ?_)
      rw [upd_ne (ne_of q h (by intro z; cases z))]
      exact q
    · refine .inl (.inr ⟨o', ?_⟩)
      rw [upd_ne (ne_of q h (by intro z; cases z))]
      exact q
    · exact .inr q
  ty := fun v t q => by
    have k : ∀ a o', H a = some o' → o' ≠ .dK kvs → (upd H d (.frz o (.dK kvs))) a = some o' := fun a o' e n => by
      rw [upd_ne (ne_of e h n)]
      exact e
    cases q with
    | base b =>
      cases b with
      | non => exact .base .non
      | bl x => exact .base (.bl x)
      | int i => exact .base (.int i)
      | str x => exact .base (.str x)
      | flt x => exact .base (.flt x)
      | lst e => exact .base (.lst (k _ _ e (by intro z; cases z)))
      | frz e => exact .base (.frz (k _ _ e (by intro z; cases z)))
      | tup e => exact .base (.tup (k _ _ e (by intro z; cases z)))
      | @dK a kvs' e =>
        by_cases ea : a = d
        · subst ea
          exact .fDict upd_same
        · exact .base (.dK (by rw [upd_ne ea]; exact e))
      | dT e => exact .base (.dT (k _ _ e (by intro z; cases z)))
      | ins e cl ha hn htk hm => exact .base (.ins (k _ _ e (by intro z; cases z)) cl ha hn htk hm)
    | byt b => exact .byt b
    | set e => exact .set (k _ _ e (by intro z; cases z))
    | kList e c => exact .kList e c
    | kTuple e c => exact .kTuple e c
    | kDict e c => exact .kDict e c
    | fTuple e => exact .fTuple (k _ _ e (by intro z; cases z))
    | fDict e => exact .fDict (k _ _ e (by intro z; cases z))
theorem let_len9 {x : Str} (h : isLet x = true) : x.length ≤ 100000 := by
  unfold isLet at h
  simp only [Bool.and_eq_true, decide_eq_true_eq] at h
  omega
theorem unfrz {H H' : Hp} {d : Addr} {o : Obj} {u : HO} (h : H d = some u) (sm : Same (upd H d (.frz o u)) H') : Same H (upd H' d u) := fun b x e => by
  by_cases hb : b = d
  · subst hb
    rw [h] at e
    cases e
    exact upd_same
  · rw [upd_ne hb]
    exact sm b x (by rw [upd_ne hb]; exact e)
def MapOk (m : Map) : Prop := ∀ p ∈ m, isLet p.1 = true ∧ p.2.ok ∧ p.2.nds ≤ 33000
theorem Paired.at {α β : Type} {F : α → β → Prop} : ∀ {l : List α} {r : List β} {i : Nat} {x : α}, Paired F l r → l[i]? = some x → ∃ y, r[i]? = some y ∧ F x y
  | _, _, i, x, .nil, h => by simp at h
  | _, _, 0, x, .cons h _, e => by
    simp at e
    subst e
    exact ⟨_, rfl, h⟩
  | _, _, i + 1, x, .cons _ t, e => by
    obtain ⟨y, h1, h2⟩ := Paired.at (i := i) (x := x) t (by simpa using e)
    exact ⟨y, by simpa using h1, h2⟩
/-! ### are_values, of anything -/
abbrev Ents (K : PySem.W.Frag) (H : Hp) : List (Key × V) → List (Tg × Tg) → Prop := Paired fun p e => Th K H (kV p.1) e.1 ∧ Th K H p.2 e.2
def entR (e : Tg × Tg) : Bool := e.1.isL && isT e.2
/-- whether it is a dict of letters and kinds -/
inductive Vl (K : PySem.W.Frag) (H : Hp) : V → Bool → Prop
  | no {v : V} {ty : Value} : TyX K H v ty → PySem.W.kitOne K ty (.type "dict") = some false → Vl K H v false
  | dk {a : Addr} {kvs : List (Key × V)} {es : List (Tg × Tg)} : H a = some (.dK kvs) → Ents K H kvs es → (∀ e ∈ es, e.2.nodes ≤ 100000) → es.length ≤ 1000 → Vl K H (.ref a) (es.all entR)
  | g {a : Addr} {o : Obj} {x y : V} {tx ty : Tg} : H a = some (GO o) → (a == sysModules) = false → OneD o x y → Th K H x tx → Th K H y ty → tx.isL = false → Vl K H (.ref a) false
theorem Vl.same {H H' : Hp} {v : V} {b : Bool} (sm : Same H H') (h : Vl K H v b) : Vl K H' v b := by
  cases h with
  | no t e => exact .no ((stay_same sm).ty _ _ t) e
  | dk h1 h2 h3 h4 => exact .dk (sm _ _ h1) (Paired.mapP h2 fun p e z => ⟨z.1.stay (stay_same sm), z.2.stay (stay_same sm)⟩) h3 h4
  | g h1 h2 h3 h4 h5 h6 => exact .g (sm _ _ h1) h2 h3 (h4.stay (stay_same sm)) (h5.stay (stay_same sm)) h6
def spVals (K : PySem.W.Frag) : Sp := fun vs H Q _ => ∃ (v : V) (b : Bool), vs = [v] ∧ Vl K H v b ∧ ∀ H', Same H H' → Q (.bl b) H'
theorem ok_are_values (G : Glo mg) (CL : Cal P w K mg base 1 "is_letter" ["thing"] (spTest K Tg.isL)) (CT : Cal P w K mg base 3 "is_type" ["thing"] (spAsk K isT)) (D : DefAt K mg "are_values" s_are_values ["thing"]) : Cal P w K mg base 4 "are_values" ["thing"] (spVals K) := by
  refine D.cal sc_are_values (fun vs H Q E h => ?_) (fun f cdv A outer s H vs Q E hr h => ?_)
  · obtain ⟨v, b, rfl, _⟩ := h
    rfl
  obtain ⟨v, b, rfl, hv, q⟩ := h
  cases hv with
  | g h1 hs h2 h3 h4 h5 =>
    rename_i d o x y tx ty
    refine ⟨_, pss_cons (ps_if (pt_not (pt_val (pe_callB call_isG (by rfl) G.isinstance (by decide +kernel) (pa_cons (pv 0) (pa_cons (pe_bltn (v := .ty "dict") (by rfl) G.dict (by decide +kernel) rfl) pa_nil))))) (pss_one (ps_ret pe_bl)) pss_nil)
      (pss_one (ps_ret (pe_callB (cr_all rfl) (by rfl) G.all (by decide +kernel) (pa_cons (pe_lc (own := [("letter", 1), ("kind", 2)]) (g := gTup K 2 (gCons (gName 1) (gCons (gName 2) gNil))) rfl sc_are_values.nd (pi_itemsG (pv 0)) (blkOk_by (N := nm_are_values) (sc := defScope s_are_values) (own := [("letter", 1), ("kind", 2)]) (by decide +kernel))
        (fun _ _ _ _ _ => pg_tup (by rfl) (pgs_cons (pg_name (i := 1) sc_are_values.nd rfl (Or.inl rfl)) (pgs_cons (pg_name (i := 2) sc_are_values.nd rfl (Or.inl rfl)) pgs_nil))) (fun _ _ _ _ _ => pts_nil)
        (fun _ _ _ _ _ => pe_and (pc CL (hr.mono (by decide)) rfl (pa_cons (pv 1) pa_nil)) (pe_one (pc CT hr rfl (pa_cons (pv 2) pa_nil))))) pa_nil)))), ?_⟩
    refine ⟨_, rfl, d, o, rfl, h1, h2.1, _, rfl, ?_⟩
    refine ite2 (fun c => absurd c (by decide)) (fun _ => ?_)
    refine ⟨_, rfl, d, o, x, y, rfl, h1, hs, h2, fun D hD => ?_⟩
    refine lc_it (walk_itemsG (d := d) (o := o) (x := x) (y := y)) (fun i H' => ∃ acc, Same H H' ∧ H' D = some (.lst acc) ∧ acc = List.replicate i (V.bl false)) ⟨[], same_new hD _, upd_same, rfl⟩ (fun i H' _ ⟨acc, sm, _⟩ => sm _ _ h1) (fun i z H' H2 hi ⟨acc, sm, hacc, eacc⟩ hy => ?_) (fun H' ⟨acc, sm, hacc, eacc⟩ => ?_)
    · obtain ⟨T, rfl, hT, rfl⟩ := hy
      have hDT : D ≠ T := ne_of_none hacc hT
      have st := sm.trans (same_new hT (.tup [x, y]))
      refine ⟨T, _, rfl, .inl (.inl upd_same), rfl, x, [y], rfl, y, [], rfl, rfl, rfl, ?_⟩
      refine ⟨x, rfl, x, tx, rfl, h3.stay (stay_same st), _, rfl, iteN h5 ?_⟩
      refine ⟨acc, by rw [upd_ne hDT]; exact hacc, ?_, acc ++ [.bl false], same_mut st hD, upd_same, ?_⟩
      · rw [eacc, List.length_replicate]
        exact Nat.lt_of_le_of_lt (show i ≤ 100000 by omega) (by decide)
      · rw [eacc, ← List.replicate_succ']
    · refine ⟨D, [false], rfl, SqL.of (by rw [hacc, eacc]; rfl), ?_⟩
      exact q _ sm
  | no ht hk =>
    refine ⟨_, pss_cons (ps_if (pt_not (pt_val (pe_isi G.isinstance G.dict b_dict rfl rfl (pv 0)))) (pss_one (ps_ret pe_bl)) pss_nil)
      (pss_one (ps_ret (pe_callB (cr_all rfl) (by rfl) G.all (by decide +kernel) (pa_cons (pe_lock (pe_lc (own := [("letter", 1), ("kind", 2)]) (g := gTup K 2 (gCons (gName 1) (gCons (gName 2) gNil))) rfl sc_are_values.nd (pi_items (pv 0)) (blkOk_by (N := nm_are_values) (sc := defScope s_are_values) (own := [("letter", 1), ("kind", 2)]) (by decide +kernel))
        (fun _ _ _ _ _ => pg_tup (by rfl) (pgs_cons (pg_name (i := 1) sc_are_values.nd rfl (Or.inl rfl)) (pgs_cons (pg_name (i := 2) sc_are_values.nd rfl (Or.inl rfl)) pgs_nil))) (fun _ _ _ _ _ => pts_nil)
        (fun _ _ _ _ _ => pe_and (pc CL (hr.mono (by decide)) rfl (pa_cons (pv 1) pa_nil)) (pe_one (pc CT hr rfl (pa_cons (pv 2) pa_nil)))))) pa_nil)))), ?_⟩
    exact ⟨_, rfl, isi_q (b := false) ht hk ⟨_, rfl, iteT (q H (Same.refl _))⟩⟩
  | dk hd hpr hn hml =>
    rename_i d kvs es
    refine ⟨_, pss_cons (ps_if (pt_not (pt_val (pe_isi G.isinstance G.dict b_dict rfl rfl (pv 0)))) (pss_one (ps_ret pe_bl)) pss_nil)
      (pss_one (ps_ret (pe_callB (cr_all rfl) (by rfl) G.all (by decide +kernel) (pa_cons (pe_lock (pe_lc (own := [("letter", 1), ("kind", 2)]) (g := gTup K 2 (gCons (gName 1) (gCons (gName 2) gNil))) rfl sc_are_values.nd (pi_items (pv 0)) (blkOk_by (N := nm_are_values) (sc := defScope s_are_values) (own := [("letter", 1), ("kind", 2)]) (by decide +kernel))
        (fun _ _ _ _ _ => pg_tup (by rfl) (pgs_cons (pg_name (i := 1) sc_are_values.nd rfl (Or.inl rfl)) (pgs_cons (pg_name (i := 2) sc_are_values.nd rfl (Or.inl rfl)) pgs_nil))) (fun _ _ _ _ _ => pts_nil)
        (fun _ _ _ _ _ => pe_and (pc CL (hr.mono (by decide)) rfl (pa_cons (pv 1) pa_nil)) (pe_one (pc CT hr rfl (pa_cons (pv 2) pa_nil)))))) pa_nil)))), ?_⟩
    refine ⟨_, rfl, isi_q (b := true) (.base (.dK hd)) (kit_ty (by decide +kernel)) ⟨_, rfl, ?_⟩⟩
    refine ⟨d, .dK kvs, hd, trivial, fun od => ?_⟩
    refine ⟨_, rfl, d, od, kvs, rfl, upd_same, fun D hD => ?_⟩
    have sH : Same (upd H d (.frz od (.dK kvs))) (upd (upd H d (.frz od (.dK kvs))) D (.lst [])) := same_new hD _
    have hkl : kvs.length = es.length := Paired.length hpr
    refine lc_it (walk_items (d := d) (o := od) (kvs := kvs)) (fun i H' => ∃ acc, Same (upd H d (.frz od (.dK kvs))) H' ∧ H' D = some (.lst acc) ∧ acc = ((es.take i).map entR).map V.bl) ⟨[], sH, upd_same, rfl⟩ (fun i H' _ ⟨acc, sm, _⟩ => sm _ _ upd_same) (fun i x H' H2 hi ⟨acc, sm, hacc, eacc⟩ hy => ?_) (fun H' ⟨acc, sm, hacc, eacc⟩ => ?_)
    · obtain ⟨T, x, y, rfl, hT, rfl, h1, h2⟩ := hy
      obtain ⟨⟨key, v⟩, hkv⟩ : ∃ p, kvs[i]? = some p := ⟨_, List.getElem?_eq_getElem hi⟩
      obtain ⟨⟨tk, tv⟩, hm1, hm2, hm3⟩ := Paired.at hpr hkv
      replace h1 : (kvs[i]?.map fun kv => kV kv.1) = some x := h1
      replace h2 : (kvs[i]?.map Prod.snd) = some y := h2
      rw [hkv] at h1 h2
      have e1 : x = kV key := (Option.some.inj h1).symm
      have e2 : y = v := (Option.some.inj h2).symm
      subst e1 e2
      have hDT : D ≠ T := ne_of_none hacc hT
      have st : Stay K H (upd H' T (.tup [kV key, y])) := (stay_frz hd).trans ((stay_same sm).trans (stay_new hT _))
      have st0 : Same (upd H d (.frz od (.dK kvs))) (upd H' T (.tup [kV key, y])) := sm.trans (same_new hT _)
      have hnv : tv.nodes ≤ 100000 := hn _ (List.mem_of_getElem? hm1)
      have hlen : acc.length ≤ 1000 := by
        rw [eacc, List.length_map, List.length_map, List.length_take]
        omega
      have hlt : acc.length < sizeLine := Nat.lt_of_le_of_lt hlen (by decide)
      have eT : ((es.take (i + 1)).map entR).map V.bl = acc ++ [.bl (tk.isL && isT tv)] := by
        rw [take_snoc hm1, List.map_append, List.map_append, ← eacc]
        rfl
      refine ⟨T, _, rfl, .inl (.inl upd_same), rfl, kV key, [y], rfl, y, [], rfl, rfl, rfl, ?_⟩
      refine ⟨kV key, rfl, kV key, tk, rfl, hm2.stay st, _, rfl, ite2 (fun c => ?_) (fun c => ?_)⟩
      · refine ⟨y, rfl, y, tv, rfl, hm3.stay st, hnv, fun H3 sm3 => ?_⟩
        refine ⟨acc, sm3 _ _ (by rw [upd_ne hDT]; exact hacc), hlt, acc ++ [.bl (isT tv)], same_mut (st0.trans sm3) hD, upd_same, ?_⟩
        rw [eT, c, Bool.true_and]
      · have c' : tk.isL = false := Bool.eq_false_iff.mpr c
        refine ⟨acc, by rw [upd_ne hDT]; exact hacc, hlt, acc ++ [.bl false], same_mut st0 hD, upd_same, ?_⟩
        rw [eT, c', Bool.false_and]
    · refine ⟨sm _ _ upd_same, ?_⟩
      have nDd : D ≠ d := fun e => by
        subst e
        rw [upd_same] at hD
        cases hD
      refine ⟨D, es.map entR, rfl, SqL.of (by rw [upd_ne nDd, hacc, eacc, hkl, List.take_length]), ?_⟩
      have e : (es.map entR).all id = es.all entR := by rw [List.all_map]; rfl
      rw [e]
      exact q _ (unfrz hd sm)
/-- fill, of anything -/
def spFillX (K : PySem.W.Frag) (C1 C2 Pt : Addr) : Sp := fun vs H Q E => ∃ (v u : V) (t : Tg) (b : Bool), vs = [v, u] ∧ Th K H v t ∧ t.nodes ≤ 33000 ∧ Vl K H u b ∧
  (isT t = false → ∀ H', Same H H' → E (.ref C1) none H') ∧ (isT t = true → b = false → ∀ H', Same H H' → E (.ref C2) none H') ∧
  (isT t = true → b = true → ∃ (d : Addr) (m : Map), u = .ref d ∧ Held K H d m ∧ TabS H Pt tq ∧ ∀ k : Kd, t = k.tg → k.ok → ∀ H' r, GroP Pt H H' → TabS H' Pt tq → Kp K H' r (fillK m k) → Q r H')
theorem ok_fillX {C1 C2 Pt : Addr} (X2 : ExcAt K mg "NoValues" C2) (CK : Cal P w K mg base 4 "check_type" ["thing"] (spCheck K C1)) (CV : Cal P w K mg base 4 "are_values" ["thing"] (spVals K)) (CF : Cal P w K mg base 3 "filled" ["kind", "values"] (spFilledT K Pt)) (D : DefAt K mg "fill" s_fill ["kind", "values"]) : Cal P w K mg base 5 "fill" ["kind", "values"] (spFillX K C1 C2 Pt) := by
  refine D.cal sc_fill (fun vs H Q E h => ?_) (fun f cdv A outer s H vs Q E hr h => ?_)
  · obtain ⟨v, u, t, b, rfl, _⟩ := h
    rfl
  obtain ⟨v, u, t, b, rfl, hT, hn, hv, q1, q2, q3⟩ := h
  refine ⟨_, pss_cons (ps_expr (pcE (takes_of rfl rfl rfl rfl) CK hr rfl (pa_cons (pv 0) pa_nil)))
    (pss_cons (ps_if (pt_not (pt_val (pc CV hr rfl (pa_cons (pv 1) pa_nil)))) (pss_one (ps_raise rfl (takes_of rfl rfl rfl rfl) (pmk_own PySem.F.excBase_ValueError X2.x X2.g X2.k (raises_own X2.b X2.t) rfl))) pss_nil)
    (pss_one (ps_ret (pc CF (hr.mono (by decide)) rfl (pa_cons (pv 0) (pa_cons (pv 1) pa_nil)))))), ?_⟩
  refine ⟨v, rfl, v, t, rfl, hT, by omega, fun ht H1 sm1 => ?_, fun ht H1 sm => q1 ht H1 sm⟩
  refine ⟨u, rfl, u, b, rfl, hv.same sm1, fun H2 sm2 => ⟨_, rfl, ?_⟩⟩
  have sm := sm1.trans sm2
  refine ite2 (fun c => ?_) (fun c => ?_)
  · exact q2 ht (by simpa using c) H2 sm
  · obtain ⟨d, m, rfl, hd, htab, q⟩ := q3 ht (by simpa using c)
    obtain ⟨k, kok, rfl⟩ := of_isT ht
    have := Kd.nds_le k
    exact ⟨v, rfl, _, rfl, v, d, k, m, rfl, hT.stay (stay_same sm), by omega, hd.stay sm, htab.ext sm, fun H3 r g3 t3 hr => q k rfl kok H3 r ((GroP.of sm).trans g3) t3 hr⟩
end
end N

namespace N
open PySem PySem.Spec PyProof.Rows L2 StX LamX NdefX
/-! ### things that are handed to fill as values -/
/-- its data, whether it is right, and then what it holds -/
structure He where
  d : PyData
  b : Bool
  m : Map
def Hv (K : PySem.W.Frag) (H : Hp) (p : Addr) (v : V) (e : He) : Prop := Dh K H p v e.d ∧ Vl K H v e.b ∧ (e.b = true → ∃ a, v = .ref a ∧ Held K H a e.m)
section
variable {K : PySem.W.Frag} {H H' : Hp} {p : Addr} {v : V}
theorem Vl.tr {b : Bool} (t : Tr p H H') (hp : Pen H p) (h : Vl K H v b) : Vl K H' v b := by
  cases h with
  | no h1 h2 => exact .no ((t.stay hp).ty _ _ h1) h2
  | dk h1 h2 h3 h4 => exact .dk (t.at hp h1 (fun _ z => by cases z) (fun _ z => by cases z)) (Paired.mapP h2 fun _ _ z => ⟨z.1.stay (t.stay hp), z.2.stay (t.stay hp)⟩) h3 h4
  | g h1 h2 h3 h4 h5 h6 => exact .g (t.at hp h1 (fun _ z => by unfold GO at z; cases z) (fun _ z => by unfold GO at z; cases z)) h2 h3 (h4.stay (t.stay hp)) (h5.stay (t.stay hp)) h6
theorem Held.tr {a : Addr} {m : Map} (t : Tr p H H') (hp : Pen H p) (h : Held K H a m) : Held K H' a m := by
  obtain ⟨kvs, e, r⟩ := h
  exact ⟨kvs, t.at hp e (fun _ z => by cases z) (fun _ z => by cases z), Paired.mapP r fun _ _ z => ⟨z.1, z.2.stay (t.stay hp)⟩⟩
theorem Hv.tr {e : He} (t : Tr p H H') (hp : Pen H p) (h : Hv K H p v e) : Hv K H' p v e := ⟨h.1.tr t hp, h.2.1.tr t hp, fun z => by
  obtain ⟨a, ea, q⟩ := h.2.2 z
  exact ⟨a, ea, q.tr t hp⟩⟩
theorem Hv.same {e : He} (s : Same H H') (h : Hv K H p v e) : Hv K H' p v e := ⟨h.1.same s, h.2.1.same s, fun z => by
  obtain ⟨a, ea, q⟩ := h.2.2 z
  exact ⟨a, ea, q.stay s⟩⟩
theorem dq_nodict {d : PyData} (h : Dq K H p v d) (hn : ∀ m, d ≠ .dict m) : Vl K H v false := by
  cases h with
  | t h =>
    cases h with
    | non => exact .no (.base .non) (kit_ty (by decide +kernel))
    | bl b => exact .no (.base (.bl b)) (kit_ty (by decide +kernel))
    | int i => exact .no (.base (.int i)) (kit_ty (by decide +kernel))
    | str x => exact .no (.base (.str x)) (kit_ty (by decide +kernel))
    | tup h r => exact .no (SqT.ty h) (kit_ty (by decide +kernel))
  | tup h r => exact .no (SqT.ty h) (kit_ty (by decide +kernel))
  | lst h1 _ _ _ => exact .no (.base (.lst h1)) (kit_ty (by decide +kernel))
  | dct h1 _ => exact absurd rfl (hn _)
theorem stay_dk {q : Addr} {ks ks' : List (Key × V)} (h : H q = some (.dK ks)) : Stay K H (upd H q (.dK ks')) where
  tup := fun a xs q => by
    rcases q with (q | ⟨o', q⟩) | q
    · refine .inl (.inl ?_)
      rw [upd_ne (ne_of q h (by intro z; cases z))]
      exact q
    · refine .inl (.inr ⟨o', ?_⟩)
      rw [upd_ne (ne_of q h (by intro z; cases z))]
      exact q
    · exact .inr q
  ty := fun v t z => by
    have k : ∀ a o', H a = some o' → (∀ l, o' ≠ .dK l) → (upd H q (.dK ks')) a = some o' := fun a o' e n => by
      rw [upd_ne (ne_of e h (n _))]
      exact e
    cases z with
    | base b =>
      cases b with
      | non => exact .base .non
      | bl x => exact .base (.bl x)
      | int i => exact .base (.int i)
      | str x => exact .base (.str x)
      | flt x => exact .base (.flt x)
      | lst e => exact .base (.lst (k _ _ e (fun _ z => by cases z)))
      | frz e => exact .base (.frz (k _ _ e (fun _ z => by cases z)))
      | tup e => exact .base (.tup (k _ _ e (fun _ z => by cases z)))
      | @dK a kvs' e =>
        by_cases ea : a = q
        · subst ea
          exact .base (.dK upd_same)
        · exact .base (.dK (by rw [upd_ne ea]; exact e))
      | dT e => exact .base (.dT (k _ _ e (fun _ z => by cases z)))
      | ins e cl ha hn htk hm => exact .base (.ins (k _ _ e (fun _ z => by cases z)) cl ha hn htk hm)
    | byt b => exact .byt b
    | set e => exact .set (k _ _ e (fun _ z => by cases z))
    | kList e c => exact .kList e c
    | kTuple e c => exact .kTuple e c
    | kDict e c => exact .kDict e c
    | fTuple e => exact .fTuple (k _ _ e (fun _ z => by cases z))
    | fDict e => exact .fDict (k _ _ e (fun _ z => by cases z))
mutual
def noD : PyData → Bool
  | .dict _ => false
  | .tuple ds => noDs ds
  | _ => true
def noDs : List PyData → Bool
  | [] => true
  | d :: ds => noD d && noDs ds
end
mutual
theorem dq_dk {q : Addr} {ks ks' : List (Key × V)} (hq : H q = some (.dK ks)) : ∀ (d : PyData) (v : V), noD d = true → Dq K H p v d → Dq K (upd H q (.dK ks')) p v d
  | .none, _, _, h => by cases h with | t h => exact .t (dt_stay (stay_dk hq) _ _ h)
  | .bool _, _, _, h => by cases h with | t h => exact .t (dt_stay (stay_dk hq) _ _ h)
  | .int _, _, _, h => by cases h with | t h => exact .t (dt_stay (stay_dk hq) _ _ h)
  | .str _, _, _, h => by cases h with | t h => exact .t (dt_stay (stay_dk hq) _ _ h)
  | .list ds, _, _, h => by
    cases h with
    | t h => cases h
    | lst h1 h2 h4 h3 => exact .lst (by rw [upd_ne (ne_of h1 hq (by intro z; cases z))]; exact h1) h2 h4 (dts_stay (stay_dk hq) ds _ h3)
  | .dict mm, _, n, _ => by simp [noD] at n
  | .tuple ds, _, n, h => by
    cases h with
    | t h => exact .t (dt_stay (stay_dk hq) _ _ h)
    | tup hs ha => exact .tup ((stay_dk hq).tup _ _ hs) (dqs_dk hq ds _ (by simpa [noD] using n) ha)
theorem dqs_dk {q : Addr} {ks ks' : List (Key × V)} (hq : H q = some (.dK ks)) : ∀ (ds : List PyData) (vs : List V), noDs ds = true → DqAll K H p vs ds → DqAll K (upd H q (.dK ks')) p vs ds
  | [], _, _, h => by cases h; exact .nil
  | d :: ds, _, n, h => by
    have n' : noD d = true ∧ noDs ds = true := by simpa [noDs] using n
    cases h with
    | cons a c => exact .cons (dq_dk hq d _ n'.1 a) (dqs_dk hq ds _ n'.2 c)
end
theorem ob_dk {q : Addr} {ks ks' : List (Key × V)} {e : Tg × PyData} (hq : H q = some (.dK ks)) (hn : noD e.2 = true) (h : Ob K H p v e) : Ob K (upd H q (.dK ks')) p v e := ⟨h.1.stay (stay_dk hq), dq_dk hq _ _ hn h.2⟩
end
def tHv (K : PySem.W.Frag) (p : Addr) (e : He) : TE := fun _ H Q => (∃ o, H p = some o) ∧ ∀ v H', Same H H' → Hv K H' p v e → Q v H'
def tHvs (K : PySem.W.Frag) (p : Addr) (es : List He) : TA := fun _ H Q => (∃ o, H p = some o) ∧ ∀ vs H', Same H H' → Paired (Hv K H' p) vs es → Q vs H'
section
variable {X : Cx} {p : Addr} {e : Tg × PyData} {es : List He} {x : Expr} {xs : List Expr} {pos : Pos}
theorem hv_nil : PA X [] (tHvs X.K p []) := paImp' pa_nil fun σ H Q z => z.2 [] H (Same.refl H) .nil
theorem hv_cons {e : He} (h : PE X x (tHv X.K p e)) (hr : PA X xs (tHvs X.K p es)) (hst : starEach (x :: xs) X.env = (false, eval x X.env) :: starEach xs X.env := by rfl) : PA X (x :: xs) (tHvs X.K p (e :: es)) :=
  paImp' (pa_cons h hr hst) fun σ H Q ⟨⟨o, ho⟩, z⟩ => ⟨⟨o, ho⟩, fun v H1 s1 ob => ⟨⟨o, s1 _ _ ho⟩, fun vs H2 s2 obs => z (v :: vs) H2 (s1.trans s2) (.cons (ob.same s2) obs)⟩⟩
/-- what is no dict -/
theorem hv_ob (h : PE X x (tOb X.K p e)) (hn : ∀ m, e.2 ≠ .dict m) : PE X x (tHv X.K p ⟨e.2, false, []⟩) :=
  peImp h fun σ H Q ⟨ho, z⟩ => ⟨ho, fun v H1 s1 ob => z v H1 s1 ⟨.q ob.2, dq_nodict ob.2 hn, fun y => by cases y⟩⟩
/-- {} -/
theorem hv_d0 : PE X (.Dict [] [] pos) (tHv X.K p ⟨.dict [], true, []⟩) :=
  peImp pe_dnewK fun σ H Q z => fun q hq => z.2 (.ref q) _ (same_new hq _) ⟨.dk upd_same .nil, .dk (es := []) upd_same .nil (fun e h => by cases h) (by simp), fun _ => ⟨q, rfl, [], upd_same, .nil⟩⟩
/-- {k: v} -/
theorem hv_d1 {ke ve : Expr} {te : TE} {k : Key} {tk : Tg} {m : Map} {b : Bool} (hk : PE X ke te) (hq : ∀ σ H (Q : VK), Q (kV k) H → te σ H Q) (hT : ∀ H, Th X.K H (kV k) tk) (hv : PE X ve (tOb X.K p e)) (hn : noD e.2 = true) (hN : e.1.nodes ≤ 100000)
    (hb : ([(tk, e.1)] : List (Tg × Tg)).all entR = b) (hm : b = true → ∃ (a : Str) (kd : Kd), k = Sum.inr a ∧ m = [(a, kd)] ∧ e.1 = kd.tg) : PE X (.Dict [some ke] [ve] pos) (tHv X.K p ⟨.dict [(keyD k, e.2)], b, m⟩) :=
  peImp (pe_disp (pps_cons hk hv pps_nil) (by rfl) (by rfl) (fun z => by cases z) (by show 1 ≤ 15; decide)) fun σ H Q ⟨⟨o, ho⟩, z⟩ => fun q hqn => by
    have s0 := same_new hqn (.dK [])
    refine hq _ _ _ ⟨⟨o, s0 _ _ ho⟩, fun v H1 s1 ob => ?_⟩
    have hq1 : H1 q = some (.dK []) := s1 _ _ upd_same
    refine ⟨hq1, [(k, v)], rfl, by show 1 ≤ 15; decide, ?_⟩
    have e1 : mergeK [] [(k, v)] = [(k, v)] := by rfl
    rw [e1]
    have sm := same_mut (s0.trans s1) hqn (o := .dK [(k, v)])
    have ob' := ob_dk (ks' := [(k, v)]) hq1 hn ob
    have vl : Vl X.K (upd H1 q (.dK [(k, v)])) (.ref q) (([(tk, e.1)] : List (Tg × Tg)).all entR) := .dk upd_same (.cons ⟨hT _, ob'.1⟩ .nil) (fun y hy => by rw [List.mem_singleton.mp hy]; exact hN) (by simp)
    rw [hb] at vl
    refine z (.ref q) _ sm ⟨.dk upd_same (.cons ⟨rfl, ob'.2⟩ .nil), vl, fun y => ?_⟩
    · obtain ⟨a, kd, e1, e2, e3⟩ := hm y
      refine ⟨q, rfl, [(k, v)], upd_same, ?_⟩
      show Paired _ [(k, v)] m
      rw [e2]
      refine .cons ⟨e1, ?_⟩ .nil
      have := ob'.1
      rw [e3] at this
      exact this
/-- {k: v, l: u}, wrong -/
theorem hv_d2 {ke ve le ue : Expr} {a b : Str} {e2 : Tg × PyData} (hne : a ≠ b) (ha : a.length ≤ 100000) (hb : b.length ≤ 100000) (hk : PE X ke fun σ H Q => Q (.str a) H) (hl : PE X le fun σ H Q => Q (.str b) H) (hv : PE X ve (tOb X.K p e)) (hu : PE X ue (tOb X.K p e2)) (hn : noD e.2 = true) (hn2 : noD e2.2 = true) (hN : e.1.nodes ≤ 100000) (hN2 : e2.1.nodes ≤ 100000)
    (hw : ([(.str a, e.1), (.str b, e2.1)] : List (Tg × Tg)).all entR = false) : PE X (.Dict [some ke, some le] [ve, ue] pos) (tHv X.K p ⟨.dict [(.str a, e.2), (.str b, e2.2)], false, []⟩) :=
  peImp (pe_disp (pps_cons hk hv (pps_cons hl hu pps_nil)) (by rfl) (by rfl) (fun z => by cases z) (by show 2 ≤ 15; decide)) fun σ H Q ⟨⟨o, ho⟩, z⟩ => fun q hqn => by
    have s0 := same_new hqn (.dK [])
    refine ⟨⟨o, s0 _ _ ho⟩, fun v H1 s1 ob => ⟨⟨o, s1 _ _ (s0 _ _ ho)⟩, fun u H2 s2 ob2 => ?_⟩⟩
    have hq2 : H2 q = some (.dK []) := s2 _ _ (s1 _ _ upd_same)
    refine ⟨hq2, [(Sum.inr a, v), (Sum.inr b, u)], rfl, by show 2 ≤ 15; decide, ?_⟩
    have e1 : mergeK [] [((Sum.inr a : Key), v), ((Sum.inr b : Key), u)] = [((Sum.inr a : Key), v), ((Sum.inr b : Key), u)] := by
      show putK [((Sum.inr a : Key), v)] (Sum.inr b) u = _
      unfold putK
      rw [if_neg (by simpa using fun z : (Sum.inr a : Key) = Sum.inr b => hne (Sum.inr.inj z))]
      rfl
    rw [e1]
    have sm := same_mut ((s0.trans s1).trans s2) hqn (o := .dK [((Sum.inr a : Key), v), ((Sum.inr b : Key), u)])
    have ob' := ob_dk (ks' := [((Sum.inr a : Key), v), ((Sum.inr b : Key), u)]) hq2 hn (ob.same s2)
    have ob2' := ob_dk (ks' := [((Sum.inr a : Key), v), ((Sum.inr b : Key), u)]) hq2 hn2 ob2
    have vl : Vl X.K (upd H2 q (.dK [((Sum.inr a : Key), v), ((Sum.inr b : Key), u)])) (.ref q) (([(.str a, e.1), (.str b, e2.1)] : List (Tg × Tg)).all entR) := .dk upd_same (.cons ⟨.str a ha, ob'.1⟩ (.cons ⟨.str b hb, ob2'.1⟩ .nil)) (fun y hy => by
      rcases List.mem_cons.mp hy with hy | hy
      · rw [hy]; exact hN
      · rw [List.mem_singleton.mp hy]; exact hN2) (by simp)
    rw [hw] at vl
    exact z (.ref q) _ sm ⟨.dk upd_same (.cons ⟨rfl, ob'.2⟩ (.cons ⟨rfl, ob2'.2⟩ .nil)), vl, fun y => by cases y⟩
/-- {k: {}}, wrong -/
theorem hv_dd {ke : Expr} {a : Str} {p2 : Pos} (ha : a.length ≤ 100000) (hk : PE X ke fun σ H Q => Q (.str a) H) : PE X (.Dict [some ke] [.Dict [] [] p2] pos) (tHv X.K p ⟨.dict [(.str a, .dict [])], false, []⟩) :=
  peImp (pe_disp (pps_cons hk pe_dnewK pps_nil) (by rfl) (by rfl) (fun z => by cases z) (by show 1 ≤ 15; decide)) fun σ H Q ⟨⟨o, ho⟩, z⟩ => fun q hqn => by
    have s0 := same_new hqn (.dK [])
    show ∀ r, upd H q (.dK []) r = none → _
    intro r hr
    have nq : q ≠ r := ne_of_none upd_same hr
    have s1 := same_new hr (.dK [])
    refine ⟨by rw [upd_ne nq]; exact upd_same, [(Sum.inr a, .ref r)], rfl, by show 1 ≤ 15; decide, ?_⟩
    have e1 : mergeK [] [((Sum.inr a : Key), V.ref r)] = [((Sum.inr a : Key), V.ref r)] := by rfl
    rw [e1]
    have sm := same_mut (s0.trans s1) hqn (o := .dK [((Sum.inr a : Key), V.ref r)])
    have hr' : (upd (upd (upd H q (.dK [])) r (.dK [])) q (.dK [((Sum.inr a : Key), V.ref r)])) r = some (.dK []) := by rw [upd_ne (Ne.symm nq)]; exact upd_same
    have vl : Vl X.K (upd (upd (upd H q (.dK [])) r (.dK [])) q (.dK [((Sum.inr a : Key), V.ref r)])) (.ref q) (([(.str a, .oth)] : List (Tg × Tg)).all entR) := .dk upd_same (.cons ⟨.str a ha, .oth (.base (.dK hr')) (kit_ty (by decide +kernel)) (kit_ty (by decide +kernel))⟩ .nil) (fun y hy => by rw [List.mem_singleton.mp hy]; show 1 ≤ 100000; decide) (by simp)
    have ef : ([(.str a, .oth)] : List (Tg × Tg)).all entR = false := by
      show ((isLet a && false) && true) = false
      rw [Bool.and_false, Bool.false_and]
    rw [ef] at vl
    exact z (.ref q) _ sm ⟨.dk upd_same (.cons ⟨rfl, .dct (m := []) hr' .nil⟩ .nil), vl, fun y => by cases y⟩
/-- {None: v} -/
theorem hv_gN {ke ve : Expr} {b : Str} (hb : b.length ≤ 100000) (hk : PE X ke fun σ H Q => Q .non H) (hv : PE X ve fun σ H Q => Q (.str b) H) : PE X (.Dict [some ke] [ve] pos) (tHv X.K p ⟨.dict [(.none, .str b)], false, []⟩) :=
  peImp (pe_dispN hk hv) fun σ H Q ⟨⟨o, ho⟩, z⟩ => fun q hqn hs => by
    refine ⟨upd_same, rfl, fun od h1 => ?_⟩
    have sm := same_mut (same_new hqn (.dK [])) hqn (o := GO od)
    exact z (.ref q) _ sm ⟨.g upd_same hs h1 .non (.str b), .g upd_same hs h1 (.oth (.base .non) (kit_ty (by decide +kernel)) (kit_ty (by decide +kernel))) (.str b hb) rfl, fun y => by cases y⟩
/-- {(a,): v} -/
theorem hv_gT {ve : Expr} {a b : Str} {j j2 : Nat} {p1 p2 : Pos} (hu : X.A.units < cLine) (ha : a.length ≤ 100000) (hb : b.length ≤ 100000) (hv : PE X ve fun σ H Q => Q (.str b) H) : PE X (.Dict [some (.Tuple [.Constant (.str a) j p1] j2 p2)] [ve] pos) (tHv X.K p ⟨.dict [(.tuple [.str a], .str b)], false, []⟩) :=
  peImp (pe_dispT hu (pe_tup (pa_cons pe_str pa_nil)) hv) fun σ H Q ⟨⟨o, ho⟩, z⟩ => fun q hqn hs => by
    refine ⟨by show 1 ≤ sizeLine; decide, fun t ht => ?_⟩
    have nq : q ≠ t := ne_of_none upd_same ht
    refine ⟨by rw [upd_ne nq]; exact upd_same, t, [Sum.inr a], rfl, upd_same, fun od h1 => ?_⟩
    have sm := same_mut ((same_new hqn (.dT [])).trans (same_new ht (.tup [.str a]))) hqn (o := GO od)
    have ht' : (upd (upd (upd H q (.dT [])) t (.tup [.str a])) q (GO od)) t = some (.tup [.str a]) := by rw [upd_ne (Ne.symm nq)]; exact upd_same
    exact z (.ref q) _ sm ⟨.g upd_same hs h1 (.tup (.inl (.inl ht')) (.cons (.str a) .nil)) (.str b), .g upd_same hs h1 (.tup (.inl (.inl ht')) (.cons (.str a ha) .nil)) (.str b hb) rfl, fun y => by cases y⟩
/-- [(a, (b,))] -/
theorem hv_l1 {a b : Str} {j1 j2 j3 j4 : Nat} {p1 p2 p3 p4 : Pos} : PE X (.List [.Tuple [.Constant (.str a) j1 p1, .Tuple [.Constant (.str b) j2 p2] j3 p3] j4 p4] pos) (tHv X.K p ⟨.list [.tuple [.str a, .tuple [.str b]]], false, []⟩) :=
  peImp (pe_lstF (pa_cons (pe_tup (pa_cons pe_str (pa_cons (pe_tup (pa_cons pe_str pa_nil)) pa_nil))) pa_nil)) fun σ H Q ⟨⟨o, ho⟩, z⟩ => by
    refine ⟨by show 1 ≤ sizeLine; decide, fun t ht => ⟨by show 2 ≤ sizeLine; decide, fun u hu => ⟨by show 1 ≤ sizeLine; decide, fun q hq hs => ?_⟩⟩⟩
    have s1 := same_new ht (.tup [.str b])
    have s2 := same_new hu (.tup [.str a, .ref t])
    have s3 := same_new hq (.lst [.ref u])
    have h1 := s3 _ _ (s2 _ _ (upd_same (H := H) (a := t) (o := .tup [.str b])))
    have h2 := s3 _ _ (upd_same (H := upd H t (.tup [.str b])) (a := u) (o := .tup [.str a, .ref t]))
    have dq : Dq X.K (upd (upd (upd H t (.tup [.str b])) u (.tup [.str a, .ref t])) q (.lst [.ref u])) p (.ref q) (.list [.tuple [.str a, .tuple [.str b]]]) := .lst upd_same hs (fun e => by rw [e] at hq; rw [s2 _ _ (s1 _ _ ho)] at hq; cases hq) (.cons (.tup (.inl (.inl h2)) (.cons (.str a) (.cons (.tup (.inl (.inl h1)) (.cons (.str b) .nil)) .nil))) .nil)
    exact z (.ref q) _ (s1.trans (s2.trans s3)) ⟨.q dq, dq_nodict dq (fun m y => by cases y), fun y => by cases y⟩
end
end N

namespace N
open PySem PySem.Spec PyProof.Rows L2 StX LamX NdefX
def nv1 : List He := [⟨.none, false, []⟩, ⟨.bool true, false, []⟩, ⟨.int 0, false, []⟩, ⟨.str "X", false, []⟩, ⟨.tuple [], false, []⟩, ⟨.list [], false, []⟩, ⟨.tuple [.tuple [.str "X", .str "Y"]], false, []⟩, ⟨.list [.tuple [.str "X", .tuple [.str "one"]]], false, []⟩, ⟨.dict [(.str "x", .str "X")], false, []⟩, ⟨.dict [(.str "XY", .str "X")], false, []⟩, ⟨.dict [(.str "", .str "X")], false, []⟩, ⟨.dict [(.int 1, .str "X")], false, []⟩]
def nv2 : List He := [⟨.dict [(.tuple [.str "one"], .str "X")], false, []⟩, ⟨.dict [(.str "X", .none)], false, []⟩, ⟨.dict [(.str "X", .str "xy")], false, []⟩, ⟨.dict [(.str "X", .list [.str "one"])], false, []⟩, ⟨.dict [(.str "X", .tuple [.str "one"]), (.str "Y", .int 1)], false, []⟩, ⟨.dict [(.str "X", .tuple [])], false, []⟩]
def nv3 : List He := [⟨.dict [(.str "one", .tuple [.str "one"])], false, []⟩, ⟨.dict [(.str "X", .tuple [.str "one"]), (.str "y", .tuple [.str "one"])], false, []⟩, ⟨.dict [(.none, .str "X")], false, []⟩, ⟨.dict [(.str "X", .bool true)], false, []⟩, ⟨.dict [(.str "X", .dict [])], false, []⟩]
def noVs : List He := nv1 ++ nv2 ++ nv3
section
variable {P : Program} {w : World} {K : PySem.W.Frag} {mg : Str → Option Value} {base : Heap}
theorem hvs_app {H : Hp} {p : Addr} : ∀ {vs ws : List V} {es fs : List He}, Paired (Hv K H p) vs es → Paired (Hv K H p) ws fs → Paired (Hv K H p) (vs ++ ws) (es ++ fs)
  | _, _, _, _, .nil, b => b
  | _, _, _, _, .cons r t, b => .cons r (hvs_app t b)
theorem hvs_same {H H' : Hp} {p : Addr} {vs : List V} {es : List He} (s : Same H H') (h : Paired (Hv K H p) vs es) : Paired (Hv K H' p) vs es := Paired.mapP h fun _ _ z => z.same s
def spNoV (K : PySem.W.Frag) : Sp := fun vs H Q _ => ∃ p : Addr, vs = [] ∧ (∃ o, H p = some o) ∧ ∀ l H' xs, Same H H' → H l = none → H' l = some (.lst xs) → Paired (Hv K H' p) xs noVs → Q (.ref l) H'
theorem ok_noV (D : DefAt K mg "_law_no_values" s_Lno_values []) : Cal P w K mg base 1 "_law_no_values" [] (spNoV K) := by
  refine D.cal sc_Lno_values (fun vs H Q E h => ?_) (fun f cdv A outer s H vs Q E hr h => ?_)
  · obtain ⟨p, rfl, _⟩ := h
    rfl
  obtain ⟨p, rfl, ⟨o, ho⟩, q⟩ := h
  have hu := Nat.lt_of_succ_lt (hug hr)
  have len : ∀ n, n ≤ 1000 → n ≤ sizeLine := fun n h => by rw [sizeLine_eq]; omega
  refine ⟨_, pss_cons (ps_set (i := 0) sc_Lno_values.nd rfl (Or.inl rfl) (pe_lst (show PA _ _ (tHvs K p nv1) from (hv_cons (hv_ob ob_non (fun m z => by cases z)) (hv_cons (hv_ob ob_bl (fun m z => by cases z)) (hv_cons (hv_ob (ob_i pe_int fun σ H Q z => z) (fun m z => by cases z)) (hv_cons (hv_ob ob_str (fun m z => by cases z)) (hv_cons (hv_ob (ob_tup ob_nil) (fun m z => by cases z)) (hv_cons (hv_ob (ob_lst [] pa_nil) (fun m z => by cases z)) (hv_cons (hv_ob (ob_tup (ob_cons (ob_tup (ob_cons ob_str (ob_cons ob_str ob_nil))) ob_nil)) (fun m z => by cases z)) (hv_cons hv_l1 (hv_cons (hv_d1 (k := Sum.inr "x") (tk := .str "x") pe_str (fun σ H Q z => z) (fun H => .str "x" (by decide +kernel)) ob_str rfl (by decide) (by decide +kernel) (fun z => by cases z)) (hv_cons (hv_d1 (k := Sum.inr "XY") (tk := .str "XY") pe_str (fun σ H Q z => z) (fun H => .str "XY" (by decide +kernel)) ob_str rfl (by decide) (by decide +kernel) (fun z => by cases z)) (hv_cons (hv_d1 (k := Sum.inr "") (tk := .str "") pe_str (fun σ H Q z => z) (fun H => .str "" (by decide +kernel)) ob_str rfl (by decide) (by decide +kernel) (fun z => by cases z)) (hv_cons (hv_d1 (k := Sum.inl 1) (tk := .oth) pe_int (fun σ H Q z => z) (fun H => .oth (.base (.int 1)) (kit_ty (by decide +kernel)) (kit_ty (by decide +kernel))) ob_str rfl (by decide) (by decide +kernel) (fun z => by cases z)) hv_nil)))))))))))))))
    (pss_cons (ps_set (i := 0) sc_Lno_values.nd rfl (Or.inl rfl) (pe_op op_cat (pv 0) (pe_lst (show PA _ _ (tHvs K p nv2) from (hv_cons (hv_gT hu (by decide +kernel) (by decide +kernel) pe_str) (hv_cons (hv_d1 (k := Sum.inr "X") (tk := .str "X") pe_str (fun σ H Q z => z) (fun H => .str "X" (by decide +kernel)) ob_non rfl (by decide) (by decide +kernel) (fun z => by cases z)) (hv_cons (hv_d1 (k := Sum.inr "X") (tk := .str "X") pe_str (fun σ H Q z => z) (fun H => .str "X" (by decide +kernel)) ob_str rfl (by decide) (by decide +kernel) (fun z => by cases z)) (hv_cons (hv_d1 (k := Sum.inr "X") (tk := .str "X") pe_str (fun σ H Q z => z) (fun H => .str "X" (by decide +kernel)) (ob_lst ["one"] (pa_cons pe_str pa_nil)) rfl (by decide) (by decide +kernel) (fun z => by cases z)) (hv_cons (hv_d2 (by decide) (by decide +kernel) (by decide +kernel) pe_str pe_str (ob_tup (ob_cons ob_str ob_nil)) (ob_i pe_int fun σ H Q z => z) rfl rfl (by decide) (by decide) (by decide +kernel)) (hv_cons (hv_d1 (k := Sum.inr "X") (tk := .str "X") pe_str (fun σ H Q z => z) (fun H => .str "X" (by decide +kernel)) (ob_tup ob_nil) rfl (by decide) (by decide +kernel) (fun z => by cases z)) hv_nil))))))))))
    (pss_one (ps_ret (pe_op op_cat (pv 0) (pe_lst (show PA _ _ (tHvs K p nv3) from (hv_cons (hv_d1 (k := Sum.inr "one") (tk := .str "one") pe_str (fun σ H Q z => z) (fun H => .str "one" (by decide +kernel)) (ob_tup (ob_cons ob_str ob_nil)) rfl (by decide) (by decide +kernel) (fun z => by cases z)) (hv_cons (hv_d2 (by decide) (by decide +kernel) (by decide +kernel) pe_str pe_str (ob_tup (ob_cons ob_str ob_nil)) (ob_tup (ob_cons ob_str ob_nil)) rfl rfl (by decide) (by decide) (by decide +kernel)) (hv_cons (hv_gN (by decide +kernel) pe_non pe_str) (hv_cons (hv_d1 (k := Sum.inr "X") (tk := .str "X") pe_str (fun σ H Q z => z) (fun H => .str "X" (by decide +kernel)) ob_bl rfl (by decide) (by decide +kernel) (fun z => by cases z)) (hv_cons (hv_dd (by decide +kernel) pe_str) hv_nil))))))))))), ?_⟩
  refine ⟨⟨o, ho⟩, fun v1 H1 s1 x1 => ?_⟩
  have n1 : v1.length = 12 := Paired.length x1
  refine ⟨len _ (by omega), fun a1 h1 => ?_⟩
  have t1 := s1.trans (same_new h1 (.lst v1))
  refine ⟨_, rfl, ⟨o, t1 _ _ ho⟩, fun v2 H2 s2 x2 => ?_⟩
  have n2 : v2.length = 6 := Paired.length x2
  refine ⟨len _ (by omega), fun b2 g2 => ⟨a1, b2, _, _, rfl, rfl, same_new g2 _ _ _ (s2 _ _ upd_same), upd_same, len _ (by omega), fun a2 h2 => ?_⟩⟩
  have c2 := (same_new g2 (.lst v2)).trans (same_new h2 (.lst (v1 ++ v2)))
  have x12 := hvs_app (hvs_same (((same_new h1 _).trans s2).trans c2) x1) (hvs_same c2 x2)
  have t2 := (t1.trans s2).trans c2
  have l2 := upd_same (H := upd H2 b2 (.lst v2)) (a := a2) (o := .lst (v1 ++ v2))
  have n12 : (v1 ++ v2).length = 18 := by rw [List.length_append]; omega
  refine ⟨_, rfl, ⟨o, t2 _ _ ho⟩, fun v3 H3 s3 x3 => ?_⟩
  have n3 : v3.length = 5 := Paired.length x3
  refine ⟨len _ (by omega), fun b3 g3 => ⟨a2, b3, _, _, rfl, rfl, same_new g3 _ _ _ (s3 _ _ l2), upd_same, len _ (by omega), fun a3 h3 => ?_⟩⟩
  have c3 := (same_new g3 (.lst v3)).trans (same_new h3 (.lst (v1 ++ v2 ++ v3)))
  have x13 := hvs_app (hvs_same (s3.trans c3) x12) (hvs_same c3 x3)
  have t3 := (t2.trans s3).trans c3
  exact q a3 _ _ t3 ((t2.trans (s3.trans (same_new g3 (.lst v3)))).free h3) upd_same x13
end
end N

namespace N
open PySem PySem.Spec PyProof.Rows L2
theorem strOk_of {x : Str} (h : ∀ c ∈ x.cps.toList, c < 1114112) : PyData.strOk x = true := by
  obtain ⟨⟨l⟩⟩ := x
  show Array.all _ _ = true
  rw [List.all_toArray, List.all_eq_true]
  intro c hc
  exact decide_eq_true (h c hc)
theorem let_strOk {x : Str} (h : isLet x = true) : PyData.strOk x = true := by
  obtain ⟨c, e, h1, h2⟩ := isLet_iff.mp h
  refine strOk_of fun z hz => ?_
  rw [e] at hz
  have := List.mem_singleton.mp hz
  omega
theorem nam_strOk {x : Str} (h : isNam x = true) : PyData.strOk x = true := by
  obtain ⟨_, _, h3⟩ := isNam_iff.mp h
  refine strOk_of fun z hz => ?_
  have := h3 z hz
  unfold Low at this
  omega
end N

namespace N
open PySem PySem.Spec PyProof.Rows L2 StX
/-! ### kinds as data -/
def Kd.pd : Kd → PyData
  | L c => .str c
  | C0 n => .tuple [.str n]
  | C1 n a => .tuple [.str n, a.pd]
  | C2 n a b => .tuple [.str n, a.pd, b.pd]
theorem pd_lay : ∀ {k : Kd}, k.ok → k.pd.canLay0 = true
  | .L c, h => by simp [Kd.pd, PyData.canLay0, let_strOk (show isLet c = true from h)]
  | .C0 n, h => by simp [Kd.pd, PyData.canLay0, PyData.canLayAll0, nam_strOk (show isNam n = true from h)]
  | .C1 n a, h => by simp [Kd.pd, PyData.canLay0, PyData.canLayAll0, nam_strOk h.1, pd_lay h.2]
  | .C2 n a b, h => by simp [Kd.pd, PyData.canLay0, PyData.canLayAll0, nam_strOk h.1, pd_lay h.2.1, pd_lay h.2.2]
theorem pd_depth : ∀ k : Kd, k.pd.depth ≤ k.depth + 1
  | .L c => by simp [Kd.pd, PyData.depth, Kd.depth]
  | .C0 n => by simp [Kd.pd, PyData.depth, PyData.depthAll, Kd.depth]
  | .C1 n a => by
    have := pd_depth a
    simp only [Kd.pd, PyData.depth, PyData.depthAll, Kd.depth]
    omega
  | .C2 n a b => by
    have := pd_depth a
    have := pd_depth b
    simp only [Kd.pd, PyData.depth, PyData.depthAll, Kd.depth]
    omega
theorem kp_dp {K : PySem.W.Frag} {H : Hp} : ∀ {k : Kd} {v : V}, Kp K H v k → Dp K H v k.pd
  | .L c, v, h => by
    obtain ⟨e, _⟩ := kp_L h rfl
    rw [e]
    exact .str c
  | .C0 n, v, h => by
    obtain ⟨a, xs, e, hq, _, r⟩ := kp_C h rfl
    rw [e]
    cases r
    exact .tup hq (.cons (.str n) .nil)
  | .C1 n b, v, h => by
    obtain ⟨a, xs, e, hq, _, r⟩ := kp_C h rfl
    rw [e]
    cases r with
    | cons h1 t =>
      cases t
      exact .tup hq (.cons (.str n) (.cons (kp_dp h1) .nil))
  | .C2 n b c, v, h => by
    obtain ⟨a, xs, e, hq, _, r⟩ := kp_C h rfl
    rw [e]
    cases r with
    | cons h1 t =>
      cases t with
      | cons h2 t =>
        cases t
        exact .tup hq (.cons (.str n) (.cons (kp_dp h1) (.cons (kp_dp h2) .nil)))

theorem pd_show : ∀ k : Kd, k.pd.showable = true
  | .L c => by simp only [Kd.pd, PyData.showable]
  | .C0 n => by simp only [Kd.pd, PyData.showable, PyData.showableAll, Bool.and_self]
  | .C1 n a => by simp only [Kd.pd, PyData.showable, PyData.showableAll, Bool.and_self, pd_show a]
  | .C2 n a b => by simp only [Kd.pd, PyData.showable, PyData.showableAll, Bool.and_self, pd_show a, pd_show b]
theorem pd_noDict {k : Kd} (h : k.ok) : k.pd.hasDict = false := PyData.hasDict_of_canLay _ (pd_lay h)
theorem pd_ints : ∀ k : Kd, k.pd.intsShort 8 = true
  | .L c => by simp only [Kd.pd, PyData.intsShort]
  | .C0 n => by simp only [Kd.pd, PyData.intsShort, PyData.intsShortAll, Bool.and_self]
  | .C1 n a => by simp only [Kd.pd, PyData.intsShort, PyData.intsShortAll, Bool.and_self, pd_ints a]
  | .C2 n a b => by simp only [Kd.pd, PyData.intsShort, PyData.intsShortAll, Bool.and_self, pd_ints a, pd_ints b]
theorem pd_short {k : Kd} (h : k.ok) : k.pd.leavesShort 8 = true := PyData.leavesShort_of_canLay0 8 _ (pd_lay h) (pd_ints k)
theorem nam_size {x : Str} (h : isNam x = true) : x.cps.size ≤ 8 := (isNam_iff.mp h).2.1
theorem let_size {x : Str} (h : isLet x = true) : x.cps.size = 1 := by
  obtain ⟨c, e, _⟩ := isLet_iff.mp h
  rw [← Array.length_toList, e]
  rfl
theorem pd_weight : ∀ {k : Kd}, k.ok → k.pd.weight ≤ 20 * k.nds
  | .L c, h => by
    have := let_size (show isLet c = true from h)
    simp only [Kd.pd, PyData.weight, Kd.nds]
    omega
  | .C0 n, h => by
    have := nam_size (show isNam n = true from h)
    simp only [Kd.pd, PyData.weight, PyData.weightAll, Kd.nds]
    omega
  | .C1 n a, h => by
    have := nam_size h.1
    have := pd_weight h.2
    simp only [Kd.pd, PyData.weight, PyData.weightAll, Kd.nds]
    omega
  | .C2 n a b, h => by
    have := nam_size h.1
    have := pd_weight h.2.1
    have := pd_weight h.2.2
    simp only [Kd.pd, PyData.weight, PyData.weightAll, Kd.nds]
    omega
theorem depth_le_nds : ∀ k : Kd, k.depth ≤ k.nds
  | .L c => by simp [Kd.depth]
  | .C0 n => by simp [Kd.depth, Kd.nds]
  | .C1 n a => by
    have := depth_le_nds a
    simp only [Kd.depth, Kd.nds]
    omega
  | .C2 n a b => by
    have := depth_le_nds a
    have := depth_le_nds b
    simp only [Kd.depth, Kd.nds]
    omega
/-! ### what filling does to the number of names, the depth, the form -/
theorem look_cases (m : Map) (c : Str) : (∃ q ∈ m, q.1 = c ∧ look m c = q.2) ∨ look m c = .L c := by
  unfold look
  cases h : m.find? (fun p => decide (p.1 = c)) with
  | none => exact .inr rfl
  | some q => exact .inl ⟨q, List.mem_of_find?_eq_some h, by simpa using List.find?_some h, rfl⟩
theorem look_nds {m : Map} (h : ∀ q ∈ m, q.2.nds ≤ 9) (c : Str) : (look m c).nds ≤ 9 := by
  rcases look_cases m c with ⟨q, hq, _, e⟩ | e
  · rw [e]; exact h q hq
  · rw [e]; simp [Kd.nds]
theorem look_depth {m : Map} (h : ∀ q ∈ m, q.2.nds ≤ 9) (c : Str) : (look m c).depth ≤ 9 := Nat.le_trans (depth_le_nds _) (look_nds h c)
theorem fill_nds {m : Map} (h : ∀ q ∈ m, q.2.nds ≤ 9) : ∀ k : Kd, (fillK m k).nds ≤ 9 * k.nds
  | .L c => by
    show (look m c).nds ≤ 9 * 1
    have := look_nds h c
    omega
  | .C0 n => by show 1 ≤ 9 * 1; omega
  | .C1 n a => by
    have := fill_nds h a
    show 1 + (fillK m a).nds ≤ 9 * (1 + a.nds)
    omega
  | .C2 n a b => by
    have := fill_nds h a
    have := fill_nds h b
    show 1 + (fillK m a).nds + (fillK m b).nds ≤ 9 * (1 + a.nds + b.nds)
    omega
theorem fill_depth {m : Map} (h : ∀ q ∈ m, q.2.nds ≤ 9) : ∀ k : Kd, (fillK m k).depth ≤ k.depth + 9
  | .L c => by
    show (look m c).depth ≤ 0 + 9
    have := look_depth h c
    omega
  | .C0 n => by show 1 ≤ 1 + 9; omega
  | .C1 n a => by
    have := fill_depth h a
    show 1 + (fillK m a).depth ≤ 1 + a.depth + 9
    omega
  | .C2 n a b => by
    have := fill_depth h a
    have := fill_depth h b
    show 1 + max (fillK m a).depth (fillK m b).depth ≤ 1 + max a.depth b.depth + 9
    omega
theorem fill_ok {m : Map} (h : ∀ q ∈ m, q.2.ok) : ∀ {k : Kd}, k.ok → (fillK m k).ok
  | .L c, hk => by
    show (look m c).ok
    rcases look_cases m c with ⟨q, hq, _, e⟩ | e
    · rw [e]; exact h q hq
    · rw [e]; exact hk
  | .C0 n, hk => hk
  | .C1 n a, hk => ⟨hk.1, fill_ok h (k := a) hk.2⟩
  | .C2 n a b, hk => ⟨hk.1, fill_ok h (k := a) hk.2.1, fill_ok h (k := b) hk.2.2⟩
theorem look_hit {m : Map} (hn : (m.map Prod.fst).Nodup) {q : Str × Kd} (hq : q ∈ m) : look m q.1 = q.2 := by
  unfold look
  induction m with
  | nil => cases hq
  | cons p m ih =>
    rw [List.map_cons, List.nodup_cons] at hn
    rcases List.mem_cons.mp hq with e | hq
    · rw [e, List.find?_cons_of_pos (by simp)]
    · have hne : ¬ p.1 = q.1 := fun e => hn.1 (by rw [e]; exact List.mem_map.mpr ⟨q, hq, rfl⟩)
      rw [List.find?_cons_of_neg (by simpa using hne)]
      exact ih hn.2 hq
theorem look_miss {m : Map} {c : Str} (h : c ∉ m.map Prod.fst) : look m c = .L c := by
  rcases look_cases m c with ⟨q, hq, e, _⟩ | e
  · exact absurd (List.mem_map.mpr ⟨q, hq, e⟩) h
  · exact e
theorem look_rev {m : Map} (hn : (m.map Prod.fst).Nodup) (c : Str) : look m.reverse c = look m c := by
  have hn2 : (m.reverse.map Prod.fst).Nodup := by
    rw [List.map_reverse]
    exact (List.reverse_perm _).nodup_iff.mpr hn
  by_cases h : c ∈ m.map Prod.fst
  · obtain ⟨q, hq, rfl⟩ := List.mem_map.mp h
    rw [look_hit hn hq, look_hit hn2 (List.mem_reverse.mpr hq)]
  · rw [look_miss h, look_miss (by rw [List.map_reverse]; exact fun z => h (List.mem_reverse.mp z))]
theorem fill_rev {m : Map} (hn : (m.map Prod.fst).Nodup) : ∀ k : Kd, fillK m.reverse k = fillK m k
  | .L c => look_rev hn c
  | .C0 n => rfl
  | .C1 n a => by
    show Kd.C1 n (fillK m.reverse a) = Kd.C1 n (fillK m a)
    rw [fill_rev hn a]
  | .C2 n a b => by
    show Kd.C2 n (fillK m.reverse a) (fillK m.reverse b) = Kd.C2 n (fillK m a) (fillK m b)
    rw [fill_rev hn a, fill_rev hn b]
end N

namespace N
open PySem PySem.Spec PyProof.Rows L2 StX
/-! ### texts -/
def Kd.txt : Kd → List Nat
  | L c => c.cps.toList
  | C0 n => n.cps.toList
  | C1 n a => n.cps.toList ++ ([40] ++ (a.txt ++ [41]))
  | C2 n a b => n.cps.toList ++ ([40] ++ (a.txt ++ ([44, 32] ++ (b.txt ++ [41]))))
abbrev Itm := Str ⊕ Kd
def Itm.tg : Itm → Tg
  | .inl s => .str s
  | .inr k => k.tg
def Itm.txt : Itm → List Nat
  | .inl s => s.cps.toList
  | .inr k => k.txt
def Kd.wt : Kd → Nat
  | L _ => 1
  | C0 _ => 2
  | C1 _ a => 4 + a.wt
  | C2 _ a b => 6 + a.wt + b.wt
def Itm.wt : Itm → Nat
  | .inl _ => 1
  | .inr k => k.wt
def par0 : Str := "("
def par1 : Str := ", "
def par2 : Str := ")"
/-- what written makes of a class kind -/
def wrI : Kd → List Itm
  | .L c => [.inl c]
  | .C0 n => [.inl n]
  | .C1 n a => [.inl n, .inl par0, .inr a, .inl par2]
  | .C2 n a b => [.inl n, .inl par0, .inr a, .inl par1, .inr b, .inl par2]
theorem wrI_txt {k : Kd} (h : k.isC = true) : k.txt = (wrI k).flatMap Itm.txt := by
  have e0 : par0.cps.toList = [40] := by decide +kernel
  have e1 : par1.cps.toList = [44, 32] := by decide +kernel
  have e2 : par2.cps.toList = [41] := by decide +kernel
  cases k <;> first | (cases h; done) | simp [wrI, Kd.txt, Itm.txt, e0, e1, e2]
theorem wrI_wt {k : Kd} (h : k.isC = true) : ((wrI k).map Itm.wt).sum + 1 ≤ k.wt := by
  cases k with
  | L c => cases h
  | C0 n => exact Nat.le_refl _
  | C1 n a =>
    show 1 + (1 + (a.wt + (1 + 0))) + 1 ≤ 4 + a.wt
    omega
  | C2 n a b =>
    show 1 + (1 + (a.wt + (1 + (b.wt + (1 + 0))))) + 1 ≤ 6 + a.wt + b.wt
    omega
theorem wt_pos (k : Itm) : 1 ≤ k.wt := by
  cases k with
  | inl s => simp [Itm.wt]
  | inr k => cases k <;> simp [Itm.wt, Kd.wt] <;> omega
theorem wt_nds (k : Kd) : k.wt ≤ 6 * k.nds := by
  induction k with
  | L c => simp [Kd.wt, Kd.nds]
  | C0 n => simp [Kd.wt, Kd.nds]
  | C1 n a ih => simp only [Kd.wt, Kd.nds]; omega
  | C2 n a b ih1 ih2 => simp only [Kd.wt, Kd.nds]; omega
theorem txt_len {k : Kd} (h : k.ok) : k.txt.length ≤ 12 * k.nds := by
  have hn : ∀ n : Str, isNam n = true → n.cps.toList.length ≤ 8 := fun n h => by
    have := (isNam_iff.mp h).2.1
    unfold Str.length at this
    rw [Array.length_toList]
    exact this
  induction k with
  | L c =>
    obtain ⟨x, e, _⟩ := isLet_iff.mp (show isLet c = true from h)
    simp only [Kd.txt, Kd.nds, e, List.length_singleton]
    omega
  | C0 n =>
    have := hn n h
    simp only [Kd.txt, Kd.nds]
    omega
  | C1 n a ih =>
    have h1 := hn n h.1
    have h2 := ih h.2
    simp only [Kd.txt, Kd.nds, List.length_append, List.length_singleton]
    omega
  | C2 n a b ih1 ih2 =>
    have h1 := hn n h.1
    have h2 := ih1 h.2.1
    have h3 := ih2 h.2.2
    simp only [Kd.txt, Kd.nds, List.length_append, List.length_singleton, List.length_cons, List.length_nil]
    omega
theorem join_empty (ys : List Str) : (Txt.join "" ys).cps.toList = ys.flatMap fun y => y.cps.toList := by
  have h1 : ∀ ps : List (List Nat), TL.joinL [] ps = ps.flatten := fun ps => by
    induction ps with
    | nil => rfl
    | cons p r ih =>
      cases r with
      | nil => simp [TL.joinL]
      | cons q r => simp only [TL.joinL, List.nil_append, List.flatten_cons]; rw [ih]; simp
  have h2 : Txt.join "" ys = Str.join "" ys := StrLaws.glued_eq_join _ _
  rw [h2]
  have h3 := TL.tl_join "" ys
  rw [show TL.tl ("" : Str) = [] by decide +kernel, h1] at h3
  rw [show (Str.join "" ys).cps.toList = TL.tl (Str.join "" ys) from rfl, h3, List.flatMap_def]
theorem sum_len : ∀ ys : List Str, (ys.map (·.length)).sum = (ys.flatMap fun y => y.cps.toList).length
  | [] => rfl
  | y :: r => by
    rw [List.map_cons, List.sum_cons, List.flatMap_cons, List.length_append, sum_len r, Array.length_toList]
    rfl
section
variable {P : Program} {w : World} {K : PySem.W.Frag} {mg : Str → Option Value} {base : Heap}
abbrev Its (K : PySem.W.Frag) (H : Hp) (vs : List V) (is : List Itm) : Prop := ThAll K H vs (is.map Itm.tg)
theorem Its.snoc {H : Hp} {vs : List V} {is : List Itm} (h : Its K H vs is) (hn : is ≠ []) : ∃ v vs' k is', vs = vs' ++ [v] ∧ is = is' ++ [k] ∧ Th K H v (Itm.tg k) ∧ Its K H vs' is' := by
  obtain ⟨v, vs', t, ts', e1, e2, h1, h2⟩ := ThAll.snoc h (by simpa using hn)
  obtain ⟨is', k, rfl⟩ : ∃ is' k, is = is' ++ [k] := ⟨is.dropLast, is.getLast hn, (List.dropLast_concat_getLast hn).symm⟩
  rw [List.map_append, List.map_singleton] at e2
  obtain ⟨e3, e4⟩ := List.append_inj' e2 rfl
  cases e4
  exact ⟨v, vs', k, is', e1, rfl, h1, by rw [← e3] at h2; exact h2⟩
def spWritten (K : PySem.W.Frag) : Sp := fun vs H Q _ => ∃ (v : V) (k : Kd), vs = [v] ∧ Kp K H v k ∧ k.isC = true ∧ ∀ p H' xs, Same H H' → H p = none → H' p = some (.lst xs) → Its K H' xs (wrI k) → Q (.ref p) H'
/-- the row behind some arguments -/
def rowV (n : Str) : List V → List V
  | [] => [.str n]
  | [x] => [.str n, .str par0, x]
  | x :: y :: _ => [.str n, .str par0, x, .str par1, y]
theorem ok_written (G : Glo mg) (D : DefAt K mg "written" s_written ["kind"]) : Cal P w K mg base 1 "written" ["kind"] (spWritten K) := by
  refine D.cal sc_written (fun vs H Q E h => ?_) (fun f cdv A outer s H vs Q E hr h => ?_)
  · obtain ⟨v, k, rfl, _⟩ := h
    rfl
  obtain ⟨v, k, rfl, hT, hc, q⟩ := h
  refine ⟨_, pss_cons (ps_set (i := 1) sc_written.nd rfl (Or.inl rfl) (pe_lst (pa_cons (pe_ix ix_tup (pv 0) pe_int (fun _ _ => rfl)) pa_nil)))
    (pss_cons (ps_set (i := 2) sc_written.nd rfl (Or.inl rfl) pe_str)
    (pss_cons (ps_for (passes_of rfl) rfl (pi_tup (pe_slice sl_tup (pv 0) (po_some pe_int) po_none)) (pg_name (i := 3) sc_written.nd rfl (Or.inl rfl))
      (pss_cons (ps_expr (pe_bm PySem.F.plainAttrs_list PySem.F.slot_list_extend PySem.F.type_list_extend mt_extend (pv 1) (pa_cons (pe_lst (pa_cons (pv 2) (pa_cons (pv 3) pa_nil))) pa_nil)))
        (pss_one (ps_set (i := 2) sc_written.nd rfl (Or.inl rfl) pe_str))))
    (pss_cons (ps_if (pt_cmpR op_gt (pe_callB call_len_seq (by rfl) G.len PySem.boot_len (pa_cons (pv 0) pa_nil)) pe_int (nomark _))
      (pss_one (ps_expr (pe_bm PySem.F.plainAttrs_list PySem.F.slot_list_append PySem.F.type_list_append mt_append (pv 1) (pa_cons pe_str pa_nil)))) pss_nil)
    (pss_one (ps_ret (pv 1)))))), ?_⟩
  obtain ⟨a, zs, rfl, hq, hnl, hz⟩ := kp_C hT hc
  have hzl := Kps.length hz
  have hal := Kd.args_len k
  refine ⟨_, rfl, a, _, 0, _, rfl, rfl, hq, atI_nat (j := 0) rfl, by show 1 ≤ sizeLine; decide, fun r hr0 => ?_⟩
  have s1 := same_new hr0 (.lst [.str k.nm])
  refine ⟨_, rfl, 1, rfl, a, _, rfl, (stay_same s1).tup _ _ hq, cut_tail_ne _ (by simp), fun p hp => ?_⟩
  rw [cut_tail]
  have nrp : r ≠ p := ne_of_none upd_same hp
  have s2 := s1.trans (same_new hp (.tup zs))
  refine ⟨p, rfl, ⟨zs, .inl (.inl upd_same)⟩, for_tup (K := K) (a := p) (xs := zs) (fun i σ H' => ∃ y3, σ = [some (.ref a), some (.ref r), some (.str (if i = 0 then par0 else par1)), y3] ∧ Same H H' ∧ H' p = some (.tup zs) ∧ H' r = some (.lst (rowV k.nm (zs.take i))))
    ⟨none, rfl, s2, upd_same, by rw [upd_ne nrp]; exact upd_same⟩ (fun i σ H' _ ⟨_, _, _, h, _⟩ => .inl (.inl h)) (fun i x σ H' hx ⟨y3, eσ, sm, hp', hr'⟩ => ?_) (fun σ H' ⟨y3, eσ, sm, hp', hr'⟩ => ?_)⟩
  · subst eσ
    have hi : i < zs.length := (List.getElem?_eq_some_iff.mp hx).1
    have hrl : (rowV k.nm (zs.take i)).length ≤ 5 := by
      match zs.take i with
      | [] => simp [rowV]
      | [x] => simp [rowV]
      | x :: y :: _ => simp [rowV]
    refine ⟨_, rfl, .inl ⟨rfl, _, SqL.of hr'⟩, _, rfl, x, rfl, by show 2 ≤ sizeLine; decide, fun t ht => ?_⟩
    have nrt : r ≠ t := ne_of_none hr' ht
    have npt : p ≠ t := ne_of_none hp' ht
    refine ⟨r, t, _, _, rfl, rfl, by rw [upd_ne nrt]; exact hr', upd_same, sz5 (by show _ + 2 ≤ 100000; omega), ?_⟩
    have erow : rowV k.nm (zs.take i) ++ [.str (if i = 0 then par0 else par1), x] = rowV k.nm (zs.take (i + 1)) := by
      rw [take_snoc hx]
      match zs, i, hi, hx, hal, hzl with
      | _ :: _, 0, _, _, _, _ => rfl
      | [_, _], 1, _, _, _, _ => rfl
      | [_], i + 1, hi, _, _, _ => simp at hi
      | [_, _], i + 2, hi, _, _, _ => exact absurd hi (by simp only [List.length_cons, List.length_nil]; omega)
      | _ :: _ :: _ :: _, _, _, _, hal, hzl => simp only [List.length_cons] at hzl; omega
    refine ⟨some x, ?_, same_mut (sm.trans (same_new ht _)) hr0, ?_, ?_⟩
    · rw [if_neg (Nat.succ_ne_zero i)]
      rfl
    · rw [upd_ne nrp.symm, upd_ne npt]; exact hp'
    · rw [← erow]; exact upd_same
  · subst eσ
    rw [List.take_length] at hr'
    have sT : Stay K H H' := stay_same sm
    have hz' : Kps K H' zs k.args := ThAll.stay sT hz
    refine ⟨_, rfl, a, _, rfl, .inr (sT.tup _ _ hq), _, _, rfl, rfl, _, rfl, ?_⟩
    have e0 : par0.length ≤ 100000 := by decide +kernel
    have e1 : par1.length ≤ 100000 := by decide +kernel
    have e2 : par2.length ≤ 100000 := by decide +kernel
    refine ite2 (fun c => ?_) (fun c => ?_)
    · have c' : ((((.str k.nm : V) :: zs).length : Nat) : Int) > 1 := of_decide_eq_true c
      rw [List.length_cons] at c'
      have hrl : (rowV k.nm zs).length ≤ 5 := by
        match zs with
        | [] => simp [rowV]
        | [x] => simp [rowV]
        | x :: y :: _ => simp [rowV]
      refine ⟨_, rfl, .inl ⟨rfl, _, SqL.of hr'⟩, r, _, _, rfl, rfl, hr', Nat.lt_of_le_of_lt (show _ ≤ 100000 by omega) (by decide), ?_⟩
      refine ⟨_, rfl, q r _ _ (same_mut sm hr0) hr0 upd_same ?_⟩
      refine ThAll.stay (stay_lst hr') ?_
      cases k with
      | L c => cases hc
      | C0 n => have : zs.length = 0 := hzl; omega
      | C1 n b =>
        match zs, hz', hzl with
        | [x], hz', _ =>
          cases hz' with
          | cons h1 _ => exact .cons (.str _ hnl) (.cons (.str _ e0) (.cons h1 (.cons (.str _ e2) .nil)))
      | C2 n b d =>
        match zs, hz', hzl with
        | [x, y], hz', _ =>
          cases hz' with
          | cons h1 h2 =>
            cases h2 with
            | cons h3 _ => exact .cons (.str _ hnl) (.cons (.str _ e0) (.cons h1 (.cons (.str _ e1) (.cons h3 (.cons (.str _ e2) .nil)))))
    · have c' : ¬ ((((.str k.nm : V) :: zs).length : Nat) : Int) > 1 := of_decide_eq_false (Bool.eq_false_iff.mpr c)
      rw [List.length_cons] at c'
      have hz0 : zs = [] := List.length_eq_zero_iff.mp (by omega)
      subst hz0
      refine ⟨_, rfl, q r _ _ sm hr0 hr' ?_⟩
      cases k with
      | L c => cases hc
      | C0 n => exact .cons (.str _ hnl) .nil
      | C1 n b => cases hzl
      | C2 n b d => cases hzl
def spText (K : PySem.W.Frag) : Sp := fun vs H Q _ => ∃ (v : V) (k : Kd), vs = [v] ∧ Kp K H v k ∧ k.ok ∧ k.nds ≤ 10000 ∧ ∀ H' (t : Str), Same H H' → t.cps.toList = k.txt → Q (.str t) H'
theorem strs_of {H : Hp} {ys : List Str} : True := trivial
theorem ok_text_of (G : Glo mg) (CW : Cal P w K mg base 1 "written" ["kind"] (spWritten K)) (D : DefAt K mg "text_of" s_text_of ["kind"]) : Cal P w K mg base 2 "text_of" ["kind"] (spText K) := by
  refine D.cal sc_text_of (fun vs H Q E h => ?_) (fun f cdv A outer s H vs Q E hr h => ?_)
  · obtain ⟨v, k, rfl, _⟩ := h
    rfl
  obtain ⟨v, k, rfl, hT, hok, hn, q⟩ := h
  refine ⟨_, pss_cons (ps_set (i := 1) sc_text_of.nd rfl (Or.inl rfl) (pe_lst pa_nil)) (pss_cons (ps_set (i := 2) sc_text_of.nd rfl (Or.inl rfl) (pe_lst (pa_cons (pv 0) pa_nil)))
    (pss_cons (ps_while (passes_of rfl) (pt_truth (pv 2) (by intro _; rfl))
      (pss_cons (ps_set (i := 3) sc_text_of.nd rfl (Or.inl rfl) (pe_bm0 PySem.F.plainAttrs_list PySem.F.slot_list_pop PySem.F.type_list_pop mt_pop (pv 2)))
        (pss_one (ps_if (pt_val (pe_isi G.isinstance G.str b_str rfl rfl (pv 3)))
          (pss_one (ps_expr (pe_bm PySem.F.plainAttrs_list PySem.F.slot_list_append PySem.F.type_list_append mt_append (pv 1) (pa_cons (pv 3) pa_nil))))
          (pss_one (ps_expr (pe_bm PySem.F.plainAttrs_list PySem.F.slot_list_extend PySem.F.type_list_extend mt_extend (pv 2) (pa_cons (pe_revL (pc CW hr rfl (pa_cons (pv 3) pa_nil))) pa_nil))))))))
    (pss_one (ps_ret (pe_join pe_str (pv 1)))))), ?_⟩
  refine ⟨by show 0 ≤ sizeLine; decide, fun fo hfo => ?_⟩
  refine ⟨v, rfl, by show 1 ≤ sizeLine; decide, fun l hl => ?_⟩
  have nfl : fo ≠ l := ne_of_none upd_same hl
  have hl0 : H l = none := by rw [upd_ne nfl.symm] at hl; exact hl
  have s0 : Same H (upd (upd H fo (.lst [])) l (.lst [v])) := (same_new hfo _).trans (same_new hl _)
  have hwt := wt_nds k
  refine ⟨fun m σ H' => ∃ (ys : List Str) (xs : List V) (is : List Itm) (y : Option V), m = (is.map Itm.wt).sum ∧ σ = [some v, some (.ref fo), some (.ref l), y] ∧ Same H H' ∧ H' fo = some (.lst (ys.map V.str)) ∧ H' l = some (.lst xs) ∧ Its K H' xs is ∧ ys.length + (is.map Itm.wt).sum ≤ 60000 ∧ k.txt = (ys.flatMap fun y => y.cps.toList) ++ is.reverse.flatMap Itm.txt,
    ⟨_, [], [v], [.inr k], _, rfl, rfl, s0, by rw [upd_ne nfl]; exact upd_same, upd_same, .cons (hT.stay (stay_same s0)) .nil, by simp [Itm.wt]; omega, by simp [Itm.txt]⟩, fun m σ H' hW => ?_⟩
  obtain ⟨ys, xs, is, y, rfl, rfl, sm, hf, hx, hB, hle, he⟩ := hW
  refine ⟨_, rfl, _, .inl ⟨xs, SqL.of hx, rfl⟩, ?_⟩
  have hlen := hB.length
  rw [List.length_map] at hlen
  by_cases hne : is = []
  · subst hne
    have e0 : xs = [] := List.length_eq_zero_iff.mp hlen
    subst e0
    simp only [List.reverse_nil, List.flatMap_nil, List.append_nil] at he
    have htl := txt_len hok
    refine iteF ⟨⟨_, rfl⟩, _, rfl, _, fo, ys, rfl, rfl, .inl (SqL.of hf), ?_, ?_⟩
    · rw [sum_len, ← he]
      have : ("" : Str).length = 0 := by decide +kernel
      rw [this]
      omega
    · exact q H' _ sm (by rw [join_empty, he])
  obtain ⟨u, xs', k', is', e1, e2, hu, hr'⟩ := Its.snoc hB hne
  subst e1 e2
  refine iteE (snoc_ne _ _) ?_
  have en : ((is' ++ [k']).map Itm.wt).sum = (is'.map Itm.wt).sum + k'.wt := by rw [List.map_append, List.sum_append]; simp
  have hp1 := wt_pos k'
  have hge : is'.length ≤ (is'.map Itm.wt).sum := by
    clear hle en hr' he hlen hne hB hx hu
    induction is' with
    | nil => simp
    | cons i r ih =>
      have := wt_pos i
      simp only [List.length_cons, List.map_cons, List.sum_cons]
      omega
  have hl2 := hr'.length
  rw [List.length_map] at hl2
  refine ⟨fun σ2 H2 => ∃ (ys : List Str) (xs : List V) (is : List Itm) (y : Option V), (is.map Itm.wt).sum < ((is' ++ [k']).map Itm.wt).sum ∧ σ2 = [some v, some (.ref fo), some (.ref l), y] ∧ Same H H2 ∧ H2 fo = some (.lst (ys.map V.str)) ∧ H2 l = some (.lst xs) ∧ Its K H2 xs is ∧ ys.length + (is.map Itm.wt).sum ≤ 60000 ∧ k.txt = (ys.flatMap fun y => y.cps.toList) ++ is.reverse.flatMap Itm.txt,
    fun σ2 H2 ⟨ys, xs, is, y, a, b, c, d, e, f, g, h⟩ => ⟨_, a, ys, xs, is, y, rfl, b, c, d, e, f, g, h⟩, ?_⟩
  refine ⟨_, rfl, .inl ⟨rfl, _, SqL.of hx⟩, l, _, u, rfl, rfl, hx, snoc_last _ _, ?_⟩
  rw [List.dropLast_concat]
  have st : Stay K H' (upd H' l (.lst xs')) := stay_lst hx
  have hf1 : (upd H' l (.lst xs')) fo = some (.lst (ys.map V.str)) := by rw [upd_ne nfl]; exact hf
  have s2 : Same H (upd H' l (.lst xs')) := same_mut sm hl0
  have hu2 := hu.stay st
  have hr2 : Its K _ xs' is' := ThAll.stay st hr'
  rw [List.reverse_append, List.flatMap_append] at he
  simp only [List.reverse_singleton, List.flatMap_singleton] at he
  refine ⟨u, rfl, isi_str hu2 ⟨_, rfl, ?_⟩⟩
  have cases' : (∃ s : Str, k'.tg = .str s ∧ k'.txt = s.cps.toList) ∨ ∃ kk : Kd, k' = .inr kk ∧ kk.isC = true := by
    match k' with
    | .inl s => exact .inl ⟨s, rfl, rfl⟩
    | .inr (.L c) => exact .inl ⟨c, rfl, rfl⟩
    | .inr (.C0 n) => exact .inr ⟨_, rfl, rfl⟩
    | .inr (.C1 n a) => exact .inr ⟨_, rfl, rfl⟩
    | .inr (.C2 n a b) => exact .inr ⟨_, rfl, rfl⟩
  rcases cases' with ⟨c, et, ex⟩ | ⟨kk, rfl, hc⟩
  · rw [et] at hu2
    cases hu2 with
    | str _ hx0 =>
      rw [et]
      have hf2 : (upd H' l (.lst xs')) fo = some (.lst (ys.map V.str)) := hf1
      refine iteT ⟨_, rfl, .inl ⟨rfl, _, SqL.of hf2⟩, _, rfl, fo, _, _, rfl, rfl, hf2, ?_, ?_⟩
      · rw [List.length_map]
        exact Nat.lt_of_le_of_lt (show _ ≤ 100000 by omega) (by decide)
      refine ⟨ys ++ [c], xs', is', _, by omega, rfl, same_mut s2 hfo, by rw [List.map_append]; exact upd_same, by rw [upd_ne nfl.symm]; exact upd_same, ThAll.stay (stay_lst hf2) hr2, ?_, ?_⟩
      · rw [List.length_append, List.length_singleton]; omega
      · rw [he, List.flatMap_append, ex]
        simp
  · have eS : (Itm.tg (.inr kk)).isS = false := by
      show kk.tg.isS = false
      rw [Kd.isS_tg, hc]
      rfl
    rw [eS]
    have hl1 : (upd H' l (.lst xs')) l = some (.lst xs') := upd_same
    refine iteF ⟨_, rfl, .inl ⟨rfl, _, SqL.of hl1⟩, u, rfl, u, kk, rfl, hu2, hc, fun p1 H1 ws sm1 hp1' hw1 hI1 => ?_⟩
    refine ⟨p1, ws, rfl, SqL.of hw1, fun p2 hp2 => ?_⟩
    have s3 : Same (upd H' l (.lst xs')) (upd H1 p2 (.lst ws.reverse)) := sm1.trans (same_new hp2 _)
    have hw2 := wrI_wt hc
    have hwl := hI1.length
    rw [List.length_map] at hwl
    have hw6 : (wrI kk).length ≤ 6 := by cases kk <;> simp [wrI]
    have hwk : Itm.wt (.inr kk) = kk.wt := rfl
    refine ⟨l, p2, xs', ws.reverse, rfl, rfl, s3 _ _ hl1, upd_same, sz5 (by rw [List.length_reverse]; omega), ?_⟩
    have s4 : Stay K (upd H' l (.lst xs')) (upd H1 p2 (.lst ws.reverse)) := stay_same s3
    have s5 := s4.trans (stay_lst (K := K) (ys := xs' ++ ws.reverse) (s3 _ _ hl1))
    have hIr : Its K (upd (upd H1 p2 (.lst ws.reverse)) l (.lst (xs' ++ ws.reverse))) ws.reverse (wrI kk).reverse := by
      have := ThAll.rev (ThAll.stay ((stay_new hp2 (.lst ws.reverse)).trans (stay_lst (K := K) (ys := xs' ++ ws.reverse) (s3 _ _ hl1))) hI1)
      rw [← List.map_reverse] at this
      exact this
    have hall : Its K (upd (upd H1 p2 (.lst ws.reverse)) l (.lst (xs' ++ ws.reverse))) (xs' ++ ws.reverse) (is' ++ (wrI kk).reverse) := by
      have := ThAll.app (ThAll.stay s5 hr2) hIr
      rw [← List.map_append] at this
      exact this
    refine ⟨ys, xs' ++ ws.reverse, is' ++ (wrI kk).reverse, _, ?_, rfl, same_mut (s2.trans s3) hl0, by rw [upd_ne nfl]; exact s3 _ _ hf1, upd_same, hall, ?_, ?_⟩
    · rw [en, List.map_append, List.sum_append, List.map_reverse, List.sum_reverse, hwk]; omega
    · rw [List.map_append, List.sum_append, List.map_reverse, List.sum_reverse]
      rw [en, hwk] at hle
      omega
    · rw [he, List.reverse_append, List.reverse_reverse, List.flatMap_append]
      show _ ++ (kk.txt ++ _) = _
      rw [wrI_txt hc]
theorem ok_text {C : Addr} (CK : Cal P w K mg base 4 "check_type" ["thing"] (spCheck K C)) (CT : Cal P w K mg base 2 "text_of" ["kind"] (spText K)) (D : DefAt K mg "text" s_text ["kind"]) : Cal P w K mg base 5 "text" ["kind"] (spText K) := by
  refine D.cal sc_text (fun vs H Q E h => ?_) (fun f cdv A outer s H vs Q E hr h => ?_)
  · obtain ⟨v, t, rfl, _⟩ := h
    rfl
  obtain ⟨v, k, rfl, hT, hok, hn, q⟩ := h
  refine ⟨_, pss_cons (ps_expr (pcE (takes_of rfl rfl rfl rfl) CK hr rfl (pa_cons (pv 0) pa_nil))) (pss_one (ps_ret (pc CT (hr.mono (by decide)) rfl (pa_cons (pv 0) pa_nil)))), ?_⟩
  have hnd := Kd.nodes_tg k
  refine ⟨v, rfl, v, k.tg, rfl, hT, by omega, fun _ H1 sm => ?_, fun z => by rw [Kd.isT_tg hok] at z; cases z⟩
  exact ⟨v, rfl, v, k, rfl, hT.stay (stay_same sm), hok, hn, fun H2 t sm2 ht => q H2 t (sm.trans sm2) ht⟩
end
end N

namespace N
open PySem PySem.Spec PyProof.Rows L2
section
variable {P : Program} {w : World} {K : PySem.W.Frag} {mg : Str → Option Value} {base : Heap}
def spCls (K : PySem.W.Frag) : Sp := fun vs H Q _ => ∃ (a : Addr) (xs : List V) (ks : List Kd), vs = [.ref a] ∧ SqL K H a xs ∧ Kps K H xs ks ∧ xs.length ≤ 100000 ∧
  ∀ p H' ys, Same H H' → H p = none → H' p = some (.lst ys) → Kps K H' ys (ks.filter Kd.isC) → Q (.ref p) H'
theorem ok_class_types (G : Glo mg) (D : DefAt K mg "class_types" s_class_types ["kinds"]) : Cal P w K mg base 1 "class_types" ["kinds"] (spCls K) := by
  refine D.cal sc_class_types (fun vs H Q E h => ?_) (fun f cdv A outer s H vs Q E hr h => ?_)
  · obtain ⟨a, xs, ks, rfl, _⟩ := h
    rfl
  obtain ⟨a, xs, ks, rfl, hS, hk, hl, q⟩ := h
  refine ⟨_, pss_one (ps_ret (pe_lc (own := [("kind", 1)]) (g := gName 1) (tt := tB (fun σ H Q => tVar 1 σ H fun v H1 => rIsi K [v, .ty "tuple"] H1 Q)) rfl sc_class_types.nd (pi_list (pv 0)) (blkOk_by (N := nm_class_types) (sc := defScope s_class_types) (own := [("kind", 1)]) (by decide +kernel))
    (fun _ _ _ _ _ => pg_name (i := 1) sc_class_types.nd rfl (Or.inl rfl)) (fun _ _ _ _ _ => pts_one (pt_val (pe_isi G.isinstance G.tuple b_tuple rfl rfl (pv 1)))) (fun _ _ _ _ _ => pv 1))), ?_⟩
  refine ⟨_, rfl, a, rfl, ⟨xs, hS⟩, fun D hD => ?_⟩
  refine lc_list (K := K) (a := a) (xs := xs) (fun i H' => ∃ acc, Same H H' ∧ H' D = some (.lst acc) ∧ Kps K H' acc ((ks.take i).filter Kd.isC)) ⟨[], same_new hD _, upd_same, .nil⟩ (fun i H' _ ⟨acc, sm, _⟩ => sm.seq hS) (fun i x H' hx ⟨acc, sm, hacc, hk'⟩ => ?_) (fun H1 ⟨acc, sm, hacc, hk'⟩ => ?_)
  · obtain ⟨k, hk1, hk2⟩ := Kps.at hk hx
    have hx2 := hk2.stay (stay_same sm)
    have hle : acc.length ≤ 100000 := by
      have h1 := Kps.length hk'
      have h2 := Kps.length hk
      have h3 : ((ks.take i).filter Kd.isC).length ≤ ks.length := Nat.le_trans (List.length_filter_le ..) (by rw [List.length_take]; omega)
      omega
    refine ⟨rfl, x, rfl, isi_tup hx2 ⟨_, rfl, ?_⟩⟩
    rw [Kd.isTu_tg, take_snoc hk1, List.filter_append]
    cases hc : k.isC with
    | true =>
      refine iteT ⟨x, rfl, acc, hacc, Nat.lt_of_le_of_lt hle (by decide), acc ++ [x], same_mut sm hD, upd_same, ?_⟩
      have e : [k].filter Kd.isC = [k] := by simp [hc]
      rw [e]
      exact Kps.app (ThAll.stay (stay_lst hacc) hk') (.cons (hx2.stay (stay_lst hacc)) .nil)
    | false =>
      have e : [k].filter Kd.isC = [] := by simp [hc]
      rw [e, List.append_nil]
      exact iteF ⟨acc, sm, hacc, hk'⟩
  · rw [Kps.length hk, List.take_length] at hk'
    exact q D H1 acc sm hD hacc hk'
/-- a number of a kind -/
def spNum (K : PySem.W.Frag) (g : Kd → Nat) : Sp := fun vs H Q _ => ∃ (v : V) (k : Kd), vs = [v] ∧ Kp K H v k ∧ k.nds ≤ 100000 ∧ ∀ H', Same H H' → Q (.int (g k : Nat)) H'
theorem ok_size_of (G : Glo mg) (CP : Cal P w K mg base 1 "parts" ["kind"] (spParts K)) (CC : Cal P w K mg base 1 "class_types" ["kinds"] (spCls K)) (D : DefAt K mg "size_of" s_size_of ["kind"]) : Cal P w K mg base 2 "size_of" ["kind"] (spNum K Kd.size) := by
  refine D.cal sc_size_of (fun vs H Q E h => ?_) (fun f cdv A outer s H vs Q E hr h => ?_)
  · obtain ⟨v, k, rfl, _⟩ := h
    rfl
  obtain ⟨v, k, rfl, hT, hn, q⟩ := h
  refine ⟨_, pss_one (ps_ret (pe_callB call_len_seq (by rfl) G.len PySem.boot_len (pa_cons (pc CC hr rfl (pa_cons (pc CP hr rfl (pa_cons (pv 0) pa_nil)) pa_nil)) pa_nil))), ?_⟩
  refine ⟨v, rfl, v, k, rfl, hT, hn, fun p H1 xs sm hp hx hk => ?_⟩
  have hl := Kps.length hk
  rw [Kd.nds_parts] at hl
  refine ⟨p, xs, k.parts, rfl, SqL.of hx, hk, by omega, fun p2 H2 ys sm2 hp2 hy hk2 => ?_⟩
  refine ⟨p2, ys, rfl, .inl (SqL.of hy), ?_⟩
  have e : ((ys.length : Nat) : Int) = (k.size : Nat) := by rw [Kps.length hk2, ← Kd.size_parts]
  rw [e]
  exact q H2 (sm.trans sm2)
/-- .. of any thing: a kind's, or NoType -/
def spNumX (K : PySem.W.Frag) (C : Addr) (g : Kd → Nat) : Sp := fun vs H Q E => ∃ (v : V) (t : Tg), vs = [v] ∧ Th K H v t ∧ t.nodes ≤ 100000 ∧ (∀ k : Kd, t = k.tg → isT t = true → ∀ H', Same H H' → Q (.int (g k : Nat)) H') ∧ (isT t = false → ∀ H', Same H H' → E (.ref C) none H')
theorem ok_size {C : Addr} (CK : Cal P w K mg base 4 "check_type" ["thing"] (spCheck K C)) (CS : Cal P w K mg base 2 "size_of" ["kind"] (spNum K Kd.size)) (D : DefAt K mg "size" s_size ["kind"]) : Cal P w K mg base 5 "size" ["kind"] (spNumX K C Kd.size) := by
  refine D.cal sc_size (fun vs H Q E h => ?_) (fun f cdv A outer s H vs Q E hr h => ?_)
  · obtain ⟨v, t, rfl, _⟩ := h
    rfl
  obtain ⟨v, t, rfl, hT, hn, q1, q2⟩ := h
  refine ⟨_, pss_cons (ps_expr (pcE (takes_of rfl rfl rfl rfl) CK hr rfl (pa_cons (pv 0) pa_nil))) (pss_one (ps_ret (pc CS (hr.mono (by decide)) rfl (pa_cons (pv 0) pa_nil)))), ?_⟩
  refine ⟨v, rfl, v, t, rfl, hT, hn, fun ht H1 sm => ?_, fun ht H1 sm => q2 ht H1 sm⟩
  obtain ⟨k, hk, rfl⟩ := of_isT ht
  have := Kd.nds_le k
  exact ⟨v, rfl, v, k, rfl, hT.stay (stay_same sm), by omega, fun H2 sm2 => q1 k rfl ht H2 (sm.trans sm2)⟩
end
end N

namespace N
open PySem PySem.Spec PyProof.Rows L2
namespace Kd
def maxd : List Kd → Nat
  | [] => 0
  | k :: ks => max k.depth (maxd ks)
theorem maxd_app : ∀ a b : List Kd, maxd (a ++ b) = max (maxd a) (maxd b)
  | [], b => by simp [maxd]
  | k :: a, b => by
    rw [List.cons_append]
    simp only [maxd]
    rw [maxd_app a b]
    omega
theorem depth_L {k : Kd} (h : k.isC = false) : k.depth = 0 := by cases k <;> first | rfl | cases h
theorem depth_C {k : Kd} (h : k.isC = true) : k.depth = 1 + maxd k.args := by
  cases k <;> simp [depth, args, maxd] <;> cases h
theorem maxd_filter : ∀ ks : List Kd, maxd (ks.filter isC) = maxd ks
  | [] => rfl
  | k :: ks => by
    have ih := maxd_filter ks
    cases h : k.isC with
    | true =>
      rw [List.filter_cons_of_pos (by rw [h])]
      simp only [maxd]
      omega
    | false =>
      rw [List.filter_cons_of_neg (by rw [h]; exact Bool.false_ne_true)]
      simp only [maxd]
      rw [depth_L h]
      omega
theorem maxd_step : ∀ {ks : List Kd}, (∀ k ∈ ks, k.isC = true) → ks ≠ [] → maxd ks = 1 + maxd (ks.flatMap args)
  | [], _, h => absurd rfl h
  | [k], h, _ => by
    simp only [maxd, List.flatMap_cons, List.flatMap_nil, List.append_nil]
    rw [depth_C (h k List.mem_cons_self)]
    omega
  | k :: j :: ks, h, _ => by
    have ih := maxd_step (ks := j :: ks) (fun z hz => h z (List.mem_cons_of_mem _ hz)) (by simp)
    rw [List.flatMap_cons, maxd_app]
    show max k.depth (maxd (j :: ks)) = _
    rw [depth_C (h k List.mem_cons_self), ih]
    omega
theorem sum_flat : ∀ ks : List Kd, ((ks.flatMap args).map nds).sum + ks.length ≤ (ks.map nds).sum
  | [] => by simp
  | k :: ks => by
    have ih := sum_flat ks
    have h := args_nds k
    rw [List.flatMap_cons, List.map_append, List.sum_append]
    simp only [List.map_cons, List.sum_cons, List.length_cons]
    omega
theorem sum_filter : ∀ ks : List Kd, ((ks.filter isC).map nds).sum ≤ (ks.map nds).sum
  | [] => by simp
  | k :: ks => by
    have ih := sum_filter ks
    cases h : k.isC with
    | true =>
      rw [List.filter_cons_of_pos (by rw [h])]
      simp only [List.map_cons, List.sum_cons]
      omega
    | false =>
      rw [List.filter_cons_of_neg (by rw [h]; exact Bool.false_ne_true)]
      simp only [List.map_cons, List.sum_cons]
      omega
end Kd
section
variable {P : Program} {w : World} {K : PySem.W.Frag} {mg : Str → Option Value} {base : Heap}
theorem cc_filter (ks : List Kd) : ∀ k ∈ ks.filter Kd.isC, k.isC = true := fun k h => (List.mem_filter.mp h).2
theorem ok_depth_of (CC : Cal P w K mg base 1 "class_types" ["kinds"] (spCls K)) (D : DefAt K mg "depth_of" s_depth_of ["kind"]) : Cal P w K mg base 2 "depth_of" ["kind"] (spNum K Kd.depth) := by
  refine D.cal sc_depth_of (fun vs H Q E h => ?_) (fun f cdv A outer s H vs Q E hr h => ?_)
  · obtain ⟨v, k, rfl, _⟩ := h
    rfl
  obtain ⟨v, k, rfl, hT, hn, q⟩ := h
  refine ⟨_, pss_cons (ps_set (i := 1) sc_depth_of.nd rfl (Or.inl rfl) pe_int) (pss_cons (ps_set (i := 2) sc_depth_of.nd rfl (Or.inl rfl) (pc CC hr rfl (pa_cons (pe_lst (pa_cons (pv 0) pa_nil)) pa_nil)))
    (pss_cons (ps_while (passes_of rfl) (pt_truth (pv 2) (by intro _; rfl))
      (pss_cons (ps_aug (i := 1) sc_depth_of.nd rfl (.inl rfl) pe_int ip_add)
        (pss_one (ps_set (i := 2) sc_depth_of.nd rfl (Or.inl rfl) (pc CC hr rfl (pa_cons
          (pe_lc2 (own := [("part", 3), ("argument", 4)]) (vs1 := [4]) (g := gName 3) (tt := tYes) (wi1 := iTup K (tSl (rSlT K) (tVar 3) (tPart (tC (.int 1))) tNoPart)) (g1 := gName 4) (tt1 := tYes) rfl sc_depth_of.nd (pi_list (pv 2))
            (blkOk_by (N := nm_depth_of) (sc := defScope s_depth_of) (own := [("part", 3), ("argument", 4)]) (by decide +kernel)) (by decide) (fun _ _ _ _ _ => pg_name (i := 3) sc_depth_of.nd rfl (Or.inl rfl)) (fun _ _ _ _ _ => pts_nil)
            (fun _ _ _ _ _ => pi_tup (pe_slice sl_tup (pv 3) (po_some pe_int) po_none)) (fun _ _ _ _ _ => pg_name (i := 4) sc_depth_of.nd rfl (Or.inl rfl)) (fun _ _ _ _ _ => pts_nil) (fun _ _ _ _ _ => pv 4)) pa_nil))))))
    (pss_one (ps_ret (pv 1))))), ?_⟩
  refine ⟨v, rfl, by show 1 ≤ sizeLine; decide, fun l0 hl0 => ?_⟩
  have hv0 := hT.stay (stay_new (K := K) hl0 (.lst [v]))
  refine ⟨l0, [v], [k], rfl, SqL.of upd_same, .cons hv0 .nil, by simp, fun l H1 xs sm1 hl hx hk => ?_⟩
  have sm0 : Same H H1 := (same_new hl0 _).trans sm1
  have hs0 := Kd.sum_filter [k]
  have hd0 := Kd.maxd_filter [k]
  simp only [List.map_cons, List.map_nil, List.sum_cons, List.sum_nil, Kd.maxd] at hs0 hd0
  refine ⟨fun m σ H' => ∃ (c : Nat) (l : Addr) (xs : List V) (ks : List Kd) (y3 y4 : Option V), m = Kd.maxd ks ∧ σ = [some v, some (.int (c : Nat)), some (.ref l), y3, y4] ∧ Same H H' ∧ H' l = some (.lst xs) ∧ Kps K H' xs ks ∧ (∀ k ∈ ks, k.isC = true) ∧ (ks.map Kd.nds).sum ≤ 100000 ∧ c + Kd.maxd ks = k.depth,
    ⟨_, 0, l, xs, _, _, _, rfl, rfl, sm0, hx, hk, cc_filter _, by omega, by omega⟩, fun m σ H' hW => ?_⟩
  obtain ⟨c, l, xs, ks, y3, y4, rfl, rfl, sm, hx, hk, hcc, hsum, hd⟩ := hW
  refine ⟨_, rfl, _, .inl ⟨xs, SqL.of hx, rfl⟩, ?_⟩
  have hlen := Kps.length hk
  by_cases hne : ks = []
  · subst hne
    have e0 : xs = [] := List.length_eq_zero_iff.mp hlen
    subst e0
    refine iteF ⟨_, rfl, ?_⟩
    have e : c = k.depth := by simpa [Kd.maxd] using hd
    rw [e]
    exact q H' sm
  have ek : (!xs.isEmpty) = true := by
    cases xs with
    | nil => exact absurd (List.length_eq_zero_iff.mp hlen.symm) hne
    | cons a b => rfl
  refine iteE ek ?_
  have hstep := Kd.maxd_step hcc hne
  have hsf := Kd.sum_flat ks
  have hgl := sum_ge_len ks
  refine ⟨fun σ2 H2 => ∃ (c : Nat) (l : Addr) (xs : List V) (ks2 : List Kd) (y3 y4 : Option V), Kd.maxd ks2 < Kd.maxd ks ∧ σ2 = [some v, some (.int (c : Nat)), some (.ref l), y3, y4] ∧ Same H H2 ∧ H2 l = some (.lst xs) ∧ Kps K H2 xs ks2 ∧ (∀ k ∈ ks2, k.isC = true) ∧ (ks2.map Kd.nds).sum ≤ 100000 ∧ c + Kd.maxd ks2 = k.depth,
    fun σ2 H2 ⟨c, l, xs, ks2, y3, y4, a, b, d, e, f, g, h, i⟩ => ⟨_, a, c, l, xs, ks2, y3, y4, rfl, b, d, e, f, g, h, i⟩, ?_⟩
  refine ⟨_, rfl, _, _, rfl, rfl, ?_⟩
  refine ⟨_, rfl, l, rfl, ⟨xs, SqL.of hx⟩, fun D hD => ?_⟩
  have nlD : l ≠ D := ne_of_none hx hD
  refine ⟨fun i m H2 => m = xs.length - i ∧ i ≤ xs.length ∧ ∃ acc, Same H' H2 ∧ H2 D = some (.lst acc) ∧ Kps K H2 acc ((ks.take i).flatMap Kd.args), ⟨_, rfl, Nat.zero_le _, [], same_new hD _, upd_same, .nil⟩, fun i m H2 ⟨em, hi, acc, sm2, hacc, hka⟩ => ?_⟩
  by_cases hlt : i < xs.length
  · have g : xs[i]? = some xs[i] := List.getElem?_eq_getElem hlt
    have hS2 : SqL K H2 l xs := SqL.of (sm2 _ _ hx)
    obtain ⟨k', hk1, hk2⟩ := Kps.at hk g
    have hk3 := hk2.stay (stay_same sm2)
    obtain ⟨a, zs, ea, hq, hnl, hz⟩ := kp_C hk3 (hcc k' (List.mem_of_getElem? hk1))
    have hacl : ((ks.take i).flatMap Kd.args).length ≤ 100000 := by
      have h1 := sum_ge_len ((ks.take i).flatMap Kd.args)
      have h2 := Kd.sum_flat (ks.take i)
      have h3 : ((ks.take i).map Kd.nds).sum ≤ (ks.map Kd.nds).sum := by
        have := congrArg (fun l => (l.map Kd.nds).sum) (List.take_append_drop i ks)
        simp only [List.map_append, List.sum_append] at this
        omega
      omega
    have hzl := Kps.length hz
    have hal := Kd.args_len k'
    refine .inr ⟨⟨xs, xs[i], hS2, g⟩, fun H3 => ∃ acc, Same H' H3 ∧ H3 D = some (.lst acc) ∧ Kps K H3 acc ((ks.take (i + 1)).flatMap Kd.args), fun H3 hN => ⟨m - 1, by omega, by omega, by omega, hN⟩, fun x H3 hy => ?_⟩
    obtain ⟨rfl, fv⟩ := hy
    have ex : x = xs[i] := Option.some.inj ((fv _ hS2).symm.trans g)
    subst ex
    rw [ea]
    refine ⟨rfl, _, rfl, 1, rfl, a, _, rfl, hq, cut_tail_ne _ (by simp), fun p hp => ?_⟩
    rw [cut_tail]
    have hDp : D ≠ p := ne_of_none hacc hp
    refine ⟨p, rfl, ⟨zs, .inl (.inl upd_same)⟩, ?_⟩
    have st1 : Stay K H3 (upd H3 p (.tup zs)) := stay_new hp _
    refine ⟨fun j m H4 => m = zs.length - j ∧ j ≤ zs.length ∧ ∃ acc, Same H' H4 ∧ H4 p = some (.tup zs) ∧ H4 D = some (.lst acc) ∧ Kps K H4 acc ((ks.take i).flatMap Kd.args ++ k'.args.take j) ∧ Kps K H4 zs k'.args,
      ⟨_, rfl, Nat.zero_le _, acc, sm2.trans (same_new hp _), upd_same, by rw [upd_ne hDp]; exact hacc, by simpa using ThAll.stay st1 hka, ThAll.stay st1 hz⟩, fun j m2 H4 ⟨em2, hj, acc4, sm4, hp4, hacc4, hk4, hz4⟩ => ?_⟩
    have hS4 : SqT K H4 p zs := .inl (.inl hp4)
    have npD : p ≠ D := hDp.symm
    by_cases hjt : j < zs.length
    · have g4 : zs[j]? = some zs[j] := List.getElem?_eq_getElem hjt
      obtain ⟨k5, hk51, hk52⟩ := Kps.at hz4 g4
      refine .inr ⟨⟨zs, zs[j], hS4, g4⟩, fun H5 => ∃ acc, Same H' H5 ∧ H5 p = some (.tup zs) ∧ H5 D = some (.lst acc) ∧ Kps K H5 acc ((ks.take i).flatMap Kd.args ++ k'.args.take (j + 1)) ∧ Kps K H5 zs k'.args, fun H5 hN => ⟨m2 - 1, by omega, by omega, by omega, hN⟩, fun x H5 hy => ?_⟩
      obtain ⟨rfl, fv⟩ := hy
      have ex : x = zs[j] := Option.some.inj ((fv _ hS4).symm.trans g4)
      subst ex
      have hl4 := Kps.length hk4
      rw [List.length_append] at hl4
      have hlt2 : (k'.args.take j).length ≤ 2 := by rw [List.length_take]; omega
      refine ⟨rfl, _, rfl, acc4, hacc4, Nat.lt_of_le_of_lt (show acc4.length ≤ 100002 by omega) (by decide), acc4 ++ [zs[j]], same_mut sm4 hD, by rw [upd_ne npD]; exact hp4, upd_same, ?_, ThAll.stay (stay_lst hacc4) hz4⟩
      rw [take_snoc hk51, ← List.append_assoc]
      exact Kps.app (ThAll.stay (stay_lst hacc4) hk4) (.cons (hk52.stay (stay_lst hacc4)) .nil)
    · refine .inl ⟨⟨zs, hS4, by omega⟩, acc4, sm4, hacc4, ?_⟩
      rw [take_snoc hk1, List.flatMap_append]
      have e : k'.args.take j = k'.args := List.take_of_length_le (by omega)
      rw [e] at hk4
      simpa using hk4
  · refine .inl ⟨⟨xs, SqL.of (sm2 _ _ hx), by omega⟩, ?_⟩
    have e : ks.take i = ks := List.take_of_length_le (by omega)
    rw [e] at hka
    have hla := Kps.length hka
    have hlf := sum_ge_len (ks.flatMap Kd.args)
    refine ⟨D, acc, _, rfl, SqL.of hacc, hka, by omega, fun l2 H3 ys sm3 hl2 hy hk3 => ?_⟩
    have hmf := Kd.maxd_filter (ks.flatMap Kd.args)
    have hsf2 := Kd.sum_filter (ks.flatMap Kd.args)
    exact ⟨c + 1, l2, ys, _, _, _, by omega, rfl, sm.trans (sm2.trans sm3), hy, hk3, cc_filter _, by omega, by omega⟩
theorem ok_depth {C : Addr} (CK : Cal P w K mg base 4 "check_type" ["thing"] (spCheck K C)) (CS : Cal P w K mg base 2 "depth_of" ["kind"] (spNum K Kd.depth)) (D : DefAt K mg "depth" s_depth ["kind"]) : Cal P w K mg base 5 "depth" ["kind"] (spNumX K C Kd.depth) := by
  refine D.cal sc_depth (fun vs H Q E h => ?_) (fun f cdv A outer s H vs Q E hr h => ?_)
  · obtain ⟨v, t, rfl, _⟩ := h
    rfl
  obtain ⟨v, t, rfl, hT, hn, q1, q2⟩ := h
  refine ⟨_, pss_cons (ps_expr (pcE (takes_of rfl rfl rfl rfl) CK hr rfl (pa_cons (pv 0) pa_nil))) (pss_one (ps_ret (pc CS (hr.mono (by decide)) rfl (pa_cons (pv 0) pa_nil)))), ?_⟩
  refine ⟨v, rfl, v, t, rfl, hT, hn, fun ht H1 sm => ?_, fun ht H1 sm => q2 ht H1 sm⟩
  obtain ⟨k, hk, rfl⟩ := of_isT ht
  have := Kd.nds_le k
  exact ⟨v, rfl, v, k, rfl, hT.stay (stay_same sm), by omega, fun H2 sm2 => q1 k rfl ht H2 (sm.trans sm2)⟩
end
end N

namespace N
open PySem PySem.Spec PyProof.Rows L2
section
variable {P : Program} {w : World} {K : PySem.W.Frag} {mg : Str → Option Value} {base : Heap}
theorem obs_app {H : Hp} {p : Addr} : ∀ {vs ws : List V} {es fs : List (Tg × PyData)}, Paired (Ob K H p) vs es → Paired (Ob K H p) ws fs → Paired (Ob K H p) (vs ++ ws) (es ++ fs)
  | _, _, _, _, .nil, b => b
  | _, _, _, _, .cons r t, b => .cons r (obs_app t b)
theorem obs_same {H H' : Hp} {p : Addr} {vs : List V} {es : List (Tg × PyData)} (s : Same H H') (h : Paired (Ob K H p) vs es) : Paired (Ob K H' p) vs es := Paired.mapP h fun _ _ z => z.same s
/-- odd: a new list of these things; p any address that is tracked -/
def spOdd (K : PySem.W.Frag) : Sp := fun vs H Q _ => ∃ p : Addr, vs = [] ∧ (∃ o, H p = some o) ∧ ∀ l H' xs, Same H H' → H l = none → H' l = some (.lst xs) → Paired (Ob K H' p) xs oddT → Q (.ref l) H'
theorem ok_odd (D : DefAt K mg "_law_odd" s_Lodd []) : Cal P w K mg base 1 "_law_odd" [] (spOdd K) := by
  refine D.cal sc_Lodd (fun vs H Q E h => ?_) (fun f cdv A outer s H vs Q E hr h => ?_)
  · obtain ⟨p, rfl, _⟩ := h
    rfl
  obtain ⟨p, rfl, ⟨o, ho⟩, q⟩ := h
  have len : ∀ n, n ≤ 1000 → n ≤ sizeLine := fun n h => by rw [sizeLine_eq]; omega
  refine ⟨_, pss_cons (ps_set (i := 0) sc_Lodd.nd rfl (Or.inl rfl) (pe_lst (show PA _ _ (tObs K p od1) from (ob_cons ob_non (ob_cons ob_bl (ob_cons ob_bl (ob_cons (ob_i pe_int fun σ H Q z => z) (ob_cons (ob_i pe_int fun σ H Q z => z) (ob_cons (ob_i (i := -1) (pe_un un_neg pe_int) fun σ H Q z => ⟨_, rfl, z⟩) (ob_cons (ob_i (i := 10 ^ 12) (pe_op op_pow pe_int pe_int) fun σ H Q z => ⟨_, _, rfl, rfl, ⟨by decide, by decide, by decide⟩, z⟩) (ob_cons ob_str (ob_cons ob_str (ob_cons ob_str (ob_cons ob_str (ob_cons ob_str (ob_cons ob_str (ob_cons ob_str (ob_cons ob_str (ob_cons ob_str (ob_cons ob_str ob_nil))))))))))))))))))))
    (pss_cons (ps_set (i := 0) sc_Lodd.nd rfl (Or.inl rfl) (pe_op op_cat (pv 0) (pe_lst (show PA _ _ (tObs K p od2) from (ob_cons (ob_tup ob_nil) (ob_cons (ob_tup (ob_cons ob_str ob_nil)) (ob_cons (ob_tup (ob_cons ob_str ob_nil)) (ob_cons (ob_lst ["one"] (pa_cons pe_str pa_nil)) (ob_cons (ob_lst [] pa_nil) (ob_cons ob_d0 (ob_cons ob_d1 (ob_cons (ob_tup (ob_cons ob_str (ob_cons ob_str ob_nil))) (ob_cons (ob_tup (ob_cons ob_str (ob_cons ob_str ob_nil))) (ob_cons (ob_tup (ob_cons ob_str (ob_cons ob_non ob_nil))) ob_nil))))))))))))))
    (pss_cons (ps_set (i := 0) sc_Lodd.nd rfl (Or.inl rfl) (pe_op op_cat (pv 0) (pe_lst (show PA _ _ (tObs K p od3) from (ob_cons (ob_tup (ob_cons ob_str (ob_cons (ob_lst ["one"] (pa_cons pe_str pa_nil)) ob_nil))) (ob_cons (ob_tup (ob_cons ob_str (ob_cons ob_str ob_nil))) (ob_cons (ob_tup (ob_cons ob_str (ob_cons ob_str ob_nil))) (ob_cons (ob_tup (ob_cons ob_str (ob_cons ob_str ob_nil))) (ob_cons (ob_tup (ob_cons ob_str (ob_cons (ob_tup (ob_cons ob_str ob_nil)) (ob_cons ob_str ob_nil)))) (ob_cons (ob_tup (ob_cons (ob_tup (ob_cons ob_str ob_nil)) ob_nil)) ob_nil))))))))))
    (pss_one (ps_ret (pe_op op_cat (pv 0) (pe_lst (show PA _ _ (tObs K p od4) from (ob_cons (ob_tup (ob_cons ob_str (ob_cons ob_str ob_nil))) (ob_cons (ob_tup (ob_cons ob_str (ob_cons ob_str (ob_cons ob_str (ob_cons ob_str ob_nil))))) (ob_cons (ob_tup (ob_cons ob_str (ob_cons (ob_tup (ob_cons ob_str (ob_cons (ob_tup (ob_cons ob_str (ob_cons (ob_i pe_int fun σ H Q z => z) ob_nil))) ob_nil))) ob_nil))) (ob_cons (ob_tup (ob_cons ob_bl (ob_cons ob_str ob_nil))) (ob_cons (ob_tup (ob_cons ob_str ob_nil)) (ob_cons (ob_tup (ob_cons ob_str ob_nil)) ob_nil))))))))))))), ?_⟩
  refine ⟨⟨o, ho⟩, fun v1 H1 s1 x1 => ?_⟩
  have n1 : v1.length = 17 := Paired.length x1
  refine ⟨len _ (by omega), fun a1 h1 => ?_⟩
  have t1 := s1.trans (same_new h1 (.lst v1))
  refine ⟨_, rfl, ⟨o, t1 _ _ ho⟩, fun v2 H2 s2 x2 => ?_⟩
  have n2 : v2.length = 10 := Paired.length x2
  refine ⟨len _ (by omega), fun b2 g2 => ⟨a1, b2, _, _, rfl, rfl, same_new g2 _ _ _ (s2 _ _ upd_same), upd_same, len _ (by omega), fun a2 h2 => ?_⟩⟩
  have c2 := (same_new g2 (.lst v2)).trans (same_new h2 (.lst (v1 ++ v2)))
  have x12 := obs_app (obs_same (((same_new h1 _).trans s2).trans c2) x1) (obs_same c2 x2)
  have t2 := (t1.trans s2).trans c2
  have l2 := upd_same (H := upd H2 b2 (.lst v2)) (a := a2) (o := .lst (v1 ++ v2))
  have n12 : (v1 ++ v2).length = 27 := by rw [List.length_append]; omega
  refine ⟨_, rfl, ⟨o, t2 _ _ ho⟩, fun v3 H3 s3 x3 => ?_⟩
  have n3 : v3.length = 6 := Paired.length x3
  refine ⟨len _ (by omega), fun b3 g3 => ⟨a2, b3, _, _, rfl, rfl, same_new g3 _ _ _ (s3 _ _ l2), upd_same, len _ (by omega), fun a3 h3 => ?_⟩⟩
  have c3 := (same_new g3 (.lst v3)).trans (same_new h3 (.lst (v1 ++ v2 ++ v3)))
  have x13 := obs_app (obs_same (s3.trans c3) x12) (obs_same c3 x3)
  have t3 := (t2.trans s3).trans c3
  have l3 := upd_same (H := upd H3 b3 (.lst v3)) (a := a3) (o := .lst (v1 ++ v2 ++ v3))
  have n13 : (v1 ++ v2 ++ v3).length = 33 := by rw [List.length_append]; omega
  refine ⟨_, rfl, ⟨o, t3 _ _ ho⟩, fun v4 H4 s4 x4 => ?_⟩
  have n4 : v4.length = 6 := Paired.length x4
  refine ⟨len _ (by omega), fun b4 g4 => ⟨a3, b4, _, _, rfl, rfl, same_new g4 _ _ _ (s4 _ _ l3), upd_same, len _ (by omega), fun a4 h4 => ?_⟩⟩
  have c4 := (same_new g4 (.lst v4)).trans (same_new h4 (.lst (v1 ++ v2 ++ v3 ++ v4)))
  have x14 := obs_app (obs_same (s4.trans c4) x13) (obs_same c4 x4)
  have t4 := (t3.trans s4).trans c4
  exact q a4 _ _ t4 ((t3.trans (s4.trans (same_new g4 (.lst v4)))).free h4) upd_same x14
end
end N

namespace N
open PySem PySem.Spec PyProof.Rows L2 L2H StX LamX NdefX
/-! ### bounds of data -/
structure Sm (d : PyData) (W D : Nat) : Prop where
  sh : d.showable = true
  lv : d.leavesShort 13 = true
  wt : d.weight ≤ W
  dp : d.depth ≤ D
  it : ∀ i, d = .int i → i.natAbs.log2 < 1920
theorem Sm.fit {d : PyData} {W D : Nat} (h : Sm d W D) (hW : W ≤ 1000000) (hD : D ≤ 60) : d.showable = true ∧ d.depth ≤ 60 ∧ d.shown.length ≤ sizeLine :=
  ⟨h.sh, Nat.le_trans h.dp hD, PyData.shown_fits (B := 13) (by decide) (by decide) h.lv (Nat.le_trans h.wt (Nat.le_trans hW (by omega)))⟩
theorem leaf_ok {x : Str} (h : PyData.strOk x = true) : (PyData.str x).leavesShort 13 = true := by
  obtain ⟨⟨l⟩⟩ := x
  have h' : (l.toArray.all fun c => decide (c < 1114112)) = true := h
  rw [List.all_toArray, List.all_eq_true] at h'
  simp only [PyData.leavesShort]
  rw [List.all_eq_true]
  intro c hc
  have := of_decide_eq_true (h' c hc)
  exact decide_eq_true (by omega)
def intB : PyData → Bool
  | .int i => decide (i.natAbs.log2 < 1920)
  | _ => true
def smB (e : Tg × PyData) (W D N : Nat) : Bool := e.2.showable && (e.2.leavesShort 13 && (decide (e.2.weight ≤ W) && (decide (e.2.depth ≤ D) && (intB e.2 && decide (e.1.nodes ≤ N)))))
theorem smB_ok {e : Tg × PyData} {W D N : Nat} (h : smB e W D N = true) : Sm e.2 W D ∧ e.1.nodes ≤ N := by
  unfold smB at h
  simp only [Bool.and_eq_true, decide_eq_true_eq] at h
  obtain ⟨a, b, c, d, i, n⟩ := h
  exact ⟨⟨a, b, c, d, fun j ej => by rw [ej] at i; exact of_decide_eq_true i⟩, n⟩
theorem odd_sm : ∀ e ∈ oddT, smB e 100 5 20 = true := by decide +kernel
theorem mem_ob {K : PySem.W.Frag} {H : Hp} {p : Addr} : ∀ {vs : List V} {es : List (Tg × PyData)} {v : V}, Paired (Ob K H p) vs es → v ∈ vs → ∃ e ∈ es, Ob K H p v e
  | _, _, v, .nil, h => by cases h
  | _, _, v, .cons r t, h => by
    rcases List.mem_cons.mp h with rfl | h
    · exact ⟨_, List.mem_cons_self, r⟩
    · obtain ⟨e, h1, h2⟩ := mem_ob t h
      exact ⟨e, List.mem_cons_of_mem _ h1, h2⟩
theorem Sm.fitted {d : PyData} {W D : Nat} (h : Sm d W D) (hW : W ≤ 1000000) (hD : D ≤ 60) : Fit d := ⟨h.sh, (h.fit hW hD).2.1, (h.fit hW hD).2.2, h.it⟩
theorem Sm.two {d e : PyData} {W1 D1 W2 D2 : Nat} (h : Sm d W1 D1) (k : Sm e W2 D2) (hW : W1 + W2 ≤ 900000) (hD : D1 ≤ 50) (hE : D2 ≤ 50) : Fit (.list [d, e]) := by
  have s : Sm (.list [d, e]) (W1 + W2 + 100) 51 := by
    have w1 := h.wt
    have w2 := k.wt
    have d1 := h.dp
    have d2 := k.dp
    refine ⟨?_, ?_, ?_, ?_, fun i z => by cases z⟩
    · simp only [PyData.showable, PyData.showableAll, h.sh, k.sh, Bool.and_self]
    · simp only [PyData.leavesShort, PyData.leavesShortAll, h.lv, k.lv, Bool.and_self]
    · simp only [PyData.weight, PyData.weightAll]; omega
    · simp only [PyData.depth, PyData.depthAll]; omega
  exact s.fitted (by omega) (by decide)
def nvB (e : He) : Bool := smB (.oth, e.d) 100 5 20
theorem nv_sm : ∀ e ∈ noVs, nvB e = true ∧ e.b = false := by decide +kernel
theorem hv_mem {K : PySem.W.Frag} {H : Hp} {p : Addr} : ∀ {vs : List V} {es : List He} {v : V}, Paired (Hv K H p) vs es → v ∈ vs → ∃ e ∈ es, Hv K H p v e
  | _, _, v, .nil, h => by cases h
  | _, _, v, .cons r t, h => by
    rcases List.mem_cons.mp h with rfl | h
    · exact ⟨_, List.mem_cons_self, r⟩
    · obtain ⟨e, h1, h2⟩ := hv_mem t h
      exact ⟨e, List.mem_cons_of_mem _ h1, h2⟩
/-! ### what said says -/
theorem num_fit : ∀ n : Nat, n ≤ 1000 → PyData.strOk (toString ((n : Nat) : Int)) = true := by decide +kernel
theorem log_fit {n : Nat} (h : n ≤ 1000) : (((n : Nat) : Int)).natAbs.log2 < 1920 := by
  rw [Int.natAbs_natCast]
  exact Nat.lt_of_le_of_lt (Nat.log2_le_self n) (by omega)
theorem txt_small : ∀ {k : Kd}, k.ok → ∀ c ∈ k.txt, c < 1114112
  | .L c, h => fun x hx => by
    obtain ⟨d, e, h1, h2⟩ := isLet_iff.mp (show isLet c = true from h)
    have hx' : x ∈ c.cps.toList := hx
    rw [e] at hx'
    have := List.mem_singleton.mp hx'
    omega
  | .C0 n, h => fun x hx => by
    have := (isNam_iff.mp (show isNam n = true from h)).2.2 x hx
    unfold Low at this
    omega
  | .C1 n a, h => fun x hx => by
    have hx' : x ∈ n.cps.toList ++ ([40] ++ (a.txt ++ [41])) := hx
    simp only [List.mem_append, List.mem_singleton] at hx'
    rcases hx' with y | y | y | y
    · have := (isNam_iff.mp h.1).2.2 x y
      unfold Low at this
      omega
    · omega
    · exact txt_small h.2 x y
    · omega
  | .C2 n a b, h => fun x hx => by
    have hx' : x ∈ n.cps.toList ++ ([40] ++ (a.txt ++ ([44, 32] ++ (b.txt ++ [41])))) := hx
    simp only [List.mem_append, List.mem_singleton, List.mem_cons, List.not_mem_nil, or_false] at hx'
    rcases hx' with y | y | y | (y | y) | y | y
    · have := (isNam_iff.mp h.1).2.2 x y
      unfold Low at this
      omega
    · omega
    · exact txt_small h.2.1 x y
    · omega
    · omega
    · exact txt_small h.2.2 x y
    · omega
section
variable {P : Program} {w : World} {K : PySem.W.Frag} {mg : Str → Option Value} {base : Heap} {c : Nat → Addr}
/-- text, of anything -/
def spTextX (K : PySem.W.Frag) (C : Addr) : Sp := fun vs H Q E => ∃ (v : V) (t : Tg), vs = [v] ∧ Th K H v t ∧ t.nodes ≤ 10000 ∧ (∀ k : Kd, t = k.tg → k.ok → ∀ H' (x : Str), Same H H' → x.cps.toList = k.txt → Q (.str x) H') ∧ (isT t = false → ∀ H', Same H H' → E (.ref C) none H')
theorem ok_textX {C : Addr} (CK : Cal P w K mg base 4 "check_type" ["thing"] (spCheck K C)) (CT : Cal P w K mg base 2 "text_of" ["kind"] (spText K)) (D : DefAt K mg "text" s_text ["kind"]) : Cal P w K mg base 5 "text" ["kind"] (spTextX K C) := by
  refine D.cal sc_text (fun vs H Q E h => ?_) (fun f cdv A outer s H vs Q E hr h => ?_)
  · obtain ⟨v, t, rfl, _⟩ := h
    rfl
  obtain ⟨v, t, rfl, hT, hn, q1, q2⟩ := h
  refine ⟨_, pss_cons (ps_expr (pcE (takes_of rfl rfl rfl rfl) CK hr rfl (pa_cons (pv 0) pa_nil))) (pss_one (ps_ret (pc CT (hr.mono (by decide)) rfl (pa_cons (pv 0) pa_nil)))), ?_⟩
  refine ⟨v, rfl, v, t, rfl, hT, by omega, fun ht H1 sm => ?_, fun ht H1 sm => q2 ht H1 sm⟩
  obtain ⟨k, hk, rfl⟩ := of_isT ht
  have := Kd.nds_le k
  exact ⟨v, rfl, v, k, rfl, hT.stay (stay_same sm), hk, by omega, fun H2 x sm2 hx => q1 k rfl hk H2 x (sm.trans sm2) hx⟩
/-- what is said of the exceptions -/
def SaidX (c : Nat → Addr) (Q : VK) : XK := fun cls d H1 => ∃ i, i < 13 ∧ cls = .ref (c i) ∧ d = none ∧ ∀ H2, Same H1 H2 → Q (.str ("! " ++ exN i)) H2
theorem ex0 : ("! " ++ exN 0 : Str) = "! NoType" := by decide +kernel
theorem ex1 : ("! " ++ exN 1 : Str) = "! NoValues" := by decide +kernel
theorem tgI : ∀ {a b : Kd}, a.tg = b.tg → a.nds = b.nds ∧ a.size = b.size ∧ a.depth = b.depth
  | .L c, .L d, h => ⟨rfl, rfl, rfl⟩
  | .L c, .C0 _, h => by cases h
  | .L c, .C1 _ _, h => by cases h
  | .L c, .C2 _ _ _, h => by cases h
  | .C0 _, .L c, h => by cases h
  | .C1 _ _, .L c, h => by cases h
  | .C2 _ _ _, .L c, h => by cases h
  | .C0 n, .C0 m, h => ⟨rfl, rfl, rfl⟩
  | .C0 _, .C1 _ _, h => by have h' := Tg.tup.inj h; simp at h'
  | .C0 _, .C2 _ _ _, h => by have h' := Tg.tup.inj h; simp at h'
  | .C1 _ _, .C0 _, h => by have h' := Tg.tup.inj h; simp at h'
  | .C2 _ _ _, .C0 _, h => by have h' := Tg.tup.inj h; simp at h'
  | .C1 _ _, .C2 _ _ _, h => by have h' := Tg.tup.inj h; simp at h'
  | .C2 _ _ _, .C1 _ _, h => by have h' := Tg.tup.inj h; simp at h'
  | .C1 n a, .C1 m b, h => by
    have h' := Tg.tup.inj h
    simp only [List.cons.injEq, Tg.str.injEq, and_true] at h'
    obtain ⟨e1, e2, e3⟩ := tgI h'.2
    exact ⟨by simp only [Kd.nds]; omega, by simp only [Kd.size]; omega, by simp only [Kd.depth]; omega⟩
  | .C2 n a b, .C2 m c d, h => by
    have h' := Tg.tup.inj h
    simp only [List.cons.injEq, Tg.str.injEq, and_true] at h'
    obtain ⟨e1, e2, e3⟩ := tgI h'.2.1
    obtain ⟨f1, f2, f3⟩ := tgI h'.2.2
    exact ⟨by simp only [Kd.nds]; omega, by simp only [Kd.size]; omega, by simp only [Kd.depth]; omega⟩
theorem says_num {g : Kd → Nat} {v : V} {t : Tg} {H : Hp} {Q : VK} (hg : ∀ k : Kd, g k ≤ k.nds) (hT : Th K H v t) (hn : t.nodes ≤ 1000) (q : ∀ (r : Str) H2, Same H H2 → (isT t = false → r = "! NoType") → Q (.str r) H2) : spNumX K (c 0) g [v] H (fun u H1 => rReprU K [u] H1 Q) (SaidX c Q) := by
  refine ⟨v, t, rfl, hT, by omega, fun k e ht H' sm => ?_, fun ht H' sm => ⟨0, by decide, rfl, rfl, fun H2 s2 => by rw [ex0]; exact q _ H2 (sm.trans s2) fun _ => rfl⟩⟩
  obtain ⟨k', kok, e'⟩ := of_isT ht
  have z1 := Kd.nds_le k'
  rw [← e'] at z1
  have z2 := (tgI (e.symm.trans e')).1
  have z3 := hg k
  exact ⟨_, rfl, .inl ⟨_, rfl, log_fit (by omega), q _ H' sm fun z => by rw [ht] at z; cases z⟩⟩
theorem str_sm {x : Str} (h1 : PyData.strOk x = true) (h2 : x.cps.size ≤ 100000) : (PyData.str x).shown.length ≤ sizeLine :=
  PyData.shown_fits (B := 13) (by decide) (by decide) (leaf_ok h1) (by simp only [PyData.weight]; omega)
theorem says_text {v : V} {t : Tg} {H : Hp} {Q : VK} (hT : Th K H v t) (hn : t.nodes ≤ 1000) (q : ∀ (r : Str) H2, Same H H2 → (isT t = false → r = "! NoType") → Q (.str r) H2) : spTextX K (c 0) [v] H (fun u H1 => rReprU K [u] H1 Q) (SaidX c Q) := by
  refine ⟨v, t, rfl, hT, by omega, fun k e hok H' x sm hx => ?_, fun ht H' sm => ⟨0, by decide, rfl, rfl, fun H2 s2 => by rw [ex0]; exact q _ H2 (sm.trans s2) fun _ => rfl⟩⟩
  have z1 := Kd.nds_le k
  rw [← e] at z1
  have zl := txt_len hok
  have so : PyData.strOk x = true := strOk_of fun z hz => txt_small hok z (by rw [← hx]; exact hz)
  have sz : x.cps.size ≤ 100000 := by rw [← Array.length_toList, hx]; omega
  refine ⟨_, rfl, .inr ⟨.str x, .inr ⟨x, rfl⟩, .str x, by simp only [PyData.showable], rfl, by simp only [PyData.depth]; omega, str_sm so sz, q _ H' sm fun z => ?_⟩⟩
  rw [e, Kd.isT_tg hok] at z
  cases z
theorem says_fill {Pt : Addr} {p : Addr} {v u : V} {t : Tg} {e : He} {H : Hp} {Q : VK} (hT : Th K H v t) (hn : t.nodes ≤ 20) (hv : Hv K H p u e) (hm : e.b = true → ∀ q ∈ e.m, q.2.ok ∧ q.2.nds ≤ 9) (ht : TabS H Pt tq)
    (q : ∀ (r : Str) H2, GroP Pt H H2 → TabS H2 Pt tq → (isT t = false → r = "! NoType") → (isT t = true → e.b = false → r = "! NoValues") → Q (.str r) H2) : spFillX K (c 0) (c 1) Pt [v, u] H (fun u H1 => rReprU K [u] H1 Q) (SaidX c Q) := by
  refine ⟨v, u, t, e.b, rfl, hT, by omega, hv.2.1, fun h H' sm => ⟨0, by decide, rfl, rfl, fun H2 s2 => by rw [ex0]; exact q _ H2 (GroP.of (sm.trans s2)) (ht.ext (sm.trans s2)) (fun _ => rfl) fun z => by rw [h] at z; cases z⟩,
    fun h hb H' sm => ⟨1, by decide, rfl, rfl, fun H2 s2 => by rw [ex1]; exact q _ H2 (GroP.of (sm.trans s2)) (ht.ext (sm.trans s2)) (fun z => by rw [h] at z; cases z) fun _ _ => rfl⟩, fun h hb => ?_⟩
  obtain ⟨d, ed, hd⟩ := hv.2.2 hb
  refine ⟨d, e.m, ed, hd, ht, fun k ek kok H' r g t' hr => ?_⟩
  have hmm := hm hb
  have fok : (fillK e.m k).ok := by
    clear hr ek
    induction k with
    | L c =>
      rcases look_cases e.m c with ⟨y, hy, _, ey⟩ | ey
      · show (look e.m c).ok
        rw [ey]
        exact (hmm y hy).1
      · show (look e.m c).ok
        rw [ey]
        exact kok
    | C0 n => exact kok
    | C1 n a ih => exact ⟨kok.1, ih kok.2⟩
    | C2 n a b ih1 ih2 => exact ⟨kok.1, ih1 kok.2.1, ih2 kok.2.2⟩
  have z1 := Kd.nds_le k
  rw [← ek] at z1
  have z2 := fill_nds (fun y hy => (hmm y hy).2) k
  have z3 := fill_depth (fun y hy => (hmm y hy).2) k
  have z4 := depth_le_nds k
  have z5 := pd_depth (fillK e.m k)
  have z6 := pd_weight fok
  refine ⟨r, rfl, .inr ⟨(fillK e.m k).pd, ?_, kp_dp hr, pd_show _, pd_noDict fok, by omega, ?_, q _ H' g t' (fun z => by rw [h] at z; cases z) fun _ z => by rw [hb] at z; cases z⟩⟩
  · cases hc : (fillK e.m k).isC with
    | true =>
      obtain ⟨a, zs, ea, _⟩ := kp_C hr hc
      exact .inl ⟨a, ea⟩
    | false =>
      obtain ⟨ea, _⟩ := kp_L hr hc
      exact .inr ⟨_, ea⟩
  · have hl : (fillK e.m k).pd.leavesShort 13 = true := PyData.leavesShort_of_canLay0 13 _ (pd_lay fok) (by
      have := pd_ints (fillK e.m k)
      revert this
      generalize fillK e.m k = kk
      intro _
      clear z2 z3 z5 z6 hr fok
      induction kk with
      | L c => simp only [Kd.pd, PyData.intsShort]
      | C0 n => simp only [Kd.pd, PyData.intsShort, PyData.intsShortAll, Bool.and_self]
      | C1 n a ih => simp only [Kd.pd, PyData.intsShort, PyData.intsShortAll, Bool.and_self, ih (pd_ints a)]
      | C2 n a b ih1 ih2 => simp only [Kd.pd, PyData.intsShort, PyData.intsShortAll, Bool.and_self, ih1 (pd_ints a), ih2 (pd_ints b)])
    exact PyData.shown_fits (B := 13) (by decide) (by decide) hl (by omega)
end
end N

namespace N
open PySem PySem.Spec PyProof.Rows L2 L2H StX LamX NdefX
/-! ### k04's lambdas, all of the law's own def -/
def tqL : Str := ("law" : Str) ++ ".<locals>." ++ "<lambda>"
def lamAt : Stmt → Option (Arguments × Expr × Scope)
  | .Assign _ (.List [.Call _ [.Lambda a b s _] _ _] _) _ => some (a, b, s)
  | .Expr (.Call _ [.Call _ [.Lambda a b s _] _ _] _ _) _ => some (a, b, s)
  | .If (.Compare (.Call _ [.Lambda a b s _] _ _) _ _ _) _ _ _ => some (a, b, s)
  | .If (.BoolOp _ (.Compare (.Call _ [.Lambda a b s _] _ _) _ _ _ :: _) _) _ _ _ => some (a, b, s)
  | .Return (some (.Compare (.Call _ [.Lambda a b s _] _ _) _ _ _)) _ => some (a, b, s)
  | _ => none
def inFor (l : List Stmt) (i : Nat) : List Stmt := match l[i]? with
  | some (.For _ _ b _ _) => b
  | _ => []
def lB1 : List Stmt := inFor (defBody s_law) 0
def lB2 : List Stmt := inFor lB1 1
def lB3 : List Stmt := inFor lB1 2
def lB4 : List Stmt := inFor lB3 1
def lamO (l : List Stmt) (i : Nat) : Arguments × Expr × Scope := (l[i]?.bind lamAt).getD (defArgs s_law, .Name "x" ⟨0, 0, 0, 0⟩, defScope s_law)
def lm : Nat → Arguments × Expr × Scope
  | 1 => lamO lB2 2
  | 2 => lamO lB2 3
  | 3 => lamO lB2 4
  | 4 => lamO lB2 5
  | 5 => lamO lB4 0
  | 6 => lamO lB3 2
  | _ => lamO (defBody s_law) 1
theorem sc_lm1 : NScope ["_law_thing", "_law_held"] [] ["_law_thing", "_law_held"] (lm 1).2.2 := nscope_by (by decide +kernel)
theorem sc_lm2 : NScope ["_law_thing"] [] ["_law_thing"] (lm 2).2.2 := nscope_by (by decide +kernel)
theorem sc_lm3 : NScope ["_law_thing"] [] ["_law_thing"] (lm 3).2.2 := nscope_by (by decide +kernel)
theorem sc_lm4 : NScope ["_law_thing"] [] ["_law_thing"] (lm 4).2.2 := nscope_by (by decide +kernel)
theorem sc_lm5 : NScope ["_law_kind", "_law_held"] [] ["_law_kind", "_law_held"] (lm 5).2.2 := nscope_by (by decide +kernel)
theorem sc_lm6 : NScope ["_law_pen_here", "_law_held"] [] ["_law_pen_here", "_law_held"] (lm 6).2.2 := nscope_by (by decide +kernel)
theorem sc_lm7 : NScope [] [] [] (lm 7).2.2 := nscope_by (by decide +kernel)
theorem freL (i : Nat) (hi : i ≤ 7) : ∀ y ∈ (lm i).2.2.names, y.2 = .free → (defScope s_law).names.lookup y.1 = some .cell ∨ (defScope s_law).names.lookup y.1 = some .free := match i, hi with
  | 0, _ => ndef_free (fr := []) (by decide +kernel)
  | 1, _ => ndef_free (fr := []) (by decide +kernel)
  | 2, _ => ndef_free (fr := []) (by decide +kernel)
  | 3, _ => ndef_free (fr := []) (by decide +kernel)
  | 4, _ => ndef_free (fr := []) (by decide +kernel)
  | 5, _ => ndef_free (fr := []) (by decide +kernel)
  | 6, _ => ndef_free (fr := []) (by decide +kernel)
  | 7, _ => ndef_free (fr := []) (by decide +kernel)
  | n + 8, h => absurd h (by omega)
section
variable {P : Program} {w : World} {K : PySem.W.Frag} {mg : Str → Option Value} {base : Heap} {c : Nat → Addr} {Pt C1 C2 : Addr} {F : NF} {f p : Addr} {v u : V} {h : Heap} {H : Hp}
def spFu (K : PySem.W.Frag) (C1 C2 Pt : Addr) (v u : V) : Hp → VK → XK → Prop := fun H Q E => spFillX K C1 C2 Pt [v, u] H Q E
theorem spFu_mon {H : Hp} (R R' : VK) (E E' : XK) (h1 : ∀ v H1, R v H1 → R' v H1) (h2 : ∀ cls d H1, E cls d H1 → E' cls d H1) (h : spFu K C1 C2 Pt v u H R E) : spFu K C1 C2 Pt v u H R' E' := by
  obtain ⟨v', u', t, b, a1, a2, a3, a4, a5, a6, a7⟩ := h
  refine ⟨v', u', t, b, a1, a2, a3, a4, fun z H' s => h2 _ _ _ (a5 z H' s), fun z y H' s => h2 _ _ _ (a6 z y H' s), fun z y => ?_⟩
  obtain ⟨d, m, b1, b2, b3, b4⟩ := a7 z y
  exact ⟨d, m, b1, b2, b3, fun k e o H' r g t hr => h1 _ _ (b4 k e o H' r g t hr)⟩
theorem act_fill1 (CF : Cal P w K mg base 5 "fill" ["kind", "values"] (spFillX K C1 C2 Pt)) (eF : F.params = (lm 1).1 ∧ F.scope = (lm 1).2.2) (Cc : CellsAt F.cl ["_law_thing", "_law_held"] [some v, some u] h H) (h1 : H f = some (LamO f F (lm 1).2.1)) (h2 : H F.c = some (CodeO F.c F.qual)) : ActR P w K mg base 5 f h H (spFu K C1 C2 Pt v u) := by
  obtain ⟨name, qual, params, fb, scope, cl, c⟩ := F
  obtain ⟨rfl, rfl⟩ := eF
  exact ⟨_, (lm 1).2.1, _, _, _, _, sc_lm1, fun pm ctv => rfl, fun A outer s H E hr => pcE (takes_of rfl rfl rfl rfl) CF hr (by rfl) (pa_cons (pe_var (x := "_law_thing") (i := 0) rfl (.inr (.inr rfl))) (pa_cons (pe_var (x := "_law_held") (i := 1) rfl (.inr (.inr rfl))) pa_nil)), Cc, h1, h2, fun H' Q E z => ⟨v, rfl, u, rfl, z⟩⟩
theorem act_fill5 (CF : Cal P w K mg base 5 "fill" ["kind", "values"] (spFillX K C1 C2 Pt)) (eF : F.params = (lm 5).1 ∧ F.scope = (lm 5).2.2) (Cc : CellsAt F.cl ["_law_kind", "_law_held"] [some v, some u] h H) (h1 : H f = some (LamO f F (lm 5).2.1)) (h2 : H F.c = some (CodeO F.c F.qual)) : ActR P w K mg base 5 f h H (spFu K C1 C2 Pt v u) := by
  obtain ⟨name, qual, params, fb, scope, cl, c⟩ := F
  obtain ⟨rfl, rfl⟩ := eF
  exact ⟨_, (lm 5).2.1, _, _, _, _, sc_lm5, fun pm ctv => rfl, fun A outer s H E hr => pcE (takes_of rfl rfl rfl rfl) CF hr (by rfl) (pa_cons (pe_var (x := "_law_kind") (i := 0) rfl (.inr (.inr rfl))) (pa_cons (pe_var (x := "_law_held") (i := 1) rfl (.inr (.inr rfl))) pa_nil)), Cc, h1, h2, fun H' Q E z => ⟨v, rfl, u, rfl, z⟩⟩
/-- a number of a thing -/
def spNu (K : PySem.W.Frag) (C : Addr) (g : Kd → Nat) (v : V) : Hp → VK → XK → Prop := fun H Q E => spNumX K C g [v] H Q E
theorem spNu_mon {C : Addr} {g : Kd → Nat} {H : Hp} (R R' : VK) (E E' : XK) (h1 : ∀ v H1, R v H1 → R' v H1) (h2 : ∀ cls d H1, E cls d H1 → E' cls d H1) (h : spNu K C g v H R E) : spNu K C g v H R' E' := by
  obtain ⟨u, t, a, b, d, e, f⟩ := h
  exact ⟨u, t, a, b, d, fun k x y H' s => h1 _ _ (e k x y H' s), fun x H' s => h2 _ _ _ (f x H' s)⟩
theorem act_size2 (CS : Cal P w K mg base 5 "size" ["kind"] (spNumX K C1 Kd.size)) (eF : F.params = (lm 2).1 ∧ F.scope = (lm 2).2.2) (Cc : CellsAt F.cl ["_law_thing"] [some v] h H) (h1 : H f = some (LamO f F (lm 2).2.1)) (h2 : H F.c = some (CodeO F.c F.qual)) : ActR P w K mg base 5 f h H (spNu K C1 Kd.size v) := by
  obtain ⟨name, qual, params, fb, scope, cl, c⟩ := F
  obtain ⟨rfl, rfl⟩ := eF
  exact ⟨_, (lm 2).2.1, _, _, _, _, sc_lm2, fun pm ctv => rfl, fun A outer s H E hr => pcE (takes_of rfl rfl rfl rfl) CS hr (by rfl) (pa_cons (pe_var (x := "_law_thing") (i := 0) rfl (.inr (.inr rfl))) pa_nil), Cc, h1, h2, fun H' Q E z => ⟨v, rfl, z⟩⟩
theorem act_depth3 (CS : Cal P w K mg base 5 "depth" ["kind"] (spNumX K C1 Kd.depth)) (eF : F.params = (lm 3).1 ∧ F.scope = (lm 3).2.2) (Cc : CellsAt F.cl ["_law_thing"] [some v] h H) (h1 : H f = some (LamO f F (lm 3).2.1)) (h2 : H F.c = some (CodeO F.c F.qual)) : ActR P w K mg base 5 f h H (spNu K C1 Kd.depth v) := by
  obtain ⟨name, qual, params, fb, scope, cl, c⟩ := F
  obtain ⟨rfl, rfl⟩ := eF
  exact ⟨_, (lm 3).2.1, _, _, _, _, sc_lm3, fun pm ctv => rfl, fun A outer s H E hr => pcE (takes_of rfl rfl rfl rfl) CS hr (by rfl) (pa_cons (pe_var (x := "_law_thing") (i := 0) rfl (.inr (.inr rfl))) pa_nil), Cc, h1, h2, fun H' Q E z => ⟨v, rfl, z⟩⟩
def spTe (K : PySem.W.Frag) (C : Addr) (v : V) : Hp → VK → XK → Prop := fun H Q E => spTextX K C [v] H Q E
theorem spTe_mon {C : Addr} {H : Hp} (R R' : VK) (E E' : XK) (h1 : ∀ v H1, R v H1 → R' v H1) (h2 : ∀ cls d H1, E cls d H1 → E' cls d H1) (h : spTe K C v H R E) : spTe K C v H R' E' := by
  obtain ⟨u, t, a, b, d, e, f⟩ := h
  exact ⟨u, t, a, b, d, fun k x y H' z s q => h1 _ _ (e k x y H' z s q), fun x H' s => h2 _ _ _ (f x H' s)⟩
theorem act_text4 (CS : Cal P w K mg base 5 "text" ["kind"] (spTextX K C1)) (eF : F.params = (lm 4).1 ∧ F.scope = (lm 4).2.2) (Cc : CellsAt F.cl ["_law_thing"] [some v] h H) (h1 : H f = some (LamO f F (lm 4).2.1)) (h2 : H F.c = some (CodeO F.c F.qual)) : ActR P w K mg base 5 f h H (spTe K C1 v) := by
  obtain ⟨name, qual, params, fb, scope, cl, c⟩ := F
  obtain ⟨rfl, rfl⟩ := eF
  exact ⟨_, (lm 4).2.1, _, _, _, _, sc_lm4, fun pm ctv => rfl, fun A outer s H E hr => pcE (takes_of rfl rfl rfl rfl) CS hr (by rfl) (pa_cons (pe_var (x := "_law_thing") (i := 0) rfl (.inr (.inr rfl))) pa_nil), Cc, h1, h2, fun H' Q E z => ⟨v, rfl, z⟩⟩
/-- fill(("one",), {}) -/
def spOne (K : PySem.W.Frag) (Pt : Addr) : Hp → VK → XK → Prop := fun H Q _ => TabS H Pt tq ∧ ∀ r H', GroP Pt H H' → TabS H' Pt tq → Kp K H' r (.C0 "one") → Q r H'
theorem spOne_mon {H : Hp} (R R' : VK) (E E' : XK) (h1 : ∀ v H1, R v H1 → R' v H1) (h2 : ∀ cls d H1, E cls d H1 → E' cls d H1) (h : spOne K Pt H R E) : spOne K Pt H R' E' := ⟨h.1, fun r H' a b k => h1 _ _ (h.2 r H' a b k)⟩
theorem act_one7 (CF : Cal P w K mg base 5 "fill" ["kind", "values"] (spFillX K C1 C2 Pt)) (eF : F.params = (lm 7).1 ∧ F.scope = (lm 7).2.2) (Cc : CellsAt F.cl [] [] h H) (h1 : H f = some (LamO f F (lm 7).2.1)) (h2 : H F.c = some (CodeO F.c F.qual)) : ActR P w K mg base 5 f h H (spOne K Pt) := by
  obtain ⟨name, qual, params, fb, scope, cl, c⟩ := F
  obtain ⟨rfl, rfl⟩ := eF
  refine ⟨_, (lm 7).2.1, _, _, _, _, sc_lm7, fun pm ctv => rfl, fun A outer s H E hr => pcE (takes_of rfl rfl rfl rfl) CF hr (by rfl) (pa_cons (pe_tup (pa_cons pe_str pa_nil)) (pa_cons pe_dnewK pa_nil)), Cc, h1, h2, fun H' Q E z => ?_⟩
  refine ⟨by show 1 ≤ sizeLine; decide, fun t ht => fun d hd => ?_⟩
  have s1 := same_new ht (.tup [.str "one"])
  have s2 := same_new hd (.dK [])
  have hT : Th K (upd (upd H' t (.tup [.str "one"])) d (.dK [])) (.ref t) (Kd.C0 "one").tg := .tup (.inl (.inl (s2 _ _ upd_same))) (.cons (.str "one" (by decide +kernel)) .nil)
  have vl : Vl K (upd (upd H' t (.tup [.str "one"])) d (.dK [])) (.ref d) (([] : List (Tg × Tg)).all entR) := .dk upd_same .nil (fun e h => by cases h) (by simp)
  have hone : isT (Kd.C0 "one").tg = true := by decide +kernel
  refine ⟨.ref t, .ref d, _, _, rfl, hT, by decide, vl, (fun z => by rw [hone] at z; cases z), (fun _ z => by cases z), fun _ _ => ⟨d, [], rfl, ⟨[], upd_same, .nil⟩, z.1.ext (s1.trans s2), fun k ek _ H2 r g t' hr => ?_⟩⟩
  refine z.2 r H2 ((GroP.of (s1.trans s2)).trans g) t' ?_
  have e2 : fillK [] k = .C0 "one" := by
    cases k with
    | L c => cases ek
    | C0 n =>
      have ek' : Tg.tup [.str "one"] = Tg.tup [.str n] := ek
      simp only [Tg.tup.injEq, List.cons.injEq, Tg.str.injEq, and_true] at ek'
      rw [← ek']
      rfl
    | C1 n a => have h' := Tg.tup.inj ek; simp at h'
    | C2 n a b => have h' := Tg.tup.inj ek; simp at h'
  rw [e2] at hr
  exact hr
/-- fill(pick(pen, [None, "x", ["one"]]), held) -/
def three : List (Tg × PyData) := [(.oth, .none), oS "x", (.oth, .list [.str "one"])]
theorem three_no : ∀ e ∈ three, isT e.1 = false ∧ e.1.nodes ≤ 20 := by decide +kernel
def spPi (K : PySem.W.Frag) (c : Nat → Addr) (p : Addr) (u : V) : Hp → VK → XK → Prop := fun H _ E => ∃ e, Pen H p ∧ Hv K H p u e ∧ ∀ H', Tr p H H' → Pen H' p → (∀ Pt q, TabS H Pt q → TabS H' Pt q) → E (.ref (c 0)) none H'
theorem spPi_mon {H : Hp} (R R' : VK) (E E' : XK) (h1 : ∀ v H1, R v H1 → R' v H1) (h2 : ∀ cls d H1, E cls d H1 → E' cls d H1) (h : spPi K c p u H R E) : spPi K c p u H R' E' := by
  obtain ⟨e, a, b, d⟩ := h
  exact ⟨e, a, b, fun H' x y z => h2 _ _ _ (d H' x y z)⟩
theorem tab_bar {p Pt : Addr} {H H' : Hp} {q : Str} (pn : Pen H p) (b : Bar p H H') (t : TabS H Pt q) : TabS H' Pt q := by
  obtain ⟨i, j, k, ep, _⟩ := pn
  obtain ⟨ps, h1, h2, h3⟩ := t
  refine ⟨ps, b _ _ (fun z => by rw [z, ep] at h1; cases h1) h1, h2, fun pos cv hc => ?_⟩
  obtain ⟨c, e1, e2⟩ := h3 pos cv hc
  refine ⟨c, e1, b _ _ (fun z => ?_) e2⟩
  rw [z, ep] at e2
  unfold CodeO at e2
  cases e2
theorem pen_new {p l : Addr} {H : Hp} (h : Pen H p) (hl : H l = none) : l ≠ p := fun e => by
  obtain ⟨i, j, k, z, _⟩ := h
  rw [← e, hl] at z
  cases z
theorem paEx {X : Cx} {xs : List Expr} {t : Addr → TA} (h : ∀ p, PA X xs (t p)) : PA X xs (fun σ H Q => ∃ p, t p σ H Q) := ⟨fun pos pins s σ H Q I ⟨p, z⟩ => (h p).run pos pins s σ H Q I z⟩
theorem act_pick6 (CF : Cal P w K mg base 5 "fill" ["kind", "values"] (spFillX K (c 0) C2 Pt)) (CI : Cal P w K mg base 2 "_law_pick" ["_law_pen_here", "_law_some"] (spPick K)) (eF : F.params = (lm 6).1 ∧ F.scope = (lm 6).2.2) (Cc : CellsAt F.cl ["_law_pen_here", "_law_held"] [some (.ref p), some u] h H) (h1 : H f = some (LamO f F (lm 6).2.1)) (h2 : H F.c = some (CodeO F.c F.qual)) : ActR P w K mg base 5 f h H (spPi K c p u) := by
  obtain ⟨name, qual, params, fb, scope, cl, c'⟩ := F
  obtain ⟨rfl, rfl⟩ := eF
  refine ⟨_, (lm 6).2.1, _, _, _, _, sc_lm6, fun pm ctv => rfl, fun A outer s H E hr => pcE (takes_of rfl rfl rfl rfl) CF hr (by rfl) (pa_cons (pc CI (hr.mono (by decide)) (by rfl) (pa_cons (pe_var (x := "_law_pen_here") (i := 0) rfl (.inr (.inr rfl))) (pa_cons (pe_lst (show PA _ _ (tObs K p three) from ob_cons ob_non (ob_cons ob_str (ob_cons (ob_lst ["one"] (pa_cons pe_str pa_nil)) ob_nil)))) pa_nil))) (pa_cons (pe_var (x := "_law_held") (i := 1) rfl (.inr (.inr rfl))) pa_nil)), Cc, h1, h2, fun H' Q E z => ?_⟩
  obtain ⟨e, pn, hv, q⟩ := z
  refine ⟨.ref p, rfl, (by obtain ⟨i, j, k, z, _⟩ := pn; exact ⟨_, z⟩), fun vs H1 s1 obs => ?_⟩
  have hl3 : vs.length = 3 := Paired.length obs
  refine ⟨by rw [hl3]; decide, fun l hl => ?_⟩
  have pn1 := pn.same s1
  have s2 := s1.trans (same_new hl (.lst vs))
  have pn2 := pn.same s2
  have nl : l ≠ p := pen_new pn1 hl
  refine ⟨p, l, vs, rfl, pn2, nl, SqL.of upd_same, by omega, by omega, fun H2 x b pn3 hx => ?_⟩
  obtain ⟨y, hy, ob⟩ := mem_ob obs hx
  have t1 := Tr.bar b pn2 pn3
  have ob2 := (ob.same (same_new hl (.lst vs))).tr t1 pn2
  have tt := (Tr.same (p := p) s2).trans t1
  obtain ⟨n1, n2⟩ := three_no y hy
  refine ⟨u, rfl, x, u, y.1, e.b, rfl, ob2.1, by omega, hv.2.1.tr tt pn, fun _ H3 s3 => ?_, (fun z _ => by rw [n1] at z; cases z), (fun z _ => by rw [n1] at z; cases z)⟩
  exact q H3 (tt.trans (Tr.same s3)) (pn3.same s3) fun Pt' q' t => (tab_bar pn2 b (t.ext s2)).ext s3
end
end N

namespace N
open PySem PySem.Spec PyProof.Rows L2 L2H StX LamX NdefX
/-! ### what a law keeps: the pen, the tables, all else since a heap -/
structure LS (p P1 P2 : Addr) (H H' : Hp) : Prop where
  t : Tr p H H'
  pn : Pen H' p
  t1 : TabS H' P1 tq
  t2 : TabS H' P2 tqL
namespace LS
variable {p P1 P2 : Addr} {H H1 H2 : Hp}
theorem same (a : LS p P1 P2 H H1) (s : Same H1 H2) : LS p P1 P2 H H2 := ⟨a.t.trans (Tr.same s), a.pn.same s, a.t1.ext s, a.t2.ext s⟩
theorem bar (a : LS p P1 P2 H H1) (b : Bar p H1 H2) (pn : Pen H2 p) : LS p P1 P2 H H2 := ⟨a.t.trans (Tr.bar b a.pn pn), pn, tab_bar a.pn b a.t1, tab_bar a.pn b a.t2⟩
theorem lam (n : P1 ≠ P2) (a : LS p P1 P2 H H1) (x : ExtP P2 H1 H2) (e : ExtN H1 H2) (t : TabS H2 P2 tqL) (z : ∀ b, H2 b = none → H1 b = none) : LS p P1 P2 H H2 :=
  ⟨a.t.trans (Tr.gro ⟨e, z⟩), (Tr.gro (p := p) ⟨e, z⟩).p a.pn, x.tab n (by obtain ⟨ps, h, _⟩ := a.t2; exact ⟨ps, h⟩) a.t1, t⟩
theorem gro (n : P1 ≠ P2) (a : LS p P1 P2 H H1) (g : GroP P1 H1 H2) (t : TabS H2 P1 tq) : LS p P1 P2 H H2 :=
  ⟨a.t.trans (Tr.gro g.g), (Tr.gro (p := p) g.g).p a.pn, t, g.x.tab (Ne.symm n) (by obtain ⟨ps, h, _⟩ := a.t1; exact ⟨ps, h⟩) a.t2⟩
theorem self (pn : Pen H p) (t1 : TabS H P1 tq) (t2 : TabS H P2 tqL) : LS p P1 P2 H H := ⟨Tr.refl p H, pn, t1, t2⟩
theorem next (a : LS p P1 P2 H H1) (b : LS p P1 P2 H1 H2) : LS p P1 P2 H H2 := ⟨a.t.trans b.t, b.pn, b.t1, b.t2⟩
theorem here (a : LS p P1 P2 H H1) : LS p P1 P2 H1 H1 := self a.pn a.t1 a.t2
theorem lst {l : Addr} {xs : List V} (a : LS p P1 P2 H H1) (n : l ≠ p) (h : H l = some (.lst xs)) : H1 l = some (.lst xs) := a.t.e _ _ n (fun _ z => by cases z) h
/-- a list that was not there yet is written -/
theorem put {l : Addr} {xs ys : List V} (a : LS p P1 P2 H H1) (n : l ≠ p) (h0 : H l = none) (h : H1 l = some (.lst xs)) : LS p P1 P2 H (upd H1 l (.lst ys)) := by
  refine ⟨⟨fun b o nb nt e => ?_, fun b z => ?_, fun _ => ?_⟩, ?_, ?_, ?_⟩
  · rw [upd_ne (ne_of_none e h0)]
    exact a.t.e b o nb nt e
  · by_cases e : b = l
    · rw [e]; exact h0
    · rw [upd_ne e] at z; exact a.t.n b z
  · obtain ⟨i, j, k, e, r⟩ := a.pn
    exact ⟨i, j, k, by rw [upd_ne (Ne.symm n)]; exact e, r⟩
  · obtain ⟨i, j, k, e, r⟩ := a.pn
    exact ⟨i, j, k, by rw [upd_ne (Ne.symm n)]; exact e, r⟩
  · exact tabPut a.t1 h
  · exact tabPut a.t2 h
where
  tabPut {P l : Addr} {q : Str} {H : Hp} {xs ys : List V} (t : TabS H P q) (h : H l = some (.lst xs)) : TabS (upd H l (.lst ys)) P q := by
    obtain ⟨ps, h1, h2, h3⟩ := t
    have n1 : P ≠ l := fun e => by rw [e, h] at h1; cases h1
    refine ⟨ps, by rw [upd_ne n1]; exact h1, h2, fun p' cv z => ?_⟩
    obtain ⟨c0, e, hc⟩ := h3 p' cv z
    have n2 : c0 ≠ l := fun e => by
      rw [e, h] at hc
      unfold CodeO at hc
      cases hc
    exact ⟨c0, e, by rw [upd_ne n2]; exact hc⟩
end LS
def nvR : List He := [⟨.dict [(.str "X", .tuple [.str "one"])], true, [("X", .C0 "one")]⟩, ⟨.dict [], true, []⟩]
theorem nvA_ok : ∀ e ∈ noVs ++ nvR, nvB e = true ∧ (e.b = true → ∀ q ∈ e.m, q.2.ok ∧ q.2.nds ≤ 9) := by
  intro e he
  rcases List.mem_append.mp he with h | h
  · obtain ⟨h1, h2⟩ := nv_sm e h
    exact ⟨h1, fun z => by rw [h2] at z; cases z⟩
  · simp only [nvR, List.mem_cons, List.not_mem_nil, or_false] at h
    rcases h with rfl | rfl
    · refine ⟨by decide +kernel, fun _ q hq => ?_⟩
      simp only [List.mem_cons, List.not_mem_nil, or_false] at hq
      subst hq
      exact ⟨show isNam "one" = true by decide +kernel, by decide⟩
    · exact ⟨by decide +kernel, fun _ q hq => by cases hq⟩
section
variable {K : PySem.W.Frag} {cells : List (Str × Addr)} {P1 : Addr} {c : Nat → Addr}
/-- fill of the things at the slots j and 4 -/
def RRF (K : PySem.W.Frag) (cells : List (Str × Addr)) (P1 : Addr) (j n : Nat) : L2.St → List V → Hp → VK → Prop := fun σ vs H1 Q1 => ∃ (f1 c1 : Addr) (v u : V) (p : Addr) (t : Tg) (e : He), vs = [.ref f1] ∧ slotAt σ j = some v ∧ slotAt σ 4 = some u ∧ H1 f1 = some (LamO f1 (lamF tqL (lm n).1 (lm n).2.2 (cloFrom cells (lm n).2.2.names []) c1) (lm n).2.1) ∧ H1 c1 = some (CodeO c1 tqL) ∧
  Th K H1 v t ∧ t.nodes ≤ 20 ∧ Hv K H1 p u e ∧ (e.b = true → ∀ q ∈ e.m, q.2.ok ∧ q.2.nds ≤ 9) ∧ TabS H1 P1 tq ∧ ∀ (r : Str) H2, GroP P1 H1 H2 → TabS H2 P1 tq → (isT t = false → r = "! NoType") → (isT t = true → e.b = false → r = "! NoValues") → Q1 (.str r) H2
def RRN (K : PySem.W.Frag) (cells : List (Str × Addr)) (n : Nat) : L2.St → List V → Hp → VK → Prop := fun σ vs H1 Q1 => ∃ (f1 c1 : Addr) (v : V) (t : Tg), vs = [.ref f1] ∧ slotAt σ 3 = some v ∧ H1 f1 = some (LamO f1 (lamF tqL (lm n).1 (lm n).2.2 (cloFrom cells (lm n).2.2.names []) c1) (lm n).2.1) ∧ H1 c1 = some (CodeO c1 tqL) ∧
  Th K H1 v t ∧ t.nodes ≤ 1000 ∧ ∀ (r : Str) H2, Same H1 H2 → (isT t = false → r = "! NoType") → Q1 (.str r) H2
def RRP (K : PySem.W.Frag) (cells : List (Str × Addr)) : L2.St → List V → Hp → VK → Prop := fun σ vs H1 Q1 => ∃ (f1 c1 : Addr) (u : V) (p : Addr) (e : He), vs = [.ref f1] ∧ slotAt σ 2 = some (.ref p) ∧ slotAt σ 4 = some u ∧ H1 f1 = some (LamO f1 (lamF tqL (lm 6).1 (lm 6).2.2 (cloFrom cells (lm 6).2.2.names []) c1) (lm 6).2.1) ∧ H1 c1 = some (CodeO c1 tqL) ∧
  Pen H1 p ∧ Hv K H1 p u e ∧ ∀ H2, Tr p H1 H2 → Pen H2 p → (∀ Pt q, TabS H1 Pt q → TabS H2 Pt q) → Q1 (.str "! NoType") H2
def RRO (K : PySem.W.Frag) (cells : List (Str × Addr)) (P1 : Addr) : L2.St → List V → Hp → VK → Prop := fun σ vs H1 Q1 => ∃ (f1 c1 : Addr), vs = [.ref f1] ∧ H1 f1 = some (LamO f1 (lamF tqL (lm 7).1 (lm 7).2.2 (cloFrom cells (lm 7).2.2.names []) c1) (lm 7).2.1) ∧ H1 c1 = some (CodeO c1 tqL) ∧
  TabS H1 P1 tq ∧ ∀ H2, Q1 (.str (Kd.C0 "one").pd.shown) H2
end
theorem one_pd : (Kd.C0 "one").pd.showable = true ∧ (Kd.C0 "one").pd.hasDict = false ∧ (Kd.C0 "one").pd.depth ≤ 60 ∧ (Kd.C0 "one").pd.shown.length ≤ 100 := by decide +kernel
theorem four_eq (a : Str) : PyData.eqv (.list [.str a, .str a, .str a, .str a]) (.list [.str a, .str a, .str a, .str a]) = true := by simp [PyData.eqv, PyData.eqvAll]
theorem four_shaped : SeqAt.shaped (.list [.str "! NoType", .str "! NoType", .str "! NoType", .str "! NoType"]) = true := by decide +kernel
end N

namespace N
open PySem PySem.Spec PyProof.Rows L2 L2H StX LamX NdefX
section
variable {P : Program} {w : World} {K : PySem.W.Frag} {mg : Str → Option Value} {base : Heap} {c : Nat → Addr}
def spLaw4 (K : PySem.W.Frag) (P1 P2 : Addr) : Sp := fun vs H Q _ => ∃ (a : Addr) (ns : List Int), vs = [.ref a] ∧ SqL K H a (ns.map V.int) ∧ ns.length ≤ 63 ∧ TabS H P1 tq ∧ TabS H P2 tqL ∧ ∀ H', Q (.bl true) H'
/-- the list that a thing's held is picked of -/
def tNvA (K : PySem.W.Frag) : TA := fun σ H Q => ∃ p, tHvs K p nvR σ H Q
theorem groTr {p : Addr} {H H1 H' : Hp} (g : Gro H H1) (h0 : H p = none) (t : Tr p H1 H') : Gro H H' :=
  ⟨fun b o e nt => t.e b o (ne_of_none e h0) nt (g.e b o e nt), fun b z => g.n b (t.n b z)⟩
theorem size_le_nds : ∀ k : Kd, k.size ≤ k.nds
  | .L _ => Nat.zero_le _
  | .C0 _ => Nat.le_refl _
  | .C1 _ a => by
    have := size_le_nds a
    simp only [Kd.size, Kd.nds]
    omega
  | .C2 _ a b => by
    have h1 := size_le_nds a
    have h2 := size_le_nds b
    simp only [Kd.size, Kd.nds]
    omega
theorem ok_law4 {ke cc P1 P2 f : Addr} {oc kV doc pm ct : Value} {od an : Option Addr} {osl : Array (Option Value)} (G : Glo mg) (nP : P1 ≠ P2) (TB : TabB base mg cc P2)
    (CC : Cal P w K mg base 1 "_law_cell_at" ["_law_script", "_law_k"] (spCell K)) (CP : Cal P w K mg base 1 "_law_pen" ["_law_cell"] (spPen K)) (CI : Cal P w K mg base 2 "_law_pick" ["_law_pen_here", "_law_some"] (spPick K))
    (CO : Cal P w K mg base 1 "_law_odd" [] (spOdd K)) (CN : Cal P w K mg base 1 "_law_no_values" [] (spNoV K)) (CK : Cal P w K mg base 31 "_law_is_kind" ["_law_thing"] (spIsK K 30)) (CW : CalP P w K mg base 1 "_law_word" ["_law_e"] (spWordP c))
    (gk : mg "KindError" = some (.ref ke)) (hx : ∀ i, i < 13 → PySem.W.exmOne K (.ref (c i)) (.ref ke) = some true)
    (CF : Cal P w K mg base 5 "fill" ["kind", "values"] (spFillX K (c 0) (c 1) P1)) (CS : Cal P w K mg base 5 "size" ["kind"] (spNumX K (c 0) Kd.size)) (CD : Cal P w K mg base 5 "depth" ["kind"] (spNumX K (c 0) Kd.depth)) (CT : Cal P w K mg base 5 "text" ["kind"] (spTextX K (c 0)))
    (DS : DefAt K mg "_law_said" s_Lsaid ["_law_call"])
    (lk : K.lookup f = some ⟨oc, od, .func (PySem.W.fnOf "law" "law" (defArgs s_law) (defBody s_law) (defScope s_law) .none kV doc pm an (.ref cc) ct), osl⟩) (hcd : PySem.W.codeIn K (.ref cc) "law" = true) :
    FnG P w K mg base (L2.CX P w) 32 f (PySem.W.fnOf "law" "law" (defArgs s_law) (defBody s_law) (defScope s_law) .none kV doc pm an (.ref cc) ct) ["_law_script"] (spLaw4 K P1 P2) := by
  have len : ∀ vs H Q E, spLaw4 K P1 P2 vs H Q E → vs.length = (["_law_script"] : List Str).length := fun vs H Q E h => by
    obtain ⟨a, ns, rfl, _⟩ := h
    rfl
  refine ⟨len, fun A outer s H args us vs Q E hr0 e0 bt r hsp => run_ofS lk hcd sc_law hr0.toRoom e0 bt r (len _ _ _ _ hsp) fun hr' => ?_⟩
  have hr : RoomG 31 (A.deeper (envOfC "law" (defScope s_law) s.heap.objs.size f (.ref cc))) := ⟨hr', hr0.gs⟩
  obtain ⟨a, ns, rfl, hS, hlen, tt1, tt2, q⟩ := hsp
  have hr1 : RoomG 1 _ := hr.mono (by decide)
  have hr2 : RoomG 2 _ := hr.mono (by decide)
  have hr7 : RoomG (6 + 1) (A.deeper (envOfC "law" (defScope s_law) s.heap.objs.size f (.ref cc))) := hr.mono (by decide)
  refine ⟨_, (pss_cons (ps_for (passes_of rfl) rfl (pi_range1 rfl G.range (pa_cons (pe_callB (call_max2 rfl) (by rfl) G.max (by decide +kernel) (pa_cons pe_int (pa_cons (pe_callB (call_min2 rfl) (by rfl) G.min (by decide +kernel) (pa_cons (pe_callB call_len_seq (by rfl) G.len PySem.boot_len (pa_cons (pv 0) pa_nil)) (pa_cons pe_int pa_nil))) pa_nil))) pa_nil)) (pg_name (i := 1) sc_law.nd rfl (Or.inl rfl)) (pss_cons (ps_set (i := 2) sc_law.nd rfl (Or.inr rfl) (pc CP hr1 rfl (pa_cons (pc CC hr1 rfl (pa_cons (pv 0) (pa_cons (pv 1) pa_nil))) pa_nil)))
 (pss_cons (ps_for (passes_of rfl) rfl (pi_list (pc0 CO hr1 rfl)) (pg_name (i := 3) sc_law.nd rfl (Or.inr rfl)) (pss_cons (ps_set (i := 4) sc_law.nd rfl (Or.inr rfl) (pc CI hr2 rfl (pa_cons (pv 2) (pa_cons (pe_op op_cat (pc0 CN hr1 rfl) (pe_lst (show PA _ _ (tNvA K) from paEx fun p => hv_cons (hv_d1 (k := Sum.inr "X") (tk := .str "X") (m := [("X", .C0 "one")]) pe_str (fun σ H Q z => z) (fun H => .str "X" (by decide +kernel)) (ob_tup (ob_cons ob_str ob_nil)) rfl (by decide) (by decide +kernel) (fun _ => ⟨"X", .C0 "one", rfl, rfl, rfl⟩)) (hv_cons hv_d0 hv_nil)))) pa_nil))))
 (pss_cons (ps_set (i := 5) sc_law.nd rfl (Or.inl rfl) (pe_callB (call_repr2 hr) (by rfl) G.repr (by decide +kernel) (pa_cons (pe_lstF (pa_cons (pv 3) (pa_cons (pv 4) pa_nil))) pa_nil)))
 (pss_cons (ps_set (i := 6) sc_law.nd rfl (Or.inl rfl) (pe_lst (pa_cons (pe_callH (k := 6) (RR := RRF K (envOfC "law" (defScope s_law) s.heap.objs.size f (.ref cc)).cells P1 3 1) DS sc_Lsaid hr7 rfl (pa_cons (pe_lamT2 TB rfl rfl (freL 1 (by decide))) pa_nil) (fun σ vs H1 Q1 z => by obtain ⟨f1, c1, v, u, p, t, e, rfl, _⟩ := z; rfl) (fun g cdv pins s1 σ H1 vs Q1 J hr' z => ?_)) pa_nil)))
 (pss_cons (ps_expr (pe_bm PySem.F.plainAttrs_list PySem.F.slot_list_append PySem.F.type_list_append mt_append (pv 6) (pa_cons (pe_callH (k := 6) (RR := RRN K (envOfC "law" (defScope s_law) s.heap.objs.size f (.ref cc)).cells 2) DS sc_Lsaid hr7 rfl (pa_cons (pe_lamT2 TB rfl rfl (freL 2 (by decide))) pa_nil) (fun σ vs H1 Q1 z => by obtain ⟨f1, c1, v, t, rfl, _⟩ := z; rfl) (fun g cdv pins s1 σ H1 vs Q1 J hr' z => ?_)) pa_nil)))
 (pss_cons (ps_expr (pe_bm PySem.F.plainAttrs_list PySem.F.slot_list_append PySem.F.type_list_append mt_append (pv 6) (pa_cons (pe_callH (k := 6) (RR := RRN K (envOfC "law" (defScope s_law) s.heap.objs.size f (.ref cc)).cells 3) DS sc_Lsaid hr7 rfl (pa_cons (pe_lamT2 TB rfl rfl (freL 3 (by decide))) pa_nil) (fun σ vs H1 Q1 z => by obtain ⟨f1, c1, v, t, rfl, _⟩ := z; rfl) (fun g cdv pins s1 σ H1 vs Q1 J hr' z => ?_)) pa_nil)))
 (pss_cons (ps_expr (pe_bm PySem.F.plainAttrs_list PySem.F.slot_list_append PySem.F.type_list_append mt_append (pv 6) (pa_cons (pe_callH (k := 6) (RR := RRN K (envOfC "law" (defScope s_law) s.heap.objs.size f (.ref cc)).cells 4) DS sc_Lsaid hr7 rfl (pa_cons (pe_lamT2 TB rfl rfl (freL 4 (by decide))) pa_nil) (fun σ vs H1 Q1 z => by obtain ⟨f1, c1, v, t, rfl, _⟩ := z; rfl) (fun g cdv pins s1 σ H1 vs Q1 J hr' z => ?_)) pa_nil)))
 (pss_one (ps_if (PW.pt (pw_or (PW.pt (pw_and (pt_not (pt_val (pc CK hr rfl (pa_cons (pv 3) pa_nil)))) (pw_and1 (pt_cmpR (op_neD hr.units) (pv 6) (pe_op op_rep (pe_lst (pa_cons pe_str pa_nil)) pe_int) (nomark _))))) (pw_or1 (pt_cmpR op_ne (pe_callB (call_repr2 hr) (by rfl) G.repr (by decide +kernel) (pa_cons (pe_lstF (pa_cons (pv 3) (pa_cons (pv 4) pa_nil))) pa_nil)) (pv 5) (nomark _))))) (pss_one (ps_ret pe_bl)) pss_nil)))))))))
 (pss_one (ps_for (passes_of rfl) rfl (pi_list (pc0 CN hr1 rfl)) (pg_name (i := 4) sc_law.nd rfl (Or.inr rfl)) (pss_cons (ps_set (i := 5) sc_law.nd rfl (Or.inl rfl) (pe_callB (call_reprH hr) (by rfl) G.repr (by decide +kernel) (pa_cons (pv 4) pa_nil)))
 (pss_cons (ps_for (passes_of rfl) rfl (pi_list (pe_lst (pa_cons pe_str (pa_cons (pe_tup (pa_cons pe_str pa_nil)) (pa_cons (pe_tup (pa_cons pe_str (pa_cons pe_str (pa_cons (pe_tup (pa_cons pe_str (pa_cons pe_str pa_nil))) pa_nil)))) pa_nil))))) (pg_name (i := 7) sc_law.nd rfl (Or.inr rfl)) (pss_one (ps_if (PW.pt (pw_or (pt_cmpR op_ne (pe_callH (k := 6) (RR := RRF K (envOfC "law" (defScope s_law) s.heap.objs.size f (.ref cc)).cells P1 7 5) DS sc_Lsaid hr7 rfl (pa_cons (pe_lamT2 TB rfl rfl (freL 5 (by decide))) pa_nil) (fun σ vs H1 Q1 z => by obtain ⟨f1, c1, v, u, p, t, e, rfl, _⟩ := z; rfl) (fun g cdv pins s1 σ H1 vs Q1 J hr' z => ?_)) pe_str (nomark _)) (pw_or1 (pt_cmpR op_ne (pe_callB (call_reprH hr) (by rfl) G.repr (by decide +kernel) (pa_cons (pv 4) pa_nil)) (pv 5) (nomark _))))) (pss_one (ps_ret pe_bl)) pss_nil)))
 (pss_one (ps_if (pt_cmpR op_ne (pe_callH (k := 6) (RR := RRP K (envOfC "law" (defScope s_law) s.heap.objs.size f (.ref cc)).cells) DS sc_Lsaid hr7 rfl (pa_cons (pe_lamT2 TB rfl rfl (freL 6 (by decide))) pa_nil) (fun σ vs H1 Q1 z => by obtain ⟨f1, c1, u, p, e, rfl, _⟩ := z; rfl) (fun g cdv pins s1 σ H1 vs Q1 J hr' z => ?_)) pe_str (nomark _)) (pss_one (ps_ret pe_bl)) pss_nil)))))))))
 (pss_one (ps_ret (pe_cmpR op_eq (pe_callH (k := 6) (RR := RRO K (envOfC "law" (defScope s_law) s.heap.objs.size f (.ref cc)).cells P1) DS sc_Lsaid hr7 rfl (pa_cons (pe_lamT2 TB rfl rfl (freL 7 (by decide))) pa_nil) (fun σ vs H1 Q1 z => by obtain ⟨f1, c1, rfl, _⟩ := z; rfl) (fun g cdv pins s1 σ H1 vs Q1 J hr' z => ?_)) (pe_callB (call_repr hr) (by rfl) G.repr (by decide +kernel) (pa_cons (pe_tup (pa_cons pe_str pa_nil)) pa_nil)) (nomark _))))), ?_⟩
  -- the said
  · obtain ⟨f1, c1, v, u, p, t, e, rfl, h3, h4, x1, x2, hT, hn, hv, hm, ht, q1⟩ := z
    have C := cells_of (js := [3, 4]) (fr := ["_law_thing", "_law_held"]) J (Caps.made (scope := (lm 1).2.2) J.ok (freL 1 (by decide)) (by decide +kernel) rfl)
    have eC : ([3, 4] : List Nat).map (slotAt σ) = [some v, some u] := by rw [← h3, ← h4]; rfl
    rw [eC] at C
    exact said_body G CW gk hx (act_fill1 (F := lamF tqL (lm 1).1 (lm 1).2.2 _ c1) CF ⟨rfl, rfl⟩ C x1 x2) hr' spFu_mon (says_fill hT hn hv hm ht q1)
  · obtain ⟨f1, c1, v, t, rfl, h3, x1, x2, hT, hn, q1⟩ := z
    have C := cells_of (js := [3]) (fr := ["_law_thing"]) J (Caps.made (scope := (lm 2).2.2) J.ok (freL 2 (by decide)) (by decide +kernel) rfl)
    have eC : ([3] : List Nat).map (slotAt σ) = [some v] := by rw [← h3]; rfl
    rw [eC] at C
    exact said_body G CW gk hx (act_size2 (F := lamF tqL (lm 2).1 (lm 2).2.2 _ c1) CS ⟨rfl, rfl⟩ C x1 x2) hr' spNu_mon (says_num size_le_nds hT hn q1)
  · obtain ⟨f1, c1, v, t, rfl, h3, x1, x2, hT, hn, q1⟩ := z
    have C := cells_of (js := [3]) (fr := ["_law_thing"]) J (Caps.made (scope := (lm 3).2.2) J.ok (freL 3 (by decide)) (by decide +kernel) rfl)
    have eC : ([3] : List Nat).map (slotAt σ) = [some v] := by rw [← h3]; rfl
    rw [eC] at C
    exact said_body G CW gk hx (act_depth3 (F := lamF tqL (lm 3).1 (lm 3).2.2 _ c1) CD ⟨rfl, rfl⟩ C x1 x2) hr' spNu_mon (says_num depth_le_nds hT hn q1)
  · obtain ⟨f1, c1, v, t, rfl, h3, x1, x2, hT, hn, q1⟩ := z
    have C := cells_of (js := [3]) (fr := ["_law_thing"]) J (Caps.made (scope := (lm 4).2.2) J.ok (freL 4 (by decide)) (by decide +kernel) rfl)
    have eC : ([3] : List Nat).map (slotAt σ) = [some v] := by rw [← h3]; rfl
    rw [eC] at C
    exact said_body G CW gk hx (act_text4 (F := lamF tqL (lm 4).1 (lm 4).2.2 _ c1) CT ⟨rfl, rfl⟩ C x1 x2) hr' spTe_mon (says_text hT hn q1)
  · obtain ⟨f1, c1, v, u, p, t, e, rfl, h3, h4, x1, x2, hT, hn, hv, hm, ht, q1⟩ := z
    have C := cells_of (js := [7, 4]) (fr := ["_law_kind", "_law_held"]) J (Caps.made (scope := (lm 5).2.2) J.ok (freL 5 (by decide)) (by decide +kernel) rfl)
    have eC : ([7, 4] : List Nat).map (slotAt σ) = [some v, some u] := by rw [← h3, ← h4]; rfl
    rw [eC] at C
    exact said_body G CW gk hx (act_fill5 (F := lamF tqL (lm 5).1 (lm 5).2.2 _ c1) CF ⟨rfl, rfl⟩ C x1 x2) hr' spFu_mon (says_fill hT hn hv hm ht q1)
  · obtain ⟨f1, c1, u, p, e, rfl, h2, h4, x1, x2, pn, hv, q1⟩ := z
    have C := cells_of (js := [2, 4]) (fr := ["_law_pen_here", "_law_held"]) J (Caps.made (scope := (lm 6).2.2) J.ok (freL 6 (by decide)) (by decide +kernel) rfl)
    have eC : ([2, 4] : List Nat).map (slotAt σ) = [some (V.ref p), some u] := by rw [← h2, ← h4]; rfl
    rw [eC] at C
    refine said_body G CW gk hx (act_pick6 (F := lamF tqL (lm 6).1 (lm 6).2.2 _ c1) CF CI ⟨rfl, rfl⟩ C x1 x2) hr' spPi_mon ⟨e, pn, hv, fun H' t pn' tt => ⟨0, by decide, rfl, rfl, fun H2 s2 => ?_⟩⟩
    rw [ex0]
    exact q1 H2 (t.trans (Tr.same s2)) (pn'.same s2) fun Pt q z => (tt Pt q z).ext s2
  · obtain ⟨f1, c1, rfl, x1, x2, ht, q1⟩ := z
    have C := cells_of (js := []) (fr := []) J (Caps.made (scope := (lm 7).2.2) J.ok (freL 7 (by decide)) (by decide +kernel) rfl)
    obtain ⟨o1, o2, o3, o4⟩ := one_pd
    refine said_body G CW gk hx (act_one7 (F := lamF tqL (lm 7).1 (lm 7).2.2 _ c1) CF ⟨rfl, rfl⟩ C x1 x2) hr' spOne_mon ⟨ht, fun r H' g t hr => ⟨r, rfl, .inr ⟨(Kd.C0 "one").pd, ?_, kp_dp hr, o1, o2, o3, Nat.le_trans o4 (by rw [sizeLine_eq]; omega), q1 H'⟩⟩⟩
    obtain ⟨a, zs, ea, _⟩ := kp_C hr rfl
    exact .inl ⟨a, ea⟩
  refine ⟨_, rfl, a, _, rfl, .inl hS, _, _, rfl, _, _, rfl, _, rfl, ?_, ?_, ?_⟩
  · rw [List.length_map]; split <;> split <;> omega
  · rw [List.length_map]; split <;> split <;> omega
  refine for_range (fun i σ H' => ∃ y1 y2 y3 y4 y5 y6 y7, σ = [some (.ref a), y1, y2, y3, y4, y5, y6, y7] ∧ Gro H H' ∧ TabS H' P1 tq ∧ TabS H' P2 tqL) ⟨_, _, _, _, _, _, _, rfl, Gro.refl _, tt1, tt2⟩ (fun i σ H' hi ⟨y1, y2, y3, y4, y5, y6, y7, eσ, gr, t1, t2⟩ => ?_) (fun σ H' ⟨y1, y2, y3, y4, y5, y6, y7, eσ, gr, t1, t2⟩ => ?_)
  · subst eσ
    refine ⟨_, rfl, _, rfl, a, ns, i, by rw [Int.zero_add], gr.seq hS, fun n => ⟨n, rfl, fun p H1 sm1 hp0 pn1 => ?_⟩⟩
    have ls1 : LS p P1 P2 H1 H1 := LS.self pn1 (t1.ext sm1) (t2.ext sm1)
    have hpS : H p = none := gr.n _ hp0
    -- the odd things
    refine ⟨p, rfl, (by obtain ⟨i, j, k, z, _⟩ := pn1; exact ⟨_, z⟩), fun lo H2 xs s2 hlo hlx obs => ?_⟩
    have ls2 := ls1.same s2
    have nlo : lo ≠ p := pen_new pn1 hlo
    have L2h : LS p P1 P2 H2 H2 := ls2.here
    have g2 : Gro H H2 := (gr.trans (Gro.of sm1)).trans (Gro.of s2)
    refine ⟨lo, rfl, ⟨xs, SqL.of hlx⟩, for_list (K := K) (a := lo) (xs := xs) (fun j σ H' => ∃ y3 y4 y5 y6 y7, σ = [some (.ref a), some (.int (0 + (i : Nat))), some (.ref p), y3, y4, y5, y6, y7] ∧ LS p P1 P2 H2 H') ⟨_, _, _, _, _, rfl, L2h⟩ (fun j σ H' _ ⟨y3, y4, y5, y6, y7, _, ls⟩ => SqL.of (ls.lst nlo hlx)) (fun j x σ H' hxj ⟨y3, y4, y5, y6, y7, eσ, ls⟩ => ?_) (fun σ H' ⟨y3, y4, y5, y6, y7, eσ, ls⟩ => ?_)⟩
    · subst eσ
      obtain ⟨ex, hex, obx⟩ := mem_ob obs (List.mem_of_getElem? hxj)
      -- pick
      refine ⟨_, rfl, ⟨p, rfl, (by obtain ⟨i, j, k, z, _⟩ := ls.pn; exact ⟨_, z⟩), fun l1 H3 us s3 hl1 hl1x hvs => ?_⟩⟩
      have ls3 := ls.same s3
      have n3 : us.length = 23 := (Paired.length hvs).trans rfl
      refine ⟨p, (by obtain ⟨i, j, k, z, _⟩ := ls3.pn; exact ⟨_, z⟩), fun vs H4 s4 hvs2 => ?_⟩
      have n4 : vs.length = 2 := (Paired.length hvs2).trans rfl
      refine ⟨by rw [n4]; decide, fun l2 hl2 => ⟨l1, l2, _, _, rfl, rfl, same_new hl2 _ _ _ (s4 _ _ hl1x), upd_same, by rw [n3, n4]; decide, fun l3 hl3 => ?_⟩⟩
      have c4 := (same_new hl2 (.lst vs)).trans (same_new hl3 (.lst (us ++ vs)))
      have hall := hvs_app (hvs_same (s4.trans c4) hvs) (hvs_same c4 hvs2)
      have ls4 := ls3.same (s4.trans c4)
      have l3h := upd_same (H := upd H4 l2 (.lst vs)) (a := l3) (o := .lst (us ++ vs))
      have hl30 : H4 l3 = none := (same_new hl2 (.lst vs)).free hl3
      have nl3 : l3 ≠ p := pen_new (ls3.same s4).pn hl30
      revert c4 hall ls4 l3h
      generalize upd (upd H4 l2 (.lst vs)) l3 (.lst (us ++ vs)) = H5
      intro c4 hall ls4 l3h
      refine ⟨p, l3, _, rfl, ls4.pn, nl3, SqL.of l3h, by rw [List.length_append]; omega, by rw [List.length_append]; omega, fun H6 u b6 pn6 hu => ?_⟩
      have ls6 := ls4.bar b6 pn6
      obtain ⟨e, he, hvu⟩ := hv_mem hall hu
      have hv6 : Hv K H6 p u e := hvu.tr (Tr.bar b6 ls4.pn pn6) ls4.pn
      have ob6 : Ob K H6 p x ex := obx.tr ls6.t L2h.pn
      obtain ⟨eok, emap⟩ := nvA_ok e he
      obtain ⟨esm, _⟩ := smB_ok eok
      obtain ⟨xsm, xnn⟩ := smB_ok (odd_sm ex hex)
      have fit2 : Fit (.list [ex.2, e.d]) := Sm.two xsm esm (by decide) (by decide) (by decide)
      have ls0 : LS p P1 P2 H6 H6 := ls6.here
      -- kept
      refine ⟨_, rfl, _, rfl, by show 2 ≤ sizeLine; decide, fun l4 hl4 hs4 => ?_⟩
      have s4' := same_new hl4 (.lst [x, u])
      have ls7 := ls0.same s4'
      refine ⟨l4, x, u, ex.2, e.d, p, rfl, upd_same, hs4, .q (dq_same s4' _ _ ob6.2), hv6.1.same s4', fit2, ?_⟩
      -- told
      refine ⟨ls7.t2, fun f1 c1 H8 x8 e8 t8 z8 _ y8 k8 => ?_⟩
      have ls8 := ls7.lam nP x8 e8 t8 z8
      refine ⟨f1, c1, x, u, p, ex.1, e, rfl, rfl, rfl, y8, k8, ob6.1.stay (ls8.t.stay pn6), xnn, hv6.tr ls8.t pn6, emap, ls8.t1, fun r1 H9 g9 t9 hr1' _ => ?_⟩
      have ls9 := ls8.gro nP g9 t9
      refine ⟨by show 1 ≤ sizeLine; decide, fun L hL => ?_⟩
      have nL : L ≠ p := pen_new ls9.pn hL
      have ls10 := ls9.same (same_new hL (.lst [.str r1]))
      have hL0 : H6 L = none := ls9.t.n _ hL
      have L10 : (upd H9 L (.lst [.str r1])) L = some (.lst [.str r1]) := upd_same
      revert ls10 L10
      generalize upd H9 L (.lst [.str r1]) = H10
      intro ls10 L10
      -- size
      refine ⟨_, rfl, .inl ⟨rfl, _, SqL.of L10⟩, ls10.t2, fun f2 c2 H11 x11 e11 t11 z11 _ y11 k11 => ?_⟩
      have ls11 := ls10.lam nP x11 e11 t11 z11
      refine ⟨f2, c2, x, ex.1, rfl, rfl, y11, k11, ob6.1.stay (ls11.t.stay pn6), by omega, fun r2 H12 s12 hr2' => ?_⟩
      have ls12 := ls11.same s12
      have L12 : H12 L = some (.lst [.str r1]) := s12 _ _ (e11 _ _ L10 (fun _ z => by cases z))
      refine ⟨L, [.str r1], .str r2, rfl, rfl, L12, by show 1 < sizeLine; decide, ?_⟩
      have ls13 : LS p P1 P2 H6 (upd H12 L (.lst ([.str r1] ++ [.str r2]))) := ls12.put nL hL0 L12
      have L13 : (upd H12 L (.lst ([.str r1] ++ [.str r2]))) L = some (.lst [.str r1, .str r2]) := upd_same
      revert ls13 L13
      generalize upd H12 L (.lst ([.str r1] ++ [.str r2])) = H13
      intro ls13 L13
      -- depth
      refine ⟨_, rfl, .inl ⟨rfl, _, SqL.of L13⟩, ls13.t2, fun f3 c3 H14 x14 e14 t14 z14 _ y14 k14 => ?_⟩
      have ls14 := ls13.lam nP x14 e14 t14 z14
      refine ⟨f3, c3, x, ex.1, rfl, rfl, y14, k14, ob6.1.stay (ls14.t.stay pn6), by omega, fun r3 H15 s15 hr3' => ?_⟩
      have ls15 := ls14.same s15
      have L15 : H15 L = some (.lst [.str r1, .str r2]) := s15 _ _ (e14 _ _ L13 (fun _ z => by cases z))
      refine ⟨L, [.str r1, .str r2], .str r3, rfl, rfl, L15, by show 2 < sizeLine; decide, ?_⟩
      have ls16 : LS p P1 P2 H6 (upd H15 L (.lst ([.str r1, .str r2] ++ [.str r3]))) := ls15.put nL hL0 L15
      have L16 : (upd H15 L (.lst ([.str r1, .str r2] ++ [.str r3]))) L = some (.lst [.str r1, .str r2, .str r3]) := upd_same
      revert ls16 L16
      generalize upd H15 L (.lst ([.str r1, .str r2] ++ [.str r3])) = H16
      intro ls16 L16
      -- text
      refine ⟨_, rfl, .inl ⟨rfl, _, SqL.of L16⟩, ls16.t2, fun f4 c4 H17 x17 e17 t17 z17 _ y17 k17 => ?_⟩
      have ls17 := ls16.lam nP x17 e17 t17 z17
      refine ⟨f4, c4, x, ex.1, rfl, rfl, y17, k17, ob6.1.stay (ls17.t.stay pn6), by omega, fun r4 H18 s18 hr4' => ?_⟩
      have ls18 := ls17.same s18
      have L18 : H18 L = some (.lst [.str r1, .str r2, .str r3]) := s18 _ _ (e17 _ _ L16 (fun _ z => by cases z))
      refine ⟨L, [.str r1, .str r2, .str r3], .str r4, rfl, rfl, L18, by show 3 < sizeLine; decide, ?_⟩
      have ls19 : LS p P1 P2 H6 (upd H18 L (.lst ([.str r1, .str r2, .str r3] ++ [.str r4]))) := ls18.put nL hL0 L18
      have L19 : (upd H18 L (.lst ([.str r1, .str r2, .str r3] ++ [.str r4]))) L = some (.lst [.str r1, .str r2, .str r3, .str r4]) := upd_same
      revert ls19 L19
      generalize upd H18 L (.lst ([.str r1, .str r2, .str r3] ++ [.str r4])) = H19
      intro ls19 L19
      -- the test
      refine ⟨_, rfl, x, ex.1, rfl, ob6.1.stay (ls19.t.stay pn6), by omega, by decide, fun H20 s20 => ⟨_, rfl, ?_⟩⟩
      have ls20 := ls19.same s20
      have L20 := s20 _ _ L19
      -- the second part of it
      have fin : ∀ (Hz : Hp), LS p P1 P2 H6 Hz → ∀ l, Hz l = none → LS p P1 P2 H2 (upd Hz l (.lst [x, u])) := fun Hz lz l hl => (ls6.next lz).same (same_new hl _)
      by_cases hb : isT ex.1 = true
      · refine iteN (by rw [hb]; rfl) (iteN rfl ?_)
        refine ⟨_, rfl, _, rfl, by show 2 ≤ sizeLine; decide, fun l5 hl5 hs5 => ?_⟩
        have ls21 := ls20.same (same_new hl5 (.lst [x, u]))
        refine ⟨l5, x, u, ex.2, e.d, p, rfl, upd_same, hs5, .q (dq_tr ls21.t pn6 _ _ ob6.2), hv6.1.tr ls21.t pn6, fit2, _, rfl, rfl, _, rfl, iteN (by rw [decide_eq_true rfl]; rfl) ?_⟩
        exact ⟨_, _, _, _, _, rfl, fin _ ls20 l5 hl5⟩
      · have hb' : isT ex.1 = false := Bool.eq_false_iff.mpr hb
        refine iteE (by rw [hb']; rfl) ?_
        have er1 := hr1' hb'
        have er2 := hr2' hb'
        have er3 := hr3' hb'
        have er4 := hr4' hb'
        subst er1 er2 er3 er4
        refine ⟨_, rfl, by show 1 ≤ sizeLine; decide, fun m1 hm1 => ⟨m1, 4, _, rfl, rfl, upd_same, by decide, by decide, by show 4 ≤ sizeLine; decide, fun m2 hm2 => ?_⟩⟩
        have s21 := (same_new hm1 (.lst [.str "! NoType"])).trans (same_new hm2 (.lst (List.replicate (4 : Int).toNat [V.str "! NoType"]).flatten))
        have ls21 := ls20.same s21
        have L21 := s21 _ _ L20
        have M21 : (upd (upd H20 m1 (.lst [.str "! NoType"])) m2 (.lst (List.replicate (4 : Int).toNat [V.str "! NoType"]).flatten)) m2 = some (.lst [.str "! NoType", .str "! NoType", .str "! NoType", .str "! NoType"]) := upd_same
        revert ls21 L21 M21
        generalize upd (upd H20 m1 (.lst [.str "! NoType"])) m2 (.lst (List.replicate (4 : Int).toNat [V.str "! NoType"]).flatten) = H21
        intro ls21 L21 M21
        refine ⟨.list [.str "! NoType", .str "! NoType", .str "! NoType", .str "! NoType"], .list [.str "! NoType", .str "! NoType", .str "! NoType", .str "! NoType"], .lst (SqL.of L21) (.cons (.str _) (.cons (.str _) (.cons (.str _) (.cons (.str _) .nil)))), .lst (SqL.of M21) (.cons (.str _) (.cons (.str _) (.cons (.str _) (.cons (.str _) .nil)))), four_shaped, four_shaped, _, rfl, ?_⟩
        rw [four_eq]
        refine iteN rfl ?_
        refine ⟨_, rfl, _, rfl, by show 2 ≤ sizeLine; decide, fun l5 hl5 hs5 => ?_⟩
        have ls22 := ls21.same (same_new hl5 (.lst [x, u]))
        refine ⟨l5, x, u, ex.2, e.d, p, rfl, upd_same, hs5, .q (dq_tr ls22.t pn6 _ _ ob6.2), hv6.1.tr ls22.t pn6, fit2, _, rfl, rfl, _, rfl, iteN (by rw [decide_eq_true rfl]; rfl) ?_⟩
        exact ⟨_, _, _, _, _, rfl, fin _ ls21 l5 hl5⟩
    · subst eσ
      -- the things that are no values
      refine ⟨p, rfl, (by obtain ⟨i, j, k, z, _⟩ := ls.pn; exact ⟨_, z⟩), fun ln H3 us s3 hln hlnx hvs => ?_⟩
      have ls3 := ls.same s3
      have nln : ln ≠ p := pen_new ls.pn hln
      have L3 : LS p P1 P2 H3 H3 := ls3.here
      refine ⟨ln, rfl, ⟨us, SqL.of hlnx⟩, for_list (K := K) (a := ln) (xs := us) (fun j σ H' => ∃ y3 y4 y5 y6 y7, σ = [some (.ref a), some (.int (0 + (i : Nat))), some (.ref p), y3, y4, y5, y6, y7] ∧ LS p P1 P2 H3 H') ⟨_, _, _, _, _, rfl, L3⟩ (fun j σ H' _ ⟨y3, y4, y5, y6, y7, _, ls⟩ => SqL.of (ls.lst nln hlnx)) (fun j u σ H4 hxj ⟨y3, y4, y5, y6, y7, eσ, ls4⟩ => ?_) (fun σ H4 ⟨y3, y4, y5, y6, y7, eσ, ls4⟩ => ?_)⟩
      · subst eσ
        obtain ⟨e, he, hvu⟩ := hv_mem hvs (List.mem_of_getElem? hxj)
        obtain ⟨eok, eb⟩ := nv_sm e he
        obtain ⟨esm, _⟩ := smB_ok eok
        have fit1 : Fit e.d := esm.fitted (by decide) (by decide)
        have hv4 : Hv K H4 p u e := hvu.tr ls4.t L3.pn
        refine ⟨_, rfl, u, e.d, p, rfl, hv4.1, fit1, ?_⟩
        -- the three kinds
        refine ⟨by show 1 ≤ sizeLine; decide, fun t1 ht1 => ⟨by show 2 ≤ sizeLine; decide, fun t2 ht2 => ⟨by show 3 ≤ sizeLine; decide, fun t3 ht3 => ⟨by show 3 ≤ sizeLine; decide, fun lk hlk => ?_⟩⟩⟩⟩
        have q1 := same_new ht1 (.tup [.str "one"])
        have q2 := same_new ht2 (.tup [.str "box", .str "Y"])
        have q3 := same_new ht3 (.tup [.str "pair", .str "X", .ref t2])
        have q4 := same_new hlk (.lst [.str "X", .ref t1, .ref t3])
        have e1 := q4 _ _ (q3 _ _ (q2 _ _ (upd_same (H := H4) (a := t1) (o := .tup [.str "one"]))))
        have e2 := q4 _ _ (q3 _ _ (upd_same (H := upd H4 t1 (.tup [.str "one"])) (a := t2) (o := .tup [.str "box", .str "Y"])))
        have e3 := q4 _ _ (upd_same (H := upd (upd H4 t1 (.tup [.str "one"])) t2 (.tup [.str "box", .str "Y"])) (a := t3) (o := .tup [.str "pair", .str "X", .ref t2]))
        have ek := upd_same (H := upd (upd (upd H4 t1 (.tup [.str "one"])) t2 (.tup [.str "box", .str "Y"])) t3 (.tup [.str "pair", .str "X", .ref t2])) (a := lk) (o := .lst [.str "X", .ref t1, .ref t3])
        have q14 := q1.trans (q2.trans (q3.trans q4))
        have nlk : lk ≠ p := pen_new (ls4.pn.same (q1.trans (q2.trans q3))) hlk
        revert e1 e2 e3 ek q14
        generalize upd (upd (upd (upd H4 t1 (.tup [.str "one"])) t2 (.tup [.str "box", .str "Y"])) t3 (.tup [.str "pair", .str "X", .ref t2])) lk (.lst [.str "X", .ref t1, .ref t3]) = H5
        intro e1 e2 e3 ek q14
        have ls5 : LS p P1 P2 H5 H5 := (ls4.same q14).here
        have hv5 : Hv K H5 p u e := hv4.same q14
        have th : ∀ z ∈ ([.str "X", .ref t1, .ref t3] : List V), ∃ t, Th K H5 z t ∧ isT t = true ∧ t.nodes ≤ 20 := by
          intro z hz
          simp only [List.mem_cons, List.not_mem_nil, or_false] at hz
          rcases hz with rfl | rfl | rfl
          · exact ⟨.str "X", .str "X" (by decide +kernel), by decide +kernel, by decide⟩
          · exact ⟨.tup [.str "one"], .tup (.inl (.inl e1)) (.cons (.str _ (by decide +kernel)) .nil), by decide +kernel, by decide⟩
          · exact ⟨.tup [.str "pair", .str "X", .tup [.str "box", .str "Y"]], .tup (.inl (.inl e3)) (.cons (.str _ (by decide +kernel)) (.cons (.str _ (by decide +kernel)) (.cons (.tup (.inl (.inl e2)) (.cons (.str _ (by decide +kernel)) (.cons (.str _ (by decide +kernel)) .nil))) .nil))), by decide +kernel, by decide⟩
        refine ⟨lk, rfl, ⟨_, SqL.of ek⟩, for_list (K := K) (a := lk) (xs := [.str "X", .ref t1, .ref t3]) (fun j σ H' => ∃ y3 y6 y7, σ = [some (.ref a), some (.int (0 + (i : Nat))), some (.ref p), y3, some u, some (.str e.d.shown), y6, y7] ∧ LS p P1 P2 H5 H') ⟨_, _, _, rfl, ls5⟩ (fun j σ H' _ ⟨y3, y6, y7, _, ls⟩ => SqL.of (ls.lst nlk ek)) (fun j z σ H6 hzj ⟨y3, y6, y7, eσ, ls6⟩ => ?_) (fun σ H6 ⟨y3, y6, y7, eσ, ls6⟩ => ?_)⟩
        · subst eσ
          obtain ⟨t, hT, ht1', ht2'⟩ := th z (List.mem_of_getElem? hzj)
          refine ⟨ls6.t2, fun f1 c1 H7 x7 e7 t7 z7 _ y7' k7 => ?_⟩
          have ls7 := ls6.lam nP x7 e7 t7 z7
          refine ⟨f1, c1, z, u, p, t, e, rfl, rfl, rfl, y7', k7, hT.stay (ls7.t.stay ls5.pn), ht2', hv5.tr ls7.t ls5.pn, (fun y => by rw [eb] at y; cases y), ls7.t1, fun r H8 g8 t8 _ hr8 => ?_⟩
          have ls8 := ls7.gro nP g8 t8
          have er := hr8 ht1' eb
          subst er
          refine ⟨rfl, _, rfl, iteN (by rw [decide_eq_true rfl]; rfl) ?_⟩
          refine ⟨_, rfl, u, e.d, p, rfl, (hv5.tr ls8.t ls5.pn).1, fit1, _, rfl, rfl, _, rfl, iteN (by rw [decide_eq_true rfl]; rfl) ?_⟩
          exact ⟨_, _, _, rfl, ls8⟩
        · subst eσ
          refine ⟨ls6.t2, fun f1 c1 H7 x7 e7 t7 z7 _ y7' k7 => ?_⟩
          have ls7 := ls6.lam nP x7 e7 t7 z7
          refine ⟨f1, c1, u, p, e, rfl, rfl, rfl, y7', k7, ls7.pn, hv5.tr ls7.t ls5.pn, fun H8 t8 pn8 tb8 => ?_⟩
          have ls8 : LS p P1 P2 H5 H8 := ⟨ls7.t.trans t8, pn8, tb8 _ _ ls7.t1, tb8 _ _ ls7.t2⟩
          refine ⟨rfl, _, rfl, iteN (by rw [decide_eq_true rfl]; rfl) ?_⟩
          exact ⟨_, _, _, _, _, rfl, (ls4.same q14).next ls8⟩
      · subst eσ
        -- the turn is done
        exact ⟨_, _, _, _, _, _, _, rfl, groTr (gr.trans (Gro.of sm1)) hpS ((ls2.t.trans ls3.t).trans ls4.t), ls4.t1, ls4.t2⟩
  · subst eσ
    obtain ⟨o1, o2, o3, o4⟩ := one_pd
    refine ⟨t2, fun f1 c1 H7 x7 e7 t7 z7 _ y7' k7 => ?_⟩
    refine ⟨f1, c1, rfl, y7', k7, x7.tab nP (by obtain ⟨ps, h, _⟩ := t2; exact ⟨ps, h⟩) t1, fun H8 => ?_⟩
    refine ⟨by show 1 ≤ sizeLine; decide, fun t ht => ?_⟩
    refine ⟨t, (Kd.C0 "one").pd, rfl, .tup (.inl (.inl upd_same)) (.cons (.str _) .nil), o1, o2, o3, Nat.le_trans o4 (by rw [sizeLine_eq]; omega), rfl, ?_⟩
    rw [decide_eq_true rfl]
    exact q _
end
end N

namespace N
open PySem PySem.Spec PyProof.Rows L2 NdefX
/-! ### what the written part says of the eighteen classes, by one look -/
abbrev at_ (cs : List Addr) : Nat → Addr := fun j => cs.getD j 0
def excB (K : PySem.W.Frag) (D : Addr) : Bool :=
  decide (PySem.W.findIn K (.ref D) "__getattribute__" = some (some (.builtin "BaseException.__getattribute__"))) && (decide (PySem.W.findIn K (.ref D) "__getattr__" = some none) && (decide (PySem.W.subIn K (.ref D) (.type "BaseException") = some true) && (PySem.W.hasDictIn K D && (decide (PySem.W.findIn K (.ref D) "__class__" = some (some (.builtin "object.__class__"))) &&
    (decide (PySem.W.specialIn K (.builtin "object.__class__") "__get__" = some (some (.builtin "getset_descriptor.__get__"))) && (decide (PySem.W.takesIn K (.builtin "object.__class__") = some true) && decide (PySem.W.mroIn K D (.type "object") = some true)))))))
theorem excB_ok {K : PySem.W.Frag} {D : Addr} (h : excB K D = true) : ExcC K D := by
  unfold excB at h
  simp only [Bool.and_eq_true, decide_eq_true_eq] at h
  obtain ⟨a, b, c, d, e, f, g, i⟩ := h
  exact ⟨a, b, c, d, e, f, g, i⟩
def kitB (K : PySem.W.Frag) (cs : List Addr) (ke : Addr) : Bool :=
  (List.range 18).all fun i => (List.range 18).all (fun j => decide (PySem.W.kitOne K (.ref (at_ cs i)) (.ref (at_ cs j)) = some (decide (i = j)))) && (decide (PySem.W.kitOne K (.ref (at_ cs i)) (.type "ValueError") = some true) && (decide (PySem.W.kitOne K (.ref (at_ cs i)) (.ref ke) = some true) && excB K (at_ cs i)))
theorem lt18 {p : Nat → Prop} (h : ∀ i ∈ List.range 18, p i) : ∀ i, i < 18 → p i := fun i hi => h i (List.mem_range.mpr hi)
theorem kls_of {K : PySem.W.Frag} {mg : Str → Option Value} {cs : List Addr} {ke : Addr} (g : ∀ j, j < 18 → mg (exN j) = some (.ref (at_ cs j))) (gk : mg "KindError" = some (.ref ke)) (h : kitB K cs ke = true) : Kls K mg (at_ cs) := by
  unfold kitB at h
  have h' := fun i hi => List.all_eq_true.mp h i (List.mem_range.mpr hi)
  simp only [Bool.and_eq_true, decide_eq_true_eq, List.all_eq_true] at h'
  exact ⟨g, fun j hj => excB_ok (h' j hj).2.2.2, fun i j hi hj => (h' i hi).1 j (List.mem_range.mpr hj), fun i hi => (h' i hi).2.1, ke, gk, fun i hi => (h' i hi).2.2.1⟩
end N

namespace N
open PySem PySem.Spec PyProof.Rows L2 LamX NdefX
/-! ### the end of a law, where several defs make lambdas -/
/-- what the end wants of the heap where the law is called, for each such def -/
structure TabHere (K : PySem.W.Frag) (mg : Str → Option Value) (h : Heap) (c Pt : Addr) : Prop where
  tab : h.get? Pt = some { cls := .none, data := .fields #[] }
  off : K.lookup Pt = none
  hd : PySem.W.CodeHd h c Pt
  bm : ∃ (bm : Addr) (ob : Obj), mg "__builtins__" = some (.ref bm) ∧ bm ≠ builtinsNs ∧ h.get? bm = some ob ∧ ob.cls = .type "module" ∧ ob.dict = some builtinsNs ∧ ob.data = .plain
section
variable {P : Program} {w : World} {K : PySem.W.Frag} {mg mb : Str → Option Value} {CX : CXT} {k : Nat} {fa a : Addr} {Ts : List (Addr × Addr)} {fd : FuncData} {x : Str} {sp : Sp} {s₁ : Shared} {vs : List Value} {ns : List Int}
theorem run_lawTs (H : Hp) (KX : K.In s₁.heap) (hns : s₁.heap.Ns mainGlobals mg) (hb : s₁.heap.Ns builtinsNs mb) (hbb : ∀ x : Str, x ≠ "__name__" → mb x = bootBuiltins x) (hlim : s₁.heap.NoLimit) (hg : s₁.gens = #[]) (T : ∀ p ∈ Ts, TabHere K mg s₁.heap p.1 p.2)
    (ha : s₁.heap.get? a = some { cls := .type "list", data := .seq vs.toArray }) (hr : Room k callerA) (F : ∀ base : Heap, K.In base → base.Ns mainGlobals mg → (∀ p ∈ Ts, TabB base mg p.1 p.2) → FnG P w K mg base CX k fa fd [x] sp) (hbind : ∀ (s : Shared) (u : Value), BindsTo s fd ⟨[u], []⟩ [(x, u)])
    (hsp : sp [.ref a] H (fun v _ => v = .bl true) fun _ _ _ => False) (hCX : ∀ e s', CX [] H s₁ (fun _ _ _ => False) e s' → False) (hO : ∀ b, (¬ ∃ p ∈ Ts, b = p.2) → H b = none ∨ ∃ o xs, H b = some (.frz o (.lst xs))) (hHP : ∀ p ∈ Ts, H p.2 = some (.tbl #[])) (hok : HOk P w H s₁.heap)
    (hA : ∀ b, H b ≠ none → b = a ∨ ∃ p ∈ Ts, b = p.2) (hK : H a ≠ none → K.lookup a = none) :
    codeAny (model P w) callerA (.call (.ref fa) ⟨[.ref a], []⟩) (fun r s' => r = .ok (.ret (.bool true)) ∧ OldK s₁.heap s'.heap ∧ s'.os = s₁.os ∧ AllBare s'.gens) s₁ := by
  -- what is neither the script nor a table is not tracked
  have free : ∀ {b : Addr} {o : Obj}, s₁.heap.get? b = some o → (∀ us n, o.data ≠ .seq us n) → o.data ≠ .fields #[] → H b = none := fun {b o} e n1 n2 => by
    cases q : H b with
    | none => rfl
    | some u =>
      rcases hA b (by rw [q]; exact fun z => by cases z) with z | ⟨p, hp, z⟩
      · rw [z, ha] at e
        cases e
        exact absurd rfl (n1 _ _)
      · rw [z, (T p hp).tab] at e
        cases e
        exact absurd rfl n2
  have dictF : ∀ {b : Addr} {o : Obj} {es : Array DictEntry} {ep : Nat}, s₁.heap.get? b = some o → o.data = .dict es ep → H b = none := fun {b o es ep} e d => free e (fun us n z => by rw [d] at z; cases z) (fun z => by rw [d] at z; cases z)
  have nsK : ∀ {b : Addr} {m : Str → Option Value}, s₁.heap.Ns b m → (hidT s₁.heap H).Ns b m := fun {b m} z => by
    obtain ⟨o, es, ep, e, d, r⟩ := z
    exact ⟨o, es, ep, hidT_get e (dictF e d), d, r⟩
  have hKb : K.In (hidT s₁.heap H) := fun b o e => hidT_get (KX b o e) (by
    cases q : H b with
    | none => rfl
    | some u =>
      rcases hA b (by rw [q]; exact fun z => by cases z) with z | ⟨p, hp, z⟩
      · subst z
        rw [hK (by rw [q]; exact fun z => by cases z)] at e
        cases e
      · rw [z, (T p hp).off] at e
        cases e)
  have hM : Mod K mg (hidT s₁.heap H) := ⟨hKb, nsK hns, ⟨mb, nsK hb, hbb⟩, let ⟨mc, h1, h2⟩ := hlim; ⟨mc, nsK h1, h2⟩⟩
  have TB : ∀ p ∈ Ts, TabB (hidT s₁.heap H) mg p.1 p.2 := by
    intro p hp
    have tabH := (T p hp).tab
    refine ⟨?_, ?_, fun z => ?_⟩
    · obtain ⟨o, us, file, tf, flags, tg, inF, text, tt, e1, r1, r2, r3, rest⟩ := (T p hp).hd
      refine ⟨o, us, file, tf, flags, tg, inF, text, tt, hidT_get e1 (free e1 (fun us n z => by rw [r2] at z; cases z) (fun z => ?_)), r1, r2, r3, rest⟩
      rw [r2] at z
      cases z
      simp at r3
    · obtain ⟨bm, ob, b1, b2, b3, b4, b5, b6⟩ := (T p hp).bm
      refine ⟨bm, ob, b1, b2, fun z => ?_, fun z => ?_, hidT_get b3 (free b3 (fun us n z => by rw [b6] at z; cases z) (fun z => by rw [b6] at z; cases z)), b4, b5, b6⟩
      · obtain ⟨o, es, ep, e, d, _⟩ := hns
        rw [z, e] at b3
        cases b3
        rw [d] at b6
        cases b6
      · rw [z, tabH] at b3
        cases b3
        cases b6
    · obtain ⟨o, es, ep, e, d, _⟩ := hns
      rw [z, tabH] at e
      cases e
      cases d
  have e0 : Env0 P w K mg (hidT s₁.heap H) callerA [] s₁ H := ⟨rfl, hM, fun b o e => of_hidT e, Nat.le_of_eq (hidT_size _ _), trivial, fun b hb => absurd (show b ∈ ([] : List Addr) from hb) (by simp), hok, .of_eq hg⟩
  have go := (F _ hKb (nsK hns) TB).run callerA [] s₁ H ⟨[.ref a], []⟩ [.ref a] [.ref a] (fun v _ => v = .bl true) (fun _ _ _ => False) (roomG_caller hr) e0 (hbind s₁ (.ref a)) (.cons rfl .nil) hsp
  refine codeAny_mono go fun r s' h => ?_
  match r, h with
  | .error e, h => exact (hCX e s' h).elim
  | .ok .next, h => exact False.elim h
  | .ok .brk, h => exact False.elim h
  | .ok .cont, h => exact False.elim h
  | .ok (.ret u), h =>
    obtain ⟨v, H', os, bare, un, hok', r', q⟩ := h
    have q' : v = .bl true := q
    subst q'
    obtain rfl : u = Value.bool true := r'
    have key : ∀ b o, (¬ ∃ p ∈ Ts, b = p.2) → s₁.heap.get? b = some o → s'.heap.get? b = some o := fun b o nb e => by
      cases q : H b with
      | none => exact un.keep b o e q (by intro z; exact absurd (show b ∈ ([] : List Addr) from z) (by simp)) (by simp)
      | some u =>
        rcases hO b nb with z | ⟨ob, xs, z⟩
        · rw [q] at z; cases z
        · have e1 := (hok b _ z).1
          have e2 := (hok' b _ (un.frzs b ob _ z)).1
          rw [e] at e1
          cases e1
          exact e2
    have tabs : ∀ p ∈ Ts, ∃ more, s'.heap.get? p.2 = some { cls := .none, data := .fields (#[] ++ more) } := fun p hp => by
      obtain ⟨more, hm⟩ := un.tbls p.2 #[] (hHP p hp)
      exact ⟨more, hok' p.2 _ hm⟩
    refine ⟨rfl, ⟨fun b o e => ?_, fun b o e => ?_⟩, os, bare⟩
    · by_cases nb : ∃ p ∈ Ts, b = p.2
      · obtain ⟨p, hp, rfl⟩ := nb
        obtain ⟨more, hm'⟩ := tabs p hp
        have tabH := (T p hp).tab
        rw [tabH] at e
        cases e
        exact .inr (.inl ⟨((T p hp).hd.tab tabH).isCodeTable, rfl, #[], more, rfl, hm'⟩)
      · exact .inl (key b o nb e)
    · by_cases nb : ∃ p ∈ Ts, b = p.2
      · obtain ⟨p, hp, rfl⟩ := nb
        obtain ⟨more, hm'⟩ := tabs p hp
        exact ⟨_, hm'⟩
      · exact ⟨o, key b o nb e⟩
end
theorem walkGTs {l : PySem.W.OpenLaw} {n k : Nat} {q : Program} {loose : List Str} {XP : (Str → Option Value) → Heap → Prop} {YP : World → Heap → Prop} {d : DefRec} {K : Params → PySem.W.Frag} {CX : World → CXT} {sp : World → Sp} {x : Str} {Ps : List Addr}
    (hn : l.most = some n) (hn2 : n ≤ sizeLine) (hdf : d.params.defaults = []) (hr : Room k callerA) (hY : ∀ (w : World) (h : Heap), YP w h → (K w.params).In h) (hP : ∀ (w : World) (h : Heap), YP w h → ∀ Pt ∈ Ps, h.get? Pt = some { cls := .none, data := .fields #[] })
    (hoff : ∀ w : World, ∀ Pt ∈ Ps, (K w.params).lookup Pt = none)
    (F : ∀ (w : World) (mg : Str → Option Value) (fa : Addr) (h : Heap), (K w.params).In h → h.Ns mainGlobals mg → mg d.name = some (.ref fa) →
      ∃ (Ts : List (Addr × Addr)) (fd : FuncData), Ts.map Prod.snd = Ps ∧ (∀ p ∈ Ts, PySem.W.codeHdIn (K w.params) p.1 p.2 = true) ∧ (∀ (s : Shared) (u : Value), BindsTo s fd ⟨[u], []⟩ [(x, u)]) ∧ ∀ base : Heap, (K w.params).In base → base.Ns mainGlobals mg → (∀ p ∈ Ts, TabB base mg p.1 p.2) → FnG l.prog w (K w.params) mg base (CX w) k fa fd [x] (sp w))
    (hsp : ∀ (w : World) (H : Hp) (a : Addr) (ns : List Int), ns.length ≤ n → (∀ Pt ∈ Ps, H Pt = some (.tbl #[])) → SqL (K w.params) H a (ns.map V.int) → sp w [.ref a] H (fun v _ => v = .bl true) fun _ _ _ => False)
    (hCX : ∀ (w : World) (H : Hp) (s : Shared) (e : Value) (s' : Shared), CX w [] H s (fun _ _ _ => False) e s' → False) : PySem.W.WalkO q loose XP YP l.row.toRowW d [] (fun f vs => PySem.call f vs) := by
  refine Att.attach_call hn hdf fun w s₀ s₁ mg mb fa o pm cd doc a vs ns G Y ho hd hcd hmg ha hi hlen hg => ?_
  have KX := hY w _ Y
  obtain ⟨Ts, fd, eTs, hcc, hb, hF⟩ := F w mg fa _ KX G.T.g hmg
  have inP : ∀ p ∈ Ts, p.2 ∈ Ps := fun p hp => by rw [← eTs]; exact List.mem_map_of_mem hp
  have ofP : ∀ b ∈ Ps, ∃ p ∈ Ts, b = p.2 := fun b hb => by
    rw [← eTs] at hb
    obtain ⟨p, hp, e⟩ := List.mem_map.mp hb
    exact ⟨p, hp, e.symm⟩
  have ht := hP w _ Y
  have T : ∀ p ∈ Ts, TabHere (K w.params) mg s₁.heap p.1 p.2 := fun p hp => ⟨ht _ (inP p hp), hoff w _ (inP p hp), PySem.W.codeHd_of_K KX (hcc p hp), G.T.bmain⟩
  have rv := vals_ints hi
  have lenV := hi.length
  have hl : ns.length ≤ sizeLine := Nat.le_trans hlen hn2
  have naP : a ∉ Ps := fun z => by
    rw [ht a z] at ha
    cases ha
  have one := fun (H : Hp) (hS : SqL (K w.params) H a (ns.map V.int)) (hHP : ∀ Pt ∈ Ps, H Pt = some (.tbl #[])) => run_lawTs H KX G.T.g G.T.b G.T.builtins G.T.nolimit hg T ha hr hF hb (hsp w H a ns hlen hHP hS) (fun e s' => hCX w H s₁ e s')
  cases hk : (K w.params).lookup a with
  | some o' =>
    have e := KX a o' hk
    rw [ha] at e
    cases e
    have at_ : ∀ {b : Addr}, b ∉ Ps → (if b ∈ Ps then some (HO.tbl #[]) else none) = none := fun n => if_neg n
    refine one (fun b => if b ∈ Ps then some (.tbl #[]) else none) (.inr ⟨_, vs.toArray, _, hk, rfl, rfl, rfl, by rw [List.size_toArray, lenV]; exact hl, by simpa using rv⟩) (fun Pt h => if_pos h) (fun b nb => .inl (at_ fun z => nb (ofP b z))) (fun p hp => if_pos (inP p hp)) (fun b u z => ?_) (fun b z => ?_) fun z => absurd (at_ naP) z
    · by_cases nb : b ∈ Ps
      · have z' := (if_pos nb).symm.trans z
        cases z'
        exact ht b nb
      · have z' := (at_ nb).symm.trans z
        cases z'
    · by_cases nb : b ∈ Ps
      · exact .inr (ofP b nb)
      · exact absurd (at_ nb) z
  | none =>
    have yP : ∀ Pt ∈ Ps, (if Pt = a then some (HO.frz { cls := .type "list", data := .seq vs.toArray } (.lst (ns.map V.int))) else if Pt ∈ Ps then some (.tbl #[]) else none) = some (.tbl #[]) := fun Pt h => (if_neg (fun z => naP (by rw [← z]; exact h))).trans (if_pos h)
    refine one (fun b => if b = a then some (.frz { cls := .type "list", data := .seq vs.toArray } (.lst (ns.map V.int))) else if b ∈ Ps then some (.tbl #[]) else none) (.inl (.inr ⟨{ cls := .type "list", data := .seq vs.toArray }, if_pos rfl⟩)) yP (fun b nb => ?_) (fun p hp => yP _ (inP p hp)) (fun b u z => ?_) (fun b z => ?_) fun _ => hk
    · by_cases hb : b = a
      · exact .inr ⟨_, _, if_pos hb⟩
      · exact .inl ((if_neg hb).trans (if_neg fun z => nb (ofP b z)))
    · by_cases hb : b = a
      · have z' := (if_pos hb).symm.trans z
        cases z'
        rw [hb]
        exact ⟨ha, by rw [List.length_map]; exact hl, vs, _, rv, ha⟩
      · have z1 := (if_neg hb).symm.trans z
        by_cases nb : b ∈ Ps
        · have z' := (if_pos nb).symm.trans z1
          cases z'
          exact ht b nb
        · have z' := (if_neg nb).symm.trans z1
          cases z'
    · by_cases hb : b = a
      · exact .inl hb
      · by_cases nb : b ∈ Ps
        · exact .inr (ofP b nb)
        · exact absurd ((if_neg hb).trans (if_neg nb)) z
end N

namespace N
open PySem PySem.Spec PyProof.Rows L2 StX LamX NdefX
theorem packTs {K : PySem.W.Frag} {mg : Str → Option Value} {c1 P1 c2 P2 : Addr} {A : FuncData → Prop} {F : Heap → FuncData → Prop} (h : ∃ fd, A fd ∧ ∀ base : Heap, K.In base → base.Ns mainGlobals mg → TabB base mg c1 P1 → TabB base mg c2 P2 → F base fd) (h1 : PySem.W.codeHdIn K c1 P1 = true) (h2 : PySem.W.codeHdIn K c2 P2 = true) :
    ∃ (Ts : List (Addr × Addr)) (fd : FuncData), Ts.map Prod.snd = [P1, P2] ∧ (∀ p ∈ Ts, PySem.W.codeHdIn K p.1 p.2 = true) ∧ A fd ∧ ∀ base : Heap, K.In base → base.Ns mainGlobals mg → (∀ p ∈ Ts, TabB base mg p.1 p.2) → F base fd := by
  obtain ⟨fd, a, b⟩ := h
  refine ⟨[(c1, P1), (c2, P2)], fd, rfl, fun p hp => ?_, a, fun base x y t => b base x y (t (c1, P1) (by simp)) (t (c2, P2) (by simp))⟩
  simp only [List.mem_cons, List.not_mem_nil, or_false] at hp
  rcases hp with rfl | rfl
  · exact h1
  · exact h2
theorem glo_mk {K : PySem.W.Frag} {h : Heap} {mg : Str → Option Value} {t8 t2 : Tok} (X : K.In h) (G : h.Ns mainGlobals mg)
    (z_isinstance : PySem.W.nsIn K mainGlobals "isinstance" = some none)
    (z_str : PySem.W.nsIn K mainGlobals "str" = some none)
    (z_tuple : PySem.W.nsIn K mainGlobals "tuple" = some none)
    (z_dict : PySem.W.nsIn K mainGlobals "dict" = some none)
    (z_list : PySem.W.nsIn K mainGlobals "list" = some none)
    (z_len : PySem.W.nsIn K mainGlobals "len" = some none)
    (z_all : PySem.W.nsIn K mainGlobals "all" = some none)
    (z_max : PySem.W.nsIn K mainGlobals "max" = some none)
    (z_min : PySem.W.nsIn K mainGlobals "min" = some none)
    (z_range : PySem.W.nsIn K mainGlobals "range" = some none)
    (z_repr : PySem.W.nsIn K mainGlobals "repr" = some none)
    (z_sum : PySem.W.nsIn K mainGlobals "sum" = some none)
    (zl : PySem.W.nsIn K mainGlobals "LONGEST_NAME" = some (some (.int 8 t8))) (zm : PySem.W.nsIn K mainGlobals "MOST_ARGUMENTS" = some (some (.int 2 t2))) : Glo mg :=
  ⟨PySem.W.mg_none_of X G z_isinstance, PySem.W.mg_none_of X G z_str, PySem.W.mg_none_of X G z_tuple, PySem.W.mg_none_of X G z_dict, PySem.W.mg_none_of X G z_list, PySem.W.mg_none_of X G z_len, PySem.W.mg_none_of X G z_all, PySem.W.mg_none_of X G z_max, PySem.W.mg_none_of X G z_min, PySem.W.mg_none_of X G z_range, PySem.W.mg_none_of X G z_repr, PySem.W.mg_none_of X G z_sum, ⟨_, PySem.W.mg_of X G zl⟩, ⟨_, PySem.W.mg_of X G zm⟩⟩
def exmB (K : PySem.W.Frag) (cs : List Addr) (ke : Addr) : Bool := (List.range 13).all fun i => decide (PySem.W.exmOne K (.ref (at_ cs i)) (.ref ke) = some true)
theorem exm_all {K : PySem.W.Frag} {cs : List Addr} {ke : Addr} (h : exmB K cs ke = true) : ∀ i, i < 13 → PySem.W.exmOne K (.ref (at_ cs i)) (.ref ke) = some true := fun i hi => of_decide_eq_true (List.all_eq_true.mp h i (List.mem_range.mpr hi))
theorem all_here {P : Program} {w : World} {K : PySem.W.Frag} {mg : Str → Option Value} {h : Heap} {fa c1 c2 P1 P2 C0 C1 C2 C3 C4 C5 C6 C7 C8 C9 C10 C11 C12 C13 C14 C15 C16 C17 KE : Addr} (nP : P1 ≠ P2) (X : K.In h) (GN : h.Ns mainGlobals mg) (hfa : mg "law" = some (.ref fa)) (G : Glo mg) (zv : PySem.W.nsIn K mainGlobals "ValueError" = some none)
    (a0 : PySem.W.nsIn K mainGlobals "NoType" = some (some (.ref C0)))
    (a1 : PySem.W.nsIn K mainGlobals "NoValues" = some (some (.ref C1)))
    (a2 : PySem.W.nsIn K mainGlobals "NoText" = some (some (.ref C2)))
    (a3 : PySem.W.nsIn K mainGlobals "NoClass" = some (some (.ref C3)))
    (a4 : PySem.W.nsIn K mainGlobals "NoTable" = some (some (.ref C4)))
    (a5 : PySem.W.nsIn K mainGlobals "NoName" = some (some (.ref C5)))
    (a6 : PySem.W.nsIn K mainGlobals "NoMost" = some (some (.ref C6)))
    (a7 : PySem.W.nsIn K mainGlobals "NoRoots" = some (some (.ref C7)))
    (a8 : PySem.W.nsIn K mainGlobals "NoRoot" = some (some (.ref C8)))
    (a9 : PySem.W.nsIn K mainGlobals "NoDeed" = some (some (.ref C9)))
    (a10 : PySem.W.nsIn K mainGlobals "TooMany" = some (some (.ref C10)))
    (a11 : PySem.W.nsIn K mainGlobals "Crowded" = some (some (.ref C11)))
    (a12 : PySem.W.nsIn K mainGlobals "NothingDone" = some (some (.ref C12)))
    (a13 : PySem.W.nsIn K mainGlobals "Unfit" = some (some (.ref C13)))
    (a14 : PySem.W.nsIn K mainGlobals "Looped" = some (some (.ref C14)))
    (a15 : PySem.W.nsIn K mainGlobals "Turned" = some (some (.ref C15)))
    (a16 : PySem.W.nsIn K mainGlobals "Endless" = some (some (.ref C16)))
    (a17 : PySem.W.nsIn K mainGlobals "Clash" = some (some (.ref C17)))
    (ak : PySem.W.nsIn K mainGlobals "KindError" = some (some (.ref KE)))
    (xk0 : PySem.W.keepIn K (.ref C0) = true) (xb0 : PySem.W.subIn K (.ref C0) (.type "BaseException") = some true) (xt0 : PySem.W.typeIn K (.ref C0) = some (.type "type")) (xe0 : PySem.W.excIn K C0 [.type "ValueError", .type "Exception", .type "BaseException", .type "object"] "ValueError.__new__" = true)
    (xk1 : PySem.W.keepIn K (.ref C1) = true) (xb1 : PySem.W.subIn K (.ref C1) (.type "BaseException") = some true) (xt1 : PySem.W.typeIn K (.ref C1) = some (.type "type")) (xe1 : PySem.W.excIn K C1 [.type "ValueError", .type "Exception", .type "BaseException", .type "object"] "ValueError.__new__" = true)
    (b1 : kitB K [C0, C1, C2, C3, C4, C5, C6, C7, C8, C9, C10, C11, C12, C13, C14, C15, C16, C17] KE = true) (b2 : exmB K [C0, C1, C2, C3, C4, C5, C6, C7, C8, C9, C10, C11, C12, C13, C14, C15, C16, C17] KE = true)
    (D_is_letter : DefAt K mg "is_letter" s_is_letter ["thing"])
    (D_is_name : DefAt K mg "is_name" s_is_name ["thing"])
    (D_begins_class_type : DefAt K mg "begins_class_type" s_begins_class_type ["thing"])
    (D_is_type : DefAt K mg "is_type" s_is_type ["thing"])
    (D_check_type : DefAt K mg "check_type" s_check_type ["thing"])
    (D_parts : DefAt K mg "parts" s_parts ["kind"])
    (D_class_types : DefAt K mg "class_types" s_class_types ["kinds"])
    (D_size_of : DefAt K mg "size_of" s_size_of ["kind"])
    (D_size : DefAt K mg "size" s_size ["kind"])
    (D_depth_of : DefAt K mg "depth_of" s_depth_of ["kind"])
    (D_depth : DefAt K mg "depth" s_depth ["kind"])
    (D_folded : DefAt K mg "folded" s_folded ["kind", "of_letter", "of_class"])
    (D_filled : DefAtC K mg "filled" s_filled ["kind", "values"] c1)
    (D_are_values : DefAt K mg "are_values" s_are_values ["thing"])
    (D_fill : DefAt K mg "fill" s_fill ["kind", "values"])
    (D_written : DefAt K mg "written" s_written ["kind"])
    (D_text_of : DefAt K mg "text_of" s_text_of ["kind"])
    (D_text : DefAt K mg "text" s_text ["kind"])
    (D_Lcell_at : DefAt K mg "_law_cell_at" s_Lcell_at ["_law_script", "_law_k"])
    (D_Lpen : DefAt K mg "_law_pen" s_Lpen ["_law_cell"])
    (D_Ldraw : DefAt K mg "_law_draw" s_Ldraw ["_law_pen_here", "_law_many"])
    (D_Lpick : DefAt K mg "_law_pick" s_Lpick ["_law_pen_here", "_law_some"])
    (D_Lword : DefAt K mg "_law_word" s_Lword ["_law_e"])
    (D_Lsaid : DefAt K mg "_law_said" s_Lsaid ["_law_call"])
    (D_Lodd : DefAt K mg "_law_odd" s_Lodd [])
    (D_Lis_kind : DefAt K mg "_law_is_kind" s_Lis_kind ["_law_thing"])
    (D_Lno_values : DefAt K mg "_law_no_values" s_Lno_values [])
    (D_law : DefAtC K mg "law" s_law ["_law_script"] c2)
    : ∃ fd : FuncData, (∀ (s : Shared) (u : Value), BindsTo s fd ⟨[u], []⟩ [("_law_script", u)]) ∧ ∀ base : Heap, K.In base → base.Ns mainGlobals mg → TabB base mg c1 P1 → TabB base mg c2 P2 → FnG P w K mg base (L2.CX P w) 32 fa fd ["_law_script"] (spLaw4 K P1 P2) := by
  obtain ⟨f, fd, oc, od, kV, doc, pm, an, ct, osl, hm, efd, lk, hcd, hk, hb⟩ := D_law
  have ef := hm.symm.trans hfa
  cases ef
  subst efd
  refine ⟨PySem.W.fnOf "law" "law" (defArgs s_law) (defBody s_law) (defScope s_law) .none kV doc pm an (.ref c2) ct, fun s u => .of_eq rfl, fun base _ _ TB1 TB2 => ?_⟩
  have gl : ∀ j, j < 18 → mg (exN j) = some (.ref (at_ [C0, C1, C2, C3, C4, C5, C6, C7, C8, C9, C10, C11, C12, C13, C14, C15, C16, C17] j)) := fun j hj => match j, hj with
    | 0, _ => PySem.W.mg_of X GN a0
    | 1, _ => PySem.W.mg_of X GN a1
    | 2, _ => PySem.W.mg_of X GN a2
    | 3, _ => PySem.W.mg_of X GN a3
    | 4, _ => PySem.W.mg_of X GN a4
    | 5, _ => PySem.W.mg_of X GN a5
    | 6, _ => PySem.W.mg_of X GN a6
    | 7, _ => PySem.W.mg_of X GN a7
    | 8, _ => PySem.W.mg_of X GN a8
    | 9, _ => PySem.W.mg_of X GN a9
    | 10, _ => PySem.W.mg_of X GN a10
    | 11, _ => PySem.W.mg_of X GN a11
    | 12, _ => PySem.W.mg_of X GN a12
    | 13, _ => PySem.W.mg_of X GN a13
    | 14, _ => PySem.W.mg_of X GN a14
    | 15, _ => PySem.W.mg_of X GN a15
    | 16, _ => PySem.W.mg_of X GN a16
    | 17, _ => PySem.W.mg_of X GN a17
    | j + 18, hj => absurd hj (by omega)
  have Kl : Kls K mg (at_ [C0, C1, C2, C3, C4, C5, C6, C7, C8, C9, C10, C11, C12, C13, C14, C15, C16, C17]) := kls_of gl (PySem.W.mg_of X GN ak) b1
  have X0 : ExcAt K mg "NoType" (at_ [C0, C1, C2, C3, C4, C5, C6, C7, C8, C9, C10, C11, C12, C13, C14, C15, C16, C17] 0) := ⟨PySem.W.mg_of X GN a0, xk0, xb0, xt0, xe0⟩
  have X1 : ExcAt K mg "NoValues" (at_ [C0, C1, C2, C3, C4, C5, C6, C7, C8, C9, C10, C11, C12, C13, C14, C15, C16, C17] 1) := ⟨PySem.W.mg_of X GN a1, xk1, xb1, xt1, xe1⟩
  have c_isl := ok_is_letter (P := P) (w := w) (base := base) G D_is_letter
  have c_isn := ok_is_name (P := P) (w := w) (base := base) G D_is_name
  have c_beg := ok_begins G c_isn D_begins_class_type
  have c_ist := ok_is_type c_isl c_beg D_is_type
  have c_chk := ok_check_type X0 c_ist D_check_type
  have c_par := ok_parts (P := P) (w := w) (base := base) G D_parts
  have c_cls := ok_class_types (P := P) (w := w) (base := base) G D_class_types
  have c_szo := ok_size_of G c_par c_cls D_size_of
  have c_siz := ok_size c_chk c_szo D_size
  have c_dpo := ok_depth_of c_cls D_depth_of
  have c_dep := ok_depth c_chk c_dpo D_depth
  have c_fil := ok_filledT G TB1 c_par D_folded D_filled
  have c_val := ok_are_values G c_isl c_ist D_are_values
  have c_fll := ok_fillX X1 c_chk c_val c_fil D_fill
  have c_wri := ok_written (P := P) (w := w) (base := base) G D_written
  have c_txo := ok_text_of G c_wri D_text_of
  have c_txt := ok_textX c_chk c_txo D_text
  have c_cel := ok_cell (P := P) (w := w) (base := base) G D_Lcell_at
  have c_pen := ok_pen (P := P) (w := w) (base := base) G D_Lpen
  have c_dra := ok_draw (P := P) (w := w) (base := base) D_Ldraw
  have c_pic := ok_pick G c_dra D_Lpick
  have c_wor := ok_wordP (P := P) (w := w) (base := base) G Kl (PySem.W.mg_none_of X GN zv) D_Lword
  have c_odd := ok_odd (P := P) (w := w) (base := base) D_Lodd
  have c_nov := ok_noV (P := P) (w := w) (base := base) D_Lno_values
  have c_isk := ok_is_kind (P := P) (w := w) (base := base) G D_Lis_kind 30 (by decide)
  exact ok_law4 G nP TB2 c_cel c_pen c_pic c_odd c_nov c_isk c_wor (PySem.W.mg_of X GN ak) (exm_all b2) c_fll c_siz c_dep c_txt D_Lsaid lk hcd
end N

open PySem PySem.W PyProof.Rows
set_option maxHeartbeats 0 in
theorem PySem.Challenge.cw_endlesskinds_k04_kinds_refused_holds : PySem.Challenge.rw_endlesskinds_k04_kinds_refused.Holds := by
  w_on; o_law; k_head; (case hw => w_witness2)
  k_fill
  refine N.walkGTs (l := PySem.Challenge.rw_endlesskinds_k04_kinds_refused) (n := 63) (k := 32) (x := "_law_script") (Ps := [368, 476]) (CX := fun w => L2.CX PySem.Challenge.rw_endlesskinds_k04_kinds_refused.prog w) (sp := fun w => N.spLaw4 _ 368 476) rfl (by decide) rfl ⟨rfl, by decide, by decide⟩ (fun w h Y => PySem.W.km_in_of Y) (fun w h Y Pt hm => PySem.W.km_tabs_of Y Pt hm) ?zoff ?F (fun w H a ns hl hP hS => ⟨a, ns, rfl, hS, hl, LamX.TabS.nil (hP 368 (by simp)), LamX.TabS.nil (hP 476 (by simp)), fun _ => rfl⟩) (fun w H s e s' h => by obtain ⟨_, _, _, _, _, _, _, _, _, _, _, _, z⟩ := h; exact z)
  case zoff =>
    intro w Pt hm
    simp only [List.mem_cons, List.not_mem_nil, or_false] at hm
    rcases hm with rfl | rfl
    · kernel_rfl
    · kernel_rfl
  case F =>
    intro w mg fa h KX G hmg
    refine' N.packTs (N.all_here (P := PySem.Challenge.rw_endlesskinds_k04_kinds_refused.prog) ?nP KX G hmg ?glo ?zv ?a0 ?a1 ?a2 ?a3 ?a4 ?a5 ?a6 ?a7 ?a8 ?a9 ?a10 ?a11 ?a12 ?a13 ?a14 ?a15 ?a16 ?a17 ?ak ?xk0 ?xb0 ?xt0 ?xe0 ?xk1 ?xb1 ?xt1 ?xe1 ?b1 ?b2 ?d_is_letter ?d_is_name ?d_begins_class_type ?d_is_type ?d_check_type ?d_parts ?d_class_types ?d_size_of ?d_size ?d_depth_of ?d_depth ?d_folded ?d_filled ?d_are_values ?d_fill ?d_written ?d_text_of ?d_text ?d_Lcell_at ?d_Lpen ?d_Ldraw ?d_Lpick ?d_Lword ?d_Lsaid ?d_Lodd ?d_Lis_kind ?d_Lno_values ?d_law) ?zcd1 ?zcd2
    case nP => decide
    case glo =>
      refine' N.glo_mk KX G ?zg0 ?zg1 ?zg2 ?zg3 ?zg4 ?zg5 ?zg6 ?zg7 ?zg8 ?zg9 ?zg10 ?zg11 ?zgl ?zgm
      (case zg0 => k_is); (case zg1 => k_is); (case zg2 => k_is); (case zg3 => k_is); (case zg4 => k_is); (case zg5 => k_is); (case zg6 => k_is); (case zg7 => k_is); (case zg8 => k_is); (case zg9 => k_is); (case zg10 => k_is); (case zg11 => k_is); (case zgl => k_is); (case zgm => k_is)
    (case zv => k_is)
    (case a0 => k_is); (case a1 => k_is); (case a2 => k_is); (case a3 => k_is); (case a4 => k_is); (case a5 => k_is); (case a6 => k_is); (case a7 => k_is); (case a8 => k_is); (case a9 => k_is); (case a10 => k_is); (case a11 => k_is); (case a12 => k_is); (case a13 => k_is); (case a14 => k_is); (case a15 => k_is); (case a16 => k_is); (case a17 => k_is)
    (case ak => k_is); (case xk0 => k_is); (case xb0 => k_is); (case xt0 => k_is); (case xe0 => k_exc); (case xk1 => k_is); (case xb1 => k_is); (case xt1 => k_is); (case xe1 => k_exc)
    (case b1 => kernel_rfl)
    (case b2 => kernel_rfl)
    case d_is_letter =>
      refine' N.mk_def KX G ?za_d_is_letter ?zl_d_is_letter ?zc_d_is_letter ?zk_d_is_letter ?zb_d_is_letter
      (case za_d_is_letter => k_is); (case zl_d_is_letter => k_is); (case zc_d_is_letter => k_is); (case zk_d_is_letter => k_is); (case zb_d_is_letter => exact fun _ _ _ _ _ _ us hl => match us, hl with | [_], _ => rfl)
    case d_is_name =>
      refine' N.mk_def KX G ?za_d_is_name ?zl_d_is_name ?zc_d_is_name ?zk_d_is_name ?zb_d_is_name
      (case za_d_is_name => k_is); (case zl_d_is_name => k_is); (case zc_d_is_name => k_is); (case zk_d_is_name => k_is); (case zb_d_is_name => exact fun _ _ _ _ _ _ us hl => match us, hl with | [_], _ => rfl)
    case d_begins_class_type =>
      refine' N.mk_def KX G ?za_d_begins_class_type ?zl_d_begins_class_type ?zc_d_begins_class_type ?zk_d_begins_class_type ?zb_d_begins_class_type
      (case za_d_begins_class_type => k_is); (case zl_d_begins_class_type => k_is); (case zc_d_begins_class_type => k_is); (case zk_d_begins_class_type => k_is); (case zb_d_begins_class_type => exact fun _ _ _ _ _ _ us hl => match us, hl with | [_], _ => rfl)
    case d_is_type =>
      refine' N.mk_def KX G ?za_d_is_type ?zl_d_is_type ?zc_d_is_type ?zk_d_is_type ?zb_d_is_type
      (case za_d_is_type => k_is); (case zl_d_is_type => k_is); (case zc_d_is_type => k_is); (case zk_d_is_type => k_is); (case zb_d_is_type => exact fun _ _ _ _ _ _ us hl => match us, hl with | [_], _ => rfl)
    case d_check_type =>
      refine' N.mk_def KX G ?za_d_check_type ?zl_d_check_type ?zc_d_check_type ?zk_d_check_type ?zb_d_check_type
      (case za_d_check_type => k_is); (case zl_d_check_type => k_is); (case zc_d_check_type => k_is); (case zk_d_check_type => k_is); (case zb_d_check_type => exact fun _ _ _ _ _ _ us hl => match us, hl with | [_], _ => rfl)
    case d_parts =>
      refine' N.mk_def KX G ?za_d_parts ?zl_d_parts ?zc_d_parts ?zk_d_parts ?zb_d_parts
      (case za_d_parts => k_is); (case zl_d_parts => k_is); (case zc_d_parts => k_is); (case zk_d_parts => k_is); (case zb_d_parts => exact fun _ _ _ _ _ _ us hl => match us, hl with | [_], _ => rfl)
    case d_class_types =>
      refine' N.mk_def KX G ?za_d_class_types ?zl_d_class_types ?zc_d_class_types ?zk_d_class_types ?zb_d_class_types
      (case za_d_class_types => k_is); (case zl_d_class_types => k_is); (case zc_d_class_types => k_is); (case zk_d_class_types => k_is); (case zb_d_class_types => exact fun _ _ _ _ _ _ us hl => match us, hl with | [_], _ => rfl)
    case d_size_of =>
      refine' N.mk_def KX G ?za_d_size_of ?zl_d_size_of ?zc_d_size_of ?zk_d_size_of ?zb_d_size_of
      (case za_d_size_of => k_is); (case zl_d_size_of => k_is); (case zc_d_size_of => k_is); (case zk_d_size_of => k_is); (case zb_d_size_of => exact fun _ _ _ _ _ _ us hl => match us, hl with | [_], _ => rfl)
    case d_size =>
      refine' N.mk_def KX G ?za_d_size ?zl_d_size ?zc_d_size ?zk_d_size ?zb_d_size
      (case za_d_size => k_is); (case zl_d_size => k_is); (case zc_d_size => k_is); (case zk_d_size => k_is); (case zb_d_size => exact fun _ _ _ _ _ _ us hl => match us, hl with | [_], _ => rfl)
    case d_depth_of =>
      refine' N.mk_def KX G ?za_d_depth_of ?zl_d_depth_of ?zc_d_depth_of ?zk_d_depth_of ?zb_d_depth_of
      (case za_d_depth_of => k_is); (case zl_d_depth_of => k_is); (case zc_d_depth_of => k_is); (case zk_d_depth_of => k_is); (case zb_d_depth_of => exact fun _ _ _ _ _ _ us hl => match us, hl with | [_], _ => rfl)
    case d_depth =>
      refine' N.mk_def KX G ?za_d_depth ?zl_d_depth ?zc_d_depth ?zk_d_depth ?zb_d_depth
      (case za_d_depth => k_is); (case zl_d_depth => k_is); (case zc_d_depth => k_is); (case zk_d_depth => k_is); (case zb_d_depth => exact fun _ _ _ _ _ _ us hl => match us, hl with | [_], _ => rfl)
    case d_folded =>
      refine' N.mk_def KX G ?za_d_folded ?zl_d_folded ?zc_d_folded ?zk_d_folded ?zb_d_folded
      (case za_d_folded => k_is); (case zl_d_folded => k_is); (case zc_d_folded => k_is); (case zk_d_folded => k_is); (case zb_d_folded => exact fun _ _ _ _ _ _ us hl => match us, hl with | [_, _, _], _ => rfl)
    case d_filled =>
      refine' N.mk_defC KX G ?za_d_filled ?zl_d_filled ?zc_d_filled ?zk_d_filled ?zb_d_filled
      (case za_d_filled => k_is); (case zl_d_filled => k_is); (case zc_d_filled => k_is); (case zk_d_filled => k_is); (case zb_d_filled => exact fun _ _ _ _ _ _ us hl => match us, hl with | [_, _], _ => rfl)
    case d_are_values =>
      refine' N.mk_def KX G ?za_d_are_values ?zl_d_are_values ?zc_d_are_values ?zk_d_are_values ?zb_d_are_values
      (case za_d_are_values => k_is); (case zl_d_are_values => k_is); (case zc_d_are_values => k_is); (case zk_d_are_values => k_is); (case zb_d_are_values => exact fun _ _ _ _ _ _ us hl => match us, hl with | [_], _ => rfl)
    case d_fill =>
      refine' N.mk_def KX G ?za_d_fill ?zl_d_fill ?zc_d_fill ?zk_d_fill ?zb_d_fill
      (case za_d_fill => k_is); (case zl_d_fill => k_is); (case zc_d_fill => k_is); (case zk_d_fill => k_is); (case zb_d_fill => exact fun _ _ _ _ _ _ us hl => match us, hl with | [_, _], _ => rfl)
    case d_written =>
      refine' N.mk_def KX G ?za_d_written ?zl_d_written ?zc_d_written ?zk_d_written ?zb_d_written
      (case za_d_written => k_is); (case zl_d_written => k_is); (case zc_d_written => k_is); (case zk_d_written => k_is); (case zb_d_written => exact fun _ _ _ _ _ _ us hl => match us, hl with | [_], _ => rfl)
    case d_text_of =>
      refine' N.mk_def KX G ?za_d_text_of ?zl_d_text_of ?zc_d_text_of ?zk_d_text_of ?zb_d_text_of
      (case za_d_text_of => k_is); (case zl_d_text_of => k_is); (case zc_d_text_of => k_is); (case zk_d_text_of => k_is); (case zb_d_text_of => exact fun _ _ _ _ _ _ us hl => match us, hl with | [_], _ => rfl)
    case d_text =>
      refine' N.mk_def KX G ?za_d_text ?zl_d_text ?zc_d_text ?zk_d_text ?zb_d_text
      (case za_d_text => k_is); (case zl_d_text => k_is); (case zc_d_text => k_is); (case zk_d_text => k_is); (case zb_d_text => exact fun _ _ _ _ _ _ us hl => match us, hl with | [_], _ => rfl)
    case d_Lcell_at =>
      refine' N.mk_def KX G ?za_d_Lcell_at ?zl_d_Lcell_at ?zc_d_Lcell_at ?zk_d_Lcell_at ?zb_d_Lcell_at
      (case za_d_Lcell_at => k_is); (case zl_d_Lcell_at => k_is); (case zc_d_Lcell_at => k_is); (case zk_d_Lcell_at => k_is); (case zb_d_Lcell_at => exact fun _ _ _ _ _ _ us hl => match us, hl with | [_, _], _ => rfl)
    case d_Lpen =>
      refine' N.mk_def KX G ?za_d_Lpen ?zl_d_Lpen ?zc_d_Lpen ?zk_d_Lpen ?zb_d_Lpen
      (case za_d_Lpen => k_is); (case zl_d_Lpen => k_is); (case zc_d_Lpen => k_is); (case zk_d_Lpen => k_is); (case zb_d_Lpen => exact fun _ _ _ _ _ _ us hl => match us, hl with | [_], _ => rfl)
    case d_Ldraw =>
      refine' N.mk_def KX G ?za_d_Ldraw ?zl_d_Ldraw ?zc_d_Ldraw ?zk_d_Ldraw ?zb_d_Ldraw
      (case za_d_Ldraw => k_is); (case zl_d_Ldraw => k_is); (case zc_d_Ldraw => k_is); (case zk_d_Ldraw => k_is); (case zb_d_Ldraw => exact fun _ _ _ _ _ _ us hl => match us, hl with | [_, _], _ => rfl)
    case d_Lpick =>
      refine' N.mk_def KX G ?za_d_Lpick ?zl_d_Lpick ?zc_d_Lpick ?zk_d_Lpick ?zb_d_Lpick
      (case za_d_Lpick => k_is); (case zl_d_Lpick => k_is); (case zc_d_Lpick => k_is); (case zk_d_Lpick => k_is); (case zb_d_Lpick => exact fun _ _ _ _ _ _ us hl => match us, hl with | [_, _], _ => rfl)
    case d_Lword =>
      refine' N.mk_def KX G ?za_d_Lword ?zl_d_Lword ?zc_d_Lword ?zk_d_Lword ?zb_d_Lword
      (case za_d_Lword => k_is); (case zl_d_Lword => k_is); (case zc_d_Lword => k_is); (case zk_d_Lword => k_is); (case zb_d_Lword => exact fun _ _ _ _ _ _ us hl => match us, hl with | [_], _ => rfl)
    case d_Lsaid =>
      refine' N.mk_def KX G ?za_d_Lsaid ?zl_d_Lsaid ?zc_d_Lsaid ?zk_d_Lsaid ?zb_d_Lsaid
      (case za_d_Lsaid => k_is); (case zl_d_Lsaid => k_is); (case zc_d_Lsaid => k_is); (case zk_d_Lsaid => k_is); (case zb_d_Lsaid => exact fun _ _ _ _ _ _ us hl => match us, hl with | [_], _ => rfl)
    case d_Lodd =>
      refine' N.mk_def KX G ?za_d_Lodd ?zl_d_Lodd ?zc_d_Lodd ?zk_d_Lodd ?zb_d_Lodd
      (case za_d_Lodd => k_is); (case zl_d_Lodd => k_is); (case zc_d_Lodd => k_is); (case zk_d_Lodd => k_is); (case zb_d_Lodd => exact fun _ _ _ _ _ _ us hl => match us, hl with | [], _ => rfl)
    case d_Lis_kind =>
      refine' N.mk_def KX G ?za_d_Lis_kind ?zl_d_Lis_kind ?zc_d_Lis_kind ?zk_d_Lis_kind ?zb_d_Lis_kind
      (case za_d_Lis_kind => k_is); (case zl_d_Lis_kind => k_is); (case zc_d_Lis_kind => k_is); (case zk_d_Lis_kind => k_is); (case zb_d_Lis_kind => exact fun _ _ _ _ _ _ us hl => match us, hl with | [_], _ => rfl)
    case d_Lno_values =>
      refine' N.mk_def KX G ?za_d_Lno_values ?zl_d_Lno_values ?zc_d_Lno_values ?zk_d_Lno_values ?zb_d_Lno_values
      (case za_d_Lno_values => k_is); (case zl_d_Lno_values => k_is); (case zc_d_Lno_values => k_is); (case zk_d_Lno_values => k_is); (case zb_d_Lno_values => exact fun _ _ _ _ _ _ us hl => match us, hl with | [], _ => rfl)
    case d_law =>
      refine' N.mk_defC KX G ?za_d_law ?zl_d_law ?zc_d_law ?zk_d_law ?zb_d_law
      (case za_d_law => k_is); (case zl_d_law => k_is); (case zc_d_law => k_is); (case zk_d_law => k_is); (case zb_d_law => exact fun _ _ _ _ _ _ us hl => match us, hl with | [_], _ => rfl)
    case zcd1 => kernel_rfl
    case zcd2 => kernel_rfl

