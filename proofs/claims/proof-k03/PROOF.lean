import PyProof.Rows.All
import Wide.All
import OpenK.AllK
import Wide.FinOn
import HandS.ForMost
import HandS.ForExc
import HandS.Star
import HandS.IsInst
import HandS.TupAny
import HandS.StrMore
import HandS.Style
import HandS.Flow
import HandS.Walk
import HandS.ExcInit
import HandS.ExcValue
import HandS.ExcIs
import HandS.ExcField
import KE.KExcIs
import HandS.Nested
import HandS.ExcSuper
import KE.KExcSuper
import HandS.FStr
import HandS.Defaults
import HandS.MakeKw
import HandS.SetFor
import HandS.HotCalls
import HandS.RaiseMore
import HandS.ReplaceLit
import PyProof.SliceStr2
import KE.KRevSl
import HandS.ReplaceList
import HandS.DeepEq
import HandS.EndTab
import KE.KNestM
import PySem.Challenge.RW_endlesskinds_k03_texts_of_kinds
set_option Elab.async false
set_option linter.all false
set_option maxRecDepth 100000
set_option maxHeartbeats 8000000
namespace N
open PySem PySem.Spec PyProof.Rows L2
/-! ### rules that were lacking -/
theorem extend_tup_any (l : Addr) (items : Array Value) (n : Nat) (b : Addr) (items2 : Array Value) (n2 : Nat) (dd : Option Addr) (sl : Array (Option Value)) (hs0 : ¬(!items.isEmpty && Builtin.List.listTooLong (items.size + items2.size)) = true) (hs1 : items.size ≤ sizeLine) (hs2 : items.size + items2.size ≤ sizeLine + 1) :
    Meets (Builtin.«list.extend» ⟨[.ref l, .ref b], []⟩) (fun _ R s => s.heap.get? l = some { cls := .type "list", dict := none, data := .seq items n, slots := #[] } ∧ s.heap.get? b = some { cls := .type "tuple", dict := dd, data := .seq items2 n2, slots := sl } ∧ R (.ok (.ret Value.none)) { s with heap := s.heap.update l (Obj.mapSeq fun x => x ++ items2), toks := s.toks }) :=
  .of_wp fun prog w A R s h => by
    obtain ⟨hp, g, d, tk, os⟩ := s; obtain ⟨hl, hb, h⟩ := h
    have f1 := AutoSeq1.idx_int; have f2 := AutoSeq1.sub_tuple_tuple; have f3 := AutoSeq1.sub_list_list; have f4 := AutoSeq1.sub_tuple_list; have f5 := AutoSeq1.sub_list_tuple
    have hz' : (items ++ items2).size ≤ sizeLine + 1 := by rw [Array.size_append]; exact hs2
    wp_walk using (wpAny_updateSeq hl rfl (hz := hs1) (_hz' := hz')), AutoSeq1.wpAny_loadPart' hl, AutoSeq1.wpAny_loadPart' hb; exact ⟨_, rfl, h⟩
/-- l.extend(t), t a tuple -/
def rExtendT (K : PySem.W.Frag) : V → List V → Hp → VK → Prop := fun x vs H Q => ∃ l b xs zs, x = .ref l ∧ vs = [.ref b] ∧ H l = some (.lst xs) ∧ SqT K H b zs ∧ xs.length + zs.length ≤ sizeLine ∧ Q .non (upd H l (.lst (xs ++ zs)))
section
variable {X : Cx}
theorem mt_extendT : MtM X "list.extend" (rExtendT X.K) := by
  intro pins s σ H x vs v us Q I rx rv h
  obtain ⟨l, b, xs, zs, rfl, rfl, hH, hB, hz, q⟩ := h
  cases rx
  obtain ⟨u, rfl, ru⟩ := rv.one
  cases ru
  obtain ⟨z, its, n, r, hl, e⟩ := I.lstM hH
  obtain ⟨its2, r2, ⟨⟨cls, dd, data, sls⟩, e2, hc, n2, hd⟩, hl2⟩ := I.tuple hB
  simp only at hc hd
  subst hc hd
  have hx1 := r.length
  have hx2 := r2.length
  have hsz : its.toArray.size + its2.toArray.size ≤ sizeLine := by rw [List.size_toArray, List.size_toArray]; omega
  have hlong : ¬ (!its.toArray.isEmpty && Builtin.List.listTooLong (its.toArray.size + its2.toArray.size)) = true := by
    rw [notLongL hsz, Bool.and_false]
    exact Bool.false_ne_true
  refine call_meets F.slot_list_extend ⟨_, e, rfl⟩ F.entry_list_extend (F.args_list_extend_2 _ _)
    (extend_tup_any l its.toArray n b its2.toArray n2 dd sls hlong (by rw [List.size_toArray]; omega) (by omega)) ⟨e, e2, ?_⟩
  refine ⟨.non, _, I.lset (its' := its ++ its2) hH e (by simp) (r.append r2) ?_, rfl, q⟩
  rw [List.length_append]
  omega
end
end N

namespace N
open PySem PySem.Spec PyProof.Rows L2 HT
section
variable {prog : Program} {w : World} {A : Around} {E : Value → Shared → Prop} {s : Shared}
theorem adjust_back (n : Nat) (h : 1 ≤ n) : Builtin.Slice.sliceAdjust none (some 0) (-1) (n : Int) = ((n : Int) - 1, 0) := by
  unfold Builtin.Slice.sliceAdjust
  have h1 : ((-1 : Int) < 0) := by omega
  simp only [h1, if_true]
  refine Prod.ext ?_ ?_
  · first | rfl | (simp; done) | omega
  · show _ = _
    simp
    omega
theorem places_back (n : Nat) (h : 1 ≤ n) : Builtin.Slice.slicePlaces ((n : Int) - 1) 0 (-1) = n - 1 := by
  unfold Builtin.Slice.slicePlaces
  have h1 : ¬ ((-1 : Int) > 0) := by omega
  simp only [h1, if_false]
  have e : (- -1 : Int) = 1 := by decide
  rw [e, Int.ediv_one]
  split <;> omega
theorem applied_back {sl : Addr} {vl vu vs : Value} {n : Nat} {Q : Int × Int × Nat → Shared → Prop} (h1 : 1 ≤ n) (hs : s.heap.IsSliceOf sl vl vu vs) (pl : IsPart vl none) (pu : IsPart vu (some 0)) (ps : IsPart vs (some (-1)))
    (h : Q ((n : Int) - 1, -1, n - 1) s) : wpAny (model prog w) A (Builtin.Slice.sliceApplied (.ref sl) (pure (n : Int))) Q E s := by
  obtain ⟨os, hos, hcs, hds⟩ := id hs
  unfold Builtin.Slice.sliceApplied Builtin.Slice.sliceFields
  refine wpAny_bind (wpAny_bind (wpAny_field hos hds (x := vl) rfl (wpAny_bind (wpAny_field hos hds (x := vu) rfl (wpAny_bind (wpAny_field hos hds (x := vs) rfl (wpAny_pure ?_)))))))
  refine wpAny_bind (slicePart_ ps ?_)
  show wpAny _ _ (if ((-1 : Int) == 0) = true then _ else _) _ _ s
  rw [if_neg (by decide)]
  refine wpAny_bind (slicePart_ pl (wpAny_bind (slicePart_ pu (wpAny_bind (wpAny_pure ?_)))))
  show wpAny _ _ (match Builtin.Slice.sliceAdjust none (some 0) (-1) (n : Int) with | (lo, hi) => pure (lo, (-1 : Int), Builtin.Slice.slicePlaces lo hi (-1))) _ _ s
  rw [adjust_back n h1]
  show wpAny _ _ (pure ((n : Int) - 1, (-1 : Int), Builtin.Slice.slicePlaces ((n : Int) - 1) 0 (-1))) _ _ s
  rw [places_back n h1]
  exact wpAny_pure h
theorem pick_back (xs : Array Value) (h : 1 ≤ xs.size) : ((List.range (xs.size - 1)).filterMap fun (m : Nat) => xs[(((xs.size : Int) - 1) + (m : Int) * (-1)).toNat]?).toArray = (xs.toList.drop 1).reverse.toArray := by
  refine congrArg List.toArray ?_
  have e : ∀ m ∈ List.range (xs.size - 1), xs[(((xs.size : Int) - 1) + (m : Int) * (-1)).toNat]? = some (xs.toList.reverse.getD m .none) := by
    intro m hm
    have hm' := List.mem_range.mp hm
    have e1 : (((xs.size : Int) - 1) + (m : Int) * (-1)).toNat = xs.size - 1 - m := by omega
    rw [e1, ← Array.getElem?_toList, List.getD_eq_getElem?_getD, List.getElem?_reverse (by rw [Array.length_toList]; omega), Array.length_toList,
      List.getElem?_eq_getElem (show xs.size - 1 - m < xs.toList.length by rw [Array.length_toList]; omega)]
    rfl
  have e2 : (List.range (xs.size - 1)).filterMap (fun (m : Nat) => xs[(((xs.size : Int) - 1) + (m : Int) * (-1)).toNat]?) = (List.range (xs.size - 1)).filterMap (fun m => some (xs.toList.reverse.getD m .none)) := by
    generalize List.range (xs.size - 1) = l at e
    induction l with
    | nil => rfl
    | cons a r ih =>
      rw [List.filterMap_cons, List.filterMap_cons, e a List.mem_cons_self, ih fun m hm => e m (List.mem_cons_of_mem _ hm)]
  rw [e2, List.filterMap_eq_map' ] <;> try rfl
  apply List.ext_getElem?
  intro i
  rw [List.getElem?_map]
  by_cases hi : i < xs.size - 1
  · rw [List.getElem?_range hi, List.getElem?_reverse (by rw [List.length_drop, Array.length_toList]; omega), List.length_drop, Array.length_toList, List.getElem?_drop,
      Option.map_some, List.getD_eq_getElem?_getD, List.getElem?_reverse (by rw [Array.length_toList]; omega), Array.length_toList,
      show 1 + (xs.size - 1 - 1 - i) = xs.size - 1 - i by omega, List.getElem?_eq_getElem (show xs.size - 1 - i < xs.toList.length by rw [Array.length_toList]; omega)]
    rfl
  · rw [List.getElem?_eq_none (by rw [List.length_range]; omega), List.getElem?_eq_none (by rw [List.length_reverse, List.length_drop, Array.length_toList]; omega)]
    rfl
theorem getItem_tuple_back {t sl : Addr} {items : Array Value} {vl vu vs : Value} {Q : Value → Shared → Prop} (ht : IsTup s.heap t items) (h1 : 1 ≤ items.size) (hs : s.heap.IsSliceOf sl vl vu vs) (pl : IsPart vl none) (pu : IsPart vu (some 0)) (ps : IsPart vs (some (-1)))
    (h : Q (.ref s.heap.objs.size) { s with heap := s.heap.push { cls := .type "tuple", data := .seq (items.toList.drop 1).reverse.toArray } })
    (hsz : items.size ≤ sizeLine) : wpAny (model prog w) A (getItem (.ref t) (.ref sl)) Q E s := by
  have htake : sizeOk (.seq (items.toList.drop 1).reverse.toArray) := by
    show ((items.toList.drop 1).reverse).toArray.size ≤ sizeLine
    rw [List.size_toArray, List.length_reverse, List.length_drop, Array.length_toList]
    omega
  obtain ⟨os, hos, hcs, hds⟩ := id hs
  have hTs : s.TypeIs (.ref sl) "slice" := ⟨os, hos, hcs⟩
  unfold getItem
  try with_reducible refine wpAny_holding ?_
  first | refine wpAny_bind (wpAny_pure ?_) | skip
  refine wpAny_bind (wpAny_sequenceKey ht.typeIs (by decide) ?_)
  refine wpAny_bind (wpAny_callSpecial?_slot (name := Str.ofString "__getitem__") ht.typeIs PyProof.Rows.slot_tuple_getitem
    (wpAny_call_entry PyProof.Rows.slot_tuple_getitem ht.typeIs entry_tuple_getitem ?_ (args_tuple_getitem _ _)))
  show wpAny _ _ (Builtin.Tuple.tupleItemsOf (.ref t) >>= _) _ _ s
  refine wpAny_bind (tupleItemsOf_ ht ?_)
  refine wpAny_bind (wpAny_typeOf hTs ?_)
  rw [if_pos (by decide)]
  refine wpAny_bind (applied_back h1 hs pl pu ps ?_)
  show wpAny _ _ (if ((((items.size : Int) - 1)) == 0 && (-1 : Int) == 1 && (items.size - 1) == items.size) = true then _ else _) _ _ s
  rw [if_neg (by simp), pick_back items h1]
  first
    | exact wpAny_bind (m := Builtin.Tuple.tupleExact _) (wpAny_newObj_type (wpAny_pure ⟨_, rfl, wpAny_pure h⟩) htake)
    | exact wpAny_bind (m := Builtin.Tuple.tupleExact _) (wpAny_newObj_type (wpAny_bind (wpAny_pure (wpAny_pure ⟨_, rfl, wpAny_pure h⟩))) htake)
    | exact wpAny_bind (wpAny_bind (m := Builtin.Tuple.tupleExact _) (wpAny_newObj_type (wpAny_pure (wpAny_pure ⟨_, rfl, wpAny_pure h⟩)) htake))
    | exact wpAny_bind (wpAny_bind (m := Builtin.Tuple.tupleExact _) (wpAny_newObj_type (wpAny_pure ⟨_, rfl, wpAny_pure h⟩) htake))
end
/-- t[:0:-1] -/
def tBackT (K : PySem.W.Frag) (te : TE) : TE := fun σ H Q => te σ H fun x H1 => ∃ a xs, x = .ref a ∧ SqT K H1 a xs ∧ 1 ≤ xs.length ∧ ∀ p, H1 p = none → Q (.ref p) (upd H1 p (.tup (xs.drop 1).reverse))
section
variable {X : Cx}
theorem pe_backT {e : Expr} {te : TE} {k k0 : Nat} {p0 p1 p2 p3 pos : Pos} (he : PE X e te) : PE X (.Subscript e (.Slice none (some (.Constant (.int 0) k0 p0)) (some (.UnaryOp .USub (.Constant (.int 1) k p1) p2)) p3) pos) (tBackT X.K te) := by
  refine ⟨fun pins s σ H Q I h => ?_⟩
  refine Subscript_ (thn (he.run pins s σ H _ I h) fun v s1 ⟨x, H1, I1, r1, q1⟩ => ?_)
  obtain ⟨a, xs, ex, hx, h1, q⟩ := q1
  subst ex
  cases r1
  have hst : PO X (some (.UnaryOp .USub (.Constant (.int 1) k p1) p2)) (tPart (tUn (rU fun i => .int (-i)) (tC (.int 1)))) := po_some (pe_un un_neg pe_int)
  have hhi : PO X (some (.Constant (.int 0) k0 p0)) (tPart (tC (.int 0))) := po_some pe_int
  refine wpAny_Slice (thn (po_none.run pins s1 σ H1 (fun o H2 => o = none ∧ H2 = H1) I1 ⟨rfl, rfl⟩) fun vl s2 ⟨l, H2, I2, pl, el, e2⟩ => ?_)
  subst el e2
  refine thn (hhi.run pins s2 σ H2 (fun o H3 => o = some 0 ∧ H3 = H2) I2 ⟨0, rfl, rfl, rfl⟩) fun vu s3 ⟨u, H3, I3, pu, eu, e3⟩ => ?_
  subst eu e3
  refine thn (hst.run pins s3 σ H3 (fun o H4 => o = some (-1) ∧ H4 = H3) I3 ⟨1, rfl, -1, rfl, rfl, rfl⟩) fun vs s4 ⟨o, H4, I4, ps, eo, e4⟩ => ?_
  subst eo e4
  have I5 : Inv X pins σ H4 { s4 with heap := s4.heap.push { cls := .type "slice", data := .fields #[vl, vu, vs] } } := I4.kept (t' := s4.toks) fun b ob q => Heap.get?_push_of_some _ q
  obtain ⟨its, r, ht, hz⟩ := I5.tuple hx
  have hlen := r.length
  show wpAny (model X.prog X.w) X.A (subscriptTail e (.Slice none (some (.Constant (.int 0) k0 p0)) (some (.UnaryOp .USub (.Constant (.int 1) k p1) p2)) p3) (.ref a) (.ref s4.heap.objs.size)) (EP X pins σ Q) X.xe { s4 with heap := s4.heap.push { cls := .type "slice", data := .fields #[vl, vu, vs] } }
  refine tail_any (ops := [.ref a, .ref s4.heap.objs.size]) ht.typeIs (PyProof.Rows.slot_tuple_getitem.lookup) ?_ (by with_unfolding_all rfl)
  refine getItem_tuple_back ht (by rw [List.size_toArray]; omega) (Heap.IsSliceOf.new _ vl vu vs) pl pu ps ?_ (by rw [List.size_toArray]; omega)
  refine ⟨.ref _, _, I5.laid (t' := s4.toks) (o := .tup (xs.drop 1).reverse) (fun b ob q => Heap.get?_push_of_some _ q) (Nat.le_refl _) ?_, rfl, q _ (I5.hok.fresh (Nat.le_refl _))⟩
  refine ⟨by rw [List.length_reverse, List.length_drop]; omega, (its.drop 1).reverse, ?_, ⟨_, Heap.get?_push_size _ rfl, rfl, _, rfl⟩⟩
  exact (r.drop 1).reverse
end
end N

namespace N
open PySem PySem.Spec PyProof.Rows L2
/-! ### words -/
theorem asc_alpha : ∀ c : Nat, c < 128 → Unicode.isAlpha c = (decide (65 ≤ c ∧ c ≤ 90) || decide (97 ≤ c ∧ c ≤ 122)) := by
  intro c h
  have q : ∀ c : Fin 128, Unicode.isAlpha c.1 = (decide (65 ≤ c.1 ∧ c.1 ≤ 90) || decide (97 ≤ c.1 ∧ c.1 ≤ 122)) := by decide +kernel
  exact q ⟨c, h⟩
theorem asc_lower : ∀ c : Nat, c < 128 → Unicode.isLower c = decide (97 ≤ c ∧ c ≤ 122) := by
  intro c h
  have q : ∀ c : Fin 128, Unicode.isLower c.1 = decide (97 ≤ c.1 ∧ c.1 ≤ 122) := by decide +kernel
  exact q ⟨c, h⟩
theorem asc_upper : ∀ c : Nat, c < 128 → (Unicode.isUpper c || Unicode.isTitle c) = decide (65 ≤ c ∧ c ≤ 90) := by
  intro c h
  have q : ∀ c : Fin 128, (Unicode.isUpper c.1 || Unicode.isTitle c.1) = decide (65 ≤ c.1 ∧ c.1 ≤ 90) := by decide +kernel
  exact q ⟨c, h⟩
/-- a letter, as the def says it -/
def isLet (x : Str) : Bool := decide (x.length = 1) && (!decide (x.cps.toList < ("A" : Str).cps.toList) && !decide (("Z" : Str).cps.toList < x.cps.toList))
def isNam (x : Str) : Bool := !decide (8 < x.length) && (Txt.isascii x && (Txt.isalpha x && Txt.islower x))
def Low (c : Nat) : Prop := 97 ≤ c ∧ c ≤ 122
theorem isLet_iff {x : Str} : isLet x = true ↔ ∃ c, x.cps.toList = [c] ∧ 65 ≤ c ∧ c ≤ 90 := by
  unfold isLet Str.length
  have eA : ("A" : Str).cps.toList = [65] := by decide +kernel
  have eZ : ("Z" : Str).cps.toList = [90] := by decide +kernel
  rw [eA, eZ]
  obtain ⟨⟨l⟩⟩ := x
  simp only [Bool.and_eq_true, decide_eq_true_eq, Bool.not_eq_true', decide_eq_false_iff_not, List.size_toArray]
  constructor
  · rintro ⟨h1, h2, h3⟩
    match l, h1 with
    | [c], _ =>
      refine ⟨c, rfl, ?_, ?_⟩
      · have : ¬ c < 65 := fun q => h2 (by simp [List.cons_lt_cons_iff, q])
        omega
      · have : ¬ 90 < c := fun q => h3 (by simp [List.cons_lt_cons_iff, q])
        omega
  · rintro ⟨c, h, h2, h3⟩
    subst h
    refine ⟨rfl, fun q => ?_, fun q => ?_⟩
    · simp [List.cons_lt_cons_iff] at q
      omega
    · simp [List.cons_lt_cons_iff] at q
      omega
theorem isNam_iff {x : Str} : isNam x = true ↔ 1 ≤ x.length ∧ x.length ≤ 8 ∧ ∀ c ∈ x.cps.toList, Low c := by
  obtain ⟨⟨l⟩⟩ := x
  have e1 : Txt.isascii ⟨⟨l⟩⟩ = l.all (fun c => decide (c < 128)) := by
    show Array.all _ _ = _
    exact List.all_toArray ..
  have e2 : Txt.isalpha ⟨⟨l⟩⟩ = (decide (l.length > 0) && l.all Unicode.isAlpha) := by
    show (decide _ && Array.all _ _) = _
    exact congrArg _ (List.all_toArray ..)
  have e3 : Txt.islower ⟨⟨l⟩⟩ = (l.any Unicode.isLower && !l.any fun c => Unicode.isUpper c || Unicode.isTitle c) := by
    show (Array.any _ _ && !Array.any _ _) = _
    exact congr (congrArg _ (List.any_toArray ..)) (congrArg _ (List.any_toArray ..))
  unfold isNam
  rw [e1, e2, e3]
  show (!decide (8 < l.length) && _) = true ↔ 1 ≤ l.length ∧ l.length ≤ 8 ∧ ∀ c ∈ l, Low c
  simp only [Bool.and_eq_true, Bool.not_eq_true', decide_eq_false_iff_not, decide_eq_true_eq, List.all_eq_true, List.any_eq_true, List.any_eq_false, Nat.not_lt]
  constructor
  · rintro ⟨h8, ha, ⟨h1, hb⟩, h3, h4⟩
    refine ⟨by omega, h8, fun c hc => ?_⟩
    have a1 := ha c hc
    have a2 := hb c hc
    rw [asc_alpha c a1] at a2
    have a3 := h4 c hc
    rw [asc_upper c a1] at a3
    simp only [Bool.or_eq_true, decide_eq_true_eq] at a2 a3
    unfold Low
    omega
  · rintro ⟨h1, h8, h⟩
    have hl : ∀ c ∈ l, 97 ≤ c ∧ c ≤ 122 := h
    refine ⟨h8, fun c hc => ?_, ⟨by omega, fun c hc => ?_⟩, ?_, fun c hc => ?_⟩
    · have := hl c hc
      omega
    · have q := hl c hc
      rw [asc_alpha c (by omega)]
      simp [q]
    · match l, h1 with
      | c :: r, _ =>
        refine ⟨c, List.mem_cons_self, ?_⟩
        have q := hl c List.mem_cons_self
        rw [asc_lower c (by omega)]
        simp [q]
    · have q := hl c hc
      rw [asc_upper _ (by omega)]
      simp
      omega
theorem let_not_nam {x : Str} (h : isLet x = true) : isNam x = false := by
  obtain ⟨c, e, h1, h2⟩ := isLet_iff.mp h
  cases q : isNam x with
  | false => rfl
  | true =>
    obtain ⟨_, _, h3⟩ := isNam_iff.mp q
    have := h3 c (by rw [e]; exact List.mem_cons_self)
    unfold Low at this
    omega

/-! ### any thing, as the program sees it -/
inductive Tg where
  | str (x : Str) | oth | tup (ts : List Tg)
mutual
def Tg.nodes : Tg → Nat
  | .str _ => 1
  | .oth => 1
  | .tup ts => 1 + nodesAll ts
def nodesAll : List Tg → Nat
  | [] => 0
  | t :: ts => t.nodes + nodesAll ts
end
theorem nodes_pos (t : Tg) : 1 ≤ t.nodes := by
  cases t <;> simp only [Tg.nodes] <;> omega
theorem nodesAll_app : ∀ a b : List Tg, nodesAll (a ++ b) = nodesAll a + nodesAll b
  | [], b => by simp [nodesAll]
  | t :: a, b => by
    rw [List.cons_append]
    simp only [nodesAll]
    rw [nodesAll_app a b]
    omega
theorem length_le_nodes : ∀ a : List Tg, a.length ≤ nodesAll a
  | [] => Nat.zero_le _
  | t :: a => by
    have h1 := length_le_nodes a
    have h2 := nodes_pos t
    simp only [nodesAll, List.length_cons]
    omega
def Tg.isNm : Tg → Bool
  | .str x => isNam x
  | _ => false
/-- a class type as far as its name and the number of its arguments go -/
def begT : Tg → Bool
  | .tup (n :: ts) => decide (ts.length ≤ 2) && n.isNm
  | _ => false
def Tg.isL : Tg → Bool
  | .str x => isLet x
  | _ => false
mutual
def isT : Tg → Bool
  | .str x => isLet x
  | .oth => false
  | .tup [] => false
  | .tup (n :: ts) => (decide (ts.length ≤ 2) && n.isNm) && isTAll ts
def isTAll : List Tg → Bool
  | [] => true
  | t :: ts => isT t && isTAll ts
end
theorem isTAll_app : ∀ a b : List Tg, isTAll (a ++ b) = (isTAll a && isTAll b)
  | [], b => by simp [isTAll]
  | t :: a, b => by
    rw [List.cons_append]
    simp only [isTAll]
    rw [isTAll_app a b, Bool.and_assoc]
def Tg.args : Tg → List Tg
  | .tup (_ :: ts) => ts
  | _ => []
theorem isT_beg {t : Tg} (h : begT t = true) : isT t = isTAll t.args := by
  match t, h with
  | .tup (n :: ts), h =>
    have h' : (decide (ts.length ≤ 2) && n.isNm) = true := h
    simp only [isT, Tg.args]
    rw [h', Bool.true_and]
theorem isT_nbeg {t : Tg} (h : begT t = false) : isT t = t.isL := by
  match t, h with
  | .str x, _ => simp [isT, Tg.isL]
  | .oth, _ => simp [isT, Tg.isL]
  | .tup [], _ => simp [isT, Tg.isL]
  | .tup (n :: ts), h =>
    have h' : (decide (ts.length ≤ 2) && n.isNm) = false := h
    simp only [isT, Tg.isL]
    rw [h', Bool.false_and]
theorem args_nodes {t : Tg} (h : begT t = true) : nodesAll t.args + 1 < t.nodes + 1 := by
  match t, h with
  | .tup (n :: ts), _ =>
    have := nodes_pos n
    simp only [Tg.args, Tg.nodes, nodesAll]
    omega
mutual
/-- at v stands such a thing -/
inductive Th (K : PySem.W.Frag) (H : Hp) : V → Tg → Prop
  | str (x : Str) (hx : x.length ≤ 100000) : Th K H (.str x) (.str x)
  | oth {v : V} {t : Value} (ty : TyX K H v t) (a : PySem.W.kitOne K t (.type "str") = some false) (b : PySem.W.kitOne K t (.type "tuple") = some false) : Th K H v .oth
  | tup {a : Addr} {xs : List V} {ts : List Tg} (h : SqT K H a xs) (r : ThAll K H xs ts) : Th K H (.ref a) (.tup ts)
inductive ThAll (K : PySem.W.Frag) (H : Hp) : List V → List Tg → Prop
  | nil : ThAll K H [] []
  | cons {v : V} {vs : List V} {t : Tg} {ts : List Tg} (h : Th K H v t) (r : ThAll K H vs ts) : ThAll K H (v :: vs) (t :: ts)
end
theorem ThAll.length {K : PySem.W.Frag} {H : Hp} : ∀ {vs : List V} {ts : List Tg}, ThAll K H vs ts → vs.length = ts.length
  | _, _, .nil => rfl
  | _, _, .cons _ r => by simp [ThAll.length r]
theorem ThAll.app {K : PySem.W.Frag} {H : Hp} : ∀ {vs ws : List V} {ts us : List Tg}, ThAll K H vs ts → ThAll K H ws us → ThAll K H (vs ++ ws) (ts ++ us)
  | _, _, _, _, .nil, r => r
  | _, _, _, _, .cons h r, q => .cons h (r.app q)
theorem ThAll.snoc {K : PySem.W.Frag} {H : Hp} {vs : List V} {ts : List Tg} (h : ThAll K H vs ts) (hn : ts ≠ []) : ∃ v vs' t ts', vs = vs' ++ [v] ∧ ts = ts' ++ [t] ∧ Th K H v t ∧ ThAll K H vs' ts' := by
  match vs, ts, h with
  | _, _, .nil => exact absurd rfl hn
  | _, _, .cons (v := v) (vs := vs) (t := t) (ts := ts) h r =>
    by_cases e : ts = []
    · subst e
      match vs, r with
      | _, .nil => exact ⟨v, [], t, [], rfl, rfl, h, .nil⟩
    · obtain ⟨v', vs', t', ts', e1, e2, h1, h2⟩ := r.snoc e
      exact ⟨v', v :: vs', t', t :: ts', by rw [e1]; rfl, by rw [e2]; rfl, h1, .cons h h2⟩
/-- what is needed of a change of the heap, for things to stay -/
structure Stay (K : PySem.W.Frag) (H H' : Hp) : Prop where
  tup : ∀ a xs, SqT K H a xs → SqT K H' a xs
  ty : ∀ v t, TyX K H v t → TyX K H' v t
mutual
theorem Th.stay {K : PySem.W.Frag} {H H' : Hp} (s : Stay K H H') : ∀ {v : V} {t : Tg}, Th K H v t → Th K H' v t
  | _, _, .str x hx => .str x hx
  | _, _, .oth ty a b => .oth (s.ty _ _ ty) a b
  | _, _, .tup h r => .tup (s.tup _ _ h) (ThAll.stay s r)
theorem ThAll.stay {K : PySem.W.Frag} {H H' : Hp} (s : Stay K H H') : ∀ {vs : List V} {ts : List Tg}, ThAll K H vs ts → ThAll K H' vs ts
  | _, _, .nil => .nil
  | _, _, .cons h r => .cons (Th.stay s h) (ThAll.stay s r)
end
theorem Stay.refl {K : PySem.W.Frag} (H : Hp) : Stay K H H := ⟨fun _ _ h => h, fun _ _ h => h⟩
theorem Stay.trans {K : PySem.W.Frag} {H H1 H2 : Hp} (a : Stay K H H1) (b : Stay K H1 H2) : Stay K H H2 := ⟨fun x y h => b.tup x y (a.tup x y h), fun x y h => b.ty x y (a.ty x y h)⟩
theorem stay_of {K : PySem.W.Frag} {H H' : Hp} (h : ∀ a o, H a = some o → H' a = some o ∨ ∃ xs ys, o = .lst xs ∧ H' a = some (.lst ys)) (hdx : ∀ a x, H a = some (.own x) → H' a = some (.own x)) : Stay K H H' where
  tup := fun a xs q => by
    rcases q with (q | ⟨o, q⟩) | q
    · rcases h a _ q with h1 | ⟨_, _, e, _⟩
      · exact .inl (.inl h1)
      · cases e
    · rcases h a _ q with h1 | ⟨_, _, e, _⟩
      · exact .inl (.inr ⟨o, h1⟩)
      · cases e
    · exact .inr q
  ty := fun v t q => by
    have k : ∀ a o, H a = some o → (∀ xs, o ≠ .lst xs) → H' a = some o := fun a o e n => by
      rcases h a o e with h1 | ⟨xs, _, e2, _⟩
      · exact h1
      · exact absurd e2 (n xs)
    cases q with
    | base b =>
      cases b with
      | non => exact .base .non
      | bl x => exact .base (.bl x)
      | int i => exact .base (.int i)
      | str x => exact .base (.str x)
      | flt x => exact .base (.flt x)
      | @lst a xs e =>
        rcases h a _ e with h1 | ⟨_, ys, _, h1⟩
        · exact .base (.lst h1)
        · exact .base (.lst h1)
      | frz e => exact .base (.frz (k _ _ e fun xs z => by cases z))
      | tup e => exact .base (.tup (k _ _ e fun xs z => by cases z))
      | dK e => exact .base (.dK (k _ _ e fun xs z => by cases z))
      | dT e => exact .base (.dT (k _ _ e fun xs z => by cases z))
      | ins e cl ha hn htk hm => exact .base (.ins (k _ _ e fun xs z => by cases z) cl ha hn htk hm)
    | byt b => exact .byt b
    | set e => exact .set (k _ _ e fun xs z => by cases z)
    | kList e c => exact .kList e c
    | kTuple e c => exact .kTuple e c
    | kDict e c => exact .kDict e c
    | fTuple e => exact .fTuple (k _ _ e fun xs z => by cases z)
    | fDict e => exact .fDict (k _ _ e fun xs z => by cases z)
theorem stay_same {K : PySem.W.Frag} {H H' : Hp} (e : Same H H') : Stay K H H' := stay_of (fun a o q => .inl (e a o q)) fun a x q => e a _ q
theorem same_new {H : Hp} {p : Addr} (h : H p = none) (o : HO) : Same H (upd H p o) := fun b u q => by rw [upd_ne (ne_of_none q h)]; exact q
theorem stay_new {K : PySem.W.Frag} {H : Hp} {p : Addr} (h : H p = none) (o : HO) : Stay K H (upd H p o) := stay_same (same_new h o)
theorem stay_lst {K : PySem.W.Frag} {H : Hp} {p : Addr} {xs ys : List V} (h : H p = some (.lst xs)) : Stay K H (upd H p (.lst ys)) := stay_of (fun a o q => by
    by_cases e : a = p
    · subst e
      rw [h] at q
      cases q
      exact .inr ⟨xs, ys, rfl, upd_same⟩
    · exact .inl (by rw [upd_ne e]; exact q)) fun a x q => by
  rw [upd_ne (ne_of q h (by intro z; cases z))]
  exact q
theorem SqT.ty {K : PySem.W.Frag} {H : Hp} {a : Addr} {xs : List V} (h : SqT K H a xs) : TyX K H (.ref a) (.type "tuple") := by
  rcases h with (h | ⟨o, h⟩) | ⟨o, its, n, h, c, _⟩
  · exact .base (.tup h)
  · exact .fTuple h
  · exact .kTuple h c
end N

namespace N
open PySem PySem.Spec PyProof.Rows L2
/-! ### promises where no repr is under way -/
structure RoomG (k : Nat) (A : Around) : Prop extends Room k A where
  gs : A.guards = some []
theorem RoomG.mono {j k : Nat} {A : Around} (r : RoomG k A) (h : j ≤ k) : RoomG j A := ⟨r.toRoom.mono h, r.gs⟩
theorem RoomG.deeper {k : Nat} {A : Around} (r : RoomG (k + 1) A) (env : Env) : RoomG k (A.deeper env) := ⟨r.toRoom.deeper env, r.gs⟩
theorem roomG_caller {k : Nat} (r : Room k callerA) : RoomG k callerA := ⟨r, rfl⟩
structure FnG (P : Program) (w : World) (K : PySem.W.Frag) (mg : Str → Option Value) (base : Heap) (CX : CXT) (k : Nat) (f : Addr) (fd : FuncData) (ps : List Str) (sp : Sp) : Prop where
  len : ∀ vs H Q E, sp vs H Q E → vs.length = ps.length
  run : ∀ (A : Around) (outer : List Env) (s : Shared) (H : Hp) (args : Args) (us : List Value) (vs : List V) (Q : VK) (E : XK), RoomG k A → Env0 P w K mg base A outer s H → BindsTo s fd args (ps.zip us) → Vals vs us → sp vs H Q E →
    codeAny (model P w) A (.call (.ref f) args) (CR CX outer P w H s Q E) s
section
variable {P : Program} {w : World} {K : PySem.W.Frag} {mg : Str → Option Value} {base : Heap} {CX : CXT} {j k : Nat} {f : Addr} {fd : FuncData} {ps : List Str} {sp : Sp}
theorem FnG.mono (F : FnG P w K mg base CX j f fd ps sp) (h : j ≤ k) : FnG P w K mg base CX k f fd ps sp := ⟨F.len, fun A outer s H args us vs Q E hr => F.run A outer s H args us vs Q E (hr.mono h)⟩
theorem FnG.imp {sp' : Sp} (F : FnG P w K mg base CX k f fd ps sp) (h : ∀ vs H Q E, sp' vs H Q E → sp vs H Q E) : FnG P w K mg base CX k f fd ps sp' :=
  ⟨fun vs H Q E q => F.len vs H Q E (h _ _ _ _ q), fun A outer s H args us vs Q E hr he hb hv hs => F.run A outer s H args us vs Q E hr he hb hv (h _ _ _ _ hs)⟩
/-- one entry, the surroundings fixed: the library's rule for a def is asked with a promise that holds there alone -/
theorem fnG_of {x : Str} {st : Stmt} {N : List Str} (F : Fun K x x st f fd) (S : FnScope N ps (defScope st)) (len : ∀ vs H Q E, sp vs H Q E → vs.length = ps.length)
    (hbody : ∀ (cdv : Value) (A : Around) (outer : List Env) (s : Shared) (H : Hp) (vs : List V) (Q : VK) (E : XK), RoomG k (A.deeper (envOfC x (defScope st) s.heap.objs.size f cdv)) → sp vs H Q E →
      ∃ t, PSs (cxOf CX P w K mg base N x (defScope st) f cdv A outer s H E) (defBody st) t ∧ t { nx := fun _ H' => Q .non H', rt := Q } (start N vs) H) : FnG P w K mg base CX (k + 1) f fd ps sp := by
  obtain ⟨oc, od, kV, doc, pm, an, cdv, ct, osl, rfl, lk, hcd⟩ := F.ex
  refine ⟨len, fun A outer s H args us vs Q E hr e0 hb r hsp => ?_⟩
  have KX : K.In s.heap := e0.mod.kin.keeps fun b o e => (e0.bs b o e).1
  have lim : s.heap.NoLimit := e0.mod.nolimit.keeps fun b o e => (e0.bs b o e).1
  have hkind : ∀ y ∈ ps.zip us, (defScope st).names.lookup y.1 = some .local ∨ ((defScope st).names.lookup y.1 = some .cell ∧ ((cellsFrom (s.heap.objs.size + 1) (defScope st).names []).lookup y.1).isSome = true) := fun ⟨n, v⟩ hy =>
    (S.par n (List.of_mem_zip hy).1).elim .inl fun q => .inr ⟨q, PySem.W.cellsFrom_some _ _ _ (.inl q)⟩
  refine codeAny_call_function hr.depth (KX _ _ lk) rfl S.co S.gen rfl (PySem.W.codeRec_of KX hcd) (hb _ _ _ _ ?_)
  refine wpAny_newFunctionEnv_cells S.kind hkind fun env he s1 x => ?_
  subst he
  refine ⟨lim.keeps x.toInCall.keep, codeAny_func ?_⟩
  obtain ⟨t, ht, hq⟩ := hbody cdv A outer s H vs Q E (hr.deeper _) hsp
  have I := inv_start (CX := CX) (P := P) (w := w) (mg := mg) (E := E) S hr.hd e0 (len _ _ _ _ hsp) r x
  refine wpAny_mono (ht.run [] s1 (start N vs) H _ I hq) (fun fl s' hs => ?_) fun e s' hs => hs
  cases fl with
  | ret u => obtain ⟨v, σ', H', J, rv, q⟩ := hs; exact ⟨v, H', J.os, J.bare, J.base, J.hok, rv, q⟩
  | next => obtain ⟨σ', H', J, q⟩ := hs; exact ⟨.non, H', J.os, J.bare, J.base, J.hok, rfl, q⟩
  | brk => obtain ⟨_, _, _, q⟩ := hs; exact False.elim q
  | cont => obtain ⟨_, _, _, q⟩ := hs; exact False.elim q
end
section
variable {X : Cx} {CX : CXT} {k : Nat} {f : Addr} {fd : FuncData} {ps : List Str} {sp : Sp} {E : XK}
theorem runG {pins : List (Addr × Obj)} {σ : L2.St} {H : Hp} {s : Shared} {Q : VK} {us : List Value} {vs : List V} (F : FnG X.prog X.w X.K X.mg X.base CX k f fd ps sp) (hr : RoomG k X.A) (hb : Binds X.K fd ps [])
    (hx : ∀ e s', CX X.stack H s E e s' → X.xe e s') (I : Inv X pins σ H s) (r : Vals vs us) (h : sp vs H Q E) : wpAny (model X.prog X.w) X.A (call (.ref f) us) (EP X pins σ Q) X.xe s := by
  have b := hb s us I.kIn (by rw [List.append_nil, ← r.length]; exact F.len _ _ _ _ h)
  rw [List.append_nil] at b
  refine wpAny_call (codeAny_mono (F.run X.A X.stack s H ⟨us, []⟩ us vs Q E hr I.env0 b r h) fun res s' hq => ?_)
  match res, hq with
  | .error e, hq => exact hx e s' hq
  | .ok (.ret u), hq => exact I.after hq
  | .ok .next, hq => exact False.elim hq
  | .ok .brk, hq => exact False.elim hq
  | .ok .cont, hq => exact False.elim hq
end
end N

namespace N
open PySem PySem.Spec PyProof.Rows L2
/-! ### defs as they stand behind the top, and what they promise -/
def DefAt (K : PySem.W.Frag) (mg : Str → Option Value) (x : Str) (st : Stmt) (ps : List Str) : Prop :=
  ∃ (f : Addr) (fd : FuncData), mg x = some (.ref f) ∧ Fun K x x st f fd ∧ Binds K fd ps []
def Cal (P : Program) (w : World) (K : PySem.W.Frag) (mg : Str → Option Value) (base : Heap) (k : Nat) (x : Str) (ps : List Str) (sp : Sp) : Prop :=
  ∃ (f : Addr) (fd : FuncData), mg x = some (.ref f) ∧ PySem.W.keepIn K (.ref f) = true ∧ Binds K fd ps [] ∧ FnG P w K mg base (L2.CX P w) k f fd ps sp
section
variable {P : Program} {w : World} {K : PySem.W.Frag} {mg : Str → Option Value} {base : Heap} {k : Nat} {x : Str} {ps N : List Str} {sp : Sp} {st : Stmt}
theorem Cal.mono {j : Nat} (c : Cal P w K mg base j x ps sp) (h : j ≤ k) : Cal P w K mg base k x ps sp := by
  obtain ⟨f, fd, a, b, d, F⟩ := c
  exact ⟨f, fd, a, b, d, F.mono h⟩
theorem Cal.imp {sp' : Sp} (c : Cal P w K mg base k x ps sp) (h : ∀ vs H Q E, sp' vs H Q E → sp vs H Q E) : Cal P w K mg base k x ps sp' := by
  obtain ⟨f, fd, a, b, d, F⟩ := c
  exact ⟨f, fd, a, b, d, F.imp h⟩
theorem DefAt.cal (D : DefAt K mg x st ps) (S : FnScope N ps (defScope st)) (len : ∀ vs H Q E, sp vs H Q E → vs.length = ps.length)
    (hbody : ∀ (f : Addr) (cdv : Value) (A : Around) (outer : List Env) (s : Shared) (H : Hp) (vs : List V) (Q : VK) (E : XK), RoomG k (A.deeper (envOfC x (defScope st) s.heap.objs.size f cdv)) → sp vs H Q E →
      ∃ t, PSs (cxOf (L2.CX P w) P w K mg base N x (defScope st) f cdv A outer s H E) (defBody st) t ∧ t { nx := fun _ H' => Q .non H', rt := Q } (start N vs) H) : Cal P w K mg base (k + 1) x ps sp := by
  obtain ⟨f, fd, a, F, b⟩ := D
  exact ⟨f, fd, a, F.kp, b, fnG_of F S len fun cdv A outer s H vs Q E hr h => hbody f cdv A outer s H vs Q E hr h⟩
theorem mk_def {h : Heap} {f : Addr} {oc : Value} {od an : Option Addr} {osl : Array (Option Value)} {kV doc pm cdv ct : Value} (X : K.In h) (G : h.Ns mainGlobals mg)
    (a : PySem.W.nsIn K mainGlobals x = some (some (.ref f))) (l : K.lookup f = some ⟨oc, od, .func (PySem.W.fnOf x x (defArgs st) (defBody st) (defScope st) .none kV doc pm an cdv ct), osl⟩) (c : PySem.W.codeIn K cdv x = true) (k : PySem.W.keepIn K (.ref f) = true)
    (b : ∀ (kV doc pm : Value) (an : Option Addr) (cdv ct : Value) (us : List Value), us.length = ps.length → bindArgs (PySem.W.fnOf x x (defArgs st) (defBody st) (defScope st) .none kV doc pm an cdv ct) ⟨us, []⟩ = pure (ps.zip us)) : DefAt K mg x st ps :=
  ⟨f, _, PySem.W.mg_of X G a, fun_mk l c k, (fun_mk l c k).binds b⟩
end
section
variable {X : Cx} {k : Nat} {x : Str} {ps : List Str} {sp : Sp} {p pos : Pos} {e : Expr} {es : List Expr} {t : TA} {W : WX}
/-- f(e, ..): what is raised goes where W says -/
theorem pcE (tk : Takes X W) (c : Cal X.prog X.w X.K X.mg X.base k x ps sp) (hr : RoomG k X.A) (hg : Gl X x) (ha : PA X (e :: es) t) (hdb : (x == ("__debug__" : Str)) = false := by decide) (he : starEach (e :: es) X.env = (false, eval e X.env) :: starEach es X.env := by rfl)
    (hpl : (backTo pos (starEach es X.env)).any (·.1) = false := by rfl) : PE X (.Call (.Name x p) (e :: es) [] pos) (tCallS sp (WE W) t) := by
  obtain ⟨f, fd, hm, hk, hb, F⟩ := c
  refine ⟨fun pins s σ H Q I h => wpAny_Call_Name_kw (ld_glob I hg hm ?_ hdb)⟩
  refine PySem.W.callWith_K (h₀ := X.base) I.ok.mod.kin hk (thn (ha.run pos pins s σ H _ I h) fun us s1 ⟨vs, H1, I1, r, q⟩ => ⟨I1.kIn, ?_⟩) he hpl
  exact runG F hr hb (fun e s' z => passAt tk σ pins H1 s1 e s' I1 z) I1 r q
/-- f(e, ..): nothing that is raised is let out -/
theorem pc (c : Cal X.prog X.w X.K X.mg X.base k x ps sp) (hr : RoomG k X.A) (hg : Gl X x) (ha : PA X (e :: es) t) (hdb : (x == ("__debug__" : Str)) = false := by decide) (he : starEach (e :: es) X.env = (false, eval e X.env) :: starEach es X.env := by rfl)
    (hpl : (backTo pos (starEach es X.env)).any (·.1) = false := by rfl) : PE X (.Call (.Name x p) (e :: es) [] pos) (fun σ H Q => t σ H fun vs H1 => sp vs H1 Q E0) := by
  obtain ⟨f, fd, hm, hk, hb, F⟩ := c
  refine ⟨fun pins s σ H Q I h => wpAny_Call_Name_kw (ld_glob I hg hm ?_ hdb)⟩
  refine PySem.W.callWith_K (h₀ := X.base) I.ok.mod.kin hk (thn (ha.run pos pins s σ H _ I h) fun us s1 ⟨vs, H1, I1, r, q⟩ => ⟨I1.kIn, ?_⟩) he hpl
  exact runG F hr hb (fun e s' z => passL pins σ H1 s1 e s' I1 z) I1 r q
theorem pc0 (c : Cal X.prog X.w X.K X.mg X.base k x [] sp) (hr : RoomG k X.A) (hg : Gl X x) (hdb : (x == ("__debug__" : Str)) = false := by decide) : PE X (.Call (.Name x p) [] [] pos) (fun _ H Q => sp [] H Q E0) := by
  obtain ⟨f, fd, hm, hk, hb, F⟩ := c
  refine ⟨fun pins s σ H Q I h => wpAny_Call_Name_kw (ld_glob I hg hm ?_ hdb)⟩
  exact PySem.W.callWith_K0 I.kIn hk (runG (us := []) F hr hb (fun e s' z => passL pins σ H s e s' I z) I .nil h)
end
theorem hug {k : Nat} {A : Around} (hr : RoomG k A) : A.units + 1 < cLine := hu_of hr.toRoom
/-- an own error class over ValueError, without an __init__ -/
structure ExcAt (K : PySem.W.Frag) (mg : Str → Option Value) (x : Str) (C : Addr) : Prop where
  g : mg x = some (.ref C)
  k : PySem.W.keepIn K (.ref C) = true
  b : PySem.W.subIn K (.ref C) (.type "BaseException") = some true
  t : PySem.W.typeIn K (.ref C) = some (.type "type")
  x : PySem.W.excIn K C [.type "ValueError", .type "Exception", .type "BaseException", .type "object"] "ValueError.__new__" = true
theorem b_str : bootBuiltins "str" = some (.type "str") := by decide +kernel
theorem b_tuple : bootBuiltins "tuple" = some (.type "tuple") := by decide +kernel
theorem b_dict : bootBuiltins "dict" = some (.type "dict") := by decide +kernel
theorem b_list : bootBuiltins "list" = some (.type "list") := by decide +kernel
/-- isinstance(e, T), T a built-in class -/
theorem pe_isi {X : Cx} {p p2 pos : Pos} {e : Expr} {te : TE} {n : String} {c : Str} (hm : X.mg "isinstance" = none) (hmc : X.mg c = none) (hv : bootBuiltins c = some (.type n)) (hg : Gl X "isinstance") (hgc : Gl X c) (he : PE X e te) (hn : c ≠ "__name__" := by decide)
    (hdb : (c == ("__debug__" : Str)) = false := by decide) (hst2 : starEach [e, .Name c p2] X.env = (false, eval e X.env) :: starEach [.Name c p2] X.env := by rfl) (hpl : (backTo pos (starEach [.Name c p2] X.env)).any (·.1) = false := by rfl) (hs3 : starEach [.Name c p2] X.env = (false, eval (.Name c p2) X.env) :: starEach [] X.env := by rfl) :
    PE X (.Call (.Name "isinstance" p) [e, .Name c p2] [] pos) (fun σ H Q => te σ H fun v H1 => rIsi X.K [v, .ty n] H1 Q) :=
  pe_callB call_isi hg hm (by decide +kernel) (pa_cons he (pa_cons (pe_bltn (v := .ty n) hgc hmc hv rfl hn hdb) pa_nil hs3) hst2) (by decide) (by decide) hst2 hpl
theorem isi_q {K : PySem.W.Frag} {H : Hp} {v : V} {t : Value} {n : String} {b : Bool} {Q : VK} (ty : TyX K H v t) (e : PySem.W.kitOne K t (.type n) = some b) (q : Q (.bl b) H) : rIsi K [v, .ty n] H Q := ⟨v, .ty n, t, _, b, rfl, .ty n, ty, e, q⟩
def Tg.isS : Tg → Bool
  | .str _ => true
  | _ => false
def Tg.isTu : Tg → Bool
  | .tup _ => true
  | _ => false
theorem isi_str {K : PySem.W.Frag} {H : Hp} {v : V} {t : Tg} {Q : VK} (h : Th K H v t) (q : Q (.bl t.isS) H) : rIsi K [v, .ty "str"] H Q := by
  cases h with
  | str x hx => exact isi_q (b := true) (.base (.str x)) (kit_ty (by decide +kernel)) q
  | oth ty a b => exact isi_q ty a q
  | tup h r => exact isi_q (b := false) (SqT.ty h) (kit_ty (by decide +kernel)) q
theorem isi_tup {K : PySem.W.Frag} {H : Hp} {v : V} {t : Tg} {Q : VK} (h : Th K H v t) (q : Q (.bl t.isTu) H) : rIsi K [v, .ty "tuple"] H Q := by
  cases h with
  | str x hx => exact isi_q (b := false) (.base (.str x)) (kit_ty (by decide +kernel)) q
  | oth ty a b => exact isi_q ty b q
  | tup h r => exact isi_q (b := true) (SqT.ty h) (kit_ty (by decide +kernel)) q
end N

namespace N
open PySem PySem.Spec PyProof.Rows L2
/-! ### kinds -/
inductive Kd where
  | L (c : Str) | C0 (n : Str) | C1 (n : Str) (a : Kd) | C2 (n : Str) (a b : Kd)
  deriving DecidableEq
namespace Kd
def args : Kd → List Kd
  | L _ => []
  | C0 _ => []
  | C1 _ a => [a]
  | C2 _ a b => [a, b]
def nm : Kd → Str
  | L c => c
  | C0 n => n
  | C1 n _ => n
  | C2 n _ _ => n
def isC : Kd → Bool
  | L _ => false
  | _ => true
def tg : Kd → Tg
  | L c => .str c
  | C0 n => .tup [.str n]
  | C1 n a => .tup [.str n, a.tg]
  | C2 n a b => .tup [.str n, a.tg, b.tg]
def ok : Kd → Prop
  | L c => isLet c = true
  | C0 n => isNam n = true
  | C1 n a => isNam n = true ∧ a.ok
  | C2 n a b => isNam n = true ∧ a.ok ∧ b.ok
def parts : Kd → List Kd
  | L c => [L c]
  | C0 n => [C0 n]
  | C1 n a => C1 n a :: a.parts
  | C2 n a b => C2 n a b :: (a.parts ++ b.parts)
def size : Kd → Nat
  | L _ => 0
  | C0 _ => 1
  | C1 _ a => 1 + a.size
  | C2 _ a b => 1 + a.size + b.size
def depth : Kd → Nat
  | L _ => 0
  | C0 _ => 1
  | C1 _ a => 1 + a.depth
  | C2 _ a b => 1 + max a.depth b.depth
/-- how many letters and names -/
def nds : Kd → Nat
  | L _ => 1
  | C0 _ => 1
  | C1 _ a => 1 + a.nds
  | C2 _ a b => 1 + a.nds + b.nds
theorem parts_eq (k : Kd) : k.parts = k :: k.args.flatMap parts := by
  cases k <;> simp [parts, args]
theorem tg_C {k : Kd} (h : k.isC = true) : k.tg = .tup (.str k.nm :: k.args.map tg) := by
  cases k <;> first | (cases h; done) | rfl
theorem tg_L {k : Kd} (h : k.isC = false) : k = L k.nm ∧ k.tg = .str k.nm := by
  cases k <;> first | (cases h; done) | exact ⟨rfl, rfl⟩
theorem isTu_tg (k : Kd) : k.tg.isTu = k.isC := by cases k <;> rfl
theorem isS_tg (k : Kd) : k.tg.isS = !k.isC := by cases k <;> rfl
theorem nds_parts (k : Kd) : k.parts.length = k.nds := by
  induction k with
  | L c => rfl
  | C0 n => rfl
  | C1 n a ih => simp [parts, nds, ih]; omega
  | C2 n a b ih1 ih2 => simp [parts, nds, ih1, ih2]; omega
theorem nds_pos (k : Kd) : 1 ≤ k.nds := by cases k <;> simp [nds] <;> omega
theorem nodes_tg (k : Kd) : k.tg.nodes ≤ 3 * k.nds := by
  induction k with
  | L c => simp [tg, nds, Tg.nodes]
  | C0 n => simp [tg, nds, Tg.nodes, nodesAll]
  | C1 n a ih => simp only [tg, nds, Tg.nodes, nodesAll]; omega
  | C2 n a b ih1 ih2 => simp only [tg, nds, Tg.nodes, nodesAll]; omega
theorem args_ok {k : Kd} (h : k.ok) : ∀ a ∈ k.args, a.ok := by
  cases k <;> simp only [args, ok] at * <;> simp_all
theorem isT_tg : ∀ {k : Kd}, k.ok → isT k.tg = true
  | L c, h => by
    show isT (.str c) = true
    simp only [isT]
    exact h
  | C0 n, h => by simp [tg, isT, isTAll, Tg.isNm, show isNam n = true from h]
  | C1 n a, h => by simp [tg, isT, isTAll, Tg.isNm, show isNam n = true from h.1, isT_tg h.2]
  | C2 n a b, h => by simp [tg, isT, isTAll, Tg.isNm, show isNam n = true from h.1, isT_tg h.2.1, isT_tg h.2.2]
theorem args_nds (k : Kd) : (k.args.map nds).sum + 1 ≤ k.nds := by
  cases k <;> simp [args, nds] <;> omega
theorem args_len (k : Kd) : k.args.length ≤ 2 := by cases k <;> simp [args]
end Kd
mutual
theorem of_isT : ∀ {t : Tg}, isT t = true → ∃ k : Kd, k.ok ∧ t = k.tg
  | .str x, h => ⟨.L x, by simpa [isT, Kd.ok] using h, rfl⟩
  | .oth, h => by simp [isT] at h
  | .tup [], h => by simp [isT] at h
  | .tup (n :: ts), h => by
    simp only [isT, Bool.and_eq_true, decide_eq_true_eq] at h
    obtain ⟨⟨h1, h2⟩, h3⟩ := h
    obtain ⟨ks, e, hk⟩ := of_isTAll h3
    match n, h2 with
    | .str x, h2 =>
      have h2' : isNam x = true := h2
      match ks, e with
      | [], e => exact ⟨.C0 x, h2', by rw [e]; rfl⟩
      | [a], e => exact ⟨.C1 x a, ⟨h2', hk a (by simp)⟩, by rw [e]; rfl⟩
      | [a, b], e => exact ⟨.C2 x a b, ⟨h2', hk a (by simp), hk b (by simp)⟩, by rw [e]; rfl⟩
      | a :: b :: c :: r, e => rw [e] at h1; simp at h1
theorem of_isTAll : ∀ {ts : List Tg}, isTAll ts = true → ∃ ks : List Kd, ts = ks.map Kd.tg ∧ ∀ k ∈ ks, k.ok
  | [], _ => ⟨[], rfl, fun k h => by cases h⟩
  | t :: ts, h => by
    simp only [isTAll, Bool.and_eq_true] at h
    obtain ⟨k, hk, e⟩ := of_isT h.1
    obtain ⟨ks, e2, hks⟩ := of_isTAll h.2
    exact ⟨k :: ks, by rw [e, e2]; rfl, fun z hz => by
      rcases List.mem_cons.mp hz with rfl | hz
      · exact hk
      · exact hks z hz⟩
end
/-- at v stands a kind; in vs kinds -/
abbrev Kp (K : PySem.W.Frag) (H : Hp) (v : V) (k : Kd) : Prop := Th K H v k.tg
abbrev Kps (K : PySem.W.Frag) (H : Hp) (vs : List V) (ks : List Kd) : Prop := ThAll K H vs (ks.map Kd.tg)
section
variable {K : PySem.W.Frag} {H : Hp}
theorem Kps.snoc {vs : List V} {ks : List Kd} (h : Kps K H vs ks) (hn : ks ≠ []) : ∃ v vs' k ks', vs = vs' ++ [v] ∧ ks = ks' ++ [k] ∧ Kp K H v k ∧ Kps K H vs' ks' := by
  obtain ⟨v, vs', t, ts', e1, e2, h1, h2⟩ := ThAll.snoc h (by simpa using hn)
  obtain ⟨ks', k, rfl⟩ : ∃ ks' k, ks = ks' ++ [k] := ⟨ks.dropLast, ks.getLast hn, (List.dropLast_concat_getLast hn).symm⟩
  rw [List.map_append, List.map_singleton] at e2
  obtain ⟨e3, e4⟩ := List.append_inj' e2 rfl
  cases e4
  exact ⟨v, vs', k, ks', e1, rfl, h1, by rw [← e3] at h2; exact h2⟩
theorem kp_L {v : V} {k : Kd} (h : Kp K H v k) (c : k.isC = false) : v = .str k.nm ∧ k.nm.length ≤ 100000 := by
  obtain ⟨_, e⟩ := Kd.tg_L c
  have h' : Th K H v (.str k.nm) := by rw [← e]; exact h
  cases h' with
  | str x hx => exact ⟨rfl, hx⟩
theorem kp_C {v : V} {k : Kd} (h : Kp K H v k) (c : k.isC = true) : ∃ (a : Addr) (xs : List V), v = .ref a ∧ SqT K H a (.str k.nm :: xs) ∧ k.nm.length ≤ 100000 ∧ Kps K H xs k.args := by
  have h' : Th K H v (.tup (.str k.nm :: k.args.map Kd.tg)) := by rw [← Kd.tg_C c]; exact h
  cases h' with
  | @tup a xs ts h r =>
    cases r with
    | @cons y ys n ts hy r =>
      cases hy with
      | str x hx => exact ⟨a, ys, rfl, h, hx, r⟩
theorem kp_mk {a : Addr} {k : Kd} {xs : List V} (c : k.isC = true) (h : SqT K H a (.str k.nm :: xs)) (hx : k.nm.length ≤ 100000) (r : Kps K H xs k.args) : Kp K H (.ref a) k := by
  show Th K H (.ref a) k.tg
  rw [Kd.tg_C c]
  exact .tup h (.cons (.str _ hx) r)
theorem ThAll.rev {vs : List V} {ts : List Tg} (h : ThAll K H vs ts) : ThAll K H vs.reverse ts.reverse := by
  induction vs generalizing ts with
  | nil => cases h; exact .nil
  | cons v vs ih =>
    cases h with
    | cons h r =>
      rw [List.reverse_cons, List.reverse_cons]
      exact (ih r).app (.cons h .nil)
theorem Kps.rev {vs : List V} {ks : List Kd} (h : Kps K H vs ks) : Kps K H vs.reverse ks.reverse := by
  have := ThAll.rev h
  rw [← List.map_reverse] at this
  exact this
theorem Kps.app {vs ws : List V} {ks js : List Kd} (h : Kps K H vs ks) (h2 : Kps K H ws js) : Kps K H (vs ++ ws) (ks ++ js) := by
  have := ThAll.app h h2
  rw [← List.map_append] at this
  exact this
theorem Kps.length {vs : List V} {ks : List Kd} (h : Kps K H vs ks) : vs.length = ks.length := by
  have := ThAll.length h
  rw [List.length_map] at this
  exact this
end
end N

namespace N
open PySem PySem.Spec PyProof.Rows L2
/-! ### the end of a law over such promises -/
section
variable {P : Program} {w : World} {K : PySem.W.Frag} {mg mb : Str → Option Value} {CX : CXT} {k : Nat} {fa a : Addr} {fd : FuncData} {x : Str} {sp : Sp} {s₁ : Shared} {vs : List Value} {ns : List Int}
/-- the law is run where at most the script is tracked -/
theorem run_law (H : Hp) (KX : K.In s₁.heap) (hns : s₁.heap.Ns mainGlobals mg) (hb : s₁.heap.Ns builtinsNs mb) (hbb : ∀ x : Str, x ≠ "__name__" → mb x = bootBuiltins x) (hlim : s₁.heap.NoLimit) (hg : s₁.gens = #[])
    (ha : s₁.heap.get? a = some { cls := .type "list", data := .seq vs.toArray }) (hr : Room k callerA) (F : ∀ base : Heap, K.In base → base.Ns mainGlobals mg → FnG P w K mg base CX k fa fd [x] sp) (hbind : ∀ (s : Shared) (u : Value), BindsTo s fd ⟨[u], []⟩ [(x, u)])
    (hsp : sp [.ref a] H (fun v _ => v = .bl true) fun _ _ _ => False) (hCX : ∀ e s', CX [] H s₁ (fun _ _ _ => False) e s' → False) (hO : Only H) (hok : HOk P w H s₁.heap) (hA : ∀ b, H b ≠ none → b = a) (hK : H a ≠ none → K.lookup a = none) :
    codeAny (model P w) callerA (.call (.ref fa) ⟨[.ref a], []⟩) (fun r s' => r = .ok (.ret (.bool true)) ∧ OldK s₁.heap s'.heap ∧ s'.os = s₁.os ∧ AllBare s'.gens) s₁ := by
  have free : ∀ {b : Addr}, b ≠ a → H b = none := fun {b} n => by
    cases q : H b with
    | none => rfl
    | some u => exact absurd (hA b (by rw [q]; exact fun z => by cases z)) n
  have nsK : ∀ {b : Addr} {m : Str → Option Value}, s₁.heap.Ns b m → (hidT s₁.heap H).Ns b m := fun {b m} ⟨o, es, ep, e, d, r⟩ => by
    have nb : b ≠ a := fun z => by
      subst z
      rw [ha] at e
      cases e
      have d' : Data.seq vs.toArray _ = Data.dict es ep := d
      cases d'
    exact ⟨o, es, ep, hidT_get e (free nb), d, r⟩
  have hKb : K.In (hidT s₁.heap H) := fun b o e => hidT_get (KX b o e) (by
    by_cases nb : b = a
    · subst nb
      cases q : H b with
      | none => rfl
      | some u =>
        have := hK (by rw [q]; exact fun z => by cases z)
        rw [this] at e
        cases e
    · exact free nb)
  have hM : Mod K mg (hidT s₁.heap H) := ⟨hKb, nsK hns, ⟨mb, nsK hb, hbb⟩, let ⟨mc, h1, h2⟩ := hlim; ⟨mc, nsK h1, h2⟩⟩
  have e0 : Env0 P w K mg (hidT s₁.heap H) callerA [] s₁ H := ⟨rfl, hM, fun b o e => of_hidT e, Nat.le_of_eq (hidT_size _ _), trivial, fun b hb => absurd (show b ∈ ([] : List Addr) from hb) (by simp), hok, .of_eq hg⟩
  have go := (F _ hKb (nsK hns)).run callerA [] s₁ H ⟨[.ref a], []⟩ [.ref a] [.ref a] (fun v _ => v = .bl true) (fun _ _ _ => False) (roomG_caller hr) e0 (hbind s₁ (.ref a)) (.cons rfl .nil) hsp
  refine codeAny_mono go fun r s' h => ?_
  match r, h with
  | .error e, h => exact (hCX e s' h).elim
  | .ok .next, h => exact False.elim h
  | .ok .brk, h => exact False.elim h
  | .ok .cont, h => exact False.elim h
  | .ok (.ret u), h =>
    obtain ⟨v, H', os, bare, un, hok', r', q⟩ := h
    have q' : v = .bl true := q
    subst q'
    obtain rfl : u = Value.bool true := r'
    refine ⟨rfl, OldK.of_keep fun b o e => ?_, os, bare⟩
    cases q : H b with
    | none => exact un.keep b o e q (by intro z; exact absurd (show b ∈ ([] : List Addr) from z) (by simp)) (by simp)
    | some u =>
      rcases hO b with z | ⟨ob, xs, z⟩
      · rw [q] at z; cases z
      · have e1 := (hok b _ z).1
        have e2 := (hok' b _ (un.frzs b ob _ z)).1
        rw [e] at e1
        cases e1
        exact e2
end
theorem walkG {l : PySem.W.OpenLaw} {n k : Nat} {q : Program} {loose : List Str} {XP : (Str → Option Value) → Heap → Prop} {YP : World → Heap → Prop} {d : DefRec} {K : Params → PySem.W.Frag} {CX : World → CXT} {sp : World → Sp} {x : Str}
    (hn : l.most = some n) (hn2 : n ≤ sizeLine) (hdf : d.params.defaults = []) (hr : Room k callerA) (hY : ∀ (w : World) (h : Heap), YP w h → (K w.params).In h)
    (F : ∀ (w : World) (mg : Str → Option Value) (fa : Addr) (h : Heap), (K w.params).In h → h.Ns mainGlobals mg → mg d.name = some (.ref fa) →
      ∃ fd : FuncData, (∀ (s : Shared) (u : Value), BindsTo s fd ⟨[u], []⟩ [(x, u)]) ∧ ∀ base : Heap, (K w.params).In base → base.Ns mainGlobals mg → FnG l.prog w (K w.params) mg base (CX w) k fa fd [x] (sp w))
    (hsp : ∀ (w : World) (H : Hp) (a : Addr) (ns : List Int), ns.length ≤ n → Only H → SqL (K w.params) H a (ns.map V.int) → sp w [.ref a] H (fun v _ => v = .bl true) fun _ _ _ => False)
    (hCX : ∀ (w : World) (H : Hp) (s : Shared) (e : Value) (s' : Shared), CX w [] H s (fun _ _ _ => False) e s' → False) : PySem.W.WalkO q loose XP YP l.row.toRowW d [] (fun f vs => PySem.call f vs) := by
  refine Att.attach_call hn hdf fun w s₀ s₁ mg mb fa o pm cd doc a vs ns G Y ho hd hcd hmg ha hi hlen hg => ?_
  have KX := hY w _ Y
  obtain ⟨fd, hb, hF⟩ := F w mg fa _ KX G.T.g hmg
  have rv := vals_ints hi
  have lenV := hi.length
  have hl : ns.length ≤ sizeLine := Nat.le_trans hlen hn2
  have one := fun (H : Hp) (hO : Only H) (hS : SqL (K w.params) H a (ns.map V.int)) => run_law H KX G.T.g G.T.b G.T.builtins G.T.nolimit hg ha hr hF hb (hsp w H a ns hlen hO hS) (fun e s' => hCX w H s₁ e s') hO
  cases hk : (K w.params).lookup a with
  | some o' =>
    have e := KX a o' hk
    rw [ha] at e
    cases e
    refine one (fun _ => none) (fun _ => .inl rfl) (.inr ⟨_, vs.toArray, _, hk, rfl, rfl, rfl, by rw [List.size_toArray, lenV]; exact hl, by simpa using rv⟩) (fun b u z => ?_) (fun b z => absurd rfl z) fun z => absurd rfl z
    have z' : (none : Option HO) = some u := z
    cases z'
  | none =>
    have ya : ∀ {b : Addr} {u : HO}, (if b = a then some (HO.frz { cls := .type "list", data := .seq vs.toArray } (.lst (ns.map V.int))) else none) = some u → b = a ∧ u = .frz { cls := .type "list", data := .seq vs.toArray } (.lst (ns.map V.int)) := fun {b u} z => by
      by_cases hb : b = a
      · rw [if_pos hb] at z
        exact ⟨hb, (Option.some.inj z).symm⟩
      · rw [if_neg hb] at z
        cases z
    refine one (fun b => if b = a then some (.frz { cls := .type "list", data := .seq vs.toArray } (.lst (ns.map V.int))) else none) (fun b => ?_) (.inl (.inr ⟨{ cls := .type "list", data := .seq vs.toArray }, if_pos rfl⟩)) (fun b u z => ?_) (fun b z => ?_) fun _ => hk
    · by_cases hb : b = a
      · exact .inr ⟨_, _, if_pos hb⟩
      · exact .inl (if_neg hb)
    · obtain ⟨e1, e2⟩ := ya z
      subst e1 e2
      exact ⟨ha, by rw [List.length_map]; exact hl, vs, _, rv, ha⟩
    · by_cases hb : b = a
      · exact hb
      · exact absurd (if_neg hb) z
end N

namespace N
open PySem PySem.Spec PyProof.Rows L2
/-! ### repr of data -/
/-- repr(x), x a list or a tuple of data without dicts -/
def rRepr (K : PySem.W.Frag) : List V → Hp → VK → Prop := fun xs H Q => ∃ (a : Addr) (d : PyData), xs = [V.ref a] ∧ Dp K H (.ref a) d ∧ d.showable = true ∧ d.hasDict = false ∧ d.depth ≤ 60 ∧ d.shown.length ≤ sizeLine ∧ Q (.str d.shown) H
theorem call_repr {X : Cx} {k : Nat} (hr : RoomG k X.A) : CallR X (.builtin "repr") (rRepr X.K) := by
  intro pins s σ H xs us Q I r h
  obtain ⟨a, d, rfl, hd, hs, hn, hdp, hz, q⟩ := h
  obtain ⟨u, rfl, ru⟩ := vals1 r
  cases (show u = Value.ref a from ru)
  obtain ⟨as, rd⟩ := Dp.reads I d _ _ hd rfl
  have hun := hr.toRoom.units
  exact repr_of_reads' rd hs (PyData.noDict_hsm hn) hr.gs (by omega) (fun b o e => e) (fun h' u tk hk => ⟨.str d.shown, H, I.kept (t' := tk) hk, ⟨_, rfl⟩, q⟩) hz
end N

namespace N
open PySem PySem.Spec PyProof.Rows L2
namespace Kd
theorem size_parts (k : Kd) : k.size = (k.parts.filter isC).length := by
  induction k with
  | L c => rfl
  | C0 n => rfl
  | C1 n a ih =>
    show 1 + a.size = ((C1 n a :: a.parts).filter isC).length
    rw [List.filter_cons_of_pos (by rfl), List.length_cons, ih]
    omega
  | C2 n a b ih1 ih2 =>
    show 1 + a.size + b.size = ((C2 n a b :: (a.parts ++ b.parts)).filter isC).length
    rw [List.filter_cons_of_pos (by rfl), List.length_cons, List.filter_append, List.length_append, ih1, ih2]
    omega
theorem nds_le (k : Kd) : k.nds ≤ k.tg.nodes := by
  induction k with
  | L c => simp [tg, nds, Tg.nodes]
  | C0 n => simp [tg, nds, Tg.nodes, nodesAll]
  | C1 n a ih => simp only [tg, nds, Tg.nodes, nodesAll]; omega
  | C2 n a b ih1 ih2 => simp only [tg, nds, Tg.nodes, nodesAll]; omega
end Kd
section
variable {K : PySem.W.Frag}
theorem Kps.at {H : Hp} : ∀ {vs : List V} {ks : List Kd} {i : Nat} {x : V}, Kps K H vs ks → vs[i]? = some x → ∃ k, ks[i]? = some k ∧ Kp K H x k
  | _, [], i, x, .nil, h => by simp at h
  | _, k :: ks, 0, x, .cons r _, h => by
    simp at h
    subst h
    exact ⟨k, rfl, r⟩
  | _, k :: ks, i + 1, x, .cons _ t, h => by
    obtain ⟨k', e, r⟩ := Kps.at (ks := ks) (i := i) (x := x) t (by simpa using h)
    exact ⟨k', by simpa using e, r⟩
theorem take_snoc {α : Type} {l : List α} {i : Nat} {x : α} (h : l[i]? = some x) : l.take (i + 1) = l.take i ++ [x] := by rw [List.take_add_one, h]; rfl
end
end N

namespace N
open PySem PySem.Spec PyProof.Rows L2
def topS (i : Nat) : Stmt := PySem.Challenge.pw_endlesskinds_k03_texts_of_kinds.main.body.getD i (.Pass ⟨0, 0, 0, 0⟩)
abbrev s_is_letter : Stmt := topS 23
abbrev nm_is_letter : List Str := ["thing"]
theorem sc_is_letter : FnScope nm_is_letter ["thing"] (defScope s_is_letter) := ⟨rfl, rfl, rfl, by decide +kernel, rfl, by decide +kernel, by decide +kernel⟩
abbrev s_is_name : Stmt := topS 24
abbrev nm_is_name : List Str := ["thing"]
theorem sc_is_name : FnScope nm_is_name ["thing"] (defScope s_is_name) := ⟨rfl, rfl, rfl, by decide +kernel, rfl, by decide +kernel, by decide +kernel⟩
abbrev s_begins_class_type : Stmt := topS 25
abbrev nm_begins_class_type : List Str := ["thing"]
theorem sc_begins_class_type : FnScope nm_begins_class_type ["thing"] (defScope s_begins_class_type) := ⟨rfl, rfl, rfl, by decide +kernel, rfl, by decide +kernel, by decide +kernel⟩
abbrev s_is_type : Stmt := topS 26
abbrev nm_is_type : List Str := ["thing", "rest", "part"]
theorem sc_is_type : FnScope nm_is_type ["thing"] (defScope s_is_type) := ⟨rfl, rfl, rfl, by decide +kernel, rfl, by decide +kernel, by decide +kernel⟩
abbrev s_check_type : Stmt := topS 27
abbrev nm_check_type : List Str := ["thing"]
theorem sc_check_type : FnScope nm_check_type ["thing"] (defScope s_check_type) := ⟨rfl, rfl, rfl, by decide +kernel, rfl, by decide +kernel, by decide +kernel⟩
abbrev s_written : Stmt := topS 28
abbrev nm_written : List Str := ["kind", "row", "before", "argument"]
theorem sc_written : FnScope nm_written ["kind"] (defScope s_written) := ⟨rfl, rfl, rfl, by decide +kernel, rfl, by decide +kernel, by decide +kernel⟩
abbrev s_text_of : Stmt := topS 29
abbrev nm_text_of : List Str := ["kind", "pieces", "rest", "part"]
theorem sc_text_of : FnScope nm_text_of ["kind"] (defScope s_text_of) := ⟨rfl, rfl, rfl, by decide +kernel, rfl, by decide +kernel, by decide +kernel⟩
abbrev s_text : Stmt := topS 30
abbrev nm_text : List Str := ["kind"]
theorem sc_text : FnScope nm_text ["kind"] (defScope s_text) := ⟨rfl, rfl, rfl, by decide +kernel, rfl, by decide +kernel, by decide +kernel⟩
abbrev s_word_at : Stmt := topS 31
abbrev nm_word_at : List Str := ["line", "at", "end"]
theorem sc_word_at : FnScope nm_word_at ["line", "at"] (defScope s_word_at) := ⟨rfl, rfl, rfl, by decide +kernel, rfl, by decide +kernel, by decide +kernel⟩
abbrev s_scan : Stmt := topS 32
abbrev nm_scan : List Str := ["line", "at", "begun", "word", "done"]
theorem sc_scan : FnScope nm_scan ["line", "at"] (defScope s_scan) := ⟨rfl, rfl, rfl, by decide +kernel, rfl, by decide +kernel, by decide +kernel⟩
abbrev s_read : Stmt := topS 33
abbrev nm_read : List Str := ["text", "kind", "end"]
theorem sc_read : FnScope nm_read ["text"] (defScope s_read) := ⟨rfl, rfl, rfl, by decide +kernel, rfl, by decide +kernel, by decide +kernel⟩
abbrev s_Lcell_at : Stmt := topS 35
abbrev nm_Lcell_at : List Str := ["_law_script", "_law_k"]
theorem sc_Lcell_at : FnScope nm_Lcell_at ["_law_script", "_law_k"] (defScope s_Lcell_at) := ⟨rfl, rfl, rfl, by decide +kernel, rfl, by decide +kernel, by decide +kernel⟩
abbrev s_Lpen : Stmt := topS 36
abbrev nm_Lpen : List Str := ["_law_cell"]
theorem sc_Lpen : FnScope nm_Lpen ["_law_cell"] (defScope s_Lpen) := ⟨rfl, rfl, rfl, by decide +kernel, rfl, by decide +kernel, by decide +kernel⟩
abbrev s_Ldraw : Stmt := topS 37
abbrev nm_Ldraw : List Str := ["_law_pen_here", "_law_many", "_law_found", "_law_mixed"]
theorem sc_Ldraw : FnScope nm_Ldraw ["_law_pen_here", "_law_many"] (defScope s_Ldraw) := ⟨rfl, rfl, rfl, by decide +kernel, rfl, by decide +kernel, by decide +kernel⟩
abbrev s_Lsame : Stmt := topS 38
abbrev nm_Lsame : List Str := ["_law_found", "_law_due_here"]
theorem sc_Lsame : FnScope nm_Lsame ["_law_found", "_law_due_here"] (defScope s_Lsame) := ⟨rfl, rfl, rfl, by decide +kernel, rfl, by decide +kernel, by decide +kernel⟩
abbrev s_Lpick : Stmt := topS 39
abbrev nm_Lpick : List Str := ["_law_pen_here", "_law_some"]
theorem sc_Lpick : FnScope nm_Lpick ["_law_pen_here", "_law_some"] (defScope s_Lpick) := ⟨rfl, rfl, rfl, by decide +kernel, rfl, by decide +kernel, by decide +kernel⟩
abbrev s_Lword : Stmt := topS 40
abbrev nm_Lword : List Str := ["_law_e", "_law_marks", "_law_names"]
theorem sc_Lword : FnScope nm_Lword ["_law_e"] (defScope s_Lword) := ⟨rfl, rfl, rfl, by decide +kernel, rfl, by decide +kernel, by decide +kernel⟩
abbrev s_Lsaid : Stmt := topS 41
abbrev nm_Lsaid : List Str := ["_law_call", "_law_e", "_law_found"]
theorem sc_Lsaid : FnScope nm_Lsaid ["_law_call"] (defScope s_Lsaid) := ⟨rfl, rfl, rfl, by decide +kernel, rfl, by decide +kernel, by decide +kernel⟩
abbrev s_Ltext : Stmt := topS 42
abbrev nm_Ltext : List Str := ["_law_kind_here", "_law_inner", "_law_one"]
theorem sc_Ltext : FnScope nm_Ltext ["_law_kind_here"] (defScope s_Ltext) := ⟨rfl, rfl, rfl, by decide +kernel, rfl, by decide +kernel, by decide +kernel⟩
abbrev s_Lkind : Stmt := topS 43
abbrev nm_Lkind : List Str := ["_law_pen_here", "_law_letters", "_law_shapes", "_law_most", "_law_bare", "_law_name", "_law_count", "_law_some", "_law_shape", "_law_found", "_law_turn"]
theorem sc_Lkind : FnScope nm_Lkind ["_law_pen_here", "_law_letters", "_law_shapes", "_law_most"] (defScope s_Lkind) := ⟨rfl, rfl, rfl, by decide +kernel, rfl, by decide +kernel, by decide +kernel⟩
abbrev s_Lodd : Stmt := topS 44
abbrev nm_Lodd : List Str := ["_law_found"]
theorem sc_Lodd : FnScope nm_Lodd [] (defScope s_Lodd) := ⟨rfl, rfl, rfl, by decide +kernel, rfl, by decide +kernel, by decide +kernel⟩
abbrev s_Lis_kind : Stmt := topS 45
abbrev nm_Lis_kind : List Str := ["_law_thing", "_law_small", "_law_sign", "_law_one"]
theorem sc_Lis_kind : FnScope nm_Lis_kind ["_law_thing"] (defScope s_Lis_kind) := ⟨rfl, rfl, rfl, by decide +kernel, rfl, by decide +kernel, by decide +kernel⟩
abbrev s_Lread : Stmt := topS 46
abbrev nm_Lread : List Str := ["_law_words", "_law_many", "_law_at", "_law_found", "_law_rest", "_law_own"]
theorem sc_Lread : FnScope nm_Lread ["_law_words"] (defScope s_Lread) := ⟨rfl, rfl, rfl, by decide +kernel, rfl, by decide +kernel, by decide +kernel⟩
abbrev s_Ldue : Stmt := topS 47
abbrev nm_Ldue : List Str := ["_law_words", "_law_found", "_law_rest"]
theorem sc_Ldue : FnScope nm_Ldue ["_law_words"] (defScope s_Ldue) := ⟨rfl, rfl, rfl, by decide +kernel, rfl, by decide +kernel, by decide +kernel⟩
abbrev s_Lchanged : Stmt := topS 48
abbrev nm_Lchanged : List Str := ["_law_pen_here", "_law_words", "_law_at", "_law_sign", "_law_some"]
theorem sc_Lchanged : FnScope nm_Lchanged ["_law_pen_here", "_law_words"] (defScope s_Lchanged) := ⟨rfl, rfl, rfl, by decide +kernel, rfl, by decide +kernel, by decide +kernel⟩
abbrev s_Lis_right : Stmt := topS 49
abbrev nm_Lis_right : List Str := ["_law_words", "_law_turn"]
theorem sc_Lis_right : FnScope nm_Lis_right ["_law_words"] (defScope s_Lis_right) := ⟨rfl, rfl, rfl, by decide +kernel, rfl, by decide +kernel, by decide +kernel⟩
abbrev s_law : Stmt := topS 50
abbrev nm_law : List Str := ["_law_script", "_law_shapes", "_law_k", "_law_pen_here", "_law_turn", "_law_kind_here", "_law_words", "_law_lap", "_law_thing"]
theorem sc_law : FnScope nm_law ["_law_script"] (defScope s_law) := ⟨rfl, rfl, rfl, by decide +kernel, rfl, by decide +kernel, by decide +kernel⟩
/-- what the top holds besides its defs -/
structure Glo (mg : Str → Option Value) : Prop where
  isinstance : mg "isinstance" = none
  str : mg "str" = none
  tuple : mg "tuple" = none
  dict : mg "dict" = none
  list : mg "list" = none
  len : mg "len" = none
  all : mg "all" = none
  max : mg "max" = none
  min : mg "min" = none
  range : mg "range" = none
  repr : mg "repr" = none
  sum : mg "sum" = none
  LN : ∃ t, mg "LONGEST_NAME" = some (.int 8 t)
  MA : ∃ t, mg "MOST_ARGUMENTS" = some (.int 2 t)
end N

namespace N
open PySem PySem.Spec PyProof.Rows L2
section
variable {P : Program} {w : World} {K : PySem.W.Frag} {mg : Str → Option Value} {base : Heap}
theorem sz5 {n : Nat} (h : n ≤ 100000) : n ≤ sizeLine := Nat.le_trans h (by decide)
/-- one thing, nothing changed -/
def spTest (K : PySem.W.Frag) (g : Tg → Bool) : Sp := fun vs H Q _ => ∃ v t, vs = [v] ∧ Th K H v t ∧ Q (.bl (g t)) H
theorem ok_is_letter (G : Glo mg) (D : DefAt K mg "is_letter" s_is_letter ["thing"]) : Cal P w K mg base 1 "is_letter" ["thing"] (spTest K Tg.isL) := by
  refine D.cal sc_is_letter (fun vs H Q E h => ?_) (fun f cdv A outer s H vs Q E hr h => ?_)
  · obtain ⟨v, t, rfl, _⟩ := h
    rfl
  obtain ⟨v, t, rfl, hT, q⟩ := h
  refine ⟨_, pss_one (ps_ret (pe_and (pe_isi G.isinstance G.str b_str rfl rfl (pv 0))
    (pe_and (pe_cmpR op_eq (pe_callB call_len_str (by rfl) G.len PySem.boot_len (pa_cons (pv 0) pa_nil)) pe_int (nomark _))
    (pe_one (pe_chain op_le_str op_le_str pe_str (pv 0) pe_str))))), ?_⟩
  refine ⟨v, rfl, isi_str hT ?_⟩
  cases hT with
  | str x hx =>
    refine ⟨true, rfl, iteT ⟨_, rfl, x, rfl, sz5 hx, rfl, _, rfl, ?_⟩⟩
    have e : decide (V.int (x.length : Int) = V.int 1) = decide (x.length = 1) := by
      by_cases h : x.length = 1
      · rw [h]
        decide
      · rw [decide_eq_false h, decide_eq_false (fun z => h (by have := V.int.inj z; omega))]
    rw [e]
    refine ite2 (fun c => ?_) (fun c => ?_)
    · refine ⟨_, rfl, _, _, rfl, rfl, _, rfl, ?_⟩
      refine ite2 (fun c2 => ?_) (fun c2 => ?_)
      · refine ⟨_, _, rfl, rfl, ?_⟩
        have e2 : Tg.isL (.str x) = (!decide (("Z" : Str).cps.toList < x.cps.toList)) := by
          show isLet x = _
          unfold isLet
          rw [c, c2, Bool.true_and, Bool.true_and]
        rw [← e2]
        exact q
      · have e2 : Tg.isL (.str x) = false := by
          show isLet x = _
          unfold isLet
          rw [Bool.eq_false_iff.mpr c2, Bool.false_and, Bool.and_false]
        rw [e2] at q
        exact q
    · have e2 : Tg.isL (.str x) = false := by
        show isLet x = _
        unfold isLet
        rw [Bool.eq_false_iff.mpr c, Bool.false_and]
      rw [e2] at q
      exact q
  | oth ty a b => exact ⟨false, rfl, iteF q⟩
  | tup h r => exact ⟨false, rfl, iteF q⟩
end
end N

namespace N
open PySem PySem.Spec PyProof.Rows L2
section
variable {P : Program} {w : World} {K : PySem.W.Frag} {mg : Str → Option Value} {base : Heap}
theorem ok_is_name (G : Glo mg) (D : DefAt K mg "is_name" s_is_name ["thing"]) : Cal P w K mg base 1 "is_name" ["thing"] (spTest K Tg.isNm) := by
  obtain ⟨t8, h8⟩ := G.LN
  refine D.cal sc_is_name (fun vs H Q E h => ?_) (fun f cdv A outer s H vs Q E hr h => ?_)
  · obtain ⟨v, t, rfl, _⟩ := h
    rfl
  obtain ⟨v, t, rfl, hT, q⟩ := h
  refine ⟨_, pss_cons (ps_if (PW.pt (pw_or (pt_not (pt_val (pe_isi G.isinstance G.str b_str rfl rfl (pv 0))))
      (pw_or1 (pt_cmpR op_gt (pe_callB call_len_str (by rfl) G.len PySem.boot_len (pa_cons (pv 0) pa_nil)) (pe_glob (v := .int 8) rfl h8 ⟨_, rfl⟩) (nomark _)))))
      (pss_one (ps_ret pe_bl)) pss_nil)
    (pss_one (ps_ret (pe_and (pe_m0 PySem.F.slot_str_isascii PySem.F.type_str_isascii mt_isascii (pv 0))
      (pe_and (pe_m0 PySem.F.slot_str_isalpha PySem.F.type_str_isalpha mt_isalpha (pv 0)) (pe_one (pe_m0 PySem.F.slot_str_islower PySem.F.type_str_islower mt_islower (pv 0))))))), ?_⟩
  refine ⟨v, rfl, isi_str hT ?_⟩
  cases hT with
  | str x hx =>
    refine ⟨true, rfl, iteF ⟨_, rfl, x, rfl, sz5 hx, _, _, rfl, rfl, _, rfl, ?_⟩⟩
    refine ite2 (fun c => ?_) (fun c => ?_)
    · have c' : ((x.length : Nat) : Int) > 8 := of_decide_eq_true c
      have e2 : Tg.isNm (.str x) = false := by
        show isNam x = _
        unfold isNam
        rw [decide_eq_true (show 8 < x.length by omega)]
        rfl
      rw [e2] at q
      exact q
    · have c' : ¬ ((x.length : Nat) : Int) > 8 := of_decide_eq_false (Bool.eq_false_iff.mpr c)
      have e2 : Tg.isNm (.str x) = (Txt.isascii x && (Txt.isalpha x && Txt.islower x)) := by
        show isNam x = _
        unfold isNam
        rw [decide_eq_false (show ¬ 8 < x.length by omega)]
        rfl
      rw [e2] at q
      refine ⟨_, rfl, ⟨_, rfl⟩, x, rfl, rfl, trivial, _, rfl, ?_⟩
      refine ite2 (fun c => ?_) (fun c => ?_)
      · rw [c, Bool.true_and] at q
        refine ⟨_, rfl, ⟨_, rfl⟩, x, rfl, rfl, trivial, _, rfl, ?_⟩
        refine ite2 (fun c => ?_) (fun c => ?_)
        · rw [c, Bool.true_and] at q
          exact ⟨_, rfl, ⟨_, rfl⟩, x, rfl, rfl, trivial, q⟩
        · rw [Bool.eq_false_iff.mpr c, Bool.false_and] at q
          exact q
      · rw [Bool.eq_false_iff.mpr c, Bool.false_and] at q
        exact q
  | oth ty a b => exact ⟨false, rfl, iteT q⟩
  | tup h r => exact ⟨false, rfl, iteT q⟩

theorem begT_long {ts : List Tg} (h : 3 < ts.length) : begT (.tup ts) = false := by
  match ts, h with
  | n :: ts, h =>
    show (decide (ts.length ≤ 2) && n.isNm) = false
    rw [decide_eq_false (by rw [List.length_cons] at h; omega), Bool.false_and]
theorem begT_none {ts : List Tg} (h : ts.length < 1) : begT (.tup ts) = false := by
  match ts, h with
  | [], _ => rfl
theorem ok_begins (G : Glo mg) (CN : Cal P w K mg base 1 "is_name" ["thing"] (spTest K Tg.isNm)) (D : DefAt K mg "begins_class_type" s_begins_class_type ["thing"]) : Cal P w K mg base 2 "begins_class_type" ["thing"] (spTest K begT) := by
  obtain ⟨t2, h2⟩ := G.MA
  refine D.cal sc_begins_class_type (fun vs H Q E h => ?_) (fun f cdv A outer s H vs Q E hr h => ?_)
  · obtain ⟨v, t, rfl, _⟩ := h
    rfl
  obtain ⟨v, t, rfl, hT, q⟩ := h
  refine ⟨_, pss_cons (ps_if (PW.pt (pw_or (pt_not (pt_val (pe_isi G.isinstance G.tuple b_tuple rfl rfl (pv 0))))
      (pw_or1 (pt_not (pt_chain op_le op_le pe_int (pe_callB call_len_seq (by rfl) G.len PySem.boot_len (pa_cons (pv 0) pa_nil)) (pe_op op_add pe_int (pe_glob (v := .int 2) rfl h2 ⟨_, rfl⟩)))))))
      (pss_one (ps_ret pe_bl)) pss_nil)
    (pss_one (ps_ret (pc CN hr rfl (pa_cons (pe_ix ix_tup (pv 0) pe_int (fun _ _ => rfl)) pa_nil)))), ?_⟩
  refine ⟨v, rfl, isi_tup hT ?_⟩
  cases hT with
  | str x hx => exact ⟨false, rfl, iteT q⟩
  | oth ty a b => exact ⟨false, rfl, iteT q⟩
  | @tup a xs ts h r =>
    have hl := r.length
    refine ⟨true, rfl, iteF ⟨_, rfl, a, xs, rfl, .inr h, _, _, rfl, rfl, _, rfl, ?_⟩⟩
    refine ite2 (fun c => ?_) (fun c => ?_)
    · have c' : (1 : Int) ≤ (xs.length : Nat) := of_decide_eq_true c
      refine ⟨_, _, rfl, rfl, _, _, rfl, rfl, _, rfl, ?_⟩
      refine ite2 (fun c2 => ?_) (fun c2 => ?_)
      · have c2' : ¬ ((xs.length : Nat) : Int) ≤ 1 + 2 := by
          have z := c2
          rw [Bool.not_eq_true'] at z
          exact of_decide_eq_false z
        rw [begT_long (by omega)] at q
        exact q
      · have c2' : ((xs.length : Nat) : Int) ≤ 1 + 2 := by
          have z := c2
          rw [Bool.not_eq_true', Bool.not_eq_false] at z
          exact of_decide_eq_true z
        cases r with
        | nil => exact absurd c' (by decide)
        | @cons y ys n ts hy r =>
          refine ⟨_, rfl, a, _, 0, y, rfl, rfl, h, atI_nat (j := 0) rfl, y, n, rfl, hy, ?_⟩
          have e2 : begT (.tup (n :: ts)) = n.isNm := by
            show (decide (ts.length ≤ 2) && n.isNm) = _
            rw [decide_eq_true (by rw [List.length_cons] at c2'; have := r.length; omega), Bool.true_and]
          rw [e2] at q
          exact q
    · have c' : ¬ (1 : Int) ≤ (xs.length : Nat) := of_decide_eq_false (Bool.eq_false_iff.mpr c)
      rw [begT_none (by omega)] at q
      exact ⟨false, rfl, iteT q⟩

end
end N

namespace N
open PySem PySem.Spec PyProof.Rows L2
section
variable {P : Program} {w : World} {K : PySem.W.Frag} {mg : Str → Option Value} {base : Heap}
/-- a question about one thing: all that stood stands -/
def spAsk (K : PySem.W.Frag) (g : Tg → Bool) : Sp := fun vs H Q _ => ∃ v t, vs = [v] ∧ Th K H v t ∧ t.nodes ≤ 100000 ∧ ∀ H', Same H H' → Q (.bl (g t)) H'
theorem cut_tail (xs : List V) : cutV xs (some 1) none = xs.drop 1 := by
  unfold cutV
  rw [show HT.sIx xs.length 0 (some 1) = min 1 xs.length from HT.sIx_nat xs.length 0 1, HT.sIx_none]
  cases xs with
  | nil => rfl
  | cons x r =>
    rw [show min 1 (x :: r).length = 1 by rw [List.length_cons]; omega]
    show (List.take ((x :: r).length - 1) r) = r
    rw [List.length_cons, Nat.add_sub_cancel]
    exact List.take_length
theorem cut_tail_ne (xs : List V) (h : 1 ≤ xs.length) : ¬ (HT.sIx xs.length 0 (some 1) = 0 ∧ HT.sIx xs.length xs.length none = xs.length) := fun q => by
  have e : HT.sIx xs.length 0 (some 1) = min 1 xs.length := HT.sIx_nat xs.length 0 1
  rw [e] at q
  omega
/-- a tuple's arguments -/
theorem beg_tup {K : PySem.W.Frag} {H : Hp} {v : V} {t : Tg} (h : Th K H v t) (b : begT t = true) : ∃ (a : Addr) (n : V) (x : Str) (xs : List V), v = .ref a ∧ SqT K H a (n :: xs) ∧ n = .str x ∧ t = .tup (.str x :: t.args) ∧ isNam x = true ∧ t.args.length ≤ 2 ∧ ThAll K H xs t.args := by
  cases h with
  | str x hx => cases b
  | oth ty a b' => cases b
  | @tup a xs ts h r =>
    cases r with
    | nil => cases b
    | @cons y ys n ts hy r =>
      have b' : (decide (ts.length ≤ 2) && n.isNm) = true := b
      rw [Bool.and_eq_true, decide_eq_true_eq] at b'
      cases hy with
      | str x hx => exact ⟨a, _, x, ys, rfl, h, rfl, rfl, b'.2, b'.1, r⟩
      | oth ty a b => cases b'.2
      | tup h r => cases b'.2
theorem iteE {b : Bool} {A B : Prop} (e : b = true) (h : A) : if b = true then A else B := by
  rw [if_pos e]
  exact h
theorem iteN {b : Bool} {A B : Prop} (e : b = false) (h : B) : if b = true then A else B := by
  rw [if_neg (by rw [e]; exact Bool.false_ne_true)]
  exact h
theorem same_mut {H H' : Hp} {p : Addr} {o : HO} (e : Same H H') (h : H p = none) : Same H (upd H' p o) := fun b u q => by rw [upd_ne (ne_of_none q h)]; exact e b u q
theorem ok_is_type (CL : Cal P w K mg base 1 "is_letter" ["thing"] (spTest K Tg.isL)) (CB : Cal P w K mg base 2 "begins_class_type" ["thing"] (spTest K begT)) (D : DefAt K mg "is_type" s_is_type ["thing"]) : Cal P w K mg base 3 "is_type" ["thing"] (spAsk K isT) := by
  refine D.cal sc_is_type (fun vs H Q E h => ?_) (fun f cdv A outer s H vs Q E hr h => ?_)
  · obtain ⟨v, t, rfl, _⟩ := h
    rfl
  obtain ⟨v, t, rfl, hT, hn, q⟩ := h
  refine ⟨_, pss_cons (ps_set (i := 1) sc_is_type.nd rfl (Or.inl rfl) (pe_lst (pa_cons (pv 0) pa_nil)))
    (pss_cons (ps_while (passes_of rfl) (pt_truth (pv 1) (by intro _; rfl))
      (pss_cons (ps_set (i := 2) sc_is_type.nd rfl (Or.inl rfl) (pe_bm0 PySem.F.plainAttrs_list PySem.F.slot_list_pop PySem.F.type_list_pop mt_pop (pv 1)))
        (pss_one (ps_if (pt_val (pc CB hr rfl (pa_cons (pv 2) pa_nil)))
          (pss_one (ps_expr (pe_bm PySem.F.plainAttrs_list PySem.F.slot_list_extend PySem.F.type_list_extend mt_extendT (pv 1) (pa_cons (pe_slice sl_tup (pv 2) (po_some pe_int) po_none) pa_nil))))
          (pss_one (ps_if (pt_not (pt_val (pc CL (hr.mono (by decide)) rfl (pa_cons (pv 2) pa_nil)))) (pss_one (ps_ret pe_bl)) pss_nil))))))
    (pss_one (ps_ret pe_bl))), ?_⟩
  refine ⟨v, rfl, by show 1 ≤ sizeLine; decide, fun l hl => ?_⟩
  refine ⟨fun m σ H' => ∃ xs ts y, m = nodesAll ts ∧ σ = [some v, some (.ref l), y] ∧ Same H H' ∧ H' l = some (.lst xs) ∧ ThAll K H' xs ts ∧ nodesAll ts ≤ 100000 ∧ isT t = isTAll ts,
    ⟨_, [v], [t], _, rfl, rfl, same_new hl _, upd_same, .cons (hT.stay (stay_new hl _)) .nil, by simp only [nodesAll]; omega, by simp only [isTAll, Bool.and_true]⟩, fun m σ H' hW => ?_⟩
  obtain ⟨xs, ts, y, rfl, rfl, sm, hx, hA, hm, ht⟩ := hW
  refine ⟨_, rfl, _, .inl ⟨xs, SqL.of hx, rfl⟩, ?_⟩
  have hlen := hA.length
  by_cases hne : ts = []
  · subst hne
    have e0 : xs = [] := List.length_eq_zero_iff.mp hlen
    subst e0
    rw [ht] at q
    exact iteF (q H' sm)
  obtain ⟨u, xs', t', ts', e1, e2, hu, hr'⟩ := hA.snoc hne
  subst e1 e2
  have ek : (!(xs' ++ [u]).isEmpty) = true := by cases xs' <;> rfl
  refine iteE ek ?_
  have en : nodesAll (ts' ++ [t']) = nodesAll ts' + t'.nodes := by rw [nodesAll_app]; simp only [nodesAll]; omega
  have et : isTAll (ts' ++ [t']) = (isTAll ts' && isT t') := by rw [isTAll_app]; simp only [isTAll, Bool.and_true]
  have hl' := length_le_nodes ts'
  have hl2 := hr'.length
  refine ⟨fun σ2 H2 => ∃ xs ts y, nodesAll ts < nodesAll (ts' ++ [t']) ∧ σ2 = [some v, some (.ref l), y] ∧ Same H H2 ∧ H2 l = some (.lst xs) ∧ ThAll K H2 xs ts ∧ nodesAll ts ≤ 100000 ∧ isT t = isTAll ts,
    fun σ2 H2 ⟨xs, ts, y, a, b, c, d, e, f, g⟩ => ⟨nodesAll ts, a, xs, ts, y, rfl, b, c, d, e, f, g⟩, ?_⟩
  have hlast : (xs' ++ [u])[(xs' ++ [u]).length - 1]? = some u := by
    rw [List.length_append, List.length_singleton, Nat.add_sub_cancel, List.getElem?_append_right (Nat.le_refl _), Nat.sub_self] <;> rfl
  refine ⟨_, rfl, .inl ⟨rfl, _, SqL.of hx⟩, l, _, u, rfl, rfl, hx, hlast, ?_⟩
  rw [List.dropLast_concat]
  have st : Stay K H' (upd H' l (.lst xs')) := stay_lst hx
  have hu1 := hu.stay st
  have hr1 := ThAll.stay st hr'
  have s1 : Same H (upd H' l (.lst xs')) := same_mut sm hl
  refine ⟨u, rfl, u, t', rfl, hu1, begT t', rfl, ?_⟩
  refine ite2 (fun c => ?_) (fun c => ?_)
  · obtain ⟨a, n, x, ys, rfl, hq, rfl, et', hnm, hl3, hr3⟩ := beg_tup hu1 c
    have el : 1 ≤ ((.str x : V) :: ys).length := by rw [List.length_cons]; omega
    refine ⟨_, rfl, .inl ⟨rfl, _, SqL.of upd_same⟩, _, rfl, 1, rfl, a, _, rfl, hq, cut_tail_ne _ el, fun p hp => ?_⟩
    rw [cut_tail]
    show ∃ _ : Addr, _
    have npl : l ≠ p := ne_of_none upd_same hp
    have hx2 : (upd (upd H' l (.lst xs')) p (.tup ys)) l = some (.lst xs') := by rw [upd_ne npl]; exact upd_same
    have hl4 := hr3.length
    have st2 : Stay K (upd H' l (.lst xs')) (upd (upd H' l (.lst xs')) p (.tup ys)) := stay_new hp _
    have st3 : Stay K (upd (upd H' l (.lst xs')) p (.tup ys)) (upd (upd (upd H' l (.lst xs')) p (.tup ys)) l (.lst (xs' ++ ys))) := stay_lst hx2
    have ea := args_nodes c
    have hl5 := length_le_nodes t'.args
    refine ⟨l, p, xs', ys, rfl, rfl, hx2, .inl (.inl upd_same), sz5 (by omega), ?_⟩
    refine ⟨xs' ++ ys, ts' ++ t'.args, _, ?_, rfl, ?_, upd_same, ((hr1.stay st2).stay st3).app ((hr3.stay st2).stay st3), ?_, ?_⟩
    · rw [nodesAll_app, en]; omega
    · exact same_mut (s1.trans (same_new hp _)) hl
    · rw [nodesAll_app]; omega
    · rw [ht, et, isTAll_app, isT_beg c]
  · have eb : begT t' = false := Bool.eq_false_iff.mpr c
    refine ⟨u, rfl, u, t', rfl, hu1, Tg.isL t', rfl, ?_⟩
    have e3 : isT t' = t'.isL := isT_nbeg eb
    refine ite2 (fun c2 => ?_) (fun c2 => ?_)
    · have c3 : t'.isL = false := by simpa using c2
      rw [ht, et, e3, c3, Bool.and_false] at q
      exact q _ s1
    · have c3 : t'.isL = true := by simpa using c2
      have hp1 := nodes_pos t'
      refine ⟨xs', ts', _, by omega, rfl, s1, upd_same, hr1, by omega, ?_⟩
      rw [ht, et, e3, c3, Bool.and_true]
end
end N

namespace N
open PySem PySem.Spec PyProof.Rows L2
section
variable {P : Program} {w : World} {K : PySem.W.Frag} {mg : Str → Option Value} {base : Heap}
def spCheck (K : PySem.W.Frag) (C : Addr) : Sp := fun vs H Q E => ∃ v t, vs = [v] ∧ Th K H v t ∧ t.nodes ≤ 100000 ∧ (isT t = true → ∀ H', Same H H' → Q .non H') ∧ (isT t = false → ∀ H', Same H H' → E (.ref C) none H')
theorem ok_check_type {C : Addr} (X : ExcAt K mg "NoType" C) (CT : Cal P w K mg base 3 "is_type" ["thing"] (spAsk K isT)) (D : DefAt K mg "check_type" s_check_type ["thing"]) : Cal P w K mg base 4 "check_type" ["thing"] (spCheck K C) := by
  refine D.cal sc_check_type (fun vs H Q E h => ?_) (fun f cdv A outer s H vs Q E hr h => ?_)
  · obtain ⟨v, t, rfl, _⟩ := h
    rfl
  obtain ⟨v, t, rfl, hT, hn, q1, q2⟩ := h
  refine ⟨_, pss_one (ps_if (pt_not (pt_val (pc CT hr rfl (pa_cons (pv 0) pa_nil)))) (pss_one (ps_raise rfl (takes_of rfl rfl rfl rfl) (pmk_own PySem.F.excBase_ValueError X.x X.g X.k (raises_own X.b X.t) rfl))) pss_nil), ?_⟩
  refine ⟨v, rfl, v, t, rfl, hT, hn, fun H' sm => ⟨_, rfl, ?_⟩⟩
  refine ite2 (fun c => ?_) (fun c => ?_)
  · exact q2 (by simpa using c) H' sm
  · exact q1 (by simpa using c) H' sm
end
end N

namespace N
open PySem PySem.Spec PyProof.Rows L2
section
variable {P : Program} {w : World} {K : PySem.W.Frag} {mg : Str → Option Value} {base : Heap}
def spParts (K : PySem.W.Frag) : Sp := fun vs H Q _ => ∃ (v : V) (k : Kd), vs = [v] ∧ Kp K H v k ∧ k.nds ≤ 100000 ∧
  ∀ p H' xs, Same H H' → H p = none → H' p = some (.lst xs) → Kps K H' xs k.parts → Q (.ref p) H'
theorem nds_flat : ∀ ks : List Kd, (ks.flatMap Kd.parts).length = (ks.map Kd.nds).sum
  | [] => rfl
  | k :: ks => by
    rw [List.flatMap_cons, List.length_append, Kd.nds_parts, nds_flat ks]
    rfl
theorem sum_ge_len : ∀ ks : List Kd, ks.length ≤ (ks.map Kd.nds).sum
  | [] => Nat.zero_le _
  | k :: ks => by
    have h1 := sum_ge_len ks
    have h2 := Kd.nds_pos k
    simp only [List.length_cons, List.map_cons, List.sum_cons]
    omega
theorem snoc_last {α : Type} (xs : List α) (u : α) : (xs ++ [u])[(xs ++ [u]).length - 1]? = some u := by
  rw [List.length_append, List.length_singleton, Nat.add_sub_cancel, List.getElem?_append_right (Nat.le_refl _), Nat.sub_self] <;> rfl
theorem snoc_ne {α : Type} (xs : List α) (u : α) : (!(xs ++ [u]).isEmpty) = true := by cases xs <;> rfl
end
end N

namespace N
open PySem PySem.Spec PyProof.Rows L2
def mkN (n : Str) : List Kd → Kd
  | [] => .C0 n
  | [a] => .C1 n a
  | a :: b :: _ => .C2 n a b
theorem mkN_nm (n : Str) : ∀ ks : List Kd, (mkN n ks).nm = n ∧ (mkN n ks).isC = true
  | [] => ⟨rfl, rfl⟩
  | [_] => ⟨rfl, rfl⟩
  | _ :: _ :: _ => ⟨rfl, rfl⟩
theorem mkN_args (n : Str) : ∀ ks : List Kd, ks.length ≤ 2 → (mkN n ks).args = ks
  | [], _ => rfl
  | [_], _ => rfl
  | [_, _], _ => rfl
  | _ :: _ :: _ :: _, h => by simp at h
theorem let_len9 {x : Str} (h : isLet x = true) : x.length ≤ 100000 := by
  unfold isLet at h
  simp only [Bool.and_eq_true, decide_eq_true_eq] at h
  omega
theorem Paired.at {α β : Type} {F : α → β → Prop} : ∀ {l : List α} {r : List β} {i : Nat} {x : α}, Paired F l r → l[i]? = some x → ∃ y, r[i]? = some y ∧ F x y
  | _, _, i, x, .nil, h => by simp at h
  | _, _, 0, x, .cons h _, e => by
    simp at e
    subst e
    exact ⟨_, rfl, h⟩
  | _, _, i + 1, x, .cons _ t, e => by
    obtain ⟨y, h1, h2⟩ := Paired.at (i := i) (x := x) t (by simpa using e)
    exact ⟨y, by simpa using h1, h2⟩
end N

namespace N
open PySem PySem.Spec PyProof.Rows L2 StX
/-! ### texts -/
def Kd.txt : Kd → List Nat
  | L c => c.cps.toList
  | C0 n => n.cps.toList
  | C1 n a => n.cps.toList ++ ([40] ++ (a.txt ++ [41]))
  | C2 n a b => n.cps.toList ++ ([40] ++ (a.txt ++ ([44, 32] ++ (b.txt ++ [41]))))
abbrev Itm := Str ⊕ Kd
def Itm.tg : Itm → Tg
  | .inl s => .str s
  | .inr k => k.tg
def Itm.txt : Itm → List Nat
  | .inl s => s.cps.toList
  | .inr k => k.txt
def Kd.wt : Kd → Nat
  | L _ => 1
  | C0 _ => 2
  | C1 _ a => 4 + a.wt
  | C2 _ a b => 6 + a.wt + b.wt
def Itm.wt : Itm → Nat
  | .inl _ => 1
  | .inr k => k.wt
def par0 : Str := "("
def par1 : Str := ", "
def par2 : Str := ")"
/-- what written makes of a class kind -/
def wrI : Kd → List Itm
  | .L c => [.inl c]
  | .C0 n => [.inl n]
  | .C1 n a => [.inl n, .inl par0, .inr a, .inl par2]
  | .C2 n a b => [.inl n, .inl par0, .inr a, .inl par1, .inr b, .inl par2]
theorem wrI_txt {k : Kd} (h : k.isC = true) : k.txt = (wrI k).flatMap Itm.txt := by
  have e0 : par0.cps.toList = [40] := by decide +kernel
  have e1 : par1.cps.toList = [44, 32] := by decide +kernel
  have e2 : par2.cps.toList = [41] := by decide +kernel
  cases k <;> first | (cases h; done) | simp [wrI, Kd.txt, Itm.txt, e0, e1, e2]
theorem wrI_wt {k : Kd} (h : k.isC = true) : ((wrI k).map Itm.wt).sum + 1 ≤ k.wt := by
  cases k with
  | L c => cases h
  | C0 n => exact Nat.le_refl _
  | C1 n a =>
    show 1 + (1 + (a.wt + (1 + 0))) + 1 ≤ 4 + a.wt
    omega
  | C2 n a b =>
    show 1 + (1 + (a.wt + (1 + (b.wt + (1 + 0))))) + 1 ≤ 6 + a.wt + b.wt
    omega
theorem wt_pos (k : Itm) : 1 ≤ k.wt := by
  cases k with
  | inl s => simp [Itm.wt]
  | inr k => cases k <;> simp [Itm.wt, Kd.wt] <;> omega
theorem wt_nds (k : Kd) : k.wt ≤ 6 * k.nds := by
  induction k with
  | L c => simp [Kd.wt, Kd.nds]
  | C0 n => simp [Kd.wt, Kd.nds]
  | C1 n a ih => simp only [Kd.wt, Kd.nds]; omega
  | C2 n a b ih1 ih2 => simp only [Kd.wt, Kd.nds]; omega
theorem txt_len {k : Kd} (h : k.ok) : k.txt.length ≤ 12 * k.nds := by
  have hn : ∀ n : Str, isNam n = true → n.cps.toList.length ≤ 8 := fun n h => by
    have := (isNam_iff.mp h).2.1
    unfold Str.length at this
    rw [Array.length_toList]
    exact this
  induction k with
  | L c =>
    obtain ⟨x, e, _⟩ := isLet_iff.mp (show isLet c = true from h)
    simp only [Kd.txt, Kd.nds, e, List.length_singleton]
    omega
  | C0 n =>
    have := hn n h
    simp only [Kd.txt, Kd.nds]
    omega
  | C1 n a ih =>
    have h1 := hn n h.1
    have h2 := ih h.2
    simp only [Kd.txt, Kd.nds, List.length_append, List.length_singleton]
    omega
  | C2 n a b ih1 ih2 =>
    have h1 := hn n h.1
    have h2 := ih1 h.2.1
    have h3 := ih2 h.2.2
    simp only [Kd.txt, Kd.nds, List.length_append, List.length_singleton, List.length_cons, List.length_nil]
    omega
theorem join_empty (ys : List Str) : (Txt.join "" ys).cps.toList = ys.flatMap fun y => y.cps.toList := by
  have h1 : ∀ ps : List (List Nat), TL.joinL [] ps = ps.flatten := fun ps => by
    induction ps with
    | nil => rfl
    | cons p r ih =>
      cases r with
      | nil => simp [TL.joinL]
      | cons q r => simp only [TL.joinL, List.nil_append, List.flatten_cons]; rw [ih]; simp
  have h2 : Txt.join "" ys = Str.join "" ys := StrLaws.glued_eq_join _ _
  rw [h2]
  have h3 := TL.tl_join "" ys
  rw [show TL.tl ("" : Str) = [] by decide +kernel, h1] at h3
  rw [show (Str.join "" ys).cps.toList = TL.tl (Str.join "" ys) from rfl, h3, List.flatMap_def]
theorem sum_len : ∀ ys : List Str, (ys.map (·.length)).sum = (ys.flatMap fun y => y.cps.toList).length
  | [] => rfl
  | y :: r => by
    rw [List.map_cons, List.sum_cons, List.flatMap_cons, List.length_append, sum_len r, Array.length_toList]
    rfl
section
variable {P : Program} {w : World} {K : PySem.W.Frag} {mg : Str → Option Value} {base : Heap}
abbrev Its (K : PySem.W.Frag) (H : Hp) (vs : List V) (is : List Itm) : Prop := ThAll K H vs (is.map Itm.tg)
theorem Its.snoc {H : Hp} {vs : List V} {is : List Itm} (h : Its K H vs is) (hn : is ≠ []) : ∃ v vs' k is', vs = vs' ++ [v] ∧ is = is' ++ [k] ∧ Th K H v (Itm.tg k) ∧ Its K H vs' is' := by
  obtain ⟨v, vs', t, ts', e1, e2, h1, h2⟩ := ThAll.snoc h (by simpa using hn)
  obtain ⟨is', k, rfl⟩ : ∃ is' k, is = is' ++ [k] := ⟨is.dropLast, is.getLast hn, (List.dropLast_concat_getLast hn).symm⟩
  rw [List.map_append, List.map_singleton] at e2
  obtain ⟨e3, e4⟩ := List.append_inj' e2 rfl
  cases e4
  exact ⟨v, vs', k, is', e1, rfl, h1, by rw [← e3] at h2; exact h2⟩
def spWritten (K : PySem.W.Frag) : Sp := fun vs H Q _ => ∃ (v : V) (k : Kd), vs = [v] ∧ Kp K H v k ∧ k.isC = true ∧ ∀ p H' xs, Same H H' → H p = none → H' p = some (.lst xs) → Its K H' xs (wrI k) → Q (.ref p) H'
/-- the row behind some arguments -/
def rowV (n : Str) : List V → List V
  | [] => [.str n]
  | [x] => [.str n, .str par0, x]
  | x :: y :: _ => [.str n, .str par0, x, .str par1, y]
theorem ok_written (G : Glo mg) (D : DefAt K mg "written" s_written ["kind"]) : Cal P w K mg base 1 "written" ["kind"] (spWritten K) := by
  refine D.cal sc_written (fun vs H Q E h => ?_) (fun f cdv A outer s H vs Q E hr h => ?_)
  · obtain ⟨v, k, rfl, _⟩ := h
    rfl
  obtain ⟨v, k, rfl, hT, hc, q⟩ := h
  refine ⟨_, pss_cons (ps_set (i := 1) sc_written.nd rfl (Or.inl rfl) (pe_lst (pa_cons (pe_ix ix_tup (pv 0) pe_int (fun _ _ => rfl)) pa_nil)))
    (pss_cons (ps_set (i := 2) sc_written.nd rfl (Or.inl rfl) pe_str)
    (pss_cons (ps_for (passes_of rfl) rfl (pi_tup (pe_slice sl_tup (pv 0) (po_some pe_int) po_none)) (pg_name (i := 3) sc_written.nd rfl (Or.inl rfl))
      (pss_cons (ps_expr (pe_bm PySem.F.plainAttrs_list PySem.F.slot_list_extend PySem.F.type_list_extend mt_extend (pv 1) (pa_cons (pe_lst (pa_cons (pv 2) (pa_cons (pv 3) pa_nil))) pa_nil)))
        (pss_one (ps_set (i := 2) sc_written.nd rfl (Or.inl rfl) pe_str))))
    (pss_cons (ps_if (pt_cmpR op_gt (pe_callB call_len_seq (by rfl) G.len PySem.boot_len (pa_cons (pv 0) pa_nil)) pe_int (nomark _))
      (pss_one (ps_expr (pe_bm PySem.F.plainAttrs_list PySem.F.slot_list_append PySem.F.type_list_append mt_append (pv 1) (pa_cons pe_str pa_nil)))) pss_nil)
    (pss_one (ps_ret (pv 1)))))), ?_⟩
  obtain ⟨a, zs, rfl, hq, hnl, hz⟩ := kp_C hT hc
  have hzl := Kps.length hz
  have hal := Kd.args_len k
  refine ⟨_, rfl, a, _, 0, _, rfl, rfl, hq, atI_nat (j := 0) rfl, by show 1 ≤ sizeLine; decide, fun r hr0 => ?_⟩
  have s1 := same_new hr0 (.lst [.str k.nm])
  refine ⟨_, rfl, 1, rfl, a, _, rfl, (stay_same s1).tup _ _ hq, cut_tail_ne _ (by simp), fun p hp => ?_⟩
  rw [cut_tail]
  have nrp : r ≠ p := ne_of_none upd_same hp
  have s2 := s1.trans (same_new hp (.tup zs))
  refine ⟨p, rfl, ⟨zs, .inl (.inl upd_same)⟩, for_tup (K := K) (a := p) (xs := zs) (fun i σ H' => ∃ y3, σ = [some (.ref a), some (.ref r), some (.str (if i = 0 then par0 else par1)), y3] ∧ Same H H' ∧ H' p = some (.tup zs) ∧ H' r = some (.lst (rowV k.nm (zs.take i))))
    ⟨none, rfl, s2, upd_same, by rw [upd_ne nrp]; exact upd_same⟩ (fun i σ H' _ ⟨_, _, _, h, _⟩ => .inl (.inl h)) (fun i x σ H' hx ⟨y3, eσ, sm, hp', hr'⟩ => ?_) (fun σ H' ⟨y3, eσ, sm, hp', hr'⟩ => ?_)⟩
  · subst eσ
    have hi : i < zs.length := (List.getElem?_eq_some_iff.mp hx).1
    have hrl : (rowV k.nm (zs.take i)).length ≤ 5 := by
      match zs.take i with
      | [] => simp [rowV]
      | [x] => simp [rowV]
      | x :: y :: _ => simp [rowV]
    refine ⟨_, rfl, .inl ⟨rfl, _, SqL.of hr'⟩, _, rfl, x, rfl, by show 2 ≤ sizeLine; decide, fun t ht => ?_⟩
    have nrt : r ≠ t := ne_of_none hr' ht
    have npt : p ≠ t := ne_of_none hp' ht
    refine ⟨r, t, _, _, rfl, rfl, by rw [upd_ne nrt]; exact hr', upd_same, sz5 (by show _ + 2 ≤ 100000; omega), ?_⟩
    have erow : rowV k.nm (zs.take i) ++ [.str (if i = 0 then par0 else par1), x] = rowV k.nm (zs.take (i + 1)) := by
      rw [take_snoc hx]
      match zs, i, hi, hx, hal, hzl with
      | _ :: _, 0, _, _, _, _ => rfl
      | [_, _], 1, _, _, _, _ => rfl
      | [_], i + 1, hi, _, _, _ => simp at hi
      | [_, _], i + 2, hi, _, _, _ => exact absurd hi (by simp only [List.length_cons, List.length_nil]; omega)
      | _ :: _ :: _ :: _, _, _, _, hal, hzl => simp only [List.length_cons] at hzl; omega
    refine ⟨some x, ?_, same_mut (sm.trans (same_new ht _)) hr0, ?_, ?_⟩
    · rw [if_neg (Nat.succ_ne_zero i)]
      rfl
    · rw [upd_ne nrp.symm, upd_ne npt]; exact hp'
    · rw [← erow]; exact upd_same
  · subst eσ
    rw [List.take_length] at hr'
    have sT : Stay K H H' := stay_same sm
    have hz' : Kps K H' zs k.args := ThAll.stay sT hz
    refine ⟨_, rfl, a, _, rfl, .inr (sT.tup _ _ hq), _, _, rfl, rfl, _, rfl, ?_⟩
    have e0 : par0.length ≤ 100000 := by decide +kernel
    have e1 : par1.length ≤ 100000 := by decide +kernel
    have e2 : par2.length ≤ 100000 := by decide +kernel
    refine ite2 (fun c => ?_) (fun c => ?_)
    · have c' : ((((.str k.nm : V) :: zs).length : Nat) : Int) > 1 := of_decide_eq_true c
      rw [List.length_cons] at c'
      have hrl : (rowV k.nm zs).length ≤ 5 := by
        match zs with
        | [] => simp [rowV]
        | [x] => simp [rowV]
        | x :: y :: _ => simp [rowV]
      refine ⟨_, rfl, .inl ⟨rfl, _, SqL.of hr'⟩, r, _, _, rfl, rfl, hr', Nat.lt_of_le_of_lt (show _ ≤ 100000 by omega) (by decide), ?_⟩
      refine ⟨_, rfl, q r _ _ (same_mut sm hr0) hr0 upd_same ?_⟩
      refine ThAll.stay (stay_lst hr') ?_
      cases k with
      | L c => cases hc
      | C0 n => have : zs.length = 0 := hzl; omega
      | C1 n b =>
        match zs, hz', hzl with
        | [x], hz', _ =>
          cases hz' with
          | cons h1 _ => exact .cons (.str _ hnl) (.cons (.str _ e0) (.cons h1 (.cons (.str _ e2) .nil)))
      | C2 n b d =>
        match zs, hz', hzl with
        | [x, y], hz', _ =>
          cases hz' with
          | cons h1 h2 =>
            cases h2 with
            | cons h3 _ => exact .cons (.str _ hnl) (.cons (.str _ e0) (.cons h1 (.cons (.str _ e1) (.cons h3 (.cons (.str _ e2) .nil)))))
    · have c' : ¬ ((((.str k.nm : V) :: zs).length : Nat) : Int) > 1 := of_decide_eq_false (Bool.eq_false_iff.mpr c)
      rw [List.length_cons] at c'
      have hz0 : zs = [] := List.length_eq_zero_iff.mp (by omega)
      subst hz0
      refine ⟨_, rfl, q r _ _ sm hr0 hr' ?_⟩
      cases k with
      | L c => cases hc
      | C0 n => exact .cons (.str _ hnl) .nil
      | C1 n b => cases hzl
      | C2 n b d => cases hzl
def spText (K : PySem.W.Frag) : Sp := fun vs H Q _ => ∃ (v : V) (k : Kd), vs = [v] ∧ Kp K H v k ∧ k.ok ∧ k.nds ≤ 10000 ∧ ∀ H' (t : Str), Same H H' → t.cps.toList = k.txt → Q (.str t) H'
theorem strs_of {H : Hp} {ys : List Str} : True := trivial
theorem ok_text_of (G : Glo mg) (CW : Cal P w K mg base 1 "written" ["kind"] (spWritten K)) (D : DefAt K mg "text_of" s_text_of ["kind"]) : Cal P w K mg base 2 "text_of" ["kind"] (spText K) := by
  refine D.cal sc_text_of (fun vs H Q E h => ?_) (fun f cdv A outer s H vs Q E hr h => ?_)
  · obtain ⟨v, k, rfl, _⟩ := h
    rfl
  obtain ⟨v, k, rfl, hT, hok, hn, q⟩ := h
  refine ⟨_, pss_cons (ps_set (i := 1) sc_text_of.nd rfl (Or.inl rfl) (pe_lst pa_nil)) (pss_cons (ps_set (i := 2) sc_text_of.nd rfl (Or.inl rfl) (pe_lst (pa_cons (pv 0) pa_nil)))
    (pss_cons (ps_while (passes_of rfl) (pt_truth (pv 2) (by intro _; rfl))
      (pss_cons (ps_set (i := 3) sc_text_of.nd rfl (Or.inl rfl) (pe_bm0 PySem.F.plainAttrs_list PySem.F.slot_list_pop PySem.F.type_list_pop mt_pop (pv 2)))
        (pss_one (ps_if (pt_val (pe_isi G.isinstance G.str b_str rfl rfl (pv 3)))
          (pss_one (ps_expr (pe_bm PySem.F.plainAttrs_list PySem.F.slot_list_append PySem.F.type_list_append mt_append (pv 1) (pa_cons (pv 3) pa_nil))))
          (pss_one (ps_expr (pe_bm PySem.F.plainAttrs_list PySem.F.slot_list_extend PySem.F.type_list_extend mt_extend (pv 2) (pa_cons (pe_revL (pc CW hr rfl (pa_cons (pv 3) pa_nil))) pa_nil))))))))
    (pss_one (ps_ret (pe_join pe_str (pv 1)))))), ?_⟩
  refine ⟨by show 0 ≤ sizeLine; decide, fun fo hfo => ?_⟩
  refine ⟨v, rfl, by show 1 ≤ sizeLine; decide, fun l hl => ?_⟩
  have nfl : fo ≠ l := ne_of_none upd_same hl
  have hl0 : H l = none := by rw [upd_ne nfl.symm] at hl; exact hl
  have s0 : Same H (upd (upd H fo (.lst [])) l (.lst [v])) := (same_new hfo _).trans (same_new hl _)
  have hwt := wt_nds k
  refine ⟨fun m σ H' => ∃ (ys : List Str) (xs : List V) (is : List Itm) (y : Option V), m = (is.map Itm.wt).sum ∧ σ = [some v, some (.ref fo), some (.ref l), y] ∧ Same H H' ∧ H' fo = some (.lst (ys.map V.str)) ∧ H' l = some (.lst xs) ∧ Its K H' xs is ∧ ys.length + (is.map Itm.wt).sum ≤ 60000 ∧ k.txt = (ys.flatMap fun y => y.cps.toList) ++ is.reverse.flatMap Itm.txt,
    ⟨_, [], [v], [.inr k], _, rfl, rfl, s0, by rw [upd_ne nfl]; exact upd_same, upd_same, .cons (hT.stay (stay_same s0)) .nil, by simp [Itm.wt]; omega, by simp [Itm.txt]⟩, fun m σ H' hW => ?_⟩
  obtain ⟨ys, xs, is, y, rfl, rfl, sm, hf, hx, hB, hle, he⟩ := hW
  refine ⟨_, rfl, _, .inl ⟨xs, SqL.of hx, rfl⟩, ?_⟩
  have hlen := hB.length
  rw [List.length_map] at hlen
  by_cases hne : is = []
  · subst hne
    have e0 : xs = [] := List.length_eq_zero_iff.mp hlen
    subst e0
    simp only [List.reverse_nil, List.flatMap_nil, List.append_nil] at he
    have htl := txt_len hok
    refine iteF ⟨⟨_, rfl⟩, _, rfl, _, fo, ys, rfl, rfl, .inl (SqL.of hf), ?_, ?_⟩
    · rw [sum_len, ← he]
      have : ("" : Str).length = 0 := by decide +kernel
      rw [this]
      omega
    · exact q H' _ sm (by rw [join_empty, he])
  obtain ⟨u, xs', k', is', e1, e2, hu, hr'⟩ := Its.snoc hB hne
  subst e1 e2
  refine iteE (snoc_ne _ _) ?_
  have en : ((is' ++ [k']).map Itm.wt).sum = (is'.map Itm.wt).sum + k'.wt := by rw [List.map_append, List.sum_append]; simp
  have hp1 := wt_pos k'
  have hge : is'.length ≤ (is'.map Itm.wt).sum := by
    clear hle en hr' he hlen hne hB hx hu
    induction is' with
    | nil => simp
    | cons i r ih =>
      have := wt_pos i
      simp only [List.length_cons, List.map_cons, List.sum_cons]
      omega
  have hl2 := hr'.length
  rw [List.length_map] at hl2
  refine ⟨fun σ2 H2 => ∃ (ys : List Str) (xs : List V) (is : List Itm) (y : Option V), (is.map Itm.wt).sum < ((is' ++ [k']).map Itm.wt).sum ∧ σ2 = [some v, some (.ref fo), some (.ref l), y] ∧ Same H H2 ∧ H2 fo = some (.lst (ys.map V.str)) ∧ H2 l = some (.lst xs) ∧ Its K H2 xs is ∧ ys.length + (is.map Itm.wt).sum ≤ 60000 ∧ k.txt = (ys.flatMap fun y => y.cps.toList) ++ is.reverse.flatMap Itm.txt,
    fun σ2 H2 ⟨ys, xs, is, y, a, b, c, d, e, f, g, h⟩ => ⟨_, a, ys, xs, is, y, rfl, b, c, d, e, f, g, h⟩, ?_⟩
  refine ⟨_, rfl, .inl ⟨rfl, _, SqL.of hx⟩, l, _, u, rfl, rfl, hx, snoc_last _ _, ?_⟩
  rw [List.dropLast_concat]
  have st : Stay K H' (upd H' l (.lst xs')) := stay_lst hx
  have hf1 : (upd H' l (.lst xs')) fo = some (.lst (ys.map V.str)) := by rw [upd_ne nfl]; exact hf
  have s2 : Same H (upd H' l (.lst xs')) := same_mut sm hl0
  have hu2 := hu.stay st
  have hr2 : Its K _ xs' is' := ThAll.stay st hr'
  rw [List.reverse_append, List.flatMap_append] at he
  simp only [List.reverse_singleton, List.flatMap_singleton] at he
  refine ⟨u, rfl, isi_str hu2 ⟨_, rfl, ?_⟩⟩
  have cases' : (∃ s : Str, k'.tg = .str s ∧ k'.txt = s.cps.toList) ∨ ∃ kk : Kd, k' = .inr kk ∧ kk.isC = true := by
    match k' with
    | .inl s => exact .inl ⟨s, rfl, rfl⟩
    | .inr (.L c) => exact .inl ⟨c, rfl, rfl⟩
    | .inr (.C0 n) => exact .inr ⟨_, rfl, rfl⟩
    | .inr (.C1 n a) => exact .inr ⟨_, rfl, rfl⟩
    | .inr (.C2 n a b) => exact .inr ⟨_, rfl, rfl⟩
  rcases cases' with ⟨c, et, ex⟩ | ⟨kk, rfl, hc⟩
  · rw [et] at hu2
    cases hu2 with
    | str _ hx0 =>
      rw [et]
      have hf2 : (upd H' l (.lst xs')) fo = some (.lst (ys.map V.str)) := hf1
      refine iteT ⟨_, rfl, .inl ⟨rfl, _, SqL.of hf2⟩, _, rfl, fo, _, _, rfl, rfl, hf2, ?_, ?_⟩
      · rw [List.length_map]
        exact Nat.lt_of_le_of_lt (show _ ≤ 100000 by omega) (by decide)
      refine ⟨ys ++ [c], xs', is', _, by omega, rfl, same_mut s2 hfo, by rw [List.map_append]; exact upd_same, by rw [upd_ne nfl.symm]; exact upd_same, ThAll.stay (stay_lst hf2) hr2, ?_, ?_⟩
      · rw [List.length_append, List.length_singleton]; omega
      · rw [he, List.flatMap_append, ex]
        simp
  · have eS : (Itm.tg (.inr kk)).isS = false := by
      show kk.tg.isS = false
      rw [Kd.isS_tg, hc]
      rfl
    rw [eS]
    have hl1 : (upd H' l (.lst xs')) l = some (.lst xs') := upd_same
    refine iteF ⟨_, rfl, .inl ⟨rfl, _, SqL.of hl1⟩, u, rfl, u, kk, rfl, hu2, hc, fun p1 H1 ws sm1 hp1' hw1 hI1 => ?_⟩
    refine ⟨p1, ws, rfl, SqL.of hw1, fun p2 hp2 => ?_⟩
    have s3 : Same (upd H' l (.lst xs')) (upd H1 p2 (.lst ws.reverse)) := sm1.trans (same_new hp2 _)
    have hw2 := wrI_wt hc
    have hwl := hI1.length
    rw [List.length_map] at hwl
    have hw6 : (wrI kk).length ≤ 6 := by cases kk <;> simp [wrI]
    have hwk : Itm.wt (.inr kk) = kk.wt := rfl
    refine ⟨l, p2, xs', ws.reverse, rfl, rfl, s3 _ _ hl1, upd_same, sz5 (by rw [List.length_reverse]; omega), ?_⟩
    have s4 : Stay K (upd H' l (.lst xs')) (upd H1 p2 (.lst ws.reverse)) := stay_same s3
    have s5 := s4.trans (stay_lst (K := K) (ys := xs' ++ ws.reverse) (s3 _ _ hl1))
    have hIr : Its K (upd (upd H1 p2 (.lst ws.reverse)) l (.lst (xs' ++ ws.reverse))) ws.reverse (wrI kk).reverse := by
      have := ThAll.rev (ThAll.stay ((stay_new hp2 (.lst ws.reverse)).trans (stay_lst (K := K) (ys := xs' ++ ws.reverse) (s3 _ _ hl1))) hI1)
      rw [← List.map_reverse] at this
      exact this
    have hall : Its K (upd (upd H1 p2 (.lst ws.reverse)) l (.lst (xs' ++ ws.reverse))) (xs' ++ ws.reverse) (is' ++ (wrI kk).reverse) := by
      have := ThAll.app (ThAll.stay s5 hr2) hIr
      rw [← List.map_append] at this
      exact this
    refine ⟨ys, xs' ++ ws.reverse, is' ++ (wrI kk).reverse, _, ?_, rfl, same_mut (s2.trans s3) hl0, by rw [upd_ne nfl]; exact s3 _ _ hf1, upd_same, hall, ?_, ?_⟩
    · rw [en, List.map_append, List.sum_append, List.map_reverse, List.sum_reverse, hwk]; omega
    · rw [List.map_append, List.sum_append, List.map_reverse, List.sum_reverse]
      rw [en, hwk] at hle
      omega
    · rw [he, List.reverse_append, List.reverse_reverse, List.flatMap_append]
      show _ ++ (kk.txt ++ _) = _
      rw [wrI_txt hc]
theorem ok_text {C : Addr} (CK : Cal P w K mg base 4 "check_type" ["thing"] (spCheck K C)) (CT : Cal P w K mg base 2 "text_of" ["kind"] (spText K)) (D : DefAt K mg "text" s_text ["kind"]) : Cal P w K mg base 5 "text" ["kind"] (spText K) := by
  refine D.cal sc_text (fun vs H Q E h => ?_) (fun f cdv A outer s H vs Q E hr h => ?_)
  · obtain ⟨v, t, rfl, _⟩ := h
    rfl
  obtain ⟨v, k, rfl, hT, hok, hn, q⟩ := h
  refine ⟨_, pss_cons (ps_expr (pcE (takes_of rfl rfl rfl rfl) CK hr rfl (pa_cons (pv 0) pa_nil))) (pss_one (ps_ret (pc CT (hr.mono (by decide)) rfl (pa_cons (pv 0) pa_nil)))), ?_⟩
  have hnd := Kd.nodes_tg k
  refine ⟨v, rfl, v, k.tg, rfl, hT, by omega, fun _ H1 sm => ?_, fun z => by rw [Kd.isT_tg hok] at z; cases z⟩
  exact ⟨v, rfl, v, k, rfl, hT.stay (stay_same sm), hok, hn, fun H2 t sm2 ht => q H2 t (sm.trans sm2) ht⟩
end
end N

namespace N
open PySem PySem.Spec PyProof.Rows L2 StX
/-! ### reading -/
abbrev cs (x : Str) : List Nat := x.cps.toList
theorem cs_len (x : Str) : (cs x).length = x.length := by
  show x.cps.toList.length = x.cps.size
  exact Array.length_toList
theorem cs_inj {x y : Str} (h : cs x = cs y) : x = y := by
  obtain ⟨⟨a⟩⟩ := x
  obtain ⟨⟨b⟩⟩ := y
  have : a = b := h
  rw [this]
theorem sw3 (x y : Str) (i : Nat) : Txt.startswith3 x y (i : Int) = decide (i + y.length ≤ x.length ∧ ((cs x).drop i).take y.length = cs y) := by
  have e0 : PySem.fromIndex x.length (i : Int) = i := by
    unfold PySem.fromIndex
    rw [if_neg (by omega)]
    omega
  unfold Txt.startswith3
  rw [e0]
  have e1 : Builtin.Str.subAt x y i = decide (((cs x).drop i).take y.length = cs y) := by
    unfold Builtin.Str.subAt
    have e2 : (x.cps.extract i (i + y.length)).toList = ((cs x).drop i).take y.length := by
      rw [Array.toList_extract, List.extract_eq_drop_take]
      congr 1
      omega
    by_cases h : ((cs x).drop i).take y.length = cs y
    · rw [decide_eq_true h]
      have : x.cps.extract i (i + y.length) = y.cps := by
        apply Array.toList_inj.mp
        rw [e2, h]
      rw [this]
      exact beq_self_eq_true _
    · rw [decide_eq_false h]
      apply beq_eq_false_iff_ne.mpr
      intro z
      rw [z] at e2
      exact h e2.symm
  rw [e1]
  simp
theorem sw3_yes {x y : Str} {i : Nat} {r : List Nat} (hy0 : 0 < y.length) (h : (cs x).drop i = cs y ++ r) : Txt.startswith3 x y (i : Int) = true := by
  rw [sw3, decide_eq_true_eq]
  have h1 := congrArg List.length h
  rw [List.length_drop, List.length_append, cs_len, cs_len] at h1
  refine ⟨by omega, ?_⟩
  · rw [h, ← cs_len y, List.take_left']
    rfl
theorem sw3_no {x y : Str} {i : Nat} {c : Nat} {r : List Nat} (hy : cs y = c :: r) (h : ∀ r', (cs x).drop i ≠ c :: r') : Txt.startswith3 x y (i : Int) = false := by
  rw [sw3, decide_eq_false_iff_not]
  rintro ⟨h1, h2⟩
  rw [hy] at h2
  have hl : y.length = r.length + 1 := by rw [← cs_len, hy]; rfl
  rw [hl] at h2
  cases q : (cs x).drop i with
  | nil => rw [q] at h2; cases h2
  | cons d ds =>
    rw [q, List.take_succ_cons] at h2
    injection h2 with e _
    subst e
    exact h ds q
theorem cutS_cs (z : Str) (i j : Nat) (hi : i ≤ j) (hj : j ≤ z.length) : cs (cutS z (some (i : Int)) (some (j : Int))) = ((cs z).drop i).take (j - i) := by
  unfold cutS
  rw [HT.sIx_nat, HT.sIx_nat, Nat.min_eq_left hj, Nat.min_eq_left (Nat.le_trans hi hj)]
theorem one_alpha (c : Nat) : Txt.isalpha ⟨#[c]⟩ = Unicode.isAlpha c := by
  unfold Txt.isalpha Str.length
  simp
section
variable {P : Program} {w : World} {K : PySem.W.Frag} {mg : Str → Option Value} {base : Heap}
def spWordA (K : PySem.W.Frag) : Sp := fun vs H Q _ => ∃ (line : Str) (at_ : Nat) (wd rest : List Nat), vs = [.str line, .int (at_ : Nat)] ∧ line.length ≤ 100000 ∧ (cs line).drop at_ = wd ++ rest ∧ at_ ≤ line.length ∧ wd.length ≤ 8 ∧ (∀ c ∈ wd, Unicode.isAlpha c = true) ∧
  (∀ c r, rest = c :: r → Unicode.isAlpha c = false) ∧ ∀ t : Str, cs t = wd → Q (.str t) H
theorem ok_word_at (G : Glo mg) (D : DefAt K mg "word_at" s_word_at ["line", "at"]) : Cal P w K mg base 1 "word_at" ["line", "at"] (spWordA K) := by
  obtain ⟨t8, h8⟩ := G.LN
  refine D.cal sc_word_at (fun vs H Q E h => ?_) (fun f cdv A outer s H vs Q E hr h => ?_)
  · obtain ⟨line, a, wd, rest, rfl, _⟩ := h
    rfl
  obtain ⟨line, a, wd, rest, rfl, hll, hd, hal, hw8, hwa, hra, q⟩ := h
  refine ⟨_, pss_cons (ps_set (i := 2) sc_word_at.nd rfl (Or.inl rfl) (pv 1))
    (pss_cons (ps_while (passes_of rfl) (PW.pt (pw_and (pt_cmpR op_lt (pv 2) (pe_callB call_len_str (by rfl) G.len PySem.boot_len (pa_cons (pv 0) pa_nil)) (nomark _))
        (pw_and (pt_cmpR op_le (pe_op op_sub (pv 2) (pv 1)) (pe_glob (v := .int 8) rfl h8 ⟨_, rfl⟩) (nomark _))
          (pw_and1 (pt_val (pe_m0 PySem.F.slot_str_isalpha PySem.F.type_str_isalpha mt_isalpha (pe_ix ix_str (pv 0) (pv 2) (fun _ _ => rfl))))))))
      (pss_one (ps_aug (i := 2) sc_word_at.nd rfl (.inl rfl) pe_int ip_add)))
    (pss_one (ps_ret (pe_slice sl_str (pv 0) (po_some (pv 1)) (po_some (pv 2)))))), ?_⟩
  have hlen := congrArg List.length hd
  rw [List.length_drop, List.length_append, cs_len] at hlen
  refine ⟨_, rfl, fun m σ H' => ∃ j : Nat, m = wd.length - j ∧ j ≤ wd.length ∧ σ = [some (.str line), some (.int (a : Nat)), some (.int ((a + j : Nat) : Int))] ∧ H' = H, ⟨_, 0, rfl, Nat.zero_le _, rfl, rfl⟩, fun m σ H' hW => ?_⟩
  obtain ⟨j, rfl, hj, rfl, rfl⟩ := hW
  have fin : Q (.str (cutS line (some (a : Int)) (some ((a + wd.length : Nat) : Int)))) H' := by
    refine q _ ?_
    rw [cutS_cs line a (a + wd.length) (by omega) (by omega), hd, Nat.add_sub_cancel_left, List.take_left']
    rfl
  refine ⟨_, rfl, _, rfl, line, rfl, sz5 hll, _, _, rfl, rfl, _, rfl, ?_⟩
  by_cases hjw : j < wd.length
  · have hget : (cs line)[a + j]? = some wd[j] := by
      rw [← List.getElem?_drop, hd, List.getElem?_append_left hjw, List.getElem?_eq_getElem hjw]
    refine iteE (decide_eq_true (by omega)) ⟨_, rfl, _, rfl, _, _, rfl, rfl, _, _, rfl, rfl, _, rfl, iteE (decide_eq_true (by omega)) ?_⟩
    refine ⟨_, rfl, _, rfl, line, _, wd[j], rfl, rfl, sz5 hll, atI_nat hget, ⟨_, rfl⟩, _, rfl, rfl, trivial, _, rfl, ?_⟩
    rw [one_alpha]
    refine iteE (hwa _ (List.getElem_mem hjw)) ?_
    refine ⟨fun σ2 H2 => ∃ j2 : Nat, wd.length - j2 < wd.length - j ∧ j2 ≤ wd.length ∧ σ2 = [some (.str line), some (.int (a : Nat)), some (.int ((a + j2 : Nat) : Int))] ∧ H2 = H', fun σ2 H2 ⟨j2, a1, a2, a3, a4⟩ => ⟨_, a1, j2, rfl, a2, a3, a4⟩, ?_⟩
    refine ⟨_, rfl, _, _, rfl, rfl, j + 1, by omega, by omega, ?_, rfl⟩
    show [some (V.str line), some (V.int (a : Nat)), some (V.int (((a + j : Nat) : Int) + 1))] = _
    have : (((a + j : Nat) : Int) + 1) = ((a + (j + 1) : Nat) : Int) := by omega
    rw [this]
  · have ej : j = wd.length := by omega
    subst ej
    have fin2 : ∀ b : Bool, b = false → (if b = true then False else True) := fun b h => by rw [h]; exact trivial
    by_cases hlt : a + wd.length < line.length
    · refine iteE (decide_eq_true (by omega)) ⟨_, rfl, _, rfl, _, _, rfl, rfl, _, _, rfl, rfl, _, rfl, iteE (decide_eq_true (by omega)) ?_⟩
      cases hr0 : rest with
      | nil =>
        rw [hr0] at hlen
        simp only [List.length_nil] at hlen
        omega
      | cons c r =>
        have hget : (cs line)[a + wd.length]? = some c := by
          rw [← List.getElem?_drop, hd, hr0, List.getElem?_append_right (Nat.le_refl _), Nat.sub_self]
          rfl
        refine ⟨_, rfl, _, rfl, line, _, c, rfl, rfl, sz5 hll, atI_nat hget, ⟨_, rfl⟩, _, rfl, rfl, trivial, _, rfl, ?_⟩
        rw [one_alpha]
        refine iteN (hra c r hr0) ?_
        exact ⟨_, rfl, _, rfl, _, rfl, _, rfl, _, rfl, line, rfl, sz5 hll, fin⟩
    · refine iteN (decide_eq_false (by omega)) ?_
      exact ⟨_, rfl, _, rfl, _, rfl, _, rfl, _, rfl, line, rfl, sz5 hll, fin⟩
end
end N

namespace N
open PySem PySem.Spec PyProof.Rows L2 StX
abbrev Fra := Str × List Kd × List Kd
def argsT : List Kd → List Nat
  | [] => []
  | a :: as => 44 :: 32 :: (a.txt ++ argsT as)
def aft (post : List Nat) : List Fra → List Nat
  | [] => post
  | f :: fr => argsT f.2.2 ++ 41 :: aft post fr
def plug : List Fra → Kd → Kd
  | [], c => c
  | f :: fr, c => plug fr (mkN f.1 (f.2.1 ++ c :: f.2.2))
def FraOk (fr : List Fra) : Prop := ∀ f ∈ fr, isNam f.1 = true ∧ f.2.1.length + 1 + f.2.2.length ≤ 2 ∧ ∀ k ∈ f.2.2, k.ok
def PostOk (post : List Nat) : Prop := ∀ c r, post = c :: r → Unicode.isAlpha c = false ∧ c ≠ 40
theorem aft_ok {post : List Nat} (hp : PostOk post) : ∀ fr : List Fra, PostOk (aft post fr)
  | [] => hp
  | (n, ds, []) :: fr => fun c r e => by
    have e' : 41 :: aft post fr = c :: r := e
    injection e' with e1 _
    subst e1
    exact ⟨by decide +kernel, by decide⟩
  | (n, ds, a :: as) :: fr => fun c r e => by
    have e' : 44 :: _ = c :: r := e
    injection e' with e1 _
    subst e1
    exact ⟨by decide +kernel, by decide⟩
/-- what stands behind a kind's word -/
def tailT : Kd → List Nat
  | .L _ => []
  | .C0 _ => []
  | .C1 _ a => 40 :: (a.txt ++ [41])
  | .C2 _ a b => 40 :: (a.txt ++ (44 :: 32 :: (b.txt ++ [41])))
theorem txt_tail (k : Kd) : k.txt = cs k.nm ++ tailT k := by
  cases k <;> simp [Kd.txt, tailT, Kd.nm]
theorem nm_cs {k : Kd} (h : k.ok) : (cs k.nm).length ≤ 8 ∧ 1 ≤ (cs k.nm).length ∧ ∀ c ∈ cs k.nm, Unicode.isAlpha c = true := by
  have hn : ∀ n : Str, isNam n = true → (cs n).length ≤ 8 ∧ 1 ≤ (cs n).length ∧ ∀ c ∈ cs n, Unicode.isAlpha c = true := fun n h => by
    obtain ⟨h1, h2, h3⟩ := isNam_iff.mp h
    refine ⟨by rw [cs_len]; exact h2, by rw [cs_len]; exact h1, fun c hc => ?_⟩
    have := h3 c hc
    unfold Low at this
    rw [asc_alpha c (by omega)]
    simp [this]
  cases k with
  | L c =>
    obtain ⟨x, e, h1, h2⟩ := isLet_iff.mp (show isLet c = true from h)
    have e' : cs (Kd.L c).nm = [x] := e
    rw [e']
    refine ⟨by simp, by simp, fun c hc => ?_⟩
    rw [List.mem_singleton.mp hc, asc_alpha x (by omega)]
    simp [h1, h2]
  | C0 n => exact hn n h
  | C1 n a => exact hn n h.1
  | C2 n a b => exact hn n h.1
section
variable {P : Program} {w : World} {K : PySem.W.Frag} {mg : Str → Option Value} {base : Heap}
def Frs (K : PySem.W.Frag) (H : Hp) : List Addr → List Fra → Prop := Paired fun b f => ∃ vs, H b = some (.lst (.str f.1 :: vs)) ∧ Kps K H vs f.2.1
/-- between two turns of scan -/
structure ScI (K : PySem.W.Frag) (H H' : Hp) (bg : Addr) (line : Str) (at_ : Nat) (bs : List Addr) (fr : List Fra) : Prop where
  sm : Same H H'
  b0 : H bg = none
  hb : H' bg = some (.lst (bs.reverse.map V.ref))
  fs : Frs K H' bs fr
  nd : (bg :: bs).Nodup
  fresh : ∀ b ∈ bs, H b = none
  fok : FraOk fr
  len : at_ ≤ line.length
  bl : bs.length ≤ at_
theorem Frs.mono {H H' : Hp} : ∀ {bs : List Addr} {fr : List Fra}, (∀ b ∈ bs, ∀ o, H b = some o → H' b = some o) → Stay K H H' → Frs K H bs fr → Frs K H' bs fr
  | _, _, _, _, .nil => .nil
  | b :: bs, f :: fr, h, st, .cons ⟨vs, e, r⟩ t => .cons ⟨vs, h b List.mem_cons_self _ e, ThAll.stay st r⟩ (Frs.mono (fun x hx => h x (List.mem_cons_of_mem _ hx)) st t)
theorem Frs.mem {H : Hp} : ∀ {bs : List Addr} {fr : List Fra}, Frs K H bs fr → ∀ b ∈ bs, ∃ o, H b = some o
  | b :: bs, f :: fr, .cons ⟨vs, e, r⟩ t, x, hx => by
    rcases List.mem_cons.mp hx with rfl | hx
    · exact ⟨_, e⟩
    · exact Frs.mem t x hx
def spScan (K : PySem.W.Frag) : Sp := fun vs H Q _ => ∃ (line : Str) (at_ : Nat) (k : Kd) (post : List Nat), vs = [.str line, .int (at_ : Nat)] ∧ line.length ≤ 100000 ∧ (cs line).drop at_ = k.txt ++ post ∧ at_ ≤ line.length ∧ k.ok ∧ PostOk post ∧
  ∀ H' p u, Same H H' → H' p = some (.tup [u, .int ((at_ + k.txt.length : Nat) : Int)]) → Kp K H' u k → Q (.ref p) H'
theorem ok_scan (G : Glo mg) (CW : Cal P w K mg base 1 "word_at" ["line", "at"] (spWordA K)) (CN : Cal P w K mg base 1 "is_name" ["thing"] (spTest K Tg.isNm)) (CL : Cal P w K mg base 1 "is_letter" ["thing"] (spTest K Tg.isL)) (D : DefAt K mg "scan" s_scan ["line", "at"]) : Cal P w K mg base 2 "scan" ["line", "at"] (spScan K) := by
  obtain ⟨t2, h2⟩ := G.MA
  refine D.cal sc_scan (fun vs H Q E h => ?_) (fun f cdv A outer s H vs Q E hr h => ?_)
  · obtain ⟨line, a, k, post, rfl, _⟩ := h
    rfl
  obtain ⟨line, a0, k, post, rfl, hll, hd0, ha0, hok, hpost, q⟩ := h
  refine ⟨_, pss_cons (ps_set (i := 2) sc_scan.nd rfl (Or.inl rfl) (pe_lst pa_nil))
    (pss_one (ps_while (passes_of rfl) (pt_val pe_bl)
      (pss_cons (ps_set (i := 3) sc_scan.nd rfl (Or.inl rfl) (pc CW hr rfl (pa_cons (pv 0) (pa_cons (pv 1) pa_nil))))
      (pss_cons (ps_aug (i := 1) sc_scan.nd rfl (.inl rfl) (pe_callB call_len_str (by rfl) G.len PySem.boot_len (pa_cons (pv 3) pa_nil)) ip_add)
      (pss_cons (ps_if (PW.pt (pw_and (pt_val (pc CN hr rfl (pa_cons (pv 3) pa_nil))) (pw_and1 (pt_val (pe_bm PySem.F.plainAttrs_str PySem.F.slot_str_startswith PySem.F.type_str_startswith mt_startswith3 (pv 0) (pa_cons pe_str (pa_cons (pv 1) pa_nil)))))))
        (pss_cons (ps_expr (pe_bm PySem.F.plainAttrs_list PySem.F.slot_list_append PySem.F.type_list_append mt_append (pv 2) (pa_cons (pe_lst (pa_cons (pv 3) pa_nil)) pa_nil)))
        (pss_cons (ps_aug (i := 1) sc_scan.nd rfl (.inl rfl) pe_int ip_add) (pss_one ps_continue))) pss_nil)
      (pss_cons (ps_if (PW.pt (pw_and (pt_not (pt_val (pc CN hr rfl (pa_cons (pv 3) pa_nil)))) (pw_and1 (pt_not (pt_val (pc CL hr rfl (pa_cons (pv 3) pa_nil))))))) (pss_one ps_never) pss_nil)
      (pss_cons (ps_set (i := 4) sc_scan.nd rfl (Or.inl rfl) (pe_ifExp (pt_val (pc CL hr rfl (pa_cons (pv 3) pa_nil))) (pv 3) (pe_tup (pa_cons (pv 3) pa_nil))))
      (pss_cons (ps_while (passes_of rfl) (PW.pt (pw_and (pt_truth (pv 2) (by intro _; rfl)) (pw_and1 (pt_val (pe_bm PySem.F.plainAttrs_str PySem.F.slot_str_startswith PySem.F.type_str_startswith mt_startswith3 (pv 0) (pa_cons pe_str (pa_cons (pv 1) pa_nil)))))))
        (pss_cons (ps_expr (pe_bm PySem.F.plainAttrs_list PySem.F.slot_list_append PySem.F.type_list_append mt_append (pe_ix ix_list (pv 2) (pe_un un_neg pe_int) (fun _ _ => rfl)) (pa_cons (pv 4) pa_nil)))
        (pss_cons (ps_set (i := 4) sc_scan.nd rfl (Or.inl rfl) (pe_callTy call_tuple_of (by rfl) G.tuple b_tuple (pa_cons (pe_bm0 PySem.F.plainAttrs_list PySem.F.slot_list_pop PySem.F.type_list_pop mt_pop (pv 2)) pa_nil)))
        (pss_one (ps_aug (i := 1) sc_scan.nd rfl (.inl rfl) pe_int ip_add)))))
      (pss_cons (ps_if (pt_not (pt_truth (pv 2) (by intro _; rfl))) (pss_one (ps_ret (pe_tup (pa_cons (pv 4) (pa_cons (pv 1) pa_nil))))) pss_nil)
      (pss_cons (ps_expr (pe_bm PySem.F.plainAttrs_list PySem.F.slot_list_append PySem.F.type_list_append mt_append (pe_ix ix_list (pv 2) (pe_un un_neg pe_int) (fun _ _ => rfl)) (pa_cons (pv 4) pa_nil)))
      (pss_cons (ps_if (PW.pt (pw_or (pt_cmpR op_gt (pe_callB call_len_seq (by rfl) G.len PySem.boot_len (pa_cons (pe_ix ix_list (pv 2) (pe_un un_neg pe_int) (fun _ _ => rfl)) pa_nil)) (pe_glob (v := .int 2) rfl h2 ⟨_, rfl⟩) (nomark _))
          (pw_or1 (pt_not (pt_val (pe_bm PySem.F.plainAttrs_str PySem.F.slot_str_startswith PySem.F.type_str_startswith mt_startswith3 (pv 0) (pa_cons pe_str (pa_cons (pv 1) pa_nil)))))))) (pss_one ps_never) pss_nil)
      (pss_one (ps_aug (i := 1) sc_scan.nd rfl (.inl rfl) pe_int ip_add))))))))))))), ?_⟩
  refine ⟨by show 0 ≤ sizeLine; decide, fun bg hbg0 => ?_⟩
  refine ⟨fun m σ H' => ∃ (at_ : Nat) (bs : List Addr) (fr : List Fra) (c : Kd) (y3 y4 : Option V), m = line.length - at_ ∧ σ = [some (.str line), some (.int (at_ : Nat)), some (.ref bg), y3, y4] ∧ ScI K H H' bg line at_ bs fr ∧ c.ok ∧ plug fr c = k ∧ (cs line).drop at_ = c.txt ++ aft post fr,
    ⟨_, a0, [], [], k, _, _, rfl, rfl, ⟨same_new hbg0 _, hbg0, upd_same, .nil, by simp, fun b h => (by cases h), fun f h => (by cases h), ha0, Nat.zero_le _⟩, hok, rfl, hd0⟩, fun m σ H' hW => ?_⟩
  obtain ⟨at_, bs, fr, c, y3, y4, rfl, rfl, I, cok, hplug, hd⟩ := hW
  refine ⟨true, rfl, iteT ?_⟩
  refine ⟨fun σ2 H2 => ∃ (at2 : Nat) (bs : List Addr) (fr : List Fra) (c : Kd) (y3 y4 : Option V), line.length - at2 < line.length - at_ ∧ σ2 = [some (.str line), some (.int (at2 : Nat)), some (.ref bg), y3, y4] ∧ ScI K H H2 bg line at2 bs fr ∧ c.ok ∧ plug fr c = k ∧ (cs line).drop at2 = c.txt ++ aft post fr,
    fun σ2 H2 ⟨at2, bs, fr, c, y3, y4, a1, a2, a3, a4, a5, a6⟩ => ⟨_, a1, at2, bs, fr, c, y3, y4, rfl, a2, a3, a4, a5, a6⟩, ?_⟩
  obtain ⟨n8, n1, na⟩ := nm_cs cok
  rw [txt_tail, List.append_assoc] at hd
  have hao := aft_ok hpost fr
  have hdl := congrArg List.length hd
  rw [List.length_drop, cs_len, List.length_append, cs_len] at hdl
  rw [cs_len] at n8 n1
  have hIl := I.len
  have hIb := I.bl
  have hdr0 : (cs line).drop (at_ + c.nm.length) = tailT c ++ aft post fr := by
    rw [← List.drop_drop, hd, ← cs_len, List.drop_left']
    rfl
  refine ⟨_, rfl, _, rfl, line, at_, cs c.nm, tailT c ++ aft post fr, rfl, hll, hd, hIl, by rw [cs_len]; exact n8, na, ?_, fun t ht => ?_⟩
  · intro x r e
    cases htl : tailT c with
    | nil =>
      rw [htl] at e
      exact (hao x r e).1
    | cons z zs =>
      rw [htl] at e
      have hz : z = 40 := by cases c <;> simp [tailT] at htl <;> exact htl.1.symm
      injection e with e1 _
      rw [← e1, hz]
      decide +kernel
  have et : t = c.nm := cs_inj ht
  subst et
  have hnl : c.nm.length ≤ 100000 := by omega
  refine ⟨_, rfl, _, rfl, c.nm, rfl, sz5 hnl, _, _, rfl, rfl, ?_⟩
  refine ⟨_, rfl, .str c.nm, .str c.nm, rfl, .str _ hnl, _, rfl, ?_⟩
  have hcase : (∃ x, c = .L x) ∨ (∃ n, c = .C0 n) ∨ ∃ a as, c.args = a :: as := by
    cases c with
    | L x => exact .inl ⟨x, rfl⟩
    | C0 n => exact .inr (.inl ⟨n, rfl⟩)
    | C1 n a => exact .inr (.inr ⟨a, [], rfl⟩)
    | C2 n a b => exact .inr (.inr ⟨a, [b], rfl⟩)
  rcases hcase with ⟨x, ec⟩ | ⟨n, ec⟩ | ⟨a, as, ec⟩
  · have hlx : isLet c.nm = true := by rw [ec] at cok ⊢; exact cok
    have hnx : isNam c.nm = false := let_not_nam hlx
    refine iteN hnx ?_
    refine ⟨_, rfl, .str c.nm, .str c.nm, rfl, .str _ hnl, _, rfl, ?_⟩
    refine iteE (by show (!isNam c.nm) = true; rw [hnx]; rfl) ?_
    refine ⟨_, rfl, .str c.nm, .str c.nm, rfl, .str _ hnl, _, rfl, ?_⟩
    refine iteN (by show (!isLet c.nm) = false; rw [hlx]; rfl) ?_
    refine ⟨_, rfl, .str c.nm, .str c.nm, rfl, .str _ hnl, _, rfl, ?_⟩
    refine iteE hlx ⟨_, rfl, ?_⟩
    · have hdr : (cs line).drop (at_ + c.nm.length) = aft post fr := by rw [hdr0, ec]; rfl
      have hI : ScI K H H' bg line (at_ + c.nm.length) bs fr := ⟨I.sm, I.b0, I.hb, I.fs, I.nd, I.fresh, I.fok, by omega, by omega⟩
      have hu : Kp K H' (.str c.nm) c := by
        have e2 : c.tg = .str c.nm := by rw [ec]; rfl
        show Th K H' (.str c.nm) c.tg
        rw [e2]
        exact .str _ hnl
      refine ⟨fun m σ2 H2 => ∃ (at2 : Nat) (bs2 : List Addr) (fr2 : List Fra) (c2 : Kd) (u2 : V), m = fr2.length ∧ σ2 = [some (.str line), some (.int (at2 : Nat)), some (.ref bg), some (.str c.nm), some u2] ∧ ScI K H H2 bg line at2 bs2 fr2 ∧ Kp K H2 u2 c2 ∧ plug fr2 c2 = k ∧ (cs line).drop at2 = aft post fr2 ∧ at_ < at2,
        ⟨_, at_ + c.nm.length, bs, fr, c, _, rfl, rfl, hI, hu, hplug, hdr, by omega⟩, fun m σ2 H2 hW2 => ?_⟩
      obtain ⟨at2, bs2, fr2, c2, u2, rfl, rfl, I2, hu2, hp2, hd2, hlt2⟩ := hW2
      refine ⟨_, rfl, _, .inl ⟨_, SqL.of I2.hb, rfl⟩, ?_⟩
      have hfs := I2.fs
      cases hfs with
      | nil =>
        refine iteF ?_
        refine ⟨_, rfl, _, .inl ⟨_, SqL.of I2.hb, rfl⟩, ?_⟩
        refine iteT ⟨_, rfl, _, rfl, by show 2 ≤ sizeLine; decide, fun p hp => ?_⟩
        have ek : c2 = k := hp2
        subst ek
        have hl0 := congrArg List.length hd0
        have hl2 := congrArg List.length hd2
        rw [List.length_drop, cs_len] at hl0 hl2
        rw [List.length_append] at hl0
        have hl3 : line.length - at2 = post.length := hl2
        have hlen2 := I2.len
        have e : at2 = a0 + c2.txt.length := by omega
        refine q _ p u2 (I2.sm.trans (same_new hp _)) ?_ (hu2.stay (stay_new hp _))
        rw [← e]
        exact upd_same
      | @cons b f bs' fr' hb1 ht =>
        obtain ⟨n, ds, as⟩ := f
        obtain ⟨vs, hbv, hvs⟩ := hb1
        have hvl : vs.length = ds.length := Kps.length hvs
        have hfo := I2.fok (n, ds, as) List.mem_cons_self
        have hfo1 : isNam n = true := hfo.1
        have hfo2 : ds.length + 1 + as.length ≤ 2 := hfo.2.1
        have hbg : H2 bg = some (.lst (bs'.reverse.map V.ref ++ [V.ref b])) := by
          have := I2.hb
          rw [List.reverse_cons, List.map_append] at this
          exact this
        have hndp := List.nodup_cons.mp I2.nd
        have hnd2 := List.nodup_cons.mp hndp.2
        have nbg : bg ≠ b := fun e => hndp.1 (by rw [e]; exact List.mem_cons_self)
        have nbg' : ∀ x ∈ bs', x ≠ bg := fun x hx e => hndp.1 (by rw [← e]; exact List.mem_cons_of_mem _ hx)
        have nb' : ∀ x ∈ bs', x ≠ b := fun x hx e => hnd2.1 (by rw [← e]; exact hx)
        have hblen := I2.bl
        have hlen2 := I2.len
        have hbfr : H b = none := I2.fresh b List.mem_cons_self
        rw [List.length_cons] at hblen
        have ktr : (!((b :: bs').reverse.map V.ref).isEmpty) = true := by
          rw [List.reverse_cons, List.map_append]
          exact snoc_ne _ _
        refine iteE ktr ?_
        have hvlen : ((V.str n :: vs).length) < sizeLine := Nat.lt_of_le_of_lt (show _ ≤ 100000 by rw [List.length_cons]; omega) (by decide)
        have hbv2 : (upd H2 b (.lst ((V.str n :: vs) ++ [u2]))) b = some (.lst ((V.str n :: vs) ++ [u2])) := upd_same
        have hbg2 : (upd H2 b (.lst ((V.str n :: vs) ++ [u2]))) bg = some (.lst (bs'.reverse.map V.ref ++ [V.ref b])) := by rw [upd_ne nbg]; exact hbg
        have st2 : Stay K H2 (upd H2 b (.lst ((V.str n :: vs) ++ [u2]))) := stay_lst hbv
        have sm2 : Same H (upd H2 b (.lst ((V.str n :: vs) ++ [u2]))) := same_mut I2.sm hbfr
        cases as with
        | nil =>
          have hd3 : (cs line).drop at2 = cs par2 ++ aft post fr' := hd2
          refine ⟨_, rfl, rfl, _, rfl, _, _, _, rfl, rfl, _, rfl, ?_⟩
          refine iteE (sw3_yes (by decide +kernel) hd3) ?_
          refine ⟨_, fun σ3 H3 h => h, ?_⟩
          refine ⟨_, rfl, 1, rfl, bg, _, -1, _, rfl, rfl, SqL.of hbg, atI_last _ _, .inl ⟨rfl, _, SqL.of hbv⟩, _, rfl, b, _, u2, rfl, rfl, hbv, hvlen, ?_⟩
          refine ⟨_, rfl, .inl ⟨rfl, _, SqL.of hbg2⟩, bg, _, .ref b, rfl, rfl, hbg2, snoc_last _ _, ?_⟩
          rw [List.dropLast_concat]
          have hbv3 : (upd (upd H2 b (.lst ((V.str n :: vs) ++ [u2]))) bg (.lst (bs'.reverse.map V.ref))) b = some (.lst ((V.str n :: vs) ++ [u2])) := by rw [upd_ne nbg.symm]; exact hbv2
          refine ⟨b, _, rfl, .inl ⟨SqL.of hbv3, fun t ht' => ?_⟩⟩
          have st3 : Stay K (upd H2 b (.lst ((V.str n :: vs) ++ [u2]))) (upd (upd H2 b (.lst ((V.str n :: vs) ++ [u2]))) bg (.lst (bs'.reverse.map V.ref))) := stay_lst hbg2
          have st4 : Stay K (upd (upd H2 b (.lst ((V.str n :: vs) ++ [u2]))) bg (.lst (bs'.reverse.map V.ref))) (upd (upd (upd H2 b (.lst ((V.str n :: vs) ++ [u2]))) bg (.lst (bs'.reverse.map V.ref))) t (.tup ((V.str n :: vs) ++ [u2]))) := stay_new ht' _
          have st5 := (st2.trans st3).trans st4
          have nbt : bg ≠ t := ne_of_none upd_same ht'
          refine ⟨_, rfl, _, _, rfl, rfl, fr'.length, Nat.lt_succ_self _, at2 + 1, bs', fr', mkN n (ds ++ [c2]), .ref t, rfl, rfl, ?_, ?_, ?_, ?_, by omega⟩
          · refine ⟨(same_mut sm2 I2.b0).trans (same_new ht' _), I2.b0, by rw [upd_ne nbt]; exact upd_same, Frs.mono (fun x hx o e => ?_) st5 ht, List.nodup_cons.mpr ⟨fun h => hndp.1 (List.mem_cons_of_mem _ h), hnd2.2⟩, fun x hx => I2.fresh x (List.mem_cons_of_mem _ hx), fun x hx => I2.fok x (List.mem_cons_of_mem _ hx), ?_, by omega⟩
            · obtain ⟨o', ho'⟩ := Frs.mem ht x hx
              have h1 : (upd (upd H2 b (.lst ((V.str n :: vs) ++ [u2]))) bg (.lst (bs'.reverse.map V.ref))) x = some o := by rw [upd_ne (nbg' x hx), upd_ne (nb' x hx)]; exact e
              rw [upd_ne (ne_of_none h1 ht')]
              exact h1
            · have := congrArg List.length hd3
              rw [List.length_drop, cs_len, List.length_append] at this
              have e1 : (cs par2).length = 1 := by decide +kernel
              omega
          · refine kp_mk (xs := vs ++ [u2]) (mkN_nm _ _).2 ?_ ?_ ?_
            · rw [(mkN_nm _ _).1]
              exact .inl (.inl upd_same)
            · rw [(mkN_nm _ _).1]
              have := (isNam_iff.mp hfo1).2.1
              omega
            · rw [mkN_args _ _ (by rw [List.length_append, List.length_singleton]; omega)]
              exact Kps.app (ThAll.stay st5 hvs) (.cons (hu2.stay st5) .nil)
          · exact hp2
          · have e3 : (cs line).drop (at2 + 1) = ((cs line).drop at2).drop 1 := by rw [List.drop_drop]
            rw [e3, hd3]
            have e1 : cs par2 = [41] := by decide +kernel
            rw [e1]
            rfl
        | cons a as' =>
          have hd3 : (cs line).drop at2 = cs par1 ++ (a.txt ++ aft post ((n, ds ++ [c2], as') :: fr')) := by
            rw [hd2]
            have e1 : cs par1 = [44, 32] := by decide +kernel
            rw [e1]
            show (44 :: 32 :: (a.txt ++ argsT as')) ++ 41 :: aft post fr' = [44, 32] ++ (a.txt ++ (argsT as' ++ 41 :: aft post fr'))
            simp
          refine ⟨_, rfl, rfl, _, rfl, _, _, _, rfl, rfl, _, rfl, ?_⟩
          refine iteN (sw3_no (y := par2) (c := 41) (r := []) (by decide +kernel) fun r' z => ?_) ?_
          · rw [hd3] at z
            have e1 : cs par1 = [44, 32] := by decide +kernel
            rw [e1] at z
            injection z with z1 _
            cases z1
          refine ⟨_, rfl, _, .inl ⟨_, SqL.of I2.hb, rfl⟩, ?_⟩
          refine iteN (by rw [ktr]; rfl) ?_
          refine ⟨_, rfl, 1, rfl, bg, _, -1, _, rfl, rfl, SqL.of hbg, atI_last _ _, .inl ⟨rfl, _, SqL.of hbv⟩, _, rfl, b, _, u2, rfl, rfl, hbv, hvlen, ?_⟩
          have hds : ds.length = 0 := by rw [List.length_cons] at hfo2; omega
          refine ⟨_, rfl, 1, rfl, bg, _, -1, _, rfl, rfl, SqL.of hbg2, atI_last _ _, b, _, rfl, .inl (SqL.of hbv2), _, _, rfl, rfl, _, rfl, ?_⟩
          refine iteN (decide_eq_false ?_) ?_
          · rw [List.length_append, List.length_cons, List.length_singleton]
            omega
          refine ⟨_, rfl, rfl, _, rfl, _, _, _, rfl, rfl, _, rfl, ?_⟩
          refine iteN (by show (!Txt.startswith3 line par1 ((at2 : Nat) : Int)) = false; rw [sw3_yes (y := par1) (by decide +kernel) hd3]; rfl) ?_
          have hlp := congrArg List.length hd3
          rw [List.length_drop, cs_len, List.length_append] at hlp
          have e1l : (cs par1).length = 2 := by decide +kernel
          refine ⟨_, rfl, _, _, rfl, rfl, at2 + 2, b :: bs', (n, ds ++ [c2], as') :: fr', a, _, _, by omega, rfl, ?_, hfo.2.2 a List.mem_cons_self, ?_, ?_⟩
          · refine ⟨sm2, I2.b0, ?_, .cons ⟨vs ++ [u2], upd_same, Kps.app (ThAll.stay st2 hvs) (.cons (hu2.stay st2) .nil)⟩ (Frs.mono (fun x hx o e => by rw [upd_ne (nb' x hx)]; exact e) st2 ht), I2.nd, I2.fresh, fun x hx => ?_, by omega, by rw [List.length_cons]; omega⟩
            · rw [List.reverse_cons, List.map_append]
              exact hbg2
            · rcases List.mem_cons.mp hx with rfl | hx
              · refine ⟨hfo1, ?_, fun z hz => hfo.2.2 z (List.mem_cons_of_mem _ hz)⟩
                rw [List.length_cons] at hfo2
                show (ds ++ [c2]).length + 1 + as'.length ≤ 2
                rw [List.length_append, List.length_singleton]
                omega
              · exact I2.fok x (List.mem_cons_of_mem _ hx)
          · rw [← hp2]
            show plug fr' (mkN n ((ds ++ [c2]) ++ a :: as')) = plug fr' (mkN n (ds ++ c2 :: a :: as'))
            rw [List.append_assoc]
            rfl
          · have e3 : (cs line).drop (at2 + 2) = ((cs line).drop at2).drop 2 := by rw [List.drop_drop]
            rw [e3, hd3]
            have e1 : cs par1 = [44, 32] := by decide +kernel
            rw [e1]
            rfl
  · have hnx : isNam c.nm = true := by rw [ec] at cok ⊢; exact cok
    have hlx : isLet c.nm = false := by
      cases e : isLet c.nm with
      | false => rfl
      | true => rw [let_not_nam e] at hnx; cases hnx
    have hdr : (cs line).drop (at_ + c.nm.length) = aft post fr := by rw [hdr0, ec]; rfl
    refine iteE hnx ?_
    refine ⟨_, rfl, rfl, _, rfl, _, _, _, rfl, rfl, _, rfl, ?_⟩
    refine iteN (sw3_no (y := par0) (c := 40) (r := []) (i := at_ + c.nm.length) (by decide +kernel) fun r' z => ?_) ?_
    · rw [hdr] at z
      exact (hao 40 r' z).2 rfl
    refine ⟨_, rfl, .str c.nm, .str c.nm, rfl, .str _ hnl, _, rfl, ?_⟩
    refine iteN (by show (!isNam c.nm) = false; rw [hnx]; rfl) ?_
    refine ⟨_, rfl, .str c.nm, .str c.nm, rfl, .str _ hnl, _, rfl, ?_⟩
    refine iteN hlx ⟨_, rfl, by show 1 ≤ sizeLine; decide, fun tt htt => ?_⟩
    · have nbtt : bg ≠ tt := ne_of_none I.hb htt
      have hI : ScI K H (upd H' tt (.tup [.str c.nm])) bg line (at_ + c.nm.length) bs fr := ⟨I.sm.trans (same_new htt _), I.b0, by rw [upd_ne nbtt]; exact I.hb, Frs.mono (fun x hx o e => same_new htt _ _ _ e) (stay_new htt _) I.fs, I.nd, I.fresh, I.fok, by omega, by omega⟩
      have hu : Kp K (upd H' tt (.tup [.str c.nm])) (.ref tt) c := kp_mk (xs := []) (by rw [ec]; rfl) (.inl (.inl upd_same)) hnl (by rw [ec]; exact .nil)
      refine ⟨fun m σ2 H2 => ∃ (at2 : Nat) (bs2 : List Addr) (fr2 : List Fra) (c2 : Kd) (u2 : V), m = fr2.length ∧ σ2 = [some (.str line), some (.int (at2 : Nat)), some (.ref bg), some (.str c.nm), some u2] ∧ ScI K H H2 bg line at2 bs2 fr2 ∧ Kp K H2 u2 c2 ∧ plug fr2 c2 = k ∧ (cs line).drop at2 = aft post fr2 ∧ at_ < at2,
        ⟨_, at_ + c.nm.length, bs, fr, c, _, rfl, rfl, hI, hu, hplug, hdr, by omega⟩, fun m σ2 H2 hW2 => ?_⟩
      obtain ⟨at2, bs2, fr2, c2, u2, rfl, rfl, I2, hu2, hp2, hd2, hlt2⟩ := hW2
      refine ⟨_, rfl, _, .inl ⟨_, SqL.of I2.hb, rfl⟩, ?_⟩
      have hfs := I2.fs
      cases hfs with
      | nil =>
        refine iteF ?_
        refine ⟨_, rfl, _, .inl ⟨_, SqL.of I2.hb, rfl⟩, ?_⟩
        refine iteT ⟨_, rfl, _, rfl, by show 2 ≤ sizeLine; decide, fun p hp => ?_⟩
        have ek : c2 = k := hp2
        subst ek
        have hl0 := congrArg List.length hd0
        have hl2 := congrArg List.length hd2
        rw [List.length_drop, cs_len] at hl0 hl2
        rw [List.length_append] at hl0
        have hl3 : line.length - at2 = post.length := hl2
        have hlen2 := I2.len
        have e : at2 = a0 + c2.txt.length := by omega
        refine q _ p u2 (I2.sm.trans (same_new hp _)) ?_ (hu2.stay (stay_new hp _))
        rw [← e]
        exact upd_same
      | @cons b f bs' fr' hb1 ht =>
        obtain ⟨n, ds, as⟩ := f
        obtain ⟨vs, hbv, hvs⟩ := hb1
        have hvl : vs.length = ds.length := Kps.length hvs
        have hfo := I2.fok (n, ds, as) List.mem_cons_self
        have hfo1 : isNam n = true := hfo.1
        have hfo2 : ds.length + 1 + as.length ≤ 2 := hfo.2.1
        have hbg : H2 bg = some (.lst (bs'.reverse.map V.ref ++ [V.ref b])) := by
          have := I2.hb
          rw [List.reverse_cons, List.map_append] at this
          exact this
        have hndp := List.nodup_cons.mp I2.nd
        have hnd2 := List.nodup_cons.mp hndp.2
        have nbg : bg ≠ b := fun e => hndp.1 (by rw [e]; exact List.mem_cons_self)
        have nbg' : ∀ x ∈ bs', x ≠ bg := fun x hx e => hndp.1 (by rw [← e]; exact List.mem_cons_of_mem _ hx)
        have nb' : ∀ x ∈ bs', x ≠ b := fun x hx e => hnd2.1 (by rw [← e]; exact hx)
        have hblen := I2.bl
        have hlen2 := I2.len
        have hbfr : H b = none := I2.fresh b List.mem_cons_self
        rw [List.length_cons] at hblen
        have ktr : (!((b :: bs').reverse.map V.ref).isEmpty) = true := by
          rw [List.reverse_cons, List.map_append]
          exact snoc_ne _ _
        refine iteE ktr ?_
        have hvlen : ((V.str n :: vs).length) < sizeLine := Nat.lt_of_le_of_lt (show _ ≤ 100000 by rw [List.length_cons]; omega) (by decide)
        have hbv2 : (upd H2 b (.lst ((V.str n :: vs) ++ [u2]))) b = some (.lst ((V.str n :: vs) ++ [u2])) := upd_same
        have hbg2 : (upd H2 b (.lst ((V.str n :: vs) ++ [u2]))) bg = some (.lst (bs'.reverse.map V.ref ++ [V.ref b])) := by rw [upd_ne nbg]; exact hbg
        have st2 : Stay K H2 (upd H2 b (.lst ((V.str n :: vs) ++ [u2]))) := stay_lst hbv
        have sm2 : Same H (upd H2 b (.lst ((V.str n :: vs) ++ [u2]))) := same_mut I2.sm hbfr
        cases as with
        | nil =>
          have hd3 : (cs line).drop at2 = cs par2 ++ aft post fr' := hd2
          refine ⟨_, rfl, rfl, _, rfl, _, _, _, rfl, rfl, _, rfl, ?_⟩
          refine iteE (sw3_yes (by decide +kernel) hd3) ?_
          refine ⟨_, fun σ3 H3 h => h, ?_⟩
          refine ⟨_, rfl, 1, rfl, bg, _, -1, _, rfl, rfl, SqL.of hbg, atI_last _ _, .inl ⟨rfl, _, SqL.of hbv⟩, _, rfl, b, _, u2, rfl, rfl, hbv, hvlen, ?_⟩
          refine ⟨_, rfl, .inl ⟨rfl, _, SqL.of hbg2⟩, bg, _, .ref b, rfl, rfl, hbg2, snoc_last _ _, ?_⟩
          rw [List.dropLast_concat]
          have hbv3 : (upd (upd H2 b (.lst ((V.str n :: vs) ++ [u2]))) bg (.lst (bs'.reverse.map V.ref))) b = some (.lst ((V.str n :: vs) ++ [u2])) := by rw [upd_ne nbg.symm]; exact hbv2
          refine ⟨b, _, rfl, .inl ⟨SqL.of hbv3, fun t ht' => ?_⟩⟩
          have st3 : Stay K (upd H2 b (.lst ((V.str n :: vs) ++ [u2]))) (upd (upd H2 b (.lst ((V.str n :: vs) ++ [u2]))) bg (.lst (bs'.reverse.map V.ref))) := stay_lst hbg2
          have st4 : Stay K (upd (upd H2 b (.lst ((V.str n :: vs) ++ [u2]))) bg (.lst (bs'.reverse.map V.ref))) (upd (upd (upd H2 b (.lst ((V.str n :: vs) ++ [u2]))) bg (.lst (bs'.reverse.map V.ref))) t (.tup ((V.str n :: vs) ++ [u2]))) := stay_new ht' _
          have st5 := (st2.trans st3).trans st4
          have nbt : bg ≠ t := ne_of_none upd_same ht'
          refine ⟨_, rfl, _, _, rfl, rfl, fr'.length, Nat.lt_succ_self _, at2 + 1, bs', fr', mkN n (ds ++ [c2]), .ref t, rfl, rfl, ?_, ?_, ?_, ?_, by omega⟩
          · refine ⟨(same_mut sm2 I2.b0).trans (same_new ht' _), I2.b0, by rw [upd_ne nbt]; exact upd_same, Frs.mono (fun x hx o e => ?_) st5 ht, List.nodup_cons.mpr ⟨fun h => hndp.1 (List.mem_cons_of_mem _ h), hnd2.2⟩, fun x hx => I2.fresh x (List.mem_cons_of_mem _ hx), fun x hx => I2.fok x (List.mem_cons_of_mem _ hx), ?_, by omega⟩
            · obtain ⟨o', ho'⟩ := Frs.mem ht x hx
              have h1 : (upd (upd H2 b (.lst ((V.str n :: vs) ++ [u2]))) bg (.lst (bs'.reverse.map V.ref))) x = some o := by rw [upd_ne (nbg' x hx), upd_ne (nb' x hx)]; exact e
              rw [upd_ne (ne_of_none h1 ht')]
              exact h1
            · have := congrArg List.length hd3
              rw [List.length_drop, cs_len, List.length_append] at this
              have e1 : (cs par2).length = 1 := by decide +kernel
              omega
          · refine kp_mk (xs := vs ++ [u2]) (mkN_nm _ _).2 ?_ ?_ ?_
            · rw [(mkN_nm _ _).1]
              exact .inl (.inl upd_same)
            · rw [(mkN_nm _ _).1]
              have := (isNam_iff.mp hfo1).2.1
              omega
            · rw [mkN_args _ _ (by rw [List.length_append, List.length_singleton]; omega)]
              exact Kps.app (ThAll.stay st5 hvs) (.cons (hu2.stay st5) .nil)
          · exact hp2
          · have e3 : (cs line).drop (at2 + 1) = ((cs line).drop at2).drop 1 := by rw [List.drop_drop]
            rw [e3, hd3]
            have e1 : cs par2 = [41] := by decide +kernel
            rw [e1]
            rfl
        | cons a as' =>
          have hd3 : (cs line).drop at2 = cs par1 ++ (a.txt ++ aft post ((n, ds ++ [c2], as') :: fr')) := by
            rw [hd2]
            have e1 : cs par1 = [44, 32] := by decide +kernel
            rw [e1]
            show (44 :: 32 :: (a.txt ++ argsT as')) ++ 41 :: aft post fr' = [44, 32] ++ (a.txt ++ (argsT as' ++ 41 :: aft post fr'))
            simp
          refine ⟨_, rfl, rfl, _, rfl, _, _, _, rfl, rfl, _, rfl, ?_⟩
          refine iteN (sw3_no (y := par2) (c := 41) (r := []) (by decide +kernel) fun r' z => ?_) ?_
          · rw [hd3] at z
            have e1 : cs par1 = [44, 32] := by decide +kernel
            rw [e1] at z
            injection z with z1 _
            cases z1
          refine ⟨_, rfl, _, .inl ⟨_, SqL.of I2.hb, rfl⟩, ?_⟩
          refine iteN (by rw [ktr]; rfl) ?_
          refine ⟨_, rfl, 1, rfl, bg, _, -1, _, rfl, rfl, SqL.of hbg, atI_last _ _, .inl ⟨rfl, _, SqL.of hbv⟩, _, rfl, b, _, u2, rfl, rfl, hbv, hvlen, ?_⟩
          have hds : ds.length = 0 := by rw [List.length_cons] at hfo2; omega
          refine ⟨_, rfl, 1, rfl, bg, _, -1, _, rfl, rfl, SqL.of hbg2, atI_last _ _, b, _, rfl, .inl (SqL.of hbv2), _, _, rfl, rfl, _, rfl, ?_⟩
          refine iteN (decide_eq_false ?_) ?_
          · rw [List.length_append, List.length_cons, List.length_singleton]
            omega
          refine ⟨_, rfl, rfl, _, rfl, _, _, _, rfl, rfl, _, rfl, ?_⟩
          refine iteN (by show (!Txt.startswith3 line par1 ((at2 : Nat) : Int)) = false; rw [sw3_yes (y := par1) (by decide +kernel) hd3]; rfl) ?_
          have hlp := congrArg List.length hd3
          rw [List.length_drop, cs_len, List.length_append] at hlp
          have e1l : (cs par1).length = 2 := by decide +kernel
          refine ⟨_, rfl, _, _, rfl, rfl, at2 + 2, b :: bs', (n, ds ++ [c2], as') :: fr', a, _, _, by omega, rfl, ?_, hfo.2.2 a List.mem_cons_self, ?_, ?_⟩
          · refine ⟨sm2, I2.b0, ?_, .cons ⟨vs ++ [u2], upd_same, Kps.app (ThAll.stay st2 hvs) (.cons (hu2.stay st2) .nil)⟩ (Frs.mono (fun x hx o e => by rw [upd_ne (nb' x hx)]; exact e) st2 ht), I2.nd, I2.fresh, fun x hx => ?_, by omega, by rw [List.length_cons]; omega⟩
            · rw [List.reverse_cons, List.map_append]
              exact hbg2
            · rcases List.mem_cons.mp hx with rfl | hx
              · refine ⟨hfo1, ?_, fun z hz => hfo.2.2 z (List.mem_cons_of_mem _ hz)⟩
                rw [List.length_cons] at hfo2
                show (ds ++ [c2]).length + 1 + as'.length ≤ 2
                rw [List.length_append, List.length_singleton]
                omega
              · exact I2.fok x (List.mem_cons_of_mem _ hx)
          · rw [← hp2]
            show plug fr' (mkN n ((ds ++ [c2]) ++ a :: as')) = plug fr' (mkN n (ds ++ c2 :: a :: as'))
            rw [List.append_assoc]
            rfl
          · have e3 : (cs line).drop (at2 + 2) = ((cs line).drop at2).drop 2 := by rw [List.drop_drop]
            rw [e3, hd3]
            have e1 : cs par1 = [44, 32] := by decide +kernel
            rw [e1]
            rfl
  · have hnx : isNam c.nm = true := by cases c <;> simp [Kd.args] at ec <;> exact cok.1
    have htl : tailT c = cs par0 ++ (a.txt ++ (argsT as ++ [41])) := by
      have e1 : cs par0 = [40] := by decide +kernel
      rw [e1]
      cases c with
      | L x => cases ec
      | C0 n => cases ec
      | C1 n a' => cases ec; rfl
      | C2 n a' b' => cases ec; simp [tailT, argsT]
    have hargs := Kd.args_ok cok
    rw [ec] at hargs
    have hal := Kd.args_len c
    rw [ec, List.length_cons] at hal
    have hdr : (cs line).drop (at_ + c.nm.length) = cs par0 ++ ((a.txt ++ (argsT as ++ [41])) ++ aft post fr) := by rw [hdr0, htl, List.append_assoc]
    refine iteE hnx ?_
    refine ⟨_, rfl, rfl, _, rfl, _, _, _, rfl, rfl, _, rfl, ?_⟩
    refine iteE (sw3_yes (y := par0) (i := at_ + c.nm.length) (by decide +kernel) hdr) ?_
    refine ⟨_, rfl, .inl ⟨rfl, _, SqL.of I.hb⟩, _, rfl, by show 1 ≤ sizeLine; decide, fun b hb => ?_⟩
    have nbgb : bg ≠ b := ne_of_none I.hb hb
    have hbg1 : (upd H' b (.lst [.str c.nm])) bg = some (.lst (bs.reverse.map V.ref)) := by rw [upd_ne nbgb]; exact I.hb
    refine ⟨bg, _, .ref b, rfl, rfl, hbg1, ?_, ?_⟩
    · rw [List.length_map, List.length_reverse]
      exact Nat.lt_of_le_of_lt (show _ ≤ 100000 by omega) (by decide)
    have hlp := congrArg List.length hdr
    rw [List.length_drop, cs_len, List.length_append] at hlp
    have e1l : (cs par0).length = 1 := by decide +kernel
    have hbfr : H b = none := I.sm.free hb
    have nbb : ∀ x ∈ bs, x ≠ b := fun x hx e => by
      obtain ⟨o, ho⟩ := Frs.mem I.fs x hx
      rw [e, hb] at ho
      cases ho
    have hndp := List.nodup_cons.mp I.nd
    have st : Stay K H' (upd (upd H' b (.lst [.str c.nm])) bg (.lst (bs.reverse.map V.ref ++ [.ref b]))) := (stay_new hb _).trans (stay_lst hbg1)
    refine ⟨_, rfl, _, _, rfl, rfl, at_ + c.nm.length + 1, b :: bs, (c.nm, [], as) :: fr, a, _, _, by omega, rfl, ?_, hargs a List.mem_cons_self, ?_, ?_⟩
    · refine ⟨same_mut (I.sm.trans (same_new hb _)) I.b0, I.b0, ?_, .cons ⟨[], by rw [upd_ne nbgb.symm]; exact upd_same, .nil⟩ (Frs.mono (fun x hx o e => ?_) st I.fs), ?_, fun x hx => ?_, fun x hx => ?_, by omega, by rw [List.length_cons]; omega⟩
      · rw [List.reverse_cons, List.map_append]
        exact upd_same
      · rw [upd_ne (fun e2 => hndp.1 (by rw [← e2]; exact hx)), upd_ne (nbb x hx)]
        exact e
      · refine List.nodup_cons.mpr ⟨fun h => ?_, List.nodup_cons.mpr ⟨fun h => nbb b h rfl, hndp.2⟩⟩
        rcases List.mem_cons.mp h with h | h
        · exact nbgb h
        · exact hndp.1 h
      · rcases List.mem_cons.mp hx with rfl | hx
        · exact hbfr
        · exact I.fresh x hx
      · rcases List.mem_cons.mp hx with rfl | hx
        · exact ⟨hnx, by show 0 + 1 + as.length ≤ 2; omega, fun z hz => hargs z (List.mem_cons_of_mem _ hz)⟩
        · exact I.fok x hx
    · rw [← hplug]
      show plug fr (mkN c.nm ([] ++ a :: as)) = plug fr c
      have e2 : mkN c.nm (a :: as) = c := by
        cases c with
        | L x => cases ec
        | C0 n => cases ec
        | C1 n a' => cases ec; rfl
        | C2 n a' b' => cases ec; rfl
      rw [List.nil_append, e2]
    · rw [← List.drop_drop, hdr]
      have e1 : cs par0 = [40] := by decide +kernel
      rw [e1]
      show (a.txt ++ (argsT as ++ [41])) ++ aft post fr = a.txt ++ (argsT as ++ 41 :: aft post fr)
      simp
end
end N

namespace N
open PySem PySem.Spec PyProof.Rows L2 StX
section
variable {P : Program} {w : World} {K : PySem.W.Frag} {mg : Str → Option Value} {base : Heap}
def spRead (K : PySem.W.Frag) : Sp := fun vs H Q _ => ∃ (line : Str) (k : Kd), vs = [.str line] ∧ line.length ≤ 100000 ∧ cs line = k.txt ∧ k.ok ∧ ∀ H' u, Same H H' → Kp K H' u k → Q u H'
theorem ok_read (G : Glo mg) (CS : Cal P w K mg base 2 "scan" ["line", "at"] (spScan K)) (D : DefAt K mg "read" s_read ["text"]) : Cal P w K mg base 3 "read" ["text"] (spRead K) := by
  refine D.cal sc_read (fun vs H Q E h => ?_) (fun f cdv A outer s H vs Q E hr h => ?_)
  · obtain ⟨line, k, rfl, _⟩ := h
    rfl
  obtain ⟨line, k, rfl, hll, ht, hok, q⟩ := h
  refine ⟨_, pss_cons (ps_if (pt_not (pt_val (pe_isi G.isinstance G.str b_str rfl rfl (pv 0)))) (pss_one ps_never) pss_nil)
    (pss_cons (ps_asg (pc CS hr rfl (pa_cons (pv 0) (pa_cons pe_int pa_nil))) (pg_tup (by rfl) (pgs_cons (pg_name (i := 1) sc_read.nd rfl (Or.inl rfl)) (pgs_cons (pg_name (i := 2) sc_read.nd rfl (Or.inl rfl)) pgs_nil))))
    (pss_cons (ps_if (pt_cmpR op_lt (pv 2) (pe_callB call_len_str (by rfl) G.len PySem.boot_len (pa_cons (pv 0) pa_nil)) (nomark _)) (pss_one ps_never) pss_nil)
    (pss_one (ps_ret (pv 1))))), ?_⟩
  refine ⟨_, rfl, isi_q (b := true) (.base (.str line)) (kit_ty (by decide +kernel)) ⟨_, rfl, ?_⟩⟩
  refine ⟨_, rfl, line, 0, k, [], rfl, hll, by rw [List.drop_zero, ht, List.append_nil], Nat.zero_le _, hok, fun c r e => (by cases e), fun H1 p u sm hp hu => ?_⟩
  refine ⟨p, _, rfl, .inl (.inl hp), rfl, u, [_], rfl, _, [], rfl, rfl, ?_⟩
  refine ⟨_, rfl, _, rfl, line, rfl, sz5 hll, _, _, rfl, rfl, _, rfl, ?_⟩
  have e : line.length = k.txt.length := by rw [← cs_len, ht]
  refine iteN (decide_eq_false (by rw [e]; omega)) ⟨u, rfl, q H1 u sm hu⟩
end
end N

namespace N
open PySem PySem.Spec PyProof.Rows L2 StX
/-! ### word_at and scan, of any line -/
section
variable {P : Program} {w : World} {K : PySem.W.Frag} {mg : Str → Option Value} {base : Heap}
def spWordG : Sp := fun vs H Q _ => ∃ (line : Str) (at_ : Nat), vs = [.str line, .int (at_ : Nat)] ∧ line.length ≤ 100000 ∧ at_ ≤ line.length ∧
  ∀ t : Str, cs t = ((cs line).drop at_).take t.length → at_ + t.length ≤ line.length → t.length ≤ 9 → Q (.str t) H
theorem ok_word_g (G : Glo mg) (D : DefAt K mg "word_at" s_word_at ["line", "at"]) : Cal P w K mg base 1 "word_at" ["line", "at"] spWordG := by
  obtain ⟨t8, h8⟩ := G.LN
  refine D.cal sc_word_at (fun vs H Q E h => ?_) (fun f cdv A outer s H vs Q E hr h => ?_)
  · obtain ⟨line, a, rfl, _⟩ := h
    rfl
  obtain ⟨line, a, rfl, hll, hal, q⟩ := h
  refine ⟨_, pss_cons (ps_set (i := 2) sc_word_at.nd rfl (Or.inl rfl) (pv 1))
    (pss_cons (ps_while (passes_of rfl) (PW.pt (pw_and (pt_cmpR op_lt (pv 2) (pe_callB call_len_str (by rfl) G.len PySem.boot_len (pa_cons (pv 0) pa_nil)) (nomark _))
        (pw_and (pt_cmpR op_le (pe_op op_sub (pv 2) (pv 1)) (pe_glob (v := .int 8) rfl h8 ⟨_, rfl⟩) (nomark _))
          (pw_and1 (pt_val (pe_m0 PySem.F.slot_str_isalpha PySem.F.type_str_isalpha mt_isalpha (pe_ix ix_str (pv 0) (pv 2) (fun _ _ => rfl))))))))
      (pss_one (ps_aug (i := 2) sc_word_at.nd rfl (.inl rfl) pe_int ip_add)))
    (pss_one (ps_ret (pe_slice sl_str (pv 0) (po_some (pv 1)) (po_some (pv 2)))))), ?_⟩
  refine ⟨_, rfl, fun m σ H' => ∃ j : Nat, m = line.length - (a + j) ∧ a + j ≤ line.length ∧ j ≤ 9 ∧ σ = [some (.str line), some (.int (a : Nat)), some (.int ((a + j : Nat) : Int))] ∧ H' = H, ⟨_, 0, rfl, by omega, by omega, rfl, rfl⟩, fun m σ H' hW => ?_⟩
  obtain ⟨j, rfl, hj, hj9, rfl, rfl⟩ := hW
  have fin : Q (.str (cutS line (some (a : Int)) (some ((a + j : Nat) : Int)))) H' := by
    have e := cutS_cs line a (a + j) (by omega) hj
    have el : (cutS line (some (a : Int)) (some ((a + j : Nat) : Int))).length = j := by
      rw [← cs_len, e, List.length_take, List.length_drop, cs_len]
      omega
    refine q _ ?_ (by rw [el]; exact hj) (by rw [el]; exact hj9)
    rw [e, el, Nat.add_sub_cancel_left]
  refine ⟨_, rfl, _, rfl, line, rfl, sz5 hll, _, _, rfl, rfl, _, rfl, ?_⟩
  by_cases hlt : a + j < line.length
  · refine iteE (decide_eq_true (by omega)) ⟨_, rfl, _, rfl, _, _, rfl, rfl, _, _, rfl, rfl, _, rfl, ?_⟩
    by_cases h9 : j ≤ 8
    · refine iteE (decide_eq_true (by omega)) ?_
      have hsz : a + j < (cs line).length := by rw [cs_len]; exact hlt
      have hget : (cs line)[a + j]? = some (cs line)[a + j] := List.getElem?_eq_getElem hsz
      refine ⟨_, rfl, _, rfl, line, _, (cs line)[a + j], rfl, rfl, sz5 hll, atI_nat hget, ⟨_, rfl⟩, _, rfl, rfl, trivial, _, rfl, ?_⟩
      refine ite2 (fun c => ?_) (fun c => ?_)
      · refine ⟨fun σ2 H2 => ∃ j2 : Nat, line.length - (a + j2) < line.length - (a + j) ∧ a + j2 ≤ line.length ∧ j2 ≤ 9 ∧ σ2 = [some (.str line), some (.int (a : Nat)), some (.int ((a + j2 : Nat) : Int))] ∧ H2 = H', fun σ2 H2 ⟨j2, a1, a2, a3, a4, a5⟩ => ⟨_, a1, j2, rfl, a2, a3, a4, a5⟩, ?_⟩
        refine ⟨_, rfl, _, _, rfl, rfl, j + 1, by omega, by omega, by omega, ?_, rfl⟩
        show [some (V.str line), some (V.int (a : Nat)), some (V.int (((a + j : Nat) : Int) + 1))] = _
        have : (((a + j : Nat) : Int) + 1) = ((a + (j + 1) : Nat) : Int) := by omega
        rw [this]
      · exact ⟨_, rfl, _, rfl, _, rfl, _, rfl, _, rfl, line, rfl, sz5 hll, fin⟩
    · refine iteN (decide_eq_false (by omega)) ?_
      exact ⟨_, rfl, _, rfl, _, rfl, _, rfl, _, rfl, line, rfl, sz5 hll, fin⟩
  · refine iteN (decide_eq_false (by omega)) ?_
    exact ⟨_, rfl, _, rfl, _, rfl, _, rfl, _, rfl, line, rfl, sz5 hll, fin⟩
theorem sw3_get {x y : Str} {i : Nat} (h : Txt.startswith3 x y (i : Int) = true) : (cs x).drop i = cs y ++ (cs x).drop (i + y.length) ∧ i + y.length ≤ x.length := by
  rw [sw3, decide_eq_true_eq] at h
  obtain ⟨h1, h2⟩ := h
  refine ⟨?_, h1⟩
  have := List.take_append_drop y.length ((cs x).drop i)
  rw [h2, List.drop_drop] at this
  exact this.symm
/-- what is read ahead of the kind that is under way -/
def preT : List Fra → List Nat
  | [] => []
  | f :: fr => preT fr ++ (cs f.1 ++ 40 :: f.2.1.flatMap fun a => a.txt ++ [44, 32])
theorem mk_txt {n : Str} {ds : List Kd} {c : Kd} (h : ds.length ≤ 1) : (mkN n (ds ++ [c])).txt = cs n ++ 40 :: (ds.flatMap fun a => a.txt ++ [44, 32]) ++ (c.txt ++ [41]) := by
  match ds, h with
  | [], _ => simp [mkN, Kd.txt]
  | [d], _ => simp [mkN, Kd.txt]
theorem mk_okk {n : Str} {ds : List Kd} {c : Kd} (h : ds.length ≤ 1) (hn : isNam n = true) (hd : ∀ d ∈ ds, d.ok) (hc : c.ok) : (mkN n (ds ++ [c])).ok := by
  match ds, h with
  | [], _ => exact ⟨hn, hc⟩
  | [d], _ => exact ⟨hn, hd d List.mem_cons_self, hc⟩
def FrK (fr : List Fra) : Prop := ∀ f ∈ fr, f.2.2 = [] ∧ ∀ d ∈ f.2.1, d.ok
end
end N

namespace N
open PySem PySem.Spec PyProof.Rows L2 StX
section
variable {P : Program} {w : World} {K : PySem.W.Frag} {mg : Str → Option Value} {base : Heap}
/-- scan, of any line: what it returns is a kind that stands there, or NoText -/
def spScanX (K : PySem.W.Frag) (C : Addr) : Sp := fun vs H Q E => ∃ (line : Str) (a0 : Nat), vs = [.str line, .int (a0 : Nat)] ∧ line.length ≤ 100000 ∧ a0 ≤ line.length ∧ (∀ H', Same H H' → E (.ref C) none H') ∧
  ∀ H' p u (k : Kd) (n : Nat), Same H H' → H' p = some (.tup [u, .int (n : Nat)]) → Kp K H' u k → k.ok → (cs line).drop a0 = k.txt ++ (cs line).drop n → n ≤ line.length → Q (.ref p) H'
theorem ok_scanX {C : Addr} (G : Glo mg) (X2 : ExcAt K mg "NoText" C) (CW : Cal P w K mg base 1 "word_at" ["line", "at"] spWordG) (CN : Cal P w K mg base 1 "is_name" ["thing"] (spTest K Tg.isNm)) (CL : Cal P w K mg base 1 "is_letter" ["thing"] (spTest K Tg.isL)) (D : DefAt K mg "scan" s_scan ["line", "at"]) : Cal P w K mg base 2 "scan" ["line", "at"] (spScanX K C) := by
  obtain ⟨t2, h2⟩ := G.MA
  refine D.cal sc_scan (fun vs H Q E h => ?_) (fun f cdv A outer s H vs Q E hr h => ?_)
  · obtain ⟨line, a, rfl, _⟩ := h
    rfl
  obtain ⟨line, a0, rfl, hll, ha0, qE, q⟩ := h
  refine ⟨_, pss_cons (ps_set (i := 2) sc_scan.nd rfl (Or.inl rfl) (pe_lst pa_nil))
    (pss_one (ps_while (passes_of rfl) (pt_val pe_bl)
      (pss_cons (ps_set (i := 3) sc_scan.nd rfl (Or.inl rfl) (pc CW hr rfl (pa_cons (pv 0) (pa_cons (pv 1) pa_nil))))
      (pss_cons (ps_aug (i := 1) sc_scan.nd rfl (.inl rfl) (pe_callB call_len_str (by rfl) G.len PySem.boot_len (pa_cons (pv 3) pa_nil)) ip_add)
      (pss_cons (ps_if (PW.pt (pw_and (pt_val (pc CN hr rfl (pa_cons (pv 3) pa_nil))) (pw_and1 (pt_val (pe_bm PySem.F.plainAttrs_str PySem.F.slot_str_startswith PySem.F.type_str_startswith mt_startswith3 (pv 0) (pa_cons pe_str (pa_cons (pv 1) pa_nil)))))))
        (pss_cons (ps_expr (pe_bm PySem.F.plainAttrs_list PySem.F.slot_list_append PySem.F.type_list_append mt_append (pv 2) (pa_cons (pe_lst (pa_cons (pv 3) pa_nil)) pa_nil)))
        (pss_cons (ps_aug (i := 1) sc_scan.nd rfl (.inl rfl) pe_int ip_add) (pss_one ps_continue))) pss_nil)
      (pss_cons (ps_if (PW.pt (pw_and (pt_not (pt_val (pc CN hr rfl (pa_cons (pv 3) pa_nil)))) (pw_and1 (pt_not (pt_val (pc CL hr rfl (pa_cons (pv 3) pa_nil))))))) (pss_one (ps_raise rfl (takes_of rfl rfl rfl rfl) (pmk_own PySem.F.excBase_ValueError X2.x X2.g X2.k (raises_own X2.b X2.t) rfl))) pss_nil)
      (pss_cons (ps_set (i := 4) sc_scan.nd rfl (Or.inl rfl) (pe_ifExp (pt_val (pc CL hr rfl (pa_cons (pv 3) pa_nil))) (pv 3) (pe_tup (pa_cons (pv 3) pa_nil))))
      (pss_cons (ps_while (passes_of rfl) (PW.pt (pw_and (pt_truth (pv 2) (by intro _; rfl)) (pw_and1 (pt_val (pe_bm PySem.F.plainAttrs_str PySem.F.slot_str_startswith PySem.F.type_str_startswith mt_startswith3 (pv 0) (pa_cons pe_str (pa_cons (pv 1) pa_nil)))))))
        (pss_cons (ps_expr (pe_bm PySem.F.plainAttrs_list PySem.F.slot_list_append PySem.F.type_list_append mt_append (pe_ix ix_list (pv 2) (pe_un un_neg pe_int) (fun _ _ => rfl)) (pa_cons (pv 4) pa_nil)))
        (pss_cons (ps_set (i := 4) sc_scan.nd rfl (Or.inl rfl) (pe_callTy call_tuple_of (by rfl) G.tuple b_tuple (pa_cons (pe_bm0 PySem.F.plainAttrs_list PySem.F.slot_list_pop PySem.F.type_list_pop mt_pop (pv 2)) pa_nil)))
        (pss_one (ps_aug (i := 1) sc_scan.nd rfl (.inl rfl) pe_int ip_add)))))
      (pss_cons (ps_if (pt_not (pt_truth (pv 2) (by intro _; rfl))) (pss_one (ps_ret (pe_tup (pa_cons (pv 4) (pa_cons (pv 1) pa_nil))))) pss_nil)
      (pss_cons (ps_expr (pe_bm PySem.F.plainAttrs_list PySem.F.slot_list_append PySem.F.type_list_append mt_append (pe_ix ix_list (pv 2) (pe_un un_neg pe_int) (fun _ _ => rfl)) (pa_cons (pv 4) pa_nil)))
      (pss_cons (ps_if (PW.pt (pw_or (pt_cmpR op_gt (pe_callB call_len_seq (by rfl) G.len PySem.boot_len (pa_cons (pe_ix ix_list (pv 2) (pe_un un_neg pe_int) (fun _ _ => rfl)) pa_nil)) (pe_glob (v := .int 2) rfl h2 ⟨_, rfl⟩) (nomark _))
          (pw_or1 (pt_not (pt_val (pe_bm PySem.F.plainAttrs_str PySem.F.slot_str_startswith PySem.F.type_str_startswith mt_startswith3 (pv 0) (pa_cons pe_str (pa_cons (pv 1) pa_nil)))))))) (pss_one (ps_raise rfl (takes_of rfl rfl rfl rfl) (pmk_own PySem.F.excBase_ValueError X2.x X2.g X2.k (raises_own X2.b X2.t) rfl))) pss_nil)
      (pss_one (ps_aug (i := 1) sc_scan.nd rfl (.inl rfl) pe_int ip_add))))))))))))), ?_⟩
  refine ⟨by show 0 ≤ sizeLine; decide, fun bg hbg0 => ?_⟩
  refine ⟨fun m σ H' => ∃ (at_ : Nat) (bs : List Addr) (fr : List Fra) (y3 y4 : Option V), m = line.length - at_ ∧ σ = [some (.str line), some (.int (at_ : Nat)), some (.ref bg), y3, y4] ∧ ScI K H H' bg line at_ bs fr ∧ FrK fr ∧ (cs line).drop a0 = preT fr ++ (cs line).drop at_,
    ⟨_, a0, [], [], _, _, rfl, rfl, ⟨same_new hbg0 _, hbg0, upd_same, .nil, by simp, fun b h => (by cases h), fun f h => (by cases h), ha0, Nat.zero_le _⟩, fun f h => (by cases h), rfl⟩, fun m σ H' hW => ?_⟩
  obtain ⟨at_, bs, fr, y3, y4, rfl, rfl, I, hk, hd⟩ := hW
  refine ⟨true, rfl, iteT ?_⟩
  refine ⟨fun σ2 H2 => ∃ (at2 : Nat) (bs : List Addr) (fr : List Fra) (y3 y4 : Option V), line.length - at2 < line.length - at_ ∧ σ2 = [some (.str line), some (.int (at2 : Nat)), some (.ref bg), y3, y4] ∧ ScI K H H2 bg line at2 bs fr ∧ FrK fr ∧ (cs line).drop a0 = preT fr ++ (cs line).drop at2,
    fun σ2 H2 ⟨at2, bs, fr, y3, y4, a1, a2, a3, a4, a5⟩ => ⟨_, a1, at2, bs, fr, y3, y4, rfl, a2, a3, a4, a5⟩, ?_⟩
  have hIl := I.len
  have hIb := I.bl
  refine ⟨_, rfl, _, rfl, line, at_, rfl, hll, hIl, fun t ht hat ht9 => ?_⟩
  have hdt : (cs line).drop at_ = cs t ++ (cs line).drop (at_ + t.length) := by
    have := List.take_append_drop t.length ((cs line).drop at_)
    rw [← ht, List.drop_drop] at this
    exact this.symm
  have hnl : t.length ≤ 100000 := by omega
  refine ⟨_, rfl, _, rfl, t, rfl, sz5 hnl, _, _, rfl, rfl, ?_⟩
  refine ⟨_, rfl, .str t, .str t, rfl, .str _ hnl, _, rfl, ?_⟩
  cases hnam : isNam t with
  | true =>
    have hl1 := (isNam_iff.mp hnam).1
    have hlx : isLet t = false := by
      cases e : isLet t with
      | false => rfl
      | true => rw [let_not_nam e] at hnam; cases hnam
    refine iteE hnam ?_
    refine ⟨_, rfl, rfl, _, rfl, _, _, _, rfl, rfl, _, rfl, ?_⟩
    refine ite2 (fun sw => ?_) (fun sw => ?_)
    · obtain ⟨hd3, hl3⟩ := sw3_get (y := par0) (i := at_ + t.length) sw
      have e1l : par0.length = 1 := by decide +kernel
      have e1c : cs par0 = [40] := by decide +kernel
      rw [e1l] at hd3 hl3
      rw [e1c] at hd3
      refine ⟨_, rfl, .inl ⟨rfl, _, SqL.of I.hb⟩, _, rfl, by show 1 ≤ sizeLine; decide, fun b hb => ?_⟩
      have nbgb : bg ≠ b := ne_of_none I.hb hb
      have hbg1 : (upd H' b (.lst [.str t])) bg = some (.lst (bs.reverse.map V.ref)) := by rw [upd_ne nbgb]; exact I.hb
      refine ⟨bg, _, .ref b, rfl, rfl, hbg1, ?_, ?_⟩
      · rw [List.length_map, List.length_reverse]
        exact Nat.lt_of_le_of_lt (show _ ≤ 100000 by omega) (by decide)
      have hbfr : H b = none := I.sm.free hb
      have nbb : ∀ x ∈ bs, x ≠ b := fun x hx e => by
        obtain ⟨o, ho⟩ := Frs.mem I.fs x hx
        rw [e, hb] at ho
        cases ho
      have hndp := List.nodup_cons.mp I.nd
      have st : Stay K H' (upd (upd H' b (.lst [.str t])) bg (.lst (bs.reverse.map V.ref ++ [.ref b]))) := (stay_new hb _).trans (stay_lst hbg1)
      refine ⟨_, rfl, _, _, rfl, rfl, at_ + t.length + 1, b :: bs, (t, [], []) :: fr, _, _, by omega, rfl, ?_, ?_, ?_⟩
      · refine ⟨same_mut (I.sm.trans (same_new hb _)) I.b0, I.b0, ?_, .cons ⟨[], by rw [upd_ne nbgb.symm]; exact upd_same, .nil⟩ (Frs.mono (fun x hx o e => ?_) st I.fs), ?_, fun x hx => ?_, fun x hx => ?_, hl3, by rw [List.length_cons]; omega⟩
        · rw [List.reverse_cons, List.map_append]
          exact upd_same
        · rw [upd_ne (fun e2 => hndp.1 (by rw [← e2]; exact hx)), upd_ne (nbb x hx)]
          exact e
        · refine List.nodup_cons.mpr ⟨fun h => ?_, List.nodup_cons.mpr ⟨fun h => nbb b h rfl, hndp.2⟩⟩
          rcases List.mem_cons.mp h with h | h
          · exact nbgb h
          · exact hndp.1 h
        · rcases List.mem_cons.mp hx with rfl | hx
          · exact hbfr
          · exact I.fresh x hx
        · rcases List.mem_cons.mp hx with rfl | hx
          · exact ⟨hnam, by show 0 + 1 + 0 ≤ 2; omega, fun z hz => by cases hz⟩
          · exact I.fok x hx
      · intro x hx
        rcases List.mem_cons.mp hx with rfl | hx
        · exact ⟨rfl, fun d hdm => by cases hdm⟩
        · exact hk x hx
      · rw [hd, hdt, hd3]
        simp [preT, List.append_assoc]
    · refine ⟨_, rfl, .str t, .str t, rfl, .str _ hnl, _, rfl, ?_⟩
      refine iteN (by show (!isNam t) = false; rw [hnam]; rfl) ?_
      refine ⟨_, rfl, .str t, .str t, rfl, .str _ hnl, _, rfl, ?_⟩
      refine iteN hlx ⟨_, rfl, by show 1 ≤ sizeLine; decide, fun tt htt => ?_⟩
      have nbtt : bg ≠ tt := ne_of_none I.hb htt
      have hI : ScI K H (upd H' tt (.tup [.str t])) bg line (at_ + t.length) bs fr := ⟨I.sm.trans (same_new htt _), I.b0, by rw [upd_ne nbtt]; exact I.hb, Frs.mono (fun x hx o e => same_new htt _ _ _ e) (stay_new htt _) I.fs, I.nd, I.fresh, I.fok, by omega, by omega⟩
      obtain ⟨c, ec⟩ : ∃ c : Kd, c = .C0 t := ⟨_, rfl⟩
      have hu : Kp K (upd H' tt (.tup [.str t])) (.ref tt) c := kp_mk (xs := []) (by rw [ec]; rfl) (by rw [ec]; exact .inl (.inl upd_same)) (by rw [ec]; exact hnl) (by rw [ec]; exact .nil)
      have hc : c.ok := by rw [ec]; exact hnam
      have htx : c.txt = cs t := by rw [ec]; rfl
      refine ⟨fun m σ2 H2 => ∃ (at2 : Nat) (bs2 : List Addr) (fr2 : List Fra) (c2 : Kd) (u2 : V), m = fr2.length ∧ σ2 = [some (.str line), some (.int (at2 : Nat)), some (.ref bg), some (.str t), some u2] ∧ ScI K H H2 bg line at2 bs2 fr2 ∧ FrK fr2 ∧ Kp K H2 u2 c2 ∧ c2.ok ∧ (cs line).drop a0 = preT fr2 ++ (c2.txt ++ (cs line).drop at2) ∧ at_ < at2,
        ⟨_, at_ + t.length, bs, fr, c, _, rfl, rfl, hI, hk, hu, hc, by rw [hd, hdt, htx], by omega⟩, fun m σ2 H2 hW2 => ?_⟩
      obtain ⟨at2, bs2, fr2, c2, u2, rfl, rfl, I2, hk2, hu2, hc2, hd2, hlt2⟩ := hW2
      refine ⟨_, rfl, _, .inl ⟨_, SqL.of I2.hb, rfl⟩, ?_⟩
      have hfs := I2.fs
      cases hfs with
      | nil =>
        refine iteF ?_
        refine ⟨_, rfl, _, .inl ⟨_, SqL.of I2.hb, rfl⟩, ?_⟩
        refine iteT ⟨_, rfl, _, rfl, by show 2 ≤ sizeLine; decide, fun p hp => ?_⟩
        exact q _ p u2 c2 at2 (I2.sm.trans (same_new hp _)) upd_same (hu2.stay (stay_new hp _)) hc2 hd2 I2.len
      | @cons b f bs' fr' hb1 ht' =>
        obtain ⟨n, ds, as⟩ := f
        obtain ⟨vs, hbv, hvs⟩ := hb1
        have hvl : vs.length = ds.length := Kps.length hvs
        have hfo := I2.fok (n, ds, as) List.mem_cons_self
        have hfo1 : isNam n = true := hfo.1
        have hfo2 : ds.length + 1 + as.length ≤ 2 := hfo.2.1
        obtain ⟨eas, hds⟩ := hk2 (n, ds, as) List.mem_cons_self
        have eas' : as = [] := eas
        subst eas'
        have hds' : ∀ d ∈ ds, d.ok := hds
        have hk3 : FrK fr' := fun x hx => hk2 x (List.mem_cons_of_mem _ hx)
        have hbg : H2 bg = some (.lst (bs'.reverse.map V.ref ++ [V.ref b])) := by
          have := I2.hb
          rw [List.reverse_cons, List.map_append] at this
          exact this
        have hndp := List.nodup_cons.mp I2.nd
        have hnd2 := List.nodup_cons.mp hndp.2
        have nbg : bg ≠ b := fun e => hndp.1 (by rw [e]; exact List.mem_cons_self)
        have nbg' : ∀ x ∈ bs', x ≠ bg := fun x hx e => hndp.1 (by rw [← e]; exact List.mem_cons_of_mem _ hx)
        have nb' : ∀ x ∈ bs', x ≠ b := fun x hx e => hnd2.1 (by rw [← e]; exact hx)
        have hblen := I2.bl
        have hlen2 := I2.len
        have hbfr : H b = none := I2.fresh b List.mem_cons_self
        rw [List.length_cons] at hblen
        have ktr : (!((b :: bs').reverse.map V.ref).isEmpty) = true := by
          rw [List.reverse_cons, List.map_append]
          exact snoc_ne _ _
        refine iteE ktr ?_
        have hvlen : ((V.str n :: vs).length) < sizeLine := Nat.lt_of_le_of_lt (show _ ≤ 100000 by rw [List.length_cons]; omega) (by decide)
        have hbv2 : (upd H2 b (.lst ((V.str n :: vs) ++ [u2]))) b = some (.lst ((V.str n :: vs) ++ [u2])) := upd_same
        have hbg2 : (upd H2 b (.lst ((V.str n :: vs) ++ [u2]))) bg = some (.lst (bs'.reverse.map V.ref ++ [V.ref b])) := by rw [upd_ne nbg]; exact hbg
        have st2 : Stay K H2 (upd H2 b (.lst ((V.str n :: vs) ++ [u2]))) := stay_lst hbv
        have sm2 : Same H (upd H2 b (.lst ((V.str n :: vs) ++ [u2]))) := same_mut I2.sm hbfr
        refine ⟨_, rfl, rfl, _, rfl, _, _, _, rfl, rfl, _, rfl, ?_⟩
        refine ite2 (fun sw => ?_) (fun sw => ?_)
        · obtain ⟨hd3, hl3⟩ := sw3_get (y := par2) sw
          have e1l : par2.length = 1 := by decide +kernel
          have e1c : cs par2 = [41] := by decide +kernel
          rw [e1l] at hd3 hl3
          rw [e1c] at hd3
          refine ⟨_, fun σ3 H3 h => h, ?_⟩
          refine ⟨_, rfl, 1, rfl, bg, _, -1, _, rfl, rfl, SqL.of hbg, atI_last _ _, .inl ⟨rfl, _, SqL.of hbv⟩, _, rfl, b, _, u2, rfl, rfl, hbv, hvlen, ?_⟩
          refine ⟨_, rfl, .inl ⟨rfl, _, SqL.of hbg2⟩, bg, _, .ref b, rfl, rfl, hbg2, snoc_last _ _, ?_⟩
          rw [List.dropLast_concat]
          have hbv3 : (upd (upd H2 b (.lst ((V.str n :: vs) ++ [u2]))) bg (.lst (bs'.reverse.map V.ref))) b = some (.lst ((V.str n :: vs) ++ [u2])) := by rw [upd_ne nbg.symm]; exact hbv2
          refine ⟨b, _, rfl, .inl ⟨SqL.of hbv3, fun tt ht2 => ?_⟩⟩
          have st3 : Stay K (upd H2 b (.lst ((V.str n :: vs) ++ [u2]))) (upd (upd H2 b (.lst ((V.str n :: vs) ++ [u2]))) bg (.lst (bs'.reverse.map V.ref))) := stay_lst hbg2
          have st4 : Stay K (upd (upd H2 b (.lst ((V.str n :: vs) ++ [u2]))) bg (.lst (bs'.reverse.map V.ref))) (upd (upd (upd H2 b (.lst ((V.str n :: vs) ++ [u2]))) bg (.lst (bs'.reverse.map V.ref))) tt (.tup ((V.str n :: vs) ++ [u2]))) := stay_new ht2 _
          have st5 := (st2.trans st3).trans st4
          have nbt : bg ≠ tt := ne_of_none upd_same ht2
          have hd1 : ds.length ≤ 1 := by simp only [List.length_nil] at hfo2; omega
          refine ⟨_, rfl, _, _, rfl, rfl, fr'.length, Nat.lt_succ_self _, at2 + 1, bs', fr', mkN n (ds ++ [c2]), .ref tt, rfl, rfl, ?_, hk3, ?_, mk_okk hd1 hfo1 hds' hc2, ?_, by omega⟩
          · refine ⟨(same_mut sm2 I2.b0).trans (same_new ht2 _), I2.b0, by rw [upd_ne nbt]; exact upd_same, Frs.mono (fun x hx o e => ?_) st5 ht', List.nodup_cons.mpr ⟨fun h => hndp.1 (List.mem_cons_of_mem _ h), hnd2.2⟩, fun x hx => I2.fresh x (List.mem_cons_of_mem _ hx), fun x hx => I2.fok x (List.mem_cons_of_mem _ hx), hl3, by omega⟩
            obtain ⟨o', ho'⟩ := Frs.mem ht' x hx
            have h1 : (upd (upd H2 b (.lst ((V.str n :: vs) ++ [u2]))) bg (.lst (bs'.reverse.map V.ref))) x = some o := by rw [upd_ne (nbg' x hx), upd_ne (nb' x hx)]; exact e
            rw [upd_ne (ne_of_none h1 ht2)]
            exact h1
          · refine kp_mk (xs := vs ++ [u2]) (mkN_nm _ _).2 ?_ ?_ ?_
            · rw [(mkN_nm _ _).1]
              exact .inl (.inl upd_same)
            · rw [(mkN_nm _ _).1]
              have := (isNam_iff.mp hfo1).2.1
              omega
            · rw [mkN_args _ _ (by rw [List.length_append, List.length_singleton]; omega)]
              exact Kps.app (ThAll.stay st5 hvs) (.cons (hu2.stay st5) .nil)
          · rw [hd2, hd3, mk_txt hd1]
            simp [preT, List.append_assoc]
        · refine ⟨_, rfl, _, .inl ⟨_, SqL.of I2.hb, rfl⟩, ?_⟩
          refine iteN (by rw [ktr]; rfl) ?_
          refine ⟨_, rfl, 1, rfl, bg, _, -1, _, rfl, rfl, SqL.of hbg, atI_last _ _, .inl ⟨rfl, _, SqL.of hbv⟩, _, rfl, b, _, u2, rfl, rfl, hbv, hvlen, ?_⟩
          refine ⟨_, rfl, 1, rfl, bg, _, -1, _, rfl, rfl, SqL.of hbg2, atI_last _ _, b, _, rfl, .inl (SqL.of hbv2), _, _, rfl, rfl, _, rfl, ?_⟩
          refine ite2 (fun big => ?_) (fun big => ?_)
          · exact qE _ sm2
          have big' : ¬ ((((V.str n :: vs) ++ [u2]).length : Nat) : Int) > 2 := of_decide_eq_false (Bool.eq_false_iff.mpr big)
          rw [List.length_append, List.length_cons, List.length_singleton] at big'
          refine ⟨_, rfl, rfl, _, rfl, _, _, _, rfl, rfl, _, rfl, ?_⟩
          refine ite2 (fun nsw => ?_) (fun nsw => ?_)
          · exact qE _ sm2
          have ysw : Txt.startswith3 line par1 ((at2 : Nat) : Int) = true := by
            cases z : Txt.startswith3 line par1 ((at2 : Nat) : Int) with
            | true => rfl
            | false => exact absurd (show (!Txt.startswith3 line par1 ((at2 : Nat) : Int)) = true by rw [z]; rfl) nsw
          obtain ⟨hd4, hl4⟩ := sw3_get (y := par1) ysw
          have e2l : par1.length = 2 := by decide +kernel
          have e2c : cs par1 = [44, 32] := by decide +kernel
          rw [e2l] at hd4 hl4
          rw [e2c] at hd4
          refine ⟨_, rfl, _, _, rfl, rfl, at2 + 2, b :: bs', (n, ds ++ [c2], []) :: fr', _, _, by omega, rfl, ?_, ?_, ?_⟩
          · refine ⟨sm2, I2.b0, ?_, .cons ⟨vs ++ [u2], upd_same, Kps.app (ThAll.stay st2 hvs) (.cons (hu2.stay st2) .nil)⟩ (Frs.mono (fun x hx o e => by rw [upd_ne (nb' x hx)]; exact e) st2 ht'), I2.nd, I2.fresh, fun x hx => ?_, hl4, by rw [List.length_cons]; omega⟩
            · rw [List.reverse_cons, List.map_append]
              exact hbg2
            · rcases List.mem_cons.mp hx with rfl | hx
              · refine ⟨hfo1, ?_, fun z hz => by cases hz⟩
                show (ds ++ [c2]).length + 1 + 0 ≤ 2
                rw [List.length_append, List.length_singleton]
                omega
              · exact I2.fok x (List.mem_cons_of_mem _ hx)
          · intro x hx
            rcases List.mem_cons.mp hx with rfl | hx
            · refine ⟨rfl, fun d hdm => ?_⟩
              rcases List.mem_append.mp hdm with h | h
              · exact hds' d h
              · rw [List.mem_singleton.mp h]; exact hc2
            · exact hk3 x hx
          · rw [hd2, hd4]
            simp [preT, List.append_assoc]
  | false =>
    refine iteN hnam ?_
    refine ⟨_, rfl, .str t, .str t, rfl, .str _ hnl, _, rfl, ?_⟩
    refine iteE (by show (!isNam t) = true; rw [hnam]; rfl) ?_
    refine ⟨_, rfl, .str t, .str t, rfl, .str _ hnl, _, rfl, ?_⟩
    cases hlx : isLet t with
    | false =>
      refine iteE (by show (!isLet t) = true; rw [hlx]; rfl) ?_
      exact qE _ I.sm
    | true =>
      refine iteN (by show (!isLet t) = false; rw [hlx]; rfl) ?_
      have hl1 : t.length = 1 := by
        obtain ⟨x, e, _⟩ := isLet_iff.mp hlx
        have e' : cs t = [x] := e
        rw [← cs_len, e']
        rfl
      refine ⟨_, rfl, .str t, .str t, rfl, .str _ hnl, _, rfl, ?_⟩
      refine iteE hlx ⟨_, rfl, ?_⟩
      have hI : ScI K H H' bg line (at_ + t.length) bs fr := ⟨I.sm, I.b0, I.hb, I.fs, I.nd, I.fresh, I.fok, by omega, by omega⟩
      obtain ⟨c, ec⟩ : ∃ c : Kd, c = .L t := ⟨_, rfl⟩
      have hu : Kp K H' (.str t) c := by
        have e2 : c.tg = .str t := by rw [ec]; rfl
        show Th K H' (.str t) c.tg
        rw [e2]
        exact .str _ hnl
      have hc : c.ok := by rw [ec]; exact hlx
      have htx : c.txt = cs t := by rw [ec]; rfl
      refine ⟨fun m σ2 H2 => ∃ (at2 : Nat) (bs2 : List Addr) (fr2 : List Fra) (c2 : Kd) (u2 : V), m = fr2.length ∧ σ2 = [some (.str line), some (.int (at2 : Nat)), some (.ref bg), some (.str t), some u2] ∧ ScI K H H2 bg line at2 bs2 fr2 ∧ FrK fr2 ∧ Kp K H2 u2 c2 ∧ c2.ok ∧ (cs line).drop a0 = preT fr2 ++ (c2.txt ++ (cs line).drop at2) ∧ at_ < at2,
        ⟨_, at_ + t.length, bs, fr, c, _, rfl, rfl, hI, hk, hu, hc, by rw [hd, hdt, htx], by omega⟩, fun m σ2 H2 hW2 => ?_⟩
      obtain ⟨at2, bs2, fr2, c2, u2, rfl, rfl, I2, hk2, hu2, hc2, hd2, hlt2⟩ := hW2
      refine ⟨_, rfl, _, .inl ⟨_, SqL.of I2.hb, rfl⟩, ?_⟩
      have hfs := I2.fs
      cases hfs with
      | nil =>
        refine iteF ?_
        refine ⟨_, rfl, _, .inl ⟨_, SqL.of I2.hb, rfl⟩, ?_⟩
        refine iteT ⟨_, rfl, _, rfl, by show 2 ≤ sizeLine; decide, fun p hp => ?_⟩
        exact q _ p u2 c2 at2 (I2.sm.trans (same_new hp _)) upd_same (hu2.stay (stay_new hp _)) hc2 hd2 I2.len
      | @cons b f bs' fr' hb1 ht' =>
        obtain ⟨n, ds, as⟩ := f
        obtain ⟨vs, hbv, hvs⟩ := hb1
        have hvl : vs.length = ds.length := Kps.length hvs
        have hfo := I2.fok (n, ds, as) List.mem_cons_self
        have hfo1 : isNam n = true := hfo.1
        have hfo2 : ds.length + 1 + as.length ≤ 2 := hfo.2.1
        obtain ⟨eas, hds⟩ := hk2 (n, ds, as) List.mem_cons_self
        have eas' : as = [] := eas
        subst eas'
        have hds' : ∀ d ∈ ds, d.ok := hds
        have hk3 : FrK fr' := fun x hx => hk2 x (List.mem_cons_of_mem _ hx)
        have hbg : H2 bg = some (.lst (bs'.reverse.map V.ref ++ [V.ref b])) := by
          have := I2.hb
          rw [List.reverse_cons, List.map_append] at this
          exact this
        have hndp := List.nodup_cons.mp I2.nd
        have hnd2 := List.nodup_cons.mp hndp.2
        have nbg : bg ≠ b := fun e => hndp.1 (by rw [e]; exact List.mem_cons_self)
        have nbg' : ∀ x ∈ bs', x ≠ bg := fun x hx e => hndp.1 (by rw [← e]; exact List.mem_cons_of_mem _ hx)
        have nb' : ∀ x ∈ bs', x ≠ b := fun x hx e => hnd2.1 (by rw [← e]; exact hx)
        have hblen := I2.bl
        have hlen2 := I2.len
        have hbfr : H b = none := I2.fresh b List.mem_cons_self
        rw [List.length_cons] at hblen
        have ktr : (!((b :: bs').reverse.map V.ref).isEmpty) = true := by
          rw [List.reverse_cons, List.map_append]
          exact snoc_ne _ _
        refine iteE ktr ?_
        have hvlen : ((V.str n :: vs).length) < sizeLine := Nat.lt_of_le_of_lt (show _ ≤ 100000 by rw [List.length_cons]; omega) (by decide)
        have hbv2 : (upd H2 b (.lst ((V.str n :: vs) ++ [u2]))) b = some (.lst ((V.str n :: vs) ++ [u2])) := upd_same
        have hbg2 : (upd H2 b (.lst ((V.str n :: vs) ++ [u2]))) bg = some (.lst (bs'.reverse.map V.ref ++ [V.ref b])) := by rw [upd_ne nbg]; exact hbg
        have st2 : Stay K H2 (upd H2 b (.lst ((V.str n :: vs) ++ [u2]))) := stay_lst hbv
        have sm2 : Same H (upd H2 b (.lst ((V.str n :: vs) ++ [u2]))) := same_mut I2.sm hbfr
        refine ⟨_, rfl, rfl, _, rfl, _, _, _, rfl, rfl, _, rfl, ?_⟩
        refine ite2 (fun sw => ?_) (fun sw => ?_)
        · obtain ⟨hd3, hl3⟩ := sw3_get (y := par2) sw
          have e1l : par2.length = 1 := by decide +kernel
          have e1c : cs par2 = [41] := by decide +kernel
          rw [e1l] at hd3 hl3
          rw [e1c] at hd3
          refine ⟨_, fun σ3 H3 h => h, ?_⟩
          refine ⟨_, rfl, 1, rfl, bg, _, -1, _, rfl, rfl, SqL.of hbg, atI_last _ _, .inl ⟨rfl, _, SqL.of hbv⟩, _, rfl, b, _, u2, rfl, rfl, hbv, hvlen, ?_⟩
          refine ⟨_, rfl, .inl ⟨rfl, _, SqL.of hbg2⟩, bg, _, .ref b, rfl, rfl, hbg2, snoc_last _ _, ?_⟩
          rw [List.dropLast_concat]
          have hbv3 : (upd (upd H2 b (.lst ((V.str n :: vs) ++ [u2]))) bg (.lst (bs'.reverse.map V.ref))) b = some (.lst ((V.str n :: vs) ++ [u2])) := by rw [upd_ne nbg.symm]; exact hbv2
          refine ⟨b, _, rfl, .inl ⟨SqL.of hbv3, fun tt ht2 => ?_⟩⟩
          have st3 : Stay K (upd H2 b (.lst ((V.str n :: vs) ++ [u2]))) (upd (upd H2 b (.lst ((V.str n :: vs) ++ [u2]))) bg (.lst (bs'.reverse.map V.ref))) := stay_lst hbg2
          have st4 : Stay K (upd (upd H2 b (.lst ((V.str n :: vs) ++ [u2]))) bg (.lst (bs'.reverse.map V.ref))) (upd (upd (upd H2 b (.lst ((V.str n :: vs) ++ [u2]))) bg (.lst (bs'.reverse.map V.ref))) tt (.tup ((V.str n :: vs) ++ [u2]))) := stay_new ht2 _
          have st5 := (st2.trans st3).trans st4
          have nbt : bg ≠ tt := ne_of_none upd_same ht2
          have hd1 : ds.length ≤ 1 := by simp only [List.length_nil] at hfo2; omega
          refine ⟨_, rfl, _, _, rfl, rfl, fr'.length, Nat.lt_succ_self _, at2 + 1, bs', fr', mkN n (ds ++ [c2]), .ref tt, rfl, rfl, ?_, hk3, ?_, mk_okk hd1 hfo1 hds' hc2, ?_, by omega⟩
          · refine ⟨(same_mut sm2 I2.b0).trans (same_new ht2 _), I2.b0, by rw [upd_ne nbt]; exact upd_same, Frs.mono (fun x hx o e => ?_) st5 ht', List.nodup_cons.mpr ⟨fun h => hndp.1 (List.mem_cons_of_mem _ h), hnd2.2⟩, fun x hx => I2.fresh x (List.mem_cons_of_mem _ hx), fun x hx => I2.fok x (List.mem_cons_of_mem _ hx), hl3, by omega⟩
            obtain ⟨o', ho'⟩ := Frs.mem ht' x hx
            have h1 : (upd (upd H2 b (.lst ((V.str n :: vs) ++ [u2]))) bg (.lst (bs'.reverse.map V.ref))) x = some o := by rw [upd_ne (nbg' x hx), upd_ne (nb' x hx)]; exact e
            rw [upd_ne (ne_of_none h1 ht2)]
            exact h1
          · refine kp_mk (xs := vs ++ [u2]) (mkN_nm _ _).2 ?_ ?_ ?_
            · rw [(mkN_nm _ _).1]
              exact .inl (.inl upd_same)
            · rw [(mkN_nm _ _).1]
              have := (isNam_iff.mp hfo1).2.1
              omega
            · rw [mkN_args _ _ (by rw [List.length_append, List.length_singleton]; omega)]
              exact Kps.app (ThAll.stay st5 hvs) (.cons (hu2.stay st5) .nil)
          · rw [hd2, hd3, mk_txt hd1]
            simp [preT, List.append_assoc]
        · refine ⟨_, rfl, _, .inl ⟨_, SqL.of I2.hb, rfl⟩, ?_⟩
          refine iteN (by rw [ktr]; rfl) ?_
          refine ⟨_, rfl, 1, rfl, bg, _, -1, _, rfl, rfl, SqL.of hbg, atI_last _ _, .inl ⟨rfl, _, SqL.of hbv⟩, _, rfl, b, _, u2, rfl, rfl, hbv, hvlen, ?_⟩
          refine ⟨_, rfl, 1, rfl, bg, _, -1, _, rfl, rfl, SqL.of hbg2, atI_last _ _, b, _, rfl, .inl (SqL.of hbv2), _, _, rfl, rfl, _, rfl, ?_⟩
          refine ite2 (fun big => ?_) (fun big => ?_)
          · exact qE _ sm2
          have big' : ¬ ((((V.str n :: vs) ++ [u2]).length : Nat) : Int) > 2 := of_decide_eq_false (Bool.eq_false_iff.mpr big)
          rw [List.length_append, List.length_cons, List.length_singleton] at big'
          refine ⟨_, rfl, rfl, _, rfl, _, _, _, rfl, rfl, _, rfl, ?_⟩
          refine ite2 (fun nsw => ?_) (fun nsw => ?_)
          · exact qE _ sm2
          have ysw : Txt.startswith3 line par1 ((at2 : Nat) : Int) = true := by
            cases z : Txt.startswith3 line par1 ((at2 : Nat) : Int) with
            | true => rfl
            | false => exact absurd (show (!Txt.startswith3 line par1 ((at2 : Nat) : Int)) = true by rw [z]; rfl) nsw
          obtain ⟨hd4, hl4⟩ := sw3_get (y := par1) ysw
          have e2l : par1.length = 2 := by decide +kernel
          have e2c : cs par1 = [44, 32] := by decide +kernel
          rw [e2l] at hd4 hl4
          rw [e2c] at hd4
          refine ⟨_, rfl, _, _, rfl, rfl, at2 + 2, b :: bs', (n, ds ++ [c2], []) :: fr', _, _, by omega, rfl, ?_, ?_, ?_⟩
          · refine ⟨sm2, I2.b0, ?_, .cons ⟨vs ++ [u2], upd_same, Kps.app (ThAll.stay st2 hvs) (.cons (hu2.stay st2) .nil)⟩ (Frs.mono (fun x hx o e => by rw [upd_ne (nb' x hx)]; exact e) st2 ht'), I2.nd, I2.fresh, fun x hx => ?_, hl4, by rw [List.length_cons]; omega⟩
            · rw [List.reverse_cons, List.map_append]
              exact hbg2
            · rcases List.mem_cons.mp hx with rfl | hx
              · refine ⟨hfo1, ?_, fun z hz => by cases hz⟩
                show (ds ++ [c2]).length + 1 + 0 ≤ 2
                rw [List.length_append, List.length_singleton]
                omega
              · exact I2.fok x (List.mem_cons_of_mem _ hx)
          · intro x hx
            rcases List.mem_cons.mp hx with rfl | hx
            · refine ⟨rfl, fun d hdm => ?_⟩
              rcases List.mem_append.mp hdm with h | h
              · exact hds' d h
              · rw [List.mem_singleton.mp h]; exact hc2
            · exact hk3 x hx
          · rw [hd2, hd4]
            simp [preT, List.append_assoc]
end
end N

namespace N
open PySem PySem.Spec PyProof.Rows L2 StX
section
variable {P : Program} {w : World} {K : PySem.W.Frag} {mg : Str → Option Value} {base : Heap}
/-- t is the text of the kind k -/
def IsTxt (t : Tg) (k : Kd) : Prop := k.ok ∧ ∃ x, t = .str x ∧ cs x = k.txt
/-- read, of anything -/
def spReadX (K : PySem.W.Frag) (C : Addr) : Sp := fun vs H Q E => ∃ (v : V) (t : Tg), vs = [v] ∧ Th K H v t ∧ (∀ k, IsTxt t k → ∀ H' u, Same H H' → Kp K H' u k → Q u H') ∧ ((∀ k, ¬ IsTxt t k) → ∀ H', Same H H' → E (.ref C) none H')
theorem ok_readX {C : Addr} (G : Glo mg) (X2 : ExcAt K mg "NoText" C) (CS : Cal P w K mg base 2 "scan" ["line", "at"] (spScan K)) (CX : Cal P w K mg base 2 "scan" ["line", "at"] (spScanX K C)) (D : DefAt K mg "read" s_read ["text"]) : Cal P w K mg base 3 "read" ["text"] (spReadX K C) := by
  refine D.cal sc_read (fun vs H Q E h => ?_) (fun f cdv A outer s H vs Q E hr h => ?_)
  · obtain ⟨v, t, rfl, _⟩ := h
    rfl
  obtain ⟨v, t, rfl, hT, q1, q2⟩ := h
  by_cases hv : ∃ k, IsTxt t k
  · obtain ⟨k, hk⟩ := hv
    have hk0 := hk
    obtain ⟨hok, line, rfl, ht⟩ := hk
    cases hT with
    | str _ hll =>
      refine ⟨_, pss_cons (ps_if (pt_not (pt_val (pe_isi G.isinstance G.str b_str rfl rfl (pv 0)))) (pss_one ps_never) pss_nil)
        (pss_cons (ps_asg (pc CS hr rfl (pa_cons (pv 0) (pa_cons pe_int pa_nil))) (pg_tup (by rfl) (pgs_cons (pg_name (i := 1) sc_read.nd rfl (Or.inl rfl)) (pgs_cons (pg_name (i := 2) sc_read.nd rfl (Or.inl rfl)) pgs_nil))))
        (pss_cons (ps_if (pt_cmpR op_lt (pv 2) (pe_callB call_len_str (by rfl) G.len PySem.boot_len (pa_cons (pv 0) pa_nil)) (nomark _)) (pss_one ps_never) pss_nil)
        (pss_one (ps_ret (pv 1))))), ?_⟩
      refine ⟨_, rfl, isi_q (b := true) (.base (.str line)) (kit_ty (by decide +kernel)) ⟨_, rfl, ?_⟩⟩
      refine ⟨_, rfl, line, 0, k, [], rfl, hll, by rw [List.drop_zero, ht, List.append_nil], Nat.zero_le _, hok, fun c r e => (by cases e), fun H1 p u sm hp hu => ?_⟩
      refine ⟨p, _, rfl, .inl (.inl hp), rfl, u, [_], rfl, _, [], rfl, rfl, ?_⟩
      refine ⟨_, rfl, _, rfl, line, rfl, sz5 hll, _, _, rfl, rfl, _, rfl, ?_⟩
      have e : line.length = k.txt.length := by rw [← cs_len, ht]
      refine iteN (decide_eq_false (by rw [e]; omega)) ⟨u, rfl, q1 k hk0 H1 u sm hu⟩
  · have hno : ∀ k, ¬ IsTxt t k := fun k hk => hv ⟨k, hk⟩
    refine ⟨_, pss_cons (ps_if (pt_not (pt_val (pe_isi G.isinstance G.str b_str rfl rfl (pv 0)))) (pss_one (ps_raise rfl (takes_of rfl rfl rfl rfl) (pmk_own PySem.F.excBase_ValueError X2.x X2.g X2.k (raises_own X2.b X2.t) rfl))) pss_nil)
      (pss_cons (ps_asg (pcE (takes_of rfl rfl rfl rfl) CX hr rfl (pa_cons (pv 0) (pa_cons pe_int pa_nil))) (pg_tup (by rfl) (pgs_cons (pg_name (i := 1) sc_read.nd rfl (Or.inl rfl)) (pgs_cons (pg_name (i := 2) sc_read.nd rfl (Or.inl rfl)) pgs_nil))))
      (pss_cons (ps_if (pt_cmpR op_lt (pv 2) (pe_callB call_len_str (by rfl) G.len PySem.boot_len (pa_cons (pv 0) pa_nil)) (nomark _)) (pss_one (ps_raise rfl (takes_of rfl rfl rfl rfl) (pmk_own PySem.F.excBase_ValueError X2.x X2.g X2.k (raises_own X2.b X2.t) rfl))) pss_nil)
      (pss_one (ps_ret (pv 1))))), ?_⟩
    refine ⟨_, rfl, isi_str hT ⟨_, rfl, ?_⟩⟩
    cases hT with
    | oth ty a b => exact iteT (q2 hno H (Same.refl _))
    | tup h r => exact iteT (q2 hno H (Same.refl _))
    | str line hll =>
      refine iteF ?_
      refine ⟨_, rfl, line, 0, rfl, hll, Nat.zero_le _, fun H' sm => q2 hno H' sm, fun H1 p u k n sm hp hu hok hd hn => ?_⟩
      refine ⟨p, _, rfl, .inl (.inl hp), rfl, u, [_], rfl, _, [], rfl, rfl, ?_⟩
      refine ⟨_, rfl, _, rfl, line, rfl, sz5 hll, _, _, rfl, rfl, _, rfl, ?_⟩
      by_cases hlt : n < line.length
      · exact iteE (decide_eq_true (by omega)) (q2 hno H1 sm)
      · have en : (cs line).drop n = [] := List.drop_eq_nil_of_le (by rw [cs_len]; omega)
        rw [List.drop_zero, en, List.append_nil] at hd
        exact absurd ⟨hok, line, rfl, hd⟩ (hno k)
end
end N

namespace N
open PySem PySem.Spec PyProof.Rows L2 StX
/-! ### the law's own reading, as a function -/
def lowB (c : Nat) : Bool := decide (97 ≤ c ∧ c ≤ 122)
def capB (c : Nat) : Bool := decide (65 ≤ c ∧ c ≤ 90)
def sOf (l : List Nat) : Str := ⟨⟨l⟩⟩
theorem cs_sOf (l : List Nat) : cs (sOf l) = l := rfl
theorem sOf_cs (x : Str) : sOf (cs x) = x := cs_inj rfl
def mk0 (w : List Nat) : Option Kd := if isNam (sOf w) = true then some (.C0 (sOf w)) else none
def mk1 (w : List Nat) : Option Kd → Option Kd
  | some a => if isNam (sOf w) = true then some (.C1 (sOf w) a) else none
  | none => none
def mk2 (w : List Nat) : Option Kd → Option Kd → Option Kd
  | some a, some b => if isNam (sOf w) = true then some (.C2 (sOf w) a b) else none
  | _, _ => none
def lr : Nat → List Nat → Option Kd × List Nat
  | 0, l => (none, l)
  | n + 1, l =>
    if capB (l.headD 0) = true then (some (.L (sOf (l.take 1))), l.drop 1)
    else if (l.drop (l.takeWhile lowB).length).take 1 = [40] then
      if (lr n ((l.drop (l.takeWhile lowB).length).drop 1)).2.take 2 = [44, 32] then
        if (lr n ((lr n ((l.drop (l.takeWhile lowB).length).drop 1)).2.drop 2)).2.take 1 = [41] then
          (mk2 (l.takeWhile lowB) (lr n ((l.drop (l.takeWhile lowB).length).drop 1)).1 (lr n ((lr n ((l.drop (l.takeWhile lowB).length).drop 1)).2.drop 2)).1, (lr n ((lr n ((l.drop (l.takeWhile lowB).length).drop 1)).2.drop 2)).2.drop 1)
        else (none, (lr n ((lr n ((l.drop (l.takeWhile lowB).length).drop 1)).2.drop 2)).2)
      else if (lr n ((l.drop (l.takeWhile lowB).length).drop 1)).2.take 1 = [41] then
        (mk1 (l.takeWhile lowB) (lr n ((l.drop (l.takeWhile lowB).length).drop 1)).1, (lr n ((l.drop (l.takeWhile lowB).length).drop 1)).2.drop 1)
      else (none, (lr n ((l.drop (l.takeWhile lowB).length).drop 1)).2)
    else (mk0 (l.takeWhile lowB), l.drop (l.takeWhile lowB).length)
theorem take_pre {l a : List Nat} (h : l.take a.length = a) : l = a ++ l.drop a.length := by
  have := List.take_append_drop a.length l
  rw [h] at this
  exact this.symm
theorem run_pre (l : List Nat) : l = l.takeWhile lowB ++ l.drop (l.takeWhile lowB).length := by
  have h := List.takeWhile_append_dropWhile (p := lowB) (l := l)
  have e : l.drop (l.takeWhile lowB).length = l.dropWhile lowB := (congrArg (List.drop (l.takeWhile lowB).length) h).symm.trans (List.drop_left' rfl)
  rw [e]
  exact h.symm
theorem cap_head {l : List Nat} (h : capB (l.headD 0) = true) : ∃ c r, l = c :: r ∧ capB c = true := by
  cases l with
  | nil => simp [capB] at h
  | cons c r => exact ⟨c, r, rfl, h⟩
theorem cap_let {c : Nat} (h : capB c = true) : isLet (sOf [c]) = true := isLet_iff.mpr ⟨c, rfl, by unfold capB at h; simpa using h⟩
/-- what is returned is a kind that stands there -/
theorem lr_sound : ∀ (n : Nat) (l : List Nat) (k : Kd), (lr n l).1 = some k → k.ok ∧ l = k.txt ++ (lr n l).2 ∧ k.depth ≤ n
  | 0, l, k, h => by cases h
  | n + 1, l, k, h => by
    unfold lr at h ⊢
    split at h
    · rename_i hc
      obtain ⟨c, r, rfl, hc'⟩ := cap_head hc
      have e := Option.some.inj h
      subst e
      rw [if_pos hc]
      exact ⟨cap_let hc', rfl, Nat.zero_le _⟩
    rename_i hc
    rw [if_neg hc]
    have hrun := run_pre l
    split at h
    · rename_i h40
      rw [if_pos h40]
      have e40 := take_pre (a := [40]) h40
      rw [List.length_singleton] at e40
      split at h
      · rename_i h44
        rw [if_pos h44]
        have e44 := take_pre (a := [44, 32]) h44
        rw [show ([44, 32] : List Nat).length = 2 from rfl] at e44
        split at h
        · rename_i h41
          rw [if_pos h41]
          have e41 := take_pre (a := [41]) h41
          rw [List.length_singleton] at e41
          cases ha : (lr n ((l.drop (l.takeWhile lowB).length).drop 1)).1 with
          | none => rw [ha] at h; simp [mk2] at h
          | some a =>
            cases hb : (lr n ((lr n ((l.drop (l.takeWhile lowB).length).drop 1)).2.drop 2)).1 with
            | none => rw [ha, hb] at h; simp [mk2] at h
            | some b =>
              rw [ha, hb] at h
              have h' : (if isNam (sOf (l.takeWhile lowB)) = true then some (Kd.C2 (sOf (l.takeWhile lowB)) a b) else none) = some k := h
              split at h'
              · rename_i hn
                have ek := Option.some.inj h'
                subst ek
                obtain ⟨a1, a2, a3⟩ := lr_sound n _ a ha
                obtain ⟨b1, b2, b3⟩ := lr_sound n _ b hb
                refine ⟨⟨hn, a1, b1⟩, ?_, by simp only [Kd.depth]; omega⟩
                show l = (cs (sOf (l.takeWhile lowB)) ++ ([40] ++ (a.txt ++ ([44, 32] ++ (b.txt ++ [41]))))) ++ _
                rw [cs_sOf]
                conv => lhs; rw [hrun, e40, a2, e44, b2, e41]
                simp
              · cases h'
        · cases h
      · rename_i h44
        rw [if_neg h44]
        split at h
        · rename_i h41
          rw [if_pos h41]
          have e41 := take_pre (a := [41]) h41
          rw [List.length_singleton] at e41
          cases ha : (lr n ((l.drop (l.takeWhile lowB).length).drop 1)).1 with
          | none => rw [ha] at h; simp [mk1] at h
          | some a =>
            rw [ha] at h
            have h' : (if isNam (sOf (l.takeWhile lowB)) = true then some (Kd.C1 (sOf (l.takeWhile lowB)) a) else none) = some k := h
            split at h'
            · rename_i hn
              have ek := Option.some.inj h'
              subst ek
              obtain ⟨a1, a2, a3⟩ := lr_sound n _ a ha
              refine ⟨⟨hn, a1⟩, ?_, by simp only [Kd.depth]; omega⟩
              show l = (cs (sOf (l.takeWhile lowB)) ++ ([40] ++ (a.txt ++ [41]))) ++ _
              rw [cs_sOf]
              conv => lhs; rw [hrun, e40, a2, e41]
              simp
            · cases h'
        · cases h
    · rename_i h40
      rw [if_neg h40]
      have h' : (if isNam (sOf (l.takeWhile lowB)) = true then some (Kd.C0 (sOf (l.takeWhile lowB))) else none) = some k := h
      split at h'
      · rename_i hn
        have ek := Option.some.inj h'
        subst ek
        refine ⟨hn, ?_, by simp only [Kd.depth]; omega⟩
        show l = cs (sOf (l.takeWhile lowB)) ++ _
        rw [cs_sOf]
        exact hrun
      · cases h'
/-- what is left is the end of what there was -/
theorem lr_left : ∀ (n : Nat) (l : List Nat), ∃ pre, l = pre ++ (lr n l).2
  | 0, l => ⟨[], rfl⟩
  | n + 1, l => by
    have hrun := run_pre l
    obtain ⟨p1, e1⟩ := lr_left n ((l.drop (l.takeWhile lowB).length).drop 1)
    obtain ⟨p2, e2⟩ := lr_left n ((lr n ((l.drop (l.takeWhile lowB).length).drop 1)).2.drop 2)
    have d : ∀ (m : Nat) (x : List Nat), ∃ pre, x = pre ++ x.drop m := fun m x => ⟨x.take m, (List.take_append_drop m x).symm⟩
    have tr : ∀ {x y z : List Nat}, (∃ p, x = p ++ y) → (∃ p, y = p ++ z) → ∃ p, x = p ++ z := fun ⟨p, e⟩ ⟨q, f⟩ => ⟨p ++ q, by rw [e, f, List.append_assoc]⟩
    have s0 : ∃ p, l = p ++ (l.drop (l.takeWhile lowB).length).drop 1 := tr ⟨_, hrun⟩ (d 1 _)
    have s1 := tr s0 ⟨p1, e1⟩
    have s2 := tr (tr s1 (d 2 _)) ⟨p2, e2⟩
    unfold lr
    split
    · exact d 1 l
    split
    · split
      · split
        · exact tr s2 (d 1 _)
        · exact s2
      · split
        · exact tr s1 (d 1 _)
        · exact s1
    · exact ⟨_, hrun⟩
def Pst (post : List Nat) : Prop := post = [] ∨ ∃ c r, post = c :: r ∧ (c = 41 ∨ c = 44)
theorem low_run {w post : List Nat} (hw : ∀ c ∈ w, lowB c = true) (hp : ∀ c r, post = c :: r → lowB c = false) : (w ++ post).takeWhile lowB = w := by
  induction w with
  | nil =>
    cases post with
    | nil => rfl
    | cons c r => rw [List.nil_append, List.takeWhile_cons, hp c r rfl]; rfl
  | cons a w ih =>
    rw [List.cons_append, List.takeWhile_cons, hw a List.mem_cons_self, if_pos rfl, ih fun c hc => hw c (List.mem_cons_of_mem _ hc)]
theorem nam_low {x : Str} (h : isNam x = true) : (∀ c ∈ cs x, lowB c = true) ∧ ∃ c r, cs x = c :: r := by
  obtain ⟨h1, h2, h3⟩ := isNam_iff.mp h
  refine ⟨fun c hc => decide_eq_true (h3 c hc), ?_⟩
  cases e : cs x with
  | nil =>
    have := cs_len x
    rw [e] at this
    simp at this
    omega
  | cons c r => exact ⟨c, r, rfl⟩
theorem nam_head {x : Str} (h : isNam x = true) (r : List Nat) : capB ((cs x ++ r).headD 0) = false := by
  obtain ⟨h1, c, r', e⟩ := nam_low h
  have := h1 c (by rw [e]; exact List.mem_cons_self)
  rw [e]
  show capB c = false
  unfold lowB at this
  unfold capB
  have := of_decide_eq_true this
  exact decide_eq_false (by omega)
/-- a kind's text is read -/
theorem lr_full : ∀ (n : Nat) (k : Kd) (post : List Nat), k.ok → k.depth < n → Pst post → lr n (k.txt ++ post) = (some k, post)
  | 0, k, post, _, h, _ => absurd h (Nat.not_lt_zero _)
  | n + 1, .L x, post, hk, _, _ => by
    obtain ⟨c, e, h1, h2⟩ := isLet_iff.mp (show isLet x = true from hk)
    have e' : cs x = [c] := e
    show lr (n + 1) (cs x ++ post) = _
    rw [e']
    unfold lr
    rw [if_pos (show capB (([c] ++ post).headD 0) = true from decide_eq_true ⟨h1, h2⟩)]
    have ex : sOf [c] = x := cs_inj (by rw [cs_sOf, e'])
    show (some (Kd.L (sOf [c])), post) = _
    rw [ex]
  | n + 1, .C0 x, post, hk, _, hp => by
    have hn : isNam x = true := hk
    have hw := (nam_low hn).1
    have hpl : ∀ c r, post = c :: r → lowB c = false := fun c r e => by
      rcases hp with h | ⟨c', r', e', h⟩
      · rw [h] at e; cases e
      · rw [e'] at e
        injection e with e1 _
        rw [← e1]
        rcases h with h | h <;> rw [h] <;> decide
    have hr := low_run hw hpl
    have hd : (cs x ++ post).drop (cs x).length = post := List.drop_left' rfl
    show lr (n + 1) (cs x ++ post) = _
    unfold lr
    rw [if_neg (by rw [nam_head hn post]; exact Bool.false_ne_true), hr, hd, if_neg]
    · show (if isNam (sOf (cs x)) = true then some (Kd.C0 (sOf (cs x))) else none, post) = _
      rw [sOf_cs, if_pos hn]
    · intro z
      rcases hp with h | ⟨c', r', e', h⟩
      · rw [h] at z; cases z
      · rw [e'] at z
        have z' : [c'] = [40] := z
        injection z' with z1 _
        rcases h with h | h <;> rw [h] at z1 <;> cases z1
  | n + 1, .C1 x a, post, hk, hd', hp => by
    have hn : isNam x = true := hk.1
    have ha : a.depth < n := by simp only [Kd.depth] at hd'; omega
    have hw := (nam_low hn).1
    have et : (Kd.C1 x a).txt ++ post = cs x ++ (40 :: (a.txt ++ (41 :: post))) := by
      show (cs x ++ ([40] ++ (a.txt ++ [41]))) ++ post = _
      simp
    have hr : (cs x ++ (40 :: (a.txt ++ (41 :: post)))).takeWhile lowB = cs x := low_run hw fun c r e => by
      injection e with e1 _
      rw [← e1]
      decide
    have hdr : (cs x ++ (40 :: (a.txt ++ (41 :: post)))).drop (cs x).length = 40 :: (a.txt ++ (41 :: post)) := List.drop_left' rfl
    have ih := lr_full n a (41 :: post) hk.2 ha (.inr ⟨41, post, rfl, .inl rfl⟩)
    rw [et]
    unfold lr
    rw [if_neg (by rw [nam_head hn]; exact Bool.false_ne_true), hr, hdr, if_pos (show List.take 1 (40 :: (a.txt ++ 41 :: post)) = [40] from rfl)]
    show (if (lr n (a.txt ++ (41 :: post))).2.take 2 = [44, 32] then _ else if (lr n (a.txt ++ (41 :: post))).2.take 1 = [41] then (mk1 (cs x) (lr n (a.txt ++ (41 :: post))).1, (lr n (a.txt ++ (41 :: post))).2.drop 1) else _) = _
    rw [ih, if_neg (by intro z; cases post <;> cases z), if_pos (show List.take 1 ((some a, 41 :: post) : Option Kd × List Nat).2 = [41] from rfl)]
    show (if isNam (sOf (cs x)) = true then some (Kd.C1 (sOf (cs x)) a) else none, post) = _
    rw [sOf_cs, if_pos hn]
  | n + 1, .C2 x a b, post, hk, hd', hp => by
    have hn : isNam x = true := hk.1
    have ha : a.depth < n := by simp only [Kd.depth] at hd'; omega
    have hb : b.depth < n := by simp only [Kd.depth] at hd'; omega
    have hw := (nam_low hn).1
    have et : (Kd.C2 x a b).txt ++ post = cs x ++ (40 :: (a.txt ++ (44 :: 32 :: (b.txt ++ (41 :: post))))) := by
      show (cs x ++ ([40] ++ (a.txt ++ ([44, 32] ++ (b.txt ++ [41]))))) ++ post = _
      simp
    have hr : (cs x ++ (40 :: (a.txt ++ (44 :: 32 :: (b.txt ++ (41 :: post)))))).takeWhile lowB = cs x := low_run hw fun c r e => by
      injection e with e1 _
      rw [← e1]
      decide
    have hdr : (cs x ++ (40 :: (a.txt ++ (44 :: 32 :: (b.txt ++ (41 :: post)))))).drop (cs x).length = 40 :: (a.txt ++ (44 :: 32 :: (b.txt ++ (41 :: post)))) := List.drop_left' rfl
    have ih := lr_full n a (44 :: 32 :: (b.txt ++ (41 :: post))) hk.2.1 ha (.inr ⟨44, _, rfl, .inr rfl⟩)
    have ih2 := lr_full n b (41 :: post) hk.2.2 hb (.inr ⟨41, post, rfl, .inl rfl⟩)
    rw [et]
    unfold lr
    rw [if_neg (by rw [nam_head hn]; exact Bool.false_ne_true), hr, hdr, if_pos (show List.take 1 (40 :: (a.txt ++ 44 :: 32 :: (b.txt ++ 41 :: post))) = [40] from rfl)]
    show (if (lr n (a.txt ++ (44 :: 32 :: (b.txt ++ (41 :: post))))).2.take 2 = [44, 32] then if (lr n ((lr n (a.txt ++ (44 :: 32 :: (b.txt ++ (41 :: post))))).2.drop 2)).2.take 1 = [41] then (mk2 (cs x) (lr n (a.txt ++ (44 :: 32 :: (b.txt ++ (41 :: post))))).1 (lr n ((lr n (a.txt ++ (44 :: 32 :: (b.txt ++ (41 :: post))))).2.drop 2)).1, (lr n ((lr n (a.txt ++ (44 :: 32 :: (b.txt ++ (41 :: post))))).2.drop 2)).2.drop 1) else _ else _) = _
    rw [ih, if_pos (show List.take 2 ((some a, 44 :: 32 :: (b.txt ++ 41 :: post)) : Option Kd × List Nat).2 = [44, 32] from rfl)]
    show (if (lr n (b.txt ++ (41 :: post))).2.take 1 = [41] then (mk2 (cs x) (some a) (lr n (b.txt ++ (41 :: post))).1, (lr n (b.txt ++ (41 :: post))).2.drop 1) else _) = _
    rw [ih2, if_pos (show List.take 1 ((some b, 41 :: post) : Option Kd × List Nat).2 = [41] from rfl)]
    show (if isNam (sOf (cs x)) = true then some (Kd.C2 (sOf (cs x)) a b) else none, post) = _
    rw [sOf_cs, if_pos hn]
end N

namespace N
open PySem PySem.Spec PyProof.Rows L2
/-! ### exceptions of own classes as values -/
/-- v is an exception of the class at C, with these fields -/
def ExP (H : Hp) (v : V) (C : Addr) (fs : List (Str × V)) : Prop := ∃ a, v = .ref a ∧ ((H a = some (exo a C none) ∧ fs = []) ∨ ∃ d, H a = some (exo a C (some d)) ∧ H d = some (exd d fs))
theorem ExP.same {H H' : Hp} {v : V} {C : Addr} {fs : List (Str × V)} (s : Same H H') (h : ExP H v C fs) : ExP H' v C fs := by
  obtain ⟨a, e, r⟩ := h
  rcases r with ⟨h1, h2⟩ | ⟨d, h1, h2⟩
  · exact ⟨a, e, .inl ⟨s _ _ h1, h2⟩⟩
  · exact ⟨a, e, .inr ⟨d, s _ _ h1, s _ _ h2⟩⟩
abbrev veB : List Value := [.type "ValueError", .type "Exception", .type "BaseException", .type "object"]
section
variable {X : Cx} {pins : List (Addr × Obj)} {σ : L2.St} {H : Hp} {s : Shared}
/-- where it lies -/
theorem exP_at {v : V} {C : Addr} {fs : List (Str × V)} (I : Inv X pins σ H s) (h : ExP H v C fs) : ∃ (a : Addr) (ox : Obj) (od : Option Obj), v = .ref a ∧ PySem.W.InstAt s.heap a ox C od ∧ (fs ≠ [] → ∃ o, od = some o ∧ ∃ mA : Str → Option Value, (∀ n, PySem.W.lookIn n o = some (mA n)) ∧ ∀ f, RelO (fs.lookup f) (mA f)) := by
  obtain ⟨a, e, r⟩ := h
  rcases r with ⟨h1, h2⟩ | ⟨d, h1, h2⟩
  · obtain ⟨t1, ho⟩ := exo_at I.hok h1
    exact ⟨a, _, none, e, ⟨ho, rfl, rfl, trivial⟩, fun n => absurd h2 n⟩
  · obtain ⟨t1, ho⟩ := exo_at I.hok h1
    obtain ⟨mA, hns, rel⟩ := exd_at I.hok h2
    obtain ⟨od, hd, hl⟩ := lookIn_ns hns
    exact ⟨a, _, some od, e, ⟨ho, rfl, rfl, hd⟩, fun _ => ⟨od, rfl, mA, hl, rel⟩⟩
theorem call_ex {C : Addr} {us : List Value} {Q : VK} (I : Inv X pins σ H s) (q : PySem.W.excIn X.K C veB "ValueError.__new__" = true) (hz : us.length ≤ sizeLine) (h : ∀ a, H a = none → Q (.ref a) (upd H a (exo a C none))) :
    wpAny (model X.prog X.w) X.A (call (.ref C) us) (EP X pins σ Q) X.xe s := by
  obtain ⟨bm, Na, nm, qn, bs, hdct, sn, sub, ab, col, dd, k0, k1, k2, k3, k5, mN, hC, hN, hni, T⟩ := exc_obj I.kIn q
  refine wpAny_call_exc_subT PySem.F.excBase_ValueError T hC hN hni (fun h' a hm => ?_) hz
  have hn : H a = none := I.hok.gone hm.new
  obtain ⟨t, ht, _⟩ := hm.there
  exact ⟨.ref a, _, I.laidN hm.keeps hm.new hn (exo_ok ht), rfl, h a hn⟩
end
section
variable {X : Cx} {C : Addr} {x : Str} {p pos : Pos} {e : Expr} {es : List Expr} {t : TA} {te : TE}
/-- C(), C(e, ..), an own class over ValueError without own __init__ -/
theorem pe_ex0 (q : PySem.W.excIn X.K C veB "ValueError.__new__" = true) (gC : X.mg x = some (.ref C)) (kC : PySem.W.keepIn X.K (.ref C) = true) (hg : Gl X x) (hdb : (x == ("__debug__" : Str)) = false := by decide) :
    PE X (.Call (.Name x p) [] [] pos) (fun _ H Q => ∀ a, H a = none → Q (.ref a) (upd H a (exo a C none))) := by
  refine ⟨fun pins s σ H Q I h => wpAny_Call_Name_kw (ld_glob I hg gC ?_ hdb)⟩
  exact PySem.W.callWith_K0 I.kIn kC (call_ex (us := []) I q (Nat.zero_le _) h)
theorem pe_exN (q : PySem.W.excIn X.K C veB "ValueError.__new__" = true) (gC : X.mg x = some (.ref C)) (kC : PySem.W.keepIn X.K (.ref C) = true) (hg : Gl X x) (ha : PA X (e :: es) t) (hdb : (x == ("__debug__" : Str)) = false := by decide)
    (he : starEach (e :: es) X.env = (false, eval e X.env) :: starEach es X.env := by rfl) (hpl : (backTo pos (starEach es X.env)).any (·.1) = false := by rfl) :
    PE X (.Call (.Name x p) (e :: es) [] pos) (fun σ H Q => t σ H fun vs H1 => vs.length ≤ sizeLine ∧ ∀ a, H1 a = none → Q (.ref a) (upd H1 a (exo a C none))) := by
  refine ⟨fun pins s σ H Q I h => wpAny_Call_Name_kw (ld_glob I hg gC ?_ hdb)⟩
  refine PySem.W.callWith_K (h₀ := X.base) I.ok.mod.kin kC (thn (ha.run pos pins s σ H _ I h) fun us s1 z => ?_) he hpl
  obtain ⟨vs, H1, J, r, hz, q1⟩ := z
  exact ⟨J.kIn, (show wpAny _ _ (call (.ref C) us) _ _ _ from call_ex J q (by rw [← r.length]; exact hz) q1)⟩
/-- isinstance(e, c), e such an exception -/
def rIsX (K : PySem.W.Frag) : List V → Hp → VK → Prop := fun xs H Q => ∃ (v c : V) (C : Addr) (fs : List (Str × V)) (cv : Value) (b : Bool), xs = [v, c] ∧ ExP H v C fs ∧ ExcC K C ∧ (∀ u, RelV c u → u = cv) ∧ PySem.W.kitOne K (.ref C) cv = some b ∧ Q (.bl b) H
theorem call_isX : CallR X (.builtin "isinstance") (rIsX X.K) := by
  intro pins s σ H xs us Q I r h
  obtain ⟨v, c, C, fs, cv, b, rfl, hx, T, hcv, e, q⟩ := h
  obtain ⟨a, ox, od, rfl, J, _⟩ := exP_at I hx
  cases r with
  | cons rx rr =>
    cases rr with
    | cons rt rr =>
      cases rr
      cases rx
      have ec := hcv _ rt
      subst ec
      have hcl : (PySem.W.clsIn X.K C).isSome = true := by
        obtain ⟨cd, hc, _⟩ := PySem.W.any_some T.hd
        rw [hc]
        rfl
      exact PySem.W.kia_one (PySem.W.kitx_exc hcl T.hg T.hk T.hs T.ha T.hn T.ht T.hm) I.kIn J e (fun z => nomatch z) fun tk => ⟨.bl b, H, I.kept (t' := tk) fun _ _ z => z, rfl, q⟩
/-- e.f, a field of such an exception -/
theorem pe_exf {n : Str} (he : PE X e te) (hb : attributeBase e n X.env (eval e X.env) = eval e X.env := by rfl) :
    PE X (.Attribute e n pos) (fun σ H Q => te σ H fun x H1 => ∃ (C : Addr) (fs : List (Str × V)) (v : V), ExP H1 x C fs ∧ XfC X.K C ∧ PySem.W.findIn X.K (.ref C) n = some none ∧ fs.lookup n = some v ∧ Q v H1) := by
  refine ⟨fun pins s σ H Q I h => ?_⟩
  refine attr_of hb (thn (he.run pins s σ H _ I h) fun u s1 z => ?_)
  obtain ⟨x, H1, J, rx, C, fs, v, hx, T, hno, hl, q⟩ := z
  obtain ⟨a, ox, od, rfl, A, hf⟩ := exP_at J hx
  obtain rfl : u = Value.ref a := rx
  obtain ⟨o, rfl, mA, hlk, rel⟩ := hf (fun z => by rw [z] at hl; cases hl)
  obtain ⟨u2, hu, ru⟩ := RelO.some_of (v := v) (o := mA n) (by rw [← hl]; exact rel n)
  exact HandSPX.exc_get J.kIn A T.ga T.gg T.exC (PySem.W.findObj_own T.hdC hno rfl (by rw [hlk, hu])) (handed_of ru) ⟨v, H1, J.tok _, ru, q⟩
end
end N

namespace N
open PySem PySem.Spec PyProof.Rows L2 NdefX
/-! ### an own __init__ that begins with super().__init__(..) -/
/-- at u stands the bound ValueError.__init__ of the exception at a -/
def MwO (u a : Addr) : HO := .ext fun h => h.get? u = some (PySem.W.kxs_mw "ValueError.__init__" a)
theorem mwO_ok {P : Program} {w : World} {H : Hp} {h : Heap} {u a : Addr} (e : h.get? u = some (PySem.W.kxs_mw "ValueError.__init__" a)) : ObjOk P w H h u (MwO u a) := ⟨e, ⟨_, e⟩, fun _ _ z k => k _ z⟩
section
variable {prog : Program} {w : World} {A : Around} {E : Value → Shared → Prop} {h : Heap} {g : Array GenState} {d : Drawn} {t : Nat} {os : OsState}
variable {nm q : Str} {C Na : Addr} {bs bm : List Value} {hdct : Bool} {sn : List Str} {sub : List Value} {ab : Bool} {col : Option Bool} {dd : Option Addr} {k0 k1 k2 k3 k5 : Option Value}
theorem mw_run {u e t0 : Addr} {us : List Value} {Q : Value → Shared → Prop} (hC : h.get? C = some (excClassObj nm q C Na bs bm hdct sn sub ab col dd k0 k1 k2 k3 k5 "ValueError.__new__")) (hE : h.get? e = some (HandSPX.excO C t0))
    (hU : h.get? u = some (PySem.W.kxs_mw "ValueError.__init__" e)) (hz : us.length ≤ sizeLine) (fin : ∀ h' t1, (∀ b o, b ≠ e → h.get? b = some o → h'.get? b = some o) → h'.get? e = some (HandSPX.excO C t1) → Q .none ⟨h', g, d, t, os⟩) :
    wpAny (model prog w) A (call (.ref u) us) Q E ⟨h, g, d, t, os⟩ := by
  have w1 : (Value.type "method-wrapper" == Value.type "method" || Value.type "method-wrapper" == Value.type "builtin_function_or_method" || Value.type "method-wrapper" == Value.type "method-wrapper") = true := by decide
  refine wpAny_call (codeAny_of_tree (show wpAny _ A.in1 (callAny (.ref u) ⟨us, []⟩) _ _ _ from ?_))
  simp only [callAny]
  refine wpAny_bind (wpAny_load (o := PySem.W.kxs_mw "ValueError.__init__" e) hU ?_)
  simp only [PySem.W.kxs_mw, w1, if_true]
  refine PySem.W.KFB.if_so (by decide) (wpAny_bind (PySem.W.check_bound_init PySem.F.excBase_ValueError.toExcCallFacts hC hE rfl (wpAny_bind (wpAny_pure (wpAny_pure ?_)))))
  refine ⟨Code.quiet_builtin _ (by decide +kernel), codeAny_builtin PySem.F.excBase_ValueError.initEntry ?_⟩
  rw [Around.under_plainId PySem.F.excBase_ValueError.init.plain _]
  wp_walk
  refine fin _ h.objs.size (fun b o nb hb => ?_) ?_
  · rw [Heap.get?_update_other _ _ (fun z => nb z.symm)]
    exact Heap.get?_push_of_some _ hb
  · rw [Heap.get?_update_self _ (Heap.get?_push_of_some _ hE) rfl] <;> rfl
end
section
variable {X : Cx} {pins : List (Addr × Obj)} {σ : L2.St} {H : Hp} {s : Shared} {A : Around}
theorem call_mw {u a C : Addr} {us : List Value} {Q : Value → Shared → Prop} {E : Value → Shared → Prop} (T : OexC X.K C) (I : Inv X pins σ H s) (ea : H a = some (exo a C none)) (eu : H u = some (MwO u a)) (hl : us.length ≤ sizeLine) (h : ∀ s', Inv X pins σ H s' → Q .none s') :
    wpAny (model X.prog X.w) A (call (.ref u) us) Q E s := by
  obtain ⟨nm, q, Na, bs, bm, sn, sub, ab, col, dd, k0, k1, k2, k3, k5, hC, hbm⟩ := T.cls
  obtain ⟨t1, hE⟩ := exo_at I.hok ea
  have hU : s.heap.get? u = some (PySem.W.kxs_mw "ValueError.__init__" a) := (I.hok u _ eu).1
  obtain ⟨hp, g, d, t, os⟩ := s
  refine mw_run (I.kIn _ _ hC) hE hU hl (fun h' t2 k hx => ?_)
  have J := I.write (t' := t) (x := a) (e := a) (o := exo a C none) (by rw [ea]; exact True.intro) (.inl rfl) k ⟨_, hx⟩ (exo_ok hx)
  have eq : upd H a (exo a C none) = H := by
    funext b
    by_cases e : b = a
    · subst e
      rw [upd_same, ea]
    · rw [upd_ne e]
  rw [eq] at J
  exact h _ J
end
/-- what the written part says of a class with such an __init__ -/
structure IniC (K : PySem.W.Frag) (file : Str) (C f cc cda : Addr) (qual : Str) (params : Arguments) (body : List Stmt) (scope : Scope) : Prop where
  ox : OexC K C
  fn : ∃ oc od dV kV doc pm an ct osl, K.lookup f = some ⟨oc, od, .func (PySem.W.ksFn "__init__" qual params body scope dV kV doc pm an (.ref cda) ct cc), osl⟩
  code : PySem.W.codeIn K (.ref cda) qual = true
  cda : ∃ ccl cdd vs ccs tf, K.lookup cda = some ⟨ccl, cdd, .fields vs, ccs⟩ ∧ vs[2]? = some (.str file tf)
  cell : ∃ cl cld csl, K.lookup cc = some ⟨cl, cld, .cell (some (.ref C)), csl⟩
  cls : (PySem.W.clsIn K C).isSome = true
  own : PySem.W.mroIn K C (.ref C) = some true
  up : PySem.W.ks_superIn K C C "__init__" = some (some (.builtin "ValueError.__init__"))
  ve : PySem.W.subIn K (.ref C) (.type "ValueError") = some true
  any : PySem.W.nsIn K cStatics "thirdparty.any" = some none
  ini : PySem.W.findIn K (.ref C) "__init__" = some (some (.ref f))
  tyf : PySem.W.typeIn K (.ref f) = some (.type "function")
end N

namespace N
open PySem PySem.Spec PyProof.Rows L2 NdefX
/-- the words of such an __init__ -/
abbrev iF (qual : Str) (params : Arguments) (body : List Stmt) (scope : Scope) (cc cda : Addr) : NF := ⟨"__init__", qual, params, body, scope, [("__class__", cc)], cda⟩
theorem callE {M : Model} {A : Around} {E : Value → Shared → Prop} {s : Shared} {pos : Pos} {env : Env} {e : Expr} {rest : List Expr} {u x : Addr} {i : String} {first : List Value} {Q : Value → Shared → Prop}
    (he : starEach (e :: rest) env = (false, eval e env) :: starEach rest env) (hpl : (backTo pos (starEach rest env)).any (·.1) = false)
    (h : wpAny M A (spliced (backTo pos (starEach (e :: rest) env))) (fun vs s₁ => PySem.W.KxsAt i u x s₁.heap ∧ wpAny M A (call (.ref u) (first ++ vs)) Q E s₁) E s) :
    wpAny M A (callWith pos (.ref u) first (backTo pos (starEach (e :: rest) env)) []) Q E s := by
  rw [he] at h ⊢
  refine PySem.W.kxs_callWith (i := i) (x := x) (by show (false || (backTo pos (starEach rest env)).any (·.1)) = false; rw [hpl]; rfl) ?_
  exact Calls.evalArgs_plain h
section
variable {P : Program} {w : World} {K : PySem.W.Frag} {mg : Str → Option Value} {base : Heap} {Nm ps : List Str} {k : Nat} {C f cc cda : Addr} {qual file : Str} {params : Arguments} {body rest : List Stmt} {scope : Scope} {t : TA} {tb : TS} {e : Expr} {es : List Expr} {p0 p1 p2 p3 p4 : Pos} {ar : Arg}
/-- super().__init__(e, ..) as a statement, in the frame of such an __init__ -/
theorem run_super {A : Around} {outer : List Env} {s0 s : Shared} {H0 H : Hp} {E : XK} {σ : L2.St} {a : Addr} {Q : Flow → Shared → Prop} {pins : List (Addr × Obj)} (D : IniC K file C f cc cda qual params body scope) (S : NScope Nm ps ["__class__"] scope) (hfile : ((P.main.file : Str) == file) = true) (htop : (P.main.scope.names.lookup ("super" : Str)).isSome = false)
    (hg : scope.names.lookup ("super" : Str) = some .globalImplicit) (hms : mg "super" = none) (har : (params.posonlyargs ++ params.args).head? = some ar) (h0 : Nm[0]? = some ar.arg) (hv0 : scope.names.lookup ar.arg = some .local)
    (I : Inv (ncx (L2.CX P w) P w K mg base Nm (iF qual params body scope cc cda) f A outer s0 H0 E) pins σ H s) (hs : σ[0]? = some (some (.ref a))) (ea : H a = some (exo a C none))
    (ha : PA (ncx (L2.CX P w) P w K mg base Nm (iF qual params body scope cc cda) f A outer s0 H0 E) (e :: es) t)
    (hq : ∀ u, H u = none → t σ (upd H u (MwO u a)) fun vs H1 => vs.length ≤ sizeLine ∧ H1 = upd H u (MwO u a) ∧ ∀ s', Inv (ncx (L2.CX P w) P w K mg base Nm (iF qual params body scope cc cda) f A outer s0 H0 E) pins σ (upd H u (MwO u a)) s' → Q .next s')
    (he : starEach (e :: es) (envF (iF qual params body scope cc cda) f s0.heap.objs.size) = (false, eval e (envF (iF qual params body scope cc cda) f s0.heap.objs.size)) :: starEach es (envF (iF qual params body scope cc cda) f s0.heap.objs.size))
    (hpl : (backTo p3 (starEach es (envF (iF qual params body scope cc cda) f s0.heap.objs.size))).any (·.1) = false)
    {pl : Sem Bool} (hcl : eval (.Call (.Attribute (.Call (.Name "super" p0) [] [] p1) "__init__" p2) (e :: es) [] p3) (envF (iF qual params body scope cc cda) f s0.heap.objs.size) = (do
      let ov ← attributeBase (.Call (.Name "super" p0) [] [] p1) "__init__" (envF (iF qual params body scope cc cda) f s0.heap.objs.size) (eval (.Call (.Name "super" p0) [] [] p1) (envF (iF qual params body scope cc cda) f s0.heap.objs.size))
      standAt p2.atName
      let (f', first) ← holding [ov] (getMethod ov "__init__" pl)
      callWith p3 f' first (backTo p3 (starEach (e :: es) (envF (iF qual params body scope cc cda) f s0.heap.objs.size))) [])) :
    PySem.wpAt (model P w) (A.deeper (envF (iF qual params body scope cc cda) f s0.heap.objs.size)) (.func body (envF (iF qual params body scope cc cda) f s0.heap.objs.size))
      (exec (.Expr (.Call (.Attribute (.Call (.Name "super" p0) [] [] p1) "__init__" p2) (e :: es) [] p3) p4) (envF (iF qual params body scope cc cda) f s0.heap.objs.size)) Q (ncx (L2.CX P w) P w K mg base Nm (iF qual params body scope cc cda) f A outer s0 H0 E).xe s := by
  obtain ⟨oc, od, dV, kV, doc, pm, an, ct, osl, lk⟩ := D.fn
  obtain ⟨ccl, cdd, vs, ccs, tf, lc, hvs⟩ := D.cda
  obtain ⟨cl, cld, csl, lx⟩ := D.cell
  obtain ⟨cdD, hD⟩ := Option.isSome_iff_exists.mp D.cls
  have KX : K.In s.heap := I.kIn
  obtain ⟨oD, hD1, hD2⟩ : ∃ oD, s.heap.get? C = some oD ∧ oD.data = .cls cdD := by
    unfold PySem.W.clsIn at hD
    split at hD
    · rename_i ho
      cases hD
      exact ⟨_, KX _ _ ho, rfl⟩
    · cases hD
  obtain ⟨t1, hx⟩ := exo_at I.hok ea
  refine ks_wpAt_Expr_any (ks_wpAt_MethodCall ?_ hcl) (by show (scope.kind == .module && _) = false; rw [S.kind]; rfl)
  refine ks_wpAt_super_base (f := f) (cc := cda) (env := envF (iF qual params body scope cc cda) f s0.heap.objs.size) hg (S.frk _ (List.mem_singleton.mpr rfl)) (by decide) rfl (KX _ _ lk) rfl har rfl (KX _ _ lc) rfl hvs hfile htop ?_
  obtain ⟨mb, hb1, hb2⟩ := I.mod.blt
  refine PySem.W.ks_loadName_global S.kind hg (Calls.loadGlobal_builtin (by exact I.mod.glob.keeps I.bk) hms (by exact hb1.keeps I.bk) ((hb2 "super" (by decide)).trans (show bootBuiltins "super" = some (.type "super") by decide +kernel)) ⟨rfl, ?_⟩)
  refine wpAny_loadName_free S.kind (S.frk _ (List.mem_singleton.mpr rfl)) rfl ⟨_, KX _ _ lx, rfl⟩ ?_
  obtain ⟨m, hn, hl⟩ := I.loc
  obtain ⟨u0, ru, hm⟩ := hl 0 ar.arg (.ref a) h0 hs (.inl hv0)
  obtain rfl : u0 = Value.ref a := ru
  have hm0 : m ar.arg = some (.ref a) := by
    rcases hm with ⟨_, z⟩ | ⟨z, _⟩
    · exact z
    · exfalso
      have z' : scope.names.lookup ar.arg = some .cell ∨ scope.names.lookup ar.arg = some .free := z
      rw [hv0] at z'
      rcases z' with z' | z' <;> cases z'
  refine wpAny_loadName_local S.kind hv0 hn hm0 ?_
  refine ks_wpAny_isType_cls hD1 hD2 ⟨rfl, ?_⟩
  obtain ⟨hp, g, dr, tk, os⟩ := s
  refine ks_wpAny_call_super hD1 hD2 hx rfl (fun c z => by cases z) (PySem.W.looks_mroIn KX D.own) (fun h' es' kx => ?_)
  have J : Inv (ncx (L2.CX P w) P w K mg base Nm (iF qual params body scope cc cda) f A outer s0 H0 E) pins σ H ⟨h', g, dr, tk, os⟩ := I.kept (t' := tk) kx
  have KX' : K.In h' := J.kIn
  have IA : PySem.W.InstAt h' a _ C none := ⟨kx _ _ hx, rfl, rfl, trivial⟩
  have nC : a ≠ C := PySem.W.ks_ne KX' IA hD
  have up := D.up
  unfold PySem.W.ks_superIn at up
  rw [hD] at up
  have isV : PySem.W.Looks (model P w) h' (isInstance (.ref a) (.type "ValueError")) true := IA.type.andThen (PySem.W.looks_subIn KX' D.ve)
  refine PySem.W.kxs_getMethod PySem.W.kxs_ValueError es' (PySem.W.looks_opaque KX' D.any) (l₀ := cdD.mro) (fun A Q E s k q => wpAny_bind ((PySem.W.looks_clsIn KX' hD) A _ E s k (wpAny_pure q))) rfl KX' up isV nC (by decide) ?_
  have fr : H h'.objs.size = none := J.hok.fresh (Nat.le_refl _)
  have mw : (h'.push (PySem.W.kxs_mw "ValueError.__init__" a)).get? h'.objs.size = some (PySem.W.kxs_mw "ValueError.__init__" a) := Heap.get?_push_size _ rfl
  have J2 := J.laid (t' := tk + 1) (a := h'.objs.size) (o := MwO h'.objs.size a) (fun b u e => Heap.get?_push_of_some _ e) (Nat.le_refl _) (mwO_ok mw)
  have nua : a ≠ h'.objs.size := fun z => by rw [z, fr] at ea; cases ea
  refine callE (i := "ValueError.__init__") (x := a) he hpl ?_
  refine thn (ha.run p3 pins _ σ _ _ J2 (hq _ fr)) (fun us s2 z => ?_)
  obtain ⟨vs', H2, J3, r, hz, e2, fin⟩ := z
  subst e2
  refine ⟨(J3.hok _ _ upd_same).1, ?_⟩
  exact call_mw D.ox J3 (by rw [upd_ne nua]; exact ea) upd_same (by rw [List.nil_append, ← r.length]; exact hz) fun s' J4 => fin s' J4
end
end N

namespace N
open PySem PySem.Spec PyProof.Rows L2 NdefX
section
variable {P : Program} {w : World} {K : PySem.W.Frag} {mg : Str → Option Value} {base : Heap} {Nm ps : List Str} {k : Nat} {C f cc cda : Addr} {qual file : Str} {params : Arguments} {rest : List Stmt} {scope : Scope} {e : Expr} {es : List Expr} {p0 p1 p2 p3 p4 : Pos} {ar : Arg}
variable {oc dV kV doc pm ct : Value} {od an : Option Addr} {osl : Array (Option Value)}
abbrev supS (e : Expr) (es : List Expr) (p0 p1 p2 p3 p4 : Pos) : Stmt := .Expr (.Call (.Attribute (.Call (.Name "super" p0) [] [] p1) "__init__" p2) (e :: es) [] p3) p4
/-- an own __init__ that begins with super().__init__(e, ..): what it keeps -/
theorem ini_fn {sp : Sp} (D : IniC K file C f cc cda qual params (supS e es p0 p1 p2 p3 p4 :: rest) scope)
    (lk : K.lookup f = some ⟨oc, od, .func (PySem.W.ksFn "__init__" qual params (supS e es p0 p1 p2 p3 p4 :: rest) scope dV kV doc pm an (.ref cda) ct cc), osl⟩)
    (S : NScope Nm ps ["__class__"] scope) (hfile : ((P.main.file : Str) == file) = true) (htop : (P.main.scope.names.lookup ("super" : Str)).isSome = false)
    (hg : scope.names.lookup ("super" : Str) = some .globalImplicit) (hms : mg "super" = none) (har : (params.posonlyargs ++ params.args).head? = some ar) (h0 : Nm[0]? = some ar.arg) (hv0 : scope.names.lookup ar.arg = some .local)
    (len : ∀ vs H Q E, sp vs H Q E → vs.length = ps.length)
    (hbody : ∀ (A : Around) (outer : List Env) (s : Shared) (H : Hp) (vs : List V) (Q : VK) (E : XK), RoomG k (A.deeper (envF (iF qual params (supS e es p0 p1 p2 p3 p4 :: rest) scope cc cda) f s.heap.objs.size)) → sp vs H Q E →
      ∃ (a : Addr) (vr : List V) (t : TA) (tr : TS), vs = .ref a :: vr ∧ H a = some (exo a C none) ∧
        PA (ncx (L2.CX P w) P w K mg base Nm (iF qual params (supS e es p0 p1 p2 p3 p4 :: rest) scope cc cda) f A outer s H E) (e :: es) t ∧
        PSs (ncx (L2.CX P w) P w K mg base Nm (iF qual params (supS e es p0 p1 p2 p3 p4 :: rest) scope cc cda) f A outer s H E) rest tr ∧
        ∀ u, H u = none → ∃ ws : List V, ws.length ≤ sizeLine ∧ (∀ R : List V → Hp → Prop, R ws (upd H u (MwO u a)) → t (startF Nm vs [none]) (upd H u (MwO u a)) R) ∧ tr { nx := fun _ H' => Q .non H', rt := Q } (startF Nm vs [none]) (upd H u (MwO u a)))
    (he : ∀ L, starEach (e :: es) (envF (iF qual params (supS e es p0 p1 p2 p3 p4 :: rest) scope cc cda) f L) = (false, eval e (envF (iF qual params (supS e es p0 p1 p2 p3 p4 :: rest) scope cc cda) f L)) :: starEach es (envF (iF qual params (supS e es p0 p1 p2 p3 p4 :: rest) scope cc cda) f L))
    (hpl : ∀ L, (backTo p3 (starEach es (envF (iF qual params (supS e es p0 p1 p2 p3 p4 :: rest) scope cc cda) f L))).any (·.1) = false)
    (pl : Nat → Sem Bool) (hcl : ∀ L, eval (.Call (.Attribute (.Call (.Name "super" p0) [] [] p1) "__init__" p2) (e :: es) [] p3) (envF (iF qual params (supS e es p0 p1 p2 p3 p4 :: rest) scope cc cda) f L) = (do
      let ov ← attributeBase (.Call (.Name "super" p0) [] [] p1) "__init__" (envF (iF qual params (supS e es p0 p1 p2 p3 p4 :: rest) scope cc cda) f L) (eval (.Call (.Name "super" p0) [] [] p1) (envF (iF qual params (supS e es p0 p1 p2 p3 p4 :: rest) scope cc cda) f L))
      standAt p2.atName
      let (f', first) ← holding [ov] (getMethod ov "__init__" (pl L))
      callWith p3 f' first (backTo p3 (starEach (e :: es) (envF (iF qual params (supS e es p0 p1 p2 p3 p4 :: rest) scope cc cda) f L))) [])) :
    FnG P w K mg base (L2.CX P w) (k + 1) f (PySem.W.ksFn "__init__" qual params (supS e es p0 p1 p2 p3 p4 :: rest) scope dV kV doc pm an (.ref cda) ct cc) ps sp := by
  refine ⟨len, fun A outer s H args us vs Q E hr e0 hb r hsp => ?_⟩
  have KX : K.In s.heap := e0.mod.kin.keeps fun b o e => (e0.bs b o e).1
  have lim : s.heap.NoLimit := e0.mod.nolimit.keeps fun b o e => (e0.bs b o e).1
  have hl := len _ _ _ _ hsp
  obtain ⟨cl, cld, csl, lx⟩ := D.cell
  have CA : CellsAt [(("__class__" : Str), cc)] ["__class__"] [none] s.heap H := by
    have bc := e0.bs _ _ (e0.mod.kin _ _ lx)
    refine ⟨rfl, fun y c z => ?_, fun x y c z1 z2 => ?_, fun i y z => ?_⟩
    · have : c = cc := by
        simp only [List.lookup] at z
        split at z
        · exact (Option.some.inj z).symm
        · cases z
      subst this
      exact ⟨bc.2, _, _, bc.1, rfl⟩
    · simp only [List.lookup] at z1 z2
      split at z1
      · rename_i q1
        split at z2
        · rename_i q2
          rw [eq_of_beq q1, eq_of_beq q2]
        · cases z2
      · cases z1
    · match i, z with
      | 0, z =>
        have z' : (("__class__" : Str)) = y := Option.some.inj z
        subst z'
        exact ⟨cc, by simp [List.lookup], fun v q => by cases q⟩
      | i + 1, z => cases z
  refine ks_codeAny_call_defAt hr.depth (KX _ _ lk) rfl lim (PySem.W.codeRec_of KX D.code) rfl hb (fun x hx => S.nocell x hx) (fun ⟨n, _⟩ hy => S.par n (List.of_mem_zip hy).1) (fun h₀ hns kp => ?_) S.co S.gen S.kind
  obtain ⟨a, vr, t, tr, ev, ea, ha, hrest, hq⟩ := hbody A outer s H vs Q E (hr.deeper _) hsp
  have I := inv_startN (CX := L2.CX P w) (P := P) (w := w) (mg := mg) (E := E) (f := f) (F := iF qual params (supS e es p0 p1 p2 p3 p4 :: rest) scope cc cda) (N := Nm) (tk := s.toks + (ps.zip us).length) S hr.hd e0 hl r CA hns kp
  have hs0 : (startF Nm vs [none])[0]? = some (some (.ref a)) := by rw [ev]; rfl
  refine ks_wpAt_execs_cons ?_
  refine run_super (outer := outer) (s0 := s) (H0 := H) (E := E) D S hfile htop hg hms har h0 hv0 I hs0 ea ha (fun u hu => ?_) (he _) (hpl _) (hcl _)
  obtain ⟨ws, z1, z2, z3⟩ := hq u hu
  refine z2 _ ⟨z1, rfl, fun s' J => ?_⟩
  refine wpAt_of_wpAny ?_
  refine wpAny_mono (hrest.run [] s' _ _ _ J z3) (fun fl s'' hs => ?_) fun er s'' hs => hs
  cases fl with
  | ret v => obtain ⟨v', σ', H', J', rv, q⟩ := hs; exact ⟨v', H', J'.os, J'.bare, J'.base, J'.hok, rv, q⟩
  | next => obtain ⟨σ', H', J', q⟩ := hs; exact ⟨.non, H', J'.os, J'.bare, J'.base, J'.hok, rfl, q⟩
  | brk => obtain ⟨_, _, _, q⟩ := hs; exact False.elim q
  | cont => obtain ⟨_, _, _, q⟩ := hs; exact False.elim q
end
end N

namespace N
open PySem PySem.Spec PySem.HandSPX
section
variable {M : Model} {prog : Program} {w : World} {A : Around} {E : Value → Shared → Prop} {R : Result → Shared → Prop} {h : Heap} {g : Array GenState} {d : Drawn} {t : Nat} {os : OsState}
variable {nm q : Str} {C Na : Addr} {bs bm bmB : List Value} {hdct : Bool} {sn : List Str} {sub : List Value} {ab : Bool} {col : Option Bool} {dd : Option Addr} {k0 k1 k2 k3 k5 : Option Value} {B newId initId : String} {xs : List Value} {kw : List (Str × Value)}
/-- C(.., n=e): the same with names -/
theorem chkK (B0 : ExcBaseFacts B newId initId bmB) (hT : ∀ X : String, bm.contains (.type X) = bmB.contains (.type X)) {Q : Unit → Shared → Prop}
    (hC : h.get? C = some (excClassObj nm q C Na bs bm hdct sn sub ab col dd k0 k1 k2 k3 k5 newId)) (hq : Q () ⟨h, g, d, t, os⟩) : wpAny M A (checkBuiltinCall newId ⟨.ref C :: xs, kw⟩) Q E ⟨h, g, d, t, os⟩ := by
  have z1 : (Value.ref C :: bm).contains (.type B) = true := by rw [List.contains_cons, hT B]; exact (congrArg _ B0.hasB).trans (Bool.or_true _)
  have z2 := B0.noStar
  simp only [checkBuiltinCall, B0.newKind, B0.newSplit, B0.newRow]
  repeat (first | refine wpAny_loadPart_at hC ?_ | (refine wpAny_isSubtype_exc hC ?_; rw [z1]) | refine wpAny_staticBase_exc hC ?_ | refine wpAny_madeBy_exc hC ?_ | (simp only [bne_self_eq_false, Bool.false_eq_true, if_false]) | wp_step)
  exact hq
theorem newK (B0 : ExcBaseFacts B newId initId bmB) (hT : ∀ X : String, bm.contains (.type X) = bmB.contains (.type X))
    (hC : h.get? C = some (excClassObj nm q C Na bs bm hdct sn sub ab col dd k0 k1 k2 k3 k5 newId))
    (hq : R (.ok (.ret (.ref (h.objs.size + 1)))) ⟨(h.push (PySem.W.kdv_tup xs)).push (excO C h.objs.size), g, d, t, os⟩) (hz : xs.length ≤ sizeLine) :
    codeAny (model prog w) A (.builtin newId ⟨.ref C :: xs, kw⟩) R ⟨h, g, d, t, os⟩ := by
  have z0 := B0.ends
  have z1 : (Value.ref C :: bm).contains (.type B) = true := by rw [List.contains_cons, hT B]; exact (congrArg _ B0.hasB).trans (Bool.or_true _)
  have z2 : (Value.ref C :: bm).contains (.type "AttributeError") = false := by rw [List.contains_cons, hT _]; exact (congrArg _ B0.noAttr).trans rfl
  have z3 : (Value.ref C :: bm).contains (.type "NameError") = false := by rw [List.contains_cons, hT _]; exact (congrArg _ B0.noName).trans rfl
  refine codeAny_builtinAt B0.entry ?_
  unfold Builtin.«BaseException.__new__»
  refine wpAt_bind ?_
  show wpAt _ _ _ (stack >>= _) _ _ _
  refine wpAt_bind (wpAt_stack fun p below => PySem.wpAt_of_wpAny ?_)
  wp_walk
  refine PySem.wpAt_of_wpAny ?_
  rw [B0.owner]
  repeat (first | with_reducible refine wpAny_madeHere_exc B0.canon hC ?_ | with_reducible refine wpAny_loadPart_at hC ?_ | (with_reducible refine wpAny_isSubtype_exc hC ?_; first | rw [z1] | rw [z2] | rw [z3]) | wp_step)
  show R _ _
  rw [Heap.size_push]
  exact hq
theorem chkT (hC : h.get? C = some (excClassObj nm q C Na bs bm hdct sn sub ab col dd k0 k1 k2 k3 k5 newId)) {Q : Unit → Shared → Prop}
    (hq : Q () ⟨h, g, d, t, os⟩) : wpAny M A (checkBuiltinCall "type.__call__" ⟨.ref C :: xs, kw⟩) Q E ⟨h, g, d, t, os⟩ := by
  have z3 := tc_sub
  have z4 : (⟨h, g, d, t, os⟩ : Shared).TypeIs (.ref C) "type" := ⟨_, hC, rfl⟩
  simp only [checkBuiltinCall, tc_kind, tc_split]
  repeat (any_goals (first | assumption | with_reducible refine wpAny_loadPart_at hC ?_ | with_reducible refine wpAny_onRaise ?_ | with_reducible refine wpAny_map ?_ | wp_step))
theorem typeK (B0 : ExcBaseFacts B newId initId bmB) (hT : ∀ X : String, bm.contains (.type X) = bmB.contains (.type X)) {fI : Addr} {Q : PySem.Fin → Shared → Prop}
    (hC : h.get? C = some (excClassObj nm q C Na bs bm hdct sn sub ab col dd k0 k1 k2 k3 k5 newId)) (hz : xs.length ≤ sizeLine)
    (hi : W.Looks (model prog w) h (typeLookup (.ref C) "__init__") (some (.ref fI))) (hb : ∀ self, W.Looks (model prog w) h (bindSpecial (.ref fI) self) (.ref fI, [self]))
    (hq : codeAny (model prog w) A (.call (.ref fI) ⟨.ref (h.objs.size + 1) :: xs, kw⟩)
      (fun r s' => match r with | .ok (.ret v) => v = .none ∧ Q (.done (.ret (.ref (h.objs.size + 1)))) s' | .ok _ => False | .error e => E e s')
      ⟨(h.push (PySem.W.kdv_tup xs)).push (excO C h.objs.size), g, d, t, os⟩) :
    wpAny (model prog w) A (Builtin.«type.__call__» ⟨.ref C :: xs, kw⟩) Q E ⟨h, g, d, t, os⟩ := by
  repeat (first | with_reducible refine wpAny_loadPart_at hC ?_ | with_reducible refine wpAny_madeBy_exc hC ?_ | wp_step)
  refine codeAny_call_builtin_code (Code.quiet_builtin _ B0.quiet) (chkK B0 hT hC ?_)
  refine newK B0 hT hC ?_ hz
  show wpAny _ _ _ _ _ _
  have k : ∀ b o, h.get? b = some o → ((h.push (PySem.W.kdv_tup xs)).push (excO C h.objs.size)).get? b = some o := fun b o z => Heap.get?_push_of_some _ (Heap.get?_push_of_some _ z)
  have y1 := k _ _ hC
  have y2 : ((h.push (PySem.W.kdv_tup xs)).push (excO C h.objs.size)).get? (h.objs.size + 1) = some (excO C h.objs.size) := by heap_get
  have y3 : (Value.ref C :: bm).contains (.ref C) = true := by simp
  have y4 := hi.keeps k
  have y5 := (hb (.ref (h.objs.size + 1))).keeps k
  unfold isInstance
  repeat (first | with_reducible refine wpAny_loadPart_at y2 ?_ | (with_reducible refine wpAny_isSubtype_exc y1 ?_; rw [y3]) | wp_step)
  show wpAny _ _ (typeLookup (.ref C) _) _ _ _
  refine y4.at ?_
  refine wpAny_holding (wpAny_bind (y5.at ?_))
  refine wpAny_bind (wpAny_call (codeAny_mono hq fun r s' z => ?_))
  match r, z with
  | .error e, z => exact z
  | .ok (.ret v), z =>
    obtain ⟨rfl, z⟩ := z
    first
      | exact wpAny_pure (wpAny_pure z)
      | (wp_walk; exact z)
theorem callK (B0 : ExcBaseFacts B newId initId bmB) (hT : ∀ X : String, bm.contains (.type X) = bmB.contains (.type X)) {fI : Addr}
    (hC : h.get? C = some (excClassObj nm q C Na bs bm hdct sn sub ab col dd k0 k1 k2 k3 k5 newId)) (hz : xs.length ≤ sizeLine)
    (hi : W.Looks (model prog w) h (typeLookup (.ref C) "__init__") (some (.ref fI))) (hb : ∀ self, W.Looks (model prog w) h (bindSpecial (.ref fI) self) (.ref fI, [self]))
    (hq : codeAny (model prog w) (A.under (.builtin "type.__call__" ⟨.ref C :: xs, kw⟩)) (.call (.ref fI) ⟨.ref (h.objs.size + 1) :: xs, kw⟩) (W.InitBack (h.objs.size + 1) R)
      ⟨(h.push (PySem.W.kdv_tup xs)).push (excO C h.objs.size), g, d, t, os⟩) :
    codeAny (model prog w) A (.call (.ref C) ⟨xs, kw⟩) R ⟨h, g, d, t, os⟩ := by
  have z1 := tc_lookup
  have z2 := tc_bind (.ref C)
  have z3 : (⟨h, g, d, t, os⟩ : Shared).TypeIs (.ref C) "type" := ⟨_, hC, rfl⟩
  refine codeAny_of_tree ?_
  show wpAny _ _ (callAny (.ref C) _) _ _ _
  repeat (any_goals (first | assumption | with_reducible refine wpAny_loadPart_at hC ?_ | wp_step))
  refine ⟨rfl, ?_⟩
  refine codeAny_call_builtin_at (Code.quiet_builtin _ (by decide +kernel)) entry_typeCall (chkT hC (typeK B0 hT hC hz hi hb ?_))
  refine codeAny_mono hq fun r s' z => ?_
  match r, z with
  | .error e, z => exact z
  | .ok (.ret v), z => exact z
end
end N

namespace N
open PySem PySem.Spec PyProof.Rows L2
theorem RoomG.made {k : Nat} {A : Around} (r : RoomG (k + 1) A) (C : Addr) (us : List Value) (kw : List (Str × Value)) : RoomG k (A.under (.builtin "type.__call__" ⟨.ref C :: us, kw⟩)) :=
  ⟨r.toRoom.make C us kw, (by show pushGuards (Code.builtin "type.__call__" ⟨.ref C :: us, kw⟩).guards A.guards = some []; rw [r.gs]; rfl)⟩
/-- what is needed of a class with an own __init__ -/
structure OwnC (P : Program) (w : World) (K : PySem.W.Frag) (mg : Str → Option Value) (base : Heap) (k : Nat) (x : Str) (C : Addr) (fI : Addr) (fd : FuncData) (ps : List Str) (sp : Sp) : Prop where
  gl : mg x = some (.ref C)
  ox : OexC K C
  ini : PySem.W.findIn K (.ref C) "__init__" = some (some (.ref fI))
  tyf : PySem.W.typeIn K (.ref fI) = some (.type "function")
  fn : FnG P w K mg base (L2.CX P w) k fI fd ps sp
section
variable {X : Cx} {k n : Nat} {fI C : Addr} {fd : FuncData} {ps ks : List Str} {sp : Sp} {x : Str} {p pos : Pos} {e : Expr} {es : List Expr} {kws : List Keyword} {t tk : TA} {g : List Value → List Value → List Value} {gV : List V → List V → List V}
theorem run_own {pins : List (Addr × Obj)} {σ : L2.St} {H : Hp} {s : Shared} {Q : VK} {us ws : List Value} {vs zs : List V} (T : OwnC X.prog X.w X.K X.mg X.base k x C fI fd ps sp) (hr : RoomG (k + 1) X.A) (hb : KBn X.K fd ps (n + 1) ks g gV)
    (I : Inv X pins σ H s) (r : Vals vs us) (rz : Vals zs ws) (l1 : vs.length = n) (l2 : zs.length = ks.length) (hz : n ≤ 1000)
    (h : ∀ a, H a = none → sp (gV (.ref a :: vs) zs) (upd H a (exo a C none)) (fun v H2 => v = .non ∧ Q (.ref a) H2) E0) :
    wpAny (model X.prog X.w) X.A (call (.ref C) us (ks.zip ws)) (EP X pins σ Q) X.xe s := by
  obtain ⟨nm, q, Na, bs, bm, sn, sub, ab, col, dd, k0, k1, k2, k3, k5, hC, hbm⟩ := T.ox.cls
  obtain ⟨hp, gg, dr, tk, os⟩ := s
  have lt : hp.objs.size ≤ hp.objs.size + 1 := Nat.le_succ _
  have hn : H (hp.objs.size + 1) = none := I.hok.fresh lt
  have hq := h (hp.objs.size + 1) hn
  have kk : ∀ b o, hp.get? b = some o → ((hp.push (PySem.W.kdv_tup us)).push (PySem.HandSPX.excO C hp.objs.size)).get? b = some o := fun b o z => Heap.get?_push_of_some _ (Heap.get?_push_of_some _ z)
  have hg : ((hp.push (PySem.W.kdv_tup us)).push (PySem.HandSPX.excO C hp.objs.size)).get? (hp.objs.size + 1) = some (PySem.HandSPX.excO C hp.objs.size) := by heap_get
  have I2 : Inv X pins σ (upd H (hp.objs.size + 1) (exo (hp.objs.size + 1) C none)) ⟨(hp.push (PySem.W.kdv_tup us)).push (PySem.HandSPX.excO C hp.objs.size), gg, dr, tk, os⟩ :=
    I.laid (t' := tk) (a := hp.objs.size + 1) (o := exo (hp.objs.size + 1) C none) kk lt (exo_ok hg)
  have r1 : Vals (V.ref (hp.objs.size + 1) :: vs) (Value.ref (hp.objs.size + 1) :: us) := .cons rfl r
  have r2 := hb.rel r1 rz
  have n1 : (Value.ref (hp.objs.size + 1) :: us).length = n + 1 := by
    rw [List.length_cons, ← r.length, l1]
  have hus : us.length ≤ sizeLine := by
    rw [← r.length, sizeLine_eq]
    omega
  refine wpAny_call (callK PySem.F.excBase_ValueError (fun Y => PySem.HandSPX.refsVE_contains Y bm hbm) (I.kIn _ _ hC) hus (PySem.W.looks_findIn I.kIn T.ini) (fun self => PySem.W.bind_fn I.kIn self T.tyf)
    (codeAny_mono (T.fn.run _ X.stack _ _ ⟨Value.ref (hp.objs.size + 1) :: us, ks.zip ws⟩ (g (Value.ref (hp.objs.size + 1) :: us) ws) _ _ E0 (hr.made C us (ks.zip ws)) (I2.env0.make C us (ks.zip ws))
      (hb.to _ (Value.ref (hp.objs.size + 1) :: us) ws I2.kIn n1 (rz.length.symm.trans l2)) r2 hq) fun r s' hq' => ?_))
  match r, hq' with
  | .error er, hq' => exact passL pins σ _ _ er s' I2 hq'
  | .ok (.ret u), hq' =>
    obtain ⟨v, H', I3, rv, ev, q3⟩ := I2.after hq'
    subst ev
    exact ⟨rv, ⟨V.ref (hp.objs.size + 1), H', I3, rfl, q3⟩⟩
/-- C(e, ..) as a value -/
theorem pe_own (T : OwnC X.prog X.w X.K X.mg X.base k x C fI fd ps sp) (hr : RoomG (k + 1) X.A) (hb : KBn X.K fd ps (n + 1) [] g gV) (hz : n ≤ 1000) (hg : Gl X x) (ha : PA X (e :: es) t) (hdb : (x == ("__debug__" : Str)) = false := by decide)
    (he : starEach (e :: es) X.env = (false, eval e X.env) :: starEach es X.env := by rfl) (hpl : (backTo pos (starEach es X.env)).any (·.1) = false := by rfl) :
    PE X (.Call (.Name x p) (e :: es) [] pos) (fun σ H Q => t σ H fun vs H1 => vs.length = n ∧ ∀ a, H1 a = none → sp (gV (.ref a :: vs) []) (upd H1 a (exo a C none)) (fun v H2 => v = .non ∧ Q (.ref a) H2) E0) := by
  refine ⟨fun pins s σ H Q I h => wpAny_Call_Name_kw (ld_glob I hg T.gl ?_ hdb)⟩
  refine PySem.W.callWith_K (h₀ := X.base) I.ok.mod.kin T.ox.kC (thn (ha.run pos pins s σ H _ I h) fun us s1 ⟨vs, H1, J, r, l, q⟩ => ⟨J.kIn, ?_⟩) he hpl
  exact run_own (ks := []) (ws := []) (zs := []) T hr hb J r .nil l rfl hz q
/-- C(n=e, ..) as a value -/
theorem pe_ownK (T : OwnC X.prog X.w X.K X.mg X.base k x C fI fd ps sp) (hr : RoomG (k + 1) X.A) (hb : KBn X.K fd ps 1 ks g gV) (hg : Gl X x) (hkw : PK X kws tk)
    (hall : (backToKw pos (keywordEach kws X.env)).all (·.1.isSome) = true := by rfl) (hks : (backToKw pos (keywordEach kws X.env)).filterMap (·.1) = ks := by rfl) (hdb : (x == ("__debug__" : Str)) = false := by decide)
    (hpl : ((backTo pos (starEach [] X.env)).any (·.1) || (backToKw pos (keywordEach kws X.env)).any (·.1.isNone)) = false := by rfl) :
    PE X (.Call (.Name x p) [] kws pos) (fun σ H Q => tk σ H fun zs H1 => zs.length = ks.length ∧ ∀ a, H1 a = none → sp (gV [.ref a] zs) (upd H1 a (exo a C none)) (fun v H2 => v = .non ∧ Q (.ref a) H2) E0) := by
  refine ⟨fun pins s σ H Q I h => wpAny_Call_Name_kw (ld_glob I hg T.gl ?_ hdb)⟩
  refine PySem.W.callWith_KW0 (h₀ := X.base) I.ok.mod.kin T.ox.kC hall ?_ hpl
  refine thn (hkw.run pos pins s σ H _ I h) fun ws s2 ⟨zs, H2, J, rz, l2, q2⟩ => ⟨J.kIn, ?_⟩
  rw [hks]
  exact run_own (n := 0) (us := []) (vs := []) T hr hb J .nil rz rfl l2 (Nat.zero_le _) q2
end
end N

namespace N
open PySem PySem.Spec PyProof.Rows L2
section
variable {P : Program} {w : World} {K : PySem.W.Frag} {mg : Str → Option Value} {base : Heap}
/-- all but what stands at p is as it was -/
def Bar (p : Addr) (H H' : Hp) : Prop := ∀ b o, b ≠ p → H b = some o → H' b = some o
def Pen (H : Hp) (p : Addr) : Prop := ∃ i j k : Int, H p = some (.lst [.int i, .int j, .int k]) ∧ 0 ≤ i ∧ 0 ≤ j ∧ j < 2147483648
theorem Bar.refl (p : Addr) (H : Hp) : Bar p H H := fun _ _ _ h => h
theorem Bar.trans {p : Addr} {H H1 H2 : Hp} (a : Bar p H H1) (b : Bar p H1 H2) : Bar p H H2 := fun x o n h => b x o n (a x o n h)
theorem bar_same {p : Addr} {H H' : Hp} (a : Same H H') : Bar p H H' := fun x o _ h => a x o h
theorem bar_upd {p : Addr} {H : Hp} (o : HO) : Bar p H (upd H p o) := fun b u n h => by rw [upd_ne n]; exact h
theorem Pen.same {p : Addr} {H H' : Hp} (a : Same H H') (h : Pen H p) : Pen H' p := by
  obtain ⟨i, j, k, e, r⟩ := h
  exact ⟨i, j, k, a _ _ e, r⟩
theorem bar_stay {p : Addr} {H H' : Hp} (a : Bar p H H') (h : Pen H p) (h' : Pen H' p) : Stay K H H' := by
  obtain ⟨i, j, k, e, _⟩ := h
  obtain ⟨i', j', k', e', _⟩ := h'
  refine stay_of (fun b o q => ?_) fun b x q => a b _ (ne_of q e (by intro z; cases z)) q
  by_cases hb : b = p
  · subst hb
    rw [e] at q
    cases q
    exact .inr ⟨_, _, rfl, e'⟩
  · exact .inl (a b o hb q)
theorem bar_seq {p a : Addr} {H H' : Hp} {xs : List V} (b : Bar p H H') (n : a ≠ p) (h : SqL K H a xs) : SqL K H' a xs := by
  rcases h with (h | ⟨o, h⟩) | h
  · exact .inl (.inl (b _ _ n h))
  · exact .inl (.inr ⟨o, b _ _ n h⟩)
  · exact .inr h
theorem pen_free {p q : Addr} {H H' : Hp} (b : Bar p H H') (h : Pen H p) (n : H' q = none) (hq : Pen H' p) : H q = none := by
  cases e : H q with
  | none => rfl
  | some o =>
    obtain ⟨_, _, _, e', _⟩ := hq
    by_cases hb : q = p
    · subst hb; rw [e'] at n; cases n
    · rw [b q o hb e] at n; cases n
def spCell (K : PySem.W.Frag) : Sp := fun vs H Q _ => ∃ (a : Addr) (ns : List Int) (k : Nat), vs = [.ref a, .int k] ∧ SqL K H a (ns.map V.int) ∧ ∀ n : Int, Q (.int n) H
theorem ok_cell (G : Glo mg) (D : DefAt K mg "_law_cell_at" s_Lcell_at ["_law_script", "_law_k"]) : Cal P w K mg base 1 "_law_cell_at" ["_law_script", "_law_k"] (spCell K) := by
  refine D.cal sc_Lcell_at (fun vs H Q E h => ?_) (fun f cdv A outer s H vs Q E hr h => ?_)
  · obtain ⟨a, ns, k, rfl, _⟩ := h
    rfl
  obtain ⟨a, ns, k, rfl, hS, q⟩ := h
  refine ⟨_, pss_cons (ps_if (pt_cmpR op_lt (pv 1) (pe_callB call_len_seq (by rfl) G.len PySem.boot_len (pa_cons (pv 0) pa_nil)) (nomark _)) (pss_one (ps_ret (pe_ix ix_list (pv 0) (pv 1) (fun _ _ => rfl)))) pss_nil) (pss_one (ps_ret pe_int)), ?_⟩
  refine ⟨_, rfl, _, rfl, a, _, rfl, .inl hS, _, _, rfl, rfl, _, rfl, ite2 (fun c => ?_) (fun c => ?_)⟩
  · have c' : ((k : Nat) : Int) < (((ns.map V.int).length : Nat) : Int) := of_decide_eq_true c
    rw [List.length_map] at c'
    have hk : k < ns.length := by omega
    exact ⟨_, rfl, _, rfl, a, _, _, .int ns[k], rfl, rfl, hS, atI_nat (by rw [List.getElem?_map, List.getElem?_eq_getElem hk] <;> rfl), q _⟩
  · exact q 0
def spPen (K : PySem.W.Frag) : Sp := fun vs H Q _ => ∃ n : Int, vs = [.int n] ∧ ∀ p H', Same H H' → H p = none → Pen H' p → Q (.ref p) H'
theorem ok_pen (G : Glo mg) (D : DefAt K mg "_law_pen" s_Lpen ["_law_cell"]) : Cal P w K mg base 1 "_law_pen" ["_law_cell"] (spPen K) := by
  refine D.cal sc_Lpen (fun vs H Q E h => ?_) (fun f cdv A outer s H vs Q E hr h => ?_)
  · obtain ⟨n, rfl, _⟩ := h
    rfl
  obtain ⟨n, rfl, q⟩ := h
  refine ⟨_, pss_one (ps_ret (pe_lst (pa_cons (pe_callB (call_max2 rfl) (by rfl) G.max (by decide +kernel) (pa_cons pe_int (pa_cons (pe_op op_sub (pv 0) (pe_op op_pow pe_int pe_int)) pa_nil)))
    (pa_cons (pe_op op_add (pe_op op_modN (pv 0) pe_int) pe_int) (pa_cons pe_int pa_nil))))), ?_⟩
  refine ⟨_, rfl, _, _, rfl, rfl, ⟨by decide, by decide, by decide⟩, _, _, rfl, rfl, _, _, rfl, ?_⟩
  refine ⟨_, rfl, _, _, rfl, rfl, (by show (2147483629 : Int) ≠ 0; decide), _, _, rfl, rfl, by show 3 ≤ sizeLine; decide, fun p hp => ?_⟩
  refine q p _ (same_new hp _) hp ⟨_, _, _, upd_same, ?_, ?_, ?_⟩
  · split <;> omega
  · rw [Int.fmod_eq_emod_of_nonneg _ (by decide)]; omega
  · rw [Int.fmod_eq_emod_of_nonneg _ (by decide)]; omega
def spDraw (K : PySem.W.Frag) : Sp := fun vs H Q _ => ∃ (p : Addr) (n : Int), vs = [.ref p, .int n] ∧ Pen H p ∧ 0 < n ∧ n < 1073741824 ∧ ∀ H' r, Bar p H H' → Pen H' p → 0 ≤ r → r < n → Q (.int r) H'
theorem ok_draw (D : DefAt K mg "_law_draw" s_Ldraw ["_law_pen_here", "_law_many"]) : Cal P w K mg base 1 "_law_draw" ["_law_pen_here", "_law_many"] (spDraw K) := by
  refine D.cal sc_Ldraw (fun vs H Q E h => ?_) (fun f cdv A outer s H vs Q E hr h => ?_)
  · obtain ⟨p, n, rfl, _⟩ := h
    rfl
  obtain ⟨p, n, rfl, ⟨i, j, k, e, hi, hj, hj2⟩, hn, hn2, q⟩ := h
  refine ⟨_, pss_cons (ps_if (pt_cmpR op_gt (pe_ix ix_list (pv 0) pe_int (fun _ _ => rfl)) pe_int (nomark _))
      (pss_cons (ps_set (i := 2) sc_Ldraw.nd rfl (Or.inl rfl) (pe_op op_modN (pe_ix ix_list (pv 0) pe_int (fun _ _ => rfl)) (pv 1)))
      (pss_cons (ps_asg (pe_op op_fdivN (pe_ix ix_list (pv 0) pe_int (fun _ _ => rfl)) (pv 1)) (pg_sub (pv 0) pe_int set_list)) (pss_one (ps_ret (pv 2))))) pss_nil)
    (pss_cons (ps_asg (pe_op op_add (pe_ix ix_list (pv 0) pe_int (fun _ _ => rfl)) pe_int) (pg_sub (pv 0) pe_int set_list))
    (pss_cons (ps_asg (pe_op op_modN (pe_op op_add (pe_op op_add (pe_op op_mul (pe_ix ix_list (pv 0) pe_int (fun _ _ => rfl)) pe_int) (pe_op op_mul pe_int (pe_ix ix_list (pv 0) pe_int (fun _ _ => rfl)))) pe_int) pe_int) (pg_sub (pv 0) pe_int set_list))
    (pss_cons (ps_set (i := 3) sc_Ldraw.nd rfl (Or.inl rfl) (pe_op op_modN (pe_op op_add (pe_op op_add (pe_op op_mul (pe_ix ix_list (pv 0) pe_int (fun _ _ => rfl)) (pe_ix ix_list (pv 0) pe_int (fun _ _ => rfl))) (pe_op op_mul pe_int (pe_ix ix_list (pv 0) pe_int (fun _ _ => rfl)))) pe_int) pe_int))
    (pss_cons (ps_set (i := 3) sc_Ldraw.nd rfl (Or.inl rfl) (pe_op op_modN (pe_op op_add (pe_op op_mul (pv 3) (pv 3)) (pe_op op_mul pe_int (pv 3))) pe_int))
    (pss_one (ps_ret (pe_op op_modN (pe_op op_fdivN (pv 3) pe_int) (pv 1)))))))), ?_⟩
  refine ⟨_, rfl, p, _, 0, .int i, rfl, rfl, SqL.of e, atI_nat (j := 0) rfl, _, _, rfl, rfl, _, rfl, ite2 (fun c => ?_) (fun c => ?_)⟩
  · have c' : i > 0 := of_decide_eq_true c
    refine ⟨_, rfl, p, _, 0, .int i, rfl, rfl, SqL.of e, atI_nat (j := 0) rfl, _, rfl, _, _, rfl, rfl, (by show n ≠ 0; omega), ?_⟩
    refine ⟨_, rfl, p, _, 0, .int i, rfl, rfl, SqL.of e, atI_nat (j := 0) rfl, _, rfl, _, _, rfl, rfl, ⟨by omega, by omega⟩, ?_⟩
    refine ⟨_, rfl, p, _, 0, 0, rfl, rfl, e, rfl, ?_⟩
    refine ⟨_, rfl, q _ _ (bar_upd _) ⟨_, j, k, upd_same, ?_, hj, hj2⟩ ?_ ?_⟩
    · rw [Int.fdiv_eq_ediv_of_nonneg _ (by omega)]
      exact Int.ediv_nonneg hi (by omega)
    · rw [Int.fmod_eq_emod_of_nonneg _ (by omega)]
      exact Int.emod_nonneg _ (by omega)
    · rw [Int.fmod_eq_emod_of_nonneg _ (by omega)]
      exact Int.emod_lt_of_pos _ hn
  · refine ⟨_, rfl, p, _, 2, .int k, rfl, rfl, SqL.of e, atI_nat (j := 2) rfl, _, _, rfl, rfl, ?_⟩
    refine ⟨_, rfl, p, _, 2, 2, rfl, rfl, e, rfl, ?_⟩
    have e1 : (upd H p (.lst ([.int i, .int j, .int k].set 2 (.int (k + 1))))) p = some (.lst [.int i, .int j, .int (k + 1)]) := upd_same
    refine ⟨_, rfl, p, _, 1, .int j, rfl, rfl, SqL.of e1, atI_nat (j := 1) rfl, _, _, rfl, rfl, .inl ⟨by omega, by omega⟩, ?_⟩
    refine ⟨_, rfl, p, _, 2, .int (k + 1), rfl, rfl, SqL.of e1, atI_nat (j := 2) rfl, _, _, rfl, rfl, .inl ⟨by decide, by decide⟩, _, _, rfl, rfl, _, _, rfl, rfl, _, _, rfl, rfl, (by show (2147483647 : Int) ≠ 0; decide), ?_⟩
    have hj0 : 0 ≤ ((j * 48271 + 1009 * (k + 1) + 7).fmod 2147483647) ∧ ((j * 48271 + 1009 * (k + 1) + 7).fmod 2147483647) < 2147483648 := by rw [Int.fmod_eq_emod_of_nonneg _ (by decide)]; omega
    dsimp only
    revert hj0
    generalize (j * 48271 + 1009 * (k + 1) + 7).fmod 2147483647 = j'
    intro hj'
    refine ⟨_, rfl, p, _, 1, 1, rfl, rfl, e1, rfl, ?_⟩
    have e2 : (upd (upd H p (.lst ([.int i, .int j, .int k].set 2 (.int (k + 1))))) p (.lst (([.int i, .int j, .int (k + 1)] : List V).set 1 (.int j')))) p = some (.lst [.int i, .int j', .int (k + 1)]) := upd_same
    have b2 : Bar p H (upd (upd H p (.lst ([.int i, .int j, .int k].set 2 (.int (k + 1))))) p (.lst (([.int i, .int j, .int (k + 1)] : List V).set 1 (.int j')))) := (bar_upd _).trans (bar_upd _)
    refine ⟨_, rfl, p, _, 1, .int j', rfl, rfl, SqL.of e2, atI_nat (j := 1) rfl, ?_⟩
    refine ⟨_, rfl, p, _, 1, .int j', rfl, rfl, SqL.of e2, atI_nat (j := 1) rfl, _, _, rfl, rfl, .inl ⟨by omega, by omega⟩, ?_⟩
    refine ⟨_, rfl, p, _, 1, .int j', rfl, rfl, SqL.of e2, atI_nat (j := 1) rfl, _, _, rfl, rfl, .inl ⟨by decide, by decide⟩, _, _, rfl, rfl, _, _, rfl, rfl, _, _, rfl, rfl, (by show (2147483629 : Int) ≠ 0; decide), ?_⟩
    have hm0 : 0 ≤ ((j' * j' + 69621 * j' + 11).fmod 2147483629) ∧ ((j' * j' + 69621 * j' + 11).fmod 2147483629) < 2147483648 := by rw [Int.fmod_eq_emod_of_nonneg _ (by decide)]; omega
    dsimp only
    revert hm0
    generalize (j' * j' + 69621 * j' + 11).fmod 2147483629 = m
    intro hm
    refine ⟨_, rfl, _, rfl, _, _, rfl, rfl, .inl ⟨by omega, by omega⟩, _, rfl, _, _, rfl, rfl, .inl ⟨by decide, by decide⟩, _, _, rfl, rfl, _, _, rfl, rfl, (by show (2147483587 : Int) ≠ 0; decide), ?_⟩
    refine ⟨_, rfl, _, _, rfl, rfl, ⟨by decide, by decide⟩, _, rfl, _, _, rfl, rfl, (by show n ≠ 0; omega), q _ _ b2 ⟨i, j', k + 1, e2, hi, hj'⟩ ?_ ?_⟩
    · rw [Int.fmod_eq_emod_of_nonneg _ (by omega)]
      exact Int.emod_nonneg _ (by omega)
    · rw [Int.fmod_eq_emod_of_nonneg _ (by omega)]
      exact Int.emod_lt_of_pos _ hn
end
end N

namespace N
open PySem PySem.Spec PyProof.Rows L2
section
variable {P : Program} {w : World} {K : PySem.W.Frag} {mg : Str → Option Value} {base : Heap}
def spPick (K : PySem.W.Frag) : Sp := fun vs H Q _ => ∃ (p a : Addr) (xs : List V), vs = [.ref p, .ref a] ∧ Pen H p ∧ a ≠ p ∧ SqL K H a xs ∧ 0 < xs.length ∧ xs.length ≤ 1000 ∧ ∀ H' x, Bar p H H' → Pen H' p → x ∈ xs → Q x H'
theorem ok_pick (G : Glo mg) (CD : Cal P w K mg base 1 "_law_draw" ["_law_pen_here", "_law_many"] (spDraw K)) (D : DefAt K mg "_law_pick" s_Lpick ["_law_pen_here", "_law_some"]) : Cal P w K mg base 2 "_law_pick" ["_law_pen_here", "_law_some"] (spPick K) := by
  refine D.cal sc_Lpick (fun vs H Q E h => ?_) (fun f cdv A outer s H vs Q E hr h => ?_)
  · obtain ⟨p, a, xs, rfl, _⟩ := h
    rfl
  obtain ⟨p, a, xs, rfl, hp, hne, hS, h0, h1, q⟩ := h
  refine ⟨_, pss_one (ps_ret (pe_ix ix_list (pv 1) (pc CD hr rfl (pa_cons (pv 0) (pa_cons (pe_callB call_len_seq (by rfl) G.len PySem.boot_len (pa_cons (pv 1) pa_nil)) pa_nil))) (fun _ _ => rfl))), ?_⟩
  refine ⟨_, rfl, _, rfl, _, rfl, a, _, rfl, .inl hS, p, _, rfl, hp, by omega, by omega, fun H' r b pn r0 r1 => ?_⟩
  have hk : r.toNat < xs.length := by omega
  have er : r = ((r.toNat : Nat) : Int) := by omega
  refine ⟨a, xs, r, xs[r.toNat], rfl, rfl, bar_seq b hne hS, ?_, q H' _ b pn (List.getElem_mem hk)⟩
  have := atI_nat (xs := xs) (List.getElem?_eq_getElem hk)
  rw [← er] at this
  exact this
/-! ### drawn kinds -/
def Kd.of (ls : List Str) (ss : List (Str × Nat)) : Kd → Prop
  | .L c => c ∈ ls
  | .C0 n => (n, 0) ∈ ss
  | .C1 n a => (n, 1) ∈ ss ∧ a.of ls ss
  | .C2 n a b => (n, 2) ∈ ss ∧ a.of ls ss ∧ b.of ls ss
def Shp (K : PySem.W.Frag) (H : Hp) (svs : List V) (ss : List (Str × Nat)) : Prop := Paired (fun v s => ∃ t, v = V.ref t ∧ SqT K H t [.str s.1, .int (s.2 : Nat)]) svs ss
structure Men (ls : List Str) (ss : List (Str × Nat)) : Prop where
  l : ∀ c ∈ ls, isLet c = true
  s : ∀ s ∈ ss, isNam s.1 = true ∧ s.2 ≤ 2
  z : ∃ n, (n, 0) ∈ ss
  ll : ls.length ≤ 100
  sl : ss.length ≤ 100
theorem let_len {x : Str} (h : isLet x = true) : x.length ≤ 100000 := by
  unfold isLet at h
  simp only [Bool.and_eq_true, decide_eq_true_eq] at h
  omega
theorem nam_len {x : Str} (h : isNam x = true) : x.length ≤ 100000 := by
  have := (isNam_iff.mp h).2.1
  omega
theorem Kd.of_ok {ls : List Str} {ss : List (Str × Nat)} (M : Men ls ss) : ∀ {k : Kd}, k.of ls ss → k.ok
  | .L c, h => M.l c h
  | .C0 n, h => (M.s _ h).1
  | .C1 n a, h => ⟨(M.s _ h.1).1, of_ok M h.2⟩
  | .C2 n a b, h => ⟨(M.s _ h.1).1, of_ok M h.2.1, of_ok M h.2.2⟩
theorem Shp.stay {H H' : Hp} {svs : List V} {ss : List (Str × Nat)} (s : Stay K H H') (h : Shp K H svs ss) : Shp K H' svs ss := Paired.mapP h fun _ _ ⟨t, e, q⟩ => ⟨t, e, s.tup _ _ q⟩
theorem Shp.at {H : Hp} : ∀ {svs : List V} {ss : List (Str × Nat)} {i : Nat} {x : V}, Shp K H svs ss → svs[i]? = some x → ∃ s, ss[i]? = some s ∧ ∃ t, x = .ref t ∧ SqT K H t [.str s.1, .int (s.2 : Nat)]
  | _, _, i, x, .nil, h => by simp at h
  | _, _, 0, x, .cons r _, h => by
    simp at h
    subst h
    exact ⟨_, rfl, r⟩
  | _, _, i + 1, x, .cons _ t, h => by
    obtain ⟨s, e, r⟩ := Shp.at (i := i) (x := x) t (by simpa using h)
    exact ⟨s, by simpa using e, r⟩
def bareK (ss : List (Str × Nat)) : List Kd := (ss.filter fun s => s.2 == 0).map fun s => .C0 s.1
theorem bareK_snoc {ss : List (Str × Nat)} {i : Nat} {s : Str × Nat} (h : ss[i]? = some s) : bareK (ss.take (i + 1)) = bareK (ss.take i) ++ (if s.2 = 0 then [.C0 s.1] else []) := by
  unfold bareK
  rw [List.take_add_one, h, List.filter_append, List.map_append]
  congr 1
  by_cases e : s.2 = 0 <;> simp [e]
def spKind (K : PySem.W.Frag) (M : Nat) : Sp := fun vs H Q _ => ∃ (p al sl : Addr) (ls : List Str) (svs : List V) (ss : List (Str × Nat)) (most : Nat), vs = [.ref p, .ref al, .ref sl, .int (most : Nat)] ∧ Pen H p ∧ al ≠ p ∧ sl ≠ p ∧
  H al = some (.lst (ls.map .str)) ∧ SqL K H sl svs ∧ Shp K H svs ss ∧ Men ls ss ∧ most < M ∧ ∀ H' v k, Bar p H H' → Pen H' p → Kp K H' v k → k.of ls ss → k.nds ≤ 2 * most + 1 → Q v H'
theorem kind_none (D : DefAt K mg "_law_kind" s_Lkind ["_law_pen_here", "_law_letters", "_law_shapes", "_law_most"]) : Cal P w K mg base 2 "_law_kind" ["_law_pen_here", "_law_letters", "_law_shapes", "_law_most"] (spKind K 0) := by
  obtain ⟨f, fd, a, F, b⟩ := D
  have no : ∀ vs H Q E, ¬ spKind K 0 vs H Q E := fun vs H Q E h => by
    obtain ⟨_, _, _, _, _, _, most, _, _, _, _, _, _, _, _, hm, _⟩ := h
    omega
  exact ⟨f, fd, a, F.kp, b, fun vs H Q E h => absurd h (no vs H Q E), fun A outer s H args us vs Q E _ _ _ _ h => absurd h (no vs H Q E)⟩
/-- the letters and the bare names, as the def puts them together -/
theorem kps_letters {H : Hp} : ∀ {ls : List Str}, (∀ c ∈ ls, isLet c = true) → Kps K H (ls.map .str) (ls.map Kd.L)
  | [], _ => .nil
  | c :: ls, h => .cons (.str c (let_len (h c List.mem_cons_self))) (kps_letters fun x hx => h x (List.mem_cons_of_mem _ hx))
theorem Kps.mem {H : Hp} : ∀ {vs : List V} {ks : List Kd} {v : V}, Kps K H vs ks → v ∈ vs → ∃ k ∈ ks, Kp K H v k
  | _, [], v, .nil, h => by cases h
  | _, k :: ks, v, .cons r t, h => by
    rcases List.mem_cons.mp h with rfl | h
    · exact ⟨k, List.mem_cons_self, r⟩
    · obtain ⟨k', h1, h2⟩ := Kps.mem t h
      exact ⟨k', List.mem_cons_of_mem _ h1, h2⟩
theorem eqv_letters (ls : List Str) : PyData.eqv (.list (ls.map .str)) (.list []) = ls.isEmpty := by
  cases ls <;> simp [PyData.eqv, PyData.eqvAll]
theorem dp_letters {H : Hp} : ∀ ls : List Str, DpAll K H (ls.map .str) (ls.map .str)
  | [] => .nil
  | c :: ls => .cons (.str c) (dp_letters ls)
theorem strOk_of {x : Str} (h : ∀ c ∈ x.cps.toList, c < 1114112) : PyData.strOk x = true := by
  obtain ⟨⟨l⟩⟩ := x
  show Array.all _ _ = true
  rw [List.all_toArray, List.all_eq_true]
  intro c hc
  exact decide_eq_true (h c hc)
theorem let_strOk {x : Str} (h : isLet x = true) : PyData.strOk x = true := by
  obtain ⟨c, e, h1, h2⟩ := isLet_iff.mp h
  refine strOk_of fun z hz => ?_
  rw [e] at hz
  have := List.mem_singleton.mp hz
  omega
theorem nam_strOk {x : Str} (h : isNam x = true) : PyData.strOk x = true := by
  obtain ⟨_, _, h3⟩ := isNam_iff.mp h
  refine strOk_of fun z hz => ?_
  have := h3 z hz
  unfold Low at this
  omega
theorem shaped_letters {ls : List Str} (hl : ∀ c ∈ ls, isLet c = true) : SeqAt.shaped (.list (ls.map .str)) = true := by
  have h1 : ∀ ls : List Str, (∀ c ∈ ls, isLet c = true) → PyData.canLayAll0 (ls.map .str) = true := fun ls => by
    induction ls with
    | nil => intro _; simp [PyData.canLayAll0]
    | cons c ls ih =>
      intro h
      simp [PyData.canLayAll0, PyData.canLay0, ih fun x hx => h x (List.mem_cons_of_mem _ hx), let_strOk (h c List.mem_cons_self)]
  have h2 : ∀ ls : List Str, PyData.depthAll (ls.map .str) ≤ 1 := fun ls => by
    induction ls with
    | nil => simp [PyData.depthAll]
    | cons c ls ih => simp only [List.map_cons, PyData.depthAll, PyData.depth]; omega
  show (PyData.canLay0 _ && decide (PyData.depth _ ≤ 64)) = true
  rw [Bool.and_eq_true, decide_eq_true_eq]
  refine ⟨by simp only [PyData.canLay0]; exact h1 ls hl, ?_⟩
  have := h2 ls
  simp only [PyData.depth]
  omega
/-- a name and its arguments -/
def mkK (n : Str) : List Kd → Kd
  | [] => .C0 n
  | [a] => .C1 n a
  | a :: b :: _ => .C2 n a b
theorem mkK_nm (n : Str) : ∀ ks : List Kd, (mkK n ks).nm = n ∧ (mkK n ks).isC = true
  | [] => ⟨rfl, rfl⟩
  | [_] => ⟨rfl, rfl⟩
  | _ :: _ :: _ => ⟨rfl, rfl⟩
theorem mkK_args (n : Str) : ∀ ks : List Kd, ks.length ≤ 2 → (mkK n ks).args = ks
  | [], _ => rfl
  | [_], _ => rfl
  | [_, _], _ => rfl
  | _ :: _ :: _ :: _, h => by simp at h
theorem mkK_of {ls : List Str} {ss : List (Str × Nat)} {n : Str} : ∀ {ks : List Kd}, ks.length ≤ 2 → (n, ks.length) ∈ ss → (∀ k ∈ ks, k.of ls ss) → (mkK n ks).of ls ss
  | [], _, h, _ => h
  | [a], _, h, q => ⟨h, q a (by simp)⟩
  | [a, b], _, h, q => ⟨h, q a (by simp), q b (by simp)⟩
  | _ :: _ :: _ :: _, h, _, _ => by simp at h
theorem mkK_nds {n : Str} {most : Nat} : ∀ {ks : List Kd}, ks.length ≤ 2 → ks.length < most → (∀ k ∈ ks, k.nds ≤ 2 * ((most - 1) / ks.length) + 1) → (mkK n ks).nds ≤ 2 * most + 1
  | [], _, _, _ => by simp [mkK, Kd.nds]
  | [a], _, h, q => by
    have := q a (by simp)
    simp only [List.length_singleton, Nat.div_one] at this
    simp only [mkK, Kd.nds, List.length_singleton] at *
    omega
  | [a, b], _, h, q => by
    have h1 := q a (by simp)
    have h2 := q b (by simp)
    simp only [List.length_cons, List.length_nil] at h1 h2 h
    simp only [mkK, Kd.nds]
    omega
  | _ :: _ :: _ :: _, h, _, _ => by simp at h
end
end N

namespace N
open PySem PySem.Spec PyProof.Rows L2
section
variable {X : Cx}
/-- list.count of a flat item among flat items -/
def rCnt (K : PySem.W.Frag) : V → List V → Hp → VK → Prop := fun x xs H Q => ∃ (p : Addr) (ys : List V) (y : V), x = .ref p ∧ xs = [y] ∧ SqL K H p ys ∧ flatV y = true ∧ ys.all flatV = true ∧ Q (.int ((ys.countP fun z => eqV z y : Nat))) H
theorem count_of {y : V} : ∀ {ys : List V} {us : List Value}, Vals ys us → ys.all flatV = true → us.countP (eqU y) = ys.countP fun z => eqV z y
  | _, _, .nil, _ => rfl
  | z :: ys, _, .cons r t, h => by
    rw [List.all_cons, Bool.and_eq_true] at h
    rw [List.countP_cons, List.countP_cons, count_of t h.2, eqU_of r h.1]
theorem mt_cnt : MtR X "list.count" (rCnt X.K) := by
  intro pins s σ H x xs v us Q I rx rxs h
  obtain ⟨p, ys, y, rfl, rfl, hs, fy, fys, q⟩ := h
  cases rx
  obtain ⟨uy, rfl, ry⟩ := rxs.one
  obtain ⟨its, rv, ⟨⟨cls, dd, data, sl⟩, n, ho, hc, hdn, hd⟩, hlen⟩ := I.list hs
  simp only at hc hd
  subst hc hd
  refine call_meets PySem.F.slot_list_count ⟨_, ho, rfl⟩ PySem.F.entry_list_count (PySem.F.args_list_count_2 _ _)
    (SeqAt.list_countAt p its.toArray n dd sl uy (eqU y)) ⟨ho, fun u' hu' => mem_eqAt ry fy rv fys u' (by simpa using hu'), ?_⟩
  have ec : its.toArray.toList.countP (eqU y) = ys.countP fun z => eqV z y := count_of rv fys
  refine ⟨.int ((ys.countP fun z => eqV z y : Nat)), H, I.tok _, ⟨s.toks, ?_⟩, q⟩
  show Value.int ((its.toArray.toList.countP (eqU y) : Nat) : Int) s.toks = _
  rw [ec]
end
end N

namespace N
open PySem PySem.Spec PyProof.Rows L2
/-! ### the eighteen classes, and word -/
def exA : List Str := ["NoType", "NoValues", "NoText", "NoClass", "NoTable", "NoName", "NoMost", "NoRoots", "NoRoot", "NoDeed"]
def exB : List Str := ["TooMany", "Crowded", "NothingDone", "Unfit", "Looped", "Turned", "Endless", "Clash"]
def exN (j : Nat) : Str := (exA ++ exB).getD j ""
structure Kls (K : PySem.W.Frag) (mg : Str → Option Value) (c : Nat → Addr) : Prop where
  gl : ∀ j, j < 18 → mg (exN j) = some (.ref (c j))
  ex : ∀ j, j < 18 → ExcC K (c j)
  kit : ∀ i j, i < 18 → j < 18 → PySem.W.kitOne K (.ref (c i)) (.ref (c j)) = some (decide (i = j))
  ve : ∀ i, i < 18 → PySem.W.kitOne K (.ref (c i)) (.type "ValueError") = some true
  ke : ∃ e, mg "KindError" = some (.ref e) ∧ ∀ i, i < 18 → PySem.W.kitOne K (.ref (c i)) (.ref e) = some true
section
variable {P : Program} {w : World} {K : PySem.W.Frag} {mg : Str → Option Value} {base : Heap} {c : Nat → Addr}
theorem isx_q (Kl : Kls K mg c) {H : Hp} {v : V} {i : Nat} {fs : List (Str × V)} (j : Nat) {Q : VK} (hx : ExP H v (c i) fs) (hi : i < 18) (q : Q (.bl (decide (i = j))) H) (hj : j < 18 := by decide) : rIsX K [v, .ref (c j)] H Q :=
  ⟨v, .ref (c j), c i, fs, .ref (c j), _, rfl, hx, Kl.ex i hi, fun u r => r, Kl.kit i j hi hj, q⟩
def mks (i : Nat) : List V := (List.range 18).map fun j => V.bl (decide (i = j))
theorem mks_cnt : ∀ i, i < 18 → (mks i).countP (fun z => eqV z (.bl true)) = 1 := by decide +kernel
theorem mks_at : ∀ i, i < 18 → (mks i)[i]? = some (.bl true) := by
  intro i hi
  unfold mks
  rw [List.getElem?_map, List.getElem?_range hi]
  simp
theorem mks_no : ∀ (i m : Nat) (z : V), i < 18 → m < i → (mks i)[m]? = some z → eqV z (.bl true) = false := by
  intro i m z hi hm h
  unfold mks at h
  rw [List.getElem?_map, List.getElem?_range (by omega)] at h
  cases h
  show eqV (V.bl (decide (i = m))) (.bl true) = false
  rw [decide_eq_false (by omega : ¬ i = m)]
  rfl
theorem mks_flat : ∀ i, i < 18 → (mks i).all flatV = true := by decide +kernel
theorem nm_at : ∀ i, i < 18 → ((exA ++ exB).map V.str)[i]? = some (.str (exN i)) := by
  intro i hi
  rw [List.getElem?_map]
  unfold exN
  rw [List.getD_eq_getElem?_getD, List.getElem?_eq_getElem (show i < (exA ++ exB).length from hi)]
  rfl
/-- word: the name of e's class -/
def spWord (K : PySem.W.Frag) (c : Nat → Addr) : Sp := fun vs H Q _ => ∃ (v : V) (i : Nat) (fs : List (Str × V)), vs = [v] ∧ i < 18 ∧ ExP H v (c i) fs ∧ ∀ H', Same H H' → Q (.str (exN i)) H'
theorem ok_word (G : Glo mg) (Kl : Kls K mg c) (hve : mg "ValueError" = none) (D : DefAt K mg "_law_word" s_Lword ["_law_e"]) : Cal P w K mg base 1 "_law_word" ["_law_e"] (spWord K c) := by
  refine D.cal sc_Lword (fun vs H Q E h => ?_) (fun f cdv A outer s H vs Q E hr h => ?_)
  · obtain ⟨v, i, fs, rfl, _⟩ := h
    rfl
  obtain ⟨v, i, fs, rfl, hi, hx, q⟩ := h
  have g := Kl.gl
  refine ⟨_, (pss_cons (ps_set (i := 1) sc_Lword.nd rfl (Or.inl rfl) (pe_lst (pa_cons (pe_callB call_isX (by rfl) G.isinstance (by decide +kernel) (pa_cons (pv 0) (pa_cons (pe_glob (v := .ref (c 0)) (by rfl) (g 0 (by decide)) rfl) pa_nil))) (pa_cons (pe_callB call_isX (by rfl) G.isinstance (by decide +kernel) (pa_cons (pv 0) (pa_cons (pe_glob (v := .ref (c 1)) (by rfl) (g 1 (by decide)) rfl) pa_nil))) (pa_cons (pe_callB call_isX (by rfl) G.isinstance (by decide +kernel) (pa_cons (pv 0) (pa_cons (pe_glob (v := .ref (c 2)) (by rfl) (g 2 (by decide)) rfl) pa_nil))) (pa_cons (pe_callB call_isX (by rfl) G.isinstance (by decide +kernel) (pa_cons (pv 0) (pa_cons (pe_glob (v := .ref (c 3)) (by rfl) (g 3 (by decide)) rfl) pa_nil))) pa_nil))))))
    (pss_cons (ps_set (i := 1) sc_Lword.nd rfl (Or.inl rfl) (pe_op op_cat (pv 1) (pe_lst (pa_cons (pe_callB call_isX (by rfl) G.isinstance (by decide +kernel) (pa_cons (pv 0) (pa_cons (pe_glob (v := .ref (c 4)) (by rfl) (g 4 (by decide)) rfl) pa_nil))) (pa_cons (pe_callB call_isX (by rfl) G.isinstance (by decide +kernel) (pa_cons (pv 0) (pa_cons (pe_glob (v := .ref (c 5)) (by rfl) (g 5 (by decide)) rfl) pa_nil))) (pa_cons (pe_callB call_isX (by rfl) G.isinstance (by decide +kernel) (pa_cons (pv 0) (pa_cons (pe_glob (v := .ref (c 6)) (by rfl) (g 6 (by decide)) rfl) pa_nil))) (pa_cons (pe_callB call_isX (by rfl) G.isinstance (by decide +kernel) (pa_cons (pv 0) (pa_cons (pe_glob (v := .ref (c 7)) (by rfl) (g 7 (by decide)) rfl) pa_nil))) pa_nil)))))))
    (pss_cons (ps_set (i := 1) sc_Lword.nd rfl (Or.inl rfl) (pe_op op_cat (pv 1) (pe_lst (pa_cons (pe_callB call_isX (by rfl) G.isinstance (by decide +kernel) (pa_cons (pv 0) (pa_cons (pe_glob (v := .ref (c 8)) (by rfl) (g 8 (by decide)) rfl) pa_nil))) (pa_cons (pe_callB call_isX (by rfl) G.isinstance (by decide +kernel) (pa_cons (pv 0) (pa_cons (pe_glob (v := .ref (c 9)) (by rfl) (g 9 (by decide)) rfl) pa_nil))) (pa_cons (pe_callB call_isX (by rfl) G.isinstance (by decide +kernel) (pa_cons (pv 0) (pa_cons (pe_glob (v := .ref (c 10)) (by rfl) (g 10 (by decide)) rfl) pa_nil))) (pa_cons (pe_callB call_isX (by rfl) G.isinstance (by decide +kernel) (pa_cons (pv 0) (pa_cons (pe_glob (v := .ref (c 11)) (by rfl) (g 11 (by decide)) rfl) pa_nil))) pa_nil)))))))
    (pss_cons (ps_set (i := 1) sc_Lword.nd rfl (Or.inl rfl) (pe_op op_cat (pv 1) (pe_lst (pa_cons (pe_callB call_isX (by rfl) G.isinstance (by decide +kernel) (pa_cons (pv 0) (pa_cons (pe_glob (v := .ref (c 12)) (by rfl) (g 12 (by decide)) rfl) pa_nil))) (pa_cons (pe_callB call_isX (by rfl) G.isinstance (by decide +kernel) (pa_cons (pv 0) (pa_cons (pe_glob (v := .ref (c 13)) (by rfl) (g 13 (by decide)) rfl) pa_nil))) (pa_cons (pe_callB call_isX (by rfl) G.isinstance (by decide +kernel) (pa_cons (pv 0) (pa_cons (pe_glob (v := .ref (c 14)) (by rfl) (g 14 (by decide)) rfl) pa_nil))) (pa_cons (pe_callB call_isX (by rfl) G.isinstance (by decide +kernel) (pa_cons (pv 0) (pa_cons (pe_glob (v := .ref (c 15)) (by rfl) (g 15 (by decide)) rfl) pa_nil))) pa_nil)))))))
    (pss_cons (ps_set (i := 1) sc_Lword.nd rfl (Or.inl rfl) (pe_op op_cat (pv 1) (pe_lst (pa_cons (pe_callB call_isX (by rfl) G.isinstance (by decide +kernel) (pa_cons (pv 0) (pa_cons (pe_glob (v := .ref (c 16)) (by rfl) (g 16 (by decide)) rfl) pa_nil))) (pa_cons (pe_callB call_isX (by rfl) G.isinstance (by decide +kernel) (pa_cons (pv 0) (pa_cons (pe_glob (v := .ref (c 17)) (by rfl) (g 17 (by decide)) rfl) pa_nil))) pa_nil)))))
    (pss_cons (ps_set (i := 2) sc_Lword.nd rfl (Or.inl rfl) (pe_lst (pa_cons pe_str (pa_cons pe_str (pa_cons pe_str (pa_cons pe_str (pa_cons pe_str (pa_cons pe_str (pa_cons pe_str (pa_cons pe_str (pa_cons pe_str (pa_cons pe_str pa_nil))))))))))))
    (pss_cons (ps_set (i := 2) sc_Lword.nd rfl (Or.inl rfl) (pe_op op_cat (pv 2) (pe_lst (pa_cons pe_str (pa_cons pe_str (pa_cons pe_str (pa_cons pe_str (pa_cons pe_str (pa_cons pe_str (pa_cons pe_str (pa_cons pe_str pa_nil)))))))))))
    (pss_cons (ps_if (PW.pt (pw_or (pt_cmpR op_ne (pe_bm PySem.F.plainAttrs_list PySem.F.slot_list_count PySem.F.type_list_count mt_cnt (pv 1) (pa_cons pe_bl pa_nil)) pe_int (nomark _)) (pw_or1 (pt_not (pt_val (pe_callB call_isX (by rfl) G.isinstance (by decide +kernel) (pa_cons (pv 0) (pa_cons (pe_bltn (v := .ty "ValueError") (by rfl) hve (by decide +kernel) rfl) pa_nil)))))))) (pss_one (ps_ret pe_str)) pss_nil)
    (pss_one (ps_ret (pe_ix ix_list (pv 2) (pe_bm PySem.F.plainAttrs_list PySem.F.slot_list_index PySem.F.type_list_index mt_index (pv 1) (pa_cons pe_bl pa_nil)) (fun _ _ => rfl)))))))))))), ?_⟩
  have len : ∀ n, n ≤ 18 → n ≤ sizeLine := fun n h => by rw [sizeLine_eq]; omega
  refine ⟨v, rfl, v, .ref (c 0), c i, fs, .ref (c 0), _, rfl, hx, Kl.ex i hi, fun u r => r, Kl.kit i 0 hi (by decide), ⟨v, rfl, v, .ref (c 1), c i, fs, .ref (c 1), _, rfl, hx, Kl.ex i hi, fun u r => r, Kl.kit i 1 hi (by decide), ⟨v, rfl, v, .ref (c 2), c i, fs, .ref (c 2), _, rfl, hx, Kl.ex i hi, fun u r => r, Kl.kit i 2 hi (by decide), ⟨v, rfl, v, .ref (c 3), c i, fs, .ref (c 3), _, rfl, hx, Kl.ex i hi, fun u r => r, Kl.kit i 3 hi (by decide), ⟨len 4 (by decide), fun a1 h1 => ?_⟩⟩⟩⟩⟩
  have s1 : Same H (upd H a1 (.lst [V.bl (decide (i = 0)), V.bl (decide (i = 1)), V.bl (decide (i = 2)), V.bl (decide (i = 3))])) := same_new h1 _
  have l1 : (upd H a1 (.lst [V.bl (decide (i = 0)), V.bl (decide (i = 1)), V.bl (decide (i = 2)), V.bl (decide (i = 3))])) a1 = some (.lst [V.bl (decide (i = 0)), V.bl (decide (i = 1)), V.bl (decide (i = 2)), V.bl (decide (i = 3))]) := upd_same
  revert s1 l1
  generalize upd H a1 (.lst [V.bl (decide (i = 0)), V.bl (decide (i = 1)), V.bl (decide (i = 2)), V.bl (decide (i = 3))]) = H1
  intro s1 l1
  refine ⟨_, rfl, ⟨v, rfl, v, .ref (c 4), c i, fs, .ref (c 4), _, rfl, (hx.same s1), Kl.ex i hi, fun u r => r, Kl.kit i 4 hi (by decide), ⟨v, rfl, v, .ref (c 5), c i, fs, .ref (c 5), _, rfl, (hx.same s1), Kl.ex i hi, fun u r => r, Kl.kit i 5 hi (by decide), ⟨v, rfl, v, .ref (c 6), c i, fs, .ref (c 6), _, rfl, (hx.same s1), Kl.ex i hi, fun u r => r, Kl.kit i 6 hi (by decide), ⟨v, rfl, v, .ref (c 7), c i, fs, .ref (c 7), _, rfl, (hx.same s1), Kl.ex i hi, fun u r => r, Kl.kit i 7 hi (by decide), ⟨len 4 (by decide), fun b1 g1 => ?_⟩⟩⟩⟩⟩⟩
  refine ⟨a1, b1, _, _, rfl, rfl, same_new g1 _ _ _ l1, upd_same, len 8 (by decide), fun a2 h2 => ?_⟩
  have s2 : Same H (upd (upd H1 b1 (.lst [V.bl (decide (i = 4)), V.bl (decide (i = 5)), V.bl (decide (i = 6)), V.bl (decide (i = 7))])) a2 (.lst ([V.bl (decide (i = 0)), V.bl (decide (i = 1)), V.bl (decide (i = 2)), V.bl (decide (i = 3))] ++ [V.bl (decide (i = 4)), V.bl (decide (i = 5)), V.bl (decide (i = 6)), V.bl (decide (i = 7))]))) := (s1.trans (same_new g1 _)).trans (same_new h2 _)
  have l2 : (upd (upd H1 b1 (.lst [V.bl (decide (i = 4)), V.bl (decide (i = 5)), V.bl (decide (i = 6)), V.bl (decide (i = 7))])) a2 (.lst ([V.bl (decide (i = 0)), V.bl (decide (i = 1)), V.bl (decide (i = 2)), V.bl (decide (i = 3))] ++ [V.bl (decide (i = 4)), V.bl (decide (i = 5)), V.bl (decide (i = 6)), V.bl (decide (i = 7))]))) a2 = some (.lst ([V.bl (decide (i = 0)), V.bl (decide (i = 1)), V.bl (decide (i = 2)), V.bl (decide (i = 3))] ++ [V.bl (decide (i = 4)), V.bl (decide (i = 5)), V.bl (decide (i = 6)), V.bl (decide (i = 7))])) := upd_same
  revert s2 l2
  generalize (upd (upd H1 b1 (.lst [V.bl (decide (i = 4)), V.bl (decide (i = 5)), V.bl (decide (i = 6)), V.bl (decide (i = 7))])) a2 (.lst ([V.bl (decide (i = 0)), V.bl (decide (i = 1)), V.bl (decide (i = 2)), V.bl (decide (i = 3))] ++ [V.bl (decide (i = 4)), V.bl (decide (i = 5)), V.bl (decide (i = 6)), V.bl (decide (i = 7))]))) = H2
  intro s2 l2
  refine ⟨_, rfl, ⟨v, rfl, v, .ref (c 8), c i, fs, .ref (c 8), _, rfl, (hx.same s2), Kl.ex i hi, fun u r => r, Kl.kit i 8 hi (by decide), ⟨v, rfl, v, .ref (c 9), c i, fs, .ref (c 9), _, rfl, (hx.same s2), Kl.ex i hi, fun u r => r, Kl.kit i 9 hi (by decide), ⟨v, rfl, v, .ref (c 10), c i, fs, .ref (c 10), _, rfl, (hx.same s2), Kl.ex i hi, fun u r => r, Kl.kit i 10 hi (by decide), ⟨v, rfl, v, .ref (c 11), c i, fs, .ref (c 11), _, rfl, (hx.same s2), Kl.ex i hi, fun u r => r, Kl.kit i 11 hi (by decide), ⟨len 4 (by decide), fun b2 g2 => ?_⟩⟩⟩⟩⟩⟩
  refine ⟨a2, b2, _, _, rfl, rfl, same_new g2 _ _ _ l2, upd_same, len 12 (by decide), fun a3 h3 => ?_⟩
  have s3 : Same H (upd (upd H2 b2 (.lst [V.bl (decide (i = 8)), V.bl (decide (i = 9)), V.bl (decide (i = 10)), V.bl (decide (i = 11))])) a3 (.lst (([V.bl (decide (i = 0)), V.bl (decide (i = 1)), V.bl (decide (i = 2)), V.bl (decide (i = 3))] ++ [V.bl (decide (i = 4)), V.bl (decide (i = 5)), V.bl (decide (i = 6)), V.bl (decide (i = 7))]) ++ [V.bl (decide (i = 8)), V.bl (decide (i = 9)), V.bl (decide (i = 10)), V.bl (decide (i = 11))]))) := (s2.trans (same_new g2 _)).trans (same_new h3 _)
  have l3 : (upd (upd H2 b2 (.lst [V.bl (decide (i = 8)), V.bl (decide (i = 9)), V.bl (decide (i = 10)), V.bl (decide (i = 11))])) a3 (.lst (([V.bl (decide (i = 0)), V.bl (decide (i = 1)), V.bl (decide (i = 2)), V.bl (decide (i = 3))] ++ [V.bl (decide (i = 4)), V.bl (decide (i = 5)), V.bl (decide (i = 6)), V.bl (decide (i = 7))]) ++ [V.bl (decide (i = 8)), V.bl (decide (i = 9)), V.bl (decide (i = 10)), V.bl (decide (i = 11))]))) a3 = some (.lst (([V.bl (decide (i = 0)), V.bl (decide (i = 1)), V.bl (decide (i = 2)), V.bl (decide (i = 3))] ++ [V.bl (decide (i = 4)), V.bl (decide (i = 5)), V.bl (decide (i = 6)), V.bl (decide (i = 7))]) ++ [V.bl (decide (i = 8)), V.bl (decide (i = 9)), V.bl (decide (i = 10)), V.bl (decide (i = 11))])) := upd_same
  revert s3 l3
  generalize (upd (upd H2 b2 (.lst [V.bl (decide (i = 8)), V.bl (decide (i = 9)), V.bl (decide (i = 10)), V.bl (decide (i = 11))])) a3 (.lst (([V.bl (decide (i = 0)), V.bl (decide (i = 1)), V.bl (decide (i = 2)), V.bl (decide (i = 3))] ++ [V.bl (decide (i = 4)), V.bl (decide (i = 5)), V.bl (decide (i = 6)), V.bl (decide (i = 7))]) ++ [V.bl (decide (i = 8)), V.bl (decide (i = 9)), V.bl (decide (i = 10)), V.bl (decide (i = 11))]))) = H3
  intro s3 l3
  refine ⟨_, rfl, ⟨v, rfl, v, .ref (c 12), c i, fs, .ref (c 12), _, rfl, (hx.same s3), Kl.ex i hi, fun u r => r, Kl.kit i 12 hi (by decide), ⟨v, rfl, v, .ref (c 13), c i, fs, .ref (c 13), _, rfl, (hx.same s3), Kl.ex i hi, fun u r => r, Kl.kit i 13 hi (by decide), ⟨v, rfl, v, .ref (c 14), c i, fs, .ref (c 14), _, rfl, (hx.same s3), Kl.ex i hi, fun u r => r, Kl.kit i 14 hi (by decide), ⟨v, rfl, v, .ref (c 15), c i, fs, .ref (c 15), _, rfl, (hx.same s3), Kl.ex i hi, fun u r => r, Kl.kit i 15 hi (by decide), ⟨len 4 (by decide), fun b3 g3 => ?_⟩⟩⟩⟩⟩⟩
  refine ⟨a3, b3, _, _, rfl, rfl, same_new g3 _ _ _ l3, upd_same, len 16 (by decide), fun a4 h4 => ?_⟩
  have s4 : Same H (upd (upd H3 b3 (.lst [V.bl (decide (i = 12)), V.bl (decide (i = 13)), V.bl (decide (i = 14)), V.bl (decide (i = 15))])) a4 (.lst ((([V.bl (decide (i = 0)), V.bl (decide (i = 1)), V.bl (decide (i = 2)), V.bl (decide (i = 3))] ++ [V.bl (decide (i = 4)), V.bl (decide (i = 5)), V.bl (decide (i = 6)), V.bl (decide (i = 7))]) ++ [V.bl (decide (i = 8)), V.bl (decide (i = 9)), V.bl (decide (i = 10)), V.bl (decide (i = 11))]) ++ [V.bl (decide (i = 12)), V.bl (decide (i = 13)), V.bl (decide (i = 14)), V.bl (decide (i = 15))]))) := (s3.trans (same_new g3 _)).trans (same_new h4 _)
  have l4 : (upd (upd H3 b3 (.lst [V.bl (decide (i = 12)), V.bl (decide (i = 13)), V.bl (decide (i = 14)), V.bl (decide (i = 15))])) a4 (.lst ((([V.bl (decide (i = 0)), V.bl (decide (i = 1)), V.bl (decide (i = 2)), V.bl (decide (i = 3))] ++ [V.bl (decide (i = 4)), V.bl (decide (i = 5)), V.bl (decide (i = 6)), V.bl (decide (i = 7))]) ++ [V.bl (decide (i = 8)), V.bl (decide (i = 9)), V.bl (decide (i = 10)), V.bl (decide (i = 11))]) ++ [V.bl (decide (i = 12)), V.bl (decide (i = 13)), V.bl (decide (i = 14)), V.bl (decide (i = 15))]))) a4 = some (.lst ((([V.bl (decide (i = 0)), V.bl (decide (i = 1)), V.bl (decide (i = 2)), V.bl (decide (i = 3))] ++ [V.bl (decide (i = 4)), V.bl (decide (i = 5)), V.bl (decide (i = 6)), V.bl (decide (i = 7))]) ++ [V.bl (decide (i = 8)), V.bl (decide (i = 9)), V.bl (decide (i = 10)), V.bl (decide (i = 11))]) ++ [V.bl (decide (i = 12)), V.bl (decide (i = 13)), V.bl (decide (i = 14)), V.bl (decide (i = 15))])) := upd_same
  revert s4 l4
  generalize (upd (upd H3 b3 (.lst [V.bl (decide (i = 12)), V.bl (decide (i = 13)), V.bl (decide (i = 14)), V.bl (decide (i = 15))])) a4 (.lst ((([V.bl (decide (i = 0)), V.bl (decide (i = 1)), V.bl (decide (i = 2)), V.bl (decide (i = 3))] ++ [V.bl (decide (i = 4)), V.bl (decide (i = 5)), V.bl (decide (i = 6)), V.bl (decide (i = 7))]) ++ [V.bl (decide (i = 8)), V.bl (decide (i = 9)), V.bl (decide (i = 10)), V.bl (decide (i = 11))]) ++ [V.bl (decide (i = 12)), V.bl (decide (i = 13)), V.bl (decide (i = 14)), V.bl (decide (i = 15))]))) = H4
  intro s4 l4
  refine ⟨_, rfl, ⟨v, rfl, v, .ref (c 16), c i, fs, .ref (c 16), _, rfl, (hx.same s4), Kl.ex i hi, fun u r => r, Kl.kit i 16 hi (by decide), ⟨v, rfl, v, .ref (c 17), c i, fs, .ref (c 17), _, rfl, (hx.same s4), Kl.ex i hi, fun u r => r, Kl.kit i 17 hi (by decide), ⟨len 2 (by decide), fun b4 g4 => ?_⟩⟩⟩⟩
  refine ⟨a4, b4, _, _, rfl, rfl, same_new g4 _ _ _ l4, upd_same, len 18 (by decide), fun a5 h5 => ?_⟩
  have s5 : Same H (upd (upd H4 b4 (.lst [V.bl (decide (i = 16)), V.bl (decide (i = 17))])) a5 (.lst (((([V.bl (decide (i = 0)), V.bl (decide (i = 1)), V.bl (decide (i = 2)), V.bl (decide (i = 3))] ++ [V.bl (decide (i = 4)), V.bl (decide (i = 5)), V.bl (decide (i = 6)), V.bl (decide (i = 7))]) ++ [V.bl (decide (i = 8)), V.bl (decide (i = 9)), V.bl (decide (i = 10)), V.bl (decide (i = 11))]) ++ [V.bl (decide (i = 12)), V.bl (decide (i = 13)), V.bl (decide (i = 14)), V.bl (decide (i = 15))]) ++ [V.bl (decide (i = 16)), V.bl (decide (i = 17))]))) := (s4.trans (same_new g4 _)).trans (same_new h5 _)
  have l5 : (upd (upd H4 b4 (.lst [V.bl (decide (i = 16)), V.bl (decide (i = 17))])) a5 (.lst (((([V.bl (decide (i = 0)), V.bl (decide (i = 1)), V.bl (decide (i = 2)), V.bl (decide (i = 3))] ++ [V.bl (decide (i = 4)), V.bl (decide (i = 5)), V.bl (decide (i = 6)), V.bl (decide (i = 7))]) ++ [V.bl (decide (i = 8)), V.bl (decide (i = 9)), V.bl (decide (i = 10)), V.bl (decide (i = 11))]) ++ [V.bl (decide (i = 12)), V.bl (decide (i = 13)), V.bl (decide (i = 14)), V.bl (decide (i = 15))]) ++ [V.bl (decide (i = 16)), V.bl (decide (i = 17))]))) a5 = some (.lst (((([V.bl (decide (i = 0)), V.bl (decide (i = 1)), V.bl (decide (i = 2)), V.bl (decide (i = 3))] ++ [V.bl (decide (i = 4)), V.bl (decide (i = 5)), V.bl (decide (i = 6)), V.bl (decide (i = 7))]) ++ [V.bl (decide (i = 8)), V.bl (decide (i = 9)), V.bl (decide (i = 10)), V.bl (decide (i = 11))]) ++ [V.bl (decide (i = 12)), V.bl (decide (i = 13)), V.bl (decide (i = 14)), V.bl (decide (i = 15))]) ++ [V.bl (decide (i = 16)), V.bl (decide (i = 17))])) := upd_same
  revert s5 l5
  generalize (upd (upd H4 b4 (.lst [V.bl (decide (i = 16)), V.bl (decide (i = 17))])) a5 (.lst (((([V.bl (decide (i = 0)), V.bl (decide (i = 1)), V.bl (decide (i = 2)), V.bl (decide (i = 3))] ++ [V.bl (decide (i = 4)), V.bl (decide (i = 5)), V.bl (decide (i = 6)), V.bl (decide (i = 7))]) ++ [V.bl (decide (i = 8)), V.bl (decide (i = 9)), V.bl (decide (i = 10)), V.bl (decide (i = 11))]) ++ [V.bl (decide (i = 12)), V.bl (decide (i = 13)), V.bl (decide (i = 14)), V.bl (decide (i = 15))]) ++ [V.bl (decide (i = 16)), V.bl (decide (i = 17))]))) = H5
  intro s5 l5
  refine ⟨len 10 (by decide), fun d1 e1 => ?_⟩
  refine ⟨_, rfl, len 8 (by decide), fun d2 e2 => ?_⟩
  refine ⟨d1, d2, _, _, rfl, rfl, same_new e2 _ _ _ upd_same, upd_same, len 18 (by decide), fun d3 e3 => ?_⟩
  have l6 := same_new e3 (.lst ((exA ++ exB).map V.str)) _ _ (same_new e2 (.lst (exB.map V.str)) _ _ (same_new e1 (.lst (exA.map V.str)) _ _ l5))
  have s6 := ((s5.trans (same_new e1 (.lst (exA.map V.str)))).trans (same_new e2 (.lst (exB.map V.str)))).trans (same_new e3 (.lst ((exA ++ exB).map V.str)))
  refine ⟨_, rfl, .inl ⟨rfl, _, SqL.of l6⟩, a5, mks i, .bl true, rfl, rfl, SqL.of l6, rfl, mks_flat i hi, ?_⟩
  rw [mks_cnt i hi]
  refine ⟨rfl, _, rfl, ite2 (fun z => absurd z (by decide)) (fun _ => ?_)⟩
  refine ⟨v, rfl, v, .ty "ValueError", c i, fs, .type "ValueError", _, rfl, hx.same s6, Kl.ex i hi, fun u r => r, Kl.ve i hi, _, rfl, ite2 (fun z => absurd z (by decide)) (fun _ => ?_)⟩
  refine ⟨_, rfl, _, rfl, .inl ⟨rfl, _, SqL.of l6⟩, a5, mks i, .bl true, i, .bl true, rfl, rfl, SqL.of l6, rfl, mks_flat i hi, mks_at i hi, rfl, fun m z hm hz => mks_no i m z hi hm hz, ?_⟩
  exact ⟨d3, _, _, _, rfl, rfl, SqL.of upd_same, atI_nat (nm_at i hi), q _ s6⟩
end
end N

namespace N
open PySem PySem.Spec PyProof.Rows L2 L2H
/-! ### defs that are handed the caught exception, in its suite -/
/-- what such a def keeps: p the exception's object, of the class at C, no field of its own beside those of its dict d -/
structure FnP (P : Program) (w : World) (K : PySem.W.Frag) (mg : Str → Option Value) (base : Heap) (CX : CXT) (k : Nat) (f : Addr) (fd : FuncData) (ps : List Str) (sp : Addr → Addr → Option Addr → Sp) : Prop where
  len : ∀ a C d vs H Q E, sp a C d vs H Q E → vs.length = ps.length
  run : ∀ (A : Around) (outer : List Env) (s : Shared) (H : Hp) (args : Args) (us : List Value) (vs : List V) (Q : VK) (E : XK) (p : Addr × Obj) (C : Addr) (d : Option Addr), RoomH k A → PinOk outer H s p → Zc (.ref C) d p.2 → (∃ ws, p.2.data = .fields ws) → Env0 P w K mg base A outer s H → BindsTo s fd args (ps.zip us) → Vals vs us → sp p.1 C d vs H Q E →
    codeAny (model P w) A (.call (.ref f) args) (CR CX outer P w H s Q E) s
section
variable {P : Program} {w : World} {K : PySem.W.Frag} {mg : Str → Option Value} {base : Heap} {CX : CXT} {k : Nat} {f : Addr} {fd : FuncData} {ps : List Str} {sp : Addr → Addr → Option Addr → Sp}
theorem fnP_of {x : Str} {st : Stmt} {Nm : List Str} (F : Fun K x x st f fd) (S : FnScope Nm ps (defScope st)) (len : ∀ a C d vs H Q E, sp a C d vs H Q E → vs.length = ps.length)
    (hbody : ∀ (cdv : Value) (A : Around) (outer : List Env) (s : Shared) (H : Hp) (vs : List V) (Q : VK) (E : XK) (p : Addr × Obj) (C : Addr) (d : Option Addr), Zc (.ref C) d p.2 → (∃ ws, p.2.data = .fields ws) → RoomH k (A.deeper (envOfC x (defScope st) s.heap.objs.size f cdv)) → sp p.1 C d vs H Q E →
      ∃ t, PSs (cxH CX P w K mg base Nm x (defScope st) f cdv A outer s H E p) (defBody st) t ∧ t { nx := fun _ H' => Q .non H', rt := Q } (L2.start Nm vs) H) :
    FnP P w K mg base CX (k + 1) f fd ps sp := by
  obtain ⟨oc, od, kV, doc, pm, an, cdv, ct, osl, rfl, lk, hcd⟩ := F.ex
  refine ⟨len, fun A outer s H args us vs Q E p C d hr hpin hz hf e0 hb r hsp => ?_⟩
  have KX : K.In s.heap := e0.mod.kin.keeps fun b o e => (e0.bs b o e).1
  have lim : s.heap.NoLimit := e0.mod.nolimit.keeps fun b o e => (e0.bs b o e).1
  have hk : ∀ y ∈ ps.zip us, (defScope st).names.lookup y.1 = some .local ∨ ((defScope st).names.lookup y.1 = some .cell ∧ ((cellsFrom (s.heap.objs.size + 1) (defScope st).names []).lookup y.1).isSome = true) := fun ⟨n, v⟩ hy =>
    (S.par n (List.of_mem_zip hy).1).elim .inl fun q => .inr ⟨q, PySem.W.cellsFrom_some _ _ _ (.inl q)⟩
  refine codeAny_call_function hr.depth (KX _ _ lk) rfl S.co S.gen rfl (PySem.W.codeRec_of KX hcd) (hb _ _ _ _ ?_)
  refine wpAny_newFunctionEnv_cells S.kind hk fun env he s1 x => ?_
  subst he
  refine ⟨lim.keeps x.toInCall.keep, codeAny_func ?_⟩
  obtain ⟨t, ht, hq⟩ := hbody cdv A outer s H vs Q E p C d hz hf (hr.deeper _) hsp
  have I := inv_startH (CX := CX) (P := P) (w := w) (mg := mg) (E := E) S hpin e0 (len _ _ _ _ _ _ _ hsp) r x
  refine wpAny_mono (ht.run [] s1 (L2.start Nm vs) H _ I hq) (fun fl s' hs => ?_) fun e s' hs => hs
  cases fl with
  | ret u => obtain ⟨v, σ', H', J, rv, q⟩ := hs; exact ⟨v, H', J.os, J.bare, J.base, J.hok, rv, q⟩
  | next => obtain ⟨σ', H', J, q⟩ := hs; exact ⟨.non, H', J.os, J.bare, J.base, J.hok, rfl, q⟩
  | brk => obtain ⟨_, _, _, q⟩ := hs; exact False.elim q
  | cont => obtain ⟨_, _, _, q⟩ := hs; exact False.elim q
end
section
variable {X : Cx} {k : Nat} {x : Str} {ps : List Str} {sp : Addr → Addr → Option Addr → Sp} {q pos : Pos} {e : Expr} {es : List Expr} {t : TA} {C : Addr} {d : Option Addr}
/-- a def behind the top that keeps such a promise -/
def CalP (P : Program) (w : World) (K : PySem.W.Frag) (mg : Str → Option Value) (base : Heap) (k : Nat) (x : Str) (ps : List Str) (sp : Addr → Addr → Option Addr → Sp) : Prop :=
  ∃ (f : Addr) (fd : FuncData), mg x = some (.ref f) ∧ PySem.W.keepIn K (.ref f) = true ∧ Binds K fd ps [] ∧ FnP P w K mg base (L2.CX P w) k f fd ps sp
theorem pcP {p : Addr × Obj} (c : CalP X.prog X.w X.K X.mg X.base k x ps sp) (hp : p ∈ X.pn) (hz : Zc (.ref C) d p.2) (hf : ∃ ws, p.2.data = .fields ws) (hr : RoomH k X.A) (hg : Gl X x) (ha : PA X (e :: es) t) (hdb : (x == ("__debug__" : Str)) = false := by decide) (he : starEach (e :: es) X.env = (false, eval e X.env) :: starEach es X.env := by rfl)
    (hpl : (backTo pos (starEach es X.env)).any (·.1) = false := by rfl) : PE X (.Call (.Name x q) (e :: es) [] pos) (fun σ H Q => t σ H fun vs H1 => sp p.1 C d vs H1 Q E0) := by
  obtain ⟨f, fd, hm, hk, hb, F⟩ := c
  refine ⟨fun pins s σ H Q I h => wpAny_Call_Name_kw (ld_glob I hg hm ?_ hdb)⟩
  refine PySem.W.callWith_K (h₀ := X.base) I.ok.mod.kin hk (thn (ha.run pos pins s σ H _ I h) fun us s1 ⟨vs, H1, I1, r, z⟩ => ⟨I1.kIn, ?_⟩) he hpl
  have b := hb s1 us I1.kIn (by rw [List.append_nil, ← r.length]; exact F.len _ _ _ _ _ _ _ z)
  rw [List.append_nil] at b
  have P1 := I1.pin p (List.mem_append_left _ hp)
  have hpin : PinOk X.stack H1 s1 p := ⟨P1.1, P1.2.1, fun hm => (List.mem_cons.mp (I1.stkSub p.1 hm)).elim P1.2.2.1 P1.2.2.2.1, P1.2.2.2.2⟩
  refine wpAny_call (codeAny_mono (F.run X.A X.stack s1 H1 ⟨us, []⟩ us vs Q E0 p C d hr hpin hz hf I1.env0 b r z) fun res s' hq => ?_)
  match res, hq with
  | .error e, hq => exact passL pins σ H1 s1 e s' I1 hq
  | .ok (.ret u), hq => exact I1.after hq
  | .ok .next, hq => exact False.elim hq
  | .ok .brk, hq => exact False.elim hq
  | .ok .cont, hq => exact False.elim hq
/-- isinstance(e, c), e the pinned exception -/
def rIsP (K : PySem.W.Frag) (a C : Addr) : List V → Hp → VK → Prop := fun xs H Q => ∃ (c : V) (cv : Value) (b : Bool), xs = [.ref a, c] ∧ (∀ u, RelV c u → u = cv) ∧ PySem.W.kitOne K (.ref C) cv = some b ∧ Q (.bl b) H
theorem call_isP {p : Addr × Obj} (T : ExcC X.K C) (hp : p ∈ X.pn) (hz : Zc (.ref C) d p.2) (hd : PySem.W.hasDictIn X.K C = true) (hf : ∃ ws, p.2.data = .fields ws) (hn : d = none) : CallR X (.builtin "isinstance") (rIsP X.K p.1 C) := by
  intro pins s σ H xs us Q I r h
  obtain ⟨c, cv, b, rfl, hcv, e, q⟩ := h
  subst hn
  cases r with
  | cons rx rr =>
    cases rr with
    | cons rt rr =>
      cases rr
      cases rx
      have ec := hcv _ rt
      subst ec
      obtain ⟨hget, _⟩ := I.pin p (List.mem_append_left _ hp)
      obtain ⟨ws, hv⟩ := hf
      have J : PySem.W.InstAt s.heap p.1 p.2 C none := by
        obtain ⟨pa, ⟨oc, od, oda, osl⟩⟩ := p
        obtain ⟨h1, h2⟩ := hz
        dsimp only at h1 h2 hv
        subst h1 h2 hv
        exact ⟨hget, rfl, rfl, trivial⟩
      exact PySem.W.kia_one (PySem.W.handS_kitx_exc T.hg T.hk T.hs T.hd T.ha T.hn T.ht T.hm) I.kIn J e (fun z => nomatch z) fun tk => ⟨.bl b, H, I.kept (t' := tk) fun _ _ z => z, rfl, q⟩
end
end N

namespace N
open PySem PySem.Spec PyProof.Rows L2 L2H
section
variable {P : Program} {w : World} {K : PySem.W.Frag} {mg : Str → Option Value} {base : Heap} {c : Nat → Addr}
/-- word, of the exception that is handled -/
def spWordP (c : Nat → Addr) : Addr → Addr → Option Addr → Sp := fun a C d vs H Q _ => ∃ i : Nat, vs = [.ref a] ∧ i < 18 ∧ C = c i ∧ d = none ∧ ∀ H', Same H H' → Q (.str (exN i)) H'
theorem ok_wordP (G : Glo mg) (Kl : Kls K mg c) (hve : mg "ValueError" = none) (D : DefAt K mg "_law_word" s_Lword ["_law_e"]) : CalP P w K mg base 1 "_law_word" ["_law_e"] (spWordP c) := by
  obtain ⟨f, fd, a, F, b⟩ := D
  refine ⟨f, fd, a, F.kp, b, fnP_of F sc_Lword (fun a C d vs H Q E h => ?_) (fun cdv A outer s H vs Q E p C d hz hf hr h => ?_)⟩
  · obtain ⟨i, rfl, _⟩ := h
    rfl
  obtain ⟨i, rfl, hi, rfl, rfl, q⟩ := h
  have g := Kl.gl
  have ci : CallR (cxH (L2.CX P w) P w K mg base nm_Lword "_law_word" (defScope s_Lword) f cdv A outer s H E p) (.builtin "isinstance") (rIsP K p.1 (c i)) := call_isP (Kl.ex i hi) (List.mem_singleton.mpr rfl) hz (Kl.ex i hi).hd hf rfl
  refine ⟨_, (pss_cons (ps_set (i := 1) sc_Lword.nd rfl (Or.inl rfl) (pe_lst (pa_cons (pe_callB ci (by rfl) G.isinstance (by decide +kernel) (pa_cons (pv 0) (pa_cons (pe_glob (v := .ref (c 0)) (by rfl) (g 0 (by decide)) rfl) pa_nil))) (pa_cons (pe_callB ci (by rfl) G.isinstance (by decide +kernel) (pa_cons (pv 0) (pa_cons (pe_glob (v := .ref (c 1)) (by rfl) (g 1 (by decide)) rfl) pa_nil))) (pa_cons (pe_callB ci (by rfl) G.isinstance (by decide +kernel) (pa_cons (pv 0) (pa_cons (pe_glob (v := .ref (c 2)) (by rfl) (g 2 (by decide)) rfl) pa_nil))) (pa_cons (pe_callB ci (by rfl) G.isinstance (by decide +kernel) (pa_cons (pv 0) (pa_cons (pe_glob (v := .ref (c 3)) (by rfl) (g 3 (by decide)) rfl) pa_nil))) pa_nil))))))
    (pss_cons (ps_set (i := 1) sc_Lword.nd rfl (Or.inl rfl) (pe_op op_cat (pv 1) (pe_lst (pa_cons (pe_callB ci (by rfl) G.isinstance (by decide +kernel) (pa_cons (pv 0) (pa_cons (pe_glob (v := .ref (c 4)) (by rfl) (g 4 (by decide)) rfl) pa_nil))) (pa_cons (pe_callB ci (by rfl) G.isinstance (by decide +kernel) (pa_cons (pv 0) (pa_cons (pe_glob (v := .ref (c 5)) (by rfl) (g 5 (by decide)) rfl) pa_nil))) (pa_cons (pe_callB ci (by rfl) G.isinstance (by decide +kernel) (pa_cons (pv 0) (pa_cons (pe_glob (v := .ref (c 6)) (by rfl) (g 6 (by decide)) rfl) pa_nil))) (pa_cons (pe_callB ci (by rfl) G.isinstance (by decide +kernel) (pa_cons (pv 0) (pa_cons (pe_glob (v := .ref (c 7)) (by rfl) (g 7 (by decide)) rfl) pa_nil))) pa_nil)))))))
    (pss_cons (ps_set (i := 1) sc_Lword.nd rfl (Or.inl rfl) (pe_op op_cat (pv 1) (pe_lst (pa_cons (pe_callB ci (by rfl) G.isinstance (by decide +kernel) (pa_cons (pv 0) (pa_cons (pe_glob (v := .ref (c 8)) (by rfl) (g 8 (by decide)) rfl) pa_nil))) (pa_cons (pe_callB ci (by rfl) G.isinstance (by decide +kernel) (pa_cons (pv 0) (pa_cons (pe_glob (v := .ref (c 9)) (by rfl) (g 9 (by decide)) rfl) pa_nil))) (pa_cons (pe_callB ci (by rfl) G.isinstance (by decide +kernel) (pa_cons (pv 0) (pa_cons (pe_glob (v := .ref (c 10)) (by rfl) (g 10 (by decide)) rfl) pa_nil))) (pa_cons (pe_callB ci (by rfl) G.isinstance (by decide +kernel) (pa_cons (pv 0) (pa_cons (pe_glob (v := .ref (c 11)) (by rfl) (g 11 (by decide)) rfl) pa_nil))) pa_nil)))))))
    (pss_cons (ps_set (i := 1) sc_Lword.nd rfl (Or.inl rfl) (pe_op op_cat (pv 1) (pe_lst (pa_cons (pe_callB ci (by rfl) G.isinstance (by decide +kernel) (pa_cons (pv 0) (pa_cons (pe_glob (v := .ref (c 12)) (by rfl) (g 12 (by decide)) rfl) pa_nil))) (pa_cons (pe_callB ci (by rfl) G.isinstance (by decide +kernel) (pa_cons (pv 0) (pa_cons (pe_glob (v := .ref (c 13)) (by rfl) (g 13 (by decide)) rfl) pa_nil))) (pa_cons (pe_callB ci (by rfl) G.isinstance (by decide +kernel) (pa_cons (pv 0) (pa_cons (pe_glob (v := .ref (c 14)) (by rfl) (g 14 (by decide)) rfl) pa_nil))) (pa_cons (pe_callB ci (by rfl) G.isinstance (by decide +kernel) (pa_cons (pv 0) (pa_cons (pe_glob (v := .ref (c 15)) (by rfl) (g 15 (by decide)) rfl) pa_nil))) pa_nil)))))))
    (pss_cons (ps_set (i := 1) sc_Lword.nd rfl (Or.inl rfl) (pe_op op_cat (pv 1) (pe_lst (pa_cons (pe_callB ci (by rfl) G.isinstance (by decide +kernel) (pa_cons (pv 0) (pa_cons (pe_glob (v := .ref (c 16)) (by rfl) (g 16 (by decide)) rfl) pa_nil))) (pa_cons (pe_callB ci (by rfl) G.isinstance (by decide +kernel) (pa_cons (pv 0) (pa_cons (pe_glob (v := .ref (c 17)) (by rfl) (g 17 (by decide)) rfl) pa_nil))) pa_nil)))))
    (pss_cons (ps_set (i := 2) sc_Lword.nd rfl (Or.inl rfl) (pe_lst (pa_cons pe_str (pa_cons pe_str (pa_cons pe_str (pa_cons pe_str (pa_cons pe_str (pa_cons pe_str (pa_cons pe_str (pa_cons pe_str (pa_cons pe_str (pa_cons pe_str pa_nil))))))))))))
    (pss_cons (ps_set (i := 2) sc_Lword.nd rfl (Or.inl rfl) (pe_op op_cat (pv 2) (pe_lst (pa_cons pe_str (pa_cons pe_str (pa_cons pe_str (pa_cons pe_str (pa_cons pe_str (pa_cons pe_str (pa_cons pe_str (pa_cons pe_str pa_nil)))))))))))
    (pss_cons (ps_if (PW.pt (pw_or (pt_cmpR op_ne (pe_bm PySem.F.plainAttrs_list PySem.F.slot_list_count PySem.F.type_list_count mt_cnt (pv 1) (pa_cons pe_bl pa_nil)) pe_int (nomark _)) (pw_or1 (pt_not (pt_val (pe_callB ci (by rfl) G.isinstance (by decide +kernel) (pa_cons (pv 0) (pa_cons (pe_bltn (v := .ty "ValueError") (by rfl) hve (by decide +kernel) rfl) pa_nil)))))))) (pss_one (ps_ret pe_str)) pss_nil)
    (pss_one (ps_ret (pe_ix ix_list (pv 2) (pe_bm PySem.F.plainAttrs_list PySem.F.slot_list_index PySem.F.type_list_index mt_index (pv 1) (pa_cons pe_bl pa_nil)) (fun _ _ => rfl)))))))))))), ?_⟩
  have len : ∀ n, n ≤ 18 → n ≤ sizeLine := fun n h => by rw [sizeLine_eq]; omega
  refine ⟨_, rfl, .ref (c 0), .ref (c 0), _, rfl, fun u r => r, Kl.kit i 0 hi (by decide), ⟨_, rfl, .ref (c 1), .ref (c 1), _, rfl, fun u r => r, Kl.kit i 1 hi (by decide), ⟨_, rfl, .ref (c 2), .ref (c 2), _, rfl, fun u r => r, Kl.kit i 2 hi (by decide), ⟨_, rfl, .ref (c 3), .ref (c 3), _, rfl, fun u r => r, Kl.kit i 3 hi (by decide), ⟨len 4 (by decide), fun a1 h1 => ?_⟩⟩⟩⟩⟩
  have s1 : Same H (upd H a1 (.lst [V.bl (decide (i = 0)), V.bl (decide (i = 1)), V.bl (decide (i = 2)), V.bl (decide (i = 3))])) := same_new h1 _
  have l1 : (upd H a1 (.lst [V.bl (decide (i = 0)), V.bl (decide (i = 1)), V.bl (decide (i = 2)), V.bl (decide (i = 3))])) a1 = some (.lst [V.bl (decide (i = 0)), V.bl (decide (i = 1)), V.bl (decide (i = 2)), V.bl (decide (i = 3))]) := upd_same
  revert s1 l1
  generalize upd H a1 (.lst [V.bl (decide (i = 0)), V.bl (decide (i = 1)), V.bl (decide (i = 2)), V.bl (decide (i = 3))]) = H1
  intro s1 l1
  refine ⟨_, rfl, ⟨_, rfl, .ref (c 4), .ref (c 4), _, rfl, fun u r => r, Kl.kit i 4 hi (by decide), ⟨_, rfl, .ref (c 5), .ref (c 5), _, rfl, fun u r => r, Kl.kit i 5 hi (by decide), ⟨_, rfl, .ref (c 6), .ref (c 6), _, rfl, fun u r => r, Kl.kit i 6 hi (by decide), ⟨_, rfl, .ref (c 7), .ref (c 7), _, rfl, fun u r => r, Kl.kit i 7 hi (by decide), ⟨len 4 (by decide), fun b1 g1 => ?_⟩⟩⟩⟩⟩⟩
  refine ⟨a1, b1, _, _, rfl, rfl, same_new g1 _ _ _ l1, upd_same, len 8 (by decide), fun a2 h2 => ?_⟩
  have s2 : Same H (upd (upd H1 b1 (.lst [V.bl (decide (i = 4)), V.bl (decide (i = 5)), V.bl (decide (i = 6)), V.bl (decide (i = 7))])) a2 (.lst ([V.bl (decide (i = 0)), V.bl (decide (i = 1)), V.bl (decide (i = 2)), V.bl (decide (i = 3))] ++ [V.bl (decide (i = 4)), V.bl (decide (i = 5)), V.bl (decide (i = 6)), V.bl (decide (i = 7))]))) := (s1.trans (same_new g1 _)).trans (same_new h2 _)
  have l2 : (upd (upd H1 b1 (.lst [V.bl (decide (i = 4)), V.bl (decide (i = 5)), V.bl (decide (i = 6)), V.bl (decide (i = 7))])) a2 (.lst ([V.bl (decide (i = 0)), V.bl (decide (i = 1)), V.bl (decide (i = 2)), V.bl (decide (i = 3))] ++ [V.bl (decide (i = 4)), V.bl (decide (i = 5)), V.bl (decide (i = 6)), V.bl (decide (i = 7))]))) a2 = some (.lst ([V.bl (decide (i = 0)), V.bl (decide (i = 1)), V.bl (decide (i = 2)), V.bl (decide (i = 3))] ++ [V.bl (decide (i = 4)), V.bl (decide (i = 5)), V.bl (decide (i = 6)), V.bl (decide (i = 7))])) := upd_same
  revert s2 l2
  generalize (upd (upd H1 b1 (.lst [V.bl (decide (i = 4)), V.bl (decide (i = 5)), V.bl (decide (i = 6)), V.bl (decide (i = 7))])) a2 (.lst ([V.bl (decide (i = 0)), V.bl (decide (i = 1)), V.bl (decide (i = 2)), V.bl (decide (i = 3))] ++ [V.bl (decide (i = 4)), V.bl (decide (i = 5)), V.bl (decide (i = 6)), V.bl (decide (i = 7))]))) = H2
  intro s2 l2
  refine ⟨_, rfl, ⟨_, rfl, .ref (c 8), .ref (c 8), _, rfl, fun u r => r, Kl.kit i 8 hi (by decide), ⟨_, rfl, .ref (c 9), .ref (c 9), _, rfl, fun u r => r, Kl.kit i 9 hi (by decide), ⟨_, rfl, .ref (c 10), .ref (c 10), _, rfl, fun u r => r, Kl.kit i 10 hi (by decide), ⟨_, rfl, .ref (c 11), .ref (c 11), _, rfl, fun u r => r, Kl.kit i 11 hi (by decide), ⟨len 4 (by decide), fun b2 g2 => ?_⟩⟩⟩⟩⟩⟩
  refine ⟨a2, b2, _, _, rfl, rfl, same_new g2 _ _ _ l2, upd_same, len 12 (by decide), fun a3 h3 => ?_⟩
  have s3 : Same H (upd (upd H2 b2 (.lst [V.bl (decide (i = 8)), V.bl (decide (i = 9)), V.bl (decide (i = 10)), V.bl (decide (i = 11))])) a3 (.lst (([V.bl (decide (i = 0)), V.bl (decide (i = 1)), V.bl (decide (i = 2)), V.bl (decide (i = 3))] ++ [V.bl (decide (i = 4)), V.bl (decide (i = 5)), V.bl (decide (i = 6)), V.bl (decide (i = 7))]) ++ [V.bl (decide (i = 8)), V.bl (decide (i = 9)), V.bl (decide (i = 10)), V.bl (decide (i = 11))]))) := (s2.trans (same_new g2 _)).trans (same_new h3 _)
  have l3 : (upd (upd H2 b2 (.lst [V.bl (decide (i = 8)), V.bl (decide (i = 9)), V.bl (decide (i = 10)), V.bl (decide (i = 11))])) a3 (.lst (([V.bl (decide (i = 0)), V.bl (decide (i = 1)), V.bl (decide (i = 2)), V.bl (decide (i = 3))] ++ [V.bl (decide (i = 4)), V.bl (decide (i = 5)), V.bl (decide (i = 6)), V.bl (decide (i = 7))]) ++ [V.bl (decide (i = 8)), V.bl (decide (i = 9)), V.bl (decide (i = 10)), V.bl (decide (i = 11))]))) a3 = some (.lst (([V.bl (decide (i = 0)), V.bl (decide (i = 1)), V.bl (decide (i = 2)), V.bl (decide (i = 3))] ++ [V.bl (decide (i = 4)), V.bl (decide (i = 5)), V.bl (decide (i = 6)), V.bl (decide (i = 7))]) ++ [V.bl (decide (i = 8)), V.bl (decide (i = 9)), V.bl (decide (i = 10)), V.bl (decide (i = 11))])) := upd_same
  revert s3 l3
  generalize (upd (upd H2 b2 (.lst [V.bl (decide (i = 8)), V.bl (decide (i = 9)), V.bl (decide (i = 10)), V.bl (decide (i = 11))])) a3 (.lst (([V.bl (decide (i = 0)), V.bl (decide (i = 1)), V.bl (decide (i = 2)), V.bl (decide (i = 3))] ++ [V.bl (decide (i = 4)), V.bl (decide (i = 5)), V.bl (decide (i = 6)), V.bl (decide (i = 7))]) ++ [V.bl (decide (i = 8)), V.bl (decide (i = 9)), V.bl (decide (i = 10)), V.bl (decide (i = 11))]))) = H3
  intro s3 l3
  refine ⟨_, rfl, ⟨_, rfl, .ref (c 12), .ref (c 12), _, rfl, fun u r => r, Kl.kit i 12 hi (by decide), ⟨_, rfl, .ref (c 13), .ref (c 13), _, rfl, fun u r => r, Kl.kit i 13 hi (by decide), ⟨_, rfl, .ref (c 14), .ref (c 14), _, rfl, fun u r => r, Kl.kit i 14 hi (by decide), ⟨_, rfl, .ref (c 15), .ref (c 15), _, rfl, fun u r => r, Kl.kit i 15 hi (by decide), ⟨len 4 (by decide), fun b3 g3 => ?_⟩⟩⟩⟩⟩⟩
  refine ⟨a3, b3, _, _, rfl, rfl, same_new g3 _ _ _ l3, upd_same, len 16 (by decide), fun a4 h4 => ?_⟩
  have s4 : Same H (upd (upd H3 b3 (.lst [V.bl (decide (i = 12)), V.bl (decide (i = 13)), V.bl (decide (i = 14)), V.bl (decide (i = 15))])) a4 (.lst ((([V.bl (decide (i = 0)), V.bl (decide (i = 1)), V.bl (decide (i = 2)), V.bl (decide (i = 3))] ++ [V.bl (decide (i = 4)), V.bl (decide (i = 5)), V.bl (decide (i = 6)), V.bl (decide (i = 7))]) ++ [V.bl (decide (i = 8)), V.bl (decide (i = 9)), V.bl (decide (i = 10)), V.bl (decide (i = 11))]) ++ [V.bl (decide (i = 12)), V.bl (decide (i = 13)), V.bl (decide (i = 14)), V.bl (decide (i = 15))]))) := (s3.trans (same_new g3 _)).trans (same_new h4 _)
  have l4 : (upd (upd H3 b3 (.lst [V.bl (decide (i = 12)), V.bl (decide (i = 13)), V.bl (decide (i = 14)), V.bl (decide (i = 15))])) a4 (.lst ((([V.bl (decide (i = 0)), V.bl (decide (i = 1)), V.bl (decide (i = 2)), V.bl (decide (i = 3))] ++ [V.bl (decide (i = 4)), V.bl (decide (i = 5)), V.bl (decide (i = 6)), V.bl (decide (i = 7))]) ++ [V.bl (decide (i = 8)), V.bl (decide (i = 9)), V.bl (decide (i = 10)), V.bl (decide (i = 11))]) ++ [V.bl (decide (i = 12)), V.bl (decide (i = 13)), V.bl (decide (i = 14)), V.bl (decide (i = 15))]))) a4 = some (.lst ((([V.bl (decide (i = 0)), V.bl (decide (i = 1)), V.bl (decide (i = 2)), V.bl (decide (i = 3))] ++ [V.bl (decide (i = 4)), V.bl (decide (i = 5)), V.bl (decide (i = 6)), V.bl (decide (i = 7))]) ++ [V.bl (decide (i = 8)), V.bl (decide (i = 9)), V.bl (decide (i = 10)), V.bl (decide (i = 11))]) ++ [V.bl (decide (i = 12)), V.bl (decide (i = 13)), V.bl (decide (i = 14)), V.bl (decide (i = 15))])) := upd_same
  revert s4 l4
  generalize (upd (upd H3 b3 (.lst [V.bl (decide (i = 12)), V.bl (decide (i = 13)), V.bl (decide (i = 14)), V.bl (decide (i = 15))])) a4 (.lst ((([V.bl (decide (i = 0)), V.bl (decide (i = 1)), V.bl (decide (i = 2)), V.bl (decide (i = 3))] ++ [V.bl (decide (i = 4)), V.bl (decide (i = 5)), V.bl (decide (i = 6)), V.bl (decide (i = 7))]) ++ [V.bl (decide (i = 8)), V.bl (decide (i = 9)), V.bl (decide (i = 10)), V.bl (decide (i = 11))]) ++ [V.bl (decide (i = 12)), V.bl (decide (i = 13)), V.bl (decide (i = 14)), V.bl (decide (i = 15))]))) = H4
  intro s4 l4
  refine ⟨_, rfl, ⟨_, rfl, .ref (c 16), .ref (c 16), _, rfl, fun u r => r, Kl.kit i 16 hi (by decide), ⟨_, rfl, .ref (c 17), .ref (c 17), _, rfl, fun u r => r, Kl.kit i 17 hi (by decide), ⟨len 2 (by decide), fun b4 g4 => ?_⟩⟩⟩⟩
  refine ⟨a4, b4, _, _, rfl, rfl, same_new g4 _ _ _ l4, upd_same, len 18 (by decide), fun a5 h5 => ?_⟩
  have s5 : Same H (upd (upd H4 b4 (.lst [V.bl (decide (i = 16)), V.bl (decide (i = 17))])) a5 (.lst (((([V.bl (decide (i = 0)), V.bl (decide (i = 1)), V.bl (decide (i = 2)), V.bl (decide (i = 3))] ++ [V.bl (decide (i = 4)), V.bl (decide (i = 5)), V.bl (decide (i = 6)), V.bl (decide (i = 7))]) ++ [V.bl (decide (i = 8)), V.bl (decide (i = 9)), V.bl (decide (i = 10)), V.bl (decide (i = 11))]) ++ [V.bl (decide (i = 12)), V.bl (decide (i = 13)), V.bl (decide (i = 14)), V.bl (decide (i = 15))]) ++ [V.bl (decide (i = 16)), V.bl (decide (i = 17))]))) := (s4.trans (same_new g4 _)).trans (same_new h5 _)
  have l5 : (upd (upd H4 b4 (.lst [V.bl (decide (i = 16)), V.bl (decide (i = 17))])) a5 (.lst (((([V.bl (decide (i = 0)), V.bl (decide (i = 1)), V.bl (decide (i = 2)), V.bl (decide (i = 3))] ++ [V.bl (decide (i = 4)), V.bl (decide (i = 5)), V.bl (decide (i = 6)), V.bl (decide (i = 7))]) ++ [V.bl (decide (i = 8)), V.bl (decide (i = 9)), V.bl (decide (i = 10)), V.bl (decide (i = 11))]) ++ [V.bl (decide (i = 12)), V.bl (decide (i = 13)), V.bl (decide (i = 14)), V.bl (decide (i = 15))]) ++ [V.bl (decide (i = 16)), V.bl (decide (i = 17))]))) a5 = some (.lst (((([V.bl (decide (i = 0)), V.bl (decide (i = 1)), V.bl (decide (i = 2)), V.bl (decide (i = 3))] ++ [V.bl (decide (i = 4)), V.bl (decide (i = 5)), V.bl (decide (i = 6)), V.bl (decide (i = 7))]) ++ [V.bl (decide (i = 8)), V.bl (decide (i = 9)), V.bl (decide (i = 10)), V.bl (decide (i = 11))]) ++ [V.bl (decide (i = 12)), V.bl (decide (i = 13)), V.bl (decide (i = 14)), V.bl (decide (i = 15))]) ++ [V.bl (decide (i = 16)), V.bl (decide (i = 17))])) := upd_same
  revert s5 l5
  generalize (upd (upd H4 b4 (.lst [V.bl (decide (i = 16)), V.bl (decide (i = 17))])) a5 (.lst (((([V.bl (decide (i = 0)), V.bl (decide (i = 1)), V.bl (decide (i = 2)), V.bl (decide (i = 3))] ++ [V.bl (decide (i = 4)), V.bl (decide (i = 5)), V.bl (decide (i = 6)), V.bl (decide (i = 7))]) ++ [V.bl (decide (i = 8)), V.bl (decide (i = 9)), V.bl (decide (i = 10)), V.bl (decide (i = 11))]) ++ [V.bl (decide (i = 12)), V.bl (decide (i = 13)), V.bl (decide (i = 14)), V.bl (decide (i = 15))]) ++ [V.bl (decide (i = 16)), V.bl (decide (i = 17))]))) = H5
  intro s5 l5
  refine ⟨len 10 (by decide), fun d1 e1 => ?_⟩
  refine ⟨_, rfl, len 8 (by decide), fun d2 e2 => ?_⟩
  refine ⟨d1, d2, _, _, rfl, rfl, same_new e2 _ _ _ upd_same, upd_same, len 18 (by decide), fun d3 e3 => ?_⟩
  have l6 := same_new e3 (.lst ((exA ++ exB).map V.str)) _ _ (same_new e2 (.lst (exB.map V.str)) _ _ (same_new e1 (.lst (exA.map V.str)) _ _ l5))
  have s6 := ((s5.trans (same_new e1 (.lst (exA.map V.str)))).trans (same_new e2 (.lst (exB.map V.str)))).trans (same_new e3 (.lst ((exA ++ exB).map V.str)))
  refine ⟨_, rfl, .inl ⟨rfl, _, SqL.of l6⟩, a5, mks i, .bl true, rfl, rfl, SqL.of l6, rfl, mks_flat i hi, ?_⟩
  rw [mks_cnt i hi]
  refine ⟨rfl, _, rfl, ite2 (fun z => absurd z (by decide)) (fun _ => ?_)⟩
  refine ⟨_, rfl, .ty "ValueError", .type "ValueError", _, rfl, fun u r => r, Kl.ve i hi, _, rfl, ite2 (fun z => absurd z (by decide)) (fun _ => ?_)⟩
  refine ⟨_, rfl, _, rfl, .inl ⟨rfl, _, SqL.of l6⟩, a5, mks i, .bl true, i, .bl true, rfl, rfl, SqL.of l6, rfl, mks_flat i hi, mks_at i hi, rfl, fun m z hm hz => mks_no i m z hi hm hz, ?_⟩
  exact ⟨d3, _, _, _, rfl, rfl, SqL.of upd_same, atI_nat (nm_at i hi), q _ s6⟩
end
end N

namespace N
open PySem PySem.Spec PyProof.Rows L2 LamX NdefX
/-! ### lambdas with parameters and captured names -/
/-- the words of a lambda; its expression stands beside -/
def lamF (q : Str) (params : Arguments) (scope : Scope) (cl : List (Str × Addr)) (c : Addr) : NF := ⟨"<lambda>", q, params, [], scope, cl, c⟩
/-- at f stands the lambda -/
def LamO (f : Addr) (F : NF) (body : Expr) : HO := .ext fun h => ∃ pm ctv : Value, h.get? f = some (PySem.W.kla_obj F.name F.qual F.params body F.scope F.cl pm F.c ctv)
theorem lamO_at {P : Program} {w : World} {H : Hp} {h : Heap} {f : Addr} {F : NF} {body : Expr} (hok : HOk P w H h) (e : H f = some (LamO f F body)) : ∃ pm ctv : Value, h.get? f = some (PySem.W.kla_obj F.name F.qual F.params body F.scope F.cl pm F.c ctv) := (hok f _ e).1
theorem lamO_ne {f : Addr} {F : NF} {body : Expr} (ps : Array Value) : LamO f F body ≠ .tbl ps := fun z => by
  unfold LamO at z
  cases z
section
variable {X : Cx} {pins : List (Addr × Obj)} {σ : L2.St} {H : Hp} {s : Shared}
theorem tabS_more {H : Hp} {P c : Addr} {q : Str} {ps : Array Value} {pos : Pos} (hP : H P = some (.tbl ps)) (ht : TriplesOk ps.toList) (ha : ∀ (p' : Pos) (cv : Value), codeAmong p' ps.toList = some cv → ∃ c0, cv = .ref c0 ∧ H c0 = some (CodeO c0 q)) (hc : H c = none) :
    TabS (upd (upd H P (.tbl (ps ++ #[rawInt pos.line, rawInt pos.col, .ref c]))) c (CodeO c q)) P q := by
  have hne : P ≠ c := ne_of_none hP hc
  have el : (ps ++ #[rawInt pos.line, rawInt pos.col, .ref c]).toList = ps.toList ++ [rawInt pos.line, rawInt pos.col, .ref c] := by simp
  refine ⟨_, (by rw [upd_ne hne]; exact upd_same), by rw [el]; exact PySem.TriplesOk_snoc _ _ _ _ ht, ?_⟩
  intro p' cv hv
  rw [el] at hv
  rcases among_app _ ht hv with y | y
  · obtain ⟨c0, y1, y2⟩ := ha p' cv y
    have n1 : c0 ≠ c := ne_of_none y2 hc
    have n2 : c0 ≠ P := fun z => by
      rw [z, hP] at y2
      exact codeO_ne ps (Option.some.inj y2).symm
    exact ⟨c0, y1, by rw [upd_ne n1, upd_ne n2]; exact y2⟩
  · exact ⟨c, y, upd_same⟩
/-- a lambda is made; it is known from now on -/
theorem lam_new {c P : Addr} {params : Arguments} {body : Expr} {scope : Scope} {pos : Pos} {E : Value → Shared → Prop} {Q : Value → Shared → Prop} (I : Inv X pins σ H s) (TB : TabB X.base X.mg c P) (hcode : X.env.code = .ref c) (hT : TabS H P (X.env.qual ++ "<lambda>"))
    (hdef : defaultsOf params X.env = ([], [])) (hfree : ∀ y ∈ scope.names, y.2 = .free → ∃ c, X.env.cells.lookup y.1 = some c)
    (h : ∀ (f c' : Addr) (H1 : Hp) (s' : Shared), Inv X pins σ H1 s' → ExtN H H1 → TabS H1 P (X.env.qual ++ "<lambda>") → (∀ b, H1 b = none → H b = none) → H f = none → H1 f = some (LamO f (lamF (X.env.qual ++ "<lambda>") params scope (cloFrom X.env.cells scope.names []) c') body) → H1 c' = some (CodeO c' (X.env.qual ++ "<lambda>")) → Q (.ref f) s') :
    wpAny (model X.prog X.w) X.A (eval (.Lambda params body scope pos) X.env) Q E s := by
  obtain ⟨ps, hP, ht, ha⟩ := hT
  apply PySem.W.kla_eval hdef
  have hb : s.heap.BuiltinsAt X.mg P := TB.bm.keeps I.bk
  have tP : s.heap.get? P = some { cls := .none, data := .fields ps } := I.hok P _ hP
  -- the function object itself
  have fin : ∀ (h' : Heap) (tk : Nat) (c' : Addr) (ctv : Value) (H1 : Hp), Inv X pins σ H1 { s with heap := h', toks := tk } → ExtN H H1 → TabS H1 P (X.env.qual ++ "<lambda>") → (∀ b, H1 b = none → H b = none) → H1 c' = some (CodeO c' (X.env.qual ++ "<lambda>")) →
      Q (.ref h'.objs.size) { s with heap := h'.push (PySem.W.kla_obj "<lambda>" (X.env.qual ++ "<lambda>") params body scope (cloFrom X.env.cells scope.names []) ((X.mg "__name__").getD .none) c' ctv), toks := tk } := by
    intro h' tk c' ctv H1 J e1 T1 n1 k1
    have nf : H1 h'.objs.size = none := J.hok.fresh (Nat.le_refl _)
    have here : (h'.push (PySem.W.kla_obj "<lambda>" (X.env.qual ++ "<lambda>") params body scope (cloFrom X.env.cells scope.names []) ((X.mg "__name__").getD .none) c' ctv)).get? h'.objs.size = some _ := Heap.get?_push_size _ rfl
    have J2 := J.laid (t' := tk) (a := h'.objs.size) (o := LamO h'.objs.size (lamF (X.env.qual ++ "<lambda>") params scope (cloFrom X.env.cells scope.names []) c') body) (fun b u e => Heap.get?_push_of_some _ e) (Nat.le_refl _)
      ⟨⟨_, _, here⟩, ⟨_, here⟩, fun h1 h2 y st => by obtain ⟨a, b, z⟩ := y; exact ⟨a, b, st _ z⟩⟩
    have sm := same_new nf (LamO h'.objs.size (lamF (X.env.qual ++ "<lambda>") params scope (cloFrom X.env.cells scope.names []) c') body)
    exact h _ c' _ _ J2 (e1.trans (ExtN.of sm)) (T1.ext sm) (fun b z => n1 b (sm.free z)) (n1 _ nf) upd_same (sm _ _ k1)
  cases hc : codeAmong pos ps.toList with
  | some cv =>
    obtain ⟨c', ec, hco⟩ := ha pos cv hc
    subst ec
    refine PySem.W.kla_makeFunctionHit (closure_ok hfree) I.ok.glob (I.mod.glob.keeps I.bk) hcode (TB.code.keeps I.bk) tP ht hc hb (fun ctv h' tk kx _ => ?_)
    exact fin h' tk c' ctv H (I.kept kx) (ExtN.refl H) ⟨ps, hP, ht, ha⟩ (fun b z => z) hco
  | none =>
    refine PySem.W.kla_makeFunction (closure_ok hfree) I.ok.glob (I.mod.glob.keeps I.bk) hcode (TB.code.keeps I.bk) tP ht hc TB.gP hb (fun c' ctv h' tk kx hge hlt hrec htb => ?_)
    obtain ⟨c2, oc, vs, t, e2, y1, y2, y3⟩ := hrec
    cases e2
    have nc : H c' = none := I.hok.fresh hge
    have J := inv_table (t' := tk) (more := #[rawInt pos.line, rawInt pos.col, .ref c']) (h' := h') (q := X.env.qual ++ "<lambda>") I hP (fun b o n e => kx b o n e) htb hge ⟨oc, vs, t, y1, y2, y3⟩
    refine fin h' tk c' ctv _ J (fun b o e n => ?_) (tabS_more hP ht ha nc) (fun b z => upd_none (upd_none z)) upd_same
    rw [upd_ne (ne_of_none e nc), upd_ne (fun z => n ps (Option.some.inj (e.symm.trans (by rw [z]; exact hP))))]
    exact e
/-- what the cells held at the entry they hold -/
theorem cells_later {cl : List (Str × Addr)} {fr : List Str} {ws : List (Option V)} (C : CellsAt cl fr ws X.s_0.heap X.H_0) (hx : X.ex = []) (I : Inv X pins σ H s) : CellsAt cl fr ws s.heap H := by
  have kp : ∀ y c, cl.lookup y = some c → ∀ v, X.s_0.heap.IsCell c v → s.heap.IsCell c v := fun y c e v z => by
    obtain ⟨o, ho, hd⟩ := z
    obtain ⟨sl, z2⟩ := I.base.any ho (C.all y c e).1 (by rw [hx]; simp)
    exact ⟨_, z2, hd⟩
  refine ⟨C.len, fun y c e => ?_, C.inj, fun i y e => ?_⟩
  · obtain ⟨n, v, z⟩ := C.all y c e
    have z0 := z
    obtain ⟨o, ho, _⟩ := z0
    exact ⟨I.base.free c o ho n (by rw [hx]; simp), v, kp y c e _ z⟩
  · obtain ⟨c, e1, e2⟩ := C.has i y e
    exact ⟨c, e1, fun v ev => (e2 v ev).imp fun u r => ⟨r.1, kp y c e1 _ r.2⟩⟩
end
section
variable {P : Program} {w : World} {K : PySem.W.Frag} {mg : Str → Option Value} {base : Heap} {N ps fr : List Str} {F : NF} {f : Addr} {k : Nat} {body : Expr} {tb : TE}
/-- a lambda called -/
theorem run_lam (S : NScope N ps fr F.scope) (hb : ∀ (pm ctv : Value) (us : List Value), us.length = ps.length → bindArgs (PySem.W.kla_fn F.name F.qual F.params body F.scope F.cl pm (.ref F.c) ctv) ⟨us, []⟩ = pure (ps.zip us))
    {A : Around} {outer : List Env} {s : Shared} {H : Hp} {us : List Value} {vs : List V} {ws : List (Option V)} {Q : VK}
    (hbody : ∀ (s : Shared) (H : Hp), PE (ncx (L2.CX P w) P w K mg base N F f A outer s H E0) body tb)
    (hr : RoomG (k + 1) A) (e0 : Env0 P w K mg base A outer s H) (hf : H f = some (LamO f F body)) (hc : H F.c = some (CodeO F.c F.qual)) (C : CellsAt F.cl fr ws s.heap H) (r : Vals vs us) (hl : vs.length = ps.length) (q : tb (startF N vs ws) H Q) :
    codeAny (model P w) A (.call (.ref f) ⟨us, []⟩) (CR (L2.CX P w) outer P w H s Q E0) s := by
  have lim : s.heap.NoLimit := e0.mod.nolimit.keeps fun b o e => (e0.bs b o e).1
  obtain ⟨pm, ctv, ho⟩ := lamO_at e0.hok hf
  refine PySem.W.kla_callFunE hr.toRoom.depth ho rfl S.co S.gen rfl (codeO_at e0.hok hc) ?_
  rw [hb pm ctv us (by rw [← r.length]; exact hl)]
  refine wpAny_pure (wpAny_newFunctionEnv S.nocell (fun y hy => S.par y.1 (List.of_mem_zip (show (y.1, y.2) ∈ ps.zip us from hy)).1) (fun h1 hns hsb => ⟨lim.fresh _ hsb, ?_⟩) S.kind)
  show codeAny _ _ (.expr body (envF F f s.heap.objs.size)) _ _
  have kp : ∀ b o, s.heap.get? b = some o → h1.get? b = some o := fun b o e => hsb.extBut b o (Nat.ne_of_lt (Heap.lt_size e)) (Heap.get?_push_of_some _ e)
  have J : Inv (ncx (L2.CX P w) P w K mg base N F f A outer s H E0) [] (startF N vs ws) H { s with heap := h1, toks := s.toks + (ps.zip us).length } := inv_startN S hr.toRoom.hd e0 hl r C hns kp
  refine PySem.W.kla_codeExpr (wpAny_mono ((hbody s H).run [] _ _ H Q J q) (fun v s' z => ?_) fun e s' z => z)
  obtain ⟨v', H', J', rv, z2⟩ := z
  exact ⟨v', H', J'.os, J'.bare, J'.base, J'.hok, rv, z2⟩
end
section
variable {Z : Cx} {Nm ps fr : List Str} {F : NF} {f : Addr} {k i : Nat} {body : Expr} {tb : TE} {ws : List (Option V)} {G : List V → Hp → VK → Prop} {a : Str} {e : Expr} {es : List Expr} {t : TA} {p1 p2 : Pos}
theorem pe_actL (S : NScope Nm ps fr F.scope) (hb : ∀ (pm ctv : Value) (us : List Value), us.length = ps.length → bindArgs (PySem.W.kla_fn F.name F.qual F.params body F.scope F.cl pm (.ref F.c) ctv) ⟨us, []⟩ = pure (ps.zip us))
    (hbody : ∀ (s : Shared) (H : Hp), PE (ncx (L2.CX Z.prog Z.w) Z.prog Z.w Z.K Z.mg Z.base Nm F f Z.A Z.stack s H E0) body tb) (hr : RoomG (k + 1) Z.A) (C : CellsAt F.cl fr ws Z.s_0.heap Z.H_0) (hx : Z.ex = []) (hG : ∀ vs H1 Q, G vs H1 Q → H1 f = some (LamO f F body) ∧ H1 F.c = some (CodeO F.c F.qual) ∧ vs.length = ps.length ∧ tb (startF Nm vs ws) H1 Q)
    (hN : Z.N[i]? = some a) (hv : Vis Z.env.scope a) (ha : PA Z (e :: es) t) (hd : (a == ("__debug__" : Str)) = false := by decide) (hcd : (a == ("__classdict__" : Str)) = false := by decide)
    (he : starEach (e :: es) Z.env = (false, eval e Z.env) :: starEach es Z.env := by rfl) (hpl : (backTo p2 (starEach es Z.env)).any (·.1) = false := by rfl) :
    PE Z (.Call (.Name a p1) (e :: es) [] p2) (fun σ H Q => σ[i]? = some (some (.ref f)) ∧ H f = some (LamO f F body) ∧ t σ H fun vs H1 => G vs H1 Q) := by
  refine ⟨fun pins s σ H Q I h => ?_⟩
  obtain ⟨hs, hf, ht⟩ := h
  refine wpAny_Call_Name_kw (thn ((pe_var (pos := p1) hN hv hd hcd).run pins s σ H (fun v H1 => v = .ref f ∧ H1 = H) I ⟨.ref f, hs, rfl, rfl⟩) fun u s1 z => ?_)
  obtain ⟨v, H1, J, r1, ev, eH⟩ := z
  subst ev
  rw [eH] at J
  obtain rfl : u = Value.ref f := r1
  have fnAt : ∀ {s : Shared} {H : Hp} {pins : List (Addr × Obj)} {σ : L2.St}, Inv Z pins σ H s → H f = some (LamO f F body) → PySem.W.FnAt f s.heap := fun I e => by
    obtain ⟨pm, ctv, ho⟩ := lamO_at I.hok e
    exact ⟨_, _, _, _, ho⟩
  refine PySem.W.callWith_F (first := []) (fnAt J hf) (thn (ha.run p2 pins s1 σ H _ J ht) fun us s2 z => ?_) he hpl
  obtain ⟨vs, H2, J2, r, gg⟩ := z
  obtain ⟨q1, q2, q3, q4⟩ := hG vs H2 Q gg
  refine ⟨fnAt J2 q1, ?_⟩
  show wpAny _ _ (call (.ref f) us) _ _ _
  refine wpAny_call (codeAny_mono (run_lam S hb hbody hr J2.env0 q1 q2 (cells_later C hx J2) r q3 q4) fun res s' hq => ?_)
  match res, hq with
  | .error e, hq => exact passL pins σ H2 s2 e s' J2 hq
  | .ok (.ret u), hq => exact J2.after hq
  | .ok .next, hq => exact False.elim hq
  | .ok .brk, hq => exact False.elim hq
  | .ok .cont, hq => exact False.elim hq
end
end N

namespace N
open PySem PySem.Spec PyProof.Rows L2 LamX NdefX
/-! ### values that are called, by what they do -/
/-- at f stands a lambda that does spL, its cells being as they are in the heap h -/
def ActL (P : Program) (w : World) (K : PySem.W.Frag) (mg : Str → Option Value) (base : Heap) (f : Addr) (h : Heap) (H : Hp) (spL : List V → Hp → VK → Prop) : Prop :=
  ∃ (F : NF) (body : Expr) (Nm ps fr : List Str) (ws : List (Option V)) (tb : TE), NScope Nm ps fr F.scope ∧
    (∀ (pm ctv : Value) (us : List Value), us.length = ps.length → bindArgs (PySem.W.kla_fn F.name F.qual F.params body F.scope F.cl pm (.ref F.c) ctv) ⟨us, []⟩ = pure (ps.zip us)) ∧
    (∀ (A : Around) (outer : List Env) (s : Shared) (H : Hp), RoomG 0 (A.deeper (envF F f s.heap.objs.size)) → PE (ncx (L2.CX P w) P w K mg base Nm F f A outer s H E0) body tb) ∧ CellsAt F.cl fr ws h H ∧
    H f = some (LamO f F body) ∧ H F.c = some (CodeO F.c F.qual) ∧ ∀ vs H' Q, spL vs H' Q → vs.length = ps.length ∧ tb (startF Nm vs ws) H' Q
section
variable {Z : Cx} {f : Addr} {i : Nat} {a : Str} {e : Expr} {es : List Expr} {t : TA} {p1 p2 : Pos} {spL : List V → Hp → VK → Prop}
theorem pe_actS (L : ActL Z.prog Z.w Z.K Z.mg Z.base f Z.s_0.heap Z.H_0 spL) (hr : RoomG 1 Z.A) (hx : Z.ex = [])
    (hN : Z.N[i]? = some a) (hv : Vis Z.env.scope a) (ha : PA Z (e :: es) t) (hd : (a == ("__debug__" : Str)) = false := by decide) (hcd : (a == ("__classdict__" : Str)) = false := by decide)
    (he : starEach (e :: es) Z.env = (false, eval e Z.env) :: starEach es Z.env := by rfl) (hpl : (backTo p2 (starEach es Z.env)).any (·.1) = false := by rfl) :
    PE Z (.Call (.Name a p1) (e :: es) [] p2) (fun σ H Q => σ[i]? = some (some (.ref f)) ∧ Same Z.H_0 H ∧ t σ H fun vs H1 => Same Z.H_0 H1 ∧ spL vs H1 Q) := by
  obtain ⟨F, body, Nm, ps, fr, ws, tb, S, hb, hbody, C, h1, h2, hsp⟩ := L
  have q := pe_actL (Z := Z) (i := i) (f := f) (k := 0) (p1 := p1) (G := fun vs H1 Q => Same Z.H_0 H1 ∧ spL vs H1 Q) S hb (fun s H => hbody Z.A Z.stack s H (hr.deeper _)) hr C hx (fun vs H1 Q z => ⟨z.1 _ _ h1, z.1 _ _ h2, hsp vs H1 Q z.2⟩) hN hv ha hd hcd he hpl
  refine ⟨fun pins s σ H Q I h => ?_⟩
  obtain ⟨g1, g2, g3⟩ := h
  exact q.run pins s σ H Q I ⟨g1, g2 _ _ h1, g3⟩
end
end N

namespace N
open PySem PySem.Spec PyProof.Rows L2 LamX NdefX
section
variable {X : Cx} {k : Nat} {x : Str} {st : Stmt} {ps Ng : List Str} {p pos : Pos} {e : Expr} {es : List Expr} {t : TA}
/-- lambda ..: .. as a value -/
theorem pe_lamT {c P : Addr} {params : Arguments} {body : Expr} {scope : Scope} (TB : TabB X.base X.mg c P) (hcode : X.env.code = .ref c) (hdef : defaultsOf params X.env = ([], []) := by rfl)
    (fre : ∀ y ∈ scope.names, y.2 = .free → X.env.scope.names.lookup y.1 = some .cell ∨ X.env.scope.names.lookup y.1 = some .free := by decide +kernel) :
    PE X (.Lambda params body scope pos) (fun σ H Q => TabS H P (X.env.qual ++ "<lambda>") ∧ ∀ (f c' : Addr) (H1 : Hp), ExtN H H1 → TabS H1 P (X.env.qual ++ "<lambda>") → (∀ b, H1 b = none → H b = none) → H f = none →
      H1 f = some (LamO f (lamF (X.env.qual ++ "<lambda>") params scope (cloFrom X.env.cells scope.names []) c') body) → H1 c' = some (CodeO c' (X.env.qual ++ "<lambda>")) → Q (.ref f) H1) := by
  refine ⟨fun pins s σ H Q I h => ?_⟩
  obtain ⟨hT, h⟩ := h
  refine lam_new I TB hcode hT hdef (fun y hy ey => (fre y hy ey).elim (fun z => I.ok.has _ (.inl z)) fun z => I.ok.has _ (.inr z)) (fun f c' H1 s' J g1 g2 g3 g4 g5 g6 => ?_)
  exact ⟨.ref f, H1, J, rfl, h f c' H1 g1 g2 g3 g4 g5 g6⟩
/-- x(e, ..), the promise told of the very state -/
theorem pe_callH {RR : L2.St → List V → Hp → VK → Prop} (D : DefAt X.K X.mg x st ps) (Sg : FnScope Ng ps (defScope st)) (hr : RoomG (k + 1) X.A) (hg : Gl X x) (ha : PA X (e :: es) t) (hlen : ∀ σ vs H Q, RR σ vs H Q → vs.length = ps.length)
    (hG : ∀ (g : Addr) (cdv : Value) (pins : List (Addr × Obj)) (s : Shared) (σ : L2.St) (H : Hp) (vs : List V) (Q : VK), Inv X pins σ H s → RoomG k (X.A.deeper (envOfC x (defScope st) s.heap.objs.size g cdv)) → RR σ vs H Q →
      ∃ t, PSs (cxOf (L2.CX X.prog X.w) X.prog X.w X.K X.mg X.base Ng x (defScope st) g cdv X.A X.stack s H E0) (defBody st) t ∧ t { nx := fun _ H' => Q .non H', rt := Q } (L2.start Ng vs) H)
    (hdb : (x == ("__debug__" : Str)) = false := by decide) (he : starEach (e :: es) X.env = (false, eval e X.env) :: starEach es X.env := by rfl) (hpl : (backTo pos (starEach es X.env)).any (·.1) = false := by rfl) :
    PE X (.Call (.Name x p) (e :: es) [] pos) (fun σ H Q => t σ H fun vs H1 => RR σ vs H1 Q) := by
  obtain ⟨g, fd, hm, F, hb⟩ := D
  have hk := F.kp
  obtain ⟨oc, od, kV, doc, pm, an, cdv, ct, osl, rfl, lk, hcd⟩ := F.ex
  refine ⟨fun pins s σ H Q I h => wpAny_Call_Name_kw (ld_glob I hg hm ?_ hdb)⟩
  refine PySem.W.callWith_K (h₀ := X.base) I.ok.mod.kin hk (thn (ha.run pos pins s σ H _ I h) fun us s1 z => ?_) he hpl
  obtain ⟨vs, H1, J, r, q⟩ := z
  refine ⟨J.kIn, ?_⟩
  have hl := hlen _ _ _ _ q
  have b := hb s1 us J.kIn (by rw [List.append_nil, ← r.length]; exact hl)
  rw [List.append_nil] at b
  show wpAny _ _ (call (.ref g) us) _ _ _
  refine wpAny_call (codeAny_mono (run_ofS (CX := L2.CX X.prog X.w) (E := E0) lk hcd Sg hr.toRoom J.env0 b r hl fun hr' => hG g cdv pins s1 σ H1 vs Q J ⟨hr', hr.gs⟩ q) fun res s' hq => ?_)
  match res, hq with
  | .error e, hq => exact passL pins σ H1 s1 e s' J hq
  | .ok (.ret u), hq => exact J.after hq
  | .ok .next, hq => exact False.elim hq
  | .ok .brk, hq => exact False.elim hq
  | .ok .cont, hq => exact False.elim hq
end
/-! ### a def whose code object is named -/
def DefAtC (K : PySem.W.Frag) (mg : Str → Option Value) (x : Str) (st : Stmt) (ps : List Str) (c : Addr) : Prop :=
  ∃ (f : Addr) (fd : FuncData) (oc : Value) (od : Option Addr) (kV doc pm : Value) (an : Option Addr) (ct : Value) (osl : Array (Option Value)), mg x = some (.ref f) ∧ fd = PySem.W.fnOf x x (defArgs st) (defBody st) (defScope st) .none kV doc pm an (.ref c) ct ∧
    K.lookup f = some ⟨oc, od, .func fd, osl⟩ ∧ PySem.W.codeIn K (.ref c) x = true ∧ PySem.W.keepIn K (.ref f) = true ∧ Binds K fd ps []
section
variable {P : Program} {w : World} {K : PySem.W.Frag} {mg : Str → Option Value} {base : Heap} {k : Nat} {x : Str} {ps Nm : List Str} {sp : Sp} {st : Stmt} {c : Addr}
theorem DefAtC.cal (D : DefAtC K mg x st ps c) (S : FnScope Nm ps (defScope st)) (len : ∀ vs H Q E, sp vs H Q E → vs.length = ps.length)
    (hbody : ∀ (f : Addr) (A : Around) (outer : List Env) (s : Shared) (H : Hp) (vs : List V) (Q : VK) (E : XK), RoomG k (A.deeper (envOfC x (defScope st) s.heap.objs.size f (.ref c))) → sp vs H Q E →
      ∃ t, PSs (cxOf (L2.CX P w) P w K mg base Nm x (defScope st) f (.ref c) A outer s H E) (defBody st) t ∧ t { nx := fun _ H' => Q .non H', rt := Q } (start Nm vs) H) : Cal P w K mg base (k + 1) x ps sp := by
  obtain ⟨f, fd, oc, od, kV, doc, pm, an, ct, osl, hm, rfl, lk, hcd, hk, hb⟩ := D
  refine ⟨f, _, hm, hk, hb, len, fun A outer s H args us vs Q E hr e0 bt r hsp => ?_⟩
  exact run_ofS lk hcd S hr.toRoom e0 bt r (len _ _ _ _ hsp) fun hr' => hbody f A outer s H vs Q E ⟨hr', hr.gs⟩ hsp
end
theorem mk_defC {h : Heap} {K : PySem.W.Frag} {mg : Str → Option Value} {x : Str} {st : Stmt} {ps : List Str} {c : Addr} {f : Addr} {oc : Value} {od an : Option Addr} {osl : Array (Option Value)} {kV doc pm ct : Value} (X : K.In h) (G : h.Ns mainGlobals mg)
    (a : PySem.W.nsIn K mainGlobals x = some (some (.ref f))) (l : K.lookup f = some ⟨oc, od, .func (PySem.W.fnOf x x (defArgs st) (defBody st) (defScope st) .none kV doc pm an (.ref c) ct), osl⟩) (hc : PySem.W.codeIn K (.ref c) x = true) (k : PySem.W.keepIn K (.ref f) = true)
    (b : ∀ (kV doc pm : Value) (an : Option Addr) (cdv ct : Value) (us : List Value), us.length = ps.length → bindArgs (PySem.W.fnOf x x (defArgs st) (defBody st) (defScope st) .none kV doc pm an cdv ct) ⟨us, []⟩ = pure (ps.zip us)) : DefAtC K mg x st ps c :=
  ⟨f, _, oc, od, kV, doc, pm, an, ct, osl, PySem.W.mg_of X G a, rfl, l, hc, k, (fun_mk l hc k).binds b⟩
end N

namespace N
open PySem PySem.Spec PyProof.Rows L2 L2H LamX NdefX
/-! ### a lambda without parameters that is called, and may raise -/
/-- at f stands a lambda that does spL, its cells being as they are in the heap h -/
def ActR (P : Program) (w : World) (K : PySem.W.Frag) (mg : Str → Option Value) (base : Heap) (k : Nat) (f : Addr) (h : Heap) (H : Hp) (spL : Hp → VK → XK → Prop) : Prop :=
  ∃ (F : NF) (body : Expr) (Nm fr : List Str) (ws : List (Option V)) (tb : XK → TE), NScope Nm [] fr F.scope ∧
    (∀ (pm ctv : Value), bindArgs (PySem.W.kla_fn F.name F.qual F.params body F.scope F.cl pm (.ref F.c) ctv) ⟨[], []⟩ = pure []) ∧
    (∀ (A : Around) (outer : List Env) (s : Shared) (H : Hp) (E : XK), RoomG k (A.deeper (envF F f s.heap.objs.size)) → PE (ncx (L2.CX P w) P w K mg base Nm F f A outer s H E) body (tb E)) ∧ CellsAt F.cl fr ws h H ∧
    H f = some (LamO f F body) ∧ H F.c = some (CodeO F.c F.qual) ∧ ∀ H' Q E, spL H' Q E → tb E (startF Nm [] ws) H' Q
section
variable {P : Program} {w : World} {K : PySem.W.Frag} {mg : Str → Option Value} {base : Heap} {Nm fr : List Str} {F : NF} {f : Addr} {k : Nat} {body : Expr} {tb : TE}
theorem run_lamE (S : NScope Nm [] fr F.scope) (hb : ∀ (pm ctv : Value), bindArgs (PySem.W.kla_fn F.name F.qual F.params body F.scope F.cl pm (.ref F.c) ctv) ⟨[], []⟩ = pure [])
    {A : Around} {outer : List Env} {s : Shared} {H : Hp} {ws : List (Option V)} {Q : VK} {E : XK}
    (hbody : PE (ncx (L2.CX P w) P w K mg base Nm F f A outer s H E) body tb)
    (hr : RoomG (k + 1) A) (e0 : Env0 P w K mg base A outer s H) (hf : H f = some (LamO f F body)) (hc : H F.c = some (CodeO F.c F.qual)) (C : CellsAt F.cl fr ws s.heap H) (q : tb (startF Nm [] ws) H Q) :
    codeAny (model P w) A (.call (.ref f) ⟨[], []⟩) (CR (L2.CX P w) outer P w H s Q E) s := by
  have lim : s.heap.NoLimit := e0.mod.nolimit.keeps fun b o e => (e0.bs b o e).1
  obtain ⟨pm, ctv, ho⟩ := lamO_at e0.hok hf
  refine PySem.W.kla_callFunE hr.toRoom.depth ho rfl S.co S.gen rfl (codeO_at e0.hok hc) ?_
  rw [hb pm ctv]
  refine wpAny_pure (wpAny_newFunctionEnv S.nocell (fun y hy => by cases hy) (fun h1 hns hsb => ⟨lim.fresh _ hsb, ?_⟩) S.kind)
  show codeAny _ _ (.expr body (envF F f s.heap.objs.size)) _ _
  have kp : ∀ b o, s.heap.get? b = some o → h1.get? b = some o := fun b o e => hsb.extBut b o (Nat.ne_of_lt (Heap.lt_size e)) (Heap.get?_push_of_some _ e)
  have J : Inv (ncx (L2.CX P w) P w K mg base Nm F f A outer s H E) [] (startF Nm [] ws) H { s with heap := h1, toks := s.toks } := inv_startN (us := []) S hr.toRoom.hd e0 rfl .nil C hns kp
  refine PySem.W.kla_codeExpr (wpAny_mono (hbody.run [] _ _ H Q J q) (fun v s' z => ?_) fun e s' z => z)
  obtain ⟨v', H', J', rv, z2⟩ := z
  exact ⟨v', H', J'.os, J'.bare, J'.base, J'.hok, rv, z2⟩
end
section
variable {Z : Cx} {f : Addr} {i k : Nat} {a : Str} {p1 p2 : Pos} {spL : Hp → VK → XK → Prop} {W : WX}
/-- a(), a the name of such a lambda -/
theorem pe_actR (L : ActR Z.prog Z.w Z.K Z.mg Z.base k f Z.s_0.heap Z.H_0 spL) (tk : Takes Z W) (hr : RoomG (k + 1) Z.A) (hx : Z.ex = [])
    (hN : Z.N[i]? = some a) (hv : Vis Z.env.scope a) (hd : (a == ("__debug__" : Str)) = false := by decide) (hcd : (a == ("__classdict__" : Str)) = false := by decide) :
    PE Z (.Call (.Name a p1) [] [] p2) (fun σ H Q => σ[i]? = some (some (.ref f)) ∧ Same Z.H_0 H ∧ spL H Q (WE W σ)) := by
  obtain ⟨F, body, Nm, fr, ws, tb, S, hb, hbody, C, h1, h2, hsp⟩ := L
  refine ⟨fun pins s σ H Q I h => ?_⟩
  obtain ⟨hs, sm, hq⟩ := h
  refine wpAny_Call_Name_kw (thn ((pe_var (pos := p1) hN hv hd hcd).run pins s σ H (fun v H1 => v = .ref f ∧ H1 = H) I ⟨.ref f, hs, rfl, rfl⟩) fun u s1 z => ?_)
  obtain ⟨v, H1, J, r1, ev, eH⟩ := z
  subst ev
  rw [eH] at J
  obtain rfl : u = Value.ref f := r1
  have e1 := sm _ _ h1
  have at_ : PySem.W.FnAt f s1.heap := by
    obtain ⟨pm, ctv, ho⟩ := lamO_at J.hok e1
    exact ⟨_, _, _, _, ho⟩
  refine PySem.W.callWith_F0 (first := []) at_ ?_
  show wpAny _ _ (call (.ref f) []) _ _ _
  refine wpAny_call (codeAny_mono (run_lamE (k := k) (E := WE W σ) S hb (hbody Z.A Z.stack s1 H _ (hr.deeper _)) hr J.env0 e1 (sm _ _ h2) (cells_later C hx J) (hsp H Q _ hq)) fun res s' hq => ?_)
  match res, hq with
  | .error e, hq => exact passAt tk σ pins H s1 e s' J hq
  | .ok (.ret u), hq => exact J.after hq
  | .ok .next, hq => exact False.elim hq
  | .ok .brk, hq => exact False.elim hq
  | .ok .cont, hq => exact False.elim hq
end
section
variable {X : Cx}
/-- repr(x), x an int, a text or data without dicts -/
def rReprU (K : PySem.W.Frag) : List V → Hp → VK → Prop := fun xs H Q => ∃ v, xs = [v] ∧ ((∃ i : Int, v = .int i ∧ i.natAbs.log2 < 1920 ∧ Q (.str (toString i)) H) ∨ ∃ d, ((∃ a, v = .ref a) ∨ ∃ x, v = .str x) ∧ Dp K H v d ∧ d.showable = true ∧ d.hasDict = false ∧ d.depth ≤ 60 ∧ d.shown.length ≤ sizeLine ∧ Q (.str d.shown) H)
theorem call_reprU {j : Nat} (hr : RoomG j X.A) : CallR X (.builtin "repr") (rReprU X.K) := by
  intro pins s σ H xs us Q I r h
  obtain ⟨v, rfl, h⟩ := h
  rcases h with ⟨i, rfl, hi, q⟩ | ⟨d, hv, hd, hs, hn, hdp, hz, q⟩
  · exact SkE.call_repr_int pins s σ H [.int i] us Q I r ⟨i, rfl, hi, q⟩
  rcases hv with ⟨a, rfl⟩ | ⟨x, rfl⟩
  · exact call_repr hr pins s σ H [.ref a] us Q I r ⟨a, d, rfl, hd, hs, hn, hdp, hz, q⟩
  · obtain ⟨u, rfl, t, rfl⟩ := vals1 r
    cases hd
    simp only [PyData.shown] at hz q
    exact PySem.P.repr_of_str ⟨.str (reprText x), H, I.kept (t' := s.toks + 1) fun b o e => e, ⟨_, rfl⟩, q⟩ hz
theorem pe_no {e : Expr} : PE X e (fun _ _ _ => False) := ⟨fun _ _ _ _ _ _ h => h.elim⟩
end
end N

namespace N
open PySem PySem.Spec PyProof.Rows L2 L2H LamX NdefX
theorem pssImp {X : Cx} {b : List Stmt} {t t' : TS} (h : PSs X b t) (q : ∀ D σ H, t' D σ H → t D σ H) : PSs X b t' := ⟨fun pins s σ H D I z => h.run pins s σ H D I (q _ _ _ z)⟩
theorem no_in : ∀ i, i < 13 → inV (.str (exN i)) [.str "Unfit", .str "Looped"] = false := by decide +kernel
theorem no_turned : ∀ i, i < 13 → decide (V.str (exN i) = V.str "Turned") = false := by decide +kernel
theorem no_endless : ∀ i, i < 13 → decide (V.str (exN i) = V.str "Endless") = false := by decide +kernel
theorem plain_words : ∀ i, i < 13 → exN i ≠ "Unfit" ∧ exN i ≠ "Looped" ∧ exN i ≠ "Turned" ∧ exN i ≠ "Endless" ∧ (exN i).length ≤ 20 := by decide +kernel
/-- a(), a the name at i, where the call is asked in the state H0 -/
def tActR (f : Addr) (i : Nat) (H0 : Hp) (spL : Hp → VK → XK → Prop) (W : WX) : TE := fun σ H Q => σ[i]? = some (some (.ref f)) ∧ Same H0 H ∧ spL H Q (WE W σ)
section
variable {P : Program} {w : World} {K : PySem.W.Frag} {mg : Str → Option Value} {base : Heap} {c : Nat → Addr}
theorem said_body {kk : Nat} {g f ke : Addr} {cdv : Value} {A : Around} {outer : List Env} {s : Shared} {H : Hp} {Q : VK} {spL : Hp → VK → XK → Prop} (G : Glo mg) (CW : CalP P w K mg base 1 "_law_word" ["_law_e"] (spWordP c))
    (gk : mg "KindError" = some (.ref ke)) (hx : ∀ i, i < 13 → PySem.W.exmOne K (.ref (c i)) (.ref ke) = some true)
    (L : ActR P w K mg base kk f s.heap H spL) (hr : RoomG (kk + 1) (A.deeper (envOfC "_law_said" (defScope s_Lsaid) s.heap.objs.size g cdv)))
    (hm : ∀ (R R' : VK) (E E' : XK), (∀ v H1, R v H1 → R' v H1) → (∀ cls d H1, E cls d H1 → E' cls d H1) → spL H R E → spL H R' E')
    (q : spL H (fun v H1 => rReprU K [v] H1 Q) (fun cls d H1 => ∃ i, i < 13 ∧ cls = .ref (c i) ∧ d = none ∧ ∀ H2, Same H1 H2 → Q (.str ("! " ++ exN i)) H2)) :
    ∃ t, PSs (cxOf (L2.CX P w) P w K mg base nm_Lsaid "_law_said" (defScope s_Lsaid) g cdv A outer s H E0) (defBody s_Lsaid) t ∧ t { nx := fun _ H' => Q .non H', rt := Q } (L2.start nm_Lsaid [.ref f]) H := by
  have hrH : RoomH 1 (A.deeper (envOfC "_law_said" (defScope s_Lsaid) s.heap.objs.size g cdv)) := roomH_of (hr.toRoom.mono (by omega))
  refine ⟨_, pss_one (ps_try_as (i := 1) (c := .ref ke) (Wout := fun cls d _ H => E0 cls d H) (ts := fun a cls d D σ H => ∃ C x y, cls = .ref C ∧ σ = [x, some (.ref a), y] ∧ ∃ i, i < 13 ∧ C = c i ∧ d = none ∧ ∀ H2, Same H H2 → D.rt (.str ("! " ++ exN i)) H2) rfl rfl sc_Lsaid.nd rfl rfl ⟨rfl, by decide, .inl gk⟩ (takes_of rfl rfl rfl rfl)
    (fun W pn xe tk po => pss_one (ps_ret (pe_callB (id := "repr") (r := rReprU K) (call_reprU hr) (by rfl) G.repr (by decide +kernel) (pa_cons (show PE _ _ (tActR f 0 H spL W) from pe_actR (i := 0) L tk hr rfl rfl (.inl rfl)) pa_nil))))
    (fun a oe cls d pn hz hf => ⟨fun pins s' σ H' D I h => ?_⟩)), ?_⟩
  · obtain ⟨C, x, y, rfl, rfl, i, hi, rfl, rfl, h⟩ := h
    refine (pssImp (t' := fun D σ H => σ = [x, some (.ref a), y] ∧ ∀ H2, Same H H2 → D.rt (.str ("! " ++ exN i)) H2) (pss_cons (ps_set (i := 2) sc_Lsaid.nd rfl (Or.inl rfl) (pcP CW (List.mem_cons_self) hz hf ⟨hrH.dp, hrH.un⟩ (by rfl) (pa_cons (pv 1) pa_nil)))
      (pss_cons (ps_if (pt_cmpR op_in_seq (pv 2) (pe_tup (pa_cons pe_str (pa_cons pe_str pa_nil))) (by rfl)) (pss_one ps_never) pss_nil)
      (pss_cons (ps_if (pt_cmpR op_eq (pv 2) pe_str (nomark _)) (pss_one ps_never) pss_nil)
      (pss_one (ps_ret (pe_ifExp (pt_cmpR op_eq (pv 2) pe_str (nomark _)) pe_no (pe_op op_add_str pe_str (pv 2)))))))) fun D σ H z => ?_).run pins s' _ H' D I ⟨rfl, h⟩
    obtain ⟨rfl, z⟩ := z
    refine ⟨_, rfl, i, rfl, by omega, rfl, rfl, fun H1 s1 => ?_⟩
    refine ⟨_, rfl, by show 2 ≤ sizeLine; decide, fun t ht => ⟨t, _, rfl, .inr (.inl (.inl upd_same)), rfl, rfl, _, rfl, iteN (no_in i hi) ?_⟩⟩
    refine ⟨_, rfl, rfl, _, rfl, iteN (no_turned i hi) ?_⟩
    refine ⟨_, rfl, rfl, _, rfl, iteN (no_endless i hi) ?_⟩
    exact ⟨_, rfl, _, _, rfl, rfl, Nat.le_trans (show ("! " : Str).length + (exN i).length ≤ 100 from Nat.le_trans (Nat.add_le_add_left (plain_words i hi).2.2.2.2 _) (by decide +kernel)) (by rw [sizeLine_eq]; omega), z _ (s1.trans (same_new ht _))⟩
  · refine ⟨rfl, Same.refl _, hm _ _ _ _ (fun v H1 z => z) (fun cls d H1 z => ?_) q⟩
    obtain ⟨i, hi, rfl, rfl, z⟩ := z
    exact ⟨true, hx i hi, fun _ a ha => ⟨c i, _, _, rfl, rfl, i, hi, rfl, rfl, z⟩, fun z => by cases z⟩
end
end N

namespace N
open PySem PySem.Spec PyProof.Rows L2
/-! ### is_kind, of any thing -/
def upS : Str := "ABCDEFGHIJKLMNOPQRSTUVWXYZ"
def loS : Str := "abcdefghijklmnopqrstuvwxyz"
theorem up_mem (c : Nat) : decide (c ∈ upS.cps.toList) = decide (65 ≤ c ∧ c ≤ 90) := by
  have e : upS.cps.toList = (List.range 26).map (65 + ·) := by decide +kernel
  rw [e]
  apply decide_eq_decide.mpr
  simp only [List.mem_map, List.mem_range]
  constructor
  · rintro ⟨k, hk, rfl⟩; omega
  · intro h; exact ⟨c - 65, by omega, by omega⟩
theorem lo_mem (c : Nat) : (c ∈ loS.cps.toList) ↔ Low c := by
  have e : loS.cps.toList = (List.range 26).map (97 + ·) := by decide +kernel
  rw [e]
  unfold Low
  simp only [List.mem_map, List.mem_range]
  constructor
  · rintro ⟨k, hk, rfl⟩; omega
  · intro h; exact ⟨c - 97, by omega, by omega⟩
theorem isLet_one (c : Nat) : isLet ⟨#[c]⟩ = decide (c ∈ upS.cps.toList) := by
  rw [up_mem, Bool.eq_iff_iff, isLet_iff, decide_eq_true_eq]
  constructor
  · rintro ⟨d, e, h⟩
    have : [c] = [d] := e
    cases this
    exact h
  · intro h
    exact ⟨c, rfl, h⟩
theorem isLet_len {x : Str} (h : x.length ≠ 1) : isLet x = false := by
  unfold isLet
  rw [decide_eq_false h, Bool.false_and]
theorem dec_one (n : Nat) (k : Nat) : decide (V.int (n : Int) = V.int (k : Int)) = decide (n = k) := by
  apply decide_eq_decide.mpr
  constructor
  · intro z; have := V.int.inj z; omega
  · intro z; rw [z]
theorem str_one {x : Str} (h : x.length = 1) : ∃ c, x = ⟨#[c]⟩ := by
  obtain ⟨⟨l⟩⟩ := x
  match l, h with
  | [c], _ => exact ⟨c, rfl⟩
/-- how many of the first i signs are no small letters: a list of ones -/
def bads (x : Str) (i : Nat) : List V := ((x.cps.toList.take i).filter fun c => !decide (c ∈ loS.cps.toList)).map fun _ => V.int 1
theorem bads_step {x : Str} {i c : Nat} (h : x.cps[i]? = some c) : bads x (i + 1) = bads x i ++ (if decide (c ∈ loS.cps.toList) = true then [] else [V.int 1]) := by
  have h' : x.cps.toList[i]? = some c := by rw [Array.getElem?_toList]; exact h
  unfold bads
  rw [take_snoc h', List.filter_append, List.map_append]
  congr 1
  by_cases hc : c ∈ loS.cps.toList
  · rw [List.filter_cons, decide_eq_true hc]
    rfl
  · rw [List.filter_cons, decide_eq_false hc]
    rfl
theorem bads_len (x : Str) (i : Nat) : (bads x i).length ≤ i := by
  unfold bads
  rw [List.length_map]
  exact Nat.le_trans (List.length_filter_le ..) (by rw [List.length_take]; omega)
theorem isNam_bads {x : Str} (h1 : 1 ≤ x.length) (h8 : x.length ≤ 8) : isNam x = (bads x x.cps.size).isEmpty := by
  rw [Bool.eq_iff_iff, isNam_iff]
  unfold bads
  rw [List.isEmpty_iff, List.map_eq_nil_iff, List.filter_eq_nil_iff, List.take_of_length_le (by rw [Array.length_toList]; exact Nat.le_refl _)]
  constructor
  · rintro ⟨_, _, h⟩ c hc
    rw [decide_eq_true ((lo_mem c).mpr (h c hc))]
    exact Bool.false_ne_true
  · intro h
    refine ⟨h1, h8, fun c hc => ?_⟩
    have := h c hc
    by_cases hm : c ∈ loS.cps.toList
    · exact (lo_mem c).mp hm
    · rw [decide_eq_false hm] at this
      exact absurd rfl this
theorem eqv_ones : ∀ l : List V, (∀ v ∈ l, v = V.int 1) → PyData.eqv (.list (l.map fun _ => PyData.int 1)) (.list []) = l.isEmpty
  | [], _ => by simp [PyData.eqv, PyData.eqvAll]
  | _ :: _, _ => by simp [PyData.eqv, PyData.eqvAll]
theorem dp_ones {K : PySem.W.Frag} {H : Hp} : ∀ l : List V, (∀ v ∈ l, v = V.int 1) → DpAll K H l (l.map fun _ => PyData.int 1)
  | [], _ => .nil
  | v :: l, h => by
    rw [h v List.mem_cons_self]
    exact .cons (.int 1) (dp_ones l fun u hu => h u (List.mem_cons_of_mem _ hu))
theorem shaped_ones (l : List V) : SeqAt.shaped (.list (l.map fun _ => PyData.int 1)) = true := by
  have h1 : ∀ l : List V, PyData.canLayAll0 (l.map fun _ => PyData.int 1) = true := fun l => by
    induction l with
    | nil => simp [PyData.canLayAll0]
    | cons c l ih => simp [PyData.canLayAll0, PyData.canLay0, ih]
  have h2 : ∀ l : List V, PyData.depthAll (l.map fun _ => PyData.int 1) ≤ 1 := fun l => by
    induction l with
    | nil => simp [PyData.depthAll]
    | cons c l ih => simp only [List.map_cons, PyData.depthAll, PyData.depth]; omega
  show (PyData.canLay0 _ && decide (PyData.depth _ ≤ 64)) = true
  rw [Bool.and_eq_true, decide_eq_true_eq]
  refine ⟨by simp only [PyData.canLay0]; exact h1 l, ?_⟩
  have := h2 l
  simp only [PyData.depth]
  omega
end N

namespace N
open PySem PySem.Spec PyProof.Rows L2
section
variable {P : Program} {w : World} {K : PySem.W.Frag} {mg : Str → Option Value} {base : Heap}
abbrev rNiS : R2 := fun x y H Q => ∃ (c : Nat) (z : Str), x = .str ⟨#[c]⟩ ∧ y = .str z ∧ Q (.bl (!decide (c ∈ z.cps.toList))) H
mutual
def Tg.dep : Tg → Nat
  | .str _ => 0
  | .oth => 0
  | .tup ts => 1 + depAll ts
def depAll : List Tg → Nat
  | [] => 0
  | t :: ts => max t.dep (depAll ts)
end
def spIsK (K : PySem.W.Frag) (n : Nat) : Sp := fun vs H Q _ => ∃ v t, vs = [v] ∧ Th K H v t ∧ t.dep < n ∧ n ≤ 1000 ∧ ∀ H', Same H H' → Q (.bl (isT t)) H'
theorem isT_long {ts : List Tg} (h : 3 < ts.length) : isT (.tup ts) = false := by
  match ts, h with
  | n :: ts, h =>
    show ((decide (ts.length ≤ 2) && n.isNm) && isTAll ts) = false
    rw [decide_eq_false (by rw [List.length_cons] at h; omega), Bool.false_and, Bool.false_and]
theorem isT_nonm {n : Tg} {ts : List Tg} (h : n.isNm = false) : isT (.tup (n :: ts)) = false := by
  show ((decide (ts.length ≤ 2) && n.isNm) && isTAll ts) = false
  rw [h, Bool.and_false, Bool.false_and]
def badT (ts : List Tg) (i : Nat) : List V := ((ts.take i).filter fun t => !isT t).map fun _ => V.int 1
theorem badT_step {ts : List Tg} {i : Nat} {t : Tg} (h : ts[i]? = some t) : badT ts (i + 1) = badT ts i ++ (if isT t = true then [] else [V.int 1]) := by
  unfold badT
  rw [take_snoc h, List.filter_append, List.map_append]
  congr 1
  by_cases hc : isT t = true
  · rw [List.filter_cons, hc]
    rfl
  · rw [List.filter_cons, Bool.eq_false_iff.mpr hc]
    rfl
theorem badT_len (ts : List Tg) (i : Nat) : (badT ts i).length ≤ i := by
  unfold badT
  rw [List.length_map]
  exact Nat.le_trans (List.length_filter_le ..) (by rw [List.length_take]; omega)
theorem badT_all : ∀ ts : List Tg, (badT ts ts.length).isEmpty = isTAll ts := by
  intro ts
  unfold badT
  rw [List.take_length]
  induction ts with
  | nil => rfl
  | cons t ts ih =>
    show _ = (isT t && isTAll ts)
    rw [← ih, List.filter_cons]
    cases isT t <;> rfl
theorem thall_at {H : Hp} : ∀ {vs : List V} {ts : List Tg} {i : Nat} {x : V}, ThAll K H vs ts → vs[i]? = some x → ∃ t, ts[i]? = some t ∧ Th K H x t
  | _, _, i, x, .nil, h => by simp at h
  | _, _, 0, x, .cons r _, h => by
    simp at h
    subst h
    exact ⟨_, rfl, r⟩
  | _, _, i + 1, x, .cons _ t, h => by
    obtain ⟨k, e, r⟩ := thall_at (i := i) (x := x) t (by simpa using h)
    exact ⟨k, by simpa using e, r⟩
theorem dep_at : ∀ {ts : List Tg} {i : Nat} {t : Tg}, ts[i]? = some t → t.dep ≤ depAll ts
  | [], i, t, h => by simp at h
  | u :: ts, 0, t, h => by
    simp at h
    subst h
    simp only [depAll]
    omega
  | u :: ts, i + 1, t, h => by
    have := dep_at (ts := ts) (i := i) (t := t) (by simpa using h)
    simp only [depAll]
    omega
theorem ones_of {l : List V} {α : Type} {m : List α} (h : l = m.map fun _ => V.int 1) : ∀ v ∈ l, v = V.int 1 := fun v hv => by
  rw [h] at hv
  obtain ⟨_, _, e⟩ := List.mem_map.mp hv
  exact e.symm
theorem isk_none (D : DefAt K mg "_law_is_kind" s_Lis_kind ["_law_thing"]) : Cal P w K mg base 1 "_law_is_kind" ["_law_thing"] (spIsK K 0) := by
  obtain ⟨f, fd, a, F, b⟩ := D
  have no : ∀ vs H Q E, ¬ spIsK K 0 vs H Q E := fun vs H Q E h => by
    obtain ⟨_, _, _, _, hm, _⟩ := h
    omega
  exact ⟨f, fd, a, F.kp, b, fun vs H Q E h => absurd h (no vs H Q E), fun A outer s H args us vs Q E _ _ _ _ h => absurd h (no vs H Q E)⟩
def tIK (K : PySem.W.Frag) (n : Nat) : TE := fun σ H Q => tCons (tVar 3) tNil σ H fun vs H1 => spIsK K n vs H1 Q E0
theorem isk_step {n : Nat} (hn : n + 1 ≤ 1000) (G : Glo mg) (CK : Cal P w K mg base (n + 1) "_law_is_kind" ["_law_thing"] (spIsK K n)) (D : DefAt K mg "_law_is_kind" s_Lis_kind ["_law_thing"]) : Cal P w K mg base (n + 1 + 1) "_law_is_kind" ["_law_thing"] (spIsK K (n + 1)) := by
  refine D.cal sc_Lis_kind (fun vs H Q E h => ?_) (fun f cdv A outer s H vs Q E hr h => ?_)
  · obtain ⟨v, t, rfl, _⟩ := h
    rfl
  obtain ⟨v, t, rfl, hT, hnd, _, q⟩ := h
  refine ⟨_, pss_cons (ps_if (pt_val (pe_isi G.isinstance G.str b_str rfl rfl (pv 0))) (pss_one (ps_ret (pe_and (pe_cmpR op_eq (pe_callB call_len_str (by rfl) G.len PySem.boot_len (pa_cons (pv 0) pa_nil)) pe_int (nomark _)) (pe_one (pe_cmpR op_in_sign (pv 0) pe_str (by rfl)))))) pss_nil)
    (pss_cons (ps_if (PW.pt (pw_or (pt_not (pt_val (pe_isi G.isinstance G.tuple b_tuple rfl rfl (pv 0)))) (pw_or (pt_not (pt_chain op_le op_le pe_int (pe_callB call_len_seq (by rfl) G.len PySem.boot_len (pa_cons (pv 0) pa_nil)) pe_int))
        (pw_or1 (pt_not (pt_val (pe_isi G.isinstance G.str b_str rfl rfl (pe_ix ix_tup (pv 0) pe_int (fun _ _ => rfl))))))))) (pss_one (ps_ret pe_bl)) pss_nil)
    (pss_cons (ps_set (i := 1) sc_Lis_kind.nd rfl (Or.inr rfl) pe_str)
    (pss_cons (ps_if (PW.pt (pw_or (pt_not (pt_chain op_le op_le pe_int (pe_callB call_len_str (by rfl) G.len PySem.boot_len (pa_cons (pe_ix ix_tup (pv 0) pe_int (fun _ _ => rfl)) pa_nil)) pe_int))
        (pw_or1 (pt_cmpR (op_neD hr.units) (pe_lc (own := [("_law_sign", 2)]) (g := gName 2) (tt := tTest (tOp rNiS (tVar 2) (tVar 1))) (te := tC (.int 1)) rfl sc_Lis_kind.nd (pi_str (pe_ix ix_tup (pv 0) pe_int (fun _ _ => rfl))) (blkOk_by (N := nm_Lis_kind) (sc := defScope s_Lis_kind) (own := [("_law_sign", 2)]) (by decide +kernel))
          (fun _ _ _ _ _ => pg_name (i := 2) sc_Lis_kind.nd rfl (Or.inl rfl)) (fun _ _ _ _ _ => pts_one (pt_cmpR op_notIn_sign (pv 2) (pv 1) (by rfl))) (fun _ _ _ _ _ => pe_int)) (pe_lst pa_nil) (nomark _))))) (pss_one (ps_ret pe_bl)) pss_nil)
    (pss_one (ps_ret (pe_cmpR (op_eqD hr.units) (pe_lc (own := [("_law_one", 3)]) (g := gName 3) (tt := tNot (tB (tIK K n))) (te := tC (.int 1)) rfl sc_Lis_kind.nd (pi_tup (pe_slice sl_tup (pv 0) (po_some pe_int) po_none)) (blkOk_by (N := nm_Lis_kind) (sc := defScope s_Lis_kind) (own := [("_law_one", 3)]) (by decide +kernel))
          (fun _ _ _ _ _ => pg_name (i := 3) sc_Lis_kind.nd rfl (Or.inl rfl)) (fun _ _ _ _ _ => pts_one (pt_not (pt_val (pc CK hr rfl (pa_cons (pv 3) pa_nil))))) (fun _ _ _ _ _ => pe_int)) (pe_lst pa_nil) (nomark _))))))), ?_⟩
  refine ⟨v, rfl, isi_str hT ?_⟩
  cases hT with
  | str x hx =>
    refine ⟨true, rfl, iteT ⟨_, rfl, x, rfl, sz5 hx, rfl, _, rfl, ?_⟩⟩
    rw [show decide (V.int (x.length : Int) = V.int 1) = decide (x.length = 1) from dec_one _ 1]
    have q' := q H (Same.refl _)
    refine ite2 (fun c => ?_) (fun c => ?_)
    · obtain ⟨ch, rfl⟩ := str_one (of_decide_eq_true c)
      refine ⟨_, rfl, ch, upS, rfl, rfl, ?_⟩
      rw [← isLet_one]
      exact q'
    · have e2 : isT (.str x) = false := isLet_len (of_decide_eq_false (Bool.eq_false_iff.mpr c))
      rw [e2] at q'
      exact q'
  | oth ty a b =>
    refine ⟨false, rfl, iteF ⟨v, rfl, isi_tup (.oth ty a b) ⟨_, rfl, iteT ?_⟩⟩⟩
    exact q H (Same.refl _)
  | @tup a xs ts h r =>
    refine ⟨false, rfl, iteF ⟨.ref a, rfl, isi_tup (.tup h r) ⟨_, rfl, iteF ?_⟩⟩⟩
    have hl := r.length
    have q0 := q H (Same.refl _)
    refine ⟨_, rfl, a, xs, rfl, .inr h, _, _, rfl, rfl, _, rfl, ?_⟩
    refine ite2 (fun c => ?_) (fun c => ?_)
    rotate_left
    · have c' : ¬ (1 : Int) ≤ (xs.length : Nat) := of_decide_eq_false (Bool.eq_false_iff.mpr c)
      have e : ts = [] := List.length_eq_zero_iff.mp (by omega)
      subst e
      exact ⟨false, rfl, iteT q0⟩
    have c' : (1 : Int) ≤ (xs.length : Nat) := of_decide_eq_true c
    refine ⟨_, _, rfl, rfl, _, rfl, ?_⟩
    refine ite2 (fun c2 => ?_) (fun c2 => ?_)
    · have c2' : ¬ ((xs.length : Nat) : Int) ≤ 3 := by
        have z := c2
        rw [Bool.not_eq_true'] at z
        exact of_decide_eq_false z
      rw [isT_long (by omega)] at q0
      exact q0
    have c2' : ((xs.length : Nat) : Int) ≤ 3 := by
      have z := c2
      rw [Bool.not_eq_true', Bool.not_eq_false] at z
      exact of_decide_eq_true z
    cases r with
    | nil => exact absurd c' (by decide)
    | @cons y ys n ts hy r =>
      refine ⟨_, rfl, a, _, 0, y, rfl, rfl, h, atI_nat (j := 0) rfl, isi_str hy ⟨_, rfl, ?_⟩⟩
      cases hy with
      | oth ty a b => exact iteT (by rw [isT_nonm rfl] at q0; exact q0)
      | tup h r => exact iteT (by rw [isT_nonm rfl] at q0; exact q0)
      | str x hx =>
        refine iteF ?_
        refine ⟨_, rfl, a, _, 0, .str x, rfl, rfl, h, atI_nat (j := 0) rfl, x, rfl, sz5 hx, _, _, rfl, rfl, _, rfl, ?_⟩
        refine ite2 (fun d => ?_) (fun d => ?_)
        rotate_left
        · have d' : ¬ (1 : Int) ≤ (x.length : Nat) := of_decide_eq_false (Bool.eq_false_iff.mpr d)
          have e : isNam x = false := by
            cases z : isNam x with
            | false => rfl
            | true => exact absurd (isNam_iff.mp z).1 (by omega)
          rw [isT_nonm (n := .str x) e] at q0
          exact ⟨false, rfl, iteT q0⟩
        have d' : (1 : Int) ≤ (x.length : Nat) := of_decide_eq_true d
        refine ⟨_, _, rfl, rfl, _, rfl, ?_⟩
        refine ite2 (fun d2 => ?_) (fun d2 => ?_)
        · have d2' : ¬ ((x.length : Nat) : Int) ≤ 8 := by
            have z := d2
            rw [Bool.not_eq_true'] at z
            exact of_decide_eq_false z
          have e : isNam x = false := by
            cases z : isNam x with
            | false => rfl
            | true => exact absurd (isNam_iff.mp z).2.1 (by omega)
          rw [isT_nonm (n := .str x) e] at q0
          exact q0
        have d2' : ((x.length : Nat) : Int) ≤ 8 := by
          have z := d2
          rw [Bool.not_eq_true', Bool.not_eq_false] at z
          exact of_decide_eq_true z
        have hb := isNam_bads (x := x) (by omega) (by omega)
        refine ⟨_, rfl, a, _, 0, .str x, rfl, rfl, h, atI_nat (j := 0) rfl, x, rfl, fun D hD => ?_⟩
        refine lc_it (walk_str (z := x)) (te := tC (.int 1)) (tt := tTest (tOp rNiS (tVar 2) (tVar 1))) (fun i H' => ∃ acc, Same H H' ∧ H' D = some (.lst acc) ∧ acc = bads x i) ⟨[], same_new hD _, upd_same, rfl⟩ (fun _ _ _ _ => trivial) (fun i u H' H2 hi ⟨acc, sm, hacc, ea⟩ hy => ?_) (fun H' ⟨acc, sm, hacc, ea⟩ => ?_)
        · obtain ⟨rfl, ch, hc, rfl⟩ := hy
          refine ⟨rfl, _, rfl, _, rfl, ch, loS, rfl, rfl, _, rfl, ?_⟩
          have st := bads_step hc
          refine ite2 (fun m => ?_) (fun m => ?_)
          · have m' : decide (ch ∈ loS.cps.toList) = false := by simpa using m
            rw [m'] at st
            refine ⟨acc, hacc, ?_, acc ++ [.int 1], same_mut sm hD, upd_same, by rw [ea, st]; rfl⟩
            rw [ea]
            have z1 : x.cps.size = x.length := rfl
            exact Nat.lt_of_le_of_lt (bads_len x i) (by rw [sizeLine_eq]; omega)
          · have m' : decide (ch ∈ loS.cps.toList) = true := by
              cases z : decide (ch ∈ loS.cps.toList) with
              | true => rfl
              | false => rw [z] at m; exact absurd rfl m
            rw [m'] at st
            exact ⟨acc, sm, hacc, by rw [ea, st]; simp⟩
        refine ⟨Nat.zero_le _, fun e he => ?_⟩
        have hones := ones_of (l := acc) (by rw [ea]; rfl)
        have s1 := same_new he (.lst [])
        refine ⟨.list (acc.map fun _ => .int 1), .list [], .lst (SqL.of (s1 _ _ hacc)) (dp_ones acc hones), .lst (SqL.of upd_same) .nil, shaped_ones acc, shaped_ones [], _, rfl, ?_⟩
        rw [eqv_ones acc hones, ea, ← hb]
        have sH := sm.trans s1
        refine ite2 (fun m => ?_) (fun m => ?_)
        · have m' : isNam x = false := by simpa using m
          have q1 := q _ sH
          rw [isT_nonm (n := .str x) m'] at q1
          exact q1
        have hnam : isNam x = true := by
          cases z : isNam x with
          | true => rfl
          | false => rw [z] at m; exact absurd rfl m
        revert sH
        generalize upd H' e (.lst []) = Hm
        intro sH
        have hm := (stay_same (K := K) sH).tup _ _ h
        refine ⟨_, rfl, 1, rfl, a, _, rfl, hm, cut_tail_ne _ (by simp), fun pz hpz => ?_⟩
        rw [cut_tail]
        have hpS : (upd Hm pz (.tup (List.drop 1 (V.str x :: ys)))) pz = some (.tup ys) := upd_same
        have sP := sH.trans (same_new hpz (.tup (List.drop 1 (V.str x :: ys))))
        refine ⟨pz, rfl, ⟨ys, .inl (.inl hpS)⟩, fun D2 hD2 => ?_⟩
        have bm := badT_all ts
        have lys : ys.length = ts.length := r.length
        refine lc_tup (K := K) (te := tC (.int 1)) (tt := tNot (tB (tIK K n))) (a := pz) (xs := ys) (fun i H'' => ∃ acc, Same (upd Hm pz (.tup (List.drop 1 (V.str x :: ys)))) H'' ∧ H'' D2 = some (.lst acc) ∧ acc = badT ts i) ⟨[], same_new hD2 _, upd_same, rfl⟩ (fun i H'' _ ⟨acc, sm, _⟩ => (stay_same (K := K) sm).tup _ _ (.inl (.inl hpS))) (fun i u H'' hu ⟨acc, sm, hacc, ea⟩ => ?_) (fun H'' ⟨acc, sm, hacc, ea⟩ => ?_)
        · obtain ⟨t, ht, hth⟩ := thall_at r hu
          have hi : i < ts.length := (List.getElem?_eq_some_iff.mp ht).1
          have nt := dep_at ht
          have ntot : (Tg.tup (Tg.str x :: ts)).dep = 1 + max 0 (depAll ts) := by simp only [Tg.dep, depAll]
          have st := badT_step ht
          refine ⟨rfl, u, rfl, u, t, rfl, hth.stay (stay_same (sP.trans sm)), by omega, by omega, fun H3 s3 => ⟨_, rfl, ?_⟩⟩
          refine ite2 (fun m => ?_) (fun m => ?_)
          · have m' : isT t = false := by simpa using m
            rw [m'] at st
            refine ⟨acc, s3 _ _ hacc, ?_, acc ++ [.int 1], same_mut (sm.trans s3) hD2, upd_same, by rw [ea, st]; rfl⟩
            rw [ea]
            exact Nat.lt_of_le_of_lt (badT_len ts i) (by rw [sizeLine_eq]; rw [List.length_cons] at c2'; omega)
          · have m' : isT t = true := by
              cases z : isT t with
              | true => rfl
              | false => rw [z] at m; exact absurd rfl m
            rw [m'] at st
            exact ⟨acc, sm.trans s3, s3 _ _ hacc, by rw [ea, st]; simp⟩
        rw [lys] at ea
        have hones2 := ones_of (l := acc) (by rw [ea]; rfl)
        refine ⟨Nat.zero_le _, fun e2 he2 => ?_⟩
        have s2 := same_new he2 (.lst [])
        refine ⟨.list (acc.map fun _ => .int 1), .list [], .lst (SqL.of (s2 _ _ hacc)) (dp_ones acc hones2), .lst (SqL.of upd_same) .nil, shaped_ones acc, shaped_ones [], ?_⟩
        rw [eqv_ones acc hones2, ea, bm]
        have fin := q _ ((sP.trans sm).trans s2)
        have ev : isT (.tup (.str x :: ts)) = isTAll ts := by
          show ((decide (ts.length ≤ 2) && isNam x) && isTAll ts) = _
          rw [hnam, decide_eq_true (by rw [List.length_cons] at c2'; omega), Bool.true_and, Bool.true_and]
        rw [ev] at fin
        exact fin
/-- is_kind, of things nested fewer than n deep -/
theorem ok_is_kind (G : Glo mg) (D : DefAt K mg "_law_is_kind" s_Lis_kind ["_law_thing"]) : ∀ n, n ≤ 1000 → Cal P w K mg base (n + 1) "_law_is_kind" ["_law_thing"] (spIsK K n)
  | 0, _ => isk_none D
  | n + 1, h => isk_step h G (ok_is_kind G D n (by omega)) D
end
end N

namespace N
open PySem PySem.Spec PyProof.Rows L2
/-! ### data with lists and dicts, and its repr -/
mutual
/-- scalars and tuples -/
inductive Dt (K : PySem.W.Frag) (H : Hp) : V → PyData → Prop
  | non : Dt K H .non .none
  | bl (b : Bool) : Dt K H (.bl b) (.bool b)
  | int (i : Int) : Dt K H (.int i) (.int i)
  | str (x : Str) : Dt K H (.str x) (.str x)
  | tup {a : Addr} {xs : List V} {ds : List PyData} : SqT K H a xs → DtAll K H xs ds → Dt K H (.ref a) (.tuple ds)
inductive DtAll (K : PySem.W.Frag) (H : Hp) : List V → List PyData → Prop
  | nil : DtAll K H [] []
  | cons {v : V} {vs : List V} {d : PyData} {ds : List PyData} : Dt K H v d → DtAll K H vs ds → DtAll K H (v :: vs) (d :: ds)
end
/-- the entries of a dict whose keys are texts -/
def KvT (K : PySem.W.Frag) (H : Hp) : List (Key × V) → List (Str × PyData) → Prop := Paired fun p q => p.1 = Sum.inr q.1 ∧ Dt K H p.2 q.2
mutual
/-- .. and lists and dicts of such -/
inductive Dq (K : PySem.W.Frag) (H : Hp) (p : Addr) : V → PyData → Prop
  | t {v : V} {d : PyData} : Dt K H v d → Dq K H p v d
  | tup {a : Addr} {xs : List V} {ds : List PyData} : SqT K H a xs → DqAll K H p xs ds → Dq K H p (.ref a) (.tuple ds)
  | lst {a : Addr} {xs : List V} {ds : List PyData} : H a = some (.lst xs) → (a == sysModules) = false → a ≠ p → DtAll K H xs ds → Dq K H p (.ref a) (.list ds)
  | dct {a : Addr} {kvs : List (Key × V)} {m : List (Str × PyData)} : H a = some (.dK kvs) → KvT K H kvs m → Dq K H p (.ref a) (.dict (m.map fun q => (PyData.str q.1, q.2)))
inductive DqAll (K : PySem.W.Frag) (H : Hp) (p : Addr) : List V → List PyData → Prop
  | nil : DqAll K H p [] []
  | cons {v : V} {vs : List V} {d : PyData} {ds : List PyData} : Dq K H p v d → DqAll K H p vs ds → DqAll K H p (v :: vs) (d :: ds)
end
section
variable {X : Cx} {pins : List (Addr × Obj)} {σ : L2.St} {H : Hp} {s : Shared}
mutual
theorem dt_reads (I : Inv X pins σ H s) : ∀ (d : PyData) (v : V) (u : Value), Dt X.K H v d → RelV v u → Reads s.heap u d []
  | .none, _, _, h, r => by cases h; cases r; exact .none
  | .bool b, _, _, h, r => by cases h; cases r; exact .bool b
  | .int i, _, _, h, r => by cases h; obtain ⟨t, rfl⟩ := r; exact .int i t
  | .str x, _, _, h, r => by cases h; obtain ⟨t, rfl⟩ := r; exact .str x t
  | .list _, _, _, h, _ => by cases h
  | .dict _, _, _, h, _ => by cases h
  | .tuple ds, _, _, h, r => by
    cases h with
    | tup hs ha =>
      cases r
      obtain ⟨its, rv, ⟨o, ho, hc, n, hd⟩, _⟩ := I.tuple hs
      exact .tuple ho hc hd (dts_reads I ds _ its ha rv)
theorem dts_reads (I : Inv X pins σ H s) : ∀ (ds : List PyData) (vs : List V) (us : List Value), DtAll X.K H vs ds → Vals vs us → ReadsAll s.heap us ds []
  | [], _, _, h, r => by cases h; cases r; exact .nil
  | d :: ds, _, _, h, r => by
    cases h with
    | cons a b =>
      cases r with
      | cons r1 r2 =>
        show ReadsAll s.heap _ _ ([] ++ [])
        exact .cons (dt_reads I d _ _ a r1) (dts_reads I ds _ _ b r2)
end
theorem kvt_keys {P : Program} {w : World} {h : Heap} {es : List DictEntry} {vs : List (Key × Value)} (hp : Pairs (mixKind P w) es vs) : ∀ {kvs : List (Key × V)} {m : List (Str × PyData)}, KV kvs vs → KvT X.K H kvs m → ReadsAll h (es.map (·.key)) (m.map fun q => PyData.str q.1) [] := by
  induction hp with
  | nil =>
    intro kvs m k r
    cases k
    cases r
    exact .nil
  | @cons e kv es vs h1 h2 h3 ih =>
    intro kvs m k r
    cases k with
    | cons k1 k2 =>
      cases r with
      | @cons _ q _ m' r1 r2 =>
        have ih' := ih k2 r2
        rw [← k1.1, r1.1] at h1
        rcases keyIs_shape (show keyIs (Sum.inr q.1) e.key = true from h1) with ⟨i, t, z, _⟩ | ⟨x, t, z, ek⟩
        · cases z
        · cases z
          show ReadsAll h (e.key :: es.map (·.key)) (PyData.str q.1 :: m'.map fun q => PyData.str q.1) ([] ++ [])
          rw [ek]
          exact .cons (.str q.1 t) ih'
theorem kvt_vals (I : Inv X pins σ H s) {P : Program} {w : World} {es : List DictEntry} {vs : List (Key × Value)} (hp : Pairs (mixKind P w) es vs) : ∀ {kvs : List (Key × V)} {m : List (Str × PyData)}, KV kvs vs → KvT X.K H kvs m → ReadsAll s.heap (es.map (·.val)) (m.map Prod.snd) [] := by
  induction hp with
  | nil =>
    intro kvs m k r
    cases k
    cases r
    exact .nil
  | @cons e kv es vs h1 h2 h3 ih =>
    intro kvs m k r
    cases k with
    | cons k1 k2 =>
      cases r with
      | @cons _ q _ m' r1 r2 =>
        have ih' := ih k2 r2
        show ReadsAll s.heap (e.val :: es.map (·.val)) (q.2 :: m'.map Prod.snd) ([] ++ [])
        rw [h2]
        exact .cons (dt_reads I q.2 _ _ r1.2 k1.2) ih'
mutual
theorem dq_reads (I : Inv X pins σ H s) {p : Addr} : ∀ (d : PyData) (v : V) (u : Value), Dq X.K H p v d → RelV v u → ∃ as, Reads s.heap u d as ∧ sysModules ∉ as
  | .none, v, u, h, r => by cases h with | t h => exact ⟨_, dt_reads I _ v u h r, by simp⟩
  | .bool b, v, u, h, r => by cases h with | t h => exact ⟨_, dt_reads I _ v u h r, by simp⟩
  | .int i, v, u, h, r => by cases h with | t h => exact ⟨_, dt_reads I _ v u h r, by simp⟩
  | .str x, v, u, h, r => by cases h with | t h => exact ⟨_, dt_reads I _ v u h r, by simp⟩
  | .list ds, v, u, h, r => by
    cases h with
    | t h => cases h
    | lst h1 h2 h4 h3 =>
      cases r
      obtain ⟨z, its, n, rv, ho⟩ := I.hok _ _ h1
      refine ⟨_, .list ho rfl rfl (dts_reads I ds _ its h3 rv), fun hm => ?_⟩
      rw [← List.mem_singleton.mp hm] at h2
      exact absurd h2 (by simp)
  | .dict mm, v, u, h, r => by
    cases h with
    | t h => cases h
    | @dct a kvs m h1 h2 =>
      cases r
      obtain ⟨_, hsm, vs, hkv, o, es, ep, ho, hx, hd, _, hpr, _⟩ := dk_of I.hok h1
      have q := Reads.dict (kvs := m.map fun q => (PyData.str q.1, q.2)) ho hx.1 hd (by rw [List.map_map]; exact kvt_keys (X := X) (H := H) hpr hkv h2) (by rw [List.map_map]; exact kvt_vals I hpr hkv h2)
      refine ⟨_, q, fun hm => ?_⟩
      rcases List.mem_append.mp hm with hm | hm
      · rw [← List.mem_singleton.mp hm] at hsm
        exact absurd hsm (by simp)
      · cases hm
  | .tuple ds, v, u, h, r => by
    cases h with
    | t h => exact ⟨_, dt_reads I _ v u h r, by simp⟩
    | tup hs ha =>
      cases r
      obtain ⟨its, rv, ⟨o, ho, hc, n, hd⟩, _⟩ := I.tuple hs
      obtain ⟨as, q1, q2⟩ := dqs_reads I ds _ its ha rv
      exact ⟨as, .tuple ho hc hd q1, q2⟩
theorem dqs_reads (I : Inv X pins σ H s) {p : Addr} : ∀ (ds : List PyData) (vs : List V) (us : List Value), DqAll X.K H p vs ds → Vals vs us → ∃ as, ReadsAll s.heap us ds as ∧ sysModules ∉ as
  | [], _, _, h, r => by cases h; cases r; exact ⟨_, .nil, by simp⟩
  | d :: ds, _, _, h, r => by
    cases h with
    | cons a b =>
      cases r with
      | cons r1 r2 =>
        obtain ⟨as, q1, q2⟩ := dq_reads I d _ _ a r1
        obtain ⟨bs, q3, q4⟩ := dqs_reads I ds _ _ b r2
        exact ⟨_, .cons q1 q3, fun hm => (List.mem_append.mp hm).elim q2 q4⟩
end
end
section
variable {X : Cx}
/-- repr(x), x any such value -/
def rReprQ (K : PySem.W.Frag) : List V → Hp → VK → Prop := fun xs H Q => ∃ (v : V) (d : PyData) (p : Addr), xs = [v] ∧ Dq K H p v d ∧ d.showable = true ∧ d.depth ≤ 60 ∧ d.shown.length ≤ sizeLine ∧ (∀ i, d = .int i → i.natAbs.log2 < 1920) ∧ Q (.str d.shown) H
theorem call_reprQ {j : Nat} (hr : RoomG j X.A) : CallR X (.builtin "repr") (rReprQ X.K) := by
  intro pins s σ H xs us Q I r h
  obtain ⟨v, d, p, rfl, hd, hs, hdp, hz, hi, q⟩ := h
  obtain ⟨u, rfl, ru⟩ := vals1 r
  obtain ⟨as, rd, hm⟩ := dq_reads I d v u hd ru
  have hun := hr.toRoom.units
  have main : ∀ a : Addr, v = .ref a → wpAny (model X.prog X.w) X.A (call (.builtin "repr") [u]) (EP X pins σ Q) X.xe s := fun a ea => by
    subst ea
    cases (show u = Value.ref a from ru)
    exact repr_of_reads' rd hs (fun _ => hm) hr.gs (by omega) (fun b o e => e) (fun h' u tk hk => ⟨.str d.shown, H, I.kept (t' := tk) hk, ⟨_, rfl⟩, q⟩) hz
  cases hd with
  | tup _ _ => exact main _ rfl
  | lst _ _ _ _ => exact main _ rfl
  | dct _ _ => exact main _ rfl
  | t ht =>
    cases ht with
    | tup _ _ => exact main _ rfl
    | non =>
      cases ru
      exact PySem.P.repr_of_none ⟨.str "None", H, I.tok _, ⟨_, rfl⟩, q⟩
    | bl b =>
      cases ru
      exact PySem.P.repr_of_bool ⟨.str (if b then "True" else "False"), H, I.tok _, ⟨_, rfl⟩, by cases b <;> exact q⟩
    | int i =>
      obtain ⟨t, rfl⟩ := ru
      exact PySem.P.repr_of_int (hi i rfl) ⟨.str (toString i), H, I.tok _, ⟨_, rfl⟩, q⟩
    | str x =>
      obtain ⟨t, rfl⟩ := ru
      exact PySem.P.repr_of_str ⟨.str (reprText x), H, I.tok _, ⟨_, rfl⟩, q⟩ hz
end
/-! ### it stays -/
section
variable {K : PySem.W.Frag} {H H' : Hp} {p : Addr}
mutual
theorem dt_stay (s : Stay K H H') : ∀ (d : PyData) (v : V), Dt K H v d → Dt K H' v d
  | .none, _, h => by cases h; exact .non
  | .bool b, _, h => by cases h; exact .bl b
  | .int i, _, h => by cases h; exact .int i
  | .str x, _, h => by cases h; exact .str x
  | .list _, _, h => by cases h
  | .dict _, _, h => by cases h
  | .tuple ds, _, h => by
    cases h with
    | tup hs ha => exact .tup (s.tup _ _ hs) (dts_stay s ds _ ha)
theorem dts_stay (s : Stay K H H') : ∀ (ds : List PyData) (vs : List V), DtAll K H vs ds → DtAll K H' vs ds
  | [], _, h => by cases h; exact .nil
  | d :: ds, _, h => by
    cases h with
    | cons a b => exact .cons (dt_stay s d _ a) (dts_stay s ds _ b)
end
theorem kvt_stay (s : Stay K H H') {kvs : List (Key × V)} {m : List (Str × PyData)} (h : KvT K H kvs m) : KvT K H' kvs m := Paired.mapP h fun _ q ⟨e, z⟩ => ⟨e, dt_stay s q.2 _ z⟩
mutual
theorem dq_bar (b : Bar p H H') (hp : Pen H p) (s : Stay K H H') : ∀ (d : PyData) (v : V), Dq K H p v d → Dq K H' p v d
  | .none, _, h => by cases h with | t h => exact .t (dt_stay s _ _ h)
  | .bool _, _, h => by cases h with | t h => exact .t (dt_stay s _ _ h)
  | .int _, _, h => by cases h with | t h => exact .t (dt_stay s _ _ h)
  | .str _, _, h => by cases h with | t h => exact .t (dt_stay s _ _ h)
  | .list ds, _, h => by
    cases h with
    | t h => cases h
    | lst h1 h2 h4 h3 => exact .lst (b _ _ h4 h1) h2 h4 (dts_stay s ds _ h3)
  | .dict mm, _, h => by
    cases h with
    | t h => cases h
    | dct h1 h2 => exact .dct (b _ _ (fun e => by
        obtain ⟨i, j, k, z, _⟩ := hp
        rw [e, z] at h1
        cases h1) h1) (kvt_stay s h2)
  | .tuple ds, _, h => by
    cases h with
    | t h => exact .t (dt_stay s _ _ h)
    | tup hs ha => exact .tup (s.tup _ _ hs) (dqs_bar b hp s ds _ ha)
theorem dqs_bar (b : Bar p H H') (hp : Pen H p) (s : Stay K H H') : ∀ (ds : List PyData) (vs : List V), DqAll K H p vs ds → DqAll K H' p vs ds
  | [], _, h => by cases h; exact .nil
  | d :: ds, _, h => by
    cases h with
    | cons a c => exact .cons (dq_bar b hp s d _ a) (dqs_bar b hp s ds _ c)
end
mutual
theorem dq_same (b : Same H H') : ∀ (d : PyData) (v : V), Dq K H p v d → Dq K H' p v d
  | .none, _, h => by cases h with | t h => exact .t (dt_stay (stay_same b) _ _ h)
  | .bool _, _, h => by cases h with | t h => exact .t (dt_stay (stay_same b) _ _ h)
  | .int _, _, h => by cases h with | t h => exact .t (dt_stay (stay_same b) _ _ h)
  | .str _, _, h => by cases h with | t h => exact .t (dt_stay (stay_same b) _ _ h)
  | .list ds, _, h => by
    cases h with
    | t h => cases h
    | lst h1 h2 h4 h3 => exact .lst (b _ _ h1) h2 h4 (dts_stay (stay_same b) ds _ h3)
  | .dict mm, _, h => by
    cases h with
    | t h => cases h
    | dct h1 h2 => exact .dct (b _ _ h1) (kvt_stay (stay_same b) h2)
  | .tuple ds, _, h => by
    cases h with
    | t h => exact .t (dt_stay (stay_same b) _ _ h)
    | tup hs ha => exact .tup ((stay_same b).tup _ _ hs) (dqs_same b ds _ ha)
theorem dqs_same (b : Same H H') : ∀ (ds : List PyData) (vs : List V), DqAll K H p vs ds → DqAll K H' p vs ds
  | [], _, h => by cases h; exact .nil
  | d :: ds, _, h => by
    cases h with
    | cons a c => exact .cons (dq_same b d _ a) (dqs_same b ds _ c)
end
end
end N

namespace N
open PySem PySem.Spec PyProof.Rows L2
/-! ### things by their look and their data -/
def Ob (K : PySem.W.Frag) (H : Hp) (p : Addr) (v : V) (e : Tg × PyData) : Prop := Th K H v e.1 ∧ Dq K H p v e.2
theorem Ob.same {K : PySem.W.Frag} {H H' : Hp} {p : Addr} {v : V} {e : Tg × PyData} (s : Same H H') (h : Ob K H p v e) : Ob K H' p v e := ⟨h.1.stay (stay_same s), dq_same s _ _ h.2⟩
def tOb (K : PySem.W.Frag) (p : Addr) (e : Tg × PyData) : TE := fun _ H Q => (∃ o, H p = some o) ∧ ∀ v H', Same H H' → Ob K H' p v e → Q v H'
def tObs (K : PySem.W.Frag) (p : Addr) (es : List (Tg × PyData)) : TA := fun _ H Q => (∃ o, H p = some o) ∧ ∀ vs H', Same H H' → Paired (Ob K H' p) vs es → Q vs H'
theorem th_all {K : PySem.W.Frag} {H : Hp} {p : Addr} : ∀ {vs : List V} {es : List (Tg × PyData)}, Paired (Ob K H p) vs es → ThAll K H vs (es.map Prod.fst)
  | _, _, .nil => .nil
  | _, _, .cons a b => .cons a.1 (th_all b)
theorem dq_all {K : PySem.W.Frag} {H : Hp} {p : Addr} : ∀ {vs : List V} {es : List (Tg × PyData)}, Paired (Ob K H p) vs es → DqAll K H p vs (es.map Prod.snd)
  | _, _, .nil => .nil
  | _, _, .cons a b => .cons a.2 (dq_all b)
theorem dt_strs {K : PySem.W.Frag} {H : Hp} : ∀ ls : List Str, DtAll K H (ls.map .str) (ls.map .str)
  | [] => .nil
  | c :: ls => .cons (.str c) (dt_strs ls)
section
variable {X : Cx} {p : Addr} {e : Tg × PyData} {es : List (Tg × PyData)} {x : Expr} {xs : List Expr} {pos : Pos}
theorem peImp {te te' : TE} (h : PE X x te) (q : ∀ σ H Q, te' σ H Q → te σ H Q) : PE X x te' := ⟨fun pins s σ H Q I z => h.run pins s σ H Q I (q _ _ _ z)⟩
theorem paImp' {t t' : TA} (h : PA X xs t) (q : ∀ σ H Q, t' σ H Q → t σ H Q) : PA X xs t' := ⟨fun pos pins s σ H Q I z => h.run pos pins s σ H Q I (q _ _ _ z)⟩
theorem ob_v {te : TE} {v : V} (h : PE X x te) (hq : ∀ σ H (Q : VK), Q v H → te σ H Q) (ob : ∀ H, Ob X.K H p v e) : PE X x (tOb X.K p e) := peImp h fun σ H Q z => hq σ H Q (z.2 v H (Same.refl H) (ob H))
theorem ob_str {s : Str} {j : Nat} (hs : s.length ≤ 100000 := by decide +kernel) : PE X (.Constant (.str s) j pos) (tOb X.K p (.str s, .str s)) := ob_v (v := .str s) pe_str (fun σ H Q z => z) fun H => ⟨.str s hs, .t (.str s)⟩
theorem ob_non {j : Nat} : PE X (.Constant .none j pos) (tOb X.K p (.oth, .none)) := ob_v (v := .non) pe_non (fun σ H Q z => z) fun H => ⟨.oth (.base .non) (kit_ty (by decide +kernel)) (kit_ty (by decide +kernel)), .t .non⟩
theorem ob_bl {b : Bool} {j : Nat} : PE X (.Constant (.bool b) j pos) (tOb X.K p (.oth, .bool b)) := ob_v (v := .bl b) pe_bl (fun σ H Q z => z) fun H => ⟨.oth (.base (.bl b)) (kit_ty (by decide +kernel)) (kit_ty (by decide +kernel)), .t (.bl b)⟩
theorem ob_i {te : TE} {i : Int} (h : PE X x te) (hq : ∀ σ H (Q : VK), Q (.int i) H → te σ H Q) : PE X x (tOb X.K p (.oth, .int i)) := ob_v h hq fun H => ⟨.oth (.base (.int i)) (kit_ty (by decide +kernel)) (kit_ty (by decide +kernel)), .t (.int i)⟩
theorem ob_nil : PA X [] (tObs X.K p []) := paImp' pa_nil fun σ H Q z => z.2 [] H (Same.refl H) .nil
theorem ob_cons (h : PE X x (tOb X.K p e)) (hr : PA X xs (tObs X.K p es)) (hst : starEach (x :: xs) X.env = (false, eval x X.env) :: starEach xs X.env := by rfl) : PA X (x :: xs) (tObs X.K p (e :: es)) :=
  paImp' (pa_cons h hr hst) fun σ H Q ⟨⟨o, ho⟩, z⟩ => ⟨⟨o, ho⟩, fun v H1 s1 ob => ⟨⟨o, s1 _ _ ho⟩, fun vs H2 s2 obs => z (v :: vs) H2 (s1.trans s2) (.cons (ob.same s2) obs)⟩⟩
theorem ob_tup {j : Nat} (h : PA X xs (tObs X.K p es)) (hl : es.length ≤ 1000 := by decide) : PE X (.Tuple xs j pos) (tOb X.K p (.tup (es.map Prod.fst), .tuple (es.map Prod.snd))) :=
  peImp (pe_tup h) fun σ H Q ⟨⟨o, ho⟩, z⟩ => ⟨⟨o, ho⟩, fun vs H1 s1 obs => ⟨by rw [Paired.length obs, sizeLine_eq]; omega, fun q hq => z (.ref q) _ (s1.trans (same_new hq _)) (by
    have obs' : Paired (Ob X.K (upd H1 q (.tup vs)) p) vs es := Paired.mapP obs fun _ _ y => y.same (same_new hq _)
    exact ⟨.tup (.inl (.inl upd_same)) (th_all obs'), .tup (.inl (.inl upd_same)) (dq_all obs')⟩)⟩⟩
/-- [e, ..], the list known not to be the table of modules -/
theorem pe_lstF {t : TA} (ha : PA X xs t) : PE X (.List xs pos) (fun σ H Q => t σ H fun vs H1 => vs.length ≤ sizeLine ∧ ∀ q, H1 q = none → (q == sysModules) = false → Q (.ref q) (upd H1 q (.lst vs))) := by
  refine ⟨fun pins s σ H Q I hq => ?_⟩
  refine wpAny_List_spliced (thn (ha.run pos pins s σ H _ I hq) fun us s1 ⟨vs, H1, J, r, z, q⟩ => ?_)
  have fr : H1 s1.heap.objs.size = none := J.hok.fresh (Nat.le_refl _)
  have big : (s1.heap.objs.size == sysModules) = false := beq_eq_false_iff_ne.mpr (Nat.ne_of_gt J.big)
  refine ⟨by rw [← r.length]; exact z, .ref s1.heap.objs.size, upd H1 s1.heap.objs.size (.lst vs), ?_, rfl, q _ fr big⟩
  exact J.laid (t' := s1.toks) (fun b u e => Heap.get?_push_of_some _ e) (Nat.le_refl _) ⟨z, us, 0, r, Heap.get?_push_size _ rfl⟩
theorem ob_lst (ls : List Str) (h : PA X xs (fun _ H Q => Q (ls.map .str) H)) (hl : ls.length ≤ 1000 := by decide) : PE X (.List xs pos) (tOb X.K p (.oth, .list (ls.map .str))) :=
  peImp (pe_lstF h) fun σ H Q ⟨⟨o, ho⟩, z⟩ => ⟨by rw [List.length_map, sizeLine_eq]; omega, fun q hq hs => z (.ref q) _ (same_new hq _)
    ⟨.oth (.base (.lst upd_same)) (kit_ty (by decide +kernel)) (kit_ty (by decide +kernel)), .lst upd_same hs (fun e => by rw [e, ho] at hq; cases hq) (dt_strs ls)⟩⟩
theorem ob_d0 : PE X (.Dict [] [] pos) (tOb X.K p (.oth, .dict [])) :=
  peImp pe_dnewK fun σ H Q z => fun q hq => z.2 (.ref q) _ (same_new hq _) ⟨.oth (.base (.dK upd_same)) (kit_ty (by decide +kernel)) (kit_ty (by decide +kernel)), .dct (m := []) upd_same .nil⟩
theorem ob_d1 {a b : Str} {j j1 j2 : Nat} {p1 p2 p3 : Pos} : PE X (.Dict [some (.Constant (.str a) j1 p1)] [.Tuple [.Constant (.str b) j2 p2] j p3] pos) (tOb X.K p (.oth, .dict [(.str a, .tuple [.str b])])) :=
  peImp (pe_disp (pps_cons pe_str (pe_tup (pa_cons pe_str pa_nil)) pps_nil) (by rfl) (by rfl) (fun z => by cases z) (by show 1 ≤ 15; decide)) fun σ H Q ⟨⟨o, ho⟩, z⟩ => fun q hq => by
    refine ⟨by show 1 ≤ sizeLine; decide, fun t ht => ?_⟩
    have nq : q ≠ t := fun e => by
      rw [← e, upd_same] at ht
      cases ht
    refine ⟨by rw [upd_ne nq]; exact upd_same, [(Sum.inr a, .ref t)], rfl, by show 1 ≤ 15; decide, ?_⟩
    have e1 : mergeK [] [((Sum.inr a : Key), V.ref t)] = [((Sum.inr a : Key), V.ref t)] := by rfl
    rw [e1]
    have sm := same_mut ((same_new hq (.dK [])).trans (same_new ht (.tup [.str b]))) hq (o := .dK [((Sum.inr a : Key), V.ref t)])
    refine z (.ref q) _ sm ⟨.oth (.base (.dK upd_same)) (kit_ty (by decide +kernel)) (kit_ty (by decide +kernel)), .dct (m := [(a, .tuple [.str b])]) upd_same (.cons ⟨rfl, .tup (.inl (.inl ?_)) (.cons (.str b) .nil)⟩ .nil)⟩
    rw [upd_ne (Ne.symm nq)]
    exact upd_same
end
/-! ### odd -/
def oT (ls : List Str) : Tg × PyData := (.tup (ls.map .str), .tuple (ls.map .str))
def oS (x : Str) : Tg × PyData := (.str x, .str x)
def oI (i : Int) : Tg × PyData := (.oth, .int i)
def od1 : List (Tg × PyData) := [(.oth, .none), (.oth, .bool true), (.oth, .bool false), oI 0, oI 1, oI (-1), oI (10 ^ 12), oS "", oS "X", oS "Y", oS "x", oS "one", oS "XY", oS "box(one)", oS "one()", oS " ", oS "\n"]
def od2 : List (Tg × PyData) := [oT [], oT ["one"], oT ["X"], (.oth, .list [.str "one"]), (.oth, .list []), (.oth, .dict []), (.oth, .dict [(.str "X", .tuple [.str "one"])]), oT ["one", "X"], oT ["box", "X"], (.tup [.str "box", .oth], .tuple [.str "box", .none])]
def od3 : List (Tg × PyData) := [(.tup [.str "box", .oth], .tuple [.str "box", .list [.str "one"]]), oT ["Box", "X"], oT ["", "X"], oT ["boxboxbox", "X"], (.tup [.str "box", .tup [.str "one"], .str "X"], .tuple [.str "box", .tuple [.str "one"], .str "X"]), (.tup [.tup [.str "one"]], .tuple [.tuple [.str "one"]])]
def od4 : List (Tg × PyData) := [oT ["box", "x"], oT ["box", "X", "X", "X"], (.tup [.str "box", .tup [.str "box", .tup [.str "box", .oth]]], .tuple [.str "box", .tuple [.str "box", .tuple [.str "box", .int 1]]]), (.tup [.oth, .str "X"], .tuple [.bool true, .str "X"]), oT ["b1"], oT ["b x"]]
def oddT : List (Tg × PyData) := od1 ++ od2 ++ od3 ++ od4
end N

namespace N
open PySem PySem.Spec PyProof.Rows L2
section
variable {P : Program} {w : World} {K : PySem.W.Frag} {mg : Str → Option Value} {base : Heap}
theorem obs_app {H : Hp} {p : Addr} : ∀ {vs ws : List V} {es fs : List (Tg × PyData)}, Paired (Ob K H p) vs es → Paired (Ob K H p) ws fs → Paired (Ob K H p) (vs ++ ws) (es ++ fs)
  | _, _, _, _, .nil, b => b
  | _, _, _, _, .cons r t, b => .cons r (obs_app t b)
theorem obs_same {H H' : Hp} {p : Addr} {vs : List V} {es : List (Tg × PyData)} (s : Same H H') (h : Paired (Ob K H p) vs es) : Paired (Ob K H' p) vs es := Paired.mapP h fun _ _ z => z.same s
/-- odd: a new list of these things; p any address that is tracked -/
def spOdd (K : PySem.W.Frag) : Sp := fun vs H Q _ => ∃ p : Addr, vs = [] ∧ (∃ o, H p = some o) ∧ ∀ l H' xs, Same H H' → H l = none → H' l = some (.lst xs) → Paired (Ob K H' p) xs oddT → Q (.ref l) H'
theorem ok_odd (D : DefAt K mg "_law_odd" s_Lodd []) : Cal P w K mg base 1 "_law_odd" [] (spOdd K) := by
  refine D.cal sc_Lodd (fun vs H Q E h => ?_) (fun f cdv A outer s H vs Q E hr h => ?_)
  · obtain ⟨p, rfl, _⟩ := h
    rfl
  obtain ⟨p, rfl, ⟨o, ho⟩, q⟩ := h
  have len : ∀ n, n ≤ 1000 → n ≤ sizeLine := fun n h => by rw [sizeLine_eq]; omega
  refine ⟨_, pss_cons (ps_set (i := 0) sc_Lodd.nd rfl (Or.inl rfl) (pe_lst (show PA _ _ (tObs K p od1) from (ob_cons ob_non (ob_cons ob_bl (ob_cons ob_bl (ob_cons (ob_i pe_int fun σ H Q z => z) (ob_cons (ob_i pe_int fun σ H Q z => z) (ob_cons (ob_i (i := -1) (pe_un un_neg pe_int) fun σ H Q z => ⟨_, rfl, z⟩) (ob_cons (ob_i (i := 10 ^ 12) (pe_op op_pow pe_int pe_int) fun σ H Q z => ⟨_, _, rfl, rfl, ⟨by decide, by decide, by decide⟩, z⟩) (ob_cons ob_str (ob_cons ob_str (ob_cons ob_str (ob_cons ob_str (ob_cons ob_str (ob_cons ob_str (ob_cons ob_str (ob_cons ob_str (ob_cons ob_str (ob_cons ob_str ob_nil))))))))))))))))))))
    (pss_cons (ps_set (i := 0) sc_Lodd.nd rfl (Or.inl rfl) (pe_op op_cat (pv 0) (pe_lst (show PA _ _ (tObs K p od2) from (ob_cons (ob_tup ob_nil) (ob_cons (ob_tup (ob_cons ob_str ob_nil)) (ob_cons (ob_tup (ob_cons ob_str ob_nil)) (ob_cons (ob_lst ["one"] (pa_cons pe_str pa_nil)) (ob_cons (ob_lst [] pa_nil) (ob_cons ob_d0 (ob_cons ob_d1 (ob_cons (ob_tup (ob_cons ob_str (ob_cons ob_str ob_nil))) (ob_cons (ob_tup (ob_cons ob_str (ob_cons ob_str ob_nil))) (ob_cons (ob_tup (ob_cons ob_str (ob_cons ob_non ob_nil))) ob_nil))))))))))))))
    (pss_cons (ps_set (i := 0) sc_Lodd.nd rfl (Or.inl rfl) (pe_op op_cat (pv 0) (pe_lst (show PA _ _ (tObs K p od3) from (ob_cons (ob_tup (ob_cons ob_str (ob_cons (ob_lst ["one"] (pa_cons pe_str pa_nil)) ob_nil))) (ob_cons (ob_tup (ob_cons ob_str (ob_cons ob_str ob_nil))) (ob_cons (ob_tup (ob_cons ob_str (ob_cons ob_str ob_nil))) (ob_cons (ob_tup (ob_cons ob_str (ob_cons ob_str ob_nil))) (ob_cons (ob_tup (ob_cons ob_str (ob_cons (ob_tup (ob_cons ob_str ob_nil)) (ob_cons ob_str ob_nil)))) (ob_cons (ob_tup (ob_cons (ob_tup (ob_cons ob_str ob_nil)) ob_nil)) ob_nil))))))))))
    (pss_one (ps_ret (pe_op op_cat (pv 0) (pe_lst (show PA _ _ (tObs K p od4) from (ob_cons (ob_tup (ob_cons ob_str (ob_cons ob_str ob_nil))) (ob_cons (ob_tup (ob_cons ob_str (ob_cons ob_str (ob_cons ob_str (ob_cons ob_str ob_nil))))) (ob_cons (ob_tup (ob_cons ob_str (ob_cons (ob_tup (ob_cons ob_str (ob_cons (ob_tup (ob_cons ob_str (ob_cons (ob_i pe_int fun σ H Q z => z) ob_nil))) ob_nil))) ob_nil))) (ob_cons (ob_tup (ob_cons ob_bl (ob_cons ob_str ob_nil))) (ob_cons (ob_tup (ob_cons ob_str ob_nil)) (ob_cons (ob_tup (ob_cons ob_str ob_nil)) ob_nil))))))))))))), ?_⟩
  refine ⟨⟨o, ho⟩, fun v1 H1 s1 x1 => ?_⟩
  have n1 : v1.length = 17 := Paired.length x1
  refine ⟨len _ (by omega), fun a1 h1 => ?_⟩
  have t1 := s1.trans (same_new h1 (.lst v1))
  refine ⟨_, rfl, ⟨o, t1 _ _ ho⟩, fun v2 H2 s2 x2 => ?_⟩
  have n2 : v2.length = 10 := Paired.length x2
  refine ⟨len _ (by omega), fun b2 g2 => ⟨a1, b2, _, _, rfl, rfl, same_new g2 _ _ _ (s2 _ _ upd_same), upd_same, len _ (by omega), fun a2 h2 => ?_⟩⟩
  have c2 := (same_new g2 (.lst v2)).trans (same_new h2 (.lst (v1 ++ v2)))
  have x12 := obs_app (obs_same (((same_new h1 _).trans s2).trans c2) x1) (obs_same c2 x2)
  have t2 := (t1.trans s2).trans c2
  have l2 := upd_same (H := upd H2 b2 (.lst v2)) (a := a2) (o := .lst (v1 ++ v2))
  have n12 : (v1 ++ v2).length = 27 := by rw [List.length_append]; omega
  refine ⟨_, rfl, ⟨o, t2 _ _ ho⟩, fun v3 H3 s3 x3 => ?_⟩
  have n3 : v3.length = 6 := Paired.length x3
  refine ⟨len _ (by omega), fun b3 g3 => ⟨a2, b3, _, _, rfl, rfl, same_new g3 _ _ _ (s3 _ _ l2), upd_same, len _ (by omega), fun a3 h3 => ?_⟩⟩
  have c3 := (same_new g3 (.lst v3)).trans (same_new h3 (.lst (v1 ++ v2 ++ v3)))
  have x13 := obs_app (obs_same (s3.trans c3) x12) (obs_same c3 x3)
  have t3 := (t2.trans s3).trans c3
  have l3 := upd_same (H := upd H3 b3 (.lst v3)) (a := a3) (o := .lst (v1 ++ v2 ++ v3))
  have n13 : (v1 ++ v2 ++ v3).length = 33 := by rw [List.length_append]; omega
  refine ⟨_, rfl, ⟨o, t3 _ _ ho⟩, fun v4 H4 s4 x4 => ?_⟩
  have n4 : v4.length = 6 := Paired.length x4
  refine ⟨len _ (by omega), fun b4 g4 => ⟨a3, b4, _, _, rfl, rfl, same_new g4 _ _ _ (s4 _ _ l3), upd_same, len _ (by omega), fun a4 h4 => ?_⟩⟩
  have c4 := (same_new g4 (.lst v4)).trans (same_new h4 (.lst (v1 ++ v2 ++ v3 ++ v4)))
  have x14 := obs_app (obs_same (s4.trans c4) x13) (obs_same c4 x4)
  have t4 := (t3.trans s4).trans c4
  exact q a4 _ _ t4 ((t3.trans (s4.trans (same_new g4 (.lst v4)))).free h4) upd_same x14
end
end N

namespace N
open PySem PySem.Spec PyProof.Rows L2 StX
theorem cut_to (z : Str) (j : Nat) : cs (cutS z none (some (j : Int))) = (cs z).take j := by
  unfold cutS
  rw [HT.sIx_nat, HT.sIx_none, Nat.sub_zero, List.drop_zero]
  show ((cs z).take (min j z.length)).toArray.toList = _
  rw [List.toList_toArray]
  by_cases h : j ≤ z.length
  · rw [Nat.min_eq_left h]
  · rw [Nat.min_eq_right (by omega), List.take_of_length_le (by rw [cs_len]; exact Nat.le_refl _), List.take_of_length_le (by rw [cs_len]; omega)]
theorem cut_from (z : Str) (i : Nat) : cs (cutS z (some (i : Int)) none) = (cs z).drop i := by
  unfold cutS
  rw [HT.sIx_nat, HT.sIx_none]
  show (((cs z).drop (min i z.length)).take (z.length - min i z.length)).toArray.toList = _
  rw [List.toList_toArray]
  by_cases h : i ≤ z.length
  · rw [Nat.min_eq_left h, List.take_of_length_le (by rw [List.length_drop, cs_len]; exact Nat.le_refl _)]
  · rw [Nat.min_eq_right (by omega), List.drop_eq_nil_of_le (by rw [cs_len]; exact Nat.le_refl _), List.drop_eq_nil_of_le (by rw [cs_len]; omega)]
    simp
theorem str_eq (a b : Str) : decide (V.str a = V.str b) = decide (cs a = cs b) := by
  apply decide_eq_decide.mpr
  constructor
  · intro h; rw [V.str.inj h]
  · intro h; rw [cs_inj h]
/-- small letters all, one at least -/
theorem alpha_low {x : Str} (ha : ∀ c ∈ cs x, c < 128) : (Txt.isalpha x && Txt.islower x) = (decide (0 < (cs x).length) && (cs x).all lowB) := by
  obtain ⟨⟨l⟩⟩ := x
  have e2 : Txt.isalpha ⟨⟨l⟩⟩ = (decide (l.length > 0) && l.all Unicode.isAlpha) := by
    show (decide _ && Array.all _ _) = _
    exact congrArg _ (List.all_toArray ..)
  have e3 : Txt.islower ⟨⟨l⟩⟩ = (l.any Unicode.isLower && !l.any fun c => Unicode.isUpper c || Unicode.isTitle c) := by
    show (Array.any _ _ && !Array.any _ _) = _
    exact congr (congrArg _ (List.any_toArray ..)) (congrArg _ (List.any_toArray ..))
  rw [e2, e3]
  have ha' : ∀ c ∈ l, c < 128 := ha
  show _ = (decide (0 < l.length) && l.all lowB)
  rw [Bool.eq_iff_iff]
  simp only [Bool.and_eq_true, Bool.not_eq_true', decide_eq_true_eq, List.all_eq_true, List.any_eq_true, List.any_eq_false]
  constructor
  · rintro ⟨⟨h1, hb⟩, h3, h4⟩
    refine ⟨h1, fun c hc => ?_⟩
    have a1 := ha' c hc
    have a2 := hb c hc
    have a3 := h4 c hc
    rw [asc_alpha c a1] at a2
    rw [asc_upper c a1] at a3
    simp only [Bool.or_eq_true, decide_eq_true_eq] at a2 a3
    exact decide_eq_true (by omega)
  · rintro ⟨h1, h⟩
    have hl : ∀ c ∈ l, 97 ≤ c ∧ c ≤ 122 := fun c hc => of_decide_eq_true (h c hc)
    refine ⟨⟨h1, fun c hc => ?_⟩, ?_, fun c hc => ?_⟩
    · rw [asc_alpha c (ha' c hc), decide_eq_true (hl c hc), Bool.or_true]
    · cases l with
      | nil => simp at h1
      | cons c r => exact ⟨c, List.mem_cons_self, by rw [asc_lower c (ha' c List.mem_cons_self)]; exact decide_eq_true (hl c List.mem_cons_self)⟩
    · rw [asc_upper c (ha' c hc)]
      have := hl c hc
      simp only [decide_eq_true_eq]
      omega
/-- of the prefixes just those of the run's places -/
theorem pre_low (l : List Nat) (i : Nat) (hi : i < l.length) : (decide (0 < (l.take (i + 1)).length) && (l.take (i + 1)).all lowB) = decide (i < (l.takeWhile lowB).length) := by
  induction l generalizing i with
  | nil => simp at hi
  | cons c r ih =>
    have h0 : decide (0 < ((c :: r).take (i + 1)).length) = true := by simp
    rw [h0, Bool.true_and, List.take_succ_cons, List.all_cons, List.takeWhile_cons]
    cases hc : lowB c with
    | false => simp
    | true =>
      rw [Bool.true_and, if_pos rfl, List.length_cons]
      cases i with
      | zero => simp
      | succ j =>
        have hj : j < r.length := by simpa using hi
        have h1 : decide (0 < (r.take (j + 1)).length) = true := by
          rw [List.length_take]
          exact decide_eq_true (by omega)
        have := ih j hj
        rw [h1, Bool.true_and] at this
        rw [this]
        exact decide_eq_decide.mpr (by omega)
end N

namespace N
open PySem PySem.Spec PyProof.Rows L2 StX
section
variable {P : Program} {w : World} {K : PySem.W.Frag} {mg : Str → Option Value} {base : Heap}
/-- a kind, or None -/
def Kn (K : PySem.W.Frag) (H : Hp) (v : V) : Option Kd → Prop
  | some k => Kp K H v k
  | none => v = .non
def tgO : Option Kd → Tg
  | some k => k.tg
  | none => .oth
theorem Kn.th {H : Hp} {v : V} {o : Option Kd} (h : Kn K H v o) : Th K H v (tgO o) := by
  cases o with
  | some k => exact h
  | none =>
    have h' : v = .non := h
    subst h'
    exact .oth (.base .non) (kit_ty (by decide +kernel)) (kit_ty (by decide +kernel))
theorem Kn.stay {H H' : Hp} {v : V} {o : Option Kd} (s : Stay K H H') (h : Kn K H v o) : Kn K H' v o := by
  cases o with
  | some k => exact Th.stay s h
  | none => exact h
/-- the law's read -/
def spLR (K : PySem.W.Frag) (n : Nat) : Sp := fun vs H Q _ => ∃ x : Str, vs = [.str x] ∧ x.length ≤ 100000 ∧ (∀ c ∈ cs x, c < 128) ∧ (cs x).count 40 < n ∧
  ∀ H' p v (y : Str), Same H H' → H' p = some (.tup [v, .str y]) → cs y = (lr n (cs x)).2 → Kn K H' v (lr n (cs x)).1 → Q (.ref p) H'
theorem Kd.dep_tg : ∀ k : Kd, k.tg.dep = k.depth
  | .L c => rfl
  | .C0 n => rfl
  | .C1 n a => by
    have := Kd.dep_tg a
    show 1 + max 0 (max a.tg.dep 0) = 1 + a.depth
    omega
  | .C2 n a b => by
    have := Kd.dep_tg a
    have := Kd.dep_tg b
    show 1 + max 0 (max a.tg.dep (max b.tg.dep 0)) = 1 + max a.depth b.depth
    omega
/-! ### what is made of a word and up to two things -/
theorem isT_tgO {o : Option Kd} (h : ∀ k, o = some k → k.ok) : isT (tgO o) = o.isSome := by
  cases o with
  | none => rfl
  | some k => exact Kd.isT_tg (h k rfl)
theorem fin0 {H : Hp} {t : Addr} {wd : Str} (hT : H t = some (.tup [.str wd])) (hl : wd.length ≤ 100000) :
    Th K H (.ref t) (.tup [.str wd]) ∧ (isT (.tup [.str wd]) = true → Kn K H (.ref t) (mk0 (cs wd))) ∧ (isT (.tup [.str wd]) = false → Kn K H .non (mk0 (cs wd))) := by
  have e : isT (.tup [.str wd]) = isNam wd := by
    show ((decide (0 ≤ 2) && isNam wd) && true) = _
    rw [Bool.and_true]
    rfl
  have em : mk0 (cs wd) = if isNam wd = true then some (.C0 wd) else none := by
    unfold mk0
    rw [sOf_cs]
  have th : Th K H (.ref t) (.tup [.str wd]) := .tup (.inl (.inl hT)) (.cons (.str wd hl) .nil)
  refine ⟨th, fun h => ?_, fun h => ?_⟩
  · rw [e] at h
    rw [em, if_pos h]
    exact th
  · rw [e] at h
    rw [em, if_neg (by rw [h]; exact Bool.false_ne_true)]
    rfl
theorem fin1 {H : Hp} {t : Addr} {wd : Str} {v : V} {a : Option Kd} (hT : H t = some (.tup [.str wd, v])) (hl : wd.length ≤ 100000) (hv : Kn K H v a) (ha : ∀ k, a = some k → k.ok) :
    Th K H (.ref t) (.tup [.str wd, tgO a]) ∧ (isT (.tup [.str wd, tgO a]) = true → Kn K H (.ref t) (mk1 (cs wd) a)) ∧ (isT (.tup [.str wd, tgO a]) = false → Kn K H .non (mk1 (cs wd) a)) := by
  have e : isT (.tup [.str wd, tgO a]) = (isNam wd && a.isSome) := by
    show ((decide (1 ≤ 2) && isNam wd) && (isT (tgO a) && true)) = _
    rw [isT_tgO ha, Bool.and_true]
    rfl
  have th : Th K H (.ref t) (.tup [.str wd, tgO a]) := .tup (.inl (.inl hT)) (.cons (.str wd hl) (.cons hv.th .nil))
  rw [e]
  cases a with
  | none =>
    refine ⟨th, fun h => ?_, fun h => rfl⟩
    rw [show (none : Option Kd).isSome = false from rfl, Bool.and_false] at h
    cases h
  | some k =>
    have em : mk1 (cs wd) (some k) = if isNam wd = true then some (.C1 wd k) else none := by
      unfold mk1
      rw [sOf_cs]
    rw [show (some k).isSome = true from rfl, Bool.and_true, em]
    refine ⟨th, fun h => ?_, fun h => ?_⟩
    · rw [if_pos h]
      exact th
    · rw [if_neg (by rw [h]; exact Bool.false_ne_true)]
      rfl
theorem fin2 {H : Hp} {t : Addr} {wd : Str} {v u : V} {a b : Option Kd} (hT : H t = some (.tup [.str wd, v, u])) (hl : wd.length ≤ 100000) (hv : Kn K H v a) (hu : Kn K H u b) (ha : ∀ k, a = some k → k.ok) (hb : ∀ k, b = some k → k.ok) :
    Th K H (.ref t) (.tup [.str wd, tgO a, tgO b]) ∧ (isT (.tup [.str wd, tgO a, tgO b]) = true → Kn K H (.ref t) (mk2 (cs wd) a b)) ∧ (isT (.tup [.str wd, tgO a, tgO b]) = false → Kn K H .non (mk2 (cs wd) a b)) := by
  have e : isT (.tup [.str wd, tgO a, tgO b]) = (isNam wd && (a.isSome && b.isSome)) := by
    show ((decide (2 ≤ 2) && isNam wd) && (isT (tgO a) && (isT (tgO b) && true))) = _
    rw [isT_tgO ha, isT_tgO hb, Bool.and_true]
    rfl
  have th : Th K H (.ref t) (.tup [.str wd, tgO a, tgO b]) := .tup (.inl (.inl hT)) (.cons (.str wd hl) (.cons hv.th (.cons hu.th .nil)))
  rw [e]
  cases a with
  | none =>
    have e0 : (isNam wd && ((none : Option Kd).isSome && b.isSome)) = false := by rw [show (none : Option Kd).isSome = false from rfl, Bool.false_and, Bool.and_false]
    rw [e0]
    exact ⟨th, (fun h => by cases h), fun h => rfl⟩
  | some k =>
    cases b with
    | none =>
      have e0 : (isNam wd && ((some k).isSome && (none : Option Kd).isSome)) = false := by rw [show (none : Option Kd).isSome = false from rfl, Bool.and_false, Bool.and_false]
      rw [e0]
      exact ⟨th, (fun h => by cases h), fun h => rfl⟩
    | some j =>
      have em : mk2 (cs wd) (some k) (some j) = if isNam wd = true then some (.C2 wd k j) else none := by
        unfold mk2
        rw [sOf_cs]
      rw [show ((some k).isSome && (some j).isSome) = true from rfl, Bool.and_true, em]
      refine ⟨th, fun h => ?_, fun h => ?_⟩
      · rw [if_pos h]
        exact th
      · rw [if_neg (by rw [h]; exact Bool.false_ne_true)]
        rfl
/-- x[:1] != "" and x[0] in the capitals -/
theorem capTest {x : Str} {σ : L2.St} {H : Hp} {Q : Bool → Hp → Prop} (hx : x.length ≤ 100000) (hs : σ[0]? = some (some (.str x))) (q : Q (capB ((cs x).headD 0)) H) :
    tAnd (tTest (tOp rNe (tSl rSlS (tVar 0) tNoPart (tPart (tC (V.int 1)))) (tC (V.str "")))) (tTest (tOp (fun x y H Q => ∃ c z, x = V.str ⟨#[c]⟩ ∧ y = V.str z ∧ Q (V.bl (decide (c ∈ z.cps.toList))) H) (tOp rIxS (tVar 0) (tC (V.int 0))) (tC (V.str "ABCDEFGHIJKLMNOPQRSTUVWXYZ")))) σ H Q := by
  refine ⟨_, hs, 1, rfl, x, rfl, sz5 hx, rfl, _, rfl, ?_⟩
  cases e : cs x with
  | nil =>
    rw [e] at q
    have h1 : (!decide (V.str (cutS x none (some 1)) = V.str "")) = false := by
      rw [str_eq, show cs (cutS x none (some 1)) = (cs x).take 1 from cut_to x 1, e]
      rfl
    exact iteN h1 q
  | cons c r =>
    rw [e] at q
    have h1 : (!decide (V.str (cutS x none (some 1)) = V.str "")) = true := by
      rw [str_eq, show cs (cutS x none (some 1)) = (cs x).take 1 from cut_to x 1, e]
      rfl
    refine iteE h1 ⟨_, hs, x, 0, c, rfl, rfl, sz5 hx, atI_nat (j := 0) (by show (cs x)[0]? = some c; rw [e]; rfl), c, _, rfl, rfl, _, rfl, ?_⟩
    have h2 : decide (c ∈ ("ABCDEFGHIJKLMNOPQRSTUVWXYZ" : Str).cps.toList) = capB c := up_mem c
    rw [h2]
    exact q
theorem lr_none (D : DefAt K mg "_law_read" s_Lread ["_law_words"]) : Cal P w K mg base 32 "_law_read" ["_law_words"] (spLR K 0) := by
  obtain ⟨f, fd, a, F, b⟩ := D
  have no : ∀ vs H Q E, ¬ spLR K 0 vs H Q E := fun vs H Q E h => by
    obtain ⟨_, _, _, _, hm, _⟩ := h
    omega
  exact ⟨f, fd, a, F.kp, b, fun vs H Q E h => absurd h (no vs H Q E), fun A outer s H args us vs Q E _ _ _ _ h => absurd h (no vs H Q E)⟩
theorem lr_step {n : Nat} (hn : n ≤ 25) (G : Glo mg) (CK : Cal P w K mg base 31 "_law_is_kind" ["_law_thing"] (spIsK K 30)) (CR : Cal P w K mg base (n + 32) "_law_read" ["_law_words"] (spLR K n)) (D : DefAt K mg "_law_read" s_Lread ["_law_words"]) : Cal P w K mg base (n + 1 + 32) "_law_read" ["_law_words"] (spLR K (n + 1)) := by
  refine D.cal (k := n + 32) sc_Lread (fun vs H Q E h => ?_) (fun f cdv A outer s H vs Q E hr h => ?_)
  · obtain ⟨x, rfl, _⟩ := h
    rfl
  obtain ⟨x, rfl, hx, hasc, hct, q⟩ := h
  refine ⟨_, pss_cons (ps_if (PW.pt (pw_and (pt_cmpR op_ne (pe_slice sl_str (pv 0) po_none (po_some pe_int)) pe_str (nomark _)) (pw_and1 (pt_cmpR op_in_sign (pe_ix ix_str (pv 0) pe_int (fun _ _ => rfl)) pe_str (by rfl)))))
      (pss_one (ps_ret (pe_tup (pa_cons (pe_ix ix_str (pv 0) pe_int (fun _ _ => rfl)) (pa_cons (pe_slice sl_str (pv 0) (po_some pe_int) po_none) pa_nil))))) pss_nil)
    (pss_cons (ps_set (i := 1) sc_Lread.nd rfl (Or.inl rfl) (pe_callB call_len_seq (by rfl) G.len PySem.boot_len (pa_cons (pe_lc (own := [("_law_at", 2)]) (g := gName 2) (te := tC (.int 1)) rfl sc_Lread.nd (pi_range1 rfl G.range (pa_cons (pe_callB call_len_str (by rfl) G.len PySem.boot_len (pa_cons (pv 0) pa_nil)) pa_nil)) (blkOk_by (N := nm_Lread) (sc := defScope s_Lread) (own := [("_law_at", 2)]) (by decide +kernel))
        (fun _ _ _ _ _ => pg_name (i := 2) sc_Lread.nd rfl (Or.inl rfl)) (fun _ _ _ _ _ => pts_one (PW.pt (pw_and (pt_val (pe_m0 PySem.F.slot_str_isalpha PySem.F.type_str_isalpha mt_isalpha (pe_slice sl_str (pv 0) po_none (po_some (pe_op op_add (pv 2) pe_int))))) (pw_and1 (pt_val (pe_m0 PySem.F.slot_str_islower PySem.F.type_str_islower mt_islower (pe_slice sl_str (pv 0) po_none (po_some (pe_op op_add (pv 2) pe_int))))))))) (fun _ _ _ _ _ => pe_int)) pa_nil)))
    (pss_cons (ps_par (i := 3) (j := 4) (by rfl) sc_Lread.nd rfl rfl (by decide) rfl rfl (pa_cons (pe_tup (pa_cons (pe_slice sl_str (pv 0) po_none (po_some (pv 1))) pa_nil)) (pa_cons (pe_slice sl_str (pv 0) (po_some (pv 1)) po_none) pa_nil)) (by rfl))
    (pss_cons (ps_if (pt_cmpR op_eq (pe_slice sl_str (pv 4) po_none (po_some pe_int)) pe_str (nomark _))
      (pss_cons (ps_asg (pc CR hr rfl (pa_cons (pe_slice sl_str (pv 4) (po_some pe_int) po_none) pa_nil)) (pg_tup (by rfl) (pgs_cons (pg_name (i := 5) sc_Lread.nd rfl (Or.inl rfl)) (pgs_cons (pg_name (i := 4) sc_Lread.nd rfl (Or.inl rfl)) pgs_nil))))
      (pss_cons (ps_set (i := 3) sc_Lread.nd rfl (Or.inl rfl) (pe_op op_catT (pv 3) (pe_tup (pa_cons (pv 5) pa_nil))))
      (pss_cons (ps_if (pt_cmpR op_eq (pe_slice sl_str (pv 4) po_none (po_some pe_int)) pe_str (nomark _))
        (pss_cons (ps_asg (pc CR hr rfl (pa_cons (pe_slice sl_str (pv 4) (po_some pe_int) po_none) pa_nil)) (pg_tup (by rfl) (pgs_cons (pg_name (i := 5) sc_Lread.nd rfl (Or.inl rfl)) (pgs_cons (pg_name (i := 4) sc_Lread.nd rfl (Or.inl rfl)) pgs_nil))))
        (pss_one (ps_set (i := 3) sc_Lread.nd rfl (Or.inl rfl) (pe_op op_catT (pv 3) (pe_tup (pa_cons (pv 5) pa_nil)))))) pss_nil)
      (pss_cons (ps_if (pt_cmpR op_ne (pe_slice sl_str (pv 4) po_none (po_some pe_int)) pe_str (nomark _)) (pss_one (ps_ret (pe_tup (pa_cons pe_non (pa_cons (pv 4) pa_nil))))) pss_nil)
      (pss_one (ps_set (i := 4) sc_Lread.nd rfl (Or.inl rfl) (pe_slice sl_str (pv 4) (po_some pe_int) po_none))))))) pss_nil)
    (pss_one (ps_ret (pe_tup (pa_cons (pe_ifExp (pt_val (pc CK (hr.mono (by omega)) rfl (pa_cons (pv 3) pa_nil))) (pv 3) pe_non) (pa_cons (pv 4) pa_nil)))))))), ?_⟩
  refine capTest hx rfl ?_
  refine ite2 (fun hc => ?_) (fun hc => ?_)
  · obtain ⟨c, r, el, hc'⟩ := cap_head hc
    have hg : (cs x)[0]? = some c := by rw [el]; rfl
    refine ⟨_, rfl, x, 0, c, rfl, rfl, sz5 hx, atI_nat (j := 0) hg, _, rfl, 1, rfl, x, rfl, sz5 hx, by show 2 ≤ sizeLine; decide, fun p hp => ?_⟩
    have e1 : lr (n + 1) (cs x) = (some (.L (sOf ((cs x).take 1))), (cs x).drop 1) := by
      unfold lr
      rw [if_pos hc]
    refine q _ p _ _ (same_new hp _) upd_same (by rw [e1]; exact cut_from x 1) ?_
    rw [e1, el]
    exact .str _ (by show 1 ≤ 100000; decide)
  -- the run
  refine ⟨_, rfl, x, rfl, sz5 hx, (x.length : Nat), rfl, by omega, by omega, fun D hD => ?_⟩
  obtain ⟨m, hm⟩ : ∃ m, m = ((cs x).takeWhile lowB).length := ⟨_, rfl⟩
  have hml : m ≤ x.length := by
    rw [hm, ← cs_len]
    exact (List.takeWhile_prefix _).length_le
  refine lc_range (lo := 0) (n := x.length) (te := tC (.int 1)) (fun i H' => ∃ acc, Same H H' ∧ H' D = some (.lst acc) ∧ acc = List.replicate (min i m) (V.int 1)) ⟨[], same_new hD _, upd_same, by simp⟩ (fun i H' hi ⟨acc, sm, hacc, ea⟩ => ?_) (fun H' ⟨acc, sm, hacc, ea⟩ => ?_)
  · have e1 : ((0 : Int) + (i : Nat) + 1) = ((i + 1 : Nat) : Int) := by omega
    have ey : cs (cutS x none (some ((0 : Int) + (i : Nat) + 1))) = (cs x).take (i + 1) := by rw [e1]; exact cut_to x (i + 1)
    have hb : (Txt.isalpha (cutS x none (some ((0 : Int) + (i : Nat) + 1))) && Txt.islower (cutS x none (some ((0 : Int) + (i : Nat) + 1)))) = decide (i < m) := by
      rw [alpha_low (fun c hc => hasc c (by rw [ey] at hc; exact List.mem_of_mem_take hc)), ey, hm]
      exact pre_low (cs x) i (by rw [cs_len]; exact hi)
    refine ⟨rfl, ?_⟩
    refine ⟨_, rfl, _, rfl, _, _, rfl, rfl, _, rfl, x, rfl, sz5 hx, ⟨_, rfl⟩, _, rfl, rfl, trivial, _, rfl, ?_⟩
    have yes : i < m → ∃ acc2, H' D = some (.lst acc2) ∧ acc2.length < sizeLine ∧ ∃ acc3, Same H (upd H' D (.lst (acc2 ++ [V.int 1]))) ∧ (upd H' D (.lst (acc2 ++ [V.int 1]))) D = some (.lst acc3) ∧ acc3 = List.replicate (min (i + 1) m) (V.int 1) := fun h => by
      refine ⟨acc, hacc, ?_, acc ++ [.int 1], same_mut sm hD, upd_same, ?_⟩
      · rw [ea, List.length_replicate]
        exact Nat.lt_of_le_of_lt (show _ ≤ 100000 by omega) (by decide)
      · rw [ea, show min i m = i by omega, show min (i + 1) m = i + 1 by omega, ← List.replicate_succ']
    have no : ¬ i < m → ∃ acc, Same H H' ∧ H' D = some (.lst acc) ∧ acc = List.replicate (min (i + 1) m) (V.int 1) := fun h => ⟨acc, sm, hacc, by rw [ea, show min i m = min (i + 1) m by omega]⟩
    refine ite2 (fun h1 => ?_) (fun h1 => ?_)
    · rw [h1, Bool.true_and] at hb
      refine ⟨_, rfl, _, rfl, _, _, rfl, rfl, _, rfl, x, rfl, sz5 hx, ⟨_, rfl⟩, _, rfl, rfl, trivial, _, rfl, ?_⟩
      rw [hb]
      exact ite2 (fun h2 => yes (of_decide_eq_true h2)) (fun h2 => no (of_decide_eq_false (Bool.eq_false_iff.mpr h2)))
    · rw [Bool.eq_false_iff.mpr h1, Bool.false_and] at hb
      exact iteN rfl (no (of_decide_eq_false hb.symm))
  -- the run's word, and what is left
  have ea' : acc = List.replicate m (V.int 1) := by rw [ea, show min x.length m = m by omega]
  refine ⟨D, acc, rfl, .inl (SqL.of hacc), ?_⟩
  have elen : acc.length = m := by rw [ea', List.length_replicate]
  rw [elen]
  have hwx : (cutS x none (some ((m : Nat) : Int))).length ≤ 100000 := by
    have := cutS_length x none (some ((m : Nat) : Int))
    omega
  have hrx : (cutS x (some ((m : Nat) : Int)) none).length ≤ 100000 := by
    have := cutS_length x (some ((m : Nat) : Int)) none
    omega
  have ew : cs (cutS x none (some ((m : Nat) : Int))) = (cs x).takeWhile lowB := by
    rw [cut_to, hm]
    exact (congrArg (List.take ((cs x).takeWhile lowB).length) (run_pre (cs x))).trans (List.take_left' rfl)
  have er : cs (cutS x (some ((m : Nat) : Int)) none) = (cs x).drop ((cs x).takeWhile lowB).length := by rw [cut_from, hm]
  have ewN : sOf ((cs x).takeWhile lowB) = cutS x none (some ((m : Nat) : Int)) := by rw [← ew, sOf_cs]
  refine ⟨_, rfl, _, rfl, _, rfl, x, rfl, sz5 hx, by show 1 ≤ sizeLine; decide, fun t1 ht1 => ⟨_, rfl, _, rfl, _, rfl, x, rfl, sz5 hx, _, _, rfl, ?_⟩⟩
  have sm1 : Same H (upd H' t1 (.tup [.str (cutS x none (some ((m : Nat) : Int)))])) := sm.trans (same_new ht1 _)
  have hT1 : (upd H' t1 (.tup [.str (cutS x none (some ((m : Nat) : Int)))])) t1 = some (.tup [.str (cutS x none (some ((m : Nat) : Int)))]) := upd_same
  revert sm1 hT1
  generalize upd H' t1 (.tup [.str (cutS x none (some ((m : Nat) : Int)))]) = H1
  intro sm1 hT1
  revert hwx hrx ew er ewN
  generalize hw : cutS x none (some ((m : Nat) : Int)) = wd
  generalize hr1 : cutS x (some ((m : Nat) : Int)) none = rs
  intro hwx hrx ew er ewN
  rw [hw] at hT1
  have dec1 : ∀ (y z : Str), decide (V.str (cutS y none (some 1)) = V.str z) = decide ((cs y).take 1 = cs z) := fun y z => by rw [str_eq, show cs (cutS y none (some 1)) = (cs y).take 1 from cut_to y 1]
  have dec2 : ∀ (y z : Str), decide (V.str (cutS y none (some 2)) = V.str z) = decide ((cs y).take 2 = cs z) := fun y z => by rw [str_eq, show cs (cutS y none (some 2)) = (cs y).take 2 from cut_to y 2]
  have c40 : cs ("(" : Str) = [40] := by decide +kernel
  have c41 : cs (")" : Str) = [41] := by decide +kernel
  have c44 : cs (", " : Str) = [44, 32] := by decide +kernel
  refine ⟨_, rfl, 1, rfl, rs, rfl, sz5 hrx, rfl, _, rfl, ?_⟩
  rw [dec1, c40, er]
  refine ite2 (fun h40 => ?_) (fun h40 => ?_)
  · have h40' : ((cs x).drop ((cs x).takeWhile lowB).length).take 1 = [40] := of_decide_eq_true h40
    have e40 := take_pre (a := [40]) h40'
    rw [List.length_singleton] at e40
    have hx1 : (cutS rs (some 1) none).length ≤ 100000 := by
      have := cutS_length rs (some 1) none
      omega
    have e1 : cs (cutS rs (some 1) none) = ((cs x).drop ((cs x).takeWhile lowB).length).drop 1 := by rw [show cs (cutS rs (some 1) none) = (cs rs).drop 1 from cut_from rs 1, er]
    have hrun := run_pre (cs x)
    have hsub : ∀ c ∈ ((cs x).drop ((cs x).takeWhile lowB).length).drop 1, c ∈ cs x := fun c hc => List.mem_of_mem_drop (List.mem_of_mem_drop hc)
    have hcnt : (((cs x).drop ((cs x).takeWhile lowB).length).drop 1).count 40 < n := by
      have h1 := congrArg (List.count 40) hrun
      rw [List.count_append, e40, List.count_append] at h1
      have h2 : List.count 40 ([40] : List Nat) = 1 := by decide
      rw [h2] at h1
      omega
    obtain ⟨A, hA⟩ : ∃ A, A = lr n (((cs x).drop ((cs x).takeWhile lowB).length).drop 1) := ⟨_, rfl⟩
    obtain ⟨pre1, epre1⟩ := lr_left n (((cs x).drop ((cs x).takeWhile lowB).length).drop 1)
    rw [← hA] at epre1
    have okA : ∀ k, A.1 = some k → k.ok ∧ k.depth ≤ n := fun k h => by
      rw [hA] at h
      obtain ⟨a1, _, a3⟩ := lr_sound n _ k h
      exact ⟨a1, a3⟩
    refine ⟨_, rfl, 1, rfl, rs, rfl, sz5 hrx, _, rfl, hx1, fun c hc => hasc c (hsub c (by rw [e1] at hc; exact hc)), by rw [e1]; exact hcnt, fun H2 p2 v y s2 hp2 ey hv => ?_⟩
    rw [e1, ← hA] at ey hv
    refine ⟨p2, _, rfl, .inl (.inl hp2), rfl, v, [_], rfl, _, [], rfl, rfl, ?_⟩
    have hyl : y.length ≤ 100000 := by
      have h1 := congrArg List.length epre1
      rw [List.length_append, ← ey, cs_len, List.length_drop, List.length_drop, cs_len] at h1
      omega
    refine ⟨_, rfl, _, rfl, by show 1 ≤ sizeLine; decide, fun t2 ht2 => ?_⟩
    have s3 := s2.trans (same_new ht2 (.tup [v]))
    refine ⟨t1, t2, _, _, rfl, rfl, .inl (.inl (s3 _ _ hT1)), .inl (.inl upd_same), by simp, by show 2 ≤ sizeLine; decide, (fun z => by cases z), fun _ t3 ht3 => ?_⟩
    have s4 := s3.trans (same_new ht3 (.tup ([V.str wd] ++ [v])))
    have hT3 : (upd (upd H2 t2 (.tup [v])) t3 (.tup ([V.str wd] ++ [v]))) t3 = some (.tup [.str wd, v]) := upd_same
    have hv4 : Kn K (upd (upd H2 t2 (.tup [v])) t3 (.tup ([V.str wd] ++ [v]))) v A.1 := hv.stay (stay_same ((same_new ht2 _).trans (same_new ht3 _)))
    revert s4 hT3 hv4
    generalize upd (upd H2 t2 (.tup [v])) t3 (.tup ([V.str wd] ++ [v])) = H3
    intro s4 hT3 hv4
    have sm3 := sm1.trans s4
    -- a second one
    refine ⟨_, rfl, 2, rfl, y, rfl, sz5 hyl, rfl, _, rfl, ?_⟩
    rw [dec2, c44, ey]
    refine ite2 (fun h44 => ?_) (fun h44 => ?_)
    · have e44' : A.2.take 2 = [44, 32] := of_decide_eq_true h44
      have hx2 : (cutS y (some 2) none).length ≤ 100000 := by
        have := cutS_length y (some 2) none
        omega
      have e2 : cs (cutS y (some 2) none) = A.2.drop 2 := by rw [show cs (cutS y (some 2) none) = (cs y).drop 2 from cut_from y 2, ey]
      have hsub2 : ∀ c ∈ A.2.drop 2, c ∈ cs x := fun c hc => hsub c (by rw [epre1]; exact List.mem_append_right _ (List.mem_of_mem_drop hc))
      have hcnt2 : (A.2.drop 2).count 40 < n := by
        have h1 := congrArg (List.count 40) epre1
        rw [List.count_append] at h1
        have h2 := congrArg (List.count 40) (List.take_append_drop 2 A.2)
        rw [List.count_append] at h2
        omega
      obtain ⟨B, hB⟩ : ∃ B, B = lr n (A.2.drop 2) := ⟨_, rfl⟩
      obtain ⟨pre2, epre2⟩ := lr_left n (A.2.drop 2)
      rw [← hB] at epre2
      have okB : ∀ k, B.1 = some k → k.ok ∧ k.depth ≤ n := fun k h => by
        rw [hB] at h
        obtain ⟨a1, _, a3⟩ := lr_sound n _ k h
        exact ⟨a1, a3⟩
      refine ⟨_, rfl, 2, rfl, y, rfl, sz5 hyl, _, rfl, hx2, fun c hc => hasc c (hsub2 c (by rw [e2] at hc; exact hc)), by rw [e2]; exact hcnt2, fun H4 p4 u z s5 hp4 ez hu => ?_⟩
      rw [e2, ← hB] at ez hu
      refine ⟨p4, _, rfl, .inl (.inl hp4), rfl, u, [_], rfl, _, [], rfl, rfl, ?_⟩
      have hzl : z.length ≤ 100000 := by
        have h1 := congrArg List.length epre2
        rw [List.length_append, ← ez, cs_len, List.length_drop, ← ey, cs_len] at h1
        omega
      refine ⟨_, rfl, _, rfl, by show 1 ≤ sizeLine; decide, fun t4 ht4 => ?_⟩
      have s6 := s5.trans (same_new ht4 (.tup [u]))
      refine ⟨t3, t4, _, _, rfl, rfl, .inl (.inl (s6 _ _ hT3)), .inl (.inl upd_same), by simp, by show 3 ≤ sizeLine; decide, (fun z => by cases z), fun _ t5 ht5 => ?_⟩
      have s7 := s6.trans (same_new ht5 (.tup ([V.str wd, v] ++ [u])))
      have hT5 : (upd (upd H4 t4 (.tup [u])) t5 (.tup ([V.str wd, v] ++ [u]))) t5 = some (.tup [.str wd, v, u]) := upd_same
      have hu5 : Kn K (upd (upd H4 t4 (.tup [u])) t5 (.tup ([V.str wd, v] ++ [u]))) u B.1 := hu.stay (stay_same ((same_new ht4 _).trans (same_new ht5 _)))
      have hv5 : Kn K (upd (upd H4 t4 (.tup [u])) t5 (.tup ([V.str wd, v] ++ [u]))) v A.1 := hv4.stay (stay_same s7)
      revert s7 hT5 hu5 hv5
      generalize upd (upd H4 t4 (.tup [u])) t5 (.tup ([V.str wd, v] ++ [u])) = H5
      intro s7 hT5 hu5 hv5
      have sm5 := sm3.trans s7
      refine ⟨_, rfl, 1, rfl, z, rfl, sz5 hzl, rfl, _, rfl, ?_⟩
      rw [dec1, c41, ez]
      refine ite2 (fun h41 => ?_) (fun h41 => ?_)
      · have e41 : ¬ B.2.take 1 = [41] := fun z => by
          rw [decide_eq_true z] at h41
          cases h41
        have e0 : lr (n + 1) (cs x) = (none, B.2) := by
          unfold lr
          rw [if_neg hc, if_pos h40', ← hA, if_pos e44', ← hB, if_neg e41]
        refine ⟨_, rfl, by show 2 ≤ sizeLine; decide, fun p hp => ?_⟩
        exact q _ p _ z (sm5.trans (same_new hp _)) upd_same (by rw [e0, ez]) (by rw [e0]; rfl)
      · have e41 : B.2.take 1 = [41] := by
          by_cases z : B.2.take 1 = [41]
          · exact z
          · rw [decide_eq_false z] at h41
            exact absurd rfl h41
        have e0 : lr (n + 1) (cs x) = (mk2 ((cs x).takeWhile lowB) A.1 B.1, B.2.drop 1) := by
          unfold lr
          rw [if_neg hc, if_pos h40', ← hA, if_pos e44', ← hB, if_pos e41]
        rw [← ew] at e0
        refine ⟨_, rfl, 1, rfl, z, rfl, sz5 hzl, ?_⟩
        obtain ⟨f1, f2, f3⟩ := fin2 (K := K) hT5 hwx hv5 hu5 (fun k h => (okA k h).1) (fun k h => (okB k h).1)
        have hdep : (Tg.tup [.str wd, tgO A.1, tgO B.1]).dep < 30 := by
          have hda : ∀ {o : Option Kd}, (∀ k, o = some k → k.ok ∧ k.depth ≤ n) → (tgO o).dep ≤ n := fun {o} h => by
            cases o with
            | none => exact Nat.zero_le _
            | some k =>
              have := (h k rfl).2
              have := Kd.dep_tg k
              show k.tg.dep ≤ n
              omega
          have h1 := hda okA
          have h2 := hda okB
          show 1 + max 0 (max (tgO A.1).dep (max (tgO B.1).dep 0)) < 30
          omega
        refine ⟨_, rfl, .ref t5, _, rfl, f1, hdep, by decide, fun H6 s8 => ⟨_, rfl, ite2 (fun ht => ?_) (fun ht => ?_)⟩⟩
        · refine ⟨_, rfl, _, rfl, by show 2 ≤ sizeLine; decide, fun p hp => ?_⟩
          have s9 := s8.trans (same_new hp (.tup [.ref t5, .str (cutS z (some 1) none)]))
          exact q _ p _ _ (sm5.trans s9) upd_same (by rw [e0, show cs (cutS z (some 1) none) = (cs z).drop 1 from cut_from z 1, ez]) (by rw [e0]; exact (f2 ht).stay (stay_same s9))
        · refine ⟨_, rfl, by show 2 ≤ sizeLine; decide, fun p hp => ?_⟩
          have s9 := s8.trans (same_new hp (.tup [.non, .str (cutS z (some 1) none)]))
          exact q _ p _ _ (sm5.trans s9) upd_same (by rw [e0, show cs (cutS z (some 1) none) = (cs z).drop 1 from cut_from z 1, ez]) (by rw [e0]; exact (f3 (Bool.eq_false_iff.mpr ht)).stay (stay_same s9))
    · have e44 : ¬ A.2.take 2 = [44, 32] := of_decide_eq_false (Bool.eq_false_iff.mpr h44)
      refine ⟨_, rfl, 1, rfl, y, rfl, sz5 hyl, rfl, _, rfl, ?_⟩
      rw [dec1, c41, ey]
      refine ite2 (fun h41 => ?_) (fun h41 => ?_)
      · have e41 : ¬ A.2.take 1 = [41] := fun z => by
          rw [decide_eq_true z] at h41
          cases h41
        have e0 : lr (n + 1) (cs x) = (none, A.2) := by
          unfold lr
          rw [if_neg hc, if_pos h40', ← hA, if_neg e44, if_neg e41]
        refine ⟨_, rfl, by show 2 ≤ sizeLine; decide, fun p hp => ?_⟩
        exact q _ p _ y (sm3.trans (same_new hp _)) upd_same (by rw [e0, ey]) (by rw [e0]; rfl)
      · have e41 : A.2.take 1 = [41] := by
          by_cases z : A.2.take 1 = [41]
          · exact z
          · rw [decide_eq_false z] at h41
            exact absurd rfl h41
        have e0 : lr (n + 1) (cs x) = (mk1 ((cs x).takeWhile lowB) A.1, A.2.drop 1) := by
          unfold lr
          rw [if_neg hc, if_pos h40', ← hA, if_neg e44, if_pos e41]
        rw [← ew] at e0
        refine ⟨_, rfl, 1, rfl, y, rfl, sz5 hyl, ?_⟩
        obtain ⟨f1, f2, f3⟩ := fin1 (K := K) hT3 hwx hv4 (fun k h => (okA k h).1)
        have hdep : (Tg.tup [.str wd, tgO A.1]).dep < 30 := by
          have : (tgO A.1).dep ≤ n := by
            cases hA1 : A.1 with
            | none => exact Nat.zero_le _
            | some k =>
              have := (okA k hA1).2
              have := Kd.dep_tg k
              show k.tg.dep ≤ n
              omega
          show 1 + max 0 (max (tgO A.1).dep 0) < 30
          omega
        refine ⟨_, rfl, .ref t3, _, rfl, f1, hdep, by decide, fun H4 s5 => ⟨_, rfl, ite2 (fun ht => ?_) (fun ht => ?_)⟩⟩
        · refine ⟨_, rfl, _, rfl, by show 2 ≤ sizeLine; decide, fun p hp => ?_⟩
          have s6 := s5.trans (same_new hp (.tup [.ref t3, .str (cutS y (some 1) none)]))
          exact q _ p _ _ (sm3.trans s6) upd_same (by rw [e0, show cs (cutS y (some 1) none) = (cs y).drop 1 from cut_from y 1, ey]) (by rw [e0]; exact (f2 ht).stay (stay_same s6))
        · refine ⟨_, rfl, by show 2 ≤ sizeLine; decide, fun p hp => ?_⟩
          have s6 := s5.trans (same_new hp (.tup [.non, .str (cutS y (some 1) none)]))
          exact q _ p _ _ (sm3.trans s6) upd_same (by rw [e0, show cs (cutS y (some 1) none) = (cs y).drop 1 from cut_from y 1, ey]) (by rw [e0]; exact (f3 (Bool.eq_false_iff.mpr ht)).stay (stay_same s6))
  · have e0 : lr (n + 1) (cs x) = (mk0 ((cs x).takeWhile lowB), (cs x).drop ((cs x).takeWhile lowB).length) := by
      unfold lr
      rw [if_neg hc, if_neg (fun z => h40 (decide_eq_true z))]
    rw [← er, ← ew] at e0
    obtain ⟨f1, f2, f3⟩ := fin0 (K := K) hT1 hwx
    refine ⟨_, rfl, .ref t1, .tup [.str wd], rfl, f1, by show 1 + max 0 0 < 30; decide, by decide, fun H2 s2 => ⟨_, rfl, ite2 (fun ht => ?_) (fun ht => ?_)⟩⟩
    · refine ⟨_, rfl, _, rfl, by show 2 ≤ sizeLine; decide, fun p hp => ?_⟩
      have s3 := s2.trans (same_new hp (.tup [.ref t1, .str rs]))
      exact q _ p _ rs (sm1.trans s3) upd_same (by rw [e0]) (by rw [e0]; exact (f2 ht).stay (stay_same s3))
    · refine ⟨_, rfl, by show 2 ≤ sizeLine; decide, fun p hp => ?_⟩
      have s3 := s2.trans (same_new hp (.tup [.non, .str rs]))
      exact q _ p _ rs (sm1.trans s3) upd_same (by rw [e0]) (by rw [e0]; exact (f3 (Bool.eq_false_iff.mpr ht)).stay (stay_same s3))
/-- read, of texts with fewer than n opening brackets -/
theorem ok_LR (G : Glo mg) (CK : Cal P w K mg base 31 "_law_is_kind" ["_law_thing"] (spIsK K 30)) (D : DefAt K mg "_law_read" s_Lread ["_law_words"]) : ∀ n, n ≤ 26 → Cal P w K mg base (n + 32) "_law_read" ["_law_words"] (spLR K n)
  | 0, _ => lr_none D
  | n + 1, h => lr_step (by omega) G CK (ok_LR G CK D n (by omega)) D
end
end N

namespace N
open PySem PySem.Spec PyProof.Rows L2 StX
/-! ### kinds as data -/
def Kd.pd : Kd → PyData
  | L c => .str c
  | C0 n => .tuple [.str n]
  | C1 n a => .tuple [.str n, a.pd]
  | C2 n a b => .tuple [.str n, a.pd, b.pd]
theorem pd_lay : ∀ {k : Kd}, k.ok → k.pd.canLay0 = true
  | .L c, h => by simp [Kd.pd, PyData.canLay0, let_strOk (show isLet c = true from h)]
  | .C0 n, h => by simp [Kd.pd, PyData.canLay0, PyData.canLayAll0, nam_strOk (show isNam n = true from h)]
  | .C1 n a, h => by simp [Kd.pd, PyData.canLay0, PyData.canLayAll0, nam_strOk h.1, pd_lay h.2]
  | .C2 n a b, h => by simp [Kd.pd, PyData.canLay0, PyData.canLayAll0, nam_strOk h.1, pd_lay h.2.1, pd_lay h.2.2]
theorem pd_depth : ∀ k : Kd, k.pd.depth ≤ k.depth + 1
  | .L c => by simp [Kd.pd, PyData.depth, Kd.depth]
  | .C0 n => by simp [Kd.pd, PyData.depth, PyData.depthAll, Kd.depth]
  | .C1 n a => by
    have := pd_depth a
    simp only [Kd.pd, PyData.depth, PyData.depthAll, Kd.depth]
    omega
  | .C2 n a b => by
    have := pd_depth a
    have := pd_depth b
    simp only [Kd.pd, PyData.depth, PyData.depthAll, Kd.depth]
    omega
theorem kp_dp {K : PySem.W.Frag} {H : Hp} : ∀ {k : Kd} {v : V}, Kp K H v k → Dp K H v k.pd
  | .L c, v, h => by
    obtain ⟨e, _⟩ := kp_L h rfl
    rw [e]
    exact .str c
  | .C0 n, v, h => by
    obtain ⟨a, xs, e, hq, _, r⟩ := kp_C h rfl
    rw [e]
    cases r
    exact .tup hq (.cons (.str n) .nil)
  | .C1 n b, v, h => by
    obtain ⟨a, xs, e, hq, _, r⟩ := kp_C h rfl
    rw [e]
    cases r with
    | cons h1 t =>
      cases t
      exact .tup hq (.cons (.str n) (.cons (kp_dp h1) .nil))
  | .C2 n b c, v, h => by
    obtain ⟨a, xs, e, hq, _, r⟩ := kp_C h rfl
    rw [e]
    cases r with
    | cons h1 t =>
      cases t with
      | cons h2 t =>
        cases t
        exact .tup hq (.cons (.str n) (.cons (kp_dp h1) (.cons (kp_dp h2) .nil)))

theorem pd_show : ∀ k : Kd, k.pd.showable = true
  | .L c => by simp only [Kd.pd, PyData.showable]
  | .C0 n => by simp only [Kd.pd, PyData.showable, PyData.showableAll, Bool.and_self]
  | .C1 n a => by simp only [Kd.pd, PyData.showable, PyData.showableAll, Bool.and_self, pd_show a]
  | .C2 n a b => by simp only [Kd.pd, PyData.showable, PyData.showableAll, Bool.and_self, pd_show a, pd_show b]
theorem pd_noDict {k : Kd} (h : k.ok) : k.pd.hasDict = false := PyData.hasDict_of_canLay _ (pd_lay h)
theorem pd_ints : ∀ k : Kd, k.pd.intsShort 8 = true
  | .L c => by simp only [Kd.pd, PyData.intsShort]
  | .C0 n => by simp only [Kd.pd, PyData.intsShort, PyData.intsShortAll, Bool.and_self]
  | .C1 n a => by simp only [Kd.pd, PyData.intsShort, PyData.intsShortAll, Bool.and_self, pd_ints a]
  | .C2 n a b => by simp only [Kd.pd, PyData.intsShort, PyData.intsShortAll, Bool.and_self, pd_ints a, pd_ints b]
theorem pd_short {k : Kd} (h : k.ok) : k.pd.leavesShort 8 = true := PyData.leavesShort_of_canLay0 8 _ (pd_lay h) (pd_ints k)
theorem nam_size {x : Str} (h : isNam x = true) : x.cps.size ≤ 8 := (isNam_iff.mp h).2.1
theorem let_size {x : Str} (h : isLet x = true) : x.cps.size = 1 := by
  obtain ⟨c, e, _⟩ := isLet_iff.mp h
  rw [← Array.length_toList, e]
  rfl
theorem pd_weight : ∀ {k : Kd}, k.ok → k.pd.weight ≤ 20 * k.nds
  | .L c, h => by
    have := let_size (show isLet c = true from h)
    simp only [Kd.pd, PyData.weight, Kd.nds]
    omega
  | .C0 n, h => by
    have := nam_size (show isNam n = true from h)
    simp only [Kd.pd, PyData.weight, PyData.weightAll, Kd.nds]
    omega
  | .C1 n a, h => by
    have := nam_size h.1
    have := pd_weight h.2
    simp only [Kd.pd, PyData.weight, PyData.weightAll, Kd.nds]
    omega
  | .C2 n a b, h => by
    have := nam_size h.1
    have := pd_weight h.2.1
    have := pd_weight h.2.2
    simp only [Kd.pd, PyData.weight, PyData.weightAll, Kd.nds]
    omega
theorem depth_le_nds : ∀ k : Kd, k.depth ≤ k.nds
  | .L c => by simp [Kd.depth]
  | .C0 n => by simp [Kd.depth, Kd.nds]
  | .C1 n a => by
    have := depth_le_nds a
    simp only [Kd.depth, Kd.nds]
    omega
  | .C2 n a b => by
    have := depth_le_nds a
    have := depth_le_nds b
    simp only [Kd.depth, Kd.nds]
    omega
end N

namespace N
open PySem PySem.Spec PyProof.Rows L2 StX
theorem joinC (ys : List Str) : (Txt.join ", " ys).cps.toList = TL.joinL [44, 32] (ys.map fun y => y.cps.toList) := by
  have h2 : Txt.join ", " ys = Str.join ", " ys := StrLaws.glued_eq_join _ _
  rw [h2]
  have h3 := TL.tl_join ", " ys
  rw [show TL.tl (", " : Str) = [44, 32] by decide +kernel] at h3
  exact h3
section
variable {P : Program} {w : World} {K : PySem.W.Frag} {mg : Str → Option Value} {base : Heap}
theorem args_dep {k : Kd} {n : Nat} (h : k.depth < n + 1) : ∀ a ∈ k.args, a.depth < n := by
  intro a ha
  cases k with
  | L c => cases ha
  | C0 m => cases ha
  | C1 m b =>
    have : a = b := by simpa [Kd.args] using ha
    subst this
    simp only [Kd.depth] at h
    omega
  | C2 m b c =>
    have : a = b ∨ a = c := by simpa [Kd.args] using ha
    simp only [Kd.depth] at h
    rcases this with rfl | rfl <;> omega
/-- the law's text -/
def spLText (K : PySem.W.Frag) (n : Nat) : Sp := fun vs H Q _ => ∃ (v : V) (k : Kd), vs = [v] ∧ Kp K H v k ∧ k.ok ∧ k.depth < n ∧ k.nds ≤ 1000 ∧ ∀ H' (t : Str), Same H H' → cs t = k.txt → Q (.str t) H'
theorem ltext_none (D : DefAt K mg "_law_text" s_Ltext ["_law_kind_here"]) : Cal P w K mg base 1 "_law_text" ["_law_kind_here"] (spLText K 0) := by
  obtain ⟨f, fd, a, F, b⟩ := D
  have no : ∀ vs H Q E, ¬ spLText K 0 vs H Q E := fun vs H Q E h => by
    obtain ⟨_, _, _, _, _, hm, _⟩ := h
    omega
  exact ⟨f, fd, a, F.kp, b, fun vs H Q E h => absurd h (no vs H Q E), fun A outer s H args us vs Q E _ _ _ _ h => absurd h (no vs H Q E)⟩
def tLT (K : PySem.W.Frag) (n : Nat) : TE := fun σ H Q => tCons (tVar 2) tNil σ H fun vs H1 => spLText K n vs H1 Q E0
theorem ltext_step {n : Nat} (G : Glo mg) (CT : Cal P w K mg base (n + 1) "_law_text" ["_law_kind_here"] (spLText K n)) (D : DefAt K mg "_law_text" s_Ltext ["_law_kind_here"]) : Cal P w K mg base (n + 1 + 1) "_law_text" ["_law_kind_here"] (spLText K (n + 1)) := by
  refine D.cal sc_Ltext (fun vs H Q E h => ?_) (fun f cdv A outer s H vs Q E hr h => ?_)
  · obtain ⟨v, k, rfl, _⟩ := h
    rfl
  obtain ⟨v, k, rfl, hT, hok, hd, hn, q⟩ := h
  refine ⟨_, pss_cons (ps_if (pt_val (pe_isi G.isinstance G.str b_str rfl rfl (pv 0))) (pss_one (ps_ret (pv 0))) pss_nil)
    (pss_cons (ps_set (i := 1) sc_Ltext.nd rfl (Or.inl rfl) (pe_join pe_str (pe_lc (own := [("_law_one", 2)]) (g := gName 2) (tt := tYes) (te := tLT K n) rfl sc_Ltext.nd (pi_tup (pe_slice sl_tup (pv 0) (po_some pe_int) po_none)) (blkOk_by (N := nm_Ltext) (sc := defScope s_Ltext) (own := [("_law_one", 2)]) (by decide +kernel))
      (fun _ _ _ _ _ => pg_name (i := 2) sc_Ltext.nd rfl (Or.inl rfl)) (fun _ _ _ _ _ => pts_nil) (fun _ _ _ _ _ => pc CT hr rfl (pa_cons (pv 2) pa_nil)))))
    (pss_one (ps_ret (pe_ifExp (pt_cmpR op_gt (pe_callB call_len_seq (by rfl) G.len PySem.boot_len (pa_cons (pv 0) pa_nil)) pe_int (nomark _)) (pe_op op_add_str (pe_op op_add_str (pe_op op_add_str (pe_ix ix_tup (pv 0) pe_int (fun _ _ => rfl)) pe_str) (pv 1)) pe_str) (pe_ix ix_tup (pv 0) pe_int (fun _ _ => rfl)))))), ?_⟩
  refine ⟨v, rfl, isi_str hT ⟨_, rfl, ?_⟩⟩
  rw [Kd.isS_tg]
  have htl := txt_len hok
  cases hc : k.isC with
  | false =>
    obtain ⟨ev, hl⟩ := kp_L hT hc
    subst ev
    have et : cs k.nm = k.txt := by cases k <;> first | rfl | cases hc
    exact iteT ⟨_, rfl, q H _ (Same.refl _) et⟩
  | true =>
    obtain ⟨a, zs, ea, hq, hnl, hz⟩ := kp_C hT hc
    subst ea
    have hdep := args_dep hd
    have hok2 := Kd.args_ok hok
    have hnds : ∀ b ∈ k.args, b.nds ≤ 1000 := fun b hb => by
      cases k with
      | L c => cases hb
      | C0 m => cases hb
      | C1 m b' =>
        have : b = b' := by simpa [Kd.args] using hb
        subst this
        simp only [Kd.nds] at hn
        omega
      | C2 m b' c' =>
        have : b = b' ∨ b = c' := by simpa [Kd.args] using hb
        simp only [Kd.nds] at hn
        rcases this with rfl | rfl <;> omega
    have hzl := Kps.length hz
    have hal := Kd.args_len k
    refine iteF ⟨⟨_, rfl⟩, _, rfl, 1, rfl, a, _, rfl, hq, cut_tail_ne _ (by simp), fun pz hpz => ?_⟩
    rw [cut_tail]
    have hpS : (upd H pz (.tup (List.drop 1 (V.str k.nm :: zs)))) pz = some (.tup zs) := upd_same
    have sP := same_new hpz (.tup (List.drop 1 (V.str k.nm :: zs)))
    refine ⟨pz, rfl, ⟨zs, .inl (.inl hpS)⟩, fun D2 hD2 => ?_⟩
    refine lc_tup (K := K) (te := tLT K n) (a := pz) (xs := zs) (fun i H'' => ∃ ys : List Str, Same (upd H pz (.tup (List.drop 1 (V.str k.nm :: zs)))) H'' ∧ H'' D2 = some (.lst (ys.map V.str)) ∧ ys.map cs = (k.args.take i).map Kd.txt) ⟨[], same_new hD2 _, upd_same, rfl⟩ (fun i H'' _ ⟨ys, sm, _⟩ => (stay_same (K := K) sm).tup _ _ (.inl (.inl hpS))) (fun i u H'' hu ⟨ys, sm, hacc, ey⟩ => ?_) (fun H'' ⟨ys, sm, hacc, ey⟩ => ?_)
    · obtain ⟨a1, h1, h2⟩ := Kps.at hz hu
      have hm := List.mem_of_getElem? h1
      refine ⟨rfl, u, rfl, u, a1, rfl, h2.stay (stay_same (sP.trans sm)), hok2 a1 hm, hdep a1 hm, hnds a1 hm, fun H3 t s3 ht => ⟨ys.map V.str, s3 _ _ hacc, ?_, ys ++ [t], same_mut (sm.trans s3) hD2, by rw [List.map_append]; exact upd_same, ?_⟩⟩
      · have := congrArg List.length ey
        rw [List.length_map, List.length_map, List.length_take] at this
        rw [List.length_map, sizeLine_eq]
        omega
      · rw [List.map_append, ey, take_snoc h1, List.map_append]
        show _ ++ [cs t] = _
        rw [ht]
        rfl
    · rw [hzl, List.take_length] at ey
      have hsum : (ys.map (·.length)).sum ≤ k.txt.length := by
        have e1 : ys.map (·.length) = (ys.map cs).map List.length := by
          rw [List.map_map]
          exact List.map_congr_left fun y _ => (cs_len y).symm
        rw [e1, ey, List.map_map]
        cases k with
        | L c => cases hc
        | C0 m => simp [Kd.args]
        | C1 m b => simp only [Kd.args, Kd.txt, List.map_cons, List.map_nil, List.sum_cons, List.sum_nil, List.length_append, Function.comp]; omega
        | C2 m b c => simp only [Kd.args, Kd.txt, List.map_cons, List.map_nil, List.sum_cons, List.sum_nil, List.length_append, Function.comp]; omega
      have hyl : ys.length ≤ 2 := by
        have := congrArg List.length ey
        rw [List.length_map, List.length_map] at this
        omega
      have e2 : ((", " : Str)).length = 2 := by decide +kernel
      refine ⟨_, D2, ys, rfl, rfl, .inl (SqL.of hacc), by rw [e2]; omega, ?_⟩
      have hin : cs (Txt.join ", " ys) = TL.joinL [44, 32] (k.args.map Kd.txt) := by rw [← ey]; exact joinC ys
      have st : Stay K H H'' := stay_same (sP.trans sm)
      have h0 := st.tup _ _ hq
      have hjl : (Txt.join ", " ys).length ≤ 13000 := by
        have e3 : (cs (Txt.join ", " ys)).length ≤ k.txt.length := by
          rw [hin]
          cases k with
          | L c => cases hc
          | C0 m => simp [Kd.args, TL.joinL]
          | C1 m b => simp only [Kd.args, Kd.txt, List.map_cons, List.map_nil, TL.joinL, List.length_append]; omega
          | C2 m b c => simp only [Kd.args, Kd.txt, List.map_cons, List.map_nil, TL.joinL, List.length_append]; omega
        rw [cs_len] at e3
        omega
      have e4 : (("(" : Str)).length = 1 := by decide +kernel
      have e5 : ((")" : Str)).length = 1 := by decide +kernel
      have c4 : cs ("(" : Str) = [40] := by decide +kernel
      have c5 : cs (")" : Str) = [41] := by decide +kernel
      have capp : ∀ x y : Str, cs (x ++ y) = cs x ++ cs y := fun x y => Array.toList_append
      have lapp : ∀ x y : Str, (x ++ y).length = x.length + y.length := fun x y => by rw [← cs_len, capp, List.length_append, cs_len, cs_len]
      refine ⟨_, rfl, a, _, rfl, .inr h0, _, _, rfl, rfl, _, rfl, ?_⟩
      refine ite2 (fun big => ?_) (fun big => ?_)
      · have big' : ((((V.str k.nm :: zs).length : Nat)) : Int) > 1 := of_decide_eq_true big
        rw [List.length_cons] at big'
        refine ⟨_, rfl, a, _, 0, .str k.nm, rfl, rfl, h0, atI_nat (j := 0) rfl, _, _, rfl, rfl, by rw [e4, sizeLine_eq]; omega, _, rfl, _, _, rfl, rfl, by rw [lapp, e4, sizeLine_eq]; omega, _, _, rfl, rfl, by rw [lapp, lapp, e4, e5, sizeLine_eq]; omega, ?_⟩
        refine q _ _ (sP.trans sm) ?_
        rw [capp, capp, capp, c4, c5, hin]
        cases k with
        | L c => cases hc
        | C0 m =>
          have : zs.length = 0 := hzl
          omega
        | C1 m b => simp [Kd.args, Kd.txt, TL.joinL, Kd.nm]
        | C2 m b c => simp [Kd.args, Kd.txt, TL.joinL, Kd.nm]
      · have big' : ¬ ((((V.str k.nm :: zs).length : Nat)) : Int) > 1 := of_decide_eq_false (Bool.eq_false_iff.mpr big)
        rw [List.length_cons] at big'
        refine ⟨_, rfl, a, _, 0, .str k.nm, rfl, rfl, h0, atI_nat (j := 0) rfl, ?_⟩
        refine q _ _ (sP.trans sm) ?_
        cases k with
        | L c => cases hc
        | C0 m => rfl
        | C1 m b =>
          have : zs.length = 1 := hzl
          omega
        | C2 m b c =>
          have : zs.length = 2 := hzl
          omega
/-- text, of kinds nested less than n deep -/
theorem ok_ltext (G : Glo mg) (D : DefAt K mg "_law_text" s_Ltext ["_law_kind_here"]) : ∀ n, Cal P w K mg base (n + 1) "_law_text" ["_law_kind_here"] (spLText K n)
  | 0 => ltext_none D
  | n + 1 => ltext_step G (ok_ltext G D n) D
end
end N

namespace N
open PySem PySem.Spec PyProof.Rows L2 L2H StX LamX NdefX
theorem dep_count : ∀ {k : Kd}, k.depth ≤ k.txt.count 40 + 1
  | .L c => Nat.zero_le _
  | .C0 n => by simp only [Kd.depth]; omega
  | .C1 n a => by
    have := dep_count (k := a)
    simp only [Kd.depth, Kd.txt, List.count_append]
    have h : List.count 40 ([40] : List Nat) = 1 := by decide
    rw [h]
    omega
  | .C2 n a b => by
    have h1 := dep_count (k := a)
    have h2 := dep_count (k := b)
    simp only [Kd.depth, Kd.txt, List.count_append]
    have h : List.count 40 ([40] : List Nat) = 1 := by decide
    rw [h]
    omega
/-- what is due for a thing's reading -/
def Due (t : Tg) (r : Str) : Prop := (∀ k, IsTxt t k → r = k.pd.shown) ∧ ((∀ k, ¬ IsTxt t k) → r = "! NoText")
theorem due_or {t : Tg} {r r' : Str} (h : Due t r) (h' : Due t r') : r = r' := by
  by_cases e : ∃ k, IsTxt t k
  · obtain ⟨k, hk⟩ := e
    rw [h.1 k hk, h'.1 k hk]
  · have e' : ∀ k, ¬ IsTxt t k := fun k hk => e ⟨k, hk⟩
    rw [h.2 e', h'.2 e']
theorem txt_one {t : Tg} {k k' : Kd} (h : IsTxt t k) (h' : IsTxt t k') : k = k' := by
  obtain ⟨a1, x, a2, a3⟩ := h
  obtain ⟨b1, y, b2, b3⟩ := h'
  rw [a2] at b2
  cases b2
  have e : k.txt = k'.txt := a3.symm.trans b3
  have f1 := lr_full (k.depth + k'.depth + 1) k [] a1 (by omega) (.inl rfl)
  have f2 := lr_full (k.depth + k'.depth + 1) k' [] b1 (by omega) (.inl rfl)
  rw [e, f2] at f1
  exact (Option.some.inj (congrArg Prod.fst f1)).symm
/-- such a text: of plain signs, with not too many brackets -/
def Pln (x : Str) : Prop := (∀ c ∈ cs x, c < 128) ∧ (cs x).count 40 < 24
theorem pd_fit {k : Kd} (h : k.ok) (hn : k.nds ≤ 10000) (hd : k.depth ≤ 50) : k.pd.showable = true ∧ k.pd.hasDict = false ∧ k.pd.depth ≤ 60 ∧ k.pd.shown.length ≤ sizeLine := by
  have z1 := pd_depth k
  have z2 := pd_weight h
  have hi : k.pd.intsShort 13 = true := by
    clear h hn hd z1 z2
    induction k with
    | L c => simp only [Kd.pd, PyData.intsShort]
    | C0 n => simp only [Kd.pd, PyData.intsShort, PyData.intsShortAll, Bool.and_self]
    | C1 n a ih => simp only [Kd.pd, PyData.intsShort, PyData.intsShortAll, Bool.and_self, ih]
    | C2 n a b ih1 ih2 => simp only [Kd.pd, PyData.intsShort, PyData.intsShortAll, Bool.and_self, ih1, ih2]
  exact ⟨pd_show _, pd_noDict h, by omega, PyData.shown_fits (B := 13) (by decide) (by decide) (PyData.leavesShort_of_canLay0 13 _ (pd_lay h) hi) (by omega)⟩
theorem nds_txt : ∀ {k : Kd}, k.ok → k.nds ≤ k.txt.length
  | .L c, h => by
    obtain ⟨x, e, _⟩ := isLet_iff.mp (show isLet c = true from h)
    show 1 ≤ c.cps.toList.length
    rw [e]
    exact Nat.le_refl _
  | .C0 n, h => by
    have := (isNam_iff.mp (show isNam n = true from h)).1
    show 1 ≤ (cs n).length
    rw [cs_len]
    exact this
  | .C1 n a, h => by
    have h1 := (isNam_iff.mp h.1).1
    have h2 := nds_txt h.2
    have h3 := cs_len n
    simp only [Kd.nds, Kd.txt, List.length_append, List.length_singleton]
    have h4 : n.cps.toList.length = n.length := h3
    omega
  | .C2 n a b, h => by
    have h1 := (isNam_iff.mp h.1).1
    have h2 := nds_txt h.2.1
    have h3 := nds_txt h.2.2
    have h4 : n.cps.toList.length = n.length := cs_len n
    simp only [Kd.nds, Kd.txt, List.length_append, List.length_singleton]
    omega
theorem kp_rv {K : PySem.W.Frag} {H : Hp} {v : V} {k : Kd} (h : Kp K H v k) : (∃ a, v = .ref a) ∨ ∃ x, v = .str x := by
  cases hc : k.isC with
  | true =>
    obtain ⟨a, zs, ea, _⟩ := kp_C h hc
    exact .inl ⟨a, ea⟩
  | false =>
    obtain ⟨ea, _⟩ := kp_L h hc
    exact .inr ⟨_, ea⟩
section
variable {P : Program} {w : World} {K : PySem.W.Frag} {mg : Str → Option Value} {base : Heap}
def spDue (K : PySem.W.Frag) : Sp := fun vs H Q _ => ∃ (v : V) (t : Tg), vs = [v] ∧ Th K H v t ∧ (∀ x, t = .str x → Pln x ∧ x.length ≤ 1000) ∧ ∀ H' r, Same H H' → Due t r → Q (.str r) H'
theorem ok_due (G : Glo mg) (CR : Cal P w K mg base 57 "_law_read" ["_law_words"] (spLR K 25)) (D : DefAt K mg "_law_due" s_Ldue ["_law_words"]) : Cal P w K mg base 58 "_law_due" ["_law_words"] (spDue K) := by
  refine D.cal sc_Ldue (fun vs H Q E h => ?_) (fun f cdv A outer s H vs Q E hr h => ?_)
  · obtain ⟨v, t, rfl, _⟩ := h
    rfl
  obtain ⟨v, t, rfl, hT, hp, q⟩ := h
  refine ⟨_, pss_cons (ps_if (pt_not (pt_val (pe_isi G.isinstance G.str b_str rfl rfl (pv 0)))) (pss_one (ps_ret pe_str)) pss_nil)
    (pss_cons (ps_asg (pc CR hr rfl (pa_cons (pv 0) pa_nil)) (pg_tup (by rfl) (pgs_cons (pg_name (i := 1) sc_Ldue.nd rfl (Or.inl rfl)) (pgs_cons (pg_name (i := 2) sc_Ldue.nd rfl (Or.inl rfl)) pgs_nil))))
    (pss_one (ps_ret (pe_ifExp (PW.pt (pw_and (pt_cmp (pc_notN (pv 1))) (pw_and1 (pt_cmpR op_eq (pv 2) pe_str (nomark _))))) (pe_callB (call_reprU hr) (by rfl) G.repr (by decide +kernel) (pa_cons (pv 1) pa_nil)) pe_str)))), ?_⟩
  refine ⟨v, rfl, isi_str hT ⟨_, rfl, ?_⟩⟩
  cases hT with
  | oth ty a b => exact iteT (q H _ (Same.refl _) ⟨(fun k hk => by obtain ⟨_, x, e, _⟩ := hk; cases e), fun _ => rfl⟩)
  | tup h r => exact iteT (q H _ (Same.refl _) ⟨(fun k hk => by obtain ⟨_, x, e, _⟩ := hk; cases e), fun _ => rfl⟩)
  | str x hx =>
    obtain ⟨⟨hasc, hct⟩, hxl⟩ := hp x rfl
    refine iteF ⟨_, rfl, x, rfl, hx, hasc, by omega, fun H1 p u y sm hp1 ey hu => ?_⟩
    refine ⟨p, _, rfl, .inl (.inl hp1), rfl, u, [_], rfl, _, [], rfl, rfl, ?_⟩
    have no : (∀ k, IsTxt (.str x) k → lr 25 (cs x) = (some k, [])) := fun k hk => by
      obtain ⟨hok, x', e, e2⟩ := hk
      cases e
      have := dep_count (k := k)
      rw [← e2] at this
      have f := lr_full 25 k [] hok (by omega) (.inl rfl)
      rw [List.append_nil, ← e2] at f
      exact f
    cases hl : lr 25 (cs x) with
    | mk o rest =>
      rw [hl] at ey hu
      cases o with
      | none =>
        have hu' : u = .non := hu
        subst hu'
        refine ⟨_, rfl, _, rfl, iteN (by rw [decide_eq_true rfl]; rfl) (iteN rfl ?_)⟩
        exact q H1 _ sm ⟨(fun k hk => by rw [no k hk] at hl; cases hl), fun _ => rfl⟩
      | some k =>
        obtain ⟨hok, etx, hdp⟩ := lr_sound 25 (cs x) k (by rw [hl])
        rw [hl] at etx
        have hu' : Kp K H1 u k := hu
        have hnn : (!decide (u = V.non)) = true := by
          rw [decide_eq_false]
          · rfl
          · intro z
            rcases kp_rv hu' with ⟨a, e⟩ | ⟨a, e⟩ <;> rw [e] at z <;> cases z
        refine ⟨_, rfl, _, rfl, iteE hnn ⟨_, rfl, rfl, _, rfl, ?_⟩⟩
        have e0 : cs ("" : Str) = [] := by decide +kernel
        rw [str_eq, ey, e0]
        refine ite2 (fun h0 => ?_) (fun h0 => ?_)
        · have er : rest = [] := of_decide_eq_true h0
          have etx' : cs x = k.txt ++ rest := etx
          rw [er, List.append_nil] at etx'
          have hk : IsTxt (.str x) k := ⟨hok, x, rfl, etx'⟩
          have hnds := nds_txt hok
          rw [← etx', cs_len] at hnds
          obtain ⟨f1, f2, f3, f4⟩ := pd_fit hok (by omega) (by omega)
          refine ⟨_, rfl, u, rfl, .inr ⟨k.pd, kp_rv hu', kp_dp hu', f1, f2, f3, f4, q H1 _ sm ⟨fun k' hk' => by rw [txt_one hk hk'], fun z => absurd hk (z k)⟩⟩⟩
        · have er : ¬ rest = [] := of_decide_eq_false (Bool.eq_false_iff.mpr h0)
          exact q H1 _ sm ⟨fun k' hk' => by rw [no k' hk'] at hl; cases hl; exact absurd rfl er, fun _ => rfl⟩
end
end N

namespace N
open PySem PySem.Spec PyProof.Rows L2
/-! ### a token is out behind it -/
def PEo (X : Cx) (e : Expr) (t : TE) : Prop := ∀ (pins : List (Addr × Obj)) (s : Shared) (σ : L2.St) (H : Hp) (Q : VK), Inv X pins σ H s → t σ H Q → wpAny (model X.prog X.w) X.A (eval e X.env) (fun v s1 => EP X pins σ Q v s1 ∧ 1 ≤ s1.toks) X.xe s
def PAo (X : Cx) (es : List Expr) (t : TA) : Prop := ∀ (pos : Pos) (pins : List (Addr × Obj)) (s : Shared) (σ : L2.St) (H : Hp) (Q : List V → Hp → Prop), Inv X pins σ H s → t σ H Q → wpAny (model X.prog X.w) X.A (spliced (backTo pos (starEach es X.env))) (fun vs s1 => AP X pins σ Q vs s1 ∧ 1 ≤ s1.toks) X.xe s
section
variable {X : Cx} {k : Nat} {x : Str} {ps : List Str} {sp : Sp} {p pos : Pos} {e : Expr} {es : List Expr} {te : TE} {t : TA}
theorem peo_str {c : Str} {j : Nat} : PEo X (.Constant (.str c) j pos) (tC (.str c)) := fun _ s _ H _ I h => Calls.Constant_str ⟨⟨.str c, H, I.tok _, ⟨_, rfl⟩, h⟩, Nat.le_add_left 1 s.toks⟩
theorem pao_l (ha : PEo X e te) (hr : PA X es t) (hs : starEach (e :: es) X.env = (false, eval e X.env) :: starEach es X.env := by rfl) : PAo X (e :: es) (tCons te t) := by
  intro pos pins s σ H Q I h
  rw [hs]
  show wpAny _ _ (spliced ((false, eval e X.env) :: backTo pos (starEach es X.env))) _ _ s
  refine Calls.spliced_cons (thn (ha pins s σ H _ I h) fun u s1 ⟨⟨x, H1, I1, r1, q1⟩, h1⟩ => ?_)
  exact wpAny_mono (PySem.wpAny_toks (hr.run pos pins s1 σ H1 _ I1 q1)) (fun us s2 ⟨hk, xs, H2, I2, r2, q2⟩ => ⟨⟨x :: xs, H2, I2, .cons r1 r2, q2⟩, Nat.le_trans h1 hk⟩) fun _ _ z => z.2
theorem pao_r (ha : PE X e te) (hr : PAo X es t) (hs : starEach (e :: es) X.env = (false, eval e X.env) :: starEach es X.env := by rfl) : PAo X (e :: es) (tCons te t) := by
  intro pos pins s σ H Q I h
  rw [hs]
  show wpAny _ _ (spliced ((false, eval e X.env) :: backTo pos (starEach es X.env))) _ _ s
  refine Calls.spliced_cons (thn (ha.run pins s σ H _ I h) fun u s1 ⟨x, H1, I1, r1, q1⟩ => ?_)
  exact thn (hr pos pins s1 σ H1 _ I1 q1) fun us s2 ⟨⟨xs, H2, I2, r2, q2⟩, h1⟩ => ⟨⟨x :: xs, H2, I2, .cons r1 r2, q2⟩, h1⟩
theorem peo_lst (h : PAo X es t) : PEo X (.List es pos) (tLst t) := by
  intro pins s σ H Q I hq
  refine wpAny_List_spliced (thn (h pos pins s σ H _ I hq) fun us s1 ⟨⟨xs, H1, I1, r, z, q⟩, h1⟩ => ⟨by rw [← r.length]; exact z, ?_⟩)
  have hf : H1 s1.heap.objs.size = none := I1.hok.fresh (Nat.le_refl _)
  exact ⟨⟨.ref s1.heap.objs.size, upd H1 s1.heap.objs.size (.lst xs), I1.laid (t' := s1.toks) (fun b u e => Heap.get?_push_of_some _ e) (Nat.le_refl _) ⟨z, us, 0, r, Heap.get?_push_size _ rfl⟩, rfl, q _ hf⟩, h1⟩
theorem peo_call (c : Cal X.prog X.w X.K X.mg X.base k x ps sp) (hr : RoomG k X.A) (hg : Gl X x) (ha : PAo X (e :: es) t) (hdb : (x == ("__debug__" : Str)) = false := by decide) (he : starEach (e :: es) X.env = (false, eval e X.env) :: starEach es X.env := by rfl)
    (hpl : (backTo pos (starEach es X.env)).any (·.1) = false := by rfl) : PEo X (.Call (.Name x p) (e :: es) [] pos) (fun σ H Q => t σ H fun vs H1 => sp vs H1 Q E0) := by
  obtain ⟨f, fd, hm, hk, hb, F⟩ := c
  intro pins s σ H Q I h
  refine wpAny_Call_Name_kw (ld_glob I hg hm ?_ hdb)
  refine PySem.W.callWith_K (h₀ := X.base) I.ok.mod.kin hk (thn (ha pos pins s σ H _ I h) fun us s1 ⟨⟨vs, H1, I1, r, q⟩, h1⟩ => ⟨I1.kIn, ?_⟩) he hpl
  exact wpAny_mono (PySem.wpAny_toks (runG F hr hb (fun e s' z => passL pins σ H1 s1 e s' I1 z) I1 r q)) (fun v s2 q => ⟨q.2, Nat.le_trans h1 q.1⟩) fun _ _ z => z.2
/-- f(e, ..), a token being out -/
theorem pcT (c : Cal X.prog X.w X.K X.mg X.base k x ps sp) (hr : RoomG k X.A) (hg : Gl X x) (ha : PAT X (e :: es) t) (hdb : (x == ("__debug__" : Str)) = false := by decide) (he : starEach (e :: es) X.env = (false, eval e X.env) :: starEach es X.env := by rfl)
    (hpl : (backTo pos (starEach es X.env)).any (·.1) = false := by rfl) : PET X (.Call (.Name x p) (e :: es) [] pos) (fun σ H Q => t σ H fun vs H1 => sp vs H1 Q E0) := by
  obtain ⟨f, fd, hm, hk, hb, F⟩ := c
  intro pins s σ H Q h0 I h
  refine wpAny_Call_Name_kw (ld_glob I hg hm ?_ hdb)
  refine PySem.W.callWith_K (h₀ := X.base) I.ok.mod.kin hk (thn (ha pos pins s σ H _ h0 I h) fun us s1 ⟨vs, H1, I1, r, q⟩ => ⟨I1.kIn, ?_⟩) he hpl
  exact runG F hr hb (fun e s' z => passL pins σ H1 s1 e s' I1 z) I1 r q
theorem pat_of (h : PA X es t) : PAT X es t := fun pos pins s σ H Q _ I q => h.run pos pins s σ H Q I q
/-- a, b = x, y, and then -/
theorem pss_parT {i j : Nat} {x y : Str} {a b : Expr} {ta : TA} {rest : List Stmt} {u : TS} {px py pt : Pos} {kt k2 pt2} (hc : X.calm = true) (hN : X.N.Nodup) (hi : X.N[i]? = some x) (hj : X.N[j]? = some y) (hij : i ≠ j)
    (hx : X.env.scope.names.lookup x = some .local) (hy : X.env.scope.names.lookup y = some .local) (ha : PAo X [a, b] ta)
    (hw : swappedStores [.Tuple [.Name x px, .Name y py] kt pt] (.Tuple [a, b] k2 pt2) X.env = pure (some [x, y])) (h2 : PSsT X rest u)
    (hs : swapsWithSole [.Tuple [.Name x px, .Name y py] kt pt] (.Tuple [a, b] k2 pt2) pos.line X.env = pure false := by rfl) :
    PSs X (.Assign [.Tuple [.Name x px, .Name y py] kt pt] (.Tuple [a, b] k2 pt2) pos :: rest) (tSeq (tPar i j ta) u) := by
  refine ⟨fun pins s σ H D I h => ?_⟩
  refine wpAny_execs_cons ?_
  rw [exec_Assign_arm]
  refine wpAny_bind (wpAny_standAt ?_)
  rw [hs]
  refine wpAny_bind (wpAny_pure ?_)
  rw [if_neg (by decide)]
  refine wpAny_bind (Tuple_ (thn (ha _ pins s σ H _ I h) fun us s1 ⟨⟨vs, H1, I1, r1, q1⟩, h1⟩ => ?_))
  obtain ⟨v, w, e1, q1⟩ := q1
  subst e1
  obtain ⟨u1, u2, rfl, rv, rw'⟩ : ∃ u1 u2, us = [u1, u2] ∧ RelV v u1 ∧ RelV w u2 := by
    cases r1 with
    | cons p q =>
      cases q with
      | cons p' q' =>
        cases q'
        exact ⟨_, _, rfl, p, p'⟩
  refine wpAny_newObj_type ?_ (by show 2 ≤ sizeLine; decide)
  have I2 : Inv X pins σ H1 { s1 with heap := s1.heap.push { cls := .type "tuple", data := .seq [u1, u2].toArray } } := I1.kept (t' := s1.toks) fun b o e => Heap.get?_push_of_some _ e
  rw [hw]
  refine wpAny_bind (wpAny_pure ?_)
  show wpAny (model X.prog X.w) X.A (do rule "assign.swapped-stores"; let items ← unpackItems (.ref s1.heap.objs.size) 2 none; assignInOrder [fun v => bindName X.env y v, fun v => bindName X.env x v] items.reverse; pure Flow.next) _ _ _
  refine wpAny_mono (PySem.wpAny_toks (Q := fun f s' => f = .next ∧ Inv X pins ((σ.set i (some v)).set j (some w)) H1 s') ?_) (fun f s' q => ?_) fun _ _ z => z.2
  · refine wpAny_bind (wpAny_rule (wpAny_bind (unpackItems_tuple (items := #[u1, u2]) (I.ok.hd hc) (IsTup.new s1.heap _) fun h' hx' => ?_)))
    have I3 := I2.kept (h' := h') (t' := s1.toks) fun b o e => hx' b o (Nat.ne_of_lt (Heap.lt_size e)) e
    show wpAny _ _ (assignInOrder [fun v => bindName X.env y v, fun v => bindName X.env x v] [u2, u1] >>= fun _ => pure Flow.next) _ _ _
    refine wpAny_bind (assignInOrder_cons (wpAny_bindName (store_ok I3 hN hj (.inl hy) rw' (fun s2 I4 => ?_) (.inr hy))))
    refine assignInOrder_cons (wpAny_bindName (store_ok I4 hN hi (.inl hx) rv (fun s3 I5 => assignInOrder_nil (wpAny_pure ?_)) (.inr hx)))
    rw [List.set_comm _ _ (Ne.symm hij)] at I5
    exact ⟨rfl, I5⟩
  · obtain ⟨hk, rfl, I5⟩ := q
    exact h2 pins s' _ H1 D (Nat.le_trans h1 hk) I5 q1
/-! ### text[::-1] -/
def tRevS (te : TE) : TE := fun σ H Q => te σ H fun v H1 => ∃ x, v = .str x ∧ x.length ≤ 100000 ∧ ∀ y : Str, y.cps.toList = x.cps.toList.reverse → Q (.str y) H1
theorem all_pick : ∀ l : List Nat, (List.range l.length).filterMap (fun i => l[i]?) = l
  | [] => rfl
  | a :: l => by
    rw [List.length_cons, List.range_succ_eq_map, List.filterMap_cons]
    show a :: _ = _
    rw [List.filterMap_map]
    congr 1
    exact all_pick l
theorem rev_pick (x : Str) : (Builtin.Str.strSliceIndices none none (-1) x.length).filterMap (x.cps[·]?) = x.cps.toList.reverse := by
  show (sliceRange ((x.length : Int) - 1) (-1) (-1)).filterMap (x.cps[·]?) = _
  rw [PySem.W.krv_sliceRange, PySem.W.krv_range, List.filterMap_reverse]
  congr 1
  have h := all_pick x.cps.toList
  rw [Array.length_toList] at h
  have e : (fun i => x.cps.toList[i]?) = (fun i => x.cps[i]?) := funext fun i => Array.getElem?_toList
  rw [e] at h
  exact h
theorem pe_revS {k : Nat} {p1 p2 p3 : Pos} (he : PE X e te) : PE X (.Subscript e (.Slice none none (some (.UnaryOp .USub (.Constant (.int 1) k p1) p2)) p3) pos) (tRevS te) := by
  refine ⟨fun pins s σ H Q I h => ?_⟩
  refine Subscript_ (thn (he.run pins s σ H _ I h) fun v s1 ⟨x, H1, I1, r1, q1⟩ => ?_)
  obtain ⟨z, ex, hz, q⟩ := q1
  subst ex
  obtain ⟨t, rfl⟩ := r1
  have hst : PO X (some (.UnaryOp .USub (.Constant (.int 1) k p1) p2)) (tPart (tUn (rU fun i => .int (-i)) (tC (.int 1)))) := po_some (pe_un un_neg pe_int)
  refine wpAny_Slice (thn (po_none.run pins s1 σ H1 (fun o H2 => o = none ∧ H2 = H1) I1 ⟨rfl, rfl⟩) fun vl s2 ⟨l, H2, I2, pl, el, e2⟩ => ?_)
  subst el e2
  refine thn (po_none.run pins s2 σ H2 (fun o H3 => o = none ∧ H3 = H2) I2 ⟨rfl, rfl⟩) fun vu s3 ⟨u, H3, I3, pu, eu, e3⟩ => ?_
  subst eu e3
  refine thn (hst.run pins s3 σ H3 (fun o H4 => o = some (-1) ∧ H4 = H3) I3 ⟨1, rfl, -1, rfl, rfl, rfl⟩) fun vs s4 ⟨o, H4, I4, ps, eo, e4⟩ => ?_
  subst eo e4
  have I5 : Inv X pins σ H4 { s4 with heap := s4.heap.push { cls := .type "slice", data := .fields #[vl, vu, vs] } } := I4.kept (t' := s4.toks) fun b ob q => Heap.get?_push_of_some _ q
  obtain ⟨l, rfl, el⟩ := IsPart.raw pl
  obtain ⟨u, rfl, eu⟩ := IsPart.raw pu
  obtain ⟨o, rfl, eo⟩ := IsPart.raw ps
  have el' : l = none := by
    cases l with
    | none => rfl
    | some y => cases el
  have eu' : u = none := by
    cases u with
    | none => rfl
    | some y => cases eu
  subst el' eu'
  obtain ⟨i, eo', hi⟩ : ∃ tk, o = some ((-1 : Int), tk) ∧ True := by
    cases o with
    | none => cases eo
    | some y =>
      obtain ⟨j, tk⟩ := y
      have : some j = some (-1 : Int) := eo
      cases this
      exact ⟨tk, rfl, trivial⟩
  subst eo'
  show wpAny (model X.prog X.w) X.A (subscriptTail e (.Slice none none (some (.UnaryOp .USub (.Constant (.int 1) k p1) p2)) p3) (.str z t) (.ref s4.heap.objs.size)) (EP X pins σ Q) X.xe { s4 with heap := s4.heap.push { cls := .type "slice", data := .fields #[partValue none, partValue none, partValue (some (-1, i))] } }
  refine tail_any (ops := [.str z t, .ref s4.heap.objs.size]) (typeIs_str _ _ _) (PySem.F.slot_str_getitem.lookup) ?_ (by with_unfolding_all rfl)
  refine wpAny_getItem_str_slice (l := none) (u := none) (st := some (-1, i)) ⟨_, Heap.get?_push_size _ rfl, rfl, rfl⟩ rfl ?_
  have hr := rev_pick z
  have hlen : (Str.length ⟨((Builtin.Str.strSliceIndices none none (-1) z.length).filterMap (z.cps[·]?)).toArray⟩) ≤ sizeLine := by
    show Array.size _ ≤ _
    rw [List.size_toArray, hr, List.length_reverse, Array.length_toList]
    exact sz5 hz
  show Made.post (Made.str ⟨((Builtin.Str.strSliceIndices none none (-1) z.length).filterMap (z.cps[·]?)).toArray⟩) (EP X pins σ Q) _
  exact ⟨hlen, .str _, H4, I5.tok _, ⟨_, rfl⟩, q _ (List.toList_toArray.trans hr)⟩
end
end N

namespace N
open PySem PySem.Spec PyProof.Rows L2
/-! ### a text with one change -/
/-- plain signs, not too many brackets, not too long -/
def PlL (b n : Nat) (l : List Nat) : Prop := (∀ c ∈ l, c < 128) ∧ l.count 40 ≤ b ∧ l.length ≤ n
theorem PlL.mono {b n b' n' : Nat} {l : List Nat} (h : PlL b n l) (h1 : b ≤ b') (h2 : n ≤ n') : PlL b' n' l := ⟨h.1, Nat.le_trans h.2.1 h1, Nat.le_trans h.2.2 h2⟩
theorem PlL.app {b n b' n' : Nat} {l l' : List Nat} (h : PlL b n l) (h' : PlL b' n' l') : PlL (b + b') (n + n') (l ++ l') := by
  refine ⟨fun c hc => ?_, ?_, ?_⟩
  · rcases List.mem_append.mp hc with z | z
    · exact h.1 c z
    · exact h'.1 c z
  · rw [List.count_append]
    have := h.2.1
    have := h'.2.1
    omega
  · rw [List.length_append]
    have := h.2.2
    have := h'.2.2
    omega
theorem PlL.sub {b n : Nat} {l l' : List Nat} (h : PlL b n l) (s : l'.Sublist l) : PlL b n l' := ⟨fun c hc => h.1 c (s.subset hc), Nat.le_trans (s.count_le _) h.2.1, Nat.le_trans s.length_le h.2.2⟩
theorem cut_sub (l : List Nat) {i j : Nat} (h : i ≤ j) : (l.take i ++ l.drop j).Sublist l := by
  have e : l = l.take i ++ l.drop i := (List.take_append_drop i l).symm
  have s : (l.drop j).Sublist (l.drop i) := by
    have : l.drop j = (l.drop i).drop (j - i) := by rw [List.drop_drop]; congr 1; omega
    rw [this]
    exact List.drop_sublist _ _
  have h2 := (List.Sublist.refl (l.take i)).append s
  rw [← e] at h2
  exact h2
theorem PlL.ins {b n b' n' : Nat} {l s : List Nat} (h : PlL b n l) (h' : PlL b' n' s) {i j : Nat} (hij : i ≤ j) : PlL (b + b') (n + n') (l.take i ++ s ++ l.drop j) := by
  have h1 := (h.sub (cut_sub l hij)).app h'
  refine ⟨fun c hc => h1.1 c ?_, ?_, ?_⟩
  · simp only [List.mem_append] at hc ⊢
    rcases hc with (z | z) | z
    · exact .inl (.inl z)
    · exact .inr z
    · exact .inl (.inr z)
  · have := h1.2.1
    simp only [List.count_append] at this ⊢
    omega
  · have := h1.2.2
    simp only [List.length_append] at this ⊢
    omega
theorem PlL.rev {b n : Nat} {l : List Nat} (h : PlL b n l) : PlL b n l.reverse := ⟨fun c hc => h.1 c (List.mem_reverse.mp hc), by rw [List.count_reverse]; exact h.2.1, by rw [List.length_reverse]; exact h.2.2⟩
theorem up1_40 : ∀ c, c < 128 → (up1 c < 128 ∧ (up1 c = 40 → c = 40)) := by decide +kernel
theorem PlL.up {b n : Nat} : ∀ {l : List Nat}, PlL b n l → PlL b n (l.map up1) := by
  intro l h
  have hc : ∀ {l : List Nat}, (∀ c ∈ l, c < 128) → (l.map up1).count 40 ≤ l.count 40 := by
    intro l
    induction l with
    | nil => intro _; exact Nat.le_refl _
    | cons a t ih =>
      intro h
      have ih := ih fun c hc => h c (.tail _ hc)
      have h1 := up1_40 a (h a (.head _))
      rw [List.map_cons, List.count_cons, List.count_cons]
      by_cases e : up1 a = 40
      · rw [if_pos (by rw [e]; rfl), if_pos (by rw [h1.2 e]; rfl)]
        omega
      · rw [if_neg (by simpa using e)]
        omega
  refine ⟨fun c hc => ?_, Nat.le_trans (hc h.1) h.2.1, by rw [List.length_map]; exact h.2.2⟩
  obtain ⟨a, ha, rfl⟩ := List.mem_map.mp hc
  exact (up1_40 a (h.1 a ha)).1
theorem PlL.rep {b n : Nat} {l : List Nat} (h : PlL b n l) : PlL b n (StrLaws.replL [44, 32] [44] l) := by
  have key : ∀ (m : Nat) (l : List Nat), l.length ≤ m → (∀ c ∈ l, c < 128) → PlL (l.count 40) l.length (StrLaws.replL [44, 32] [44] l) := by
    intro m
    induction m with
    | zero =>
      intro l hl h
      have : l = [] := List.length_eq_zero_iff.mp (by omega)
      subst this
      rw [StrLaws.replL_nil]
      exact ⟨(fun c hc => by cases hc), Nat.le_refl _, Nat.le_refl _⟩
    | succ m ih =>
      intro l hl h
      cases l with
      | nil =>
        rw [StrLaws.replL_nil]
        exact ⟨(fun c hc => by cases hc), Nat.le_refl _, Nat.le_refl _⟩
      | cons c r =>
        rw [List.length_cons] at hl
        by_cases e : (c :: r).take ([44, 32] : List Nat).length = [44, 32]
        · rw [StrLaws.replL_hit (by decide) e]
          have ed : (c :: r).drop ([44, 32] : List Nat).length = r.drop 1 := rfl
          rw [ed]
          have h3 := ih (r.drop 1) (by rw [List.length_drop]; omega) fun x hx => h x (.tail _ (List.mem_of_mem_drop hx))
          have h4 : PlL 0 1 [44] := by refine ⟨?_, ?_, ?_⟩ <;> decide
          have h5 := h4.app h3
          have h6 : (r.drop 1).count 40 ≤ r.count 40 := (List.drop_sublist 1 r).count_le _
          refine h5.mono ?_ ?_
          · rw [List.count_cons]
            omega
          · rw [List.length_drop, List.length_cons]
            omega
        · rw [StrLaws.replL_miss e]
          have h3 := ih r (by omega) fun x hx => h x (.tail _ hx)
          refine ⟨fun x hx => ?_, ?_, ?_⟩
          · cases hx with
            | head => exact h c (.head _)
            | tail _ z => exact h3.1 x z
          · have := h3.2.1
            rw [List.count_cons, List.count_cons]
            omega
          · have := h3.2.2
            rw [List.length_cons, List.length_cons]
            omega
  exact (key l.length l (Nat.le_refl _) h.1).mono h.2.1 h.2.2
theorem cs_app (a b : Str) : cs (a ++ b) = cs a ++ cs b := Array.toList_append ..
/-- the signs that are put in -/
def signs : List Str := ["(", ")", ",", ", ", " ", "x", "X", "1", "\n", "()"]
theorem sign_ok : ∀ s ∈ signs, PlL 1 2 (cs s) := by
  have h : ∀ s ∈ signs, ((cs s).all (fun c => decide (c < 128)) && decide ((cs s).count 40 ≤ 1) && decide ((cs s).length ≤ 2)) = true := by decide +kernel
  intro s hs
  have h := h s hs
  simp only [Bool.and_eq_true, decide_eq_true_eq, List.all_eq_true] at h
  exact ⟨h.1.1, h.1.2, h.2⟩
section
variable {P : Program} {w : World} {K : PySem.W.Frag} {mg : Str → Option Value} {base : Heap}
def spChanged (K : PySem.W.Frag) : Sp := fun vs H Q _ => ∃ (p : Addr) (x : Str), vs = [.ref p, .str x] ∧ Pen H p ∧ PlL 22 900 (cs x) ∧ ∀ H' y, Bar p H H' → Pen H' p → PlL 23 902 (cs y) → Q (.str y) H'
theorem ok_changed (G : Glo mg) (CD : Cal P w K mg base 1 "_law_draw" ["_law_pen_here", "_law_many"] (spDraw K)) (CI : Cal P w K mg base 2 "_law_pick" ["_law_pen_here", "_law_some"] (spPick K))
    (D : DefAt K mg "_law_changed" s_Lchanged ["_law_pen_here", "_law_words"]) : Cal P w K mg base 3 "_law_changed" ["_law_pen_here", "_law_words"] (spChanged K) := by
  refine D.cal sc_Lchanged (fun vs H Q E h => ?_) (fun f cdv A outer s H vs Q E hr h => ?_)
  · obtain ⟨p, x, rfl, _⟩ := h
    rfl
  obtain ⟨p, x, rfl, hp, hx, q⟩ := h
  have hr1 : RoomG 1 _ := hr.mono (by decide)
  refine ⟨_, pss_parT (i := 2) (j := 3) (by rfl) sc_Lchanged.nd rfl rfl (by decide) rfl rfl
      (pao_r (pc CD hr1 rfl (pa_cons (pv 0) (pa_cons (pe_op op_add (pe_callB call_len_str (by rfl) G.len PySem.boot_len (pa_cons (pv 1) pa_nil)) pe_int) pa_nil)))
        (pao_l (peo_call CI hr rfl (pao_r (pv 0) (pao_l (peo_lst (pao_l peo_str (pa_cons pe_str (pa_cons pe_str (pa_cons pe_str (pa_cons pe_str (pa_cons pe_str (pa_cons pe_str (pa_cons pe_str (pa_cons pe_str (pa_cons pe_str pa_nil))))))))))) pa_nil))) pa_nil)) (by rfl)
    (psst_cons (PST.of (ps_set (i := 4) sc_Lchanged.nd rfl (Or.inl rfl) (pe_lst (pa_cons (pe_op op_add_str (pe_slice sl_str (pv 1) po_none (po_some (pv 2))) (pe_slice sl_str (pv 1) (po_some (pe_op op_add (pv 2) pe_int)) po_none))
      (pa_cons (pe_op op_add_str (pe_op op_add_str (pe_slice sl_str (pv 1) po_none (po_some (pv 2))) (pv 3)) (pe_slice sl_str (pv 1) (po_some (pv 2)) po_none))
      (pa_cons (pe_op op_add_str (pe_op op_add_str (pe_slice sl_str (pv 1) po_none (po_some (pv 2))) (pv 3)) (pe_slice sl_str (pv 1) (po_some (pe_op op_add (pv 2) pe_int)) po_none)) pa_nil))))))
    (CwR.psst_one (CwR.pst_ret (pcT CI hr rfl (pat_cons (CwR.PET.of (pv 0)) (pat_cons (CwR.pet_op op_cat (CwR.PET.of (pv 4)) (pet_lst
      (pat_cons (CwR.PET.of (pe_op op_add_str (pv 1) (pv 3))) (pat_cons (CwR.PET.of (pe_op op_add_str (pv 3) (pv 1))) (pat_cons (CwR.pet_replC (pv 1)) (pat_cons (CwR.PET.of (pe_upper (pv 1))) (pat_cons (CwR.PET.of (pe_revS (pv 1))) pat_nil))))))) pat_nil)))))), ?_⟩
  have xl : x.length ≤ 900 := by rw [← cs_len]; exact hx.2.2
  have ln : ∀ (z : Str) (b n : Nat), PlL b n (cs z) → z.length ≤ n := fun z b n h => by rw [← cs_len]; exact h.2.2
  refine ⟨_, rfl, _, rfl, x, rfl, sz5 (by omega), _, _, rfl, rfl, p, _, rfl, hp, by omega, by omega, fun H1 r b1 p1 r0 r1 => ?_⟩
  obtain ⟨n, rfl⟩ := Int.eq_ofNat_of_zero_le r0
  refine ⟨_, rfl, by decide, fun a ha => ⟨p, a, signs.map V.str, rfl, Pen.same (same_new ha _) p1, (fun z => by rw [z] at ha; obtain ⟨_, _, _, e, _⟩ := p1; rw [ha] at e; cases e), SqL.of upd_same, by decide, by decide, fun H2 y b2 p2 hy => ?_⟩⟩
  obtain ⟨g, hg, rfl⟩ := List.mem_map.mp hy
  have hgo := sign_ok g hg
  have gl := ln _ _ _ hgo
  refine ⟨_, _, rfl, ?_⟩
  have B2 : Bar p H H2 := b1.trans ((bar_same (same_new ha _)).trans b2)
  have c1 : cs (cutS x none (some (n : Int))) = (cs x).take n := cut_to x n
  have c2 : cs (cutS x (some ((n : Int) + 1)) none) = (cs x).drop (n + 1) := cut_from x (n + 1)
  have c3 : cs (cutS x (some (n : Int)) none) = (cs x).drop n := cut_from x n
  have d1 := ln _ _ _ (show PlL 22 900 _ by rw [c1]; exact hx.sub (List.take_sublist _ _))
  have d2 := ln _ _ _ (show PlL 22 900 _ by rw [c2]; exact hx.sub (List.drop_sublist _ _))
  have d3 := ln _ _ _ (show PlL 22 900 _ by rw [c3]; exact hx.sub (List.drop_sublist _ _))
  have d4 : (cutS x none (some (n : Int)) ++ g).length ≤ 902 := by rw [Str.length_append]; omega
  have t1 : PlL 23 902 (cs (cutS x none (some (n : Int)) ++ cutS x (some ((n : Int) + 1)) none)) := by
    rw [cs_app, c1, c2]
    exact (hx.sub (cut_sub _ (Nat.le_succ n))).mono (by decide) (by decide)
  have t2 : PlL 23 902 (cs (cutS x none (some (n : Int)) ++ g ++ cutS x (some (n : Int)) none)) := by
    rw [cs_app, cs_app, c1, c3]
    exact hx.ins hgo (Nat.le_refl n)
  have t3 : PlL 23 902 (cs (cutS x none (some (n : Int)) ++ g ++ cutS x (some ((n : Int) + 1)) none)) := by
    rw [cs_app, cs_app, c1, c2]
    exact hx.ins hgo (Nat.le_succ n)
  have t4 : PlL 23 902 (cs (x ++ g)) := by
    rw [cs_app]
    exact hx.app hgo
  have t5 : PlL 23 902 (cs (g ++ x)) := by
    rw [cs_app]
    exact hgo.app hx
  have t6 : PlL 23 902 (cs (Txt.replace x ", " ",")) := by
    have e : cs (Txt.replace x ", " ",") = _ := StrLaws.replace_list (x := x) (y := ", ") (z := ",") (by decide)
    rw [e]
    exact (hx.rep).mono (by decide) (by decide)
  have t7 : PlL 23 902 (cs (Txt.upper x)) := by
    rw [upper_ascii hx.1]
    show PlL 23 902 (x.cps.map up1).toList
    rw [Array.toList_map]
    exact (hx.up).mono (by decide) (by decide)
  have L1 : ∀ a b : Nat, a ≤ 902 → b ≤ 902 → a + b ≤ sizeLine := fun a b h h' => sz5 (by omega)
  refine ⟨_, rfl, _, rfl, _, rfl, x, rfl, sz5 (by omega), _, rfl, _, rfl, _, _, rfl, rfl, _, rfl, x, rfl, sz5 (by omega), _, _, rfl, rfl, L1 _ _ (by omega) (by omega), ?_⟩
  refine ⟨_, rfl, _, rfl, _, rfl, x, rfl, sz5 (by omega), _, rfl, _, _, rfl, rfl, L1 _ _ (by omega) (by omega), ?_⟩
  refine ⟨_, rfl, _, rfl, _, rfl, x, rfl, sz5 (by omega), _, _, rfl, rfl, L1 _ _ (by omega) (by omega), ?_⟩
  refine ⟨_, rfl, _, rfl, _, rfl, x, rfl, sz5 (by omega), _, rfl, _, _, rfl, rfl, L1 _ _ (by omega) (by omega), ?_⟩
  refine ⟨_, rfl, _, rfl, _, _, rfl, rfl, _, rfl, x, rfl, sz5 (by omega), _, _, rfl, rfl, L1 _ _ (by omega) (by omega), ?_⟩
  refine ⟨(by show 3 ≤ sizeLine; decide), fun l hl => ?_⟩
  refine ⟨_, rfl, _, rfl, _, rfl, _, rfl, _, _, rfl, rfl, L1 _ _ (by omega) (by omega), ?_⟩
  refine ⟨_, rfl, _, rfl, _, _, rfl, rfl, L1 _ _ (by omega) (by omega), ?_⟩
  refine ⟨_, rfl, x, rfl, (by show x.length + (x.length + 1) * 1 ≤ 16777216; omega), ?_⟩
  refine ⟨_, rfl, ⟨x, rfl⟩, x, rfl, rfl, by omega, ?_⟩
  refine ⟨_, rfl, x, rfl, by omega, fun y ey => ?_⟩
  have t8 : PlL 23 902 (cs y) := by
    show PlL 23 902 y.cps.toList
    rw [ey]
    exact (hx.rev).mono (by decide) (by decide)
  refine ⟨(by show 5 ≤ sizeLine; decide), fun b hb => ?_⟩
  have lb : l ≠ b := fun z => by
    rw [← z, upd_same] at hb
    cases hb
  refine ⟨l, b, _, _, rfl, rfl, (by rw [upd_ne lb]; exact upd_same), upd_same, (by show 8 ≤ sizeLine; decide), fun c hc => ?_⟩
  refine ⟨p, c, _, rfl, Pen.same (((same_new hl _).trans (same_new hb _)).trans (same_new hc _)) p2, (fun z => by obtain ⟨_, _, _, e, _⟩ := Pen.same ((same_new hl _).trans (same_new hb _)) p2; rw [← z] at e; rw [hc] at e; cases e), SqL.of upd_same, (by show 0 < 8; decide), (by show 8 ≤ 1000; decide), fun H3 v b3 p3 hv => ?_⟩
  have B3 : Bar p H H3 := B2.trans ((bar_same (((same_new hl _).trans (same_new hb _)).trans (same_new hc _))).trans b3)
  simp only [List.cons_append, List.nil_append, List.mem_cons, List.not_mem_nil, or_false] at hv
  rcases hv with rfl | rfl | rfl | rfl | rfl | rfl | rfl | rfl
  · exact q _ _ B3 p3 t1
  · exact q _ _ B3 p3 t2
  · exact q _ _ B3 p3 t3
  · exact q _ _ B3 p3 t4
  · exact q _ _ B3 p3 t5
  · exact q _ _ B3 p3 t6
  · exact q _ _ B3 p3 t7
  · exact q _ _ B3 p3 t8
end
end N

namespace N
open PySem PySem.Spec PyProof.Rows L2 LamX NdefX
/-! ### lambdas where more than one table is known -/
/-- all but what stands at P stays -/
def ExtP (P : Addr) (H H' : Hp) : Prop := ∀ b o, H b = some o → b ≠ P → H' b = some o
theorem ExtP.refl (P : Addr) (H : Hp) : ExtP P H H := fun _ _ h _ => h
theorem ExtP.of {P : Addr} {H H' : Hp} (s : Same H H') : ExtP P H H' := fun b o h _ => s b o h
theorem ExtP.trans {P : Addr} {H H1 H2 : Hp} (a : ExtP P H H1) (b : ExtP P H1 H2) : ExtP P H H2 := fun c o h n => b c o (a c o h n) n
theorem ExtP.tab {P P2 : Addr} {q : Str} {H H' : Hp} (e : ExtP P H H') (n : P2 ≠ P) (hP : ∃ ps, H P = some (.tbl ps)) (t : TabS H P2 q) : TabS H' P2 q := by
  obtain ⟨ps, h1, h2, h3⟩ := t
  obtain ⟨qs, hq⟩ := hP
  refine ⟨ps, e _ _ h1 n, h2, fun p' cv z => ?_⟩
  obtain ⟨c0, ec, hc⟩ := h3 p' cv z
  refine ⟨c0, ec, e _ _ hc fun z => ?_⟩
  rw [z, hq] at hc
  exact codeO_ne qs (Option.some.inj hc).symm
section
variable {X : Cx} {pins : List (Addr × Obj)} {σ : L2.St} {H : Hp} {s : Shared}
theorem lam_new2 {c P : Addr} {params : Arguments} {body : Expr} {scope : Scope} {pos : Pos} {E : Value → Shared → Prop} {Q : Value → Shared → Prop} (I : Inv X pins σ H s) (TB : TabB X.base X.mg c P) (hcode : X.env.code = .ref c) (hT : TabS H P (X.env.qual ++ "<lambda>"))
    (hdef : defaultsOf params X.env = ([], [])) (hfree : ∀ y ∈ scope.names, y.2 = .free → ∃ c, X.env.cells.lookup y.1 = some c)
    (h : ∀ (f c' : Addr) (H1 : Hp) (s' : Shared), Inv X pins σ H1 s' → ExtP P H H1 → ExtN H H1 → TabS H1 P (X.env.qual ++ "<lambda>") → (∀ b, H1 b = none → H b = none) → H f = none → H1 f = some (LamO f (lamF (X.env.qual ++ "<lambda>") params scope (cloFrom X.env.cells scope.names []) c') body) → H1 c' = some (CodeO c' (X.env.qual ++ "<lambda>")) → Q (.ref f) s') :
    wpAny (model X.prog X.w) X.A (eval (.Lambda params body scope pos) X.env) Q E s := by
  obtain ⟨ps, hP, ht, ha⟩ := hT
  apply PySem.W.kla_eval hdef
  have hb : s.heap.BuiltinsAt X.mg P := TB.bm.keeps I.bk
  have tP : s.heap.get? P = some { cls := .none, data := .fields ps } := I.hok P _ hP
  -- the function object itself
  have fin : ∀ (h' : Heap) (tk : Nat) (c' : Addr) (ctv : Value) (H1 : Hp), Inv X pins σ H1 { s with heap := h', toks := tk } → ExtP P H H1 → ExtN H H1 → TabS H1 P (X.env.qual ++ "<lambda>") → (∀ b, H1 b = none → H b = none) → H1 c' = some (CodeO c' (X.env.qual ++ "<lambda>")) →
      Q (.ref h'.objs.size) { s with heap := h'.push (PySem.W.kla_obj "<lambda>" (X.env.qual ++ "<lambda>") params body scope (cloFrom X.env.cells scope.names []) ((X.mg "__name__").getD .none) c' ctv), toks := tk } := by
    intro h' tk c' ctv H1 J e0 e1 T1 n1 k1
    have nf : H1 h'.objs.size = none := J.hok.fresh (Nat.le_refl _)
    have here : (h'.push (PySem.W.kla_obj "<lambda>" (X.env.qual ++ "<lambda>") params body scope (cloFrom X.env.cells scope.names []) ((X.mg "__name__").getD .none) c' ctv)).get? h'.objs.size = some _ := Heap.get?_push_size _ rfl
    have J2 := J.laid (t' := tk) (a := h'.objs.size) (o := LamO h'.objs.size (lamF (X.env.qual ++ "<lambda>") params scope (cloFrom X.env.cells scope.names []) c') body) (fun b u e => Heap.get?_push_of_some _ e) (Nat.le_refl _)
      ⟨⟨_, _, here⟩, ⟨_, here⟩, fun h1 h2 y st => by obtain ⟨a, b, z⟩ := y; exact ⟨a, b, st _ z⟩⟩
    have sm := same_new nf (LamO h'.objs.size (lamF (X.env.qual ++ "<lambda>") params scope (cloFrom X.env.cells scope.names []) c') body)
    exact h _ c' _ _ J2 (e0.trans (ExtP.of sm)) (e1.trans (ExtN.of sm)) (T1.ext sm) (fun b z => n1 b (sm.free z)) (n1 _ nf) upd_same (sm _ _ k1)
  cases hc : codeAmong pos ps.toList with
  | some cv =>
    obtain ⟨c', ec, hco⟩ := ha pos cv hc
    subst ec
    refine PySem.W.kla_makeFunctionHit (closure_ok hfree) I.ok.glob (I.mod.glob.keeps I.bk) hcode (TB.code.keeps I.bk) tP ht hc hb (fun ctv h' tk kx _ => ?_)
    exact fin h' tk c' ctv H (I.kept kx) (ExtP.refl P H) (ExtN.refl H) ⟨ps, hP, ht, ha⟩ (fun b z => z) hco
  | none =>
    refine PySem.W.kla_makeFunction (closure_ok hfree) I.ok.glob (I.mod.glob.keeps I.bk) hcode (TB.code.keeps I.bk) tP ht hc TB.gP hb (fun c' ctv h' tk kx hge hlt hrec htb => ?_)
    obtain ⟨c2, oc, vs, t, e2, y1, y2, y3⟩ := hrec
    cases e2
    have nc : H c' = none := I.hok.fresh hge
    have J := inv_table (t' := tk) (more := #[rawInt pos.line, rawInt pos.col, .ref c']) (h' := h') (q := X.env.qual ++ "<lambda>") I hP (fun b o n e => kx b o n e) htb hge ⟨oc, vs, t, y1, y2, y3⟩
    refine fin h' tk c' ctv _ J (fun b o e n => ?_) (fun b o e n => ?_) (tabS_more hP ht ha nc) (fun b z => upd_none (upd_none z)) upd_same
    · rw [upd_ne (ne_of_none e nc), upd_ne n]
      exact e
    · rw [upd_ne (ne_of_none e nc), upd_ne (fun z => n ps (Option.some.inj (e.symm.trans (by rw [z]; exact hP))))]
      exact e
/-- lambda ..: .. as a value -/
theorem pe_lamT2 {c P : Addr} {params : Arguments} {body : Expr} {scope : Scope} {pos : Pos} (TB : TabB X.base X.mg c P) (hcode : X.env.code = .ref c) (hdef : defaultsOf params X.env = ([], []) := by rfl)
    (fre : ∀ y ∈ scope.names, y.2 = .free → X.env.scope.names.lookup y.1 = some .cell ∨ X.env.scope.names.lookup y.1 = some .free := by decide +kernel) :
    PE X (.Lambda params body scope pos) (fun σ H Q => TabS H P (X.env.qual ++ "<lambda>") ∧ ∀ (f c' : Addr) (H1 : Hp), ExtP P H H1 → ExtN H H1 → TabS H1 P (X.env.qual ++ "<lambda>") → (∀ b, H1 b = none → H b = none) → H f = none →
      H1 f = some (LamO f (lamF (X.env.qual ++ "<lambda>") params scope (cloFrom X.env.cells scope.names []) c') body) → H1 c' = some (CodeO c' (X.env.qual ++ "<lambda>")) → Q (.ref f) H1) := by
  refine ⟨fun pins s σ H Q I h => ?_⟩
  obtain ⟨hT, h⟩ := h
  refine lam_new2 I TB hcode hT hdef (fun y hy ey => (fre y hy ey).elim (fun z => I.ok.has _ (.inl z)) fun z => I.ok.has _ (.inr z)) (fun f c' H1 s' J g0 g1 g2 g3 g4 g5 g6 => ?_)
  exact ⟨.ref f, H1, J, rfl, h f c' H1 g0 g1 g2 g3 g4 g5 g6⟩
end
end N

namespace N
open PySem PySem.Spec PyProof.Rows L2 StX LamX NdefX
theorem ext_stay {K : PySem.W.Frag} {H H' : Hp} (e : ExtN H H') : Stay K H H' where
  tup := fun a xs q => by
    rcases q with (q | ⟨o', q⟩) | q
    · exact .inl (.inl (e _ _ q (fun ps z => by cases z)))
    · exact .inl (.inr ⟨o', e _ _ q (fun ps z => by cases z)⟩)
    · exact .inr q
  ty := fun v t q => by
    cases q with
    | base b =>
      cases b with
      | non => exact .base .non
      | bl x => exact .base (.bl x)
      | int i => exact .base (.int i)
      | str x => exact .base (.str x)
      | flt x => exact .base (.flt x)
      | lst z => exact .base (.lst (e _ _ z (fun ps y => by cases y)))
      | frz z => exact .base (.frz (e _ _ z (fun ps y => by cases y)))
      | tup z => exact .base (.tup (e _ _ z (fun ps y => by cases y)))
      | dK z => exact .base (.dK (e _ _ z (fun ps y => by cases y)))
      | dT z => exact .base (.dT (e _ _ z (fun ps y => by cases y)))
      | ins z cl ha hn htk hm => exact .base (.ins (e _ _ z (fun ps y => by cases y)) cl ha hn htk hm)
    | byt b => exact .byt b
    | set z => exact .set (e _ _ z (fun ps y => by cases y))
    | kList z c => exact .kList z c
    | kTuple z c => exact .kTuple z c
    | kDict z c => exact .kDict z c
    | fTuple z => exact .fTuple (e _ _ z (fun ps y => by cases y))
    | fDict z => exact .fDict (e _ _ z (fun ps y => by cases y))
/-- all but the tables stays, and nothing that was tracked is gone -/
structure Gro (H H' : Hp) : Prop where
  e : ExtN H H'
  n : ∀ b, H' b = none → H b = none
theorem Gro.of {H H' : Hp} (s : Same H H') : Gro H H' := ⟨ExtN.of s, fun b z => s.free z⟩
theorem Gro.trans {H H1 H2 : Hp} (a : Gro H H1) (b : Gro H1 H2) : Gro H H2 := ⟨a.e.trans b.e, fun x z => a.n x (b.n x z)⟩
theorem Gro.refl (H : Hp) : Gro H H := ⟨ExtN.refl H, fun _ z => z⟩
theorem Gro.stay {K : PySem.W.Frag} {H H' : Hp} (g : Gro H H') : Stay K H H' := ext_stay g.e
theorem Gro.seq {K : PySem.W.Frag} {H H' : Hp} {a : Addr} {xs : List V} (g : Gro H H') (h : SqL K H a xs) : SqL K H' a xs := by
  rcases h with (h | ⟨o, h⟩) | h
  · exact .inl (.inl (g.e _ _ h (fun ps z => by cases z)))
  · exact .inl (.inr ⟨o, g.e _ _ h (fun ps z => by cases z)⟩)
  · exact .inr h
/-- .. and all but the table at P stays -/
structure GroP (P : Addr) (H H' : Hp) : Prop where
  g : Gro H H'
  x : ExtP P H H'
theorem GroP.of {P : Addr} {H H' : Hp} (s : Same H H') : GroP P H H' := ⟨Gro.of s, ExtP.of s⟩
theorem GroP.trans {P : Addr} {H H1 H2 : Hp} (a : GroP P H H1) (b : GroP P H1 H2) : GroP P H H2 := ⟨a.g.trans b.g, a.x.trans b.x⟩
theorem GroP.refl (P : Addr) (H : Hp) : GroP P H H := ⟨Gro.refl H, ExtP.refl P H⟩
end N

namespace N
open PySem PySem.Spec PyProof.Rows L2 L2H StX LamX NdefX
/-! ### the lambda of is_right, what said says of it -/
def SaidX (c : Nat → Addr) (Q : VK) : XK := fun cls d H1 => ∃ i, i < 13 ∧ cls = .ref (c i) ∧ d = none ∧ ∀ H2, Same H1 H2 → Q (.str ("! " ++ exN i)) H2
theorem ex2 : ("! " ++ exN 2 : Str) = "! NoText" := by decide +kernel
def tqR : Str := ("_law_is_right" : Str) ++ ".<locals>." ++ "<lambda>"
def lamC : Stmt → Option (Arguments × Expr × Scope)
  | .Return (some (.Compare (.ListComp (.Call _ [.Lambda a b s _] _ _) _ _ _) _ _ _)) _ => some (a, b, s)
  | _ => none
def lamR : Arguments × Expr × Scope := ((defBody s_Lis_right)[0]?.bind lamC).getD (defArgs s_Lis_right, .Name "x" ⟨0, 0, 0, 0⟩, defScope s_Lis_right)
theorem sc_lamR : NScope ["_law_words"] [] ["_law_words"] lamR.2.2 := nscope_by (by decide +kernel)
theorem one_free : ∀ y ∈ lamR.2.2.names, y.2 = .free → y.1 = "_law_words" := by decide +kernel
section
variable {P : Program} {w : World} {K : PySem.W.Frag} {mg : Str → Option Value} {base : Heap} {c : Nat → Addr} {C1 : Addr} {F : NF} {f : Addr} {v : V} {h : Heap} {H : Hp}
def spRe (K : PySem.W.Frag) (C : Addr) (v : V) : Hp → VK → XK → Prop := fun H Q E => spReadX K C [v] H Q E
theorem spRe_mon {C : Addr} {H : Hp} (R R' : VK) (E E' : XK) (h1 : ∀ v H1, R v H1 → R' v H1) (h2 : ∀ cls d H1, E cls d H1 → E' cls d H1) (h : spRe K C v H R E) : spRe K C v H R' E' := by
  obtain ⟨u, t, a, b, d, e⟩ := h
  exact ⟨u, t, a, b, fun k hk H' u' s z => h1 _ _ (d k hk H' u' s z), fun x H' s => h2 _ _ _ (e x H' s)⟩
theorem act_read (CS : Cal P w K mg base 3 "read" ["text"] (spReadX K C1)) (eF : F.params = lamR.1 ∧ F.scope = lamR.2.2) (Cc : CellsAt F.cl ["_law_words"] [some v] h H) (h1 : H f = some (LamO f F lamR.2.1)) (h2 : H F.c = some (CodeO F.c F.qual)) : ActR P w K mg base 3 f h H (spRe K C1 v) := by
  obtain ⟨name, qual, params, fb, scope, cl, c⟩ := F
  obtain ⟨rfl, rfl⟩ := eF
  exact ⟨_, lamR.2.1, _, _, _, _, sc_lamR, fun pm ctv => rfl, fun A outer s H E hr => pcE (takes_of rfl rfl rfl rfl) CS hr (by rfl) (pa_cons (pe_var (x := "_law_words") (i := 0) rfl (.inr (.inr rfl))) pa_nil), Cc, h1, h2, fun H' Q E z => ⟨v, rfl, z⟩⟩
/-- a thing that is asked: no text, or a plain one -/
def Askd (t : Tg) : Prop := ∀ x, t = .str x → Pln x ∧ x.length ≤ 1000
theorem says_read {t : Tg} {Q : VK} (hT : Th K H v t) (hp : Askd t) (q : ∀ (r : Str) H2, Same H H2 → Due t r → Q (.str r) H2) : spReadX K (c 2) [v] H (fun u H1 => rReprU K [u] H1 Q) (SaidX c Q) := by
  refine ⟨v, t, rfl, hT, fun k hk H' u sm hu => ?_, fun no H' sm => ⟨2, by decide, rfl, rfl, fun H2 s2 => by rw [ex2]; exact q _ H2 (sm.trans s2) ⟨(fun k hk => absurd hk (no k)), fun _ => rfl⟩⟩⟩
  obtain ⟨hok, x, e, etx⟩ := hk
  obtain ⟨⟨hasc, hct⟩, hxl⟩ := hp x e
  have hnds := nds_txt hok
  have hdp := dep_count (k := k)
  rw [← etx] at hnds hdp
  rw [cs_len] at hnds
  obtain ⟨f1, f2, f3, f4⟩ := pd_fit hok (by omega) (by omega)
  exact ⟨u, rfl, .inr ⟨k.pd, kp_rv hu, kp_dp hu, f1, f2, f3, f4, q _ H' sm ⟨fun k' hk' => by rw [txt_one ⟨hok, x, e, etx⟩ hk'], fun z => absurd ⟨hok, x, e, etx⟩ (z k)⟩⟩⟩
theorem Askd.of {x : Str} (h : PlL 23 902 (cs x)) : Askd (.str x) := by
  intro y e
  cases e
  refine ⟨⟨h.1, by have := h.2.1; omega⟩, ?_⟩
  have := h.2.2
  rw [cs_len] at this
  omega
end
end N

namespace N
open PySem PySem.Spec PyProof.Rows L2 L2H StX LamX NdefX
theorem tabPut {P l : Addr} {q : Str} {H : Hp} {xs ys : List V} (t : TabS H P q) (h : H l = some (.lst xs)) : TabS (upd H l (.lst ys)) P q := by
  obtain ⟨ps, h1, h2, h3⟩ := t
  have n1 : P ≠ l := fun e => by rw [e, h] at h1; cases h1
  refine ⟨ps, by rw [upd_ne n1]; exact h1, h2, fun p' cv z => ?_⟩
  obtain ⟨c0, e, hc⟩ := h3 p' cv z
  have n2 : c0 ≠ l := fun e => by
    rw [e, h] at hc
    unfold CodeO at hc
    cases hc
  exact ⟨c0, e, by rw [upd_ne n2]; exact hc⟩
theorem GroP.put {P l : Addr} {H H1 : Hp} {ys : HO} (g : GroP P H H1) (h0 : H l = none) : GroP P H (upd H1 l ys) :=
  ⟨⟨fun b o e n => by rw [upd_ne (ne_of_none e h0)]; exact g.g.e b o e n, fun b z => by
    by_cases e : b = l
    · rw [e]; exact h0
    · rw [upd_ne e] at z; exact g.g.n b z⟩, fun b o e n => by rw [upd_ne (ne_of_none e h0)]; exact g.x b o e n⟩
section
variable {P : Program} {w : World} {K : PySem.W.Frag} {mg : Str → Option Value} {base : Heap} {c : Nat → Addr}
def spRight (K : PySem.W.Frag) (Pt : Addr) : Sp := fun vs H Q _ => ∃ (v : V) (t : Tg), vs = [v] ∧ Th K H v t ∧ Askd t ∧ TabS H Pt tqR ∧ ∀ H', GroP Pt H H' → TabS H' Pt tqR → Q (.bl true) H'
/-- said of the lambda, in the comprehension's own room -/
def tSaidR (K : PySem.W.Frag) (Pt : Addr) : TE := fun σ H Q => ∃ v t, slotAt σ 0 = some v ∧ Th K H v t ∧ Askd t ∧ TabS H Pt tqR ∧ ∀ r H', GroP Pt H H' → TabS H' Pt tqR → Due t r → Q (.str r) H'
theorem ok_right {ke cc Pt : Addr} (G : Glo mg) (TB : TabB base mg cc Pt) (CW : CalP P w K mg base 1 "_law_word" ["_law_e"] (spWordP c))
    (gk : mg "KindError" = some (.ref ke)) (hx : ∀ i, i < 13 → PySem.W.exmOne K (.ref (c i)) (.ref ke) = some true)
    (CR : Cal P w K mg base 3 "read" ["text"] (spReadX K (c 2))) (CU : Cal P w K mg base 58 "_law_due" ["_law_words"] (spDue K))
    (DS : DefAt K mg "_law_said" s_Lsaid ["_law_call"]) (D : DefAtC K mg "_law_is_right" s_Lis_right ["_law_words"] cc) : Cal P w K mg base 59 "_law_is_right" ["_law_words"] (spRight K Pt) := by
  refine D.cal sc_Lis_right (fun vs H Q E h => ?_) (fun f A outer s H vs Q E hr h => ?_)
  · obtain ⟨v, t, rfl, _⟩ := h
    rfl
  obtain ⟨v, t, rfl, hT, hp, ht, q⟩ := h
  have hr5 : RoomG (4 + 1) (A.deeper (envOfC "_law_is_right" (defScope s_Lis_right) s.heap.objs.size f (.ref cc))) := hr.mono (by decide)
  refine ⟨_, pss_one (ps_ret (pe_cmpR (op_eqV hr.units) (pe_lc (own := [("_law_turn", 1)]) (g := gName 1) (tt := tYes) (te := tSaidR K Pt) rfl sc_Lis_right.nd (pi_range1 rfl G.range (pa_cons pe_int pa_nil)) (blkOk_by (N := nm_Lis_right) (sc := defScope s_Lis_right) (own := [("_law_turn", 1)]) (by decide +kernel))
        (fun _ _ _ _ _ => pg_name (i := 1) sc_Lis_right.nd rfl (Or.inl rfl)) (fun _ _ _ _ _ => pts_nil) (fun s' H' C cl fp => peImp (pe_callH (k := 4) (RR := fun σ vs H1 Q1 => ∃ (f1 c1 : Addr) (v2 : V) (t2 : Tg), vs = [.ref f1] ∧ slotAt σ 0 = some v2 ∧ H1 f1 = some (LamO f1 (lamF tqR lamR.1 lamR.2.2 (cloFrom cl lamR.2.2.names []) c1) lamR.2.1) ∧ H1 c1 = some (CodeO c1 tqR) ∧
          Th K H1 v2 t2 ∧ Askd t2 ∧ ∀ r H3, Same H1 H3 → Due t2 r → Q1 (.str r) H3) DS sc_Lsaid hr5 rfl (pa_cons (pe_lamT2 TB rfl rfl (fun y hy e => by rw [one_free y hy e]; exact .inl rfl)) pa_nil) (fun σ vs H1 Q1 z => by obtain ⟨f1, c1, _, _, rfl, _⟩ := z; rfl) (fun g cdv pins s1 σ H1 vs Q1 J hr' z => ?_)) (fun σ H2 Q2 z => ?_)))
      (pe_op op_rep (pe_lst (pa_cons (pc CU hr rfl (pa_cons (pv 0) pa_nil)) pa_nil)) pe_int) (nomark _))), ?_⟩
  · obtain ⟨f1, c1, v2, t2, rfl, hsl, x1, x2, x3, x4, q1⟩ := z
    have C := cells_of (js := [0]) (fr := ["_law_words"]) J (Caps.made (scope := lamR.2.2) J.ok (fun y hy e => by rw [one_free y hy e]; exact .inl rfl) (by decide +kernel) rfl)
    have e : ([0] : List Nat).map (slotAt σ) = [some v2] := by rw [← hsl]; rfl
    rw [e] at C
    exact said_body G CW gk hx (act_read (F := lamF tqR lamR.1 lamR.2.2 _ c1) CR ⟨rfl, rfl⟩ C x1 x2) hr' spRe_mon (says_read x3 x4 q1)
  · obtain ⟨v2, t2, hsl, x1, x2, x3, q2⟩ := z
    refine ⟨x3, fun f1 c1 H3 e0 e3 t3 n3 z3 y3 k3 => ⟨f1, c1, v2, t2, rfl, hsl, y3, k3, x1.stay (ext_stay e3), x2, fun r H4 s4 d4 => ?_⟩⟩
    exact q2 r H4 (GroP.trans ⟨⟨e3, n3⟩, e0⟩ (GroP.of s4)) (t3.ext s4) d4
  obtain ⟨r0, hr0⟩ : ∃ r, Due t r := by
    by_cases e : ∃ k, IsTxt t k
    · obtain ⟨k, hk⟩ := e
      exact ⟨k.pd.shown, fun k' hk' => by rw [txt_one hk hk'], fun z => absurd hk (z k)⟩
    · exact ⟨"! NoText", fun k hk => absurd ⟨k, hk⟩ e, fun _ => rfl⟩
  refine ⟨2, rfl, by decide, by decide, fun D hD => ?_⟩
  refine lc_range (lo := 0) (n := 2) (fun i H' => GroP Pt H H' ∧ TabS H' Pt tqR ∧ H' D = some (.lst (List.replicate i (.str r0)))) ⟨(GroP.refl Pt H).put hD, ht.ext (same_new hD _), upd_same⟩ (fun i H' hi ⟨g1, t1, l1⟩ => ?_) (fun H' ⟨g1, t1, l1⟩ => ?_)
  · refine ⟨rfl, ?_⟩
    unfold tYes
    dsimp only
    rw [if_pos rfl]
    refine ⟨v, t, rfl, hT.stay g1.g.stay, hp, t1, fun r H4 g4 t4 d4 => ?_⟩
    have L4 : H4 D = some (.lst (List.replicate i (.str r0))) := g4.g.e _ _ l1 (fun ps z => by cases z)
    refine ⟨_, L4, ?_, (g1.trans g4).put hD, tabPut t4 L4, ?_⟩
    · rw [List.length_replicate]
      exact Nat.lt_of_lt_of_le hi (by decide)
    · rw [upd_same, due_or d4 hr0, ← List.replicate_succ']
  · refine ⟨_, rfl, v, t, rfl, hT.stay g1.g.stay, hp, fun H2 r s2 d2 => ?_⟩
    refine ⟨by show 1 ≤ sizeLine; decide, fun l hl => ⟨l, 2, _, rfl, rfl, upd_same, by decide, by decide, by show 2 ≤ sizeLine; decide, fun m hm => ?_⟩⟩
    rw [due_or d2 hr0]
    have s3 := (s2.trans (same_new hl (.lst [.str r0])))
    have s4 := s3.trans (same_new (by rw [due_or d2 hr0] at hm; exact hm) (.lst (List.replicate (2 : Int).toNat [V.str r0]).flatten))
    refine ⟨1, by decide, .inl ⟨D, m, _, _, rfl, rfl, SqL.of (s4 _ _ l1), SqL.of upd_same, show Paired _ [V.str r0, V.str r0] [V.str r0, V.str r0] from .cons (.inl ⟨rfl, rfl⟩) (.cons (.inl ⟨rfl, rfl⟩) .nil)⟩, ?_⟩
    exact q _ (g1.trans (GroP.of s4)) (t1.ext s4)
end
end N

namespace N
open PySem PySem.Spec PyProof.Rows L2 NdefX
/-! ### what the written part says of the eighteen classes, by one look -/
abbrev at_ (cs : List Addr) : Nat → Addr := fun j => cs.getD j 0
def excB (K : PySem.W.Frag) (D : Addr) : Bool :=
  decide (PySem.W.findIn K (.ref D) "__getattribute__" = some (some (.builtin "BaseException.__getattribute__"))) && (decide (PySem.W.findIn K (.ref D) "__getattr__" = some none) && (decide (PySem.W.subIn K (.ref D) (.type "BaseException") = some true) && (PySem.W.hasDictIn K D && (decide (PySem.W.findIn K (.ref D) "__class__" = some (some (.builtin "object.__class__"))) &&
    (decide (PySem.W.specialIn K (.builtin "object.__class__") "__get__" = some (some (.builtin "getset_descriptor.__get__"))) && (decide (PySem.W.takesIn K (.builtin "object.__class__") = some true) && decide (PySem.W.mroIn K D (.type "object") = some true)))))))
theorem excB_ok {K : PySem.W.Frag} {D : Addr} (h : excB K D = true) : ExcC K D := by
  unfold excB at h
  simp only [Bool.and_eq_true, decide_eq_true_eq] at h
  obtain ⟨a, b, c, d, e, f, g, i⟩ := h
  exact ⟨a, b, c, d, e, f, g, i⟩
def kitB (K : PySem.W.Frag) (cs : List Addr) (ke : Addr) : Bool :=
  (List.range 18).all fun i => (List.range 18).all (fun j => decide (PySem.W.kitOne K (.ref (at_ cs i)) (.ref (at_ cs j)) = some (decide (i = j)))) && (decide (PySem.W.kitOne K (.ref (at_ cs i)) (.type "ValueError") = some true) && (decide (PySem.W.kitOne K (.ref (at_ cs i)) (.ref ke) = some true) && excB K (at_ cs i)))
theorem lt18 {p : Nat → Prop} (h : ∀ i ∈ List.range 18, p i) : ∀ i, i < 18 → p i := fun i hi => h i (List.mem_range.mpr hi)
theorem kls_of {K : PySem.W.Frag} {mg : Str → Option Value} {cs : List Addr} {ke : Addr} (g : ∀ j, j < 18 → mg (exN j) = some (.ref (at_ cs j))) (gk : mg "KindError" = some (.ref ke)) (h : kitB K cs ke = true) : Kls K mg (at_ cs) := by
  unfold kitB at h
  have h' := fun i hi => List.all_eq_true.mp h i (List.mem_range.mpr hi)
  simp only [Bool.and_eq_true, decide_eq_true_eq, List.all_eq_true] at h'
  exact ⟨g, fun j hj => excB_ok (h' j hj).2.2.2, fun i j hi hj => (h' i hi).1 j (List.mem_range.mpr hj), fun i hi => (h' i hi).2.1, ke, gk, fun i hi => (h' i hi).2.2.1⟩
end N

namespace N
open PySem PySem.Spec PyProof.Rows L2 L2H StX LamX NdefX
/-! ### texts of kinds are plain -/
theorem nam_pl {n : Str} (h : isNam n = true) : PlL 0 8 n.cps.toList := by
  obtain ⟨_, h2, h3⟩ := isNam_iff.mp h
  refine ⟨fun c hc => ?_, ?_, ?_⟩
  · have := h3 c hc
    unfold Low at this
    omega
  · rw [List.count_eq_zero.mpr fun hc => ?_]
    · exact Nat.le_refl _
    · have := h3 40 hc
      unfold Low at this
      omega
  · rw [Array.length_toList]
    exact h2
theorem txt_pl : ∀ {k : Kd}, k.ok → PlL k.nds (12 * k.nds) k.txt
  | .L c, h => by
    obtain ⟨d, e, h1, h2⟩ := isLet_iff.mp (show isLet c = true from h)
    show PlL 1 12 c.cps.toList
    rw [e]
    refine ⟨fun x hx => ?_, ?_, by show 1 ≤ 12; decide⟩
    · have := List.mem_singleton.mp hx
      omega
    · exact Nat.le_trans (List.count_le_length ..) (Nat.le_refl 1)
  | .C0 n, h => (nam_pl (show isNam n = true from h)).mono (Nat.zero_le _) (by show 8 ≤ 12 * 1; decide)
  | .C1 n a, h => by
    have p1 : PlL 1 1 ([40] : List Nat) := by refine ⟨?_, ?_, ?_⟩ <;> decide
    have p2 : PlL 0 1 ([41] : List Nat) := by refine ⟨?_, ?_, ?_⟩ <;> decide
    have q := (nam_pl h.1).app (p1.app ((txt_pl h.2).app p2))
    refine q.mono ?_ ?_ <;> (simp only [Kd.nds]; omega)
  | .C2 n a b, h => by
    have p1 : PlL 1 1 ([40] : List Nat) := by refine ⟨?_, ?_, ?_⟩ <;> decide
    have p2 : PlL 0 1 ([41] : List Nat) := by refine ⟨?_, ?_, ?_⟩ <;> decide
    have p3 : PlL 0 2 ([44, 32] : List Nat) := by refine ⟨?_, ?_, ?_⟩ <;> decide
    have q := (nam_pl h.1).app (p1.app ((txt_pl h.2.1).app (p3.app ((txt_pl h.2.2).app p2))))
    refine q.mono ?_ ?_ <;> (simp only [Kd.nds]; omega)
theorem strOkOf {x : Str} (h : ∀ c ∈ x.cps.toList, c < 1114112) : PyData.strOk x = true := by
  obtain ⟨⟨l⟩⟩ := x
  show (l.toArray.all fun c => decide (c < 1114112)) = true
  rw [List.all_toArray, List.all_eq_true]
  exact fun c hc => decide_eq_true (h c hc)
theorem leaf_ok {x : Str} (h : PyData.strOk x = true) : (PyData.str x).leavesShort 13 = true := by
  obtain ⟨⟨l⟩⟩ := x
  have h' : (l.toArray.all fun c => decide (c < 1114112)) = true := h
  rw [List.all_toArray, List.all_eq_true] at h'
  simp only [PyData.leavesShort]
  rw [List.all_eq_true]
  intro c hc
  have := of_decide_eq_true (h' c hc)
  exact decide_eq_true (by omega)
theorem kd_ints13 : ∀ k : Kd, k.pd.intsShort 13 = true
  | .L c => by simp only [Kd.pd, PyData.intsShort]
  | .C0 n => by simp only [Kd.pd, PyData.intsShort, PyData.intsShortAll, Bool.and_self]
  | .C1 n a => by simp only [Kd.pd, PyData.intsShort, PyData.intsShortAll, Bool.and_self, kd_ints13 a]
  | .C2 n a b => by simp only [Kd.pd, PyData.intsShort, PyData.intsShortAll, Bool.and_self, kd_ints13 a, kd_ints13 b]
/-- a text and its kind -/
theorem duo_fit {k : Kd} {x : Str} (h : k.ok) (hx : cs x = k.txt) (hn : k.nds ≤ 30) : (PyData.list [.str x, k.pd]).showable = true ∧ (PyData.list [.str x, k.pd]).hasDict = false ∧ (PyData.list [.str x, k.pd]).depth ≤ 60 ∧ (PyData.list [.str x, k.pd]).shown.length ≤ sizeLine := by
  have pl := txt_pl h
  have so : PyData.strOk x = true := strOkOf fun z hz => by
    have := pl.1 z (by rw [← hx]; exact hz)
    omega
  have sz : x.cps.size ≤ 12 * k.nds := by
    have := pl.2.2
    rw [← hx, cs_len] at this
    exact this
  have z1 := pd_depth k
  have z2 := pd_weight h
  have z3 := dep_count (k := k)
  have z4 := pl.2.1
  refine ⟨by simp only [PyData.showable, PyData.showableAll, pd_show k, Bool.and_self], ?_, by simp only [PyData.depth, PyData.depthAll]; omega, PyData.shown_fits (B := 13) (by decide) (by decide) ?_ ?_⟩
  · simp only [PyData.hasDict, PyData.hasDictAll, pd_noDict h, Bool.or_self]
  · have l := leaf_ok so
    simp only [PyData.leavesShort] at l
    simp only [PyData.leavesShort, PyData.leavesShortAll, l, PyData.leavesShort_of_canLay0 13 _ (pd_lay h) (kd_ints13 k), Bool.and_self]
  · simp only [PyData.weight, PyData.weightAll]
    omega
end N

namespace N
open PySem PySem.Spec PyProof.Rows L2 L2H StX LamX NdefX
/-! ### text of anything, the law's own lambda -/
section
variable {P : Program} {w : World} {K : PySem.W.Frag} {mg : Str → Option Value} {base : Heap} {c : Nat → Addr}
def spTextX (K : PySem.W.Frag) (C : Addr) : Sp := fun vs H Q E => ∃ (v : V) (t : Tg), vs = [v] ∧ Th K H v t ∧ t.nodes ≤ 10000 ∧ (∀ k : Kd, t = k.tg → k.ok → ∀ H' (x : Str), Same H H' → x.cps.toList = k.txt → Q (.str x) H') ∧ (isT t = false → ∀ H', Same H H' → E (.ref C) none H')
theorem ok_textX {C : Addr} (CK : Cal P w K mg base 4 "check_type" ["thing"] (spCheck K C)) (CT : Cal P w K mg base 2 "text_of" ["kind"] (spText K)) (D : DefAt K mg "text" s_text ["kind"]) : Cal P w K mg base 5 "text" ["kind"] (spTextX K C) := by
  refine D.cal sc_text (fun vs H Q E h => ?_) (fun f cdv A outer s H vs Q E hr h => ?_)
  · obtain ⟨v, t, rfl, _⟩ := h
    rfl
  obtain ⟨v, t, rfl, hT, hn, q1, q2⟩ := h
  refine ⟨_, pss_cons (ps_expr (pcE (takes_of rfl rfl rfl rfl) CK hr rfl (pa_cons (pv 0) pa_nil))) (pss_one (ps_ret (pc CT (hr.mono (by decide)) rfl (pa_cons (pv 0) pa_nil)))), ?_⟩
  refine ⟨v, rfl, v, t, rfl, hT, by omega, fun ht H1 sm => ?_, fun ht H1 sm => q2 ht H1 sm⟩
  obtain ⟨k, hk, rfl⟩ := of_isT ht
  have := Kd.nds_le k
  exact ⟨v, rfl, v, k, rfl, hT.stay (stay_same sm), hk, by omega, fun H2 x sm2 hx => q1 k rfl hk H2 x (sm.trans sm2) hx⟩
theorem ex0 : ("! " ++ exN 0 : Str) = "! NoType" := by decide +kernel
theorem str_sm {x : Str} (h1 : PyData.strOk x = true) (h2 : x.cps.size ≤ 100000) : (PyData.str x).shown.length ≤ sizeLine :=
  PyData.shown_fits (B := 13) (by decide) (by decide) (leaf_ok h1) (by simp only [PyData.weight]; omega)
theorem says_text {v : V} {t : Tg} {H : Hp} {Q : VK} (hT : Th K H v t) (hn : t.nodes ≤ 1000) (q : ∀ (r : Str) H2, Same H H2 → (isT t = false → r = "! NoType") → Q (.str r) H2) : spTextX K (c 0) [v] H (fun u H1 => rReprU K [u] H1 Q) (SaidX c Q) := by
  refine ⟨v, t, rfl, hT, by omega, fun k e hok H' x sm hx => ?_, fun ht H' sm => ⟨0, by decide, rfl, rfl, fun H2 s2 => by rw [ex0]; exact q _ H2 (sm.trans s2) fun _ => rfl⟩⟩
  have z1 := Kd.nds_le k
  rw [← e] at z1
  have pl := txt_pl hok
  have so : PyData.strOk x = true := strOkOf fun z hz => by
    have := pl.1 z (by rw [← hx]; exact hz)
    omega
  have sz : x.cps.size ≤ 100000 := by
    have := pl.2.2
    rw [← Array.length_toList, hx]
    omega
  refine ⟨_, rfl, .inr ⟨.str x, .inr ⟨x, rfl⟩, .str x, by simp only [PyData.showable], rfl, by simp only [PyData.depth]; omega, str_sm so sz, q _ H' sm fun z => ?_⟩⟩
  rw [e, Kd.isT_tg hok] at z
  cases z
def tqL : Str := ("law" : Str) ++ ".<locals>." ++ "<lambda>"
def inFor (l : List Stmt) (i : Nat) : List Stmt := match l[i]? with
  | some (.For _ _ b _ _) => b
  | _ => []
def lamAt : Stmt → Option (Arguments × Expr × Scope)
  | .If (.BoolOp _ [_, .BoolOp _ [_, .Compare (.Call _ [.Lambda a b s _] _ _) _ _ _] _] _) _ _ _ => some (a, b, s)
  | _ => none
def lmT : Arguments × Expr × Scope := ((inFor (defBody s_law) 2)[0]?.bind lamAt).getD (defArgs s_law, .Name "x" ⟨0, 0, 0, 0⟩, defScope s_law)
theorem sc_lmT : NScope ["_law_thing"] [] ["_law_thing"] lmT.2.2 := nscope_by (by decide +kernel)
theorem freT : ∀ y ∈ lmT.2.2.names, y.2 = .free → (defScope s_law).names.lookup y.1 = some .cell ∨ (defScope s_law).names.lookup y.1 = some .free := ndef_free (fr := []) (by decide +kernel)
variable {C1 : Addr} {F : NF} {f : Addr} {v : V} {h : Heap} {H : Hp}
def spTe (K : PySem.W.Frag) (C : Addr) (v : V) : Hp → VK → XK → Prop := fun H Q E => spTextX K C [v] H Q E
theorem spTe_mon {C : Addr} {H : Hp} (R R' : VK) (E E' : XK) (h1 : ∀ v H1, R v H1 → R' v H1) (h2 : ∀ cls d H1, E cls d H1 → E' cls d H1) (h : spTe K C v H R E) : spTe K C v H R' E' := by
  obtain ⟨u, t, a, b, d, e, f⟩ := h
  exact ⟨u, t, a, b, d, fun k x y H' z s q => h1 _ _ (e k x y H' z s q), fun x H' s => h2 _ _ _ (f x H' s)⟩
theorem act_text (CS : Cal P w K mg base 5 "text" ["kind"] (spTextX K C1)) (eF : F.params = lmT.1 ∧ F.scope = lmT.2.2) (Cc : CellsAt F.cl ["_law_thing"] [some v] h H) (h1 : H f = some (LamO f F lmT.2.1)) (h2 : H F.c = some (CodeO F.c F.qual)) : ActR P w K mg base 5 f h H (spTe K C1 v) := by
  obtain ⟨name, qual, params, fb, scope, cl, c⟩ := F
  obtain ⟨rfl, rfl⟩ := eF
  exact ⟨_, lmT.2.1, _, _, _, _, sc_lmT, fun pm ctv => rfl, fun A outer s H E hr => pcE (takes_of rfl rfl rfl rfl) CS hr (by rfl) (pa_cons (pe_var (x := "_law_thing") (i := 0) rfl (.inr (.inr rfl))) pa_nil), Cc, h1, h2, fun H' Q E z => ⟨v, rfl, z⟩⟩
/-- text of the thing at the slot 8 -/
def RRT (K : PySem.W.Frag) (cells : List (Str × Addr)) : L2.St → List V → Hp → VK → Prop := fun σ vs H1 Q1 => ∃ (f1 c1 : Addr) (v : V) (t : Tg), vs = [.ref f1] ∧ slotAt σ 8 = some v ∧ H1 f1 = some (LamO f1 (lamF tqL lmT.1 lmT.2.2 (cloFrom cells lmT.2.2.names []) c1) lmT.2.1) ∧ H1 c1 = some (CodeO c1 tqL) ∧
  Th K H1 v t ∧ t.nodes ≤ 1000 ∧ ∀ (r : Str) H2, Same H1 H2 → (isT t = false → r = "! NoType") → Q1 (.str r) H2
/-- repr(a) == repr(b), of equal data -/
def spSameD (K : PySem.W.Frag) : Sp := fun vs H Q _ => ∃ (a b : Addr) (d : PyData), vs = [.ref a, .ref b] ∧ Dp K H (.ref a) d ∧ Dp K H (.ref b) d ∧ d.showable = true ∧ d.hasDict = false ∧ d.depth ≤ 60 ∧ d.shown.length ≤ sizeLine ∧ Q (.bl true) H
theorem ok_sameD (G : Glo mg) (D : DefAt K mg "_law_same" s_Lsame ["_law_found", "_law_due_here"]) : Cal P w K mg base 1 "_law_same" ["_law_found", "_law_due_here"] (spSameD K) := by
  refine D.cal sc_Lsame (fun vs H Q E h => ?_) (fun f cdv A outer s H vs Q E hr h => ?_)
  · obtain ⟨a, b, x, rfl, _⟩ := h
    rfl
  obtain ⟨a, b, d, rfl, h1, h2, f1, f2, f3, f4, q⟩ := h
  refine ⟨_, pss_one (ps_ret (pe_cmpR op_eq (pe_callB (call_repr hr) (by rfl) G.repr (by decide +kernel) (pa_cons (pv 0) pa_nil)) (pe_callB (call_repr hr) (by rfl) G.repr (by decide +kernel) (pa_cons (pv 1) pa_nil)) (nomark _))), ?_⟩
  refine ⟨_, rfl, a, _, rfl, h1, f1, f2, f3, f4, _, rfl, b, _, rfl, h2, f1, f2, f3, f4, rfl, ?_⟩
  rw [decide_eq_true rfl]
  exact q
end
/-! ### the things that are asked -/
def askB : Tg → Bool
  | .str x => (cs x).all (fun c => decide (c < 128)) && (decide ((cs x).count 40 < 24) && decide (x.length ≤ 1000))
  | _ => true
theorem ask_ok {t : Tg} (h : askB t = true) : Askd t := by
  intro x e
  subst e
  unfold askB at h
  simp only [Bool.and_eq_true, decide_eq_true_eq, List.all_eq_true] at h
  exact ⟨⟨h.1, h.2.1⟩, h.2.2⟩
def fineB (t : Tg) : Bool := askB t && (decide (t.nodes ≤ 20) && decide (t.dep < 30))
theorem odd_fine : ∀ e ∈ oddT, fineB e.1 = true := by decide +kernel
def strs8 : List Str := ["box(X)", "box(X", "box(X))", "a(b, c)", "a(b,c)", "a(b, c, d)", "aaaaaaaaa", "X(a)"]
theorem strs_fine : ∀ x ∈ strs8, fineB (.str x) = true := by decide +kernel
theorem mem_ob {K : PySem.W.Frag} {H : Hp} {p : Addr} : ∀ {vs : List V} {es : List (Tg × PyData)} {v : V}, Paired (Ob K H p) vs es → v ∈ vs → ∃ e ∈ es, Ob K H p v e
  | _, _, v, .nil, h => by cases h
  | _, _, v, .cons r t, h => by
    rcases List.mem_cons.mp h with rfl | h
    · exact ⟨_, List.mem_cons_self, r⟩
    · obtain ⟨e, h1, h2⟩ := mem_ob t h
      exact ⟨e, List.mem_cons_of_mem _ h1, h2⟩
theorem groBar {p : Addr} {Hs H H' : Hp} (sm : Gro Hs H) (h0 : Hs p = none) (b : Bar p H H') : Gro Hs H' where
  e := fun x o e nt => b x o (ne_of_none e h0) (sm.e x o e nt)
  n := fun x z => by
    by_cases e : x = p
    · rw [e]; exact h0
    · cases hx : Hs x with
      | none => rfl
      | some o =>
        cases hy : H x with
        | none => rw [sm.n x hy] at hx; cases hx
        | some o' => rw [b x o' e hy] at z; cases z
theorem tab_bar {p Pt : Addr} {H H' : Hp} {q : Str} (pn : Pen H p) (b : Bar p H H') (t : TabS H Pt q) : TabS H' Pt q := by
  obtain ⟨i, j, k, ep, _⟩ := pn
  obtain ⟨ps, h1, h2, h3⟩ := t
  refine ⟨ps, b _ _ (fun z => by rw [z, ep] at h1; cases h1) h1, h2, fun pos cv hc => ?_⟩
  obtain ⟨c, e1, e2⟩ := h3 pos cv hc
  refine ⟨c, e1, b _ _ (fun z => ?_) e2⟩
  rw [z, ep] at e2
  unfold CodeO at e2
  cases e2
theorem pen_new {p l : Addr} {H : Hp} (h : Pen H p) (hl : H l = none) : l ≠ p := fun e => by
  obtain ⟨i, j, k, z, _⟩ := h
  rw [← e, hl] at z
  cases z
theorem Pen.ext {p : Addr} {H H' : Hp} (e : ExtN H H') (h : Pen H p) : Pen H' p := by
  obtain ⟨i, j, k, z, r⟩ := h
  exact ⟨i, j, k, e _ _ z (fun ps y => by cases y), r⟩
def ls2 : List Str := ["X", "Y"]
def shz : List (Str × Nat) := [("one", 0), ("a", 0), ("box", 1), ("pair", 2), ("zzzzzzzz", 2)]
theorem menZ : Men ls2 shz := ⟨by decide +kernel, by decide +kernel, ⟨"one", by decide +kernel⟩, by decide, by decide⟩
end N

namespace N
open PySem PySem.Spec PyProof.Rows L2
section
variable {P : Program} {w : World} {K : PySem.W.Frag} {mg : Str → Option Value} {base : Heap}
theorem Shp.app {H : Hp} : ∀ {a b : List V} {x y : List (Str × Nat)}, Shp K H a x → Shp K H b y → Shp K H (a ++ b) (x ++ y)
  | _, _, _, _, .nil, r => r
  | _, _, _, _, .cons h t, r => .cons h (Shp.app t r)
theorem ok_kind_step {M : Nat} (G : Glo mg) (CD : Cal P w K mg base 1 "_law_draw" ["_law_pen_here", "_law_many"] (spDraw K)) (CP : Cal P w K mg base 2 "_law_pick" ["_law_pen_here", "_law_some"] (spPick K))
    (CK : Cal P w K mg base (M + 2) "_law_kind" ["_law_pen_here", "_law_letters", "_law_shapes", "_law_most"] (spKind K M))
    (D : DefAt K mg "_law_kind" s_Lkind ["_law_pen_here", "_law_letters", "_law_shapes", "_law_most"]) : Cal P w K mg base (M + 1 + 2) "_law_kind" ["_law_pen_here", "_law_letters", "_law_shapes", "_law_most"] (spKind K (M + 1)) := by
  refine D.cal sc_Lkind (fun vs H Q E h => ?_) (fun f cdv A outer s H vs Q E hr h => ?_)
  · obtain ⟨p, al, sl, ls, svs, ss, most, rfl, _⟩ := h
    rfl
  obtain ⟨p, al, sl, ls, svs, ss, most, rfl, hp, nal, nsl, hL, hS, hSh, hM, hmost, q⟩ := h
  have hr1 : RoomG 1 _ := hr.mono (by omega)
  have hr2 : RoomG 2 _ := hr.mono (by omega)
  refine ⟨_, pss_cons (ps_setLc (i := 4) (g := gTup K 2 (gCons (gName 5) (gCons (gName 6) gNil))) (own := [("_law_name", 5), ("_law_count", 6)]) (by rfl) sc_Lkind.nd rfl rfl (sw_true rfl rfl rfl (by decide +kernel)) (pi_list (pv 2)) (blkOk_by (N := nm_Lkind) (sc := defScope s_Lkind) (own := [("_law_name", 5), ("_law_count", 6)]) (by decide +kernel))
      (fun _ _ _ _ _ => pg_tup (by rfl) (pgs_cons (pg_name (i := 5) sc_Lkind.nd rfl (Or.inl rfl)) (pgs_cons (pg_name (i := 6) sc_Lkind.nd rfl (Or.inl rfl)) pgs_nil)))
      (fun _ _ _ _ _ => pts_one (pt_cmpR op_eq (pv 6) pe_int (nomark _))) (fun _ _ _ _ _ => pe_tup (pa_cons (pv 5) pa_nil)))
    (pss_cons (ps_if (PW.pt (pw_and (pt_cmpR op_eq (pv 3) pe_int (nomark _)) (pw_and1 (pt_cmpR (op_neD hr.units) (pv 1) (pe_lst pa_nil) (nomark _)))))
      (pss_one (ps_ret (pc CP hr2 rfl (pa_cons (pv 0) (pa_cons (pv 1) pa_nil))))) pss_nil)
    (pss_cons (ps_if (PW.pt (pw_or (pt_cmpR op_lt (pv 3) pe_int (nomark _)) (pw_or1 (PW.pt (pw_and (pt_cmpR (op_neD hr.units) (pv 1) (pe_lst pa_nil) (nomark _)) (pw_and1 (pt_cmpR op_eq (pc CD hr1 rfl (pa_cons (pv 0) (pa_cons pe_int pa_nil))) pe_int (nomark _))))))))
      (pss_one (ps_ret (pc CP hr2 rfl (pa_cons (pv 0) (pa_cons (pe_op op_cat (pe_op op_cat (pv 1) (pv 1)) (pv 4)) pa_nil))))) pss_nil)
    (pss_cons (ps_setLc (i := 7) (tt := tTest (tOp (rI0 fun i j => .bl (decide (i < j))) (tOp (rIxT K) (tVar 8) (tC (.int 1))) (tVar 3))) (own := [("_law_shape", 8)]) (by rfl) sc_Lkind.nd rfl rfl (sw_true rfl rfl rfl (by decide +kernel)) (pi_list (pv 2)) (blkOk_by (N := nm_Lkind) (sc := defScope s_Lkind) (own := [("_law_shape", 8)]) (by decide +kernel))
      (fun _ _ _ _ _ => pg_name (i := 8) sc_Lkind.nd rfl (Or.inl rfl)) (fun _ _ _ _ _ => pts_one (pt_cmpR op_lt (pe_ix ix_tup (pv 8) pe_int (fun _ _ => rfl)) (pv 3) (nomark _))) (fun _ _ _ _ _ => pv 8))
    (pss_cons (ps_asg (pc CP hr2 rfl (pa_cons (pv 0) (pa_cons (pv 7) pa_nil))) (pg_tup (by rfl) (pgs_cons (pg_name (i := 5) sc_Lkind.nd rfl (Or.inl rfl)) (pgs_cons (pg_name (i := 6) sc_Lkind.nd rfl (Or.inl rfl)) pgs_nil))))
    (pss_cons (ps_set (i := 9) sc_Lkind.nd rfl (Or.inl rfl) (pe_tup (pa_cons (pv 5) pa_nil)))
    (pss_cons (ps_for (passes_of rfl) rfl (pi_range1 rfl G.range (pa_cons (pv 6) pa_nil)) (pg_name (i := 10) sc_Lkind.nd rfl (Or.inl rfl))
      (pss_one (ps_set (i := 9) sc_Lkind.nd rfl (Or.inl rfl) (pe_op op_catT (pv 9) (pe_tup (pa_cons (pc CK hr rfl (pa_cons (pv 0) (pa_cons (pv 1) (pa_cons (pv 2) (pa_cons (pe_op op_fdivN (pe_op op_sub (pv 3) pe_int) (pv 6)) pa_nil))))) pa_nil))))))
    (pss_one (ps_ret (pv 9))))))))), ?_⟩
  refine ⟨_, rfl, sl, rfl, ⟨svs, hS⟩, fun D hD => ?_⟩
  refine lc_list (K := K) (a := sl) (xs := svs) (fun i H' => ∃ acc, Same H H' ∧ H' D = some (.lst acc) ∧ Kps K H' acc (bareK (ss.take i))) ⟨[], same_new hD _, upd_same, .nil⟩ (fun i H' _ ⟨acc, sm, _⟩ => sm.seq hS) (fun i x H' hx ⟨acc, sm, hacc, hk⟩ => ?_) (fun H1 ⟨acc, sm, hacc, hk⟩ => ?_)
  · obtain ⟨s, hs, t, rfl, ht⟩ := hSh.at hx
    have hsm := hM.s s (List.mem_of_getElem? hs)
    have hlen := Kps.length hk
    have hbl : (bareK (ss.take i)).length ≤ 100 := by
      unfold bareK
      rw [List.length_map]
      exact Nat.le_trans (List.length_filter_le ..) (by rw [List.length_take]; have := hM.sl; omega)
    refine ⟨t, _, rfl, (stay_same sm).tup _ _ ht, rfl, .str s.1, [.int (s.2 : Nat)], rfl, .int (s.2 : Nat), [], rfl, rfl, rfl, _, rfl, rfl, _, rfl, ite2 (fun c => ?_) (fun c => ?_)⟩
    · have c0 : s.2 = 0 := by have := V.int.inj (of_decide_eq_true c); omega
      refine ⟨_, rfl, by show 1 ≤ sizeLine; decide, fun p' hp' => ?_⟩
      have hDp : D ≠ p' := ne_of_none hacc hp'
      refine ⟨acc, by rw [upd_ne hDp]; exact hacc, Nat.lt_of_le_of_lt (show acc.length ≤ 100000 by omega) (by decide), acc ++ [.ref p'], same_mut (sm.trans (same_new hp' _)) hD, upd_same, ?_⟩
      rw [bareK_snoc hs, if_pos c0]
      have st : Stay K H' (upd H' p' (.tup [.str s.1])) := stay_new hp' _
      have h2 : (upd H' p' (.tup [.str s.1])) D = some (.lst acc) := by rw [upd_ne hDp]; exact hacc
      refine ThAll.stay (stay_lst h2) (Kps.app (ThAll.stay st hk) (.cons ?_ .nil))
      exact kp_mk (k := .C0 s.1) rfl (.inl (.inl upd_same)) (nam_len hsm.1) .nil
    · have c0 : ¬ s.2 = 0 := fun z => c (by rw [z]; rfl)
      refine ⟨acc, sm, hacc, ?_⟩
      rw [bareK_snoc hs, if_neg c0, List.append_nil]
      exact hk
  have hss : svs.length = ss.length := Paired.length hSh
  rw [hss, List.take_length] at hk
  have hp1 : Pen H1 p := hp.same sm
  have hL1 := sm.seq (K := K) (SqL.of hL)
  have hS1 := sm.seq hS
  have hSh1 := hSh.stay (stay_same (K := K) sm)
  have nDp : D ≠ p := fun e => by
    subst e
    obtain ⟨_, _, _, e, _⟩ := hp
    rw [hD] at e
    cases e
  have b1 : Bar p H H1 := bar_same sm
  have hne0 : ∀ (Hx : Hp) (o : Addr), Hx o = none → DpAll K (upd Hx o (.lst [])) [] [] := fun _ _ _ => .nil
  have eqn : (!PyData.eqv (.list (ls.map .str)) (.list [])) = !ls.isEmpty := by rw [eqv_letters]
  have sh0 : SeqAt.shaped (.list []) = true := by decide
  have hkl : ls = [] ∨ ls ≠ [] := by cases ls <;> simp
  have fin1 : ∀ (Hx : Hp) (x : V) (H' : Hp), Same H Hx → Bar p Hx H' → Pen H' p → x ∈ ls.map V.str → Q x H' := fun Hx x H' sx b pn hx => by
    obtain ⟨k, hk1, hk2⟩ := Kps.mem (K := K) (H := H') (kps_letters hM.l) hx
    obtain ⟨c, hc, rfl⟩ := List.mem_map.mp hk1
    exact q H' x _ ((bar_same sx).trans b) pn hk2 hc (by simp [Kd.nds])
  by_cases hA : most = 0 ∧ ls ≠ []
  · obtain ⟨hm0, hl0⟩ := hA
    subst hm0
    refine ⟨_, rfl, rfl, _, rfl, iteE (decide_eq_true rfl) ?_⟩
    refine ⟨_, rfl, by show 0 ≤ sizeLine; decide, fun o ho => ⟨_, _, .lst ((same_new ho _).seq hL1) (dp_letters ls), .lst (.inl (.inl upd_same)) .nil, shaped_letters hM.l, sh0, _, rfl, iteE (by rw [eqn]; cases ls <;> simp at *) ?_⟩⟩
    refine ⟨_, rfl, _, rfl, p, al, _, rfl, hp1.same (same_new ho _), nal, (same_new ho _).seq hL1, ?_, ?_, fun H' x b pn hx => fin1 _ x H' (sm.trans (same_new ho _)) b pn hx⟩
    · rw [List.length_map]
      exact List.length_pos_iff.mpr hl0
    · rw [List.length_map]
      have := hM.ll
      omega
  have hb0 : 0 < (bareK ss).length := by
    obtain ⟨n, hn⟩ := hM.z
    refine List.length_pos_iff.mpr fun e => ?_
    have : Kd.C0 n ∈ bareK ss := List.mem_map.mpr ⟨(n, 0), List.mem_filter.mpr ⟨hn, rfl⟩, rfl⟩
    rw [e] at this
    cases this
  have hbare : (bareK ss).length ≤ 100 := by
    unfold bareK
    rw [List.length_map]
    exact Nat.le_trans (List.length_filter_le ..) hM.sl
  have hL1' : H1 al = some (.lst (ls.map .str)) := sm _ _ hL
  by_cases hB : most < 2
  · by_cases hm0 : most = 0
    · subst hm0
      have hl0 : ls = [] := Classical.byContradiction fun z => hA ⟨rfl, z⟩
      refine ⟨_, rfl, rfl, _, rfl, iteE (decide_eq_true rfl) ?_⟩
      refine ⟨_, rfl, by show 0 ≤ sizeLine; decide, fun o ho => ⟨_, _, .lst ((same_new ho _).seq hL1) (dp_letters ls), .lst (.inl (.inl upd_same)) .nil, shaped_letters hM.l, sh0, _, rfl, iteN (by rw [eqn, hl0]; rfl) ?_⟩⟩
      refine ⟨_, rfl, _, _, rfl, rfl, _, rfl, iteE (decide_eq_true (by decide)) ?_⟩
      have sx := same_new ho (.lst [])
      have hLx := sx _ _ hL1'
      have hDx := sx _ _ hacc
      have hkx := ThAll.stay (stay_same sx) hk
      have hpx := hp1.same sx
      have bx := b1.trans (bar_same sx)
      refine ⟨_, rfl, _, rfl, _, rfl, al, al, _, _, rfl, rfl, hLx, hLx, ?_, fun o1 h1 => ?_⟩
      · rw [List.length_map]
        have := hM.ll
        exact sz5 (by omega)
      have nD1 : D ≠ o1 := ne_of_none hDx h1
      refine ⟨_, rfl, o1, D, _, _, rfl, rfl, upd_same, by rw [upd_ne nD1]; exact hDx, ?_, fun o2 h2 => ?_⟩
      · have h3 := Kps.length hkx
        have h4 := hM.ll
        have h5 := hbare
        rw [List.length_append, List.length_map]
        exact sz5 (by omega)
      have sx2 : Same _ _ := (same_new h1 _).trans (same_new h2 (.lst ((ls.map V.str ++ ls.map V.str) ++ acc)))
      have no2 : o2 ≠ p := fun e => by
        subst e
        obtain ⟨_, _, _, e, _⟩ := hpx.same (same_new h1 _)
        rw [h2] at e
        cases e
      refine ⟨p, o2, _, rfl, hpx.same sx2, no2, SqL.of upd_same, ?_, ?_, fun H' x b pn hx => ?_⟩
      · rw [List.length_append, List.length_append, List.length_map]
        have h3 := Kps.length hkx
        omega
      · rw [List.length_append, List.length_append, List.length_map]
        have h3 := Kps.length hkx
        have h4 := hM.ll
        omega
      · have hall : Kps K H' ((ls.map V.str ++ ls.map V.str) ++ acc) ((ls.map Kd.L ++ ls.map Kd.L) ++ bareK ss) :=
          Kps.app (Kps.app (kps_letters hM.l) (kps_letters hM.l)) (ThAll.stay ((stay_same sx2).trans (bar_stay b (hpx.same sx2) pn)) hkx)
        obtain ⟨k, hk1, hk2⟩ := Kps.mem hall hx
        refine q H' x k (bx.trans ((bar_same sx2).trans b)) pn hk2 ?_ ?_
        · rcases List.mem_append.mp hk1 with h | h
          · have h' : k ∈ ls.map Kd.L := by rcases List.mem_append.mp h with h | h <;> exact h
            obtain ⟨c, hc, rfl⟩ := List.mem_map.mp h'
            exact hc
          · unfold bareK at h
            obtain ⟨s, hs, rfl⟩ := List.mem_map.mp h
            obtain ⟨hs1, hs2⟩ := List.mem_filter.mp hs
            have hs3 : s.2 = 0 := by simpa using hs2
            show (s.1, 0) ∈ ss
            rw [← hs3]
            exact hs1
        · rcases List.mem_append.mp hk1 with h | h
          · have h' : k ∈ ls.map Kd.L := by rcases List.mem_append.mp h with h | h <;> exact h
            obtain ⟨c, hc, rfl⟩ := List.mem_map.mp h'
            simp [Kd.nds]
          · unfold bareK at h
            obtain ⟨s, hs, rfl⟩ := List.mem_map.mp h
            simp [Kd.nds]
    · refine ⟨_, rfl, rfl, _, rfl, iteN (decide_eq_false fun z => hm0 (by have := V.int.inj z; omega)) ?_⟩
      refine ⟨_, rfl, _, _, rfl, rfl, _, rfl, iteE (decide_eq_true (by omega)) ?_⟩
      have hLx := hL1'
      have hDx := hacc
      have hkx := hk
      have hpx := hp1
      have bx := b1
      refine ⟨_, rfl, _, rfl, _, rfl, al, al, _, _, rfl, rfl, hLx, hLx, ?_, fun o1 h1 => ?_⟩
      · rw [List.length_map]
        have := hM.ll
        exact sz5 (by omega)
      have nD1 : D ≠ o1 := ne_of_none hDx h1
      refine ⟨_, rfl, o1, D, _, _, rfl, rfl, upd_same, by rw [upd_ne nD1]; exact hDx, ?_, fun o2 h2 => ?_⟩
      · have h3 := Kps.length hkx
        have h4 := hM.ll
        have h5 := hbare
        rw [List.length_append, List.length_map]
        exact sz5 (by omega)
      have sx2 : Same _ _ := (same_new h1 _).trans (same_new h2 (.lst ((ls.map V.str ++ ls.map V.str) ++ acc)))
      have no2 : o2 ≠ p := fun e => by
        subst e
        obtain ⟨_, _, _, e, _⟩ := hpx.same (same_new h1 _)
        rw [h2] at e
        cases e
      refine ⟨p, o2, _, rfl, hpx.same sx2, no2, SqL.of upd_same, ?_, ?_, fun H' x b pn hx => ?_⟩
      · rw [List.length_append, List.length_append, List.length_map]
        have h3 := Kps.length hkx
        omega
      · rw [List.length_append, List.length_append, List.length_map]
        have h3 := Kps.length hkx
        have h4 := hM.ll
        omega
      · have hall : Kps K H' ((ls.map V.str ++ ls.map V.str) ++ acc) ((ls.map Kd.L ++ ls.map Kd.L) ++ bareK ss) :=
          Kps.app (Kps.app (kps_letters hM.l) (kps_letters hM.l)) (ThAll.stay ((stay_same sx2).trans (bar_stay b (hpx.same sx2) pn)) hkx)
        obtain ⟨k, hk1, hk2⟩ := Kps.mem hall hx
        refine q H' x k (bx.trans ((bar_same sx2).trans b)) pn hk2 ?_ ?_
        · rcases List.mem_append.mp hk1 with h | h
          · have h' : k ∈ ls.map Kd.L := by rcases List.mem_append.mp h with h | h <;> exact h
            obtain ⟨c, hc, rfl⟩ := List.mem_map.mp h'
            exact hc
          · unfold bareK at h
            obtain ⟨s, hs, rfl⟩ := List.mem_map.mp h
            obtain ⟨hs1, hs2⟩ := List.mem_filter.mp hs
            have hs3 : s.2 = 0 := by simpa using hs2
            show (s.1, 0) ∈ ss
            rw [← hs3]
            exact hs1
        · rcases List.mem_append.mp hk1 with h | h
          · have h' : k ∈ ls.map Kd.L := by rcases List.mem_append.mp h with h | h <;> exact h
            obtain ⟨c, hc, rfl⟩ := List.mem_map.mp h'
            simp [Kd.nds]
          · unfold bareK at h
            obtain ⟨s, hs, rfl⟩ := List.mem_map.mp h
            simp [Kd.nds]
  refine ⟨_, rfl, rfl, _, rfl, iteN (decide_eq_false fun z => hB (by have := V.int.inj z; omega)) ?_⟩
  refine ⟨_, rfl, _, _, rfl, rfl, _, rfl, iteN (decide_eq_false (by omega)) ?_⟩
  refine ⟨_, rfl, by show 0 ≤ sizeLine; decide, fun o ho => ⟨_, _, .lst ((same_new ho _).seq hL1) (dp_letters ls), .lst (.inl (.inl upd_same)) .nil, shaped_letters hM.l, sh0, _, rfl, ?_⟩⟩
  rw [eqn]
  have so := same_new ho (.lst [])
  rcases hkl with hl0 | hl0
  · refine iteN (by rw [hl0]; rfl) ?_
    obtain ⟨Hx, eHx⟩ : ∃ Hx, Hx = upd H1 o (.lst []) := ⟨_, rfl⟩
    rw [← eHx]
    rw [← eHx] at so
    have hSx := so.seq hS1
    have hShx := hSh1.stay (stay_same (K := K) so)
    have hpx := hp1.same so
    have bx := b1.trans (bar_same so)
    refine ⟨_, rfl, sl, rfl, ⟨svs, hSx⟩, fun D2 hD2 => ?_⟩
    refine lc_list (K := K) (a := sl) (xs := svs) (fun i H' => ∃ acc2 ss2, Same Hx H' ∧ H' D2 = some (.lst acc2) ∧ Shp K H' acc2 ss2 ∧ (∀ s ∈ ss2, s ∈ ss ∧ s.2 < most) ∧ (∀ s ∈ ss.take i, s.2 < most → s ∈ ss2) ∧ acc2.length ≤ i) ⟨[], [], same_new hD2 _, upd_same, .nil, fun s h => (by cases h), fun s h => (by simp at h), Nat.le_refl _⟩ (fun i H' _ ⟨acc2, ss2, sm2, _⟩ => sm2.seq hSx) (fun i x H' hx ⟨acc2, ss2, sm2, hacc2, hs2, h3, h4, h5⟩ => ?_) (fun Hy ⟨acc2, ss2, sm2, hacc2, hs2, h3, h4, h5⟩ => ?_)
    · obtain ⟨s, hs, t, rfl, ht⟩ := hShx.at hx
      have hi : i < svs.length := (List.getElem?_eq_some_iff.mp hx).1
      have htk : ss.take (i + 1) = ss.take i ++ [s] := by rw [List.take_add_one, hs]; rfl
      refine ⟨rfl, _, rfl, t, _, 1, .int (s.2 : Nat), rfl, rfl, (stay_same sm2).tup _ _ ht, atI_nat (j := 1) rfl, _, rfl, _, _, rfl, rfl, _, rfl, ite2 (fun c => ?_) (fun c => ?_)⟩
      · have c0 : s.2 < most := by have := of_decide_eq_true c; omega
        refine ⟨_, rfl, acc2, hacc2, ?_, acc2 ++ [.ref t], ss2 ++ [s], same_mut sm2 hD2, upd_same, ?_, ?_, ?_, ?_⟩
        · have := hM.sl
          have : svs.length = ss.length := Paired.length hSh
          exact Nat.lt_of_le_of_lt (show acc2.length ≤ 100000 by omega) (by decide)
        · exact Shp.app (hs2.stay (stay_lst hacc2)) (.cons ⟨t, rfl, (stay_lst hacc2).tup _ _ ((stay_same sm2).tup _ _ ht)⟩ .nil)
        · intro z hz
          rcases List.mem_append.mp hz with h | h
          · exact h3 z h
          · rw [List.mem_singleton.mp h]
            exact ⟨List.mem_of_getElem? hs, c0⟩
        · intro z hz hz2
          rw [htk] at hz
          rcases List.mem_append.mp hz with h | h
          · exact List.mem_append_left _ (h4 z h hz2)
          · exact List.mem_append_right _ h
        · rw [List.length_append, List.length_singleton]; omega
      · have c0 : ¬ s.2 < most := fun z => c (decide_eq_true (by omega))
        refine ⟨acc2, ss2, sm2, hacc2, hs2, h3, ?_, by omega⟩
        intro z hz hz2
        rw [htk] at hz
        rcases List.mem_append.mp hz with h | h
        · exact h4 z h hz2
        · rw [List.mem_singleton.mp h] at hz2
          exact absurd hz2 c0
    rw [hss, List.take_length] at h4
    have hlen2 : acc2.length = ss2.length := Paired.length hs2
    have hpos : 0 < ss2.length := by
      obtain ⟨n, hn⟩ := hM.z
      exact List.length_pos_of_mem (h4 (n, 0) hn (by show 0 < most; omega))
    have nD2 : D2 ≠ p := fun e => by
      subst e
      obtain ⟨_, _, _, e, _⟩ := hpx
      rw [hD2] at e
      cases e
    refine ⟨_, rfl, _, rfl, p, D2, _, rfl, hpx.same sm2, nD2, SqL.of hacc2, by omega, by have := hM.sl; omega, fun Hz x bz pnz hx => ?_⟩
    obtain ⟨j, hj⟩ := List.mem_iff_getElem?.mp hx
    obtain ⟨s, hs, t, rfl, ht⟩ := (hs2.stay (bar_stay (K := K) bz (hpx.same sm2) pnz)).at hj
    obtain ⟨hs3, hs4⟩ := h3 s (List.mem_of_getElem? hs)
    have hsm := hM.s s hs3
    refine ⟨t, _, rfl, ht, rfl, .str s.1, [.int (s.2 : Nat)], rfl, .int (s.2 : Nat), [], rfl, rfl, ?_⟩
    refine ⟨_, rfl, by show 1 ≤ sizeLine; decide, fun F hF => ?_⟩
    have bz2 : Bar p H Hz := bx.trans ((bar_same sm2).trans bz)
    refine ⟨_, rfl, _, rfl, by omega, by omega, ?_⟩
    refine for_range (n := ((s.2 : Nat) : Int).toNat) (fun i σ H' => ∃ F' xs ks y8 y10, σ = [some (.ref p), some (.ref al), some (.ref sl), some (.int (most : Nat)), some (.ref D), some (.str s.1), some (.int (s.2 : Nat)), some (.ref D2), y8, some (.ref F'), y10] ∧ Bar p H H' ∧ Pen H' p ∧
        SqT K H' F' (.str s.1 :: xs) ∧ Kps K H' xs ks ∧ ks.length = i ∧ ∀ k ∈ ks, k.of ls ss ∧ k.nds ≤ 2 * ((most - 1) / s.2) + 1)
      ⟨F, [], [], _, _, rfl, bz2.trans (bar_same (same_new hF _)), pnz.same (same_new hF _), .inl (.inl upd_same), .nil, rfl, fun k h => (by cases h)⟩ (fun i σ H' hi ⟨F', xs, ks, y8, y10, eσ, b', pn', hF', hk', hl', hall⟩ => ?_) (fun σ H' ⟨F', xs, ks, y8, y10, eσ, b', pn', hF', hk', hl', hall⟩ => ?_)
    · subst eσ
      have hc1 : 0 < s.2 := by omega
      have hml : ((most : Nat) : Int) - 1 = ((most - 1 : Nat) : Int) := by omega
      have e3 : (((most : Nat) : Int) - 1).fdiv ((s.2 : Nat) : Int) = (((most - 1) / s.2 : Nat) : Int) := by
        rw [hml, Int.fdiv_eq_ediv_of_nonneg _ (by omega)]
        rfl
      have hdiv : (most - 1) / s.2 < M := Nat.lt_of_le_of_lt (Nat.div_le_self _ _) (by omega)
      refine ⟨_, rfl, _, rfl, _, rfl, _, rfl, _, rfl, _, _, rfl, rfl, _, rfl, _, _, rfl, rfl, ⟨by omega, by omega⟩, ?_⟩
      refine ⟨p, al, sl, ls, svs, ss, (most - 1) / s.2, by rw [← e3], pn', nal, nsl, b' _ _ nal hL, bar_seq b' nsl hS, hSh.stay (bar_stay b' hp pn'), hM, hdiv, fun H2 v k b2 pn2 hk2 hof hnd => ?_⟩
      refine ⟨by show 1 ≤ sizeLine; decide, fun t2 ht2 => ?_⟩
      have st2 : Stay K H' (upd H2 t2 (.tup [v])) := (bar_stay b2 pn' pn2).trans (stay_new ht2 _)
      have hxl := Kps.length hk'
      refine ⟨F', t2, _, _, rfl, rfl, st2.tup _ _ hF', .inl (.inl upd_same), by simp, by rw [List.length_cons, List.length_singleton]; exact sz5 (by omega), fun z => (by cases z), fun _ p3 hp3 => ?_⟩
      have st3 : Stay K (upd H2 t2 (.tup [v])) (upd (upd H2 t2 (.tup [v])) p3 (.tup ((.str s.1 :: xs) ++ [v]))) := stay_new hp3 _
      refine ⟨p3, xs ++ [v], ks ++ [k], _, _, rfl, b'.trans (b2.trans (bar_same ((same_new ht2 _).trans (same_new hp3 _)))), pn2.same ((same_new ht2 _).trans (same_new hp3 _)), .inl (.inl upd_same), Kps.app (ThAll.stay (st2.trans st3) hk') (.cons (hk2.stay ((stay_new ht2 _).trans st3)) .nil), by rw [List.length_append, hl']; rfl, fun z hz => ?_⟩
      rcases List.mem_append.mp hz with h | h
      · exact hall z h
      · rw [List.mem_singleton.mp h]
        exact ⟨hof, hnd⟩
    · subst eσ
      have hl2 : ks.length = s.2 := by omega
      have hl3 : ks.length ≤ 2 := by omega
      refine ⟨_, rfl, q H' _ (mkK s.1 ks) b' pn' ?_ ?_ ?_⟩
      · refine kp_mk (xs := xs) (mkK_nm _ _).2 ?_ ?_ ?_
        · rw [(mkK_nm s.1 ks).1]
          exact hF'
        · rw [(mkK_nm s.1 ks).1]
          exact nam_len hsm.1
        · rw [mkK_args _ _ hl3]
          exact hk'
      · refine mkK_of hl3 ?_ fun k hk => (hall k hk).1
        rw [hl2]
        exact hs3
      · refine mkK_nds hl3 (by omega) fun k hk => ?_
        rw [hl2]
        exact (hall k hk).2
  · refine iteE (by cases ls <;> simp at *) ?_
    refine ⟨_, rfl, p, 3, rfl, hp1.same so, by decide, by decide, fun Hx r bd hpx r0 r1 => ⟨rfl, _, rfl, ite2 (fun c => ?_) (fun c => ?_)⟩⟩
    · have bx : Bar p H Hx := b1.trans ((bar_same so).trans bd)
      have hLx : Hx al = some (.lst (ls.map .str)) := bx _ _ nal hL
      have hDx : Hx D = some (.lst acc) := bd _ _ nDp (so _ _ hacc)
      have hkx := ThAll.stay ((stay_same so).trans (bar_stay bd (hp1.same so) hpx)) hk
      refine ⟨_, rfl, _, rfl, _, rfl, al, al, _, _, rfl, rfl, hLx, hLx, ?_, fun o1 h1 => ?_⟩
      · rw [List.length_map]
        have := hM.ll
        exact sz5 (by omega)
      have nD1 : D ≠ o1 := ne_of_none hDx h1
      refine ⟨_, rfl, o1, D, _, _, rfl, rfl, upd_same, by rw [upd_ne nD1]; exact hDx, ?_, fun o2 h2 => ?_⟩
      · have h3 := Kps.length hkx
        have h4 := hM.ll
        have h5 := hbare
        rw [List.length_append, List.length_map]
        exact sz5 (by omega)
      have sx2 : Same _ _ := (same_new h1 _).trans (same_new h2 (.lst ((ls.map V.str ++ ls.map V.str) ++ acc)))
      have no2 : o2 ≠ p := fun e => by
        subst e
        obtain ⟨_, _, _, e, _⟩ := hpx.same (same_new h1 _)
        rw [h2] at e
        cases e
      refine ⟨p, o2, _, rfl, hpx.same sx2, no2, SqL.of upd_same, ?_, ?_, fun H' x b pn hx => ?_⟩
      · rw [List.length_append, List.length_append, List.length_map]
        have h3 := Kps.length hkx
        omega
      · rw [List.length_append, List.length_append, List.length_map]
        have h3 := Kps.length hkx
        have h4 := hM.ll
        omega
      · have hall : Kps K H' ((ls.map V.str ++ ls.map V.str) ++ acc) ((ls.map Kd.L ++ ls.map Kd.L) ++ bareK ss) :=
          Kps.app (Kps.app (kps_letters hM.l) (kps_letters hM.l)) (ThAll.stay ((stay_same sx2).trans (bar_stay b (hpx.same sx2) pn)) hkx)
        obtain ⟨k, hk1, hk2⟩ := Kps.mem hall hx
        refine q H' x k (bx.trans ((bar_same sx2).trans b)) pn hk2 ?_ ?_
        · rcases List.mem_append.mp hk1 with h | h
          · have h' : k ∈ ls.map Kd.L := by rcases List.mem_append.mp h with h | h <;> exact h
            obtain ⟨c, hc, rfl⟩ := List.mem_map.mp h'
            exact hc
          · unfold bareK at h
            obtain ⟨s, hs, rfl⟩ := List.mem_map.mp h
            obtain ⟨hs1, hs2⟩ := List.mem_filter.mp hs
            have hs3 : s.2 = 0 := by simpa using hs2
            show (s.1, 0) ∈ ss
            rw [← hs3]
            exact hs1
        · rcases List.mem_append.mp hk1 with h | h
          · have h' : k ∈ ls.map Kd.L := by rcases List.mem_append.mp h with h | h <;> exact h
            obtain ⟨c, hc, rfl⟩ := List.mem_map.mp h'
            simp [Kd.nds]
          · unfold bareK at h
            obtain ⟨s, hs, rfl⟩ := List.mem_map.mp h
            simp [Kd.nds]
    · have bx : Bar p H Hx := b1.trans ((bar_same so).trans bd)
      have hSx := bar_seq bx nsl hS
      have hShx := hSh.stay (bar_stay (K := K) bx hp hpx)
      refine ⟨_, rfl, sl, rfl, ⟨svs, hSx⟩, fun D2 hD2 => ?_⟩
      refine lc_list (K := K) (a := sl) (xs := svs) (fun i H' => ∃ acc2 ss2, Same Hx H' ∧ H' D2 = some (.lst acc2) ∧ Shp K H' acc2 ss2 ∧ (∀ s ∈ ss2, s ∈ ss ∧ s.2 < most) ∧ (∀ s ∈ ss.take i, s.2 < most → s ∈ ss2) ∧ acc2.length ≤ i) ⟨[], [], same_new hD2 _, upd_same, .nil, fun s h => (by cases h), fun s h => (by simp at h), Nat.le_refl _⟩ (fun i H' _ ⟨acc2, ss2, sm2, _⟩ => sm2.seq hSx) (fun i x H' hx ⟨acc2, ss2, sm2, hacc2, hs2, h3, h4, h5⟩ => ?_) (fun Hy ⟨acc2, ss2, sm2, hacc2, hs2, h3, h4, h5⟩ => ?_)
      · obtain ⟨s, hs, t, rfl, ht⟩ := hShx.at hx
        have hi : i < svs.length := (List.getElem?_eq_some_iff.mp hx).1
        have htk : ss.take (i + 1) = ss.take i ++ [s] := by rw [List.take_add_one, hs]; rfl
        refine ⟨rfl, _, rfl, t, _, 1, .int (s.2 : Nat), rfl, rfl, (stay_same sm2).tup _ _ ht, atI_nat (j := 1) rfl, _, rfl, _, _, rfl, rfl, _, rfl, ite2 (fun c => ?_) (fun c => ?_)⟩
        · have c0 : s.2 < most := by have := of_decide_eq_true c; omega
          refine ⟨_, rfl, acc2, hacc2, ?_, acc2 ++ [.ref t], ss2 ++ [s], same_mut sm2 hD2, upd_same, ?_, ?_, ?_, ?_⟩
          · have := hM.sl
            have : svs.length = ss.length := Paired.length hSh
            exact Nat.lt_of_le_of_lt (show acc2.length ≤ 100000 by omega) (by decide)
          · exact Shp.app (hs2.stay (stay_lst hacc2)) (.cons ⟨t, rfl, (stay_lst hacc2).tup _ _ ((stay_same sm2).tup _ _ ht)⟩ .nil)
          · intro z hz
            rcases List.mem_append.mp hz with h | h
            · exact h3 z h
            · rw [List.mem_singleton.mp h]
              exact ⟨List.mem_of_getElem? hs, c0⟩
          · intro z hz hz2
            rw [htk] at hz
            rcases List.mem_append.mp hz with h | h
            · exact List.mem_append_left _ (h4 z h hz2)
            · exact List.mem_append_right _ h
          · rw [List.length_append, List.length_singleton]; omega
        · have c0 : ¬ s.2 < most := fun z => c (decide_eq_true (by omega))
          refine ⟨acc2, ss2, sm2, hacc2, hs2, h3, ?_, by omega⟩
          intro z hz hz2
          rw [htk] at hz
          rcases List.mem_append.mp hz with h | h
          · exact h4 z h hz2
          · rw [List.mem_singleton.mp h] at hz2
            exact absurd hz2 c0
      rw [hss, List.take_length] at h4
      have hlen2 : acc2.length = ss2.length := Paired.length hs2
      have hpos : 0 < ss2.length := by
        obtain ⟨n, hn⟩ := hM.z
        exact List.length_pos_of_mem (h4 (n, 0) hn (by show 0 < most; omega))
      have nD2 : D2 ≠ p := fun e => by
        subst e
        obtain ⟨_, _, _, e, _⟩ := hpx
        rw [hD2] at e
        cases e
      refine ⟨_, rfl, _, rfl, p, D2, _, rfl, hpx.same sm2, nD2, SqL.of hacc2, by omega, by have := hM.sl; omega, fun Hz x bz pnz hx => ?_⟩
      obtain ⟨j, hj⟩ := List.mem_iff_getElem?.mp hx
      obtain ⟨s, hs, t, rfl, ht⟩ := (hs2.stay (bar_stay (K := K) bz (hpx.same sm2) pnz)).at hj
      obtain ⟨hs3, hs4⟩ := h3 s (List.mem_of_getElem? hs)
      have hsm := hM.s s hs3
      refine ⟨t, _, rfl, ht, rfl, .str s.1, [.int (s.2 : Nat)], rfl, .int (s.2 : Nat), [], rfl, rfl, ?_⟩
      refine ⟨_, rfl, by show 1 ≤ sizeLine; decide, fun F hF => ?_⟩
      have bz2 : Bar p H Hz := bx.trans ((bar_same sm2).trans bz)
      refine ⟨_, rfl, _, rfl, by omega, by omega, ?_⟩
      refine for_range (n := ((s.2 : Nat) : Int).toNat) (fun i σ H' => ∃ F' xs ks y8 y10, σ = [some (.ref p), some (.ref al), some (.ref sl), some (.int (most : Nat)), some (.ref D), some (.str s.1), some (.int (s.2 : Nat)), some (.ref D2), y8, some (.ref F'), y10] ∧ Bar p H H' ∧ Pen H' p ∧
          SqT K H' F' (.str s.1 :: xs) ∧ Kps K H' xs ks ∧ ks.length = i ∧ ∀ k ∈ ks, k.of ls ss ∧ k.nds ≤ 2 * ((most - 1) / s.2) + 1)
        ⟨F, [], [], _, _, rfl, bz2.trans (bar_same (same_new hF _)), pnz.same (same_new hF _), .inl (.inl upd_same), .nil, rfl, fun k h => (by cases h)⟩ (fun i σ H' hi ⟨F', xs, ks, y8, y10, eσ, b', pn', hF', hk', hl', hall⟩ => ?_) (fun σ H' ⟨F', xs, ks, y8, y10, eσ, b', pn', hF', hk', hl', hall⟩ => ?_)
      · subst eσ
        have hc1 : 0 < s.2 := by omega
        have hml : ((most : Nat) : Int) - 1 = ((most - 1 : Nat) : Int) := by omega
        have e3 : (((most : Nat) : Int) - 1).fdiv ((s.2 : Nat) : Int) = (((most - 1) / s.2 : Nat) : Int) := by
          rw [hml, Int.fdiv_eq_ediv_of_nonneg _ (by omega)]
          rfl
        have hdiv : (most - 1) / s.2 < M := Nat.lt_of_le_of_lt (Nat.div_le_self _ _) (by omega)
        refine ⟨_, rfl, _, rfl, _, rfl, _, rfl, _, rfl, _, _, rfl, rfl, _, rfl, _, _, rfl, rfl, ⟨by omega, by omega⟩, ?_⟩
        refine ⟨p, al, sl, ls, svs, ss, (most - 1) / s.2, by rw [← e3], pn', nal, nsl, b' _ _ nal hL, bar_seq b' nsl hS, hSh.stay (bar_stay b' hp pn'), hM, hdiv, fun H2 v k b2 pn2 hk2 hof hnd => ?_⟩
        refine ⟨by show 1 ≤ sizeLine; decide, fun t2 ht2 => ?_⟩
        have st2 : Stay K H' (upd H2 t2 (.tup [v])) := (bar_stay b2 pn' pn2).trans (stay_new ht2 _)
        have hxl := Kps.length hk'
        refine ⟨F', t2, _, _, rfl, rfl, st2.tup _ _ hF', .inl (.inl upd_same), by simp, by rw [List.length_cons, List.length_singleton]; exact sz5 (by omega), fun z => (by cases z), fun _ p3 hp3 => ?_⟩
        have st3 : Stay K (upd H2 t2 (.tup [v])) (upd (upd H2 t2 (.tup [v])) p3 (.tup ((.str s.1 :: xs) ++ [v]))) := stay_new hp3 _
        refine ⟨p3, xs ++ [v], ks ++ [k], _, _, rfl, b'.trans (b2.trans (bar_same ((same_new ht2 _).trans (same_new hp3 _)))), pn2.same ((same_new ht2 _).trans (same_new hp3 _)), .inl (.inl upd_same), Kps.app (ThAll.stay (st2.trans st3) hk') (.cons (hk2.stay ((stay_new ht2 _).trans st3)) .nil), by rw [List.length_append, hl']; rfl, fun z hz => ?_⟩
        rcases List.mem_append.mp hz with h | h
        · exact hall z h
        · rw [List.mem_singleton.mp h]
          exact ⟨hof, hnd⟩
      · subst eσ
        have hl2 : ks.length = s.2 := by omega
        have hl3 : ks.length ≤ 2 := by omega
        refine ⟨_, rfl, q H' _ (mkK s.1 ks) b' pn' ?_ ?_ ?_⟩
        · refine kp_mk (xs := xs) (mkK_nm _ _).2 ?_ ?_ ?_
          · rw [(mkK_nm s.1 ks).1]
            exact hF'
          · rw [(mkK_nm s.1 ks).1]
            exact nam_len hsm.1
          · rw [mkK_args _ _ hl3]
            exact hk'
        · refine mkK_of hl3 ?_ fun k hk => (hall k hk).1
          rw [hl2]
          exact hs3
        · refine mkK_nds hl3 (by omega) fun k hk => ?_
          rw [hl2]
          exact (hall k hk).2
end
end N

namespace N
open PySem PySem.Spec PyProof.Rows L2
section
variable {P : Program} {w : World} {K : PySem.W.Frag} {mg : Str → Option Value} {base : Heap}
theorem ok_kind (G : Glo mg) (CD : Cal P w K mg base 1 "_law_draw" ["_law_pen_here", "_law_many"] (spDraw K)) (CP : Cal P w K mg base 2 "_law_pick" ["_law_pen_here", "_law_some"] (spPick K))
    (D : DefAt K mg "_law_kind" s_Lkind ["_law_pen_here", "_law_letters", "_law_shapes", "_law_most"]) : ∀ M : Nat, Cal P w K mg base (M + 2) "_law_kind" ["_law_pen_here", "_law_letters", "_law_shapes", "_law_most"] (spKind K M)
  | 0 => kind_none D
  | M + 1 => ok_kind_step G CD CP (ok_kind G CD CP D M) D
end
end N

namespace N
open PySem PySem.Spec PyProof.Rows L2 L2H StX LamX NdefX
theorem tgEq : ∀ {a b : Kd}, a.tg = b.tg → a = b
  | .L c, .L d, h => by
    have h' : Tg.str c = Tg.str d := h
    rw [Tg.str.inj h']
  | .L c, .C0 _, h => by cases h
  | .L c, .C1 _ _, h => by cases h
  | .L c, .C2 _ _ _, h => by cases h
  | .C0 _, .L c, h => by cases h
  | .C1 _ _, .L c, h => by cases h
  | .C2 _ _ _, .L c, h => by cases h
  | .C0 n, .C0 m, h => by
    have h' := Tg.tup.inj h
    simp only [List.cons.injEq, Tg.str.injEq, and_true] at h'
    rw [h']
  | .C0 _, .C1 _ _, h => by have h' := Tg.tup.inj h; simp at h'
  | .C0 _, .C2 _ _ _, h => by have h' := Tg.tup.inj h; simp at h'
  | .C1 _ _, .C0 _, h => by have h' := Tg.tup.inj h; simp at h'
  | .C2 _ _ _, .C0 _, h => by have h' := Tg.tup.inj h; simp at h'
  | .C1 _ _, .C2 _ _ _, h => by have h' := Tg.tup.inj h; simp at h'
  | .C2 _ _ _, .C1 _ _, h => by have h' := Tg.tup.inj h; simp at h'
  | .C1 n a, .C1 m b, h => by
    have h' := Tg.tup.inj h
    simp only [List.cons.injEq, Tg.str.injEq, and_true] at h'
    rw [h'.1, tgEq h'.2]
  | .C2 n a b, .C2 m c d, h => by
    have h' := Tg.tup.inj h
    simp only [List.cons.injEq, Tg.str.injEq, and_true] at h'
    rw [h'.1, tgEq h'.2.1, tgEq h'.2.2]
section
variable {P : Program} {w : World} {K : PySem.W.Frag} {mg : Str → Option Value} {base : Heap} {c : Nat → Addr}
/-- what stays while the law runs -/
structure LG (P1 P2 : Addr) (H H' : Hp) : Prop where
  g : Gro H H'
  t1 : TabS H' P1 tqR
  t2 : TabS H' P2 tqL
namespace LG
variable {p P1 P2 : Addr} {H H1 H2 : Hp}
theorem same (a : LG P1 P2 H H1) (s : Same H1 H2) : LG P1 P2 H H2 := ⟨a.g.trans (Gro.of s), a.t1.ext s, a.t2.ext s⟩
theorem bar (a : LG P1 P2 H H1) (h0 : H p = none) (pn : Pen H1 p) (b : Bar p H1 H2) : LG P1 P2 H H2 := ⟨groBar a.g h0 b, tab_bar pn b a.t1, tab_bar pn b a.t2⟩
theorem gro (n : P1 ≠ P2) (a : LG P1 P2 H H1) (g : GroP P1 H1 H2) (t : TabS H2 P1 tqR) : LG P1 P2 H H2 :=
  ⟨a.g.trans g.g, t, g.x.tab (Ne.symm n) (by obtain ⟨ps, h, _⟩ := a.t1; exact ⟨ps, h⟩) a.t2⟩
theorem lam (n : P1 ≠ P2) (a : LG P1 P2 H H1) (x : ExtP P2 H1 H2) (e : ExtN H1 H2) (t : TabS H2 P2 tqL) (z : ∀ b, H2 b = none → H1 b = none) : LG P1 P2 H H2 :=
  ⟨a.g.trans ⟨e, z⟩, x.tab n (by obtain ⟨ps, h, _⟩ := a.t2; exact ⟨ps, h⟩) a.t1, t⟩
end LG
def spLaw3 (K : PySem.W.Frag) (P1 P2 : Addr) : Sp := fun vs H Q _ => ∃ (a : Addr) (ns : List Int), vs = [.ref a] ∧ SqL K H a (ns.map V.int) ∧ ns.length ≤ 63 ∧ TabS H P1 tqR ∧ TabS H P2 tqL ∧ ∀ H', Q (.bl true) H'
theorem ok_law3 {ke cc P1 P2 f : Addr} {oc kV doc pm ct : Value} {od an : Option Addr} {osl : Array (Option Value)} (G : Glo mg) (nP : P1 ≠ P2) (TB : TabB base mg cc P2)
    (CC : Cal P w K mg base 1 "_law_cell_at" ["_law_script", "_law_k"] (spCell K)) (CP : Cal P w K mg base 1 "_law_pen" ["_law_cell"] (spPen K)) (CD : Cal P w K mg base 1 "_law_draw" ["_law_pen_here", "_law_many"] (spDraw K))
    (CK : Cal P w K mg base 15 "_law_kind" ["_law_pen_here", "_law_letters", "_law_shapes", "_law_most"] (spKind K 13)) (CO : Cal P w K mg base 1 "_law_odd" [] (spOdd K)) (CL : Cal P w K mg base 31 "_law_text" ["_law_kind_here"] (spLText K 30))
    (CE : Cal P w K mg base 1 "_law_same" ["_law_found", "_law_due_here"] (spSameD K)) (CG : Cal P w K mg base 3 "_law_changed" ["_law_pen_here", "_law_words"] (spChanged K)) (CI : Cal P w K mg base 31 "_law_is_kind" ["_law_thing"] (spIsK K 30))
    (CT : Cal P w K mg base 5 "text" ["kind"] (spTextX K (c 0))) (CR : Cal P w K mg base 3 "read" ["text"] (spReadX K (c 2))) (CZ : Cal P w K mg base 59 "_law_is_right" ["_law_words"] (spRight K P1))
    (CW : CalP P w K mg base 1 "_law_word" ["_law_e"] (spWordP c)) (gk : mg "KindError" = some (.ref ke)) (hx : ∀ i, i < 13 → PySem.W.exmOne K (.ref (c i)) (.ref ke) = some true)
    (DS : DefAt K mg "_law_said" s_Lsaid ["_law_call"])
    (lk : K.lookup f = some ⟨oc, od, .func (PySem.W.fnOf "law" "law" (defArgs s_law) (defBody s_law) (defScope s_law) .none kV doc pm an (.ref cc) ct), osl⟩) (hcd : PySem.W.codeIn K (.ref cc) "law" = true) :
    FnG P w K mg base (L2.CX P w) 60 f (PySem.W.fnOf "law" "law" (defArgs s_law) (defBody s_law) (defScope s_law) .none kV doc pm an (.ref cc) ct) ["_law_script"] (spLaw3 K P1 P2) := by
  have len : ∀ vs H Q E, spLaw3 K P1 P2 vs H Q E → vs.length = (["_law_script"] : List Str).length := fun vs H Q E h => by
    obtain ⟨a, ns, rfl, _⟩ := h
    rfl
  refine ⟨len, fun A outer s H args us vs Q E hr0 e0 bt r hsp => run_ofS lk hcd sc_law hr0.toRoom e0 bt r (len _ _ _ _ hsp) fun hr' => ?_⟩
  have hr : RoomG 59 (A.deeper (envOfC "law" (defScope s_law) s.heap.objs.size f (.ref cc))) := ⟨hr', hr0.gs⟩
  obtain ⟨a, ns, rfl, hS, hlen, tt1, tt2, q⟩ := hsp
  have hr1 : RoomG 1 _ := hr.mono (by decide)
  have hr3 : RoomG 3 _ := hr.mono (by decide)
  have hr5 : RoomG 5 _ := hr.mono (by decide)
  have hr7 : RoomG (6 + 1) (A.deeper (envOfC "law" (defScope s_law) s.heap.objs.size f (.ref cc))) := hr.mono (by decide)
  have hr15 : RoomG 15 _ := hr.mono (by decide)
  have hr31 : RoomG 31 _ := hr.mono (by decide)
  refine ⟨_, pss_cons (ps_set (i := 1) sc_law.nd rfl (Or.inl rfl) (pe_lst (pa_cons (pe_tup (pa_cons pe_str (pa_cons pe_int pa_nil))) (pa_cons (pe_tup (pa_cons pe_str (pa_cons pe_int pa_nil))) (pa_cons (pe_tup (pa_cons pe_str (pa_cons pe_int pa_nil))) (pa_cons (pe_tup (pa_cons pe_str (pa_cons pe_int pa_nil))) (pa_cons (pe_tup (pa_cons pe_str (pa_cons pe_int pa_nil))) pa_nil)))))))
    (pss_cons (ps_for (passes_of rfl) rfl (pi_range1 rfl G.range (pa_cons (pe_callB (call_max2 rfl) (by rfl) G.max (by decide +kernel) (pa_cons pe_int (pa_cons (pe_callB (call_min2 rfl) (by rfl) G.min (by decide +kernel) (pa_cons (pe_callB call_len_seq (by rfl) G.len PySem.boot_len (pa_cons (pv 0) pa_nil)) (pa_cons pe_int pa_nil))) pa_nil))) pa_nil)) (pg_name (i := 2) sc_law.nd rfl (Or.inl rfl))
      (pss_cons (ps_set (i := 3) sc_law.nd rfl (Or.inl rfl) (pc CP hr1 rfl (pa_cons (pc CC hr1 rfl (pa_cons (pv 0) (pa_cons (pv 2) pa_nil))) pa_nil)))
      (pss_one (ps_for (passes_of rfl) rfl (pi_range1 rfl G.range (pa_cons pe_int pa_nil)) (pg_name (i := 4) sc_law.nd rfl (Or.inl rfl))
        (pss_cons (ps_set (i := 5) sc_law.nd rfl (Or.inl rfl) (pc CK hr15 rfl (pa_cons (pv 3) (pa_cons (pe_lst (pa_cons pe_str (pa_cons pe_str pa_nil))) (pa_cons (pv 1) (pa_cons (pe_op op_add pe_int (pc CD hr1 rfl (pa_cons (pv 3) (pa_cons pe_int pa_nil)))) pa_nil))))))
        (pss_cons (ps_set (i := 6) sc_law.nd rfl (Or.inl rfl) (pc CL hr31 rfl (pa_cons (pv 5) pa_nil)))
        (pss_cons (ps_if (pt_not (pt_val (pc CE hr1 rfl (pa_cons (pe_lst (pa_cons (pc CT hr5 rfl (pa_cons (pv 5) pa_nil)) (pa_cons (pc CR hr3 rfl (pa_cons (pv 6) pa_nil)) pa_nil))) (pa_cons (pe_lst (pa_cons (pv 6) (pa_cons (pv 5) pa_nil))) pa_nil))))) (pss_one (ps_ret pe_bl)) pss_nil)
        (pss_one (ps_for (passes_of rfl) rfl (pi_range1 rfl G.range (pa_cons pe_int pa_nil)) (pg_name (i := 7) sc_law.nd rfl (Or.inl rfl))
          (pss_one (ps_if (pt_not (pt_val (pc CZ hr rfl (pa_cons (pc CG hr3 rfl (pa_cons (pv 3) (pa_cons (pv 6) pa_nil))) pa_nil)))) (pss_one (ps_ret pe_bl)) pss_nil)))))))))))
    (pss_cons (ps_for (passes_of rfl) rfl (pi_list (pe_op op_cat (pc0 CO hr1 rfl) (pe_lst (pa_cons pe_str (pa_cons pe_str (pa_cons pe_str (pa_cons pe_str (pa_cons pe_str (pa_cons pe_str (pa_cons pe_str (pa_cons pe_str pa_nil))))))))))) (pg_name (i := 8) sc_law.nd rfl (Or.inr rfl))
      (pss_one (ps_if (PW.pt (pw_or (pt_not (pt_val (pc CZ hr rfl (pa_cons (pv 8) pa_nil)))) (pw_or1 (PW.pt (pw_and (pt_not (pt_val (pc CI hr31 rfl (pa_cons (pv 8) pa_nil)))) (pw_and1 (pt_cmpR op_ne (pe_callH (k := 6) (RR := RRT K (envOfC "law" (defScope s_law) s.heap.objs.size f (.ref cc)).cells) DS sc_Lsaid hr7 rfl (pa_cons (pe_lamT2 TB rfl rfl freT) pa_nil) (fun σ vs H1 Q1 z => by obtain ⟨f1, c1, v, t, rfl, _⟩ := z; rfl) (fun g cdv pins s1 σ H1 vs Q1 J hr' z => ?_)) pe_str (nomark _)))))))) (pss_one (ps_ret pe_bl)) pss_nil)))
    (pss_one (ps_ret pe_bl)))), ?_⟩
  · obtain ⟨f1, c1, v, t, rfl, h8, x1, x2, hT, hn, q1⟩ := z
    have C := cells_of (js := [8]) (fr := ["_law_thing"]) J (Caps.made (scope := lmT.2.2) J.ok freT (by decide +kernel) rfl)
    have eC : ([8] : List Nat).map (slotAt σ) = [some v] := by rw [← h8]; rfl
    rw [eC] at C
    exact said_body G CW gk hx (act_text (F := lamF tqL lmT.1 lmT.2.2 _ c1) CT ⟨rfl, rfl⟩ C x1 x2) hr' spTe_mon (says_text hT hn q1)
  refine ⟨by show 2 ≤ sizeLine; decide, fun t1 h1 => ⟨by show 2 ≤ sizeLine; decide, fun t2 h2 => ⟨by show 2 ≤ sizeLine; decide, fun t3 h3 => ⟨by show 2 ≤ sizeLine; decide, fun t4 h4 => ⟨by show 2 ≤ sizeLine; decide, fun t5 h5 => ⟨by show 5 ≤ sizeLine; decide, fun sl hsl => ?_⟩⟩⟩⟩⟩⟩
  have g1 := same_new h1 (.tup [.str "one", .int 0])
  have g2 := same_new h2 (.tup [.str "a", .int 0])
  have g3 := same_new h3 (.tup [.str "box", .int 1])
  have g4 := same_new h4 (.tup [.str "pair", .int 2])
  have g5 := same_new h5 (.tup [.str "zzzzzzzz", .int 2])
  have g6 := same_new hsl (.lst [.ref t1, .ref t2, .ref t3, .ref t4, .ref t5])
  have sH : Same H (upd (upd (upd (upd (upd (upd H t1 (.tup [.str "one", .int 0])) t2 (.tup [.str "a", .int 0])) t3 (.tup [.str "box", .int 1])) t4 (.tup [.str "pair", .int 2])) t5 (.tup [.str "zzzzzzzz", .int 2])) sl (.lst [.ref t1, .ref t2, .ref t3, .ref t4, .ref t5])) := g1.trans (g2.trans (g3.trans (g4.trans (g5.trans g6))))
  have hsS : (upd (upd (upd (upd (upd (upd H t1 (.tup [.str "one", .int 0])) t2 (.tup [.str "a", .int 0])) t3 (.tup [.str "box", .int 1])) t4 (.tup [.str "pair", .int 2])) t5 (.tup [.str "zzzzzzzz", .int 2])) sl (.lst [.ref t1, .ref t2, .ref t3, .ref t4, .ref t5])) sl = some (.lst [.ref t1, .ref t2, .ref t3, .ref t4, .ref t5]) := upd_same
  have e1 : (upd (upd (upd (upd (upd (upd H t1 (.tup [.str "one", .int 0])) t2 (.tup [.str "a", .int 0])) t3 (.tup [.str "box", .int 1])) t4 (.tup [.str "pair", .int 2])) t5 (.tup [.str "zzzzzzzz", .int 2])) sl (.lst [.ref t1, .ref t2, .ref t3, .ref t4, .ref t5])) t1 = some (.tup [.str "one", .int 0]) := (g6 _ _ (g5 _ _ (g4 _ _ (g3 _ _ (g2 _ _ (upd_same (a := t1) (o := .tup [.str "one", .int 0])))))))
  have e2 : (upd (upd (upd (upd (upd (upd H t1 (.tup [.str "one", .int 0])) t2 (.tup [.str "a", .int 0])) t3 (.tup [.str "box", .int 1])) t4 (.tup [.str "pair", .int 2])) t5 (.tup [.str "zzzzzzzz", .int 2])) sl (.lst [.ref t1, .ref t2, .ref t3, .ref t4, .ref t5])) t2 = some (.tup [.str "a", .int 0]) := (g6 _ _ (g5 _ _ (g4 _ _ (g3 _ _ (upd_same (a := t2) (o := .tup [.str "a", .int 0]))))))
  have e3 : (upd (upd (upd (upd (upd (upd H t1 (.tup [.str "one", .int 0])) t2 (.tup [.str "a", .int 0])) t3 (.tup [.str "box", .int 1])) t4 (.tup [.str "pair", .int 2])) t5 (.tup [.str "zzzzzzzz", .int 2])) sl (.lst [.ref t1, .ref t2, .ref t3, .ref t4, .ref t5])) t3 = some (.tup [.str "box", .int 1]) := (g6 _ _ (g5 _ _ (g4 _ _ (upd_same (a := t3) (o := .tup [.str "box", .int 1])))))
  have e4 : (upd (upd (upd (upd (upd (upd H t1 (.tup [.str "one", .int 0])) t2 (.tup [.str "a", .int 0])) t3 (.tup [.str "box", .int 1])) t4 (.tup [.str "pair", .int 2])) t5 (.tup [.str "zzzzzzzz", .int 2])) sl (.lst [.ref t1, .ref t2, .ref t3, .ref t4, .ref t5])) t4 = some (.tup [.str "pair", .int 2]) := (g6 _ _ (g5 _ _ (upd_same (a := t4) (o := .tup [.str "pair", .int 2]))))
  have e5 : (upd (upd (upd (upd (upd (upd H t1 (.tup [.str "one", .int 0])) t2 (.tup [.str "a", .int 0])) t3 (.tup [.str "box", .int 1])) t4 (.tup [.str "pair", .int 2])) t5 (.tup [.str "zzzzzzzz", .int 2])) sl (.lst [.ref t1, .ref t2, .ref t3, .ref t4, .ref t5])) t5 = some (.tup [.str "zzzzzzzz", .int 2]) := (g6 _ _ (upd_same (a := t5) (o := .tup [.str "zzzzzzzz", .int 2])))
  have hSc0 := sH.seq hS
  have tts1 := tt1.ext sH
  have tts2 := tt2.ext sH
  revert hSc0 tts1 tts2 hsS e1 e2 e3 e4 e5
  generalize (upd (upd (upd (upd (upd (upd H t1 (.tup [.str "one", .int 0])) t2 (.tup [.str "a", .int 0])) t3 (.tup [.str "box", .int 1])) t4 (.tup [.str "pair", .int 2])) t5 (.tup [.str "zzzzzzzz", .int 2])) sl (.lst [.ref t1, .ref t2, .ref t3, .ref t4, .ref t5])) = Hs
  intro hsS e1 e2 e3 e4 e5 hSc0 tts1 tts2
  have hShp : Shp K Hs [.ref t1, .ref t2, .ref t3, .ref t4, .ref t5] shz := .cons ⟨t1, rfl, .inl (.inl e1)⟩ (.cons ⟨t2, rfl, .inl (.inl e2)⟩ (.cons ⟨t3, rfl, .inl (.inl e3)⟩ (.cons ⟨t4, rfl, .inl (.inl e4)⟩ (.cons ⟨t5, rfl, .inl (.inl e5)⟩ .nil))))
  refine ⟨_, rfl, a, _, rfl, .inl hSc0, _, _, rfl, _, _, rfl, _, rfl, ?_, ?_, ?_⟩
  · rw [List.length_map]; split <;> split <;> omega
  · rw [List.length_map]; split <;> split <;> omega
  refine for_range (fun i σ H' => ∃ y2 y3 y4 y5 y6 y7 y8, σ = [some (.ref a), some (.ref sl), y2, y3, y4, y5, y6, y7, y8] ∧ LG P1 P2 Hs H') ⟨_, _, _, _, _, _, _, rfl, ⟨Gro.refl _, tts1, tts2⟩⟩ (fun i σ H' hi ⟨y2, y3, y4, y5, y6, y7, y8, eσ, lg⟩ => ?_) (fun σ H' ⟨y2, y3, y4, y5, y6, y7, y8, eσ, lg⟩ => ?_)
  · subst eσ
    refine ⟨_, rfl, _, rfl, a, ns, i, by rw [Int.zero_add], lg.g.seq hSc0, fun n => ⟨n, rfl, fun p H1 sm1 hp0 pn1 => ?_⟩⟩
    have lg1 := lg.same sm1
    have hpS : Hs p = none := lg.g.n _ hp0
    have nsl : sl ≠ p := ne_of_none hsS hpS
    refine ⟨10, rfl, by decide, by decide, ?_⟩
    refine for_range (n := 10) (fun j σ H' => ∃ y4 y5 y6 y7 y8, σ = [some (.ref a), some (.ref sl), some (.int (0 + (i : Nat))), some (.ref p), y4, y5, y6, y7, y8] ∧ LG P1 P2 Hs H' ∧ Pen H' p) ⟨_, _, _, _, _, rfl, lg1, pn1⟩ (fun j σ H' hj ⟨y4, y5, y6, y7, y8, eσ, lg, pn⟩ => ?_) (fun σ H' ⟨y4, y5, y6, y7, y8, eσ, lg, pn⟩ => ?_)
    · subst eσ
      refine ⟨_, rfl, by show 2 ≤ sizeLine; decide, fun l2 hl2 => ?_⟩
      have n2p : l2 ≠ p := pen_new pn hl2
      have s2 := same_new hl2 (.lst (ls2.map V.str))
      refine ⟨_, rfl, _, rfl, p, 9, rfl, pn.same s2, by decide, by decide, fun H2 r b2 pn2 r0 r1 => ?_⟩
      have hr4 : (1 : Int) + r = ((1 + r.toNat : Nat) : Int) := by omega
      have lg2 := (lg.same s2).bar hpS (pn.same s2) b2
      have hL2 : H2 l2 = some (.lst (ls2.map V.str)) := b2 _ _ n2p upd_same
      refine ⟨_, _, rfl, rfl, p, l2, sl, ls2, _, shz, 1 + r.toNat, by rw [← hr4], pn2, n2p, nsl, hL2, lg2.g.seq (SqL.of hsS), hShp.stay lg2.g.stay, menZ, by omega, fun H3 v k b3 pn3 hk hof hnd => ?_⟩
      have lg3 := lg2.bar hpS pn2 b3
      have kok := Kd.of_ok menZ hof
      have knd : k.nds ≤ 19 := by omega
      have pl := txt_pl kok
      have kdc := dep_count (k := k)
      have kct := pl.2.1
      have knn := Kd.nodes_tg k
      -- the text
      refine ⟨_, rfl, v, k, rfl, hk, kok, by omega, by omega, fun H4 x s4 ex => ?_⟩
      have lg4 := lg3.same s4
      have pn4 := pn3.same s4
      have hk4 : Kp K H4 v k := hk.stay (stay_same s4)
      have hpx : PlL 22 900 (cs x) := by
        rw [ex]
        exact pl.mono (by omega) (by omega)
      have hxl : x.length ≤ 900 := by rw [← cs_len]; exact hpx.2.2
      -- same
      refine ⟨_, rfl, v, k.tg, rfl, hk4, by omega, (fun k' ek kok' H5 y s5 ey => ?_), (fun z => by rw [Kd.isT_tg kok] at z; cases z)⟩
      have ek' : k = k' := tgEq ek
      subst ek'
      have exy : y = x := by
        have : cs y = cs x := ey.trans ex.symm
        obtain ⟨⟨l1⟩⟩ := y
        obtain ⟨⟨l2⟩⟩ := x
        have : l1 = l2 := this
        rw [this]
      subst exy
      refine ⟨_, rfl, _, .str y, rfl, .str y (by omega), (fun k' hk' H6 u s6 hu => ?_), (fun z => absurd ⟨kok, y, rfl, ex⟩ (z k))⟩
      have ek2 := txt_one hk' ⟨kok, y, rfl, ex⟩
      subst ek2
      refine ⟨by show 2 ≤ sizeLine; decide, fun la hla => ?_⟩
      refine ⟨_, rfl, _, rfl, by show 2 ≤ sizeLine; decide, fun lb hlb => ?_⟩
      have s56 := s5.trans s6
      have sla := same_new hla (.lst [.str y, u])
      have slb := same_new hlb (.lst [.str y, v])
      have sab := sla.trans slb
      have hk6 : Kp K H6 v k' := hk4.stay (stay_same s56)
      obtain ⟨f1, f2, f3, f4⟩ := duo_fit kok ex (by omega)
      refine ⟨la, lb, .list [.str y, k'.pd], rfl, .lst (SqL.of (slb _ _ upd_same)) (.cons (.str y) (.cons (kp_dp (hu.stay (stay_same sab))) .nil)), .lst (SqL.of upd_same) (.cons (.str y) (.cons (kp_dp (hk6.stay (stay_same sab))) .nil)), f1, f2, f3, f4, _, rfl, iteN rfl ?_⟩
      have sall := s56.trans sab
      have lg6 := lg4.same sall
      have pn6 := pn4.same sall
      revert lg6 pn6
      generalize upd (upd H6 la (.lst [.str y, u])) lb (.lst [.str y, v]) = H7
      intro lg7 pn7
      -- four changed texts
      refine ⟨4, rfl, by decide, by decide, ?_⟩
      refine for_range (n := 4) (fun j2 σ H' => ∃ y7 y8, σ = [some (.ref a), some (.ref sl), some (.int (0 + (i : Nat))), some (.ref p), some (.int (0 + (j : Nat))), some v, some (.str y), y7, y8] ∧ LG P1 P2 Hs H' ∧ Pen H' p) ⟨_, _, rfl, lg7, pn7⟩ (fun j2 σ H' hj2 ⟨y7, y8, eσ, lg, pn⟩ => ?_) (fun σ H' ⟨y7, y8, eσ, lg, pn⟩ => ?_)
      · subst eσ
        refine ⟨_, rfl, _, rfl, p, y, rfl, pn, hpx, fun H8 z b8 pn8 hz => ?_⟩
        have lg8 := lg.bar hpS pn b8
        have hzl : z.length ≤ 902 := by rw [← cs_len]; exact hz.2.2
        refine ⟨_, .str z, rfl, .str z (by omega), Askd.of hz, lg8.t1, fun H9 g9 t9 => ⟨_, rfl, iteN rfl ?_⟩⟩
        exact ⟨_, _, rfl, lg8.gro nP g9 t9, Pen.ext g9.g.e pn8⟩
      · subst eσ
        exact ⟨_, _, _, _, _, rfl, lg, pn⟩
    · subst eσ
      exact ⟨_, _, _, _, _, _, _, rfl, lg⟩
  · subst eσ
    refine ⟨sl, rfl, ⟨_, lg.g.e _ _ hsS (fun ps z => by cases z)⟩, fun lo H1 xs s1 hlo hlx obs => ?_⟩
    have nxs : xs.length = 39 := (Paired.length obs).trans rfl
    refine ⟨by show 8 ≤ sizeLine; decide, fun l2 hl2 => ⟨lo, l2, xs, _, rfl, rfl, same_new hl2 _ _ _ hlx, upd_same, (by rw [nxs]; show 39 + 8 ≤ sizeLine; decide), fun L hL => ?_⟩⟩
    have c2 := (same_new hl2 (.lst ([V.str "box(X)", V.str "box(X", V.str "box(X))", V.str "a(b, c)", V.str "a(b,c)", V.str "a(b, c, d)", V.str "aaaaaaaaa", V.str "X(a)"]))).trans (same_new hL (.lst (xs ++ [V.str "box(X)", V.str "box(X", V.str "box(X))", V.str "a(b, c)", V.str "a(b,c)", V.str "a(b, c, d)", V.str "aaaaaaaaa", V.str "X(a)"])))
    have lg1 := lg.same (s1.trans c2)
    have LL : (upd (upd H1 l2 (.lst ([V.str "box(X)", V.str "box(X", V.str "box(X))", V.str "a(b, c)", V.str "a(b,c)", V.str "a(b, c, d)", V.str "aaaaaaaaa", V.str "X(a)"]))) L (.lst (xs ++ [V.str "box(X)", V.str "box(X", V.str "box(X))", V.str "a(b, c)", V.str "a(b,c)", V.str "a(b, c, d)", V.str "aaaaaaaaa", V.str "X(a)"]))) L = some (.lst (xs ++ [V.str "box(X)", V.str "box(X", V.str "box(X))", V.str "a(b, c)", V.str "a(b,c)", V.str "a(b, c, d)", V.str "aaaaaaaaa", V.str "X(a)"])) := upd_same
    have all : ∀ x ∈ xs ++ [V.str "box(X)", V.str "box(X", V.str "box(X))", V.str "a(b, c)", V.str "a(b,c)", V.str "a(b, c, d)", V.str "aaaaaaaaa", V.str "X(a)"], ∃ t, Th K (upd (upd H1 l2 (.lst ([V.str "box(X)", V.str "box(X", V.str "box(X))", V.str "a(b, c)", V.str "a(b,c)", V.str "a(b, c, d)", V.str "aaaaaaaaa", V.str "X(a)"]))) L (.lst (xs ++ [V.str "box(X)", V.str "box(X", V.str "box(X))", V.str "a(b, c)", V.str "a(b,c)", V.str "a(b, c, d)", V.str "aaaaaaaaa", V.str "X(a)"]))) x t ∧ fineB t = true := by
      intro x hx'
      rcases List.mem_append.mp (show x ∈ xs ++ strs8.map V.str from hx') with h | h
      · obtain ⟨e, he, ob⟩ := mem_ob obs h
        exact ⟨e.1, ob.1.stay (stay_same c2), odd_fine e he⟩
      · obtain ⟨y, hy, rfl⟩ := List.mem_map.mp h
        have fy := strs_fine y hy
        refine ⟨.str y, .str y ?_, fy⟩
        have := (ask_ok (t := .str y) (by unfold fineB at fy; rw [Bool.and_eq_true] at fy; exact fy.1) y rfl).2
        omega
    revert lg1 LL all
    generalize upd (upd H1 l2 (.lst ([V.str "box(X)", V.str "box(X", V.str "box(X))", V.str "a(b, c)", V.str "a(b,c)", V.str "a(b, c, d)", V.str "aaaaaaaaa", V.str "X(a)"]))) L (.lst (xs ++ [V.str "box(X)", V.str "box(X", V.str "box(X))", V.str "a(b, c)", V.str "a(b,c)", V.str "a(b, c, d)", V.str "aaaaaaaaa", V.str "X(a)"])) = H5
    intro lg1 LL all
    have lg5 : LG P1 P2 H5 H5 := ⟨Gro.refl _, lg1.t1, lg1.t2⟩
    refine ⟨L, rfl, ⟨_, SqL.of LL⟩, for_list (K := K) (a := L) (xs := xs ++ [V.str "box(X)", V.str "box(X", V.str "box(X))", V.str "a(b, c)", V.str "a(b,c)", V.str "a(b, c, d)", V.str "aaaaaaaaa", V.str "X(a)"]) (fun j σ H' => ∃ y2 y3 y4 y5 y6 y7 y8, σ = [some (.ref a), some (.ref sl), y2, y3, y4, y5, y6, y7, y8] ∧ LG P1 P2 H5 H') ⟨_, _, _, _, _, _, _, rfl, lg5⟩ (fun j σ H' _ ⟨_, _, _, _, _, _, _, _, lg⟩ => lg.g.seq (SqL.of LL)) (fun j x σ H' hxj ⟨y2, y3, y4, y5, y6, y7, y8, eσ, lg⟩ => ?_) (fun σ H' ⟨y2, y3, y4, y5, y6, y7, y8, eσ, lg⟩ => ?_)⟩
    · subst eσ
      obtain ⟨t, hT, hf⟩ := all x (List.mem_of_getElem? hxj)
      unfold fineB at hf
      simp only [Bool.and_eq_true, decide_eq_true_eq] at hf
      obtain ⟨fa, fn, fd⟩ := hf
      refine ⟨_, rfl, x, t, rfl, hT.stay lg.g.stay, ask_ok fa, lg.t1, fun H9 g9 t9 => ⟨_, rfl, iteN rfl ?_⟩⟩
      have lg9 := lg.gro nP g9 t9
      refine ⟨_, rfl, x, t, rfl, hT.stay lg9.g.stay, fd, by decide, fun H10 s10 => ⟨_, rfl, ?_⟩⟩
      have lg10 := lg9.same s10
      by_cases hb : isT t = true
      · refine iteN (by rw [hb]; rfl) (iteN rfl ?_)
        exact ⟨_, _, _, _, _, _, _, rfl, lg10⟩
      · have hb' : isT t = false := Bool.eq_false_iff.mpr hb
        refine iteE (by rw [hb']; rfl) ?_
        refine ⟨lg10.t2, fun f1 c1 H11 x11 e11 t11 z11 _ y11 k11 => ?_⟩
        have lg11 := lg10.lam nP x11 e11 t11 z11
        refine ⟨f1, c1, x, t, rfl, rfl, y11, k11, hT.stay lg11.g.stay, by omega, fun r H12 s12 hr12 => ?_⟩
        have er := hr12 hb'
        subst er
        refine ⟨rfl, _, rfl, iteN (by rw [decide_eq_true rfl]; rfl) ?_⟩
        exact ⟨_, _, _, _, _, _, _, rfl, lg11.same s12⟩
    · subst eσ
      exact q _
end
end N

namespace N
open PySem PySem.Spec PyProof.Rows L2 LamX NdefX
/-! ### the end of a law, where several defs make lambdas -/
/-- what the end wants of the heap where the law is called, for each such def -/
structure TabHere (K : PySem.W.Frag) (mg : Str → Option Value) (h : Heap) (c Pt : Addr) : Prop where
  tab : h.get? Pt = some { cls := .none, data := .fields #[] }
  off : K.lookup Pt = none
  hd : PySem.W.CodeHd h c Pt
  bm : ∃ (bm : Addr) (ob : Obj), mg "__builtins__" = some (.ref bm) ∧ bm ≠ builtinsNs ∧ h.get? bm = some ob ∧ ob.cls = .type "module" ∧ ob.dict = some builtinsNs ∧ ob.data = .plain
section
variable {P : Program} {w : World} {K : PySem.W.Frag} {mg mb : Str → Option Value} {CX : CXT} {k : Nat} {fa a : Addr} {Ts : List (Addr × Addr)} {fd : FuncData} {x : Str} {sp : Sp} {s₁ : Shared} {vs : List Value} {ns : List Int}
theorem run_lawTs (H : Hp) (KX : K.In s₁.heap) (hns : s₁.heap.Ns mainGlobals mg) (hb : s₁.heap.Ns builtinsNs mb) (hbb : ∀ x : Str, x ≠ "__name__" → mb x = bootBuiltins x) (hlim : s₁.heap.NoLimit) (hg : s₁.gens = #[]) (T : ∀ p ∈ Ts, TabHere K mg s₁.heap p.1 p.2)
    (ha : s₁.heap.get? a = some { cls := .type "list", data := .seq vs.toArray }) (hr : Room k callerA) (F : ∀ base : Heap, K.In base → base.Ns mainGlobals mg → (∀ p ∈ Ts, TabB base mg p.1 p.2) → FnG P w K mg base CX k fa fd [x] sp) (hbind : ∀ (s : Shared) (u : Value), BindsTo s fd ⟨[u], []⟩ [(x, u)])
    (hsp : sp [.ref a] H (fun v _ => v = .bl true) fun _ _ _ => False) (hCX : ∀ e s', CX [] H s₁ (fun _ _ _ => False) e s' → False) (hO : ∀ b, (¬ ∃ p ∈ Ts, b = p.2) → H b = none ∨ ∃ o xs, H b = some (.frz o (.lst xs))) (hHP : ∀ p ∈ Ts, H p.2 = some (.tbl #[])) (hok : HOk P w H s₁.heap)
    (hA : ∀ b, H b ≠ none → b = a ∨ ∃ p ∈ Ts, b = p.2) (hK : H a ≠ none → K.lookup a = none) :
    codeAny (model P w) callerA (.call (.ref fa) ⟨[.ref a], []⟩) (fun r s' => r = .ok (.ret (.bool true)) ∧ OldK s₁.heap s'.heap ∧ s'.os = s₁.os ∧ AllBare s'.gens) s₁ := by
  -- what is neither the script nor a table is not tracked
  have free : ∀ {b : Addr} {o : Obj}, s₁.heap.get? b = some o → (∀ us n, o.data ≠ .seq us n) → o.data ≠ .fields #[] → H b = none := fun {b o} e n1 n2 => by
    cases q : H b with
    | none => rfl
    | some u =>
      rcases hA b (by rw [q]; exact fun z => by cases z) with z | ⟨p, hp, z⟩
      · rw [z, ha] at e
        cases e
        exact absurd rfl (n1 _ _)
      · rw [z, (T p hp).tab] at e
        cases e
        exact absurd rfl n2
  have dictF : ∀ {b : Addr} {o : Obj} {es : Array DictEntry} {ep : Nat}, s₁.heap.get? b = some o → o.data = .dict es ep → H b = none := fun {b o es ep} e d => free e (fun us n z => by rw [d] at z; cases z) (fun z => by rw [d] at z; cases z)
  have nsK : ∀ {b : Addr} {m : Str → Option Value}, s₁.heap.Ns b m → (hidT s₁.heap H).Ns b m := fun {b m} z => by
    obtain ⟨o, es, ep, e, d, r⟩ := z
    exact ⟨o, es, ep, hidT_get e (dictF e d), d, r⟩
  have hKb : K.In (hidT s₁.heap H) := fun b o e => hidT_get (KX b o e) (by
    cases q : H b with
    | none => rfl
    | some u =>
      rcases hA b (by rw [q]; exact fun z => by cases z) with z | ⟨p, hp, z⟩
      · subst z
        rw [hK (by rw [q]; exact fun z => by cases z)] at e
        cases e
      · rw [z, (T p hp).off] at e
        cases e)
  have hM : Mod K mg (hidT s₁.heap H) := ⟨hKb, nsK hns, ⟨mb, nsK hb, hbb⟩, let ⟨mc, h1, h2⟩ := hlim; ⟨mc, nsK h1, h2⟩⟩
  have TB : ∀ p ∈ Ts, TabB (hidT s₁.heap H) mg p.1 p.2 := by
    intro p hp
    have tabH := (T p hp).tab
    refine ⟨?_, ?_, fun z => ?_⟩
    · obtain ⟨o, us, file, tf, flags, tg, inF, text, tt, e1, r1, r2, r3, rest⟩ := (T p hp).hd
      refine ⟨o, us, file, tf, flags, tg, inF, text, tt, hidT_get e1 (free e1 (fun us n z => by rw [r2] at z; cases z) (fun z => ?_)), r1, r2, r3, rest⟩
      rw [r2] at z
      cases z
      simp at r3
    · obtain ⟨bm, ob, b1, b2, b3, b4, b5, b6⟩ := (T p hp).bm
      refine ⟨bm, ob, b1, b2, fun z => ?_, fun z => ?_, hidT_get b3 (free b3 (fun us n z => by rw [b6] at z; cases z) (fun z => by rw [b6] at z; cases z)), b4, b5, b6⟩
      · obtain ⟨o, es, ep, e, d, _⟩ := hns
        rw [z, e] at b3
        cases b3
        rw [d] at b6
        cases b6
      · rw [z, tabH] at b3
        cases b3
        cases b6
    · obtain ⟨o, es, ep, e, d, _⟩ := hns
      rw [z, tabH] at e
      cases e
      cases d
  have e0 : Env0 P w K mg (hidT s₁.heap H) callerA [] s₁ H := ⟨rfl, hM, fun b o e => of_hidT e, Nat.le_of_eq (hidT_size _ _), trivial, fun b hb => absurd (show b ∈ ([] : List Addr) from hb) (by simp), hok, .of_eq hg⟩
  have go := (F _ hKb (nsK hns) TB).run callerA [] s₁ H ⟨[.ref a], []⟩ [.ref a] [.ref a] (fun v _ => v = .bl true) (fun _ _ _ => False) (roomG_caller hr) e0 (hbind s₁ (.ref a)) (.cons rfl .nil) hsp
  refine codeAny_mono go fun r s' h => ?_
  match r, h with
  | .error e, h => exact (hCX e s' h).elim
  | .ok .next, h => exact False.elim h
  | .ok .brk, h => exact False.elim h
  | .ok .cont, h => exact False.elim h
  | .ok (.ret u), h =>
    obtain ⟨v, H', os, bare, un, hok', r', q⟩ := h
    have q' : v = .bl true := q
    subst q'
    obtain rfl : u = Value.bool true := r'
    have key : ∀ b o, (¬ ∃ p ∈ Ts, b = p.2) → s₁.heap.get? b = some o → s'.heap.get? b = some o := fun b o nb e => by
      cases q : H b with
      | none => exact un.keep b o e q (by intro z; exact absurd (show b ∈ ([] : List Addr) from z) (by simp)) (by simp)
      | some u =>
        rcases hO b nb with z | ⟨ob, xs, z⟩
        · rw [q] at z; cases z
        · have e1 := (hok b _ z).1
          have e2 := (hok' b _ (un.frzs b ob _ z)).1
          rw [e] at e1
          cases e1
          exact e2
    have tabs : ∀ p ∈ Ts, ∃ more, s'.heap.get? p.2 = some { cls := .none, data := .fields (#[] ++ more) } := fun p hp => by
      obtain ⟨more, hm⟩ := un.tbls p.2 #[] (hHP p hp)
      exact ⟨more, hok' p.2 _ hm⟩
    refine ⟨rfl, ⟨fun b o e => ?_, fun b o e => ?_⟩, os, bare⟩
    · by_cases nb : ∃ p ∈ Ts, b = p.2
      · obtain ⟨p, hp, rfl⟩ := nb
        obtain ⟨more, hm'⟩ := tabs p hp
        have tabH := (T p hp).tab
        rw [tabH] at e
        cases e
        exact .inr (.inl ⟨((T p hp).hd.tab tabH).isCodeTable, rfl, #[], more, rfl, hm'⟩)
      · exact .inl (key b o nb e)
    · by_cases nb : ∃ p ∈ Ts, b = p.2
      · obtain ⟨p, hp, rfl⟩ := nb
        obtain ⟨more, hm'⟩ := tabs p hp
        exact ⟨_, hm'⟩
      · exact ⟨o, key b o nb e⟩
end
theorem walkGTs {l : PySem.W.OpenLaw} {n k : Nat} {q : Program} {loose : List Str} {XP : (Str → Option Value) → Heap → Prop} {YP : World → Heap → Prop} {d : DefRec} {K : Params → PySem.W.Frag} {CX : World → CXT} {sp : World → Sp} {x : Str} {Ps : List Addr}
    (hn : l.most = some n) (hn2 : n ≤ sizeLine) (hdf : d.params.defaults = []) (hr : Room k callerA) (hY : ∀ (w : World) (h : Heap), YP w h → (K w.params).In h) (hP : ∀ (w : World) (h : Heap), YP w h → ∀ Pt ∈ Ps, h.get? Pt = some { cls := .none, data := .fields #[] })
    (hoff : ∀ w : World, ∀ Pt ∈ Ps, (K w.params).lookup Pt = none)
    (F : ∀ (w : World) (mg : Str → Option Value) (fa : Addr) (h : Heap), (K w.params).In h → h.Ns mainGlobals mg → mg d.name = some (.ref fa) →
      ∃ (Ts : List (Addr × Addr)) (fd : FuncData), Ts.map Prod.snd = Ps ∧ (∀ p ∈ Ts, PySem.W.codeHdIn (K w.params) p.1 p.2 = true) ∧ (∀ (s : Shared) (u : Value), BindsTo s fd ⟨[u], []⟩ [(x, u)]) ∧ ∀ base : Heap, (K w.params).In base → base.Ns mainGlobals mg → (∀ p ∈ Ts, TabB base mg p.1 p.2) → FnG l.prog w (K w.params) mg base (CX w) k fa fd [x] (sp w))
    (hsp : ∀ (w : World) (H : Hp) (a : Addr) (ns : List Int), ns.length ≤ n → (∀ Pt ∈ Ps, H Pt = some (.tbl #[])) → SqL (K w.params) H a (ns.map V.int) → sp w [.ref a] H (fun v _ => v = .bl true) fun _ _ _ => False)
    (hCX : ∀ (w : World) (H : Hp) (s : Shared) (e : Value) (s' : Shared), CX w [] H s (fun _ _ _ => False) e s' → False) : PySem.W.WalkO q loose XP YP l.row.toRowW d [] (fun f vs => PySem.call f vs) := by
  refine Att.attach_call hn hdf fun w s₀ s₁ mg mb fa o pm cd doc a vs ns G Y ho hd hcd hmg ha hi hlen hg => ?_
  have KX := hY w _ Y
  obtain ⟨Ts, fd, eTs, hcc, hb, hF⟩ := F w mg fa _ KX G.T.g hmg
  have inP : ∀ p ∈ Ts, p.2 ∈ Ps := fun p hp => by rw [← eTs]; exact List.mem_map_of_mem hp
  have ofP : ∀ b ∈ Ps, ∃ p ∈ Ts, b = p.2 := fun b hb => by
    rw [← eTs] at hb
    obtain ⟨p, hp, e⟩ := List.mem_map.mp hb
    exact ⟨p, hp, e.symm⟩
  have ht := hP w _ Y
  have T : ∀ p ∈ Ts, TabHere (K w.params) mg s₁.heap p.1 p.2 := fun p hp => ⟨ht _ (inP p hp), hoff w _ (inP p hp), PySem.W.codeHd_of_K KX (hcc p hp), G.T.bmain⟩
  have rv := vals_ints hi
  have lenV := hi.length
  have hl : ns.length ≤ sizeLine := Nat.le_trans hlen hn2
  have naP : a ∉ Ps := fun z => by
    rw [ht a z] at ha
    cases ha
  have one := fun (H : Hp) (hS : SqL (K w.params) H a (ns.map V.int)) (hHP : ∀ Pt ∈ Ps, H Pt = some (.tbl #[])) => run_lawTs H KX G.T.g G.T.b G.T.builtins G.T.nolimit hg T ha hr hF hb (hsp w H a ns hlen hHP hS) (fun e s' => hCX w H s₁ e s')
  cases hk : (K w.params).lookup a with
  | some o' =>
    have e := KX a o' hk
    rw [ha] at e
    cases e
    have at_ : ∀ {b : Addr}, b ∉ Ps → (if b ∈ Ps then some (HO.tbl #[]) else none) = none := fun n => if_neg n
    refine one (fun b => if b ∈ Ps then some (.tbl #[]) else none) (.inr ⟨_, vs.toArray, _, hk, rfl, rfl, rfl, by rw [List.size_toArray, lenV]; exact hl, by simpa using rv⟩) (fun Pt h => if_pos h) (fun b nb => .inl (at_ fun z => nb (ofP b z))) (fun p hp => if_pos (inP p hp)) (fun b u z => ?_) (fun b z => ?_) fun z => absurd (at_ naP) z
    · by_cases nb : b ∈ Ps
      · have z' := (if_pos nb).symm.trans z
        cases z'
        exact ht b nb
      · have z' := (at_ nb).symm.trans z
        cases z'
    · by_cases nb : b ∈ Ps
      · exact .inr (ofP b nb)
      · exact absurd (at_ nb) z
  | none =>
    have yP : ∀ Pt ∈ Ps, (if Pt = a then some (HO.frz { cls := .type "list", data := .seq vs.toArray } (.lst (ns.map V.int))) else if Pt ∈ Ps then some (.tbl #[]) else none) = some (.tbl #[]) := fun Pt h => (if_neg (fun z => naP (by rw [← z]; exact h))).trans (if_pos h)
    refine one (fun b => if b = a then some (.frz { cls := .type "list", data := .seq vs.toArray } (.lst (ns.map V.int))) else if b ∈ Ps then some (.tbl #[]) else none) (.inl (.inr ⟨{ cls := .type "list", data := .seq vs.toArray }, if_pos rfl⟩)) yP (fun b nb => ?_) (fun p hp => yP _ (inP p hp)) (fun b u z => ?_) (fun b z => ?_) fun _ => hk
    · by_cases hb : b = a
      · exact .inr ⟨_, _, if_pos hb⟩
      · exact .inl ((if_neg hb).trans (if_neg fun z => nb (ofP b z)))
    · by_cases hb : b = a
      · have z' := (if_pos hb).symm.trans z
        cases z'
        rw [hb]
        exact ⟨ha, by rw [List.length_map]; exact hl, vs, _, rv, ha⟩
      · have z1 := (if_neg hb).symm.trans z
        by_cases nb : b ∈ Ps
        · have z' := (if_pos nb).symm.trans z1
          cases z'
          exact ht b nb
        · have z' := (if_neg nb).symm.trans z1
          cases z'
    · by_cases hb : b = a
      · exact .inl hb
      · by_cases nb : b ∈ Ps
        · exact .inr (ofP b nb)
        · exact absurd ((if_neg hb).trans (if_neg nb)) z
end N

namespace N
open PySem PySem.Spec PyProof.Rows L2 StX LamX NdefX
theorem packTs {K : PySem.W.Frag} {mg : Str → Option Value} {c1 P1 c2 P2 : Addr} {A : FuncData → Prop} {F : Heap → FuncData → Prop} (h : ∃ fd, A fd ∧ ∀ base : Heap, K.In base → base.Ns mainGlobals mg → TabB base mg c1 P1 → TabB base mg c2 P2 → F base fd) (h1 : PySem.W.codeHdIn K c1 P1 = true) (h2 : PySem.W.codeHdIn K c2 P2 = true) :
    ∃ (Ts : List (Addr × Addr)) (fd : FuncData), Ts.map Prod.snd = [P1, P2] ∧ (∀ p ∈ Ts, PySem.W.codeHdIn K p.1 p.2 = true) ∧ A fd ∧ ∀ base : Heap, K.In base → base.Ns mainGlobals mg → (∀ p ∈ Ts, TabB base mg p.1 p.2) → F base fd := by
  obtain ⟨fd, a, b⟩ := h
  refine ⟨[(c1, P1), (c2, P2)], fd, rfl, fun p hp => ?_, a, fun base x y t => b base x y (t (c1, P1) (by simp)) (t (c2, P2) (by simp))⟩
  simp only [List.mem_cons, List.not_mem_nil, or_false] at hp
  rcases hp with rfl | rfl
  · exact h1
  · exact h2
theorem glo_mk {K : PySem.W.Frag} {h : Heap} {mg : Str → Option Value} {t8 t2 : Tok} (X : K.In h) (G : h.Ns mainGlobals mg)
    (z_isinstance : PySem.W.nsIn K mainGlobals "isinstance" = some none)
    (z_str : PySem.W.nsIn K mainGlobals "str" = some none)
    (z_tuple : PySem.W.nsIn K mainGlobals "tuple" = some none)
    (z_dict : PySem.W.nsIn K mainGlobals "dict" = some none)
    (z_list : PySem.W.nsIn K mainGlobals "list" = some none)
    (z_len : PySem.W.nsIn K mainGlobals "len" = some none)
    (z_all : PySem.W.nsIn K mainGlobals "all" = some none)
    (z_max : PySem.W.nsIn K mainGlobals "max" = some none)
    (z_min : PySem.W.nsIn K mainGlobals "min" = some none)
    (z_range : PySem.W.nsIn K mainGlobals "range" = some none)
    (z_repr : PySem.W.nsIn K mainGlobals "repr" = some none)
    (z_sum : PySem.W.nsIn K mainGlobals "sum" = some none)
    (zl : PySem.W.nsIn K mainGlobals "LONGEST_NAME" = some (some (.int 8 t8))) (zm : PySem.W.nsIn K mainGlobals "MOST_ARGUMENTS" = some (some (.int 2 t2))) : Glo mg :=
  ⟨PySem.W.mg_none_of X G z_isinstance, PySem.W.mg_none_of X G z_str, PySem.W.mg_none_of X G z_tuple, PySem.W.mg_none_of X G z_dict, PySem.W.mg_none_of X G z_list, PySem.W.mg_none_of X G z_len, PySem.W.mg_none_of X G z_all, PySem.W.mg_none_of X G z_max, PySem.W.mg_none_of X G z_min, PySem.W.mg_none_of X G z_range, PySem.W.mg_none_of X G z_repr, PySem.W.mg_none_of X G z_sum, ⟨_, PySem.W.mg_of X G zl⟩, ⟨_, PySem.W.mg_of X G zm⟩⟩
def exmB (K : PySem.W.Frag) (cs : List Addr) (ke : Addr) : Bool := (List.range 13).all fun i => decide (PySem.W.exmOne K (.ref (at_ cs i)) (.ref ke) = some true)
theorem exm_all {K : PySem.W.Frag} {cs : List Addr} {ke : Addr} (h : exmB K cs ke = true) : ∀ i, i < 13 → PySem.W.exmOne K (.ref (at_ cs i)) (.ref ke) = some true := fun i hi => of_decide_eq_true (List.all_eq_true.mp h i (List.mem_range.mpr hi))
theorem all_here {P : Program} {w : World} {K : PySem.W.Frag} {mg : Str → Option Value} {h : Heap} {fa c1 c2 P1 P2 C0 C1 C2 C3 C4 C5 C6 C7 C8 C9 C10 C11 C12 C13 C14 C15 C16 C17 KE : Addr} (nP : P1 ≠ P2) (X : K.In h) (GN : h.Ns mainGlobals mg) (hfa : mg "law" = some (.ref fa)) (G : Glo mg) (zv : PySem.W.nsIn K mainGlobals "ValueError" = some none)
    (a0 : PySem.W.nsIn K mainGlobals "NoType" = some (some (.ref C0)))
    (a1 : PySem.W.nsIn K mainGlobals "NoValues" = some (some (.ref C1)))
    (a2 : PySem.W.nsIn K mainGlobals "NoText" = some (some (.ref C2)))
    (a3 : PySem.W.nsIn K mainGlobals "NoClass" = some (some (.ref C3)))
    (a4 : PySem.W.nsIn K mainGlobals "NoTable" = some (some (.ref C4)))
    (a5 : PySem.W.nsIn K mainGlobals "NoName" = some (some (.ref C5)))
    (a6 : PySem.W.nsIn K mainGlobals "NoMost" = some (some (.ref C6)))
    (a7 : PySem.W.nsIn K mainGlobals "NoRoots" = some (some (.ref C7)))
    (a8 : PySem.W.nsIn K mainGlobals "NoRoot" = some (some (.ref C8)))
    (a9 : PySem.W.nsIn K mainGlobals "NoDeed" = some (some (.ref C9)))
    (a10 : PySem.W.nsIn K mainGlobals "TooMany" = some (some (.ref C10)))
    (a11 : PySem.W.nsIn K mainGlobals "Crowded" = some (some (.ref C11)))
    (a12 : PySem.W.nsIn K mainGlobals "NothingDone" = some (some (.ref C12)))
    (a13 : PySem.W.nsIn K mainGlobals "Unfit" = some (some (.ref C13)))
    (a14 : PySem.W.nsIn K mainGlobals "Looped" = some (some (.ref C14)))
    (a15 : PySem.W.nsIn K mainGlobals "Turned" = some (some (.ref C15)))
    (a16 : PySem.W.nsIn K mainGlobals "Endless" = some (some (.ref C16)))
    (a17 : PySem.W.nsIn K mainGlobals "Clash" = some (some (.ref C17)))
    (ak : PySem.W.nsIn K mainGlobals "KindError" = some (some (.ref KE)))
    (xk0 : PySem.W.keepIn K (.ref C0) = true) (xb0 : PySem.W.subIn K (.ref C0) (.type "BaseException") = some true) (xt0 : PySem.W.typeIn K (.ref C0) = some (.type "type")) (xe0 : PySem.W.excIn K C0 [.type "ValueError", .type "Exception", .type "BaseException", .type "object"] "ValueError.__new__" = true)
    (xk2 : PySem.W.keepIn K (.ref C2) = true) (xb2 : PySem.W.subIn K (.ref C2) (.type "BaseException") = some true) (xt2 : PySem.W.typeIn K (.ref C2) = some (.type "type")) (xe2 : PySem.W.excIn K C2 [.type "ValueError", .type "Exception", .type "BaseException", .type "object"] "ValueError.__new__" = true)
    (b1 : kitB K [C0, C1, C2, C3, C4, C5, C6, C7, C8, C9, C10, C11, C12, C13, C14, C15, C16, C17] KE = true) (b2 : exmB K [C0, C1, C2, C3, C4, C5, C6, C7, C8, C9, C10, C11, C12, C13, C14, C15, C16, C17] KE = true)
    (D_is_letter : DefAt K mg "is_letter" s_is_letter ["thing"])
    (D_is_name : DefAt K mg "is_name" s_is_name ["thing"])
    (D_begins_class_type : DefAt K mg "begins_class_type" s_begins_class_type ["thing"])
    (D_is_type : DefAt K mg "is_type" s_is_type ["thing"])
    (D_check_type : DefAt K mg "check_type" s_check_type ["thing"])
    (D_written : DefAt K mg "written" s_written ["kind"])
    (D_text_of : DefAt K mg "text_of" s_text_of ["kind"])
    (D_text : DefAt K mg "text" s_text ["kind"])
    (D_word_at : DefAt K mg "word_at" s_word_at ["line", "at"])
    (D_scan : DefAt K mg "scan" s_scan ["line", "at"])
    (D_read : DefAt K mg "read" s_read ["text"])
    (D_Lcell_at : DefAt K mg "_law_cell_at" s_Lcell_at ["_law_script", "_law_k"])
    (D_Lpen : DefAt K mg "_law_pen" s_Lpen ["_law_cell"])
    (D_Ldraw : DefAt K mg "_law_draw" s_Ldraw ["_law_pen_here", "_law_many"])
    (D_Lsame : DefAt K mg "_law_same" s_Lsame ["_law_found", "_law_due_here"])
    (D_Lpick : DefAt K mg "_law_pick" s_Lpick ["_law_pen_here", "_law_some"])
    (D_Lword : DefAt K mg "_law_word" s_Lword ["_law_e"])
    (D_Lsaid : DefAt K mg "_law_said" s_Lsaid ["_law_call"])
    (D_Ltext : DefAt K mg "_law_text" s_Ltext ["_law_kind_here"])
    (D_Lkind : DefAt K mg "_law_kind" s_Lkind ["_law_pen_here", "_law_letters", "_law_shapes", "_law_most"])
    (D_Lodd : DefAt K mg "_law_odd" s_Lodd [])
    (D_Lis_kind : DefAt K mg "_law_is_kind" s_Lis_kind ["_law_thing"])
    (D_Lread : DefAt K mg "_law_read" s_Lread ["_law_words"])
    (D_Ldue : DefAt K mg "_law_due" s_Ldue ["_law_words"])
    (D_Lchanged : DefAt K mg "_law_changed" s_Lchanged ["_law_pen_here", "_law_words"])
    (D_Lis_right : DefAtC K mg "_law_is_right" s_Lis_right ["_law_words"] c1)
    (D_law : DefAtC K mg "law" s_law ["_law_script"] c2)
    : ∃ fd : FuncData, (∀ (s : Shared) (u : Value), BindsTo s fd ⟨[u], []⟩ [("_law_script", u)]) ∧ ∀ base : Heap, K.In base → base.Ns mainGlobals mg → TabB base mg c1 P1 → TabB base mg c2 P2 → FnG P w K mg base (L2.CX P w) 60 fa fd ["_law_script"] (spLaw3 K P1 P2) := by
  obtain ⟨f, fd, oc, od, kV, doc, pm, an, ct, osl, hm, efd, lk, hcd, hk, hb⟩ := D_law
  have ef := hm.symm.trans hfa
  cases ef
  subst efd
  refine ⟨PySem.W.fnOf "law" "law" (defArgs s_law) (defBody s_law) (defScope s_law) .none kV doc pm an (.ref c2) ct, fun s u => .of_eq rfl, fun base _ _ TB1 TB2 => ?_⟩
  have gl : ∀ j, j < 18 → mg (exN j) = some (.ref (at_ [C0, C1, C2, C3, C4, C5, C6, C7, C8, C9, C10, C11, C12, C13, C14, C15, C16, C17] j)) := fun j hj => match j, hj with
    | 0, _ => PySem.W.mg_of X GN a0
    | 1, _ => PySem.W.mg_of X GN a1
    | 2, _ => PySem.W.mg_of X GN a2
    | 3, _ => PySem.W.mg_of X GN a3
    | 4, _ => PySem.W.mg_of X GN a4
    | 5, _ => PySem.W.mg_of X GN a5
    | 6, _ => PySem.W.mg_of X GN a6
    | 7, _ => PySem.W.mg_of X GN a7
    | 8, _ => PySem.W.mg_of X GN a8
    | 9, _ => PySem.W.mg_of X GN a9
    | 10, _ => PySem.W.mg_of X GN a10
    | 11, _ => PySem.W.mg_of X GN a11
    | 12, _ => PySem.W.mg_of X GN a12
    | 13, _ => PySem.W.mg_of X GN a13
    | 14, _ => PySem.W.mg_of X GN a14
    | 15, _ => PySem.W.mg_of X GN a15
    | 16, _ => PySem.W.mg_of X GN a16
    | 17, _ => PySem.W.mg_of X GN a17
    | j + 18, hj => absurd hj (by omega)
  have Kl : Kls K mg (at_ [C0, C1, C2, C3, C4, C5, C6, C7, C8, C9, C10, C11, C12, C13, C14, C15, C16, C17]) := kls_of gl (PySem.W.mg_of X GN ak) b1
  have X0 : ExcAt K mg "NoType" (at_ [C0, C1, C2, C3, C4, C5, C6, C7, C8, C9, C10, C11, C12, C13, C14, C15, C16, C17] 0) := ⟨PySem.W.mg_of X GN a0, xk0, xb0, xt0, xe0⟩
  have X2 : ExcAt K mg "NoText" (at_ [C0, C1, C2, C3, C4, C5, C6, C7, C8, C9, C10, C11, C12, C13, C14, C15, C16, C17] 2) := ⟨PySem.W.mg_of X GN a2, xk2, xb2, xt2, xe2⟩
  have c_isl := ok_is_letter (P := P) (w := w) (base := base) G D_is_letter
  have c_isn := ok_is_name (P := P) (w := w) (base := base) G D_is_name
  have c_beg := ok_begins G c_isn D_begins_class_type
  have c_ist := ok_is_type c_isl c_beg D_is_type
  have c_chk := ok_check_type X0 c_ist D_check_type
  have c_wri := ok_written (P := P) (w := w) (base := base) G D_written
  have c_txo := ok_text_of G c_wri D_text_of
  have c_txt := ok_textX c_chk c_txo D_text
  have c_wat := ok_word_at (P := P) (w := w) (base := base) G D_word_at
  have c_wag := ok_word_g (P := P) (w := w) (base := base) (K := K) G D_word_at
  have c_sca := ok_scan G c_wat c_isn c_isl D_scan
  have c_scx := ok_scanX G X2 c_wag c_isn c_isl D_scan
  have c_rea := ok_readX G X2 c_sca c_scx D_read
  have c_cel := ok_cell (P := P) (w := w) (base := base) G D_Lcell_at
  have c_pen := ok_pen (P := P) (w := w) (base := base) G D_Lpen
  have c_dra := ok_draw (P := P) (w := w) (base := base) D_Ldraw
  have c_pic := ok_pick G c_dra D_Lpick
  have c_sam := ok_sameD (P := P) (w := w) (base := base) G D_Lsame
  have c_wor := ok_wordP (P := P) (w := w) (base := base) G Kl (PySem.W.mg_none_of X GN zv) D_Lword
  have c_odd := ok_odd (P := P) (w := w) (base := base) D_Lodd
  have c_isk := ok_is_kind (P := P) (w := w) (base := base) G D_Lis_kind 30 (by decide)
  have c_ltx := ok_ltext (P := P) (w := w) (base := base) G D_Ltext 30
  have c_kin := ok_kind G c_dra c_pic D_Lkind 13
  have c_lrd := ok_LR G c_isk D_Lread 25 (by decide)
  have c_due := ok_due G c_lrd D_Ldue
  have c_cha := ok_changed G c_dra c_pic D_Lchanged
  have c_rig := ok_right G TB1 c_wor (PySem.W.mg_of X GN ak) (exm_all b2) c_rea c_due D_Lsaid D_Lis_right
  exact ok_law3 G nP TB2 c_cel c_pen c_dra c_kin c_odd c_ltx c_sam c_cha c_isk c_txt c_rea c_rig c_wor (PySem.W.mg_of X GN ak) (exm_all b2) D_Lsaid lk hcd
end N

open PySem PySem.W PyProof.Rows
set_option maxHeartbeats 0 in
theorem PySem.Challenge.cw_endlesskinds_k03_texts_of_kinds_holds : PySem.Challenge.rw_endlesskinds_k03_texts_of_kinds.Holds := by
  w_on; o_law; k_head; (case hw => w_witness2)
  k_fill
  refine N.walkGTs (l := PySem.Challenge.rw_endlesskinds_k03_texts_of_kinds) (n := 63) (k := 60) (x := "_law_script") (Ps := [457, 462]) (CX := fun w => L2.CX PySem.Challenge.rw_endlesskinds_k03_texts_of_kinds.prog w) (sp := fun w => N.spLaw3 _ 457 462) rfl (by decide) rfl ⟨rfl, by decide, by decide⟩ (fun w h Y => PySem.W.km_in_of Y) (fun w h Y Pt hm => PySem.W.km_tabs_of Y Pt hm) ?zoff ?F (fun w H a ns hl hP hS => ⟨a, ns, rfl, hS, hl, LamX.TabS.nil (hP 457 (by simp)), LamX.TabS.nil (hP 462 (by simp)), fun _ => rfl⟩) (fun w H s e s' h => by obtain ⟨_, _, _, _, _, _, _, _, _, _, _, _, z⟩ := h; exact z)
  case zoff =>
    intro w Pt hm
    simp only [List.mem_cons, List.not_mem_nil, or_false] at hm
    rcases hm with rfl | rfl
    · kernel_rfl
    · kernel_rfl
  case F =>
    intro w mg fa h KX G hmg
    refine' N.packTs (N.all_here (P := PySem.Challenge.rw_endlesskinds_k03_texts_of_kinds.prog) ?nP KX G hmg ?glo ?zv ?a0 ?a1 ?a2 ?a3 ?a4 ?a5 ?a6 ?a7 ?a8 ?a9 ?a10 ?a11 ?a12 ?a13 ?a14 ?a15 ?a16 ?a17 ?ak ?xk0 ?xb0 ?xt0 ?xe0 ?xk2 ?xb2 ?xt2 ?xe2 ?b1 ?b2 ?d_is_letter ?d_is_name ?d_begins_class_type ?d_is_type ?d_check_type ?d_written ?d_text_of ?d_text ?d_word_at ?d_scan ?d_read ?d_Lcell_at ?d_Lpen ?d_Ldraw ?d_Lsame ?d_Lpick ?d_Lword ?d_Lsaid ?d_Ltext ?d_Lkind ?d_Lodd ?d_Lis_kind ?d_Lread ?d_Ldue ?d_Lchanged ?d_Lis_right ?d_law) ?zcd1 ?zcd2
    case nP => decide
    case glo =>
      refine' N.glo_mk KX G ?zg0 ?zg1 ?zg2 ?zg3 ?zg4 ?zg5 ?zg6 ?zg7 ?zg8 ?zg9 ?zg10 ?zg11 ?zgl ?zgm
      (case zg0 => k_is); (case zg1 => k_is); (case zg2 => k_is); (case zg3 => k_is); (case zg4 => k_is); (case zg5 => k_is); (case zg6 => k_is); (case zg7 => k_is); (case zg8 => k_is); (case zg9 => k_is); (case zg10 => k_is); (case zg11 => k_is); (case zgl => k_is); (case zgm => k_is)
    (case zv => k_is)
    (case a0 => k_is); (case a1 => k_is); (case a2 => k_is); (case a3 => k_is); (case a4 => k_is); (case a5 => k_is); (case a6 => k_is); (case a7 => k_is); (case a8 => k_is); (case a9 => k_is); (case a10 => k_is); (case a11 => k_is); (case a12 => k_is); (case a13 => k_is); (case a14 => k_is); (case a15 => k_is); (case a16 => k_is); (case a17 => k_is)
    (case ak => k_is); (case xk0 => k_is); (case xb0 => k_is); (case xt0 => k_is); (case xe0 => k_exc); (case xk2 => k_is); (case xb2 => k_is); (case xt2 => k_is); (case xe2 => k_exc)
    (case b1 => kernel_rfl)
    (case b2 => kernel_rfl)
    case d_is_letter =>
      refine' N.mk_def KX G ?za_d_is_letter ?zl_d_is_letter ?zc_d_is_letter ?zk_d_is_letter ?zb_d_is_letter
      (case za_d_is_letter => k_is); (case zl_d_is_letter => k_is); (case zc_d_is_letter => k_is); (case zk_d_is_letter => k_is); (case zb_d_is_letter => exact fun _ _ _ _ _ _ us hl => match us, hl with | [_], _ => rfl)
    case d_is_name =>
      refine' N.mk_def KX G ?za_d_is_name ?zl_d_is_name ?zc_d_is_name ?zk_d_is_name ?zb_d_is_name
      (case za_d_is_name => k_is); (case zl_d_is_name => k_is); (case zc_d_is_name => k_is); (case zk_d_is_name => k_is); (case zb_d_is_name => exact fun _ _ _ _ _ _ us hl => match us, hl with | [_], _ => rfl)
    case d_begins_class_type =>
      refine' N.mk_def KX G ?za_d_begins_class_type ?zl_d_begins_class_type ?zc_d_begins_class_type ?zk_d_begins_class_type ?zb_d_begins_class_type
      (case za_d_begins_class_type => k_is); (case zl_d_begins_class_type => k_is); (case zc_d_begins_class_type => k_is); (case zk_d_begins_class_type => k_is); (case zb_d_begins_class_type => exact fun _ _ _ _ _ _ us hl => match us, hl with | [_], _ => rfl)
    case d_is_type =>
      refine' N.mk_def KX G ?za_d_is_type ?zl_d_is_type ?zc_d_is_type ?zk_d_is_type ?zb_d_is_type
      (case za_d_is_type => k_is); (case zl_d_is_type => k_is); (case zc_d_is_type => k_is); (case zk_d_is_type => k_is); (case zb_d_is_type => exact fun _ _ _ _ _ _ us hl => match us, hl with | [_], _ => rfl)
    case d_check_type =>
      refine' N.mk_def KX G ?za_d_check_type ?zl_d_check_type ?zc_d_check_type ?zk_d_check_type ?zb_d_check_type
      (case za_d_check_type => k_is); (case zl_d_check_type => k_is); (case zc_d_check_type => k_is); (case zk_d_check_type => k_is); (case zb_d_check_type => exact fun _ _ _ _ _ _ us hl => match us, hl with | [_], _ => rfl)
    case d_written =>
      refine' N.mk_def KX G ?za_d_written ?zl_d_written ?zc_d_written ?zk_d_written ?zb_d_written
      (case za_d_written => k_is); (case zl_d_written => k_is); (case zc_d_written => k_is); (case zk_d_written => k_is); (case zb_d_written => exact fun _ _ _ _ _ _ us hl => match us, hl with | [_], _ => rfl)
    case d_text_of =>
      refine' N.mk_def KX G ?za_d_text_of ?zl_d_text_of ?zc_d_text_of ?zk_d_text_of ?zb_d_text_of
      (case za_d_text_of => k_is); (case zl_d_text_of => k_is); (case zc_d_text_of => k_is); (case zk_d_text_of => k_is); (case zb_d_text_of => exact fun _ _ _ _ _ _ us hl => match us, hl with | [_], _ => rfl)
    case d_text =>
      refine' N.mk_def KX G ?za_d_text ?zl_d_text ?zc_d_text ?zk_d_text ?zb_d_text
      (case za_d_text => k_is); (case zl_d_text => k_is); (case zc_d_text => k_is); (case zk_d_text => k_is); (case zb_d_text => exact fun _ _ _ _ _ _ us hl => match us, hl with | [_], _ => rfl)
    case d_word_at =>
      refine' N.mk_def KX G ?za_d_word_at ?zl_d_word_at ?zc_d_word_at ?zk_d_word_at ?zb_d_word_at
      (case za_d_word_at => k_is); (case zl_d_word_at => k_is); (case zc_d_word_at => k_is); (case zk_d_word_at => k_is); (case zb_d_word_at => exact fun _ _ _ _ _ _ us hl => match us, hl with | [_, _], _ => rfl)
    case d_scan =>
      refine' N.mk_def KX G ?za_d_scan ?zl_d_scan ?zc_d_scan ?zk_d_scan ?zb_d_scan
      (case za_d_scan => k_is); (case zl_d_scan => k_is); (case zc_d_scan => k_is); (case zk_d_scan => k_is); (case zb_d_scan => exact fun _ _ _ _ _ _ us hl => match us, hl with | [_, _], _ => rfl)
    case d_read =>
      refine' N.mk_def KX G ?za_d_read ?zl_d_read ?zc_d_read ?zk_d_read ?zb_d_read
      (case za_d_read => k_is); (case zl_d_read => k_is); (case zc_d_read => k_is); (case zk_d_read => k_is); (case zb_d_read => exact fun _ _ _ _ _ _ us hl => match us, hl with | [_], _ => rfl)
    case d_Lcell_at =>
      refine' N.mk_def KX G ?za_d_Lcell_at ?zl_d_Lcell_at ?zc_d_Lcell_at ?zk_d_Lcell_at ?zb_d_Lcell_at
      (case za_d_Lcell_at => k_is); (case zl_d_Lcell_at => k_is); (case zc_d_Lcell_at => k_is); (case zk_d_Lcell_at => k_is); (case zb_d_Lcell_at => exact fun _ _ _ _ _ _ us hl => match us, hl with | [_, _], _ => rfl)
    case d_Lpen =>
      refine' N.mk_def KX G ?za_d_Lpen ?zl_d_Lpen ?zc_d_Lpen ?zk_d_Lpen ?zb_d_Lpen
      (case za_d_Lpen => k_is); (case zl_d_Lpen => k_is); (case zc_d_Lpen => k_is); (case zk_d_Lpen => k_is); (case zb_d_Lpen => exact fun _ _ _ _ _ _ us hl => match us, hl with | [_], _ => rfl)
    case d_Ldraw =>
      refine' N.mk_def KX G ?za_d_Ldraw ?zl_d_Ldraw ?zc_d_Ldraw ?zk_d_Ldraw ?zb_d_Ldraw
      (case za_d_Ldraw => k_is); (case zl_d_Ldraw => k_is); (case zc_d_Ldraw => k_is); (case zk_d_Ldraw => k_is); (case zb_d_Ldraw => exact fun _ _ _ _ _ _ us hl => match us, hl with | [_, _], _ => rfl)
    case d_Lsame =>
      refine' N.mk_def KX G ?za_d_Lsame ?zl_d_Lsame ?zc_d_Lsame ?zk_d_Lsame ?zb_d_Lsame
      (case za_d_Lsame => k_is); (case zl_d_Lsame => k_is); (case zc_d_Lsame => k_is); (case zk_d_Lsame => k_is); (case zb_d_Lsame => exact fun _ _ _ _ _ _ us hl => match us, hl with | [_, _], _ => rfl)
    case d_Lpick =>
      refine' N.mk_def KX G ?za_d_Lpick ?zl_d_Lpick ?zc_d_Lpick ?zk_d_Lpick ?zb_d_Lpick
      (case za_d_Lpick => k_is); (case zl_d_Lpick => k_is); (case zc_d_Lpick => k_is); (case zk_d_Lpick => k_is); (case zb_d_Lpick => exact fun _ _ _ _ _ _ us hl => match us, hl with | [_, _], _ => rfl)
    case d_Lword =>
      refine' N.mk_def KX G ?za_d_Lword ?zl_d_Lword ?zc_d_Lword ?zk_d_Lword ?zb_d_Lword
      (case za_d_Lword => k_is); (case zl_d_Lword => k_is); (case zc_d_Lword => k_is); (case zk_d_Lword => k_is); (case zb_d_Lword => exact fun _ _ _ _ _ _ us hl => match us, hl with | [_], _ => rfl)
    case d_Lsaid =>
      refine' N.mk_def KX G ?za_d_Lsaid ?zl_d_Lsaid ?zc_d_Lsaid ?zk_d_Lsaid ?zb_d_Lsaid
      (case za_d_Lsaid => k_is); (case zl_d_Lsaid => k_is); (case zc_d_Lsaid => k_is); (case zk_d_Lsaid => k_is); (case zb_d_Lsaid => exact fun _ _ _ _ _ _ us hl => match us, hl with | [_], _ => rfl)
    case d_Ltext =>
      refine' N.mk_def KX G ?za_d_Ltext ?zl_d_Ltext ?zc_d_Ltext ?zk_d_Ltext ?zb_d_Ltext
      (case za_d_Ltext => k_is); (case zl_d_Ltext => k_is); (case zc_d_Ltext => k_is); (case zk_d_Ltext => k_is); (case zb_d_Ltext => exact fun _ _ _ _ _ _ us hl => match us, hl with | [_], _ => rfl)
    case d_Lkind =>
      refine' N.mk_def KX G ?za_d_Lkind ?zl_d_Lkind ?zc_d_Lkind ?zk_d_Lkind ?zb_d_Lkind
      (case za_d_Lkind => k_is); (case zl_d_Lkind => k_is); (case zc_d_Lkind => k_is); (case zk_d_Lkind => k_is); (case zb_d_Lkind => exact fun _ _ _ _ _ _ us hl => match us, hl with | [_, _, _, _], _ => rfl)
    case d_Lodd =>
      refine' N.mk_def KX G ?za_d_Lodd ?zl_d_Lodd ?zc_d_Lodd ?zk_d_Lodd ?zb_d_Lodd
      (case za_d_Lodd => k_is); (case zl_d_Lodd => k_is); (case zc_d_Lodd => k_is); (case zk_d_Lodd => k_is); (case zb_d_Lodd => exact fun _ _ _ _ _ _ us hl => match us, hl with | [], _ => rfl)
    case d_Lis_kind =>
      refine' N.mk_def KX G ?za_d_Lis_kind ?zl_d_Lis_kind ?zc_d_Lis_kind ?zk_d_Lis_kind ?zb_d_Lis_kind
      (case za_d_Lis_kind => k_is); (case zl_d_Lis_kind => k_is); (case zc_d_Lis_kind => k_is); (case zk_d_Lis_kind => k_is); (case zb_d_Lis_kind => exact fun _ _ _ _ _ _ us hl => match us, hl with | [_], _ => rfl)
    case d_Lread =>
      refine' N.mk_def KX G ?za_d_Lread ?zl_d_Lread ?zc_d_Lread ?zk_d_Lread ?zb_d_Lread
      (case za_d_Lread => k_is); (case zl_d_Lread => k_is); (case zc_d_Lread => k_is); (case zk_d_Lread => k_is); (case zb_d_Lread => exact fun _ _ _ _ _ _ us hl => match us, hl with | [_], _ => rfl)
    case d_Ldue =>
      refine' N.mk_def KX G ?za_d_Ldue ?zl_d_Ldue ?zc_d_Ldue ?zk_d_Ldue ?zb_d_Ldue
      (case za_d_Ldue => k_is); (case zl_d_Ldue => k_is); (case zc_d_Ldue => k_is); (case zk_d_Ldue => k_is); (case zb_d_Ldue => exact fun _ _ _ _ _ _ us hl => match us, hl with | [_], _ => rfl)
    case d_Lchanged =>
      refine' N.mk_def KX G ?za_d_Lchanged ?zl_d_Lchanged ?zc_d_Lchanged ?zk_d_Lchanged ?zb_d_Lchanged
      (case za_d_Lchanged => k_is); (case zl_d_Lchanged => k_is); (case zc_d_Lchanged => k_is); (case zk_d_Lchanged => k_is); (case zb_d_Lchanged => exact fun _ _ _ _ _ _ us hl => match us, hl with | [_, _], _ => rfl)
    case d_Lis_right =>
      refine' N.mk_defC KX G ?za_d_Lis_right ?zl_d_Lis_right ?zc_d_Lis_right ?zk_d_Lis_right ?zb_d_Lis_right
      (case za_d_Lis_right => k_is); (case zl_d_Lis_right => k_is); (case zc_d_Lis_right => k_is); (case zk_d_Lis_right => k_is); (case zb_d_Lis_right => exact fun _ _ _ _ _ _ us hl => match us, hl with | [_], _ => rfl)
    case d_law =>
      refine' N.mk_defC KX G ?za_d_law ?zl_d_law ?zc_d_law ?zk_d_law ?zb_d_law
      (case za_d_law => k_is); (case zl_d_law => k_is); (case zc_d_law => k_is); (case zk_d_law => k_is); (case zb_d_law => exact fun _ _ _ _ _ _ us hl => match us, hl with | [_], _ => rfl)
    case zcd1 => kernel_rfl
    case zcd2 => kernel_rfl

