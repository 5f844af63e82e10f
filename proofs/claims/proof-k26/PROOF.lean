import PyProof.Rows.All
import Wide.All
import OpenK.AllK
import Wide.FinOn
import HandS.ForMost
import HandS.ForExc
import HandS.Star
import HandS.IsInst
import HandS.TupAny
import HandS.StrMore
import HandS.Style
import HandS.Flow
import HandS.Walk
import HandS.ExcInit
import HandS.ExcValue
import HandS.ExcIs
import HandS.ExcField
import KE.KExcIs
import HandS.Nested
import HandS.ExcSuper
import KE.KExcSuper
import HandS.FStr
import HandS.Defaults
import HandS.MakeKw
import HandS.SetFor
import PySem.Challenge.RW_endlesskinds_k26_exceptions_made
set_option Elab.async false
set_option linter.all false
set_option maxRecDepth 100000
set_option maxHeartbeats 8000000
namespace N
open PySem PySem.Spec PyProof.Rows L2
/-! ### rules that were lacking -/
theorem extend_tup_any (l : Addr) (items : Array Value) (n : Nat) (b : Addr) (items2 : Array Value) (n2 : Nat) (dd : Option Addr) (sl : Array (Option Value)) (hs0 : ¬(!items.isEmpty && Builtin.List.listTooLong (items.size + items2.size)) = true) (hs1 : items.size ≤ sizeLine) (hs2 : items.size + items2.size ≤ sizeLine + 1) :
    Meets (Builtin.«list.extend» ⟨[.ref l, .ref b], []⟩) (fun _ R s => s.heap.get? l = some { cls := .type "list", dict := none, data := .seq items n, slots := #[] } ∧ s.heap.get? b = some { cls := .type "tuple", dict := dd, data := .seq items2 n2, slots := sl } ∧ R (.ok (.ret Value.none)) { s with heap := s.heap.update l (Obj.mapSeq fun x => x ++ items2), toks := s.toks }) :=
  .of_wp fun prog w A R s h => by
    obtain ⟨hp, g, d, tk, os⟩ := s; obtain ⟨hl, hb, h⟩ := h
    have f1 := AutoSeq1.idx_int; have f2 := AutoSeq1.sub_tuple_tuple; have f3 := AutoSeq1.sub_list_list; have f4 := AutoSeq1.sub_tuple_list; have f5 := AutoSeq1.sub_list_tuple
    have hz' : (items ++ items2).size ≤ sizeLine + 1 := by rw [Array.size_append]; exact hs2
    wp_walk using (wpAny_updateSeq hl rfl (hz := hs1) (_hz' := hz')), AutoSeq1.wpAny_loadPart' hl, AutoSeq1.wpAny_loadPart' hb; exact ⟨_, rfl, h⟩
/-- l.extend(t), t a tuple -/
def rExtendT (K : PySem.W.Frag) : V → List V → Hp → VK → Prop := fun x vs H Q => ∃ l b xs zs, x = .ref l ∧ vs = [.ref b] ∧ H l = some (.lst xs) ∧ SqT K H b zs ∧ xs.length + zs.length ≤ sizeLine ∧ Q .non (upd H l (.lst (xs ++ zs)))
section
variable {X : Cx}
theorem mt_extendT : MtM X "list.extend" (rExtendT X.K) := by
  intro pins s σ H x vs v us Q I rx rv h
  obtain ⟨l, b, xs, zs, rfl, rfl, hH, hB, hz, q⟩ := h
  cases rx
  obtain ⟨u, rfl, ru⟩ := rv.one
  cases ru
  obtain ⟨z, its, n, r, hl, e⟩ := I.lstM hH
  obtain ⟨its2, r2, ⟨⟨cls, dd, data, sls⟩, e2, hc, n2, hd⟩, hl2⟩ := I.tuple hB
  simp only at hc hd
  subst hc hd
  have hx1 := r.length
  have hx2 := r2.length
  have hsz : its.toArray.size + its2.toArray.size ≤ sizeLine := by rw [List.size_toArray, List.size_toArray]; omega
  have hlong : ¬ (!its.toArray.isEmpty && Builtin.List.listTooLong (its.toArray.size + its2.toArray.size)) = true := by
    rw [notLongL hsz, Bool.and_false]
    exact Bool.false_ne_true
  refine call_meets F.slot_list_extend ⟨_, e, rfl⟩ F.entry_list_extend (F.args_list_extend_2 _ _)
    (extend_tup_any l its.toArray n b its2.toArray n2 dd sls hlong (by rw [List.size_toArray]; omega) (by omega)) ⟨e, e2, ?_⟩
  refine ⟨.non, _, I.lset (its' := its ++ its2) hH e (by simp) (r.append r2) ?_, rfl, q⟩
  rw [List.length_append]
  omega
end
end N

namespace N
open PySem PySem.Spec PyProof.Rows L2 HT
section
variable {prog : Program} {w : World} {A : Around} {E : Value → Shared → Prop} {s : Shared}
theorem adjust_back (n : Nat) (h : 1 ≤ n) : Builtin.Slice.sliceAdjust none (some 0) (-1) (n : Int) = ((n : Int) - 1, 0) := by
  unfold Builtin.Slice.sliceAdjust
  have h1 : ((-1 : Int) < 0) := by omega
  simp only [h1, if_true]
  refine Prod.ext ?_ ?_
  · first | rfl | (simp; done) | omega
  · show _ = _
    simp
    omega
theorem places_back (n : Nat) (h : 1 ≤ n) : Builtin.Slice.slicePlaces ((n : Int) - 1) 0 (-1) = n - 1 := by
  unfold Builtin.Slice.slicePlaces
  have h1 : ¬ ((-1 : Int) > 0) := by omega
  simp only [h1, if_false]
  have e : (- -1 : Int) = 1 := by decide
  rw [e, Int.ediv_one]
  split <;> omega
theorem applied_back {sl : Addr} {vl vu vs : Value} {n : Nat} {Q : Int × Int × Nat → Shared → Prop} (h1 : 1 ≤ n) (hs : s.heap.IsSliceOf sl vl vu vs) (pl : IsPart vl none) (pu : IsPart vu (some 0)) (ps : IsPart vs (some (-1)))
    (h : Q ((n : Int) - 1, -1, n - 1) s) : wpAny (model prog w) A (Builtin.Slice.sliceApplied (.ref sl) (pure (n : Int))) Q E s := by
  obtain ⟨os, hos, hcs, hds⟩ := id hs
  unfold Builtin.Slice.sliceApplied Builtin.Slice.sliceFields
  refine wpAny_bind (wpAny_bind (wpAny_field hos hds (x := vl) rfl (wpAny_bind (wpAny_field hos hds (x := vu) rfl (wpAny_bind (wpAny_field hos hds (x := vs) rfl (wpAny_pure ?_)))))))
  refine wpAny_bind (slicePart_ ps ?_)
  show wpAny _ _ (if ((-1 : Int) == 0) = true then _ else _) _ _ s
  rw [if_neg (by decide)]
  refine wpAny_bind (slicePart_ pl (wpAny_bind (slicePart_ pu (wpAny_bind (wpAny_pure ?_)))))
  show wpAny _ _ (match Builtin.Slice.sliceAdjust none (some 0) (-1) (n : Int) with | (lo, hi) => pure (lo, (-1 : Int), Builtin.Slice.slicePlaces lo hi (-1))) _ _ s
  rw [adjust_back n h1]
  show wpAny _ _ (pure ((n : Int) - 1, (-1 : Int), Builtin.Slice.slicePlaces ((n : Int) - 1) 0 (-1))) _ _ s
  rw [places_back n h1]
  exact wpAny_pure h
theorem pick_back (xs : Array Value) (h : 1 ≤ xs.size) : ((List.range (xs.size - 1)).filterMap fun (m : Nat) => xs[(((xs.size : Int) - 1) + (m : Int) * (-1)).toNat]?).toArray = (xs.toList.drop 1).reverse.toArray := by
  refine congrArg List.toArray ?_
  have e : ∀ m ∈ List.range (xs.size - 1), xs[(((xs.size : Int) - 1) + (m : Int) * (-1)).toNat]? = some (xs.toList.reverse.getD m .none) := by
    intro m hm
    have hm' := List.mem_range.mp hm
    have e1 : (((xs.size : Int) - 1) + (m : Int) * (-1)).toNat = xs.size - 1 - m := by omega
    rw [e1, ← Array.getElem?_toList, List.getD_eq_getElem?_getD, List.getElem?_reverse (by rw [Array.length_toList]; omega), Array.length_toList,
      List.getElem?_eq_getElem (show xs.size - 1 - m < xs.toList.length by rw [Array.length_toList]; omega)]
    rfl
  have e2 : (List.range (xs.size - 1)).filterMap (fun (m : Nat) => xs[(((xs.size : Int) - 1) + (m : Int) * (-1)).toNat]?) = (List.range (xs.size - 1)).filterMap (fun m => some (xs.toList.reverse.getD m .none)) := by
    generalize List.range (xs.size - 1) = l at e
    induction l with
    | nil => rfl
    | cons a r ih =>
      rw [List.filterMap_cons, List.filterMap_cons, e a List.mem_cons_self, ih fun m hm => e m (List.mem_cons_of_mem _ hm)]
  rw [e2, List.filterMap_eq_map' ] <;> try rfl
  apply List.ext_getElem?
  intro i
  rw [List.getElem?_map]
  by_cases hi : i < xs.size - 1
  · rw [List.getElem?_range hi, List.getElem?_reverse (by rw [List.length_drop, Array.length_toList]; omega), List.length_drop, Array.length_toList, List.getElem?_drop,
      Option.map_some, List.getD_eq_getElem?_getD, List.getElem?_reverse (by rw [Array.length_toList]; omega), Array.length_toList,
      show 1 + (xs.size - 1 - 1 - i) = xs.size - 1 - i by omega, List.getElem?_eq_getElem (show xs.size - 1 - i < xs.toList.length by rw [Array.length_toList]; omega)]
    rfl
  · rw [List.getElem?_eq_none (by rw [List.length_range]; omega), List.getElem?_eq_none (by rw [List.length_reverse, List.length_drop, Array.length_toList]; omega)]
    rfl
theorem getItem_tuple_back {t sl : Addr} {items : Array Value} {vl vu vs : Value} {Q : Value → Shared → Prop} (ht : IsTup s.heap t items) (h1 : 1 ≤ items.size) (hs : s.heap.IsSliceOf sl vl vu vs) (pl : IsPart vl none) (pu : IsPart vu (some 0)) (ps : IsPart vs (some (-1)))
    (h : Q (.ref s.heap.objs.size) { s with heap := s.heap.push { cls := .type "tuple", data := .seq (items.toList.drop 1).reverse.toArray } })
    (hsz : items.size ≤ sizeLine) : wpAny (model prog w) A (getItem (.ref t) (.ref sl)) Q E s := by
  have htake : sizeOk (.seq (items.toList.drop 1).reverse.toArray) := by
    show ((items.toList.drop 1).reverse).toArray.size ≤ sizeLine
    rw [List.size_toArray, List.length_reverse, List.length_drop, Array.length_toList]
    omega
  obtain ⟨os, hos, hcs, hds⟩ := id hs
  have hTs : s.TypeIs (.ref sl) "slice" := ⟨os, hos, hcs⟩
  unfold getItem
  try with_reducible refine wpAny_holding ?_
  first | refine wpAny_bind (wpAny_pure ?_) | skip
  refine wpAny_bind (wpAny_sequenceKey ht.typeIs (by decide) ?_)
  refine wpAny_bind (wpAny_callSpecial?_slot (name := Str.ofString "__getitem__") ht.typeIs PyProof.Rows.slot_tuple_getitem
    (wpAny_call_entry PyProof.Rows.slot_tuple_getitem ht.typeIs entry_tuple_getitem ?_ (args_tuple_getitem _ _)))
  show wpAny _ _ (Builtin.Tuple.tupleItemsOf (.ref t) >>= _) _ _ s
  refine wpAny_bind (tupleItemsOf_ ht ?_)
  refine wpAny_bind (wpAny_typeOf hTs ?_)
  rw [if_pos (by decide)]
  refine wpAny_bind (applied_back h1 hs pl pu ps ?_)
  show wpAny _ _ (if ((((items.size : Int) - 1)) == 0 && (-1 : Int) == 1 && (items.size - 1) == items.size) = true then _ else _) _ _ s
  rw [if_neg (by simp), pick_back items h1]
  first
    | exact wpAny_bind (m := Builtin.Tuple.tupleExact _) (wpAny_newObj_type (wpAny_pure ⟨_, rfl, wpAny_pure h⟩) htake)
    | exact wpAny_bind (m := Builtin.Tuple.tupleExact _) (wpAny_newObj_type (wpAny_bind (wpAny_pure (wpAny_pure ⟨_, rfl, wpAny_pure h⟩))) htake)
    | exact wpAny_bind (wpAny_bind (m := Builtin.Tuple.tupleExact _) (wpAny_newObj_type (wpAny_pure (wpAny_pure ⟨_, rfl, wpAny_pure h⟩)) htake))
    | exact wpAny_bind (wpAny_bind (m := Builtin.Tuple.tupleExact _) (wpAny_newObj_type (wpAny_pure ⟨_, rfl, wpAny_pure h⟩) htake))
end
/-- t[:0:-1] -/
def tBackT (K : PySem.W.Frag) (te : TE) : TE := fun σ H Q => te σ H fun x H1 => ∃ a xs, x = .ref a ∧ SqT K H1 a xs ∧ 1 ≤ xs.length ∧ ∀ p, H1 p = none → Q (.ref p) (upd H1 p (.tup (xs.drop 1).reverse))
section
variable {X : Cx}
theorem pe_backT {e : Expr} {te : TE} {k k0 : Nat} {p0 p1 p2 p3 pos : Pos} (he : PE X e te) : PE X (.Subscript e (.Slice none (some (.Constant (.int 0) k0 p0)) (some (.UnaryOp .USub (.Constant (.int 1) k p1) p2)) p3) pos) (tBackT X.K te) := by
  refine ⟨fun pins s σ H Q I h => ?_⟩
  refine Subscript_ (thn (he.run pins s σ H _ I h) fun v s1 ⟨x, H1, I1, r1, q1⟩ => ?_)
  obtain ⟨a, xs, ex, hx, h1, q⟩ := q1
  subst ex
  cases r1
  have hst : PO X (some (.UnaryOp .USub (.Constant (.int 1) k p1) p2)) (tPart (tUn (rU fun i => .int (-i)) (tC (.int 1)))) := po_some (pe_un un_neg pe_int)
  have hhi : PO X (some (.Constant (.int 0) k0 p0)) (tPart (tC (.int 0))) := po_some pe_int
  refine wpAny_Slice (thn (po_none.run pins s1 σ H1 (fun o H2 => o = none ∧ H2 = H1) I1 ⟨rfl, rfl⟩) fun vl s2 ⟨l, H2, I2, pl, el, e2⟩ => ?_)
  subst el e2
  refine thn (hhi.run pins s2 σ H2 (fun o H3 => o = some 0 ∧ H3 = H2) I2 ⟨0, rfl, rfl, rfl⟩) fun vu s3 ⟨u, H3, I3, pu, eu, e3⟩ => ?_
  subst eu e3
  refine thn (hst.run pins s3 σ H3 (fun o H4 => o = some (-1) ∧ H4 = H3) I3 ⟨1, rfl, -1, rfl, rfl, rfl⟩) fun vs s4 ⟨o, H4, I4, ps, eo, e4⟩ => ?_
  subst eo e4
  have I5 : Inv X pins σ H4 { s4 with heap := s4.heap.push { cls := .type "slice", data := .fields #[vl, vu, vs] } } := I4.kept (t' := s4.toks) fun b ob q => Heap.get?_push_of_some _ q
  obtain ⟨its, r, ht, hz⟩ := I5.tuple hx
  have hlen := r.length
  show wpAny (model X.prog X.w) X.A (subscriptTail e (.Slice none (some (.Constant (.int 0) k0 p0)) (some (.UnaryOp .USub (.Constant (.int 1) k p1) p2)) p3) (.ref a) (.ref s4.heap.objs.size)) (EP X pins σ Q) X.xe { s4 with heap := s4.heap.push { cls := .type "slice", data := .fields #[vl, vu, vs] } }
  refine tail_any (ops := [.ref a, .ref s4.heap.objs.size]) ht.typeIs (PyProof.Rows.slot_tuple_getitem.lookup) ?_ (by with_unfolding_all rfl)
  refine getItem_tuple_back ht (by rw [List.size_toArray]; omega) (Heap.IsSliceOf.new _ vl vu vs) pl pu ps ?_ (by rw [List.size_toArray]; omega)
  refine ⟨.ref _, _, I5.laid (t' := s4.toks) (o := .tup (xs.drop 1).reverse) (fun b ob q => Heap.get?_push_of_some _ q) (Nat.le_refl _) ?_, rfl, q _ (I5.hok.fresh (Nat.le_refl _))⟩
  refine ⟨by rw [List.length_reverse, List.length_drop]; omega, (its.drop 1).reverse, ?_, ⟨_, Heap.get?_push_size _ rfl, rfl, _, rfl⟩⟩
  exact (r.drop 1).reverse
end
end N

namespace N
open PySem PySem.Spec PyProof.Rows L2
/-! ### words -/
theorem asc_alpha : ∀ c : Nat, c < 128 → Unicode.isAlpha c = (decide (65 ≤ c ∧ c ≤ 90) || decide (97 ≤ c ∧ c ≤ 122)) := by
  intro c h
  have q : ∀ c : Fin 128, Unicode.isAlpha c.1 = (decide (65 ≤ c.1 ∧ c.1 ≤ 90) || decide (97 ≤ c.1 ∧ c.1 ≤ 122)) := by decide +kernel
  exact q ⟨c, h⟩
theorem asc_lower : ∀ c : Nat, c < 128 → Unicode.isLower c = decide (97 ≤ c ∧ c ≤ 122) := by
  intro c h
  have q : ∀ c : Fin 128, Unicode.isLower c.1 = decide (97 ≤ c.1 ∧ c.1 ≤ 122) := by decide +kernel
  exact q ⟨c, h⟩
theorem asc_upper : ∀ c : Nat, c < 128 → (Unicode.isUpper c || Unicode.isTitle c) = decide (65 ≤ c ∧ c ≤ 90) := by
  intro c h
  have q : ∀ c : Fin 128, (Unicode.isUpper c.1 || Unicode.isTitle c.1) = decide (65 ≤ c.1 ∧ c.1 ≤ 90) := by decide +kernel
  exact q ⟨c, h⟩
/-- a letter, as the def says it -/
def isLet (x : Str) : Bool := decide (x.length = 1) && (!decide (x.cps.toList < ("A" : Str).cps.toList) && !decide (("Z" : Str).cps.toList < x.cps.toList))
def isNam (x : Str) : Bool := !decide (8 < x.length) && (Txt.isascii x && (Txt.isalpha x && Txt.islower x))
def Low (c : Nat) : Prop := 97 ≤ c ∧ c ≤ 122
theorem isLet_iff {x : Str} : isLet x = true ↔ ∃ c, x.cps.toList = [c] ∧ 65 ≤ c ∧ c ≤ 90 := by
  unfold isLet Str.length
  have eA : ("A" : Str).cps.toList = [65] := by decide +kernel
  have eZ : ("Z" : Str).cps.toList = [90] := by decide +kernel
  rw [eA, eZ]
  obtain ⟨⟨l⟩⟩ := x
  simp only [Bool.and_eq_true, decide_eq_true_eq, Bool.not_eq_true', decide_eq_false_iff_not, List.size_toArray]
  constructor
  · rintro ⟨h1, h2, h3⟩
    match l, h1 with
    | [c], _ =>
      refine ⟨c, rfl, ?_, ?_⟩
      · have : ¬ c < 65 := fun q => h2 (by simp [List.cons_lt_cons_iff, q])
        omega
      · have : ¬ 90 < c := fun q => h3 (by simp [List.cons_lt_cons_iff, q])
        omega
  · rintro ⟨c, h, h2, h3⟩
    subst h
    refine ⟨rfl, fun q => ?_, fun q => ?_⟩
    · simp [List.cons_lt_cons_iff] at q
      omega
    · simp [List.cons_lt_cons_iff] at q
      omega
theorem isNam_iff {x : Str} : isNam x = true ↔ 1 ≤ x.length ∧ x.length ≤ 8 ∧ ∀ c ∈ x.cps.toList, Low c := by
  obtain ⟨⟨l⟩⟩ := x
  have e1 : Txt.isascii ⟨⟨l⟩⟩ = l.all (fun c => decide (c < 128)) := by
    show Array.all _ _ = _
    exact List.all_toArray ..
  have e2 : Txt.isalpha ⟨⟨l⟩⟩ = (decide (l.length > 0) && l.all Unicode.isAlpha) := by
    show (decide _ && Array.all _ _) = _
    exact congrArg _ (List.all_toArray ..)
  have e3 : Txt.islower ⟨⟨l⟩⟩ = (l.any Unicode.isLower && !l.any fun c => Unicode.isUpper c || Unicode.isTitle c) := by
    show (Array.any _ _ && !Array.any _ _) = _
    exact congr (congrArg _ (List.any_toArray ..)) (congrArg _ (List.any_toArray ..))
  unfold isNam
  rw [e1, e2, e3]
  show (!decide (8 < l.length) && _) = true ↔ 1 ≤ l.length ∧ l.length ≤ 8 ∧ ∀ c ∈ l, Low c
  simp only [Bool.and_eq_true, Bool.not_eq_true', decide_eq_false_iff_not, decide_eq_true_eq, List.all_eq_true, List.any_eq_true, List.any_eq_false, Nat.not_lt]
  constructor
  · rintro ⟨h8, ha, ⟨h1, hb⟩, h3, h4⟩
    refine ⟨by omega, h8, fun c hc => ?_⟩
    have a1 := ha c hc
    have a2 := hb c hc
    rw [asc_alpha c a1] at a2
    have a3 := h4 c hc
    rw [asc_upper c a1] at a3
    simp only [Bool.or_eq_true, decide_eq_true_eq] at a2 a3
    unfold Low
    omega
  · rintro ⟨h1, h8, h⟩
    have hl : ∀ c ∈ l, 97 ≤ c ∧ c ≤ 122 := h
    refine ⟨h8, fun c hc => ?_, ⟨by omega, fun c hc => ?_⟩, ?_, fun c hc => ?_⟩
    · have := hl c hc
      omega
    · have q := hl c hc
      rw [asc_alpha c (by omega)]
      simp [q]
    · match l, h1 with
      | c :: r, _ =>
        refine ⟨c, List.mem_cons_self, ?_⟩
        have q := hl c List.mem_cons_self
        rw [asc_lower c (by omega)]
        simp [q]
    · have q := hl c hc
      rw [asc_upper _ (by omega)]
      simp
      omega
theorem let_not_nam {x : Str} (h : isLet x = true) : isNam x = false := by
  obtain ⟨c, e, h1, h2⟩ := isLet_iff.mp h
  cases q : isNam x with
  | false => rfl
  | true =>
    obtain ⟨_, _, h3⟩ := isNam_iff.mp q
    have := h3 c (by rw [e]; exact List.mem_cons_self)
    unfold Low at this
    omega

/-! ### any thing, as the program sees it -/
inductive Tg where
  | str (x : Str) | oth | tup (ts : List Tg)
mutual
def Tg.nodes : Tg → Nat
  | .str _ => 1
  | .oth => 1
  | .tup ts => 1 + nodesAll ts
def nodesAll : List Tg → Nat
  | [] => 0
  | t :: ts => t.nodes + nodesAll ts
end
theorem nodes_pos (t : Tg) : 1 ≤ t.nodes := by
  cases t <;> simp only [Tg.nodes] <;> omega
theorem nodesAll_app : ∀ a b : List Tg, nodesAll (a ++ b) = nodesAll a + nodesAll b
  | [], b => by simp [nodesAll]
  | t :: a, b => by
    rw [List.cons_append]
    simp only [nodesAll]
    rw [nodesAll_app a b]
    omega
theorem length_le_nodes : ∀ a : List Tg, a.length ≤ nodesAll a
  | [] => Nat.zero_le _
  | t :: a => by
    have h1 := length_le_nodes a
    have h2 := nodes_pos t
    simp only [nodesAll, List.length_cons]
    omega
def Tg.isNm : Tg → Bool
  | .str x => isNam x
  | _ => false
/-- a class type as far as its name and the number of its arguments go -/
def begT : Tg → Bool
  | .tup (n :: ts) => decide (ts.length ≤ 2) && n.isNm
  | _ => false
def Tg.isL : Tg → Bool
  | .str x => isLet x
  | _ => false
mutual
def isT : Tg → Bool
  | .str x => isLet x
  | .oth => false
  | .tup [] => false
  | .tup (n :: ts) => (decide (ts.length ≤ 2) && n.isNm) && isTAll ts
def isTAll : List Tg → Bool
  | [] => true
  | t :: ts => isT t && isTAll ts
end
theorem isTAll_app : ∀ a b : List Tg, isTAll (a ++ b) = (isTAll a && isTAll b)
  | [], b => by simp [isTAll]
  | t :: a, b => by
    rw [List.cons_append]
    simp only [isTAll]
    rw [isTAll_app a b, Bool.and_assoc]
def Tg.args : Tg → List Tg
  | .tup (_ :: ts) => ts
  | _ => []
theorem isT_beg {t : Tg} (h : begT t = true) : isT t = isTAll t.args := by
  match t, h with
  | .tup (n :: ts), h =>
    have h' : (decide (ts.length ≤ 2) && n.isNm) = true := h
    simp only [isT, Tg.args]
    rw [h', Bool.true_and]
theorem isT_nbeg {t : Tg} (h : begT t = false) : isT t = t.isL := by
  match t, h with
  | .str x, _ => simp [isT, Tg.isL]
  | .oth, _ => simp [isT, Tg.isL]
  | .tup [], _ => simp [isT, Tg.isL]
  | .tup (n :: ts), h =>
    have h' : (decide (ts.length ≤ 2) && n.isNm) = false := h
    simp only [isT, Tg.isL]
    rw [h', Bool.false_and]
theorem args_nodes {t : Tg} (h : begT t = true) : nodesAll t.args + 1 < t.nodes + 1 := by
  match t, h with
  | .tup (n :: ts), _ =>
    have := nodes_pos n
    simp only [Tg.args, Tg.nodes, nodesAll]
    omega
mutual
/-- at v stands such a thing -/
inductive Th (K : PySem.W.Frag) (H : Hp) : V → Tg → Prop
  | str (x : Str) (hx : x.length ≤ 100000) : Th K H (.str x) (.str x)
  | oth {v : V} {t : Value} (ty : TyX K H v t) (a : PySem.W.kitOne K t (.type "str") = some false) (b : PySem.W.kitOne K t (.type "tuple") = some false) : Th K H v .oth
  | tup {a : Addr} {xs : List V} {ts : List Tg} (h : SqT K H a xs) (r : ThAll K H xs ts) : Th K H (.ref a) (.tup ts)
inductive ThAll (K : PySem.W.Frag) (H : Hp) : List V → List Tg → Prop
  | nil : ThAll K H [] []
  | cons {v : V} {vs : List V} {t : Tg} {ts : List Tg} (h : Th K H v t) (r : ThAll K H vs ts) : ThAll K H (v :: vs) (t :: ts)
end
theorem ThAll.length {K : PySem.W.Frag} {H : Hp} : ∀ {vs : List V} {ts : List Tg}, ThAll K H vs ts → vs.length = ts.length
  | _, _, .nil => rfl
  | _, _, .cons _ r => by simp [ThAll.length r]
theorem ThAll.app {K : PySem.W.Frag} {H : Hp} : ∀ {vs ws : List V} {ts us : List Tg}, ThAll K H vs ts → ThAll K H ws us → ThAll K H (vs ++ ws) (ts ++ us)
  | _, _, _, _, .nil, r => r
  | _, _, _, _, .cons h r, q => .cons h (r.app q)
theorem ThAll.snoc {K : PySem.W.Frag} {H : Hp} {vs : List V} {ts : List Tg} (h : ThAll K H vs ts) (hn : ts ≠ []) : ∃ v vs' t ts', vs = vs' ++ [v] ∧ ts = ts' ++ [t] ∧ Th K H v t ∧ ThAll K H vs' ts' := by
  match vs, ts, h with
  | _, _, .nil => exact absurd rfl hn
  | _, _, .cons (v := v) (vs := vs) (t := t) (ts := ts) h r =>
    by_cases e : ts = []
    · subst e
      match vs, r with
      | _, .nil => exact ⟨v, [], t, [], rfl, rfl, h, .nil⟩
    · obtain ⟨v', vs', t', ts', e1, e2, h1, h2⟩ := r.snoc e
      exact ⟨v', v :: vs', t', t :: ts', by rw [e1]; rfl, by rw [e2]; rfl, h1, .cons h h2⟩
/-- what is needed of a change of the heap, for things to stay -/
structure Stay (K : PySem.W.Frag) (H H' : Hp) : Prop where
  tup : ∀ a xs, SqT K H a xs → SqT K H' a xs
  ty : ∀ v t, TyX K H v t → TyX K H' v t
mutual
theorem Th.stay {K : PySem.W.Frag} {H H' : Hp} (s : Stay K H H') : ∀ {v : V} {t : Tg}, Th K H v t → Th K H' v t
  | _, _, .str x hx => .str x hx
  | _, _, .oth ty a b => .oth (s.ty _ _ ty) a b
  | _, _, .tup h r => .tup (s.tup _ _ h) (ThAll.stay s r)
theorem ThAll.stay {K : PySem.W.Frag} {H H' : Hp} (s : Stay K H H') : ∀ {vs : List V} {ts : List Tg}, ThAll K H vs ts → ThAll K H' vs ts
  | _, _, .nil => .nil
  | _, _, .cons h r => .cons (Th.stay s h) (ThAll.stay s r)
end
theorem Stay.refl {K : PySem.W.Frag} (H : Hp) : Stay K H H := ⟨fun _ _ h => h, fun _ _ h => h⟩
theorem Stay.trans {K : PySem.W.Frag} {H H1 H2 : Hp} (a : Stay K H H1) (b : Stay K H1 H2) : Stay K H H2 := ⟨fun x y h => b.tup x y (a.tup x y h), fun x y h => b.ty x y (a.ty x y h)⟩
theorem stay_of {K : PySem.W.Frag} {H H' : Hp} (h : ∀ a o, H a = some o → H' a = some o ∨ ∃ xs ys, o = .lst xs ∧ H' a = some (.lst ys)) (hdx : ∀ a x, H a = some (.own x) → H' a = some (.own x)) : Stay K H H' where
  tup := fun a xs q => by
    rcases q with (q | ⟨o, q⟩) | q
    · rcases h a _ q with h1 | ⟨_, _, e, _⟩
      · exact .inl (.inl h1)
      · cases e
    · rcases h a _ q with h1 | ⟨_, _, e, _⟩
      · exact .inl (.inr ⟨o, h1⟩)
      · cases e
    · exact .inr q
  ty := fun v t q => by
    have k : ∀ a o, H a = some o → (∀ xs, o ≠ .lst xs) → H' a = some o := fun a o e n => by
      rcases h a o e with h1 | ⟨xs, _, e2, _⟩
      · exact h1
      · exact absurd e2 (n xs)
    cases q with
    | base b =>
      cases b with
      | non => exact .base .non
      | bl x => exact .base (.bl x)
      | int i => exact .base (.int i)
      | str x => exact .base (.str x)
      | flt x => exact .base (.flt x)
      | @lst a xs e =>
        rcases h a _ e with h1 | ⟨_, ys, _, h1⟩
        · exact .base (.lst h1)
        · exact .base (.lst h1)
      | frz e => exact .base (.frz (k _ _ e fun xs z => by cases z))
      | tup e => exact .base (.tup (k _ _ e fun xs z => by cases z))
      | dK e => exact .base (.dK (k _ _ e fun xs z => by cases z))
      | dT e => exact .base (.dT (k _ _ e fun xs z => by cases z))
      | ins e cl ha hn htk hm => exact .base (.ins (k _ _ e fun xs z => by cases z) cl ha hn htk hm)
    | byt b => exact .byt b
    | set e => exact .set (k _ _ e fun xs z => by cases z)
    | kList e c => exact .kList e c
    | kTuple e c => exact .kTuple e c
    | kDict e c => exact .kDict e c
    | fTuple e => exact .fTuple (k _ _ e fun xs z => by cases z)
    | fDict e => exact .fDict (k _ _ e fun xs z => by cases z)
theorem stay_same {K : PySem.W.Frag} {H H' : Hp} (e : Same H H') : Stay K H H' := stay_of (fun a o q => .inl (e a o q)) fun a x q => e a _ q
theorem same_new {H : Hp} {p : Addr} (h : H p = none) (o : HO) : Same H (upd H p o) := fun b u q => by rw [upd_ne (ne_of_none q h)]; exact q
theorem stay_new {K : PySem.W.Frag} {H : Hp} {p : Addr} (h : H p = none) (o : HO) : Stay K H (upd H p o) := stay_same (same_new h o)
theorem stay_lst {K : PySem.W.Frag} {H : Hp} {p : Addr} {xs ys : List V} (h : H p = some (.lst xs)) : Stay K H (upd H p (.lst ys)) := stay_of (fun a o q => by
    by_cases e : a = p
    · subst e
      rw [h] at q
      cases q
      exact .inr ⟨xs, ys, rfl, upd_same⟩
    · exact .inl (by rw [upd_ne e]; exact q)) fun a x q => by
  rw [upd_ne (ne_of q h (by intro z; cases z))]
  exact q
theorem SqT.ty {K : PySem.W.Frag} {H : Hp} {a : Addr} {xs : List V} (h : SqT K H a xs) : TyX K H (.ref a) (.type "tuple") := by
  rcases h with (h | ⟨o, h⟩) | ⟨o, its, n, h, c, _⟩
  · exact .base (.tup h)
  · exact .fTuple h
  · exact .kTuple h c
end N

namespace N
open PySem PySem.Spec PyProof.Rows L2
/-! ### promises where no repr is under way -/
structure RoomG (k : Nat) (A : Around) : Prop extends Room k A where
  gs : A.guards = some []
theorem RoomG.mono {j k : Nat} {A : Around} (r : RoomG k A) (h : j ≤ k) : RoomG j A := ⟨r.toRoom.mono h, r.gs⟩
theorem RoomG.deeper {k : Nat} {A : Around} (r : RoomG (k + 1) A) (env : Env) : RoomG k (A.deeper env) := ⟨r.toRoom.deeper env, r.gs⟩
theorem roomG_caller {k : Nat} (r : Room k callerA) : RoomG k callerA := ⟨r, rfl⟩
structure FnG (P : Program) (w : World) (K : PySem.W.Frag) (mg : Str → Option Value) (base : Heap) (CX : CXT) (k : Nat) (f : Addr) (fd : FuncData) (ps : List Str) (sp : Sp) : Prop where
  len : ∀ vs H Q E, sp vs H Q E → vs.length = ps.length
  run : ∀ (A : Around) (outer : List Env) (s : Shared) (H : Hp) (args : Args) (us : List Value) (vs : List V) (Q : VK) (E : XK), RoomG k A → Env0 P w K mg base A outer s H → BindsTo s fd args (ps.zip us) → Vals vs us → sp vs H Q E →
    codeAny (model P w) A (.call (.ref f) args) (CR CX outer P w H s Q E) s
section
variable {P : Program} {w : World} {K : PySem.W.Frag} {mg : Str → Option Value} {base : Heap} {CX : CXT} {j k : Nat} {f : Addr} {fd : FuncData} {ps : List Str} {sp : Sp}
theorem FnG.mono (F : FnG P w K mg base CX j f fd ps sp) (h : j ≤ k) : FnG P w K mg base CX k f fd ps sp := ⟨F.len, fun A outer s H args us vs Q E hr => F.run A outer s H args us vs Q E (hr.mono h)⟩
theorem FnG.imp {sp' : Sp} (F : FnG P w K mg base CX k f fd ps sp) (h : ∀ vs H Q E, sp' vs H Q E → sp vs H Q E) : FnG P w K mg base CX k f fd ps sp' :=
  ⟨fun vs H Q E q => F.len vs H Q E (h _ _ _ _ q), fun A outer s H args us vs Q E hr he hb hv hs => F.run A outer s H args us vs Q E hr he hb hv (h _ _ _ _ hs)⟩
/-- one entry, the surroundings fixed: the library's rule for a def is asked with a promise that holds there alone -/
theorem fnG_of {x : Str} {st : Stmt} {N : List Str} (F : Fun K x x st f fd) (S : FnScope N ps (defScope st)) (len : ∀ vs H Q E, sp vs H Q E → vs.length = ps.length)
    (hbody : ∀ (cdv : Value) (A : Around) (outer : List Env) (s : Shared) (H : Hp) (vs : List V) (Q : VK) (E : XK), RoomG k (A.deeper (envOfC x (defScope st) s.heap.objs.size f cdv)) → sp vs H Q E →
      ∃ t, PSs (cxOf CX P w K mg base N x (defScope st) f cdv A outer s H E) (defBody st) t ∧ t { nx := fun _ H' => Q .non H', rt := Q } (start N vs) H) : FnG P w K mg base CX (k + 1) f fd ps sp := by
  obtain ⟨oc, od, kV, doc, pm, an, cdv, ct, osl, rfl, lk, hcd⟩ := F.ex
  refine ⟨len, fun A outer s H args us vs Q E hr e0 hb r hsp => ?_⟩
  have KX : K.In s.heap := e0.mod.kin.keeps fun b o e => (e0.bs b o e).1
  have lim : s.heap.NoLimit := e0.mod.nolimit.keeps fun b o e => (e0.bs b o e).1
  have hkind : ∀ y ∈ ps.zip us, (defScope st).names.lookup y.1 = some .local ∨ ((defScope st).names.lookup y.1 = some .cell ∧ ((cellsFrom (s.heap.objs.size + 1) (defScope st).names []).lookup y.1).isSome = true) := fun ⟨n, v⟩ hy =>
    (S.par n (List.of_mem_zip hy).1).elim .inl fun q => .inr ⟨q, PySem.W.cellsFrom_some _ _ _ (.inl q)⟩
  refine codeAny_call_function hr.depth (KX _ _ lk) rfl S.co S.gen rfl (PySem.W.codeRec_of KX hcd) (hb _ _ _ _ ?_)
  refine wpAny_newFunctionEnv_cells S.kind hkind fun env he s1 x => ?_
  subst he
  refine ⟨lim.keeps x.toInCall.keep, codeAny_func ?_⟩
  obtain ⟨t, ht, hq⟩ := hbody cdv A outer s H vs Q E (hr.deeper _) hsp
  have I := inv_start (CX := CX) (P := P) (w := w) (mg := mg) (E := E) S hr.hd e0 (len _ _ _ _ hsp) r x
  refine wpAny_mono (ht.run [] s1 (start N vs) H _ I hq) (fun fl s' hs => ?_) fun e s' hs => hs
  cases fl with
  | ret u => obtain ⟨v, σ', H', J, rv, q⟩ := hs; exact ⟨v, H', J.os, J.bare, J.base, J.hok, rv, q⟩
  | next => obtain ⟨σ', H', J, q⟩ := hs; exact ⟨.non, H', J.os, J.bare, J.base, J.hok, rfl, q⟩
  | brk => obtain ⟨_, _, _, q⟩ := hs; exact False.elim q
  | cont => obtain ⟨_, _, _, q⟩ := hs; exact False.elim q
end
section
variable {X : Cx} {CX : CXT} {k : Nat} {f : Addr} {fd : FuncData} {ps : List Str} {sp : Sp} {E : XK}
theorem runG {pins : List (Addr × Obj)} {σ : L2.St} {H : Hp} {s : Shared} {Q : VK} {us : List Value} {vs : List V} (F : FnG X.prog X.w X.K X.mg X.base CX k f fd ps sp) (hr : RoomG k X.A) (hb : Binds X.K fd ps [])
    (hx : ∀ e s', CX X.stack H s E e s' → X.xe e s') (I : Inv X pins σ H s) (r : Vals vs us) (h : sp vs H Q E) : wpAny (model X.prog X.w) X.A (call (.ref f) us) (EP X pins σ Q) X.xe s := by
  have b := hb s us I.kIn (by rw [List.append_nil, ← r.length]; exact F.len _ _ _ _ h)
  rw [List.append_nil] at b
  refine wpAny_call (codeAny_mono (F.run X.A X.stack s H ⟨us, []⟩ us vs Q E hr I.env0 b r h) fun res s' hq => ?_)
  match res, hq with
  | .error e, hq => exact hx e s' hq
  | .ok (.ret u), hq => exact I.after hq
  | .ok .next, hq => exact False.elim hq
  | .ok .brk, hq => exact False.elim hq
  | .ok .cont, hq => exact False.elim hq
end
end N

namespace N
open PySem PySem.Spec PyProof.Rows L2
/-! ### defs as they stand behind the top, and what they promise -/
def DefAt (K : PySem.W.Frag) (mg : Str → Option Value) (x : Str) (st : Stmt) (ps : List Str) : Prop :=
  ∃ (f : Addr) (fd : FuncData), mg x = some (.ref f) ∧ Fun K x x st f fd ∧ Binds K fd ps []
def Cal (P : Program) (w : World) (K : PySem.W.Frag) (mg : Str → Option Value) (base : Heap) (k : Nat) (x : Str) (ps : List Str) (sp : Sp) : Prop :=
  ∃ (f : Addr) (fd : FuncData), mg x = some (.ref f) ∧ PySem.W.keepIn K (.ref f) = true ∧ Binds K fd ps [] ∧ FnG P w K mg base (L2.CX P w) k f fd ps sp
section
variable {P : Program} {w : World} {K : PySem.W.Frag} {mg : Str → Option Value} {base : Heap} {k : Nat} {x : Str} {ps N : List Str} {sp : Sp} {st : Stmt}
theorem Cal.mono {j : Nat} (c : Cal P w K mg base j x ps sp) (h : j ≤ k) : Cal P w K mg base k x ps sp := by
  obtain ⟨f, fd, a, b, d, F⟩ := c
  exact ⟨f, fd, a, b, d, F.mono h⟩
theorem Cal.imp {sp' : Sp} (c : Cal P w K mg base k x ps sp) (h : ∀ vs H Q E, sp' vs H Q E → sp vs H Q E) : Cal P w K mg base k x ps sp' := by
  obtain ⟨f, fd, a, b, d, F⟩ := c
  exact ⟨f, fd, a, b, d, F.imp h⟩
theorem DefAt.cal (D : DefAt K mg x st ps) (S : FnScope N ps (defScope st)) (len : ∀ vs H Q E, sp vs H Q E → vs.length = ps.length)
    (hbody : ∀ (f : Addr) (cdv : Value) (A : Around) (outer : List Env) (s : Shared) (H : Hp) (vs : List V) (Q : VK) (E : XK), RoomG k (A.deeper (envOfC x (defScope st) s.heap.objs.size f cdv)) → sp vs H Q E →
      ∃ t, PSs (cxOf (L2.CX P w) P w K mg base N x (defScope st) f cdv A outer s H E) (defBody st) t ∧ t { nx := fun _ H' => Q .non H', rt := Q } (start N vs) H) : Cal P w K mg base (k + 1) x ps sp := by
  obtain ⟨f, fd, a, F, b⟩ := D
  exact ⟨f, fd, a, F.kp, b, fnG_of F S len fun cdv A outer s H vs Q E hr h => hbody f cdv A outer s H vs Q E hr h⟩
theorem mk_def {h : Heap} {f : Addr} {oc : Value} {od an : Option Addr} {osl : Array (Option Value)} {kV doc pm cdv ct : Value} (X : K.In h) (G : h.Ns mainGlobals mg)
    (a : PySem.W.nsIn K mainGlobals x = some (some (.ref f))) (l : K.lookup f = some ⟨oc, od, .func (PySem.W.fnOf x x (defArgs st) (defBody st) (defScope st) .none kV doc pm an cdv ct), osl⟩) (c : PySem.W.codeIn K cdv x = true) (k : PySem.W.keepIn K (.ref f) = true)
    (b : ∀ (kV doc pm : Value) (an : Option Addr) (cdv ct : Value) (us : List Value), us.length = ps.length → bindArgs (PySem.W.fnOf x x (defArgs st) (defBody st) (defScope st) .none kV doc pm an cdv ct) ⟨us, []⟩ = pure (ps.zip us)) : DefAt K mg x st ps :=
  ⟨f, _, PySem.W.mg_of X G a, fun_mk l c k, (fun_mk l c k).binds b⟩
end
section
variable {X : Cx} {k : Nat} {x : Str} {ps : List Str} {sp : Sp} {p pos : Pos} {e : Expr} {es : List Expr} {t : TA} {W : WX}
/-- f(e, ..): what is raised goes where W says -/
theorem pcE (tk : Takes X W) (c : Cal X.prog X.w X.K X.mg X.base k x ps sp) (hr : RoomG k X.A) (hg : Gl X x) (ha : PA X (e :: es) t) (hdb : (x == ("__debug__" : Str)) = false := by decide) (he : starEach (e :: es) X.env = (false, eval e X.env) :: starEach es X.env := by rfl)
    (hpl : (backTo pos (starEach es X.env)).any (·.1) = false := by rfl) : PE X (.Call (.Name x p) (e :: es) [] pos) (tCallS sp (WE W) t) := by
  obtain ⟨f, fd, hm, hk, hb, F⟩ := c
  refine ⟨fun pins s σ H Q I h => wpAny_Call_Name_kw (ld_glob I hg hm ?_ hdb)⟩
  refine PySem.W.callWith_K (h₀ := X.base) I.ok.mod.kin hk (thn (ha.run pos pins s σ H _ I h) fun us s1 ⟨vs, H1, I1, r, q⟩ => ⟨I1.kIn, ?_⟩) he hpl
  exact runG F hr hb (fun e s' z => passAt tk σ pins H1 s1 e s' I1 z) I1 r q
/-- f(e, ..): nothing that is raised is let out -/
theorem pc (c : Cal X.prog X.w X.K X.mg X.base k x ps sp) (hr : RoomG k X.A) (hg : Gl X x) (ha : PA X (e :: es) t) (hdb : (x == ("__debug__" : Str)) = false := by decide) (he : starEach (e :: es) X.env = (false, eval e X.env) :: starEach es X.env := by rfl)
    (hpl : (backTo pos (starEach es X.env)).any (·.1) = false := by rfl) : PE X (.Call (.Name x p) (e :: es) [] pos) (fun σ H Q => t σ H fun vs H1 => sp vs H1 Q E0) := by
  obtain ⟨f, fd, hm, hk, hb, F⟩ := c
  refine ⟨fun pins s σ H Q I h => wpAny_Call_Name_kw (ld_glob I hg hm ?_ hdb)⟩
  refine PySem.W.callWith_K (h₀ := X.base) I.ok.mod.kin hk (thn (ha.run pos pins s σ H _ I h) fun us s1 ⟨vs, H1, I1, r, q⟩ => ⟨I1.kIn, ?_⟩) he hpl
  exact runG F hr hb (fun e s' z => passL pins σ H1 s1 e s' I1 z) I1 r q
theorem pc0 (c : Cal X.prog X.w X.K X.mg X.base k x [] sp) (hr : RoomG k X.A) (hg : Gl X x) (hdb : (x == ("__debug__" : Str)) = false := by decide) : PE X (.Call (.Name x p) [] [] pos) (fun _ H Q => sp [] H Q E0) := by
  obtain ⟨f, fd, hm, hk, hb, F⟩ := c
  refine ⟨fun pins s σ H Q I h => wpAny_Call_Name_kw (ld_glob I hg hm ?_ hdb)⟩
  exact PySem.W.callWith_K0 I.kIn hk (runG (us := []) F hr hb (fun e s' z => passL pins σ H s e s' I z) I .nil h)
end
theorem hug {k : Nat} {A : Around} (hr : RoomG k A) : A.units + 1 < cLine := hu_of hr.toRoom
/-- an own error class over ValueError, without an __init__ -/
structure ExcAt (K : PySem.W.Frag) (mg : Str → Option Value) (x : Str) (C : Addr) : Prop where
  g : mg x = some (.ref C)
  k : PySem.W.keepIn K (.ref C) = true
  b : PySem.W.subIn K (.ref C) (.type "BaseException") = some true
  t : PySem.W.typeIn K (.ref C) = some (.type "type")
  x : PySem.W.excIn K C [.type "ValueError", .type "Exception", .type "BaseException", .type "object"] "ValueError.__new__" = true
theorem b_str : bootBuiltins "str" = some (.type "str") := by decide +kernel
theorem b_tuple : bootBuiltins "tuple" = some (.type "tuple") := by decide +kernel
theorem b_dict : bootBuiltins "dict" = some (.type "dict") := by decide +kernel
theorem b_list : bootBuiltins "list" = some (.type "list") := by decide +kernel
/-- isinstance(e, T), T a built-in class -/
theorem pe_isi {X : Cx} {p p2 pos : Pos} {e : Expr} {te : TE} {n : String} {c : Str} (hm : X.mg "isinstance" = none) (hmc : X.mg c = none) (hv : bootBuiltins c = some (.type n)) (hg : Gl X "isinstance") (hgc : Gl X c) (he : PE X e te) (hn : c ≠ "__name__" := by decide)
    (hdb : (c == ("__debug__" : Str)) = false := by decide) (hst2 : starEach [e, .Name c p2] X.env = (false, eval e X.env) :: starEach [.Name c p2] X.env := by rfl) (hpl : (backTo pos (starEach [.Name c p2] X.env)).any (·.1) = false := by rfl) (hs3 : starEach [.Name c p2] X.env = (false, eval (.Name c p2) X.env) :: starEach [] X.env := by rfl) :
    PE X (.Call (.Name "isinstance" p) [e, .Name c p2] [] pos) (fun σ H Q => te σ H fun v H1 => rIsi X.K [v, .ty n] H1 Q) :=
  pe_callB call_isi hg hm (by decide +kernel) (pa_cons he (pa_cons (pe_bltn (v := .ty n) hgc hmc hv rfl hn hdb) pa_nil hs3) hst2) (by decide) (by decide) hst2 hpl
theorem isi_q {K : PySem.W.Frag} {H : Hp} {v : V} {t : Value} {n : String} {b : Bool} {Q : VK} (ty : TyX K H v t) (e : PySem.W.kitOne K t (.type n) = some b) (q : Q (.bl b) H) : rIsi K [v, .ty n] H Q := ⟨v, .ty n, t, _, b, rfl, .ty n, ty, e, q⟩
def Tg.isS : Tg → Bool
  | .str _ => true
  | _ => false
def Tg.isTu : Tg → Bool
  | .tup _ => true
  | _ => false
theorem isi_str {K : PySem.W.Frag} {H : Hp} {v : V} {t : Tg} {Q : VK} (h : Th K H v t) (q : Q (.bl t.isS) H) : rIsi K [v, .ty "str"] H Q := by
  cases h with
  | str x hx => exact isi_q (b := true) (.base (.str x)) (kit_ty (by decide +kernel)) q
  | oth ty a b => exact isi_q ty a q
  | tup h r => exact isi_q (b := false) (SqT.ty h) (kit_ty (by decide +kernel)) q
theorem isi_tup {K : PySem.W.Frag} {H : Hp} {v : V} {t : Tg} {Q : VK} (h : Th K H v t) (q : Q (.bl t.isTu) H) : rIsi K [v, .ty "tuple"] H Q := by
  cases h with
  | str x hx => exact isi_q (b := false) (.base (.str x)) (kit_ty (by decide +kernel)) q
  | oth ty a b => exact isi_q ty b q
  | tup h r => exact isi_q (b := true) (SqT.ty h) (kit_ty (by decide +kernel)) q
end N

namespace N
open PySem PySem.Spec PyProof.Rows L2
/-! ### the end of a law over such promises -/
section
variable {P : Program} {w : World} {K : PySem.W.Frag} {mg mb : Str → Option Value} {CX : CXT} {k : Nat} {fa a : Addr} {fd : FuncData} {x : Str} {sp : Sp} {s₁ : Shared} {vs : List Value} {ns : List Int}
/-- the law is run where at most the script is tracked -/
theorem run_law (H : Hp) (KX : K.In s₁.heap) (hns : s₁.heap.Ns mainGlobals mg) (hb : s₁.heap.Ns builtinsNs mb) (hbb : ∀ x : Str, x ≠ "__name__" → mb x = bootBuiltins x) (hlim : s₁.heap.NoLimit) (hg : s₁.gens = #[])
    (ha : s₁.heap.get? a = some { cls := .type "list", data := .seq vs.toArray }) (hr : Room k callerA) (F : ∀ base : Heap, K.In base → base.Ns mainGlobals mg → FnG P w K mg base CX k fa fd [x] sp) (hbind : ∀ (s : Shared) (u : Value), BindsTo s fd ⟨[u], []⟩ [(x, u)])
    (hsp : sp [.ref a] H (fun v _ => v = .bl true) fun _ _ _ => False) (hCX : ∀ e s', CX [] H s₁ (fun _ _ _ => False) e s' → False) (hO : Only H) (hok : HOk P w H s₁.heap) (hA : ∀ b, H b ≠ none → b = a) (hK : H a ≠ none → K.lookup a = none) :
    codeAny (model P w) callerA (.call (.ref fa) ⟨[.ref a], []⟩) (fun r s' => r = .ok (.ret (.bool true)) ∧ OldK s₁.heap s'.heap ∧ s'.os = s₁.os ∧ AllBare s'.gens) s₁ := by
  have free : ∀ {b : Addr}, b ≠ a → H b = none := fun {b} n => by
    cases q : H b with
    | none => rfl
    | some u => exact absurd (hA b (by rw [q]; exact fun z => by cases z)) n
  have nsK : ∀ {b : Addr} {m : Str → Option Value}, s₁.heap.Ns b m → (hidT s₁.heap H).Ns b m := fun {b m} ⟨o, es, ep, e, d, r⟩ => by
    have nb : b ≠ a := fun z => by
      subst z
      rw [ha] at e
      cases e
      have d' : Data.seq vs.toArray _ = Data.dict es ep := d
      cases d'
    exact ⟨o, es, ep, hidT_get e (free nb), d, r⟩
  have hKb : K.In (hidT s₁.heap H) := fun b o e => hidT_get (KX b o e) (by
    by_cases nb : b = a
    · subst nb
      cases q : H b with
      | none => rfl
      | some u =>
        have := hK (by rw [q]; exact fun z => by cases z)
        rw [this] at e
        cases e
    · exact free nb)
  have hM : Mod K mg (hidT s₁.heap H) := ⟨hKb, nsK hns, ⟨mb, nsK hb, hbb⟩, let ⟨mc, h1, h2⟩ := hlim; ⟨mc, nsK h1, h2⟩⟩
  have e0 : Env0 P w K mg (hidT s₁.heap H) callerA [] s₁ H := ⟨rfl, hM, fun b o e => of_hidT e, Nat.le_of_eq (hidT_size _ _), trivial, fun b hb => absurd (show b ∈ ([] : List Addr) from hb) (by simp), hok, .of_eq hg⟩
  have go := (F _ hKb (nsK hns)).run callerA [] s₁ H ⟨[.ref a], []⟩ [.ref a] [.ref a] (fun v _ => v = .bl true) (fun _ _ _ => False) (roomG_caller hr) e0 (hbind s₁ (.ref a)) (.cons rfl .nil) hsp
  refine codeAny_mono go fun r s' h => ?_
  match r, h with
  | .error e, h => exact (hCX e s' h).elim
  | .ok .next, h => exact False.elim h
  | .ok .brk, h => exact False.elim h
  | .ok .cont, h => exact False.elim h
  | .ok (.ret u), h =>
    obtain ⟨v, H', os, bare, un, hok', r', q⟩ := h
    have q' : v = .bl true := q
    subst q'
    obtain rfl : u = Value.bool true := r'
    refine ⟨rfl, OldK.of_keep fun b o e => ?_, os, bare⟩
    cases q : H b with
    | none => exact un.keep b o e q (by intro z; exact absurd (show b ∈ ([] : List Addr) from z) (by simp)) (by simp)
    | some u =>
      rcases hO b with z | ⟨ob, xs, z⟩
      · rw [q] at z; cases z
      · have e1 := (hok b _ z).1
        have e2 := (hok' b _ (un.frzs b ob _ z)).1
        rw [e] at e1
        cases e1
        exact e2
end
theorem walkG {l : PySem.W.OpenLaw} {n k : Nat} {q : Program} {loose : List Str} {XP : (Str → Option Value) → Heap → Prop} {YP : World → Heap → Prop} {d : DefRec} {K : Params → PySem.W.Frag} {CX : World → CXT} {sp : World → Sp} {x : Str}
    (hn : l.most = some n) (hn2 : n ≤ sizeLine) (hdf : d.params.defaults = []) (hr : Room k callerA) (hY : ∀ (w : World) (h : Heap), YP w h → (K w.params).In h)
    (F : ∀ (w : World) (mg : Str → Option Value) (fa : Addr) (h : Heap), (K w.params).In h → h.Ns mainGlobals mg → mg d.name = some (.ref fa) →
      ∃ fd : FuncData, (∀ (s : Shared) (u : Value), BindsTo s fd ⟨[u], []⟩ [(x, u)]) ∧ ∀ base : Heap, (K w.params).In base → base.Ns mainGlobals mg → FnG l.prog w (K w.params) mg base (CX w) k fa fd [x] (sp w))
    (hsp : ∀ (w : World) (H : Hp) (a : Addr) (ns : List Int), ns.length ≤ n → Only H → SqL (K w.params) H a (ns.map V.int) → sp w [.ref a] H (fun v _ => v = .bl true) fun _ _ _ => False)
    (hCX : ∀ (w : World) (H : Hp) (s : Shared) (e : Value) (s' : Shared), CX w [] H s (fun _ _ _ => False) e s' → False) : PySem.W.WalkO q loose XP YP l.row.toRowW d [] (fun f vs => PySem.call f vs) := by
  refine Att.attach_call hn hdf fun w s₀ s₁ mg mb fa o pm cd doc a vs ns G Y ho hd hcd hmg ha hi hlen hg => ?_
  have KX := hY w _ Y
  obtain ⟨fd, hb, hF⟩ := F w mg fa _ KX G.T.g hmg
  have rv := vals_ints hi
  have lenV := hi.length
  have hl : ns.length ≤ sizeLine := Nat.le_trans hlen hn2
  have one := fun (H : Hp) (hO : Only H) (hS : SqL (K w.params) H a (ns.map V.int)) => run_law H KX G.T.g G.T.b G.T.builtins G.T.nolimit hg ha hr hF hb (hsp w H a ns hlen hO hS) (fun e s' => hCX w H s₁ e s') hO
  cases hk : (K w.params).lookup a with
  | some o' =>
    have e := KX a o' hk
    rw [ha] at e
    cases e
    refine one (fun _ => none) (fun _ => .inl rfl) (.inr ⟨_, vs.toArray, _, hk, rfl, rfl, rfl, by rw [List.size_toArray, lenV]; exact hl, by simpa using rv⟩) (fun b u z => ?_) (fun b z => absurd rfl z) fun z => absurd rfl z
    have z' : (none : Option HO) = some u := z
    cases z'
  | none =>
    have ya : ∀ {b : Addr} {u : HO}, (if b = a then some (HO.frz { cls := .type "list", data := .seq vs.toArray } (.lst (ns.map V.int))) else none) = some u → b = a ∧ u = .frz { cls := .type "list", data := .seq vs.toArray } (.lst (ns.map V.int)) := fun {b u} z => by
      by_cases hb : b = a
      · rw [if_pos hb] at z
        exact ⟨hb, (Option.some.inj z).symm⟩
      · rw [if_neg hb] at z
        cases z
    refine one (fun b => if b = a then some (.frz { cls := .type "list", data := .seq vs.toArray } (.lst (ns.map V.int))) else none) (fun b => ?_) (.inl (.inr ⟨{ cls := .type "list", data := .seq vs.toArray }, if_pos rfl⟩)) (fun b u z => ?_) (fun b z => ?_) fun _ => hk
    · by_cases hb : b = a
      · exact .inr ⟨_, _, if_pos hb⟩
      · exact .inl (if_neg hb)
    · obtain ⟨e1, e2⟩ := ya z
      subst e1 e2
      exact ⟨ha, by rw [List.length_map]; exact hl, vs, _, rv, ha⟩
    · by_cases hb : b = a
      · exact hb
      · exact absurd (if_neg hb) z
end N

namespace N
open PySem PySem.Spec PyProof.Rows L2
/-! ### repr of data -/
/-- repr(x), x a list or a tuple of data without dicts -/
def rRepr (K : PySem.W.Frag) : List V → Hp → VK → Prop := fun xs H Q => ∃ (a : Addr) (d : PyData), xs = [V.ref a] ∧ Dp K H (.ref a) d ∧ d.showable = true ∧ d.hasDict = false ∧ d.depth ≤ 60 ∧ d.shown.length ≤ sizeLine ∧ Q (.str d.shown) H
theorem call_repr {X : Cx} {k : Nat} (hr : RoomG k X.A) : CallR X (.builtin "repr") (rRepr X.K) := by
  intro pins s σ H xs us Q I r h
  obtain ⟨a, d, rfl, hd, hs, hn, hdp, hz, q⟩ := h
  obtain ⟨u, rfl, ru⟩ := vals1 r
  cases (show u = Value.ref a from ru)
  obtain ⟨as, rd⟩ := Dp.reads I d _ _ hd rfl
  have hun := hr.toRoom.units
  exact repr_of_reads' rd hs (PyData.noDict_hsm hn) hr.gs (by omega) (fun b o e => e) (fun h' u tk hk => ⟨.str d.shown, H, I.kept (t' := tk) hk, ⟨_, rfl⟩, q⟩) hz
end N

namespace N
open PySem PySem.Spec PyProof.Rows L2
/-! ### kinds -/
inductive Kd where
  | L (c : Str) | C0 (n : Str) | C1 (n : Str) (a : Kd) | C2 (n : Str) (a b : Kd)
  deriving DecidableEq
namespace Kd
def args : Kd → List Kd
  | L _ => []
  | C0 _ => []
  | C1 _ a => [a]
  | C2 _ a b => [a, b]
def nm : Kd → Str
  | L c => c
  | C0 n => n
  | C1 n _ => n
  | C2 n _ _ => n
def isC : Kd → Bool
  | L _ => false
  | _ => true
def tg : Kd → Tg
  | L c => .str c
  | C0 n => .tup [.str n]
  | C1 n a => .tup [.str n, a.tg]
  | C2 n a b => .tup [.str n, a.tg, b.tg]
def ok : Kd → Prop
  | L c => isLet c = true
  | C0 n => isNam n = true
  | C1 n a => isNam n = true ∧ a.ok
  | C2 n a b => isNam n = true ∧ a.ok ∧ b.ok
def parts : Kd → List Kd
  | L c => [L c]
  | C0 n => [C0 n]
  | C1 n a => C1 n a :: a.parts
  | C2 n a b => C2 n a b :: (a.parts ++ b.parts)
def size : Kd → Nat
  | L _ => 0
  | C0 _ => 1
  | C1 _ a => 1 + a.size
  | C2 _ a b => 1 + a.size + b.size
def depth : Kd → Nat
  | L _ => 0
  | C0 _ => 1
  | C1 _ a => 1 + a.depth
  | C2 _ a b => 1 + max a.depth b.depth
/-- how many letters and names -/
def nds : Kd → Nat
  | L _ => 1
  | C0 _ => 1
  | C1 _ a => 1 + a.nds
  | C2 _ a b => 1 + a.nds + b.nds
theorem parts_eq (k : Kd) : k.parts = k :: k.args.flatMap parts := by
  cases k <;> simp [parts, args]
theorem tg_C {k : Kd} (h : k.isC = true) : k.tg = .tup (.str k.nm :: k.args.map tg) := by
  cases k <;> first | (cases h; done) | rfl
theorem tg_L {k : Kd} (h : k.isC = false) : k = L k.nm ∧ k.tg = .str k.nm := by
  cases k <;> first | (cases h; done) | exact ⟨rfl, rfl⟩
theorem isTu_tg (k : Kd) : k.tg.isTu = k.isC := by cases k <;> rfl
theorem isS_tg (k : Kd) : k.tg.isS = !k.isC := by cases k <;> rfl
theorem nds_parts (k : Kd) : k.parts.length = k.nds := by
  induction k with
  | L c => rfl
  | C0 n => rfl
  | C1 n a ih => simp [parts, nds, ih]; omega
  | C2 n a b ih1 ih2 => simp [parts, nds, ih1, ih2]; omega
theorem nds_pos (k : Kd) : 1 ≤ k.nds := by cases k <;> simp [nds] <;> omega
theorem nodes_tg (k : Kd) : k.tg.nodes ≤ 3 * k.nds := by
  induction k with
  | L c => simp [tg, nds, Tg.nodes]
  | C0 n => simp [tg, nds, Tg.nodes, nodesAll]
  | C1 n a ih => simp only [tg, nds, Tg.nodes, nodesAll]; omega
  | C2 n a b ih1 ih2 => simp only [tg, nds, Tg.nodes, nodesAll]; omega
theorem args_ok {k : Kd} (h : k.ok) : ∀ a ∈ k.args, a.ok := by
  cases k <;> simp only [args, ok] at * <;> simp_all
theorem isT_tg : ∀ {k : Kd}, k.ok → isT k.tg = true
  | L c, h => by
    show isT (.str c) = true
    simp only [isT]
    exact h
  | C0 n, h => by simp [tg, isT, isTAll, Tg.isNm, show isNam n = true from h]
  | C1 n a, h => by simp [tg, isT, isTAll, Tg.isNm, show isNam n = true from h.1, isT_tg h.2]
  | C2 n a b, h => by simp [tg, isT, isTAll, Tg.isNm, show isNam n = true from h.1, isT_tg h.2.1, isT_tg h.2.2]
theorem args_nds (k : Kd) : (k.args.map nds).sum + 1 ≤ k.nds := by
  cases k <;> simp [args, nds] <;> omega
theorem args_len (k : Kd) : k.args.length ≤ 2 := by cases k <;> simp [args]
end Kd
mutual
theorem of_isT : ∀ {t : Tg}, isT t = true → ∃ k : Kd, k.ok ∧ t = k.tg
  | .str x, h => ⟨.L x, by simpa [isT, Kd.ok] using h, rfl⟩
  | .oth, h => by simp [isT] at h
  | .tup [], h => by simp [isT] at h
  | .tup (n :: ts), h => by
    simp only [isT, Bool.and_eq_true, decide_eq_true_eq] at h
    obtain ⟨⟨h1, h2⟩, h3⟩ := h
    obtain ⟨ks, e, hk⟩ := of_isTAll h3
    match n, h2 with
    | .str x, h2 =>
      have h2' : isNam x = true := h2
      match ks, e with
      | [], e => exact ⟨.C0 x, h2', by rw [e]; rfl⟩
      | [a], e => exact ⟨.C1 x a, ⟨h2', hk a (by simp)⟩, by rw [e]; rfl⟩
      | [a, b], e => exact ⟨.C2 x a b, ⟨h2', hk a (by simp), hk b (by simp)⟩, by rw [e]; rfl⟩
      | a :: b :: c :: r, e => rw [e] at h1; simp at h1
theorem of_isTAll : ∀ {ts : List Tg}, isTAll ts = true → ∃ ks : List Kd, ts = ks.map Kd.tg ∧ ∀ k ∈ ks, k.ok
  | [], _ => ⟨[], rfl, fun k h => by cases h⟩
  | t :: ts, h => by
    simp only [isTAll, Bool.and_eq_true] at h
    obtain ⟨k, hk, e⟩ := of_isT h.1
    obtain ⟨ks, e2, hks⟩ := of_isTAll h.2
    exact ⟨k :: ks, by rw [e, e2]; rfl, fun z hz => by
      rcases List.mem_cons.mp hz with rfl | hz
      · exact hk
      · exact hks z hz⟩
end
/-- at v stands a kind; in vs kinds -/
abbrev Kp (K : PySem.W.Frag) (H : Hp) (v : V) (k : Kd) : Prop := Th K H v k.tg
abbrev Kps (K : PySem.W.Frag) (H : Hp) (vs : List V) (ks : List Kd) : Prop := ThAll K H vs (ks.map Kd.tg)
section
variable {K : PySem.W.Frag} {H : Hp}
theorem Kps.snoc {vs : List V} {ks : List Kd} (h : Kps K H vs ks) (hn : ks ≠ []) : ∃ v vs' k ks', vs = vs' ++ [v] ∧ ks = ks' ++ [k] ∧ Kp K H v k ∧ Kps K H vs' ks' := by
  obtain ⟨v, vs', t, ts', e1, e2, h1, h2⟩ := ThAll.snoc h (by simpa using hn)
  obtain ⟨ks', k, rfl⟩ : ∃ ks' k, ks = ks' ++ [k] := ⟨ks.dropLast, ks.getLast hn, (List.dropLast_concat_getLast hn).symm⟩
  rw [List.map_append, List.map_singleton] at e2
  obtain ⟨e3, e4⟩ := List.append_inj' e2 rfl
  cases e4
  exact ⟨v, vs', k, ks', e1, rfl, h1, by rw [← e3] at h2; exact h2⟩
theorem kp_L {v : V} {k : Kd} (h : Kp K H v k) (c : k.isC = false) : v = .str k.nm ∧ k.nm.length ≤ 100000 := by
  obtain ⟨_, e⟩ := Kd.tg_L c
  have h' : Th K H v (.str k.nm) := by rw [← e]; exact h
  cases h' with
  | str x hx => exact ⟨rfl, hx⟩
theorem kp_C {v : V} {k : Kd} (h : Kp K H v k) (c : k.isC = true) : ∃ (a : Addr) (xs : List V), v = .ref a ∧ SqT K H a (.str k.nm :: xs) ∧ k.nm.length ≤ 100000 ∧ Kps K H xs k.args := by
  have h' : Th K H v (.tup (.str k.nm :: k.args.map Kd.tg)) := by rw [← Kd.tg_C c]; exact h
  cases h' with
  | @tup a xs ts h r =>
    cases r with
    | @cons y ys n ts hy r =>
      cases hy with
      | str x hx => exact ⟨a, ys, rfl, h, hx, r⟩
theorem kp_mk {a : Addr} {k : Kd} {xs : List V} (c : k.isC = true) (h : SqT K H a (.str k.nm :: xs)) (hx : k.nm.length ≤ 100000) (r : Kps K H xs k.args) : Kp K H (.ref a) k := by
  show Th K H (.ref a) k.tg
  rw [Kd.tg_C c]
  exact .tup h (.cons (.str _ hx) r)
theorem ThAll.rev {vs : List V} {ts : List Tg} (h : ThAll K H vs ts) : ThAll K H vs.reverse ts.reverse := by
  induction vs generalizing ts with
  | nil => cases h; exact .nil
  | cons v vs ih =>
    cases h with
    | cons h r =>
      rw [List.reverse_cons, List.reverse_cons]
      exact (ih r).app (.cons h .nil)
theorem Kps.rev {vs : List V} {ks : List Kd} (h : Kps K H vs ks) : Kps K H vs.reverse ks.reverse := by
  have := ThAll.rev h
  rw [← List.map_reverse] at this
  exact this
theorem Kps.app {vs ws : List V} {ks js : List Kd} (h : Kps K H vs ks) (h2 : Kps K H ws js) : Kps K H (vs ++ ws) (ks ++ js) := by
  have := ThAll.app h h2
  rw [← List.map_append] at this
  exact this
theorem Kps.length {vs : List V} {ks : List Kd} (h : Kps K H vs ks) : vs.length = ks.length := by
  have := ThAll.length h
  rw [List.length_map] at this
  exact this
end
end N

namespace N
open PySem PySem.Spec PyProof.Rows L2
namespace Kd
theorem size_parts (k : Kd) : k.size = (k.parts.filter isC).length := by
  induction k with
  | L c => rfl
  | C0 n => rfl
  | C1 n a ih =>
    show 1 + a.size = ((C1 n a :: a.parts).filter isC).length
    rw [List.filter_cons_of_pos (by rfl), List.length_cons, ih]
    omega
  | C2 n a b ih1 ih2 =>
    show 1 + a.size + b.size = ((C2 n a b :: (a.parts ++ b.parts)).filter isC).length
    rw [List.filter_cons_of_pos (by rfl), List.length_cons, List.filter_append, List.length_append, ih1, ih2]
    omega
theorem nds_le (k : Kd) : k.nds ≤ k.tg.nodes := by
  induction k with
  | L c => simp [tg, nds, Tg.nodes]
  | C0 n => simp [tg, nds, Tg.nodes, nodesAll]
  | C1 n a ih => simp only [tg, nds, Tg.nodes, nodesAll]; omega
  | C2 n a b ih1 ih2 => simp only [tg, nds, Tg.nodes, nodesAll]; omega
end Kd
section
variable {K : PySem.W.Frag}
theorem Kps.at {H : Hp} : ∀ {vs : List V} {ks : List Kd} {i : Nat} {x : V}, Kps K H vs ks → vs[i]? = some x → ∃ k, ks[i]? = some k ∧ Kp K H x k
  | _, [], i, x, .nil, h => by simp at h
  | _, k :: ks, 0, x, .cons r _, h => by
    simp at h
    subst h
    exact ⟨k, rfl, r⟩
  | _, k :: ks, i + 1, x, .cons _ t, h => by
    obtain ⟨k', e, r⟩ := Kps.at (ks := ks) (i := i) (x := x) t (by simpa using h)
    exact ⟨k', by simpa using e, r⟩
theorem take_snoc {α : Type} {l : List α} {i : Nat} {x : α} (h : l[i]? = some x) : l.take (i + 1) = l.take i ++ [x] := by rw [List.take_add_one, h]; rfl
end
end N

namespace N
open PySem PySem.Spec PyProof.Rows L2
def topS (i : Nat) : Stmt := PySem.Challenge.pw_endlesskinds_k26_exceptions_made.main.body.getD i (.Pass ⟨0, 0, 0, 0⟩)
abbrev s_Lcell_at : Stmt := topS 21
abbrev nm_Lcell_at : List Str := ["_law_script", "_law_k"]
theorem sc_Lcell_at : FnScope nm_Lcell_at ["_law_script", "_law_k"] (defScope s_Lcell_at) := ⟨rfl, rfl, rfl, by decide +kernel, rfl, by decide +kernel, by decide +kernel⟩
abbrev s_Lpen : Stmt := topS 22
abbrev nm_Lpen : List Str := ["_law_cell"]
theorem sc_Lpen : FnScope nm_Lpen ["_law_cell"] (defScope s_Lpen) := ⟨rfl, rfl, rfl, by decide +kernel, rfl, by decide +kernel, by decide +kernel⟩
abbrev s_Ldraw : Stmt := topS 23
abbrev nm_Ldraw : List Str := ["_law_pen_here", "_law_many", "_law_found", "_law_mixed"]
theorem sc_Ldraw : FnScope nm_Ldraw ["_law_pen_here", "_law_many"] (defScope s_Ldraw) := ⟨rfl, rfl, rfl, by decide +kernel, rfl, by decide +kernel, by decide +kernel⟩
abbrev s_Lsame : Stmt := topS 24
abbrev nm_Lsame : List Str := ["_law_found", "_law_due"]
theorem sc_Lsame : FnScope nm_Lsame ["_law_found", "_law_due"] (defScope s_Lsame) := ⟨rfl, rfl, rfl, by decide +kernel, rfl, by decide +kernel, by decide +kernel⟩
abbrev s_Lpick : Stmt := topS 25
abbrev nm_Lpick : List Str := ["_law_pen_here", "_law_some"]
theorem sc_Lpick : FnScope nm_Lpick ["_law_pen_here", "_law_some"] (defScope s_Lpick) := ⟨rfl, rfl, rfl, by decide +kernel, rfl, by decide +kernel, by decide +kernel⟩
abbrev s_Lword : Stmt := topS 26
abbrev nm_Lword : List Str := ["_law_e", "_law_marks", "_law_names"]
theorem sc_Lword : FnScope nm_Lword ["_law_e"] (defScope s_Lword) := ⟨rfl, rfl, rfl, by decide +kernel, rfl, by decide +kernel, by decide +kernel⟩
abbrev s_Lplain_right : Stmt := topS 27
abbrev nm_Lplain_right : List Str := ["_law_many", "_law_some", "_law_words", "_law_more", "_law_names", "_law_e"]
theorem sc_Lplain_right : FnScope nm_Lplain_right ["_law_many"] (defScope s_Lplain_right) := ⟨rfl, rfl, rfl, by decide +kernel, rfl, by decide +kernel, by decide +kernel⟩
abbrev s_Lfields_right : Stmt := topS 28
abbrev nm_Lfields_right : List Str := ["_law_called", "_law_sign", "_law_some", "_law_e", "_law_ring"]
theorem sc_Lfields_right : FnScope nm_Lfields_right ["_law_called", "_law_sign"] (defScope s_Lfields_right) := ⟨rfl, rfl, rfl, by decide +kernel, rfl, by decide +kernel, by decide +kernel⟩
abbrev s_law : Stmt := topS 29
abbrev nm_law : List Str := ["_law_script", "_law_k", "_law_pen_here"]
theorem sc_law : FnScope nm_law ["_law_script"] (defScope s_law) := ⟨rfl, rfl, rfl, by decide +kernel, rfl, by decide +kernel, by decide +kernel⟩
/-- what the top holds besides its defs -/
structure Glo (mg : Str → Option Value) : Prop where
  isinstance : mg "isinstance" = none
  str : mg "str" = none
  tuple : mg "tuple" = none
  dict : mg "dict" = none
  list : mg "list" = none
  len : mg "len" = none
  all : mg "all" = none
  max : mg "max" = none
  min : mg "min" = none
  range : mg "range" = none
  repr : mg "repr" = none
  sum : mg "sum" = none
end N

namespace N
open PySem PySem.Spec PyProof.Rows L2
section
variable {P : Program} {w : World} {K : PySem.W.Frag} {mg : Str → Option Value} {base : Heap}
/-- all but what stands at p is as it was -/
def Bar (p : Addr) (H H' : Hp) : Prop := ∀ b o, b ≠ p → H b = some o → H' b = some o
def Pen (H : Hp) (p : Addr) : Prop := ∃ i j k : Int, H p = some (.lst [.int i, .int j, .int k]) ∧ 0 ≤ i ∧ 0 ≤ j ∧ j < 2147483648
theorem Bar.refl (p : Addr) (H : Hp) : Bar p H H := fun _ _ _ h => h
theorem Bar.trans {p : Addr} {H H1 H2 : Hp} (a : Bar p H H1) (b : Bar p H1 H2) : Bar p H H2 := fun x o n h => b x o n (a x o n h)
theorem bar_same {p : Addr} {H H' : Hp} (a : Same H H') : Bar p H H' := fun x o _ h => a x o h
theorem bar_upd {p : Addr} {H : Hp} (o : HO) : Bar p H (upd H p o) := fun b u n h => by rw [upd_ne n]; exact h
theorem Pen.same {p : Addr} {H H' : Hp} (a : Same H H') (h : Pen H p) : Pen H' p := by
  obtain ⟨i, j, k, e, r⟩ := h
  exact ⟨i, j, k, a _ _ e, r⟩
theorem bar_stay {p : Addr} {H H' : Hp} (a : Bar p H H') (h : Pen H p) (h' : Pen H' p) : Stay K H H' := by
  obtain ⟨i, j, k, e, _⟩ := h
  obtain ⟨i', j', k', e', _⟩ := h'
  refine stay_of (fun b o q => ?_) fun b x q => a b _ (ne_of q e (by intro z; cases z)) q
  by_cases hb : b = p
  · subst hb
    rw [e] at q
    cases q
    exact .inr ⟨_, _, rfl, e'⟩
  · exact .inl (a b o hb q)
theorem bar_seq {p a : Addr} {H H' : Hp} {xs : List V} (b : Bar p H H') (n : a ≠ p) (h : SqL K H a xs) : SqL K H' a xs := by
  rcases h with (h | ⟨o, h⟩) | h
  · exact .inl (.inl (b _ _ n h))
  · exact .inl (.inr ⟨o, b _ _ n h⟩)
  · exact .inr h
theorem pen_free {p q : Addr} {H H' : Hp} (b : Bar p H H') (h : Pen H p) (n : H' q = none) (hq : Pen H' p) : H q = none := by
  cases e : H q with
  | none => rfl
  | some o =>
    obtain ⟨_, _, _, e', _⟩ := hq
    by_cases hb : q = p
    · subst hb; rw [e'] at n; cases n
    · rw [b q o hb e] at n; cases n
def spCell (K : PySem.W.Frag) : Sp := fun vs H Q _ => ∃ (a : Addr) (ns : List Int) (k : Nat), vs = [.ref a, .int k] ∧ SqL K H a (ns.map V.int) ∧ ∀ n : Int, Q (.int n) H
theorem ok_cell (G : Glo mg) (D : DefAt K mg "_law_cell_at" s_Lcell_at ["_law_script", "_law_k"]) : Cal P w K mg base 1 "_law_cell_at" ["_law_script", "_law_k"] (spCell K) := by
  refine D.cal sc_Lcell_at (fun vs H Q E h => ?_) (fun f cdv A outer s H vs Q E hr h => ?_)
  · obtain ⟨a, ns, k, rfl, _⟩ := h
    rfl
  obtain ⟨a, ns, k, rfl, hS, q⟩ := h
  refine ⟨_, pss_cons (ps_if (pt_cmpR op_lt (pv 1) (pe_callB call_len_seq (by rfl) G.len PySem.boot_len (pa_cons (pv 0) pa_nil)) (nomark _)) (pss_one (ps_ret (pe_ix ix_list (pv 0) (pv 1) (fun _ _ => rfl)))) pss_nil) (pss_one (ps_ret pe_int)), ?_⟩
  refine ⟨_, rfl, _, rfl, a, _, rfl, .inl hS, _, _, rfl, rfl, _, rfl, ite2 (fun c => ?_) (fun c => ?_)⟩
  · have c' : ((k : Nat) : Int) < (((ns.map V.int).length : Nat) : Int) := of_decide_eq_true c
    rw [List.length_map] at c'
    have hk : k < ns.length := by omega
    exact ⟨_, rfl, _, rfl, a, _, _, .int ns[k], rfl, rfl, hS, atI_nat (by rw [List.getElem?_map, List.getElem?_eq_getElem hk] <;> rfl), q _⟩
  · exact q 0
def spPen (K : PySem.W.Frag) : Sp := fun vs H Q _ => ∃ n : Int, vs = [.int n] ∧ ∀ p H', Same H H' → H p = none → Pen H' p → Q (.ref p) H'
theorem ok_pen (G : Glo mg) (D : DefAt K mg "_law_pen" s_Lpen ["_law_cell"]) : Cal P w K mg base 1 "_law_pen" ["_law_cell"] (spPen K) := by
  refine D.cal sc_Lpen (fun vs H Q E h => ?_) (fun f cdv A outer s H vs Q E hr h => ?_)
  · obtain ⟨n, rfl, _⟩ := h
    rfl
  obtain ⟨n, rfl, q⟩ := h
  refine ⟨_, pss_one (ps_ret (pe_lst (pa_cons (pe_callB (call_max2 rfl) (by rfl) G.max (by decide +kernel) (pa_cons pe_int (pa_cons (pe_op op_sub (pv 0) (pe_op op_pow pe_int pe_int)) pa_nil)))
    (pa_cons (pe_op op_add (pe_op op_modN (pv 0) pe_int) pe_int) (pa_cons pe_int pa_nil))))), ?_⟩
  refine ⟨_, rfl, _, _, rfl, rfl, ⟨by decide, by decide, by decide⟩, _, _, rfl, rfl, _, _, rfl, ?_⟩
  refine ⟨_, rfl, _, _, rfl, rfl, (by show (2147483629 : Int) ≠ 0; decide), _, _, rfl, rfl, by show 3 ≤ sizeLine; decide, fun p hp => ?_⟩
  refine q p _ (same_new hp _) hp ⟨_, _, _, upd_same, ?_, ?_, ?_⟩
  · split <;> omega
  · rw [Int.fmod_eq_emod_of_nonneg _ (by decide)]; omega
  · rw [Int.fmod_eq_emod_of_nonneg _ (by decide)]; omega
def spDraw (K : PySem.W.Frag) : Sp := fun vs H Q _ => ∃ (p : Addr) (n : Int), vs = [.ref p, .int n] ∧ Pen H p ∧ 0 < n ∧ n < 1073741824 ∧ ∀ H' r, Bar p H H' → Pen H' p → 0 ≤ r → r < n → Q (.int r) H'
theorem ok_draw (D : DefAt K mg "_law_draw" s_Ldraw ["_law_pen_here", "_law_many"]) : Cal P w K mg base 1 "_law_draw" ["_law_pen_here", "_law_many"] (spDraw K) := by
  refine D.cal sc_Ldraw (fun vs H Q E h => ?_) (fun f cdv A outer s H vs Q E hr h => ?_)
  · obtain ⟨p, n, rfl, _⟩ := h
    rfl
  obtain ⟨p, n, rfl, ⟨i, j, k, e, hi, hj, hj2⟩, hn, hn2, q⟩ := h
  refine ⟨_, pss_cons (ps_if (pt_cmpR op_gt (pe_ix ix_list (pv 0) pe_int (fun _ _ => rfl)) pe_int (nomark _))
      (pss_cons (ps_set (i := 2) sc_Ldraw.nd rfl (Or.inl rfl) (pe_op op_modN (pe_ix ix_list (pv 0) pe_int (fun _ _ => rfl)) (pv 1)))
      (pss_cons (ps_asg (pe_op op_fdivN (pe_ix ix_list (pv 0) pe_int (fun _ _ => rfl)) (pv 1)) (pg_sub (pv 0) pe_int set_list)) (pss_one (ps_ret (pv 2))))) pss_nil)
    (pss_cons (ps_asg (pe_op op_add (pe_ix ix_list (pv 0) pe_int (fun _ _ => rfl)) pe_int) (pg_sub (pv 0) pe_int set_list))
    (pss_cons (ps_asg (pe_op op_modN (pe_op op_add (pe_op op_add (pe_op op_mul (pe_ix ix_list (pv 0) pe_int (fun _ _ => rfl)) pe_int) (pe_op op_mul pe_int (pe_ix ix_list (pv 0) pe_int (fun _ _ => rfl)))) pe_int) pe_int) (pg_sub (pv 0) pe_int set_list))
    (pss_cons (ps_set (i := 3) sc_Ldraw.nd rfl (Or.inl rfl) (pe_op op_modN (pe_op op_add (pe_op op_add (pe_op op_mul (pe_ix ix_list (pv 0) pe_int (fun _ _ => rfl)) (pe_ix ix_list (pv 0) pe_int (fun _ _ => rfl))) (pe_op op_mul pe_int (pe_ix ix_list (pv 0) pe_int (fun _ _ => rfl)))) pe_int) pe_int))
    (pss_cons (ps_set (i := 3) sc_Ldraw.nd rfl (Or.inl rfl) (pe_op op_modN (pe_op op_add (pe_op op_mul (pv 3) (pv 3)) (pe_op op_mul pe_int (pv 3))) pe_int))
    (pss_one (ps_ret (pe_op op_modN (pe_op op_fdivN (pv 3) pe_int) (pv 1)))))))), ?_⟩
  refine ⟨_, rfl, p, _, 0, .int i, rfl, rfl, SqL.of e, atI_nat (j := 0) rfl, _, _, rfl, rfl, _, rfl, ite2 (fun c => ?_) (fun c => ?_)⟩
  · have c' : i > 0 := of_decide_eq_true c
    refine ⟨_, rfl, p, _, 0, .int i, rfl, rfl, SqL.of e, atI_nat (j := 0) rfl, _, rfl, _, _, rfl, rfl, (by show n ≠ 0; omega), ?_⟩
    refine ⟨_, rfl, p, _, 0, .int i, rfl, rfl, SqL.of e, atI_nat (j := 0) rfl, _, rfl, _, _, rfl, rfl, ⟨by omega, by omega⟩, ?_⟩
    refine ⟨_, rfl, p, _, 0, 0, rfl, rfl, e, rfl, ?_⟩
    refine ⟨_, rfl, q _ _ (bar_upd _) ⟨_, j, k, upd_same, ?_, hj, hj2⟩ ?_ ?_⟩
    · rw [Int.fdiv_eq_ediv_of_nonneg _ (by omega)]
      exact Int.ediv_nonneg hi (by omega)
    · rw [Int.fmod_eq_emod_of_nonneg _ (by omega)]
      exact Int.emod_nonneg _ (by omega)
    · rw [Int.fmod_eq_emod_of_nonneg _ (by omega)]
      exact Int.emod_lt_of_pos _ hn
  · refine ⟨_, rfl, p, _, 2, .int k, rfl, rfl, SqL.of e, atI_nat (j := 2) rfl, _, _, rfl, rfl, ?_⟩
    refine ⟨_, rfl, p, _, 2, 2, rfl, rfl, e, rfl, ?_⟩
    have e1 : (upd H p (.lst ([.int i, .int j, .int k].set 2 (.int (k + 1))))) p = some (.lst [.int i, .int j, .int (k + 1)]) := upd_same
    refine ⟨_, rfl, p, _, 1, .int j, rfl, rfl, SqL.of e1, atI_nat (j := 1) rfl, _, _, rfl, rfl, .inl ⟨by omega, by omega⟩, ?_⟩
    refine ⟨_, rfl, p, _, 2, .int (k + 1), rfl, rfl, SqL.of e1, atI_nat (j := 2) rfl, _, _, rfl, rfl, .inl ⟨by decide, by decide⟩, _, _, rfl, rfl, _, _, rfl, rfl, _, _, rfl, rfl, (by show (2147483647 : Int) ≠ 0; decide), ?_⟩
    have hj0 : 0 ≤ ((j * 48271 + 1009 * (k + 1) + 7).fmod 2147483647) ∧ ((j * 48271 + 1009 * (k + 1) + 7).fmod 2147483647) < 2147483648 := by rw [Int.fmod_eq_emod_of_nonneg _ (by decide)]; omega
    dsimp only
    revert hj0
    generalize (j * 48271 + 1009 * (k + 1) + 7).fmod 2147483647 = j'
    intro hj'
    refine ⟨_, rfl, p, _, 1, 1, rfl, rfl, e1, rfl, ?_⟩
    have e2 : (upd (upd H p (.lst ([.int i, .int j, .int k].set 2 (.int (k + 1))))) p (.lst (([.int i, .int j, .int (k + 1)] : List V).set 1 (.int j')))) p = some (.lst [.int i, .int j', .int (k + 1)]) := upd_same
    have b2 : Bar p H (upd (upd H p (.lst ([.int i, .int j, .int k].set 2 (.int (k + 1))))) p (.lst (([.int i, .int j, .int (k + 1)] : List V).set 1 (.int j')))) := (bar_upd _).trans (bar_upd _)
    refine ⟨_, rfl, p, _, 1, .int j', rfl, rfl, SqL.of e2, atI_nat (j := 1) rfl, ?_⟩
    refine ⟨_, rfl, p, _, 1, .int j', rfl, rfl, SqL.of e2, atI_nat (j := 1) rfl, _, _, rfl, rfl, .inl ⟨by omega, by omega⟩, ?_⟩
    refine ⟨_, rfl, p, _, 1, .int j', rfl, rfl, SqL.of e2, atI_nat (j := 1) rfl, _, _, rfl, rfl, .inl ⟨by decide, by decide⟩, _, _, rfl, rfl, _, _, rfl, rfl, _, _, rfl, rfl, (by show (2147483629 : Int) ≠ 0; decide), ?_⟩
    have hm0 : 0 ≤ ((j' * j' + 69621 * j' + 11).fmod 2147483629) ∧ ((j' * j' + 69621 * j' + 11).fmod 2147483629) < 2147483648 := by rw [Int.fmod_eq_emod_of_nonneg _ (by decide)]; omega
    dsimp only
    revert hm0
    generalize (j' * j' + 69621 * j' + 11).fmod 2147483629 = m
    intro hm
    refine ⟨_, rfl, _, rfl, _, _, rfl, rfl, .inl ⟨by omega, by omega⟩, _, rfl, _, _, rfl, rfl, .inl ⟨by decide, by decide⟩, _, _, rfl, rfl, _, _, rfl, rfl, (by show (2147483587 : Int) ≠ 0; decide), ?_⟩
    refine ⟨_, rfl, _, _, rfl, rfl, ⟨by decide, by decide⟩, _, rfl, _, _, rfl, rfl, (by show n ≠ 0; omega), q _ _ b2 ⟨i, j', k + 1, e2, hi, hj'⟩ ?_ ?_⟩
    · rw [Int.fmod_eq_emod_of_nonneg _ (by omega)]
      exact Int.emod_nonneg _ (by omega)
    · rw [Int.fmod_eq_emod_of_nonneg _ (by omega)]
      exact Int.emod_lt_of_pos _ hn
end
end N

namespace N
open PySem PySem.Spec PyProof.Rows L2
section
variable {P : Program} {w : World} {K : PySem.W.Frag} {mg : Str → Option Value} {base : Heap}
def spPick (K : PySem.W.Frag) : Sp := fun vs H Q _ => ∃ (p a : Addr) (xs : List V), vs = [.ref p, .ref a] ∧ Pen H p ∧ a ≠ p ∧ SqL K H a xs ∧ 0 < xs.length ∧ xs.length ≤ 1000 ∧ ∀ H' x, Bar p H H' → Pen H' p → x ∈ xs → Q x H'
theorem ok_pick (G : Glo mg) (CD : Cal P w K mg base 1 "_law_draw" ["_law_pen_here", "_law_many"] (spDraw K)) (D : DefAt K mg "_law_pick" s_Lpick ["_law_pen_here", "_law_some"]) : Cal P w K mg base 2 "_law_pick" ["_law_pen_here", "_law_some"] (spPick K) := by
  refine D.cal sc_Lpick (fun vs H Q E h => ?_) (fun f cdv A outer s H vs Q E hr h => ?_)
  · obtain ⟨p, a, xs, rfl, _⟩ := h
    rfl
  obtain ⟨p, a, xs, rfl, hp, hne, hS, h0, h1, q⟩ := h
  refine ⟨_, pss_one (ps_ret (pe_ix ix_list (pv 1) (pc CD hr rfl (pa_cons (pv 0) (pa_cons (pe_callB call_len_seq (by rfl) G.len PySem.boot_len (pa_cons (pv 1) pa_nil)) pa_nil))) (fun _ _ => rfl))), ?_⟩
  refine ⟨_, rfl, _, rfl, _, rfl, a, _, rfl, .inl hS, p, _, rfl, hp, by omega, by omega, fun H' r b pn r0 r1 => ?_⟩
  have hk : r.toNat < xs.length := by omega
  have er : r = ((r.toNat : Nat) : Int) := by omega
  refine ⟨a, xs, r, xs[r.toNat], rfl, rfl, bar_seq b hne hS, ?_, q H' _ b pn (List.getElem_mem hk)⟩
  have := atI_nat (xs := xs) (List.getElem?_eq_getElem hk)
  rw [← er] at this
  exact this
end
end N

namespace N
open PySem PySem.Spec PyProof.Rows L2
/-! ### exceptions of own classes as values -/
/-- v is an exception of the class at C, with these fields -/
def ExP (H : Hp) (v : V) (C : Addr) (fs : List (Str × V)) : Prop := ∃ a, v = .ref a ∧ ((H a = some (exo a C none) ∧ fs = []) ∨ ∃ d, H a = some (exo a C (some d)) ∧ H d = some (exd d fs))
theorem ExP.same {H H' : Hp} {v : V} {C : Addr} {fs : List (Str × V)} (s : Same H H') (h : ExP H v C fs) : ExP H' v C fs := by
  obtain ⟨a, e, r⟩ := h
  rcases r with ⟨h1, h2⟩ | ⟨d, h1, h2⟩
  · exact ⟨a, e, .inl ⟨s _ _ h1, h2⟩⟩
  · exact ⟨a, e, .inr ⟨d, s _ _ h1, s _ _ h2⟩⟩
abbrev veB : List Value := [.type "ValueError", .type "Exception", .type "BaseException", .type "object"]
section
variable {X : Cx} {pins : List (Addr × Obj)} {σ : L2.St} {H : Hp} {s : Shared}
/-- where it lies -/
theorem exP_at {v : V} {C : Addr} {fs : List (Str × V)} (I : Inv X pins σ H s) (h : ExP H v C fs) : ∃ (a : Addr) (ox : Obj) (od : Option Obj), v = .ref a ∧ PySem.W.InstAt s.heap a ox C od ∧ (fs ≠ [] → ∃ o, od = some o ∧ ∃ mA : Str → Option Value, (∀ n, PySem.W.lookIn n o = some (mA n)) ∧ ∀ f, RelO (fs.lookup f) (mA f)) := by
  obtain ⟨a, e, r⟩ := h
  rcases r with ⟨h1, h2⟩ | ⟨d, h1, h2⟩
  · obtain ⟨t1, ho⟩ := exo_at I.hok h1
    exact ⟨a, _, none, e, ⟨ho, rfl, rfl, trivial⟩, fun n => absurd h2 n⟩
  · obtain ⟨t1, ho⟩ := exo_at I.hok h1
    obtain ⟨mA, hns, rel⟩ := exd_at I.hok h2
    obtain ⟨od, hd, hl⟩ := lookIn_ns hns
    exact ⟨a, _, some od, e, ⟨ho, rfl, rfl, hd⟩, fun _ => ⟨od, rfl, mA, hl, rel⟩⟩
theorem call_ex {C : Addr} {us : List Value} {Q : VK} (I : Inv X pins σ H s) (q : PySem.W.excIn X.K C veB "ValueError.__new__" = true) (hz : us.length ≤ sizeLine) (h : ∀ a, H a = none → Q (.ref a) (upd H a (exo a C none))) :
    wpAny (model X.prog X.w) X.A (call (.ref C) us) (EP X pins σ Q) X.xe s := by
  obtain ⟨bm, Na, nm, qn, bs, hdct, sn, sub, ab, col, dd, k0, k1, k2, k3, k5, mN, hC, hN, hni, T⟩ := exc_obj I.kIn q
  refine wpAny_call_exc_subT PySem.F.excBase_ValueError T hC hN hni (fun h' a hm => ?_) hz
  have hn : H a = none := I.hok.gone hm.new
  obtain ⟨t, ht, _⟩ := hm.there
  exact ⟨.ref a, _, I.laidN hm.keeps hm.new hn (exo_ok ht), rfl, h a hn⟩
end
section
variable {X : Cx} {C : Addr} {x : Str} {p pos : Pos} {e : Expr} {es : List Expr} {t : TA} {te : TE}
/-- C(), C(e, ..), an own class over ValueError without own __init__ -/
theorem pe_ex0 (q : PySem.W.excIn X.K C veB "ValueError.__new__" = true) (gC : X.mg x = some (.ref C)) (kC : PySem.W.keepIn X.K (.ref C) = true) (hg : Gl X x) (hdb : (x == ("__debug__" : Str)) = false := by decide) :
    PE X (.Call (.Name x p) [] [] pos) (fun _ H Q => ∀ a, H a = none → Q (.ref a) (upd H a (exo a C none))) := by
  refine ⟨fun pins s σ H Q I h => wpAny_Call_Name_kw (ld_glob I hg gC ?_ hdb)⟩
  exact PySem.W.callWith_K0 I.kIn kC (call_ex (us := []) I q (Nat.zero_le _) h)
theorem pe_exN (q : PySem.W.excIn X.K C veB "ValueError.__new__" = true) (gC : X.mg x = some (.ref C)) (kC : PySem.W.keepIn X.K (.ref C) = true) (hg : Gl X x) (ha : PA X (e :: es) t) (hdb : (x == ("__debug__" : Str)) = false := by decide)
    (he : starEach (e :: es) X.env = (false, eval e X.env) :: starEach es X.env := by rfl) (hpl : (backTo pos (starEach es X.env)).any (·.1) = false := by rfl) :
    PE X (.Call (.Name x p) (e :: es) [] pos) (fun σ H Q => t σ H fun vs H1 => vs.length ≤ sizeLine ∧ ∀ a, H1 a = none → Q (.ref a) (upd H1 a (exo a C none))) := by
  refine ⟨fun pins s σ H Q I h => wpAny_Call_Name_kw (ld_glob I hg gC ?_ hdb)⟩
  refine PySem.W.callWith_K (h₀ := X.base) I.ok.mod.kin kC (thn (ha.run pos pins s σ H _ I h) fun us s1 z => ?_) he hpl
  obtain ⟨vs, H1, J, r, hz, q1⟩ := z
  exact ⟨J.kIn, (show wpAny _ _ (call (.ref C) us) _ _ _ from call_ex J q (by rw [← r.length]; exact hz) q1)⟩
/-- isinstance(e, c), e such an exception -/
def rIsX (K : PySem.W.Frag) : List V → Hp → VK → Prop := fun xs H Q => ∃ (v c : V) (C : Addr) (fs : List (Str × V)) (cv : Value) (b : Bool), xs = [v, c] ∧ ExP H v C fs ∧ ExcC K C ∧ (∀ u, RelV c u → u = cv) ∧ PySem.W.kitOne K (.ref C) cv = some b ∧ Q (.bl b) H
theorem call_isX : CallR X (.builtin "isinstance") (rIsX X.K) := by
  intro pins s σ H xs us Q I r h
  obtain ⟨v, c, C, fs, cv, b, rfl, hx, T, hcv, e, q⟩ := h
  obtain ⟨a, ox, od, rfl, J, _⟩ := exP_at I hx
  cases r with
  | cons rx rr =>
    cases rr with
    | cons rt rr =>
      cases rr
      cases rx
      have ec := hcv _ rt
      subst ec
      have hcl : (PySem.W.clsIn X.K C).isSome = true := by
        obtain ⟨cd, hc, _⟩ := PySem.W.any_some T.hd
        rw [hc]
        rfl
      exact PySem.W.kia_one (PySem.W.kitx_exc hcl T.hg T.hk T.hs T.ha T.hn T.ht T.hm) I.kIn J e (fun z => nomatch z) fun tk => ⟨.bl b, H, I.kept (t' := tk) fun _ _ z => z, rfl, q⟩
/-- e.f, a field of such an exception -/
theorem pe_exf {n : Str} (he : PE X e te) (hb : attributeBase e n X.env (eval e X.env) = eval e X.env := by rfl) :
    PE X (.Attribute e n pos) (fun σ H Q => te σ H fun x H1 => ∃ (C : Addr) (fs : List (Str × V)) (v : V), ExP H1 x C fs ∧ XfC X.K C ∧ PySem.W.findIn X.K (.ref C) n = some none ∧ fs.lookup n = some v ∧ Q v H1) := by
  refine ⟨fun pins s σ H Q I h => ?_⟩
  refine attr_of hb (thn (he.run pins s σ H _ I h) fun u s1 z => ?_)
  obtain ⟨x, H1, J, rx, C, fs, v, hx, T, hno, hl, q⟩ := z
  obtain ⟨a, ox, od, rfl, A, hf⟩ := exP_at J hx
  obtain rfl : u = Value.ref a := rx
  obtain ⟨o, rfl, mA, hlk, rel⟩ := hf (fun z => by rw [z] at hl; cases hl)
  obtain ⟨u2, hu, ru⟩ := RelO.some_of (v := v) (o := mA n) (by rw [← hl]; exact rel n)
  exact HandSPX.exc_get J.kIn A T.ga T.gg T.exC (PySem.W.findObj_own T.hdC hno rfl (by rw [hlk, hu])) (handed_of ru) ⟨v, H1, J.tok _, ru, q⟩
end
end N

namespace N
open PySem PySem.Spec PyProof.Rows L2 NdefX
/-! ### an own __init__ that begins with super().__init__(..) -/
/-- at u stands the bound ValueError.__init__ of the exception at a -/
def MwO (u a : Addr) : HO := .ext fun h => h.get? u = some (PySem.W.kxs_mw "ValueError.__init__" a)
theorem mwO_ok {P : Program} {w : World} {H : Hp} {h : Heap} {u a : Addr} (e : h.get? u = some (PySem.W.kxs_mw "ValueError.__init__" a)) : ObjOk P w H h u (MwO u a) := ⟨e, ⟨_, e⟩, fun _ _ z k => k _ z⟩
section
variable {prog : Program} {w : World} {A : Around} {E : Value → Shared → Prop} {h : Heap} {g : Array GenState} {d : Drawn} {t : Nat} {os : OsState}
variable {nm q : Str} {C Na : Addr} {bs bm : List Value} {hdct : Bool} {sn : List Str} {sub : List Value} {ab : Bool} {col : Option Bool} {dd : Option Addr} {k0 k1 k2 k3 k5 : Option Value}
theorem mw_run {u e t0 : Addr} {us : List Value} {Q : Value → Shared → Prop} (hC : h.get? C = some (excClassObj nm q C Na bs bm hdct sn sub ab col dd k0 k1 k2 k3 k5 "ValueError.__new__")) (hE : h.get? e = some (HandSPX.excO C t0))
    (hU : h.get? u = some (PySem.W.kxs_mw "ValueError.__init__" e)) (hz : us.length ≤ sizeLine) (fin : ∀ h' t1, (∀ b o, b ≠ e → h.get? b = some o → h'.get? b = some o) → h'.get? e = some (HandSPX.excO C t1) → Q .none ⟨h', g, d, t, os⟩) :
    wpAny (model prog w) A (call (.ref u) us) Q E ⟨h, g, d, t, os⟩ := by
  have w1 : (Value.type "method-wrapper" == Value.type "method" || Value.type "method-wrapper" == Value.type "builtin_function_or_method" || Value.type "method-wrapper" == Value.type "method-wrapper") = true := by decide
  refine wpAny_call (codeAny_of_tree (show wpAny _ A.in1 (callAny (.ref u) ⟨us, []⟩) _ _ _ from ?_))
  simp only [callAny]
  refine wpAny_bind (wpAny_load (o := PySem.W.kxs_mw "ValueError.__init__" e) hU ?_)
  simp only [PySem.W.kxs_mw, w1, if_true]
  refine PySem.W.KFB.if_so (by decide) (wpAny_bind (PySem.W.check_bound_init PySem.F.excBase_ValueError.toExcCallFacts hC hE rfl (wpAny_bind (wpAny_pure (wpAny_pure ?_)))))
  refine ⟨Code.quiet_builtin _ (by decide +kernel), codeAny_builtin PySem.F.excBase_ValueError.initEntry ?_⟩
  rw [Around.under_plainId PySem.F.excBase_ValueError.init.plain _]
  wp_walk
  refine fin _ h.objs.size (fun b o nb hb => ?_) ?_
  · rw [Heap.get?_update_other _ _ (fun z => nb z.symm)]
    exact Heap.get?_push_of_some _ hb
  · rw [Heap.get?_update_self _ (Heap.get?_push_of_some _ hE) rfl] <;> rfl
end
section
variable {X : Cx} {pins : List (Addr × Obj)} {σ : L2.St} {H : Hp} {s : Shared} {A : Around}
theorem call_mw {u a C : Addr} {us : List Value} {Q : Value → Shared → Prop} {E : Value → Shared → Prop} (T : OexC X.K C) (I : Inv X pins σ H s) (ea : H a = some (exo a C none)) (eu : H u = some (MwO u a)) (hl : us.length ≤ sizeLine) (h : ∀ s', Inv X pins σ H s' → Q .none s') :
    wpAny (model X.prog X.w) A (call (.ref u) us) Q E s := by
  obtain ⟨nm, q, Na, bs, bm, sn, sub, ab, col, dd, k0, k1, k2, k3, k5, hC, hbm⟩ := T.cls
  obtain ⟨t1, hE⟩ := exo_at I.hok ea
  have hU : s.heap.get? u = some (PySem.W.kxs_mw "ValueError.__init__" a) := (I.hok u _ eu).1
  obtain ⟨hp, g, d, t, os⟩ := s
  refine mw_run (I.kIn _ _ hC) hE hU hl (fun h' t2 k hx => ?_)
  have J := I.write (t' := t) (x := a) (e := a) (o := exo a C none) (by rw [ea]; exact True.intro) (.inl rfl) k ⟨_, hx⟩ (exo_ok hx)
  have eq : upd H a (exo a C none) = H := by
    funext b
    by_cases e : b = a
    · subst e
      rw [upd_same, ea]
    · rw [upd_ne e]
  rw [eq] at J
  exact h _ J
end
/-- what the written part says of a class with such an __init__ -/
structure IniC (K : PySem.W.Frag) (file : Str) (C f cc cda : Addr) (qual : Str) (params : Arguments) (body : List Stmt) (scope : Scope) : Prop where
  ox : OexC K C
  fn : ∃ oc od dV kV doc pm an ct osl, K.lookup f = some ⟨oc, od, .func (PySem.W.ksFn "__init__" qual params body scope dV kV doc pm an (.ref cda) ct cc), osl⟩
  code : PySem.W.codeIn K (.ref cda) qual = true
  cda : ∃ ccl cdd vs ccs tf, K.lookup cda = some ⟨ccl, cdd, .fields vs, ccs⟩ ∧ vs[2]? = some (.str file tf)
  cell : ∃ cl cld csl, K.lookup cc = some ⟨cl, cld, .cell (some (.ref C)), csl⟩
  cls : (PySem.W.clsIn K C).isSome = true
  own : PySem.W.mroIn K C (.ref C) = some true
  up : PySem.W.ks_superIn K C C "__init__" = some (some (.builtin "ValueError.__init__"))
  ve : PySem.W.subIn K (.ref C) (.type "ValueError") = some true
  any : PySem.W.nsIn K cStatics "thirdparty.any" = some none
  ini : PySem.W.findIn K (.ref C) "__init__" = some (some (.ref f))
  tyf : PySem.W.typeIn K (.ref f) = some (.type "function")
end N

namespace N
open PySem PySem.Spec PyProof.Rows L2 NdefX
/-- the words of such an __init__ -/
abbrev iF (qual : Str) (params : Arguments) (body : List Stmt) (scope : Scope) (cc cda : Addr) : NF := ⟨"__init__", qual, params, body, scope, [("__class__", cc)], cda⟩
theorem callE {M : Model} {A : Around} {E : Value → Shared → Prop} {s : Shared} {pos : Pos} {env : Env} {e : Expr} {rest : List Expr} {u x : Addr} {i : String} {first : List Value} {Q : Value → Shared → Prop}
    (he : starEach (e :: rest) env = (false, eval e env) :: starEach rest env) (hpl : (backTo pos (starEach rest env)).any (·.1) = false)
    (h : wpAny M A (spliced (backTo pos (starEach (e :: rest) env))) (fun vs s₁ => PySem.W.KxsAt i u x s₁.heap ∧ wpAny M A (call (.ref u) (first ++ vs)) Q E s₁) E s) :
    wpAny M A (callWith pos (.ref u) first (backTo pos (starEach (e :: rest) env)) []) Q E s := by
  rw [he] at h ⊢
  refine PySem.W.kxs_callWith (i := i) (x := x) (by show (false || (backTo pos (starEach rest env)).any (·.1)) = false; rw [hpl]; rfl) ?_
  exact Calls.evalArgs_plain h
section
variable {P : Program} {w : World} {K : PySem.W.Frag} {mg : Str → Option Value} {base : Heap} {Nm ps : List Str} {k : Nat} {C f cc cda : Addr} {qual file : Str} {params : Arguments} {body rest : List Stmt} {scope : Scope} {t : TA} {tb : TS} {e : Expr} {es : List Expr} {p0 p1 p2 p3 p4 : Pos} {ar : Arg}
/-- super().__init__(e, ..) as a statement, in the frame of such an __init__ -/
theorem run_super {A : Around} {outer : List Env} {s0 s : Shared} {H0 H : Hp} {E : XK} {σ : L2.St} {a : Addr} {Q : Flow → Shared → Prop} {pins : List (Addr × Obj)} (D : IniC K file C f cc cda qual params body scope) (S : NScope Nm ps ["__class__"] scope) (hfile : ((P.main.file : Str) == file) = true) (htop : (P.main.scope.names.lookup ("super" : Str)).isSome = false)
    (hg : scope.names.lookup ("super" : Str) = some .globalImplicit) (hms : mg "super" = none) (har : (params.posonlyargs ++ params.args).head? = some ar) (h0 : Nm[0]? = some ar.arg) (hv0 : scope.names.lookup ar.arg = some .local)
    (I : Inv (ncx (L2.CX P w) P w K mg base Nm (iF qual params body scope cc cda) f A outer s0 H0 E) pins σ H s) (hs : σ[0]? = some (some (.ref a))) (ea : H a = some (exo a C none))
    (ha : PA (ncx (L2.CX P w) P w K mg base Nm (iF qual params body scope cc cda) f A outer s0 H0 E) (e :: es) t)
    (hq : ∀ u, H u = none → t σ (upd H u (MwO u a)) fun vs H1 => vs.length ≤ sizeLine ∧ H1 = upd H u (MwO u a) ∧ ∀ s', Inv (ncx (L2.CX P w) P w K mg base Nm (iF qual params body scope cc cda) f A outer s0 H0 E) pins σ (upd H u (MwO u a)) s' → Q .next s')
    (he : starEach (e :: es) (envF (iF qual params body scope cc cda) f s0.heap.objs.size) = (false, eval e (envF (iF qual params body scope cc cda) f s0.heap.objs.size)) :: starEach es (envF (iF qual params body scope cc cda) f s0.heap.objs.size))
    (hpl : (backTo p3 (starEach es (envF (iF qual params body scope cc cda) f s0.heap.objs.size))).any (·.1) = false)
    {pl : Sem Bool} (hcl : eval (.Call (.Attribute (.Call (.Name "super" p0) [] [] p1) "__init__" p2) (e :: es) [] p3) (envF (iF qual params body scope cc cda) f s0.heap.objs.size) = (do
      let ov ← attributeBase (.Call (.Name "super" p0) [] [] p1) "__init__" (envF (iF qual params body scope cc cda) f s0.heap.objs.size) (eval (.Call (.Name "super" p0) [] [] p1) (envF (iF qual params body scope cc cda) f s0.heap.objs.size))
      standAt p2.atName
      let (f', first) ← holding [ov] (getMethod ov "__init__" pl)
      callWith p3 f' first (backTo p3 (starEach (e :: es) (envF (iF qual params body scope cc cda) f s0.heap.objs.size))) [])) :
    PySem.wpAt (model P w) (A.deeper (envF (iF qual params body scope cc cda) f s0.heap.objs.size)) (.func body (envF (iF qual params body scope cc cda) f s0.heap.objs.size))
      (exec (.Expr (.Call (.Attribute (.Call (.Name "super" p0) [] [] p1) "__init__" p2) (e :: es) [] p3) p4) (envF (iF qual params body scope cc cda) f s0.heap.objs.size)) Q (ncx (L2.CX P w) P w K mg base Nm (iF qual params body scope cc cda) f A outer s0 H0 E).xe s := by
  obtain ⟨oc, od, dV, kV, doc, pm, an, ct, osl, lk⟩ := D.fn
  obtain ⟨ccl, cdd, vs, ccs, tf, lc, hvs⟩ := D.cda
  obtain ⟨cl, cld, csl, lx⟩ := D.cell
  obtain ⟨cdD, hD⟩ := Option.isSome_iff_exists.mp D.cls
  have KX : K.In s.heap := I.kIn
  obtain ⟨oD, hD1, hD2⟩ : ∃ oD, s.heap.get? C = some oD ∧ oD.data = .cls cdD := by
    unfold PySem.W.clsIn at hD
    split at hD
    · rename_i ho
      cases hD
      exact ⟨_, KX _ _ ho, rfl⟩
    · cases hD
  obtain ⟨t1, hx⟩ := exo_at I.hok ea
  refine ks_wpAt_Expr_any (ks_wpAt_MethodCall ?_ hcl) (by show (scope.kind == .module && _) = false; rw [S.kind]; rfl)
  refine ks_wpAt_super_base (f := f) (cc := cda) (env := envF (iF qual params body scope cc cda) f s0.heap.objs.size) hg (S.frk _ (List.mem_singleton.mpr rfl)) (by decide) rfl (KX _ _ lk) rfl har rfl (KX _ _ lc) rfl hvs hfile htop ?_
  obtain ⟨mb, hb1, hb2⟩ := I.mod.blt
  refine PySem.W.ks_loadName_global S.kind hg (Calls.loadGlobal_builtin (by exact I.mod.glob.keeps I.bk) hms (by exact hb1.keeps I.bk) ((hb2 "super" (by decide)).trans (show bootBuiltins "super" = some (.type "super") by decide +kernel)) ⟨rfl, ?_⟩)
  refine wpAny_loadName_free S.kind (S.frk _ (List.mem_singleton.mpr rfl)) rfl ⟨_, KX _ _ lx, rfl⟩ ?_
  obtain ⟨m, hn, hl⟩ := I.loc
  obtain ⟨u0, ru, hm⟩ := hl 0 ar.arg (.ref a) h0 hs (.inl hv0)
  obtain rfl : u0 = Value.ref a := ru
  have hm0 : m ar.arg = some (.ref a) := by
    rcases hm with ⟨_, z⟩ | ⟨z, _⟩
    · exact z
    · exfalso
      have z' : scope.names.lookup ar.arg = some .cell ∨ scope.names.lookup ar.arg = some .free := z
      rw [hv0] at z'
      rcases z' with z' | z' <;> cases z'
  refine wpAny_loadName_local S.kind hv0 hn hm0 ?_
  refine ks_wpAny_isType_cls hD1 hD2 ⟨rfl, ?_⟩
  obtain ⟨hp, g, dr, tk, os⟩ := s
  refine ks_wpAny_call_super hD1 hD2 hx rfl (fun c z => by cases z) (PySem.W.looks_mroIn KX D.own) (fun h' es' kx => ?_)
  have J : Inv (ncx (L2.CX P w) P w K mg base Nm (iF qual params body scope cc cda) f A outer s0 H0 E) pins σ H ⟨h', g, dr, tk, os⟩ := I.kept (t' := tk) kx
  have KX' : K.In h' := J.kIn
  have IA : PySem.W.InstAt h' a _ C none := ⟨kx _ _ hx, rfl, rfl, trivial⟩
  have nC : a ≠ C := PySem.W.ks_ne KX' IA hD
  have up := D.up
  unfold PySem.W.ks_superIn at up
  rw [hD] at up
  have isV : PySem.W.Looks (model P w) h' (isInstance (.ref a) (.type "ValueError")) true := IA.type.andThen (PySem.W.looks_subIn KX' D.ve)
  refine PySem.W.kxs_getMethod PySem.W.kxs_ValueError es' (PySem.W.looks_opaque KX' D.any) (l₀ := cdD.mro) (fun A Q E s k q => wpAny_bind ((PySem.W.looks_clsIn KX' hD) A _ E s k (wpAny_pure q))) rfl KX' up isV nC (by decide) ?_
  have fr : H h'.objs.size = none := J.hok.fresh (Nat.le_refl _)
  have mw : (h'.push (PySem.W.kxs_mw "ValueError.__init__" a)).get? h'.objs.size = some (PySem.W.kxs_mw "ValueError.__init__" a) := Heap.get?_push_size _ rfl
  have J2 := J.laid (t' := tk + 1) (a := h'.objs.size) (o := MwO h'.objs.size a) (fun b u e => Heap.get?_push_of_some _ e) (Nat.le_refl _) (mwO_ok mw)
  have nua : a ≠ h'.objs.size := fun z => by rw [z, fr] at ea; cases ea
  refine callE (i := "ValueError.__init__") (x := a) he hpl ?_
  refine thn (ha.run p3 pins _ σ _ _ J2 (hq _ fr)) (fun us s2 z => ?_)
  obtain ⟨vs', H2, J3, r, hz, e2, fin⟩ := z
  subst e2
  refine ⟨(J3.hok _ _ upd_same).1, ?_⟩
  exact call_mw D.ox J3 (by rw [upd_ne nua]; exact ea) upd_same (by rw [List.nil_append, ← r.length]; exact hz) fun s' J4 => fin s' J4
end
end N

namespace N
open PySem PySem.Spec PyProof.Rows L2 NdefX
section
variable {P : Program} {w : World} {K : PySem.W.Frag} {mg : Str → Option Value} {base : Heap} {Nm ps : List Str} {k : Nat} {C f cc cda : Addr} {qual file : Str} {params : Arguments} {rest : List Stmt} {scope : Scope} {e : Expr} {es : List Expr} {p0 p1 p2 p3 p4 : Pos} {ar : Arg}
variable {oc dV kV doc pm ct : Value} {od an : Option Addr} {osl : Array (Option Value)}
abbrev supS (e : Expr) (es : List Expr) (p0 p1 p2 p3 p4 : Pos) : Stmt := .Expr (.Call (.Attribute (.Call (.Name "super" p0) [] [] p1) "__init__" p2) (e :: es) [] p3) p4
/-- an own __init__ that begins with super().__init__(e, ..): what it keeps -/
theorem ini_fn {sp : Sp} (D : IniC K file C f cc cda qual params (supS e es p0 p1 p2 p3 p4 :: rest) scope)
    (lk : K.lookup f = some ⟨oc, od, .func (PySem.W.ksFn "__init__" qual params (supS e es p0 p1 p2 p3 p4 :: rest) scope dV kV doc pm an (.ref cda) ct cc), osl⟩)
    (S : NScope Nm ps ["__class__"] scope) (hfile : ((P.main.file : Str) == file) = true) (htop : (P.main.scope.names.lookup ("super" : Str)).isSome = false)
    (hg : scope.names.lookup ("super" : Str) = some .globalImplicit) (hms : mg "super" = none) (har : (params.posonlyargs ++ params.args).head? = some ar) (h0 : Nm[0]? = some ar.arg) (hv0 : scope.names.lookup ar.arg = some .local)
    (len : ∀ vs H Q E, sp vs H Q E → vs.length = ps.length)
    (hbody : ∀ (A : Around) (outer : List Env) (s : Shared) (H : Hp) (vs : List V) (Q : VK) (E : XK), RoomG k (A.deeper (envF (iF qual params (supS e es p0 p1 p2 p3 p4 :: rest) scope cc cda) f s.heap.objs.size)) → sp vs H Q E →
      ∃ (a : Addr) (vr : List V) (t : TA) (tr : TS), vs = .ref a :: vr ∧ H a = some (exo a C none) ∧
        PA (ncx (L2.CX P w) P w K mg base Nm (iF qual params (supS e es p0 p1 p2 p3 p4 :: rest) scope cc cda) f A outer s H E) (e :: es) t ∧
        PSs (ncx (L2.CX P w) P w K mg base Nm (iF qual params (supS e es p0 p1 p2 p3 p4 :: rest) scope cc cda) f A outer s H E) rest tr ∧
        ∀ u, H u = none → ∃ ws : List V, ws.length ≤ sizeLine ∧ (∀ R : List V → Hp → Prop, R ws (upd H u (MwO u a)) → t (startF Nm vs [none]) (upd H u (MwO u a)) R) ∧ tr { nx := fun _ H' => Q .non H', rt := Q } (startF Nm vs [none]) (upd H u (MwO u a)))
    (he : ∀ L, starEach (e :: es) (envF (iF qual params (supS e es p0 p1 p2 p3 p4 :: rest) scope cc cda) f L) = (false, eval e (envF (iF qual params (supS e es p0 p1 p2 p3 p4 :: rest) scope cc cda) f L)) :: starEach es (envF (iF qual params (supS e es p0 p1 p2 p3 p4 :: rest) scope cc cda) f L))
    (hpl : ∀ L, (backTo p3 (starEach es (envF (iF qual params (supS e es p0 p1 p2 p3 p4 :: rest) scope cc cda) f L))).any (·.1) = false)
    (pl : Nat → Sem Bool) (hcl : ∀ L, eval (.Call (.Attribute (.Call (.Name "super" p0) [] [] p1) "__init__" p2) (e :: es) [] p3) (envF (iF qual params (supS e es p0 p1 p2 p3 p4 :: rest) scope cc cda) f L) = (do
      let ov ← attributeBase (.Call (.Name "super" p0) [] [] p1) "__init__" (envF (iF qual params (supS e es p0 p1 p2 p3 p4 :: rest) scope cc cda) f L) (eval (.Call (.Name "super" p0) [] [] p1) (envF (iF qual params (supS e es p0 p1 p2 p3 p4 :: rest) scope cc cda) f L))
      standAt p2.atName
      let (f', first) ← holding [ov] (getMethod ov "__init__" (pl L))
      callWith p3 f' first (backTo p3 (starEach (e :: es) (envF (iF qual params (supS e es p0 p1 p2 p3 p4 :: rest) scope cc cda) f L))) [])) :
    FnG P w K mg base (L2.CX P w) (k + 1) f (PySem.W.ksFn "__init__" qual params (supS e es p0 p1 p2 p3 p4 :: rest) scope dV kV doc pm an (.ref cda) ct cc) ps sp := by
  refine ⟨len, fun A outer s H args us vs Q E hr e0 hb r hsp => ?_⟩
  have KX : K.In s.heap := e0.mod.kin.keeps fun b o e => (e0.bs b o e).1
  have lim : s.heap.NoLimit := e0.mod.nolimit.keeps fun b o e => (e0.bs b o e).1
  have hl := len _ _ _ _ hsp
  obtain ⟨cl, cld, csl, lx⟩ := D.cell
  have CA : CellsAt [(("__class__" : Str), cc)] ["__class__"] [none] s.heap H := by
    have bc := e0.bs _ _ (e0.mod.kin _ _ lx)
    refine ⟨rfl, fun y c z => ?_, fun x y c z1 z2 => ?_, fun i y z => ?_⟩
    · have : c = cc := by
        simp only [List.lookup] at z
        split at z
        · exact (Option.some.inj z).symm
        · cases z
      subst this
      exact ⟨bc.2, _, _, bc.1, rfl⟩
    · simp only [List.lookup] at z1 z2
      split at z1
      · rename_i q1
        split at z2
        · rename_i q2
          rw [eq_of_beq q1, eq_of_beq q2]
        · cases z2
      · cases z1
    · match i, z with
      | 0, z =>
        have z' : (("__class__" : Str)) = y := Option.some.inj z
        subst z'
        exact ⟨cc, by simp [List.lookup], fun v q => by cases q⟩
      | i + 1, z => cases z
  refine ks_codeAny_call_defAt hr.depth (KX _ _ lk) rfl lim (PySem.W.codeRec_of KX D.code) rfl hb (fun x hx => S.nocell x hx) (fun ⟨n, _⟩ hy => S.par n (List.of_mem_zip hy).1) (fun h₀ hns kp => ?_) S.co S.gen S.kind
  obtain ⟨a, vr, t, tr, ev, ea, ha, hrest, hq⟩ := hbody A outer s H vs Q E (hr.deeper _) hsp
  have I := inv_startN (CX := L2.CX P w) (P := P) (w := w) (mg := mg) (E := E) (f := f) (F := iF qual params (supS e es p0 p1 p2 p3 p4 :: rest) scope cc cda) (N := Nm) (tk := s.toks + (ps.zip us).length) S hr.hd e0 hl r CA hns kp
  have hs0 : (startF Nm vs [none])[0]? = some (some (.ref a)) := by rw [ev]; rfl
  refine ks_wpAt_execs_cons ?_
  refine run_super (outer := outer) (s0 := s) (H0 := H) (E := E) D S hfile htop hg hms har h0 hv0 I hs0 ea ha (fun u hu => ?_) (he _) (hpl _) (hcl _)
  obtain ⟨ws, z1, z2, z3⟩ := hq u hu
  refine z2 _ ⟨z1, rfl, fun s' J => ?_⟩
  refine wpAt_of_wpAny ?_
  refine wpAny_mono (hrest.run [] s' _ _ _ J z3) (fun fl s'' hs => ?_) fun er s'' hs => hs
  cases fl with
  | ret v => obtain ⟨v', σ', H', J', rv, q⟩ := hs; exact ⟨v', H', J'.os, J'.bare, J'.base, J'.hok, rv, q⟩
  | next => obtain ⟨σ', H', J', q⟩ := hs; exact ⟨.non, H', J'.os, J'.bare, J'.base, J'.hok, rfl, q⟩
  | brk => obtain ⟨_, _, _, q⟩ := hs; exact False.elim q
  | cont => obtain ⟨_, _, _, q⟩ := hs; exact False.elim q
end
end N

namespace N
open PySem PySem.Spec PySem.HandSPX
section
variable {M : Model} {prog : Program} {w : World} {A : Around} {E : Value → Shared → Prop} {R : Result → Shared → Prop} {h : Heap} {g : Array GenState} {d : Drawn} {t : Nat} {os : OsState}
variable {nm q : Str} {C Na : Addr} {bs bm bmB : List Value} {hdct : Bool} {sn : List Str} {sub : List Value} {ab : Bool} {col : Option Bool} {dd : Option Addr} {k0 k1 k2 k3 k5 : Option Value} {B newId initId : String} {xs : List Value} {kw : List (Str × Value)}
/-- C(.., n=e): the same with names -/
theorem chkK (B0 : ExcBaseFacts B newId initId bmB) (hT : ∀ X : String, bm.contains (.type X) = bmB.contains (.type X)) {Q : Unit → Shared → Prop}
    (hC : h.get? C = some (excClassObj nm q C Na bs bm hdct sn sub ab col dd k0 k1 k2 k3 k5 newId)) (hq : Q () ⟨h, g, d, t, os⟩) : wpAny M A (checkBuiltinCall newId ⟨.ref C :: xs, kw⟩) Q E ⟨h, g, d, t, os⟩ := by
  have z1 : (Value.ref C :: bm).contains (.type B) = true := by rw [List.contains_cons, hT B]; exact (congrArg _ B0.hasB).trans (Bool.or_true _)
  have z2 := B0.noStar
  simp only [checkBuiltinCall, B0.newKind, B0.newSplit, B0.newRow]
  repeat (first | refine wpAny_loadPart_at hC ?_ | (refine wpAny_isSubtype_exc hC ?_; rw [z1]) | refine wpAny_staticBase_exc hC ?_ | refine wpAny_madeBy_exc hC ?_ | (simp only [bne_self_eq_false, Bool.false_eq_true, if_false]) | wp_step)
  exact hq
theorem newK (B0 : ExcBaseFacts B newId initId bmB) (hT : ∀ X : String, bm.contains (.type X) = bmB.contains (.type X))
    (hC : h.get? C = some (excClassObj nm q C Na bs bm hdct sn sub ab col dd k0 k1 k2 k3 k5 newId))
    (hq : R (.ok (.ret (.ref (h.objs.size + 1)))) ⟨(h.push (PySem.W.kdv_tup xs)).push (excO C h.objs.size), g, d, t, os⟩) (hz : xs.length ≤ sizeLine) :
    codeAny (model prog w) A (.builtin newId ⟨.ref C :: xs, kw⟩) R ⟨h, g, d, t, os⟩ := by
  have z0 := B0.ends
  have z1 : (Value.ref C :: bm).contains (.type B) = true := by rw [List.contains_cons, hT B]; exact (congrArg _ B0.hasB).trans (Bool.or_true _)
  have z2 : (Value.ref C :: bm).contains (.type "AttributeError") = false := by rw [List.contains_cons, hT _]; exact (congrArg _ B0.noAttr).trans rfl
  have z3 : (Value.ref C :: bm).contains (.type "NameError") = false := by rw [List.contains_cons, hT _]; exact (congrArg _ B0.noName).trans rfl
  refine codeAny_builtinAt B0.entry ?_
  unfold Builtin.«BaseException.__new__»
  refine wpAt_bind ?_
  show wpAt _ _ _ (stack >>= _) _ _ _
  refine wpAt_bind (wpAt_stack fun p below => PySem.wpAt_of_wpAny ?_)
  wp_walk
  refine PySem.wpAt_of_wpAny ?_
  rw [B0.owner]
  repeat (first | with_reducible refine wpAny_madeHere_exc B0.canon hC ?_ | with_reducible refine wpAny_loadPart_at hC ?_ | (with_reducible refine wpAny_isSubtype_exc hC ?_; first | rw [z1] | rw [z2] | rw [z3]) | wp_step)
  show R _ _
  rw [Heap.size_push]
  exact hq
theorem chkT (hC : h.get? C = some (excClassObj nm q C Na bs bm hdct sn sub ab col dd k0 k1 k2 k3 k5 newId)) {Q : Unit → Shared → Prop}
    (hq : Q () ⟨h, g, d, t, os⟩) : wpAny M A (checkBuiltinCall "type.__call__" ⟨.ref C :: xs, kw⟩) Q E ⟨h, g, d, t, os⟩ := by
  have z3 := tc_sub
  have z4 : (⟨h, g, d, t, os⟩ : Shared).TypeIs (.ref C) "type" := ⟨_, hC, rfl⟩
  simp only [checkBuiltinCall, tc_kind, tc_split]
  repeat (any_goals (first | assumption | with_reducible refine wpAny_loadPart_at hC ?_ | with_reducible refine wpAny_onRaise ?_ | with_reducible refine wpAny_map ?_ | wp_step))
theorem typeK (B0 : ExcBaseFacts B newId initId bmB) (hT : ∀ X : String, bm.contains (.type X) = bmB.contains (.type X)) {fI : Addr} {Q : PySem.Fin → Shared → Prop}
    (hC : h.get? C = some (excClassObj nm q C Na bs bm hdct sn sub ab col dd k0 k1 k2 k3 k5 newId)) (hz : xs.length ≤ sizeLine)
    (hi : W.Looks (model prog w) h (typeLookup (.ref C) "__init__") (some (.ref fI))) (hb : ∀ self, W.Looks (model prog w) h (bindSpecial (.ref fI) self) (.ref fI, [self]))
    (hq : codeAny (model prog w) A (.call (.ref fI) ⟨.ref (h.objs.size + 1) :: xs, kw⟩)
      (fun r s' => match r with | .ok (.ret v) => v = .none ∧ Q (.done (.ret (.ref (h.objs.size + 1)))) s' | .ok _ => False | .error e => E e s')
      ⟨(h.push (PySem.W.kdv_tup xs)).push (excO C h.objs.size), g, d, t, os⟩) :
    wpAny (model prog w) A (Builtin.«type.__call__» ⟨.ref C :: xs, kw⟩) Q E ⟨h, g, d, t, os⟩ := by
  repeat (first | with_reducible refine wpAny_loadPart_at hC ?_ | with_reducible refine wpAny_madeBy_exc hC ?_ | wp_step)
  refine codeAny_call_builtin_code (Code.quiet_builtin _ B0.quiet) (chkK B0 hT hC ?_)
  refine newK B0 hT hC ?_ hz
  show wpAny _ _ _ _ _ _
  have k : ∀ b o, h.get? b = some o → ((h.push (PySem.W.kdv_tup xs)).push (excO C h.objs.size)).get? b = some o := fun b o z => Heap.get?_push_of_some _ (Heap.get?_push_of_some _ z)
  have y1 := k _ _ hC
  have y2 : ((h.push (PySem.W.kdv_tup xs)).push (excO C h.objs.size)).get? (h.objs.size + 1) = some (excO C h.objs.size) := by heap_get
  have y3 : (Value.ref C :: bm).contains (.ref C) = true := by simp
  have y4 := hi.keeps k
  have y5 := (hb (.ref (h.objs.size + 1))).keeps k
  unfold isInstance
  repeat (first | with_reducible refine wpAny_loadPart_at y2 ?_ | (with_reducible refine wpAny_isSubtype_exc y1 ?_; rw [y3]) | wp_step)
  show wpAny _ _ (typeLookup (.ref C) _) _ _ _
  refine y4.at ?_
  refine wpAny_holding (wpAny_bind (y5.at ?_))
  refine wpAny_bind (wpAny_call (codeAny_mono hq fun r s' z => ?_))
  match r, z with
  | .error e, z => exact z
  | .ok (.ret v), z =>
    obtain ⟨rfl, z⟩ := z
    first
      | exact wpAny_pure (wpAny_pure z)
      | (wp_walk; exact z)
theorem callK (B0 : ExcBaseFacts B newId initId bmB) (hT : ∀ X : String, bm.contains (.type X) = bmB.contains (.type X)) {fI : Addr}
    (hC : h.get? C = some (excClassObj nm q C Na bs bm hdct sn sub ab col dd k0 k1 k2 k3 k5 newId)) (hz : xs.length ≤ sizeLine)
    (hi : W.Looks (model prog w) h (typeLookup (.ref C) "__init__") (some (.ref fI))) (hb : ∀ self, W.Looks (model prog w) h (bindSpecial (.ref fI) self) (.ref fI, [self]))
    (hq : codeAny (model prog w) (A.under (.builtin "type.__call__" ⟨.ref C :: xs, kw⟩)) (.call (.ref fI) ⟨.ref (h.objs.size + 1) :: xs, kw⟩) (W.InitBack (h.objs.size + 1) R)
      ⟨(h.push (PySem.W.kdv_tup xs)).push (excO C h.objs.size), g, d, t, os⟩) :
    codeAny (model prog w) A (.call (.ref C) ⟨xs, kw⟩) R ⟨h, g, d, t, os⟩ := by
  have z1 := tc_lookup
  have z2 := tc_bind (.ref C)
  have z3 : (⟨h, g, d, t, os⟩ : Shared).TypeIs (.ref C) "type" := ⟨_, hC, rfl⟩
  refine codeAny_of_tree ?_
  show wpAny _ _ (callAny (.ref C) _) _ _ _
  repeat (any_goals (first | assumption | with_reducible refine wpAny_loadPart_at hC ?_ | wp_step))
  refine ⟨rfl, ?_⟩
  refine codeAny_call_builtin_at (Code.quiet_builtin _ (by decide +kernel)) entry_typeCall (chkT hC (typeK B0 hT hC hz hi hb ?_))
  refine codeAny_mono hq fun r s' z => ?_
  match r, z with
  | .error e, z => exact z
  | .ok (.ret v), z => exact z
end
end N

namespace N
open PySem PySem.Spec PyProof.Rows L2
theorem RoomG.made {k : Nat} {A : Around} (r : RoomG (k + 1) A) (C : Addr) (us : List Value) (kw : List (Str × Value)) : RoomG k (A.under (.builtin "type.__call__" ⟨.ref C :: us, kw⟩)) :=
  ⟨r.toRoom.make C us kw, (by show pushGuards (Code.builtin "type.__call__" ⟨.ref C :: us, kw⟩).guards A.guards = some []; rw [r.gs]; rfl)⟩
/-- what is needed of a class with an own __init__ -/
structure OwnC (P : Program) (w : World) (K : PySem.W.Frag) (mg : Str → Option Value) (base : Heap) (k : Nat) (x : Str) (C : Addr) (fI : Addr) (fd : FuncData) (ps : List Str) (sp : Sp) : Prop where
  gl : mg x = some (.ref C)
  ox : OexC K C
  ini : PySem.W.findIn K (.ref C) "__init__" = some (some (.ref fI))
  tyf : PySem.W.typeIn K (.ref fI) = some (.type "function")
  fn : FnG P w K mg base (L2.CX P w) k fI fd ps sp
section
variable {X : Cx} {k n : Nat} {fI C : Addr} {fd : FuncData} {ps ks : List Str} {sp : Sp} {x : Str} {p pos : Pos} {e : Expr} {es : List Expr} {kws : List Keyword} {t tk : TA} {g : List Value → List Value → List Value} {gV : List V → List V → List V}
theorem run_own {pins : List (Addr × Obj)} {σ : L2.St} {H : Hp} {s : Shared} {Q : VK} {us ws : List Value} {vs zs : List V} (T : OwnC X.prog X.w X.K X.mg X.base k x C fI fd ps sp) (hr : RoomG (k + 1) X.A) (hb : KBn X.K fd ps (n + 1) ks g gV)
    (I : Inv X pins σ H s) (r : Vals vs us) (rz : Vals zs ws) (l1 : vs.length = n) (l2 : zs.length = ks.length) (hz : n ≤ 1000)
    (h : ∀ a, H a = none → sp (gV (.ref a :: vs) zs) (upd H a (exo a C none)) (fun v H2 => v = .non ∧ Q (.ref a) H2) E0) :
    wpAny (model X.prog X.w) X.A (call (.ref C) us (ks.zip ws)) (EP X pins σ Q) X.xe s := by
  obtain ⟨nm, q, Na, bs, bm, sn, sub, ab, col, dd, k0, k1, k2, k3, k5, hC, hbm⟩ := T.ox.cls
  obtain ⟨hp, gg, dr, tk, os⟩ := s
  have lt : hp.objs.size ≤ hp.objs.size + 1 := Nat.le_succ _
  have hn : H (hp.objs.size + 1) = none := I.hok.fresh lt
  have hq := h (hp.objs.size + 1) hn
  have kk : ∀ b o, hp.get? b = some o → ((hp.push (PySem.W.kdv_tup us)).push (PySem.HandSPX.excO C hp.objs.size)).get? b = some o := fun b o z => Heap.get?_push_of_some _ (Heap.get?_push_of_some _ z)
  have hg : ((hp.push (PySem.W.kdv_tup us)).push (PySem.HandSPX.excO C hp.objs.size)).get? (hp.objs.size + 1) = some (PySem.HandSPX.excO C hp.objs.size) := by heap_get
  have I2 : Inv X pins σ (upd H (hp.objs.size + 1) (exo (hp.objs.size + 1) C none)) ⟨(hp.push (PySem.W.kdv_tup us)).push (PySem.HandSPX.excO C hp.objs.size), gg, dr, tk, os⟩ :=
    I.laid (t' := tk) (a := hp.objs.size + 1) (o := exo (hp.objs.size + 1) C none) kk lt (exo_ok hg)
  have r1 : Vals (V.ref (hp.objs.size + 1) :: vs) (Value.ref (hp.objs.size + 1) :: us) := .cons rfl r
  have r2 := hb.rel r1 rz
  have n1 : (Value.ref (hp.objs.size + 1) :: us).length = n + 1 := by
    rw [List.length_cons, ← r.length, l1]
  have hus : us.length ≤ sizeLine := by
    rw [← r.length, sizeLine_eq]
    omega
  refine wpAny_call (callK PySem.F.excBase_ValueError (fun Y => PySem.HandSPX.refsVE_contains Y bm hbm) (I.kIn _ _ hC) hus (PySem.W.looks_findIn I.kIn T.ini) (fun self => PySem.W.bind_fn I.kIn self T.tyf)
    (codeAny_mono (T.fn.run _ X.stack _ _ ⟨Value.ref (hp.objs.size + 1) :: us, ks.zip ws⟩ (g (Value.ref (hp.objs.size + 1) :: us) ws) _ _ E0 (hr.made C us (ks.zip ws)) (I2.env0.make C us (ks.zip ws))
      (hb.to _ (Value.ref (hp.objs.size + 1) :: us) ws I2.kIn n1 (rz.length.symm.trans l2)) r2 hq) fun r s' hq' => ?_))
  match r, hq' with
  | .error er, hq' => exact passL pins σ _ _ er s' I2 hq'
  | .ok (.ret u), hq' =>
    obtain ⟨v, H', I3, rv, ev, q3⟩ := I2.after hq'
    subst ev
    exact ⟨rv, ⟨V.ref (hp.objs.size + 1), H', I3, rfl, q3⟩⟩
/-- C(e, ..) as a value -/
theorem pe_own (T : OwnC X.prog X.w X.K X.mg X.base k x C fI fd ps sp) (hr : RoomG (k + 1) X.A) (hb : KBn X.K fd ps (n + 1) [] g gV) (hz : n ≤ 1000) (hg : Gl X x) (ha : PA X (e :: es) t) (hdb : (x == ("__debug__" : Str)) = false := by decide)
    (he : starEach (e :: es) X.env = (false, eval e X.env) :: starEach es X.env := by rfl) (hpl : (backTo pos (starEach es X.env)).any (·.1) = false := by rfl) :
    PE X (.Call (.Name x p) (e :: es) [] pos) (fun σ H Q => t σ H fun vs H1 => vs.length = n ∧ ∀ a, H1 a = none → sp (gV (.ref a :: vs) []) (upd H1 a (exo a C none)) (fun v H2 => v = .non ∧ Q (.ref a) H2) E0) := by
  refine ⟨fun pins s σ H Q I h => wpAny_Call_Name_kw (ld_glob I hg T.gl ?_ hdb)⟩
  refine PySem.W.callWith_K (h₀ := X.base) I.ok.mod.kin T.ox.kC (thn (ha.run pos pins s σ H _ I h) fun us s1 ⟨vs, H1, J, r, l, q⟩ => ⟨J.kIn, ?_⟩) he hpl
  exact run_own (ks := []) (ws := []) (zs := []) T hr hb J r .nil l rfl hz q
/-- C(n=e, ..) as a value -/
theorem pe_ownK (T : OwnC X.prog X.w X.K X.mg X.base k x C fI fd ps sp) (hr : RoomG (k + 1) X.A) (hb : KBn X.K fd ps 1 ks g gV) (hg : Gl X x) (hkw : PK X kws tk)
    (hall : (backToKw pos (keywordEach kws X.env)).all (·.1.isSome) = true := by rfl) (hks : (backToKw pos (keywordEach kws X.env)).filterMap (·.1) = ks := by rfl) (hdb : (x == ("__debug__" : Str)) = false := by decide)
    (hpl : ((backTo pos (starEach [] X.env)).any (·.1) || (backToKw pos (keywordEach kws X.env)).any (·.1.isNone)) = false := by rfl) :
    PE X (.Call (.Name x p) [] kws pos) (fun σ H Q => tk σ H fun zs H1 => zs.length = ks.length ∧ ∀ a, H1 a = none → sp (gV [.ref a] zs) (upd H1 a (exo a C none)) (fun v H2 => v = .non ∧ Q (.ref a) H2) E0) := by
  refine ⟨fun pins s σ H Q I h => wpAny_Call_Name_kw (ld_glob I hg T.gl ?_ hdb)⟩
  refine PySem.W.callWith_KW0 (h₀ := X.base) I.ok.mod.kin T.ox.kC hall ?_ hpl
  refine thn (hkw.run pos pins s σ H _ I h) fun ws s2 ⟨zs, H2, J, rz, l2, q2⟩ => ⟨J.kIn, ?_⟩
  rw [hks]
  exact run_own (n := 0) (us := []) (vs := []) T hr hb J .nil rz rfl l2 (Nat.zero_le _) q2
end
end N

namespace N
open PySem PySem.Spec PyProof.Rows L2
section
variable {X : Cx}
/-- list.count of a flat item among flat items -/
def rCnt (K : PySem.W.Frag) : V → List V → Hp → VK → Prop := fun x xs H Q => ∃ (p : Addr) (ys : List V) (y : V), x = .ref p ∧ xs = [y] ∧ SqL K H p ys ∧ flatV y = true ∧ ys.all flatV = true ∧ Q (.int ((ys.countP fun z => eqV z y : Nat))) H
theorem count_of {y : V} : ∀ {ys : List V} {us : List Value}, Vals ys us → ys.all flatV = true → us.countP (eqU y) = ys.countP fun z => eqV z y
  | _, _, .nil, _ => rfl
  | z :: ys, _, .cons r t, h => by
    rw [List.all_cons, Bool.and_eq_true] at h
    rw [List.countP_cons, List.countP_cons, count_of t h.2, eqU_of r h.1]
theorem mt_cnt : MtR X "list.count" (rCnt X.K) := by
  intro pins s σ H x xs v us Q I rx rxs h
  obtain ⟨p, ys, y, rfl, rfl, hs, fy, fys, q⟩ := h
  cases rx
  obtain ⟨uy, rfl, ry⟩ := rxs.one
  obtain ⟨its, rv, ⟨⟨cls, dd, data, sl⟩, n, ho, hc, hdn, hd⟩, hlen⟩ := I.list hs
  simp only at hc hd
  subst hc hd
  refine call_meets PySem.F.slot_list_count ⟨_, ho, rfl⟩ PySem.F.entry_list_count (PySem.F.args_list_count_2 _ _)
    (SeqAt.list_countAt p its.toArray n dd sl uy (eqU y)) ⟨ho, fun u' hu' => mem_eqAt ry fy rv fys u' (by simpa using hu'), ?_⟩
  have ec : its.toArray.toList.countP (eqU y) = ys.countP fun z => eqV z y := count_of rv fys
  refine ⟨.int ((ys.countP fun z => eqV z y : Nat)), H, I.tok _, ⟨s.toks, ?_⟩, q⟩
  show Value.int ((its.toArray.toList.countP (eqU y) : Nat) : Int) s.toks = _
  rw [ec]
end
end N

namespace N
open PySem PySem.Spec PyProof.Rows L2
/-! ### the eighteen classes, and word -/
def exA : List Str := ["NoType", "NoValues", "NoText", "NoClass", "NoTable", "NoName", "NoMost", "NoRoots", "NoRoot", "NoDeed"]
def exB : List Str := ["TooMany", "Crowded", "NothingDone", "Unfit", "Looped", "Turned", "Endless", "Clash"]
def exN (j : Nat) : Str := (exA ++ exB).getD j ""
structure Kls (K : PySem.W.Frag) (mg : Str → Option Value) (c : Nat → Addr) : Prop where
  gl : ∀ j, j < 18 → mg (exN j) = some (.ref (c j))
  ex : ∀ j, j < 18 → ExcC K (c j)
  kit : ∀ i j, i < 18 → j < 18 → PySem.W.kitOne K (.ref (c i)) (.ref (c j)) = some (decide (i = j))
  ve : ∀ i, i < 18 → PySem.W.kitOne K (.ref (c i)) (.type "ValueError") = some true
  ke : ∃ e, mg "KindError" = some (.ref e) ∧ ∀ i, i < 18 → PySem.W.kitOne K (.ref (c i)) (.ref e) = some true
section
variable {P : Program} {w : World} {K : PySem.W.Frag} {mg : Str → Option Value} {base : Heap} {c : Nat → Addr}
theorem isx_q (Kl : Kls K mg c) {H : Hp} {v : V} {i : Nat} {fs : List (Str × V)} (j : Nat) {Q : VK} (hx : ExP H v (c i) fs) (hi : i < 18) (q : Q (.bl (decide (i = j))) H) (hj : j < 18 := by decide) : rIsX K [v, .ref (c j)] H Q :=
  ⟨v, .ref (c j), c i, fs, .ref (c j), _, rfl, hx, Kl.ex i hi, fun u r => r, Kl.kit i j hi hj, q⟩
def mks (i : Nat) : List V := (List.range 18).map fun j => V.bl (decide (i = j))
theorem mks_cnt : ∀ i, i < 18 → (mks i).countP (fun z => eqV z (.bl true)) = 1 := by decide +kernel
theorem mks_at : ∀ i, i < 18 → (mks i)[i]? = some (.bl true) := by
  intro i hi
  unfold mks
  rw [List.getElem?_map, List.getElem?_range hi]
  simp
theorem mks_no : ∀ (i m : Nat) (z : V), i < 18 → m < i → (mks i)[m]? = some z → eqV z (.bl true) = false := by
  intro i m z hi hm h
  unfold mks at h
  rw [List.getElem?_map, List.getElem?_range (by omega)] at h
  cases h
  show eqV (V.bl (decide (i = m))) (.bl true) = false
  rw [decide_eq_false (by omega : ¬ i = m)]
  rfl
theorem mks_flat : ∀ i, i < 18 → (mks i).all flatV = true := by decide +kernel
theorem nm_at : ∀ i, i < 18 → ((exA ++ exB).map V.str)[i]? = some (.str (exN i)) := by
  intro i hi
  rw [List.getElem?_map]
  unfold exN
  rw [List.getD_eq_getElem?_getD, List.getElem?_eq_getElem (show i < (exA ++ exB).length from hi)]
  rfl
/-- word: the name of e's class -/
def spWord (K : PySem.W.Frag) (c : Nat → Addr) : Sp := fun vs H Q _ => ∃ (v : V) (i : Nat) (fs : List (Str × V)), vs = [v] ∧ i < 18 ∧ ExP H v (c i) fs ∧ ∀ H', Same H H' → Q (.str (exN i)) H'
theorem ok_word (G : Glo mg) (Kl : Kls K mg c) (hve : mg "ValueError" = none) (D : DefAt K mg "_law_word" s_Lword ["_law_e"]) : Cal P w K mg base 1 "_law_word" ["_law_e"] (spWord K c) := by
  refine D.cal sc_Lword (fun vs H Q E h => ?_) (fun f cdv A outer s H vs Q E hr h => ?_)
  · obtain ⟨v, i, fs, rfl, _⟩ := h
    rfl
  obtain ⟨v, i, fs, rfl, hi, hx, q⟩ := h
  have g := Kl.gl
  refine ⟨_, (pss_cons (ps_set (i := 1) sc_Lword.nd rfl (Or.inl rfl) (pe_lst (pa_cons (pe_callB call_isX (by rfl) G.isinstance (by decide +kernel) (pa_cons (pv 0) (pa_cons (pe_glob (v := .ref (c 0)) (by rfl) (g 0 (by decide)) rfl) pa_nil))) (pa_cons (pe_callB call_isX (by rfl) G.isinstance (by decide +kernel) (pa_cons (pv 0) (pa_cons (pe_glob (v := .ref (c 1)) (by rfl) (g 1 (by decide)) rfl) pa_nil))) (pa_cons (pe_callB call_isX (by rfl) G.isinstance (by decide +kernel) (pa_cons (pv 0) (pa_cons (pe_glob (v := .ref (c 2)) (by rfl) (g 2 (by decide)) rfl) pa_nil))) (pa_cons (pe_callB call_isX (by rfl) G.isinstance (by decide +kernel) (pa_cons (pv 0) (pa_cons (pe_glob (v := .ref (c 3)) (by rfl) (g 3 (by decide)) rfl) pa_nil))) pa_nil))))))
    (pss_cons (ps_set (i := 1) sc_Lword.nd rfl (Or.inl rfl) (pe_op op_cat (pv 1) (pe_lst (pa_cons (pe_callB call_isX (by rfl) G.isinstance (by decide +kernel) (pa_cons (pv 0) (pa_cons (pe_glob (v := .ref (c 4)) (by rfl) (g 4 (by decide)) rfl) pa_nil))) (pa_cons (pe_callB call_isX (by rfl) G.isinstance (by decide +kernel) (pa_cons (pv 0) (pa_cons (pe_glob (v := .ref (c 5)) (by rfl) (g 5 (by decide)) rfl) pa_nil))) (pa_cons (pe_callB call_isX (by rfl) G.isinstance (by decide +kernel) (pa_cons (pv 0) (pa_cons (pe_glob (v := .ref (c 6)) (by rfl) (g 6 (by decide)) rfl) pa_nil))) (pa_cons (pe_callB call_isX (by rfl) G.isinstance (by decide +kernel) (pa_cons (pv 0) (pa_cons (pe_glob (v := .ref (c 7)) (by rfl) (g 7 (by decide)) rfl) pa_nil))) pa_nil)))))))
    (pss_cons (ps_set (i := 1) sc_Lword.nd rfl (Or.inl rfl) (pe_op op_cat (pv 1) (pe_lst (pa_cons (pe_callB call_isX (by rfl) G.isinstance (by decide +kernel) (pa_cons (pv 0) (pa_cons (pe_glob (v := .ref (c 8)) (by rfl) (g 8 (by decide)) rfl) pa_nil))) (pa_cons (pe_callB call_isX (by rfl) G.isinstance (by decide +kernel) (pa_cons (pv 0) (pa_cons (pe_glob (v := .ref (c 9)) (by rfl) (g 9 (by decide)) rfl) pa_nil))) (pa_cons (pe_callB call_isX (by rfl) G.isinstance (by decide +kernel) (pa_cons (pv 0) (pa_cons (pe_glob (v := .ref (c 10)) (by rfl) (g 10 (by decide)) rfl) pa_nil))) (pa_cons (pe_callB call_isX (by rfl) G.isinstance (by decide +kernel) (pa_cons (pv 0) (pa_cons (pe_glob (v := .ref (c 11)) (by rfl) (g 11 (by decide)) rfl) pa_nil))) pa_nil)))))))
    (pss_cons (ps_set (i := 1) sc_Lword.nd rfl (Or.inl rfl) (pe_op op_cat (pv 1) (pe_lst (pa_cons (pe_callB call_isX (by rfl) G.isinstance (by decide +kernel) (pa_cons (pv 0) (pa_cons (pe_glob (v := .ref (c 12)) (by rfl) (g 12 (by decide)) rfl) pa_nil))) (pa_cons (pe_callB call_isX (by rfl) G.isinstance (by decide +kernel) (pa_cons (pv 0) (pa_cons (pe_glob (v := .ref (c 13)) (by rfl) (g 13 (by decide)) rfl) pa_nil))) (pa_cons (pe_callB call_isX (by rfl) G.isinstance (by decide +kernel) (pa_cons (pv 0) (pa_cons (pe_glob (v := .ref (c 14)) (by rfl) (g 14 (by decide)) rfl) pa_nil))) (pa_cons (pe_callB call_isX (by rfl) G.isinstance (by decide +kernel) (pa_cons (pv 0) (pa_cons (pe_glob (v := .ref (c 15)) (by rfl) (g 15 (by decide)) rfl) pa_nil))) pa_nil)))))))
    (pss_cons (ps_set (i := 1) sc_Lword.nd rfl (Or.inl rfl) (pe_op op_cat (pv 1) (pe_lst (pa_cons (pe_callB call_isX (by rfl) G.isinstance (by decide +kernel) (pa_cons (pv 0) (pa_cons (pe_glob (v := .ref (c 16)) (by rfl) (g 16 (by decide)) rfl) pa_nil))) (pa_cons (pe_callB call_isX (by rfl) G.isinstance (by decide +kernel) (pa_cons (pv 0) (pa_cons (pe_glob (v := .ref (c 17)) (by rfl) (g 17 (by decide)) rfl) pa_nil))) pa_nil)))))
    (pss_cons (ps_set (i := 2) sc_Lword.nd rfl (Or.inl rfl) (pe_lst (pa_cons pe_str (pa_cons pe_str (pa_cons pe_str (pa_cons pe_str (pa_cons pe_str (pa_cons pe_str (pa_cons pe_str (pa_cons pe_str (pa_cons pe_str (pa_cons pe_str pa_nil))))))))))))
    (pss_cons (ps_set (i := 2) sc_Lword.nd rfl (Or.inl rfl) (pe_op op_cat (pv 2) (pe_lst (pa_cons pe_str (pa_cons pe_str (pa_cons pe_str (pa_cons pe_str (pa_cons pe_str (pa_cons pe_str (pa_cons pe_str (pa_cons pe_str pa_nil)))))))))))
    (pss_cons (ps_if (PW.pt (pw_or (pt_cmpR op_ne (pe_bm PySem.F.plainAttrs_list PySem.F.slot_list_count PySem.F.type_list_count mt_cnt (pv 1) (pa_cons pe_bl pa_nil)) pe_int (nomark _)) (pw_or1 (pt_not (pt_val (pe_callB call_isX (by rfl) G.isinstance (by decide +kernel) (pa_cons (pv 0) (pa_cons (pe_bltn (v := .ty "ValueError") (by rfl) hve (by decide +kernel) rfl) pa_nil)))))))) (pss_one (ps_ret pe_str)) pss_nil)
    (pss_one (ps_ret (pe_ix ix_list (pv 2) (pe_bm PySem.F.plainAttrs_list PySem.F.slot_list_index PySem.F.type_list_index mt_index (pv 1) (pa_cons pe_bl pa_nil)) (fun _ _ => rfl)))))))))))), ?_⟩
  have len : ∀ n, n ≤ 18 → n ≤ sizeLine := fun n h => by rw [sizeLine_eq]; omega
  refine ⟨v, rfl, v, .ref (c 0), c i, fs, .ref (c 0), _, rfl, hx, Kl.ex i hi, fun u r => r, Kl.kit i 0 hi (by decide), ⟨v, rfl, v, .ref (c 1), c i, fs, .ref (c 1), _, rfl, hx, Kl.ex i hi, fun u r => r, Kl.kit i 1 hi (by decide), ⟨v, rfl, v, .ref (c 2), c i, fs, .ref (c 2), _, rfl, hx, Kl.ex i hi, fun u r => r, Kl.kit i 2 hi (by decide), ⟨v, rfl, v, .ref (c 3), c i, fs, .ref (c 3), _, rfl, hx, Kl.ex i hi, fun u r => r, Kl.kit i 3 hi (by decide), ⟨len 4 (by decide), fun a1 h1 => ?_⟩⟩⟩⟩⟩
  have s1 : Same H (upd H a1 (.lst [V.bl (decide (i = 0)), V.bl (decide (i = 1)), V.bl (decide (i = 2)), V.bl (decide (i = 3))])) := same_new h1 _
  have l1 : (upd H a1 (.lst [V.bl (decide (i = 0)), V.bl (decide (i = 1)), V.bl (decide (i = 2)), V.bl (decide (i = 3))])) a1 = some (.lst [V.bl (decide (i = 0)), V.bl (decide (i = 1)), V.bl (decide (i = 2)), V.bl (decide (i = 3))]) := upd_same
  revert s1 l1
  generalize upd H a1 (.lst [V.bl (decide (i = 0)), V.bl (decide (i = 1)), V.bl (decide (i = 2)), V.bl (decide (i = 3))]) = H1
  intro s1 l1
  refine ⟨_, rfl, ⟨v, rfl, v, .ref (c 4), c i, fs, .ref (c 4), _, rfl, (hx.same s1), Kl.ex i hi, fun u r => r, Kl.kit i 4 hi (by decide), ⟨v, rfl, v, .ref (c 5), c i, fs, .ref (c 5), _, rfl, (hx.same s1), Kl.ex i hi, fun u r => r, Kl.kit i 5 hi (by decide), ⟨v, rfl, v, .ref (c 6), c i, fs, .ref (c 6), _, rfl, (hx.same s1), Kl.ex i hi, fun u r => r, Kl.kit i 6 hi (by decide), ⟨v, rfl, v, .ref (c 7), c i, fs, .ref (c 7), _, rfl, (hx.same s1), Kl.ex i hi, fun u r => r, Kl.kit i 7 hi (by decide), ⟨len 4 (by decide), fun b1 g1 => ?_⟩⟩⟩⟩⟩⟩
  refine ⟨a1, b1, _, _, rfl, rfl, same_new g1 _ _ _ l1, upd_same, len 8 (by decide), fun a2 h2 => ?_⟩
  have s2 : Same H (upd (upd H1 b1 (.lst [V.bl (decide (i = 4)), V.bl (decide (i = 5)), V.bl (decide (i = 6)), V.bl (decide (i = 7))])) a2 (.lst ([V.bl (decide (i = 0)), V.bl (decide (i = 1)), V.bl (decide (i = 2)), V.bl (decide (i = 3))] ++ [V.bl (decide (i = 4)), V.bl (decide (i = 5)), V.bl (decide (i = 6)), V.bl (decide (i = 7))]))) := (s1.trans (same_new g1 _)).trans (same_new h2 _)
  have l2 : (upd (upd H1 b1 (.lst [V.bl (decide (i = 4)), V.bl (decide (i = 5)), V.bl (decide (i = 6)), V.bl (decide (i = 7))])) a2 (.lst ([V.bl (decide (i = 0)), V.bl (decide (i = 1)), V.bl (decide (i = 2)), V.bl (decide (i = 3))] ++ [V.bl (decide (i = 4)), V.bl (decide (i = 5)), V.bl (decide (i = 6)), V.bl (decide (i = 7))]))) a2 = some (.lst ([V.bl (decide (i = 0)), V.bl (decide (i = 1)), V.bl (decide (i = 2)), V.bl (decide (i = 3))] ++ [V.bl (decide (i = 4)), V.bl (decide (i = 5)), V.bl (decide (i = 6)), V.bl (decide (i = 7))])) := upd_same
  revert s2 l2
  generalize (upd (upd H1 b1 (.lst [V.bl (decide (i = 4)), V.bl (decide (i = 5)), V.bl (decide (i = 6)), V.bl (decide (i = 7))])) a2 (.lst ([V.bl (decide (i = 0)), V.bl (decide (i = 1)), V.bl (decide (i = 2)), V.bl (decide (i = 3))] ++ [V.bl (decide (i = 4)), V.bl (decide (i = 5)), V.bl (decide (i = 6)), V.bl (decide (i = 7))]))) = H2
  intro s2 l2
  refine ⟨_, rfl, ⟨v, rfl, v, .ref (c 8), c i, fs, .ref (c 8), _, rfl, (hx.same s2), Kl.ex i hi, fun u r => r, Kl.kit i 8 hi (by decide), ⟨v, rfl, v, .ref (c 9), c i, fs, .ref (c 9), _, rfl, (hx.same s2), Kl.ex i hi, fun u r => r, Kl.kit i 9 hi (by decide), ⟨v, rfl, v, .ref (c 10), c i, fs, .ref (c 10), _, rfl, (hx.same s2), Kl.ex i hi, fun u r => r, Kl.kit i 10 hi (by decide), ⟨v, rfl, v, .ref (c 11), c i, fs, .ref (c 11), _, rfl, (hx.same s2), Kl.ex i hi, fun u r => r, Kl.kit i 11 hi (by decide), ⟨len 4 (by decide), fun b2 g2 => ?_⟩⟩⟩⟩⟩⟩
  refine ⟨a2, b2, _, _, rfl, rfl, same_new g2 _ _ _ l2, upd_same, len 12 (by decide), fun a3 h3 => ?_⟩
  have s3 : Same H (upd (upd H2 b2 (.lst [V.bl (decide (i = 8)), V.bl (decide (i = 9)), V.bl (decide (i = 10)), V.bl (decide (i = 11))])) a3 (.lst (([V.bl (decide (i = 0)), V.bl (decide (i = 1)), V.bl (decide (i = 2)), V.bl (decide (i = 3))] ++ [V.bl (decide (i = 4)), V.bl (decide (i = 5)), V.bl (decide (i = 6)), V.bl (decide (i = 7))]) ++ [V.bl (decide (i = 8)), V.bl (decide (i = 9)), V.bl (decide (i = 10)), V.bl (decide (i = 11))]))) := (s2.trans (same_new g2 _)).trans (same_new h3 _)
  have l3 : (upd (upd H2 b2 (.lst [V.bl (decide (i = 8)), V.bl (decide (i = 9)), V.bl (decide (i = 10)), V.bl (decide (i = 11))])) a3 (.lst (([V.bl (decide (i = 0)), V.bl (decide (i = 1)), V.bl (decide (i = 2)), V.bl (decide (i = 3))] ++ [V.bl (decide (i = 4)), V.bl (decide (i = 5)), V.bl (decide (i = 6)), V.bl (decide (i = 7))]) ++ [V.bl (decide (i = 8)), V.bl (decide (i = 9)), V.bl (decide (i = 10)), V.bl (decide (i = 11))]))) a3 = some (.lst (([V.bl (decide (i = 0)), V.bl (decide (i = 1)), V.bl (decide (i = 2)), V.bl (decide (i = 3))] ++ [V.bl (decide (i = 4)), V.bl (decide (i = 5)), V.bl (decide (i = 6)), V.bl (decide (i = 7))]) ++ [V.bl (decide (i = 8)), V.bl (decide (i = 9)), V.bl (decide (i = 10)), V.bl (decide (i = 11))])) := upd_same
  revert s3 l3
  generalize (upd (upd H2 b2 (.lst [V.bl (decide (i = 8)), V.bl (decide (i = 9)), V.bl (decide (i = 10)), V.bl (decide (i = 11))])) a3 (.lst (([V.bl (decide (i = 0)), V.bl (decide (i = 1)), V.bl (decide (i = 2)), V.bl (decide (i = 3))] ++ [V.bl (decide (i = 4)), V.bl (decide (i = 5)), V.bl (decide (i = 6)), V.bl (decide (i = 7))]) ++ [V.bl (decide (i = 8)), V.bl (decide (i = 9)), V.bl (decide (i = 10)), V.bl (decide (i = 11))]))) = H3
  intro s3 l3
  refine ⟨_, rfl, ⟨v, rfl, v, .ref (c 12), c i, fs, .ref (c 12), _, rfl, (hx.same s3), Kl.ex i hi, fun u r => r, Kl.kit i 12 hi (by decide), ⟨v, rfl, v, .ref (c 13), c i, fs, .ref (c 13), _, rfl, (hx.same s3), Kl.ex i hi, fun u r => r, Kl.kit i 13 hi (by decide), ⟨v, rfl, v, .ref (c 14), c i, fs, .ref (c 14), _, rfl, (hx.same s3), Kl.ex i hi, fun u r => r, Kl.kit i 14 hi (by decide), ⟨v, rfl, v, .ref (c 15), c i, fs, .ref (c 15), _, rfl, (hx.same s3), Kl.ex i hi, fun u r => r, Kl.kit i 15 hi (by decide), ⟨len 4 (by decide), fun b3 g3 => ?_⟩⟩⟩⟩⟩⟩
  refine ⟨a3, b3, _, _, rfl, rfl, same_new g3 _ _ _ l3, upd_same, len 16 (by decide), fun a4 h4 => ?_⟩
  have s4 : Same H (upd (upd H3 b3 (.lst [V.bl (decide (i = 12)), V.bl (decide (i = 13)), V.bl (decide (i = 14)), V.bl (decide (i = 15))])) a4 (.lst ((([V.bl (decide (i = 0)), V.bl (decide (i = 1)), V.bl (decide (i = 2)), V.bl (decide (i = 3))] ++ [V.bl (decide (i = 4)), V.bl (decide (i = 5)), V.bl (decide (i = 6)), V.bl (decide (i = 7))]) ++ [V.bl (decide (i = 8)), V.bl (decide (i = 9)), V.bl (decide (i = 10)), V.bl (decide (i = 11))]) ++ [V.bl (decide (i = 12)), V.bl (decide (i = 13)), V.bl (decide (i = 14)), V.bl (decide (i = 15))]))) := (s3.trans (same_new g3 _)).trans (same_new h4 _)
  have l4 : (upd (upd H3 b3 (.lst [V.bl (decide (i = 12)), V.bl (decide (i = 13)), V.bl (decide (i = 14)), V.bl (decide (i = 15))])) a4 (.lst ((([V.bl (decide (i = 0)), V.bl (decide (i = 1)), V.bl (decide (i = 2)), V.bl (decide (i = 3))] ++ [V.bl (decide (i = 4)), V.bl (decide (i = 5)), V.bl (decide (i = 6)), V.bl (decide (i = 7))]) ++ [V.bl (decide (i = 8)), V.bl (decide (i = 9)), V.bl (decide (i = 10)), V.bl (decide (i = 11))]) ++ [V.bl (decide (i = 12)), V.bl (decide (i = 13)), V.bl (decide (i = 14)), V.bl (decide (i = 15))]))) a4 = some (.lst ((([V.bl (decide (i = 0)), V.bl (decide (i = 1)), V.bl (decide (i = 2)), V.bl (decide (i = 3))] ++ [V.bl (decide (i = 4)), V.bl (decide (i = 5)), V.bl (decide (i = 6)), V.bl (decide (i = 7))]) ++ [V.bl (decide (i = 8)), V.bl (decide (i = 9)), V.bl (decide (i = 10)), V.bl (decide (i = 11))]) ++ [V.bl (decide (i = 12)), V.bl (decide (i = 13)), V.bl (decide (i = 14)), V.bl (decide (i = 15))])) := upd_same
  revert s4 l4
  generalize (upd (upd H3 b3 (.lst [V.bl (decide (i = 12)), V.bl (decide (i = 13)), V.bl (decide (i = 14)), V.bl (decide (i = 15))])) a4 (.lst ((([V.bl (decide (i = 0)), V.bl (decide (i = 1)), V.bl (decide (i = 2)), V.bl (decide (i = 3))] ++ [V.bl (decide (i = 4)), V.bl (decide (i = 5)), V.bl (decide (i = 6)), V.bl (decide (i = 7))]) ++ [V.bl (decide (i = 8)), V.bl (decide (i = 9)), V.bl (decide (i = 10)), V.bl (decide (i = 11))]) ++ [V.bl (decide (i = 12)), V.bl (decide (i = 13)), V.bl (decide (i = 14)), V.bl (decide (i = 15))]))) = H4
  intro s4 l4
  refine ⟨_, rfl, ⟨v, rfl, v, .ref (c 16), c i, fs, .ref (c 16), _, rfl, (hx.same s4), Kl.ex i hi, fun u r => r, Kl.kit i 16 hi (by decide), ⟨v, rfl, v, .ref (c 17), c i, fs, .ref (c 17), _, rfl, (hx.same s4), Kl.ex i hi, fun u r => r, Kl.kit i 17 hi (by decide), ⟨len 2 (by decide), fun b4 g4 => ?_⟩⟩⟩⟩
  refine ⟨a4, b4, _, _, rfl, rfl, same_new g4 _ _ _ l4, upd_same, len 18 (by decide), fun a5 h5 => ?_⟩
  have s5 : Same H (upd (upd H4 b4 (.lst [V.bl (decide (i = 16)), V.bl (decide (i = 17))])) a5 (.lst (((([V.bl (decide (i = 0)), V.bl (decide (i = 1)), V.bl (decide (i = 2)), V.bl (decide (i = 3))] ++ [V.bl (decide (i = 4)), V.bl (decide (i = 5)), V.bl (decide (i = 6)), V.bl (decide (i = 7))]) ++ [V.bl (decide (i = 8)), V.bl (decide (i = 9)), V.bl (decide (i = 10)), V.bl (decide (i = 11))]) ++ [V.bl (decide (i = 12)), V.bl (decide (i = 13)), V.bl (decide (i = 14)), V.bl (decide (i = 15))]) ++ [V.bl (decide (i = 16)), V.bl (decide (i = 17))]))) := (s4.trans (same_new g4 _)).trans (same_new h5 _)
  have l5 : (upd (upd H4 b4 (.lst [V.bl (decide (i = 16)), V.bl (decide (i = 17))])) a5 (.lst (((([V.bl (decide (i = 0)), V.bl (decide (i = 1)), V.bl (decide (i = 2)), V.bl (decide (i = 3))] ++ [V.bl (decide (i = 4)), V.bl (decide (i = 5)), V.bl (decide (i = 6)), V.bl (decide (i = 7))]) ++ [V.bl (decide (i = 8)), V.bl (decide (i = 9)), V.bl (decide (i = 10)), V.bl (decide (i = 11))]) ++ [V.bl (decide (i = 12)), V.bl (decide (i = 13)), V.bl (decide (i = 14)), V.bl (decide (i = 15))]) ++ [V.bl (decide (i = 16)), V.bl (decide (i = 17))]))) a5 = some (.lst (((([V.bl (decide (i = 0)), V.bl (decide (i = 1)), V.bl (decide (i = 2)), V.bl (decide (i = 3))] ++ [V.bl (decide (i = 4)), V.bl (decide (i = 5)), V.bl (decide (i = 6)), V.bl (decide (i = 7))]) ++ [V.bl (decide (i = 8)), V.bl (decide (i = 9)), V.bl (decide (i = 10)), V.bl (decide (i = 11))]) ++ [V.bl (decide (i = 12)), V.bl (decide (i = 13)), V.bl (decide (i = 14)), V.bl (decide (i = 15))]) ++ [V.bl (decide (i = 16)), V.bl (decide (i = 17))])) := upd_same
  revert s5 l5
  generalize (upd (upd H4 b4 (.lst [V.bl (decide (i = 16)), V.bl (decide (i = 17))])) a5 (.lst (((([V.bl (decide (i = 0)), V.bl (decide (i = 1)), V.bl (decide (i = 2)), V.bl (decide (i = 3))] ++ [V.bl (decide (i = 4)), V.bl (decide (i = 5)), V.bl (decide (i = 6)), V.bl (decide (i = 7))]) ++ [V.bl (decide (i = 8)), V.bl (decide (i = 9)), V.bl (decide (i = 10)), V.bl (decide (i = 11))]) ++ [V.bl (decide (i = 12)), V.bl (decide (i = 13)), V.bl (decide (i = 14)), V.bl (decide (i = 15))]) ++ [V.bl (decide (i = 16)), V.bl (decide (i = 17))]))) = H5
  intro s5 l5
  refine ⟨len 10 (by decide), fun d1 e1 => ?_⟩
  refine ⟨_, rfl, len 8 (by decide), fun d2 e2 => ?_⟩
  refine ⟨d1, d2, _, _, rfl, rfl, same_new e2 _ _ _ upd_same, upd_same, len 18 (by decide), fun d3 e3 => ?_⟩
  have l6 := same_new e3 (.lst ((exA ++ exB).map V.str)) _ _ (same_new e2 (.lst (exB.map V.str)) _ _ (same_new e1 (.lst (exA.map V.str)) _ _ l5))
  have s6 := ((s5.trans (same_new e1 (.lst (exA.map V.str)))).trans (same_new e2 (.lst (exB.map V.str)))).trans (same_new e3 (.lst ((exA ++ exB).map V.str)))
  refine ⟨_, rfl, .inl ⟨rfl, _, SqL.of l6⟩, a5, mks i, .bl true, rfl, rfl, SqL.of l6, rfl, mks_flat i hi, ?_⟩
  rw [mks_cnt i hi]
  refine ⟨rfl, _, rfl, ite2 (fun z => absurd z (by decide)) (fun _ => ?_)⟩
  refine ⟨v, rfl, v, .ty "ValueError", c i, fs, .type "ValueError", _, rfl, hx.same s6, Kl.ex i hi, fun u r => r, Kl.ve i hi, _, rfl, ite2 (fun z => absurd z (by decide)) (fun _ => ?_)⟩
  refine ⟨_, rfl, _, rfl, .inl ⟨rfl, _, SqL.of l6⟩, a5, mks i, .bl true, i, .bl true, rfl, rfl, SqL.of l6, rfl, mks_flat i hi, mks_at i hi, rfl, fun m z hm hz => mks_no i m z hi hm hz, ?_⟩
  exact ⟨d3, _, _, _, rfl, rfl, SqL.of upd_same, atI_nat (nm_at i hi), q _ s6⟩
end
end N

namespace N
open PySem PySem.Spec PyProof.Rows L2
theorem rep_len : ∀ n, n < 20 → (⟨(List.replicate n ("x" : Str).cps).foldl (· ++ ·) #[]⟩ : Str).length ≤ 20 := by decide +kernel
section
variable {X : Cx}
/-- "x" * n, n small -/
theorem op_mulX : OpR X (binaryOp .Mult) (fun x y H Q => ∃ n : Nat, x = .str "x" ∧ y = .int (n : Nat) ∧ n < 20 ∧ ∀ z, Q (.str z) H) := by
  intro pins s σ H x y v u Q I rx ry h
  obtain ⟨n, rfl, rfl, hn, q⟩ := h
  obtain ⟨t, rfl⟩ := rx
  obtain ⟨t', rfl⟩ := ry
  have one : (("x" : Str)).length = 1 := by decide +kernel
  have rn : ((n : Nat) : Int).toNat = n := by omega
  refine PySem.P.mul_str ?_ (fun _ _ => ?_) (fun _ _ => ?_) ?_
  · rw [decide_eq_false (by omega), decide_eq_false (by omega)]; rfl
  · rw [one]
    have h1 : (n : Int) ≤ 2 ^ 63 - 1 := by omega
    intro z
    by_cases h0 : n = 0
    · subst h0
      omega
    · have : (1 : Int) ≤ (2 ^ 63 - 1) / ((n : Nat) : Int) := by
        rw [Int.le_ediv_iff_mul_le (by omega)]
        omega
      have z' : (1 : Int) > (2 ^ 63 - 1) / ((n : Nat) : Int) := z
      omega
  · rw [one, rn]
    exact notLongL (by rw [sizeLine_eq]; omega)
  · split
    · exact ⟨by decide, .str Str.empty, H, I.tok _, ⟨_, rfl⟩, q _⟩
    · split
      · exact ⟨.str "x", H, I, ⟨t, rfl⟩, q _⟩
      · rw [rn]
        exact ⟨Nat.le_trans (rep_len n hn) (by rw [sizeLine_eq]; omega), .str _, H, I.tok _, ⟨_, rfl⟩, q _⟩
end
/-! ### rows of exceptions without fields -/
section
variable {K : PySem.W.Frag} {c : Nat → Addr}
def Exs (c : Nat → Addr) (H : Hp) : List V → List Nat → Prop := Paired fun v i => ExP H v (c i) []
theorem Exs.same {H H' : Hp} {vs : List V} {is : List Nat} (s : Same H H') (h : Exs c H vs is) : Exs c H' vs is := Paired.mapP h fun _ _ z => z.same s
theorem Exs.app {H : Hp} : ∀ {vs ws : List V} {is js : List Nat}, Exs c H vs is → Exs c H ws js → Exs c H (vs ++ ws) (is ++ js)
  | _, _, _, _, .nil, b => b
  | _, _, _, _, .cons r t, b => .cons r (Exs.app t b)
theorem Exs.at {H : Hp} : ∀ {vs : List V} {is : List Nat} {k : Nat} {v : V}, Exs c H vs is → vs[k]? = some v → ∃ i, is[k]? = some i ∧ ExP H v (c i) []
  | _, _, k, v, .nil, h => by simp at h
  | _, _, 0, v, .cons r _, h => by
    simp at h
    subst h
    exact ⟨_, rfl, r⟩
  | _, _, k + 1, v, .cons _ t, h => by
    obtain ⟨i, e, r⟩ := Exs.at (k := k) (v := v) t (by simpa using h)
    exact ⟨i, by simpa using e, r⟩
/-- what the classes without fields keep -/
structure Bare (K : PySem.W.Frag) (c : Nat → Addr) : Prop where
  ex : ∀ i, i < 13 → PySem.W.excIn K (c i) veB "ValueError.__new__" = true
  kp : ∀ i, i < 13 → PySem.W.keepIn K (.ref (c i)) = true
/-- a row of new exceptions -/
def tEx (c : Nat → Addr) (is : List Nat) : TA := fun _ H Q => ∀ H' vs, Same H H' → Exs c H' vs is → Q vs H'
/-- .. made with what the name at j holds -/
def tExV (c : Nat → Addr) (j : Nat) (is : List Nat) : TA := fun σ H Q => (∃ v, σ[j]? = some (some v)) ∧ ∀ H' vs, Same H H' → Exs c H' vs is → Q vs H'
end
section
variable {X : Cx} {c : Nat → Addr} {es : List Expr} {t : TA} {is : List Nat} {i j : Nat} {p p2 pos : Pos} {x : Str}
theorem paImp {t' : TA} (h : PA X es t) (q : ∀ σ H Q, t' σ H Q → t σ H Q) : PA X es t' := ⟨fun pos pins s σ H Q I z => h.run pos pins s σ H Q I (q _ _ _ z)⟩
theorem pa_ex_nil : PA X [] (tEx c []) := paImp pa_nil fun σ H Q q => q H [] (Same.refl H) .nil
theorem pa_exv_nil : PA X [] (tExV c j []) := paImp pa_nil fun σ H Q q => q.2 H [] (Same.refl H) .nil
theorem pa_ex (Kl : Kls X.K X.mg c) (B : Bare X.K c) (i : Nat) (hi : i < 13) (hg : Gl X (exN i)) (ha : PA X es (tEx c is)) (hdb : (exN i == ("__debug__" : Str)) = false := by decide +kernel)
    (hst : starEach (.Call (.Name (exN i) p) [] [] pos :: es) X.env = (false, eval (.Call (.Name (exN i) p) [] [] pos) X.env) :: starEach es X.env := by rfl) :
    PA X (.Call (.Name (exN i) p) [] [] pos :: es) (tEx c (i :: is)) :=
  paImp (pa_cons (pe_ex0 (B.ex i hi) (Kl.gl i (by omega)) (B.kp i hi) hg hdb) ha hst) fun σ H Q q a hn H2 vs sm h => q H2 (.ref a :: vs) ((same_new hn _).trans sm) (.cons ⟨a, rfl, .inl ⟨sm _ _ upd_same, rfl⟩⟩ h)
theorem pa_exv (Kl : Kls X.K X.mg c) (B : Bare X.K c) (i : Nat) (hi : i < 13) (hg : Gl X (exN i)) (hv : PE X (.Name x p2) (tVar j)) (ha : PA X es (tExV c j is)) (hdb : (exN i == ("__debug__" : Str)) = false := by decide +kernel)
    (hst : starEach (.Call (.Name (exN i) p) [.Name x p2] [] pos :: es) X.env = (false, eval (.Call (.Name (exN i) p) [.Name x p2] [] pos) X.env) :: starEach es X.env := by rfl)
    (he : starEach [.Name x p2] X.env = (false, eval (.Name x p2) X.env) :: starEach [] X.env := by rfl) :
    PA X (.Call (.Name (exN i) p) [.Name x p2] [] pos :: es) (tExV c j (i :: is)) :=
  paImp (pa_cons (pe_exN (B.ex i hi) (Kl.gl i (by omega)) (B.kp i hi) hg (pa_cons hv pa_nil he) hdb he (by rfl)) ha hst) fun σ H Q q => by
    obtain ⟨⟨v, ev⟩, q⟩ := q
    exact ⟨v, ev, by show 1 ≤ sizeLine; decide, fun a hn => ⟨⟨v, ev⟩, fun H2 vs sm h => q H2 (.ref a :: vs) ((same_new hn _).trans sm) (.cons ⟨a, rfl, .inl ⟨sm _ _ upd_same, rfl⟩⟩ h)⟩⟩
end
end N

namespace N
open PySem PySem.Spec PyProof.Rows L2
section
variable {P : Program} {w : World} {K : PySem.W.Frag} {mg : Str → Option Value} {base : Heap} {c : Nat → Addr}
def ex13 : List Nat := [0, 1, 2, 3, 4, 5, 6, 7, 8, 9, 10, 11, 12]
def ex26 : List Nat := ex13 ++ ex13
theorem ex26_lt : ∀ k i : Nat, ex26[k]? = some i → i < 18 := by
  intro k i h
  have : ∀ i ∈ ex26, i < 18 := by decide
  exact this i (List.mem_of_getElem? h)
def nm26 : List V := ex26.map fun i => V.str (exN i)
theorem nm26_data : SeqAt.shaped (.list (ex26.map fun i => PyData.str (exN i))) = true ∧ PyData.eqv (.list (ex26.map fun i => PyData.str (exN i))) (.list (ex26.map fun i => PyData.str (exN i))) = true := by decide +kernel
theorem dp_nms {H : Hp} : ∀ is : List Nat, DpAll K H (is.map fun i => V.str (exN i)) (is.map fun i => PyData.str (exN i))
  | [] => .nil
  | i :: is => .cons (.str (exN i)) (dp_nms is)
theorem sameM {H H' : Hp} {p : Addr} {o : HO} (e : Same H H') (h : H p = none) : Same H (upd H' p o) := fun b u z => by rw [upd_ne (ne_of_none z h)]; exact e b u z
theorem exo_lst {e C : Addr} {d : Option Addr} {xs : List V} : exo e C d ≠ .lst xs := fun z => by
  have z' : HO.ext _ = HO.lst xs := z
  cases z'
theorem exd_lst {e : Addr} {fs : List (Str × V)} {xs : List V} : exd e fs ≠ .lst xs := fun z => by
  have z' : HO.ext _ = HO.lst xs := z
  cases z'
/-- an exception stays where a list is changed -/
theorem ExP.other {H : Hp} {p : Addr} {v : V} {C : Addr} {fs : List (Str × V)} {xs ys : List V} (e : ExP H v C fs) (h : H p = some (.lst xs)) : ExP (upd H p (.lst ys)) v C fs := by
  obtain ⟨a, ev, r⟩ := e
  have ne : ∀ {b : Addr} {o : HO}, H b = some o → o ≠ .lst xs → b ≠ p := fun {b o} z n w => by
    rw [w, h] at z
    exact n (Option.some.inj z).symm
  rcases r with ⟨h1, h2⟩ | ⟨d, h1, h2⟩
  · exact ⟨a, ev, .inl ⟨by rw [upd_ne (ne h1 exo_lst)]; exact h1, h2⟩⟩
  · exact ⟨a, ev, .inr ⟨d, by rw [upd_ne (ne h1 exo_lst)]; exact h1, by rw [upd_ne (ne h2 exd_lst)]; exact h2⟩⟩
theorem iteN {b : Bool} {A B : Prop} (e : b = false) (h : B) : if b = true then A else B := by rw [if_neg (by rw [e]; exact Bool.false_ne_true)]; exact h
def spPlain : Sp := fun vs H Q _ => ∃ n : Nat, vs = [.int (n : Nat)] ∧ n < 20 ∧ ∀ H', Same H H' → Q (.bl true) H'
/-- word(x), x the name at i -/
def tWd (K : PySem.W.Frag) (c : Nat → Addr) (i : Nat) : TE := fun σ H Q => tCons (tVar i) tNil σ H fun vs H1 => spWord K c vs H1 Q E0
theorem ok_plain (G : Glo mg) (Kl : Kls K mg c) (B : Bare K c) (CW : Cal P w K mg base 1 "_law_word" ["_law_e"] (spWord K c)) (D : DefAt K mg "_law_plain_right" s_Lplain_right ["_law_many"]) : Cal P w K mg base 2 "_law_plain_right" ["_law_many"] spPlain := by
  refine D.cal sc_Lplain_right (fun vs H Q E h => ?_) (fun f cdv A outer s H vs Q E hr h => ?_)
  · obtain ⟨n, rfl, _⟩ := h
    rfl
  obtain ⟨n, rfl, hn, q⟩ := h
  obtain ⟨ke, gke, kke⟩ := Kl.ke
  refine ⟨_, (pss_cons (ps_set (i := 1) sc_Lplain_right.nd rfl (Or.inl rfl) (pe_lst (pa_ex Kl B 0 (by decide) (by rfl) (pa_ex Kl B 1 (by decide) (by rfl) (pa_ex Kl B 2 (by decide) (by rfl) (pa_ex Kl B 3 (by decide) (by rfl) (pa_ex Kl B 4 (by decide) (by rfl) (pa_ex Kl B 5 (by decide) (by rfl) (pa_ex Kl B 6 (by decide) (by rfl) (pa_ex Kl B 7 (by decide) (by rfl) (pa_ex Kl B 8 (by decide) (by rfl) (pa_ex Kl B 9 (by decide) (by rfl) pa_ex_nil))))))))))))
    (pss_cons (ps_set (i := 1) sc_Lplain_right.nd rfl (Or.inl rfl) (pe_op op_cat (pv 1) (pe_lst (pa_ex Kl B 10 (by decide) (by rfl) (pa_ex Kl B 11 (by decide) (by rfl) (pa_ex Kl B 12 (by decide) (by rfl) pa_ex_nil))))))
    (pss_cons (ps_set (i := 2) sc_Lplain_right.nd rfl (Or.inl rfl) (pe_ix ix_list (pe_lst (pa_cons (pe_op op_mulX pe_str (pv 0)) (pa_cons pe_str pa_nil))) (pe_op op_modN (pv 0) pe_int) (fun _ _ => rfl)))
    (pss_cons (ps_set (i := 3) sc_Lplain_right.nd rfl (Or.inl rfl) (pe_lst (pa_exv Kl B 0 (by decide) (by rfl) (pv 2) (pa_exv Kl B 1 (by decide) (by rfl) (pv 2) (pa_exv Kl B 2 (by decide) (by rfl) (pv 2) (pa_exv Kl B 3 (by decide) (by rfl) (pv 2) (pa_exv Kl B 4 (by decide) (by rfl) (pv 2) (pa_exv Kl B 5 (by decide) (by rfl) (pv 2) pa_exv_nil))))))))
    (pss_cons (ps_set (i := 3) sc_Lplain_right.nd rfl (Or.inl rfl) (pe_op op_cat (pv 3) (pe_lst (pa_exv Kl B 6 (by decide) (by rfl) (pv 2) (pa_exv Kl B 7 (by decide) (by rfl) (pv 2) (pa_exv Kl B 8 (by decide) (by rfl) (pv 2) (pa_exv Kl B 9 (by decide) (by rfl) (pv 2) (pa_exv Kl B 10 (by decide) (by rfl) (pv 2) (pa_exv Kl B 11 (by decide) (by rfl) (pv 2) pa_exv_nil)))))))))
    (pss_cons (ps_expr (pe_bm PySem.F.plainAttrs_list PySem.F.slot_list_append PySem.F.type_list_append mt_append (pv 3) (pa_exv Kl B 12 (by decide) (by rfl) (pv 2) pa_exv_nil)))
    (pss_cons (ps_set (i := 4) sc_Lplain_right.nd rfl (Or.inl rfl) (pe_lst (pa_cons pe_str (pa_cons pe_str (pa_cons pe_str (pa_cons pe_str (pa_cons pe_str (pa_cons pe_str (pa_cons pe_str (pa_cons pe_str (pa_cons pe_str (pa_cons pe_str pa_nil))))))))))))
    (pss_cons (ps_set (i := 4) sc_Lplain_right.nd rfl (Or.inl rfl) (pe_op op_cat (pv 4) (pe_lst (pa_cons pe_str (pa_cons pe_str (pa_cons pe_str pa_nil))))))
    (pss_cons (ps_if (pt_not (pt_val (pe_callB (cr_all rfl) (by rfl) G.all (by decide +kernel) (pa_cons (pe_lc (own := [("_law_e", 5)]) (g := gName 5) (tt := tYes) (te := tCB (rIsX K) (tCons (tVar 5) (tCons (tC (.ref ke)) tNil))) rfl sc_Lplain_right.nd (pi_list (pe_op op_cat (pv 1) (pv 3))) (blkOk_by (N := nm_Lplain_right) (sc := defScope s_Lplain_right) (own := [("_law_e", 5)]) (by decide +kernel)) (fun _ _ _ _ _ => pg_name (i := 5) sc_Lplain_right.nd rfl (Or.inl rfl)) (fun _ _ _ _ _ => pts_nil) (fun _ _ _ _ _ => pe_callB (id := "isinstance") (r := rIsX K) call_isX (by rfl) G.isinstance (by decide +kernel) (pa_cons (pv 5) (pa_cons (pe_glob (v := .ref ke) (by rfl) gke rfl) pa_nil)))) pa_nil)))) (pss_one (ps_ret pe_bl)) pss_nil)
    (pss_one (ps_ret (pe_cmpR (op_eqD hr.units) (pe_lc (own := [("_law_e", 5)]) (g := gName 5) (tt := tYes) (te := tWd K c 5) rfl sc_Lplain_right.nd (pi_list (pe_op op_cat (pv 1) (pv 3))) (blkOk_by (N := nm_Lplain_right) (sc := defScope s_Lplain_right) (own := [("_law_e", 5)]) (by decide +kernel)) (fun _ _ _ _ _ => pg_name (i := 5) sc_Lplain_right.nd rfl (Or.inl rfl)) (fun _ _ _ _ _ => pts_nil) (fun _ _ _ _ _ => pc CW hr rfl (pa_cons (pv 5) pa_nil))) (pe_op op_rep (pv 4) pe_int) (nomark _))))))))))))), ?_⟩
  have len : ∀ n, n ≤ 1000 → n ≤ sizeLine := fun n h => by rw [sizeLine_eq]; omega
  intro H1 v1 s1 x1
  have n1 : v1.length = 10 := Paired.length x1
  refine ⟨len _ (by omega), fun a1 h1 => ?_⟩
  refine ⟨_, rfl, fun H2 v2 s2 x2 => ?_⟩
  have n2 : v2.length = 3 := Paired.length x2
  refine ⟨len _ (by omega), fun b1 g1 => ⟨a1, b1, v1, v2, rfl, rfl, same_new g1 _ _ _ (s2 _ _ upd_same), upd_same, len _ (by omega), fun a2 h2 => ?_⟩⟩
  have x12 : Exs c (upd (upd H2 b1 (.lst v2)) a2 (.lst (v1 ++ v2))) (v1 ++ v2) ex13 :=
    Exs.app (x1.same ((((same_new h1 _).trans s2).trans (same_new g1 _)).trans (same_new h2 _))) (x2.same ((same_new g1 _).trans (same_new h2 _)))
  have l2 : (upd (upd H2 b1 (.lst v2)) a2 (.lst (v1 ++ v2))) a2 = some (.lst (v1 ++ v2)) := upd_same
  have s3 : Same H (upd (upd H2 b1 (.lst v2)) a2 (.lst (v1 ++ v2))) := (((s1.trans (same_new h1 _)).trans s2).trans (same_new g1 _)).trans (same_new h2 _)
  have n12 : (v1 ++ v2).length = 13 := by rw [List.length_append]; omega
  revert x12 l2 s3
  generalize upd (upd H2 b1 (.lst v2)) a2 (.lst (v1 ++ v2)) = H3
  intro x12 l2 s3
  refine ⟨_, rfl, n, rfl, rfl, hn, fun z => ?_⟩
  refine ⟨by show 2 ≤ sizeLine; decide, fun b3 g3 => ?_⟩
  refine ⟨_, rfl, _, _, rfl, rfl, (by show (2 : Int) ≠ 0; decide), ?_⟩
  have sw : Same H3 (upd H3 b3 (.lst [.str z, .str ""])) := same_new g3 _
  obtain ⟨wv, hwv⟩ : ∃ wv, atI [V.str z, .str ""] ((n : Int).fmod 2) = some wv := by
    have e2 : (n : Int).fmod 2 = ((n % 2 : Nat) : Int) := by rw [Int.fmod_eq_emod_of_nonneg _ (by decide)]; omega
    rw [e2]
    exact ⟨_, atI_nat (List.getElem?_eq_getElem (show n % 2 < 2 by omega))⟩
  refine ⟨b3, [.str z, .str ""], _, wv, rfl, rfl, SqL.of upd_same, hwv, ?_⟩
  refine ⟨⟨_, rfl⟩, fun H5 v5 s5 x5 => ?_⟩
  have n5 : v5.length = 6 := Paired.length x5
  refine ⟨len _ (by omega), fun a5 h5 => ?_⟩
  refine ⟨_, rfl, ⟨_, rfl⟩, fun H6 v6 s6 x6 => ?_⟩
  have n6 : v6.length = 6 := Paired.length x6
  refine ⟨len _ (by omega), fun b6 g6 => ⟨a5, b6, v5, v6, rfl, rfl, same_new g6 _ _ _ (s6 _ _ upd_same), upd_same, len _ (by omega), fun a6 h6 => ?_⟩⟩
  have x56 : Exs c (upd (upd H6 b6 (.lst v6)) a6 (.lst (v5 ++ v6))) (v5 ++ v6) [0, 1, 2, 3, 4, 5, 6, 7, 8, 9, 10, 11] :=
    Exs.app (x5.same ((((same_new h5 _).trans s6).trans (same_new g6 _)).trans (same_new h6 _))) (x6.same ((same_new g6 _).trans (same_new h6 _)))
  have l6 : (upd (upd H6 b6 (.lst v6)) a6 (.lst (v5 ++ v6))) a6 = some (.lst (v5 ++ v6)) := upd_same
  have t6 : Same H3 (upd (upd H6 b6 (.lst v6)) a6 (.lst (v5 ++ v6))) := ((((sw.trans s5).trans (same_new h5 _)).trans s6).trans (same_new g6 _)).trans (same_new h6 _)
  have f6 : H3 a6 = none := (((((sw.trans s5).trans (same_new h5 (.lst v5))).trans s6).trans (same_new g6 (.lst v6)))).free h6
  have n56 : (v5 ++ v6).length = 12 := by rw [List.length_append]; omega
  revert x56 l6 t6
  generalize upd (upd H6 b6 (.lst v6)) a6 (.lst (v5 ++ v6)) = H7
  intro x56 l6 t6
  refine ⟨_, rfl, .inl ⟨rfl, _, SqL.of l6⟩, ⟨_, rfl⟩, fun H8 v8 s8 x8 => ?_⟩
  obtain ⟨v, rfl, hv⟩ : ∃ v, v8 = [v] ∧ ExP H8 v (c 12) [] := by
    cases x8 with
    | cons r t => cases t; exact ⟨_, rfl, r⟩
  have l8 := s8 _ _ l6
  have q8 : Paired (fun v i => ExP H8 v (c i) []) (v5 ++ v6 ++ [v]) ex13 := Exs.app (x56.same s8) (.cons hv .nil)
  refine ⟨a6, _, v, rfl, rfl, l8, by rw [n56, sizeLine_eq]; decide, ?_⟩
  have t9 : Same H3 (upd H8 a6 (.lst (v5 ++ v6 ++ [v]))) := sameM (t6.trans s8) f6
  have l9 : (upd H8 a6 (.lst (v5 ++ v6 ++ [v]))) a6 = some (.lst (v5 ++ v6 ++ [v])) := upd_same
  have x9 : Exs c (upd H8 a6 (.lst (v5 ++ v6 ++ [v]))) (v5 ++ v6 ++ [v]) ex13 := Paired.mapP q8 fun v i e => e.other l8
  have n9 : (v5 ++ v6 ++ [v]).length = 13 := by rw [List.length_append, n56]; rfl
  revert t9 l9 x9 n9
  generalize upd H8 a6 (.lst (v5 ++ v6 ++ [v])) = H9
  generalize v5 ++ v6 ++ [v] = vm
  intro t9 l9 x9 n9
  refine ⟨by show 10 ≤ sizeLine; decide, fun d1 e1 => ?_⟩
  refine ⟨_, rfl, by show 3 ≤ sizeLine; decide, fun d2 e2 => ?_⟩
  refine ⟨d1, d2, _, _, rfl, rfl, same_new e2 _ _ _ upd_same, upd_same, by show 13 ≤ sizeLine; decide, fun d3 e3 => ?_⟩
  have k9 : Same H9 (upd (upd (upd H9 d1 (.lst [V.str "NoType", V.str "NoValues", V.str "NoText", V.str "NoClass", V.str "NoTable", V.str "NoName", V.str "NoMost", V.str "NoRoots", V.str "NoRoot", V.str "NoDeed"])) d2 (.lst [V.str "TooMany", V.str "Crowded", V.str "NothingDone"])) d3 (.lst ([V.str "NoType", V.str "NoValues", V.str "NoText", V.str "NoClass", V.str "NoTable", V.str "NoName", V.str "NoMost", V.str "NoRoots", V.str "NoRoot", V.str "NoDeed"] ++ [V.str "TooMany", V.str "Crowded", V.str "NothingDone"]))) := ((same_new e1 _).trans (same_new e2 _)).trans (same_new e3 _)
  have ln : (upd (upd (upd H9 d1 (.lst [V.str "NoType", V.str "NoValues", V.str "NoText", V.str "NoClass", V.str "NoTable", V.str "NoName", V.str "NoMost", V.str "NoRoots", V.str "NoRoot", V.str "NoDeed"])) d2 (.lst [V.str "TooMany", V.str "Crowded", V.str "NothingDone"])) d3 (.lst ([V.str "NoType", V.str "NoValues", V.str "NoText", V.str "NoClass", V.str "NoTable", V.str "NoName", V.str "NoMost", V.str "NoRoots", V.str "NoRoot", V.str "NoDeed"] ++ [V.str "TooMany", V.str "Crowded", V.str "NothingDone"]))) d3 = some (.lst (ex13.map fun i => V.str (exN i))) := upd_same
  revert k9 ln
  generalize upd (upd (upd H9 d1 (.lst [V.str "NoType", V.str "NoValues", V.str "NoText", V.str "NoClass", V.str "NoTable", V.str "NoName", V.str "NoMost", V.str "NoRoots", V.str "NoRoot", V.str "NoDeed"])) d2 (.lst [V.str "TooMany", V.str "Crowded", V.str "NothingDone"])) d3 (.lst ([V.str "NoType", V.str "NoValues", V.str "NoText", V.str "NoClass", V.str "NoTable", V.str "NoName", V.str "NoMost", V.str "NoRoots", V.str "NoRoot", V.str "NoDeed"] ++ [V.str "TooMany", V.str "Crowded", V.str "NothingDone"])) = Ha
  intro k9 ln
  have ls := k9 _ _ (t9 _ _ l2)
  have lm := k9 _ _ l9
  have xa : Exs c Ha ((v1 ++ v2) ++ vm) ex26 := Exs.app (x12.same (t9.trans k9)) (x9.same k9)
  have sa := (s3.trans t9).trans k9
  have na : ((v1 ++ v2) ++ vm).length = 26 := by rw [List.length_append]; omega
  have lx : ex26.length = 26 := rfl
  refine ⟨_, rfl, _, rfl, a2, a6, _, _, rfl, rfl, ls, lm, len _ (by omega), fun p1 w1 => ?_⟩
  refine ⟨p1, rfl, ⟨_, SqL.of upd_same⟩, fun D1 hD1 => ?_⟩
  have sp := same_new w1 (.lst ((v1 ++ v2) ++ vm))
  have lp : (upd Ha p1 (.lst ((v1 ++ v2) ++ vm))) p1 = some (.lst ((v1 ++ v2) ++ vm)) := upd_same
  revert sp lp hD1
  generalize upd Ha p1 (.lst ((v1 ++ v2) ++ vm)) = Hb
  intro hD1 sp lp
  refine lc_list (K := K) (a := p1) (xs := (v1 ++ v2) ++ vm) (fun i H' => ∃ acc, Same Hb H' ∧ H' D1 = some (.lst acc) ∧ acc = List.replicate i (V.bl true)) ⟨[], same_new hD1 _, upd_same, rfl⟩ (fun i H' _ ⟨acc, sm, _⟩ => sm.seq (SqL.of lp)) (fun i x H' hx ⟨acc, sm, hacc, eacc⟩ => ?_) (fun H' ⟨acc, sm, hacc, eacc⟩ => ?_)
  · obtain ⟨j, hj, ej⟩ := Exs.at xa hx
    have j18 := ex26_lt _ _ hj
    have hi : i < 26 := by have := (List.getElem?_eq_some_iff.mp hj).1; omega
    refine ⟨rfl, x, rfl, x, .ref ke, c j, [], .ref ke, true, rfl, ej.same (sp.trans sm), Kl.ex j j18, fun u r => r, kke j j18, acc, hacc, ?_, acc ++ [.bl true], sameM sm hD1, upd_same, ?_⟩
    · rw [eacc, List.length_replicate, sizeLine_eq]
      omega
    · rw [eacc, ← List.replicate_succ']
  refine ⟨D1, List.replicate 26 true, rfl, SqL.of (by rw [hacc, eacc, na, List.map_replicate]), _, rfl, iteN (by decide) ?_⟩
  have sm2 := sp.trans sm
  refine ⟨_, rfl, _, rfl, a2, a6, _, _, rfl, rfl, sm2 _ _ ls, sm2 _ _ lm, len _ (by omega), fun p2 w2 => ?_⟩
  refine ⟨p2, rfl, ⟨_, SqL.of upd_same⟩, fun D2 hD2 => ?_⟩
  have sq := sm2.trans (same_new w2 (.lst ((v1 ++ v2) ++ vm)))
  have lq : (upd H' p2 (.lst ((v1 ++ v2) ++ vm))) p2 = some (.lst ((v1 ++ v2) ++ vm)) := upd_same
  revert sq lq hD2
  generalize upd H' p2 (.lst ((v1 ++ v2) ++ vm)) = Hc
  intro hD2 sq lq
  refine lc_list (K := K) (te := tWd K c 5) (a := p2) (xs := (v1 ++ v2) ++ vm) (fun i H' => ∃ acc, Same Hc H' ∧ H' D2 = some (.lst acc) ∧ acc = (ex26.take i).map fun i => V.str (exN i)) ⟨[], same_new hD2 _, upd_same, rfl⟩ (fun i H' _ ⟨acc, sm, _⟩ => sm.seq (SqL.of lq)) (fun i x H' hx ⟨acc, sm, hacc, eacc⟩ => ?_) (fun H' ⟨acc, sm, hacc, eacc⟩ => ?_)
  · obtain ⟨j, hj, ej⟩ := Exs.at xa hx
    have j18 := ex26_lt _ _ hj
    have hi : i < 26 := by have := (List.getElem?_eq_some_iff.mp hj).1; omega
    refine ⟨rfl, x, rfl, x, j, [], rfl, j18, ej.same (sq.trans sm), fun H2 sm2 => ⟨acc, sm2 _ _ hacc, ?_, acc ++ [.str (exN j)], sameM (sm.trans sm2) hD2, upd_same, ?_⟩⟩
    · rw [eacc, List.length_map, List.length_take, sizeLine_eq]
      omega
    · rw [eacc, take_snoc hj, List.map_append]
      rfl
  have sR := sq.trans sm
  refine ⟨_, rfl, d3, 2, _, rfl, rfl, sR _ _ ln, by decide, by decide, by show 26 ≤ sizeLine; decide, fun p3 w3 => ?_⟩
  have s3' := same_new w3 (.lst (List.replicate (2 : Int).toNat (ex13.map fun i => V.str (exN i))).flatten)
  have eacc' : acc = ex26.map fun i => V.str (exN i) := by rw [eacc, na]; rfl
  refine ⟨.list (ex26.map fun i => PyData.str (exN i)), .list (ex26.map fun i => PyData.str (exN i)), .lst (SqL.of (s3' _ _ hacc)) (by rw [eacc']; exact dp_nms _), .lst (SqL.of upd_same) (dp_nms ex26), nm26_data.1, nm26_data.1, ?_⟩
  rw [nm26_data.2]
  exact q _ ((sa.trans sR).trans s3')
end
end N


namespace N
open PySem PySem.Spec PyProof.Rows L2 NdefX
section
variable {X : Cx} {e : Expr} {te : TE} {pos : Pos}
/-- {x}, x nested data -/
theorem pe_fmtD {k : Nat} (hr : RoomG k X.A) (he : PE X e te) : PE X (.FormattedValue e (-1) none pos) (fun σ H Q => te σ H fun x H1 => ∃ (a : Addr) (d : PyData), x = .ref a ∧ Dp X.K H1 (.ref a) d ∧ d.showable = true ∧ d.hasDict = false ∧ d.depth ≤ 60 ∧ d.shown.length ≤ sizeLine ∧ Q (.str d.shown) H1) := by
  refine ⟨fun pins s σ H Q I h => ?_⟩
  refine wpAny_FormattedValue_plain (thn (he.run pins s σ H _ I h) fun v s1 ⟨x, H1, J, r, a, d, ex, hd, hs, hn, hdp, hz, q⟩ => ?_)
  subst ex
  cases (show v = Value.ref a from r)
  obtain ⟨as, rd⟩ := Dp.reads J d _ _ hd rfl
  have hun := hr.units
  exact formatField_of_reads rd hs (PyData.noDict_hsm hn) hr.gs (by omega) (fun b o z => z) (fun h' u tk hk => ⟨.str d.shown, H1, J.kept (t' := tk) hk, ⟨_, rfl⟩, q⟩) hz
end
def clB : Stmt → List Stmt
  | .ClassDef _ _ _ b _ _ _ _ _ _ _ => b
  | _ => []
def iniS (i : Nat) : Stmt := (clB (topS i)).getD 0 (.Pass ⟨0, 0, 0, 0⟩)
/-- all but a -/
def But (a : Addr) (H H' : Hp) : Prop := ∀ b o, b ≠ a → H b = some o → H' b = some o
/-- what such an __init__ keeps -/
def spIni (C : Addr) (n : Nat) (ok : List V → Hp → Prop) (fs : List V → List (Str × V)) : Sp := fun vs H Q _ => ∃ (a : Addr) (ys : List V), vs = .ref a :: ys ∧ ys.length = n ∧ H a = some (exo a C none) ∧ ok ys H ∧ ∀ H', But a H H' → ExP H' (.ref a) C (fs ys) → Q .non H'
def okT : List V → Hp → Prop := fun ys _ => ∀ y ∈ ys, ∃ z : Str, y = .str z ∧ z.length ≤ sizeLine
def okD (K : PySem.W.Frag) : List V → Hp → Prop := fun ys H => ∃ (p : Addr) (d : PyData), ys = [.ref p] ∧ Dp K H (.ref p) d ∧ d.showable = true ∧ d.hasDict = false ∧ d.depth ≤ 60 ∧ d.shown.length ≤ sizeLine
section
variable {P : Program} {w : World} {K : PySem.W.Frag} {mg : Str → Option Value} {base : Heap} {C f cc cda : Addr} {file : Str} {oc dV kV doc pm ct : Value} {od an : Option Addr} {osl : Array (Option Value)}
mutual
theorem dp_mono {H H' : Hp} (s : Same H H') : ∀ (d : PyData) (x : V), Dp K H x d → Dp K H' x d
  | .none, _, h => by cases h; exact .non
  | .bool b, _, h => by cases h; exact .bl b
  | .int i, _, h => by cases h; exact .int i
  | .str y, _, h => by cases h; exact .str y
  | .list ds, _, h => by
    cases h with
    | lst hs ha => exact .lst (s.seq hs) (dps_mono s ds _ ha)
  | .tuple ds, _, h => by
    cases h with
    | tup hs ha => exact .tup ((stay_same s).tup _ _ hs) (dps_mono s ds _ ha)
  | .dict _, _, h => by cases h
theorem dps_mono {H H' : Hp} (s : Same H H') : ∀ (ds : List PyData) (xs : List V), DpAll K H xs ds → DpAll K H' xs ds
  | [], _, h => by cases h; exact .nil
  | d :: ds, _, h => by
    cases h with
    | cons a b => exact .cons (dp_mono s d _ a) (dps_mono s ds _ b)
end
theorem nsc_Unfit : NScope ["self", "name", "__class__"] ["self", "name"] ["__class__"] (defScope (iniS 15)) := nscope_by (by decide +kernel)
theorem ini_Unfit (hms : mg "super" = none) (hfile : ((P.main.file : Str) == file) = true) (htop : (P.main.scope.names.lookup ("super" : Str)).isSome = false) (D : IniC K file C f cc cda "Unfit.__init__" (defArgs (iniS 15)) (defBody (iniS 15)) (defScope (iniS 15))) (n0 : PySem.W.findIn K (.ref C) "name" = some none)
    (lk : K.lookup f = some ⟨oc, od, .func (PySem.W.ksFn "__init__" "Unfit.__init__" (defArgs (iniS 15)) (defBody (iniS 15)) (defScope (iniS 15)) dV kV doc pm an (.ref cda) ct cc), osl⟩) :
    FnG P w K mg base (L2.CX P w) 2 f (PySem.W.ksFn "__init__" "Unfit.__init__" (defArgs (iniS 15)) (defBody (iniS 15)) (defScope (iniS 15)) dV kV doc pm an (.ref cda) ct cc) ["self", "name"] (spIni C 1 okT (fun (ys : List V) => [("name", ys.getD 0 .non)])) := by
  refine ini_fn (Nm := ["self", "name", "__class__"]) (k := 1) (ar := (defArgs (iniS 15)).args.getD 0 default) D lk nsc_Unfit hfile htop rfl hms rfl rfl rfl (fun vs H Q E h => ?_) (fun A outer s H vs Q E hr h => ?_) (fun _ => rfl) (fun _ => rfl) _ (fun _ => rfl)
  · obtain ⟨a, ys, rfl, hl, _⟩ := h
    rw [List.length_cons, hl]
    rfl
  obtain ⟨a, ys, rfl, hl, ea, hok, q⟩ := h
  refine ⟨a, ys, _, _, rfl, ea, (pa_cons (pe_joined1 (pe_fmt (pv 1))) pa_nil), (pss_one (ps_ost (pv 0) (pv 1))), fun u hu => ?_⟩
  obtain ⟨y, rfl⟩ : ∃ y, ys = [y] := by
    match ys, hl with
    | [y], _ => exact ⟨y, rfl⟩
  obtain ⟨z, rfl, hz⟩ := hok y List.mem_cons_self
  refine ⟨[.str z], by show 1 ≤ sizeLine; decide, fun R hR => ⟨_, rfl, .inl ⟨z, rfl, hz, hR⟩⟩, ?_⟩
  have nau : a ≠ u := ne_of_none ea hu
  refine ⟨_, rfl, _, rfl, a, C, rfl, D.ox, n0, .inl ⟨by rw [upd_ne nau]; exact ea, fun dx hdx hda => ?_⟩⟩
  have old : ∀ b o, H b = some o → b ≠ u ∧ b ≠ dx := fun b o z => ⟨ne_of_none z hu, ne_of_none (by rw [upd_ne (ne_of_none z hu)]; exact z) hdx⟩
  refine q _ (fun b o hb z => by rw [upd_ne hb, upd_ne (old b o z).2, upd_ne (old b o z).1]; exact z) ⟨a, rfl, .inr ⟨dx, upd_same, ?_⟩⟩
  rw [upd_ne hda]
  exact upd_same
theorem nsc_Looped : NScope ["self", "name", "__class__"] ["self", "name"] ["__class__"] (defScope (iniS 16)) := nscope_by (by decide +kernel)
theorem ini_Looped (hms : mg "super" = none) (hfile : ((P.main.file : Str) == file) = true) (htop : (P.main.scope.names.lookup ("super" : Str)).isSome = false) (D : IniC K file C f cc cda "Looped.__init__" (defArgs (iniS 16)) (defBody (iniS 16)) (defScope (iniS 16))) (n0 : PySem.W.findIn K (.ref C) "name" = some none)
    (lk : K.lookup f = some ⟨oc, od, .func (PySem.W.ksFn "__init__" "Looped.__init__" (defArgs (iniS 16)) (defBody (iniS 16)) (defScope (iniS 16)) dV kV doc pm an (.ref cda) ct cc), osl⟩) :
    FnG P w K mg base (L2.CX P w) 2 f (PySem.W.ksFn "__init__" "Looped.__init__" (defArgs (iniS 16)) (defBody (iniS 16)) (defScope (iniS 16)) dV kV doc pm an (.ref cda) ct cc) ["self", "name"] (spIni C 1 okT (fun (ys : List V) => [("name", ys.getD 0 .non)])) := by
  refine ini_fn (Nm := ["self", "name", "__class__"]) (k := 1) (ar := (defArgs (iniS 16)).args.getD 0 default) D lk nsc_Looped hfile htop rfl hms rfl rfl rfl (fun vs H Q E h => ?_) (fun A outer s H vs Q E hr h => ?_) (fun _ => rfl) (fun _ => rfl) _ (fun _ => rfl)
  · obtain ⟨a, ys, rfl, hl, _⟩ := h
    rw [List.length_cons, hl]
    rfl
  obtain ⟨a, ys, rfl, hl, ea, hok, q⟩ := h
  refine ⟨a, ys, _, _, rfl, ea, (pa_cons (pe_joined1 (pe_fmt (pv 1))) pa_nil), (pss_one (ps_ost (pv 0) (pv 1))), fun u hu => ?_⟩
  obtain ⟨y, rfl⟩ : ∃ y, ys = [y] := by
    match ys, hl with
    | [y], _ => exact ⟨y, rfl⟩
  obtain ⟨z, rfl, hz⟩ := hok y List.mem_cons_self
  refine ⟨[.str z], by show 1 ≤ sizeLine; decide, fun R hR => ⟨_, rfl, .inl ⟨z, rfl, hz, hR⟩⟩, ?_⟩
  have nau : a ≠ u := ne_of_none ea hu
  refine ⟨_, rfl, _, rfl, a, C, rfl, D.ox, n0, .inl ⟨by rw [upd_ne nau]; exact ea, fun dx hdx hda => ?_⟩⟩
  have old : ∀ b o, H b = some o → b ≠ u ∧ b ≠ dx := fun b o z => ⟨ne_of_none z hu, ne_of_none (by rw [upd_ne (ne_of_none z hu)]; exact z) hdx⟩
  refine q _ (fun b o hb z => by rw [upd_ne hb, upd_ne (old b o z).2, upd_ne (old b o z).1]; exact z) ⟨a, rfl, .inr ⟨dx, upd_same, ?_⟩⟩
  rw [upd_ne hda]
  exact upd_same
theorem nsc_Turned : NScope ["self", "name", "letter", "__class__"] ["self", "name", "letter"] ["__class__"] (defScope (iniS 17)) := nscope_by (by decide +kernel)
theorem ini_Turned (hms : mg "super" = none) (hfile : ((P.main.file : Str) == file) = true) (htop : (P.main.scope.names.lookup ("super" : Str)).isSome = false) (D : IniC K file C f cc cda "Turned.__init__" (defArgs (iniS 17)) (defBody (iniS 17)) (defScope (iniS 17))) (n0 : PySem.W.findIn K (.ref C) "name" = some none) (n1 : PySem.W.findIn K (.ref C) "letter" = some none)
    (lk : K.lookup f = some ⟨oc, od, .func (PySem.W.ksFn "__init__" "Turned.__init__" (defArgs (iniS 17)) (defBody (iniS 17)) (defScope (iniS 17)) dV kV doc pm an (.ref cda) ct cc), osl⟩) :
    FnG P w K mg base (L2.CX P w) 2 f (PySem.W.ksFn "__init__" "Turned.__init__" (defArgs (iniS 17)) (defBody (iniS 17)) (defScope (iniS 17)) dV kV doc pm an (.ref cda) ct cc) ["self", "name", "letter"] (spIni C 2 okT (fun (ys : List V) => [("letter", ys.getD 1 .non), ("name", ys.getD 0 .non)])) := by
  refine ini_fn (Nm := ["self", "name", "letter", "__class__"]) (k := 1) (ar := (defArgs (iniS 17)).args.getD 0 default) D lk nsc_Turned hfile htop rfl hms rfl rfl rfl (fun vs H Q E h => ?_) (fun A outer s H vs Q E hr h => ?_) (fun _ => rfl) (fun _ => rfl) _ (fun _ => rfl)
  · obtain ⟨a, ys, rfl, hl, _⟩ := h
    rw [List.length_cons, hl]
    rfl
  obtain ⟨a, ys, rfl, hl, ea, hok, q⟩ := h
  refine ⟨a, ys, _, _, rfl, ea, (pa_cons (pe_joined1 (pe_fmt (pv 1))) (pa_cons (pe_joined1 (pe_fmt (pv 2))) pa_nil)), (pss_cons (ps_ost (pv 0) (pv 1)) (pss_one (ps_ost (pv 0) (pv 2)))), fun u hu => ?_⟩
  obtain ⟨y, y', rfl⟩ : ∃ y y', ys = [y, y'] := by
    match ys, hl with
    | [y, y'], _ => exact ⟨y, y', rfl⟩
  obtain ⟨z, rfl, hz⟩ := hok y List.mem_cons_self
  obtain ⟨z', rfl, hz'⟩ := hok y' (List.mem_cons_of_mem _ List.mem_cons_self)
  refine ⟨[.str z, .str z'], by show 2 ≤ sizeLine; decide, fun R hR => ⟨_, rfl, .inl ⟨z, rfl, hz, _, rfl, .inl ⟨z', rfl, hz', hR⟩⟩⟩, ?_⟩
  have nau : a ≠ u := ne_of_none ea hu
  refine ⟨_, rfl, _, rfl, a, C, rfl, D.ox, n0, .inl ⟨by rw [upd_ne nau]; exact ea, fun dx hdx hda => ?_⟩⟩
  have old : ∀ b o, H b = some o → b ≠ u ∧ b ≠ dx := fun b o z => ⟨ne_of_none z hu, ne_of_none (by rw [upd_ne (ne_of_none z hu)]; exact z) hdx⟩
  refine ⟨_, rfl, _, rfl, a, C, rfl, D.ox, n1, .inr ⟨dx, _, upd_same, by rw [upd_ne hda]; exact upd_same, by show 1 ≤ 900; decide, ?_⟩⟩
  refine q _ (fun b o hb z => by rw [upd_ne (old b o z).2, upd_ne hb, upd_ne (old b o z).2, upd_ne (old b o z).1]; exact z) ⟨a, rfl, .inr ⟨dx, ?_, upd_same⟩⟩
  rw [upd_ne (Ne.symm hda)]
  exact upd_same
theorem nsc_Endless : NScope ["self", "cycle", "__class__"] ["self", "cycle"] ["__class__"] (defScope (iniS 18)) := nscope_by (by decide +kernel)
theorem ini_Endless (hms : mg "super" = none) (hfile : ((P.main.file : Str) == file) = true) (htop : (P.main.scope.names.lookup ("super" : Str)).isSome = false) (D : IniC K file C f cc cda "Endless.__init__" (defArgs (iniS 18)) (defBody (iniS 18)) (defScope (iniS 18))) (n0 : PySem.W.findIn K (.ref C) "cycle" = some none)
    (lk : K.lookup f = some ⟨oc, od, .func (PySem.W.ksFn "__init__" "Endless.__init__" (defArgs (iniS 18)) (defBody (iniS 18)) (defScope (iniS 18)) dV kV doc pm an (.ref cda) ct cc), osl⟩) :
    FnG P w K mg base (L2.CX P w) 2 f (PySem.W.ksFn "__init__" "Endless.__init__" (defArgs (iniS 18)) (defBody (iniS 18)) (defScope (iniS 18)) dV kV doc pm an (.ref cda) ct cc) ["self", "cycle"] (spIni C 1 (okD K) (fun (ys : List V) => [("cycle", ys.getD 0 .non)])) := by
  refine ini_fn (Nm := ["self", "cycle", "__class__"]) (k := 1) (ar := (defArgs (iniS 18)).args.getD 0 default) D lk nsc_Endless hfile htop rfl hms rfl rfl rfl (fun vs H Q E h => ?_) (fun A outer s H vs Q E hr h => ?_) (fun _ => rfl) (fun _ => rfl) _ (fun _ => rfl)
  · obtain ⟨a, ys, rfl, hl, _⟩ := h
    rw [List.length_cons, hl]
    rfl
  obtain ⟨a, ys, rfl, hl, ea, hok, q⟩ := h
  refine ⟨a, ys, _, _, rfl, ea, (pa_cons (pe_joined1 (pe_fmtD hr (pv 1))) pa_nil), (pss_one (ps_ost (pv 0) (pv 1))), fun u hu => ?_⟩
  obtain ⟨y, rfl⟩ : ∃ y, ys = [y] := by
    match ys, hl with
    | [y], _ => exact ⟨y, rfl⟩
  obtain ⟨p, d, ey, hd, h1, h2, h3, h4⟩ := hok
  cases ey
  refine ⟨[.str d.shown], by show 1 ≤ sizeLine; decide, fun R hR => ⟨_, rfl, p, d, rfl, dp_mono (same_new hu _) d _ hd, h1, h2, h3, h4, hR⟩, ?_⟩
  have nau : a ≠ u := ne_of_none ea hu
  refine ⟨_, rfl, _, rfl, a, C, rfl, D.ox, n0, .inl ⟨by rw [upd_ne nau]; exact ea, fun dx hdx hda => ?_⟩⟩
  have old : ∀ b o, H b = some o → b ≠ u ∧ b ≠ dx := fun b o z => ⟨ne_of_none z hu, ne_of_none (by rw [upd_ne (ne_of_none z hu)]; exact z) hdx⟩
  refine q _ (fun b o hb z => by rw [upd_ne hb, upd_ne (old b o z).2, upd_ne (old b o z).1]; exact z) ⟨a, rfl, .inr ⟨dx, upd_same, ?_⟩⟩
  rw [upd_ne hda]
  exact upd_same
theorem nsc_Clash : NScope ["self", "name", "member", "__class__"] ["self", "name", "member"] ["__class__"] (defScope (iniS 19)) := nscope_by (by decide +kernel)
theorem ini_Clash (hms : mg "super" = none) (hfile : ((P.main.file : Str) == file) = true) (htop : (P.main.scope.names.lookup ("super" : Str)).isSome = false) (D : IniC K file C f cc cda "Clash.__init__" (defArgs (iniS 19)) (defBody (iniS 19)) (defScope (iniS 19))) (n0 : PySem.W.findIn K (.ref C) "name" = some none) (n1 : PySem.W.findIn K (.ref C) "member" = some none)
    (lk : K.lookup f = some ⟨oc, od, .func (PySem.W.ksFn "__init__" "Clash.__init__" (defArgs (iniS 19)) (defBody (iniS 19)) (defScope (iniS 19)) dV kV doc pm an (.ref cda) ct cc), osl⟩) :
    FnG P w K mg base (L2.CX P w) 2 f (PySem.W.ksFn "__init__" "Clash.__init__" (defArgs (iniS 19)) (defBody (iniS 19)) (defScope (iniS 19)) dV kV doc pm an (.ref cda) ct cc) ["self", "name", "member"] (spIni C 2 okT (fun (ys : List V) => [("member", ys.getD 1 .non), ("name", ys.getD 0 .non)])) := by
  refine ini_fn (Nm := ["self", "name", "member", "__class__"]) (k := 1) (ar := (defArgs (iniS 19)).args.getD 0 default) D lk nsc_Clash hfile htop rfl hms rfl rfl rfl (fun vs H Q E h => ?_) (fun A outer s H vs Q E hr h => ?_) (fun _ => rfl) (fun _ => rfl) _ (fun _ => rfl)
  · obtain ⟨a, ys, rfl, hl, _⟩ := h
    rw [List.length_cons, hl]
    rfl
  obtain ⟨a, ys, rfl, hl, ea, hok, q⟩ := h
  refine ⟨a, ys, _, _, rfl, ea, (pa_cons (pe_joined1 (pe_fmt (pv 1))) (pa_cons (pe_joined1 (pe_fmt (pv 2))) pa_nil)), (pss_cons (ps_ost (pv 0) (pv 1)) (pss_one (ps_ost (pv 0) (pv 2)))), fun u hu => ?_⟩
  obtain ⟨y, y', rfl⟩ : ∃ y y', ys = [y, y'] := by
    match ys, hl with
    | [y, y'], _ => exact ⟨y, y', rfl⟩
  obtain ⟨z, rfl, hz⟩ := hok y List.mem_cons_self
  obtain ⟨z', rfl, hz'⟩ := hok y' (List.mem_cons_of_mem _ List.mem_cons_self)
  refine ⟨[.str z, .str z'], by show 2 ≤ sizeLine; decide, fun R hR => ⟨_, rfl, .inl ⟨z, rfl, hz, _, rfl, .inl ⟨z', rfl, hz', hR⟩⟩⟩, ?_⟩
  have nau : a ≠ u := ne_of_none ea hu
  refine ⟨_, rfl, _, rfl, a, C, rfl, D.ox, n0, .inl ⟨by rw [upd_ne nau]; exact ea, fun dx hdx hda => ?_⟩⟩
  have old : ∀ b o, H b = some o → b ≠ u ∧ b ≠ dx := fun b o z => ⟨ne_of_none z hu, ne_of_none (by rw [upd_ne (ne_of_none z hu)]; exact z) hdx⟩
  refine ⟨_, rfl, _, rfl, a, C, rfl, D.ox, n1, .inr ⟨dx, _, upd_same, by rw [upd_ne hda]; exact upd_same, by show 1 ≤ 900; decide, ?_⟩⟩
  refine q _ (fun b o hb z => by rw [upd_ne (old b o z).2, upd_ne hb, upd_ne (old b o z).2, upd_ne (old b o z).1]; exact z) ⟨a, rfl, .inr ⟨dx, ?_, upd_same⟩⟩
  rw [upd_ne (Ne.symm hda)]
  exact upd_same
end
end N

namespace N
open PySem PySem.Spec PyProof.Rows L2 NdefX
/-! ### exceptions with fields, as values -/
/-- the class at C with its own __init__, called by places and by the names ks -/
def OwnK (P : Program) (w : World) (K : PySem.W.Frag) (mg : Str → Option Value) (base : Heap) (x : Str) (C : Addr) (n : Nat) (ps ks : List Str) (sp : Sp) : Prop :=
  ∃ (fI : Addr) (fd : FuncData), OwnC P w K mg base 2 x C fI fd ps sp ∧ KBn K fd ps (n + 1) [] (fun us _ => us) (fun vs _ => vs) ∧ KBn K fd ps 1 ks (fun us ws => us ++ ws.reverse) (fun vs zs => vs ++ zs.reverse)
section
variable {X : Cx} {C : Addr} {n : Nat} {ps ks : List Str} {ok : List V → Hp → Prop} {fs : List V → List (Str × V)} {x : Str} {p pos : Pos} {e : Expr} {es : List Expr} {kws : List Keyword} {t tk : TA}
theorem own_q {H : Hp} {Q : VK} {ys : List V} (hl : ys.length = n) (hok : ∀ H', Same H H' → ok ys H') (q : ∀ H' a, Same H H' → ExP H' (.ref a) C (fs ys) → Q (.ref a) H') (a : Addr) (ha : H a = none) :
    spIni C n ok fs (.ref a :: ys) (upd H a (exo a C none)) (fun v H2 => v = .non ∧ Q (.ref a) H2) E0 :=
  ⟨a, ys, rfl, hl, upd_same, hok _ (same_new ha _), fun H' but ex => ⟨rfl, q H' a (fun b o z => but b o (ne_of_none z ha) (same_new ha _ _ _ z)) ex⟩⟩
def tOwn (C : Addr) (n : Nat) (ok : List V → Hp → Prop) (fs : List V → List (Str × V)) (t : TA) : TE := fun σ H Q => t σ H fun ys H1 => ys.length = n ∧ (∀ H', Same H1 H' → ok ys H') ∧ ∀ H' a, Same H1 H' → ExP H' (.ref a) C (fs ys) → Q (.ref a) H'
def tOwnK (C : Addr) (n : Nat) (ok : List V → Hp → Prop) (fs : List V → List (Str × V)) (t : TA) : TE := fun σ H Q => t σ H fun zs H1 => zs.length = n ∧ (∀ H', Same H1 H' → ok zs.reverse H') ∧ ∀ H' a, Same H1 H' → ExP H' (.ref a) C (fs zs.reverse) → Q (.ref a) H'
/-- readings of a row of arguments may be weakened under what they hand on -/
def Mon (t : TA) : Prop := ∀ σ H (Q R : List V → Hp → Prop), (∀ vs H', Q vs H' → R vs H') → t σ H Q → t σ H R
theorem mon_nil : Mon tNil := fun σ H Q R h q => h _ _ q
theorem mon_var {i : Nat} {t : TA} (h : Mon t) : Mon (tCons (tVar i) t) := fun σ H Q R m ⟨v, e, q⟩ => ⟨v, e, h σ H _ _ (fun vs H' z => m _ _ z) q⟩
theorem mon_c {v : V} {t : TA} (h : Mon t) : Mon (tCons (tC v) t) := fun σ H Q R m q => h σ H _ _ (fun vs H' z => m _ _ z) q
theorem pe_imp {te te' : TE} (h : PE X e te) (q : ∀ σ H Q, te' σ H Q → te σ H Q) : PE X e te' := ⟨fun pins s σ H Q I z => h.run pins s σ H Q I (q _ _ _ z)⟩
theorem pe_ownF (O : OwnK X.prog X.w X.K X.mg X.base x C n ps ks (spIni C n ok fs)) (hn : n ≤ 1000) (hr : RoomG 3 X.A) (hg : Gl X x) (ha : PA X (e :: es) t) (hm : Mon t) (hdb : (x == ("__debug__" : Str)) = false := by decide)
    (he : starEach (e :: es) X.env = (false, eval e X.env) :: starEach es X.env := by rfl) (hpl : (backTo pos (starEach es X.env)).any (·.1) = false := by rfl) :
    PE X (.Call (.Name x p) (e :: es) [] pos) (tOwn C n ok fs t) := by
  obtain ⟨fI, fd, T, b1, b2⟩ := O
  exact pe_imp (pe_own T hr b1 hn hg ha hdb he hpl) fun σ H Q q => hm σ H _ _ (fun ys H1 ⟨l, o, q⟩ => ⟨l, fun a h1 => own_q l o q a h1⟩) q
theorem pe_ownFK (O : OwnK X.prog X.w X.K X.mg X.base x C n ps ks (spIni C n ok fs)) (hkn : ks.length = n) (hr : RoomG 3 X.A) (hg : Gl X x) (hkw : PK X kws tk) (hm : Mon tk)
    (hall : (backToKw pos (keywordEach kws X.env)).all (·.1.isSome) = true := by rfl) (hks : (backToKw pos (keywordEach kws X.env)).filterMap (·.1) = ks := by rfl) (hdb : (x == ("__debug__" : Str)) = false := by decide)
    (hpl : ((backTo pos (starEach [] X.env)).any (·.1) || (backToKw pos (keywordEach kws X.env)).any (·.1.isNone)) = false := by rfl) :
    PE X (.Call (.Name x p) [] kws pos) (tOwnK C n ok fs tk) := by
  obtain ⟨fI, fd, T, b1, b2⟩ := O
  exact pe_imp (pe_ownK T hr b2 hg hkw hall hks hdb hpl) fun σ H Q q => hm σ H _ _ (fun zs H1 ⟨l, o, q⟩ => ⟨l.trans hkn.symm, fun a h1 => own_q (by rw [List.length_reverse]; exact l) o q a h1⟩) q
end
/-- e.n as a reading -/
def tXv (K : PySem.W.Frag) (n : Str) (te : TE) : TE := fun σ H Q => te σ H fun x H1 => ∃ (C : Addr) (fs : List (Str × V)) (v : V), ExP H1 x C fs ∧ XfC K C ∧ PySem.W.findIn K (.ref C) n = some none ∧ fs.lookup n = some v ∧ Q v H1
/-- rows as tuples -/
def Rws2 (K : PySem.W.Frag) (H : Hp) : List V → List (List V) → Prop := Paired fun v row => ∃ t, v = .ref t ∧ SqT K H t row
section
variable {K : PySem.W.Frag}
theorem Rws2.stay {H H' : Hp} {vs : List V} {rows : List (List V)} (s : Stay K H H') (h : Rws2 K H vs rows) : Rws2 K H' vs rows := Paired.mapP h fun _ _ ⟨t, e, z⟩ => ⟨t, e, s.tup _ _ z⟩
theorem dps_rows {H : Hp} : ∀ {vs : List V} {rows : List (List V)} {ess : List (List PyData)}, Rws2 K H vs rows → Paired (fun row es => DpAll K H row es) rows ess → DpAll K H vs (ess.map .tuple)
  | _, _, _, .nil, .nil => .nil
  | _, _, _, .cons ⟨t, e, z⟩ r, .cons d q => by
    subst e
    exact .cons (.tup z d) (dps_rows r q)
theorem paired_at2 {α β : Type} {F : α → β → Prop} : ∀ {l : List α} {r : List β} {i : Nat} {y : β}, Paired F l r → r[i]? = some y → ∃ x, l[i]? = some x ∧ F x y
  | _, _, i, y, .nil, h => by simp at h
  | _, _, 0, y, .cons h _, e => by
    simp at e
    subst e
    exact ⟨_, rfl, h⟩
  | _, _, i + 1, y, .cons _ t, e => by
    obtain ⟨x, h1, h2⟩ := paired_at2 (i := i) (y := y) t (by simpa using e)
    exact ⟨x, by simpa using h1, h2⟩
/-- [row of e for e in xs] -/
theorem lc_rows {a : Addr} {xs : List V} {g : TG} {tt : TT} {te : TE} {vs : List Nat} {σ : L2.St} {Hb : Hp} {D : Addr} {Qd : Hp → Prop} (rows : List (List V)) (hlen : rows.length = xs.length) (hx : xs.length ≤ 1000) (hS : SqL K Hb a xs) (hD : Hb D = none)
    (hs : ∀ (i : Nat) (x : V) (row : List V) (H : Hp) (R : V → Hp → Prop) (N : Hp → Prop), xs[i]? = some x → rows[i]? = some row → Same Hb H → (∀ t H2, Same H H2 → SqT K H2 t row → R (.ref t) H2) →
      g x (wipe σ vs) H fun σ2 H2 => wipe σ2 vs = wipe σ vs ∧ tt σ2 H2 fun b H3 => if b = true then te σ2 H3 R else N H3)
    (hd : ∀ H' acc, Same Hb H' → H' D = some (.lst acc) → Rws2 K H' acc rows → Qd H') :
    ∃ W : Nat → Nat → Hp → Prop, (∃ m, W 0 m (upd Hb D (.lst []))) ∧ ∀ i m H, W i m H →
      ((Itl K a).stop i H ∧ Qd H) ∨ ((Itl K a).go i H ∧ ∃ Nx : Hp → Prop, (∀ H', Nx H' → ∃ m', m' < m ∧ W (i + 1) m' H') ∧ ∀ x H', (Itl K a).yld i H x H' → g x (wipe σ vs) H' fun σ2 H2 => wipe σ2 vs = wipe σ vs ∧ tt σ2 H2 fun b H3 =>
        if b = true then te σ2 H3 fun y H4 => ∃ acc, H4 D = some (.lst acc) ∧ acc.length < sizeLine ∧ Nx (upd H4 D (.lst (acc ++ [y]))) else Nx H3) := by
  refine lc_list (K := K) (a := a) (xs := xs) (fun i H' => ∃ acc, Same Hb H' ∧ H' D = some (.lst acc) ∧ Rws2 K H' acc (rows.take i)) ⟨[], same_new hD _, upd_same, .nil⟩ (fun i H' _ ⟨acc, sm, _⟩ => sm.seq hS) (fun i x H' hx' ⟨acc, sm, hacc, rw_⟩ => ?_) (fun H' ⟨acc, sm, hacc, rw_⟩ => ?_)
  · have hi : i < rows.length := by have := (List.getElem?_eq_some_iff.mp hx').1; omega
    have hrow : rows[i]? = some rows[i] := List.getElem?_eq_getElem hi
    refine hs i x rows[i] H' _ _ hx' hrow sm fun t H2 s2 ht => ⟨acc, s2 _ _ hacc, ?_, acc ++ [.ref t], sameM (sm.trans s2) hD, upd_same, ?_⟩
    · have := Paired.length rw_
      rw [List.length_take] at this
      rw [sizeLine_eq]
      omega
    · rw [take_snoc hrow]
      have st : Stay K H2 (upd H2 D (.lst (acc ++ [.ref t]))) := stay_lst (s2 _ _ hacc)
      exact Paired.snoc ((rw_.stay (stay_same s2)).stay st) ⟨t, rfl, st.tup _ _ ht⟩
  · rw [← hlen, List.take_length] at rw_
    exact hd H' acc sm hacc rw_
end
/-! ### the data that is compared -/
def nine : List (Str × Str) := [("one", "X"), ("one", "A"), ("one", "Z"), ("a", "X"), ("a", "A"), ("a", "Z"), ("listlist", "X"), ("listlist", "A"), ("listlist", "Z")]
abbrev eA (p : Str × Str) : List (List PyData) := [[.str p.1, .str "Unfit"], [.str p.1, .str "Unfit"], [.str p.1, .str "Looped"], [.str p.1, .str "Looped"]]
abbrev eB (p : Str × Str) : List (List PyData) := [[.str p.1, .str p.2, .str "Turned"], [.str p.1, .str p.2, .str "Turned"]]
abbrev eC (p : Str × Str) : List (List PyData) := [[.str p.1, .str "add", .str "Clash"], [.str p.1, .str "add", .str "Clash"]]
abbrev rg (p : Str × Str) : PyData := .tuple [.tuple [.str p.1, .str p.2], .tuple [.str "box", .str "X"]]
abbrev eD (p : Str × Str) : List (List PyData) := [[rg p, .str "Endless"], [rg p, .str "Endless"]]
def fit (e : List (List PyData)) : Bool := SeqAt.shaped (.list (e.map .tuple)) && PyData.eqv (.list (e.map .tuple)) (.list (e.map .tuple))
theorem fits : ∀ p ∈ nine, (fit (eA p) && fit (eB p) && fit (eC p) && fit (eD p) && (rg p).showable && !(rg p).hasDict && decide ((rg p).depth ≤ 60) && decide ((rg p).shown.length ≤ 1000)) = true ∧ p.1.length ≤ 10 ∧ p.2.length ≤ 10 := by decide +kernel
end N

namespace N
open PySem PySem.Spec PyProof.Rows L2 NdefX
abbrev f1 (n : Str) : List V → List (Str × V) := fun ys => [(n, ys.getD 0 .non)]
abbrev f2 (n m : Str) : List V → List (Str × V) := fun ys => [(m, ys.getD 1 .non), (n, ys.getD 0 .non)]
/-- what the classes with fields keep -/
structure Flds (P : Program) (w : World) (K : PySem.W.Frag) (mg : Str → Option Value) (base : Heap) (c : Nat → Addr) : Prop where
  xf : ∀ i, 13 ≤ i → i < 18 → XfC K (c i)
  n13 : PySem.W.findIn K (.ref (c 13)) "name" = some none
  n14 : PySem.W.findIn K (.ref (c 14)) "name" = some none
  n15 : PySem.W.findIn K (.ref (c 15)) "name" = some none
  n17 : PySem.W.findIn K (.ref (c 17)) "name" = some none
  m15 : PySem.W.findIn K (.ref (c 15)) "letter" = some none
  m17 : PySem.W.findIn K (.ref (c 17)) "member" = some none
  n16 : PySem.W.findIn K (.ref (c 16)) "cycle" = some none
  o13 : OwnK P w K mg base "Unfit" (c 13) 1 ["self", "name"] ["name"] (spIni (c 13) 1 okT (f1 "name"))
  o14 : OwnK P w K mg base "Looped" (c 14) 1 ["self", "name"] ["name"] (spIni (c 14) 1 okT (f1 "name"))
  o15 : OwnK P w K mg base "Turned" (c 15) 2 ["self", "name", "letter"] ["letter", "name"] (spIni (c 15) 2 okT (f2 "name" "letter"))
  o16 : OwnK P w K mg base "Endless" (c 16) 1 ["self", "cycle"] ["cycle"] (spIni (c 16) 1 (okD K) (f1 "cycle"))
  o17 : OwnK P w K mg base "Clash" (c 17) 2 ["self", "name", "member"] ["member", "name"] (spIni (c 17) 2 okT (f2 "name" "member"))
theorem okT_nil {H : Hp} : okT [] H := fun y h => by cases h
theorem okT_cons {H : Hp} {z : Str} {ys : List V} (hz : z.length ≤ 1000) (h : okT ys H) : okT (.str z :: ys) H := fun y hy => by
  rcases List.mem_cons.mp hy with e | hy
  · exact ⟨z, e, by rw [sizeLine_eq]; omega⟩
  · exact h y hy
theorem fit_of {e : List (List PyData)} (h : fit e = true) : SeqAt.shaped (.list (e.map .tuple)) = true ∧ PyData.eqv (.list (e.map .tuple)) (.list (e.map .tuple)) = true := Bool.and_eq_true_iff.mp h
section
variable {P : Program} {w : World} {K : PySem.W.Frag} {mg : Str → Option Value} {base : Heap} {c : Nat → Addr}
def spFields : Sp := fun vs H Q _ => ∃ p : Str × Str, vs = [.str p.1, .str p.2] ∧ p ∈ nine ∧ ∀ H', Same H H' → Q (.bl true) H'
/-- an exception with fields, and what its row has -/
def Exf (K : PySem.W.Frag) (c : Nat → Addr) (ns : List Str) (H : Hp) (x : V) (row : List V) : Prop := ∃ (j : Nat) (fs : List (Str × V)) (vs : List V), ExP H x (c j) fs ∧ 13 ≤ j ∧ j < 18 ∧ (∀ n ∈ ns, PySem.W.findIn K (.ref (c j)) n = some none) ∧ Paired (fun n v => fs.lookup n = some v) ns vs ∧ row = vs ++ [.str (exN j)]
theorem Exf.same {H H' : Hp} {ns : List Str} {x : V} {row : List V} (s : Same H H') (h : Exf K c ns H x row) : Exf K c ns H' x row := by
  obtain ⟨j, fs, vs, a, b⟩ := h
  exact ⟨j, fs, vs, a.same s, b⟩
def tRow1 (K : PySem.W.Frag) (c : Nat → Addr) (n : Str) : TE := tTup (tCons (tXv K n (tVar 3)) (tCons (tWd K c 3) tNil))
def tRow2 (K : PySem.W.Frag) (c : Nat → Addr) (n m : Str) : TE := tTup (tCons (tXv K n (tVar 3)) (tCons (tXv K m (tVar 3)) (tCons (tWd K c 3) tNil)))
theorem row1_step (Kl : Kls K mg c) (F : Flds P w K mg base c) {n : Str} {σ : L2.St} {H : Hp} {x : V} {row : List V} {R : VK} (e : Exf K c [n] H x row) (hσ : σ[3]? = some (some x)) (r : ∀ t H2, Same H H2 → SqT K H2 t row → R (.ref t) H2) : tRow1 K c n σ H R := by
  obtain ⟨j, fs, vs, hx, h1, h2, hn, hv, rfl⟩ := e
  cases hv with
  | cons v1 t =>
    cases t
    exact ⟨x, hσ, c j, fs, _, hx, F.xf j h1 h2, hn n List.mem_cons_self, v1, x, hσ, x, j, fs, rfl, h2, hx, fun H2 s2 => ⟨by show 2 ≤ sizeLine; decide, fun t ht => r t _ (s2.trans (same_new ht _)) (.inl (.inl upd_same))⟩⟩
theorem row2_step (Kl : Kls K mg c) (F : Flds P w K mg base c) {n m : Str} {σ : L2.St} {H : Hp} {x : V} {row : List V} {R : VK} (e : Exf K c [n, m] H x row) (hσ : σ[3]? = some (some x)) (r : ∀ t H2, Same H H2 → SqT K H2 t row → R (.ref t) H2) : tRow2 K c n m σ H R := by
  obtain ⟨j, fs, vs, hx, h1, h2, hn, hv, rfl⟩ := e
  cases hv with
  | cons v1 t =>
    cases t with
    | cons v2 t =>
      cases t
      exact ⟨x, hσ, c j, fs, _, hx, F.xf j h1 h2, hn n List.mem_cons_self, v1, x, hσ, c j, fs, _, hx, F.xf j h1 h2, hn m (List.mem_cons_of_mem _ List.mem_cons_self), v2, x, hσ, x, j, fs, rfl, h2, hx, fun H2 s2 => ⟨by show 3 ≤ sizeLine; decide, fun t ht => r t _ (s2.trans (same_new ht _)) (.inl (.inl upd_same))⟩⟩
theorem all1 {n : Str} {j : Nat} (h : PySem.W.findIn K (.ref (c j)) n = some none) : ∀ m ∈ [n], PySem.W.findIn K (.ref (c j)) m = some none := fun m hm => by rw [List.mem_singleton.mp hm]; exact h
theorem all2 {n n' : Str} {j : Nat} (h : PySem.W.findIn K (.ref (c j)) n = some none) (h' : PySem.W.findIn K (.ref (c j)) n' = some none) : ∀ m ∈ [n, n'], PySem.W.findIn K (.ref (c j)) m = some none := fun m hm => by
  rcases List.mem_cons.mp hm with e | hm
  · rw [e]; exact h
  · rw [List.mem_singleton.mp hm]; exact h'
theorem ok_fields (G : Glo mg) (Kl : Kls K mg c) (CW : Cal P w K mg base 1 "_law_word" ["_law_e"] (spWord K c)) (F : Flds P w K mg base c) (D : DefAt K mg "_law_fields_right" s_Lfields_right ["_law_called", "_law_sign"]) : Cal P w K mg base 4 "_law_fields_right" ["_law_called", "_law_sign"] spFields := by
  refine D.cal sc_Lfields_right (fun vs H Q E h => ?_) (fun f cdv A outer s H vs Q E hr h => ?_)
  · obtain ⟨p, rfl, _⟩ := h
    rfl
  obtain ⟨p, rfl, hp, q⟩ := h
  obtain ⟨ft, lcl, lsg⟩ := fits p hp
  obtain ⟨⟨⟨⟨⟨⟨⟨fA, fB⟩, fC⟩, fD⟩, g1⟩, g2⟩, g3⟩, g4⟩ := by simpa only [Bool.and_eq_true] using ft
  have hr1 : RoomG 1 (A.deeper (envOfC "_law_fields_right" (defScope s_Lfields_right) s.heap.objs.size f cdv)) := hr.mono (by decide)
  refine ⟨_, (pss_cons (ps_set (i := 2) sc_Lfields_right.nd rfl (Or.inl rfl) (pe_lst (pa_cons (pe_ownF F.o13 (by decide) hr (by rfl) (pa_cons (pv 0) pa_nil) (mon_var mon_nil)) (pa_cons (pe_ownFK F.o13 rfl hr (by rfl) (pk_cons (pv 0) pk_nil) (mon_var mon_nil)) (pa_cons (pe_ownF F.o14 (by decide) hr (by rfl) (pa_cons (pv 0) pa_nil) (mon_var mon_nil)) (pa_cons (pe_ownFK F.o14 rfl hr (by rfl) (pk_cons (pv 0) pk_nil) (mon_var mon_nil)) pa_nil))))))
    (pss_cons (ps_if (pt_cmpR (op_neD hr.units) (pe_lc (own := [("_law_e", 3)]) (g := gName 3) (tt := tYes) (te := tRow1 K c "name") rfl sc_Lfields_right.nd (pi_list (pv 2)) (blkOk_by (N := nm_Lfields_right) (sc := defScope s_Lfields_right) (own := [("_law_e", 3)]) (by decide +kernel)) (fun _ _ _ _ _ => pg_name (i := 3) sc_Lfields_right.nd rfl (Or.inl rfl)) (fun _ _ _ _ _ => pts_nil) (fun _ _ _ _ _ => (pe_tup (pa_cons (pe_exf (pv 3)) (pa_cons (pc CW hr1 rfl (pa_cons (pv 3) pa_nil)) pa_nil))))) (pe_op op_cat (pe_op op_rep (pe_lst (pa_cons (pe_tup (pa_cons (pv 0) (pa_cons pe_str pa_nil))) pa_nil)) pe_int) (pe_op op_rep (pe_lst (pa_cons (pe_tup (pa_cons (pv 0) (pa_cons pe_str pa_nil))) pa_nil)) pe_int)) (nomark _)) (pss_one (ps_ret pe_bl)) pss_nil)
    (pss_cons (ps_set (i := 2) sc_Lfields_right.nd rfl (Or.inl rfl) (pe_lst (pa_cons (pe_ownF F.o15 (by decide) hr (by rfl) (pa_cons (pv 0) (pa_cons (pv 1) pa_nil)) (mon_var (mon_var mon_nil))) (pa_cons (pe_ownFK F.o15 rfl hr (by rfl) (pk_cons (pv 1) (pk_cons (pv 0) pk_nil)) (mon_var (mon_var mon_nil))) pa_nil))))
    (pss_cons (ps_if (pt_cmpR (op_neD hr.units) (pe_lc (own := [("_law_e", 3)]) (g := gName 3) (tt := tYes) (te := tRow2 K c "name" "letter") rfl sc_Lfields_right.nd (pi_list (pv 2)) (blkOk_by (N := nm_Lfields_right) (sc := defScope s_Lfields_right) (own := [("_law_e", 3)]) (by decide +kernel)) (fun _ _ _ _ _ => pg_name (i := 3) sc_Lfields_right.nd rfl (Or.inl rfl)) (fun _ _ _ _ _ => pts_nil) (fun _ _ _ _ _ => (pe_tup (pa_cons (pe_exf (pv 3)) (pa_cons (pe_exf (pv 3)) (pa_cons (pc CW hr1 rfl (pa_cons (pv 3) pa_nil)) pa_nil)))))) (pe_op op_rep (pe_lst (pa_cons (pe_tup (pa_cons (pv 0) (pa_cons (pv 1) (pa_cons pe_str pa_nil)))) pa_nil)) pe_int) (nomark _)) (pss_one (ps_ret pe_bl)) pss_nil)
    (pss_cons (ps_set (i := 2) sc_Lfields_right.nd rfl (Or.inl rfl) (pe_lst (pa_cons (pe_ownF F.o17 (by decide) hr (by rfl) (pa_cons (pv 0) (pa_cons pe_str pa_nil)) (mon_var (mon_c mon_nil))) (pa_cons (pe_ownFK F.o17 rfl hr (by rfl) (pk_cons pe_str (pk_cons (pv 0) pk_nil)) (mon_c (mon_var mon_nil))) pa_nil))))
    (pss_cons (ps_if (pt_cmpR (op_neD hr.units) (pe_lc (own := [("_law_e", 3)]) (g := gName 3) (tt := tYes) (te := tRow2 K c "name" "member") rfl sc_Lfields_right.nd (pi_list (pv 2)) (blkOk_by (N := nm_Lfields_right) (sc := defScope s_Lfields_right) (own := [("_law_e", 3)]) (by decide +kernel)) (fun _ _ _ _ _ => pg_name (i := 3) sc_Lfields_right.nd rfl (Or.inl rfl)) (fun _ _ _ _ _ => pts_nil) (fun _ _ _ _ _ => (pe_tup (pa_cons (pe_exf (pv 3)) (pa_cons (pe_exf (pv 3)) (pa_cons (pc CW hr1 rfl (pa_cons (pv 3) pa_nil)) pa_nil)))))) (pe_op op_rep (pe_lst (pa_cons (pe_tup (pa_cons (pv 0) (pa_cons pe_str (pa_cons pe_str pa_nil)))) pa_nil)) pe_int) (nomark _)) (pss_one (ps_ret pe_bl)) pss_nil)
    (pss_cons (ps_set (i := 4) sc_Lfields_right.nd rfl (Or.inl rfl) (pe_tup (pa_cons (pe_tup (pa_cons (pv 0) (pa_cons (pv 1) pa_nil))) (pa_cons (pe_tup (pa_cons pe_str (pa_cons pe_str pa_nil))) pa_nil))))
    (pss_one (ps_ret (pe_cmpR (op_eqD hr.units) (pe_lc (own := [("_law_e", 3)]) (g := gName 3) (tt := tYes) (te := tRow1 K c "cycle") rfl sc_Lfields_right.nd (pi_list (pe_lst (pa_cons (pe_ownF F.o16 (by decide) hr (by rfl) (pa_cons (pv 4) pa_nil) (mon_var mon_nil)) (pa_cons (pe_ownFK F.o16 rfl hr (by rfl) (pk_cons (pv 4) pk_nil) (mon_var mon_nil)) pa_nil)))) (blkOk_by (N := nm_Lfields_right) (sc := defScope s_Lfields_right) (own := [("_law_e", 3)]) (by decide +kernel)) (fun _ _ _ _ _ => pg_name (i := 3) sc_Lfields_right.nd rfl (Or.inl rfl)) (fun _ _ _ _ _ => pts_nil) (fun _ _ _ _ _ => (pe_tup (pa_cons (pe_exf (pv 3)) (pa_cons (pc CW hr1 rfl (pa_cons (pv 3) pa_nil)) pa_nil))))) (pe_op op_rep (pe_lst (pa_cons (pe_tup (pa_cons (pv 4) (pa_cons pe_str pa_nil))) pa_nil)) pe_int) (nomark _))))))))))), ?_⟩
  refine ⟨_, rfl, rfl, fun _ _ => okT_cons (by omega) okT_nil, fun H1 a1 s1 e1 => ?_⟩
  refine ⟨_, rfl, rfl, fun _ _ => okT_cons (by omega) okT_nil, fun H2 a2 s2 e2 => ?_⟩
  refine ⟨_, rfl, rfl, fun _ _ => okT_cons (by omega) okT_nil, fun H3 a3 s3 e3 => ?_⟩
  refine ⟨_, rfl, rfl, fun _ _ => okT_cons (by omega) okT_nil, fun H4 a4 s4 e4 => ?_⟩
  refine ⟨by show 4 ≤ sizeLine; decide, fun l1 k1 => ?_⟩
  have L1 : (upd H4 l1 (.lst [.ref a1, .ref a2, .ref a3, .ref a4])) l1 = some (.lst [.ref a1, .ref a2, .ref a3, .ref a4]) := upd_same
  have S1 : Same H (upd H4 l1 (.lst [.ref a1, .ref a2, .ref a3, .ref a4])) := (((s1.trans s2).trans s3).trans s4).trans (same_new k1 _)
  have X1 : Paired (Exf K c ["name"] (upd H4 l1 (.lst [.ref a1, .ref a2, .ref a3, .ref a4]))) [.ref a1, .ref a2, .ref a3, .ref a4] [[.str p.1, .str "Unfit"], [.str p.1, .str "Unfit"], [.str p.1, .str "Looped"], [.str p.1, .str "Looped"]] :=
    .cons ⟨13, _, [.str p.1], e1.same (((s2.trans s3).trans s4).trans (same_new k1 _)), by decide, by decide, all1 F.n13, .cons rfl .nil, rfl⟩
      (.cons ⟨13, _, [.str p.1], e2.same ((s3.trans s4).trans (same_new k1 _)), by decide, by decide, all1 F.n13, .cons rfl .nil, rfl⟩
      (.cons ⟨14, _, [.str p.1], e3.same (s4.trans (same_new k1 _)), by decide, by decide, all1 F.n14, .cons rfl .nil, rfl⟩
      (.cons ⟨14, _, [.str p.1], e4.same (same_new k1 _), by decide, by decide, all1 F.n14, .cons rfl .nil, rfl⟩ .nil)))
  revert L1 S1 X1
  generalize upd H4 l1 (.lst [.ref a1, .ref a2, .ref a3, .ref a4]) = HA
  intro L1 S1 X1
  refine ⟨_, rfl, l1, rfl, ⟨_, SqL.of L1⟩, fun D1 hD1 => ?_⟩
  refine lc_rows (te := tRow1 K c "name") [[.str p.1, .str "Unfit"], [.str p.1, .str "Unfit"], [.str p.1, .str "Looped"], [.str p.1, .str "Looped"]] rfl (by show 4 ≤ 1000; decide) (SqL.of L1) hD1 (fun i x row H' R N hx hrow sm r => ?_) (fun H' acc sm hacc hrw => ?_)
  · obtain ⟨x', h1, h2⟩ := paired_at2 X1 hrow
    cases hx.symm.trans h1
    exact ⟨rfl, row1_step Kl F (h2.same sm) rfl r⟩
  refine ⟨_, rfl, by show 2 ≤ sizeLine; decide, fun t1 k2 => ⟨by show 1 ≤ sizeLine; decide, fun m1 k3 => ⟨m1, 2, _, rfl, rfl, upd_same, by decide, by decide, by show 2 ≤ sizeLine; decide, fun m2 k4 => ?_⟩⟩⟩
  refine ⟨_, rfl, by show 2 ≤ sizeLine; decide, fun t2 k5 => ⟨by show 1 ≤ sizeLine; decide, fun m3 k6 => ⟨m3, 2, _, rfl, rfl, upd_same, by decide, by decide, by show 2 ≤ sizeLine; decide, fun m4 k7 => ?_⟩⟩⟩
  refine ⟨m2, m4, _, _, rfl, rfl, same_new k7 _ _ _ (same_new k6 _ _ _ (same_new k5 _ _ _ upd_same)), upd_same, by show 4 ≤ sizeLine; decide, fun m5 k8 => ?_⟩
  have dA : ∀ {H : Hp}, Paired (fun row es => DpAll K H row es) [[.str p.1, .str "Unfit"], [.str p.1, .str "Unfit"], [.str p.1, .str "Looped"], [.str p.1, .str "Looped"]] (eA p) :=
    .cons (.cons (.str _) (.cons (.str _) .nil)) (.cons (.cons (.str _) (.cons (.str _) .nil)) (.cons (.cons (.str _) (.cons (.str _) .nil)) (.cons (.cons (.str _) (.cons (.str _) .nil)) .nil)))
  have z8 := same_new k8 (.lst ((List.replicate (2 : Int).toNat [V.ref t1]).flatten ++ (List.replicate (2 : Int).toNat [V.ref t2]).flatten))
  have z1 := (((((same_new k2 _).trans (same_new k3 _)).trans (same_new k4 _)).trans (same_new k5 _)).trans ((same_new k6 _).trans (same_new k7 _))).trans z8
  have u1 := z8 _ _ (same_new k7 _ _ _ (same_new k6 _ _ _ (same_new k5 _ _ _ (same_new k4 _ _ _ (same_new k3 _ _ _ (upd_same (H := H') (a := t1) (o := .tup [.str p.1, .str "Unfit"])))))))
  have u2 := z8 _ _ (same_new k7 _ _ _ (same_new k6 _ _ _ (upd_same (a := t2) (o := .tup [.str p.1, .str "Looped"]))))
  refine ⟨.list ((eA p).map .tuple), .list ((eA p).map .tuple), .lst (SqL.of (z1 _ _ hacc)) (dps_rows (hrw.stay (stay_same z1)) dA), .lst (SqL.of upd_same) (dps_rows (rows := [[.str p.1, .str "Unfit"], [.str p.1, .str "Unfit"], [.str p.1, .str "Looped"], [.str p.1, .str "Looped"]]) (.cons ⟨t1, rfl, .inl (.inl u1)⟩ (.cons ⟨t1, rfl, .inl (.inl u1)⟩ (.cons ⟨t2, rfl, .inl (.inl u2)⟩ (.cons ⟨t2, rfl, .inl (.inl u2)⟩ .nil)))) dA), (fit_of fA).1, (fit_of fA).1, _, rfl, iteN (by rw [(fit_of fA).2]; rfl) ?_⟩
  have SA := (S1.trans sm).trans z1
  refine ⟨_, rfl, _, rfl, rfl, fun _ _ => okT_cons (by omega) (okT_cons (by omega) okT_nil), fun H1 a1 s1 e1 => ?_⟩
  refine ⟨_, rfl, _, rfl, rfl, fun _ _ => okT_cons (by omega) (okT_cons (by omega) okT_nil), fun H2 a2 s2 e2 => ?_⟩
  refine ⟨by show 2 ≤ sizeLine; decide, fun l1 k1 => ?_⟩
  have L1 : (upd H2 l1 (.lst [.ref a1, .ref a2])) l1 = some (.lst [.ref a1, .ref a2]) := upd_same
  have S1 : Same H (upd H2 l1 (.lst [.ref a1, .ref a2])) := ((SA.trans s1).trans s2).trans (same_new k1 _)
  have X1 : Paired (Exf K c ["name", "letter"] (upd H2 l1 (.lst [.ref a1, .ref a2]))) [.ref a1, .ref a2] [[.str p.1, .str p.2, .str "Turned"], [.str p.1, .str p.2, .str "Turned"]] :=
    .cons ⟨15, _, [.str p.1, .str p.2], e1.same (s2.trans (same_new k1 _)), by decide, by decide, all2 F.n15 F.m15, .cons rfl (.cons rfl .nil), rfl⟩
      (.cons ⟨15, _, [.str p.1, .str p.2], e2.same (same_new k1 _), by decide, by decide, all2 F.n15 F.m15, .cons rfl (.cons rfl .nil), rfl⟩ .nil)
  revert L1 S1 X1
  generalize (upd H2 l1 (.lst [.ref a1, .ref a2])) = HB
  intro L1 S1 X1
  refine ⟨_, rfl, l1, rfl, ⟨_, SqL.of L1⟩, fun D1 hD1 => ?_⟩
  refine lc_rows (te := tRow2 K c "name" "letter") [[.str p.1, .str p.2, .str "Turned"], [.str p.1, .str p.2, .str "Turned"]] rfl (by show 2 ≤ 1000; decide) (SqL.of L1) hD1 (fun i x row H' R N hx hrow sm r => ?_) (fun H' acc sm hacc hrw => ?_)
  · obtain ⟨x', h1, h2⟩ := paired_at2 X1 hrow
    cases hx.symm.trans h1
    exact ⟨rfl, row2_step Kl F (h2.same sm) rfl r⟩
  refine ⟨_, rfl, _, rfl, by show 3 ≤ sizeLine; decide, fun t1 k2 => ⟨by show 1 ≤ sizeLine; decide, fun m1 k3 => ⟨m1, 2, _, rfl, rfl, upd_same, by decide, by decide, by show 2 ≤ sizeLine; decide, fun m2 k4 => ?_⟩⟩⟩
  have dB : ∀ {H : Hp}, Paired (fun row es => DpAll K H row es) [[.str p.1, .str p.2, .str "Turned"], [.str p.1, .str p.2, .str "Turned"]] (eB p) := .cons (.cons (.str _) (.cons (.str _) (.cons (.str _) .nil))) (.cons (.cons (.str _) (.cons (.str _) (.cons (.str _) .nil))) .nil)
  have z8 := same_new k4 (.lst (List.replicate (2 : Int).toNat [V.ref t1]).flatten)
  have z1 := ((same_new k2 _).trans (same_new k3 _)).trans z8
  have u1 := z8 _ _ (same_new k3 _ _ _ (upd_same (H := H') (a := t1) (o := .tup [.str p.1, .str p.2, .str "Turned"])))
  refine ⟨.list ((eB p).map .tuple), .list ((eB p).map .tuple), .lst (SqL.of (z1 _ _ hacc)) (dps_rows (hrw.stay (stay_same z1)) dB), .lst (SqL.of upd_same) (dps_rows (rows := [[.str p.1, .str p.2, .str "Turned"], [.str p.1, .str p.2, .str "Turned"]]) (.cons ⟨t1, rfl, .inl (.inl u1)⟩ (.cons ⟨t1, rfl, .inl (.inl u1)⟩ .nil)) dB), (fit_of fB).1, (fit_of fB).1, _, rfl, iteN (by rw [(fit_of fB).2]; rfl) ?_⟩
  have SB := (S1.trans sm).trans z1
  refine ⟨_, rfl, rfl, fun _ _ => okT_cons (by omega) (okT_cons (by decide +kernel) okT_nil), fun H1 a1 s1 e1 => ?_⟩
  refine ⟨_, rfl, rfl, fun _ _ => okT_cons (by omega) (okT_cons (by decide +kernel) okT_nil), fun H2 a2 s2 e2 => ?_⟩
  refine ⟨by show 2 ≤ sizeLine; decide, fun l1 k1 => ?_⟩
  have L1 : (upd H2 l1 (.lst [.ref a1, .ref a2])) l1 = some (.lst [.ref a1, .ref a2]) := upd_same
  have S1 : Same H (upd H2 l1 (.lst [.ref a1, .ref a2])) := ((SB.trans s1).trans s2).trans (same_new k1 _)
  have X1 : Paired (Exf K c ["name", "member"] (upd H2 l1 (.lst [.ref a1, .ref a2]))) [.ref a1, .ref a2] [[.str p.1, .str "add", .str "Clash"], [.str p.1, .str "add", .str "Clash"]] :=
    .cons ⟨17, _, [.str p.1, .str "add"], e1.same (s2.trans (same_new k1 _)), by decide, by decide, all2 F.n17 F.m17, .cons rfl (.cons rfl .nil), rfl⟩
      (.cons ⟨17, _, [.str p.1, .str "add"], e2.same (same_new k1 _), by decide, by decide, all2 F.n17 F.m17, .cons rfl (.cons rfl .nil), rfl⟩ .nil)
  revert L1 S1 X1
  generalize (upd H2 l1 (.lst [.ref a1, .ref a2])) = HB
  intro L1 S1 X1
  refine ⟨_, rfl, l1, rfl, ⟨_, SqL.of L1⟩, fun D1 hD1 => ?_⟩
  refine lc_rows (te := tRow2 K c "name" "member") [[.str p.1, .str "add", .str "Clash"], [.str p.1, .str "add", .str "Clash"]] rfl (by show 2 ≤ 1000; decide) (SqL.of L1) hD1 (fun i x row H' R N hx hrow sm r => ?_) (fun H' acc sm hacc hrw => ?_)
  · obtain ⟨x', h1, h2⟩ := paired_at2 X1 hrow
    cases hx.symm.trans h1
    exact ⟨rfl, row2_step Kl F (h2.same sm) rfl r⟩
  refine ⟨_, rfl, by show 3 ≤ sizeLine; decide, fun t1 k2 => ⟨by show 1 ≤ sizeLine; decide, fun m1 k3 => ⟨m1, 2, _, rfl, rfl, upd_same, by decide, by decide, by show 2 ≤ sizeLine; decide, fun m2 k4 => ?_⟩⟩⟩
  have dB : ∀ {H : Hp}, Paired (fun row es => DpAll K H row es) [[.str p.1, .str "add", .str "Clash"], [.str p.1, .str "add", .str "Clash"]] (eC p) := .cons (.cons (.str _) (.cons (.str _) (.cons (.str _) .nil))) (.cons (.cons (.str _) (.cons (.str _) (.cons (.str _) .nil))) .nil)
  have z8 := same_new k4 (.lst (List.replicate (2 : Int).toNat [V.ref t1]).flatten)
  have z1 := ((same_new k2 _).trans (same_new k3 _)).trans z8
  have u1 := z8 _ _ (same_new k3 _ _ _ (upd_same (H := H') (a := t1) (o := .tup [.str p.1, .str "add", .str "Clash"])))
  refine ⟨.list ((eC p).map .tuple), .list ((eC p).map .tuple), .lst (SqL.of (z1 _ _ hacc)) (dps_rows (hrw.stay (stay_same z1)) dB), .lst (SqL.of upd_same) (dps_rows (rows := [[.str p.1, .str "add", .str "Clash"], [.str p.1, .str "add", .str "Clash"]]) (.cons ⟨t1, rfl, .inl (.inl u1)⟩ (.cons ⟨t1, rfl, .inl (.inl u1)⟩ .nil)) dB), (fit_of fC).1, (fit_of fC).1, _, rfl, iteN (by rw [(fit_of fC).2]; rfl) ?_⟩
  have SC := (S1.trans sm).trans z1
  refine ⟨_, rfl, _, rfl, by show 2 ≤ sizeLine; decide, fun r1 k1 => ⟨by show 2 ≤ sizeLine; decide, fun r2 k2 => ⟨by show 2 ≤ sizeLine; decide, fun r3 k3 => ?_⟩⟩⟩
  have w3 := same_new k3 (.tup [.ref r1, .ref r2])
  have S3 := ((SC.trans (same_new k1 _)).trans (same_new k2 _)).trans w3
  have hd := Dp.tup (K := K) (.inl (.inl (w3 _ _ (same_new k2 (.tup [.str "box", .str "X"]) _ _ (upd_same (a := r1) (o := .tup [.str p.1, .str p.2])))))) (.cons (.str p.1) (.cons (.str p.2) .nil))
  have hd' := Dp.tup (K := K) (.inl (.inl (w3 _ _ (upd_same (a := r2) (o := .tup [.str "box", .str "X"]))))) (.cons (.str "box") (.cons (.str "X") .nil))
  have hD := Dp.tup (K := K) (.inl (.inl (upd_same (a := r3) (o := .tup [.ref r1, .ref r2])))) (.cons hd (.cons hd' .nil))
  have g2' : (rg p).hasDict = false := by simpa using g2
  have g3' : (rg p).depth ≤ 60 := of_decide_eq_true g3
  have g4' : (rg p).shown.length ≤ sizeLine := Nat.le_trans (of_decide_eq_true g4) (by rw [sizeLine_eq]; omega)
  refine ⟨_, rfl, rfl, fun H' s' => ⟨r3, rg p, rfl, dp_mono s' _ _ hD, g1, g2', g3', g4'⟩, fun H1 a1 s1 e1 => ?_⟩
  refine ⟨_, rfl, rfl, fun H' s' => ⟨r3, rg p, rfl, dp_mono (s1.trans s') _ _ hD, g1, g2', g3', g4'⟩, fun H2 a2 s2 e2 => ?_⟩
  refine ⟨by show 2 ≤ sizeLine; decide, fun l1 q1 => ?_⟩
  have L1 : (upd H2 l1 (.lst [.ref a1, .ref a2])) l1 = some (.lst [.ref a1, .ref a2]) := upd_same
  have w4 := (s1.trans s2).trans (same_new q1 (.lst [.ref a1, .ref a2]))
  have S4 := S3.trans w4
  have X1 : Paired (Exf K c ["cycle"] (upd H2 l1 (.lst [.ref a1, .ref a2]))) [.ref a1, .ref a2] [[.ref r3, .str "Endless"], [.ref r3, .str "Endless"]] :=
    .cons ⟨16, _, [.ref r3], e1.same (s2.trans (same_new q1 _)), by decide, by decide, all1 F.n16, .cons rfl .nil, rfl⟩
      (.cons ⟨16, _, [.ref r3], e2.same (same_new q1 _), by decide, by decide, all1 F.n16, .cons rfl .nil, rfl⟩ .nil)
  have dD := dp_mono w4 _ _ hD
  revert L1 S4 X1 dD
  generalize upd H2 l1 (.lst [.ref a1, .ref a2]) = HD
  intro L1 S4 X1 dD
  refine ⟨l1, rfl, ⟨_, SqL.of L1⟩, fun D1 hD1 => ?_⟩
  refine lc_rows (te := tRow1 K c "cycle") [[.ref r3, .str "Endless"], [.ref r3, .str "Endless"]] rfl (by show 2 ≤ 1000; decide) (SqL.of L1) hD1 (fun i x row H' R N hx hrow sm r => ?_) (fun H' acc sm hacc hrw => ?_)
  · obtain ⟨x', h1, h2⟩ := paired_at2 X1 hrow
    cases hx.symm.trans h1
    exact ⟨rfl, row1_step Kl F (h2.same sm) rfl r⟩
  refine ⟨_, rfl, by show 2 ≤ sizeLine; decide, fun t1 k5 => ⟨by show 1 ≤ sizeLine; decide, fun m1 k6 => ⟨m1, 2, _, rfl, rfl, upd_same, by decide, by decide, by show 2 ≤ sizeLine; decide, fun m2 k7 => ?_⟩⟩⟩
  have z8 := same_new k7 (.lst (List.replicate (2 : Int).toNat [V.ref t1]).flatten)
  have z1 := ((same_new k5 _).trans (same_new k6 _)).trans z8
  have u1 := z8 _ _ (same_new k6 _ _ _ (upd_same (H := H') (a := t1) (o := .tup [.ref r3, .str "Endless"])))
  have dE := dp_mono (sm.trans z1) _ _ dD
  have pE := Paired.cons (F := fun row es => DpAll K _ row es) (.cons dE (.cons (.str "Endless") .nil)) (.cons (.cons dE (.cons (.str "Endless") .nil)) .nil)
  refine ⟨.list ((eD p).map .tuple), .list ((eD p).map .tuple), .lst (SqL.of (z1 _ _ hacc)) (dps_rows (hrw.stay (stay_same z1)) pE), .lst (SqL.of upd_same) (dps_rows (rows := [[.ref r3, .str "Endless"], [.ref r3, .str "Endless"]]) (.cons ⟨t1, rfl, .inl (.inl u1)⟩ (.cons ⟨t1, rfl, .inl (.inl u1)⟩ .nil)) pE), (fit_of fD).1, (fit_of fD).1, ?_⟩
  rw [(fit_of fD).2]
  exact q _ ((S4.trans sm).trans z1)
end
end N

namespace N
open PySem PySem.Spec PyProof.Rows L2 NdefX
section
variable {P : Program} {w : World} {K : PySem.W.Frag} {mg : Str → Option Value} {base : Heap} {c : Nat → Addr}
theorem penNe {H : Hp} {p l : Addr} (h : Pen H p) (hl : H l = none) : l ≠ p := fun e => by
  obtain ⟨i, j, k, z, _⟩ := h
  rw [← e, hl] at z
  cases z
theorem barS {p : Addr} {H H1 H2 : Hp} (sm : Same H H1) (hp : H p = none) (b : Bar p H1 H2) : Same H H2 := fun x o h => b x o (ne_of_none h hp) (sm x o h)
def cN : List Str := ["one", "a", "listlist"]
def sN : List Str := ["X", "A", "Z"]
theorem nine_mem : ∀ x ∈ cN, ∀ y ∈ sN, (x, y) ∈ nine := by decide +kernel
def spLaw (K : PySem.W.Frag) : Sp := fun vs H Q _ => ∃ (a : Addr) (ns : List Int), vs = [.ref a] ∧ SqL K H a (ns.map V.int) ∧ ns.length ≤ 63 ∧ ∀ H', Q (.bl true) H'
theorem ok_law (G : Glo mg) (CC : Cal P w K mg base 1 "_law_cell_at" ["_law_script", "_law_k"] (spCell K)) (CP : Cal P w K mg base 1 "_law_pen" ["_law_cell"] (spPen K)) (CD : Cal P w K mg base 1 "_law_draw" ["_law_pen_here", "_law_many"] (spDraw K))
    (CI : Cal P w K mg base 2 "_law_pick" ["_law_pen_here", "_law_some"] (spPick K)) (CA : Cal P w K mg base 2 "_law_plain_right" ["_law_many"] spPlain) (CF : Cal P w K mg base 4 "_law_fields_right" ["_law_called", "_law_sign"] spFields)
    {f : Addr} {fd : FuncData} (D : Fun K "law" "law" s_law f fd) : FnG P w K mg base (L2.CX P w) 5 f fd ["_law_script"] (spLaw K) := by
  refine fnG_of D sc_law (fun vs H Q E h => ?_) (fun cdv A outer s H vs Q E hr h => ?_)
  · obtain ⟨a, ns, rfl, _⟩ := h
    rfl
  obtain ⟨a, ns, rfl, hS, hlen, q⟩ := h
  have hr1 : RoomG 1 _ := hr.mono (by decide)
  have hr2 : RoomG 2 _ := hr.mono (by decide)
  refine ⟨_, pss_cons (ps_for (passes_of rfl) rfl (pi_range1 rfl G.range (pa_cons (pe_callB (call_max2 rfl) (by rfl) G.max (by decide +kernel) (pa_cons pe_int (pa_cons (pe_callB (call_min2 rfl) (by rfl) G.min (by decide +kernel) (pa_cons (pe_callB call_len_seq (by rfl) G.len PySem.boot_len (pa_cons (pv 0) pa_nil)) (pa_cons pe_int pa_nil))) pa_nil))) pa_nil)) (pg_name (i := 1) sc_law.nd rfl (Or.inl rfl))
      (pss_cons (ps_set (i := 2) sc_law.nd rfl (Or.inl rfl) (pc CP hr1 rfl (pa_cons (pc CC hr1 rfl (pa_cons (pv 0) (pa_cons (pv 1) pa_nil))) pa_nil)))
      (pss_cons (ps_if (pt_not (pt_val (pc CA hr2 rfl (pa_cons (pc CD hr1 rfl (pa_cons (pv 2) (pa_cons pe_int pa_nil))) pa_nil)))) (pss_one (ps_ret pe_bl)) pss_nil)
      (pss_one (ps_if (pt_not (pt_val (pc CF hr rfl (pa_cons (pc CI hr2 rfl (pa_cons (pv 2) (pa_cons (pe_lst (pa_cons pe_str (pa_cons pe_str (pa_cons pe_str pa_nil)))) pa_nil))) (pa_cons (pc CI hr2 rfl (pa_cons (pv 2) (pa_cons (pe_lst (pa_cons pe_str (pa_cons pe_str (pa_cons pe_str pa_nil)))) pa_nil))) pa_nil))))) (pss_one (ps_ret pe_bl)) pss_nil)))))
    (pss_one (ps_ret pe_bl)), ?_⟩
  refine ⟨_, rfl, a, _, rfl, .inl hS, _, _, rfl, _, _, rfl, _, rfl, ?_, ?_, ?_⟩
  · rw [List.length_map]; split <;> split <;> omega
  · rw [List.length_map]; split <;> split <;> omega
  refine for_range (fun i σ H' => ∃ y1 y2, σ = [some (.ref a), y1, y2] ∧ Same H H') ⟨_, _, rfl, Same.refl _⟩ (fun i σ H' hi ⟨y1, y2, eσ, sm⟩ => ?_) (fun σ H' ⟨y1, y2, eσ, sm⟩ => ?_)
  · subst eσ
    refine ⟨_, rfl, _, rfl, a, ns, i, by rw [Int.zero_add], sm.seq hS, fun n => ⟨n, rfl, fun p H1 sm1 hp0 pn1 => ?_⟩⟩
    have s1 := sm.trans sm1
    have hpS : H p = none := sm.free hp0
    refine ⟨_, rfl, p, 20, rfl, pn1, by decide, by decide, fun H2 r b2 pn2 r0 r1 => ?_⟩
    have s2 := barS s1 hpS b2
    have er : r = ((r.toNat : Nat) : Int) := by omega
    refine ⟨r.toNat, by rw [← er], by omega, fun H3 s23 => ⟨_, rfl, iteN rfl ?_⟩⟩
    have pn3 := pn2.same s23
    have s3 := s2.trans s23
    refine ⟨_, rfl, by show 3 ≤ sizeLine; decide, fun l1 h1 => ?_⟩
    have n1 := penNe pn3 h1
    refine ⟨p, l1, cN.map V.str, rfl, pn3.same (same_new h1 _), n1, SqL.of upd_same, by decide, by decide, fun H4 x b4 pn4 hx => ?_⟩
    have s4 := barS (s3.trans (same_new h1 _)) hpS b4
    refine ⟨_, rfl, by show 3 ≤ sizeLine; decide, fun l2 h2 => ?_⟩
    have n2 := penNe pn4 h2
    refine ⟨p, l2, sN.map V.str, rfl, pn4.same (same_new h2 _), n2, SqL.of upd_same, by decide, by decide, fun H5 y b5 pn5 hy => ?_⟩
    have s5 := barS (s4.trans (same_new h2 _)) hpS b5
    obtain ⟨x', mx, rfl⟩ := List.mem_map.mp hx
    obtain ⟨y', my, rfl⟩ := List.mem_map.mp hy
    refine ⟨(x', y'), rfl, nine_mem x' mx y' my, fun H6 s56 => ⟨_, rfl, iteN rfl ?_⟩⟩
    exact ⟨_, _, rfl, s5.trans s56⟩
  · exact q H'
end
end N

namespace N
open PySem PySem.Spec PyProof.Rows L2 NdefX
/-! ### what the written part says of the eighteen classes, by one look -/
abbrev at_ (cs : List Addr) : Nat → Addr := fun j => cs.getD j 0
def excB (K : PySem.W.Frag) (D : Addr) : Bool :=
  decide (PySem.W.findIn K (.ref D) "__getattribute__" = some (some (.builtin "BaseException.__getattribute__"))) && (decide (PySem.W.findIn K (.ref D) "__getattr__" = some none) && (decide (PySem.W.subIn K (.ref D) (.type "BaseException") = some true) && (PySem.W.hasDictIn K D && (decide (PySem.W.findIn K (.ref D) "__class__" = some (some (.builtin "object.__class__"))) &&
    (decide (PySem.W.specialIn K (.builtin "object.__class__") "__get__" = some (some (.builtin "getset_descriptor.__get__"))) && (decide (PySem.W.takesIn K (.builtin "object.__class__") = some true) && decide (PySem.W.mroIn K D (.type "object") = some true)))))))
theorem excB_ok {K : PySem.W.Frag} {D : Addr} (h : excB K D = true) : ExcC K D := by
  unfold excB at h
  simp only [Bool.and_eq_true, decide_eq_true_eq] at h
  obtain ⟨a, b, c, d, e, f, g, i⟩ := h
  exact ⟨a, b, c, d, e, f, g, i⟩
def kitB (K : PySem.W.Frag) (cs : List Addr) (ke : Addr) : Bool :=
  (List.range 18).all fun i => (List.range 18).all (fun j => decide (PySem.W.kitOne K (.ref (at_ cs i)) (.ref (at_ cs j)) = some (decide (i = j)))) && (decide (PySem.W.kitOne K (.ref (at_ cs i)) (.type "ValueError") = some true) && (decide (PySem.W.kitOne K (.ref (at_ cs i)) (.ref ke) = some true) && excB K (at_ cs i)))
def bareB (K : PySem.W.Frag) (cs : List Addr) : Bool := (List.range 13).all fun i => PySem.W.excIn K (at_ cs i) veB "ValueError.__new__" && PySem.W.keepIn K (.ref (at_ cs i))
def fldB (K : PySem.W.Frag) (cs : List Addr) : Bool :=
  [13, 14, 15, 16, 17].all (fun i => xfB K (at_ cs i)) && [(13, ("name" : Str)), (14, "name"), (15, "name"), (17, "name"), (15, "letter"), (17, "member"), (16, "cycle")].all fun q => decide (PySem.W.findIn K (.ref (at_ cs q.1)) q.2 = some none)
theorem lt18 {p : Nat → Prop} (h : ∀ i ∈ List.range 18, p i) : ∀ i, i < 18 → p i := fun i hi => h i (List.mem_range.mpr hi)
theorem kls_of {K : PySem.W.Frag} {mg : Str → Option Value} {cs : List Addr} {ke : Addr} (g : ∀ j, j < 18 → mg (exN j) = some (.ref (at_ cs j))) (gk : mg "KindError" = some (.ref ke)) (h : kitB K cs ke = true) : Kls K mg (at_ cs) := by
  unfold kitB at h
  have h' := fun i hi => List.all_eq_true.mp h i (List.mem_range.mpr hi)
  simp only [Bool.and_eq_true, decide_eq_true_eq, List.all_eq_true] at h'
  exact ⟨g, fun j hj => excB_ok (h' j hj).2.2.2, fun i j hi hj => (h' i hi).1 j (List.mem_range.mpr hj), fun i hi => (h' i hi).2.1, ke, gk, fun i hi => (h' i hi).2.2.1⟩
theorem bare_of {K : PySem.W.Frag} {cs : List Addr} (h : bareB K cs = true) : Bare K (at_ cs) := by
  unfold bareB at h
  have h' := fun i hi => List.all_eq_true.mp h i (List.mem_range.mpr hi)
  simp only [Bool.and_eq_true] at h'
  exact ⟨fun i hi => (h' i hi).1, fun i hi => (h' i hi).2⟩
theorem flds_of {P : Program} {w : World} {K : PySem.W.Frag} {mg : Str → Option Value} {base : Heap} {cs : List Addr} (h : fldB K cs = true)
    (o13 : OwnK P w K mg base "Unfit" (at_ cs 13) 1 ["self", "name"] ["name"] (spIni (at_ cs 13) 1 okT (f1 "name")))
    (o14 : OwnK P w K mg base "Looped" (at_ cs 14) 1 ["self", "name"] ["name"] (spIni (at_ cs 14) 1 okT (f1 "name")))
    (o15 : OwnK P w K mg base "Turned" (at_ cs 15) 2 ["self", "name", "letter"] ["letter", "name"] (spIni (at_ cs 15) 2 okT (f2 "name" "letter")))
    (o16 : OwnK P w K mg base "Endless" (at_ cs 16) 1 ["self", "cycle"] ["cycle"] (spIni (at_ cs 16) 1 (okD K) (f1 "cycle")))
    (o17 : OwnK P w K mg base "Clash" (at_ cs 17) 2 ["self", "name", "member"] ["member", "name"] (spIni (at_ cs 17) 2 okT (f2 "name" "member"))) : Flds P w K mg base (at_ cs) := by
  unfold fldB at h
  obtain ⟨h1, h2⟩ := Bool.and_eq_true_iff.mp h
  have h1' := List.all_eq_true.mp h1
  have h2' := List.all_eq_true.mp h2
  have nf : ∀ q ∈ [(13, ("name" : Str)), (14, "name"), (15, "name"), (17, "name"), (15, "letter"), (17, "member"), (16, "cycle")], PySem.W.findIn K (.ref (at_ cs q.1)) q.2 = some none := fun q hq => of_decide_eq_true (h2' q hq)
  refine ⟨fun i a b => xfB_ok (h1' i ?_), nf (13, "name") (by simp), nf (14, "name") (by simp), nf (15, "name") (by simp), nf (17, "name") (by simp), nf (15, "letter") (by simp), nf (17, "member") (by simp), nf (16, "cycle") (by simp), o13, o14, o15, o16, o17⟩
  have : i = 13 ∨ i = 14 ∨ i = 15 ∨ i = 16 ∨ i = 17 := by omega
  simpa using this
/-- facts of one class with an own __init__, as they can be looked up -/
structure Look1 (K : PySem.W.Frag) (file : Str) (C f cc cda : Addr) (qual : Str) (params : Arguments) (body : List Stmt) (scope : Scope) : Prop where
  mk ::
  ox : OexC K C
  rest : IniC K file C f cc cda qual params body scope
theorem iniC_of {K : PySem.W.Frag} {file : Str} {C f cc cda : Addr} {qual : Str} {params : Arguments} {body : List Stmt} {scope : Scope} {nm q : Str} {Na : Addr} {bs bm : List Value} {sn : List Str} {sub : List Value} {ab : Bool} {col : Option Bool} {dd : Option Addr} {k0 k1 k2 k3 k5 : Option Value}
    {oc dV kV doc pm ct : Value} {od an : Option Addr} {osl : Array (Option Value)} {ccl : Value} {cdd : Option Addr} {vs : Array Value} {ccs : Array (Option Value)} {tf : Tok} {cl : Value} {cld : Option Addr} {csl : Array (Option Value)} {cd : ClassData}
    (ini : PySem.W.findIn K (.ref C) "__init__" = some (some (.ref f)))
    (lk : K.lookup f = some ⟨oc, od, .func (PySem.W.ksFn "__init__" qual params body scope dV kV doc pm an (.ref cda) ct cc), osl⟩)
    (lc : K.lookup C = some (excClassObj nm q C Na bs bm true sn sub ab col dd k0 k1 k2 k3 k5 "ValueError.__new__")) (hb : PySem.HandSPX.refsVE bm = true)
    (sa : PySem.W.findIn K (.ref C) "__setattr__" = some (some (.builtin "object.__setattr__"))) (ex : PySem.W.subIn K (.ref C) (.type "BaseException") = some true) (ty : PySem.W.typeIn K (.ref C) = some (.type "type")) (kp : PySem.W.keepIn K (.ref C) = true)
    (cod : PySem.W.codeIn K (.ref cda) qual = true) (lcda : K.lookup cda = some ⟨ccl, cdd, .fields vs, ccs⟩) (hvs : vs[2]? = some (.str file tf)) (lcc : K.lookup cc = some ⟨cl, cld, .cell (some (.ref C)), csl⟩)
    (cls : PySem.W.clsIn K C = some cd) (own : PySem.W.mroIn K C (.ref C) = some true) (up : PySem.W.ks_superIn K C C "__init__" = some (some (.builtin "ValueError.__init__"))) (ve : PySem.W.subIn K (.ref C) (.type "ValueError") = some true)
    (any : PySem.W.nsIn K cStatics "thirdparty.any" = some none) (tyf : PySem.W.typeIn K (.ref f) = some (.type "function")) : IniC K file C f cc cda qual params body scope :=
  ⟨⟨⟨nm, q, Na, bs, bm, sn, sub, ab, col, dd, k0, k1, k2, k3, k5, lc, hb⟩, sa, ex, ty, kp⟩, ⟨oc, od, dV, kV, doc, pm, an, ct, osl, lk⟩, cod, ⟨ccl, cdd, vs, ccs, tf, lcda, hvs⟩, ⟨cl, cld, csl, lcc⟩, by rw [cls] <;> rfl, own, up, ve, any, ini, tyf⟩
theorem own_of {P : Program} {w : World} {K : PySem.W.Frag} {mg : Str → Option Value} {base : Heap} {x : Str} {C f : Addr} {fd : FuncData} {n : Nat} {ps ks : List Str} {sp : Sp} (g : mg x = some (.ref C)) (ox : OexC K C) (ini : PySem.W.findIn K (.ref C) "__init__" = some (some (.ref f))) (tyf : PySem.W.typeIn K (.ref f) = some (.type "function"))
    (F : FnG P w K mg base (L2.CX P w) 2 f fd ps sp) (b1 : ∀ us : List Value, us.length = n + 1 → bindArgs fd ⟨us, []⟩ = pure (ps.zip us)) (b2 : ∀ us ws : List Value, us.length = 1 → ws.length = ks.length → bindArgs fd ⟨us, ks.zip ws⟩ = pure (ps.zip (us ++ ws.reverse))) : OwnK P w K mg base x C n ps ks sp :=
  ⟨f, fd, ⟨g, ox, ini, tyf, F⟩, ⟨fun s us ws _ h1 h2 => by
    have : ws = [] := List.length_eq_zero_iff.mp h2
    subst this
    exact .of_eq (b1 us h1), fun r _ => r⟩, ⟨fun s us ws _ h1 h2 => .of_eq (b2 us ws h1 h2), fun r1 r2 => r1.append r2.reverse⟩⟩
end N

namespace N
open PySem PySem.Spec PyProof.Rows L2 NdefX
section
variable {P : Program} {w : World} {K : PySem.W.Frag} {mg : Str → Option Value} {h : Heap} {file : Str} {C f cc cda : Addr} {nm q : Str} {Na : Addr} {bs bm : List Value} {sn : List Str} {sub : List Value} {ab : Bool} {col : Option Bool} {dd : Option Addr} {k0 k1 k2 k3 k5 : Option Value}
    {oc kV doc pm ct : Value} {od an : Option Addr} {osl : Array (Option Value)} {ccl : Value} {cdd : Option Addr} {vs : Array Value} {ccs : Array (Option Value)} {tf : Tok} {cl : Value} {cld : Option Addr} {csl : Array (Option Value)} {cd : ClassData}
theorem mk_Unfit (X : K.In h) (G : h.Ns mainGlobals mg) (hfile : ((P.main.file : Str) == file) = true) (htop : (P.main.scope.names.lookup ("super" : Str)).isSome = false) (zs : PySem.W.nsIn K mainGlobals "super" = some none)
    (a : PySem.W.nsIn K mainGlobals "Unfit" = some (some (.ref C))) (ini : PySem.W.findIn K (.ref C) "__init__" = some (some (.ref f)))
    (lk : K.lookup f = some ⟨oc, od, .func (PySem.W.ksFn "__init__" "Unfit.__init__" (defArgs (iniS 15)) (defBody (iniS 15)) (defScope (iniS 15)) .none kV doc pm an (.ref cda) ct cc), osl⟩)
    (lc : K.lookup C = some (excClassObj nm q C Na bs bm true sn sub ab col dd k0 k1 k2 k3 k5 "ValueError.__new__")) (hb : PySem.HandSPX.refsVE bm = true)
    (sa : PySem.W.findIn K (.ref C) "__setattr__" = some (some (.builtin "object.__setattr__"))) (ex : PySem.W.subIn K (.ref C) (.type "BaseException") = some true) (ty : PySem.W.typeIn K (.ref C) = some (.type "type")) (kp : PySem.W.keepIn K (.ref C) = true)
    (cod : PySem.W.codeIn K (.ref cda) "Unfit.__init__" = true) (lcda : K.lookup cda = some ⟨ccl, cdd, .fields vs, ccs⟩) (hvs : vs[2]? = some (.str file tf)) (lcc : K.lookup cc = some ⟨cl, cld, .cell (some (.ref C)), csl⟩)
    (cls : PySem.W.clsIn K C = some cd) (own : PySem.W.mroIn K C (.ref C) = some true) (up : PySem.W.ks_superIn K C C "__init__" = some (some (.builtin "ValueError.__init__"))) (ve : PySem.W.subIn K (.ref C) (.type "ValueError") = some true)
    (any : PySem.W.nsIn K cStatics "thirdparty.any" = some none) (tyf : PySem.W.typeIn K (.ref f) = some (.type "function")) (n0 : PySem.W.findIn K (.ref C) "name" = some none) : ∀ base : Heap, OwnK P w K mg base "Unfit" C 1 ["self", "name"] ["name"] (spIni C 1 okT (f1 "name")) := fun base => by
  have I : IniC K file C f cc cda "Unfit.__init__" (defArgs (iniS 15)) (defBody (iniS 15)) (defScope (iniS 15)) := iniC_of ini lk lc hb sa ex ty kp cod lcda hvs lcc cls own up ve any tyf
  exact own_of (PySem.W.mg_of X G a) I.ox ini tyf (ini_Unfit (PySem.W.mg_none_of X G zs) hfile htop I n0 lk) (fun us hl => match us, hl with | [_, _], _ => rfl) (fun us ws h1 h2 => match us, ws, h1, h2 with | [_], [_], _, _ => rfl)
theorem mk_Looped (X : K.In h) (G : h.Ns mainGlobals mg) (hfile : ((P.main.file : Str) == file) = true) (htop : (P.main.scope.names.lookup ("super" : Str)).isSome = false) (zs : PySem.W.nsIn K mainGlobals "super" = some none)
    (a : PySem.W.nsIn K mainGlobals "Looped" = some (some (.ref C))) (ini : PySem.W.findIn K (.ref C) "__init__" = some (some (.ref f)))
    (lk : K.lookup f = some ⟨oc, od, .func (PySem.W.ksFn "__init__" "Looped.__init__" (defArgs (iniS 16)) (defBody (iniS 16)) (defScope (iniS 16)) .none kV doc pm an (.ref cda) ct cc), osl⟩)
    (lc : K.lookup C = some (excClassObj nm q C Na bs bm true sn sub ab col dd k0 k1 k2 k3 k5 "ValueError.__new__")) (hb : PySem.HandSPX.refsVE bm = true)
    (sa : PySem.W.findIn K (.ref C) "__setattr__" = some (some (.builtin "object.__setattr__"))) (ex : PySem.W.subIn K (.ref C) (.type "BaseException") = some true) (ty : PySem.W.typeIn K (.ref C) = some (.type "type")) (kp : PySem.W.keepIn K (.ref C) = true)
    (cod : PySem.W.codeIn K (.ref cda) "Looped.__init__" = true) (lcda : K.lookup cda = some ⟨ccl, cdd, .fields vs, ccs⟩) (hvs : vs[2]? = some (.str file tf)) (lcc : K.lookup cc = some ⟨cl, cld, .cell (some (.ref C)), csl⟩)
    (cls : PySem.W.clsIn K C = some cd) (own : PySem.W.mroIn K C (.ref C) = some true) (up : PySem.W.ks_superIn K C C "__init__" = some (some (.builtin "ValueError.__init__"))) (ve : PySem.W.subIn K (.ref C) (.type "ValueError") = some true)
    (any : PySem.W.nsIn K cStatics "thirdparty.any" = some none) (tyf : PySem.W.typeIn K (.ref f) = some (.type "function")) (n0 : PySem.W.findIn K (.ref C) "name" = some none) : ∀ base : Heap, OwnK P w K mg base "Looped" C 1 ["self", "name"] ["name"] (spIni C 1 okT (f1 "name")) := fun base => by
  have I : IniC K file C f cc cda "Looped.__init__" (defArgs (iniS 16)) (defBody (iniS 16)) (defScope (iniS 16)) := iniC_of ini lk lc hb sa ex ty kp cod lcda hvs lcc cls own up ve any tyf
  exact own_of (PySem.W.mg_of X G a) I.ox ini tyf (ini_Looped (PySem.W.mg_none_of X G zs) hfile htop I n0 lk) (fun us hl => match us, hl with | [_, _], _ => rfl) (fun us ws h1 h2 => match us, ws, h1, h2 with | [_], [_], _, _ => rfl)
theorem mk_Turned (X : K.In h) (G : h.Ns mainGlobals mg) (hfile : ((P.main.file : Str) == file) = true) (htop : (P.main.scope.names.lookup ("super" : Str)).isSome = false) (zs : PySem.W.nsIn K mainGlobals "super" = some none)
    (a : PySem.W.nsIn K mainGlobals "Turned" = some (some (.ref C))) (ini : PySem.W.findIn K (.ref C) "__init__" = some (some (.ref f)))
    (lk : K.lookup f = some ⟨oc, od, .func (PySem.W.ksFn "__init__" "Turned.__init__" (defArgs (iniS 17)) (defBody (iniS 17)) (defScope (iniS 17)) .none kV doc pm an (.ref cda) ct cc), osl⟩)
    (lc : K.lookup C = some (excClassObj nm q C Na bs bm true sn sub ab col dd k0 k1 k2 k3 k5 "ValueError.__new__")) (hb : PySem.HandSPX.refsVE bm = true)
    (sa : PySem.W.findIn K (.ref C) "__setattr__" = some (some (.builtin "object.__setattr__"))) (ex : PySem.W.subIn K (.ref C) (.type "BaseException") = some true) (ty : PySem.W.typeIn K (.ref C) = some (.type "type")) (kp : PySem.W.keepIn K (.ref C) = true)
    (cod : PySem.W.codeIn K (.ref cda) "Turned.__init__" = true) (lcda : K.lookup cda = some ⟨ccl, cdd, .fields vs, ccs⟩) (hvs : vs[2]? = some (.str file tf)) (lcc : K.lookup cc = some ⟨cl, cld, .cell (some (.ref C)), csl⟩)
    (cls : PySem.W.clsIn K C = some cd) (own : PySem.W.mroIn K C (.ref C) = some true) (up : PySem.W.ks_superIn K C C "__init__" = some (some (.builtin "ValueError.__init__"))) (ve : PySem.W.subIn K (.ref C) (.type "ValueError") = some true)
    (any : PySem.W.nsIn K cStatics "thirdparty.any" = some none) (tyf : PySem.W.typeIn K (.ref f) = some (.type "function")) (n0 : PySem.W.findIn K (.ref C) "name" = some none) (n1 : PySem.W.findIn K (.ref C) "letter" = some none) : ∀ base : Heap, OwnK P w K mg base "Turned" C 2 ["self", "name", "letter"] ["letter", "name"] (spIni C 2 okT (f2 "name" "letter")) := fun base => by
  have I : IniC K file C f cc cda "Turned.__init__" (defArgs (iniS 17)) (defBody (iniS 17)) (defScope (iniS 17)) := iniC_of ini lk lc hb sa ex ty kp cod lcda hvs lcc cls own up ve any tyf
  exact own_of (PySem.W.mg_of X G a) I.ox ini tyf (ini_Turned (PySem.W.mg_none_of X G zs) hfile htop I n0 n1 lk) (fun us hl => match us, hl with | [_, _, _], _ => rfl) (fun us ws h1 h2 => match us, ws, h1, h2 with | [_], [_, _], _, _ => rfl)
theorem mk_Endless (X : K.In h) (G : h.Ns mainGlobals mg) (hfile : ((P.main.file : Str) == file) = true) (htop : (P.main.scope.names.lookup ("super" : Str)).isSome = false) (zs : PySem.W.nsIn K mainGlobals "super" = some none)
    (a : PySem.W.nsIn K mainGlobals "Endless" = some (some (.ref C))) (ini : PySem.W.findIn K (.ref C) "__init__" = some (some (.ref f)))
    (lk : K.lookup f = some ⟨oc, od, .func (PySem.W.ksFn "__init__" "Endless.__init__" (defArgs (iniS 18)) (defBody (iniS 18)) (defScope (iniS 18)) .none kV doc pm an (.ref cda) ct cc), osl⟩)
    (lc : K.lookup C = some (excClassObj nm q C Na bs bm true sn sub ab col dd k0 k1 k2 k3 k5 "ValueError.__new__")) (hb : PySem.HandSPX.refsVE bm = true)
    (sa : PySem.W.findIn K (.ref C) "__setattr__" = some (some (.builtin "object.__setattr__"))) (ex : PySem.W.subIn K (.ref C) (.type "BaseException") = some true) (ty : PySem.W.typeIn K (.ref C) = some (.type "type")) (kp : PySem.W.keepIn K (.ref C) = true)
    (cod : PySem.W.codeIn K (.ref cda) "Endless.__init__" = true) (lcda : K.lookup cda = some ⟨ccl, cdd, .fields vs, ccs⟩) (hvs : vs[2]? = some (.str file tf)) (lcc : K.lookup cc = some ⟨cl, cld, .cell (some (.ref C)), csl⟩)
    (cls : PySem.W.clsIn K C = some cd) (own : PySem.W.mroIn K C (.ref C) = some true) (up : PySem.W.ks_superIn K C C "__init__" = some (some (.builtin "ValueError.__init__"))) (ve : PySem.W.subIn K (.ref C) (.type "ValueError") = some true)
    (any : PySem.W.nsIn K cStatics "thirdparty.any" = some none) (tyf : PySem.W.typeIn K (.ref f) = some (.type "function")) (n0 : PySem.W.findIn K (.ref C) "cycle" = some none) : ∀ base : Heap, OwnK P w K mg base "Endless" C 1 ["self", "cycle"] ["cycle"] (spIni C 1 (okD K) (f1 "cycle")) := fun base => by
  have I : IniC K file C f cc cda "Endless.__init__" (defArgs (iniS 18)) (defBody (iniS 18)) (defScope (iniS 18)) := iniC_of ini lk lc hb sa ex ty kp cod lcda hvs lcc cls own up ve any tyf
  exact own_of (PySem.W.mg_of X G a) I.ox ini tyf (ini_Endless (PySem.W.mg_none_of X G zs) hfile htop I n0 lk) (fun us hl => match us, hl with | [_, _], _ => rfl) (fun us ws h1 h2 => match us, ws, h1, h2 with | [_], [_], _, _ => rfl)
theorem mk_Clash (X : K.In h) (G : h.Ns mainGlobals mg) (hfile : ((P.main.file : Str) == file) = true) (htop : (P.main.scope.names.lookup ("super" : Str)).isSome = false) (zs : PySem.W.nsIn K mainGlobals "super" = some none)
    (a : PySem.W.nsIn K mainGlobals "Clash" = some (some (.ref C))) (ini : PySem.W.findIn K (.ref C) "__init__" = some (some (.ref f)))
    (lk : K.lookup f = some ⟨oc, od, .func (PySem.W.ksFn "__init__" "Clash.__init__" (defArgs (iniS 19)) (defBody (iniS 19)) (defScope (iniS 19)) .none kV doc pm an (.ref cda) ct cc), osl⟩)
    (lc : K.lookup C = some (excClassObj nm q C Na bs bm true sn sub ab col dd k0 k1 k2 k3 k5 "ValueError.__new__")) (hb : PySem.HandSPX.refsVE bm = true)
    (sa : PySem.W.findIn K (.ref C) "__setattr__" = some (some (.builtin "object.__setattr__"))) (ex : PySem.W.subIn K (.ref C) (.type "BaseException") = some true) (ty : PySem.W.typeIn K (.ref C) = some (.type "type")) (kp : PySem.W.keepIn K (.ref C) = true)
    (cod : PySem.W.codeIn K (.ref cda) "Clash.__init__" = true) (lcda : K.lookup cda = some ⟨ccl, cdd, .fields vs, ccs⟩) (hvs : vs[2]? = some (.str file tf)) (lcc : K.lookup cc = some ⟨cl, cld, .cell (some (.ref C)), csl⟩)
    (cls : PySem.W.clsIn K C = some cd) (own : PySem.W.mroIn K C (.ref C) = some true) (up : PySem.W.ks_superIn K C C "__init__" = some (some (.builtin "ValueError.__init__"))) (ve : PySem.W.subIn K (.ref C) (.type "ValueError") = some true)
    (any : PySem.W.nsIn K cStatics "thirdparty.any" = some none) (tyf : PySem.W.typeIn K (.ref f) = some (.type "function")) (n0 : PySem.W.findIn K (.ref C) "name" = some none) (n1 : PySem.W.findIn K (.ref C) "member" = some none) : ∀ base : Heap, OwnK P w K mg base "Clash" C 2 ["self", "name", "member"] ["member", "name"] (spIni C 2 okT (f2 "name" "member")) := fun base => by
  have I : IniC K file C f cc cda "Clash.__init__" (defArgs (iniS 19)) (defBody (iniS 19)) (defScope (iniS 19)) := iniC_of ini lk lc hb sa ex ty kp cod lcda hvs lcc cls own up ve any tyf
  exact own_of (PySem.W.mg_of X G a) I.ox ini tyf (ini_Clash (PySem.W.mg_none_of X G zs) hfile htop I n0 n1 lk) (fun us hl => match us, hl with | [_, _, _], _ => rfl) (fun us ws h1 h2 => match us, ws, h1, h2 with | [_], [_, _], _, _ => rfl)
end
theorem glo_mk {K : PySem.W.Frag} {h : Heap} {mg : Str → Option Value} (X : K.In h) (G : h.Ns mainGlobals mg)
    (z_isinstance : PySem.W.nsIn K mainGlobals "isinstance" = some none)
    (z_str : PySem.W.nsIn K mainGlobals "str" = some none)
    (z_tuple : PySem.W.nsIn K mainGlobals "tuple" = some none)
    (z_dict : PySem.W.nsIn K mainGlobals "dict" = some none)
    (z_list : PySem.W.nsIn K mainGlobals "list" = some none)
    (z_len : PySem.W.nsIn K mainGlobals "len" = some none)
    (z_all : PySem.W.nsIn K mainGlobals "all" = some none)
    (z_max : PySem.W.nsIn K mainGlobals "max" = some none)
    (z_min : PySem.W.nsIn K mainGlobals "min" = some none)
    (z_range : PySem.W.nsIn K mainGlobals "range" = some none)
    (z_repr : PySem.W.nsIn K mainGlobals "repr" = some none)
    (z_sum : PySem.W.nsIn K mainGlobals "sum" = some none)
    : Glo mg := ⟨PySem.W.mg_none_of X G z_isinstance, PySem.W.mg_none_of X G z_str, PySem.W.mg_none_of X G z_tuple, PySem.W.mg_none_of X G z_dict, PySem.W.mg_none_of X G z_list, PySem.W.mg_none_of X G z_len, PySem.W.mg_none_of X G z_all, PySem.W.mg_none_of X G z_max, PySem.W.mg_none_of X G z_min, PySem.W.mg_none_of X G z_range, PySem.W.mg_none_of X G z_repr, PySem.W.mg_none_of X G z_sum⟩
/-- the promises, one behind the other -/
theorem all_here {P : Program} {w : World} {K : PySem.W.Frag} {mg : Str → Option Value} {h : Heap} {fa C0 C1 C2 C3 C4 C5 C6 C7 C8 C9 C10 C11 C12 C13 C14 C15 C16 C17 KE : Addr} (X : K.In h) (GN : h.Ns mainGlobals mg) (hfa : mg "law" = some (.ref fa)) (G : Glo mg) (zv : PySem.W.nsIn K mainGlobals "ValueError" = some none)
    (a0 : PySem.W.nsIn K mainGlobals "NoType" = some (some (.ref C0)))
    (a1 : PySem.W.nsIn K mainGlobals "NoValues" = some (some (.ref C1)))
    (a2 : PySem.W.nsIn K mainGlobals "NoText" = some (some (.ref C2)))
    (a3 : PySem.W.nsIn K mainGlobals "NoClass" = some (some (.ref C3)))
    (a4 : PySem.W.nsIn K mainGlobals "NoTable" = some (some (.ref C4)))
    (a5 : PySem.W.nsIn K mainGlobals "NoName" = some (some (.ref C5)))
    (a6 : PySem.W.nsIn K mainGlobals "NoMost" = some (some (.ref C6)))
    (a7 : PySem.W.nsIn K mainGlobals "NoRoots" = some (some (.ref C7)))
    (a8 : PySem.W.nsIn K mainGlobals "NoRoot" = some (some (.ref C8)))
    (a9 : PySem.W.nsIn K mainGlobals "NoDeed" = some (some (.ref C9)))
    (a10 : PySem.W.nsIn K mainGlobals "TooMany" = some (some (.ref C10)))
    (a11 : PySem.W.nsIn K mainGlobals "Crowded" = some (some (.ref C11)))
    (a12 : PySem.W.nsIn K mainGlobals "NothingDone" = some (some (.ref C12)))
    (a13 : PySem.W.nsIn K mainGlobals "Unfit" = some (some (.ref C13)))
    (a14 : PySem.W.nsIn K mainGlobals "Looped" = some (some (.ref C14)))
    (a15 : PySem.W.nsIn K mainGlobals "Turned" = some (some (.ref C15)))
    (a16 : PySem.W.nsIn K mainGlobals "Endless" = some (some (.ref C16)))
    (a17 : PySem.W.nsIn K mainGlobals "Clash" = some (some (.ref C17)))
    (ak : PySem.W.nsIn K mainGlobals "KindError" = some (some (.ref KE)))
    (o13 : ∀ base : Heap, OwnK P w K mg base "Unfit" C13 1 ["self", "name"] ["name"] (spIni C13 1 okT (f1 "name")))
    (o14 : ∀ base : Heap, OwnK P w K mg base "Looped" C14 1 ["self", "name"] ["name"] (spIni C14 1 okT (f1 "name")))
    (o15 : ∀ base : Heap, OwnK P w K mg base "Turned" C15 2 ["self", "name", "letter"] ["letter", "name"] (spIni C15 2 okT (f2 "name" "letter")))
    (o16 : ∀ base : Heap, OwnK P w K mg base "Endless" C16 1 ["self", "cycle"] ["cycle"] (spIni C16 1 (okD K) (f1 "cycle")))
    (o17 : ∀ base : Heap, OwnK P w K mg base "Clash" C17 2 ["self", "name", "member"] ["member", "name"] (spIni C17 2 okT (f2 "name" "member")))
    (b1 : kitB K [C0, C1, C2, C3, C4, C5, C6, C7, C8, C9, C10, C11, C12, C13, C14, C15, C16, C17] KE = true) (b2 : bareB K [C0, C1, C2, C3, C4, C5, C6, C7, C8, C9, C10, C11, C12, C13, C14, C15, C16, C17] = true) (b3 : fldB K [C0, C1, C2, C3, C4, C5, C6, C7, C8, C9, C10, C11, C12, C13, C14, C15, C16, C17] = true)
    (D_Lcell_at : DefAt K mg "_law_cell_at" s_Lcell_at ["_law_script", "_law_k"])
    (D_Lpen : DefAt K mg "_law_pen" s_Lpen ["_law_cell"])
    (D_Ldraw : DefAt K mg "_law_draw" s_Ldraw ["_law_pen_here", "_law_many"])
    (D_Lpick : DefAt K mg "_law_pick" s_Lpick ["_law_pen_here", "_law_some"])
    (D_Lword : DefAt K mg "_law_word" s_Lword ["_law_e"])
    (D_Lplain_right : DefAt K mg "_law_plain_right" s_Lplain_right ["_law_many"])
    (D_Lfields_right : DefAt K mg "_law_fields_right" s_Lfields_right ["_law_called", "_law_sign"])
    (D_law : DefAt K mg "law" s_law ["_law_script"])
    : ∃ fd : FuncData, (∀ (s : Shared) (u : Value), BindsTo s fd ⟨[u], []⟩ [("_law_script", u)]) ∧ ∀ base : Heap, K.In base → base.Ns mainGlobals mg → FnG P w K mg base (L2.CX P w) 5 fa fd ["_law_script"] (spLaw K) := by
  obtain ⟨f, fd, hm, F, _⟩ := D_law
  have ef := hm.symm.trans hfa
  cases ef
  refine ⟨fd, fun s u => ?_, fun base _ _ => ?_⟩
  · obtain ⟨oc, od, kV, doc, pm, an, cdv, ct, osl, rfl, _, _⟩ := F.ex
    exact .of_eq rfl
  · have gl : ∀ j, j < 18 → mg (exN j) = some (.ref (at_ [C0, C1, C2, C3, C4, C5, C6, C7, C8, C9, C10, C11, C12, C13, C14, C15, C16, C17] j)) := fun j hj => match j, hj with
      | 0, _ => PySem.W.mg_of X GN a0
      | 1, _ => PySem.W.mg_of X GN a1
      | 2, _ => PySem.W.mg_of X GN a2
      | 3, _ => PySem.W.mg_of X GN a3
      | 4, _ => PySem.W.mg_of X GN a4
      | 5, _ => PySem.W.mg_of X GN a5
      | 6, _ => PySem.W.mg_of X GN a6
      | 7, _ => PySem.W.mg_of X GN a7
      | 8, _ => PySem.W.mg_of X GN a8
      | 9, _ => PySem.W.mg_of X GN a9
      | 10, _ => PySem.W.mg_of X GN a10
      | 11, _ => PySem.W.mg_of X GN a11
      | 12, _ => PySem.W.mg_of X GN a12
      | 13, _ => PySem.W.mg_of X GN a13
      | 14, _ => PySem.W.mg_of X GN a14
      | 15, _ => PySem.W.mg_of X GN a15
      | 16, _ => PySem.W.mg_of X GN a16
      | 17, _ => PySem.W.mg_of X GN a17
      | j + 18, hj => absurd hj (by omega)
    have Kl : Kls K mg (at_ [C0, C1, C2, C3, C4, C5, C6, C7, C8, C9, C10, C11, C12, C13, C14, C15, C16, C17]) := kls_of gl (PySem.W.mg_of X GN ak) b1
    have Fl : Flds P w K mg base (at_ [C0, C1, C2, C3, C4, C5, C6, C7, C8, C9, C10, C11, C12, C13, C14, C15, C16, C17]) := flds_of b3 (o13 base) (o14 base) (o15 base) (o16 base) (o17 base)
    have c_cel := ok_cell (P := P) (w := w) (base := base) G D_Lcell_at
    have c_pen := ok_pen (P := P) (w := w) (base := base) G D_Lpen
    have c_dra := ok_draw (P := P) (w := w) (base := base) D_Ldraw
    have c_pic := ok_pick G c_dra D_Lpick
    have c_wor := ok_word (P := P) (w := w) (base := base) G Kl (PySem.W.mg_none_of X GN zv) D_Lword
    have c_pla := ok_plain G Kl (bare_of b2) c_wor D_Lplain_right
    have c_fie := ok_fields G Kl c_wor Fl D_Lfields_right
    exact ok_law G c_cel c_pen c_dra c_pic c_pla c_fie F
end N

open PySem PySem.W PyProof.Rows
set_option maxHeartbeats 0 in
theorem PySem.Challenge.cw_endlesskinds_k26_exceptions_made_holds : PySem.Challenge.rw_endlesskinds_k26_exceptions_made.Holds := by
  w_on; o_law; k_head; (case hw => w_witness2)
  k_fill
  refine N.walkG (l := PySem.Challenge.rw_endlesskinds_k26_exceptions_made) (n := 63) (k := 5) (x := "_law_script") (CX := fun w => L2.CX PySem.Challenge.rw_endlesskinds_k26_exceptions_made.prog w) (sp := fun w => N.spLaw _) rfl (by decide) rfl ⟨rfl, by decide, by decide⟩ (fun w h Y => PySem.W.kIn_of Y) ?F (fun _ _ a ns hl _ hS => ⟨a, ns, rfl, hS, hl, fun _ => rfl⟩) (fun w H s e s' h => by obtain ⟨_, _, _, _, _, _, _, _, _, _, _, _, z⟩ := h; exact z)
  case F =>
    intro w mg fa h KX G hmg
    refine' N.all_here (P := PySem.Challenge.rw_endlesskinds_k26_exceptions_made.prog) KX G hmg ?glo ?zv ?a0 ?a1 ?a2 ?a3 ?a4 ?a5 ?a6 ?a7 ?a8 ?a9 ?a10 ?a11 ?a12 ?a13 ?a14 ?a15 ?a16 ?a17 ?ak ?o13 ?o14 ?o15 ?o16 ?o17 ?b1 ?b2 ?b3 ?d_Lcell_at ?d_Lpen ?d_Ldraw ?d_Lpick ?d_Lword ?d_Lplain_right ?d_Lfields_right ?d_law
    case glo =>
      refine' N.glo_mk KX G ?zg0 ?zg1 ?zg2 ?zg3 ?zg4 ?zg5 ?zg6 ?zg7 ?zg8 ?zg9 ?zg10 ?zg11
      (case zg0 => k_is); (case zg1 => k_is); (case zg2 => k_is); (case zg3 => k_is); (case zg4 => k_is); (case zg5 => k_is); (case zg6 => k_is); (case zg7 => k_is); (case zg8 => k_is); (case zg9 => k_is); (case zg10 => k_is); (case zg11 => k_is)
    (case zv => k_is)
    (case a0 => k_is); (case a1 => k_is); (case a2 => k_is); (case a3 => k_is); (case a4 => k_is); (case a5 => k_is); (case a6 => k_is); (case a7 => k_is); (case a8 => k_is); (case a9 => k_is); (case a10 => k_is); (case a11 => k_is); (case a12 => k_is); (case a13 => k_is); (case a14 => k_is); (case a15 => k_is); (case a16 => k_is); (case a17 => k_is)
    (case ak => k_is)
    case o13 =>
      refine' N.mk_Unfit KX G ?hfile_o13 ?htop_o13 ?zs_o13 ?a_o13 ?ini_o13 ?lk_o13 ?lc_o13 ?hb_o13 ?sa_o13 ?ex_o13 ?ty_o13 ?kp_o13 ?cod_o13 ?lcda_o13 ?hvs_o13 ?lcc_o13 ?cls_o13 ?own_o13 ?up_o13 ?ve_o13 ?any_o13 ?tyf_o13 ?n0_o13
      (case zs_o13 => k_is)
      (case a_o13 => k_is)
      (case ini_o13 => k_is)
      (case lk_o13 => k_is)
      (case lc_o13 => k_is)
      (case hb_o13 => kernel_rfl)
      (case sa_o13 => k_is)
      (case ex_o13 => k_is)
      (case ty_o13 => k_is)
      (case kp_o13 => k_is)
      (case cod_o13 => k_is)
      (case lcda_o13 => k_is)
      (case hvs_o13 => rfl)
      (case hfile_o13 => kernel_rfl)
      (case htop_o13 => kernel_rfl)
      (case lcc_o13 => k_is)
      (case cls_o13 => k_is)
      (case own_o13 => k_is)
      (case up_o13 => kernel_rfl)
      (case ve_o13 => k_is)
      (case any_o13 => k_is)
      (case tyf_o13 => k_is)
      (case n0_o13 => k_is)
    case o14 =>
      refine' N.mk_Looped KX G ?hfile_o14 ?htop_o14 ?zs_o14 ?a_o14 ?ini_o14 ?lk_o14 ?lc_o14 ?hb_o14 ?sa_o14 ?ex_o14 ?ty_o14 ?kp_o14 ?cod_o14 ?lcda_o14 ?hvs_o14 ?lcc_o14 ?cls_o14 ?own_o14 ?up_o14 ?ve_o14 ?any_o14 ?tyf_o14 ?n0_o14
      (case zs_o14 => k_is)
      (case a_o14 => k_is)
      (case ini_o14 => k_is)
      (case lk_o14 => k_is)
      (case lc_o14 => k_is)
      (case hb_o14 => kernel_rfl)
      (case sa_o14 => k_is)
      (case ex_o14 => k_is)
      (case ty_o14 => k_is)
      (case kp_o14 => k_is)
      (case cod_o14 => k_is)
      (case lcda_o14 => k_is)
      (case hvs_o14 => rfl)
      (case hfile_o14 => kernel_rfl)
      (case htop_o14 => kernel_rfl)
      (case lcc_o14 => k_is)
      (case cls_o14 => k_is)
      (case own_o14 => k_is)
      (case up_o14 => kernel_rfl)
      (case ve_o14 => k_is)
      (case any_o14 => k_is)
      (case tyf_o14 => k_is)
      (case n0_o14 => k_is)
    case o15 =>
      refine' N.mk_Turned KX G ?hfile_o15 ?htop_o15 ?zs_o15 ?a_o15 ?ini_o15 ?lk_o15 ?lc_o15 ?hb_o15 ?sa_o15 ?ex_o15 ?ty_o15 ?kp_o15 ?cod_o15 ?lcda_o15 ?hvs_o15 ?lcc_o15 ?cls_o15 ?own_o15 ?up_o15 ?ve_o15 ?any_o15 ?tyf_o15 ?n0_o15 ?n1_o15
      (case zs_o15 => k_is)
      (case a_o15 => k_is)
      (case ini_o15 => k_is)
      (case lk_o15 => k_is)
      (case lc_o15 => k_is)
      (case hb_o15 => kernel_rfl)
      (case sa_o15 => k_is)
      (case ex_o15 => k_is)
      (case ty_o15 => k_is)
      (case kp_o15 => k_is)
      (case cod_o15 => k_is)
      (case lcda_o15 => k_is)
      (case hvs_o15 => rfl)
      (case hfile_o15 => kernel_rfl)
      (case htop_o15 => kernel_rfl)
      (case lcc_o15 => k_is)
      (case cls_o15 => k_is)
      (case own_o15 => k_is)
      (case up_o15 => kernel_rfl)
      (case ve_o15 => k_is)
      (case any_o15 => k_is)
      (case tyf_o15 => k_is)
      (case n0_o15 => k_is)
      (case n1_o15 => k_is)
    case o16 =>
      refine' N.mk_Endless KX G ?hfile_o16 ?htop_o16 ?zs_o16 ?a_o16 ?ini_o16 ?lk_o16 ?lc_o16 ?hb_o16 ?sa_o16 ?ex_o16 ?ty_o16 ?kp_o16 ?cod_o16 ?lcda_o16 ?hvs_o16 ?lcc_o16 ?cls_o16 ?own_o16 ?up_o16 ?ve_o16 ?any_o16 ?tyf_o16 ?n0_o16
      (case zs_o16 => k_is)
      (case a_o16 => k_is)
      (case ini_o16 => k_is)
      (case lk_o16 => k_is)
      (case lc_o16 => k_is)
      (case hb_o16 => kernel_rfl)
      (case sa_o16 => k_is)
      (case ex_o16 => k_is)
      (case ty_o16 => k_is)
      (case kp_o16 => k_is)
      (case cod_o16 => k_is)
      (case lcda_o16 => k_is)
      (case hvs_o16 => rfl)
      (case hfile_o16 => kernel_rfl)
      (case htop_o16 => kernel_rfl)
      (case lcc_o16 => k_is)
      (case cls_o16 => k_is)
      (case own_o16 => k_is)
      (case up_o16 => kernel_rfl)
      (case ve_o16 => k_is)
      (case any_o16 => k_is)
      (case tyf_o16 => k_is)
      (case n0_o16 => k_is)
    case o17 =>
      refine' N.mk_Clash KX G ?hfile_o17 ?htop_o17 ?zs_o17 ?a_o17 ?ini_o17 ?lk_o17 ?lc_o17 ?hb_o17 ?sa_o17 ?ex_o17 ?ty_o17 ?kp_o17 ?cod_o17 ?lcda_o17 ?hvs_o17 ?lcc_o17 ?cls_o17 ?own_o17 ?up_o17 ?ve_o17 ?any_o17 ?tyf_o17 ?n0_o17 ?n1_o17
      (case zs_o17 => k_is)
      (case a_o17 => k_is)
      (case ini_o17 => k_is)
      (case lk_o17 => k_is)
      (case lc_o17 => k_is)
      (case hb_o17 => kernel_rfl)
      (case sa_o17 => k_is)
      (case ex_o17 => k_is)
      (case ty_o17 => k_is)
      (case kp_o17 => k_is)
      (case cod_o17 => k_is)
      (case lcda_o17 => k_is)
      (case hvs_o17 => rfl)
      (case hfile_o17 => kernel_rfl)
      (case htop_o17 => kernel_rfl)
      (case lcc_o17 => k_is)
      (case cls_o17 => k_is)
      (case own_o17 => k_is)
      (case up_o17 => kernel_rfl)
      (case ve_o17 => k_is)
      (case any_o17 => k_is)
      (case tyf_o17 => k_is)
      (case n0_o17 => k_is)
      (case n1_o17 => k_is)
    (case b1 => kernel_rfl)
    (case b2 => kernel_rfl)
    (case b3 => kernel_rfl)
    case d_Lcell_at =>
      refine' N.mk_def KX G ?za_d_Lcell_at ?zl_d_Lcell_at ?zc_d_Lcell_at ?zk_d_Lcell_at ?zb_d_Lcell_at
      (case za_d_Lcell_at => k_is); (case zl_d_Lcell_at => k_is); (case zc_d_Lcell_at => k_is); (case zk_d_Lcell_at => k_is); (case zb_d_Lcell_at => exact fun _ _ _ _ _ _ us hl => match us, hl with | [_, _], _ => rfl)
    case d_Lpen =>
      refine' N.mk_def KX G ?za_d_Lpen ?zl_d_Lpen ?zc_d_Lpen ?zk_d_Lpen ?zb_d_Lpen
      (case za_d_Lpen => k_is); (case zl_d_Lpen => k_is); (case zc_d_Lpen => k_is); (case zk_d_Lpen => k_is); (case zb_d_Lpen => exact fun _ _ _ _ _ _ us hl => match us, hl with | [_], _ => rfl)
    case d_Ldraw =>
      refine' N.mk_def KX G ?za_d_Ldraw ?zl_d_Ldraw ?zc_d_Ldraw ?zk_d_Ldraw ?zb_d_Ldraw
      (case za_d_Ldraw => k_is); (case zl_d_Ldraw => k_is); (case zc_d_Ldraw => k_is); (case zk_d_Ldraw => k_is); (case zb_d_Ldraw => exact fun _ _ _ _ _ _ us hl => match us, hl with | [_, _], _ => rfl)
    case d_Lpick =>
      refine' N.mk_def KX G ?za_d_Lpick ?zl_d_Lpick ?zc_d_Lpick ?zk_d_Lpick ?zb_d_Lpick
      (case za_d_Lpick => k_is); (case zl_d_Lpick => k_is); (case zc_d_Lpick => k_is); (case zk_d_Lpick => k_is); (case zb_d_Lpick => exact fun _ _ _ _ _ _ us hl => match us, hl with | [_, _], _ => rfl)
    case d_Lword =>
      refine' N.mk_def KX G ?za_d_Lword ?zl_d_Lword ?zc_d_Lword ?zk_d_Lword ?zb_d_Lword
      (case za_d_Lword => k_is); (case zl_d_Lword => k_is); (case zc_d_Lword => k_is); (case zk_d_Lword => k_is); (case zb_d_Lword => exact fun _ _ _ _ _ _ us hl => match us, hl with | [_], _ => rfl)
    case d_Lplain_right =>
      refine' N.mk_def KX G ?za_d_Lplain_right ?zl_d_Lplain_right ?zc_d_Lplain_right ?zk_d_Lplain_right ?zb_d_Lplain_right
      (case za_d_Lplain_right => k_is); (case zl_d_Lplain_right => k_is); (case zc_d_Lplain_right => k_is); (case zk_d_Lplain_right => k_is); (case zb_d_Lplain_right => exact fun _ _ _ _ _ _ us hl => match us, hl with | [_], _ => rfl)
    case d_Lfields_right =>
      refine' N.mk_def KX G ?za_d_Lfields_right ?zl_d_Lfields_right ?zc_d_Lfields_right ?zk_d_Lfields_right ?zb_d_Lfields_right
      (case za_d_Lfields_right => k_is); (case zl_d_Lfields_right => k_is); (case zc_d_Lfields_right => k_is); (case zk_d_Lfields_right => k_is); (case zb_d_Lfields_right => exact fun _ _ _ _ _ _ us hl => match us, hl with | [_, _], _ => rfl)
    case d_law =>
      refine' N.mk_def KX G ?za_d_law ?zl_d_law ?zc_d_law ?zk_d_law ?zb_d_law
      (case za_d_law => k_is); (case zl_d_law => k_is); (case zc_d_law => k_is); (case zk_d_law => k_is); (case zb_d_law => exact fun _ _ _ _ _ _ us hl => match us, hl with | [_], _ => rfl)

