import PyProof.Rows.All
import Wide.All
import OpenK.AllK
import Wide.FinOn
import HandS.ForMost
import HandS.ForExc
import HandS.Star
import HandS.IsInst
import HandS.TupAny
import HandS.StrMore
import HandS.Style
import HandS.Flow
import HandS.Walk
import HandS.Nested
import HandS.EndTab
import KE.KNestM
import PySem.Challenge.RW_endlesskinds_k23_whole_kinds_filled_and
set_option Elab.async false
set_option linter.all false
set_option maxRecDepth 100000
set_option maxHeartbeats 8000000
namespace N
open PySem PySem.Spec PyProof.Rows L2
/-! ### rules that were lacking -/
theorem extend_tup_any (l : Addr) (items : Array Value) (n : Nat) (b : Addr) (items2 : Array Value) (n2 : Nat) (dd : Option Addr) (sl : Array (Option Value)) (hs0 : ¬(!items.isEmpty && Builtin.List.listTooLong (items.size + items2.size)) = true) (hs1 : items.size ≤ sizeLine) (hs2 : items.size + items2.size ≤ sizeLine + 1) :
    Meets (Builtin.«list.extend» ⟨[.ref l, .ref b], []⟩) (fun _ R s => s.heap.get? l = some { cls := .type "list", dict := none, data := .seq items n, slots := #[] } ∧ s.heap.get? b = some { cls := .type "tuple", dict := dd, data := .seq items2 n2, slots := sl } ∧ R (.ok (.ret Value.none)) { s with heap := s.heap.update l (Obj.mapSeq fun x => x ++ items2), toks := s.toks }) :=
  .of_wp fun prog w A R s h => by
    obtain ⟨hp, g, d, tk, os⟩ := s; obtain ⟨hl, hb, h⟩ := h
    have f1 := AutoSeq1.idx_int; have f2 := AutoSeq1.sub_tuple_tuple; have f3 := AutoSeq1.sub_list_list; have f4 := AutoSeq1.sub_tuple_list; have f5 := AutoSeq1.sub_list_tuple
    have hz' : (items ++ items2).size ≤ sizeLine + 1 := by rw [Array.size_append]; exact hs2
    wp_walk using (wpAny_updateSeq hl rfl (hz := hs1) (_hz' := hz')), AutoSeq1.wpAny_loadPart' hl, AutoSeq1.wpAny_loadPart' hb; exact ⟨_, rfl, h⟩
/-- l.extend(t), t a tuple -/
def rExtendT (K : PySem.W.Frag) : V → List V → Hp → VK → Prop := fun x vs H Q => ∃ l b xs zs, x = .ref l ∧ vs = [.ref b] ∧ H l = some (.lst xs) ∧ SqT K H b zs ∧ xs.length + zs.length ≤ sizeLine ∧ Q .non (upd H l (.lst (xs ++ zs)))
section
variable {X : Cx}
theorem mt_extendT : MtM X "list.extend" (rExtendT X.K) := by
  intro pins s σ H x vs v us Q I rx rv h
  obtain ⟨l, b, xs, zs, rfl, rfl, hH, hB, hz, q⟩ := h
  cases rx
  obtain ⟨u, rfl, ru⟩ := rv.one
  cases ru
  obtain ⟨z, its, n, r, hl, e⟩ := I.lstM hH
  obtain ⟨its2, r2, ⟨⟨cls, dd, data, sls⟩, e2, hc, n2, hd⟩, hl2⟩ := I.tuple hB
  simp only at hc hd
  subst hc hd
  have hx1 := r.length
  have hx2 := r2.length
  have hsz : its.toArray.size + its2.toArray.size ≤ sizeLine := by rw [List.size_toArray, List.size_toArray]; omega
  have hlong : ¬ (!its.toArray.isEmpty && Builtin.List.listTooLong (its.toArray.size + its2.toArray.size)) = true := by
    rw [notLongL hsz, Bool.and_false]
    exact Bool.false_ne_true
  refine call_meets F.slot_list_extend ⟨_, e, rfl⟩ F.entry_list_extend (F.args_list_extend_2 _ _)
    (extend_tup_any l its.toArray n b its2.toArray n2 dd sls hlong (by rw [List.size_toArray]; omega) (by omega)) ⟨e, e2, ?_⟩
  refine ⟨.non, _, I.lset (its' := its ++ its2) hH e (by simp) (r.append r2) ?_, rfl, q⟩
  rw [List.length_append]
  omega
end
end N

namespace N
open PySem PySem.Spec PyProof.Rows L2 HT
section
variable {prog : Program} {w : World} {A : Around} {E : Value → Shared → Prop} {s : Shared}
theorem adjust_back (n : Nat) (h : 1 ≤ n) : Builtin.Slice.sliceAdjust none (some 0) (-1) (n : Int) = ((n : Int) - 1, 0) := by
  unfold Builtin.Slice.sliceAdjust
  have h1 : ((-1 : Int) < 0) := by omega
  simp only [h1, if_true]
  refine Prod.ext ?_ ?_
  · first | rfl | (simp; done) | omega
  · show _ = _
    simp
    omega
theorem places_back (n : Nat) (h : 1 ≤ n) : Builtin.Slice.slicePlaces ((n : Int) - 1) 0 (-1) = n - 1 := by
  unfold Builtin.Slice.slicePlaces
  have h1 : ¬ ((-1 : Int) > 0) := by omega
  simp only [h1, if_false]
  have e : (- -1 : Int) = 1 := by decide
  rw [e, Int.ediv_one]
  split <;> omega
theorem applied_back {sl : Addr} {vl vu vs : Value} {n : Nat} {Q : Int × Int × Nat → Shared → Prop} (h1 : 1 ≤ n) (hs : s.heap.IsSliceOf sl vl vu vs) (pl : IsPart vl none) (pu : IsPart vu (some 0)) (ps : IsPart vs (some (-1)))
    (h : Q ((n : Int) - 1, -1, n - 1) s) : wpAny (model prog w) A (Builtin.Slice.sliceApplied (.ref sl) (pure (n : Int))) Q E s := by
  obtain ⟨os, hos, hcs, hds⟩ := id hs
  unfold Builtin.Slice.sliceApplied Builtin.Slice.sliceFields
  refine wpAny_bind (wpAny_bind (wpAny_field hos hds (x := vl) rfl (wpAny_bind (wpAny_field hos hds (x := vu) rfl (wpAny_bind (wpAny_field hos hds (x := vs) rfl (wpAny_pure ?_)))))))
  refine wpAny_bind (slicePart_ ps ?_)
  show wpAny _ _ (if ((-1 : Int) == 0) = true then _ else _) _ _ s
  rw [if_neg (by decide)]
  refine wpAny_bind (slicePart_ pl (wpAny_bind (slicePart_ pu (wpAny_bind (wpAny_pure ?_)))))
  show wpAny _ _ (match Builtin.Slice.sliceAdjust none (some 0) (-1) (n : Int) with | (lo, hi) => pure (lo, (-1 : Int), Builtin.Slice.slicePlaces lo hi (-1))) _ _ s
  rw [adjust_back n h1]
  show wpAny _ _ (pure ((n : Int) - 1, (-1 : Int), Builtin.Slice.slicePlaces ((n : Int) - 1) 0 (-1))) _ _ s
  rw [places_back n h1]
  exact wpAny_pure h
theorem pick_back (xs : Array Value) (h : 1 ≤ xs.size) : ((List.range (xs.size - 1)).filterMap fun (m : Nat) => xs[(((xs.size : Int) - 1) + (m : Int) * (-1)).toNat]?).toArray = (xs.toList.drop 1).reverse.toArray := by
  refine congrArg List.toArray ?_
  have e : ∀ m ∈ List.range (xs.size - 1), xs[(((xs.size : Int) - 1) + (m : Int) * (-1)).toNat]? = some (xs.toList.reverse.getD m .none) := by
    intro m hm
    have hm' := List.mem_range.mp hm
    have e1 : (((xs.size : Int) - 1) + (m : Int) * (-1)).toNat = xs.size - 1 - m := by omega
    rw [e1, ← Array.getElem?_toList, List.getD_eq_getElem?_getD, List.getElem?_reverse (by rw [Array.length_toList]; omega), Array.length_toList,
      List.getElem?_eq_getElem (show xs.size - 1 - m < xs.toList.length by rw [Array.length_toList]; omega)]
    rfl
  have e2 : (List.range (xs.size - 1)).filterMap (fun (m : Nat) => xs[(((xs.size : Int) - 1) + (m : Int) * (-1)).toNat]?) = (List.range (xs.size - 1)).filterMap (fun m => some (xs.toList.reverse.getD m .none)) := by
    generalize List.range (xs.size - 1) = l at e
    induction l with
    | nil => rfl
    | cons a r ih =>
      rw [List.filterMap_cons, List.filterMap_cons, e a List.mem_cons_self, ih fun m hm => e m (List.mem_cons_of_mem _ hm)]
  rw [e2, List.filterMap_eq_map' ] <;> try rfl
  apply List.ext_getElem?
  intro i
  rw [List.getElem?_map]
  by_cases hi : i < xs.size - 1
  · rw [List.getElem?_range hi, List.getElem?_reverse (by rw [List.length_drop, Array.length_toList]; omega), List.length_drop, Array.length_toList, List.getElem?_drop,
      Option.map_some, List.getD_eq_getElem?_getD, List.getElem?_reverse (by rw [Array.length_toList]; omega), Array.length_toList,
      show 1 + (xs.size - 1 - 1 - i) = xs.size - 1 - i by omega, List.getElem?_eq_getElem (show xs.size - 1 - i < xs.toList.length by rw [Array.length_toList]; omega)]
    rfl
  · rw [List.getElem?_eq_none (by rw [List.length_range]; omega), List.getElem?_eq_none (by rw [List.length_reverse, List.length_drop, Array.length_toList]; omega)]
    rfl
theorem getItem_tuple_back {t sl : Addr} {items : Array Value} {vl vu vs : Value} {Q : Value → Shared → Prop} (ht : IsTup s.heap t items) (h1 : 1 ≤ items.size) (hs : s.heap.IsSliceOf sl vl vu vs) (pl : IsPart vl none) (pu : IsPart vu (some 0)) (ps : IsPart vs (some (-1)))
    (h : Q (.ref s.heap.objs.size) { s with heap := s.heap.push { cls := .type "tuple", data := .seq (items.toList.drop 1).reverse.toArray } })
    (hsz : items.size ≤ sizeLine) : wpAny (model prog w) A (getItem (.ref t) (.ref sl)) Q E s := by
  have htake : sizeOk (.seq (items.toList.drop 1).reverse.toArray) := by
    show ((items.toList.drop 1).reverse).toArray.size ≤ sizeLine
    rw [List.size_toArray, List.length_reverse, List.length_drop, Array.length_toList]
    omega
  obtain ⟨os, hos, hcs, hds⟩ := id hs
  have hTs : s.TypeIs (.ref sl) "slice" := ⟨os, hos, hcs⟩
  unfold getItem
  try with_reducible refine wpAny_holding ?_
  first | refine wpAny_bind (wpAny_pure ?_) | skip
  refine wpAny_bind (wpAny_sequenceKey ht.typeIs (by decide) ?_)
  refine wpAny_bind (wpAny_callSpecial?_slot (name := Str.ofString "__getitem__") ht.typeIs PyProof.Rows.slot_tuple_getitem
    (wpAny_call_entry PyProof.Rows.slot_tuple_getitem ht.typeIs entry_tuple_getitem ?_ (args_tuple_getitem _ _)))
  show wpAny _ _ (Builtin.Tuple.tupleItemsOf (.ref t) >>= _) _ _ s
  refine wpAny_bind (tupleItemsOf_ ht ?_)
  refine wpAny_bind (wpAny_typeOf hTs ?_)
  rw [if_pos (by decide)]
  refine wpAny_bind (applied_back h1 hs pl pu ps ?_)
  show wpAny _ _ (if ((((items.size : Int) - 1)) == 0 && (-1 : Int) == 1 && (items.size - 1) == items.size) = true then _ else _) _ _ s
  rw [if_neg (by simp), pick_back items h1]
  first
    | exact wpAny_bind (m := Builtin.Tuple.tupleExact _) (wpAny_newObj_type (wpAny_pure ⟨_, rfl, wpAny_pure h⟩) htake)
    | exact wpAny_bind (m := Builtin.Tuple.tupleExact _) (wpAny_newObj_type (wpAny_bind (wpAny_pure (wpAny_pure ⟨_, rfl, wpAny_pure h⟩))) htake)
    | exact wpAny_bind (wpAny_bind (m := Builtin.Tuple.tupleExact _) (wpAny_newObj_type (wpAny_pure (wpAny_pure ⟨_, rfl, wpAny_pure h⟩)) htake))
    | exact wpAny_bind (wpAny_bind (m := Builtin.Tuple.tupleExact _) (wpAny_newObj_type (wpAny_pure ⟨_, rfl, wpAny_pure h⟩) htake))
end
/-- t[:0:-1] -/
def tBackT (K : PySem.W.Frag) (te : TE) : TE := fun σ H Q => te σ H fun x H1 => ∃ a xs, x = .ref a ∧ SqT K H1 a xs ∧ 1 ≤ xs.length ∧ ∀ p, H1 p = none → Q (.ref p) (upd H1 p (.tup (xs.drop 1).reverse))
section
variable {X : Cx}
theorem pe_backT {e : Expr} {te : TE} {k k0 : Nat} {p0 p1 p2 p3 pos : Pos} (he : PE X e te) : PE X (.Subscript e (.Slice none (some (.Constant (.int 0) k0 p0)) (some (.UnaryOp .USub (.Constant (.int 1) k p1) p2)) p3) pos) (tBackT X.K te) := by
  refine ⟨fun pins s σ H Q I h => ?_⟩
  refine Subscript_ (thn (he.run pins s σ H _ I h) fun v s1 ⟨x, H1, I1, r1, q1⟩ => ?_)
  obtain ⟨a, xs, ex, hx, h1, q⟩ := q1
  subst ex
  cases r1
  have hst : PO X (some (.UnaryOp .USub (.Constant (.int 1) k p1) p2)) (tPart (tUn (rU fun i => .int (-i)) (tC (.int 1)))) := po_some (pe_un un_neg pe_int)
  have hhi : PO X (some (.Constant (.int 0) k0 p0)) (tPart (tC (.int 0))) := po_some pe_int
  refine wpAny_Slice (thn (po_none.run pins s1 σ H1 (fun o H2 => o = none ∧ H2 = H1) I1 ⟨rfl, rfl⟩) fun vl s2 ⟨l, H2, I2, pl, el, e2⟩ => ?_)
  subst el e2
  refine thn (hhi.run pins s2 σ H2 (fun o H3 => o = some 0 ∧ H3 = H2) I2 ⟨0, rfl, rfl, rfl⟩) fun vu s3 ⟨u, H3, I3, pu, eu, e3⟩ => ?_
  subst eu e3
  refine thn (hst.run pins s3 σ H3 (fun o H4 => o = some (-1) ∧ H4 = H3) I3 ⟨1, rfl, -1, rfl, rfl, rfl⟩) fun vs s4 ⟨o, H4, I4, ps, eo, e4⟩ => ?_
  subst eo e4
  have I5 : Inv X pins σ H4 { s4 with heap := s4.heap.push { cls := .type "slice", data := .fields #[vl, vu, vs] } } := I4.kept (t' := s4.toks) fun b ob q => Heap.get?_push_of_some _ q
  obtain ⟨its, r, ht, hz⟩ := I5.tuple hx
  have hlen := r.length
  show wpAny (model X.prog X.w) X.A (subscriptTail e (.Slice none (some (.Constant (.int 0) k0 p0)) (some (.UnaryOp .USub (.Constant (.int 1) k p1) p2)) p3) (.ref a) (.ref s4.heap.objs.size)) (EP X pins σ Q) X.xe { s4 with heap := s4.heap.push { cls := .type "slice", data := .fields #[vl, vu, vs] } }
  refine tail_any (ops := [.ref a, .ref s4.heap.objs.size]) ht.typeIs (PyProof.Rows.slot_tuple_getitem.lookup) ?_ (by with_unfolding_all rfl)
  refine getItem_tuple_back ht (by rw [List.size_toArray]; omega) (Heap.IsSliceOf.new _ vl vu vs) pl pu ps ?_ (by rw [List.size_toArray]; omega)
  refine ⟨.ref _, _, I5.laid (t' := s4.toks) (o := .tup (xs.drop 1).reverse) (fun b ob q => Heap.get?_push_of_some _ q) (Nat.le_refl _) ?_, rfl, q _ (I5.hok.fresh (Nat.le_refl _))⟩
  refine ⟨by rw [List.length_reverse, List.length_drop]; omega, (its.drop 1).reverse, ?_, ⟨_, Heap.get?_push_size _ rfl, rfl, _, rfl⟩⟩
  exact (r.drop 1).reverse
end
end N

namespace N
open PySem PySem.Spec PyProof.Rows L2
/-! ### words -/
theorem asc_alpha : ∀ c : Nat, c < 128 → Unicode.isAlpha c = (decide (65 ≤ c ∧ c ≤ 90) || decide (97 ≤ c ∧ c ≤ 122)) := by
  intro c h
  have q : ∀ c : Fin 128, Unicode.isAlpha c.1 = (decide (65 ≤ c.1 ∧ c.1 ≤ 90) || decide (97 ≤ c.1 ∧ c.1 ≤ 122)) := by decide +kernel
  exact q ⟨c, h⟩
theorem asc_lower : ∀ c : Nat, c < 128 → Unicode.isLower c = decide (97 ≤ c ∧ c ≤ 122) := by
  intro c h
  have q : ∀ c : Fin 128, Unicode.isLower c.1 = decide (97 ≤ c.1 ∧ c.1 ≤ 122) := by decide +kernel
  exact q ⟨c, h⟩
theorem asc_upper : ∀ c : Nat, c < 128 → (Unicode.isUpper c || Unicode.isTitle c) = decide (65 ≤ c ∧ c ≤ 90) := by
  intro c h
  have q : ∀ c : Fin 128, (Unicode.isUpper c.1 || Unicode.isTitle c.1) = decide (65 ≤ c.1 ∧ c.1 ≤ 90) := by decide +kernel
  exact q ⟨c, h⟩
/-- a letter, as the def says it -/
def isLet (x : Str) : Bool := decide (x.length = 1) && (!decide (x.cps.toList < ("A" : Str).cps.toList) && !decide (("Z" : Str).cps.toList < x.cps.toList))
def isNam (x : Str) : Bool := !decide (8 < x.length) && (Txt.isascii x && (Txt.isalpha x && Txt.islower x))
def Low (c : Nat) : Prop := 97 ≤ c ∧ c ≤ 122
theorem isLet_iff {x : Str} : isLet x = true ↔ ∃ c, x.cps.toList = [c] ∧ 65 ≤ c ∧ c ≤ 90 := by
  unfold isLet Str.length
  have eA : ("A" : Str).cps.toList = [65] := by decide +kernel
  have eZ : ("Z" : Str).cps.toList = [90] := by decide +kernel
  rw [eA, eZ]
  obtain ⟨⟨l⟩⟩ := x
  simp only [Bool.and_eq_true, decide_eq_true_eq, Bool.not_eq_true', decide_eq_false_iff_not, List.size_toArray]
  constructor
  · rintro ⟨h1, h2, h3⟩
    match l, h1 with
    | [c], _ =>
      refine ⟨c, rfl, ?_, ?_⟩
      · have : ¬ c < 65 := fun q => h2 (by simp [List.cons_lt_cons_iff, q])
        omega
      · have : ¬ 90 < c := fun q => h3 (by simp [List.cons_lt_cons_iff, q])
        omega
  · rintro ⟨c, h, h2, h3⟩
    subst h
    refine ⟨rfl, fun q => ?_, fun q => ?_⟩
    · simp [List.cons_lt_cons_iff] at q
      omega
    · simp [List.cons_lt_cons_iff] at q
      omega
theorem isNam_iff {x : Str} : isNam x = true ↔ 1 ≤ x.length ∧ x.length ≤ 8 ∧ ∀ c ∈ x.cps.toList, Low c := by
  obtain ⟨⟨l⟩⟩ := x
  have e1 : Txt.isascii ⟨⟨l⟩⟩ = l.all (fun c => decide (c < 128)) := by
    show Array.all _ _ = _
    exact List.all_toArray ..
  have e2 : Txt.isalpha ⟨⟨l⟩⟩ = (decide (l.length > 0) && l.all Unicode.isAlpha) := by
    show (decide _ && Array.all _ _) = _
    exact congrArg _ (List.all_toArray ..)
  have e3 : Txt.islower ⟨⟨l⟩⟩ = (l.any Unicode.isLower && !l.any fun c => Unicode.isUpper c || Unicode.isTitle c) := by
    show (Array.any _ _ && !Array.any _ _) = _
    exact congr (congrArg _ (List.any_toArray ..)) (congrArg _ (List.any_toArray ..))
  unfold isNam
  rw [e1, e2, e3]
  show (!decide (8 < l.length) && _) = true ↔ 1 ≤ l.length ∧ l.length ≤ 8 ∧ ∀ c ∈ l, Low c
  simp only [Bool.and_eq_true, Bool.not_eq_true', decide_eq_false_iff_not, decide_eq_true_eq, List.all_eq_true, List.any_eq_true, List.any_eq_false, Nat.not_lt]
  constructor
  · rintro ⟨h8, ha, ⟨h1, hb⟩, h3, h4⟩
    refine ⟨by omega, h8, fun c hc => ?_⟩
    have a1 := ha c hc
    have a2 := hb c hc
    rw [asc_alpha c a1] at a2
    have a3 := h4 c hc
    rw [asc_upper c a1] at a3
    simp only [Bool.or_eq_true, decide_eq_true_eq] at a2 a3
    unfold Low
    omega
  · rintro ⟨h1, h8, h⟩
    have hl : ∀ c ∈ l, 97 ≤ c ∧ c ≤ 122 := h
    refine ⟨h8, fun c hc => ?_, ⟨by omega, fun c hc => ?_⟩, ?_, fun c hc => ?_⟩
    · have := hl c hc
      omega
    · have q := hl c hc
      rw [asc_alpha c (by omega)]
      simp [q]
    · match l, h1 with
      | c :: r, _ =>
        refine ⟨c, List.mem_cons_self, ?_⟩
        have q := hl c List.mem_cons_self
        rw [asc_lower c (by omega)]
        simp [q]
    · have q := hl c hc
      rw [asc_upper _ (by omega)]
      simp
      omega
theorem let_not_nam {x : Str} (h : isLet x = true) : isNam x = false := by
  obtain ⟨c, e, h1, h2⟩ := isLet_iff.mp h
  cases q : isNam x with
  | false => rfl
  | true =>
    obtain ⟨_, _, h3⟩ := isNam_iff.mp q
    have := h3 c (by rw [e]; exact List.mem_cons_self)
    unfold Low at this
    omega

/-! ### any thing, as the program sees it -/
inductive Tg where
  | str (x : Str) | oth | tup (ts : List Tg)
mutual
def Tg.nodes : Tg → Nat
  | .str _ => 1
  | .oth => 1
  | .tup ts => 1 + nodesAll ts
def nodesAll : List Tg → Nat
  | [] => 0
  | t :: ts => t.nodes + nodesAll ts
end
theorem nodes_pos (t : Tg) : 1 ≤ t.nodes := by
  cases t <;> simp only [Tg.nodes] <;> omega
theorem nodesAll_app : ∀ a b : List Tg, nodesAll (a ++ b) = nodesAll a + nodesAll b
  | [], b => by simp [nodesAll]
  | t :: a, b => by
    rw [List.cons_append]
    simp only [nodesAll]
    rw [nodesAll_app a b]
    omega
theorem length_le_nodes : ∀ a : List Tg, a.length ≤ nodesAll a
  | [] => Nat.zero_le _
  | t :: a => by
    have h1 := length_le_nodes a
    have h2 := nodes_pos t
    simp only [nodesAll, List.length_cons]
    omega
def Tg.isNm : Tg → Bool
  | .str x => isNam x
  | _ => false
/-- a class type as far as its name and the number of its arguments go -/
def begT : Tg → Bool
  | .tup (n :: ts) => decide (ts.length ≤ 2) && n.isNm
  | _ => false
def Tg.isL : Tg → Bool
  | .str x => isLet x
  | _ => false
mutual
def isT : Tg → Bool
  | .str x => isLet x
  | .oth => false
  | .tup [] => false
  | .tup (n :: ts) => (decide (ts.length ≤ 2) && n.isNm) && isTAll ts
def isTAll : List Tg → Bool
  | [] => true
  | t :: ts => isT t && isTAll ts
end
theorem isTAll_app : ∀ a b : List Tg, isTAll (a ++ b) = (isTAll a && isTAll b)
  | [], b => by simp [isTAll]
  | t :: a, b => by
    rw [List.cons_append]
    simp only [isTAll]
    rw [isTAll_app a b, Bool.and_assoc]
def Tg.args : Tg → List Tg
  | .tup (_ :: ts) => ts
  | _ => []
theorem isT_beg {t : Tg} (h : begT t = true) : isT t = isTAll t.args := by
  match t, h with
  | .tup (n :: ts), h =>
    have h' : (decide (ts.length ≤ 2) && n.isNm) = true := h
    simp only [isT, Tg.args]
    rw [h', Bool.true_and]
theorem isT_nbeg {t : Tg} (h : begT t = false) : isT t = t.isL := by
  match t, h with
  | .str x, _ => simp [isT, Tg.isL]
  | .oth, _ => simp [isT, Tg.isL]
  | .tup [], _ => simp [isT, Tg.isL]
  | .tup (n :: ts), h =>
    have h' : (decide (ts.length ≤ 2) && n.isNm) = false := h
    simp only [isT, Tg.isL]
    rw [h', Bool.false_and]
theorem args_nodes {t : Tg} (h : begT t = true) : nodesAll t.args + 1 < t.nodes + 1 := by
  match t, h with
  | .tup (n :: ts), _ =>
    have := nodes_pos n
    simp only [Tg.args, Tg.nodes, nodesAll]
    omega
mutual
/-- at v stands such a thing -/
inductive Th (K : PySem.W.Frag) (H : Hp) : V → Tg → Prop
  | str (x : Str) (hx : x.length ≤ 100000) : Th K H (.str x) (.str x)
  | oth {v : V} {t : Value} (ty : TyX K H v t) (a : PySem.W.kitOne K t (.type "str") = some false) (b : PySem.W.kitOne K t (.type "tuple") = some false) : Th K H v .oth
  | tup {a : Addr} {xs : List V} {ts : List Tg} (h : SqT K H a xs) (r : ThAll K H xs ts) : Th K H (.ref a) (.tup ts)
inductive ThAll (K : PySem.W.Frag) (H : Hp) : List V → List Tg → Prop
  | nil : ThAll K H [] []
  | cons {v : V} {vs : List V} {t : Tg} {ts : List Tg} (h : Th K H v t) (r : ThAll K H vs ts) : ThAll K H (v :: vs) (t :: ts)
end
theorem ThAll.length {K : PySem.W.Frag} {H : Hp} : ∀ {vs : List V} {ts : List Tg}, ThAll K H vs ts → vs.length = ts.length
  | _, _, .nil => rfl
  | _, _, .cons _ r => by simp [ThAll.length r]
theorem ThAll.app {K : PySem.W.Frag} {H : Hp} : ∀ {vs ws : List V} {ts us : List Tg}, ThAll K H vs ts → ThAll K H ws us → ThAll K H (vs ++ ws) (ts ++ us)
  | _, _, _, _, .nil, r => r
  | _, _, _, _, .cons h r, q => .cons h (r.app q)
theorem ThAll.snoc {K : PySem.W.Frag} {H : Hp} {vs : List V} {ts : List Tg} (h : ThAll K H vs ts) (hn : ts ≠ []) : ∃ v vs' t ts', vs = vs' ++ [v] ∧ ts = ts' ++ [t] ∧ Th K H v t ∧ ThAll K H vs' ts' := by
  match vs, ts, h with
  | _, _, .nil => exact absurd rfl hn
  | _, _, .cons (v := v) (vs := vs) (t := t) (ts := ts) h r =>
    by_cases e : ts = []
    · subst e
      match vs, r with
      | _, .nil => exact ⟨v, [], t, [], rfl, rfl, h, .nil⟩
    · obtain ⟨v', vs', t', ts', e1, e2, h1, h2⟩ := r.snoc e
      exact ⟨v', v :: vs', t', t :: ts', by rw [e1]; rfl, by rw [e2]; rfl, h1, .cons h h2⟩
/-- what is needed of a change of the heap, for things to stay -/
structure Stay (K : PySem.W.Frag) (H H' : Hp) : Prop where
  tup : ∀ a xs, SqT K H a xs → SqT K H' a xs
  ty : ∀ v t, TyX K H v t → TyX K H' v t
mutual
theorem Th.stay {K : PySem.W.Frag} {H H' : Hp} (s : Stay K H H') : ∀ {v : V} {t : Tg}, Th K H v t → Th K H' v t
  | _, _, .str x hx => .str x hx
  | _, _, .oth ty a b => .oth (s.ty _ _ ty) a b
  | _, _, .tup h r => .tup (s.tup _ _ h) (ThAll.stay s r)
theorem ThAll.stay {K : PySem.W.Frag} {H H' : Hp} (s : Stay K H H') : ∀ {vs : List V} {ts : List Tg}, ThAll K H vs ts → ThAll K H' vs ts
  | _, _, .nil => .nil
  | _, _, .cons h r => .cons (Th.stay s h) (ThAll.stay s r)
end
theorem Stay.refl {K : PySem.W.Frag} (H : Hp) : Stay K H H := ⟨fun _ _ h => h, fun _ _ h => h⟩
theorem Stay.trans {K : PySem.W.Frag} {H H1 H2 : Hp} (a : Stay K H H1) (b : Stay K H1 H2) : Stay K H H2 := ⟨fun x y h => b.tup x y (a.tup x y h), fun x y h => b.ty x y (a.ty x y h)⟩
theorem stay_of {K : PySem.W.Frag} {H H' : Hp} (h : ∀ a o, H a = some o → H' a = some o ∨ ∃ xs ys, o = .lst xs ∧ H' a = some (.lst ys)) (hdx : ∀ a x, H a = some (.own x) → H' a = some (.own x)) : Stay K H H' where
  tup := fun a xs q => by
    rcases q with (q | ⟨o, q⟩) | q
    · rcases h a _ q with h1 | ⟨_, _, e, _⟩
      · exact .inl (.inl h1)
      · cases e
    · rcases h a _ q with h1 | ⟨_, _, e, _⟩
      · exact .inl (.inr ⟨o, h1⟩)
      · cases e
    · exact .inr q
  ty := fun v t q => by
    have k : ∀ a o, H a = some o → (∀ xs, o ≠ .lst xs) → H' a = some o := fun a o e n => by
      rcases h a o e with h1 | ⟨xs, _, e2, _⟩
      · exact h1
      · exact absurd e2 (n xs)
    cases q with
    | base b =>
      cases b with
      | non => exact .base .non
      | bl x => exact .base (.bl x)
      | int i => exact .base (.int i)
      | str x => exact .base (.str x)
      | flt x => exact .base (.flt x)
      | @lst a xs e =>
        rcases h a _ e with h1 | ⟨_, ys, _, h1⟩
        · exact .base (.lst h1)
        · exact .base (.lst h1)
      | frz e => exact .base (.frz (k _ _ e fun xs z => by cases z))
      | tup e => exact .base (.tup (k _ _ e fun xs z => by cases z))
      | dK e => exact .base (.dK (k _ _ e fun xs z => by cases z))
      | dT e => exact .base (.dT (k _ _ e fun xs z => by cases z))
      | ins e cl ha hn htk hm => exact .base (.ins (k _ _ e fun xs z => by cases z) cl ha hn htk hm)
    | byt b => exact .byt b
    | set e => exact .set (k _ _ e fun xs z => by cases z)
    | kList e c => exact .kList e c
    | kTuple e c => exact .kTuple e c
    | kDict e c => exact .kDict e c
    | fTuple e => exact .fTuple (k _ _ e fun xs z => by cases z)
    | fDict e => exact .fDict (k _ _ e fun xs z => by cases z)
theorem stay_same {K : PySem.W.Frag} {H H' : Hp} (e : Same H H') : Stay K H H' := stay_of (fun a o q => .inl (e a o q)) fun a x q => e a _ q
theorem same_new {H : Hp} {p : Addr} (h : H p = none) (o : HO) : Same H (upd H p o) := fun b u q => by rw [upd_ne (ne_of_none q h)]; exact q
theorem stay_new {K : PySem.W.Frag} {H : Hp} {p : Addr} (h : H p = none) (o : HO) : Stay K H (upd H p o) := stay_same (same_new h o)
theorem stay_lst {K : PySem.W.Frag} {H : Hp} {p : Addr} {xs ys : List V} (h : H p = some (.lst xs)) : Stay K H (upd H p (.lst ys)) := stay_of (fun a o q => by
    by_cases e : a = p
    · subst e
      rw [h] at q
      cases q
      exact .inr ⟨xs, ys, rfl, upd_same⟩
    · exact .inl (by rw [upd_ne e]; exact q)) fun a x q => by
  rw [upd_ne (ne_of q h (by intro z; cases z))]
  exact q
theorem SqT.ty {K : PySem.W.Frag} {H : Hp} {a : Addr} {xs : List V} (h : SqT K H a xs) : TyX K H (.ref a) (.type "tuple") := by
  rcases h with (h | ⟨o, h⟩) | ⟨o, its, n, h, c, _⟩
  · exact .base (.tup h)
  · exact .fTuple h
  · exact .kTuple h c
end N

namespace N
open PySem PySem.Spec PyProof.Rows L2
/-! ### promises where no repr is under way -/
structure RoomG (k : Nat) (A : Around) : Prop extends Room k A where
  gs : A.guards = some []
theorem RoomG.mono {j k : Nat} {A : Around} (r : RoomG k A) (h : j ≤ k) : RoomG j A := ⟨r.toRoom.mono h, r.gs⟩
theorem RoomG.deeper {k : Nat} {A : Around} (r : RoomG (k + 1) A) (env : Env) : RoomG k (A.deeper env) := ⟨r.toRoom.deeper env, r.gs⟩
theorem roomG_caller {k : Nat} (r : Room k callerA) : RoomG k callerA := ⟨r, rfl⟩
structure FnG (P : Program) (w : World) (K : PySem.W.Frag) (mg : Str → Option Value) (base : Heap) (CX : CXT) (k : Nat) (f : Addr) (fd : FuncData) (ps : List Str) (sp : Sp) : Prop where
  len : ∀ vs H Q E, sp vs H Q E → vs.length = ps.length
  run : ∀ (A : Around) (outer : List Env) (s : Shared) (H : Hp) (args : Args) (us : List Value) (vs : List V) (Q : VK) (E : XK), RoomG k A → Env0 P w K mg base A outer s H → BindsTo s fd args (ps.zip us) → Vals vs us → sp vs H Q E →
    codeAny (model P w) A (.call (.ref f) args) (CR CX outer P w H s Q E) s
section
variable {P : Program} {w : World} {K : PySem.W.Frag} {mg : Str → Option Value} {base : Heap} {CX : CXT} {j k : Nat} {f : Addr} {fd : FuncData} {ps : List Str} {sp : Sp}
theorem FnG.mono (F : FnG P w K mg base CX j f fd ps sp) (h : j ≤ k) : FnG P w K mg base CX k f fd ps sp := ⟨F.len, fun A outer s H args us vs Q E hr => F.run A outer s H args us vs Q E (hr.mono h)⟩
theorem FnG.imp {sp' : Sp} (F : FnG P w K mg base CX k f fd ps sp) (h : ∀ vs H Q E, sp' vs H Q E → sp vs H Q E) : FnG P w K mg base CX k f fd ps sp' :=
  ⟨fun vs H Q E q => F.len vs H Q E (h _ _ _ _ q), fun A outer s H args us vs Q E hr he hb hv hs => F.run A outer s H args us vs Q E hr he hb hv (h _ _ _ _ hs)⟩
/-- one entry, the surroundings fixed: the library's rule for a def is asked with a promise that holds there alone -/
theorem fnG_of {x : Str} {st : Stmt} {N : List Str} (F : Fun K x x st f fd) (S : FnScope N ps (defScope st)) (len : ∀ vs H Q E, sp vs H Q E → vs.length = ps.length)
    (hbody : ∀ (cdv : Value) (A : Around) (outer : List Env) (s : Shared) (H : Hp) (vs : List V) (Q : VK) (E : XK), RoomG k (A.deeper (envOfC x (defScope st) s.heap.objs.size f cdv)) → sp vs H Q E →
      ∃ t, PSs (cxOf CX P w K mg base N x (defScope st) f cdv A outer s H E) (defBody st) t ∧ t { nx := fun _ H' => Q .non H', rt := Q } (start N vs) H) : FnG P w K mg base CX (k + 1) f fd ps sp := by
  obtain ⟨oc, od, kV, doc, pm, an, cdv, ct, osl, rfl, lk, hcd⟩ := F.ex
  refine ⟨len, fun A outer s H args us vs Q E hr e0 hb r hsp => ?_⟩
  have KX : K.In s.heap := e0.mod.kin.keeps fun b o e => (e0.bs b o e).1
  have lim : s.heap.NoLimit := e0.mod.nolimit.keeps fun b o e => (e0.bs b o e).1
  have hkind : ∀ y ∈ ps.zip us, (defScope st).names.lookup y.1 = some .local ∨ ((defScope st).names.lookup y.1 = some .cell ∧ ((cellsFrom (s.heap.objs.size + 1) (defScope st).names []).lookup y.1).isSome = true) := fun ⟨n, v⟩ hy =>
    (S.par n (List.of_mem_zip hy).1).elim .inl fun q => .inr ⟨q, PySem.W.cellsFrom_some _ _ _ (.inl q)⟩
  refine codeAny_call_function hr.depth (KX _ _ lk) rfl S.co S.gen rfl (PySem.W.codeRec_of KX hcd) (hb _ _ _ _ ?_)
  refine wpAny_newFunctionEnv_cells S.kind hkind fun env he s1 x => ?_
  subst he
  refine ⟨lim.keeps x.toInCall.keep, codeAny_func ?_⟩
  obtain ⟨t, ht, hq⟩ := hbody cdv A outer s H vs Q E (hr.deeper _) hsp
  have I := inv_start (CX := CX) (P := P) (w := w) (mg := mg) (E := E) S hr.hd e0 (len _ _ _ _ hsp) r x
  refine wpAny_mono (ht.run [] s1 (start N vs) H _ I hq) (fun fl s' hs => ?_) fun e s' hs => hs
  cases fl with
  | ret u => obtain ⟨v, σ', H', J, rv, q⟩ := hs; exact ⟨v, H', J.os, J.bare, J.base, J.hok, rv, q⟩
  | next => obtain ⟨σ', H', J, q⟩ := hs; exact ⟨.non, H', J.os, J.bare, J.base, J.hok, rfl, q⟩
  | brk => obtain ⟨_, _, _, q⟩ := hs; exact False.elim q
  | cont => obtain ⟨_, _, _, q⟩ := hs; exact False.elim q
end
section
variable {X : Cx} {CX : CXT} {k : Nat} {f : Addr} {fd : FuncData} {ps : List Str} {sp : Sp} {E : XK}
theorem runG {pins : List (Addr × Obj)} {σ : L2.St} {H : Hp} {s : Shared} {Q : VK} {us : List Value} {vs : List V} (F : FnG X.prog X.w X.K X.mg X.base CX k f fd ps sp) (hr : RoomG k X.A) (hb : Binds X.K fd ps [])
    (hx : ∀ e s', CX X.stack H s E e s' → X.xe e s') (I : Inv X pins σ H s) (r : Vals vs us) (h : sp vs H Q E) : wpAny (model X.prog X.w) X.A (call (.ref f) us) (EP X pins σ Q) X.xe s := by
  have b := hb s us I.kIn (by rw [List.append_nil, ← r.length]; exact F.len _ _ _ _ h)
  rw [List.append_nil] at b
  refine wpAny_call (codeAny_mono (F.run X.A X.stack s H ⟨us, []⟩ us vs Q E hr I.env0 b r h) fun res s' hq => ?_)
  match res, hq with
  | .error e, hq => exact hx e s' hq
  | .ok (.ret u), hq => exact I.after hq
  | .ok .next, hq => exact False.elim hq
  | .ok .brk, hq => exact False.elim hq
  | .ok .cont, hq => exact False.elim hq
end
end N

namespace N
open PySem PySem.Spec PyProof.Rows L2
/-! ### defs as they stand behind the top, and what they promise -/
def DefAt (K : PySem.W.Frag) (mg : Str → Option Value) (x : Str) (st : Stmt) (ps : List Str) : Prop :=
  ∃ (f : Addr) (fd : FuncData), mg x = some (.ref f) ∧ Fun K x x st f fd ∧ Binds K fd ps []
def Cal (P : Program) (w : World) (K : PySem.W.Frag) (mg : Str → Option Value) (base : Heap) (k : Nat) (x : Str) (ps : List Str) (sp : Sp) : Prop :=
  ∃ (f : Addr) (fd : FuncData), mg x = some (.ref f) ∧ PySem.W.keepIn K (.ref f) = true ∧ Binds K fd ps [] ∧ FnG P w K mg base (L2.CX P w) k f fd ps sp
section
variable {P : Program} {w : World} {K : PySem.W.Frag} {mg : Str → Option Value} {base : Heap} {k : Nat} {x : Str} {ps N : List Str} {sp : Sp} {st : Stmt}
theorem Cal.mono {j : Nat} (c : Cal P w K mg base j x ps sp) (h : j ≤ k) : Cal P w K mg base k x ps sp := by
  obtain ⟨f, fd, a, b, d, F⟩ := c
  exact ⟨f, fd, a, b, d, F.mono h⟩
theorem Cal.imp {sp' : Sp} (c : Cal P w K mg base k x ps sp) (h : ∀ vs H Q E, sp' vs H Q E → sp vs H Q E) : Cal P w K mg base k x ps sp' := by
  obtain ⟨f, fd, a, b, d, F⟩ := c
  exact ⟨f, fd, a, b, d, F.imp h⟩
theorem DefAt.cal (D : DefAt K mg x st ps) (S : FnScope N ps (defScope st)) (len : ∀ vs H Q E, sp vs H Q E → vs.length = ps.length)
    (hbody : ∀ (f : Addr) (cdv : Value) (A : Around) (outer : List Env) (s : Shared) (H : Hp) (vs : List V) (Q : VK) (E : XK), RoomG k (A.deeper (envOfC x (defScope st) s.heap.objs.size f cdv)) → sp vs H Q E →
      ∃ t, PSs (cxOf (L2.CX P w) P w K mg base N x (defScope st) f cdv A outer s H E) (defBody st) t ∧ t { nx := fun _ H' => Q .non H', rt := Q } (start N vs) H) : Cal P w K mg base (k + 1) x ps sp := by
  obtain ⟨f, fd, a, F, b⟩ := D
  exact ⟨f, fd, a, F.kp, b, fnG_of F S len fun cdv A outer s H vs Q E hr h => hbody f cdv A outer s H vs Q E hr h⟩
theorem mk_def {h : Heap} {f : Addr} {oc : Value} {od an : Option Addr} {osl : Array (Option Value)} {kV doc pm cdv ct : Value} (X : K.In h) (G : h.Ns mainGlobals mg)
    (a : PySem.W.nsIn K mainGlobals x = some (some (.ref f))) (l : K.lookup f = some ⟨oc, od, .func (PySem.W.fnOf x x (defArgs st) (defBody st) (defScope st) .none kV doc pm an cdv ct), osl⟩) (c : PySem.W.codeIn K cdv x = true) (k : PySem.W.keepIn K (.ref f) = true)
    (b : ∀ (kV doc pm : Value) (an : Option Addr) (cdv ct : Value) (us : List Value), us.length = ps.length → bindArgs (PySem.W.fnOf x x (defArgs st) (defBody st) (defScope st) .none kV doc pm an cdv ct) ⟨us, []⟩ = pure (ps.zip us)) : DefAt K mg x st ps :=
  ⟨f, _, PySem.W.mg_of X G a, fun_mk l c k, (fun_mk l c k).binds b⟩
end
section
variable {X : Cx} {k : Nat} {x : Str} {ps : List Str} {sp : Sp} {p pos : Pos} {e : Expr} {es : List Expr} {t : TA} {W : WX}
/-- f(e, ..): what is raised goes where W says -/
theorem pcE (tk : Takes X W) (c : Cal X.prog X.w X.K X.mg X.base k x ps sp) (hr : RoomG k X.A) (hg : Gl X x) (ha : PA X (e :: es) t) (hdb : (x == ("__debug__" : Str)) = false := by decide) (he : starEach (e :: es) X.env = (false, eval e X.env) :: starEach es X.env := by rfl)
    (hpl : (backTo pos (starEach es X.env)).any (·.1) = false := by rfl) : PE X (.Call (.Name x p) (e :: es) [] pos) (tCallS sp (WE W) t) := by
  obtain ⟨f, fd, hm, hk, hb, F⟩ := c
  refine ⟨fun pins s σ H Q I h => wpAny_Call_Name_kw (ld_glob I hg hm ?_ hdb)⟩
  refine PySem.W.callWith_K (h₀ := X.base) I.ok.mod.kin hk (thn (ha.run pos pins s σ H _ I h) fun us s1 ⟨vs, H1, I1, r, q⟩ => ⟨I1.kIn, ?_⟩) he hpl
  exact runG F hr hb (fun e s' z => passAt tk σ pins H1 s1 e s' I1 z) I1 r q
/-- f(e, ..): nothing that is raised is let out -/
theorem pc (c : Cal X.prog X.w X.K X.mg X.base k x ps sp) (hr : RoomG k X.A) (hg : Gl X x) (ha : PA X (e :: es) t) (hdb : (x == ("__debug__" : Str)) = false := by decide) (he : starEach (e :: es) X.env = (false, eval e X.env) :: starEach es X.env := by rfl)
    (hpl : (backTo pos (starEach es X.env)).any (·.1) = false := by rfl) : PE X (.Call (.Name x p) (e :: es) [] pos) (fun σ H Q => t σ H fun vs H1 => sp vs H1 Q E0) := by
  obtain ⟨f, fd, hm, hk, hb, F⟩ := c
  refine ⟨fun pins s σ H Q I h => wpAny_Call_Name_kw (ld_glob I hg hm ?_ hdb)⟩
  refine PySem.W.callWith_K (h₀ := X.base) I.ok.mod.kin hk (thn (ha.run pos pins s σ H _ I h) fun us s1 ⟨vs, H1, I1, r, q⟩ => ⟨I1.kIn, ?_⟩) he hpl
  exact runG F hr hb (fun e s' z => passL pins σ H1 s1 e s' I1 z) I1 r q
theorem pc0 (c : Cal X.prog X.w X.K X.mg X.base k x [] sp) (hr : RoomG k X.A) (hg : Gl X x) (hdb : (x == ("__debug__" : Str)) = false := by decide) : PE X (.Call (.Name x p) [] [] pos) (fun _ H Q => sp [] H Q E0) := by
  obtain ⟨f, fd, hm, hk, hb, F⟩ := c
  refine ⟨fun pins s σ H Q I h => wpAny_Call_Name_kw (ld_glob I hg hm ?_ hdb)⟩
  exact PySem.W.callWith_K0 I.kIn hk (runG (us := []) F hr hb (fun e s' z => passL pins σ H s e s' I z) I .nil h)
end
theorem hug {k : Nat} {A : Around} (hr : RoomG k A) : A.units + 1 < cLine := hu_of hr.toRoom
/-- an own error class over ValueError, without an __init__ -/
structure ExcAt (K : PySem.W.Frag) (mg : Str → Option Value) (x : Str) (C : Addr) : Prop where
  g : mg x = some (.ref C)
  k : PySem.W.keepIn K (.ref C) = true
  b : PySem.W.subIn K (.ref C) (.type "BaseException") = some true
  t : PySem.W.typeIn K (.ref C) = some (.type "type")
  x : PySem.W.excIn K C [.type "ValueError", .type "Exception", .type "BaseException", .type "object"] "ValueError.__new__" = true
theorem b_str : bootBuiltins "str" = some (.type "str") := by decide +kernel
theorem b_tuple : bootBuiltins "tuple" = some (.type "tuple") := by decide +kernel
theorem b_dict : bootBuiltins "dict" = some (.type "dict") := by decide +kernel
theorem b_list : bootBuiltins "list" = some (.type "list") := by decide +kernel
/-- isinstance(e, T), T a built-in class -/
theorem pe_isi {X : Cx} {p p2 pos : Pos} {e : Expr} {te : TE} {n : String} {c : Str} (hm : X.mg "isinstance" = none) (hmc : X.mg c = none) (hv : bootBuiltins c = some (.type n)) (hg : Gl X "isinstance") (hgc : Gl X c) (he : PE X e te) (hn : c ≠ "__name__" := by decide)
    (hdb : (c == ("__debug__" : Str)) = false := by decide) (hst2 : starEach [e, .Name c p2] X.env = (false, eval e X.env) :: starEach [.Name c p2] X.env := by rfl) (hpl : (backTo pos (starEach [.Name c p2] X.env)).any (·.1) = false := by rfl) (hs3 : starEach [.Name c p2] X.env = (false, eval (.Name c p2) X.env) :: starEach [] X.env := by rfl) :
    PE X (.Call (.Name "isinstance" p) [e, .Name c p2] [] pos) (fun σ H Q => te σ H fun v H1 => rIsi X.K [v, .ty n] H1 Q) :=
  pe_callB call_isi hg hm (by decide +kernel) (pa_cons he (pa_cons (pe_bltn (v := .ty n) hgc hmc hv rfl hn hdb) pa_nil hs3) hst2) (by decide) (by decide) hst2 hpl
theorem isi_q {K : PySem.W.Frag} {H : Hp} {v : V} {t : Value} {n : String} {b : Bool} {Q : VK} (ty : TyX K H v t) (e : PySem.W.kitOne K t (.type n) = some b) (q : Q (.bl b) H) : rIsi K [v, .ty n] H Q := ⟨v, .ty n, t, _, b, rfl, .ty n, ty, e, q⟩
def Tg.isS : Tg → Bool
  | .str _ => true
  | _ => false
def Tg.isTu : Tg → Bool
  | .tup _ => true
  | _ => false
theorem isi_str {K : PySem.W.Frag} {H : Hp} {v : V} {t : Tg} {Q : VK} (h : Th K H v t) (q : Q (.bl t.isS) H) : rIsi K [v, .ty "str"] H Q := by
  cases h with
  | str x hx => exact isi_q (b := true) (.base (.str x)) (kit_ty (by decide +kernel)) q
  | oth ty a b => exact isi_q ty a q
  | tup h r => exact isi_q (b := false) (SqT.ty h) (kit_ty (by decide +kernel)) q
theorem isi_tup {K : PySem.W.Frag} {H : Hp} {v : V} {t : Tg} {Q : VK} (h : Th K H v t) (q : Q (.bl t.isTu) H) : rIsi K [v, .ty "tuple"] H Q := by
  cases h with
  | str x hx => exact isi_q (b := false) (.base (.str x)) (kit_ty (by decide +kernel)) q
  | oth ty a b => exact isi_q ty b q
  | tup h r => exact isi_q (b := true) (SqT.ty h) (kit_ty (by decide +kernel)) q
end N

namespace N
open PySem PySem.Spec PyProof.Rows L2
/-! ### the end of a law over such promises -/
section
variable {P : Program} {w : World} {K : PySem.W.Frag} {mg mb : Str → Option Value} {CX : CXT} {k : Nat} {fa a : Addr} {fd : FuncData} {x : Str} {sp : Sp} {s₁ : Shared} {vs : List Value} {ns : List Int}
/-- the law is run where at most the script is tracked -/
theorem run_law (H : Hp) (KX : K.In s₁.heap) (hns : s₁.heap.Ns mainGlobals mg) (hb : s₁.heap.Ns builtinsNs mb) (hbb : ∀ x : Str, x ≠ "__name__" → mb x = bootBuiltins x) (hlim : s₁.heap.NoLimit) (hg : s₁.gens = #[])
    (ha : s₁.heap.get? a = some { cls := .type "list", data := .seq vs.toArray }) (hr : Room k callerA) (F : ∀ base : Heap, K.In base → base.Ns mainGlobals mg → FnG P w K mg base CX k fa fd [x] sp) (hbind : ∀ (s : Shared) (u : Value), BindsTo s fd ⟨[u], []⟩ [(x, u)])
    (hsp : sp [.ref a] H (fun v _ => v = .bl true) fun _ _ _ => False) (hCX : ∀ e s', CX [] H s₁ (fun _ _ _ => False) e s' → False) (hO : Only H) (hok : HOk P w H s₁.heap) (hA : ∀ b, H b ≠ none → b = a) (hK : H a ≠ none → K.lookup a = none) :
    codeAny (model P w) callerA (.call (.ref fa) ⟨[.ref a], []⟩) (fun r s' => r = .ok (.ret (.bool true)) ∧ OldK s₁.heap s'.heap ∧ s'.os = s₁.os ∧ AllBare s'.gens) s₁ := by
  have free : ∀ {b : Addr}, b ≠ a → H b = none := fun {b} n => by
    cases q : H b with
    | none => rfl
    | some u => exact absurd (hA b (by rw [q]; exact fun z => by cases z)) n
  have nsK : ∀ {b : Addr} {m : Str → Option Value}, s₁.heap.Ns b m → (hidT s₁.heap H).Ns b m := fun {b m} ⟨o, es, ep, e, d, r⟩ => by
    have nb : b ≠ a := fun z => by
      subst z
      rw [ha] at e
      cases e
      have d' : Data.seq vs.toArray _ = Data.dict es ep := d
      cases d'
    exact ⟨o, es, ep, hidT_get e (free nb), d, r⟩
  have hKb : K.In (hidT s₁.heap H) := fun b o e => hidT_get (KX b o e) (by
    by_cases nb : b = a
    · subst nb
      cases q : H b with
      | none => rfl
      | some u =>
        have := hK (by rw [q]; exact fun z => by cases z)
        rw [this] at e
        cases e
    · exact free nb)
  have hM : Mod K mg (hidT s₁.heap H) := ⟨hKb, nsK hns, ⟨mb, nsK hb, hbb⟩, let ⟨mc, h1, h2⟩ := hlim; ⟨mc, nsK h1, h2⟩⟩
  have e0 : Env0 P w K mg (hidT s₁.heap H) callerA [] s₁ H := ⟨rfl, hM, fun b o e => of_hidT e, Nat.le_of_eq (hidT_size _ _), trivial, fun b hb => absurd (show b ∈ ([] : List Addr) from hb) (by simp), hok, .of_eq hg⟩
  have go := (F _ hKb (nsK hns)).run callerA [] s₁ H ⟨[.ref a], []⟩ [.ref a] [.ref a] (fun v _ => v = .bl true) (fun _ _ _ => False) (roomG_caller hr) e0 (hbind s₁ (.ref a)) (.cons rfl .nil) hsp
  refine codeAny_mono go fun r s' h => ?_
  match r, h with
  | .error e, h => exact (hCX e s' h).elim
  | .ok .next, h => exact False.elim h
  | .ok .brk, h => exact False.elim h
  | .ok .cont, h => exact False.elim h
  | .ok (.ret u), h =>
    obtain ⟨v, H', os, bare, un, hok', r', q⟩ := h
    have q' : v = .bl true := q
    subst q'
    obtain rfl : u = Value.bool true := r'
    refine ⟨rfl, OldK.of_keep fun b o e => ?_, os, bare⟩
    cases q : H b with
    | none => exact un.keep b o e q (by intro z; exact absurd (show b ∈ ([] : List Addr) from z) (by simp)) (by simp)
    | some u =>
      rcases hO b with z | ⟨ob, xs, z⟩
      · rw [q] at z; cases z
      · have e1 := (hok b _ z).1
        have e2 := (hok' b _ (un.frzs b ob _ z)).1
        rw [e] at e1
        cases e1
        exact e2
end
theorem walkG {l : PySem.W.OpenLaw} {n k : Nat} {q : Program} {loose : List Str} {XP : (Str → Option Value) → Heap → Prop} {YP : World → Heap → Prop} {d : DefRec} {K : Params → PySem.W.Frag} {CX : World → CXT} {sp : World → Sp} {x : Str}
    (hn : l.most = some n) (hn2 : n ≤ sizeLine) (hdf : d.params.defaults = []) (hr : Room k callerA) (hY : ∀ (w : World) (h : Heap), YP w h → (K w.params).In h)
    (F : ∀ (w : World) (mg : Str → Option Value) (fa : Addr) (h : Heap), (K w.params).In h → h.Ns mainGlobals mg → mg d.name = some (.ref fa) →
      ∃ fd : FuncData, (∀ (s : Shared) (u : Value), BindsTo s fd ⟨[u], []⟩ [(x, u)]) ∧ ∀ base : Heap, (K w.params).In base → base.Ns mainGlobals mg → FnG l.prog w (K w.params) mg base (CX w) k fa fd [x] (sp w))
    (hsp : ∀ (w : World) (H : Hp) (a : Addr) (ns : List Int), ns.length ≤ n → Only H → SqL (K w.params) H a (ns.map V.int) → sp w [.ref a] H (fun v _ => v = .bl true) fun _ _ _ => False)
    (hCX : ∀ (w : World) (H : Hp) (s : Shared) (e : Value) (s' : Shared), CX w [] H s (fun _ _ _ => False) e s' → False) : PySem.W.WalkO q loose XP YP l.row.toRowW d [] (fun f vs => PySem.call f vs) := by
  refine Att.attach_call hn hdf fun w s₀ s₁ mg mb fa o pm cd doc a vs ns G Y ho hd hcd hmg ha hi hlen hg => ?_
  have KX := hY w _ Y
  obtain ⟨fd, hb, hF⟩ := F w mg fa _ KX G.T.g hmg
  have rv := vals_ints hi
  have lenV := hi.length
  have hl : ns.length ≤ sizeLine := Nat.le_trans hlen hn2
  have one := fun (H : Hp) (hO : Only H) (hS : SqL (K w.params) H a (ns.map V.int)) => run_law H KX G.T.g G.T.b G.T.builtins G.T.nolimit hg ha hr hF hb (hsp w H a ns hlen hO hS) (fun e s' => hCX w H s₁ e s') hO
  cases hk : (K w.params).lookup a with
  | some o' =>
    have e := KX a o' hk
    rw [ha] at e
    cases e
    refine one (fun _ => none) (fun _ => .inl rfl) (.inr ⟨_, vs.toArray, _, hk, rfl, rfl, rfl, by rw [List.size_toArray, lenV]; exact hl, by simpa using rv⟩) (fun b u z => ?_) (fun b z => absurd rfl z) fun z => absurd rfl z
    have z' : (none : Option HO) = some u := z
    cases z'
  | none =>
    have ya : ∀ {b : Addr} {u : HO}, (if b = a then some (HO.frz { cls := .type "list", data := .seq vs.toArray } (.lst (ns.map V.int))) else none) = some u → b = a ∧ u = .frz { cls := .type "list", data := .seq vs.toArray } (.lst (ns.map V.int)) := fun {b u} z => by
      by_cases hb : b = a
      · rw [if_pos hb] at z
        exact ⟨hb, (Option.some.inj z).symm⟩
      · rw [if_neg hb] at z
        cases z
    refine one (fun b => if b = a then some (.frz { cls := .type "list", data := .seq vs.toArray } (.lst (ns.map V.int))) else none) (fun b => ?_) (.inl (.inr ⟨{ cls := .type "list", data := .seq vs.toArray }, if_pos rfl⟩)) (fun b u z => ?_) (fun b z => ?_) fun _ => hk
    · by_cases hb : b = a
      · exact .inr ⟨_, _, if_pos hb⟩
      · exact .inl (if_neg hb)
    · obtain ⟨e1, e2⟩ := ya z
      subst e1 e2
      exact ⟨ha, by rw [List.length_map]; exact hl, vs, _, rv, ha⟩
    · by_cases hb : b = a
      · exact hb
      · exact absurd (if_neg hb) z
end N

namespace N
open PySem PySem.Spec PyProof.Rows L2
/-! ### repr of data -/
/-- repr(x), x a list or a tuple of data without dicts -/
def rRepr (K : PySem.W.Frag) : List V → Hp → VK → Prop := fun xs H Q => ∃ (a : Addr) (d : PyData), xs = [V.ref a] ∧ Dp K H (.ref a) d ∧ d.showable = true ∧ d.hasDict = false ∧ d.depth ≤ 60 ∧ d.shown.length ≤ sizeLine ∧ Q (.str d.shown) H
theorem call_repr {X : Cx} {k : Nat} (hr : RoomG k X.A) : CallR X (.builtin "repr") (rRepr X.K) := by
  intro pins s σ H xs us Q I r h
  obtain ⟨a, d, rfl, hd, hs, hn, hdp, hz, q⟩ := h
  obtain ⟨u, rfl, ru⟩ := vals1 r
  cases (show u = Value.ref a from ru)
  obtain ⟨as, rd⟩ := Dp.reads I d _ _ hd rfl
  have hun := hr.toRoom.units
  exact repr_of_reads' rd hs (PyData.noDict_hsm hn) hr.gs (by omega) (fun b o e => e) (fun h' u tk hk => ⟨.str d.shown, H, I.kept (t' := tk) hk, ⟨_, rfl⟩, q⟩) hz
end N

namespace N
open PySem PySem.Spec PyProof.Rows L2
/-! ### kinds -/
inductive Kd where
  | L (c : Str) | C0 (n : Str) | C1 (n : Str) (a : Kd) | C2 (n : Str) (a b : Kd)
  deriving DecidableEq
namespace Kd
def args : Kd → List Kd
  | L _ => []
  | C0 _ => []
  | C1 _ a => [a]
  | C2 _ a b => [a, b]
def nm : Kd → Str
  | L c => c
  | C0 n => n
  | C1 n _ => n
  | C2 n _ _ => n
def isC : Kd → Bool
  | L _ => false
  | _ => true
def tg : Kd → Tg
  | L c => .str c
  | C0 n => .tup [.str n]
  | C1 n a => .tup [.str n, a.tg]
  | C2 n a b => .tup [.str n, a.tg, b.tg]
def ok : Kd → Prop
  | L c => isLet c = true
  | C0 n => isNam n = true
  | C1 n a => isNam n = true ∧ a.ok
  | C2 n a b => isNam n = true ∧ a.ok ∧ b.ok
def parts : Kd → List Kd
  | L c => [L c]
  | C0 n => [C0 n]
  | C1 n a => C1 n a :: a.parts
  | C2 n a b => C2 n a b :: (a.parts ++ b.parts)
def size : Kd → Nat
  | L _ => 0
  | C0 _ => 1
  | C1 _ a => 1 + a.size
  | C2 _ a b => 1 + a.size + b.size
def depth : Kd → Nat
  | L _ => 0
  | C0 _ => 1
  | C1 _ a => 1 + a.depth
  | C2 _ a b => 1 + max a.depth b.depth
/-- how many letters and names -/
def nds : Kd → Nat
  | L _ => 1
  | C0 _ => 1
  | C1 _ a => 1 + a.nds
  | C2 _ a b => 1 + a.nds + b.nds
theorem parts_eq (k : Kd) : k.parts = k :: k.args.flatMap parts := by
  cases k <;> simp [parts, args]
theorem tg_C {k : Kd} (h : k.isC = true) : k.tg = .tup (.str k.nm :: k.args.map tg) := by
  cases k <;> first | (cases h; done) | rfl
theorem tg_L {k : Kd} (h : k.isC = false) : k = L k.nm ∧ k.tg = .str k.nm := by
  cases k <;> first | (cases h; done) | exact ⟨rfl, rfl⟩
theorem isTu_tg (k : Kd) : k.tg.isTu = k.isC := by cases k <;> rfl
theorem isS_tg (k : Kd) : k.tg.isS = !k.isC := by cases k <;> rfl
theorem nds_parts (k : Kd) : k.parts.length = k.nds := by
  induction k with
  | L c => rfl
  | C0 n => rfl
  | C1 n a ih => simp [parts, nds, ih]; omega
  | C2 n a b ih1 ih2 => simp [parts, nds, ih1, ih2]; omega
theorem nds_pos (k : Kd) : 1 ≤ k.nds := by cases k <;> simp [nds] <;> omega
theorem nodes_tg (k : Kd) : k.tg.nodes ≤ 3 * k.nds := by
  induction k with
  | L c => simp [tg, nds, Tg.nodes]
  | C0 n => simp [tg, nds, Tg.nodes, nodesAll]
  | C1 n a ih => simp only [tg, nds, Tg.nodes, nodesAll]; omega
  | C2 n a b ih1 ih2 => simp only [tg, nds, Tg.nodes, nodesAll]; omega
theorem args_ok {k : Kd} (h : k.ok) : ∀ a ∈ k.args, a.ok := by
  cases k <;> simp only [args, ok] at * <;> simp_all
theorem isT_tg : ∀ {k : Kd}, k.ok → isT k.tg = true
  | L c, h => by
    show isT (.str c) = true
    simp only [isT]
    exact h
  | C0 n, h => by simp [tg, isT, isTAll, Tg.isNm, show isNam n = true from h]
  | C1 n a, h => by simp [tg, isT, isTAll, Tg.isNm, show isNam n = true from h.1, isT_tg h.2]
  | C2 n a b, h => by simp [tg, isT, isTAll, Tg.isNm, show isNam n = true from h.1, isT_tg h.2.1, isT_tg h.2.2]
theorem args_nds (k : Kd) : (k.args.map nds).sum + 1 ≤ k.nds := by
  cases k <;> simp [args, nds] <;> omega
theorem args_len (k : Kd) : k.args.length ≤ 2 := by cases k <;> simp [args]
end Kd
mutual
theorem of_isT : ∀ {t : Tg}, isT t = true → ∃ k : Kd, k.ok ∧ t = k.tg
  | .str x, h => ⟨.L x, by simpa [isT, Kd.ok] using h, rfl⟩
  | .oth, h => by simp [isT] at h
  | .tup [], h => by simp [isT] at h
  | .tup (n :: ts), h => by
    simp only [isT, Bool.and_eq_true, decide_eq_true_eq] at h
    obtain ⟨⟨h1, h2⟩, h3⟩ := h
    obtain ⟨ks, e, hk⟩ := of_isTAll h3
    match n, h2 with
    | .str x, h2 =>
      have h2' : isNam x = true := h2
      match ks, e with
      | [], e => exact ⟨.C0 x, h2', by rw [e]; rfl⟩
      | [a], e => exact ⟨.C1 x a, ⟨h2', hk a (by simp)⟩, by rw [e]; rfl⟩
      | [a, b], e => exact ⟨.C2 x a b, ⟨h2', hk a (by simp), hk b (by simp)⟩, by rw [e]; rfl⟩
      | a :: b :: c :: r, e => rw [e] at h1; simp at h1
theorem of_isTAll : ∀ {ts : List Tg}, isTAll ts = true → ∃ ks : List Kd, ts = ks.map Kd.tg ∧ ∀ k ∈ ks, k.ok
  | [], _ => ⟨[], rfl, fun k h => by cases h⟩
  | t :: ts, h => by
    simp only [isTAll, Bool.and_eq_true] at h
    obtain ⟨k, hk, e⟩ := of_isT h.1
    obtain ⟨ks, e2, hks⟩ := of_isTAll h.2
    exact ⟨k :: ks, by rw [e, e2]; rfl, fun z hz => by
      rcases List.mem_cons.mp hz with rfl | hz
      · exact hk
      · exact hks z hz⟩
end
/-- at v stands a kind; in vs kinds -/
abbrev Kp (K : PySem.W.Frag) (H : Hp) (v : V) (k : Kd) : Prop := Th K H v k.tg
abbrev Kps (K : PySem.W.Frag) (H : Hp) (vs : List V) (ks : List Kd) : Prop := ThAll K H vs (ks.map Kd.tg)
section
variable {K : PySem.W.Frag} {H : Hp}
theorem Kps.snoc {vs : List V} {ks : List Kd} (h : Kps K H vs ks) (hn : ks ≠ []) : ∃ v vs' k ks', vs = vs' ++ [v] ∧ ks = ks' ++ [k] ∧ Kp K H v k ∧ Kps K H vs' ks' := by
  obtain ⟨v, vs', t, ts', e1, e2, h1, h2⟩ := ThAll.snoc h (by simpa using hn)
  obtain ⟨ks', k, rfl⟩ : ∃ ks' k, ks = ks' ++ [k] := ⟨ks.dropLast, ks.getLast hn, (List.dropLast_concat_getLast hn).symm⟩
  rw [List.map_append, List.map_singleton] at e2
  obtain ⟨e3, e4⟩ := List.append_inj' e2 rfl
  cases e4
  exact ⟨v, vs', k, ks', e1, rfl, h1, by rw [← e3] at h2; exact h2⟩
theorem kp_L {v : V} {k : Kd} (h : Kp K H v k) (c : k.isC = false) : v = .str k.nm ∧ k.nm.length ≤ 100000 := by
  obtain ⟨_, e⟩ := Kd.tg_L c
  have h' : Th K H v (.str k.nm) := by rw [← e]; exact h
  cases h' with
  | str x hx => exact ⟨rfl, hx⟩
theorem kp_C {v : V} {k : Kd} (h : Kp K H v k) (c : k.isC = true) : ∃ (a : Addr) (xs : List V), v = .ref a ∧ SqT K H a (.str k.nm :: xs) ∧ k.nm.length ≤ 100000 ∧ Kps K H xs k.args := by
  have h' : Th K H v (.tup (.str k.nm :: k.args.map Kd.tg)) := by rw [← Kd.tg_C c]; exact h
  cases h' with
  | @tup a xs ts h r =>
    cases r with
    | @cons y ys n ts hy r =>
      cases hy with
      | str x hx => exact ⟨a, ys, rfl, h, hx, r⟩
theorem kp_mk {a : Addr} {k : Kd} {xs : List V} (c : k.isC = true) (h : SqT K H a (.str k.nm :: xs)) (hx : k.nm.length ≤ 100000) (r : Kps K H xs k.args) : Kp K H (.ref a) k := by
  show Th K H (.ref a) k.tg
  rw [Kd.tg_C c]
  exact .tup h (.cons (.str _ hx) r)
theorem ThAll.rev {vs : List V} {ts : List Tg} (h : ThAll K H vs ts) : ThAll K H vs.reverse ts.reverse := by
  induction vs generalizing ts with
  | nil => cases h; exact .nil
  | cons v vs ih =>
    cases h with
    | cons h r =>
      rw [List.reverse_cons, List.reverse_cons]
      exact (ih r).app (.cons h .nil)
theorem Kps.rev {vs : List V} {ks : List Kd} (h : Kps K H vs ks) : Kps K H vs.reverse ks.reverse := by
  have := ThAll.rev h
  rw [← List.map_reverse] at this
  exact this
theorem Kps.app {vs ws : List V} {ks js : List Kd} (h : Kps K H vs ks) (h2 : Kps K H ws js) : Kps K H (vs ++ ws) (ks ++ js) := by
  have := ThAll.app h h2
  rw [← List.map_append] at this
  exact this
theorem Kps.length {vs : List V} {ks : List Kd} (h : Kps K H vs ks) : vs.length = ks.length := by
  have := ThAll.length h
  rw [List.length_map] at this
  exact this
end
end N

namespace N
open PySem PySem.Spec PyProof.Rows L2
namespace Kd
theorem size_parts (k : Kd) : k.size = (k.parts.filter isC).length := by
  induction k with
  | L c => rfl
  | C0 n => rfl
  | C1 n a ih =>
    show 1 + a.size = ((C1 n a :: a.parts).filter isC).length
    rw [List.filter_cons_of_pos (by rfl), List.length_cons, ih]
    omega
  | C2 n a b ih1 ih2 =>
    show 1 + a.size + b.size = ((C2 n a b :: (a.parts ++ b.parts)).filter isC).length
    rw [List.filter_cons_of_pos (by rfl), List.length_cons, List.filter_append, List.length_append, ih1, ih2]
    omega
theorem nds_le (k : Kd) : k.nds ≤ k.tg.nodes := by
  induction k with
  | L c => simp [tg, nds, Tg.nodes]
  | C0 n => simp [tg, nds, Tg.nodes, nodesAll]
  | C1 n a ih => simp only [tg, nds, Tg.nodes, nodesAll]; omega
  | C2 n a b ih1 ih2 => simp only [tg, nds, Tg.nodes, nodesAll]; omega
end Kd
section
variable {K : PySem.W.Frag}
theorem Kps.at {H : Hp} : ∀ {vs : List V} {ks : List Kd} {i : Nat} {x : V}, Kps K H vs ks → vs[i]? = some x → ∃ k, ks[i]? = some k ∧ Kp K H x k
  | _, [], i, x, .nil, h => by simp at h
  | _, k :: ks, 0, x, .cons r _, h => by
    simp at h
    subst h
    exact ⟨k, rfl, r⟩
  | _, k :: ks, i + 1, x, .cons _ t, h => by
    obtain ⟨k', e, r⟩ := Kps.at (ks := ks) (i := i) (x := x) t (by simpa using h)
    exact ⟨k', by simpa using e, r⟩
theorem take_snoc {α : Type} {l : List α} {i : Nat} {x : α} (h : l[i]? = some x) : l.take (i + 1) = l.take i ++ [x] := by rw [List.take_add_one, h]; rfl
end
end N

namespace N
open PySem PySem.Spec PyProof.Rows L2 LamX NdefX
/-! ### lambdas with parameters and captured names -/
/-- the words of a lambda; its expression stands beside -/
def lamF (q : Str) (params : Arguments) (scope : Scope) (cl : List (Str × Addr)) (c : Addr) : NF := ⟨"<lambda>", q, params, [], scope, cl, c⟩
/-- at f stands the lambda -/
def LamO (f : Addr) (F : NF) (body : Expr) : HO := .ext fun h => ∃ pm ctv : Value, h.get? f = some (PySem.W.kla_obj F.name F.qual F.params body F.scope F.cl pm F.c ctv)
theorem lamO_at {P : Program} {w : World} {H : Hp} {h : Heap} {f : Addr} {F : NF} {body : Expr} (hok : HOk P w H h) (e : H f = some (LamO f F body)) : ∃ pm ctv : Value, h.get? f = some (PySem.W.kla_obj F.name F.qual F.params body F.scope F.cl pm F.c ctv) := (hok f _ e).1
theorem lamO_ne {f : Addr} {F : NF} {body : Expr} (ps : Array Value) : LamO f F body ≠ .tbl ps := fun z => by
  unfold LamO at z
  cases z
section
variable {X : Cx} {pins : List (Addr × Obj)} {σ : L2.St} {H : Hp} {s : Shared}
theorem tabS_more {H : Hp} {P c : Addr} {q : Str} {ps : Array Value} {pos : Pos} (hP : H P = some (.tbl ps)) (ht : TriplesOk ps.toList) (ha : ∀ (p' : Pos) (cv : Value), codeAmong p' ps.toList = some cv → ∃ c0, cv = .ref c0 ∧ H c0 = some (CodeO c0 q)) (hc : H c = none) :
    TabS (upd (upd H P (.tbl (ps ++ #[rawInt pos.line, rawInt pos.col, .ref c]))) c (CodeO c q)) P q := by
  have hne : P ≠ c := ne_of_none hP hc
  have el : (ps ++ #[rawInt pos.line, rawInt pos.col, .ref c]).toList = ps.toList ++ [rawInt pos.line, rawInt pos.col, .ref c] := by simp
  refine ⟨_, (by rw [upd_ne hne]; exact upd_same), by rw [el]; exact PySem.TriplesOk_snoc _ _ _ _ ht, ?_⟩
  intro p' cv hv
  rw [el] at hv
  rcases among_app _ ht hv with y | y
  · obtain ⟨c0, y1, y2⟩ := ha p' cv y
    have n1 : c0 ≠ c := ne_of_none y2 hc
    have n2 : c0 ≠ P := fun z => by
      rw [z, hP] at y2
      exact codeO_ne ps (Option.some.inj y2).symm
    exact ⟨c0, y1, by rw [upd_ne n1, upd_ne n2]; exact y2⟩
  · exact ⟨c, y, upd_same⟩
/-- a lambda is made; it is known from now on -/
theorem lam_new {c P : Addr} {params : Arguments} {body : Expr} {scope : Scope} {pos : Pos} {E : Value → Shared → Prop} {Q : Value → Shared → Prop} (I : Inv X pins σ H s) (TB : TabB X.base X.mg c P) (hcode : X.env.code = .ref c) (hT : TabS H P (X.env.qual ++ "<lambda>"))
    (hdef : defaultsOf params X.env = ([], [])) (hfree : ∀ y ∈ scope.names, y.2 = .free → ∃ c, X.env.cells.lookup y.1 = some c)
    (h : ∀ (f c' : Addr) (H1 : Hp) (s' : Shared), Inv X pins σ H1 s' → ExtN H H1 → TabS H1 P (X.env.qual ++ "<lambda>") → (∀ b, H1 b = none → H b = none) → H f = none → H1 f = some (LamO f (lamF (X.env.qual ++ "<lambda>") params scope (cloFrom X.env.cells scope.names []) c') body) → H1 c' = some (CodeO c' (X.env.qual ++ "<lambda>")) → Q (.ref f) s') :
    wpAny (model X.prog X.w) X.A (eval (.Lambda params body scope pos) X.env) Q E s := by
  obtain ⟨ps, hP, ht, ha⟩ := hT
  apply PySem.W.kla_eval hdef
  have hb : s.heap.BuiltinsAt X.mg P := TB.bm.keeps I.bk
  have tP : s.heap.get? P = some { cls := .none, data := .fields ps } := I.hok P _ hP
  -- the function object itself
  have fin : ∀ (h' : Heap) (tk : Nat) (c' : Addr) (ctv : Value) (H1 : Hp), Inv X pins σ H1 { s with heap := h', toks := tk } → ExtN H H1 → TabS H1 P (X.env.qual ++ "<lambda>") → (∀ b, H1 b = none → H b = none) → H1 c' = some (CodeO c' (X.env.qual ++ "<lambda>")) →
      Q (.ref h'.objs.size) { s with heap := h'.push (PySem.W.kla_obj "<lambda>" (X.env.qual ++ "<lambda>") params body scope (cloFrom X.env.cells scope.names []) ((X.mg "__name__").getD .none) c' ctv), toks := tk } := by
    intro h' tk c' ctv H1 J e1 T1 n1 k1
    have nf : H1 h'.objs.size = none := J.hok.fresh (Nat.le_refl _)
    have here : (h'.push (PySem.W.kla_obj "<lambda>" (X.env.qual ++ "<lambda>") params body scope (cloFrom X.env.cells scope.names []) ((X.mg "__name__").getD .none) c' ctv)).get? h'.objs.size = some _ := Heap.get?_push_size _ rfl
    have J2 := J.laid (t' := tk) (a := h'.objs.size) (o := LamO h'.objs.size (lamF (X.env.qual ++ "<lambda>") params scope (cloFrom X.env.cells scope.names []) c') body) (fun b u e => Heap.get?_push_of_some _ e) (Nat.le_refl _)
      ⟨⟨_, _, here⟩, ⟨_, here⟩, fun h1 h2 y st => by obtain ⟨a, b, z⟩ := y; exact ⟨a, b, st _ z⟩⟩
    have sm := same_new nf (LamO h'.objs.size (lamF (X.env.qual ++ "<lambda>") params scope (cloFrom X.env.cells scope.names []) c') body)
    exact h _ c' _ _ J2 (e1.trans (ExtN.of sm)) (T1.ext sm) (fun b z => n1 b (sm.free z)) (n1 _ nf) upd_same (sm _ _ k1)
  cases hc : codeAmong pos ps.toList with
  | some cv =>
    obtain ⟨c', ec, hco⟩ := ha pos cv hc
    subst ec
    refine PySem.W.kla_makeFunctionHit (closure_ok hfree) I.ok.glob (I.mod.glob.keeps I.bk) hcode (TB.code.keeps I.bk) tP ht hc hb (fun ctv h' tk kx _ => ?_)
    exact fin h' tk c' ctv H (I.kept kx) (ExtN.refl H) ⟨ps, hP, ht, ha⟩ (fun b z => z) hco
  | none =>
    refine PySem.W.kla_makeFunction (closure_ok hfree) I.ok.glob (I.mod.glob.keeps I.bk) hcode (TB.code.keeps I.bk) tP ht hc TB.gP hb (fun c' ctv h' tk kx hge hlt hrec htb => ?_)
    obtain ⟨c2, oc, vs, t, e2, y1, y2, y3⟩ := hrec
    cases e2
    have nc : H c' = none := I.hok.fresh hge
    have J := inv_table (t' := tk) (more := #[rawInt pos.line, rawInt pos.col, .ref c']) (h' := h') (q := X.env.qual ++ "<lambda>") I hP (fun b o n e => kx b o n e) htb hge ⟨oc, vs, t, y1, y2, y3⟩
    refine fin h' tk c' ctv _ J (fun b o e n => ?_) (tabS_more hP ht ha nc) (fun b z => upd_none (upd_none z)) upd_same
    rw [upd_ne (ne_of_none e nc), upd_ne (fun z => n ps (Option.some.inj (e.symm.trans (by rw [z]; exact hP))))]
    exact e
/-- what the cells held at the entry they hold -/
theorem cells_later {cl : List (Str × Addr)} {fr : List Str} {ws : List (Option V)} (C : CellsAt cl fr ws X.s_0.heap X.H_0) (hx : X.ex = []) (I : Inv X pins σ H s) : CellsAt cl fr ws s.heap H := by
  have kp : ∀ y c, cl.lookup y = some c → ∀ v, X.s_0.heap.IsCell c v → s.heap.IsCell c v := fun y c e v z => by
    obtain ⟨o, ho, hd⟩ := z
    obtain ⟨sl, z2⟩ := I.base.any ho (C.all y c e).1 (by rw [hx]; simp)
    exact ⟨_, z2, hd⟩
  refine ⟨C.len, fun y c e => ?_, C.inj, fun i y e => ?_⟩
  · obtain ⟨n, v, z⟩ := C.all y c e
    have z0 := z
    obtain ⟨o, ho, _⟩ := z0
    exact ⟨I.base.free c o ho n (by rw [hx]; simp), v, kp y c e _ z⟩
  · obtain ⟨c, e1, e2⟩ := C.has i y e
    exact ⟨c, e1, fun v ev => (e2 v ev).imp fun u r => ⟨r.1, kp y c e1 _ r.2⟩⟩
end
section
variable {P : Program} {w : World} {K : PySem.W.Frag} {mg : Str → Option Value} {base : Heap} {N ps fr : List Str} {F : NF} {f : Addr} {k : Nat} {body : Expr} {tb : TE}
/-- a lambda called -/
theorem run_lam (S : NScope N ps fr F.scope) (hb : ∀ (pm ctv : Value) (us : List Value), us.length = ps.length → bindArgs (PySem.W.kla_fn F.name F.qual F.params body F.scope F.cl pm (.ref F.c) ctv) ⟨us, []⟩ = pure (ps.zip us))
    {A : Around} {outer : List Env} {s : Shared} {H : Hp} {us : List Value} {vs : List V} {ws : List (Option V)} {Q : VK}
    (hbody : ∀ (s : Shared) (H : Hp), PE (ncx (L2.CX P w) P w K mg base N F f A outer s H E0) body tb)
    (hr : RoomG (k + 1) A) (e0 : Env0 P w K mg base A outer s H) (hf : H f = some (LamO f F body)) (hc : H F.c = some (CodeO F.c F.qual)) (C : CellsAt F.cl fr ws s.heap H) (r : Vals vs us) (hl : vs.length = ps.length) (q : tb (startF N vs ws) H Q) :
    codeAny (model P w) A (.call (.ref f) ⟨us, []⟩) (CR (L2.CX P w) outer P w H s Q E0) s := by
  have lim : s.heap.NoLimit := e0.mod.nolimit.keeps fun b o e => (e0.bs b o e).1
  obtain ⟨pm, ctv, ho⟩ := lamO_at e0.hok hf
  refine PySem.W.kla_callFunE hr.toRoom.depth ho rfl S.co S.gen rfl (codeO_at e0.hok hc) ?_
  rw [hb pm ctv us (by rw [← r.length]; exact hl)]
  refine wpAny_pure (wpAny_newFunctionEnv S.nocell (fun y hy => S.par y.1 (List.of_mem_zip (show (y.1, y.2) ∈ ps.zip us from hy)).1) (fun h1 hns hsb => ⟨lim.fresh _ hsb, ?_⟩) S.kind)
  show codeAny _ _ (.expr body (envF F f s.heap.objs.size)) _ _
  have kp : ∀ b o, s.heap.get? b = some o → h1.get? b = some o := fun b o e => hsb.extBut b o (Nat.ne_of_lt (Heap.lt_size e)) (Heap.get?_push_of_some _ e)
  have J : Inv (ncx (L2.CX P w) P w K mg base N F f A outer s H E0) [] (startF N vs ws) H { s with heap := h1, toks := s.toks + (ps.zip us).length } := inv_startN S hr.toRoom.hd e0 hl r C hns kp
  refine PySem.W.kla_codeExpr (wpAny_mono ((hbody s H).run [] _ _ H Q J q) (fun v s' z => ?_) fun e s' z => z)
  obtain ⟨v', H', J', rv, z2⟩ := z
  exact ⟨v', H', J'.os, J'.bare, J'.base, J'.hok, rv, z2⟩
end
section
variable {Z : Cx} {Nm ps fr : List Str} {F : NF} {f : Addr} {k i : Nat} {body : Expr} {tb : TE} {ws : List (Option V)} {G : List V → Hp → VK → Prop} {a : Str} {e : Expr} {es : List Expr} {t : TA} {p1 p2 : Pos}
theorem pe_actL (S : NScope Nm ps fr F.scope) (hb : ∀ (pm ctv : Value) (us : List Value), us.length = ps.length → bindArgs (PySem.W.kla_fn F.name F.qual F.params body F.scope F.cl pm (.ref F.c) ctv) ⟨us, []⟩ = pure (ps.zip us))
    (hbody : ∀ (s : Shared) (H : Hp), PE (ncx (L2.CX Z.prog Z.w) Z.prog Z.w Z.K Z.mg Z.base Nm F f Z.A Z.stack s H E0) body tb) (hr : RoomG (k + 1) Z.A) (C : CellsAt F.cl fr ws Z.s_0.heap Z.H_0) (hx : Z.ex = []) (hG : ∀ vs H1 Q, G vs H1 Q → H1 f = some (LamO f F body) ∧ H1 F.c = some (CodeO F.c F.qual) ∧ vs.length = ps.length ∧ tb (startF Nm vs ws) H1 Q)
    (hN : Z.N[i]? = some a) (hv : Vis Z.env.scope a) (ha : PA Z (e :: es) t) (hd : (a == ("__debug__" : Str)) = false := by decide) (hcd : (a == ("__classdict__" : Str)) = false := by decide)
    (he : starEach (e :: es) Z.env = (false, eval e Z.env) :: starEach es Z.env := by rfl) (hpl : (backTo p2 (starEach es Z.env)).any (·.1) = false := by rfl) :
    PE Z (.Call (.Name a p1) (e :: es) [] p2) (fun σ H Q => σ[i]? = some (some (.ref f)) ∧ H f = some (LamO f F body) ∧ t σ H fun vs H1 => G vs H1 Q) := by
  refine ⟨fun pins s σ H Q I h => ?_⟩
  obtain ⟨hs, hf, ht⟩ := h
  refine wpAny_Call_Name_kw (thn ((pe_var (pos := p1) hN hv hd hcd).run pins s σ H (fun v H1 => v = .ref f ∧ H1 = H) I ⟨.ref f, hs, rfl, rfl⟩) fun u s1 z => ?_)
  obtain ⟨v, H1, J, r1, ev, eH⟩ := z
  subst ev
  rw [eH] at J
  obtain rfl : u = Value.ref f := r1
  have fnAt : ∀ {s : Shared} {H : Hp} {pins : List (Addr × Obj)} {σ : L2.St}, Inv Z pins σ H s → H f = some (LamO f F body) → PySem.W.FnAt f s.heap := fun I e => by
    obtain ⟨pm, ctv, ho⟩ := lamO_at I.hok e
    exact ⟨_, _, _, _, ho⟩
  refine PySem.W.callWith_F (first := []) (fnAt J hf) (thn (ha.run p2 pins s1 σ H _ J ht) fun us s2 z => ?_) he hpl
  obtain ⟨vs, H2, J2, r, gg⟩ := z
  obtain ⟨q1, q2, q3, q4⟩ := hG vs H2 Q gg
  refine ⟨fnAt J2 q1, ?_⟩
  show wpAny _ _ (call (.ref f) us) _ _ _
  refine wpAny_call (codeAny_mono (run_lam S hb hbody hr J2.env0 q1 q2 (cells_later C hx J2) r q3 q4) fun res s' hq => ?_)
  match res, hq with
  | .error e, hq => exact passL pins σ H2 s2 e s' J2 hq
  | .ok (.ret u), hq => exact J2.after hq
  | .ok .next, hq => exact False.elim hq
  | .ok .brk, hq => exact False.elim hq
  | .ok .cont, hq => exact False.elim hq
end
end N

namespace N
open PySem PySem.Spec PyProof.Rows L2 LamX NdefX
/-! ### values that are called, by what they do -/
/-- at f stands a lambda that does spL, its cells being as they are in the heap h -/
def ActL (P : Program) (w : World) (K : PySem.W.Frag) (mg : Str → Option Value) (base : Heap) (f : Addr) (h : Heap) (H : Hp) (spL : List V → Hp → VK → Prop) : Prop :=
  ∃ (F : NF) (body : Expr) (Nm ps fr : List Str) (ws : List (Option V)) (tb : TE), NScope Nm ps fr F.scope ∧
    (∀ (pm ctv : Value) (us : List Value), us.length = ps.length → bindArgs (PySem.W.kla_fn F.name F.qual F.params body F.scope F.cl pm (.ref F.c) ctv) ⟨us, []⟩ = pure (ps.zip us)) ∧
    (∀ (A : Around) (outer : List Env) (s : Shared) (H : Hp), RoomG 0 (A.deeper (envF F f s.heap.objs.size)) → PE (ncx (L2.CX P w) P w K mg base Nm F f A outer s H E0) body tb) ∧ CellsAt F.cl fr ws h H ∧
    H f = some (LamO f F body) ∧ H F.c = some (CodeO F.c F.qual) ∧ ∀ vs H' Q, spL vs H' Q → vs.length = ps.length ∧ tb (startF Nm vs ws) H' Q
section
variable {Z : Cx} {f : Addr} {i : Nat} {a : Str} {e : Expr} {es : List Expr} {t : TA} {p1 p2 : Pos} {spL : List V → Hp → VK → Prop}
theorem pe_actS (L : ActL Z.prog Z.w Z.K Z.mg Z.base f Z.s_0.heap Z.H_0 spL) (hr : RoomG 1 Z.A) (hx : Z.ex = [])
    (hN : Z.N[i]? = some a) (hv : Vis Z.env.scope a) (ha : PA Z (e :: es) t) (hd : (a == ("__debug__" : Str)) = false := by decide) (hcd : (a == ("__classdict__" : Str)) = false := by decide)
    (he : starEach (e :: es) Z.env = (false, eval e Z.env) :: starEach es Z.env := by rfl) (hpl : (backTo p2 (starEach es Z.env)).any (·.1) = false := by rfl) :
    PE Z (.Call (.Name a p1) (e :: es) [] p2) (fun σ H Q => σ[i]? = some (some (.ref f)) ∧ Same Z.H_0 H ∧ t σ H fun vs H1 => Same Z.H_0 H1 ∧ spL vs H1 Q) := by
  obtain ⟨F, body, Nm, ps, fr, ws, tb, S, hb, hbody, C, h1, h2, hsp⟩ := L
  have q := pe_actL (Z := Z) (i := i) (f := f) (k := 0) (p1 := p1) (G := fun vs H1 Q => Same Z.H_0 H1 ∧ spL vs H1 Q) S hb (fun s H => hbody Z.A Z.stack s H (hr.deeper _)) hr C hx (fun vs H1 Q z => ⟨z.1 _ _ h1, z.1 _ _ h2, hsp vs H1 Q z.2⟩) hN hv ha hd hcd he hpl
  refine ⟨fun pins s σ H Q I h => ?_⟩
  obtain ⟨g1, g2, g3⟩ := h
  exact q.run pins s σ H Q I ⟨g1, g2 _ _ h1, g3⟩
end
end N

namespace N
open PySem PySem.Spec PyProof.Rows L2 LamX NdefX
section
variable {X : Cx} {k : Nat} {x : Str} {st : Stmt} {ps Ng : List Str} {p pos : Pos} {e : Expr} {es : List Expr} {t : TA}
/-- lambda ..: .. as a value -/
theorem pe_lamT {c P : Addr} {params : Arguments} {body : Expr} {scope : Scope} (TB : TabB X.base X.mg c P) (hcode : X.env.code = .ref c) (hdef : defaultsOf params X.env = ([], []) := by rfl)
    (fre : ∀ y ∈ scope.names, y.2 = .free → X.env.scope.names.lookup y.1 = some .cell ∨ X.env.scope.names.lookup y.1 = some .free := by decide +kernel) :
    PE X (.Lambda params body scope pos) (fun σ H Q => TabS H P (X.env.qual ++ "<lambda>") ∧ ∀ (f c' : Addr) (H1 : Hp), ExtN H H1 → TabS H1 P (X.env.qual ++ "<lambda>") → (∀ b, H1 b = none → H b = none) → H f = none →
      H1 f = some (LamO f (lamF (X.env.qual ++ "<lambda>") params scope (cloFrom X.env.cells scope.names []) c') body) → H1 c' = some (CodeO c' (X.env.qual ++ "<lambda>")) → Q (.ref f) H1) := by
  refine ⟨fun pins s σ H Q I h => ?_⟩
  obtain ⟨hT, h⟩ := h
  refine lam_new I TB hcode hT hdef (fun y hy ey => (fre y hy ey).elim (fun z => I.ok.has _ (.inl z)) fun z => I.ok.has _ (.inr z)) (fun f c' H1 s' J g1 g2 g3 g4 g5 g6 => ?_)
  exact ⟨.ref f, H1, J, rfl, h f c' H1 g1 g2 g3 g4 g5 g6⟩
/-- x(e, ..), the promise told of the very state -/
theorem pe_callH {RR : L2.St → List V → Hp → VK → Prop} (D : DefAt X.K X.mg x st ps) (Sg : FnScope Ng ps (defScope st)) (hr : RoomG (k + 1) X.A) (hg : Gl X x) (ha : PA X (e :: es) t) (hlen : ∀ σ vs H Q, RR σ vs H Q → vs.length = ps.length)
    (hG : ∀ (g : Addr) (cdv : Value) (pins : List (Addr × Obj)) (s : Shared) (σ : L2.St) (H : Hp) (vs : List V) (Q : VK), Inv X pins σ H s → RoomG k (X.A.deeper (envOfC x (defScope st) s.heap.objs.size g cdv)) → RR σ vs H Q →
      ∃ t, PSs (cxOf (L2.CX X.prog X.w) X.prog X.w X.K X.mg X.base Ng x (defScope st) g cdv X.A X.stack s H E0) (defBody st) t ∧ t { nx := fun _ H' => Q .non H', rt := Q } (L2.start Ng vs) H)
    (hdb : (x == ("__debug__" : Str)) = false := by decide) (he : starEach (e :: es) X.env = (false, eval e X.env) :: starEach es X.env := by rfl) (hpl : (backTo pos (starEach es X.env)).any (·.1) = false := by rfl) :
    PE X (.Call (.Name x p) (e :: es) [] pos) (fun σ H Q => t σ H fun vs H1 => RR σ vs H1 Q) := by
  obtain ⟨g, fd, hm, F, hb⟩ := D
  have hk := F.kp
  obtain ⟨oc, od, kV, doc, pm, an, cdv, ct, osl, rfl, lk, hcd⟩ := F.ex
  refine ⟨fun pins s σ H Q I h => wpAny_Call_Name_kw (ld_glob I hg hm ?_ hdb)⟩
  refine PySem.W.callWith_K (h₀ := X.base) I.ok.mod.kin hk (thn (ha.run pos pins s σ H _ I h) fun us s1 z => ?_) he hpl
  obtain ⟨vs, H1, J, r, q⟩ := z
  refine ⟨J.kIn, ?_⟩
  have hl := hlen _ _ _ _ q
  have b := hb s1 us J.kIn (by rw [List.append_nil, ← r.length]; exact hl)
  rw [List.append_nil] at b
  show wpAny _ _ (call (.ref g) us) _ _ _
  refine wpAny_call (codeAny_mono (run_ofS (CX := L2.CX X.prog X.w) (E := E0) lk hcd Sg hr.toRoom J.env0 b r hl fun hr' => hG g cdv pins s1 σ H1 vs Q J ⟨hr', hr.gs⟩ q) fun res s' hq => ?_)
  match res, hq with
  | .error e, hq => exact passL pins σ H1 s1 e s' J hq
  | .ok (.ret u), hq => exact J.after hq
  | .ok .next, hq => exact False.elim hq
  | .ok .brk, hq => exact False.elim hq
  | .ok .cont, hq => exact False.elim hq
end
/-! ### a def whose code object is named -/
def DefAtC (K : PySem.W.Frag) (mg : Str → Option Value) (x : Str) (st : Stmt) (ps : List Str) (c : Addr) : Prop :=
  ∃ (f : Addr) (fd : FuncData) (oc : Value) (od : Option Addr) (kV doc pm : Value) (an : Option Addr) (ct : Value) (osl : Array (Option Value)), mg x = some (.ref f) ∧ fd = PySem.W.fnOf x x (defArgs st) (defBody st) (defScope st) .none kV doc pm an (.ref c) ct ∧
    K.lookup f = some ⟨oc, od, .func fd, osl⟩ ∧ PySem.W.codeIn K (.ref c) x = true ∧ PySem.W.keepIn K (.ref f) = true ∧ Binds K fd ps []
section
variable {P : Program} {w : World} {K : PySem.W.Frag} {mg : Str → Option Value} {base : Heap} {k : Nat} {x : Str} {ps Nm : List Str} {sp : Sp} {st : Stmt} {c : Addr}
theorem DefAtC.cal (D : DefAtC K mg x st ps c) (S : FnScope Nm ps (defScope st)) (len : ∀ vs H Q E, sp vs H Q E → vs.length = ps.length)
    (hbody : ∀ (f : Addr) (A : Around) (outer : List Env) (s : Shared) (H : Hp) (vs : List V) (Q : VK) (E : XK), RoomG k (A.deeper (envOfC x (defScope st) s.heap.objs.size f (.ref c))) → sp vs H Q E →
      ∃ t, PSs (cxOf (L2.CX P w) P w K mg base Nm x (defScope st) f (.ref c) A outer s H E) (defBody st) t ∧ t { nx := fun _ H' => Q .non H', rt := Q } (start Nm vs) H) : Cal P w K mg base (k + 1) x ps sp := by
  obtain ⟨f, fd, oc, od, kV, doc, pm, an, ct, osl, hm, rfl, lk, hcd, hk, hb⟩ := D
  refine ⟨f, _, hm, hk, hb, len, fun A outer s H args us vs Q E hr e0 bt r hsp => ?_⟩
  exact run_ofS lk hcd S hr.toRoom e0 bt r (len _ _ _ _ hsp) fun hr' => hbody f A outer s H vs Q E ⟨hr', hr.gs⟩ hsp
end
theorem mk_defC {h : Heap} {K : PySem.W.Frag} {mg : Str → Option Value} {x : Str} {st : Stmt} {ps : List Str} {c : Addr} {f : Addr} {oc : Value} {od an : Option Addr} {osl : Array (Option Value)} {kV doc pm ct : Value} (X : K.In h) (G : h.Ns mainGlobals mg)
    (a : PySem.W.nsIn K mainGlobals x = some (some (.ref f))) (l : K.lookup f = some ⟨oc, od, .func (PySem.W.fnOf x x (defArgs st) (defBody st) (defScope st) .none kV doc pm an (.ref c) ct), osl⟩) (hc : PySem.W.codeIn K (.ref c) x = true) (k : PySem.W.keepIn K (.ref f) = true)
    (b : ∀ (kV doc pm : Value) (an : Option Addr) (cdv ct : Value) (us : List Value), us.length = ps.length → bindArgs (PySem.W.fnOf x x (defArgs st) (defBody st) (defScope st) .none kV doc pm an cdv ct) ⟨us, []⟩ = pure (ps.zip us)) : DefAtC K mg x st ps c :=
  ⟨f, _, oc, od, kV, doc, pm, an, ct, osl, PySem.W.mg_of X G a, rfl, l, hc, k, (fun_mk l hc k).binds b⟩
end N

namespace N
open PySem PySem.Spec PyProof.Rows L2
def topS (i : Nat) : Stmt := PySem.Challenge.pw_endlesskinds_k23_whole_kinds_filled_and.main.body.getD i (.Pass ⟨0, 0, 0, 0⟩)
abbrev s_is_letter : Stmt := topS 8
abbrev nm_is_letter : List Str := ["thing"]
theorem sc_is_letter : FnScope nm_is_letter ["thing"] (defScope s_is_letter) := ⟨rfl, rfl, rfl, by decide +kernel, rfl, by decide +kernel, by decide +kernel⟩
abbrev s_is_name : Stmt := topS 9
abbrev nm_is_name : List Str := ["thing"]
theorem sc_is_name : FnScope nm_is_name ["thing"] (defScope s_is_name) := ⟨rfl, rfl, rfl, by decide +kernel, rfl, by decide +kernel, by decide +kernel⟩
abbrev s_begins_class_type : Stmt := topS 10
abbrev nm_begins_class_type : List Str := ["thing"]
theorem sc_begins_class_type : FnScope nm_begins_class_type ["thing"] (defScope s_begins_class_type) := ⟨rfl, rfl, rfl, by decide +kernel, rfl, by decide +kernel, by decide +kernel⟩
abbrev s_is_type : Stmt := topS 11
abbrev nm_is_type : List Str := ["thing", "rest", "part"]
theorem sc_is_type : FnScope nm_is_type ["thing"] (defScope s_is_type) := ⟨rfl, rfl, rfl, by decide +kernel, rfl, by decide +kernel, by decide +kernel⟩
abbrev s_check_type : Stmt := topS 12
abbrev nm_check_type : List Str := ["thing"]
theorem sc_check_type : FnScope nm_check_type ["thing"] (defScope s_check_type) := ⟨rfl, rfl, rfl, by decide +kernel, rfl, by decide +kernel, by decide +kernel⟩
abbrev s_parts : Stmt := topS 13
abbrev nm_parts : List Str := ["kind", "found", "rest", "part"]
theorem sc_parts : FnScope nm_parts ["kind"] (defScope s_parts) := ⟨rfl, rfl, rfl, by decide +kernel, rfl, by decide +kernel, by decide +kernel⟩
abbrev s_class_types : Stmt := topS 14
abbrev nm_class_types : List Str := ["kinds", "kind"]
theorem sc_class_types : FnScope nm_class_types ["kinds"] (defScope s_class_types) := ⟨rfl, rfl, rfl, by decide +kernel, rfl, by decide +kernel, by decide +kernel⟩
abbrev s_size_of : Stmt := topS 15
abbrev nm_size_of : List Str := ["kind"]
theorem sc_size_of : FnScope nm_size_of ["kind"] (defScope s_size_of) := ⟨rfl, rfl, rfl, by decide +kernel, rfl, by decide +kernel, by decide +kernel⟩
abbrev s_size : Stmt := topS 16
abbrev nm_size : List Str := ["kind"]
theorem sc_size : FnScope nm_size ["kind"] (defScope s_size) := ⟨rfl, rfl, rfl, by decide +kernel, rfl, by decide +kernel, by decide +kernel⟩
abbrev s_depth_of : Stmt := topS 17
abbrev nm_depth_of : List Str := ["kind", "count", "level", "part", "argument"]
theorem sc_depth_of : FnScope nm_depth_of ["kind"] (defScope s_depth_of) := ⟨rfl, rfl, rfl, by decide +kernel, rfl, by decide +kernel, by decide +kernel⟩
abbrev s_depth : Stmt := topS 18
abbrev nm_depth : List Str := ["kind"]
theorem sc_depth : FnScope nm_depth ["kind"] (defScope s_depth) := ⟨rfl, rfl, rfl, by decide +kernel, rfl, by decide +kernel, by decide +kernel⟩
abbrev s_folded : Stmt := topS 19
abbrev nm_folded : List Str := ["kind", "of_letter", "of_class", "done", "part", "arguments", "_"]
theorem sc_folded : FnScope nm_folded ["kind", "of_letter", "of_class"] (defScope s_folded) := ⟨rfl, rfl, rfl, by decide +kernel, rfl, by decide +kernel, by decide +kernel⟩
abbrev s_filled : Stmt := topS 20
abbrev nm_filled : List Str := ["kind", "values"]
theorem sc_filled : FnScope nm_filled ["kind", "values"] (defScope s_filled) := ⟨rfl, rfl, rfl, by decide +kernel, rfl, by decide +kernel, by decide +kernel⟩
abbrev s_are_values : Stmt := topS 21
abbrev nm_are_values : List Str := ["thing", "letter", "kind"]
theorem sc_are_values : FnScope nm_are_values ["thing"] (defScope s_are_values) := ⟨rfl, rfl, rfl, by decide +kernel, rfl, by decide +kernel, by decide +kernel⟩
abbrev s_fill : Stmt := topS 22
abbrev nm_fill : List Str := ["kind", "values"]
theorem sc_fill : FnScope nm_fill ["kind", "values"] (defScope s_fill) := ⟨rfl, rfl, rfl, by decide +kernel, rfl, by decide +kernel, by decide +kernel⟩
abbrev s_written : Stmt := topS 23
abbrev nm_written : List Str := ["kind", "row", "before", "argument"]
theorem sc_written : FnScope nm_written ["kind"] (defScope s_written) := ⟨rfl, rfl, rfl, by decide +kernel, rfl, by decide +kernel, by decide +kernel⟩
abbrev s_text_of : Stmt := topS 24
abbrev nm_text_of : List Str := ["kind", "pieces", "rest", "part"]
theorem sc_text_of : FnScope nm_text_of ["kind"] (defScope s_text_of) := ⟨rfl, rfl, rfl, by decide +kernel, rfl, by decide +kernel, by decide +kernel⟩
abbrev s_text : Stmt := topS 25
abbrev nm_text : List Str := ["kind"]
theorem sc_text : FnScope nm_text ["kind"] (defScope s_text) := ⟨rfl, rfl, rfl, by decide +kernel, rfl, by decide +kernel, by decide +kernel⟩
abbrev s_word_at : Stmt := topS 26
abbrev nm_word_at : List Str := ["line", "at", "end"]
theorem sc_word_at : FnScope nm_word_at ["line", "at"] (defScope s_word_at) := ⟨rfl, rfl, rfl, by decide +kernel, rfl, by decide +kernel, by decide +kernel⟩
abbrev s_scan : Stmt := topS 27
abbrev nm_scan : List Str := ["line", "at", "begun", "word", "done"]
theorem sc_scan : FnScope nm_scan ["line", "at"] (defScope s_scan) := ⟨rfl, rfl, rfl, by decide +kernel, rfl, by decide +kernel, by decide +kernel⟩
abbrev s_read : Stmt := topS 28
abbrev nm_read : List Str := ["text", "kind", "end"]
theorem sc_read : FnScope nm_read ["text"] (defScope s_read) := ⟨rfl, rfl, rfl, by decide +kernel, rfl, by decide +kernel, by decide +kernel⟩
abbrev s_Lcell_at : Stmt := topS 30
abbrev nm_Lcell_at : List Str := ["_law_script", "_law_k"]
theorem sc_Lcell_at : FnScope nm_Lcell_at ["_law_script", "_law_k"] (defScope s_Lcell_at) := ⟨rfl, rfl, rfl, by decide +kernel, rfl, by decide +kernel, by decide +kernel⟩
abbrev s_Lpen : Stmt := topS 31
abbrev nm_Lpen : List Str := ["_law_cell"]
theorem sc_Lpen : FnScope nm_Lpen ["_law_cell"] (defScope s_Lpen) := ⟨rfl, rfl, rfl, by decide +kernel, rfl, by decide +kernel, by decide +kernel⟩
abbrev s_Ldraw : Stmt := topS 32
abbrev nm_Ldraw : List Str := ["_law_pen_here", "_law_many", "_law_found", "_law_mixed"]
theorem sc_Ldraw : FnScope nm_Ldraw ["_law_pen_here", "_law_many"] (defScope s_Ldraw) := ⟨rfl, rfl, rfl, by decide +kernel, rfl, by decide +kernel, by decide +kernel⟩
abbrev s_Lsame : Stmt := topS 33
abbrev nm_Lsame : List Str := ["_law_found", "_law_due"]
theorem sc_Lsame : FnScope nm_Lsame ["_law_found", "_law_due"] (defScope s_Lsame) := ⟨rfl, rfl, rfl, by decide +kernel, rfl, by decide +kernel, by decide +kernel⟩
abbrev s_Lpick : Stmt := topS 34
abbrev nm_Lpick : List Str := ["_law_pen_here", "_law_some"]
theorem sc_Lpick : FnScope nm_Lpick ["_law_pen_here", "_law_some"] (defScope s_Lpick) := ⟨rfl, rfl, rfl, by decide +kernel, rfl, by decide +kernel, by decide +kernel⟩
abbrev s_Lkind : Stmt := topS 35
abbrev nm_Lkind : List Str := ["_law_pen_here", "_law_letters", "_law_shapes", "_law_most", "_law_bare", "_law_name", "_law_count", "_law_some", "_law_shape", "_law_found", "_law_turn"]
theorem sc_Lkind : FnScope nm_Lkind ["_law_pen_here", "_law_letters", "_law_shapes", "_law_most"] (defScope s_Lkind) := ⟨rfl, rfl, rfl, by decide +kernel, rfl, by decide +kernel, by decide +kernel⟩
abbrev s_Lheld : Stmt := topS 36
abbrev nm_Lheld : List Str := ["_law_pen_here", "_law_shapes", "_law_found", "_law_letter"]
theorem sc_Lheld : FnScope nm_Lheld ["_law_pen_here", "_law_shapes"] (defScope s_Lheld) := ⟨rfl, rfl, rfl, by decide +kernel, rfl, by decide +kernel, by decide +kernel⟩
abbrev s_Lis_right : Stmt := topS 37
abbrev nm_Lis_right : List Str := ["_law_kind_here", "_law_held_here", "_law_more", "_law_later", "_law_both", "_law_letter", "_law_least"]
theorem sc_Lis_right : FnScope nm_Lis_right ["_law_kind_here", "_law_held_here", "_law_more"] (defScope s_Lis_right) := ⟨rfl, rfl, rfl, by decide +kernel, rfl, by decide +kernel, by decide +kernel⟩
abbrev s_law : Stmt := topS 38
abbrev nm_law : List Str := ["_law_script", "_law_shapes", "_law_k", "_law_pen_here", "_law_turn", "_law_kind_here", "_law_other", "_law_lap", "_law_whole"]
theorem sc_law : FnScope nm_law ["_law_script"] (defScope s_law) := ⟨rfl, rfl, rfl, by decide +kernel, rfl, by decide +kernel, by decide +kernel⟩
/-- what the top holds besides its defs -/
structure Glo (mg : Str → Option Value) : Prop where
  isinstance : mg "isinstance" = none
  str : mg "str" = none
  tuple : mg "tuple" = none
  dict : mg "dict" = none
  list : mg "list" = none
  len : mg "len" = none
  all : mg "all" = none
  max : mg "max" = none
  min : mg "min" = none
  range : mg "range" = none
  repr : mg "repr" = none
  sum : mg "sum" = none
  LN : ∃ t, mg "LONGEST_NAME" = some (.int 8 t)
  MA : ∃ t, mg "MOST_ARGUMENTS" = some (.int 2 t)
end N

namespace N
open PySem PySem.Spec PyProof.Rows L2
section
variable {P : Program} {w : World} {K : PySem.W.Frag} {mg : Str → Option Value} {base : Heap}
theorem sz5 {n : Nat} (h : n ≤ 100000) : n ≤ sizeLine := Nat.le_trans h (by decide)
/-- one thing, nothing changed -/
def spTest (K : PySem.W.Frag) (g : Tg → Bool) : Sp := fun vs H Q _ => ∃ v t, vs = [v] ∧ Th K H v t ∧ Q (.bl (g t)) H
theorem ok_is_letter (G : Glo mg) (D : DefAt K mg "is_letter" s_is_letter ["thing"]) : Cal P w K mg base 1 "is_letter" ["thing"] (spTest K Tg.isL) := by
  refine D.cal sc_is_letter (fun vs H Q E h => ?_) (fun f cdv A outer s H vs Q E hr h => ?_)
  · obtain ⟨v, t, rfl, _⟩ := h
    rfl
  obtain ⟨v, t, rfl, hT, q⟩ := h
  refine ⟨_, pss_one (ps_ret (pe_and (pe_isi G.isinstance G.str b_str rfl rfl (pv 0))
    (pe_and (pe_cmpR op_eq (pe_callB call_len_str (by rfl) G.len PySem.boot_len (pa_cons (pv 0) pa_nil)) pe_int (nomark _))
    (pe_one (pe_chain op_le_str op_le_str pe_str (pv 0) pe_str))))), ?_⟩
  refine ⟨v, rfl, isi_str hT ?_⟩
  cases hT with
  | str x hx =>
    refine ⟨true, rfl, iteT ⟨_, rfl, x, rfl, sz5 hx, rfl, _, rfl, ?_⟩⟩
    have e : decide (V.int (x.length : Int) = V.int 1) = decide (x.length = 1) := by
      by_cases h : x.length = 1
      · rw [h]
        decide
      · rw [decide_eq_false h, decide_eq_false (fun z => h (by have := V.int.inj z; omega))]
    rw [e]
    refine ite2 (fun c => ?_) (fun c => ?_)
    · refine ⟨_, rfl, _, _, rfl, rfl, _, rfl, ?_⟩
      refine ite2 (fun c2 => ?_) (fun c2 => ?_)
      · refine ⟨_, _, rfl, rfl, ?_⟩
        have e2 : Tg.isL (.str x) = (!decide (("Z" : Str).cps.toList < x.cps.toList)) := by
          show isLet x = _
          unfold isLet
          rw [c, c2, Bool.true_and, Bool.true_and]
        rw [← e2]
        exact q
      · have e2 : Tg.isL (.str x) = false := by
          show isLet x = _
          unfold isLet
          rw [Bool.eq_false_iff.mpr c2, Bool.false_and, Bool.and_false]
        rw [e2] at q
        exact q
    · have e2 : Tg.isL (.str x) = false := by
        show isLet x = _
        unfold isLet
        rw [Bool.eq_false_iff.mpr c, Bool.false_and]
      rw [e2] at q
      exact q
  | oth ty a b => exact ⟨false, rfl, iteF q⟩
  | tup h r => exact ⟨false, rfl, iteF q⟩
end
end N

namespace N
open PySem PySem.Spec PyProof.Rows L2
section
variable {P : Program} {w : World} {K : PySem.W.Frag} {mg : Str → Option Value} {base : Heap}
theorem ok_is_name (G : Glo mg) (D : DefAt K mg "is_name" s_is_name ["thing"]) : Cal P w K mg base 1 "is_name" ["thing"] (spTest K Tg.isNm) := by
  obtain ⟨t8, h8⟩ := G.LN
  refine D.cal sc_is_name (fun vs H Q E h => ?_) (fun f cdv A outer s H vs Q E hr h => ?_)
  · obtain ⟨v, t, rfl, _⟩ := h
    rfl
  obtain ⟨v, t, rfl, hT, q⟩ := h
  refine ⟨_, pss_cons (ps_if (PW.pt (pw_or (pt_not (pt_val (pe_isi G.isinstance G.str b_str rfl rfl (pv 0))))
      (pw_or1 (pt_cmpR op_gt (pe_callB call_len_str (by rfl) G.len PySem.boot_len (pa_cons (pv 0) pa_nil)) (pe_glob (v := .int 8) rfl h8 ⟨_, rfl⟩) (nomark _)))))
      (pss_one (ps_ret pe_bl)) pss_nil)
    (pss_one (ps_ret (pe_and (pe_m0 PySem.F.slot_str_isascii PySem.F.type_str_isascii mt_isascii (pv 0))
      (pe_and (pe_m0 PySem.F.slot_str_isalpha PySem.F.type_str_isalpha mt_isalpha (pv 0)) (pe_one (pe_m0 PySem.F.slot_str_islower PySem.F.type_str_islower mt_islower (pv 0))))))), ?_⟩
  refine ⟨v, rfl, isi_str hT ?_⟩
  cases hT with
  | str x hx =>
    refine ⟨true, rfl, iteF ⟨_, rfl, x, rfl, sz5 hx, _, _, rfl, rfl, _, rfl, ?_⟩⟩
    refine ite2 (fun c => ?_) (fun c => ?_)
    · have c' : ((x.length : Nat) : Int) > 8 := of_decide_eq_true c
      have e2 : Tg.isNm (.str x) = false := by
        show isNam x = _
        unfold isNam
        rw [decide_eq_true (show 8 < x.length by omega)]
        rfl
      rw [e2] at q
      exact q
    · have c' : ¬ ((x.length : Nat) : Int) > 8 := of_decide_eq_false (Bool.eq_false_iff.mpr c)
      have e2 : Tg.isNm (.str x) = (Txt.isascii x && (Txt.isalpha x && Txt.islower x)) := by
        show isNam x = _
        unfold isNam
        rw [decide_eq_false (show ¬ 8 < x.length by omega)]
        rfl
      rw [e2] at q
      refine ⟨_, rfl, ⟨_, rfl⟩, x, rfl, rfl, trivial, _, rfl, ?_⟩
      refine ite2 (fun c => ?_) (fun c => ?_)
      · rw [c, Bool.true_and] at q
        refine ⟨_, rfl, ⟨_, rfl⟩, x, rfl, rfl, trivial, _, rfl, ?_⟩
        refine ite2 (fun c => ?_) (fun c => ?_)
        · rw [c, Bool.true_and] at q
          exact ⟨_, rfl, ⟨_, rfl⟩, x, rfl, rfl, trivial, q⟩
        · rw [Bool.eq_false_iff.mpr c, Bool.false_and] at q
          exact q
      · rw [Bool.eq_false_iff.mpr c, Bool.false_and] at q
        exact q
  | oth ty a b => exact ⟨false, rfl, iteT q⟩
  | tup h r => exact ⟨false, rfl, iteT q⟩

theorem begT_long {ts : List Tg} (h : 3 < ts.length) : begT (.tup ts) = false := by
  match ts, h with
  | n :: ts, h =>
    show (decide (ts.length ≤ 2) && n.isNm) = false
    rw [decide_eq_false (by rw [List.length_cons] at h; omega), Bool.false_and]
theorem begT_none {ts : List Tg} (h : ts.length < 1) : begT (.tup ts) = false := by
  match ts, h with
  | [], _ => rfl
theorem ok_begins (G : Glo mg) (CN : Cal P w K mg base 1 "is_name" ["thing"] (spTest K Tg.isNm)) (D : DefAt K mg "begins_class_type" s_begins_class_type ["thing"]) : Cal P w K mg base 2 "begins_class_type" ["thing"] (spTest K begT) := by
  obtain ⟨t2, h2⟩ := G.MA
  refine D.cal sc_begins_class_type (fun vs H Q E h => ?_) (fun f cdv A outer s H vs Q E hr h => ?_)
  · obtain ⟨v, t, rfl, _⟩ := h
    rfl
  obtain ⟨v, t, rfl, hT, q⟩ := h
  refine ⟨_, pss_cons (ps_if (PW.pt (pw_or (pt_not (pt_val (pe_isi G.isinstance G.tuple b_tuple rfl rfl (pv 0))))
      (pw_or1 (pt_not (pt_chain op_le op_le pe_int (pe_callB call_len_seq (by rfl) G.len PySem.boot_len (pa_cons (pv 0) pa_nil)) (pe_op op_add pe_int (pe_glob (v := .int 2) rfl h2 ⟨_, rfl⟩)))))))
      (pss_one (ps_ret pe_bl)) pss_nil)
    (pss_one (ps_ret (pc CN hr rfl (pa_cons (pe_ix ix_tup (pv 0) pe_int (fun _ _ => rfl)) pa_nil)))), ?_⟩
  refine ⟨v, rfl, isi_tup hT ?_⟩
  cases hT with
  | str x hx => exact ⟨false, rfl, iteT q⟩
  | oth ty a b => exact ⟨false, rfl, iteT q⟩
  | @tup a xs ts h r =>
    have hl := r.length
    refine ⟨true, rfl, iteF ⟨_, rfl, a, xs, rfl, .inr h, _, _, rfl, rfl, _, rfl, ?_⟩⟩
    refine ite2 (fun c => ?_) (fun c => ?_)
    · have c' : (1 : Int) ≤ (xs.length : Nat) := of_decide_eq_true c
      refine ⟨_, _, rfl, rfl, _, _, rfl, rfl, _, rfl, ?_⟩
      refine ite2 (fun c2 => ?_) (fun c2 => ?_)
      · have c2' : ¬ ((xs.length : Nat) : Int) ≤ 1 + 2 := by
          have z := c2
          rw [Bool.not_eq_true'] at z
          exact of_decide_eq_false z
        rw [begT_long (by omega)] at q
        exact q
      · have c2' : ((xs.length : Nat) : Int) ≤ 1 + 2 := by
          have z := c2
          rw [Bool.not_eq_true', Bool.not_eq_false] at z
          exact of_decide_eq_true z
        cases r with
        | nil => exact absurd c' (by decide)
        | @cons y ys n ts hy r =>
          refine ⟨_, rfl, a, _, 0, y, rfl, rfl, h, atI_nat (j := 0) rfl, y, n, rfl, hy, ?_⟩
          have e2 : begT (.tup (n :: ts)) = n.isNm := by
            show (decide (ts.length ≤ 2) && n.isNm) = _
            rw [decide_eq_true (by rw [List.length_cons] at c2'; have := r.length; omega), Bool.true_and]
          rw [e2] at q
          exact q
    · have c' : ¬ (1 : Int) ≤ (xs.length : Nat) := of_decide_eq_false (Bool.eq_false_iff.mpr c)
      rw [begT_none (by omega)] at q
      exact ⟨false, rfl, iteT q⟩

end
end N

namespace N
open PySem PySem.Spec PyProof.Rows L2
section
variable {P : Program} {w : World} {K : PySem.W.Frag} {mg : Str → Option Value} {base : Heap}
/-- a question about one thing: all that stood stands -/
def spAsk (K : PySem.W.Frag) (g : Tg → Bool) : Sp := fun vs H Q _ => ∃ v t, vs = [v] ∧ Th K H v t ∧ t.nodes ≤ 100000 ∧ ∀ H', Same H H' → Q (.bl (g t)) H'
theorem cut_tail (xs : List V) : cutV xs (some 1) none = xs.drop 1 := by
  unfold cutV
  rw [show HT.sIx xs.length 0 (some 1) = min 1 xs.length from HT.sIx_nat xs.length 0 1, HT.sIx_none]
  cases xs with
  | nil => rfl
  | cons x r =>
    rw [show min 1 (x :: r).length = 1 by rw [List.length_cons]; omega]
    show (List.take ((x :: r).length - 1) r) = r
    rw [List.length_cons, Nat.add_sub_cancel]
    exact List.take_length
theorem cut_tail_ne (xs : List V) (h : 1 ≤ xs.length) : ¬ (HT.sIx xs.length 0 (some 1) = 0 ∧ HT.sIx xs.length xs.length none = xs.length) := fun q => by
  have e : HT.sIx xs.length 0 (some 1) = min 1 xs.length := HT.sIx_nat xs.length 0 1
  rw [e] at q
  omega
/-- a tuple's arguments -/
theorem beg_tup {K : PySem.W.Frag} {H : Hp} {v : V} {t : Tg} (h : Th K H v t) (b : begT t = true) : ∃ (a : Addr) (n : V) (x : Str) (xs : List V), v = .ref a ∧ SqT K H a (n :: xs) ∧ n = .str x ∧ t = .tup (.str x :: t.args) ∧ isNam x = true ∧ t.args.length ≤ 2 ∧ ThAll K H xs t.args := by
  cases h with
  | str x hx => cases b
  | oth ty a b' => cases b
  | @tup a xs ts h r =>
    cases r with
    | nil => cases b
    | @cons y ys n ts hy r =>
      have b' : (decide (ts.length ≤ 2) && n.isNm) = true := b
      rw [Bool.and_eq_true, decide_eq_true_eq] at b'
      cases hy with
      | str x hx => exact ⟨a, _, x, ys, rfl, h, rfl, rfl, b'.2, b'.1, r⟩
      | oth ty a b => cases b'.2
      | tup h r => cases b'.2
theorem iteE {b : Bool} {A B : Prop} (e : b = true) (h : A) : if b = true then A else B := by
  rw [if_pos e]
  exact h
theorem iteN {b : Bool} {A B : Prop} (e : b = false) (h : B) : if b = true then A else B := by
  rw [if_neg (by rw [e]; exact Bool.false_ne_true)]
  exact h
theorem same_mut {H H' : Hp} {p : Addr} {o : HO} (e : Same H H') (h : H p = none) : Same H (upd H' p o) := fun b u q => by rw [upd_ne (ne_of_none q h)]; exact e b u q
theorem ok_is_type (CL : Cal P w K mg base 1 "is_letter" ["thing"] (spTest K Tg.isL)) (CB : Cal P w K mg base 2 "begins_class_type" ["thing"] (spTest K begT)) (D : DefAt K mg "is_type" s_is_type ["thing"]) : Cal P w K mg base 3 "is_type" ["thing"] (spAsk K isT) := by
  refine D.cal sc_is_type (fun vs H Q E h => ?_) (fun f cdv A outer s H vs Q E hr h => ?_)
  · obtain ⟨v, t, rfl, _⟩ := h
    rfl
  obtain ⟨v, t, rfl, hT, hn, q⟩ := h
  refine ⟨_, pss_cons (ps_set (i := 1) sc_is_type.nd rfl (Or.inl rfl) (pe_lst (pa_cons (pv 0) pa_nil)))
    (pss_cons (ps_while (passes_of rfl) (pt_truth (pv 1) (by intro _; rfl))
      (pss_cons (ps_set (i := 2) sc_is_type.nd rfl (Or.inl rfl) (pe_bm0 PySem.F.plainAttrs_list PySem.F.slot_list_pop PySem.F.type_list_pop mt_pop (pv 1)))
        (pss_one (ps_if (pt_val (pc CB hr rfl (pa_cons (pv 2) pa_nil)))
          (pss_one (ps_expr (pe_bm PySem.F.plainAttrs_list PySem.F.slot_list_extend PySem.F.type_list_extend mt_extendT (pv 1) (pa_cons (pe_slice sl_tup (pv 2) (po_some pe_int) po_none) pa_nil))))
          (pss_one (ps_if (pt_not (pt_val (pc CL (hr.mono (by decide)) rfl (pa_cons (pv 2) pa_nil)))) (pss_one (ps_ret pe_bl)) pss_nil))))))
    (pss_one (ps_ret pe_bl))), ?_⟩
  refine ⟨v, rfl, by show 1 ≤ sizeLine; decide, fun l hl => ?_⟩
  refine ⟨fun m σ H' => ∃ xs ts y, m = nodesAll ts ∧ σ = [some v, some (.ref l), y] ∧ Same H H' ∧ H' l = some (.lst xs) ∧ ThAll K H' xs ts ∧ nodesAll ts ≤ 100000 ∧ isT t = isTAll ts,
    ⟨_, [v], [t], _, rfl, rfl, same_new hl _, upd_same, .cons (hT.stay (stay_new hl _)) .nil, by simp only [nodesAll]; omega, by simp only [isTAll, Bool.and_true]⟩, fun m σ H' hW => ?_⟩
  obtain ⟨xs, ts, y, rfl, rfl, sm, hx, hA, hm, ht⟩ := hW
  refine ⟨_, rfl, _, .inl ⟨xs, SqL.of hx, rfl⟩, ?_⟩
  have hlen := hA.length
  by_cases hne : ts = []
  · subst hne
    have e0 : xs = [] := List.length_eq_zero_iff.mp hlen
    subst e0
    rw [ht] at q
    exact iteF (q H' sm)
  obtain ⟨u, xs', t', ts', e1, e2, hu, hr'⟩ := hA.snoc hne
  subst e1 e2
  have ek : (!(xs' ++ [u]).isEmpty) = true := by cases xs' <;> rfl
  refine iteE ek ?_
  have en : nodesAll (ts' ++ [t']) = nodesAll ts' + t'.nodes := by rw [nodesAll_app]; simp only [nodesAll]; omega
  have et : isTAll (ts' ++ [t']) = (isTAll ts' && isT t') := by rw [isTAll_app]; simp only [isTAll, Bool.and_true]
  have hl' := length_le_nodes ts'
  have hl2 := hr'.length
  refine ⟨fun σ2 H2 => ∃ xs ts y, nodesAll ts < nodesAll (ts' ++ [t']) ∧ σ2 = [some v, some (.ref l), y] ∧ Same H H2 ∧ H2 l = some (.lst xs) ∧ ThAll K H2 xs ts ∧ nodesAll ts ≤ 100000 ∧ isT t = isTAll ts,
    fun σ2 H2 ⟨xs, ts, y, a, b, c, d, e, f, g⟩ => ⟨nodesAll ts, a, xs, ts, y, rfl, b, c, d, e, f, g⟩, ?_⟩
  have hlast : (xs' ++ [u])[(xs' ++ [u]).length - 1]? = some u := by
    rw [List.length_append, List.length_singleton, Nat.add_sub_cancel, List.getElem?_append_right (Nat.le_refl _), Nat.sub_self] <;> rfl
  refine ⟨_, rfl, .inl ⟨rfl, _, SqL.of hx⟩, l, _, u, rfl, rfl, hx, hlast, ?_⟩
  rw [List.dropLast_concat]
  have st : Stay K H' (upd H' l (.lst xs')) := stay_lst hx
  have hu1 := hu.stay st
  have hr1 := ThAll.stay st hr'
  have s1 : Same H (upd H' l (.lst xs')) := same_mut sm hl
  refine ⟨u, rfl, u, t', rfl, hu1, begT t', rfl, ?_⟩
  refine ite2 (fun c => ?_) (fun c => ?_)
  · obtain ⟨a, n, x, ys, rfl, hq, rfl, et', hnm, hl3, hr3⟩ := beg_tup hu1 c
    have el : 1 ≤ ((.str x : V) :: ys).length := by rw [List.length_cons]; omega
    refine ⟨_, rfl, .inl ⟨rfl, _, SqL.of upd_same⟩, _, rfl, 1, rfl, a, _, rfl, hq, cut_tail_ne _ el, fun p hp => ?_⟩
    rw [cut_tail]
    show ∃ _ : Addr, _
    have npl : l ≠ p := ne_of_none upd_same hp
    have hx2 : (upd (upd H' l (.lst xs')) p (.tup ys)) l = some (.lst xs') := by rw [upd_ne npl]; exact upd_same
    have hl4 := hr3.length
    have st2 : Stay K (upd H' l (.lst xs')) (upd (upd H' l (.lst xs')) p (.tup ys)) := stay_new hp _
    have st3 : Stay K (upd (upd H' l (.lst xs')) p (.tup ys)) (upd (upd (upd H' l (.lst xs')) p (.tup ys)) l (.lst (xs' ++ ys))) := stay_lst hx2
    have ea := args_nodes c
    have hl5 := length_le_nodes t'.args
    refine ⟨l, p, xs', ys, rfl, rfl, hx2, .inl (.inl upd_same), sz5 (by omega), ?_⟩
    refine ⟨xs' ++ ys, ts' ++ t'.args, _, ?_, rfl, ?_, upd_same, ((hr1.stay st2).stay st3).app ((hr3.stay st2).stay st3), ?_, ?_⟩
    · rw [nodesAll_app, en]; omega
    · exact same_mut (s1.trans (same_new hp _)) hl
    · rw [nodesAll_app]; omega
    · rw [ht, et, isTAll_app, isT_beg c]
  · have eb : begT t' = false := Bool.eq_false_iff.mpr c
    refine ⟨u, rfl, u, t', rfl, hu1, Tg.isL t', rfl, ?_⟩
    have e3 : isT t' = t'.isL := isT_nbeg eb
    refine ite2 (fun c2 => ?_) (fun c2 => ?_)
    · have c3 : t'.isL = false := by simpa using c2
      rw [ht, et, e3, c3, Bool.and_false] at q
      exact q _ s1
    · have c3 : t'.isL = true := by simpa using c2
      have hp1 := nodes_pos t'
      refine ⟨xs', ts', _, by omega, rfl, s1, upd_same, hr1, by omega, ?_⟩
      rw [ht, et, e3, c3, Bool.and_true]
end
end N

namespace N
open PySem PySem.Spec PyProof.Rows L2
section
variable {P : Program} {w : World} {K : PySem.W.Frag} {mg : Str → Option Value} {base : Heap}
def spCheck (K : PySem.W.Frag) (C : Addr) : Sp := fun vs H Q E => ∃ v t, vs = [v] ∧ Th K H v t ∧ t.nodes ≤ 100000 ∧ (isT t = true → ∀ H', Same H H' → Q .non H') ∧ (isT t = false → ∀ H', Same H H' → E (.ref C) none H')
theorem ok_check_type {C : Addr} (X : ExcAt K mg "NoType" C) (CT : Cal P w K mg base 3 "is_type" ["thing"] (spAsk K isT)) (D : DefAt K mg "check_type" s_check_type ["thing"]) : Cal P w K mg base 4 "check_type" ["thing"] (spCheck K C) := by
  refine D.cal sc_check_type (fun vs H Q E h => ?_) (fun f cdv A outer s H vs Q E hr h => ?_)
  · obtain ⟨v, t, rfl, _⟩ := h
    rfl
  obtain ⟨v, t, rfl, hT, hn, q1, q2⟩ := h
  refine ⟨_, pss_one (ps_if (pt_not (pt_val (pc CT hr rfl (pa_cons (pv 0) pa_nil)))) (pss_one (ps_raise rfl (takes_of rfl rfl rfl rfl) (pmk_own PySem.F.excBase_ValueError X.x X.g X.k (raises_own X.b X.t) rfl))) pss_nil), ?_⟩
  refine ⟨v, rfl, v, t, rfl, hT, hn, fun H' sm => ⟨_, rfl, ?_⟩⟩
  refine ite2 (fun c => ?_) (fun c => ?_)
  · exact q2 (by simpa using c) H' sm
  · exact q1 (by simpa using c) H' sm
end
end N

namespace N
open PySem PySem.Spec PyProof.Rows L2
section
variable {P : Program} {w : World} {K : PySem.W.Frag} {mg : Str → Option Value} {base : Heap}
def spParts (K : PySem.W.Frag) : Sp := fun vs H Q _ => ∃ (v : V) (k : Kd), vs = [v] ∧ Kp K H v k ∧ k.nds ≤ 100000 ∧
  ∀ p H' xs, Same H H' → H p = none → H' p = some (.lst xs) → Kps K H' xs k.parts → Q (.ref p) H'
theorem nds_flat : ∀ ks : List Kd, (ks.flatMap Kd.parts).length = (ks.map Kd.nds).sum
  | [] => rfl
  | k :: ks => by
    rw [List.flatMap_cons, List.length_append, Kd.nds_parts, nds_flat ks]
    rfl
theorem sum_ge_len : ∀ ks : List Kd, ks.length ≤ (ks.map Kd.nds).sum
  | [] => Nat.zero_le _
  | k :: ks => by
    have h1 := sum_ge_len ks
    have h2 := Kd.nds_pos k
    simp only [List.length_cons, List.map_cons, List.sum_cons]
    omega
theorem snoc_last {α : Type} (xs : List α) (u : α) : (xs ++ [u])[(xs ++ [u]).length - 1]? = some u := by
  rw [List.length_append, List.length_singleton, Nat.add_sub_cancel, List.getElem?_append_right (Nat.le_refl _), Nat.sub_self] <;> rfl
theorem snoc_ne {α : Type} (xs : List α) (u : α) : (!(xs ++ [u]).isEmpty) = true := by cases xs <;> rfl
theorem ok_parts (G : Glo mg) (D : DefAt K mg "parts" s_parts ["kind"]) : Cal P w K mg base 1 "parts" ["kind"] (spParts K) := by
  refine D.cal sc_parts (fun vs H Q E h => ?_) (fun f cdv A outer s H vs Q E hr h => ?_)
  · obtain ⟨v, k, rfl, _⟩ := h
    rfl
  obtain ⟨v, k, rfl, hT, hn, q⟩ := h
  refine ⟨_, pss_cons (ps_set (i := 1) sc_parts.nd rfl (Or.inl rfl) (pe_lst pa_nil)) (pss_cons (ps_set (i := 2) sc_parts.nd rfl (Or.inl rfl) (pe_lst (pa_cons (pv 0) pa_nil)))
    (pss_cons (ps_while (passes_of rfl) (pt_truth (pv 2) (by intro _; rfl))
      (pss_cons (ps_set (i := 3) sc_parts.nd rfl (Or.inl rfl) (pe_bm0 PySem.F.plainAttrs_list PySem.F.slot_list_pop PySem.F.type_list_pop mt_pop (pv 2)))
        (pss_cons (ps_expr (pe_bm PySem.F.plainAttrs_list PySem.F.slot_list_append PySem.F.type_list_append mt_append (pv 1) (pa_cons (pv 3) pa_nil)))
        (pss_one (ps_if (pt_val (pe_isi G.isinstance G.tuple b_tuple rfl rfl (pv 3)))
          (pss_one (ps_expr (pe_bm PySem.F.plainAttrs_list PySem.F.slot_list_extend PySem.F.type_list_extend mt_extendT (pv 2) (pa_cons (pe_backT (pv 3)) pa_nil))))
          pss_nil)))))
    (pss_one (ps_ret (pv 1))))), ?_⟩
  refine ⟨by show 0 ≤ sizeLine; decide, fun fo hfo => ?_⟩
  refine ⟨v, rfl, by show 1 ≤ sizeLine; decide, fun l hl => ?_⟩
  have nfl : fo ≠ l := ne_of_none upd_same hl
  have hl0 : H l = none := by rw [upd_ne nfl.symm] at hl; exact hl
  have s0 : Same H (upd (upd H fo (.lst [])) l (.lst [v])) := (same_new hfo _).trans (same_new hl _)
  refine ⟨fun m σ H' => ∃ fs done xs ks y, m = (ks.map Kd.nds).sum ∧ σ = [some v, some (.ref fo), some (.ref l), y] ∧ Same H H' ∧ H' fo = some (.lst fs) ∧ H' l = some (.lst xs) ∧ Kps K H' fs done ∧ Kps K H' xs ks ∧ k.parts = done ++ ks.reverse.flatMap Kd.parts,
    ⟨_, [], [], [v], [k], _, rfl, rfl, s0, by rw [upd_ne nfl]; exact upd_same, upd_same, .nil, .cons (hT.stay (stay_same s0)) .nil, by simp⟩, fun m σ H' hW => ?_⟩
  obtain ⟨fs, done, xs, ks, y, rfl, rfl, sm, hf, hx, hA, hB, he⟩ := hW
  refine ⟨_, rfl, _, .inl ⟨xs, SqL.of hx, rfl⟩, ?_⟩
  have hlen := Kps.length hB
  have hlf := Kps.length hA
  have hcount : done.length + (ks.map Kd.nds).sum = k.nds := by
    have := congrArg List.length he
    rw [Kd.nds_parts, List.length_append, nds_flat, List.map_reverse, List.sum_reverse] at this
    omega
  by_cases hne : ks = []
  · subst hne
    have e0 : xs = [] := List.length_eq_zero_iff.mp hlen
    subst e0
    refine iteF ⟨_, rfl, q fo H' fs sm hfo hf ?_⟩
    rw [he]
    simpa using hA
  obtain ⟨u, xs', k', ks', e1, e2, hu, hr'⟩ := Kps.snoc hB hne
  subst e1 e2
  refine iteE (snoc_ne _ _) ?_
  have en : ((ks' ++ [k']).map Kd.nds).sum = (ks'.map Kd.nds).sum + k'.nds := by rw [List.map_append, List.sum_append]; simp
  have hp1 := Kd.nds_pos k'
  have hge := sum_ge_len ks'
  have hl2 := Kps.length hr'
  refine ⟨fun σ2 H2 => ∃ fs done xs ks y, (ks.map Kd.nds).sum < ((ks' ++ [k']).map Kd.nds).sum ∧ σ2 = [some v, some (.ref fo), some (.ref l), y] ∧ Same H H2 ∧ H2 fo = some (.lst fs) ∧ H2 l = some (.lst xs) ∧ Kps K H2 fs done ∧ Kps K H2 xs ks ∧ k.parts = done ++ ks.reverse.flatMap Kd.parts,
    fun σ2 H2 ⟨fs, done, xs, ks, y, a, b, c, d, e, f, g, h⟩ => ⟨_, a, fs, done, xs, ks, y, rfl, b, c, d, e, f, g, h⟩, ?_⟩
  refine ⟨_, rfl, .inl ⟨rfl, _, SqL.of hx⟩, l, _, u, rfl, rfl, hx, snoc_last _ _, ?_⟩
  rw [List.dropLast_concat]
  have st : Stay K H' (upd H' l (.lst xs')) := stay_lst hx
  have hf1 : (upd H' l (.lst xs')) fo = some (.lst fs) := by rw [upd_ne nfl]; exact hf
  have st1 : Stay K (upd H' l (.lst xs')) (upd (upd H' l (.lst xs')) fo (.lst (fs ++ [u]))) := stay_lst hf1
  have st2 := st.trans st1
  have hl1 : (upd (upd H' l (.lst xs')) fo (.lst (fs ++ [u]))) l = some (.lst xs') := by rw [upd_ne nfl.symm]; exact upd_same
  refine ⟨_, rfl, .inl ⟨rfl, _, SqL.of hf1⟩, u, rfl, fo, fs, u, rfl, rfl, hf1, Nat.lt_of_le_of_lt (show fs.length ≤ 100000 by omega) (by decide), ?_⟩
  have s2 : Same H (upd (upd H' l (.lst xs')) fo (.lst (fs ++ [u]))) := same_mut (same_mut sm hl0) hfo
  have hu2 := hu.stay st2
  have hr2 : Kps K _ xs' ks' := ThAll.stay st2 hr'
  have hA2 : Kps K _ (fs ++ [u]) (done ++ [k']) := Kps.app (ThAll.stay st2 hA) (.cons hu2 .nil)
  refine ⟨u, rfl, isi_tup hu2 ⟨_, rfl, ?_⟩⟩
  rw [Kd.isTu_tg]
  have hen : k.parts = (done ++ [k']) ++ (ks' ++ k'.args.reverse).reverse.flatMap Kd.parts := by
    rw [he, List.reverse_append, List.reverse_append, List.reverse_reverse, List.flatMap_append, List.flatMap_append]
    simp only [List.reverse_singleton, List.flatMap_singleton, List.append_assoc]
    rw [Kd.parts_eq k']
    simp
  cases hc : k'.isC with
  | false =>
    refine iteF ⟨_, _, xs', ks', _, ?_, rfl, s2, upd_same, hl1, hA2, hr2, ?_⟩
    · omega
    · have ea : k'.args = [] := by cases k' <;> first | rfl | cases hc
      rw [ea] at hen
      simpa using hen
  | true =>
    obtain ⟨a, zs, rfl, hq, hx5, hz⟩ := kp_C hu2 hc
    have hzl := Kps.length hz
    have hal := Kd.args_len k'
    have han := Kd.args_nds k'
    have hgs := sum_ge_len k'.args
    refine iteT ⟨_, rfl, .inl ⟨rfl, _, SqL.of hl1⟩, _, rfl, a, _, rfl, hq, by simp, fun p hp => ?_⟩
    rw [show (V.str k'.nm :: zs).drop 1 = zs from rfl]
    have npl : l ≠ p := ne_of_none hl1 hp
    have npf : fo ≠ p := ne_of_none upd_same hp
    have hx2 : (upd (upd (upd H' l (.lst xs')) fo (.lst (fs ++ [.ref a]))) p (.tup zs.reverse)) l = some (.lst xs') := by rw [upd_ne npl]; exact hl1
    have st3 : Stay K (upd (upd H' l (.lst xs')) fo (.lst (fs ++ [.ref a]))) (upd (upd (upd H' l (.lst xs')) fo (.lst (fs ++ [.ref a]))) p (.tup zs.reverse)) := stay_new hp _
    have st4 : Stay K (upd (upd (upd H' l (.lst xs')) fo (.lst (fs ++ [.ref a]))) p (.tup zs.reverse)) (upd (upd (upd (upd H' l (.lst xs')) fo (.lst (fs ++ [.ref a]))) p (.tup zs.reverse)) l (.lst (xs' ++ zs.reverse))) := stay_lst hx2
    have st5 := st3.trans st4
    refine ⟨l, p, xs', zs.reverse, rfl, rfl, hx2, .inl (.inl upd_same), sz5 (by rw [List.length_reverse]; omega), ?_⟩
    refine ⟨fs ++ [.ref a], done ++ [k'], xs' ++ zs.reverse, ks' ++ k'.args.reverse, _, ?_, rfl, same_mut (s2.trans (same_new hp _)) hl0, ?_, upd_same, ThAll.stay st5 hA2, Kps.app (ThAll.stay st5 hr2) (Kps.rev (ThAll.stay st5 hz)), hen⟩
    · rw [en, List.map_append, List.sum_append, List.map_reverse, List.sum_reverse]
      omega
    · rw [upd_ne nfl, upd_ne npf]
      exact upd_same
end
end N

namespace N
open PySem PySem.Spec PyProof.Rows L2 StX LamX NdefX
/-! ### fill -/
abbrev Map := List (Str × Kd)
def look (m : Map) (c : Str) : Kd := match m.find? (fun p => decide (p.1 = c)) with
  | some p => p.2
  | none => .L c
def fillK (m : Map) : Kd → Kd
  | .L c => look m c
  | .C0 n => .C0 n
  | .C1 n a => .C1 n (fillK m a)
  | .C2 n a b => .C2 n (fillK m a) (fillK m b)
def mkN (n : Str) : List Kd → Kd
  | [] => .C0 n
  | [a] => .C1 n a
  | a :: b :: _ => .C2 n a b
def stepF (m : Map) (S : List Kd) (p : Kd) : Option (List Kd) :=
  match p with
  | .L c => some (S ++ [look m c])
  | p => if p.args.length ≤ S.length then some (S.take (S.length - p.args.length) ++ [mkN p.nm (S.drop (S.length - p.args.length)).reverse]) else none
theorem stepF_C {m : Map} {S : List Kd} {p : Kd} (h : p.isC = true) : stepF m S p = if p.args.length ≤ S.length then some (S.take (S.length - p.args.length) ++ [mkN p.nm (S.drop (S.length - p.args.length)).reverse]) else none := by
  cases p <;> first | rfl | cases h
theorem run_fill (m : Map) (k : Kd) : ∀ S : List Kd, k.parts.reverse.foldlM (stepF m) S = some (S ++ [fillK m k]) := by
  induction k with
  | L c => intro S; rfl
  | C0 n =>
    intro S
    show (stepF m S (.C0 n)).bind some = _
    simp [stepF, Kd.args, mkN, fillK, Kd.nm]
  | C1 n a ih =>
    intro S
    show (Kd.C1 n a :: a.parts).reverse.foldlM (stepF m) S = _
    rw [List.reverse_cons, List.foldlM_append, ih S]
    simp [stepF, Kd.args, mkN, fillK, Kd.nm, List.foldlM]
  | C2 n a b ih1 ih2 =>
    intro S
    show (Kd.C2 n a b :: (a.parts ++ b.parts)).reverse.foldlM (stepF m) S = _
    rw [List.reverse_cons, List.reverse_append, List.foldlM_append, List.foldlM_append, ih2 S]
    show ((Option.bind (some (S ++ [fillK m b])) fun S' => a.parts.reverse.foldlM (stepF m) S').bind fun s' => [Kd.C2 n a b].foldlM (stepF m) s') = _
    show (a.parts.reverse.foldlM (stepF m) (S ++ [fillK m b])).bind _ = _
    rw [ih1 (S ++ [fillK m b])]
    simp [stepF, Kd.args, mkN, fillK, Kd.nm, List.foldlM]
theorem foldlM_take {α β : Type} {f : β → α → Option β} {l : List α} {b r : β} (h : l.foldlM f b = some r) (i : Nat) (x : α) (hx : l[i]? = some x) : ∃ s s', (l.take i).foldlM f b = some s ∧ f s x = some s' ∧ (l.take (i + 1)).foldlM f b = some s' := by
  have e : l = l.take (i + 1) ++ l.drop (i + 1) := (List.take_append_drop _ _).symm
  have e2 : l.take (i + 1) = l.take i ++ [x] := take_snoc hx
  rw [e, List.foldlM_append] at h
  cases q : (l.take (i + 1)).foldlM f b with
  | none => rw [q] at h; cases h
  | some s' =>
    rw [e2, List.foldlM_append] at q
    cases q2 : (l.take i).foldlM f b with
    | none => rw [q2] at q; cases q
    | some s =>
      rw [q2] at q
      refine ⟨s, s', rfl, ?_, rfl⟩
      have : (f s x).bind some = some s' := q
      cases q3 : f s x with
      | none => rw [q3] at this; cases this
      | some z => rw [q3] at this; exact this
section
variable {P : Program} {w : World} {K : PySem.W.Frag} {mg : Str → Option Value} {base : Heap}
def Held (K : PySem.W.Frag) (H : Hp) (d : Addr) (m : Map) : Prop := ∃ kvs, H d = some (.dK kvs) ∧ Paired (fun (p : Key × V) (q : Str × Kd) => p.1 = Sum.inr q.1 ∧ Kp K H p.2 q.2) kvs m
theorem Held.stay {H H' : Hp} {d : Addr} {m : Map} (sm : Same H H') (h : Held K H d m) : Held K H' d m := by
  obtain ⟨kvs, e, r⟩ := h
  exact ⟨kvs, sm _ _ e, Paired.mapP r fun p q z => ⟨z.1, z.2.stay (stay_same sm)⟩⟩
theorem held_look {H : Hp} : ∀ {kvs : List (Key × V)} {m : Map} {c : Str}, Paired (fun (p : Key × V) (q : Str × Kd) => p.1 = Sum.inr q.1 ∧ Kp K H p.2 q.2) kvs m → c.length ≤ 100000 → Kp K H ((valV kvs (Sum.inr c)).getD (.str c)) (look m c)
  | _, _, c, .nil, hc => by
    show Th K H (.str c) (.str c)
    exact .str c hc
  | _, _, c, .cons (a := p) (b := q) (l₁ := kvs) (l₂ := m) r t, hc => by
    have ih := held_look t hc
    by_cases e : q.1 = c
    · have e2 : p.1 = Sum.inr c := by rw [r.1, e]
      rw [valV_pos e2]
      have e3 : look (q :: m) c = q.2 := by
        unfold look
        rw [List.find?_cons_of_pos (by simpa using e)]
      rw [e3]
      exact r.2
    · have e2 : ¬ p.1 = Sum.inr c := fun z => e (Sum.inr.inj (r.1.symm.trans z))
      rw [valV_neg e2]
      have e3 : look (q :: m) c = look m c := by
        unfold look
        rw [List.find?_cons_of_neg (by simpa using e)]
      rw [e3]
      exact ih
theorem mkN_nm (n : Str) : ∀ ks : List Kd, (mkN n ks).nm = n ∧ (mkN n ks).isC = true
  | [] => ⟨rfl, rfl⟩
  | [_] => ⟨rfl, rfl⟩
  | _ :: _ :: _ => ⟨rfl, rfl⟩
theorem mkN_args (n : Str) : ∀ ks : List Kd, ks.length ≤ 2 → (mkN n ks).args = ks
  | [], _ => rfl
  | [_], _ => rfl
  | [_, _], _ => rfl
  | _ :: _ :: _ :: _, h => by simp at h
theorem step_len {m : Map} {S S' : List Kd} {p : Kd} (h : stepF m S p = some S') : S'.length ≤ S.length + 1 := by
  cases hc : p.isC with
  | false =>
    obtain ⟨e, _⟩ := Kd.tg_L hc
    rw [e] at h
    have e2 : S ++ [look m p.nm] = S' := Option.some.inj h
    rw [← e2, List.length_append, List.length_singleton]
    omega
  | true =>
    rw [stepF_C hc] at h
    split at h
    · have e2 := Option.some.inj h
      rw [← e2, List.length_append, List.length_singleton, List.length_take]
      omega
    · cases h
theorem pop_take {α : Type} {l : List α} {j : Nat} (h : j < l.length) : (l.take (l.length - j))[(l.take (l.length - j)).length - 1]? = some l[l.length - j - 1] ∧ (l.take (l.length - j)).dropLast = l.take (l.length - (j + 1)) ∧
    (l.drop (l.length - j)).reverse ++ [l[l.length - j - 1]] = (l.drop (l.length - (j + 1))).reverse := by
  have e0 : (l.take (l.length - j)).length = l.length - j := by rw [List.length_take]; omega
  refine ⟨?_, ?_, ?_⟩
  · rw [e0, List.getElem?_take, if_pos (by omega), List.getElem?_eq_getElem (by omega)]
  · rw [List.dropLast_eq_take, e0, List.take_take]
    congr 1
    omega
  · have e1 : l.drop (l.length - (j + 1)) = l[l.length - j - 1] :: l.drop (l.length - j) := by
      have h1 : l.length - (j + 1) = l.length - j - 1 := by omega
      have h3 := List.drop_eq_getElem_cons (l := l) (i := l.length - j - 1) (by omega)
      rw [show l.length - j - 1 + 1 = l.length - j by omega] at h3
      rw [h1]
      exact h3
    rw [e1, List.reverse_cons]
theorem Kps.take {H : Hp} : ∀ {vs : List V} {ks : List Kd} (n : Nat), Kps K H vs ks → Kps K H (vs.take n) (ks.take n)
  | _, _, 0, _ => .nil
  | _, [], n + 1, .nil => .nil
  | _, k :: ks, n + 1, .cons r t => .cons r (Kps.take (ks := ks) n t)
theorem Kps.drop {H : Hp} : ∀ {vs : List V} {ks : List Kd} (n : Nat), Kps K H vs ks → Kps K H (vs.drop n) (ks.drop n)
  | _, _, 0, h => h
  | _, [], n + 1, .nil => .nil
  | _, k :: ks, n + 1, .cons r t => Kps.drop (ks := ks) n t
/-! ### folded, over a letter's value and a class's making -/
/-- what the first lambda does, d holding the map m -/
def lamLet (K : PySem.W.Frag) (d : Addr) (m : Map) : List V → Hp → VK → Prop := fun vs H Q => ∃ c : Str, vs = [.str c] ∧ c.length ≤ 100000 ∧ Held K H d m ∧ ∀ u, Kp K H u (look m c) → Q u H
/-- what the second one does -/
def lamCls (K : PySem.W.Frag) : List V → Hp → VK → Prop := fun vs H Q => ∃ (n : Str) (D : Addr) (xs : List V), vs = [.str n, .ref D] ∧ SqL K H D xs ∧ xs.length ≤ 1000 ∧ ∀ t, H t = none → Q (.ref t) (upd H t (.tup (.str n :: xs)))
structure FoldRR (P : Program) (w : World) (K : PySem.W.Frag) (mg : Str → Option Value) (base : Heap) (h : Heap) (v : V) (f1 f2 d : Addr) (k : Kd) (m : Map) (H : Hp) : Prop where
  a1 : ActL P w K mg base f1 h H (lamLet K d m)
  a2 : ActL P w K mg base f2 h H (lamCls K)
  kp : Kp K H v k
  nd : k.nds ≤ 100000
  hd : Held K H d m
theorem folded_body (G : Glo mg) (CP : Cal P w K mg base 1 "parts" ["kind"] (spParts K)) {g : Addr} {cdv : Value} {A : Around} {outer : List Env} {s : Shared} {H : Hp} {Q : VK} (hr : RoomG 1 (A.deeper (envOfC "folded" (defScope s_folded) s.heap.objs.size g cdv)))
    {v : V} {f1 f2 d : Addr} {k : Kd} {m : Map} (R : FoldRR P w K mg base s.heap v f1 f2 d k m H) (q : ∀ H' u, Same H H' → Kp K H' u (fillK m k) → Q u H') :
    ∃ t, PSs (cxOf (L2.CX P w) P w K mg base nm_folded "folded" (defScope s_folded) g cdv A outer s H E0) (defBody s_folded) t ∧ t { nx := fun _ H' => Q .non H', rt := Q } (L2.start nm_folded [v, .ref f1, .ref f2]) H := by
  obtain ⟨a1, a2, hT, hn, hd⟩ := R
  refine ⟨_, pss_cons (ps_set (i := 3) sc_folded.nd rfl (Or.inr rfl) (pe_lst pa_nil))
    (pss_cons (ps_for (passes_of rfl) rfl (pi_list (pe_revL (pc CP hr rfl (pa_cons (pv 0) pa_nil)))) (pg_name (i := 4) sc_folded.nd rfl (Or.inl rfl))
      (pss_one (ps_if (pt_val (pe_isi G.isinstance G.str b_str rfl rfl (pv 4)))
        (pss_one (ps_expr (pe_bm PySem.F.plainAttrs_list PySem.F.slot_list_append PySem.F.type_list_append mt_append (pv 3) (pa_cons (pe_actS (i := 1) a1 hr rfl rfl (.inl rfl) (pa_cons (pv 4) pa_nil)) pa_nil))))
        (pss_cons (ps_setLc (i := 5) (own := [("_", 6)]) (te := tBM0 K "list" rPop (tVar 3)) (by rfl) sc_folded.nd rfl rfl (sw_true rfl rfl rfl (by decide +kernel)) (pi_tup (pe_slice sl_tup (pv 4) (po_some pe_int) po_none)) (blkOk_by (N := nm_folded) (sc := defScope s_folded) (own := [("_", 6)]) (by decide +kernel))
            (fun _ _ _ _ _ => pg_name (i := 6) sc_folded.nd rfl (Or.inl rfl)) (fun _ _ _ _ _ => pts_nil) (fun _ _ _ _ _ => pe_bm0 PySem.F.plainAttrs_list PySem.F.slot_list_pop PySem.F.type_list_pop mt_pop (pv 3)))
          (pss_one (ps_expr (pe_bm PySem.F.plainAttrs_list PySem.F.slot_list_append PySem.F.type_list_append mt_append (pv 3) (pa_cons (pe_actS (i := 2) a2 hr rfl rfl (.inl rfl) (pa_cons (pe_ix ix_tup (pv 4) pe_int (fun _ _ => rfl)) (pa_cons (pv 5) pa_nil))) pa_nil))))))))
    (pss_one (ps_ret (pe_bm0 PySem.F.plainAttrs_list PySem.F.slot_list_pop PySem.F.type_list_pop mt_pop (pv 3))))), ?_⟩
  refine ⟨by show 0 ≤ sizeLine; decide, fun dn hdn => ?_⟩
  have s0 : Same H (upd H dn (.lst [])) := same_new hdn _
  refine ⟨v, rfl, v, k, rfl, hT.stay (stay_same s0), hn, fun p H1 xs sm1 hp hx hk => ?_⟩
  refine ⟨p, xs, rfl, SqL.of hx, fun p2 hp2 => ?_⟩
  have sm2 : Same H (upd H1 p2 (.lst xs.reverse)) := s0.trans (sm1.trans (same_new hp2 _))
  have hdn1 : (upd H1 p2 (.lst xs.reverse)) dn = some (.lst []) := (sm1.trans (same_new hp2 _)) _ _ upd_same
  have nd2 : dn ≠ p2 := ne_of_none (sm1 _ _ upd_same) hp2
  have hk2 : Kps K (upd H1 p2 (.lst xs.reverse)) xs.reverse k.parts.reverse := Kps.rev (ThAll.stay (stay_new hp2 _) hk)
  have htot := run_fill m k []
  refine ⟨p2, rfl, ⟨xs.reverse, SqL.of upd_same⟩, for_list (K := K) (a := p2) (xs := xs.reverse) (fun i σ H' => ∃ ss S y3 y4 y5, σ = [some v, some (.ref f1), some (.ref f2), some (.ref dn), y3, y4, y5] ∧ Same H H' ∧ Stay K (upd H1 p2 (.lst xs.reverse)) H' ∧ H' p2 = some (.lst xs.reverse) ∧ H' dn = some (.lst ss) ∧ Kps K H' ss S ∧ (k.parts.reverse.take i).foldlM (stepF m) [] = some S ∧ S.length ≤ i)
    ⟨[], [], _, _, _, rfl, sm2, Stay.refl _, upd_same, hdn1, .nil, rfl, Nat.le_refl _⟩ (fun i σ H' _ ⟨ss, S, y3, y4, y5, _, _, _, h, _⟩ => SqL.of h) (fun i x σ H' hxi ⟨ss, S, y3, y4, y5, eσ, sm, st, hp2', hdn', hS, hrun, hlen⟩ => ?_) (fun σ H' ⟨ss, S, y3, y4, y5, eσ, sm, st, hp2', hdn', hS, hrun, hlen⟩ => ?_)⟩
  · subst eσ
    obtain ⟨k', hk1, hk3⟩ := Kps.at hk2 hxi
    have hx3 := hk3.stay st
    obtain ⟨S0, S', e1, e2, e3⟩ := foldlM_take htot i k' hk1
    rw [hrun] at e1
    cases e1
    have hsl := step_len e2
    have hlS := Kps.length hS
    have hil : i < k.parts.reverse.length := (List.getElem?_eq_some_iff.mp hk1).1
    rw [List.length_reverse, Kd.nds_parts] at hil
    refine ⟨x, rfl, isi_str hx3 ⟨_, rfl, ?_⟩⟩
    rw [Kd.isS_tg]
    cases hc : k'.isC with
    | false =>
      obtain ⟨ex, hcl⟩ := kp_L hx3 hc
      subst ex
      have eS : S' = S ++ [look m k'.nm] := by
        obtain ⟨e4, _⟩ := Kd.tg_L hc
        rw [e4] at e2
        exact (Option.some.inj e2).symm
      refine iteT ⟨_, rfl, .inl ⟨rfl, _, SqL.of hdn'⟩, rfl, sm, _, rfl, sm, k'.nm, rfl, hcl, hd.stay sm, fun u hlk => ?_⟩
      refine ⟨dn, ss, _, rfl, rfl, hdn', Nat.lt_of_le_of_lt (show ss.length ≤ 100000 by omega) (by decide), ?_⟩
      refine ⟨_, S', _, _, _, rfl, same_mut sm hdn, st.trans (stay_lst hdn'), by rw [upd_ne nd2.symm]; exact hp2', upd_same, ?_, e3, by omega⟩
      rw [eS]
      exact Kps.app (ThAll.stay (stay_lst hdn') hS) (.cons (hlk.stay (stay_lst hdn')) .nil)
    | true =>
      rw [stepF_C hc] at e2
      split at e2
      case isFalse => cases e2
      rename_i hle
      have eS := (Option.some.inj e2).symm
      obtain ⟨a, zs, ea, hq, hnl, hz⟩ := kp_C hx3 hc
      subst ea
      have hzl := Kps.length hz
      have hal := Kd.args_len k'
      refine iteF ⟨_, rfl, 1, rfl, a, _, rfl, hq, cut_tail_ne _ (by simp), fun pz hpz => ?_⟩
      rw [cut_tail]
      show ∃ _ : Addr, _
      have ndz : dn ≠ pz := ne_of_none hdn' hpz
      have npz : p2 ≠ pz := ne_of_none hp2' hpz
      refine ⟨pz, rfl, ⟨zs, .inl (.inl upd_same)⟩, fun Dl hDl => ?_⟩
      have nzD : pz ≠ Dl := ne_of_none upd_same hDl
      have ndD : dn ≠ Dl := ne_of_none (show (upd H' pz (.tup zs)) dn = some (.lst ss) by rw [upd_ne ndz]; exact hdn') hDl
      have npD : p2 ≠ Dl := ne_of_none (show (upd H' pz (.tup zs)) p2 = some (.lst xs.reverse) by rw [upd_ne npz]; exact hp2') hDl
      refine lc_tup (K := K) (a := pz) (xs := zs) (fun j H2 => Same H H2 ∧ Stay K H' H2 ∧ H2 p2 = some (.lst xs.reverse) ∧ H2 pz = some (.tup zs) ∧ H2 dn = some (.lst (ss.take (ss.length - j))) ∧ H2 Dl = some (.lst (ss.drop (ss.length - j)).reverse))
        ⟨sm.trans ((same_new hpz _).trans (same_new hDl _)), (stay_new hpz _).trans (stay_new hDl _), by rw [upd_ne npD, upd_ne npz]; exact hp2', by rw [upd_ne nzD]; exact upd_same, by rw [upd_ne ndD, upd_ne ndz, Nat.sub_zero, List.take_length]; exact hdn', by rw [Nat.sub_zero, List.drop_length]; exact upd_same⟩
        (fun j H2 _ ⟨_, _, _, h, _⟩ => .inl (.inl h)) (fun j y H2 hy ⟨g1, g2, g3, g4, g5, g6⟩ => ?_) (fun H2 ⟨g1, g2, g3, g4, g5, g6⟩ => ?_)
      · have hj : j < zs.length := (List.getElem?_eq_some_iff.mp hy).1
        have hjs : j < ss.length := by omega
        obtain ⟨t1, t2, t3⟩ := pop_take hjs
        refine ⟨rfl, _, rfl, .inl ⟨rfl, _, SqL.of g5⟩, dn, _, _, rfl, rfl, g5, t1, ?_⟩
        rw [t2]
        have g6' : (upd H2 dn (.lst (ss.take (ss.length - (j + 1))))) Dl = some (.lst (ss.drop (ss.length - j)).reverse) := by rw [upd_ne ndD.symm]; exact g6
        refine ⟨_, g6', ?_, same_mut (same_mut g1 hdn) ?_, g2.trans ((stay_lst g5).trans (stay_lst g6')), ?_, ?_, ?_, ?_⟩
        · rw [List.length_reverse, List.length_drop]
          exact Nat.lt_of_le_of_lt (show _ ≤ 100000 by omega) (by decide)
        · exact sm.free (by have := hDl; rw [upd_ne nzD.symm] at this; exact this)
        · rw [upd_ne npD, upd_ne nd2.symm]; exact g3
        · rw [upd_ne nzD, upd_ne ndz.symm]; exact g4
        · rw [upd_ne ndD]; exact upd_same
        · rw [t3]; exact upd_same
      · have hzr : zs.length = k'.args.length := hzl
        rw [hzr] at g5 g6
        have hhead := g2.tup _ _ hq
        refine ⟨_, rfl, .inl ⟨rfl, _, SqL.of g5⟩, rfl, g1, _, rfl, a, _, 0, .str k'.nm, rfl, rfl, hhead, atI_nat (j := 0) rfl, _, rfl, g1, k'.nm, Dl, _, rfl, SqL.of g6, ?_, fun t ht => ?_⟩
        · rw [List.length_reverse, List.length_drop]
          omega
        have ndt : dn ≠ t := ne_of_none g5 ht
        have npt : p2 ≠ t := ne_of_none g3 ht
        have g5t : (upd H2 t (.tup (.str k'.nm :: (ss.drop (ss.length - k'.args.length)).reverse))) dn = some (.lst (ss.take (ss.length - k'.args.length))) := by rw [upd_ne ndt]; exact g5
        refine ⟨dn, _, .ref t, rfl, rfl, g5t, ?_, ?_⟩
        · rw [List.length_take]
          exact Nat.lt_of_le_of_lt (show _ ≤ 100000 by omega) (by decide)
        have stt : Stay K H' (upd (upd H2 t (.tup (.str k'.nm :: (ss.drop (ss.length - k'.args.length)).reverse))) dn (.lst (ss.take (ss.length - k'.args.length) ++ [.ref t]))) := g2.trans ((stay_new ht _).trans (stay_lst g5t))
        refine ⟨_, S', _, _, _, rfl, same_mut (g1.trans (same_new ht _)) hdn, st.trans stt, ?_, upd_same, ?_, e3, by omega⟩
        · rw [upd_ne nd2.symm, upd_ne npt]; exact g3
        · rw [eS]
          have hSt : Kps K _ ss S := ThAll.stay stt hS
          have ht1 := Kps.take (ss.length - k'.args.length) hSt
          have ht2 := Kps.rev (Kps.drop (ss.length - k'.args.length) hSt)
          rw [hlS] at ht1 ht2 ⊢
          refine Kps.app ht1 (.cons ?_ .nil)
          have hrl : (S.drop (S.length - k'.args.length)).reverse.length = k'.args.length := by rw [List.length_reverse, List.length_drop]; omega
          refine kp_mk (xs := (ss.drop (S.length - k'.args.length)).reverse) (mkN_nm _ _).2 ?_ ?_ ?_
          · rw [(mkN_nm _ _).1]
            refine .inl (.inl ?_)
            rw [upd_ne ndt.symm]
            exact upd_same
          · rw [(mkN_nm _ _).1]
            exact hnl
          · rw [mkN_args _ _ (by omega)]
            exact ht2
  · subst eσ
    have e : k.parts.reverse.take xs.reverse.length = k.parts.reverse := List.take_of_length_le (by rw [← Kps.length hk2]; exact Nat.le_refl _)
    rw [e, htot] at hrun
    have eS := Option.some.inj hrun
    rw [List.nil_append] at eS
    subst eS
    have hl1 := Kps.length hS
    match ss, hl1, hS, hdn' with
    | [u], _, hS, hdn' =>
      refine ⟨_, rfl, .inl ⟨rfl, _, SqL.of hdn'⟩, dn, _, u, rfl, rfl, hdn', rfl, ?_⟩
      cases hS with
      | cons hu _ => exact q _ u (same_mut sm hdn) (hu.stay (stay_lst hdn'))
end
end N

namespace N
open PySem PySem.Spec PyProof.Rows L2 StX LamX NdefX
/-! ### filled, with its lambdas -/
def tq : Str := ("filled" : Str) ++ ".<locals>." ++ "<lambda>"
/-- the two lambdas of filled: parameters, expression, names -/
def lamsOf (b : List Stmt) (o : Arguments × Expr × Scope) : (Arguments × Expr × Scope) × (Arguments × Expr × Scope) := match b with
  | [.Return (some (.Call _ [_, .Lambda a1 b1 s1 _, .Lambda a2 b2 s2 _] _ _)) _] => ((a1, b1, s1), (a2, b2, s2))
  | _ => (o, o)
def lams : (Arguments × Expr × Scope) × (Arguments × Expr × Scope) := lamsOf (defBody s_filled) (defArgs s_filled, .Name "x" ⟨0, 0, 0, 0⟩, defScope s_filled)
theorem sc_lam1 : NScope ["letter", "values"] ["letter"] ["values"] lams.1.2.2 := nscope_by (by decide +kernel)
theorem sc_lam2 : NScope ["name", "arguments"] ["name", "arguments"] [] lams.2.2.2 := nscope_by (by decide +kernel)
theorem fre1 : ∀ y ∈ lams.1.2.2.names, y.2 = .free → (defScope s_filled).names.lookup y.1 = some .cell ∨ (defScope s_filled).names.lookup y.1 = some .free := ndef_free (fr := []) (by decide +kernel)
theorem fre2 : ∀ y ∈ lams.2.2.2.names, y.2 = .free → (defScope s_filled).names.lookup y.1 = some .cell ∨ (defScope s_filled).names.lookup y.1 = some .free := ndef_free (fr := []) (by decide +kernel)
section
variable {P : Program} {w : World} {K : PySem.W.Frag} {mg : Str → Option Value} {base : Heap}
theorem act_let {F : NF} {f d : Addr} {m : Map} {h : Heap} {H : Hp} (eF : F.params = lams.1.1 ∧ F.scope = lams.1.2.2) (C : CellsAt F.cl ["values"] [some (V.ref d)] h H) (h1 : H f = some (LamO f F lams.1.2.1)) (h2 : H F.c = some (CodeO F.c F.qual)) : ActL P w K mg base f h H (lamLet K d m) := by
  obtain ⟨name, qual, params, fb, scope, cl, c⟩ := F
  obtain ⟨rfl, rfl⟩ := eF
  refine ⟨_, lams.1.2.1, _, _, _, _, _, sc_lam1, fun pm ctv us hl => match us, hl with | [_], _ => rfl, fun A outer s H hr => pe_dget2 (hug hr) (pe_var (x := "values") (i := 1) rfl (.inr (.inr rfl))) (pe_var (x := "letter") (i := 0) rfl (.inl rfl)) (pe_var (x := "letter") (i := 0) rfl (.inl rfl)) ⟨rfl, rfl, rfl, rfl⟩, C, h1, h2, fun vs H' Q z => ?_⟩
  obtain ⟨x, rfl, hx, ⟨kvs, hkv, hpr⟩, q⟩ := z
  exact ⟨rfl, _, rfl, d, rfl, .inl ⟨kvs, .inl hkv⟩, _, rfl, _, rfl, _, DGet.k (k := Sum.inr x) hkv, q _ (held_look hpr hx)⟩
theorem act_cls {F : NF} {f : Addr} {h : Heap} {H : Hp} (eF : F.params = lams.2.1 ∧ F.scope = lams.2.2.2) (C : CellsAt F.cl [] [] h H) (h1 : H f = some (LamO f F lams.2.2.1)) (h2 : H F.c = some (CodeO F.c F.qual)) : ActL P w K mg base f h H (lamCls K) := by
  obtain ⟨name, qual, params, fb, scope, cl, c⟩ := F
  obtain ⟨rfl, rfl⟩ := eF
  refine ⟨_, lams.2.2.1, _, _, _, _, tTup (tCons (tVar 0) (tStar K (tVar 1) tNil)), sc_lam2, fun pm ctv us hl => match us, hl with | [_, _], _ => rfl, fun A outer s H hr => by exact pe_tup (pa_cons (pv 0) (pa_star (pv 1) pa_nil)), C, h1, h2, fun vs H' Q z => ?_⟩
  obtain ⟨n, D, xs, rfl, hS, hl, q⟩ := z
  refine ⟨rfl, _, rfl, _, rfl, D, xs, rfl, .inr hS, ?_, fun t ht => ?_⟩
  · rw [List.append_nil, List.length_cons]
    exact Nat.le_trans (show _ ≤ 100000 by omega) (by decide)
  · rw [List.append_nil]
    exact q t ht
theorem ext_stay {H H' : Hp} (e : ExtN H H') : Stay K H H' where
  tup := fun a xs q => by
    rcases q with (q | ⟨o', q⟩) | q
    · exact .inl (.inl (e _ _ q (fun ps z => by cases z)))
    · exact .inl (.inr ⟨o', e _ _ q (fun ps z => by cases z)⟩)
    · exact .inr q
  ty := fun v t q => by
    cases q with
    | base b =>
      cases b with
      | non => exact .base .non
      | bl x => exact .base (.bl x)
      | int i => exact .base (.int i)
      | str x => exact .base (.str x)
      | flt x => exact .base (.flt x)
      | lst z => exact .base (.lst (e _ _ z (fun ps y => by cases y)))
      | frz z => exact .base (.frz (e _ _ z (fun ps y => by cases y)))
      | tup z => exact .base (.tup (e _ _ z (fun ps y => by cases y)))
      | dK z => exact .base (.dK (e _ _ z (fun ps y => by cases y)))
      | dT z => exact .base (.dT (e _ _ z (fun ps y => by cases y)))
      | ins z cl ha hn htk hm => exact .base (.ins (e _ _ z (fun ps y => by cases y)) cl ha hn htk hm)
    | byt b => exact .byt b
    | set z => exact .set (e _ _ z (fun ps y => by cases y))
    | kList z c => exact .kList z c
    | kTuple z c => exact .kTuple z c
    | kDict z c => exact .kDict z c
    | fTuple z => exact .fTuple (e _ _ z (fun ps y => by cases y))
    | fDict z => exact .fDict (e _ _ z (fun ps y => by cases y))
/-- all but the tables stays, and nothing that was tracked is gone -/
structure Gro (H H' : Hp) : Prop where
  e : ExtN H H'
  n : ∀ b, H' b = none → H b = none
theorem Gro.of {H H' : Hp} (s : Same H H') : Gro H H' := ⟨ExtN.of s, fun b z => s.free z⟩
theorem Gro.trans {H H1 H2 : Hp} (a : Gro H H1) (b : Gro H1 H2) : Gro H H2 := ⟨a.e.trans b.e, fun x z => a.n x (b.n x z)⟩
theorem Gro.refl (H : Hp) : Gro H H := ⟨ExtN.refl H, fun _ z => z⟩
theorem Gro.stay {H H' : Hp} (g : Gro H H') : Stay K H H' := ext_stay g.e
theorem Gro.seq {H H' : Hp} {a : Addr} {xs : List V} (g : Gro H H') (h : SqL K H a xs) : SqL K H' a xs := by
  rcases h with (h | ⟨o, h⟩) | h
  · exact .inl (.inl (g.e _ _ h (fun ps z => by cases z)))
  · exact .inl (.inr ⟨o, g.e _ _ h (fun ps z => by cases z)⟩)
  · exact .inr h
theorem Held.ext {H H' : Hp} {d : Addr} {m : Map} (e : ExtN H H') (h : Held K H d m) : Held K H' d m := by
  obtain ⟨kvs, z, r⟩ := h
  exact ⟨kvs, e _ _ z (fun ps y => by cases y), Paired.mapP r fun p q y => ⟨y.1, y.2.stay (ext_stay e)⟩⟩
def spFilledT (K : PySem.W.Frag) (Pt : Addr) : Sp := fun vs H Q _ => ∃ (v : V) (d : Addr) (k : Kd) (m : Map), vs = [v, .ref d] ∧ Kp K H v k ∧ k.nds ≤ 100000 ∧ Held K H d m ∧ TabS H Pt tq ∧ ∀ H' u, Gro H H' → TabS H' Pt tq → Kp K H' u (fillK m k) → Q u H'
theorem ok_filledT {c Pt : Addr} (G : Glo mg) (TB : TabB base mg c Pt) (CP : Cal P w K mg base 1 "parts" ["kind"] (spParts K)) (DF : DefAt K mg "folded" s_folded ["kind", "of_letter", "of_class"]) (D : DefAtC K mg "filled" s_filled ["kind", "values"] c) : Cal P w K mg base 3 "filled" ["kind", "values"] (spFilledT K Pt) := by
  refine D.cal sc_filled (fun vs H Q E h => ?_) (fun f A outer s H vs Q E hr h => ?_)
  · obtain ⟨v, d, k, m, rfl, _⟩ := h
    rfl
  obtain ⟨v, d, k, m, rfl, hT, hn, hd, ht, q⟩ := h
  refine ⟨_, pss_one (ps_ret (pe_callH (k := 1) (RR := fun σ vs H1 Q1 => ∃ (f1 c1 f2 c2 : Addr), vs = [v, .ref f1, .ref f2] ∧ slotAt σ 1 = some (.ref d) ∧
      H1 f1 = some (LamO f1 (lamF tq lams.1.1 lams.1.2.2 (cloFrom (envOfC "filled" (defScope s_filled) s.heap.objs.size f (.ref c)).cells lams.1.2.2.names []) c1) lams.1.2.1) ∧ H1 c1 = some (CodeO c1 tq) ∧
      H1 f2 = some (LamO f2 (lamF tq lams.2.1 lams.2.2.2 (cloFrom (envOfC "filled" (defScope s_filled) s.heap.objs.size f (.ref c)).cells lams.2.2.2.names []) c2) lams.2.2.1) ∧ H1 c2 = some (CodeO c2 tq) ∧
      Kp K H1 v k ∧ Held K H1 d m ∧ ∀ H' u, Same H1 H' → Kp K H' u (fillK m k) → Q1 u H') DF sc_folded hr rfl (pa_cons (pv 0) (pa_cons (pe_lamT TB rfl rfl fre1) (pa_cons (pe_lamT TB rfl rfl fre2) pa_nil)))
      (fun σ vs H1 Q1 z => by obtain ⟨f1, c1, f2, c2, rfl, _⟩ := z; rfl)
      (fun g cdv pins s1 σ H1 vs Q1 J hr1 z => ?_))), ?_⟩
  · obtain ⟨f1, c1, f2, c2, rfl, hsl, x1, x2, x3, x4, x5, x6, q1⟩ := z
    refine folded_body G CP hr1 (d := d) (m := m) (k := k) ⟨act_let (F := lamF tq lams.1.1 lams.1.2.2 _ c1) ⟨rfl, rfl⟩ ?_ x1 x2, act_cls (F := lamF tq lams.2.1 lams.2.2.2 _ c2) ⟨rfl, rfl⟩ ?_ x3 x4, x5, hn, x6⟩ q1
    · have C := cells_of (js := [1]) (fr := ["values"]) J (Caps.made (scope := lams.1.2.2) J.ok fre1 (by decide +kernel) rfl)
      have e : ([1] : List Nat).map (slotAt σ) = [some (V.ref d)] := by rw [← hsl]; rfl
      rw [e] at C
      exact C
    · exact cells_of (js := []) (fr := []) J (Caps.made (scope := lams.2.2.2) J.ok fre2 (by decide +kernel) rfl)
  · refine ⟨v, rfl, ht, fun f1 c1 H1 e1 t1 n1 z1 y1 k1 => ⟨t1, fun f2 c2 H2 e2 t2 n2 z2 y2 k2 => ?_⟩⟩
    have e12 := e1.trans e2
    have n12 : ∀ b, H2 b = none → H b = none := fun b z => n1 b (n2 b z)
    refine ⟨f1, c1, f2, c2, rfl, rfl, e2 _ _ y1 lamO_ne, e2 _ _ k1 codeO_ne, y2, k2, hT.stay (ext_stay e12), hd.ext e12, fun H' u sm hu => ?_⟩
    exact q H' u (Gro.trans ⟨e12, n12⟩ (Gro.of sm)) (t2.ext sm) hu
end
end N

namespace N
open PySem PySem.Spec PyProof.Rows L2 StX LamX NdefX
section
variable {P : Program} {w : World} {K : PySem.W.Frag} {mg : Str → Option Value} {base : Heap}
theorem stay_frz {H : Hp} {d : Addr} {o : Obj} {kvs : List (Key × V)} (h : H d = some (.dK kvs)) : Stay K H (upd H d (.frz o (.dK kvs))) where
  tup := fun a xs q => by
    rcases q with (q | ⟨o', q⟩) | q
    · refine .inl (.inl ?_)
      rw [upd_ne (ne_of q h (by intro z; cases z))]
      exact q
    · refine .inl (.inr ⟨o', ?_⟩)
      rw [upd_ne (ne_of q h (by intro z; cases z))]
      exact q
    · exact .inr q
  ty := fun v t q => by
    have k : ∀ a o', H a = some o' → o' ≠ .dK kvs → (upd H d (.frz o (.dK kvs))) a = some o' := fun a o' e n => by
      rw [upd_ne (ne_of e h n)]
      exact e
    cases q with
    | base b =>
      cases b with
      | non => exact .base .non
      | bl x => exact .base (.bl x)
      | int i => exact .base (.int i)
      | str x => exact .base (.str x)
      | flt x => exact .base (.flt x)
      | lst e => exact .base (.lst (k _ _ e (by intro z; cases z)))
      | frz e => exact .base (.frz (k _ _ e (by intro z; cases z)))
      | tup e => exact .base (.tup (k _ _ e (by intro z; cases z)))
      | @dK a kvs' e =>
        by_cases ea : a = d
        · subst ea
          exact .fDict upd_same
        · exact .base (.dK (by rw [upd_ne ea]; exact e))
      | dT e => exact .base (.dT (k _ _ e (by intro z; cases z)))
      | ins e cl ha hn htk hm => exact .base (.ins (k _ _ e (by intro z; cases z)) cl ha hn htk hm)
    | byt b => exact .byt b
    | set e => exact .set (k _ _ e (by intro z; cases z))
    | kList e c => exact .kList e c
    | kTuple e c => exact .kTuple e c
    | kDict e c => exact .kDict e c
    | fTuple e => exact .fTuple (k _ _ e (by intro z; cases z))
    | fDict e => exact .fDict (k _ _ e (by intro z; cases z))
theorem let_len9 {x : Str} (h : isLet x = true) : x.length ≤ 100000 := by
  unfold isLet at h
  simp only [Bool.and_eq_true, decide_eq_true_eq] at h
  omega
theorem unfrz {H H' : Hp} {d : Addr} {o : Obj} {u : HO} (h : H d = some u) (sm : Same (upd H d (.frz o u)) H') : Same H (upd H' d u) := fun b x e => by
  by_cases hb : b = d
  · subst hb
    rw [h] at e
    cases e
    exact upd_same
  · rw [upd_ne hb]
    exact sm b x (by rw [upd_ne hb]; exact e)
def MapOk (m : Map) : Prop := ∀ p ∈ m, isLet p.1 = true ∧ p.2.ok ∧ p.2.nds ≤ 33000
theorem Paired.at {α β : Type} {F : α → β → Prop} : ∀ {l : List α} {r : List β} {i : Nat} {x : α}, Paired F l r → l[i]? = some x → ∃ y, r[i]? = some y ∧ F x y
  | _, _, i, x, .nil, h => by simp at h
  | _, _, 0, x, .cons h _, e => by
    simp at e
    subst e
    exact ⟨_, rfl, h⟩
  | _, _, i + 1, x, .cons _ t, e => by
    obtain ⟨y, h1, h2⟩ := Paired.at (i := i) (x := x) t (by simpa using e)
    exact ⟨y, by simpa using h1, h2⟩
def spVals (K : PySem.W.Frag) : Sp := fun vs H Q _ => ∃ (d : Addr) (m : Map), vs = [.ref d] ∧ Held K H d m ∧ MapOk m ∧ m.length ≤ 1000 ∧ ∀ H', Same H H' → Q (.bl true) H'
theorem ok_are_values (G : Glo mg) (CL : Cal P w K mg base 1 "is_letter" ["thing"] (spTest K Tg.isL)) (CT : Cal P w K mg base 3 "is_type" ["thing"] (spAsk K isT)) (D : DefAt K mg "are_values" s_are_values ["thing"]) : Cal P w K mg base 4 "are_values" ["thing"] (spVals K) := by
  refine D.cal sc_are_values (fun vs H Q E h => ?_) (fun f cdv A outer s H vs Q E hr h => ?_)
  · obtain ⟨d, m, rfl, _⟩ := h
    rfl
  obtain ⟨d, m, rfl, ⟨kvs, hd, hpr⟩, hmo, hml, q⟩ := h
  refine ⟨_, pss_cons (ps_if (pt_not (pt_val (pe_isi G.isinstance G.dict b_dict rfl rfl (pv 0)))) (pss_one (ps_ret pe_bl)) pss_nil)
    (pss_one (ps_ret (pe_callB (cr_all rfl) (by rfl) G.all (by decide +kernel) (pa_cons (pe_lock (pe_lc (own := [("letter", 1), ("kind", 2)]) (g := gTup K 2 (gCons (gName 1) (gCons (gName 2) gNil))) rfl sc_are_values.nd (pi_items (pv 0)) (blkOk_by (N := nm_are_values) (sc := defScope s_are_values) (own := [("letter", 1), ("kind", 2)]) (by decide +kernel))
      (fun _ _ _ _ _ => pg_tup (by rfl) (pgs_cons (pg_name (i := 1) sc_are_values.nd rfl (Or.inl rfl)) (pgs_cons (pg_name (i := 2) sc_are_values.nd rfl (Or.inl rfl)) pgs_nil))) (fun _ _ _ _ _ => pts_nil)
      (fun _ _ _ _ _ => pe_and (pc CL (hr.mono (by decide)) rfl (pa_cons (pv 1) pa_nil)) (pe_one (pc CT hr rfl (pa_cons (pv 2) pa_nil)))))) pa_nil)))), ?_⟩
  refine ⟨_, rfl, isi_q (b := true) (.base (.dK hd)) (kit_ty (by decide +kernel)) ⟨_, rfl, ?_⟩⟩
  refine ⟨d, .dK kvs, hd, trivial, fun od => ?_⟩
  refine ⟨_, rfl, d, od, kvs, rfl, upd_same, fun D hD => ?_⟩
  have sH : Same (upd H d (.frz od (.dK kvs))) (upd (upd H d (.frz od (.dK kvs))) D (.lst [])) := same_new hD _
  have hkl : kvs.length = m.length := Paired.length hpr
  refine lc_it (walk_items (d := d) (o := od) (kvs := kvs)) (fun i H' => ∃ acc, Same (upd H d (.frz od (.dK kvs))) H' ∧ H' D = some (.lst acc) ∧ acc = List.replicate i (V.bl true)) ⟨[], sH, upd_same, rfl⟩ (fun i H' _ ⟨acc, sm, _⟩ => sm _ _ upd_same) (fun i x H' H2 hi ⟨acc, sm, hacc, eacc⟩ hy => ?_) (fun H' ⟨acc, sm, hacc, eacc⟩ => ?_)
  · obtain ⟨T, x, y, rfl, hT, rfl, h1, h2⟩ := hy
    obtain ⟨⟨key, v⟩, hkv⟩ : ∃ p, kvs[i]? = some p := ⟨_, List.getElem?_eq_getElem hi⟩
    obtain ⟨⟨c, k⟩, hm1, hm2, hm3⟩ := Paired.at hpr hkv
    replace h1 : (kvs[i]?.map fun kv => kV kv.1) = some x := h1
    replace h2 : (kvs[i]?.map Prod.snd) = some y := h2
    rw [hkv] at h1 h2
    have e1 : x = .str c := by
      have hm2' : key = Sum.inr c := hm2
      rw [hm2'] at h1
      exact (Option.some.inj h1).symm
    have e2 : y = v := (Option.some.inj h2).symm
    subst e1 e2
    obtain ⟨o1, o2, o3⟩ := hmo _ (List.mem_of_getElem? hm1)
    have hDT : D ≠ T := ne_of_none hacc hT
    have st : Stay K H (upd H' T (.tup [.str c, y])) := (stay_frz hd).trans ((stay_same sm).trans (stay_new hT _))
    have hnd := Kd.nodes_tg k
    have o3' : k.nds ≤ 33000 := o3
    refine ⟨T, _, rfl, .inl (.inl upd_same), rfl, .str c, [y], rfl, y, [], rfl, rfl, rfl, ?_⟩
    refine ⟨.str c, rfl, .str c, .str c, rfl, .str c (let_len9 o1), _, rfl, iteE o1 ?_⟩
    refine ⟨y, rfl, y, k.tg, rfl, hm3.stay st, by omega, fun H3 sm3 => ?_⟩
    rw [Kd.isT_tg o2]
    refine ⟨acc, sm3 _ _ (by rw [upd_ne hDT]; exact hacc), ?_, acc ++ [.bl true], same_mut (sm.trans ((same_new hT _).trans sm3)) hD, upd_same, ?_⟩
    · rw [eacc, List.length_replicate]
      exact Nat.lt_of_le_of_lt (show i ≤ 100000 by omega) (by decide)
    · rw [eacc, ← List.replicate_succ']
  · refine ⟨sm _ _ upd_same, ?_⟩
    have nDd : D ≠ d := fun e => by
      subst e
      rw [upd_same] at hD
      cases hD
    refine ⟨D, List.replicate kvs.length true, rfl, SqL.of (by rw [upd_ne nDd, hacc, eacc, List.map_replicate]), ?_⟩
    have e : (List.replicate kvs.length true).all id = true := by simp
    rw [e]
    exact q _ (unfrz hd sm)
def spFillT (K : PySem.W.Frag) (Pt : Addr) : Sp := fun vs H Q _ => ∃ (v : V) (d : Addr) (k : Kd) (m : Map), vs = [v, .ref d] ∧ Kp K H v k ∧ k.ok ∧ k.nds ≤ 33000 ∧ Held K H d m ∧ MapOk m ∧ m.length ≤ 1000 ∧ TabS H Pt tq ∧ ∀ H' u, Gro H H' → TabS H' Pt tq → Kp K H' u (fillK m k) → Q u H'
theorem ok_fillT {C Pt : Addr} (CK : Cal P w K mg base 4 "check_type" ["thing"] (spCheck K C)) (CV : Cal P w K mg base 4 "are_values" ["thing"] (spVals K)) (CF : Cal P w K mg base 3 "filled" ["kind", "values"] (spFilledT K Pt)) (D : DefAt K mg "fill" s_fill ["kind", "values"]) : Cal P w K mg base 5 "fill" ["kind", "values"] (spFillT K Pt) := by
  refine D.cal sc_fill (fun vs H Q E h => ?_) (fun f cdv A outer s H vs Q E hr h => ?_)
  · obtain ⟨v, d, k, m, rfl, _⟩ := h
    rfl
  obtain ⟨v, d, k, m, rfl, hT, hok, hn, hd, hm, hml, ht, q⟩ := h
  refine ⟨_, pss_cons (ps_expr (pcE (takes_of rfl rfl rfl rfl) CK hr rfl (pa_cons (pv 0) pa_nil)))
    (pss_cons (ps_if (pt_not (pt_val (pc CV hr rfl (pa_cons (pv 1) pa_nil)))) (pss_one ps_never) pss_nil)
    (pss_one (ps_ret (pc CF (hr.mono (by decide)) rfl (pa_cons (pv 0) (pa_cons (pv 1) pa_nil)))))), ?_⟩
  have hnd := Kd.nodes_tg k
  refine ⟨v, rfl, v, k.tg, rfl, hT, by omega, fun _ H1 sm1 => ?_, fun z => by rw [Kd.isT_tg hok] at z; cases z⟩
  refine ⟨_, rfl, d, m, rfl, hd.stay sm1, hm, hml, fun H2 sm2 => ⟨_, rfl, ?_⟩⟩
  exact ⟨v, rfl, _, rfl, v, d, k, m, rfl, hT.stay (stay_same (sm1.trans sm2)), by omega, hd.stay (sm1.trans sm2), ht.ext (sm1.trans sm2), fun H3 u e3 t3 hu => q H3 u ((Gro.of (sm1.trans sm2)).trans e3) t3 hu⟩
end
end N

namespace N
open PySem PySem.Spec PyProof.Rows L2
section
variable {P : Program} {w : World} {K : PySem.W.Frag} {mg : Str → Option Value} {base : Heap}
def spCls (K : PySem.W.Frag) : Sp := fun vs H Q _ => ∃ (a : Addr) (xs : List V) (ks : List Kd), vs = [.ref a] ∧ SqL K H a xs ∧ Kps K H xs ks ∧ xs.length ≤ 100000 ∧
  ∀ p H' ys, Same H H' → H p = none → H' p = some (.lst ys) → Kps K H' ys (ks.filter Kd.isC) → Q (.ref p) H'
theorem ok_class_types (G : Glo mg) (D : DefAt K mg "class_types" s_class_types ["kinds"]) : Cal P w K mg base 1 "class_types" ["kinds"] (spCls K) := by
  refine D.cal sc_class_types (fun vs H Q E h => ?_) (fun f cdv A outer s H vs Q E hr h => ?_)
  · obtain ⟨a, xs, ks, rfl, _⟩ := h
    rfl
  obtain ⟨a, xs, ks, rfl, hS, hk, hl, q⟩ := h
  refine ⟨_, pss_one (ps_ret (pe_lc (own := [("kind", 1)]) (g := gName 1) (tt := tB (fun σ H Q => tVar 1 σ H fun v H1 => rIsi K [v, .ty "tuple"] H1 Q)) rfl sc_class_types.nd (pi_list (pv 0)) (blkOk_by (N := nm_class_types) (sc := defScope s_class_types) (own := [("kind", 1)]) (by decide +kernel))
    (fun _ _ _ _ _ => pg_name (i := 1) sc_class_types.nd rfl (Or.inl rfl)) (fun _ _ _ _ _ => pts_one (pt_val (pe_isi G.isinstance G.tuple b_tuple rfl rfl (pv 1)))) (fun _ _ _ _ _ => pv 1))), ?_⟩
  refine ⟨_, rfl, a, rfl, ⟨xs, hS⟩, fun D hD => ?_⟩
  refine lc_list (K := K) (a := a) (xs := xs) (fun i H' => ∃ acc, Same H H' ∧ H' D = some (.lst acc) ∧ Kps K H' acc ((ks.take i).filter Kd.isC)) ⟨[], same_new hD _, upd_same, .nil⟩ (fun i H' _ ⟨acc, sm, _⟩ => sm.seq hS) (fun i x H' hx ⟨acc, sm, hacc, hk'⟩ => ?_) (fun H1 ⟨acc, sm, hacc, hk'⟩ => ?_)
  · obtain ⟨k, hk1, hk2⟩ := Kps.at hk hx
    have hx2 := hk2.stay (stay_same sm)
    have hle : acc.length ≤ 100000 := by
      have h1 := Kps.length hk'
      have h2 := Kps.length hk
      have h3 : ((ks.take i).filter Kd.isC).length ≤ ks.length := Nat.le_trans (List.length_filter_le ..) (by rw [List.length_take]; omega)
      omega
    refine ⟨rfl, x, rfl, isi_tup hx2 ⟨_, rfl, ?_⟩⟩
    rw [Kd.isTu_tg, take_snoc hk1, List.filter_append]
    cases hc : k.isC with
    | true =>
      refine iteT ⟨x, rfl, acc, hacc, Nat.lt_of_le_of_lt hle (by decide), acc ++ [x], same_mut sm hD, upd_same, ?_⟩
      have e : [k].filter Kd.isC = [k] := by simp [hc]
      rw [e]
      exact Kps.app (ThAll.stay (stay_lst hacc) hk') (.cons (hx2.stay (stay_lst hacc)) .nil)
    | false =>
      have e : [k].filter Kd.isC = [] := by simp [hc]
      rw [e, List.append_nil]
      exact iteF ⟨acc, sm, hacc, hk'⟩
  · rw [Kps.length hk, List.take_length] at hk'
    exact q D H1 acc sm hD hacc hk'
/-- a number of a kind -/
def spNum (K : PySem.W.Frag) (g : Kd → Nat) : Sp := fun vs H Q _ => ∃ (v : V) (k : Kd), vs = [v] ∧ Kp K H v k ∧ k.nds ≤ 100000 ∧ ∀ H', Same H H' → Q (.int (g k : Nat)) H'
theorem ok_size_of (G : Glo mg) (CP : Cal P w K mg base 1 "parts" ["kind"] (spParts K)) (CC : Cal P w K mg base 1 "class_types" ["kinds"] (spCls K)) (D : DefAt K mg "size_of" s_size_of ["kind"]) : Cal P w K mg base 2 "size_of" ["kind"] (spNum K Kd.size) := by
  refine D.cal sc_size_of (fun vs H Q E h => ?_) (fun f cdv A outer s H vs Q E hr h => ?_)
  · obtain ⟨v, k, rfl, _⟩ := h
    rfl
  obtain ⟨v, k, rfl, hT, hn, q⟩ := h
  refine ⟨_, pss_one (ps_ret (pe_callB call_len_seq (by rfl) G.len PySem.boot_len (pa_cons (pc CC hr rfl (pa_cons (pc CP hr rfl (pa_cons (pv 0) pa_nil)) pa_nil)) pa_nil))), ?_⟩
  refine ⟨v, rfl, v, k, rfl, hT, hn, fun p H1 xs sm hp hx hk => ?_⟩
  have hl := Kps.length hk
  rw [Kd.nds_parts] at hl
  refine ⟨p, xs, k.parts, rfl, SqL.of hx, hk, by omega, fun p2 H2 ys sm2 hp2 hy hk2 => ?_⟩
  refine ⟨p2, ys, rfl, .inl (SqL.of hy), ?_⟩
  have e : ((ys.length : Nat) : Int) = (k.size : Nat) := by rw [Kps.length hk2, ← Kd.size_parts]
  rw [e]
  exact q H2 (sm.trans sm2)
/-- .. of any thing: a kind's, or NoType -/
def spNumX (K : PySem.W.Frag) (C : Addr) (g : Kd → Nat) : Sp := fun vs H Q E => ∃ (v : V) (t : Tg), vs = [v] ∧ Th K H v t ∧ t.nodes ≤ 100000 ∧ (∀ k : Kd, t = k.tg → isT t = true → ∀ H', Same H H' → Q (.int (g k : Nat)) H') ∧ (isT t = false → ∀ H', Same H H' → E (.ref C) none H')
theorem ok_size {C : Addr} (CK : Cal P w K mg base 4 "check_type" ["thing"] (spCheck K C)) (CS : Cal P w K mg base 2 "size_of" ["kind"] (spNum K Kd.size)) (D : DefAt K mg "size" s_size ["kind"]) : Cal P w K mg base 5 "size" ["kind"] (spNumX K C Kd.size) := by
  refine D.cal sc_size (fun vs H Q E h => ?_) (fun f cdv A outer s H vs Q E hr h => ?_)
  · obtain ⟨v, t, rfl, _⟩ := h
    rfl
  obtain ⟨v, t, rfl, hT, hn, q1, q2⟩ := h
  refine ⟨_, pss_cons (ps_expr (pcE (takes_of rfl rfl rfl rfl) CK hr rfl (pa_cons (pv 0) pa_nil))) (pss_one (ps_ret (pc CS (hr.mono (by decide)) rfl (pa_cons (pv 0) pa_nil)))), ?_⟩
  refine ⟨v, rfl, v, t, rfl, hT, hn, fun ht H1 sm => ?_, fun ht H1 sm => q2 ht H1 sm⟩
  obtain ⟨k, hk, rfl⟩ := of_isT ht
  have := Kd.nds_le k
  exact ⟨v, rfl, v, k, rfl, hT.stay (stay_same sm), by omega, fun H2 sm2 => q1 k rfl ht H2 (sm.trans sm2)⟩
end
end N

namespace N
open PySem PySem.Spec PyProof.Rows L2
namespace Kd
def maxd : List Kd → Nat
  | [] => 0
  | k :: ks => max k.depth (maxd ks)
theorem maxd_app : ∀ a b : List Kd, maxd (a ++ b) = max (maxd a) (maxd b)
  | [], b => by simp [maxd]
  | k :: a, b => by
    rw [List.cons_append]
    simp only [maxd]
    rw [maxd_app a b]
    omega
theorem depth_L {k : Kd} (h : k.isC = false) : k.depth = 0 := by cases k <;> first | rfl | cases h
theorem depth_C {k : Kd} (h : k.isC = true) : k.depth = 1 + maxd k.args := by
  cases k <;> simp [depth, args, maxd] <;> cases h
theorem maxd_filter : ∀ ks : List Kd, maxd (ks.filter isC) = maxd ks
  | [] => rfl
  | k :: ks => by
    have ih := maxd_filter ks
    cases h : k.isC with
    | true =>
      rw [List.filter_cons_of_pos (by rw [h])]
      simp only [maxd]
      omega
    | false =>
      rw [List.filter_cons_of_neg (by rw [h]; exact Bool.false_ne_true)]
      simp only [maxd]
      rw [depth_L h]
      omega
theorem maxd_step : ∀ {ks : List Kd}, (∀ k ∈ ks, k.isC = true) → ks ≠ [] → maxd ks = 1 + maxd (ks.flatMap args)
  | [], _, h => absurd rfl h
  | [k], h, _ => by
    simp only [maxd, List.flatMap_cons, List.flatMap_nil, List.append_nil]
    rw [depth_C (h k List.mem_cons_self)]
    omega
  | k :: j :: ks, h, _ => by
    have ih := maxd_step (ks := j :: ks) (fun z hz => h z (List.mem_cons_of_mem _ hz)) (by simp)
    rw [List.flatMap_cons, maxd_app]
    show max k.depth (maxd (j :: ks)) = _
    rw [depth_C (h k List.mem_cons_self), ih]
    omega
theorem sum_flat : ∀ ks : List Kd, ((ks.flatMap args).map nds).sum + ks.length ≤ (ks.map nds).sum
  | [] => by simp
  | k :: ks => by
    have ih := sum_flat ks
    have h := args_nds k
    rw [List.flatMap_cons, List.map_append, List.sum_append]
    simp only [List.map_cons, List.sum_cons, List.length_cons]
    omega
theorem sum_filter : ∀ ks : List Kd, ((ks.filter isC).map nds).sum ≤ (ks.map nds).sum
  | [] => by simp
  | k :: ks => by
    have ih := sum_filter ks
    cases h : k.isC with
    | true =>
      rw [List.filter_cons_of_pos (by rw [h])]
      simp only [List.map_cons, List.sum_cons]
      omega
    | false =>
      rw [List.filter_cons_of_neg (by rw [h]; exact Bool.false_ne_true)]
      simp only [List.map_cons, List.sum_cons]
      omega
end Kd
section
variable {P : Program} {w : World} {K : PySem.W.Frag} {mg : Str → Option Value} {base : Heap}
theorem cc_filter (ks : List Kd) : ∀ k ∈ ks.filter Kd.isC, k.isC = true := fun k h => (List.mem_filter.mp h).2
theorem ok_depth_of (CC : Cal P w K mg base 1 "class_types" ["kinds"] (spCls K)) (D : DefAt K mg "depth_of" s_depth_of ["kind"]) : Cal P w K mg base 2 "depth_of" ["kind"] (spNum K Kd.depth) := by
  refine D.cal sc_depth_of (fun vs H Q E h => ?_) (fun f cdv A outer s H vs Q E hr h => ?_)
  · obtain ⟨v, k, rfl, _⟩ := h
    rfl
  obtain ⟨v, k, rfl, hT, hn, q⟩ := h
  refine ⟨_, pss_cons (ps_set (i := 1) sc_depth_of.nd rfl (Or.inl rfl) pe_int) (pss_cons (ps_set (i := 2) sc_depth_of.nd rfl (Or.inl rfl) (pc CC hr rfl (pa_cons (pe_lst (pa_cons (pv 0) pa_nil)) pa_nil)))
    (pss_cons (ps_while (passes_of rfl) (pt_truth (pv 2) (by intro _; rfl))
      (pss_cons (ps_aug (i := 1) sc_depth_of.nd rfl (.inl rfl) pe_int ip_add)
        (pss_one (ps_set (i := 2) sc_depth_of.nd rfl (Or.inl rfl) (pc CC hr rfl (pa_cons
          (pe_lc2 (own := [("part", 3), ("argument", 4)]) (vs1 := [4]) (g := gName 3) (tt := tYes) (wi1 := iTup K (tSl (rSlT K) (tVar 3) (tPart (tC (.int 1))) tNoPart)) (g1 := gName 4) (tt1 := tYes) rfl sc_depth_of.nd (pi_list (pv 2))
            (blkOk_by (N := nm_depth_of) (sc := defScope s_depth_of) (own := [("part", 3), ("argument", 4)]) (by decide +kernel)) (by decide) (fun _ _ _ _ _ => pg_name (i := 3) sc_depth_of.nd rfl (Or.inl rfl)) (fun _ _ _ _ _ => pts_nil)
            (fun _ _ _ _ _ => pi_tup (pe_slice sl_tup (pv 3) (po_some pe_int) po_none)) (fun _ _ _ _ _ => pg_name (i := 4) sc_depth_of.nd rfl (Or.inl rfl)) (fun _ _ _ _ _ => pts_nil) (fun _ _ _ _ _ => pv 4)) pa_nil))))))
    (pss_one (ps_ret (pv 1))))), ?_⟩
  refine ⟨v, rfl, by show 1 ≤ sizeLine; decide, fun l0 hl0 => ?_⟩
  have hv0 := hT.stay (stay_new (K := K) hl0 (.lst [v]))
  refine ⟨l0, [v], [k], rfl, SqL.of upd_same, .cons hv0 .nil, by simp, fun l H1 xs sm1 hl hx hk => ?_⟩
  have sm0 : Same H H1 := (same_new hl0 _).trans sm1
  have hs0 := Kd.sum_filter [k]
  have hd0 := Kd.maxd_filter [k]
  simp only [List.map_cons, List.map_nil, List.sum_cons, List.sum_nil, Kd.maxd] at hs0 hd0
  refine ⟨fun m σ H' => ∃ (c : Nat) (l : Addr) (xs : List V) (ks : List Kd) (y3 y4 : Option V), m = Kd.maxd ks ∧ σ = [some v, some (.int (c : Nat)), some (.ref l), y3, y4] ∧ Same H H' ∧ H' l = some (.lst xs) ∧ Kps K H' xs ks ∧ (∀ k ∈ ks, k.isC = true) ∧ (ks.map Kd.nds).sum ≤ 100000 ∧ c + Kd.maxd ks = k.depth,
    ⟨_, 0, l, xs, _, _, _, rfl, rfl, sm0, hx, hk, cc_filter _, by omega, by omega⟩, fun m σ H' hW => ?_⟩
  obtain ⟨c, l, xs, ks, y3, y4, rfl, rfl, sm, hx, hk, hcc, hsum, hd⟩ := hW
  refine ⟨_, rfl, _, .inl ⟨xs, SqL.of hx, rfl⟩, ?_⟩
  have hlen := Kps.length hk
  by_cases hne : ks = []
  · subst hne
    have e0 : xs = [] := List.length_eq_zero_iff.mp hlen
    subst e0
    refine iteF ⟨_, rfl, ?_⟩
    have e : c = k.depth := by simpa [Kd.maxd] using hd
    rw [e]
    exact q H' sm
  have ek : (!xs.isEmpty) = true := by
    cases xs with
    | nil => exact absurd (List.length_eq_zero_iff.mp hlen.symm) hne
    | cons a b => rfl
  refine iteE ek ?_
  have hstep := Kd.maxd_step hcc hne
  have hsf := Kd.sum_flat ks
  have hgl := sum_ge_len ks
  refine ⟨fun σ2 H2 => ∃ (c : Nat) (l : Addr) (xs : List V) (ks2 : List Kd) (y3 y4 : Option V), Kd.maxd ks2 < Kd.maxd ks ∧ σ2 = [some v, some (.int (c : Nat)), some (.ref l), y3, y4] ∧ Same H H2 ∧ H2 l = some (.lst xs) ∧ Kps K H2 xs ks2 ∧ (∀ k ∈ ks2, k.isC = true) ∧ (ks2.map Kd.nds).sum ≤ 100000 ∧ c + Kd.maxd ks2 = k.depth,
    fun σ2 H2 ⟨c, l, xs, ks2, y3, y4, a, b, d, e, f, g, h, i⟩ => ⟨_, a, c, l, xs, ks2, y3, y4, rfl, b, d, e, f, g, h, i⟩, ?_⟩
  refine ⟨_, rfl, _, _, rfl, rfl, ?_⟩
  refine ⟨_, rfl, l, rfl, ⟨xs, SqL.of hx⟩, fun D hD => ?_⟩
  have nlD : l ≠ D := ne_of_none hx hD
  refine ⟨fun i m H2 => m = xs.length - i ∧ i ≤ xs.length ∧ ∃ acc, Same H' H2 ∧ H2 D = some (.lst acc) ∧ Kps K H2 acc ((ks.take i).flatMap Kd.args), ⟨_, rfl, Nat.zero_le _, [], same_new hD _, upd_same, .nil⟩, fun i m H2 ⟨em, hi, acc, sm2, hacc, hka⟩ => ?_⟩
  by_cases hlt : i < xs.length
  · have g : xs[i]? = some xs[i] := List.getElem?_eq_getElem hlt
    have hS2 : SqL K H2 l xs := SqL.of (sm2 _ _ hx)
    obtain ⟨k', hk1, hk2⟩ := Kps.at hk g
    have hk3 := hk2.stay (stay_same sm2)
    obtain ⟨a, zs, ea, hq, hnl, hz⟩ := kp_C hk3 (hcc k' (List.mem_of_getElem? hk1))
    have hacl : ((ks.take i).flatMap Kd.args).length ≤ 100000 := by
      have h1 := sum_ge_len ((ks.take i).flatMap Kd.args)
      have h2 := Kd.sum_flat (ks.take i)
      have h3 : ((ks.take i).map Kd.nds).sum ≤ (ks.map Kd.nds).sum := by
        have := congrArg (fun l => (l.map Kd.nds).sum) (List.take_append_drop i ks)
        simp only [List.map_append, List.sum_append] at this
        omega
      omega
    have hzl := Kps.length hz
    have hal := Kd.args_len k'
    refine .inr ⟨⟨xs, xs[i], hS2, g⟩, fun H3 => ∃ acc, Same H' H3 ∧ H3 D = some (.lst acc) ∧ Kps K H3 acc ((ks.take (i + 1)).flatMap Kd.args), fun H3 hN => ⟨m - 1, by omega, by omega, by omega, hN⟩, fun x H3 hy => ?_⟩
    obtain ⟨rfl, fv⟩ := hy
    have ex : x = xs[i] := Option.some.inj ((fv _ hS2).symm.trans g)
    subst ex
    rw [ea]
    refine ⟨rfl, _, rfl, 1, rfl, a, _, rfl, hq, cut_tail_ne _ (by simp), fun p hp => ?_⟩
    rw [cut_tail]
    have hDp : D ≠ p := ne_of_none hacc hp
    refine ⟨p, rfl, ⟨zs, .inl (.inl upd_same)⟩, ?_⟩
    have st1 : Stay K H3 (upd H3 p (.tup zs)) := stay_new hp _
    refine ⟨fun j m H4 => m = zs.length - j ∧ j ≤ zs.length ∧ ∃ acc, Same H' H4 ∧ H4 p = some (.tup zs) ∧ H4 D = some (.lst acc) ∧ Kps K H4 acc ((ks.take i).flatMap Kd.args ++ k'.args.take j) ∧ Kps K H4 zs k'.args,
      ⟨_, rfl, Nat.zero_le _, acc, sm2.trans (same_new hp _), upd_same, by rw [upd_ne hDp]; exact hacc, by simpa using ThAll.stay st1 hka, ThAll.stay st1 hz⟩, fun j m2 H4 ⟨em2, hj, acc4, sm4, hp4, hacc4, hk4, hz4⟩ => ?_⟩
    have hS4 : SqT K H4 p zs := .inl (.inl hp4)
    have npD : p ≠ D := hDp.symm
    by_cases hjt : j < zs.length
    · have g4 : zs[j]? = some zs[j] := List.getElem?_eq_getElem hjt
      obtain ⟨k5, hk51, hk52⟩ := Kps.at hz4 g4
      refine .inr ⟨⟨zs, zs[j], hS4, g4⟩, fun H5 => ∃ acc, Same H' H5 ∧ H5 p = some (.tup zs) ∧ H5 D = some (.lst acc) ∧ Kps K H5 acc ((ks.take i).flatMap Kd.args ++ k'.args.take (j + 1)) ∧ Kps K H5 zs k'.args, fun H5 hN => ⟨m2 - 1, by omega, by omega, by omega, hN⟩, fun x H5 hy => ?_⟩
      obtain ⟨rfl, fv⟩ := hy
      have ex : x = zs[j] := Option.some.inj ((fv _ hS4).symm.trans g4)
      subst ex
      have hl4 := Kps.length hk4
      rw [List.length_append] at hl4
      have hlt2 : (k'.args.take j).length ≤ 2 := by rw [List.length_take]; omega
      refine ⟨rfl, _, rfl, acc4, hacc4, Nat.lt_of_le_of_lt (show acc4.length ≤ 100002 by omega) (by decide), acc4 ++ [zs[j]], same_mut sm4 hD, by rw [upd_ne npD]; exact hp4, upd_same, ?_, ThAll.stay (stay_lst hacc4) hz4⟩
      rw [take_snoc hk51, ← List.append_assoc]
      exact Kps.app (ThAll.stay (stay_lst hacc4) hk4) (.cons (hk52.stay (stay_lst hacc4)) .nil)
    · refine .inl ⟨⟨zs, hS4, by omega⟩, acc4, sm4, hacc4, ?_⟩
      rw [take_snoc hk1, List.flatMap_append]
      have e : k'.args.take j = k'.args := List.take_of_length_le (by omega)
      rw [e] at hk4
      simpa using hk4
  · refine .inl ⟨⟨xs, SqL.of (sm2 _ _ hx), by omega⟩, ?_⟩
    have e : ks.take i = ks := List.take_of_length_le (by omega)
    rw [e] at hka
    have hla := Kps.length hka
    have hlf := sum_ge_len (ks.flatMap Kd.args)
    refine ⟨D, acc, _, rfl, SqL.of hacc, hka, by omega, fun l2 H3 ys sm3 hl2 hy hk3 => ?_⟩
    have hmf := Kd.maxd_filter (ks.flatMap Kd.args)
    have hsf2 := Kd.sum_filter (ks.flatMap Kd.args)
    exact ⟨c + 1, l2, ys, _, _, _, by omega, rfl, sm.trans (sm2.trans sm3), hy, hk3, cc_filter _, by omega, by omega⟩
theorem ok_depth {C : Addr} (CK : Cal P w K mg base 4 "check_type" ["thing"] (spCheck K C)) (CS : Cal P w K mg base 2 "depth_of" ["kind"] (spNum K Kd.depth)) (D : DefAt K mg "depth" s_depth ["kind"]) : Cal P w K mg base 5 "depth" ["kind"] (spNumX K C Kd.depth) := by
  refine D.cal sc_depth (fun vs H Q E h => ?_) (fun f cdv A outer s H vs Q E hr h => ?_)
  · obtain ⟨v, t, rfl, _⟩ := h
    rfl
  obtain ⟨v, t, rfl, hT, hn, q1, q2⟩ := h
  refine ⟨_, pss_cons (ps_expr (pcE (takes_of rfl rfl rfl rfl) CK hr rfl (pa_cons (pv 0) pa_nil))) (pss_one (ps_ret (pc CS (hr.mono (by decide)) rfl (pa_cons (pv 0) pa_nil)))), ?_⟩
  refine ⟨v, rfl, v, t, rfl, hT, hn, fun ht H1 sm => ?_, fun ht H1 sm => q2 ht H1 sm⟩
  obtain ⟨k, hk, rfl⟩ := of_isT ht
  have := Kd.nds_le k
  exact ⟨v, rfl, v, k, rfl, hT.stay (stay_same sm), by omega, fun H2 sm2 => q1 k rfl ht H2 (sm.trans sm2)⟩
end
end N

namespace N
open PySem PySem.Spec PyProof.Rows L2 StX
/-! ### texts -/
def Kd.txt : Kd → List Nat
  | L c => c.cps.toList
  | C0 n => n.cps.toList
  | C1 n a => n.cps.toList ++ ([40] ++ (a.txt ++ [41]))
  | C2 n a b => n.cps.toList ++ ([40] ++ (a.txt ++ ([44, 32] ++ (b.txt ++ [41]))))
abbrev Itm := Str ⊕ Kd
def Itm.tg : Itm → Tg
  | .inl s => .str s
  | .inr k => k.tg
def Itm.txt : Itm → List Nat
  | .inl s => s.cps.toList
  | .inr k => k.txt
def Kd.wt : Kd → Nat
  | L _ => 1
  | C0 _ => 2
  | C1 _ a => 4 + a.wt
  | C2 _ a b => 6 + a.wt + b.wt
def Itm.wt : Itm → Nat
  | .inl _ => 1
  | .inr k => k.wt
def par0 : Str := "("
def par1 : Str := ", "
def par2 : Str := ")"
/-- what written makes of a class kind -/
def wrI : Kd → List Itm
  | .L c => [.inl c]
  | .C0 n => [.inl n]
  | .C1 n a => [.inl n, .inl par0, .inr a, .inl par2]
  | .C2 n a b => [.inl n, .inl par0, .inr a, .inl par1, .inr b, .inl par2]
theorem wrI_txt {k : Kd} (h : k.isC = true) : k.txt = (wrI k).flatMap Itm.txt := by
  have e0 : par0.cps.toList = [40] := by decide +kernel
  have e1 : par1.cps.toList = [44, 32] := by decide +kernel
  have e2 : par2.cps.toList = [41] := by decide +kernel
  cases k <;> first | (cases h; done) | simp [wrI, Kd.txt, Itm.txt, e0, e1, e2]
theorem wrI_wt {k : Kd} (h : k.isC = true) : ((wrI k).map Itm.wt).sum + 1 ≤ k.wt := by
  cases k with
  | L c => cases h
  | C0 n => exact Nat.le_refl _
  | C1 n a =>
    show 1 + (1 + (a.wt + (1 + 0))) + 1 ≤ 4 + a.wt
    omega
  | C2 n a b =>
    show 1 + (1 + (a.wt + (1 + (b.wt + (1 + 0))))) + 1 ≤ 6 + a.wt + b.wt
    omega
theorem wt_pos (k : Itm) : 1 ≤ k.wt := by
  cases k with
  | inl s => simp [Itm.wt]
  | inr k => cases k <;> simp [Itm.wt, Kd.wt] <;> omega
theorem wt_nds (k : Kd) : k.wt ≤ 6 * k.nds := by
  induction k with
  | L c => simp [Kd.wt, Kd.nds]
  | C0 n => simp [Kd.wt, Kd.nds]
  | C1 n a ih => simp only [Kd.wt, Kd.nds]; omega
  | C2 n a b ih1 ih2 => simp only [Kd.wt, Kd.nds]; omega
theorem txt_len {k : Kd} (h : k.ok) : k.txt.length ≤ 12 * k.nds := by
  have hn : ∀ n : Str, isNam n = true → n.cps.toList.length ≤ 8 := fun n h => by
    have := (isNam_iff.mp h).2.1
    unfold Str.length at this
    rw [Array.length_toList]
    exact this
  induction k with
  | L c =>
    obtain ⟨x, e, _⟩ := isLet_iff.mp (show isLet c = true from h)
    simp only [Kd.txt, Kd.nds, e, List.length_singleton]
    omega
  | C0 n =>
    have := hn n h
    simp only [Kd.txt, Kd.nds]
    omega
  | C1 n a ih =>
    have h1 := hn n h.1
    have h2 := ih h.2
    simp only [Kd.txt, Kd.nds, List.length_append, List.length_singleton]
    omega
  | C2 n a b ih1 ih2 =>
    have h1 := hn n h.1
    have h2 := ih1 h.2.1
    have h3 := ih2 h.2.2
    simp only [Kd.txt, Kd.nds, List.length_append, List.length_singleton, List.length_cons, List.length_nil]
    omega
theorem join_empty (ys : List Str) : (Txt.join "" ys).cps.toList = ys.flatMap fun y => y.cps.toList := by
  have h1 : ∀ ps : List (List Nat), TL.joinL [] ps = ps.flatten := fun ps => by
    induction ps with
    | nil => rfl
    | cons p r ih =>
      cases r with
      | nil => simp [TL.joinL]
      | cons q r => simp only [TL.joinL, List.nil_append, List.flatten_cons]; rw [ih]; simp
  have h2 : Txt.join "" ys = Str.join "" ys := StrLaws.glued_eq_join _ _
  rw [h2]
  have h3 := TL.tl_join "" ys
  rw [show TL.tl ("" : Str) = [] by decide +kernel, h1] at h3
  rw [show (Str.join "" ys).cps.toList = TL.tl (Str.join "" ys) from rfl, h3, List.flatMap_def]
theorem sum_len : ∀ ys : List Str, (ys.map (·.length)).sum = (ys.flatMap fun y => y.cps.toList).length
  | [] => rfl
  | y :: r => by
    rw [List.map_cons, List.sum_cons, List.flatMap_cons, List.length_append, sum_len r, Array.length_toList]
    rfl
section
variable {P : Program} {w : World} {K : PySem.W.Frag} {mg : Str → Option Value} {base : Heap}
abbrev Its (K : PySem.W.Frag) (H : Hp) (vs : List V) (is : List Itm) : Prop := ThAll K H vs (is.map Itm.tg)
theorem Its.snoc {H : Hp} {vs : List V} {is : List Itm} (h : Its K H vs is) (hn : is ≠ []) : ∃ v vs' k is', vs = vs' ++ [v] ∧ is = is' ++ [k] ∧ Th K H v (Itm.tg k) ∧ Its K H vs' is' := by
  obtain ⟨v, vs', t, ts', e1, e2, h1, h2⟩ := ThAll.snoc h (by simpa using hn)
  obtain ⟨is', k, rfl⟩ : ∃ is' k, is = is' ++ [k] := ⟨is.dropLast, is.getLast hn, (List.dropLast_concat_getLast hn).symm⟩
  rw [List.map_append, List.map_singleton] at e2
  obtain ⟨e3, e4⟩ := List.append_inj' e2 rfl
  cases e4
  exact ⟨v, vs', k, is', e1, rfl, h1, by rw [← e3] at h2; exact h2⟩
def spWritten (K : PySem.W.Frag) : Sp := fun vs H Q _ => ∃ (v : V) (k : Kd), vs = [v] ∧ Kp K H v k ∧ k.isC = true ∧ ∀ p H' xs, Same H H' → H p = none → H' p = some (.lst xs) → Its K H' xs (wrI k) → Q (.ref p) H'
/-- the row behind some arguments -/
def rowV (n : Str) : List V → List V
  | [] => [.str n]
  | [x] => [.str n, .str par0, x]
  | x :: y :: _ => [.str n, .str par0, x, .str par1, y]
theorem ok_written (G : Glo mg) (D : DefAt K mg "written" s_written ["kind"]) : Cal P w K mg base 1 "written" ["kind"] (spWritten K) := by
  refine D.cal sc_written (fun vs H Q E h => ?_) (fun f cdv A outer s H vs Q E hr h => ?_)
  · obtain ⟨v, k, rfl, _⟩ := h
    rfl
  obtain ⟨v, k, rfl, hT, hc, q⟩ := h
  refine ⟨_, pss_cons (ps_set (i := 1) sc_written.nd rfl (Or.inl rfl) (pe_lst (pa_cons (pe_ix ix_tup (pv 0) pe_int (fun _ _ => rfl)) pa_nil)))
    (pss_cons (ps_set (i := 2) sc_written.nd rfl (Or.inl rfl) pe_str)
    (pss_cons (ps_for (passes_of rfl) rfl (pi_tup (pe_slice sl_tup (pv 0) (po_some pe_int) po_none)) (pg_name (i := 3) sc_written.nd rfl (Or.inl rfl))
      (pss_cons (ps_expr (pe_bm PySem.F.plainAttrs_list PySem.F.slot_list_extend PySem.F.type_list_extend mt_extend (pv 1) (pa_cons (pe_lst (pa_cons (pv 2) (pa_cons (pv 3) pa_nil))) pa_nil)))
        (pss_one (ps_set (i := 2) sc_written.nd rfl (Or.inl rfl) pe_str))))
    (pss_cons (ps_if (pt_cmpR op_gt (pe_callB call_len_seq (by rfl) G.len PySem.boot_len (pa_cons (pv 0) pa_nil)) pe_int (nomark _))
      (pss_one (ps_expr (pe_bm PySem.F.plainAttrs_list PySem.F.slot_list_append PySem.F.type_list_append mt_append (pv 1) (pa_cons pe_str pa_nil)))) pss_nil)
    (pss_one (ps_ret (pv 1)))))), ?_⟩
  obtain ⟨a, zs, rfl, hq, hnl, hz⟩ := kp_C hT hc
  have hzl := Kps.length hz
  have hal := Kd.args_len k
  refine ⟨_, rfl, a, _, 0, _, rfl, rfl, hq, atI_nat (j := 0) rfl, by show 1 ≤ sizeLine; decide, fun r hr0 => ?_⟩
  have s1 := same_new hr0 (.lst [.str k.nm])
  refine ⟨_, rfl, 1, rfl, a, _, rfl, (stay_same s1).tup _ _ hq, cut_tail_ne _ (by simp), fun p hp => ?_⟩
  rw [cut_tail]
  have nrp : r ≠ p := ne_of_none upd_same hp
  have s2 := s1.trans (same_new hp (.tup zs))
  refine ⟨p, rfl, ⟨zs, .inl (.inl upd_same)⟩, for_tup (K := K) (a := p) (xs := zs) (fun i σ H' => ∃ y3, σ = [some (.ref a), some (.ref r), some (.str (if i = 0 then par0 else par1)), y3] ∧ Same H H' ∧ H' p = some (.tup zs) ∧ H' r = some (.lst (rowV k.nm (zs.take i))))
    ⟨none, rfl, s2, upd_same, by rw [upd_ne nrp]; exact upd_same⟩ (fun i σ H' _ ⟨_, _, _, h, _⟩ => .inl (.inl h)) (fun i x σ H' hx ⟨y3, eσ, sm, hp', hr'⟩ => ?_) (fun σ H' ⟨y3, eσ, sm, hp', hr'⟩ => ?_)⟩
  · subst eσ
    have hi : i < zs.length := (List.getElem?_eq_some_iff.mp hx).1
    have hrl : (rowV k.nm (zs.take i)).length ≤ 5 := by
      match zs.take i with
      | [] => simp [rowV]
      | [x] => simp [rowV]
      | x :: y :: _ => simp [rowV]
    refine ⟨_, rfl, .inl ⟨rfl, _, SqL.of hr'⟩, _, rfl, x, rfl, by show 2 ≤ sizeLine; decide, fun t ht => ?_⟩
    have nrt : r ≠ t := ne_of_none hr' ht
    have npt : p ≠ t := ne_of_none hp' ht
    refine ⟨r, t, _, _, rfl, rfl, by rw [upd_ne nrt]; exact hr', upd_same, sz5 (by show _ + 2 ≤ 100000; omega), ?_⟩
    have erow : rowV k.nm (zs.take i) ++ [.str (if i = 0 then par0 else par1), x] = rowV k.nm (zs.take (i + 1)) := by
      rw [take_snoc hx]
      match zs, i, hi, hx, hal, hzl with
      | _ :: _, 0, _, _, _, _ => rfl
      | [_, _], 1, _, _, _, _ => rfl
      | [_], i + 1, hi, _, _, _ => simp at hi
      | [_, _], i + 2, hi, _, _, _ => exact absurd hi (by simp only [List.length_cons, List.length_nil]; omega)
      | _ :: _ :: _ :: _, _, _, _, hal, hzl => simp only [List.length_cons] at hzl; omega
    refine ⟨some x, ?_, same_mut (sm.trans (same_new ht _)) hr0, ?_, ?_⟩
    · rw [if_neg (Nat.succ_ne_zero i)]
      rfl
    · rw [upd_ne nrp.symm, upd_ne npt]; exact hp'
    · rw [← erow]; exact upd_same
  · subst eσ
    rw [List.take_length] at hr'
    have sT : Stay K H H' := stay_same sm
    have hz' : Kps K H' zs k.args := ThAll.stay sT hz
    refine ⟨_, rfl, a, _, rfl, .inr (sT.tup _ _ hq), _, _, rfl, rfl, _, rfl, ?_⟩
    have e0 : par0.length ≤ 100000 := by decide +kernel
    have e1 : par1.length ≤ 100000 := by decide +kernel
    have e2 : par2.length ≤ 100000 := by decide +kernel
    refine ite2 (fun c => ?_) (fun c => ?_)
    · have c' : ((((.str k.nm : V) :: zs).length : Nat) : Int) > 1 := of_decide_eq_true c
      rw [List.length_cons] at c'
      have hrl : (rowV k.nm zs).length ≤ 5 := by
        match zs with
        | [] => simp [rowV]
        | [x] => simp [rowV]
        | x :: y :: _ => simp [rowV]
      refine ⟨_, rfl, .inl ⟨rfl, _, SqL.of hr'⟩, r, _, _, rfl, rfl, hr', Nat.lt_of_le_of_lt (show _ ≤ 100000 by omega) (by decide), ?_⟩
      refine ⟨_, rfl, q r _ _ (same_mut sm hr0) hr0 upd_same ?_⟩
      refine ThAll.stay (stay_lst hr') ?_
      cases k with
      | L c => cases hc
      | C0 n => have : zs.length = 0 := hzl; omega
      | C1 n b =>
        match zs, hz', hzl with
        | [x], hz', _ =>
          cases hz' with
          | cons h1 _ => exact .cons (.str _ hnl) (.cons (.str _ e0) (.cons h1 (.cons (.str _ e2) .nil)))
      | C2 n b d =>
        match zs, hz', hzl with
        | [x, y], hz', _ =>
          cases hz' with
          | cons h1 h2 =>
            cases h2 with
            | cons h3 _ => exact .cons (.str _ hnl) (.cons (.str _ e0) (.cons h1 (.cons (.str _ e1) (.cons h3 (.cons (.str _ e2) .nil)))))
    · have c' : ¬ ((((.str k.nm : V) :: zs).length : Nat) : Int) > 1 := of_decide_eq_false (Bool.eq_false_iff.mpr c)
      rw [List.length_cons] at c'
      have hz0 : zs = [] := List.length_eq_zero_iff.mp (by omega)
      subst hz0
      refine ⟨_, rfl, q r _ _ sm hr0 hr' ?_⟩
      cases k with
      | L c => cases hc
      | C0 n => exact .cons (.str _ hnl) .nil
      | C1 n b => cases hzl
      | C2 n b d => cases hzl
def spText (K : PySem.W.Frag) : Sp := fun vs H Q _ => ∃ (v : V) (k : Kd), vs = [v] ∧ Kp K H v k ∧ k.ok ∧ k.nds ≤ 10000 ∧ ∀ H' (t : Str), Same H H' → t.cps.toList = k.txt → Q (.str t) H'
theorem strs_of {H : Hp} {ys : List Str} : True := trivial
theorem ok_text_of (G : Glo mg) (CW : Cal P w K mg base 1 "written" ["kind"] (spWritten K)) (D : DefAt K mg "text_of" s_text_of ["kind"]) : Cal P w K mg base 2 "text_of" ["kind"] (spText K) := by
  refine D.cal sc_text_of (fun vs H Q E h => ?_) (fun f cdv A outer s H vs Q E hr h => ?_)
  · obtain ⟨v, k, rfl, _⟩ := h
    rfl
  obtain ⟨v, k, rfl, hT, hok, hn, q⟩ := h
  refine ⟨_, pss_cons (ps_set (i := 1) sc_text_of.nd rfl (Or.inl rfl) (pe_lst pa_nil)) (pss_cons (ps_set (i := 2) sc_text_of.nd rfl (Or.inl rfl) (pe_lst (pa_cons (pv 0) pa_nil)))
    (pss_cons (ps_while (passes_of rfl) (pt_truth (pv 2) (by intro _; rfl))
      (pss_cons (ps_set (i := 3) sc_text_of.nd rfl (Or.inl rfl) (pe_bm0 PySem.F.plainAttrs_list PySem.F.slot_list_pop PySem.F.type_list_pop mt_pop (pv 2)))
        (pss_one (ps_if (pt_val (pe_isi G.isinstance G.str b_str rfl rfl (pv 3)))
          (pss_one (ps_expr (pe_bm PySem.F.plainAttrs_list PySem.F.slot_list_append PySem.F.type_list_append mt_append (pv 1) (pa_cons (pv 3) pa_nil))))
          (pss_one (ps_expr (pe_bm PySem.F.plainAttrs_list PySem.F.slot_list_extend PySem.F.type_list_extend mt_extend (pv 2) (pa_cons (pe_revL (pc CW hr rfl (pa_cons (pv 3) pa_nil))) pa_nil))))))))
    (pss_one (ps_ret (pe_join pe_str (pv 1)))))), ?_⟩
  refine ⟨by show 0 ≤ sizeLine; decide, fun fo hfo => ?_⟩
  refine ⟨v, rfl, by show 1 ≤ sizeLine; decide, fun l hl => ?_⟩
  have nfl : fo ≠ l := ne_of_none upd_same hl
  have hl0 : H l = none := by rw [upd_ne nfl.symm] at hl; exact hl
  have s0 : Same H (upd (upd H fo (.lst [])) l (.lst [v])) := (same_new hfo _).trans (same_new hl _)
  have hwt := wt_nds k
  refine ⟨fun m σ H' => ∃ (ys : List Str) (xs : List V) (is : List Itm) (y : Option V), m = (is.map Itm.wt).sum ∧ σ = [some v, some (.ref fo), some (.ref l), y] ∧ Same H H' ∧ H' fo = some (.lst (ys.map V.str)) ∧ H' l = some (.lst xs) ∧ Its K H' xs is ∧ ys.length + (is.map Itm.wt).sum ≤ 60000 ∧ k.txt = (ys.flatMap fun y => y.cps.toList) ++ is.reverse.flatMap Itm.txt,
    ⟨_, [], [v], [.inr k], _, rfl, rfl, s0, by rw [upd_ne nfl]; exact upd_same, upd_same, .cons (hT.stay (stay_same s0)) .nil, by simp [Itm.wt]; omega, by simp [Itm.txt]⟩, fun m σ H' hW => ?_⟩
  obtain ⟨ys, xs, is, y, rfl, rfl, sm, hf, hx, hB, hle, he⟩ := hW
  refine ⟨_, rfl, _, .inl ⟨xs, SqL.of hx, rfl⟩, ?_⟩
  have hlen := hB.length
  rw [List.length_map] at hlen
  by_cases hne : is = []
  · subst hne
    have e0 : xs = [] := List.length_eq_zero_iff.mp hlen
    subst e0
    simp only [List.reverse_nil, List.flatMap_nil, List.append_nil] at he
    have htl := txt_len hok
    refine iteF ⟨⟨_, rfl⟩, _, rfl, _, fo, ys, rfl, rfl, .inl (SqL.of hf), ?_, ?_⟩
    · rw [sum_len, ← he]
      have : ("" : Str).length = 0 := by decide +kernel
      rw [this]
      omega
    · exact q H' _ sm (by rw [join_empty, he])
  obtain ⟨u, xs', k', is', e1, e2, hu, hr'⟩ := Its.snoc hB hne
  subst e1 e2
  refine iteE (snoc_ne _ _) ?_
  have en : ((is' ++ [k']).map Itm.wt).sum = (is'.map Itm.wt).sum + k'.wt := by rw [List.map_append, List.sum_append]; simp
  have hp1 := wt_pos k'
  have hge : is'.length ≤ (is'.map Itm.wt).sum := by
    clear hle en hr' he hlen hne hB hx hu
    induction is' with
    | nil => simp
    | cons i r ih =>
      have := wt_pos i
      simp only [List.length_cons, List.map_cons, List.sum_cons]
      omega
  have hl2 := hr'.length
  rw [List.length_map] at hl2
  refine ⟨fun σ2 H2 => ∃ (ys : List Str) (xs : List V) (is : List Itm) (y : Option V), (is.map Itm.wt).sum < ((is' ++ [k']).map Itm.wt).sum ∧ σ2 = [some v, some (.ref fo), some (.ref l), y] ∧ Same H H2 ∧ H2 fo = some (.lst (ys.map V.str)) ∧ H2 l = some (.lst xs) ∧ Its K H2 xs is ∧ ys.length + (is.map Itm.wt).sum ≤ 60000 ∧ k.txt = (ys.flatMap fun y => y.cps.toList) ++ is.reverse.flatMap Itm.txt,
    fun σ2 H2 ⟨ys, xs, is, y, a, b, c, d, e, f, g, h⟩ => ⟨_, a, ys, xs, is, y, rfl, b, c, d, e, f, g, h⟩, ?_⟩
  refine ⟨_, rfl, .inl ⟨rfl, _, SqL.of hx⟩, l, _, u, rfl, rfl, hx, snoc_last _ _, ?_⟩
  rw [List.dropLast_concat]
  have st : Stay K H' (upd H' l (.lst xs')) := stay_lst hx
  have hf1 : (upd H' l (.lst xs')) fo = some (.lst (ys.map V.str)) := by rw [upd_ne nfl]; exact hf
  have s2 : Same H (upd H' l (.lst xs')) := same_mut sm hl0
  have hu2 := hu.stay st
  have hr2 : Its K _ xs' is' := ThAll.stay st hr'
  rw [List.reverse_append, List.flatMap_append] at he
  simp only [List.reverse_singleton, List.flatMap_singleton] at he
  refine ⟨u, rfl, isi_str hu2 ⟨_, rfl, ?_⟩⟩
  have cases' : (∃ s : Str, k'.tg = .str s ∧ k'.txt = s.cps.toList) ∨ ∃ kk : Kd, k' = .inr kk ∧ kk.isC = true := by
    match k' with
    | .inl s => exact .inl ⟨s, rfl, rfl⟩
    | .inr (.L c) => exact .inl ⟨c, rfl, rfl⟩
    | .inr (.C0 n) => exact .inr ⟨_, rfl, rfl⟩
    | .inr (.C1 n a) => exact .inr ⟨_, rfl, rfl⟩
    | .inr (.C2 n a b) => exact .inr ⟨_, rfl, rfl⟩
  rcases cases' with ⟨c, et, ex⟩ | ⟨kk, rfl, hc⟩
  · rw [et] at hu2
    cases hu2 with
    | str _ hx0 =>
      rw [et]
      have hf2 : (upd H' l (.lst xs')) fo = some (.lst (ys.map V.str)) := hf1
      refine iteT ⟨_, rfl, .inl ⟨rfl, _, SqL.of hf2⟩, _, rfl, fo, _, _, rfl, rfl, hf2, ?_, ?_⟩
      · rw [List.length_map]
        exact Nat.lt_of_le_of_lt (show _ ≤ 100000 by omega) (by decide)
      refine ⟨ys ++ [c], xs', is', _, by omega, rfl, same_mut s2 hfo, by rw [List.map_append]; exact upd_same, by rw [upd_ne nfl.symm]; exact upd_same, ThAll.stay (stay_lst hf2) hr2, ?_, ?_⟩
      · rw [List.length_append, List.length_singleton]; omega
      · rw [he, List.flatMap_append, ex]
        simp
  · have eS : (Itm.tg (.inr kk)).isS = false := by
      show kk.tg.isS = false
      rw [Kd.isS_tg, hc]
      rfl
    rw [eS]
    have hl1 : (upd H' l (.lst xs')) l = some (.lst xs') := upd_same
    refine iteF ⟨_, rfl, .inl ⟨rfl, _, SqL.of hl1⟩, u, rfl, u, kk, rfl, hu2, hc, fun p1 H1 ws sm1 hp1' hw1 hI1 => ?_⟩
    refine ⟨p1, ws, rfl, SqL.of hw1, fun p2 hp2 => ?_⟩
    have s3 : Same (upd H' l (.lst xs')) (upd H1 p2 (.lst ws.reverse)) := sm1.trans (same_new hp2 _)
    have hw2 := wrI_wt hc
    have hwl := hI1.length
    rw [List.length_map] at hwl
    have hw6 : (wrI kk).length ≤ 6 := by cases kk <;> simp [wrI]
    have hwk : Itm.wt (.inr kk) = kk.wt := rfl
    refine ⟨l, p2, xs', ws.reverse, rfl, rfl, s3 _ _ hl1, upd_same, sz5 (by rw [List.length_reverse]; omega), ?_⟩
    have s4 : Stay K (upd H' l (.lst xs')) (upd H1 p2 (.lst ws.reverse)) := stay_same s3
    have s5 := s4.trans (stay_lst (K := K) (ys := xs' ++ ws.reverse) (s3 _ _ hl1))
    have hIr : Its K (upd (upd H1 p2 (.lst ws.reverse)) l (.lst (xs' ++ ws.reverse))) ws.reverse (wrI kk).reverse := by
      have := ThAll.rev (ThAll.stay ((stay_new hp2 (.lst ws.reverse)).trans (stay_lst (K := K) (ys := xs' ++ ws.reverse) (s3 _ _ hl1))) hI1)
      rw [← List.map_reverse] at this
      exact this
    have hall : Its K (upd (upd H1 p2 (.lst ws.reverse)) l (.lst (xs' ++ ws.reverse))) (xs' ++ ws.reverse) (is' ++ (wrI kk).reverse) := by
      have := ThAll.app (ThAll.stay s5 hr2) hIr
      rw [← List.map_append] at this
      exact this
    refine ⟨ys, xs' ++ ws.reverse, is' ++ (wrI kk).reverse, _, ?_, rfl, same_mut (s2.trans s3) hl0, by rw [upd_ne nfl]; exact s3 _ _ hf1, upd_same, hall, ?_, ?_⟩
    · rw [en, List.map_append, List.sum_append, List.map_reverse, List.sum_reverse, hwk]; omega
    · rw [List.map_append, List.sum_append, List.map_reverse, List.sum_reverse]
      rw [en, hwk] at hle
      omega
    · rw [he, List.reverse_append, List.reverse_reverse, List.flatMap_append]
      show _ ++ (kk.txt ++ _) = _
      rw [wrI_txt hc]
theorem ok_text {C : Addr} (CK : Cal P w K mg base 4 "check_type" ["thing"] (spCheck K C)) (CT : Cal P w K mg base 2 "text_of" ["kind"] (spText K)) (D : DefAt K mg "text" s_text ["kind"]) : Cal P w K mg base 5 "text" ["kind"] (spText K) := by
  refine D.cal sc_text (fun vs H Q E h => ?_) (fun f cdv A outer s H vs Q E hr h => ?_)
  · obtain ⟨v, t, rfl, _⟩ := h
    rfl
  obtain ⟨v, k, rfl, hT, hok, hn, q⟩ := h
  refine ⟨_, pss_cons (ps_expr (pcE (takes_of rfl rfl rfl rfl) CK hr rfl (pa_cons (pv 0) pa_nil))) (pss_one (ps_ret (pc CT (hr.mono (by decide)) rfl (pa_cons (pv 0) pa_nil)))), ?_⟩
  have hnd := Kd.nodes_tg k
  refine ⟨v, rfl, v, k.tg, rfl, hT, by omega, fun _ H1 sm => ?_, fun z => by rw [Kd.isT_tg hok] at z; cases z⟩
  exact ⟨v, rfl, v, k, rfl, hT.stay (stay_same sm), hok, hn, fun H2 t sm2 ht => q H2 t (sm.trans sm2) ht⟩
end
end N

namespace N
open PySem PySem.Spec PyProof.Rows L2 StX
/-! ### reading -/
abbrev cs (x : Str) : List Nat := x.cps.toList
theorem cs_len (x : Str) : (cs x).length = x.length := by
  show x.cps.toList.length = x.cps.size
  exact Array.length_toList
theorem cs_inj {x y : Str} (h : cs x = cs y) : x = y := by
  obtain ⟨⟨a⟩⟩ := x
  obtain ⟨⟨b⟩⟩ := y
  have : a = b := h
  rw [this]
theorem sw3 (x y : Str) (i : Nat) : Txt.startswith3 x y (i : Int) = decide (i + y.length ≤ x.length ∧ ((cs x).drop i).take y.length = cs y) := by
  have e0 : PySem.fromIndex x.length (i : Int) = i := by
    unfold PySem.fromIndex
    rw [if_neg (by omega)]
    omega
  unfold Txt.startswith3
  rw [e0]
  have e1 : Builtin.Str.subAt x y i = decide (((cs x).drop i).take y.length = cs y) := by
    unfold Builtin.Str.subAt
    have e2 : (x.cps.extract i (i + y.length)).toList = ((cs x).drop i).take y.length := by
      rw [Array.toList_extract, List.extract_eq_drop_take]
      congr 1
      omega
    by_cases h : ((cs x).drop i).take y.length = cs y
    · rw [decide_eq_true h]
      have : x.cps.extract i (i + y.length) = y.cps := by
        apply Array.toList_inj.mp
        rw [e2, h]
      rw [this]
      exact beq_self_eq_true _
    · rw [decide_eq_false h]
      apply beq_eq_false_iff_ne.mpr
      intro z
      rw [z] at e2
      exact h e2.symm
  rw [e1]
  simp
theorem sw3_yes {x y : Str} {i : Nat} {r : List Nat} (hy0 : 0 < y.length) (h : (cs x).drop i = cs y ++ r) : Txt.startswith3 x y (i : Int) = true := by
  rw [sw3, decide_eq_true_eq]
  have h1 := congrArg List.length h
  rw [List.length_drop, List.length_append, cs_len, cs_len] at h1
  refine ⟨by omega, ?_⟩
  · rw [h, ← cs_len y, List.take_left']
    rfl
theorem sw3_no {x y : Str} {i : Nat} {c : Nat} {r : List Nat} (hy : cs y = c :: r) (h : ∀ r', (cs x).drop i ≠ c :: r') : Txt.startswith3 x y (i : Int) = false := by
  rw [sw3, decide_eq_false_iff_not]
  rintro ⟨h1, h2⟩
  rw [hy] at h2
  have hl : y.length = r.length + 1 := by rw [← cs_len, hy]; rfl
  rw [hl] at h2
  cases q : (cs x).drop i with
  | nil => rw [q] at h2; cases h2
  | cons d ds =>
    rw [q, List.take_succ_cons] at h2
    injection h2 with e _
    subst e
    exact h ds q
theorem cutS_cs (z : Str) (i j : Nat) (hi : i ≤ j) (hj : j ≤ z.length) : cs (cutS z (some (i : Int)) (some (j : Int))) = ((cs z).drop i).take (j - i) := by
  unfold cutS
  rw [HT.sIx_nat, HT.sIx_nat, Nat.min_eq_left hj, Nat.min_eq_left (Nat.le_trans hi hj)]
theorem one_alpha (c : Nat) : Txt.isalpha ⟨#[c]⟩ = Unicode.isAlpha c := by
  unfold Txt.isalpha Str.length
  simp
section
variable {P : Program} {w : World} {K : PySem.W.Frag} {mg : Str → Option Value} {base : Heap}
def spWord (K : PySem.W.Frag) : Sp := fun vs H Q _ => ∃ (line : Str) (at_ : Nat) (wd rest : List Nat), vs = [.str line, .int (at_ : Nat)] ∧ line.length ≤ 100000 ∧ (cs line).drop at_ = wd ++ rest ∧ at_ ≤ line.length ∧ wd.length ≤ 8 ∧ (∀ c ∈ wd, Unicode.isAlpha c = true) ∧
  (∀ c r, rest = c :: r → Unicode.isAlpha c = false) ∧ ∀ t : Str, cs t = wd → Q (.str t) H
theorem ok_word_at (G : Glo mg) (D : DefAt K mg "word_at" s_word_at ["line", "at"]) : Cal P w K mg base 1 "word_at" ["line", "at"] (spWord K) := by
  obtain ⟨t8, h8⟩ := G.LN
  refine D.cal sc_word_at (fun vs H Q E h => ?_) (fun f cdv A outer s H vs Q E hr h => ?_)
  · obtain ⟨line, a, wd, rest, rfl, _⟩ := h
    rfl
  obtain ⟨line, a, wd, rest, rfl, hll, hd, hal, hw8, hwa, hra, q⟩ := h
  refine ⟨_, pss_cons (ps_set (i := 2) sc_word_at.nd rfl (Or.inl rfl) (pv 1))
    (pss_cons (ps_while (passes_of rfl) (PW.pt (pw_and (pt_cmpR op_lt (pv 2) (pe_callB call_len_str (by rfl) G.len PySem.boot_len (pa_cons (pv 0) pa_nil)) (nomark _))
        (pw_and (pt_cmpR op_le (pe_op op_sub (pv 2) (pv 1)) (pe_glob (v := .int 8) rfl h8 ⟨_, rfl⟩) (nomark _))
          (pw_and1 (pt_val (pe_m0 PySem.F.slot_str_isalpha PySem.F.type_str_isalpha mt_isalpha (pe_ix ix_str (pv 0) (pv 2) (fun _ _ => rfl))))))))
      (pss_one (ps_aug (i := 2) sc_word_at.nd rfl (.inl rfl) pe_int ip_add)))
    (pss_one (ps_ret (pe_slice sl_str (pv 0) (po_some (pv 1)) (po_some (pv 2)))))), ?_⟩
  have hlen := congrArg List.length hd
  rw [List.length_drop, List.length_append, cs_len] at hlen
  refine ⟨_, rfl, fun m σ H' => ∃ j : Nat, m = wd.length - j ∧ j ≤ wd.length ∧ σ = [some (.str line), some (.int (a : Nat)), some (.int ((a + j : Nat) : Int))] ∧ H' = H, ⟨_, 0, rfl, Nat.zero_le _, rfl, rfl⟩, fun m σ H' hW => ?_⟩
  obtain ⟨j, rfl, hj, rfl, rfl⟩ := hW
  have fin : Q (.str (cutS line (some (a : Int)) (some ((a + wd.length : Nat) : Int)))) H' := by
    refine q _ ?_
    rw [cutS_cs line a (a + wd.length) (by omega) (by omega), hd, Nat.add_sub_cancel_left, List.take_left']
    rfl
  refine ⟨_, rfl, _, rfl, line, rfl, sz5 hll, _, _, rfl, rfl, _, rfl, ?_⟩
  by_cases hjw : j < wd.length
  · have hget : (cs line)[a + j]? = some wd[j] := by
      rw [← List.getElem?_drop, hd, List.getElem?_append_left hjw, List.getElem?_eq_getElem hjw]
    refine iteE (decide_eq_true (by omega)) ⟨_, rfl, _, rfl, _, _, rfl, rfl, _, _, rfl, rfl, _, rfl, iteE (decide_eq_true (by omega)) ?_⟩
    refine ⟨_, rfl, _, rfl, line, _, wd[j], rfl, rfl, sz5 hll, atI_nat hget, ⟨_, rfl⟩, _, rfl, rfl, trivial, _, rfl, ?_⟩
    rw [one_alpha]
    refine iteE (hwa _ (List.getElem_mem hjw)) ?_
    refine ⟨fun σ2 H2 => ∃ j2 : Nat, wd.length - j2 < wd.length - j ∧ j2 ≤ wd.length ∧ σ2 = [some (.str line), some (.int (a : Nat)), some (.int ((a + j2 : Nat) : Int))] ∧ H2 = H', fun σ2 H2 ⟨j2, a1, a2, a3, a4⟩ => ⟨_, a1, j2, rfl, a2, a3, a4⟩, ?_⟩
    refine ⟨_, rfl, _, _, rfl, rfl, j + 1, by omega, by omega, ?_, rfl⟩
    show [some (V.str line), some (V.int (a : Nat)), some (V.int (((a + j : Nat) : Int) + 1))] = _
    have : (((a + j : Nat) : Int) + 1) = ((a + (j + 1) : Nat) : Int) := by omega
    rw [this]
  · have ej : j = wd.length := by omega
    subst ej
    have fin2 : ∀ b : Bool, b = false → (if b = true then False else True) := fun b h => by rw [h]; exact trivial
    by_cases hlt : a + wd.length < line.length
    · refine iteE (decide_eq_true (by omega)) ⟨_, rfl, _, rfl, _, _, rfl, rfl, _, _, rfl, rfl, _, rfl, iteE (decide_eq_true (by omega)) ?_⟩
      cases hr0 : rest with
      | nil =>
        rw [hr0] at hlen
        simp only [List.length_nil] at hlen
        omega
      | cons c r =>
        have hget : (cs line)[a + wd.length]? = some c := by
          rw [← List.getElem?_drop, hd, hr0, List.getElem?_append_right (Nat.le_refl _), Nat.sub_self]
          rfl
        refine ⟨_, rfl, _, rfl, line, _, c, rfl, rfl, sz5 hll, atI_nat hget, ⟨_, rfl⟩, _, rfl, rfl, trivial, _, rfl, ?_⟩
        rw [one_alpha]
        refine iteN (hra c r hr0) ?_
        exact ⟨_, rfl, _, rfl, _, rfl, _, rfl, _, rfl, line, rfl, sz5 hll, fin⟩
    · refine iteN (decide_eq_false (by omega)) ?_
      exact ⟨_, rfl, _, rfl, _, rfl, _, rfl, _, rfl, line, rfl, sz5 hll, fin⟩
end
end N

namespace N
open PySem PySem.Spec PyProof.Rows L2 StX
abbrev Fra := Str × List Kd × List Kd
def argsT : List Kd → List Nat
  | [] => []
  | a :: as => 44 :: 32 :: (a.txt ++ argsT as)
def aft (post : List Nat) : List Fra → List Nat
  | [] => post
  | f :: fr => argsT f.2.2 ++ 41 :: aft post fr
def plug : List Fra → Kd → Kd
  | [], c => c
  | f :: fr, c => plug fr (mkN f.1 (f.2.1 ++ c :: f.2.2))
def FraOk (fr : List Fra) : Prop := ∀ f ∈ fr, isNam f.1 = true ∧ f.2.1.length + 1 + f.2.2.length ≤ 2 ∧ ∀ k ∈ f.2.2, k.ok
def PostOk (post : List Nat) : Prop := ∀ c r, post = c :: r → Unicode.isAlpha c = false ∧ c ≠ 40
theorem aft_ok {post : List Nat} (hp : PostOk post) : ∀ fr : List Fra, PostOk (aft post fr)
  | [] => hp
  | (n, ds, []) :: fr => fun c r e => by
    have e' : 41 :: aft post fr = c :: r := e
    injection e' with e1 _
    subst e1
    exact ⟨by decide +kernel, by decide⟩
  | (n, ds, a :: as) :: fr => fun c r e => by
    have e' : 44 :: _ = c :: r := e
    injection e' with e1 _
    subst e1
    exact ⟨by decide +kernel, by decide⟩
/-- what stands behind a kind's word -/
def tailT : Kd → List Nat
  | .L _ => []
  | .C0 _ => []
  | .C1 _ a => 40 :: (a.txt ++ [41])
  | .C2 _ a b => 40 :: (a.txt ++ (44 :: 32 :: (b.txt ++ [41])))
theorem txt_tail (k : Kd) : k.txt = cs k.nm ++ tailT k := by
  cases k <;> simp [Kd.txt, tailT, Kd.nm]
theorem nm_cs {k : Kd} (h : k.ok) : (cs k.nm).length ≤ 8 ∧ 1 ≤ (cs k.nm).length ∧ ∀ c ∈ cs k.nm, Unicode.isAlpha c = true := by
  have hn : ∀ n : Str, isNam n = true → (cs n).length ≤ 8 ∧ 1 ≤ (cs n).length ∧ ∀ c ∈ cs n, Unicode.isAlpha c = true := fun n h => by
    obtain ⟨h1, h2, h3⟩ := isNam_iff.mp h
    refine ⟨by rw [cs_len]; exact h2, by rw [cs_len]; exact h1, fun c hc => ?_⟩
    have := h3 c hc
    unfold Low at this
    rw [asc_alpha c (by omega)]
    simp [this]
  cases k with
  | L c =>
    obtain ⟨x, e, h1, h2⟩ := isLet_iff.mp (show isLet c = true from h)
    have e' : cs (Kd.L c).nm = [x] := e
    rw [e']
    refine ⟨by simp, by simp, fun c hc => ?_⟩
    rw [List.mem_singleton.mp hc, asc_alpha x (by omega)]
    simp [h1, h2]
  | C0 n => exact hn n h
  | C1 n a => exact hn n h.1
  | C2 n a b => exact hn n h.1
section
variable {P : Program} {w : World} {K : PySem.W.Frag} {mg : Str → Option Value} {base : Heap}
def Frs (K : PySem.W.Frag) (H : Hp) : List Addr → List Fra → Prop := Paired fun b f => ∃ vs, H b = some (.lst (.str f.1 :: vs)) ∧ Kps K H vs f.2.1
/-- between two turns of scan -/
structure ScI (K : PySem.W.Frag) (H H' : Hp) (bg : Addr) (line : Str) (at_ : Nat) (bs : List Addr) (fr : List Fra) : Prop where
  sm : Same H H'
  b0 : H bg = none
  hb : H' bg = some (.lst (bs.reverse.map V.ref))
  fs : Frs K H' bs fr
  nd : (bg :: bs).Nodup
  fresh : ∀ b ∈ bs, H b = none
  fok : FraOk fr
  len : at_ ≤ line.length
  bl : bs.length ≤ at_
theorem Frs.mono {H H' : Hp} : ∀ {bs : List Addr} {fr : List Fra}, (∀ b ∈ bs, ∀ o, H b = some o → H' b = some o) → Stay K H H' → Frs K H bs fr → Frs K H' bs fr
  | _, _, _, _, .nil => .nil
  | b :: bs, f :: fr, h, st, .cons ⟨vs, e, r⟩ t => .cons ⟨vs, h b List.mem_cons_self _ e, ThAll.stay st r⟩ (Frs.mono (fun x hx => h x (List.mem_cons_of_mem _ hx)) st t)
theorem Frs.mem {H : Hp} : ∀ {bs : List Addr} {fr : List Fra}, Frs K H bs fr → ∀ b ∈ bs, ∃ o, H b = some o
  | b :: bs, f :: fr, .cons ⟨vs, e, r⟩ t, x, hx => by
    rcases List.mem_cons.mp hx with rfl | hx
    · exact ⟨_, e⟩
    · exact Frs.mem t x hx
def spScan (K : PySem.W.Frag) : Sp := fun vs H Q _ => ∃ (line : Str) (at_ : Nat) (k : Kd) (post : List Nat), vs = [.str line, .int (at_ : Nat)] ∧ line.length ≤ 100000 ∧ (cs line).drop at_ = k.txt ++ post ∧ at_ ≤ line.length ∧ k.ok ∧ PostOk post ∧
  ∀ H' p u, Same H H' → H' p = some (.tup [u, .int ((at_ + k.txt.length : Nat) : Int)]) → Kp K H' u k → Q (.ref p) H'
theorem ok_scan (G : Glo mg) (CW : Cal P w K mg base 1 "word_at" ["line", "at"] (spWord K)) (CN : Cal P w K mg base 1 "is_name" ["thing"] (spTest K Tg.isNm)) (CL : Cal P w K mg base 1 "is_letter" ["thing"] (spTest K Tg.isL)) (D : DefAt K mg "scan" s_scan ["line", "at"]) : Cal P w K mg base 2 "scan" ["line", "at"] (spScan K) := by
  obtain ⟨t2, h2⟩ := G.MA
  refine D.cal sc_scan (fun vs H Q E h => ?_) (fun f cdv A outer s H vs Q E hr h => ?_)
  · obtain ⟨line, a, k, post, rfl, _⟩ := h
    rfl
  obtain ⟨line, a0, k, post, rfl, hll, hd0, ha0, hok, hpost, q⟩ := h
  refine ⟨_, pss_cons (ps_set (i := 2) sc_scan.nd rfl (Or.inl rfl) (pe_lst pa_nil))
    (pss_one (ps_while (passes_of rfl) (pt_val pe_bl)
      (pss_cons (ps_set (i := 3) sc_scan.nd rfl (Or.inl rfl) (pc CW hr rfl (pa_cons (pv 0) (pa_cons (pv 1) pa_nil))))
      (pss_cons (ps_aug (i := 1) sc_scan.nd rfl (.inl rfl) (pe_callB call_len_str (by rfl) G.len PySem.boot_len (pa_cons (pv 3) pa_nil)) ip_add)
      (pss_cons (ps_if (PW.pt (pw_and (pt_val (pc CN hr rfl (pa_cons (pv 3) pa_nil))) (pw_and1 (pt_val (pe_bm PySem.F.plainAttrs_str PySem.F.slot_str_startswith PySem.F.type_str_startswith mt_startswith3 (pv 0) (pa_cons pe_str (pa_cons (pv 1) pa_nil)))))))
        (pss_cons (ps_expr (pe_bm PySem.F.plainAttrs_list PySem.F.slot_list_append PySem.F.type_list_append mt_append (pv 2) (pa_cons (pe_lst (pa_cons (pv 3) pa_nil)) pa_nil)))
        (pss_cons (ps_aug (i := 1) sc_scan.nd rfl (.inl rfl) pe_int ip_add) (pss_one ps_continue))) pss_nil)
      (pss_cons (ps_if (PW.pt (pw_and (pt_not (pt_val (pc CN hr rfl (pa_cons (pv 3) pa_nil)))) (pw_and1 (pt_not (pt_val (pc CL hr rfl (pa_cons (pv 3) pa_nil))))))) (pss_one ps_never) pss_nil)
      (pss_cons (ps_set (i := 4) sc_scan.nd rfl (Or.inl rfl) (pe_ifExp (pt_val (pc CL hr rfl (pa_cons (pv 3) pa_nil))) (pv 3) (pe_tup (pa_cons (pv 3) pa_nil))))
      (pss_cons (ps_while (passes_of rfl) (PW.pt (pw_and (pt_truth (pv 2) (by intro _; rfl)) (pw_and1 (pt_val (pe_bm PySem.F.plainAttrs_str PySem.F.slot_str_startswith PySem.F.type_str_startswith mt_startswith3 (pv 0) (pa_cons pe_str (pa_cons (pv 1) pa_nil)))))))
        (pss_cons (ps_expr (pe_bm PySem.F.plainAttrs_list PySem.F.slot_list_append PySem.F.type_list_append mt_append (pe_ix ix_list (pv 2) (pe_un un_neg pe_int) (fun _ _ => rfl)) (pa_cons (pv 4) pa_nil)))
        (pss_cons (ps_set (i := 4) sc_scan.nd rfl (Or.inl rfl) (pe_callTy call_tuple_of (by rfl) G.tuple b_tuple (pa_cons (pe_bm0 PySem.F.plainAttrs_list PySem.F.slot_list_pop PySem.F.type_list_pop mt_pop (pv 2)) pa_nil)))
        (pss_one (ps_aug (i := 1) sc_scan.nd rfl (.inl rfl) pe_int ip_add)))))
      (pss_cons (ps_if (pt_not (pt_truth (pv 2) (by intro _; rfl))) (pss_one (ps_ret (pe_tup (pa_cons (pv 4) (pa_cons (pv 1) pa_nil))))) pss_nil)
      (pss_cons (ps_expr (pe_bm PySem.F.plainAttrs_list PySem.F.slot_list_append PySem.F.type_list_append mt_append (pe_ix ix_list (pv 2) (pe_un un_neg pe_int) (fun _ _ => rfl)) (pa_cons (pv 4) pa_nil)))
      (pss_cons (ps_if (PW.pt (pw_or (pt_cmpR op_gt (pe_callB call_len_seq (by rfl) G.len PySem.boot_len (pa_cons (pe_ix ix_list (pv 2) (pe_un un_neg pe_int) (fun _ _ => rfl)) pa_nil)) (pe_glob (v := .int 2) rfl h2 ⟨_, rfl⟩) (nomark _))
          (pw_or1 (pt_not (pt_val (pe_bm PySem.F.plainAttrs_str PySem.F.slot_str_startswith PySem.F.type_str_startswith mt_startswith3 (pv 0) (pa_cons pe_str (pa_cons (pv 1) pa_nil)))))))) (pss_one ps_never) pss_nil)
      (pss_one (ps_aug (i := 1) sc_scan.nd rfl (.inl rfl) pe_int ip_add))))))))))))), ?_⟩
  refine ⟨by show 0 ≤ sizeLine; decide, fun bg hbg0 => ?_⟩
  refine ⟨fun m σ H' => ∃ (at_ : Nat) (bs : List Addr) (fr : List Fra) (c : Kd) (y3 y4 : Option V), m = line.length - at_ ∧ σ = [some (.str line), some (.int (at_ : Nat)), some (.ref bg), y3, y4] ∧ ScI K H H' bg line at_ bs fr ∧ c.ok ∧ plug fr c = k ∧ (cs line).drop at_ = c.txt ++ aft post fr,
    ⟨_, a0, [], [], k, _, _, rfl, rfl, ⟨same_new hbg0 _, hbg0, upd_same, .nil, by simp, fun b h => (by cases h), fun f h => (by cases h), ha0, Nat.zero_le _⟩, hok, rfl, hd0⟩, fun m σ H' hW => ?_⟩
  obtain ⟨at_, bs, fr, c, y3, y4, rfl, rfl, I, cok, hplug, hd⟩ := hW
  refine ⟨true, rfl, iteT ?_⟩
  refine ⟨fun σ2 H2 => ∃ (at2 : Nat) (bs : List Addr) (fr : List Fra) (c : Kd) (y3 y4 : Option V), line.length - at2 < line.length - at_ ∧ σ2 = [some (.str line), some (.int (at2 : Nat)), some (.ref bg), y3, y4] ∧ ScI K H H2 bg line at2 bs fr ∧ c.ok ∧ plug fr c = k ∧ (cs line).drop at2 = c.txt ++ aft post fr,
    fun σ2 H2 ⟨at2, bs, fr, c, y3, y4, a1, a2, a3, a4, a5, a6⟩ => ⟨_, a1, at2, bs, fr, c, y3, y4, rfl, a2, a3, a4, a5, a6⟩, ?_⟩
  obtain ⟨n8, n1, na⟩ := nm_cs cok
  rw [txt_tail, List.append_assoc] at hd
  have hao := aft_ok hpost fr
  have hdl := congrArg List.length hd
  rw [List.length_drop, cs_len, List.length_append, cs_len] at hdl
  rw [cs_len] at n8 n1
  have hIl := I.len
  have hIb := I.bl
  have hdr0 : (cs line).drop (at_ + c.nm.length) = tailT c ++ aft post fr := by
    rw [← List.drop_drop, hd, ← cs_len, List.drop_left']
    rfl
  refine ⟨_, rfl, _, rfl, line, at_, cs c.nm, tailT c ++ aft post fr, rfl, hll, hd, hIl, by rw [cs_len]; exact n8, na, ?_, fun t ht => ?_⟩
  · intro x r e
    cases htl : tailT c with
    | nil =>
      rw [htl] at e
      exact (hao x r e).1
    | cons z zs =>
      rw [htl] at e
      have hz : z = 40 := by cases c <;> simp [tailT] at htl <;> exact htl.1.symm
      injection e with e1 _
      rw [← e1, hz]
      decide +kernel
  have et : t = c.nm := cs_inj ht
  subst et
  have hnl : c.nm.length ≤ 100000 := by omega
  refine ⟨_, rfl, _, rfl, c.nm, rfl, sz5 hnl, _, _, rfl, rfl, ?_⟩
  refine ⟨_, rfl, .str c.nm, .str c.nm, rfl, .str _ hnl, _, rfl, ?_⟩
  have hcase : (∃ x, c = .L x) ∨ (∃ n, c = .C0 n) ∨ ∃ a as, c.args = a :: as := by
    cases c with
    | L x => exact .inl ⟨x, rfl⟩
    | C0 n => exact .inr (.inl ⟨n, rfl⟩)
    | C1 n a => exact .inr (.inr ⟨a, [], rfl⟩)
    | C2 n a b => exact .inr (.inr ⟨a, [b], rfl⟩)
  rcases hcase with ⟨x, ec⟩ | ⟨n, ec⟩ | ⟨a, as, ec⟩
  · have hlx : isLet c.nm = true := by rw [ec] at cok ⊢; exact cok
    have hnx : isNam c.nm = false := let_not_nam hlx
    refine iteN hnx ?_
    refine ⟨_, rfl, .str c.nm, .str c.nm, rfl, .str _ hnl, _, rfl, ?_⟩
    refine iteE (by show (!isNam c.nm) = true; rw [hnx]; rfl) ?_
    refine ⟨_, rfl, .str c.nm, .str c.nm, rfl, .str _ hnl, _, rfl, ?_⟩
    refine iteN (by show (!isLet c.nm) = false; rw [hlx]; rfl) ?_
    refine ⟨_, rfl, .str c.nm, .str c.nm, rfl, .str _ hnl, _, rfl, ?_⟩
    refine iteE hlx ⟨_, rfl, ?_⟩
    · have hdr : (cs line).drop (at_ + c.nm.length) = aft post fr := by rw [hdr0, ec]; rfl
      have hI : ScI K H H' bg line (at_ + c.nm.length) bs fr := ⟨I.sm, I.b0, I.hb, I.fs, I.nd, I.fresh, I.fok, by omega, by omega⟩
      have hu : Kp K H' (.str c.nm) c := by
        have e2 : c.tg = .str c.nm := by rw [ec]; rfl
        show Th K H' (.str c.nm) c.tg
        rw [e2]
        exact .str _ hnl
      refine ⟨fun m σ2 H2 => ∃ (at2 : Nat) (bs2 : List Addr) (fr2 : List Fra) (c2 : Kd) (u2 : V), m = fr2.length ∧ σ2 = [some (.str line), some (.int (at2 : Nat)), some (.ref bg), some (.str c.nm), some u2] ∧ ScI K H H2 bg line at2 bs2 fr2 ∧ Kp K H2 u2 c2 ∧ plug fr2 c2 = k ∧ (cs line).drop at2 = aft post fr2 ∧ at_ < at2,
        ⟨_, at_ + c.nm.length, bs, fr, c, _, rfl, rfl, hI, hu, hplug, hdr, by omega⟩, fun m σ2 H2 hW2 => ?_⟩
      obtain ⟨at2, bs2, fr2, c2, u2, rfl, rfl, I2, hu2, hp2, hd2, hlt2⟩ := hW2
      refine ⟨_, rfl, _, .inl ⟨_, SqL.of I2.hb, rfl⟩, ?_⟩
      have hfs := I2.fs
      cases hfs with
      | nil =>
        refine iteF ?_
        refine ⟨_, rfl, _, .inl ⟨_, SqL.of I2.hb, rfl⟩, ?_⟩
        refine iteT ⟨_, rfl, _, rfl, by show 2 ≤ sizeLine; decide, fun p hp => ?_⟩
        have ek : c2 = k := hp2
        subst ek
        have hl0 := congrArg List.length hd0
        have hl2 := congrArg List.length hd2
        rw [List.length_drop, cs_len] at hl0 hl2
        rw [List.length_append] at hl0
        have hl3 : line.length - at2 = post.length := hl2
        have hlen2 := I2.len
        have e : at2 = a0 + c2.txt.length := by omega
        refine q _ p u2 (I2.sm.trans (same_new hp _)) ?_ (hu2.stay (stay_new hp _))
        rw [← e]
        exact upd_same
      | @cons b f bs' fr' hb1 ht =>
        obtain ⟨n, ds, as⟩ := f
        obtain ⟨vs, hbv, hvs⟩ := hb1
        have hvl : vs.length = ds.length := Kps.length hvs
        have hfo := I2.fok (n, ds, as) List.mem_cons_self
        have hfo1 : isNam n = true := hfo.1
        have hfo2 : ds.length + 1 + as.length ≤ 2 := hfo.2.1
        have hbg : H2 bg = some (.lst (bs'.reverse.map V.ref ++ [V.ref b])) := by
          have := I2.hb
          rw [List.reverse_cons, List.map_append] at this
          exact this
        have hndp := List.nodup_cons.mp I2.nd
        have hnd2 := List.nodup_cons.mp hndp.2
        have nbg : bg ≠ b := fun e => hndp.1 (by rw [e]; exact List.mem_cons_self)
        have nbg' : ∀ x ∈ bs', x ≠ bg := fun x hx e => hndp.1 (by rw [← e]; exact List.mem_cons_of_mem _ hx)
        have nb' : ∀ x ∈ bs', x ≠ b := fun x hx e => hnd2.1 (by rw [← e]; exact hx)
        have hblen := I2.bl
        have hlen2 := I2.len
        have hbfr : H b = none := I2.fresh b List.mem_cons_self
        rw [List.length_cons] at hblen
        have ktr : (!((b :: bs').reverse.map V.ref).isEmpty) = true := by
          rw [List.reverse_cons, List.map_append]
          exact snoc_ne _ _
        refine iteE ktr ?_
        have hvlen : ((V.str n :: vs).length) < sizeLine := Nat.lt_of_le_of_lt (show _ ≤ 100000 by rw [List.length_cons]; omega) (by decide)
        have hbv2 : (upd H2 b (.lst ((V.str n :: vs) ++ [u2]))) b = some (.lst ((V.str n :: vs) ++ [u2])) := upd_same
        have hbg2 : (upd H2 b (.lst ((V.str n :: vs) ++ [u2]))) bg = some (.lst (bs'.reverse.map V.ref ++ [V.ref b])) := by rw [upd_ne nbg]; exact hbg
        have st2 : Stay K H2 (upd H2 b (.lst ((V.str n :: vs) ++ [u2]))) := stay_lst hbv
        have sm2 : Same H (upd H2 b (.lst ((V.str n :: vs) ++ [u2]))) := same_mut I2.sm hbfr
        cases as with
        | nil =>
          have hd3 : (cs line).drop at2 = cs par2 ++ aft post fr' := hd2
          refine ⟨_, rfl, rfl, _, rfl, _, _, _, rfl, rfl, _, rfl, ?_⟩
          refine iteE (sw3_yes (by decide +kernel) hd3) ?_
          refine ⟨_, fun σ3 H3 h => h, ?_⟩
          refine ⟨_, rfl, 1, rfl, bg, _, -1, _, rfl, rfl, SqL.of hbg, atI_last _ _, .inl ⟨rfl, _, SqL.of hbv⟩, _, rfl, b, _, u2, rfl, rfl, hbv, hvlen, ?_⟩
          refine ⟨_, rfl, .inl ⟨rfl, _, SqL.of hbg2⟩, bg, _, .ref b, rfl, rfl, hbg2, snoc_last _ _, ?_⟩
          rw [List.dropLast_concat]
          have hbv3 : (upd (upd H2 b (.lst ((V.str n :: vs) ++ [u2]))) bg (.lst (bs'.reverse.map V.ref))) b = some (.lst ((V.str n :: vs) ++ [u2])) := by rw [upd_ne nbg.symm]; exact hbv2
          refine ⟨b, _, rfl, .inl ⟨SqL.of hbv3, fun t ht' => ?_⟩⟩
          have st3 : Stay K (upd H2 b (.lst ((V.str n :: vs) ++ [u2]))) (upd (upd H2 b (.lst ((V.str n :: vs) ++ [u2]))) bg (.lst (bs'.reverse.map V.ref))) := stay_lst hbg2
          have st4 : Stay K (upd (upd H2 b (.lst ((V.str n :: vs) ++ [u2]))) bg (.lst (bs'.reverse.map V.ref))) (upd (upd (upd H2 b (.lst ((V.str n :: vs) ++ [u2]))) bg (.lst (bs'.reverse.map V.ref))) t (.tup ((V.str n :: vs) ++ [u2]))) := stay_new ht' _
          have st5 := (st2.trans st3).trans st4
          have nbt : bg ≠ t := ne_of_none upd_same ht'
          refine ⟨_, rfl, _, _, rfl, rfl, fr'.length, Nat.lt_succ_self _, at2 + 1, bs', fr', mkN n (ds ++ [c2]), .ref t, rfl, rfl, ?_, ?_, ?_, ?_, by omega⟩
          · refine ⟨(same_mut sm2 I2.b0).trans (same_new ht' _), I2.b0, by rw [upd_ne nbt]; exact upd_same, Frs.mono (fun x hx o e => ?_) st5 ht, List.nodup_cons.mpr ⟨fun h => hndp.1 (List.mem_cons_of_mem _ h), hnd2.2⟩, fun x hx => I2.fresh x (List.mem_cons_of_mem _ hx), fun x hx => I2.fok x (List.mem_cons_of_mem _ hx), ?_, by omega⟩
            · obtain ⟨o', ho'⟩ := Frs.mem ht x hx
              have h1 : (upd (upd H2 b (.lst ((V.str n :: vs) ++ [u2]))) bg (.lst (bs'.reverse.map V.ref))) x = some o := by rw [upd_ne (nbg' x hx), upd_ne (nb' x hx)]; exact e
              rw [upd_ne (ne_of_none h1 ht')]
              exact h1
            · have := congrArg List.length hd3
              rw [List.length_drop, cs_len, List.length_append] at this
              have e1 : (cs par2).length = 1 := by decide +kernel
              omega
          · refine kp_mk (xs := vs ++ [u2]) (mkN_nm _ _).2 ?_ ?_ ?_
            · rw [(mkN_nm _ _).1]
              exact .inl (.inl upd_same)
            · rw [(mkN_nm _ _).1]
              have := (isNam_iff.mp hfo1).2.1
              omega
            · rw [mkN_args _ _ (by rw [List.length_append, List.length_singleton]; omega)]
              exact Kps.app (ThAll.stay st5 hvs) (.cons (hu2.stay st5) .nil)
          · exact hp2
          · have e3 : (cs line).drop (at2 + 1) = ((cs line).drop at2).drop 1 := by rw [List.drop_drop]
            rw [e3, hd3]
            have e1 : cs par2 = [41] := by decide +kernel
            rw [e1]
            rfl
        | cons a as' =>
          have hd3 : (cs line).drop at2 = cs par1 ++ (a.txt ++ aft post ((n, ds ++ [c2], as') :: fr')) := by
            rw [hd2]
            have e1 : cs par1 = [44, 32] := by decide +kernel
            rw [e1]
            show (44 :: 32 :: (a.txt ++ argsT as')) ++ 41 :: aft post fr' = [44, 32] ++ (a.txt ++ (argsT as' ++ 41 :: aft post fr'))
            simp
          refine ⟨_, rfl, rfl, _, rfl, _, _, _, rfl, rfl, _, rfl, ?_⟩
          refine iteN (sw3_no (y := par2) (c := 41) (r := []) (by decide +kernel) fun r' z => ?_) ?_
          · rw [hd3] at z
            have e1 : cs par1 = [44, 32] := by decide +kernel
            rw [e1] at z
            injection z with z1 _
            cases z1
          refine ⟨_, rfl, _, .inl ⟨_, SqL.of I2.hb, rfl⟩, ?_⟩
          refine iteN (by rw [ktr]; rfl) ?_
          refine ⟨_, rfl, 1, rfl, bg, _, -1, _, rfl, rfl, SqL.of hbg, atI_last _ _, .inl ⟨rfl, _, SqL.of hbv⟩, _, rfl, b, _, u2, rfl, rfl, hbv, hvlen, ?_⟩
          have hds : ds.length = 0 := by rw [List.length_cons] at hfo2; omega
          refine ⟨_, rfl, 1, rfl, bg, _, -1, _, rfl, rfl, SqL.of hbg2, atI_last _ _, b, _, rfl, .inl (SqL.of hbv2), _, _, rfl, rfl, _, rfl, ?_⟩
          refine iteN (decide_eq_false ?_) ?_
          · rw [List.length_append, List.length_cons, List.length_singleton]
            omega
          refine ⟨_, rfl, rfl, _, rfl, _, _, _, rfl, rfl, _, rfl, ?_⟩
          refine iteN (by show (!Txt.startswith3 line par1 ((at2 : Nat) : Int)) = false; rw [sw3_yes (y := par1) (by decide +kernel) hd3]; rfl) ?_
          have hlp := congrArg List.length hd3
          rw [List.length_drop, cs_len, List.length_append] at hlp
          have e1l : (cs par1).length = 2 := by decide +kernel
          refine ⟨_, rfl, _, _, rfl, rfl, at2 + 2, b :: bs', (n, ds ++ [c2], as') :: fr', a, _, _, by omega, rfl, ?_, hfo.2.2 a List.mem_cons_self, ?_, ?_⟩
          · refine ⟨sm2, I2.b0, ?_, .cons ⟨vs ++ [u2], upd_same, Kps.app (ThAll.stay st2 hvs) (.cons (hu2.stay st2) .nil)⟩ (Frs.mono (fun x hx o e => by rw [upd_ne (nb' x hx)]; exact e) st2 ht), I2.nd, I2.fresh, fun x hx => ?_, by omega, by rw [List.length_cons]; omega⟩
            · rw [List.reverse_cons, List.map_append]
              exact hbg2
            · rcases List.mem_cons.mp hx with rfl | hx
              · refine ⟨hfo1, ?_, fun z hz => hfo.2.2 z (List.mem_cons_of_mem _ hz)⟩
                rw [List.length_cons] at hfo2
                show (ds ++ [c2]).length + 1 + as'.length ≤ 2
                rw [List.length_append, List.length_singleton]
                omega
              · exact I2.fok x (List.mem_cons_of_mem _ hx)
          · rw [← hp2]
            show plug fr' (mkN n ((ds ++ [c2]) ++ a :: as')) = plug fr' (mkN n (ds ++ c2 :: a :: as'))
            rw [List.append_assoc]
            rfl
          · have e3 : (cs line).drop (at2 + 2) = ((cs line).drop at2).drop 2 := by rw [List.drop_drop]
            rw [e3, hd3]
            have e1 : cs par1 = [44, 32] := by decide +kernel
            rw [e1]
            rfl
  · have hnx : isNam c.nm = true := by rw [ec] at cok ⊢; exact cok
    have hlx : isLet c.nm = false := by
      cases e : isLet c.nm with
      | false => rfl
      | true => rw [let_not_nam e] at hnx; cases hnx
    have hdr : (cs line).drop (at_ + c.nm.length) = aft post fr := by rw [hdr0, ec]; rfl
    refine iteE hnx ?_
    refine ⟨_, rfl, rfl, _, rfl, _, _, _, rfl, rfl, _, rfl, ?_⟩
    refine iteN (sw3_no (y := par0) (c := 40) (r := []) (i := at_ + c.nm.length) (by decide +kernel) fun r' z => ?_) ?_
    · rw [hdr] at z
      exact (hao 40 r' z).2 rfl
    refine ⟨_, rfl, .str c.nm, .str c.nm, rfl, .str _ hnl, _, rfl, ?_⟩
    refine iteN (by show (!isNam c.nm) = false; rw [hnx]; rfl) ?_
    refine ⟨_, rfl, .str c.nm, .str c.nm, rfl, .str _ hnl, _, rfl, ?_⟩
    refine iteN hlx ⟨_, rfl, by show 1 ≤ sizeLine; decide, fun tt htt => ?_⟩
    · have nbtt : bg ≠ tt := ne_of_none I.hb htt
      have hI : ScI K H (upd H' tt (.tup [.str c.nm])) bg line (at_ + c.nm.length) bs fr := ⟨I.sm.trans (same_new htt _), I.b0, by rw [upd_ne nbtt]; exact I.hb, Frs.mono (fun x hx o e => same_new htt _ _ _ e) (stay_new htt _) I.fs, I.nd, I.fresh, I.fok, by omega, by omega⟩
      have hu : Kp K (upd H' tt (.tup [.str c.nm])) (.ref tt) c := kp_mk (xs := []) (by rw [ec]; rfl) (.inl (.inl upd_same)) hnl (by rw [ec]; exact .nil)
      refine ⟨fun m σ2 H2 => ∃ (at2 : Nat) (bs2 : List Addr) (fr2 : List Fra) (c2 : Kd) (u2 : V), m = fr2.length ∧ σ2 = [some (.str line), some (.int (at2 : Nat)), some (.ref bg), some (.str c.nm), some u2] ∧ ScI K H H2 bg line at2 bs2 fr2 ∧ Kp K H2 u2 c2 ∧ plug fr2 c2 = k ∧ (cs line).drop at2 = aft post fr2 ∧ at_ < at2,
        ⟨_, at_ + c.nm.length, bs, fr, c, _, rfl, rfl, hI, hu, hplug, hdr, by omega⟩, fun m σ2 H2 hW2 => ?_⟩
      obtain ⟨at2, bs2, fr2, c2, u2, rfl, rfl, I2, hu2, hp2, hd2, hlt2⟩ := hW2
      refine ⟨_, rfl, _, .inl ⟨_, SqL.of I2.hb, rfl⟩, ?_⟩
      have hfs := I2.fs
      cases hfs with
      | nil =>
        refine iteF ?_
        refine ⟨_, rfl, _, .inl ⟨_, SqL.of I2.hb, rfl⟩, ?_⟩
        refine iteT ⟨_, rfl, _, rfl, by show 2 ≤ sizeLine; decide, fun p hp => ?_⟩
        have ek : c2 = k := hp2
        subst ek
        have hl0 := congrArg List.length hd0
        have hl2 := congrArg List.length hd2
        rw [List.length_drop, cs_len] at hl0 hl2
        rw [List.length_append] at hl0
        have hl3 : line.length - at2 = post.length := hl2
        have hlen2 := I2.len
        have e : at2 = a0 + c2.txt.length := by omega
        refine q _ p u2 (I2.sm.trans (same_new hp _)) ?_ (hu2.stay (stay_new hp _))
        rw [← e]
        exact upd_same
      | @cons b f bs' fr' hb1 ht =>
        obtain ⟨n, ds, as⟩ := f
        obtain ⟨vs, hbv, hvs⟩ := hb1
        have hvl : vs.length = ds.length := Kps.length hvs
        have hfo := I2.fok (n, ds, as) List.mem_cons_self
        have hfo1 : isNam n = true := hfo.1
        have hfo2 : ds.length + 1 + as.length ≤ 2 := hfo.2.1
        have hbg : H2 bg = some (.lst (bs'.reverse.map V.ref ++ [V.ref b])) := by
          have := I2.hb
          rw [List.reverse_cons, List.map_append] at this
          exact this
        have hndp := List.nodup_cons.mp I2.nd
        have hnd2 := List.nodup_cons.mp hndp.2
        have nbg : bg ≠ b := fun e => hndp.1 (by rw [e]; exact List.mem_cons_self)
        have nbg' : ∀ x ∈ bs', x ≠ bg := fun x hx e => hndp.1 (by rw [← e]; exact List.mem_cons_of_mem _ hx)
        have nb' : ∀ x ∈ bs', x ≠ b := fun x hx e => hnd2.1 (by rw [← e]; exact hx)
        have hblen := I2.bl
        have hlen2 := I2.len
        have hbfr : H b = none := I2.fresh b List.mem_cons_self
        rw [List.length_cons] at hblen
        have ktr : (!((b :: bs').reverse.map V.ref).isEmpty) = true := by
          rw [List.reverse_cons, List.map_append]
          exact snoc_ne _ _
        refine iteE ktr ?_
        have hvlen : ((V.str n :: vs).length) < sizeLine := Nat.lt_of_le_of_lt (show _ ≤ 100000 by rw [List.length_cons]; omega) (by decide)
        have hbv2 : (upd H2 b (.lst ((V.str n :: vs) ++ [u2]))) b = some (.lst ((V.str n :: vs) ++ [u2])) := upd_same
        have hbg2 : (upd H2 b (.lst ((V.str n :: vs) ++ [u2]))) bg = some (.lst (bs'.reverse.map V.ref ++ [V.ref b])) := by rw [upd_ne nbg]; exact hbg
        have st2 : Stay K H2 (upd H2 b (.lst ((V.str n :: vs) ++ [u2]))) := stay_lst hbv
        have sm2 : Same H (upd H2 b (.lst ((V.str n :: vs) ++ [u2]))) := same_mut I2.sm hbfr
        cases as with
        | nil =>
          have hd3 : (cs line).drop at2 = cs par2 ++ aft post fr' := hd2
          refine ⟨_, rfl, rfl, _, rfl, _, _, _, rfl, rfl, _, rfl, ?_⟩
          refine iteE (sw3_yes (by decide +kernel) hd3) ?_
          refine ⟨_, fun σ3 H3 h => h, ?_⟩
          refine ⟨_, rfl, 1, rfl, bg, _, -1, _, rfl, rfl, SqL.of hbg, atI_last _ _, .inl ⟨rfl, _, SqL.of hbv⟩, _, rfl, b, _, u2, rfl, rfl, hbv, hvlen, ?_⟩
          refine ⟨_, rfl, .inl ⟨rfl, _, SqL.of hbg2⟩, bg, _, .ref b, rfl, rfl, hbg2, snoc_last _ _, ?_⟩
          rw [List.dropLast_concat]
          have hbv3 : (upd (upd H2 b (.lst ((V.str n :: vs) ++ [u2]))) bg (.lst (bs'.reverse.map V.ref))) b = some (.lst ((V.str n :: vs) ++ [u2])) := by rw [upd_ne nbg.symm]; exact hbv2
          refine ⟨b, _, rfl, .inl ⟨SqL.of hbv3, fun t ht' => ?_⟩⟩
          have st3 : Stay K (upd H2 b (.lst ((V.str n :: vs) ++ [u2]))) (upd (upd H2 b (.lst ((V.str n :: vs) ++ [u2]))) bg (.lst (bs'.reverse.map V.ref))) := stay_lst hbg2
          have st4 : Stay K (upd (upd H2 b (.lst ((V.str n :: vs) ++ [u2]))) bg (.lst (bs'.reverse.map V.ref))) (upd (upd (upd H2 b (.lst ((V.str n :: vs) ++ [u2]))) bg (.lst (bs'.reverse.map V.ref))) t (.tup ((V.str n :: vs) ++ [u2]))) := stay_new ht' _
          have st5 := (st2.trans st3).trans st4
          have nbt : bg ≠ t := ne_of_none upd_same ht'
          refine ⟨_, rfl, _, _, rfl, rfl, fr'.length, Nat.lt_succ_self _, at2 + 1, bs', fr', mkN n (ds ++ [c2]), .ref t, rfl, rfl, ?_, ?_, ?_, ?_, by omega⟩
          · refine ⟨(same_mut sm2 I2.b0).trans (same_new ht' _), I2.b0, by rw [upd_ne nbt]; exact upd_same, Frs.mono (fun x hx o e => ?_) st5 ht, List.nodup_cons.mpr ⟨fun h => hndp.1 (List.mem_cons_of_mem _ h), hnd2.2⟩, fun x hx => I2.fresh x (List.mem_cons_of_mem _ hx), fun x hx => I2.fok x (List.mem_cons_of_mem _ hx), ?_, by omega⟩
            · obtain ⟨o', ho'⟩ := Frs.mem ht x hx
              have h1 : (upd (upd H2 b (.lst ((V.str n :: vs) ++ [u2]))) bg (.lst (bs'.reverse.map V.ref))) x = some o := by rw [upd_ne (nbg' x hx), upd_ne (nb' x hx)]; exact e
              rw [upd_ne (ne_of_none h1 ht')]
              exact h1
            · have := congrArg List.length hd3
              rw [List.length_drop, cs_len, List.length_append] at this
              have e1 : (cs par2).length = 1 := by decide +kernel
              omega
          · refine kp_mk (xs := vs ++ [u2]) (mkN_nm _ _).2 ?_ ?_ ?_
            · rw [(mkN_nm _ _).1]
              exact .inl (.inl upd_same)
            · rw [(mkN_nm _ _).1]
              have := (isNam_iff.mp hfo1).2.1
              omega
            · rw [mkN_args _ _ (by rw [List.length_append, List.length_singleton]; omega)]
              exact Kps.app (ThAll.stay st5 hvs) (.cons (hu2.stay st5) .nil)
          · exact hp2
          · have e3 : (cs line).drop (at2 + 1) = ((cs line).drop at2).drop 1 := by rw [List.drop_drop]
            rw [e3, hd3]
            have e1 : cs par2 = [41] := by decide +kernel
            rw [e1]
            rfl
        | cons a as' =>
          have hd3 : (cs line).drop at2 = cs par1 ++ (a.txt ++ aft post ((n, ds ++ [c2], as') :: fr')) := by
            rw [hd2]
            have e1 : cs par1 = [44, 32] := by decide +kernel
            rw [e1]
            show (44 :: 32 :: (a.txt ++ argsT as')) ++ 41 :: aft post fr' = [44, 32] ++ (a.txt ++ (argsT as' ++ 41 :: aft post fr'))
            simp
          refine ⟨_, rfl, rfl, _, rfl, _, _, _, rfl, rfl, _, rfl, ?_⟩
          refine iteN (sw3_no (y := par2) (c := 41) (r := []) (by decide +kernel) fun r' z => ?_) ?_
          · rw [hd3] at z
            have e1 : cs par1 = [44, 32] := by decide +kernel
            rw [e1] at z
            injection z with z1 _
            cases z1
          refine ⟨_, rfl, _, .inl ⟨_, SqL.of I2.hb, rfl⟩, ?_⟩
          refine iteN (by rw [ktr]; rfl) ?_
          refine ⟨_, rfl, 1, rfl, bg, _, -1, _, rfl, rfl, SqL.of hbg, atI_last _ _, .inl ⟨rfl, _, SqL.of hbv⟩, _, rfl, b, _, u2, rfl, rfl, hbv, hvlen, ?_⟩
          have hds : ds.length = 0 := by rw [List.length_cons] at hfo2; omega
          refine ⟨_, rfl, 1, rfl, bg, _, -1, _, rfl, rfl, SqL.of hbg2, atI_last _ _, b, _, rfl, .inl (SqL.of hbv2), _, _, rfl, rfl, _, rfl, ?_⟩
          refine iteN (decide_eq_false ?_) ?_
          · rw [List.length_append, List.length_cons, List.length_singleton]
            omega
          refine ⟨_, rfl, rfl, _, rfl, _, _, _, rfl, rfl, _, rfl, ?_⟩
          refine iteN (by show (!Txt.startswith3 line par1 ((at2 : Nat) : Int)) = false; rw [sw3_yes (y := par1) (by decide +kernel) hd3]; rfl) ?_
          have hlp := congrArg List.length hd3
          rw [List.length_drop, cs_len, List.length_append] at hlp
          have e1l : (cs par1).length = 2 := by decide +kernel
          refine ⟨_, rfl, _, _, rfl, rfl, at2 + 2, b :: bs', (n, ds ++ [c2], as') :: fr', a, _, _, by omega, rfl, ?_, hfo.2.2 a List.mem_cons_self, ?_, ?_⟩
          · refine ⟨sm2, I2.b0, ?_, .cons ⟨vs ++ [u2], upd_same, Kps.app (ThAll.stay st2 hvs) (.cons (hu2.stay st2) .nil)⟩ (Frs.mono (fun x hx o e => by rw [upd_ne (nb' x hx)]; exact e) st2 ht), I2.nd, I2.fresh, fun x hx => ?_, by omega, by rw [List.length_cons]; omega⟩
            · rw [List.reverse_cons, List.map_append]
              exact hbg2
            · rcases List.mem_cons.mp hx with rfl | hx
              · refine ⟨hfo1, ?_, fun z hz => hfo.2.2 z (List.mem_cons_of_mem _ hz)⟩
                rw [List.length_cons] at hfo2
                show (ds ++ [c2]).length + 1 + as'.length ≤ 2
                rw [List.length_append, List.length_singleton]
                omega
              · exact I2.fok x (List.mem_cons_of_mem _ hx)
          · rw [← hp2]
            show plug fr' (mkN n ((ds ++ [c2]) ++ a :: as')) = plug fr' (mkN n (ds ++ c2 :: a :: as'))
            rw [List.append_assoc]
            rfl
          · have e3 : (cs line).drop (at2 + 2) = ((cs line).drop at2).drop 2 := by rw [List.drop_drop]
            rw [e3, hd3]
            have e1 : cs par1 = [44, 32] := by decide +kernel
            rw [e1]
            rfl
  · have hnx : isNam c.nm = true := by cases c <;> simp [Kd.args] at ec <;> exact cok.1
    have htl : tailT c = cs par0 ++ (a.txt ++ (argsT as ++ [41])) := by
      have e1 : cs par0 = [40] := by decide +kernel
      rw [e1]
      cases c with
      | L x => cases ec
      | C0 n => cases ec
      | C1 n a' => cases ec; rfl
      | C2 n a' b' => cases ec; simp [tailT, argsT]
    have hargs := Kd.args_ok cok
    rw [ec] at hargs
    have hal := Kd.args_len c
    rw [ec, List.length_cons] at hal
    have hdr : (cs line).drop (at_ + c.nm.length) = cs par0 ++ ((a.txt ++ (argsT as ++ [41])) ++ aft post fr) := by rw [hdr0, htl, List.append_assoc]
    refine iteE hnx ?_
    refine ⟨_, rfl, rfl, _, rfl, _, _, _, rfl, rfl, _, rfl, ?_⟩
    refine iteE (sw3_yes (y := par0) (i := at_ + c.nm.length) (by decide +kernel) hdr) ?_
    refine ⟨_, rfl, .inl ⟨rfl, _, SqL.of I.hb⟩, _, rfl, by show 1 ≤ sizeLine; decide, fun b hb => ?_⟩
    have nbgb : bg ≠ b := ne_of_none I.hb hb
    have hbg1 : (upd H' b (.lst [.str c.nm])) bg = some (.lst (bs.reverse.map V.ref)) := by rw [upd_ne nbgb]; exact I.hb
    refine ⟨bg, _, .ref b, rfl, rfl, hbg1, ?_, ?_⟩
    · rw [List.length_map, List.length_reverse]
      exact Nat.lt_of_le_of_lt (show _ ≤ 100000 by omega) (by decide)
    have hlp := congrArg List.length hdr
    rw [List.length_drop, cs_len, List.length_append] at hlp
    have e1l : (cs par0).length = 1 := by decide +kernel
    have hbfr : H b = none := I.sm.free hb
    have nbb : ∀ x ∈ bs, x ≠ b := fun x hx e => by
      obtain ⟨o, ho⟩ := Frs.mem I.fs x hx
      rw [e, hb] at ho
      cases ho
    have hndp := List.nodup_cons.mp I.nd
    have st : Stay K H' (upd (upd H' b (.lst [.str c.nm])) bg (.lst (bs.reverse.map V.ref ++ [.ref b]))) := (stay_new hb _).trans (stay_lst hbg1)
    refine ⟨_, rfl, _, _, rfl, rfl, at_ + c.nm.length + 1, b :: bs, (c.nm, [], as) :: fr, a, _, _, by omega, rfl, ?_, hargs a List.mem_cons_self, ?_, ?_⟩
    · refine ⟨same_mut (I.sm.trans (same_new hb _)) I.b0, I.b0, ?_, .cons ⟨[], by rw [upd_ne nbgb.symm]; exact upd_same, .nil⟩ (Frs.mono (fun x hx o e => ?_) st I.fs), ?_, fun x hx => ?_, fun x hx => ?_, by omega, by rw [List.length_cons]; omega⟩
      · rw [List.reverse_cons, List.map_append]
        exact upd_same
      · rw [upd_ne (fun e2 => hndp.1 (by rw [← e2]; exact hx)), upd_ne (nbb x hx)]
        exact e
      · refine List.nodup_cons.mpr ⟨fun h => ?_, List.nodup_cons.mpr ⟨fun h => nbb b h rfl, hndp.2⟩⟩
        rcases List.mem_cons.mp h with h | h
        · exact nbgb h
        · exact hndp.1 h
      · rcases List.mem_cons.mp hx with rfl | hx
        · exact hbfr
        · exact I.fresh x hx
      · rcases List.mem_cons.mp hx with rfl | hx
        · exact ⟨hnx, by show 0 + 1 + as.length ≤ 2; omega, fun z hz => hargs z (List.mem_cons_of_mem _ hz)⟩
        · exact I.fok x hx
    · rw [← hplug]
      show plug fr (mkN c.nm ([] ++ a :: as)) = plug fr c
      have e2 : mkN c.nm (a :: as) = c := by
        cases c with
        | L x => cases ec
        | C0 n => cases ec
        | C1 n a' => cases ec; rfl
        | C2 n a' b' => cases ec; rfl
      rw [List.nil_append, e2]
    · rw [← List.drop_drop, hdr]
      have e1 : cs par0 = [40] := by decide +kernel
      rw [e1]
      show (a.txt ++ (argsT as ++ [41])) ++ aft post fr = a.txt ++ (argsT as ++ 41 :: aft post fr)
      simp
end
end N

namespace N
open PySem PySem.Spec PyProof.Rows L2 StX
section
variable {P : Program} {w : World} {K : PySem.W.Frag} {mg : Str → Option Value} {base : Heap}
def spRead (K : PySem.W.Frag) : Sp := fun vs H Q _ => ∃ (line : Str) (k : Kd), vs = [.str line] ∧ line.length ≤ 100000 ∧ cs line = k.txt ∧ k.ok ∧ ∀ H' u, Same H H' → Kp K H' u k → Q u H'
theorem ok_read (G : Glo mg) (CS : Cal P w K mg base 2 "scan" ["line", "at"] (spScan K)) (D : DefAt K mg "read" s_read ["text"]) : Cal P w K mg base 3 "read" ["text"] (spRead K) := by
  refine D.cal sc_read (fun vs H Q E h => ?_) (fun f cdv A outer s H vs Q E hr h => ?_)
  · obtain ⟨line, k, rfl, _⟩ := h
    rfl
  obtain ⟨line, k, rfl, hll, ht, hok, q⟩ := h
  refine ⟨_, pss_cons (ps_if (pt_not (pt_val (pe_isi G.isinstance G.str b_str rfl rfl (pv 0)))) (pss_one ps_never) pss_nil)
    (pss_cons (ps_asg (pc CS hr rfl (pa_cons (pv 0) (pa_cons pe_int pa_nil))) (pg_tup (by rfl) (pgs_cons (pg_name (i := 1) sc_read.nd rfl (Or.inl rfl)) (pgs_cons (pg_name (i := 2) sc_read.nd rfl (Or.inl rfl)) pgs_nil))))
    (pss_cons (ps_if (pt_cmpR op_lt (pv 2) (pe_callB call_len_str (by rfl) G.len PySem.boot_len (pa_cons (pv 0) pa_nil)) (nomark _)) (pss_one ps_never) pss_nil)
    (pss_one (ps_ret (pv 1))))), ?_⟩
  refine ⟨_, rfl, isi_q (b := true) (.base (.str line)) (kit_ty (by decide +kernel)) ⟨_, rfl, ?_⟩⟩
  refine ⟨_, rfl, line, 0, k, [], rfl, hll, by rw [List.drop_zero, ht, List.append_nil], Nat.zero_le _, hok, fun c r e => (by cases e), fun H1 p u sm hp hu => ?_⟩
  refine ⟨p, _, rfl, .inl (.inl hp), rfl, u, [_], rfl, _, [], rfl, rfl, ?_⟩
  refine ⟨_, rfl, _, rfl, line, rfl, sz5 hll, _, _, rfl, rfl, _, rfl, ?_⟩
  have e : line.length = k.txt.length := by rw [← cs_len, ht]
  refine iteN (decide_eq_false (by rw [e]; omega)) ⟨u, rfl, q H1 u sm hu⟩
end
end N

namespace N
open PySem PySem.Spec PyProof.Rows L2
section
variable {P : Program} {w : World} {K : PySem.W.Frag} {mg : Str → Option Value} {base : Heap}
/-- all but what stands at p is as it was -/
def Bar (p : Addr) (H H' : Hp) : Prop := ∀ b o, b ≠ p → H b = some o → H' b = some o
def Pen (H : Hp) (p : Addr) : Prop := ∃ i j k : Int, H p = some (.lst [.int i, .int j, .int k]) ∧ 0 ≤ i ∧ 0 ≤ j ∧ j < 2147483648
theorem Bar.refl (p : Addr) (H : Hp) : Bar p H H := fun _ _ _ h => h
theorem Bar.trans {p : Addr} {H H1 H2 : Hp} (a : Bar p H H1) (b : Bar p H1 H2) : Bar p H H2 := fun x o n h => b x o n (a x o n h)
theorem bar_same {p : Addr} {H H' : Hp} (a : Same H H') : Bar p H H' := fun x o _ h => a x o h
theorem bar_upd {p : Addr} {H : Hp} (o : HO) : Bar p H (upd H p o) := fun b u n h => by rw [upd_ne n]; exact h
theorem Pen.same {p : Addr} {H H' : Hp} (a : Same H H') (h : Pen H p) : Pen H' p := by
  obtain ⟨i, j, k, e, r⟩ := h
  exact ⟨i, j, k, a _ _ e, r⟩
theorem bar_stay {p : Addr} {H H' : Hp} (a : Bar p H H') (h : Pen H p) (h' : Pen H' p) : Stay K H H' := by
  obtain ⟨i, j, k, e, _⟩ := h
  obtain ⟨i', j', k', e', _⟩ := h'
  refine stay_of (fun b o q => ?_) fun b x q => a b _ (ne_of q e (by intro z; cases z)) q
  by_cases hb : b = p
  · subst hb
    rw [e] at q
    cases q
    exact .inr ⟨_, _, rfl, e'⟩
  · exact .inl (a b o hb q)
theorem bar_seq {p a : Addr} {H H' : Hp} {xs : List V} (b : Bar p H H') (n : a ≠ p) (h : SqL K H a xs) : SqL K H' a xs := by
  rcases h with (h | ⟨o, h⟩) | h
  · exact .inl (.inl (b _ _ n h))
  · exact .inl (.inr ⟨o, b _ _ n h⟩)
  · exact .inr h
theorem pen_free {p q : Addr} {H H' : Hp} (b : Bar p H H') (h : Pen H p) (n : H' q = none) (hq : Pen H' p) : H q = none := by
  cases e : H q with
  | none => rfl
  | some o =>
    obtain ⟨_, _, _, e', _⟩ := hq
    by_cases hb : q = p
    · subst hb; rw [e'] at n; cases n
    · rw [b q o hb e] at n; cases n
def spCell (K : PySem.W.Frag) : Sp := fun vs H Q _ => ∃ (a : Addr) (ns : List Int) (k : Nat), vs = [.ref a, .int k] ∧ SqL K H a (ns.map V.int) ∧ ∀ n : Int, Q (.int n) H
theorem ok_cell (G : Glo mg) (D : DefAt K mg "_law_cell_at" s_Lcell_at ["_law_script", "_law_k"]) : Cal P w K mg base 1 "_law_cell_at" ["_law_script", "_law_k"] (spCell K) := by
  refine D.cal sc_Lcell_at (fun vs H Q E h => ?_) (fun f cdv A outer s H vs Q E hr h => ?_)
  · obtain ⟨a, ns, k, rfl, _⟩ := h
    rfl
  obtain ⟨a, ns, k, rfl, hS, q⟩ := h
  refine ⟨_, pss_cons (ps_if (pt_cmpR op_lt (pv 1) (pe_callB call_len_seq (by rfl) G.len PySem.boot_len (pa_cons (pv 0) pa_nil)) (nomark _)) (pss_one (ps_ret (pe_ix ix_list (pv 0) (pv 1) (fun _ _ => rfl)))) pss_nil) (pss_one (ps_ret pe_int)), ?_⟩
  refine ⟨_, rfl, _, rfl, a, _, rfl, .inl hS, _, _, rfl, rfl, _, rfl, ite2 (fun c => ?_) (fun c => ?_)⟩
  · have c' : ((k : Nat) : Int) < (((ns.map V.int).length : Nat) : Int) := of_decide_eq_true c
    rw [List.length_map] at c'
    have hk : k < ns.length := by omega
    exact ⟨_, rfl, _, rfl, a, _, _, .int ns[k], rfl, rfl, hS, atI_nat (by rw [List.getElem?_map, List.getElem?_eq_getElem hk] <;> rfl), q _⟩
  · exact q 0
def spPen (K : PySem.W.Frag) : Sp := fun vs H Q _ => ∃ n : Int, vs = [.int n] ∧ ∀ p H', Same H H' → H p = none → Pen H' p → Q (.ref p) H'
theorem ok_pen (G : Glo mg) (D : DefAt K mg "_law_pen" s_Lpen ["_law_cell"]) : Cal P w K mg base 1 "_law_pen" ["_law_cell"] (spPen K) := by
  refine D.cal sc_Lpen (fun vs H Q E h => ?_) (fun f cdv A outer s H vs Q E hr h => ?_)
  · obtain ⟨n, rfl, _⟩ := h
    rfl
  obtain ⟨n, rfl, q⟩ := h
  refine ⟨_, pss_one (ps_ret (pe_lst (pa_cons (pe_callB (call_max2 rfl) (by rfl) G.max (by decide +kernel) (pa_cons pe_int (pa_cons (pe_op op_sub (pv 0) (pe_op op_pow pe_int pe_int)) pa_nil)))
    (pa_cons (pe_op op_add (pe_op op_modN (pv 0) pe_int) pe_int) (pa_cons pe_int pa_nil))))), ?_⟩
  refine ⟨_, rfl, _, _, rfl, rfl, ⟨by decide, by decide, by decide⟩, _, _, rfl, rfl, _, _, rfl, ?_⟩
  refine ⟨_, rfl, _, _, rfl, rfl, (by show (2147483629 : Int) ≠ 0; decide), _, _, rfl, rfl, by show 3 ≤ sizeLine; decide, fun p hp => ?_⟩
  refine q p _ (same_new hp _) hp ⟨_, _, _, upd_same, ?_, ?_, ?_⟩
  · split <;> omega
  · rw [Int.fmod_eq_emod_of_nonneg _ (by decide)]; omega
  · rw [Int.fmod_eq_emod_of_nonneg _ (by decide)]; omega
def spDraw (K : PySem.W.Frag) : Sp := fun vs H Q _ => ∃ (p : Addr) (n : Int), vs = [.ref p, .int n] ∧ Pen H p ∧ 0 < n ∧ n < 1073741824 ∧ ∀ H' r, Bar p H H' → Pen H' p → 0 ≤ r → r < n → Q (.int r) H'
theorem ok_draw (D : DefAt K mg "_law_draw" s_Ldraw ["_law_pen_here", "_law_many"]) : Cal P w K mg base 1 "_law_draw" ["_law_pen_here", "_law_many"] (spDraw K) := by
  refine D.cal sc_Ldraw (fun vs H Q E h => ?_) (fun f cdv A outer s H vs Q E hr h => ?_)
  · obtain ⟨p, n, rfl, _⟩ := h
    rfl
  obtain ⟨p, n, rfl, ⟨i, j, k, e, hi, hj, hj2⟩, hn, hn2, q⟩ := h
  refine ⟨_, pss_cons (ps_if (pt_cmpR op_gt (pe_ix ix_list (pv 0) pe_int (fun _ _ => rfl)) pe_int (nomark _))
      (pss_cons (ps_set (i := 2) sc_Ldraw.nd rfl (Or.inl rfl) (pe_op op_modN (pe_ix ix_list (pv 0) pe_int (fun _ _ => rfl)) (pv 1)))
      (pss_cons (ps_asg (pe_op op_fdivN (pe_ix ix_list (pv 0) pe_int (fun _ _ => rfl)) (pv 1)) (pg_sub (pv 0) pe_int set_list)) (pss_one (ps_ret (pv 2))))) pss_nil)
    (pss_cons (ps_asg (pe_op op_add (pe_ix ix_list (pv 0) pe_int (fun _ _ => rfl)) pe_int) (pg_sub (pv 0) pe_int set_list))
    (pss_cons (ps_asg (pe_op op_modN (pe_op op_add (pe_op op_add (pe_op op_mul (pe_ix ix_list (pv 0) pe_int (fun _ _ => rfl)) pe_int) (pe_op op_mul pe_int (pe_ix ix_list (pv 0) pe_int (fun _ _ => rfl)))) pe_int) pe_int) (pg_sub (pv 0) pe_int set_list))
    (pss_cons (ps_set (i := 3) sc_Ldraw.nd rfl (Or.inl rfl) (pe_op op_modN (pe_op op_add (pe_op op_add (pe_op op_mul (pe_ix ix_list (pv 0) pe_int (fun _ _ => rfl)) (pe_ix ix_list (pv 0) pe_int (fun _ _ => rfl))) (pe_op op_mul pe_int (pe_ix ix_list (pv 0) pe_int (fun _ _ => rfl)))) pe_int) pe_int))
    (pss_cons (ps_set (i := 3) sc_Ldraw.nd rfl (Or.inl rfl) (pe_op op_modN (pe_op op_add (pe_op op_mul (pv 3) (pv 3)) (pe_op op_mul pe_int (pv 3))) pe_int))
    (pss_one (ps_ret (pe_op op_modN (pe_op op_fdivN (pv 3) pe_int) (pv 1)))))))), ?_⟩
  refine ⟨_, rfl, p, _, 0, .int i, rfl, rfl, SqL.of e, atI_nat (j := 0) rfl, _, _, rfl, rfl, _, rfl, ite2 (fun c => ?_) (fun c => ?_)⟩
  · have c' : i > 0 := of_decide_eq_true c
    refine ⟨_, rfl, p, _, 0, .int i, rfl, rfl, SqL.of e, atI_nat (j := 0) rfl, _, rfl, _, _, rfl, rfl, (by show n ≠ 0; omega), ?_⟩
    refine ⟨_, rfl, p, _, 0, .int i, rfl, rfl, SqL.of e, atI_nat (j := 0) rfl, _, rfl, _, _, rfl, rfl, ⟨by omega, by omega⟩, ?_⟩
    refine ⟨_, rfl, p, _, 0, 0, rfl, rfl, e, rfl, ?_⟩
    refine ⟨_, rfl, q _ _ (bar_upd _) ⟨_, j, k, upd_same, ?_, hj, hj2⟩ ?_ ?_⟩
    · rw [Int.fdiv_eq_ediv_of_nonneg _ (by omega)]
      exact Int.ediv_nonneg hi (by omega)
    · rw [Int.fmod_eq_emod_of_nonneg _ (by omega)]
      exact Int.emod_nonneg _ (by omega)
    · rw [Int.fmod_eq_emod_of_nonneg _ (by omega)]
      exact Int.emod_lt_of_pos _ hn
  · refine ⟨_, rfl, p, _, 2, .int k, rfl, rfl, SqL.of e, atI_nat (j := 2) rfl, _, _, rfl, rfl, ?_⟩
    refine ⟨_, rfl, p, _, 2, 2, rfl, rfl, e, rfl, ?_⟩
    have e1 : (upd H p (.lst ([.int i, .int j, .int k].set 2 (.int (k + 1))))) p = some (.lst [.int i, .int j, .int (k + 1)]) := upd_same
    refine ⟨_, rfl, p, _, 1, .int j, rfl, rfl, SqL.of e1, atI_nat (j := 1) rfl, _, _, rfl, rfl, .inl ⟨by omega, by omega⟩, ?_⟩
    refine ⟨_, rfl, p, _, 2, .int (k + 1), rfl, rfl, SqL.of e1, atI_nat (j := 2) rfl, _, _, rfl, rfl, .inl ⟨by decide, by decide⟩, _, _, rfl, rfl, _, _, rfl, rfl, _, _, rfl, rfl, (by show (2147483647 : Int) ≠ 0; decide), ?_⟩
    have hj0 : 0 ≤ ((j * 48271 + 1009 * (k + 1) + 7).fmod 2147483647) ∧ ((j * 48271 + 1009 * (k + 1) + 7).fmod 2147483647) < 2147483648 := by rw [Int.fmod_eq_emod_of_nonneg _ (by decide)]; omega
    dsimp only
    revert hj0
    generalize (j * 48271 + 1009 * (k + 1) + 7).fmod 2147483647 = j'
    intro hj'
    refine ⟨_, rfl, p, _, 1, 1, rfl, rfl, e1, rfl, ?_⟩
    have e2 : (upd (upd H p (.lst ([.int i, .int j, .int k].set 2 (.int (k + 1))))) p (.lst (([.int i, .int j, .int (k + 1)] : List V).set 1 (.int j')))) p = some (.lst [.int i, .int j', .int (k + 1)]) := upd_same
    have b2 : Bar p H (upd (upd H p (.lst ([.int i, .int j, .int k].set 2 (.int (k + 1))))) p (.lst (([.int i, .int j, .int (k + 1)] : List V).set 1 (.int j')))) := (bar_upd _).trans (bar_upd _)
    refine ⟨_, rfl, p, _, 1, .int j', rfl, rfl, SqL.of e2, atI_nat (j := 1) rfl, ?_⟩
    refine ⟨_, rfl, p, _, 1, .int j', rfl, rfl, SqL.of e2, atI_nat (j := 1) rfl, _, _, rfl, rfl, .inl ⟨by omega, by omega⟩, ?_⟩
    refine ⟨_, rfl, p, _, 1, .int j', rfl, rfl, SqL.of e2, atI_nat (j := 1) rfl, _, _, rfl, rfl, .inl ⟨by decide, by decide⟩, _, _, rfl, rfl, _, _, rfl, rfl, _, _, rfl, rfl, (by show (2147483629 : Int) ≠ 0; decide), ?_⟩
    have hm0 : 0 ≤ ((j' * j' + 69621 * j' + 11).fmod 2147483629) ∧ ((j' * j' + 69621 * j' + 11).fmod 2147483629) < 2147483648 := by rw [Int.fmod_eq_emod_of_nonneg _ (by decide)]; omega
    dsimp only
    revert hm0
    generalize (j' * j' + 69621 * j' + 11).fmod 2147483629 = m
    intro hm
    refine ⟨_, rfl, _, rfl, _, _, rfl, rfl, .inl ⟨by omega, by omega⟩, _, rfl, _, _, rfl, rfl, .inl ⟨by decide, by decide⟩, _, _, rfl, rfl, _, _, rfl, rfl, (by show (2147483587 : Int) ≠ 0; decide), ?_⟩
    refine ⟨_, rfl, _, _, rfl, rfl, ⟨by decide, by decide⟩, _, rfl, _, _, rfl, rfl, (by show n ≠ 0; omega), q _ _ b2 ⟨i, j', k + 1, e2, hi, hj'⟩ ?_ ?_⟩
    · rw [Int.fmod_eq_emod_of_nonneg _ (by omega)]
      exact Int.emod_nonneg _ (by omega)
    · rw [Int.fmod_eq_emod_of_nonneg _ (by omega)]
      exact Int.emod_lt_of_pos _ hn
end
end N

namespace N
open PySem PySem.Spec PyProof.Rows L2
section
variable {P : Program} {w : World} {K : PySem.W.Frag} {mg : Str → Option Value} {base : Heap}
def spPick (K : PySem.W.Frag) : Sp := fun vs H Q _ => ∃ (p a : Addr) (xs : List V), vs = [.ref p, .ref a] ∧ Pen H p ∧ a ≠ p ∧ SqL K H a xs ∧ 0 < xs.length ∧ xs.length ≤ 1000 ∧ ∀ H' x, Bar p H H' → Pen H' p → x ∈ xs → Q x H'
theorem ok_pick (G : Glo mg) (CD : Cal P w K mg base 1 "_law_draw" ["_law_pen_here", "_law_many"] (spDraw K)) (D : DefAt K mg "_law_pick" s_Lpick ["_law_pen_here", "_law_some"]) : Cal P w K mg base 2 "_law_pick" ["_law_pen_here", "_law_some"] (spPick K) := by
  refine D.cal sc_Lpick (fun vs H Q E h => ?_) (fun f cdv A outer s H vs Q E hr h => ?_)
  · obtain ⟨p, a, xs, rfl, _⟩ := h
    rfl
  obtain ⟨p, a, xs, rfl, hp, hne, hS, h0, h1, q⟩ := h
  refine ⟨_, pss_one (ps_ret (pe_ix ix_list (pv 1) (pc CD hr rfl (pa_cons (pv 0) (pa_cons (pe_callB call_len_seq (by rfl) G.len PySem.boot_len (pa_cons (pv 1) pa_nil)) pa_nil))) (fun _ _ => rfl))), ?_⟩
  refine ⟨_, rfl, _, rfl, _, rfl, a, _, rfl, .inl hS, p, _, rfl, hp, by omega, by omega, fun H' r b pn r0 r1 => ?_⟩
  have hk : r.toNat < xs.length := by omega
  have er : r = ((r.toNat : Nat) : Int) := by omega
  refine ⟨a, xs, r, xs[r.toNat], rfl, rfl, bar_seq b hne hS, ?_, q H' _ b pn (List.getElem_mem hk)⟩
  have := atI_nat (xs := xs) (List.getElem?_eq_getElem hk)
  rw [← er] at this
  exact this
/-! ### drawn kinds -/
def Kd.of (ls : List Str) (ss : List (Str × Nat)) : Kd → Prop
  | .L c => c ∈ ls
  | .C0 n => (n, 0) ∈ ss
  | .C1 n a => (n, 1) ∈ ss ∧ a.of ls ss
  | .C2 n a b => (n, 2) ∈ ss ∧ a.of ls ss ∧ b.of ls ss
def Shp (K : PySem.W.Frag) (H : Hp) (svs : List V) (ss : List (Str × Nat)) : Prop := Paired (fun v s => ∃ t, v = V.ref t ∧ SqT K H t [.str s.1, .int (s.2 : Nat)]) svs ss
structure Men (ls : List Str) (ss : List (Str × Nat)) : Prop where
  l : ∀ c ∈ ls, isLet c = true
  s : ∀ s ∈ ss, isNam s.1 = true ∧ s.2 ≤ 2
  z : ∃ n, (n, 0) ∈ ss
  ll : ls.length ≤ 100
  sl : ss.length ≤ 100
theorem let_len {x : Str} (h : isLet x = true) : x.length ≤ 100000 := by
  unfold isLet at h
  simp only [Bool.and_eq_true, decide_eq_true_eq] at h
  omega
theorem nam_len {x : Str} (h : isNam x = true) : x.length ≤ 100000 := by
  have := (isNam_iff.mp h).2.1
  omega
theorem Kd.of_ok {ls : List Str} {ss : List (Str × Nat)} (M : Men ls ss) : ∀ {k : Kd}, k.of ls ss → k.ok
  | .L c, h => M.l c h
  | .C0 n, h => (M.s _ h).1
  | .C1 n a, h => ⟨(M.s _ h.1).1, of_ok M h.2⟩
  | .C2 n a b, h => ⟨(M.s _ h.1).1, of_ok M h.2.1, of_ok M h.2.2⟩
theorem Shp.stay {H H' : Hp} {svs : List V} {ss : List (Str × Nat)} (s : Stay K H H') (h : Shp K H svs ss) : Shp K H' svs ss := Paired.mapP h fun _ _ ⟨t, e, q⟩ => ⟨t, e, s.tup _ _ q⟩
theorem Shp.at {H : Hp} : ∀ {svs : List V} {ss : List (Str × Nat)} {i : Nat} {x : V}, Shp K H svs ss → svs[i]? = some x → ∃ s, ss[i]? = some s ∧ ∃ t, x = .ref t ∧ SqT K H t [.str s.1, .int (s.2 : Nat)]
  | _, _, i, x, .nil, h => by simp at h
  | _, _, 0, x, .cons r _, h => by
    simp at h
    subst h
    exact ⟨_, rfl, r⟩
  | _, _, i + 1, x, .cons _ t, h => by
    obtain ⟨s, e, r⟩ := Shp.at (i := i) (x := x) t (by simpa using h)
    exact ⟨s, by simpa using e, r⟩
def bareK (ss : List (Str × Nat)) : List Kd := (ss.filter fun s => s.2 == 0).map fun s => .C0 s.1
theorem bareK_snoc {ss : List (Str × Nat)} {i : Nat} {s : Str × Nat} (h : ss[i]? = some s) : bareK (ss.take (i + 1)) = bareK (ss.take i) ++ (if s.2 = 0 then [.C0 s.1] else []) := by
  unfold bareK
  rw [List.take_add_one, h, List.filter_append, List.map_append]
  congr 1
  by_cases e : s.2 = 0 <;> simp [e]
def spKind (K : PySem.W.Frag) (M : Nat) : Sp := fun vs H Q _ => ∃ (p al sl : Addr) (ls : List Str) (svs : List V) (ss : List (Str × Nat)) (most : Nat), vs = [.ref p, .ref al, .ref sl, .int (most : Nat)] ∧ Pen H p ∧ al ≠ p ∧ sl ≠ p ∧
  H al = some (.lst (ls.map .str)) ∧ SqL K H sl svs ∧ Shp K H svs ss ∧ Men ls ss ∧ most < M ∧ ∀ H' v k, Bar p H H' → Pen H' p → Kp K H' v k → k.of ls ss → k.nds ≤ 2 * most + 1 → Q v H'
theorem kind_none (D : DefAt K mg "_law_kind" s_Lkind ["_law_pen_here", "_law_letters", "_law_shapes", "_law_most"]) : Cal P w K mg base 2 "_law_kind" ["_law_pen_here", "_law_letters", "_law_shapes", "_law_most"] (spKind K 0) := by
  obtain ⟨f, fd, a, F, b⟩ := D
  have no : ∀ vs H Q E, ¬ spKind K 0 vs H Q E := fun vs H Q E h => by
    obtain ⟨_, _, _, _, _, _, most, _, _, _, _, _, _, _, _, hm, _⟩ := h
    omega
  exact ⟨f, fd, a, F.kp, b, fun vs H Q E h => absurd h (no vs H Q E), fun A outer s H args us vs Q E _ _ _ _ h => absurd h (no vs H Q E)⟩
/-- the letters and the bare names, as the def puts them together -/
theorem kps_letters {H : Hp} : ∀ {ls : List Str}, (∀ c ∈ ls, isLet c = true) → Kps K H (ls.map .str) (ls.map Kd.L)
  | [], _ => .nil
  | c :: ls, h => .cons (.str c (let_len (h c List.mem_cons_self))) (kps_letters fun x hx => h x (List.mem_cons_of_mem _ hx))
theorem Kps.mem {H : Hp} : ∀ {vs : List V} {ks : List Kd} {v : V}, Kps K H vs ks → v ∈ vs → ∃ k ∈ ks, Kp K H v k
  | _, [], v, .nil, h => by cases h
  | _, k :: ks, v, .cons r t, h => by
    rcases List.mem_cons.mp h with rfl | h
    · exact ⟨k, List.mem_cons_self, r⟩
    · obtain ⟨k', h1, h2⟩ := Kps.mem t h
      exact ⟨k', List.mem_cons_of_mem _ h1, h2⟩
theorem eqv_letters (ls : List Str) : PyData.eqv (.list (ls.map .str)) (.list []) = ls.isEmpty := by
  cases ls <;> simp [PyData.eqv, PyData.eqvAll]
theorem dp_letters {H : Hp} : ∀ ls : List Str, DpAll K H (ls.map .str) (ls.map .str)
  | [] => .nil
  | c :: ls => .cons (.str c) (dp_letters ls)
theorem strOk_of {x : Str} (h : ∀ c ∈ x.cps.toList, c < 1114112) : PyData.strOk x = true := by
  obtain ⟨⟨l⟩⟩ := x
  show Array.all _ _ = true
  rw [List.all_toArray, List.all_eq_true]
  intro c hc
  exact decide_eq_true (h c hc)
theorem let_strOk {x : Str} (h : isLet x = true) : PyData.strOk x = true := by
  obtain ⟨c, e, h1, h2⟩ := isLet_iff.mp h
  refine strOk_of fun z hz => ?_
  rw [e] at hz
  have := List.mem_singleton.mp hz
  omega
theorem nam_strOk {x : Str} (h : isNam x = true) : PyData.strOk x = true := by
  obtain ⟨_, _, h3⟩ := isNam_iff.mp h
  refine strOk_of fun z hz => ?_
  have := h3 z hz
  unfold Low at this
  omega
theorem shaped_letters {ls : List Str} (hl : ∀ c ∈ ls, isLet c = true) : SeqAt.shaped (.list (ls.map .str)) = true := by
  have h1 : ∀ ls : List Str, (∀ c ∈ ls, isLet c = true) → PyData.canLayAll0 (ls.map .str) = true := fun ls => by
    induction ls with
    | nil => intro _; simp [PyData.canLayAll0]
    | cons c ls ih =>
      intro h
      simp [PyData.canLayAll0, PyData.canLay0, ih fun x hx => h x (List.mem_cons_of_mem _ hx), let_strOk (h c List.mem_cons_self)]
  have h2 : ∀ ls : List Str, PyData.depthAll (ls.map .str) ≤ 1 := fun ls => by
    induction ls with
    | nil => simp [PyData.depthAll]
    | cons c ls ih => simp only [List.map_cons, PyData.depthAll, PyData.depth]; omega
  show (PyData.canLay0 _ && decide (PyData.depth _ ≤ 64)) = true
  rw [Bool.and_eq_true, decide_eq_true_eq]
  refine ⟨by simp only [PyData.canLay0]; exact h1 ls hl, ?_⟩
  have := h2 ls
  simp only [PyData.depth]
  omega
/-- a name and its arguments -/
def mkK (n : Str) : List Kd → Kd
  | [] => .C0 n
  | [a] => .C1 n a
  | a :: b :: _ => .C2 n a b
theorem mkK_nm (n : Str) : ∀ ks : List Kd, (mkK n ks).nm = n ∧ (mkK n ks).isC = true
  | [] => ⟨rfl, rfl⟩
  | [_] => ⟨rfl, rfl⟩
  | _ :: _ :: _ => ⟨rfl, rfl⟩
theorem mkK_args (n : Str) : ∀ ks : List Kd, ks.length ≤ 2 → (mkK n ks).args = ks
  | [], _ => rfl
  | [_], _ => rfl
  | [_, _], _ => rfl
  | _ :: _ :: _ :: _, h => by simp at h
theorem mkK_of {ls : List Str} {ss : List (Str × Nat)} {n : Str} : ∀ {ks : List Kd}, ks.length ≤ 2 → (n, ks.length) ∈ ss → (∀ k ∈ ks, k.of ls ss) → (mkK n ks).of ls ss
  | [], _, h, _ => h
  | [a], _, h, q => ⟨h, q a (by simp)⟩
  | [a, b], _, h, q => ⟨h, q a (by simp), q b (by simp)⟩
  | _ :: _ :: _ :: _, h, _, _ => by simp at h
theorem mkK_nds {n : Str} {most : Nat} : ∀ {ks : List Kd}, ks.length ≤ 2 → ks.length < most → (∀ k ∈ ks, k.nds ≤ 2 * ((most - 1) / ks.length) + 1) → (mkK n ks).nds ≤ 2 * most + 1
  | [], _, _, _ => by simp [mkK, Kd.nds]
  | [a], _, h, q => by
    have := q a (by simp)
    simp only [List.length_singleton, Nat.div_one] at this
    simp only [mkK, Kd.nds, List.length_singleton] at *
    omega
  | [a, b], _, h, q => by
    have h1 := q a (by simp)
    have h2 := q b (by simp)
    simp only [List.length_cons, List.length_nil] at h1 h2 h
    simp only [mkK, Kd.nds]
    omega
  | _ :: _ :: _ :: _, h, _, _ => by simp at h
end
end N

namespace N
open PySem PySem.Spec PyProof.Rows L2
section
variable {P : Program} {w : World} {K : PySem.W.Frag} {mg : Str → Option Value} {base : Heap}
theorem Shp.app {H : Hp} : ∀ {a b : List V} {x y : List (Str × Nat)}, Shp K H a x → Shp K H b y → Shp K H (a ++ b) (x ++ y)
  | _, _, _, _, .nil, r => r
  | _, _, _, _, .cons h t, r => .cons h (Shp.app t r)
theorem ok_kind_step {M : Nat} (G : Glo mg) (CD : Cal P w K mg base 1 "_law_draw" ["_law_pen_here", "_law_many"] (spDraw K)) (CP : Cal P w K mg base 2 "_law_pick" ["_law_pen_here", "_law_some"] (spPick K))
    (CK : Cal P w K mg base (M + 2) "_law_kind" ["_law_pen_here", "_law_letters", "_law_shapes", "_law_most"] (spKind K M))
    (D : DefAt K mg "_law_kind" s_Lkind ["_law_pen_here", "_law_letters", "_law_shapes", "_law_most"]) : Cal P w K mg base (M + 1 + 2) "_law_kind" ["_law_pen_here", "_law_letters", "_law_shapes", "_law_most"] (spKind K (M + 1)) := by
  refine D.cal sc_Lkind (fun vs H Q E h => ?_) (fun f cdv A outer s H vs Q E hr h => ?_)
  · obtain ⟨p, al, sl, ls, svs, ss, most, rfl, _⟩ := h
    rfl
  obtain ⟨p, al, sl, ls, svs, ss, most, rfl, hp, nal, nsl, hL, hS, hSh, hM, hmost, q⟩ := h
  have hr1 : RoomG 1 _ := hr.mono (by omega)
  have hr2 : RoomG 2 _ := hr.mono (by omega)
  refine ⟨_, pss_cons (ps_setLc (i := 4) (g := gTup K 2 (gCons (gName 5) (gCons (gName 6) gNil))) (own := [("_law_name", 5), ("_law_count", 6)]) (by rfl) sc_Lkind.nd rfl rfl (sw_true rfl rfl rfl (by decide +kernel)) (pi_list (pv 2)) (blkOk_by (N := nm_Lkind) (sc := defScope s_Lkind) (own := [("_law_name", 5), ("_law_count", 6)]) (by decide +kernel))
      (fun _ _ _ _ _ => pg_tup (by rfl) (pgs_cons (pg_name (i := 5) sc_Lkind.nd rfl (Or.inl rfl)) (pgs_cons (pg_name (i := 6) sc_Lkind.nd rfl (Or.inl rfl)) pgs_nil)))
      (fun _ _ _ _ _ => pts_one (pt_cmpR op_eq (pv 6) pe_int (nomark _))) (fun _ _ _ _ _ => pe_tup (pa_cons (pv 5) pa_nil)))
    (pss_cons (ps_if (PW.pt (pw_and (pt_cmpR op_eq (pv 3) pe_int (nomark _)) (pw_and1 (pt_cmpR (op_neD hr.units) (pv 1) (pe_lst pa_nil) (nomark _)))))
      (pss_one (ps_ret (pc CP hr2 rfl (pa_cons (pv 0) (pa_cons (pv 1) pa_nil))))) pss_nil)
    (pss_cons (ps_if (PW.pt (pw_or (pt_cmpR op_lt (pv 3) pe_int (nomark _)) (pw_or1 (PW.pt (pw_and (pt_cmpR (op_neD hr.units) (pv 1) (pe_lst pa_nil) (nomark _)) (pw_and1 (pt_cmpR op_eq (pc CD hr1 rfl (pa_cons (pv 0) (pa_cons pe_int pa_nil))) pe_int (nomark _))))))))
      (pss_one (ps_ret (pc CP hr2 rfl (pa_cons (pv 0) (pa_cons (pe_op op_cat (pe_op op_cat (pv 1) (pv 1)) (pv 4)) pa_nil))))) pss_nil)
    (pss_cons (ps_setLc (i := 7) (tt := tTest (tOp (rI0 fun i j => .bl (decide (i < j))) (tOp (rIxT K) (tVar 8) (tC (.int 1))) (tVar 3))) (own := [("_law_shape", 8)]) (by rfl) sc_Lkind.nd rfl rfl (sw_true rfl rfl rfl (by decide +kernel)) (pi_list (pv 2)) (blkOk_by (N := nm_Lkind) (sc := defScope s_Lkind) (own := [("_law_shape", 8)]) (by decide +kernel))
      (fun _ _ _ _ _ => pg_name (i := 8) sc_Lkind.nd rfl (Or.inl rfl)) (fun _ _ _ _ _ => pts_one (pt_cmpR op_lt (pe_ix ix_tup (pv 8) pe_int (fun _ _ => rfl)) (pv 3) (nomark _))) (fun _ _ _ _ _ => pv 8))
    (pss_cons (ps_asg (pc CP hr2 rfl (pa_cons (pv 0) (pa_cons (pv 7) pa_nil))) (pg_tup (by rfl) (pgs_cons (pg_name (i := 5) sc_Lkind.nd rfl (Or.inl rfl)) (pgs_cons (pg_name (i := 6) sc_Lkind.nd rfl (Or.inl rfl)) pgs_nil))))
    (pss_cons (ps_set (i := 9) sc_Lkind.nd rfl (Or.inl rfl) (pe_tup (pa_cons (pv 5) pa_nil)))
    (pss_cons (ps_for (passes_of rfl) rfl (pi_range1 rfl G.range (pa_cons (pv 6) pa_nil)) (pg_name (i := 10) sc_Lkind.nd rfl (Or.inl rfl))
      (pss_one (ps_set (i := 9) sc_Lkind.nd rfl (Or.inl rfl) (pe_op op_catT (pv 9) (pe_tup (pa_cons (pc CK hr rfl (pa_cons (pv 0) (pa_cons (pv 1) (pa_cons (pv 2) (pa_cons (pe_op op_fdivN (pe_op op_sub (pv 3) pe_int) (pv 6)) pa_nil))))) pa_nil))))))
    (pss_one (ps_ret (pv 9))))))))), ?_⟩
  refine ⟨_, rfl, sl, rfl, ⟨svs, hS⟩, fun D hD => ?_⟩
  refine lc_list (K := K) (a := sl) (xs := svs) (fun i H' => ∃ acc, Same H H' ∧ H' D = some (.lst acc) ∧ Kps K H' acc (bareK (ss.take i))) ⟨[], same_new hD _, upd_same, .nil⟩ (fun i H' _ ⟨acc, sm, _⟩ => sm.seq hS) (fun i x H' hx ⟨acc, sm, hacc, hk⟩ => ?_) (fun H1 ⟨acc, sm, hacc, hk⟩ => ?_)
  · obtain ⟨s, hs, t, rfl, ht⟩ := hSh.at hx
    have hsm := hM.s s (List.mem_of_getElem? hs)
    have hlen := Kps.length hk
    have hbl : (bareK (ss.take i)).length ≤ 100 := by
      unfold bareK
      rw [List.length_map]
      exact Nat.le_trans (List.length_filter_le ..) (by rw [List.length_take]; have := hM.sl; omega)
    refine ⟨t, _, rfl, (stay_same sm).tup _ _ ht, rfl, .str s.1, [.int (s.2 : Nat)], rfl, .int (s.2 : Nat), [], rfl, rfl, rfl, _, rfl, rfl, _, rfl, ite2 (fun c => ?_) (fun c => ?_)⟩
    · have c0 : s.2 = 0 := by have := V.int.inj (of_decide_eq_true c); omega
      refine ⟨_, rfl, by show 1 ≤ sizeLine; decide, fun p' hp' => ?_⟩
      have hDp : D ≠ p' := ne_of_none hacc hp'
      refine ⟨acc, by rw [upd_ne hDp]; exact hacc, Nat.lt_of_le_of_lt (show acc.length ≤ 100000 by omega) (by decide), acc ++ [.ref p'], same_mut (sm.trans (same_new hp' _)) hD, upd_same, ?_⟩
      rw [bareK_snoc hs, if_pos c0]
      have st : Stay K H' (upd H' p' (.tup [.str s.1])) := stay_new hp' _
      have h2 : (upd H' p' (.tup [.str s.1])) D = some (.lst acc) := by rw [upd_ne hDp]; exact hacc
      refine ThAll.stay (stay_lst h2) (Kps.app (ThAll.stay st hk) (.cons ?_ .nil))
      exact kp_mk (k := .C0 s.1) rfl (.inl (.inl upd_same)) (nam_len hsm.1) .nil
    · have c0 : ¬ s.2 = 0 := fun z => c (by rw [z]; rfl)
      refine ⟨acc, sm, hacc, ?_⟩
      rw [bareK_snoc hs, if_neg c0, List.append_nil]
      exact hk
  have hss : svs.length = ss.length := Paired.length hSh
  rw [hss, List.take_length] at hk
  have hp1 : Pen H1 p := hp.same sm
  have hL1 := sm.seq (K := K) (SqL.of hL)
  have hS1 := sm.seq hS
  have hSh1 := hSh.stay (stay_same (K := K) sm)
  have nDp : D ≠ p := fun e => by
    subst e
    obtain ⟨_, _, _, e, _⟩ := hp
    rw [hD] at e
    cases e
  have b1 : Bar p H H1 := bar_same sm
  have hne0 : ∀ (Hx : Hp) (o : Addr), Hx o = none → DpAll K (upd Hx o (.lst [])) [] [] := fun _ _ _ => .nil
  have eqn : (!PyData.eqv (.list (ls.map .str)) (.list [])) = !ls.isEmpty := by rw [eqv_letters]
  have sh0 : SeqAt.shaped (.list []) = true := by decide
  have hkl : ls = [] ∨ ls ≠ [] := by cases ls <;> simp
  have fin1 : ∀ (Hx : Hp) (x : V) (H' : Hp), Same H Hx → Bar p Hx H' → Pen H' p → x ∈ ls.map V.str → Q x H' := fun Hx x H' sx b pn hx => by
    obtain ⟨k, hk1, hk2⟩ := Kps.mem (K := K) (H := H') (kps_letters hM.l) hx
    obtain ⟨c, hc, rfl⟩ := List.mem_map.mp hk1
    exact q H' x _ ((bar_same sx).trans b) pn hk2 hc (by simp [Kd.nds])
  by_cases hA : most = 0 ∧ ls ≠ []
  · obtain ⟨hm0, hl0⟩ := hA
    subst hm0
    refine ⟨_, rfl, rfl, _, rfl, iteE (decide_eq_true rfl) ?_⟩
    refine ⟨_, rfl, by show 0 ≤ sizeLine; decide, fun o ho => ⟨_, _, .lst ((same_new ho _).seq hL1) (dp_letters ls), .lst (.inl (.inl upd_same)) .nil, shaped_letters hM.l, sh0, _, rfl, iteE (by rw [eqn]; cases ls <;> simp at *) ?_⟩⟩
    refine ⟨_, rfl, _, rfl, p, al, _, rfl, hp1.same (same_new ho _), nal, (same_new ho _).seq hL1, ?_, ?_, fun H' x b pn hx => fin1 _ x H' (sm.trans (same_new ho _)) b pn hx⟩
    · rw [List.length_map]
      exact List.length_pos_iff.mpr hl0
    · rw [List.length_map]
      have := hM.ll
      omega
  have hb0 : 0 < (bareK ss).length := by
    obtain ⟨n, hn⟩ := hM.z
    refine List.length_pos_iff.mpr fun e => ?_
    have : Kd.C0 n ∈ bareK ss := List.mem_map.mpr ⟨(n, 0), List.mem_filter.mpr ⟨hn, rfl⟩, rfl⟩
    rw [e] at this
    cases this
  have hbare : (bareK ss).length ≤ 100 := by
    unfold bareK
    rw [List.length_map]
    exact Nat.le_trans (List.length_filter_le ..) hM.sl
  have hL1' : H1 al = some (.lst (ls.map .str)) := sm _ _ hL
  by_cases hB : most < 2
  · by_cases hm0 : most = 0
    · subst hm0
      have hl0 : ls = [] := Classical.byContradiction fun z => hA ⟨rfl, z⟩
      refine ⟨_, rfl, rfl, _, rfl, iteE (decide_eq_true rfl) ?_⟩
      refine ⟨_, rfl, by show 0 ≤ sizeLine; decide, fun o ho => ⟨_, _, .lst ((same_new ho _).seq hL1) (dp_letters ls), .lst (.inl (.inl upd_same)) .nil, shaped_letters hM.l, sh0, _, rfl, iteN (by rw [eqn, hl0]; rfl) ?_⟩⟩
      refine ⟨_, rfl, _, _, rfl, rfl, _, rfl, iteE (decide_eq_true (by decide)) ?_⟩
      have sx := same_new ho (.lst [])
      have hLx := sx _ _ hL1'
      have hDx := sx _ _ hacc
      have hkx := ThAll.stay (stay_same sx) hk
      have hpx := hp1.same sx
      have bx := b1.trans (bar_same sx)
      refine ⟨_, rfl, _, rfl, _, rfl, al, al, _, _, rfl, rfl, hLx, hLx, ?_, fun o1 h1 => ?_⟩
      · rw [List.length_map]
        have := hM.ll
        exact sz5 (by omega)
      have nD1 : D ≠ o1 := ne_of_none hDx h1
      refine ⟨_, rfl, o1, D, _, _, rfl, rfl, upd_same, by rw [upd_ne nD1]; exact hDx, ?_, fun o2 h2 => ?_⟩
      · have h3 := Kps.length hkx
        have h4 := hM.ll
        have h5 := hbare
        rw [List.length_append, List.length_map]
        exact sz5 (by omega)
      have sx2 : Same _ _ := (same_new h1 _).trans (same_new h2 (.lst ((ls.map V.str ++ ls.map V.str) ++ acc)))
      have no2 : o2 ≠ p := fun e => by
        subst e
        obtain ⟨_, _, _, e, _⟩ := hpx.same (same_new h1 _)
        rw [h2] at e
        cases e
      refine ⟨p, o2, _, rfl, hpx.same sx2, no2, SqL.of upd_same, ?_, ?_, fun H' x b pn hx => ?_⟩
      · rw [List.length_append, List.length_append, List.length_map]
        have h3 := Kps.length hkx
        omega
      · rw [List.length_append, List.length_append, List.length_map]
        have h3 := Kps.length hkx
        have h4 := hM.ll
        omega
      · have hall : Kps K H' ((ls.map V.str ++ ls.map V.str) ++ acc) ((ls.map Kd.L ++ ls.map Kd.L) ++ bareK ss) :=
          Kps.app (Kps.app (kps_letters hM.l) (kps_letters hM.l)) (ThAll.stay ((stay_same sx2).trans (bar_stay b (hpx.same sx2) pn)) hkx)
        obtain ⟨k, hk1, hk2⟩ := Kps.mem hall hx
        refine q H' x k (bx.trans ((bar_same sx2).trans b)) pn hk2 ?_ ?_
        · rcases List.mem_append.mp hk1 with h | h
          · have h' : k ∈ ls.map Kd.L := by rcases List.mem_append.mp h with h | h <;> exact h
            obtain ⟨c, hc, rfl⟩ := List.mem_map.mp h'
            exact hc
          · unfold bareK at h
            obtain ⟨s, hs, rfl⟩ := List.mem_map.mp h
            obtain ⟨hs1, hs2⟩ := List.mem_filter.mp hs
            have hs3 : s.2 = 0 := by simpa using hs2
            show (s.1, 0) ∈ ss
            rw [← hs3]
            exact hs1
        · rcases List.mem_append.mp hk1 with h | h
          · have h' : k ∈ ls.map Kd.L := by rcases List.mem_append.mp h with h | h <;> exact h
            obtain ⟨c, hc, rfl⟩ := List.mem_map.mp h'
            simp [Kd.nds]
          · unfold bareK at h
            obtain ⟨s, hs, rfl⟩ := List.mem_map.mp h
            simp [Kd.nds]
    · refine ⟨_, rfl, rfl, _, rfl, iteN (decide_eq_false fun z => hm0 (by have := V.int.inj z; omega)) ?_⟩
      refine ⟨_, rfl, _, _, rfl, rfl, _, rfl, iteE (decide_eq_true (by omega)) ?_⟩
      have hLx := hL1'
      have hDx := hacc
      have hkx := hk
      have hpx := hp1
      have bx := b1
      refine ⟨_, rfl, _, rfl, _, rfl, al, al, _, _, rfl, rfl, hLx, hLx, ?_, fun o1 h1 => ?_⟩
      · rw [List.length_map]
        have := hM.ll
        exact sz5 (by omega)
      have nD1 : D ≠ o1 := ne_of_none hDx h1
      refine ⟨_, rfl, o1, D, _, _, rfl, rfl, upd_same, by rw [upd_ne nD1]; exact hDx, ?_, fun o2 h2 => ?_⟩
      · have h3 := Kps.length hkx
        have h4 := hM.ll
        have h5 := hbare
        rw [List.length_append, List.length_map]
        exact sz5 (by omega)
      have sx2 : Same _ _ := (same_new h1 _).trans (same_new h2 (.lst ((ls.map V.str ++ ls.map V.str) ++ acc)))
      have no2 : o2 ≠ p := fun e => by
        subst e
        obtain ⟨_, _, _, e, _⟩ := hpx.same (same_new h1 _)
        rw [h2] at e
        cases e
      refine ⟨p, o2, _, rfl, hpx.same sx2, no2, SqL.of upd_same, ?_, ?_, fun H' x b pn hx => ?_⟩
      · rw [List.length_append, List.length_append, List.length_map]
        have h3 := Kps.length hkx
        omega
      · rw [List.length_append, List.length_append, List.length_map]
        have h3 := Kps.length hkx
        have h4 := hM.ll
        omega
      · have hall : Kps K H' ((ls.map V.str ++ ls.map V.str) ++ acc) ((ls.map Kd.L ++ ls.map Kd.L) ++ bareK ss) :=
          Kps.app (Kps.app (kps_letters hM.l) (kps_letters hM.l)) (ThAll.stay ((stay_same sx2).trans (bar_stay b (hpx.same sx2) pn)) hkx)
        obtain ⟨k, hk1, hk2⟩ := Kps.mem hall hx
        refine q H' x k (bx.trans ((bar_same sx2).trans b)) pn hk2 ?_ ?_
        · rcases List.mem_append.mp hk1 with h | h
          · have h' : k ∈ ls.map Kd.L := by rcases List.mem_append.mp h with h | h <;> exact h
            obtain ⟨c, hc, rfl⟩ := List.mem_map.mp h'
            exact hc
          · unfold bareK at h
            obtain ⟨s, hs, rfl⟩ := List.mem_map.mp h
            obtain ⟨hs1, hs2⟩ := List.mem_filter.mp hs
            have hs3 : s.2 = 0 := by simpa using hs2
            show (s.1, 0) ∈ ss
            rw [← hs3]
            exact hs1
        · rcases List.mem_append.mp hk1 with h | h
          · have h' : k ∈ ls.map Kd.L := by rcases List.mem_append.mp h with h | h <;> exact h
            obtain ⟨c, hc, rfl⟩ := List.mem_map.mp h'
            simp [Kd.nds]
          · unfold bareK at h
            obtain ⟨s, hs, rfl⟩ := List.mem_map.mp h
            simp [Kd.nds]
  refine ⟨_, rfl, rfl, _, rfl, iteN (decide_eq_false fun z => hB (by have := V.int.inj z; omega)) ?_⟩
  refine ⟨_, rfl, _, _, rfl, rfl, _, rfl, iteN (decide_eq_false (by omega)) ?_⟩
  refine ⟨_, rfl, by show 0 ≤ sizeLine; decide, fun o ho => ⟨_, _, .lst ((same_new ho _).seq hL1) (dp_letters ls), .lst (.inl (.inl upd_same)) .nil, shaped_letters hM.l, sh0, _, rfl, ?_⟩⟩
  rw [eqn]
  have so := same_new ho (.lst [])
  rcases hkl with hl0 | hl0
  · refine iteN (by rw [hl0]; rfl) ?_
    obtain ⟨Hx, eHx⟩ : ∃ Hx, Hx = upd H1 o (.lst []) := ⟨_, rfl⟩
    rw [← eHx]
    rw [← eHx] at so
    have hSx := so.seq hS1
    have hShx := hSh1.stay (stay_same (K := K) so)
    have hpx := hp1.same so
    have bx := b1.trans (bar_same so)
    refine ⟨_, rfl, sl, rfl, ⟨svs, hSx⟩, fun D2 hD2 => ?_⟩
    refine lc_list (K := K) (a := sl) (xs := svs) (fun i H' => ∃ acc2 ss2, Same Hx H' ∧ H' D2 = some (.lst acc2) ∧ Shp K H' acc2 ss2 ∧ (∀ s ∈ ss2, s ∈ ss ∧ s.2 < most) ∧ (∀ s ∈ ss.take i, s.2 < most → s ∈ ss2) ∧ acc2.length ≤ i) ⟨[], [], same_new hD2 _, upd_same, .nil, fun s h => (by cases h), fun s h => (by simp at h), Nat.le_refl _⟩ (fun i H' _ ⟨acc2, ss2, sm2, _⟩ => sm2.seq hSx) (fun i x H' hx ⟨acc2, ss2, sm2, hacc2, hs2, h3, h4, h5⟩ => ?_) (fun Hy ⟨acc2, ss2, sm2, hacc2, hs2, h3, h4, h5⟩ => ?_)
    · obtain ⟨s, hs, t, rfl, ht⟩ := hShx.at hx
      have hi : i < svs.length := (List.getElem?_eq_some_iff.mp hx).1
      have htk : ss.take (i + 1) = ss.take i ++ [s] := by rw [List.take_add_one, hs]; rfl
      refine ⟨rfl, _, rfl, t, _, 1, .int (s.2 : Nat), rfl, rfl, (stay_same sm2).tup _ _ ht, atI_nat (j := 1) rfl, _, rfl, _, _, rfl, rfl, _, rfl, ite2 (fun c => ?_) (fun c => ?_)⟩
      · have c0 : s.2 < most := by have := of_decide_eq_true c; omega
        refine ⟨_, rfl, acc2, hacc2, ?_, acc2 ++ [.ref t], ss2 ++ [s], same_mut sm2 hD2, upd_same, ?_, ?_, ?_, ?_⟩
        · have := hM.sl
          have : svs.length = ss.length := Paired.length hSh
          exact Nat.lt_of_le_of_lt (show acc2.length ≤ 100000 by omega) (by decide)
        · exact Shp.app (hs2.stay (stay_lst hacc2)) (.cons ⟨t, rfl, (stay_lst hacc2).tup _ _ ((stay_same sm2).tup _ _ ht)⟩ .nil)
        · intro z hz
          rcases List.mem_append.mp hz with h | h
          · exact h3 z h
          · rw [List.mem_singleton.mp h]
            exact ⟨List.mem_of_getElem? hs, c0⟩
        · intro z hz hz2
          rw [htk] at hz
          rcases List.mem_append.mp hz with h | h
          · exact List.mem_append_left _ (h4 z h hz2)
          · exact List.mem_append_right _ h
        · rw [List.length_append, List.length_singleton]; omega
      · have c0 : ¬ s.2 < most := fun z => c (decide_eq_true (by omega))
        refine ⟨acc2, ss2, sm2, hacc2, hs2, h3, ?_, by omega⟩
        intro z hz hz2
        rw [htk] at hz
        rcases List.mem_append.mp hz with h | h
        · exact h4 z h hz2
        · rw [List.mem_singleton.mp h] at hz2
          exact absurd hz2 c0
    rw [hss, List.take_length] at h4
    have hlen2 : acc2.length = ss2.length := Paired.length hs2
    have hpos : 0 < ss2.length := by
      obtain ⟨n, hn⟩ := hM.z
      exact List.length_pos_of_mem (h4 (n, 0) hn (by show 0 < most; omega))
    have nD2 : D2 ≠ p := fun e => by
      subst e
      obtain ⟨_, _, _, e, _⟩ := hpx
      rw [hD2] at e
      cases e
    refine ⟨_, rfl, _, rfl, p, D2, _, rfl, hpx.same sm2, nD2, SqL.of hacc2, by omega, by have := hM.sl; omega, fun Hz x bz pnz hx => ?_⟩
    obtain ⟨j, hj⟩ := List.mem_iff_getElem?.mp hx
    obtain ⟨s, hs, t, rfl, ht⟩ := (hs2.stay (bar_stay (K := K) bz (hpx.same sm2) pnz)).at hj
    obtain ⟨hs3, hs4⟩ := h3 s (List.mem_of_getElem? hs)
    have hsm := hM.s s hs3
    refine ⟨t, _, rfl, ht, rfl, .str s.1, [.int (s.2 : Nat)], rfl, .int (s.2 : Nat), [], rfl, rfl, ?_⟩
    refine ⟨_, rfl, by show 1 ≤ sizeLine; decide, fun F hF => ?_⟩
    have bz2 : Bar p H Hz := bx.trans ((bar_same sm2).trans bz)
    refine ⟨_, rfl, _, rfl, by omega, by omega, ?_⟩
    refine for_range (n := ((s.2 : Nat) : Int).toNat) (fun i σ H' => ∃ F' xs ks y8 y10, σ = [some (.ref p), some (.ref al), some (.ref sl), some (.int (most : Nat)), some (.ref D), some (.str s.1), some (.int (s.2 : Nat)), some (.ref D2), y8, some (.ref F'), y10] ∧ Bar p H H' ∧ Pen H' p ∧
        SqT K H' F' (.str s.1 :: xs) ∧ Kps K H' xs ks ∧ ks.length = i ∧ ∀ k ∈ ks, k.of ls ss ∧ k.nds ≤ 2 * ((most - 1) / s.2) + 1)
      ⟨F, [], [], _, _, rfl, bz2.trans (bar_same (same_new hF _)), pnz.same (same_new hF _), .inl (.inl upd_same), .nil, rfl, fun k h => (by cases h)⟩ (fun i σ H' hi ⟨F', xs, ks, y8, y10, eσ, b', pn', hF', hk', hl', hall⟩ => ?_) (fun σ H' ⟨F', xs, ks, y8, y10, eσ, b', pn', hF', hk', hl', hall⟩ => ?_)
    · subst eσ
      have hc1 : 0 < s.2 := by omega
      have hml : ((most : Nat) : Int) - 1 = ((most - 1 : Nat) : Int) := by omega
      have e3 : (((most : Nat) : Int) - 1).fdiv ((s.2 : Nat) : Int) = (((most - 1) / s.2 : Nat) : Int) := by
        rw [hml, Int.fdiv_eq_ediv_of_nonneg _ (by omega)]
        rfl
      have hdiv : (most - 1) / s.2 < M := Nat.lt_of_le_of_lt (Nat.div_le_self _ _) (by omega)
      refine ⟨_, rfl, _, rfl, _, rfl, _, rfl, _, rfl, _, _, rfl, rfl, _, rfl, _, _, rfl, rfl, ⟨by omega, by omega⟩, ?_⟩
      refine ⟨p, al, sl, ls, svs, ss, (most - 1) / s.2, by rw [← e3], pn', nal, nsl, b' _ _ nal hL, bar_seq b' nsl hS, hSh.stay (bar_stay b' hp pn'), hM, hdiv, fun H2 v k b2 pn2 hk2 hof hnd => ?_⟩
      refine ⟨by show 1 ≤ sizeLine; decide, fun t2 ht2 => ?_⟩
      have st2 : Stay K H' (upd H2 t2 (.tup [v])) := (bar_stay b2 pn' pn2).trans (stay_new ht2 _)
      have hxl := Kps.length hk'
      refine ⟨F', t2, _, _, rfl, rfl, st2.tup _ _ hF', .inl (.inl upd_same), by simp, by rw [List.length_cons, List.length_singleton]; exact sz5 (by omega), fun z => (by cases z), fun _ p3 hp3 => ?_⟩
      have st3 : Stay K (upd H2 t2 (.tup [v])) (upd (upd H2 t2 (.tup [v])) p3 (.tup ((.str s.1 :: xs) ++ [v]))) := stay_new hp3 _
      refine ⟨p3, xs ++ [v], ks ++ [k], _, _, rfl, b'.trans (b2.trans (bar_same ((same_new ht2 _).trans (same_new hp3 _)))), pn2.same ((same_new ht2 _).trans (same_new hp3 _)), .inl (.inl upd_same), Kps.app (ThAll.stay (st2.trans st3) hk') (.cons (hk2.stay ((stay_new ht2 _).trans st3)) .nil), by rw [List.length_append, hl']; rfl, fun z hz => ?_⟩
      rcases List.mem_append.mp hz with h | h
      · exact hall z h
      · rw [List.mem_singleton.mp h]
        exact ⟨hof, hnd⟩
    · subst eσ
      have hl2 : ks.length = s.2 := by omega
      have hl3 : ks.length ≤ 2 := by omega
      refine ⟨_, rfl, q H' _ (mkK s.1 ks) b' pn' ?_ ?_ ?_⟩
      · refine kp_mk (xs := xs) (mkK_nm _ _).2 ?_ ?_ ?_
        · rw [(mkK_nm s.1 ks).1]
          exact hF'
        · rw [(mkK_nm s.1 ks).1]
          exact nam_len hsm.1
        · rw [mkK_args _ _ hl3]
          exact hk'
      · refine mkK_of hl3 ?_ fun k hk => (hall k hk).1
        rw [hl2]
        exact hs3
      · refine mkK_nds hl3 (by omega) fun k hk => ?_
        rw [hl2]
        exact (hall k hk).2
  · refine iteE (by cases ls <;> simp at *) ?_
    refine ⟨_, rfl, p, 3, rfl, hp1.same so, by decide, by decide, fun Hx r bd hpx r0 r1 => ⟨rfl, _, rfl, ite2 (fun c => ?_) (fun c => ?_)⟩⟩
    · have bx : Bar p H Hx := b1.trans ((bar_same so).trans bd)
      have hLx : Hx al = some (.lst (ls.map .str)) := bx _ _ nal hL
      have hDx : Hx D = some (.lst acc) := bd _ _ nDp (so _ _ hacc)
      have hkx := ThAll.stay ((stay_same so).trans (bar_stay bd (hp1.same so) hpx)) hk
      refine ⟨_, rfl, _, rfl, _, rfl, al, al, _, _, rfl, rfl, hLx, hLx, ?_, fun o1 h1 => ?_⟩
      · rw [List.length_map]
        have := hM.ll
        exact sz5 (by omega)
      have nD1 : D ≠ o1 := ne_of_none hDx h1
      refine ⟨_, rfl, o1, D, _, _, rfl, rfl, upd_same, by rw [upd_ne nD1]; exact hDx, ?_, fun o2 h2 => ?_⟩
      · have h3 := Kps.length hkx
        have h4 := hM.ll
        have h5 := hbare
        rw [List.length_append, List.length_map]
        exact sz5 (by omega)
      have sx2 : Same _ _ := (same_new h1 _).trans (same_new h2 (.lst ((ls.map V.str ++ ls.map V.str) ++ acc)))
      have no2 : o2 ≠ p := fun e => by
        subst e
        obtain ⟨_, _, _, e, _⟩ := hpx.same (same_new h1 _)
        rw [h2] at e
        cases e
      refine ⟨p, o2, _, rfl, hpx.same sx2, no2, SqL.of upd_same, ?_, ?_, fun H' x b pn hx => ?_⟩
      · rw [List.length_append, List.length_append, List.length_map]
        have h3 := Kps.length hkx
        omega
      · rw [List.length_append, List.length_append, List.length_map]
        have h3 := Kps.length hkx
        have h4 := hM.ll
        omega
      · have hall : Kps K H' ((ls.map V.str ++ ls.map V.str) ++ acc) ((ls.map Kd.L ++ ls.map Kd.L) ++ bareK ss) :=
          Kps.app (Kps.app (kps_letters hM.l) (kps_letters hM.l)) (ThAll.stay ((stay_same sx2).trans (bar_stay b (hpx.same sx2) pn)) hkx)
        obtain ⟨k, hk1, hk2⟩ := Kps.mem hall hx
        refine q H' x k (bx.trans ((bar_same sx2).trans b)) pn hk2 ?_ ?_
        · rcases List.mem_append.mp hk1 with h | h
          · have h' : k ∈ ls.map Kd.L := by rcases List.mem_append.mp h with h | h <;> exact h
            obtain ⟨c, hc, rfl⟩ := List.mem_map.mp h'
            exact hc
          · unfold bareK at h
            obtain ⟨s, hs, rfl⟩ := List.mem_map.mp h
            obtain ⟨hs1, hs2⟩ := List.mem_filter.mp hs
            have hs3 : s.2 = 0 := by simpa using hs2
            show (s.1, 0) ∈ ss
            rw [← hs3]
            exact hs1
        · rcases List.mem_append.mp hk1 with h | h
          · have h' : k ∈ ls.map Kd.L := by rcases List.mem_append.mp h with h | h <;> exact h
            obtain ⟨c, hc, rfl⟩ := List.mem_map.mp h'
            simp [Kd.nds]
          · unfold bareK at h
            obtain ⟨s, hs, rfl⟩ := List.mem_map.mp h
            simp [Kd.nds]
    · have bx : Bar p H Hx := b1.trans ((bar_same so).trans bd)
      have hSx := bar_seq bx nsl hS
      have hShx := hSh.stay (bar_stay (K := K) bx hp hpx)
      refine ⟨_, rfl, sl, rfl, ⟨svs, hSx⟩, fun D2 hD2 => ?_⟩
      refine lc_list (K := K) (a := sl) (xs := svs) (fun i H' => ∃ acc2 ss2, Same Hx H' ∧ H' D2 = some (.lst acc2) ∧ Shp K H' acc2 ss2 ∧ (∀ s ∈ ss2, s ∈ ss ∧ s.2 < most) ∧ (∀ s ∈ ss.take i, s.2 < most → s ∈ ss2) ∧ acc2.length ≤ i) ⟨[], [], same_new hD2 _, upd_same, .nil, fun s h => (by cases h), fun s h => (by simp at h), Nat.le_refl _⟩ (fun i H' _ ⟨acc2, ss2, sm2, _⟩ => sm2.seq hSx) (fun i x H' hx ⟨acc2, ss2, sm2, hacc2, hs2, h3, h4, h5⟩ => ?_) (fun Hy ⟨acc2, ss2, sm2, hacc2, hs2, h3, h4, h5⟩ => ?_)
      · obtain ⟨s, hs, t, rfl, ht⟩ := hShx.at hx
        have hi : i < svs.length := (List.getElem?_eq_some_iff.mp hx).1
        have htk : ss.take (i + 1) = ss.take i ++ [s] := by rw [List.take_add_one, hs]; rfl
        refine ⟨rfl, _, rfl, t, _, 1, .int (s.2 : Nat), rfl, rfl, (stay_same sm2).tup _ _ ht, atI_nat (j := 1) rfl, _, rfl, _, _, rfl, rfl, _, rfl, ite2 (fun c => ?_) (fun c => ?_)⟩
        · have c0 : s.2 < most := by have := of_decide_eq_true c; omega
          refine ⟨_, rfl, acc2, hacc2, ?_, acc2 ++ [.ref t], ss2 ++ [s], same_mut sm2 hD2, upd_same, ?_, ?_, ?_, ?_⟩
          · have := hM.sl
            have : svs.length = ss.length := Paired.length hSh
            exact Nat.lt_of_le_of_lt (show acc2.length ≤ 100000 by omega) (by decide)
          · exact Shp.app (hs2.stay (stay_lst hacc2)) (.cons ⟨t, rfl, (stay_lst hacc2).tup _ _ ((stay_same sm2).tup _ _ ht)⟩ .nil)
          · intro z hz
            rcases List.mem_append.mp hz with h | h
            · exact h3 z h
            · rw [List.mem_singleton.mp h]
              exact ⟨List.mem_of_getElem? hs, c0⟩
          · intro z hz hz2
            rw [htk] at hz
            rcases List.mem_append.mp hz with h | h
            · exact List.mem_append_left _ (h4 z h hz2)
            · exact List.mem_append_right _ h
          · rw [List.length_append, List.length_singleton]; omega
        · have c0 : ¬ s.2 < most := fun z => c (decide_eq_true (by omega))
          refine ⟨acc2, ss2, sm2, hacc2, hs2, h3, ?_, by omega⟩
          intro z hz hz2
          rw [htk] at hz
          rcases List.mem_append.mp hz with h | h
          · exact h4 z h hz2
          · rw [List.mem_singleton.mp h] at hz2
            exact absurd hz2 c0
      rw [hss, List.take_length] at h4
      have hlen2 : acc2.length = ss2.length := Paired.length hs2
      have hpos : 0 < ss2.length := by
        obtain ⟨n, hn⟩ := hM.z
        exact List.length_pos_of_mem (h4 (n, 0) hn (by show 0 < most; omega))
      have nD2 : D2 ≠ p := fun e => by
        subst e
        obtain ⟨_, _, _, e, _⟩ := hpx
        rw [hD2] at e
        cases e
      refine ⟨_, rfl, _, rfl, p, D2, _, rfl, hpx.same sm2, nD2, SqL.of hacc2, by omega, by have := hM.sl; omega, fun Hz x bz pnz hx => ?_⟩
      obtain ⟨j, hj⟩ := List.mem_iff_getElem?.mp hx
      obtain ⟨s, hs, t, rfl, ht⟩ := (hs2.stay (bar_stay (K := K) bz (hpx.same sm2) pnz)).at hj
      obtain ⟨hs3, hs4⟩ := h3 s (List.mem_of_getElem? hs)
      have hsm := hM.s s hs3
      refine ⟨t, _, rfl, ht, rfl, .str s.1, [.int (s.2 : Nat)], rfl, .int (s.2 : Nat), [], rfl, rfl, ?_⟩
      refine ⟨_, rfl, by show 1 ≤ sizeLine; decide, fun F hF => ?_⟩
      have bz2 : Bar p H Hz := bx.trans ((bar_same sm2).trans bz)
      refine ⟨_, rfl, _, rfl, by omega, by omega, ?_⟩
      refine for_range (n := ((s.2 : Nat) : Int).toNat) (fun i σ H' => ∃ F' xs ks y8 y10, σ = [some (.ref p), some (.ref al), some (.ref sl), some (.int (most : Nat)), some (.ref D), some (.str s.1), some (.int (s.2 : Nat)), some (.ref D2), y8, some (.ref F'), y10] ∧ Bar p H H' ∧ Pen H' p ∧
          SqT K H' F' (.str s.1 :: xs) ∧ Kps K H' xs ks ∧ ks.length = i ∧ ∀ k ∈ ks, k.of ls ss ∧ k.nds ≤ 2 * ((most - 1) / s.2) + 1)
        ⟨F, [], [], _, _, rfl, bz2.trans (bar_same (same_new hF _)), pnz.same (same_new hF _), .inl (.inl upd_same), .nil, rfl, fun k h => (by cases h)⟩ (fun i σ H' hi ⟨F', xs, ks, y8, y10, eσ, b', pn', hF', hk', hl', hall⟩ => ?_) (fun σ H' ⟨F', xs, ks, y8, y10, eσ, b', pn', hF', hk', hl', hall⟩ => ?_)
      · subst eσ
        have hc1 : 0 < s.2 := by omega
        have hml : ((most : Nat) : Int) - 1 = ((most - 1 : Nat) : Int) := by omega
        have e3 : (((most : Nat) : Int) - 1).fdiv ((s.2 : Nat) : Int) = (((most - 1) / s.2 : Nat) : Int) := by
          rw [hml, Int.fdiv_eq_ediv_of_nonneg _ (by omega)]
          rfl
        have hdiv : (most - 1) / s.2 < M := Nat.lt_of_le_of_lt (Nat.div_le_self _ _) (by omega)
        refine ⟨_, rfl, _, rfl, _, rfl, _, rfl, _, rfl, _, _, rfl, rfl, _, rfl, _, _, rfl, rfl, ⟨by omega, by omega⟩, ?_⟩
        refine ⟨p, al, sl, ls, svs, ss, (most - 1) / s.2, by rw [← e3], pn', nal, nsl, b' _ _ nal hL, bar_seq b' nsl hS, hSh.stay (bar_stay b' hp pn'), hM, hdiv, fun H2 v k b2 pn2 hk2 hof hnd => ?_⟩
        refine ⟨by show 1 ≤ sizeLine; decide, fun t2 ht2 => ?_⟩
        have st2 : Stay K H' (upd H2 t2 (.tup [v])) := (bar_stay b2 pn' pn2).trans (stay_new ht2 _)
        have hxl := Kps.length hk'
        refine ⟨F', t2, _, _, rfl, rfl, st2.tup _ _ hF', .inl (.inl upd_same), by simp, by rw [List.length_cons, List.length_singleton]; exact sz5 (by omega), fun z => (by cases z), fun _ p3 hp3 => ?_⟩
        have st3 : Stay K (upd H2 t2 (.tup [v])) (upd (upd H2 t2 (.tup [v])) p3 (.tup ((.str s.1 :: xs) ++ [v]))) := stay_new hp3 _
        refine ⟨p3, xs ++ [v], ks ++ [k], _, _, rfl, b'.trans (b2.trans (bar_same ((same_new ht2 _).trans (same_new hp3 _)))), pn2.same ((same_new ht2 _).trans (same_new hp3 _)), .inl (.inl upd_same), Kps.app (ThAll.stay (st2.trans st3) hk') (.cons (hk2.stay ((stay_new ht2 _).trans st3)) .nil), by rw [List.length_append, hl']; rfl, fun z hz => ?_⟩
        rcases List.mem_append.mp hz with h | h
        · exact hall z h
        · rw [List.mem_singleton.mp h]
          exact ⟨hof, hnd⟩
      · subst eσ
        have hl2 : ks.length = s.2 := by omega
        have hl3 : ks.length ≤ 2 := by omega
        refine ⟨_, rfl, q H' _ (mkK s.1 ks) b' pn' ?_ ?_ ?_⟩
        · refine kp_mk (xs := xs) (mkK_nm _ _).2 ?_ ?_ ?_
          · rw [(mkK_nm s.1 ks).1]
            exact hF'
          · rw [(mkK_nm s.1 ks).1]
            exact nam_len hsm.1
          · rw [mkK_args _ _ hl3]
            exact hk'
        · refine mkK_of hl3 ?_ fun k hk => (hall k hk).1
          rw [hl2]
          exact hs3
        · refine mkK_nds hl3 (by omega) fun k hk => ?_
          rw [hl2]
          exact (hall k hk).2
end
end N

namespace N
open PySem PySem.Spec PyProof.Rows L2
section
variable {P : Program} {w : World} {K : PySem.W.Frag} {mg : Str → Option Value} {base : Heap}
theorem ok_kind (G : Glo mg) (CD : Cal P w K mg base 1 "_law_draw" ["_law_pen_here", "_law_many"] (spDraw K)) (CP : Cal P w K mg base 2 "_law_pick" ["_law_pen_here", "_law_some"] (spPick K))
    (D : DefAt K mg "_law_kind" s_Lkind ["_law_pen_here", "_law_letters", "_law_shapes", "_law_most"]) : ∀ M : Nat, Cal P w K mg base (M + 2) "_law_kind" ["_law_pen_here", "_law_letters", "_law_shapes", "_law_most"] (spKind K M)
  | 0 => kind_none D
  | M + 1 => ok_kind_step G CD CP (ok_kind G CD CP D M) D
end
end N

namespace N
open PySem PySem.Spec PyProof.Rows L2 StX
/-! ### kinds as data -/
def Kd.pd : Kd → PyData
  | L c => .str c
  | C0 n => .tuple [.str n]
  | C1 n a => .tuple [.str n, a.pd]
  | C2 n a b => .tuple [.str n, a.pd, b.pd]
theorem eqv_pd : ∀ a b : Kd, PyData.eqv a.pd b.pd = decide (a = b)
  | .L c, .L d => by
    simp only [Kd.pd, PyData.eqv]
    by_cases h : c = d
    · subst h; simp
    · rw [decide_eq_false (fun z => h (Kd.L.inj z))]
      simp [h]
  | .L c, .C0 _ => by simp [Kd.pd, PyData.eqv]
  | .L c, .C1 _ _ => by simp [Kd.pd, PyData.eqv]
  | .L c, .C2 _ _ _ => by simp [Kd.pd, PyData.eqv]
  | .C0 _, .L c => by simp [Kd.pd, PyData.eqv]
  | .C1 _ _, .L c => by simp [Kd.pd, PyData.eqv]
  | .C2 _ _ _, .L c => by simp [Kd.pd, PyData.eqv]
  | .C0 n, .C0 m => by
    simp only [Kd.pd, PyData.eqv, PyData.eqvAll]
    by_cases h : n = m
    · subst h; simp
    · rw [decide_eq_false (fun z => h (Kd.C0.inj z))]
      simp [h]
  | .C0 n, .C1 m _ => by simp [Kd.pd, PyData.eqv, PyData.eqvAll]
  | .C0 n, .C2 m _ _ => by simp [Kd.pd, PyData.eqv, PyData.eqvAll]
  | .C1 n _, .C0 m => by simp [Kd.pd, PyData.eqv, PyData.eqvAll]
  | .C2 n _ _, .C0 m => by simp [Kd.pd, PyData.eqv, PyData.eqvAll]
  | .C1 n a, .C1 m b => by
    simp only [Kd.pd, PyData.eqv, PyData.eqvAll]
    rw [eqv_pd a b]
    by_cases h : n = m
    · subst h
      by_cases h2 : a = b
      · subst h2; simp
      · rw [decide_eq_false h2, decide_eq_false (fun z => h2 (Kd.C1.inj z).2)]
        simp
    · rw [decide_eq_false (fun z => h (Kd.C1.inj z).1)]
      simp [h]
  | .C1 n _, .C2 m _ _ => by simp [Kd.pd, PyData.eqv, PyData.eqvAll]
  | .C2 n _ _, .C1 m _ => by simp [Kd.pd, PyData.eqv, PyData.eqvAll]
  | .C2 n a b, .C2 m c d => by
    simp only [Kd.pd, PyData.eqv, PyData.eqvAll]
    rw [eqv_pd a c, eqv_pd b d]
    by_cases h : n = m
    · subst h
      by_cases h2 : a = c
      · subst h2
        by_cases h3 : b = d
        · subst h3; simp
        · rw [decide_eq_false h3, decide_eq_false (fun z => h3 (Kd.C2.inj z).2.2)]
          simp
      · rw [decide_eq_false h2, decide_eq_false (fun z => h2 (Kd.C2.inj z).2.1)]
        simp
    · rw [decide_eq_false (fun z => h (Kd.C2.inj z).1)]
      simp [h]
theorem pd_lay : ∀ {k : Kd}, k.ok → k.pd.canLay0 = true
  | .L c, h => by simp [Kd.pd, PyData.canLay0, let_strOk (show isLet c = true from h)]
  | .C0 n, h => by simp [Kd.pd, PyData.canLay0, PyData.canLayAll0, nam_strOk (show isNam n = true from h)]
  | .C1 n a, h => by simp [Kd.pd, PyData.canLay0, PyData.canLayAll0, nam_strOk h.1, pd_lay h.2]
  | .C2 n a b, h => by simp [Kd.pd, PyData.canLay0, PyData.canLayAll0, nam_strOk h.1, pd_lay h.2.1, pd_lay h.2.2]
theorem pd_depth : ∀ k : Kd, k.pd.depth ≤ k.depth + 1
  | .L c => by simp [Kd.pd, PyData.depth, Kd.depth]
  | .C0 n => by simp [Kd.pd, PyData.depth, PyData.depthAll, Kd.depth]
  | .C1 n a => by
    have := pd_depth a
    simp only [Kd.pd, PyData.depth, PyData.depthAll, Kd.depth]
    omega
  | .C2 n a b => by
    have := pd_depth a
    have := pd_depth b
    simp only [Kd.pd, PyData.depth, PyData.depthAll, Kd.depth]
    omega
theorem pd_shaped {k : Kd} (h : k.ok) (hd : k.depth ≤ 60) : SeqAt.shaped k.pd = true := by
  show (PyData.canLay0 _ && decide (PyData.depth _ ≤ 64)) = true
  have := pd_depth k
  rw [Bool.and_eq_true, decide_eq_true_eq]
  exact ⟨pd_lay h, by omega⟩
theorem kp_dp {K : PySem.W.Frag} {H : Hp} : ∀ {k : Kd} {v : V}, Kp K H v k → Dp K H v k.pd
  | .L c, v, h => by
    obtain ⟨e, _⟩ := kp_L h rfl
    rw [e]
    exact .str c
  | .C0 n, v, h => by
    obtain ⟨a, xs, e, hq, _, r⟩ := kp_C h rfl
    rw [e]
    cases r
    exact .tup hq (.cons (.str n) .nil)
  | .C1 n b, v, h => by
    obtain ⟨a, xs, e, hq, _, r⟩ := kp_C h rfl
    rw [e]
    cases r with
    | cons h1 t =>
      cases t
      exact .tup hq (.cons (.str n) (.cons (kp_dp h1) .nil))
  | .C2 n b c, v, h => by
    obtain ⟨a, xs, e, hq, _, r⟩ := kp_C h rfl
    rw [e]
    cases r with
    | cons h1 t =>
      cases t with
      | cons h2 t =>
        cases t
        exact .tup hq (.cons (.str n) (.cons (kp_dp h1) (.cons (kp_dp h2) .nil)))
/-- every letter is one of these -/
def Kd.lets (ls : List Str) : Kd → Prop
  | L c => c ∈ ls
  | C0 _ => True
  | C1 _ a => a.lets ls
  | C2 _ a b => a.lets ls ∧ b.lets ls
theorem of_lets {ls : List Str} {ss : List (Str × Nat)} : ∀ {k : Kd}, k.of ls ss → k.lets ls
  | .L _, h => h
  | .C0 _, _ => trivial
  | .C1 _ a, h => of_lets (k := a) (ss := ss) (show a.of ls ss from h.2)
  | .C2 _ a b, h => ⟨of_lets (k := a) (ss := ss) (show a.of ls ss from h.2.1), of_lets (k := b) (ss := ss) (show b.of ls ss from h.2.2)⟩
theorem depth_nds : ∀ k : Kd, k.depth ≤ k.nds
  | .L _ => Nat.zero_le _
  | .C0 _ => Nat.le_refl _
  | .C1 _ a => by
    have := depth_nds a
    simp only [Kd.depth, Kd.nds]; omega
  | .C2 _ a b => by
    have := depth_nds a
    have := depth_nds b
    simp only [Kd.depth, Kd.nds]; omega
theorem fill_nil : ∀ k : Kd, fillK [] k = k
  | .L _ => rfl
  | .C0 _ => rfl
  | .C1 _ a => by simp [fillK, fill_nil a]
  | .C2 _ a b => by simp [fillK, fill_nil a, fill_nil b]
theorem look_mem {m : Map} {c : Str} (h : c ∈ m.map Prod.fst) : ∃ p ∈ m, p.1 = c ∧ look m c = p.2 := by
  induction m with
  | nil => cases h
  | cons p m ih =>
    by_cases e : p.1 = c
    · refine ⟨p, List.mem_cons_self, e, ?_⟩
      unfold look
      rw [List.find?_cons_of_pos (by simpa using e)]
    · rcases List.mem_cons.mp h with h | h
      · exact absurd h.symm e
      · obtain ⟨p', h1, h2, h3⟩ := ih h
        refine ⟨p', List.mem_cons_of_mem _ h1, h2, ?_⟩
        unfold look at h3 ⊢
        rw [List.find?_cons_of_neg (by simpa using e)]
        exact h3
theorem look_map {f : Kd → Kd} {m : Map} {c : Str} (h : c ∈ m.map Prod.fst) : look (m.map fun p => (p.1, f p.2)) c = f (look m c) := by
  induction m with
  | nil => cases h
  | cons p m ih =>
    by_cases e : p.1 = c
    · unfold look
      rw [List.map_cons, List.find?_cons_of_pos (by simpa using e), List.find?_cons_of_pos (by simpa using e)]
    · rcases List.mem_cons.mp h with h | h
      · exact absurd h.symm e
      · have := ih h
        unfold look at this ⊢
        rw [List.map_cons, List.find?_cons_of_neg (by simpa using e), List.find?_cons_of_neg (by simpa using e)]
        exact this
theorem fill_fill {m1 m2 : Map} : ∀ {k : Kd}, k.lets (m1.map Prod.fst) → fillK m2 (fillK m1 k) = fillK (m1.map fun p => (p.1, fillK m2 p.2)) k
  | .L c, h => by
    show fillK m2 (look m1 c) = look _ c
    rw [look_map h]
  | .C0 _, _ => rfl
  | .C1 _ a, h => by simp [fillK, fill_fill (k := a) h]
  | .C2 _ a b, h => by simp [fillK, fill_fill (k := a) h.1, fill_fill (k := b) h.2]
theorem fill_id {m : Map} (hm : ∀ p ∈ m, p.2 = .L p.1) : ∀ k : Kd, fillK m k = k
  | .L c => by
    show look m c = .L c
    unfold look
    cases h : m.find? (fun p => decide (p.1 = c)) with
    | none => rfl
    | some p =>
      have h1 := List.mem_of_find?_eq_some h
      have h2 := List.find?_some h
      have h3 : p.1 = c := by simpa using h2
      show p.2 = _
      rw [hm p h1, h3]
  | .C0 _ => rfl
  | .C1 _ a => by simp [fillK, fill_id hm a]
  | .C2 _ a b => by simp [fillK, fill_id hm a, fill_id hm b]
theorem fill_bounds {m : Map} {X Y : Nat} (hm : ∀ p ∈ m, p.2.depth ≤ X ∧ p.2.nds ≤ Y) (hY : 1 ≤ Y) : ∀ {k : Kd}, k.lets (m.map Prod.fst) → k.depth ≤ (fillK m k).depth ∧ k.size ≤ (fillK m k).size ∧ (fillK m k).depth ≤ k.depth + X ∧ (fillK m k).nds ≤ k.nds * Y
  | .L c, h => by
    obtain ⟨p, h1, h2, h3⟩ := look_mem h
    have := hm p h1
    show 0 ≤ (look m c).depth ∧ 0 ≤ (look m c).size ∧ (look m c).depth ≤ 0 + X ∧ (look m c).nds ≤ 1 * Y
    rw [h3]
    refine ⟨Nat.zero_le _, Nat.zero_le _, by omega, by omega⟩
  | .C0 n, _ => by
    refine ⟨Nat.le_refl _, Nat.le_refl _, by show 1 ≤ 1 + X; omega, by show 1 ≤ 1 * Y; omega⟩
  | .C1 n a, h => by
    obtain ⟨h1, h2, h3, h4⟩ := fill_bounds hm hY (k := a) h
    simp only [fillK, Kd.depth, Kd.size, Kd.nds, Nat.add_mul, Nat.one_mul]
    refine ⟨by omega, by omega, by omega, by omega⟩
  | .C2 n a b, h => by
    obtain ⟨h1, h2, h3, h4⟩ := fill_bounds hm hY (k := a) h.1
    obtain ⟨g1, g2, g3, g4⟩ := fill_bounds hm hY (k := b) h.2
    simp only [fillK, Kd.depth, Kd.size, Kd.nds, Nat.add_mul, Nat.one_mul]
    refine ⟨by omega, by omega, by omega, by omega⟩
theorem fill_ok {m : Map} (hm : ∀ p ∈ m, p.2.ok) : ∀ {k : Kd}, k.ok → (fillK m k).ok
  | .L c, h => by
    show (look m c).ok
    unfold look
    cases h' : m.find? (fun p => decide (p.1 = c)) with
    | none => exact h
    | some p => exact hm p (List.mem_of_find?_eq_some h')
  | .C0 _, h => h
  | .C1 _ a, h => ⟨h.1, fill_ok hm h.2⟩
  | .C2 _ a b, h => ⟨h.1, fill_ok hm h.2.1, fill_ok hm h.2.2⟩
end N

namespace N
open PySem PySem.Spec PyProof.Rows L2 StX
section
variable {P : Program} {w : World} {K : PySem.W.Frag} {mg : Str → Option Value} {base : Heap}
def xyz : List Str := ["X", "Y", "Z"]
theorem xyz_let : ∀ c ∈ xyz, isLet c = true := by decide +kernel
theorem putK_new {κ : Type} [DecidableEq κ] {kvs : List (κ × V)} {k : κ} {v : V} (h : ∀ p ∈ kvs, p.1 ≠ k) : putK kvs k v = kvs ++ [(k, v)] := by
  unfold putK
  rw [if_neg]
  rw [List.any_eq_true]
  rintro ⟨p, hp, e⟩
  exact h p hp (of_decide_eq_true e)
/-- the pairs of a dict, and the map that they say -/
abbrev Prs (K : PySem.W.Frag) (H : Hp) (kvs : List (Key × V)) (m : Map) : Prop := Paired (fun (p : Key × V) (q : Str × Kd) => p.1 = Sum.inr q.1 ∧ Kp K H p.2 q.2) kvs m
theorem Prs.stay {H H' : Hp} {kvs : List (Key × V)} {m : Map} (s : Stay K H H') (h : Prs K H kvs m) : Prs K H' kvs m := Paired.mapP h fun p q z => ⟨z.1, z.2.stay s⟩
theorem Prs.keys {H : Hp} : ∀ {kvs : List (Key × V)} {m : Map} {c : Str}, Prs K H kvs m → c ∉ m.map Prod.fst → ∀ p ∈ kvs, p.1 ≠ Sum.inr c
  | _, _, c, .nil, _, p, hp => by cases hp
  | _, _, c, .cons (b := q) r t, h, p, hp => by
    rcases List.mem_cons.mp hp with e | hp
    · rw [e, r.1]
      intro z
      exact h (by rw [List.map_cons, ← Sum.inr.inj z]; exact List.mem_cons_self)
    · exact Prs.keys t (fun z => h (by rw [List.map_cons]; exact List.mem_cons_of_mem _ z)) p hp
theorem Paired.snoc {α β : Type} {F : α → β → Prop} {a : α} {b : β} : ∀ {l : List α} {r : List β}, Paired F l r → F a b → Paired F (l ++ [a]) (r ++ [b])
  | _, _, .nil, h => .cons h .nil
  | _, _, .cons x t, h => .cons x (Paired.snoc t h)
theorem stay_dk {H : Hp} {d : Addr} {kvs kvs' : List (Key × V)} (h : H d = some (.dK kvs)) : Stay K H (upd H d (.dK kvs')) where
  tup := fun a xs q => by
    rcases q with (q | ⟨o', q⟩) | q
    · refine .inl (.inl ?_)
      rw [upd_ne (ne_of q h (by intro z; cases z))]
      exact q
    · refine .inl (.inr ⟨o', ?_⟩)
      rw [upd_ne (ne_of q h (by intro z; cases z))]
      exact q
    · exact .inr q
  ty := fun v t q => by
    have k : ∀ a o', H a = some o' → o' ≠ .dK kvs → (upd H d (.dK kvs')) a = some o' := fun a o' e n => by
      rw [upd_ne (ne_of e h n)]
      exact e
    cases q with
    | base b =>
      cases b with
      | non => exact .base .non
      | bl x => exact .base (.bl x)
      | int i => exact .base (.int i)
      | str x => exact .base (.str x)
      | flt x => exact .base (.flt x)
      | lst e => exact .base (.lst (k _ _ e (by intro z; cases z)))
      | frz e => exact .base (.frz (k _ _ e (by intro z; cases z)))
      | tup e => exact .base (.tup (k _ _ e (by intro z; cases z)))
      | @dK a kvs2 e =>
        by_cases ea : a = d
        · subst ea
          exact .base (.dK upd_same)
        · exact .base (.dK (by rw [upd_ne ea]; exact e))
      | dT e => exact .base (.dT (k _ _ e (by intro z; cases z)))
      | ins e cl ha hn htk hm => exact .base (.ins (k _ _ e (by intro z; cases z)) cl ha hn htk hm)
    | byt b => exact .byt b
    | set e => exact .set (k _ _ e (by intro z; cases z))
    | kList e c => exact .kList e c
    | kTuple e c => exact .kTuple e c
    | kDict e c => exact .kDict e c
    | fTuple e => exact .fTuple (k _ _ e (by intro z; cases z))
    | fDict e => exact .fDict (k _ _ e (by intro z; cases z))
theorem pen_dk {H : Hp} {d p : Addr} {o : HO} (n : d ≠ p) (h : Pen H p) : Pen (upd H d o) p := by
  obtain ⟨i, j, k, e, r⟩ := h
  exact ⟨i, j, k, by rw [upd_ne n.symm]; exact e, r⟩
structure HeldOk (ss : List (Str × Nat)) (m : Map) : Prop where
  keys : m.map Prod.fst = xyz
  of : ∀ q ∈ m, q.2.of xyz ss ∧ q.2.nds ≤ 9
def spHeld (K : PySem.W.Frag) : Sp := fun vs H Q _ => ∃ (p sl : Addr) (svs : List V) (ss : List (Str × Nat)), vs = [.ref p, .ref sl] ∧ Pen H p ∧ sl ≠ p ∧ SqL K H sl svs ∧ Shp K H svs ss ∧ Men xyz ss ∧
  ∀ H' d m, Bar p H H' → Pen H' p → H d = none → Held K H' d m → HeldOk ss m → Q (.ref d) H'
theorem ok_held (CD : Cal P w K mg base 1 "_law_draw" ["_law_pen_here", "_law_many"] (spDraw K)) (CK : Cal P w K mg base 7 "_law_kind" ["_law_pen_here", "_law_letters", "_law_shapes", "_law_most"] (spKind K 5))
    (D : DefAt K mg "_law_held" s_Lheld ["_law_pen_here", "_law_shapes"]) : Cal P w K mg base 8 "_law_held" ["_law_pen_here", "_law_shapes"] (spHeld K) := by
  refine D.cal sc_Lheld (fun vs H Q E h => ?_) (fun f cdv A outer s H vs Q E hr h => ?_)
  · obtain ⟨p, sl, svs, ss, rfl, _⟩ := h
    rfl
  obtain ⟨p, sl, svs, ss, rfl, hp, nsl, hS, hSh, hM, q⟩ := h
  refine ⟨_, pss_cons (ps_set (i := 2) sc_Lheld.nd rfl (Or.inl rfl) pe_dnewK)
    (pss_cons (ps_for (passes_of rfl) rfl (pi_list (pe_lst (pa_cons pe_str (pa_cons pe_str (pa_cons pe_str pa_nil))))) (pg_name (i := 3) sc_Lheld.nd rfl (Or.inl rfl))
      (pss_one (ps_dput (hug hr) (pv 2) (pv 3) (pc CK hr rfl (pa_cons (pv 0) (pa_cons (pe_lst (pa_cons pe_str (pa_cons pe_str (pa_cons pe_str pa_nil)))) (pa_cons (pv 1) (pa_cons (pe_op op_add pe_int (pc CD (hr.mono (by decide)) rfl (pa_cons (pv 0) (pa_cons pe_int pa_nil)))) pa_nil))))) rfl)))
    (pss_one (ps_ret (pv 2)))), ?_⟩
  refine fun dd hdd => ?_
  refine ⟨by show 3 ≤ sizeLine; decide, fun ll hll => ?_⟩
  have ndl : dd ≠ ll := ne_of_none upd_same hll
  have s0 : Same H (upd (upd H dd (.dK [])) ll (.lst (xyz.map V.str))) := (same_new hdd _).trans (same_new hll _)
  have ndp : dd ≠ p := fun e => by
    subst e
    obtain ⟨_, _, _, e, _⟩ := hp
    rw [hdd] at e
    cases e
  have nlp : ll ≠ p := fun e => by
    subst e
    obtain ⟨_, _, _, e, _⟩ := hp.same (same_new hdd (.dK []))
    rw [hll] at e
    cases e
  refine ⟨ll, rfl, ⟨xyz.map V.str, SqL.of upd_same⟩, for_list (K := K) (a := ll) (xs := xyz.map V.str) (fun i σ H' => ∃ (kvs : List (Key × V)) (m : Map) (y3 : Option V), σ = [some (.ref p), some (.ref sl), some (.ref dd), y3] ∧ Bar p H H' ∧ Pen H' p ∧ H' ll = some (.lst (xyz.map V.str)) ∧ H' dd = some (.dK kvs) ∧ Prs K H' kvs m ∧ m.map Prod.fst = xyz.take i ∧ ∀ q ∈ m, q.2.of xyz ss ∧ q.2.nds ≤ 9)
    ⟨[], [], _, rfl, bar_same s0, hp.same s0, upd_same, by rw [upd_ne ndl]; exact upd_same, .nil, rfl, fun q h => (by cases h)⟩ (fun i σ H' _ ⟨_, _, _, _, _, _, h, _⟩ => SqL.of h) (fun i x σ H' hx ⟨kvs, m, y3, eσ, b, pn, hl, hd, hpr, hmk, hmo⟩ => ?_) (fun σ H' ⟨kvs, m, y3, eσ, b, pn, hl, hd, hpr, hmk, hmo⟩ => ?_)⟩
  · subst eσ
    have hi : i < 3 := (List.getElem?_eq_some_iff.mp hx).1
    obtain ⟨c, hc, rfl⟩ : ∃ c, xyz[i]? = some c ∧ x = .str c := by
      rw [List.getElem?_map] at hx
      cases h : xyz[i]? with
      | none => rw [h] at hx; cases hx
      | some c => rw [h] at hx; exact ⟨c, rfl, (Option.some.inj hx).symm⟩
    have hnew : c ∉ m.map Prod.fst := by
      rw [hmk]
      have h3 : ∀ i : Fin 3, ∀ c, xyz[i.1]? = some c → c ∉ xyz.take i.1 := by
        have : ∀ i : Fin 3, (xyz[i.1]?.map fun c => decide (c ∉ xyz.take i.1)) = some true := by decide +kernel
        intro i c hc
        have := this i
        rw [hc] at this
        exact of_decide_eq_true (Option.some.inj this)
      exact h3 ⟨i, hi⟩ c hc
    have hkl : kvs.length ≤ 3 := by
      have h1 := Paired.length hpr
      have h2 := congrArg List.length hmk
      rw [List.length_map, List.length_take] at h2
      omega
    refine ⟨_, rfl, by show 3 ≤ sizeLine; decide, fun l2 hl2 => ?_⟩
    have n2p : l2 ≠ p := fun e => by
      subst e
      obtain ⟨_, _, _, e, _⟩ := pn
      rw [hl2] at e
      cases e
    have s2 := same_new hl2 (.lst (xyz.map V.str))
    refine ⟨_, rfl, _, rfl, p, 4, rfl, pn.same s2, by decide, by decide, fun H2 r b2 pn2 r0 r1 => ?_⟩
    have b3 : Bar p H H2 := b.trans ((bar_same s2).trans b2)
    have hr4 : (1 : Int) + r = ((1 + r.toNat : Nat) : Int) := by omega
    have hL2 : H2 l2 = some (.lst (xyz.map V.str)) := b2 _ _ n2p upd_same
    refine ⟨_, _, rfl, rfl, p, l2, sl, xyz, svs, ss, 1 + r.toNat, by rw [← hr4], pn2, n2p, nsl, hL2, bar_seq b3 nsl hS, hSh.stay (bar_stay b3 hp pn2), hM, by omega, fun H3 v k b4 pn3 hk hof hnd => ?_⟩
    have b5 : Bar p H' H3 := (bar_same s2).trans (b2.trans b4)
    have hd3 : H3 dd = some (.dK kvs) := b5 _ _ ndp hd
    refine ⟨_, rfl, _, rfl, dd, _, rfl, DPut.k (k := Sum.inr c) hd3 (Nat.lt_of_le_of_lt (show _ ≤ 100000 by omega) (by decide)), ?_⟩
    rw [putK_new (hpr.keys hnew)]
    have stK : Stay K H' H3 := bar_stay b5 pn pn3
    have stD : Stay K H3 (upd H3 dd (.dK (kvs ++ [(Sum.inr c, v)]))) := stay_dk hd3
    have hl3 : H3 ll = some (.lst (xyz.map V.str)) := b5 _ _ nlp hl
    refine ⟨kvs ++ [(Sum.inr c, v)], m ++ [(c, k)], _, rfl, fun x o n e => ?_, pen_dk ndp pn3, by rw [upd_ne ndl.symm]; exact hl3, upd_same, Paired.snoc (Prs.stay (stK.trans stD) hpr) ⟨rfl, hk.stay stD⟩, ?_, fun z hz => ?_⟩
    · have h1 : H3 x = some o := (b3.trans b4) x o n e
      by_cases hx : x = dd
      · subst hx
        rw [hdd] at e
        cases e
      · rw [upd_ne hx]
        exact h1
    · rw [List.map_append, hmk, take_snoc hc]
      rfl
    · rcases List.mem_append.mp hz with h | h
      · exact hmo z h
      · rw [List.mem_singleton.mp h]
        exact ⟨hof, (by omega : k.nds ≤ 9)⟩
  · subst eσ
    exact ⟨_, rfl, q H' dd m b pn hdd ⟨kvs, hd, hpr⟩ ⟨hmk, hmo⟩⟩
end
end N

namespace N
open PySem PySem.Spec PyProof.Rows L2 StX LamX NdefX
section
variable {P : Program} {w : World} {K : PySem.W.Frag} {mg : Str → Option Value} {base : Heap}
theorem tg_inj : ∀ {a b : Kd}, a.tg = b.tg → a = b
  | .L c, .L d, h => by
    have h' : Tg.str c = Tg.str d := h
    rw [Tg.str.inj h']
  | .L c, .C0 _, h => by cases h
  | .L c, .C1 _ _, h => by cases h
  | .L c, .C2 _ _ _, h => by cases h
  | .C0 _, .L c, h => by cases h
  | .C1 _ _, .L c, h => by cases h
  | .C2 _ _ _, .L c, h => by cases h
  | .C0 n, .C0 m, h => by
    have h' := Tg.tup.inj h
    simp only [List.cons.injEq, Tg.str.injEq, and_true] at h'
    rw [h']
  | .C0 _, .C1 _ _, h => by have h' := Tg.tup.inj h; simp at h'
  | .C0 _, .C2 _ _ _, h => by have h' := Tg.tup.inj h; simp at h'
  | .C1 _ _, .C0 _, h => by have h' := Tg.tup.inj h; simp at h'
  | .C2 _ _ _, .C0 _, h => by have h' := Tg.tup.inj h; simp at h'
  | .C1 _ _, .C2 _ _ _, h => by have h' := Tg.tup.inj h; simp at h'
  | .C2 _ _ _, .C1 _ _, h => by have h' := Tg.tup.inj h; simp at h'
  | .C1 n a, .C1 m b, h => by
    have h' := Tg.tup.inj h
    simp only [List.cons.injEq, Tg.str.injEq, and_true] at h'
    rw [h'.1, tg_inj h'.2]
  | .C2 n a b, .C2 m c d, h => by
    have h' := Tg.tup.inj h
    simp only [List.cons.injEq, Tg.str.injEq, and_true] at h'
    rw [h'.1, tg_inj h'.2.1, tg_inj h'.2.2]
theorem fill_lets {m : Map} {ls : List Str} (hm : ∀ p ∈ m, p.2.lets ls) : ∀ {k : Kd}, k.lets (m.map Prod.fst) → (fillK m k).lets ls
  | .L c, h => by
    obtain ⟨p, h1, h2, h3⟩ := look_mem h
    show (look m c).lets ls
    rw [h3]
    exact hm p h1
  | .C0 _, _ => trivial
  | .C1 _ a, h => fill_lets hm (k := a) h
  | .C2 _ a b, h => ⟨fill_lets hm (k := a) h.1, fill_lets hm (k := b) h.2⟩
theorem val_at {H : Hp} : ∀ {kvs : List (Key × V)} {m : Map} {i : Nat} {c : Str} {v : V}, Prs K H kvs m → (m.map Prod.fst).Nodup → kvs[i]? = some (Sum.inr c, v) → valV kvs (Sum.inr c) = some v
  | _, _, i, c, v, .nil, _, h => by simp at h
  | _, _, 0, c, v, .cons r t, _, h => by
    simp at h
    rw [h]
    exact valV_pos rfl
  | _, _, i + 1, c, v, .cons (a := p) (b := q) (l₁ := l1) (l₂ := l2) r t, hn, h => by
    have h' : l1[i]? = some (Sum.inr c, v) := by simpa using h
    obtain ⟨y, h1, h2, _⟩ := Paired.at t h'
    have hc : c = y.1 := Sum.inr.inj h2
    rw [List.map_cons, List.nodup_cons] at hn
    have hne : ¬ p.1 = Sum.inr c := fun e => by
      rw [r.1] at e
      have e' := Sum.inr.inj e
      refine hn.1 ?_
      rw [e', hc]
      exact List.mem_map.mpr ⟨y, List.mem_of_getElem? h1, rfl⟩
    rw [valV_neg hne]
    exact val_at t hn.2 h'
theorem merge_new : ∀ {kb acc : List (Key × V)}, ((acc ++ kb).map Prod.fst).Nodup → mergeK acc kb = acc ++ kb
  | [], acc, _ => by simp [mergeK]
  | p :: kb, acc, h => by
    have h1 : ∀ x ∈ acc, x.1 ≠ p.1 := fun x hx e => by
      rw [List.map_append, List.map_cons, List.nodup_append] at h
      exact h.2.2 _ (List.mem_map.mpr ⟨x, hx, rfl⟩) _ List.mem_cons_self e
    show mergeK (putK acc p.1 p.2) kb = _
    rw [putK_new h1, merge_new (by simpa using h)]
    simp
theorem prs_keys {H : Hp} : ∀ {kvs : List (Key × V)} {m : Map}, Prs K H kvs m → kvs.map Prod.fst = m.map fun q => (Sum.inr q.1 : Key)
  | _, _, .nil => rfl
  | _, _, .cons r t => by rw [List.map_cons, List.map_cons, r.1, prs_keys t]
theorem stay_unfrz {H : Hp} {d : Addr} {o : Obj} {kvs : List (Key × V)} (h : H d = some (.frz o (.dK kvs))) : Stay K H (upd H d (.dK kvs)) where
  tup := fun a xs q => by
    rcases q with (q | ⟨o', q⟩) | q
    · refine .inl (.inl ?_)
      rw [upd_ne (ne_of q h (by intro z; cases z))]
      exact q
    · refine .inl (.inr ⟨o', ?_⟩)
      rw [upd_ne (ne_of q h (by intro z; cases z))]
      exact q
    · exact .inr q
  ty := fun v t q => by
    have k : ∀ a o', H a = some o' → o' ≠ .frz o (.dK kvs) → (upd H d (.dK kvs)) a = some o' := fun a o' e n => by
      rw [upd_ne (ne_of e h n)]
      exact e
    cases q with
    | base b =>
      cases b with
      | non => exact .base .non
      | bl x => exact .base (.bl x)
      | int i => exact .base (.int i)
      | str x => exact .base (.str x)
      | flt x => exact .base (.flt x)
      | lst e => exact .base (.lst (k _ _ e (by intro z; cases z)))
      | frz e => exact .base (.frz (k _ _ e (by intro z; cases z)))
      | tup e => exact .base (.tup (k _ _ e (by intro z; cases z)))
      | dK e => exact .base (.dK (k _ _ e (by intro z; cases z)))
      | dT e => exact .base (.dT (k _ _ e (by intro z; cases z)))
      | ins e cl ha hn htk hm => exact .base (.ins (k _ _ e (by intro z; cases z)) cl ha hn htk hm)
    | byt b => exact .byt b
    | set e => exact .set (k _ _ e (by intro z; cases z))
    | kList e c => exact .kList e c
    | kTuple e c => exact .kTuple e c
    | kDict e c => exact .kDict e c
    | fTuple e => exact .fTuple (k _ _ e (by intro z; cases z))
    | @fDict a ob kvs' e =>
      by_cases ea : a = d
      · subst ea
        exact .base (.dK upd_same)
      · exact .fDict (by rw [upd_ne ea]; exact e)
theorem gro_mut {H H' : Hp} {p : Addr} {o : HO} (g : Gro H H') (h : H p = none) : Gro H (upd H' p o) where
  e := fun b u q nt => by
    rw [upd_ne (ne_of_none q h)]
    exact g.e b u q nt
  n := fun b z => by
    by_cases e : b = p
    · subst e
      exact h
    · rw [upd_ne e] at z
      exact g.n b z
theorem gro_unfrz {H H' : Hp} {d : Addr} {o : Obj} {u : HO} (h : H d = some u) (g : Gro (upd H d (.frz o u)) H') : Gro H (upd H' d u) where
  e := fun b x q nt => by
    by_cases hb : b = d
    · subst hb
      rw [h] at q
      cases q
      exact upd_same
    · rw [upd_ne hb]
      exact g.e b x (by rw [upd_ne hb]; exact q) nt
  n := fun b z => by
    by_cases hb : b = d
    · subst hb
      rw [upd_same] at z
      cases z
    · rw [upd_ne hb] at z
      have y := g.n b z
      rw [upd_ne hb] at y
      exact y
theorem tab_upd {H : Hp} {P d : Addr} {q : Str} {u o : HO} (t : TabS H P q) (h : H d = some u) (n1 : ∀ ps, u ≠ .tbl ps) (n2 : ∀ c r, u ≠ CodeO c r) : TabS (upd H d o) P q := by
  obtain ⟨ps, h1, h2, h3⟩ := t
  refine ⟨ps, by rw [upd_ne (fun z => n1 ps (Option.some.inj (h.symm.trans (by rw [← z]; exact h1))))]; exact h1, h2, fun pos cv hc => ?_⟩
  obtain ⟨c, e1, e2⟩ := h3 pos cv hc
  exact ⟨c, e1, by rw [upd_ne (fun z => n2 c q (Option.some.inj (h.symm.trans (by rw [← z]; exact e2))))]; exact e2⟩
def spRight (K : PySem.W.Frag) (Pt : Addr) : Sp := fun vs H Q _ => ∃ (v : V) (dh dm : Addr) (k : Kd) (mh mm : Map) (ss : List (Str × Nat)), vs = [v, .ref dh, .ref dm] ∧ Kp K H v k ∧ k.of xyz ss ∧ k.nds ≤ 20 ∧ Men xyz ss ∧ Held K H dh mh ∧ Held K H dm mm ∧ dh ≠ dm ∧ HeldOk ss mh ∧ HeldOk ss mm ∧ TabS H Pt tq ∧ ∀ H', Gro H H' → TabS H' Pt tq → Q (.bl true) H'
theorem ok_is_right {C Pt : Addr} (G : Glo mg) (CF : Cal P w K mg base 5 "fill" ["kind", "values"] (spFillT K Pt)) (CT : Cal P w K mg base 3 "is_type" ["thing"] (spAsk K isT)) (CDp : Cal P w K mg base 5 "depth" ["kind"] (spNumX K C Kd.depth)) (CS : Cal P w K mg base 5 "size" ["kind"] (spNumX K C Kd.size))
    (CX : Cal P w K mg base 5 "text" ["kind"] (spText K)) (CR : Cal P w K mg base 3 "read" ["text"] (spRead K))
    (D : DefAt K mg "_law_is_right" s_Lis_right ["_law_kind_here", "_law_held_here", "_law_more"]) : Cal P w K mg base 6 "_law_is_right" ["_law_kind_here", "_law_held_here", "_law_more"] (spRight K Pt) := by
  refine D.cal sc_Lis_right (fun vs H Q E h => ?_) (fun f cdv A outer s H vs Q E hr h => ?_)
  · obtain ⟨v, dh, dm, k, mh, mm, ss, rfl, _⟩ := h
    rfl
  obtain ⟨v, dh, dm, k, mh, mm, ss, rfl, hT, hof, hn, hM, hh, hm, hne, oh, om, tt, q⟩ := h
  have hu := hug hr
  have hr3 : RoomG 3 _ := hr.mono (by decide)
  refine ⟨_, pss_cons (ps_par (i := 3) (j := 4) (by rfl) sc_Lis_right.nd rfl rfl (by decide) rfl rfl (pa_cons (pc CF hr rfl (pa_cons (pv 0) (pa_cons (pv 1) pa_nil)))
      (pa_cons (pe_callTy (call_dictP rfl) (by rfl) G.dict b_dict (pa_cons (pe_lock (pe_lc (own := [("_law_letter", 5)]) (g := gName 5) (tt := tYes) rfl sc_Lis_right.nd (pi_keys (pv 1)) (blkOk_by (N := nm_Lis_right) (sc := defScope s_Lis_right) (own := [("_law_letter", 5)]) (by decide +kernel))
        (fun _ _ _ _ _ => pg_name (i := 5) sc_Lis_right.nd rfl (Or.inl rfl)) (fun _ _ _ _ _ => pts_nil) (fun _ _ _ _ _ => pe_tup (pa_cons (pv 5) (pa_cons (pc CF hr rfl (pa_cons (pe_dget hu (pv 1) (pv 5) (fun _ _ => rfl)) (pa_cons (pv 2) pa_nil))) pa_nil))))) pa_nil)) pa_nil)) (by rfl))
    (pss_cons (ps_if (PW.pt (pw_or (pt_not (pt_val (pc CT hr3 rfl (pa_cons (pv 3) pa_nil))))
        (pw_or (pt_cmpR (op_neD hr.units) (pc CF hr rfl (pa_cons (pv 3) (pa_cons (pv 2) pa_nil))) (pc CF hr rfl (pa_cons (pv 0) (pa_cons (pv 4) pa_nil))) (nomark _))
          (pw_or1 (pt_cmpR (op_neD hr.units) (pc CF hr rfl (pa_cons (pv 0) (pa_cons pe_dnewK pa_nil))) (pv 0) (nomark _))))))
      (pss_one (ps_ret pe_bl)) pss_nil)
    (pss_cons (ps_if (PW.pt (pw_or (pt_cmpR (op_neD hr.units) (pc CF hr rfl (pa_cons (pv 0) (pa_cons (pe_disp (pps_cons pe_str pe_str (pps_cons pe_str pe_str (pps_cons pe_str pe_str pps_nil))) (by rfl) (by rfl) (fun z => by cases z) (by decide)) pa_nil))) (pv 0) (nomark _))
        (pw_or (pt_cmpR op_lt (pc CDp hr rfl (pa_cons (pv 3) pa_nil)) (pc CDp hr rfl (pa_cons (pv 0) pa_nil)) (nomark _))
          (pw_or1 (pt_cmpR op_lt (pc CS hr rfl (pa_cons (pv 3) pa_nil)) (pc CS hr rfl (pa_cons (pv 0) pa_nil)) (nomark _))))))
      (pss_one (ps_ret pe_bl)) pss_nil)
    (pss_cons (ps_set (i := 6) sc_Lis_right.nd rfl (Or.inl rfl) (pe_callB (cr_max rfl) (by rfl) G.max (by decide +kernel) (pa_cons (pe_lock (pe_lc (own := [("_law_letter", 5)]) (g := gName 5) (tt := tYes) rfl sc_Lis_right.nd (pi_keys (pv 1)) (blkOk_by (N := nm_Lis_right) (sc := defScope s_Lis_right) (own := [("_law_letter", 5)]) (by decide +kernel))
        (fun _ _ _ _ _ => pg_name (i := 5) sc_Lis_right.nd rfl (Or.inl rfl)) (fun _ _ _ _ _ => pts_nil) (fun _ _ _ _ _ => pc CDp hr rfl (pa_cons (pe_dget hu (pv 1) (pv 5) (fun _ _ => rfl)) pa_nil)))) pa_nil)))
    (pss_one (ps_ret (pe_and (pe_cmpR op_le (pc CDp hr rfl (pa_cons (pv 3) pa_nil)) (pe_op op_add (pc CDp hr rfl (pa_cons (pv 0) pa_nil)) (pv 6)) (nomark _))
      (pe_one (pe_cmpR (op_eqD hr.units) (pc CR hr3 rfl (pa_cons (pc CX hr rfl (pa_cons (pv 3) pa_nil)) pa_nil)) (pv 3) (nomark _))))))))), ?_⟩
  have kok := Kd.of_ok hM hof
  have klet : k.lets (mh.map Prod.fst) := by rw [oh.keys]; exact of_lets hof
  have ohk : ∀ p ∈ mh, p.2.ok := fun p hp => Kd.of_ok hM (oh.of p hp).1
  have omk : ∀ p ∈ mm, p.2.ok := fun p hp => Kd.of_ok hM (om.of p hp).1
  have ohl : ∀ p ∈ mh, p.2.lets xyz := fun p hp => of_lets (oh.of p hp).1
  have bdh : ∀ p ∈ mh, p.2.depth ≤ 9 ∧ p.2.nds ≤ 9 := fun p hp => ⟨Nat.le_trans (depth_nds _) (oh.of p hp).2, (oh.of p hp).2⟩
  have bdm : ∀ p ∈ mm, p.2.depth ≤ 9 ∧ p.2.nds ≤ 9 := fun p hp => ⟨Nat.le_trans (depth_nds _) (om.of p hp).2, (om.of p hp).2⟩
  have keyL : ∀ {m : Map}, m.map Prod.fst = xyz → ∀ p ∈ m, isLet p.1 = true := fun {m} e p hp => xyz_let _ (by rw [← e]; exact List.mem_map.mpr ⟨p, hp, rfl⟩)
  have moh : MapOk mh := fun p hp => ⟨keyL oh.keys p hp, ohk p hp, by have := (oh.of p hp).2; omega⟩
  have mom : MapOk mm := fun p hp => ⟨keyL om.keys p hp, omk p hp, by have := (om.of p hp).2; omega⟩
  have lh : mh.length ≤ 1000 := by have := congrArg List.length oh.keys; rw [List.length_map] at this; rw [this]; decide
  have lm : mm.length ≤ 1000 := by have := congrArg List.length om.keys; rw [List.length_map] at this; rw [this]; decide
  obtain ⟨b1, b2, b3, b4⟩ := fill_bounds bdh (by decide) klet
  have Lok := fill_ok ohk kok
  have Llet : (fillK mh k).lets (mm.map Prod.fst) := by rw [om.keys]; exact fill_lets ohl klet
  have kdep := depth_nds k
  refine ⟨v, rfl, _, rfl, v, dh, k, mh, rfl, hT, kok, by omega, hh, moh, lh, tt, fun H1 u1 sm1 tb1 hu1 => ?_⟩
  obtain ⟨kvs, hd1, hp1⟩ := hh.ext sm1.e
  obtain ⟨kvm, hdm1, hpm1⟩ := hm.ext sm1.e
  refine ⟨dh, .dK kvs, hd1, trivial, fun od => ?_⟩
  refine ⟨_, rfl, dh, od, rfl, .inl ⟨kvs, upd_same, fun D hD => ?_⟩⟩
  have stf : Stay K H1 (upd H1 dh (.frz od (.dK kvs))) := stay_frz hd1
  have nDd : D ≠ dh := fun e => by
    subst e
    rw [upd_same] at hD
    cases hD
  have hkl := Paired.length hp1
  have tbf : TabS (upd H1 dh (.frz od (.dK kvs))) Pt tq := tab_upd tb1 hd1 (fun ps z => by cases z) (fun c r z => by unfold CodeO at z; cases z)
  refine lc_it (walk_keys (d := dh) (o := od) (kvs := kvs)) (fun i H' => ∃ (ps : List Addr) (kb : List (Key × V)), Gro (upd H1 dh (.frz od (.dK kvs))) H' ∧ TabS H' Pt tq ∧ H' D = some (.lst (ps.map V.ref)) ∧ Paired (fun p kv => SqT K H' p [kV kv.1, kv.2]) ps kb ∧ Prs K H' kb ((mh.take i).map fun p => (p.1, fillK mm p.2)))
    ⟨[], [], Gro.of (same_new hD _), tbf.ext (same_new hD _), upd_same, .nil, .nil⟩ (fun i H' _ ⟨ps, kb, sm, _⟩ => sm.e _ _ upd_same (fun ps z => by cases z)) (fun i x H' H2 hi ⟨ps, kb, sm, tb, hacc, hps, hkb⟩ hy => ?_) (fun H' ⟨ps, kb, sm, tb, hacc, hps, hkb⟩ => ?_)
  · obtain ⟨rfl, key, v', hkv, ex⟩ := hy
    obtain ⟨⟨c, k'⟩, hm1, hm2, hm3⟩ := Paired.at hp1 hkv
    have hm2' : key = Sum.inr c := hm2
    subst hm2'
    subst ex
    have hf : H2 dh = some (.frz od (.dK kvs)) := sm.e _ _ upd_same (fun ps z => by cases z)
    have st2 : Stay K H1 H2 := stf.trans sm.stay
    have hdm2 : H2 dm = some (.dK kvm) := sm.e _ _ (by rw [upd_ne hne.symm]; exact hdm1) (fun ps z => by cases z)
    have hval : valV kvs (Sum.inr c) = some v' := val_at hp1 (by rw [oh.keys]; decide +kernel) hkv
    have hin := List.mem_of_getElem? hm1
    have hpl := Paired.length hps
    have hkbl := Paired.length hkb
    rw [List.length_map, List.length_take] at hkbl
    refine ⟨rfl, _, rfl, _, rfl, _, rfl, dh, v', rfl, .inl ⟨kvs, Sum.inr c, .inr ⟨od, hf⟩, rfl, hval.symm⟩, _, rfl, v', dm, k', mm, rfl, hm3.stay st2, ohk _ hin, by have := (oh.of _ hin).2; have h9 : k'.nds ≤ 9 := this; omega, ⟨kvm, hdm2, Prs.stay st2 hpm1⟩, mom, lm, tb, fun H3 u sm3 tb3 hu3 => ?_⟩
    refine ⟨by show 2 ≤ sizeLine; decide, fun t ht => ?_⟩
    have hacc3 : H3 D = some (.lst (ps.map V.ref)) := sm3.e _ _ hacc (fun ps z => by cases z)
    have nDt : D ≠ t := ne_of_none hacc3 ht
    have hD0 : (upd H1 dh (.frz od (.dK kvs))) D = none := hD
    have g3 : (upd H3 t (.tup [kV (Sum.inr c), u])) D = some (.lst (ps.map V.ref)) := by rw [upd_ne nDt]; exact hacc3
    have st3 : Stay K H3 (upd (upd H3 t (.tup [kV (Sum.inr c), u])) D (.lst (ps.map V.ref ++ [.ref t]))) := (stay_new ht _).trans (stay_lst g3)
    have st4 := (Gro.stay (K := K) sm3).trans st3
    refine ⟨_, g3, ?_, ps ++ [t], kb ++ [(Sum.inr c, u)], gro_mut (sm.trans (sm3.trans (Gro.of (same_new ht _)))) hD0, tab_upd (tb3.ext (same_new ht _)) g3 (fun ps z => by cases z) (fun c r z => by unfold CodeO at z; cases z), by rw [List.map_append]; exact upd_same, Paired.snoc (Paired.mapP hps fun p kv z => st4.tup _ _ z) ?_, ?_⟩
    · rw [List.length_map]
      exact Nat.lt_of_le_of_lt (show _ ≤ 100000 by omega) (by decide)
    · refine .inl (.inl ?_)
      rw [upd_ne nDt.symm]
      exact upd_same
    · rw [take_snoc hm1, List.map_append]
      exact Paired.snoc (Prs.stay st4 hkb) ⟨rfl, hu3.stay st3⟩
  rw [hkl, List.take_length] at hkb
  have hf : H' dh = some (.frz od (.dK kvs)) := sm.e _ _ upd_same (fun ps z => by cases z)
  refine ⟨hf, ?_⟩
  have sm2 : Gro H1 (upd H' dh (.dK kvs)) := gro_unfrz hd1 sm
  have tb2 : TabS (upd H' dh (.dK kvs)) Pt tq := tab_upd tb hf (fun ps z => by cases z) (fun c r z => by unfold CodeO at z; cases z)
  have stu : Stay K H' (upd H' dh (.dK kvs)) := stay_unfrz hf
  obtain ⟨mb, emb⟩ : ∃ mb : Map, mb = mh.map fun p => (p.1, fillK mm p.2) := ⟨_, rfl⟩
  rw [← emb] at hkb
  have kmb : mb.map Prod.fst = xyz := by rw [emb, List.map_map]; exact oh.keys
  refine ⟨D, ps, kb, rfl, SqL.of (by rw [upd_ne nDd]; exact hacc), Paired.mapP hps fun p kv z => stu.tup _ _ z, fun p2 hp2 => ?_⟩
  have hmk : mergeK [] kb = kb := by
    rw [merge_new (acc := []) (by rw [List.nil_append, prs_keys hkb, show (mb.map fun q => (Sum.inr q.1 : Key)) = xyz.map Sum.inr by rw [← kmb, List.map_map]; rfl]; decide +kernel)]
    rfl
  rw [hmk]
  have sm3 : Gro H1 (upd (upd H' dh (.dK kvs)) p2 (.dK kb)) := sm2.trans (Gro.of (same_new hp2 _))
  have tb3 : TabS (upd (upd H' dh (.dK kvs)) p2 (.dK kb)) Pt tq := tb2.ext (same_new hp2 _)
  have hhb : Held K (upd (upd H' dh (.dK kvs)) p2 (.dK kb)) p2 mb := ⟨kb, upd_same, Prs.stay (stu.trans (stay_new hp2 _)) hkb⟩
  refine ⟨u1, .ref p2, rfl, ?_⟩
  obtain ⟨H3, eH3⟩ : ∃ H3, H3 = upd (upd H' dh (.dK kvs)) p2 (.dK kb) := ⟨_, rfl⟩
  rw [← eH3] at sm3 hhb tb3
  rw [← eH3]
  have hu3 := hu1.stay (Gro.stay (K := K) sm3)
  have s03 := sm1.trans sm3
  have hT3 := hT.stay (Gro.stay (K := K) s03)
  have hm3 : Held K H3 dm mm := hm.ext s03.e
  have bdb : ∀ p ∈ mb, p.2.ok ∧ p.2.nds ≤ 81 := fun p hp => by
    rw [emb] at hp
    obtain ⟨p', hp', rfl⟩ := List.mem_map.mp hp
    have hl' : p'.2.lets (mm.map Prod.fst) := by rw [om.keys]; exact ohl p' hp'
    have h9 := (bdh p' hp').2
    have := (fill_bounds bdm (by decide) hl').2.2.2
    exact ⟨fill_ok omk (ohk p' hp'), by show (fillK mm p'.2).nds ≤ 81; omega⟩
  have mob : MapOk mb := fun p hp => ⟨keyL kmb p hp, (bdb p hp).1, by have := (bdb p hp).2; omega⟩
  have lb : mb.length ≤ 1000 := by have := congrArg List.length kmb; rw [List.length_map] at this; rw [this]; decide
  have hff : fillK mm (fillK mh k) = fillK mb k := by rw [emb]; exact fill_fill klet
  obtain ⟨c1, c2, c3, c4⟩ := fill_bounds bdm (by decide) Llet
  have LLok := fill_ok omk Lok
  have shL : SeqAt.shaped (fillK mh k).pd = true := pd_shaped Lok (by omega)
  have shLL : SeqAt.shaped (fillK mm (fillK mh k)).pd = true := pd_shaped LLok (by omega)
  have shk : SeqAt.shaped k.pd = true := pd_shaped kok (by omega)
  have ndL := Kd.nodes_tg (fillK mh k)
  have ndk := Kd.nodes_tg k
  -- is_type(later)
  refine ⟨_, rfl, u1, _, rfl, hu3, by omega, fun H4 sm4 => ⟨_, rfl, ?_⟩⟩
  refine iteN (by rw [Kd.isT_tg Lok]; rfl) ?_
  have s34 := stay_same (K := K) sm4
  -- fill(later, more), fill(kind, both)
  refine ⟨_, rfl, _, rfl, u1, dm, _, mm, rfl, hu3.stay s34, Lok, by omega, hm3.stay sm4, mom, lm, tb3.ext sm4, fun H5 u5 sm5 tb5 hu5 => ?_⟩
  have s35 := (Gro.of sm4).trans sm5
  refine ⟨_, rfl, _, rfl, v, p2, k, mb, rfl, hT3.stay s35.stay, kok, by omega, hhb.ext s35.e, mob, lb, tb5, fun H6 u6 sm6 tb6 hu6 => ?_⟩
  refine ⟨_, _, kp_dp (hu5.stay sm6.stay), kp_dp hu6, shLL, by rw [← hff]; exact shLL, _, rfl, iteN (by rw [hff, eqv_pd, decide_eq_true rfl]; rfl) ?_⟩
  have s36 := s35.trans sm6
  -- fill(kind, {})
  refine ⟨_, rfl, fun de hde => ?_⟩
  have s37 := s36.trans (Gro.of (same_new hde (.dK [])))
  refine ⟨v, de, k, [], rfl, hT3.stay s37.stay, kok, by omega, ⟨[], upd_same, .nil⟩, fun p hp => (by cases hp), by decide, tb6.ext (same_new hde (.dK [])), fun H8 u8 sm8 tb8 hu8 => ?_⟩
  have s38 := s37.trans sm8
  rw [fill_nil] at hu8
  refine ⟨_, rfl, _, _, kp_dp hu8, kp_dp (hT3.stay s38.stay), shk, shk, _, rfl, iteN (by rw [eqv_pd, decide_eq_true rfl]; rfl) ?_⟩
  -- fill(kind, {'X': 'X', ..})
  refine ⟨_, rfl, fun di hdi => ?_⟩
  refine ⟨upd_same, [((Sum.inr "X" : Key), V.str "X"), ((Sum.inr "Y" : Key), V.str "Y"), ((Sum.inr "Z" : Key), V.str "Z")], rfl, by decide, ?_⟩
  have emk : mergeK [] [((Sum.inr "X" : Key), V.str "X"), ((Sum.inr "Y" : Key), V.str "Y"), ((Sum.inr "Z" : Key), V.str "Z")] = [((Sum.inr "X" : Key), V.str "X"), ((Sum.inr "Y" : Key), V.str "Y"), ((Sum.inr "Z" : Key), V.str "Z")] := by
    rw [merge_new (acc := []) (by decide +kernel)]
    rfl
  rw [emk, upd_upd]
  have s39 := s38.trans (Gro.of (same_new hdi (.dK [((Sum.inr "X" : Key), V.str "X"), ((Sum.inr "Y" : Key), V.str "Y"), ((Sum.inr "Z" : Key), V.str "Z")])))
  have hid : Held K (upd H8 di (.dK [((Sum.inr "X" : Key), V.str "X"), ((Sum.inr "Y" : Key), V.str "Y"), ((Sum.inr "Z" : Key), V.str "Z")])) di [("X", .L "X"), ("Y", .L "Y"), ("Z", .L "Z")] :=
    ⟨_, upd_same, .cons ⟨rfl, show Th K _ (V.str "X") (Tg.str "X") from Th.str _ (by decide +kernel)⟩ (.cons ⟨rfl, show Th K _ (V.str "Y") (Tg.str "Y") from Th.str _ (by decide +kernel)⟩ (.cons ⟨rfl, show Th K _ (V.str "Z") (Tg.str "Z") from Th.str _ (by decide +kernel)⟩ .nil))⟩
  have moi : MapOk [("X", .L "X"), ("Y", .L "Y"), ("Z", .L "Z")] := fun p hp => by
    have h3 : p = ((("X" : Str), Kd.L "X") : Str × Kd) ∨ p = ((("Y" : Str), Kd.L "Y") : Str × Kd) ∨ p = ((("Z" : Str), Kd.L "Z") : Str × Kd) := by simpa using hp
    rcases h3 with rfl | rfl | rfl
    · exact ⟨by decide +kernel, show isLet _ = true by decide +kernel, by decide⟩
    · exact ⟨by decide +kernel, show isLet _ = true by decide +kernel, by decide⟩
    · exact ⟨by decide +kernel, show isLet _ = true by decide +kernel, by decide⟩
  have hfi : fillK [("X", .L "X"), ("Y", .L "Y"), ("Z", .L "Z")] k = k := fill_id (fun p hp => by
    have h3 : p = ((("X" : Str), Kd.L "X") : Str × Kd) ∨ p = ((("Y" : Str), Kd.L "Y") : Str × Kd) ∨ p = ((("Z" : Str), Kd.L "Z") : Str × Kd) := by simpa using hp
    rcases h3 with rfl | rfl | rfl <;> rfl) k
  refine ⟨v, di, k, _, rfl, hT3.stay s39.stay, kok, by omega, hid, moi, by decide, tb8.ext (same_new hdi _), fun H10 u10 sm10 tb10 hu10 => ?_⟩
  have s310 := s39.trans sm10
  rw [hfi] at hu10
  refine ⟨_, rfl, _, _, kp_dp hu10, kp_dp (hT3.stay s310.stay), shk, shk, _, rfl, iteN (by rw [eqv_pd, decide_eq_true rfl]; rfl) ?_⟩
  have isL := Kd.isT_tg Lok
  have isk := Kd.isT_tg kok
  have eL : ∀ {k' : Kd}, (fillK mh k).tg = k'.tg → k' = fillK mh k := fun e => (tg_inj e).symm
  have ek : ∀ {k' : Kd}, k.tg = k'.tg → k' = k := fun e => (tg_inj e).symm
  -- depth(later) < depth(kind)
  refine ⟨_, rfl, u1, _, rfl, hu3.stay s310.stay, by omega, fun k1 e1 _ H11 sm11 => ?_, fun z => (by rw [isL] at z; cases z)⟩
  have e1' := eL e1
  subst e1'
  have s311 := s310.trans (Gro.of sm11)
  refine ⟨_, rfl, v, _, rfl, hT3.stay s311.stay, by omega, fun k2 e2 _ H12 sm12 => ?_, fun z => (by rw [isk] at z; cases z)⟩
  have e2' := ek e2
  subst e2'
  have s312 := s311.trans (Gro.of sm12)
  refine ⟨_, _, rfl, rfl, _, rfl, iteN (decide_eq_false (by omega)) ?_⟩
  -- size(later) < size(kind)
  refine ⟨_, rfl, u1, _, rfl, hu3.stay s312.stay, by omega, fun k1 e1 _ H13 sm13 => ?_, fun z => (by rw [isL] at z; cases z)⟩
  have e1' := eL e1
  subst e1'
  have s313 := s312.trans (Gro.of sm13)
  refine ⟨_, rfl, v, _, rfl, hT3.stay s313.stay, by omega, fun k3 e3 _ H14 sm14 => ?_, fun z => (by rw [isk] at z; cases z)⟩
  have e3' := ek e3
  subst e3'
  have s314 := s313.trans (Gro.of sm14)
  refine ⟨_, _, rfl, rfl, _, rfl, iteN (decide_eq_false (by omega)) ?_⟩
  -- least
  obtain ⟨kvs9, hd9, hp9⟩ := hh.ext (s03.trans s314).e
  refine ⟨dh, .dK kvs9, hd9, trivial, fun od9 => ?_⟩
  refine ⟨_, rfl, dh, od9, rfl, .inl ⟨kvs9, upd_same, fun D9 hD9 => ?_⟩⟩
  have stf9 : Stay K H14 (upd H14 dh (.frz od9 (.dK kvs9))) := stay_frz hd9
  have nDd9 : D9 ≠ dh := fun e => by
    subst e
    rw [upd_same] at hD9
    cases hD9
  have hkl9 := Paired.length hp9
  refine lc_it (te := fun σ H Q => tCons (tDGet (tVar 1) (tVar 5)) tNil σ H fun vs H1 => spNumX K C Kd.depth vs H1 Q E0) (walk_keys (d := dh) (o := od9) (kvs := kvs9)) (fun i H' => ∃ ns : List Int, Same (upd H14 dh (.frz od9 (.dK kvs9))) H' ∧ H' D9 = some (.lst (ns.map V.int)) ∧ ns = (mh.take i).map fun p => ((p.2.depth : Nat) : Int))
    ⟨[], same_new hD9 _, upd_same, rfl⟩ (fun i H' _ ⟨ns, sm, _⟩ => sm _ _ upd_same) (fun i x H' H2 hi ⟨ns, sm, hacc, ens⟩ hy => ?_) (fun H' ⟨ns, sm, hacc, ens⟩ => ?_)
  · obtain ⟨rfl, key, v', hkv, ex⟩ := hy
    obtain ⟨⟨c, k'⟩, hm1, hm2, hm3⟩ := Paired.at hp9 hkv
    have hm2' : key = Sum.inr c := hm2
    subst hm2'
    subst ex
    have hf : H2 dh = some (.frz od9 (.dK kvs9)) := sm _ _ upd_same
    have st2 : Stay K H14 H2 := stf9.trans (stay_same sm)
    have hval : valV kvs9 (Sum.inr c) = some v' := val_at hp9 (by rw [oh.keys]; decide +kernel) hkv
    have hin := List.mem_of_getElem? hm1
    have h9 : k'.nds ≤ 9 := (oh.of _ hin).2
    have hnd' := Kd.nodes_tg k'
    refine ⟨rfl, _, rfl, _, rfl, dh, v', rfl, .inl ⟨kvs9, Sum.inr c, .inr ⟨od9, hf⟩, rfl, hval.symm⟩, v', k'.tg, rfl, hm3.stay st2, by omega, fun k4 e4 _ H15 sm15 => ?_, fun z => (by rw [Kd.isT_tg (ohk _ hin)] at z; cases z)⟩
    have e4' : k4 = k' := (tg_inj e4).symm
    subst e4'
    have hD0 : (upd H14 dh (.frz od9 (.dK kvs9))) D9 = none := hD9
    refine ⟨_, sm15 _ _ hacc, ?_, ns ++ [((k4.depth : Nat) : Int)], same_mut (sm.trans sm15) hD0, by rw [List.map_append]; exact upd_same, by rw [take_snoc hm1, List.map_append, ens]; rfl⟩
    rw [List.length_map, ens, List.length_map]
    exact Nat.lt_of_le_of_lt (show _ ≤ 100000 by rw [List.length_take]; omega) (by decide)
  rw [hkl9, List.take_length] at ens
  have hf9 : H' dh = some (.frz od9 (.dK kvs9)) := sm _ _ upd_same
  refine ⟨hf9, D9, ns, rfl, SqL.of (by rw [upd_ne nDd9]; exact hacc), ?_, fun mx hmx hle => ?_⟩
  · rw [ens, List.length_map]
    have := congrArg List.length oh.keys
    rw [List.length_map] at this
    rw [this]
    decide
  have sm15 : Same H14 (upd H' dh (.dK kvs9)) := unfrz hd9 sm
  have s315 := s314.trans (Gro.of sm15)
  have hmx0 : 0 ≤ mx := by
    rw [ens] at hmx
    obtain ⟨p, _, e⟩ := List.mem_map.mp hmx
    rw [← e]
    omega
  have bdx : ∀ p ∈ mh, p.2.depth ≤ mx.toNat ∧ p.2.nds ≤ 9 := fun p hp => by
    have := hle ((p.2.depth : Nat) : Int) (by rw [ens]; exact List.mem_map.mpr ⟨p, hp, rfl⟩)
    exact ⟨by omega, (bdh p hp).2⟩
  have d3 := (fill_bounds bdx (by decide) klet).2.2.1
  -- return
  refine ⟨_, rfl, u1, _, rfl, hu3.stay s315.stay, by omega, fun k1 e1 _ H16 sm16 => ?_, fun z => (by rw [isL] at z; cases z)⟩
  have e1' := eL e1
  subst e1'
  have s316 := s315.trans (Gro.of sm16)
  refine ⟨_, rfl, v, _, rfl, hT3.stay s316.stay, by omega, fun k5 e5 _ H17 sm17 => ?_, fun z => (by rw [isk] at z; cases z)⟩
  have e5' := ek e5
  subst e5'
  have s317 := s316.trans (Gro.of sm17)
  refine ⟨_, rfl, _, _, rfl, rfl, _, _, rfl, rfl, _, rfl, iteE (decide_eq_true (by omega)) ?_⟩
  have htl := txt_len Lok
  refine ⟨_, rfl, u1, _, rfl, hu3.stay s317.stay, Lok, by omega, fun H18 t sm18 ht => ?_⟩
  have s318 := s317.trans (Gro.of sm18)
  refine ⟨t, _, rfl, by rw [← cs_len]; rw [show cs t = t.cps.toList from rfl, ht]; omega, ht, Lok, fun H19 u9 sm19 hu9 => ?_⟩
  have s319 := s318.trans (Gro.of sm19)
  refine ⟨_, rfl, _, _, kp_dp hu9, kp_dp (hu3.stay s319.stay), shL, shL, ?_⟩
  rw [eqv_pd, decide_eq_true rfl]
  exact q _ (s03.trans s319) (tb10.ext (sm11.trans (sm12.trans (sm13.trans (sm14.trans (sm15.trans (sm16.trans (sm17.trans (sm18.trans sm19)))))))))
end
end N

namespace N
open PySem PySem.Spec PyProof.Rows L2 StX LamX NdefX
/-! ### unlike kinds have unlike texts -/
theorem word_cut : ∀ {a b r s : List Nat}, (∀ c ∈ a, Unicode.isAlpha c = true) → (∀ c ∈ b, Unicode.isAlpha c = true) → (∀ c t, r = c :: t → Unicode.isAlpha c = false) → (∀ c t, s = c :: t → Unicode.isAlpha c = false) → a ++ r = b ++ s → a = b ∧ r = s
  | [], [], r, s, _, _, _, _, h => ⟨rfl, h⟩
  | [], d :: b, r, s, _, hb, hr, _, h => by
    have h' : r = d :: (b ++ s) := h
    have h1 := hr _ _ h'
    rw [hb d List.mem_cons_self] at h1
    cases h1
  | c :: a, [], r, s, ha, _, _, hs, h => by
    have h' : s = c :: (a ++ r) := h.symm
    have h1 := hs _ _ h'
    rw [ha c List.mem_cons_self] at h1
    cases h1
  | c :: a, d :: b, r, s, ha, hb, hr, hs, h => by
    have h' : c :: (a ++ r) = d :: (b ++ s) := h
    injection h' with h1 h2
    obtain ⟨e1, e2⟩ := word_cut (fun x hx => ha x (List.mem_cons_of_mem _ hx)) (fun x hx => hb x (List.mem_cons_of_mem _ hx)) hr hs h2
    exact ⟨by rw [h1, e1], e2⟩
theorem post41 (r : List Nat) : PostOk (41 :: r) := fun c t e => by
  injection e with e1 _
  subst e1
  exact ⟨by decide +kernel, by decide⟩
theorem post44 (r : List Nat) : PostOk (44 :: r) := fun c t e => by
  injection e with e1 _
  subst e1
  exact ⟨by decide +kernel, by decide⟩
theorem tail_alpha {k : Kd} {r : List Nat} (hp : PostOk r) : ∀ c t, tailT k ++ r = c :: t → Unicode.isAlpha c = false := fun c t e => by
  have a40 : Unicode.isAlpha 40 = false := by decide +kernel
  cases k with
  | L x => exact (hp c t e).1
  | C0 n => exact (hp c t e).1
  | C1 n a =>
    have e' : 40 :: _ = c :: t := e
    injection e' with e1 _
    rw [← e1]
    exact a40
  | C2 n a b =>
    have e' : 40 :: _ = c :: t := e
    injection e' with e1 _
    rw [← e1]
    exact a40
theorem txt_cut : ∀ {k o : Kd} {r s : List Nat}, k.ok → o.ok → PostOk r → PostOk s → k.txt ++ r = o.txt ++ s → k = o ∧ r = s := by
  intro k
  induction k with
  | L x =>
    intro o r s hk ho hr hs h
    rw [txt_tail, txt_tail, List.append_assoc, List.append_assoc] at h
    obtain ⟨e1, e2⟩ := word_cut (nm_cs hk).2.2 (nm_cs ho).2.2 (tail_alpha hr) (tail_alpha hs) h
    have e3 : x = o.nm := cs_inj e1
    have hx : isLet x = true := hk
    have hnx := let_not_nam hx
    cases o with
    | L y =>
      have e4 : x = y := e3
      rw [e4]
      exact ⟨rfl, e2⟩
    | C0 n => have e4 : x = n := e3; rw [e4, show isNam n = true from ho] at hnx; cases hnx
    | C1 n a => have e4 : x = n := e3; rw [e4, show isNam n = true from ho.1] at hnx; cases hnx
    | C2 n a b => have e4 : x = n := e3; rw [e4, show isNam n = true from ho.1] at hnx; cases hnx
  | C0 n =>
    intro o r s hk ho hr hs h
    rw [txt_tail, txt_tail, List.append_assoc, List.append_assoc] at h
    obtain ⟨e1, e2⟩ := word_cut (nm_cs hk).2.2 (nm_cs ho).2.2 (tail_alpha hr) (tail_alpha hs) h
    have e3 : n = o.nm := cs_inj e1
    have hn : isNam n = true := hk
    cases o with
    | L y => have e4 : n = y := e3; rw [e4, let_not_nam (show isLet y = true from ho)] at hn; cases hn
    | C0 m => have e4 : n = m := e3; rw [e4]; exact ⟨rfl, e2⟩
    | C1 m a =>
      have e5 : r = 40 :: _ := e2
      exact absurd rfl (hr _ _ e5).2
    | C2 m a b =>
      have e5 : r = 40 :: _ := e2
      exact absurd rfl (hr _ _ e5).2
  | C1 n a ih =>
    intro o r s hk ho hr hs h
    rw [txt_tail, txt_tail, List.append_assoc, List.append_assoc] at h
    obtain ⟨e1, e2⟩ := word_cut (nm_cs hk).2.2 (nm_cs ho).2.2 (tail_alpha hr) (tail_alpha hs) h
    have e3 : n = o.nm := cs_inj e1
    have hn : isNam n = true := hk.1
    cases o with
    | L y => have e4 : n = y := e3; rw [e4, let_not_nam (show isLet y = true from ho)] at hn; cases hn
    | C0 m =>
      have e5 : s = 40 :: _ := e2.symm
      exact absurd rfl (hs _ _ e5).2
    | C1 m b =>
      have e4 : n = m := e3
      have e5 : 40 :: ((a.txt ++ [41]) ++ r) = 40 :: ((b.txt ++ [41]) ++ s) := e2
      injection e5 with _ e6
      rw [List.append_assoc, List.append_assoc] at e6
      obtain ⟨g1, g2⟩ := ih hk.2 ho.2 (post41 r) (post41 s) e6
      injection g2 with _ g3
      rw [e4, g1]
      exact ⟨rfl, g3⟩
    | C2 m b c =>
      have e5 : 40 :: ((a.txt ++ [41]) ++ r) = 40 :: ((b.txt ++ (44 :: 32 :: (c.txt ++ [41]))) ++ s) := e2
      injection e5 with _ e6
      rw [List.append_assoc, List.append_assoc] at e6
      obtain ⟨g1, g2⟩ := ih hk.2 ho.2.1 (post41 r) (post44 _) e6
      injection g2 with g3 _
      cases g3
  | C2 n a c ih1 ih2 =>
    intro o r s hk ho hr hs h
    rw [txt_tail, txt_tail, List.append_assoc, List.append_assoc] at h
    obtain ⟨e1, e2⟩ := word_cut (nm_cs hk).2.2 (nm_cs ho).2.2 (tail_alpha hr) (tail_alpha hs) h
    have e3 : n = o.nm := cs_inj e1
    have hn : isNam n = true := hk.1
    cases o with
    | L y => have e4 : n = y := e3; rw [e4, let_not_nam (show isLet y = true from ho)] at hn; cases hn
    | C0 m =>
      have e5 : s = 40 :: _ := e2.symm
      exact absurd rfl (hs _ _ e5).2
    | C1 m b =>
      have e5 : 40 :: ((a.txt ++ (44 :: 32 :: (c.txt ++ [41]))) ++ r) = 40 :: ((b.txt ++ [41]) ++ s) := e2
      injection e5 with _ e6
      rw [List.append_assoc, List.append_assoc] at e6
      obtain ⟨g1, g2⟩ := ih1 hk.2.1 ho.2 (post44 _) (post41 s) e6
      injection g2 with g3 _
      cases g3
    | C2 m b d =>
      have e4 : n = m := e3
      have e5 : 40 :: ((a.txt ++ (44 :: 32 :: (c.txt ++ [41]))) ++ r) = 40 :: ((b.txt ++ (44 :: 32 :: (d.txt ++ [41]))) ++ s) := e2
      injection e5 with _ e6
      rw [List.append_assoc, List.append_assoc] at e6
      obtain ⟨g1, g2⟩ := ih1 hk.2.1 ho.2.1 (post44 _) (post44 _) e6
      have g3 : 44 :: 32 :: ((c.txt ++ [41]) ++ r) = 44 :: 32 :: ((d.txt ++ [41]) ++ s) := g2
      injection g3 with _ g4
      injection g4 with _ g5
      rw [List.append_assoc, List.append_assoc] at g5
      obtain ⟨g6, g7⟩ := ih2 hk.2.2 ho.2.2 (post41 r) (post41 s) g5
      injection g7 with _ g8
      rw [e4, g1, g6]
      exact ⟨rfl, g8⟩
theorem txt_inj {k o : Kd} (hk : k.ok) (ho : o.ok) (h : k.txt = o.txt) : k = o :=
  (txt_cut (r := []) (s := []) hk ho (fun c t e => by cases e) (fun c t e => by cases e) (by rw [h])).1
section
variable {P : Program} {w : World} {K : PySem.W.Frag} {mg : Str → Option Value} {base : Heap}
theorem groBar {p : Addr} {Hs H H' : Hp} (sm : Gro Hs H) (h0 : Hs p = none) (b : Bar p H H') : Gro Hs H' where
  e := fun x o e nt => b x o (ne_of_none e h0) (sm.e x o e nt)
  n := fun x z => by
    cases hx : Hs x with
    | none => rfl
    | some o =>
      cases hy : H x with
      | none =>
        have y := sm.n x hy
        rw [hx] at y
        cases y
      | some o2 =>
        have y := b x o2 (ne_of_none hx h0) hy
        rw [z] at y
        cases y
theorem tabBar {p Pt : Addr} {H H' : Hp} {q : Str} (pn : Pen H p) (b : Bar p H H') (t : TabS H Pt q) : TabS H' Pt q := by
  obtain ⟨i, j, k, ep, _⟩ := pn
  obtain ⟨ps, h1, h2, h3⟩ := t
  refine ⟨ps, b _ _ (fun z => by rw [z, ep] at h1; cases h1) h1, h2, fun pos cv hc => ?_⟩
  obtain ⟨c, e1, e2⟩ := h3 pos cv hc
  refine ⟨c, e1, b _ _ (fun z => ?_) e2⟩
  rw [z, ep] at e2
  unfold CodeO at e2
  cases e2
theorem penGro {p : Addr} {H H' : Hp} (g : Gro H H') (h : Pen H p) : Pen H' p := by
  obtain ⟨i, j, k, e, r⟩ := h
  exact ⟨i, j, k, g.e _ _ e (fun ps z => by cases z), r⟩
theorem same_bar {p : Addr} {Hs H H' : Hp} (sm : Same Hs H) (h0 : Hs p = none) (b : Bar p H H') : Same Hs H' := fun x o e => b x o (ne_of_none e h0) (sm x o e)
theorem two_kps {H : Hp} : ∀ {vs : List V} {ks : List Kd}, Kps K H vs ks → ks.length = 2 → ∃ v1 v2 k o, vs = [v1, v2] ∧ ks = [k, o] ∧ Kp K H v1 k ∧ Kp K H v2 o
  | _, [k, o], .cons h1 (.cons h2 .nil), _ => ⟨_, _, k, o, rfl, rfl, h1, h2⟩
  | _, [], _, h => by cases h
  | _, [_], _, h => by cases h
  | _, _ :: _ :: _ :: _, _, h => by simp at h
theorem Held.bar {H H' : Hp} {p d : Addr} {m : Map} (n : d ≠ p) (b : Bar p H H') (s : Stay K H H') (h : Held K H d m) : Held K H' d m := by
  obtain ⟨kvs, e, r⟩ := h
  exact ⟨kvs, b _ _ n e, Prs.stay s r⟩
def shp4 : List (Str × Nat) := [("one", 0), ("a", 0), ("box", 1), ("pair", 2)]
theorem men4 : Men xyz shp4 := ⟨xyz_let, by decide +kernel, ⟨"one", by decide +kernel⟩, by decide, by decide⟩
theorem pen_ne {H : Hp} {p d : Addr} (h : Pen H p) (e : H d = none) : d ≠ p := fun z => by
  subst z
  obtain ⟨_, _, _, e', _⟩ := h
  rw [e] at e'
  cases e'
def spLaw (K : PySem.W.Frag) (Pt : Addr) : Sp := fun vs H Q _ => ∃ (a : Addr) (ns : List Int), vs = [.ref a] ∧ SqL K H a (ns.map V.int) ∧ ns.length ≤ 63 ∧ TabS H Pt tq ∧ ∀ H', Q (.bl true) H'
theorem ok_law {C Pt : Addr} (G : Glo mg) (CC : Cal P w K mg base 1 "_law_cell_at" ["_law_script", "_law_k"] (spCell K)) (CP : Cal P w K mg base 1 "_law_pen" ["_law_cell"] (spPen K)) (CD : Cal P w K mg base 1 "_law_draw" ["_law_pen_here", "_law_many"] (spDraw K))
    (CK : Cal P w K mg base 11 "_law_kind" ["_law_pen_here", "_law_letters", "_law_shapes", "_law_most"] (spKind K 9)) (CH : Cal P w K mg base 8 "_law_held" ["_law_pen_here", "_law_shapes"] (spHeld K))
    (CI : Cal P w K mg base 6 "_law_is_right" ["_law_kind_here", "_law_held_here", "_law_more"] (spRight K Pt)) (CR : Cal P w K mg base 3 "read" ["text"] (spRead K)) (CX : Cal P w K mg base 5 "text" ["kind"] (spText K))
    (CS : Cal P w K mg base 5 "size" ["kind"] (spNumX K C Kd.size)) (CDp : Cal P w K mg base 5 "depth" ["kind"] (spNumX K C Kd.depth)) {f : Addr} {fd : FuncData} (D : Fun K "law" "law" s_law f fd) : FnG P w K mg base (L2.CX P w) 12 f fd ["_law_script"] (spLaw K Pt) := by
  refine fnG_of D sc_law (fun vs H Q E h => ?_) (fun cdv A outer s H vs Q E hr h => ?_)
  · obtain ⟨a, ns, rfl, _⟩ := h
    rfl
  obtain ⟨a, ns, rfl, hS, hlen, tt, q⟩ := h
  have hr1 : RoomG 1 _ := hr.mono (by decide)
  have hr3 : RoomG 3 _ := hr.mono (by decide)
  have hr5 : RoomG 5 _ := hr.mono (by decide)
  have hr6 : RoomG 6 _ := hr.mono (by decide)
  have hr8 : RoomG 8 _ := hr.mono (by decide)
  refine ⟨_, pss_cons (ps_set (i := 1) sc_law.nd rfl (Or.inr rfl) (pe_lst (pa_cons (pe_tup (pa_cons pe_str (pa_cons pe_int pa_nil))) (pa_cons (pe_tup (pa_cons pe_str (pa_cons pe_int pa_nil))) (pa_cons (pe_tup (pa_cons pe_str (pa_cons pe_int pa_nil))) (pa_cons (pe_tup (pa_cons pe_str (pa_cons pe_int pa_nil))) pa_nil))))))
    (pss_cons (ps_for (passes_of rfl) rfl (pi_range1 rfl G.range (pa_cons (pe_callB (call_max2 rfl) (by rfl) G.max (by decide +kernel) (pa_cons pe_int (pa_cons (pe_callB (call_min2 rfl) (by rfl) G.min (by decide +kernel) (pa_cons (pe_callB call_len_seq (by rfl) G.len PySem.boot_len (pa_cons (pv 0) pa_nil)) (pa_cons pe_int pa_nil))) pa_nil))) pa_nil)) (pg_name (i := 2) sc_law.nd rfl (Or.inl rfl))
      (pss_cons (ps_set (i := 3) sc_law.nd rfl (Or.inr rfl) (pc CP hr1 rfl (pa_cons (pc CC hr1 rfl (pa_cons (pv 0) (pa_cons (pv 2) pa_nil))) pa_nil)))
      (pss_one (ps_for (passes_of rfl) rfl (pi_range1 rfl G.range (pa_cons pe_int pa_nil)) (pg_name (i := 4) sc_law.nd rfl (Or.inl rfl))
        (pss_cons (ps_asg (pe_lc (own := [("_law_lap", 7)]) (g := gName 7) (tt := tYes) rfl sc_law.nd (pi_range1 rfl G.range (pa_cons pe_int pa_nil)) (blkOk_by (N := nm_law) (sc := defScope s_law) (own := [("_law_lap", 7)]) (by decide +kernel))
            (fun _ _ _ _ _ => pg_name (i := 7) sc_law.nd rfl (Or.inl rfl)) (fun _ _ _ _ _ => pts_nil)
            (fun _ _ _ _ _ => pc CK hr rfl (pa_cons (pv 3) (pa_cons (pe_lst (pa_cons pe_str (pa_cons pe_str (pa_cons pe_str pa_nil)))) (pa_cons (pv 1) (pa_cons (pe_op op_add pe_int (pc CD hr1 rfl (pa_cons (pv 3) (pa_cons pe_int pa_nil)))) pa_nil))))))
          (pg_lst (by rfl) (pgs_cons (pg_name (i := 5) sc_law.nd rfl (Or.inl rfl)) (pgs_cons (pg_name (i := 6) sc_law.nd rfl (Or.inl rfl)) pgs_nil))))
        (pss_cons (ps_if (pt_not (pt_val (pc CI hr6 rfl (pa_cons (pv 5) (pa_cons (pc CH hr8 rfl (pa_cons (pv 3) (pa_cons (pv 1) pa_nil))) (pa_cons (pc CH hr8 rfl (pa_cons (pv 3) (pa_cons (pv 1) pa_nil))) pa_nil)))))) (pss_one (ps_ret pe_bl)) pss_nil)
        (pss_cons (ps_if (PW.pt (pw_or (pt_cmpR (op_neD hr.units) (pc CR hr3 rfl (pa_cons (pc CX hr5 rfl (pa_cons (pv 5) pa_nil)) pa_nil)) (pv 5) (nomark _))
            (pw_or1 (pt_cmpR op_ne (pe_cmpR op_eq (pc CX hr5 rfl (pa_cons (pv 5) pa_nil)) (pc CX hr5 rfl (pa_cons (pv 6) pa_nil)) (nomark _)) (pe_cmpR (op_eqD hr.units) (pv 5) (pv 6) (nomark _)) (nomark _))))) (pss_one (ps_ret pe_bl)) pss_nil)
        (pss_cons (ps_set (i := 8) sc_law.nd rfl (Or.inl rfl) (pe_tup (pa_cons pe_str (pa_cons (pv 5) (pa_cons (pv 6) pa_nil)))))
        (pss_one (ps_if (PW.pt (pw_or (pt_cmpR op_ne (pc CS hr5 rfl (pa_cons (pv 8) pa_nil)) (pe_op op_add (pe_op op_add pe_int (pc CS hr5 rfl (pa_cons (pv 5) pa_nil))) (pc CS hr5 rfl (pa_cons (pv 6) pa_nil))) (nomark _))
            (pw_or1 (pt_cmpR op_ne (pc CDp hr5 rfl (pa_cons (pv 8) pa_nil)) (pe_op op_add pe_int (pe_callB (call_max2 rfl) (by rfl) G.max (by decide +kernel) (pa_cons (pc CDp hr5 rfl (pa_cons (pv 5) pa_nil)) (pa_cons (pc CDp hr5 rfl (pa_cons (pv 6) pa_nil)) pa_nil)))) (nomark _))))) (pss_one (ps_ret pe_bl)) pss_nil))))))))))
    (pss_one (ps_ret pe_bl))), ?_⟩
  refine ⟨by show 2 ≤ sizeLine; decide, fun t1 h1 => ⟨by show 2 ≤ sizeLine; decide, fun t2 h2 => ⟨by show 2 ≤ sizeLine; decide, fun t3 h3 => ⟨by show 2 ≤ sizeLine; decide, fun t4 h4 => ⟨by show 4 ≤ sizeLine; decide, fun sl hsl => ?_⟩⟩⟩⟩⟩
  have g1 := same_new h1 (.tup [.str "one", .int 0])
  have g2 := same_new h2 (.tup [.str "a", .int 0])
  have g3 := same_new h3 (.tup [.str "box", .int 1])
  have g4 := same_new h4 (.tup [.str "pair", .int 2])
  have g5 := same_new hsl (.lst [.ref t1, .ref t2, .ref t3, .ref t4])
  have sH : Same H _ := g1.trans (g2.trans (g3.trans (g4.trans g5)))
  have e1 := g5 _ _ (g4 _ _ (g3 _ _ (g2 _ _ (upd_same (H := H) (a := t1) (o := .tup [.str "one", .int 0])))))
  have e2 := g5 _ _ (g4 _ _ (g3 _ _ (upd_same (a := t2) (o := .tup [.str "a", .int 0]))))
  have e3 := g5 _ _ (g4 _ _ (upd_same (a := t3) (o := .tup [.str "box", .int 1])))
  have e4 := g5 _ _ (upd_same (a := t4) (o := .tup [.str "pair", .int 2]))
  have hsS := upd_same (H := upd (upd (upd (upd H t1 (.tup [.str "one", .int 0])) t2 (.tup [.str "a", .int 0])) t3 (.tup [.str "box", .int 1])) t4 (.tup [.str "pair", .int 2])) (a := sl) (o := .lst [.ref t1, .ref t2, .ref t3, .ref t4])
  have hSc0 := sH.seq hS
  have tts := tt.ext sH
  revert hSc0 tts hsS e1 e2 e3 e4
  show _ → _ → _ → _ → _ → _ → _
  generalize upd (upd (upd (upd (upd H t1 (.tup [.str "one", .int 0])) t2 (.tup [.str "a", .int 0])) t3 (.tup [.str "box", .int 1])) t4 (.tup [.str "pair", .int 2])) sl (.lst [.ref t1, .ref t2, .ref t3, .ref t4]) = Hs
  intro e1 e2 e3 e4 hsS hSc0 tts
  have hShp : Shp K Hs [.ref t1, .ref t2, .ref t3, .ref t4] shp4 := .cons ⟨t1, rfl, .inl (.inl e1)⟩ (.cons ⟨t2, rfl, .inl (.inl e2)⟩ (.cons ⟨t3, rfl, .inl (.inl e3)⟩ (.cons ⟨t4, rfl, .inl (.inl e4)⟩ .nil)))
  refine ⟨_, rfl, a, _, rfl, .inl hSc0, _, _, rfl, _, _, rfl, _, rfl, ?_, ?_, ?_⟩
  · rw [List.length_map]; split <;> split <;> omega
  · rw [List.length_map]; split <;> split <;> omega
  refine for_range (fun i σ H' => ∃ y2 y3 y4 y5 y6 y7 y8, σ = [some (.ref a), some (.ref sl), y2, y3, y4, y5, y6, y7, y8] ∧ Gro Hs H' ∧ TabS H' Pt tq) ⟨_, _, _, _, _, _, _, rfl, Gro.refl _, tts⟩ (fun i σ H' hi ⟨y2, y3, y4, y5, y6, y7, y8, eσ, sm, tb⟩ => ?_) (fun σ H' ⟨y2, y3, y4, y5, y6, y7, y8, eσ, sm, tb⟩ => by subst eσ; exact q H')
  subst eσ
  refine ⟨_, rfl, _, rfl, a, ns, i, by rw [Int.zero_add], sm.seq hSc0, fun n => ⟨n, rfl, fun p H1 sm1 hp0 pn1 => ?_⟩⟩
  have smp : Gro Hs H1 := sm.trans (Gro.of sm1)
  have hpS : Hs p = none := sm.n _ hp0
  have tb1 := tb.ext sm1
  refine ⟨10, rfl, by decide, by decide, ?_⟩
  refine for_range (n := 10) (fun j σ H' => ∃ y4 y5 y6 y7 y8, σ = [some (.ref a), some (.ref sl), some (.int (0 + (i : Nat))), some (.ref p), y4, y5, y6, y7, y8] ∧ Gro Hs H' ∧ Pen H' p ∧ TabS H' Pt tq) ⟨_, _, _, _, _, rfl, smp, pn1, tb1⟩ (fun j σ H' hj ⟨y4, y5, y6, y7, y8, eσ, sm, pn, tb⟩ => ?_) (fun σ H' ⟨y4, y5, y6, y7, y8, eσ, sm, pn, tb⟩ => ⟨_, _, _, _, _, _, _, eσ, sm, tb⟩)
  subst eσ
  have nsl : sl ≠ p := ne_of_none hsS hpS
  -- kind, other
  refine ⟨2, rfl, by decide, by decide, fun D hD => ?_⟩
  have nDp : D ≠ p := pen_ne pn hD
  have hDfree : Hs D = none := sm.n _ hD
  refine lc_range (lo := 0) (n := 2) (te := fun σ H Q => tCons (tVar 3) (tCons (tLst (tCons (tC (.str "X")) (tCons (tC (.str "Y")) (tCons (tC (.str "Z")) tNil)))) (tCons (tVar 1) (tCons (tOp (rI0 fun i j => .int (i + j)) (tC (.int 1)) (fun σ H Q => tCons (tVar 3) (tCons (tC (.int 8)) tNil) σ H fun vs H1 => spDraw K vs H1 Q E0)) tNil))) σ H fun vs H1 => spKind K 9 vs H1 Q E0)
    (fun i H' => ∃ vs ks, Gro Hs H' ∧ TabS H' Pt tq ∧ Pen H' p ∧ H' D = some (.lst vs) ∧ Kps K H' vs ks ∧ ks.length = i ∧ ∀ k ∈ ks, k.of xyz shp4 ∧ k.nds ≤ 17) ⟨[], [], sm.trans (Gro.of (same_new hD _)), tb.ext (same_new hD _), pn.same (same_new hD _), upd_same, .nil, rfl, fun k h => (by cases h)⟩ (fun i H' hi ⟨vs, ks, sm, tb, pn, hacc, hks, hkl, hall⟩ => ?_) (fun H' ⟨vs, ks, sm, tb, pn, hacc, hks, hkl, hall⟩ => ?_)
  · refine ⟨rfl, _, rfl, by show 3 ≤ sizeLine; decide, fun l2 hl2 => ?_⟩
    have n2p : l2 ≠ p := pen_ne pn hl2
    have s2 := same_new hl2 (.lst (xyz.map V.str))
    have nDl : D ≠ l2 := ne_of_none hacc hl2
    refine ⟨_, rfl, _, rfl, p, 8, rfl, pn.same s2, by decide, by decide, fun H2 r b2 pn2 r0 r1 => ?_⟩
    have hr8' : (1 : Int) + r = ((1 + r.toNat : Nat) : Int) := by omega
    have sm2 : Gro Hs H2 := groBar (sm.trans (Gro.of s2)) hpS b2
    have tb2 := tabBar (pn.same s2) b2 (tb.ext s2)
    have hL2 : H2 l2 = some (.lst (xyz.map V.str)) := b2 _ _ n2p upd_same
    refine ⟨_, _, rfl, rfl, p, l2, sl, xyz, _, shp4, 1 + r.toNat, by rw [← hr8'], pn2, n2p, nsl, hL2, sm2.seq (SqL.of hsS), hShp.stay sm2.stay, men4, by omega, fun H3 v k b4 pn3 hk hof hnd => ?_⟩
    have hDn : Hs D ≠ none ∨ Hs D = none := by cases h : Hs D <;> simp
    have b5 : Bar p H' H3 := (bar_same s2).trans (b2.trans b4)
    have hacc3 : H3 D = some (.lst vs) := b5 _ _ nDp hacc
    have sm3 : Gro Hs H3 := groBar sm2 hpS b4
    have tb3 := tabBar pn2 b4 tb2
    have hvl := Kps.length hks
    have stD : Stay K H3 (upd H3 D (.lst (vs ++ [v]))) := stay_lst hacc3
    have hDS : Hs D = none := hDfree
    refine ⟨vs, hacc3, Nat.lt_of_le_of_lt (show _ ≤ 100000 by omega) (by decide), vs ++ [v], ks ++ [k], gro_mut sm3 hDS, tab_upd tb3 hacc3 (fun ps z => by cases z) (fun c r z => by unfold CodeO at z; cases z), ?_, upd_same, Kps.app (ThAll.stay ((bar_stay b5 pn pn3).trans stD) hks) (.cons (hk.stay stD) .nil), by rw [List.length_append, hkl]; rfl, fun z hz => ?_⟩
    · obtain ⟨i1, j1, k1, e, rr⟩ := pn3
      exact ⟨i1, j1, k1, by rw [upd_ne nDp.symm]; exact e, rr⟩
    · rcases List.mem_append.mp hz with h | h
      · exact hall z h
      · rw [List.mem_singleton.mp h]
        exact ⟨hof, (by omega : k.nds ≤ 17)⟩
  obtain ⟨v1, v2, k, o, rfl, rfl, hk, ho⟩ := two_kps hks hkl
  obtain ⟨kof, knd⟩ := hall k (by simp)
  obtain ⟨oof, ond⟩ := hall o (by simp)
  have kok := Kd.of_ok men4 kof
  have ook := Kd.of_ok men4 oof
  refine ⟨D, _, rfl, SqL.of hacc, rfl, v1, [v2], rfl, v2, [], rfl, rfl, ?_⟩
  -- is_right
  refine ⟨_, rfl, _, rfl, _, rfl, p, sl, _, shp4, rfl, pn, nsl, sm.seq (SqL.of hsS), hShp.stay sm.stay, men4, fun H4 d1 m1 b4 pn4 hd1 hh1 ho1 => ?_⟩
  have sm4 := groBar sm hpS b4
  have tb4 := tabBar pn b4 tb
  refine ⟨_, rfl, _, rfl, p, sl, _, shp4, rfl, pn4, nsl, sm4.seq (SqL.of hsS), hShp.stay sm4.stay, men4, fun H5 d2 m2 b5 pn5 hd2 hh2 ho2 => ?_⟩
  have sm5 := groBar sm4 hpS b5
  have tb5 := tabBar pn4 b5 tb4
  have st4 : Stay K H' H4 := bar_stay b4 pn pn4
  have st5 : Stay K H4 H5 := bar_stay b5 pn4 pn5
  have n1p : d1 ≠ p := pen_ne pn hd1
  have n12 : d1 ≠ d2 := by
    obtain ⟨kv, e, _⟩ := hh1
    exact ne_of_none e hd2
  refine ⟨v1, d1, d2, k, m1, m2, shp4, rfl, hk.stay (st4.trans st5), kof, by omega, men4, hh1.bar n1p b5 st5, hh2, n12, ho1, ho2, tb5, fun H6 sm6 tb6 => ⟨_, rfl, iteN rfl ?_⟩⟩
  have st6 : Stay K H' H6 := (st4.trans st5).trans sm6.stay
  have smH6 := sm5.trans sm6
  have pn6 := penGro sm6 pn5
  have hk6 := hk.stay st6
  have ho6 := ho.stay st6
  have shk : SeqAt.shaped k.pd = true := pd_shaped kok (by have := depth_nds k; omega)
  have sho : SeqAt.shaped o.pd = true := pd_shaped ook (by have := depth_nds o; omega)
  have htk := txt_len kok
  have ndk := Kd.nodes_tg k
  have ndo := Kd.nodes_tg o
  -- read(text(kind)) != kind
  refine ⟨v1, rfl, v1, k, rfl, hk6, kok, by omega, fun H7 ta s7 hta => ?_⟩
  refine ⟨ta, k, rfl, by rw [← cs_len]; rw [show cs ta = ta.cps.toList from rfl, hta]; omega, hta, kok, fun H8 u8 s8 hu8 => ?_⟩
  have s68 := s7.trans s8
  refine ⟨_, rfl, _, _, kp_dp hu8, kp_dp (hk6.stay (stay_same s68)), shk, shk, _, rfl, iteN (by rw [eqv_pd, decide_eq_true rfl]; rfl) ?_⟩
  refine ⟨v1, rfl, v1, k, rfl, hk6.stay (stay_same s68), kok, by omega, fun H9 t1' s9 ht1 => ?_⟩
  have s69 := s68.trans s9
  refine ⟨v2, rfl, v2, o, rfl, ho6.stay (stay_same s69), ook, by omega, fun H10 t2' s10 ht2 => ?_⟩
  have s610 := s69.trans s10
  refine ⟨rfl, _, rfl, _, rfl, _, _, kp_dp (hk6.stay (stay_same s610)), kp_dp (ho6.stay (stay_same s610)), shk, sho, rfl, _, rfl, iteN ?_ ?_⟩
  · rw [eqv_pd]
    by_cases hko : k = o
    · subst hko
      have : t1' = t2' := cs_inj (by rw [show cs t1' = t1'.cps.toList from rfl, ht1, ← ht2])
      rw [this, decide_eq_true rfl, decide_eq_true rfl]
      rfl
    · have : ¬ V.str t1' = V.str t2' := fun e => hko (txt_inj kok ook (by rw [← ht1, ← ht2, V.str.inj e]))
      rw [decide_eq_false this, decide_eq_false hko]
      rfl
  -- whole
  refine ⟨_, rfl, _, rfl, by show 3 ≤ sizeLine; decide, fun tw htw => ?_⟩
  have s11 := s610.trans (same_new htw (.tup [.str "pair", v1, v2]))
  have hw : Kp K (upd H10 tw (.tup [.str "pair", v1, v2])) (.ref tw) (.C2 "pair" k o) := kp_mk (k := .C2 "pair" k o) (xs := [v1, v2]) rfl (.inl (.inl upd_same)) (by show ("pair" : Str).length ≤ 100000; decide +kernel) (.cons (hk6.stay (stay_same s11)) (.cons (ho6.stay (stay_same s11)) .nil))
  have wok : (Kd.C2 "pair" k o).ok := ⟨by decide +kernel, kok, ook⟩
  have ndw := Kd.nodes_tg (.C2 "pair" k o)
  have ndw2 : (Kd.C2 "pair" k o).nds = 1 + k.nds + o.nds := rfl
  have isw := Kd.isT_tg wok
  have isk := Kd.isT_tg kok
  have iso := Kd.isT_tg ook
  refine ⟨_, rfl, .ref tw, _, rfl, hw, by omega, fun a1 ea1 _ H12 s12 => ?_, fun z => (by rw [isw] at z; cases z)⟩
  have ea1' := tg_inj ea1
  subst ea1'
  refine ⟨_, rfl, v1, _, rfl, (hk6.stay (stay_same s11)).stay (stay_same s12), by omega, fun a2 ea2 _ H13 s13 => ?_, fun z => (by rw [isk] at z; cases z)⟩
  have ea2' := tg_inj ea2
  subst ea2'
  have s1113 := s12.trans s13
  refine ⟨_, _, rfl, rfl, _, rfl, v2, _, rfl, (ho6.stay (stay_same s11)).stay (stay_same s1113), by omega, fun a3 ea3 _ H14 s14 => ?_, fun z => (by rw [iso] at z; cases z)⟩
  have ea3' := tg_inj ea3
  subst ea3'
  have s1114 := s1113.trans s14
  refine ⟨_, _, rfl, rfl, rfl, _, rfl, iteN ?_ ?_⟩
  · have : V.int (((Kd.C2 "pair" k o).size : Nat) : Int) = V.int (1 + ((k.size : Nat) : Int) + ((o.size : Nat) : Int)) := by
      show V.int (((1 + k.size + o.size : Nat)) : Int) = _
      congr 1
    rw [decide_eq_true this]
    rfl
  refine ⟨_, rfl, .ref tw, _, rfl, hw.stay (stay_same s1114), by omega, fun a1 ea1 _ H15 s15 => ?_, fun z => (by rw [isw] at z; cases z)⟩
  have ea1' := tg_inj ea1
  subst ea1'
  have s1115 := s1114.trans s15
  refine ⟨_, rfl, v1, _, rfl, (hk6.stay (stay_same s11)).stay (stay_same s1115), by omega, fun a2 ea2 _ H16 s16 => ?_, fun z => (by rw [isk] at z; cases z)⟩
  have ea2' := tg_inj ea2
  subst ea2'
  have s1116 := s1115.trans s16
  refine ⟨_, rfl, v2, _, rfl, (ho6.stay (stay_same s11)).stay (stay_same s1116), by omega, fun a3 ea3 _ H17 s17 => ?_, fun z => (by rw [iso] at z; cases z)⟩
  have ea3' := tg_inj ea3
  subst ea3'
  have s1117 := s1116.trans s17
  refine ⟨_, _, rfl, _, _, rfl, rfl, rfl, _, rfl, iteN ?_ ?_⟩
  · have : V.int (((Kd.C2 "pair" k o).depth : Nat) : Int) = V.int (1 + (if ((o.depth : Nat) : Int) > ((k.depth : Nat) : Int) then ((o.depth : Nat) : Int) else ((k.depth : Nat) : Int))) := by
      show V.int (((1 + max k.depth o.depth : Nat)) : Int) = _
      congr 1
      split <;> omega
    rw [decide_eq_true this]
    rfl
  exact ⟨_, _, _, _, _, rfl, smH6.trans (Gro.of (s11.trans s1117)), pn6.same (s11.trans s1117), tb6.ext (s11.trans s1117)⟩
end
end N

namespace N
open PySem PySem.Spec PyProof.Rows L2 LamX NdefX
/-! ### the end of a law, where one def makes lambdas -/
/-- what the end wants of the heap where the law is called -/
structure TabHere (K : PySem.W.Frag) (mg : Str → Option Value) (h : Heap) (c Pt : Addr) : Prop where
  tab : h.get? Pt = some { cls := .none, data := .fields #[] }
  off : K.lookup Pt = none
  hd : PySem.W.CodeHd h c Pt
  bm : ∃ (bm : Addr) (ob : Obj), mg "__builtins__" = some (.ref bm) ∧ bm ≠ builtinsNs ∧ h.get? bm = some ob ∧ ob.cls = .type "module" ∧ ob.dict = some builtinsNs ∧ ob.data = .plain
section
variable {P : Program} {w : World} {K : PySem.W.Frag} {mg mb : Str → Option Value} {CX : CXT} {k : Nat} {fa a c Pt : Addr} {fd : FuncData} {x : Str} {sp : Sp} {s₁ : Shared} {vs : List Value} {ns : List Int}
theorem run_lawT (H : Hp) (KX : K.In s₁.heap) (hns : s₁.heap.Ns mainGlobals mg) (hb : s₁.heap.Ns builtinsNs mb) (hbb : ∀ x : Str, x ≠ "__name__" → mb x = bootBuiltins x) (hlim : s₁.heap.NoLimit) (hg : s₁.gens = #[]) (T : TabHere K mg s₁.heap c Pt)
    (ha : s₁.heap.get? a = some { cls := .type "list", data := .seq vs.toArray }) (hr : Room k callerA) (F : ∀ base : Heap, K.In base → base.Ns mainGlobals mg → TabB base mg c Pt → FnG P w K mg base CX k fa fd [x] sp) (hbind : ∀ (s : Shared) (u : Value), BindsTo s fd ⟨[u], []⟩ [(x, u)])
    (hsp : sp [.ref a] H (fun v _ => v = .bl true) fun _ _ _ => False) (hCX : ∀ e s', CX [] H s₁ (fun _ _ _ => False) e s' → False) (hO : ∀ b, b ≠ Pt → H b = none ∨ ∃ o xs, H b = some (.frz o (.lst xs))) (hHP : H Pt = some (.tbl #[])) (hok : HOk P w H s₁.heap)
    (hA : ∀ b, H b ≠ none → b = a ∨ b = Pt) (hK : H a ≠ none → K.lookup a = none) :
    codeAny (model P w) callerA (.call (.ref fa) ⟨[.ref a], []⟩) (fun r s' => r = .ok (.ret (.bool true)) ∧ OldK s₁.heap s'.heap ∧ s'.os = s₁.os ∧ AllBare s'.gens) s₁ := by
  have tabH := T.tab
  -- what is neither the script nor the table is not tracked
  have free : ∀ {b : Addr} {o : Obj}, s₁.heap.get? b = some o → (∀ us n, o.data ≠ .seq us n) → o.data ≠ .fields #[] → H b = none := fun {b o} e n1 n2 => by
    cases q : H b with
    | none => rfl
    | some u =>
      rcases hA b (by rw [q]; exact fun z => by cases z) with z | z
      · rw [z, ha] at e
        cases e
        exact absurd rfl (n1 _ _)
      · rw [z, tabH] at e
        cases e
        exact absurd rfl n2
  have dictF : ∀ {b : Addr} {o : Obj} {es : Array DictEntry} {ep : Nat}, s₁.heap.get? b = some o → o.data = .dict es ep → H b = none := fun {b o es ep} e d => free e (fun us n z => by rw [d] at z; cases z) (fun z => by rw [d] at z; cases z)
  have nsK : ∀ {b : Addr} {m : Str → Option Value}, s₁.heap.Ns b m → (hidT s₁.heap H).Ns b m := fun {b m} z => by
    obtain ⟨o, es, ep, e, d, r⟩ := z
    exact ⟨o, es, ep, hidT_get e (dictF e d), d, r⟩
  have hKb : K.In (hidT s₁.heap H) := fun b o e => hidT_get (KX b o e) (by
    cases q : H b with
    | none => rfl
    | some u =>
      rcases hA b (by rw [q]; exact fun z => by cases z) with z | z
      · subst z
        rw [hK (by rw [q]; exact fun z => by cases z)] at e
        cases e
      · subst z
        rw [T.off] at e
        cases e)
  have hM : Mod K mg (hidT s₁.heap H) := ⟨hKb, nsK hns, ⟨mb, nsK hb, hbb⟩, let ⟨mc, h1, h2⟩ := hlim; ⟨mc, nsK h1, h2⟩⟩
  have gP : mainGlobals ≠ Pt := fun z => by
    obtain ⟨o, es, ep, e, d, _⟩ := hns
    rw [z, tabH] at e
    cases e
    cases d
  have TB : TabB (hidT s₁.heap H) mg c Pt := by
    refine ⟨?_, ?_, gP⟩
    · obtain ⟨o, us, file, tf, flags, tg, inF, text, tt, e1, r1, r2, r3, rest⟩ := T.hd
      refine ⟨o, us, file, tf, flags, tg, inF, text, tt, hidT_get e1 (free e1 (fun us n z => by rw [r2] at z; cases z) (fun z => ?_)), r1, r2, r3, rest⟩
      rw [r2] at z
      cases z
      simp at r3
    · obtain ⟨bm, ob, b1, b2, b3, b4, b5, b6⟩ := T.bm
      refine ⟨bm, ob, b1, b2, fun z => ?_, fun z => ?_, hidT_get b3 (free b3 (fun us n z => by rw [b6] at z; cases z) (fun z => by rw [b6] at z; cases z)), b4, b5, b6⟩
      · obtain ⟨o, es, ep, e, d, _⟩ := hns
        rw [z, e] at b3
        cases b3
        rw [d] at b6
        cases b6
      · rw [z, tabH] at b3
        cases b3
        cases b6
  have e0 : Env0 P w K mg (hidT s₁.heap H) callerA [] s₁ H := ⟨rfl, hM, fun b o e => of_hidT e, Nat.le_of_eq (hidT_size _ _), trivial, fun b hb => absurd (show b ∈ ([] : List Addr) from hb) (by simp), hok, .of_eq hg⟩
  have go := (F _ hKb (nsK hns) TB).run callerA [] s₁ H ⟨[.ref a], []⟩ [.ref a] [.ref a] (fun v _ => v = .bl true) (fun _ _ _ => False) (roomG_caller hr) e0 (hbind s₁ (.ref a)) (.cons rfl .nil) hsp
  refine codeAny_mono go fun r s' h => ?_
  match r, h with
  | .error e, h => exact (hCX e s' h).elim
  | .ok .next, h => exact False.elim h
  | .ok .brk, h => exact False.elim h
  | .ok .cont, h => exact False.elim h
  | .ok (.ret u), h =>
    obtain ⟨v, H', os, bare, un, hok', r', q⟩ := h
    have q' : v = .bl true := q
    subst q'
    obtain rfl : u = Value.bool true := r'
    obtain ⟨more, hm⟩ := un.tbls Pt #[] hHP
    have hm' : s'.heap.get? Pt = some { cls := .none, data := .fields (#[] ++ more) } := hok' Pt _ hm
    have key : ∀ b o, b ≠ Pt → s₁.heap.get? b = some o → s'.heap.get? b = some o := fun b o nb e => by
      cases q : H b with
      | none => exact un.keep b o e q (by intro z; exact absurd (show b ∈ ([] : List Addr) from z) (by simp)) (by simp)
      | some u =>
        rcases hO b nb with z | ⟨ob, xs, z⟩
        · rw [q] at z; cases z
        · have e1 := (hok b _ z).1
          have e2 := (hok' b _ (un.frzs b ob _ z)).1
          rw [e] at e1
          cases e1
          exact e2
    refine ⟨rfl, ⟨fun b o e => ?_, fun b o e => ?_⟩, os, bare⟩
    · by_cases nb : b = Pt
      · subst nb
        rw [tabH] at e
        cases e
        exact .inr (.inl ⟨(T.hd.tab tabH).isCodeTable, rfl, #[], more, rfl, hm'⟩)
      · exact .inl (key b o nb e)
    · by_cases nb : b = Pt
      · subst nb
        exact ⟨_, hm'⟩
      · exact ⟨o, key b o nb e⟩
end
theorem walkGT {l : PySem.W.OpenLaw} {n k : Nat} {q : Program} {loose : List Str} {XP : (Str → Option Value) → Heap → Prop} {YP : World → Heap → Prop} {d : DefRec} {K : Params → PySem.W.Frag} {CX : World → CXT} {sp : World → Sp} {x : Str} {Pt : Addr}
    (hn : l.most = some n) (hn2 : n ≤ sizeLine) (hdf : d.params.defaults = []) (hr : Room k callerA) (hY : ∀ (w : World) (h : Heap), YP w h → (K w.params).In h) (hP : ∀ (w : World) (h : Heap), YP w h → h.get? Pt = some { cls := .none, data := .fields #[] })
    (hoff : ∀ w : World, (K w.params).lookup Pt = none)
    (F : ∀ (w : World) (mg : Str → Option Value) (fa : Addr) (h : Heap), (K w.params).In h → h.Ns mainGlobals mg → mg d.name = some (.ref fa) →
      ∃ (c : Addr) (fd : FuncData), PySem.W.codeHdIn (K w.params) c Pt = true ∧ (∀ (s : Shared) (u : Value), BindsTo s fd ⟨[u], []⟩ [(x, u)]) ∧ ∀ base : Heap, (K w.params).In base → base.Ns mainGlobals mg → TabB base mg c Pt → FnG l.prog w (K w.params) mg base (CX w) k fa fd [x] (sp w))
    (hsp : ∀ (w : World) (H : Hp) (a : Addr) (ns : List Int), ns.length ≤ n → H Pt = some (.tbl #[]) → SqL (K w.params) H a (ns.map V.int) → sp w [.ref a] H (fun v _ => v = .bl true) fun _ _ _ => False)
    (hCX : ∀ (w : World) (H : Hp) (s : Shared) (e : Value) (s' : Shared), CX w [] H s (fun _ _ _ => False) e s' → False) : PySem.W.WalkO q loose XP YP l.row.toRowW d [] (fun f vs => PySem.call f vs) := by
  refine Att.attach_call hn hdf fun w s₀ s₁ mg mb fa o pm cd doc a vs ns G Y ho hd hcd hmg ha hi hlen hg => ?_
  have KX := hY w _ Y
  obtain ⟨c, fd, hcc, hb, hF⟩ := F w mg fa _ KX G.T.g hmg
  have ht := hP w _ Y
  have T : TabHere (K w.params) mg s₁.heap c Pt := ⟨ht, hoff w, PySem.W.codeHd_of_K KX hcc, G.T.bmain⟩
  have rv := vals_ints hi
  have lenV := hi.length
  have hl : ns.length ≤ sizeLine := Nat.le_trans hlen hn2
  have naP : a ≠ Pt := fun z => by
    rw [z, ht] at ha
    cases ha
  have one := fun (H : Hp) (hS : SqL (K w.params) H a (ns.map V.int)) (hHP : H Pt = some (.tbl #[])) => run_lawT H KX G.T.g G.T.b G.T.builtins G.T.nolimit hg T ha hr hF hb (hsp w H a ns hlen hHP hS) (fun e s' => hCX w H s₁ e s')
  cases hk : (K w.params).lookup a with
  | some o' =>
    have e := KX a o' hk
    rw [ha] at e
    cases e
    have at_ : ∀ {b : Addr}, b ≠ Pt → (if b = Pt then some (HO.tbl #[]) else none) = none := fun n => if_neg n
    refine one (fun b => if b = Pt then some (.tbl #[]) else none) (.inr ⟨_, vs.toArray, _, hk, rfl, rfl, rfl, by rw [List.size_toArray, lenV]; exact hl, by simpa using rv⟩) (if_pos rfl) (fun b nb => .inl (at_ nb)) (if_pos rfl) (fun b u z => ?_) (fun b z => ?_) fun z => absurd (at_ naP) z
    · by_cases nb : b = Pt
      · have z' := (if_pos nb).symm.trans z
        cases z'
        rw [nb]
        exact ht
      · have z' := (at_ nb).symm.trans z
        cases z'
    · by_cases nb : b = Pt
      · exact .inr nb
      · exact absurd (at_ nb) z
  | none =>
    have yP : (if Pt = a then some (HO.frz { cls := .type "list", data := .seq vs.toArray } (.lst (ns.map V.int))) else if Pt = Pt then some (.tbl #[]) else none) = some (.tbl #[]) := (if_neg (Ne.symm naP)).trans (if_pos rfl)
    refine one (fun b => if b = a then some (.frz { cls := .type "list", data := .seq vs.toArray } (.lst (ns.map V.int))) else if b = Pt then some (.tbl #[]) else none) (.inl (.inr ⟨{ cls := .type "list", data := .seq vs.toArray }, if_pos rfl⟩)) yP (fun b nb => ?_) yP (fun b u z => ?_) (fun b z => ?_) fun _ => hk
    · by_cases hb : b = a
      · exact .inr ⟨_, _, if_pos hb⟩
      · exact .inl ((if_neg hb).trans (if_neg nb))
    · by_cases hb : b = a
      · have z' := (if_pos hb).symm.trans z
        cases z'
        rw [hb]
        exact ⟨ha, by rw [List.length_map]; exact hl, vs, _, rv, ha⟩
      · have z1 := (if_neg hb).symm.trans z
        by_cases nb : b = Pt
        · have z' := (if_pos nb).symm.trans z1
          cases z'
          rw [nb]
          exact ht
        · have z' := (if_neg nb).symm.trans z1
          cases z'
    · by_cases hb : b = a
      · exact .inl hb
      · by_cases nb : b = Pt
        · exact .inr nb
        · exact absurd ((if_neg hb).trans (if_neg nb)) z
theorem packT {K : PySem.W.Frag} {c Pt : Addr} {A : FuncData → Prop} {B : Addr → FuncData → Prop} (h : ∃ fd, A fd ∧ B c fd) (hc : PySem.W.codeHdIn K c Pt = true) : ∃ c fd, PySem.W.codeHdIn K c Pt = true ∧ A fd ∧ B c fd := by
  obtain ⟨fd, a, b⟩ := h
  exact ⟨c, fd, hc, a, b⟩
end N

namespace N
open PySem PySem.Spec PyProof.Rows L2 StX LamX NdefX
theorem glo_mk {K : PySem.W.Frag} {h : Heap} {mg : Str → Option Value} {t8 t2 : Tok} (X : K.In h) (G : h.Ns mainGlobals mg)
    (z_isinstance : PySem.W.nsIn K mainGlobals "isinstance" = some none)
    (z_str : PySem.W.nsIn K mainGlobals "str" = some none)
    (z_tuple : PySem.W.nsIn K mainGlobals "tuple" = some none)
    (z_dict : PySem.W.nsIn K mainGlobals "dict" = some none)
    (z_list : PySem.W.nsIn K mainGlobals "list" = some none)
    (z_len : PySem.W.nsIn K mainGlobals "len" = some none)
    (z_all : PySem.W.nsIn K mainGlobals "all" = some none)
    (z_max : PySem.W.nsIn K mainGlobals "max" = some none)
    (z_min : PySem.W.nsIn K mainGlobals "min" = some none)
    (z_range : PySem.W.nsIn K mainGlobals "range" = some none)
    (z_repr : PySem.W.nsIn K mainGlobals "repr" = some none)
    (z_sum : PySem.W.nsIn K mainGlobals "sum" = some none)
    (zl : PySem.W.nsIn K mainGlobals "LONGEST_NAME" = some (some (.int 8 t8))) (zm : PySem.W.nsIn K mainGlobals "MOST_ARGUMENTS" = some (some (.int 2 t2))) : Glo mg :=
  ⟨PySem.W.mg_none_of X G z_isinstance, PySem.W.mg_none_of X G z_str, PySem.W.mg_none_of X G z_tuple, PySem.W.mg_none_of X G z_dict, PySem.W.mg_none_of X G z_list, PySem.W.mg_none_of X G z_len, PySem.W.mg_none_of X G z_all, PySem.W.mg_none_of X G z_max, PySem.W.mg_none_of X G z_min, PySem.W.mg_none_of X G z_range, PySem.W.mg_none_of X G z_repr, PySem.W.mg_none_of X G z_sum, ⟨_, PySem.W.mg_of X G zl⟩, ⟨_, PySem.W.mg_of X G zm⟩⟩
theorem exc_mk {K : PySem.W.Frag} {h : Heap} {mg : Str → Option Value} {x : Str} {C : Addr} (X : K.In h) (G : h.Ns mainGlobals mg) (a : PySem.W.nsIn K mainGlobals x = some (some (.ref C))) (k : PySem.W.keepIn K (.ref C) = true) (b : PySem.W.subIn K (.ref C) (.type "BaseException") = some true)
    (t : PySem.W.typeIn K (.ref C) = some (.type "type")) (e : PySem.W.excIn K C [.type "ValueError", .type "Exception", .type "BaseException", .type "object"] "ValueError.__new__" = true) : ∃ C, ExcAt K mg x C := ⟨C, PySem.W.mg_of X G a, k, b, t, e⟩
/-- the promises, one behind the other -/
theorem all_here {P : Program} {w : World} {K : PySem.W.Frag} {mg : Str → Option Value} {fa c Pt : Addr} (hfa : mg "law" = some (.ref fa)) (G : Glo mg) (X0 : ∃ C, ExcAt K mg "NoType" C)
    (D_is_letter : DefAt K mg "is_letter" s_is_letter ["thing"])
    (D_is_name : DefAt K mg "is_name" s_is_name ["thing"])
    (D_begins_class_type : DefAt K mg "begins_class_type" s_begins_class_type ["thing"])
    (D_is_type : DefAt K mg "is_type" s_is_type ["thing"])
    (D_check_type : DefAt K mg "check_type" s_check_type ["thing"])
    (D_parts : DefAt K mg "parts" s_parts ["kind"])
    (D_class_types : DefAt K mg "class_types" s_class_types ["kinds"])
    (D_size_of : DefAt K mg "size_of" s_size_of ["kind"])
    (D_size : DefAt K mg "size" s_size ["kind"])
    (D_depth_of : DefAt K mg "depth_of" s_depth_of ["kind"])
    (D_depth : DefAt K mg "depth" s_depth ["kind"])
    (D_folded : DefAt K mg "folded" s_folded ["kind", "of_letter", "of_class"])
    (D_filled : DefAtC K mg "filled" s_filled ["kind", "values"] c)
    (D_are_values : DefAt K mg "are_values" s_are_values ["thing"])
    (D_fill : DefAt K mg "fill" s_fill ["kind", "values"])
    (D_written : DefAt K mg "written" s_written ["kind"])
    (D_text_of : DefAt K mg "text_of" s_text_of ["kind"])
    (D_text : DefAt K mg "text" s_text ["kind"])
    (D_word_at : DefAt K mg "word_at" s_word_at ["line", "at"])
    (D_scan : DefAt K mg "scan" s_scan ["line", "at"])
    (D_read : DefAt K mg "read" s_read ["text"])
    (D_Lcell_at : DefAt K mg "_law_cell_at" s_Lcell_at ["_law_script", "_law_k"])
    (D_Lpen : DefAt K mg "_law_pen" s_Lpen ["_law_cell"])
    (D_Ldraw : DefAt K mg "_law_draw" s_Ldraw ["_law_pen_here", "_law_many"])
    (D_Lpick : DefAt K mg "_law_pick" s_Lpick ["_law_pen_here", "_law_some"])
    (D_Lkind : DefAt K mg "_law_kind" s_Lkind ["_law_pen_here", "_law_letters", "_law_shapes", "_law_most"])
    (D_Lheld : DefAt K mg "_law_held" s_Lheld ["_law_pen_here", "_law_shapes"])
    (D_Lis_right : DefAt K mg "_law_is_right" s_Lis_right ["_law_kind_here", "_law_held_here", "_law_more"])
    (D_law : DefAt K mg "law" s_law ["_law_script"])
    : ∃ fd : FuncData, (∀ (s : Shared) (u : Value), BindsTo s fd ⟨[u], []⟩ [("_law_script", u)]) ∧ ∀ base : Heap, K.In base → base.Ns mainGlobals mg → TabB base mg c Pt → FnG P w K mg base (L2.CX P w) 12 fa fd ["_law_script"] (spLaw K Pt) := by
  obtain ⟨C0, X0⟩ := X0
  obtain ⟨f, fd, hm, F, _⟩ := D_law
  have ef := hm.symm.trans hfa
  cases ef
  refine ⟨fd, fun s u => ?_, fun base _ _ TB => ?_⟩
  · obtain ⟨oc, od, kV, doc, pm, an, cdv, ct, osl, rfl, _, _⟩ := F.ex
    exact .of_eq rfl
  · have c_isl := ok_is_letter (P := P) (w := w) (base := base) G D_is_letter
    have c_isn := ok_is_name (P := P) (w := w) (base := base) G D_is_name
    have c_beg := ok_begins G c_isn D_begins_class_type
    have c_ist := ok_is_type c_isl c_beg D_is_type
    have c_chk := ok_check_type X0 c_ist D_check_type
    have c_par := ok_parts (P := P) (w := w) (base := base) G D_parts
    have c_cls := ok_class_types (P := P) (w := w) (base := base) G D_class_types
    have c_szo := ok_size_of G c_par c_cls D_size_of
    have c_siz := ok_size c_chk c_szo D_size
    have c_dpo := ok_depth_of c_cls D_depth_of
    have c_dep := ok_depth c_chk c_dpo D_depth
    have c_fld := ok_filledT G TB c_par D_folded D_filled
    have c_val := ok_are_values G c_isl c_ist D_are_values
    have c_fil := ok_fillT c_chk c_val c_fld D_fill
    have c_wri := ok_written (P := P) (w := w) (base := base) G D_written
    have c_txo := ok_text_of G c_wri D_text_of
    have c_txt := ok_text c_chk c_txo D_text
    have c_wor := ok_word_at (P := P) (w := w) (base := base) G D_word_at
    have c_sca := ok_scan G c_wor c_isn c_isl D_scan
    have c_rea := ok_read G c_sca D_read
    have c_cel := ok_cell (P := P) (w := w) (base := base) G D_Lcell_at
    have c_pen := ok_pen (P := P) (w := w) (base := base) G D_Lpen
    have c_dra := ok_draw (P := P) (w := w) (base := base) D_Ldraw
    have c_pic := ok_pick G c_dra D_Lpick
    have c_kin := ok_kind G c_dra c_pic D_Lkind
    have c_hel := ok_held c_dra (c_kin 5) D_Lheld
    have c_rig := ok_is_right G c_fil c_ist c_dep c_siz c_txt c_rea D_Lis_right
    exact ok_law G c_cel c_pen c_dra (c_kin 9) c_hel c_rig c_rea c_txt c_siz c_dep F
end N
open PySem PySem.W PyProof.Rows
set_option maxHeartbeats 0 in
theorem PySem.Challenge.cw_endlesskinds_k23_whole_kinds_filled_and_holds : PySem.Challenge.rw_endlesskinds_k23_whole_kinds_filled_and.Holds := by
  w_on; o_law; k_head; (case hw => w_witness2)
  k_fill
  refine N.walkGT (l := PySem.Challenge.rw_endlesskinds_k23_whole_kinds_filled_and) (n := 63) (k := 12) (x := "_law_script") (Pt := 143) (CX := fun w => L2.CX PySem.Challenge.rw_endlesskinds_k23_whole_kinds_filled_and.prog w) (sp := fun w => N.spLaw _ 143) rfl (by decide) rfl ⟨rfl, by decide, by decide⟩ (fun w h Y => PySem.W.km_in_of Y) (fun w h Y => PySem.W.km_tabs_of Y 143 List.mem_cons_self) ?zoff ?F (fun w H a ns hl hP hS => ⟨a, ns, rfl, hS, hl, LamX.TabS.nil hP, fun _ => rfl⟩) (fun w H s e s' h => by obtain ⟨_, _, _, _, _, _, _, _, _, _, _, _, z⟩ := h; exact z)
  case zoff =>
    intro w
    kernel_rfl
  case F =>
    intro w mg fa h KX G hmg
    refine' N.packT (N.all_here hmg ?glo ?exc0 ?d_is_letter ?d_is_name ?d_begins_class_type ?d_is_type ?d_check_type ?d_parts ?d_class_types ?d_size_of ?d_size ?d_depth_of ?d_depth ?d_folded ?d_filled ?d_are_values ?d_fill ?d_written ?d_text_of ?d_text ?d_word_at ?d_scan ?d_read ?d_Lcell_at ?d_Lpen ?d_Ldraw ?d_Lpick ?d_Lkind ?d_Lheld ?d_Lis_right ?d_law) ?zcd
    case glo =>
      refine' N.glo_mk KX G ?zg0 ?zg1 ?zg2 ?zg3 ?zg4 ?zg5 ?zg6 ?zg7 ?zg8 ?zg9 ?zg10 ?zg11 ?zgl ?zgm
      (case zg0 => k_is); (case zg1 => k_is); (case zg2 => k_is); (case zg3 => k_is); (case zg4 => k_is); (case zg5 => k_is); (case zg6 => k_is); (case zg7 => k_is); (case zg8 => k_is); (case zg9 => k_is); (case zg10 => k_is); (case zg11 => k_is); (case zgl => k_is); (case zgm => k_is)
    case exc0 =>
      refine' N.exc_mk KX G ?za_exc0 ?zk_exc0 ?zb_exc0 ?zt_exc0 ?ze_exc0
      (case za_exc0 => k_is); (case zk_exc0 => k_is); (case zb_exc0 => k_is); (case zt_exc0 => k_is); (case ze_exc0 => k_exc)
    case d_is_letter =>
      refine' N.mk_def KX G ?za_d_is_letter ?zl_d_is_letter ?zc_d_is_letter ?zk_d_is_letter ?zb_d_is_letter
      (case za_d_is_letter => k_is); (case zl_d_is_letter => k_is); (case zc_d_is_letter => k_is); (case zk_d_is_letter => k_is); (case zb_d_is_letter => exact fun _ _ _ _ _ _ us hl => match us, hl with | [_], _ => rfl)
    case d_is_name =>
      refine' N.mk_def KX G ?za_d_is_name ?zl_d_is_name ?zc_d_is_name ?zk_d_is_name ?zb_d_is_name
      (case za_d_is_name => k_is); (case zl_d_is_name => k_is); (case zc_d_is_name => k_is); (case zk_d_is_name => k_is); (case zb_d_is_name => exact fun _ _ _ _ _ _ us hl => match us, hl with | [_], _ => rfl)
    case d_begins_class_type =>
      refine' N.mk_def KX G ?za_d_begins_class_type ?zl_d_begins_class_type ?zc_d_begins_class_type ?zk_d_begins_class_type ?zb_d_begins_class_type
      (case za_d_begins_class_type => k_is); (case zl_d_begins_class_type => k_is); (case zc_d_begins_class_type => k_is); (case zk_d_begins_class_type => k_is); (case zb_d_begins_class_type => exact fun _ _ _ _ _ _ us hl => match us, hl with | [_], _ => rfl)
    case d_is_type =>
      refine' N.mk_def KX G ?za_d_is_type ?zl_d_is_type ?zc_d_is_type ?zk_d_is_type ?zb_d_is_type
      (case za_d_is_type => k_is); (case zl_d_is_type => k_is); (case zc_d_is_type => k_is); (case zk_d_is_type => k_is); (case zb_d_is_type => exact fun _ _ _ _ _ _ us hl => match us, hl with | [_], _ => rfl)
    case d_check_type =>
      refine' N.mk_def KX G ?za_d_check_type ?zl_d_check_type ?zc_d_check_type ?zk_d_check_type ?zb_d_check_type
      (case za_d_check_type => k_is); (case zl_d_check_type => k_is); (case zc_d_check_type => k_is); (case zk_d_check_type => k_is); (case zb_d_check_type => exact fun _ _ _ _ _ _ us hl => match us, hl with | [_], _ => rfl)
    case d_parts =>
      refine' N.mk_def KX G ?za_d_parts ?zl_d_parts ?zc_d_parts ?zk_d_parts ?zb_d_parts
      (case za_d_parts => k_is); (case zl_d_parts => k_is); (case zc_d_parts => k_is); (case zk_d_parts => k_is); (case zb_d_parts => exact fun _ _ _ _ _ _ us hl => match us, hl with | [_], _ => rfl)
    case d_class_types =>
      refine' N.mk_def KX G ?za_d_class_types ?zl_d_class_types ?zc_d_class_types ?zk_d_class_types ?zb_d_class_types
      (case za_d_class_types => k_is); (case zl_d_class_types => k_is); (case zc_d_class_types => k_is); (case zk_d_class_types => k_is); (case zb_d_class_types => exact fun _ _ _ _ _ _ us hl => match us, hl with | [_], _ => rfl)
    case d_size_of =>
      refine' N.mk_def KX G ?za_d_size_of ?zl_d_size_of ?zc_d_size_of ?zk_d_size_of ?zb_d_size_of
      (case za_d_size_of => k_is); (case zl_d_size_of => k_is); (case zc_d_size_of => k_is); (case zk_d_size_of => k_is); (case zb_d_size_of => exact fun _ _ _ _ _ _ us hl => match us, hl with | [_], _ => rfl)
    case d_size =>
      refine' N.mk_def KX G ?za_d_size ?zl_d_size ?zc_d_size ?zk_d_size ?zb_d_size
      (case za_d_size => k_is); (case zl_d_size => k_is); (case zc_d_size => k_is); (case zk_d_size => k_is); (case zb_d_size => exact fun _ _ _ _ _ _ us hl => match us, hl with | [_], _ => rfl)
    case d_depth_of =>
      refine' N.mk_def KX G ?za_d_depth_of ?zl_d_depth_of ?zc_d_depth_of ?zk_d_depth_of ?zb_d_depth_of
      (case za_d_depth_of => k_is); (case zl_d_depth_of => k_is); (case zc_d_depth_of => k_is); (case zk_d_depth_of => k_is); (case zb_d_depth_of => exact fun _ _ _ _ _ _ us hl => match us, hl with | [_], _ => rfl)
    case d_depth =>
      refine' N.mk_def KX G ?za_d_depth ?zl_d_depth ?zc_d_depth ?zk_d_depth ?zb_d_depth
      (case za_d_depth => k_is); (case zl_d_depth => k_is); (case zc_d_depth => k_is); (case zk_d_depth => k_is); (case zb_d_depth => exact fun _ _ _ _ _ _ us hl => match us, hl with | [_], _ => rfl)
    case d_folded =>
      refine' N.mk_def KX G ?za_d_folded ?zl_d_folded ?zc_d_folded ?zk_d_folded ?zb_d_folded
      (case za_d_folded => k_is); (case zl_d_folded => k_is); (case zc_d_folded => k_is); (case zk_d_folded => k_is); (case zb_d_folded => exact fun _ _ _ _ _ _ us hl => match us, hl with | [_, _, _], _ => rfl)
    case d_filled =>
      refine' N.mk_defC KX G ?za_d_filled ?zl_d_filled ?zc_d_filled ?zk_d_filled ?zb_d_filled
      (case za_d_filled => k_is); (case zl_d_filled => k_is); (case zc_d_filled => k_is); (case zk_d_filled => k_is); (case zb_d_filled => exact fun _ _ _ _ _ _ us hl => match us, hl with | [_, _], _ => rfl)
    case d_are_values =>
      refine' N.mk_def KX G ?za_d_are_values ?zl_d_are_values ?zc_d_are_values ?zk_d_are_values ?zb_d_are_values
      (case za_d_are_values => k_is); (case zl_d_are_values => k_is); (case zc_d_are_values => k_is); (case zk_d_are_values => k_is); (case zb_d_are_values => exact fun _ _ _ _ _ _ us hl => match us, hl with | [_], _ => rfl)
    case d_fill =>
      refine' N.mk_def KX G ?za_d_fill ?zl_d_fill ?zc_d_fill ?zk_d_fill ?zb_d_fill
      (case za_d_fill => k_is); (case zl_d_fill => k_is); (case zc_d_fill => k_is); (case zk_d_fill => k_is); (case zb_d_fill => exact fun _ _ _ _ _ _ us hl => match us, hl with | [_, _], _ => rfl)
    case d_written =>
      refine' N.mk_def KX G ?za_d_written ?zl_d_written ?zc_d_written ?zk_d_written ?zb_d_written
      (case za_d_written => k_is); (case zl_d_written => k_is); (case zc_d_written => k_is); (case zk_d_written => k_is); (case zb_d_written => exact fun _ _ _ _ _ _ us hl => match us, hl with | [_], _ => rfl)
    case d_text_of =>
      refine' N.mk_def KX G ?za_d_text_of ?zl_d_text_of ?zc_d_text_of ?zk_d_text_of ?zb_d_text_of
      (case za_d_text_of => k_is); (case zl_d_text_of => k_is); (case zc_d_text_of => k_is); (case zk_d_text_of => k_is); (case zb_d_text_of => exact fun _ _ _ _ _ _ us hl => match us, hl with | [_], _ => rfl)
    case d_text =>
      refine' N.mk_def KX G ?za_d_text ?zl_d_text ?zc_d_text ?zk_d_text ?zb_d_text
      (case za_d_text => k_is); (case zl_d_text => k_is); (case zc_d_text => k_is); (case zk_d_text => k_is); (case zb_d_text => exact fun _ _ _ _ _ _ us hl => match us, hl with | [_], _ => rfl)
    case d_word_at =>
      refine' N.mk_def KX G ?za_d_word_at ?zl_d_word_at ?zc_d_word_at ?zk_d_word_at ?zb_d_word_at
      (case za_d_word_at => k_is); (case zl_d_word_at => k_is); (case zc_d_word_at => k_is); (case zk_d_word_at => k_is); (case zb_d_word_at => exact fun _ _ _ _ _ _ us hl => match us, hl with | [_, _], _ => rfl)
    case d_scan =>
      refine' N.mk_def KX G ?za_d_scan ?zl_d_scan ?zc_d_scan ?zk_d_scan ?zb_d_scan
      (case za_d_scan => k_is); (case zl_d_scan => k_is); (case zc_d_scan => k_is); (case zk_d_scan => k_is); (case zb_d_scan => exact fun _ _ _ _ _ _ us hl => match us, hl with | [_, _], _ => rfl)
    case d_read =>
      refine' N.mk_def KX G ?za_d_read ?zl_d_read ?zc_d_read ?zk_d_read ?zb_d_read
      (case za_d_read => k_is); (case zl_d_read => k_is); (case zc_d_read => k_is); (case zk_d_read => k_is); (case zb_d_read => exact fun _ _ _ _ _ _ us hl => match us, hl with | [_], _ => rfl)
    case d_Lcell_at =>
      refine' N.mk_def KX G ?za_d_Lcell_at ?zl_d_Lcell_at ?zc_d_Lcell_at ?zk_d_Lcell_at ?zb_d_Lcell_at
      (case za_d_Lcell_at => k_is); (case zl_d_Lcell_at => k_is); (case zc_d_Lcell_at => k_is); (case zk_d_Lcell_at => k_is); (case zb_d_Lcell_at => exact fun _ _ _ _ _ _ us hl => match us, hl with | [_, _], _ => rfl)
    case d_Lpen =>
      refine' N.mk_def KX G ?za_d_Lpen ?zl_d_Lpen ?zc_d_Lpen ?zk_d_Lpen ?zb_d_Lpen
      (case za_d_Lpen => k_is); (case zl_d_Lpen => k_is); (case zc_d_Lpen => k_is); (case zk_d_Lpen => k_is); (case zb_d_Lpen => exact fun _ _ _ _ _ _ us hl => match us, hl with | [_], _ => rfl)
    case d_Ldraw =>
      refine' N.mk_def KX G ?za_d_Ldraw ?zl_d_Ldraw ?zc_d_Ldraw ?zk_d_Ldraw ?zb_d_Ldraw
      (case za_d_Ldraw => k_is); (case zl_d_Ldraw => k_is); (case zc_d_Ldraw => k_is); (case zk_d_Ldraw => k_is); (case zb_d_Ldraw => exact fun _ _ _ _ _ _ us hl => match us, hl with | [_, _], _ => rfl)
    case d_Lpick =>
      refine' N.mk_def KX G ?za_d_Lpick ?zl_d_Lpick ?zc_d_Lpick ?zk_d_Lpick ?zb_d_Lpick
      (case za_d_Lpick => k_is); (case zl_d_Lpick => k_is); (case zc_d_Lpick => k_is); (case zk_d_Lpick => k_is); (case zb_d_Lpick => exact fun _ _ _ _ _ _ us hl => match us, hl with | [_, _], _ => rfl)
    case d_Lkind =>
      refine' N.mk_def KX G ?za_d_Lkind ?zl_d_Lkind ?zc_d_Lkind ?zk_d_Lkind ?zb_d_Lkind
      (case za_d_Lkind => k_is); (case zl_d_Lkind => k_is); (case zc_d_Lkind => k_is); (case zk_d_Lkind => k_is); (case zb_d_Lkind => exact fun _ _ _ _ _ _ us hl => match us, hl with | [_, _, _, _], _ => rfl)
    case d_Lheld =>
      refine' N.mk_def KX G ?za_d_Lheld ?zl_d_Lheld ?zc_d_Lheld ?zk_d_Lheld ?zb_d_Lheld
      (case za_d_Lheld => k_is); (case zl_d_Lheld => k_is); (case zc_d_Lheld => k_is); (case zk_d_Lheld => k_is); (case zb_d_Lheld => exact fun _ _ _ _ _ _ us hl => match us, hl with | [_, _], _ => rfl)
    case d_Lis_right =>
      refine' N.mk_def KX G ?za_d_Lis_right ?zl_d_Lis_right ?zc_d_Lis_right ?zk_d_Lis_right ?zb_d_Lis_right
      (case za_d_Lis_right => k_is); (case zl_d_Lis_right => k_is); (case zc_d_Lis_right => k_is); (case zk_d_Lis_right => k_is); (case zb_d_Lis_right => exact fun _ _ _ _ _ _ us hl => match us, hl with | [_, _, _], _ => rfl)
    case d_law =>
      refine' N.mk_def KX G ?za_d_law ?zl_d_law ?zc_d_law ?zk_d_law ?zb_d_law
      (case za_d_law => k_is); (case zl_d_law => k_is); (case zc_d_law => k_is); (case zk_d_law => k_is); (case zb_d_law => exact fun _ _ _ _ _ _ us hl => match us, hl with | [_], _ => rfl)
    case zcd => kernel_rfl

