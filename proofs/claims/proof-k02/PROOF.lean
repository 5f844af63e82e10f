import PyProof.Rows.All
import Wide.All
import OpenK.AllK
import Wide.FinOn
import HandS.ForMost
import HandS.ForExc
import HandS.Star
import HandS.IsInst
import HandS.TupAny
import HandS.StrMore
import HandS.Style
import HandS.Flow
import HandS.Walk
import HandS.Nested
import HandS.EndTab
import KE.KNestM
import PySem.Challenge.RW_endlesskinds_k02_letters_filled
set_option Elab.async false
set_option linter.all false
set_option maxRecDepth 100000
set_option maxHeartbeats 8000000
namespace N
open PySem PySem.Spec PyProof.Rows L2
/-! ### rules that were lacking -/
theorem extend_tup_any (l : Addr) (items : Array Value) (n : Nat) (b : Addr) (items2 : Array Value) (n2 : Nat) (dd : Option Addr) (sl : Array (Option Value)) (hs0 : ¬(!items.isEmpty && Builtin.List.listTooLong (items.size + items2.size)) = true) (hs1 : items.size ≤ sizeLine) (hs2 : items.size + items2.size ≤ sizeLine + 1) :
    Meets (Builtin.«list.extend» ⟨[.ref l, .ref b], []⟩) (fun _ R s => s.heap.get? l = some { cls := .type "list", dict := none, data := .seq items n, slots := #[] } ∧ s.heap.get? b = some { cls := .type "tuple", dict := dd, data := .seq items2 n2, slots := sl } ∧ R (.ok (.ret Value.none)) { s with heap := s.heap.update l (Obj.mapSeq fun x => x ++ items2), toks := s.toks }) :=
  .of_wp fun prog w A R s h => by
    obtain ⟨hp, g, d, tk, os⟩ := s; obtain ⟨hl, hb, h⟩ := h
    have f1 := AutoSeq1.idx_int; have f2 := AutoSeq1.sub_tuple_tuple; have f3 := AutoSeq1.sub_list_list; have f4 := AutoSeq1.sub_tuple_list; have f5 := AutoSeq1.sub_list_tuple
    have hz' : (items ++ items2).size ≤ sizeLine + 1 := by rw [Array.size_append]; exact hs2
    wp_walk using (wpAny_updateSeq hl rfl (hz := hs1) (_hz' := hz')), AutoSeq1.wpAny_loadPart' hl, AutoSeq1.wpAny_loadPart' hb; exact ⟨_, rfl, h⟩
/-- l.extend(t), t a tuple -/
def rExtendT (K : PySem.W.Frag) : V → List V → Hp → VK → Prop := fun x vs H Q => ∃ l b xs zs, x = .ref l ∧ vs = [.ref b] ∧ H l = some (.lst xs) ∧ SqT K H b zs ∧ xs.length + zs.length ≤ sizeLine ∧ Q .non (upd H l (.lst (xs ++ zs)))
section
variable {X : Cx}
theorem mt_extendT : MtM X "list.extend" (rExtendT X.K) := by
  intro pins s σ H x vs v us Q I rx rv h
  obtain ⟨l, b, xs, zs, rfl, rfl, hH, hB, hz, q⟩ := h
  cases rx
  obtain ⟨u, rfl, ru⟩ := rv.one
  cases ru
  obtain ⟨z, its, n, r, hl, e⟩ := I.lstM hH
  obtain ⟨its2, r2, ⟨⟨cls, dd, data, sls⟩, e2, hc, n2, hd⟩, hl2⟩ := I.tuple hB
  simp only at hc hd
  subst hc hd
  have hx1 := r.length
  have hx2 := r2.length
  have hsz : its.toArray.size + its2.toArray.size ≤ sizeLine := by rw [List.size_toArray, List.size_toArray]; omega
  have hlong : ¬ (!its.toArray.isEmpty && Builtin.List.listTooLong (its.toArray.size + its2.toArray.size)) = true := by
    rw [notLongL hsz, Bool.and_false]
    exact Bool.false_ne_true
  refine call_meets F.slot_list_extend ⟨_, e, rfl⟩ F.entry_list_extend (F.args_list_extend_2 _ _)
    (extend_tup_any l its.toArray n b its2.toArray n2 dd sls hlong (by rw [List.size_toArray]; omega) (by omega)) ⟨e, e2, ?_⟩
  refine ⟨.non, _, I.lset (its' := its ++ its2) hH e (by simp) (r.append r2) ?_, rfl, q⟩
  rw [List.length_append]
  omega
end
end N

namespace N
open PySem PySem.Spec PyProof.Rows L2 HT
section
variable {prog : Program} {w : World} {A : Around} {E : Value → Shared → Prop} {s : Shared}
theorem adjust_back (n : Nat) (h : 1 ≤ n) : Builtin.Slice.sliceAdjust none (some 0) (-1) (n : Int) = ((n : Int) - 1, 0) := by
  unfold Builtin.Slice.sliceAdjust
  have h1 : ((-1 : Int) < 0) := by omega
  simp only [h1, if_true]
  refine Prod.ext ?_ ?_
  · first | rfl | (simp; done) | omega
  · show _ = _
    simp
    omega
theorem places_back (n : Nat) (h : 1 ≤ n) : Builtin.Slice.slicePlaces ((n : Int) - 1) 0 (-1) = n - 1 := by
  unfold Builtin.Slice.slicePlaces
  have h1 : ¬ ((-1 : Int) > 0) := by omega
  simp only [h1, if_false]
  have e : (- -1 : Int) = 1 := by decide
  rw [e, Int.ediv_one]
  split <;> omega
theorem applied_back {sl : Addr} {vl vu vs : Value} {n : Nat} {Q : Int × Int × Nat → Shared → Prop} (h1 : 1 ≤ n) (hs : s.heap.IsSliceOf sl vl vu vs) (pl : IsPart vl none) (pu : IsPart vu (some 0)) (ps : IsPart vs (some (-1)))
    (h : Q ((n : Int) - 1, -1, n - 1) s) : wpAny (model prog w) A (Builtin.Slice.sliceApplied (.ref sl) (pure (n : Int))) Q E s := by
  obtain ⟨os, hos, hcs, hds⟩ := id hs
  unfold Builtin.Slice.sliceApplied Builtin.Slice.sliceFields
  refine wpAny_bind (wpAny_bind (wpAny_field hos hds (x := vl) rfl (wpAny_bind (wpAny_field hos hds (x := vu) rfl (wpAny_bind (wpAny_field hos hds (x := vs) rfl (wpAny_pure ?_)))))))
  refine wpAny_bind (slicePart_ ps ?_)
  show wpAny _ _ (if ((-1 : Int) == 0) = true then _ else _) _ _ s
  rw [if_neg (by decide)]
  refine wpAny_bind (slicePart_ pl (wpAny_bind (slicePart_ pu (wpAny_bind (wpAny_pure ?_)))))
  show wpAny _ _ (match Builtin.Slice.sliceAdjust none (some 0) (-1) (n : Int) with | (lo, hi) => pure (lo, (-1 : Int), Builtin.Slice.slicePlaces lo hi (-1))) _ _ s
  rw [adjust_back n h1]
  show wpAny _ _ (pure ((n : Int) - 1, (-1 : Int), Builtin.Slice.slicePlaces ((n : Int) - 1) 0 (-1))) _ _ s
  rw [places_back n h1]
  exact wpAny_pure h
theorem pick_back (xs : Array Value) (h : 1 ≤ xs.size) : ((List.range (xs.size - 1)).filterMap fun (m : Nat) => xs[(((xs.size : Int) - 1) + (m : Int) * (-1)).toNat]?).toArray = (xs.toList.drop 1).reverse.toArray := by
  refine congrArg List.toArray ?_
  have e : ∀ m ∈ List.range (xs.size - 1), xs[(((xs.size : Int) - 1) + (m : Int) * (-1)).toNat]? = some (xs.toList.reverse.getD m .none) := by
    intro m hm
    have hm' := List.mem_range.mp hm
    have e1 : (((xs.size : Int) - 1) + (m : Int) * (-1)).toNat = xs.size - 1 - m := by omega
    rw [e1, ← Array.getElem?_toList, List.getD_eq_getElem?_getD, List.getElem?_reverse (by rw [Array.length_toList]; omega), Array.length_toList,
      List.getElem?_eq_getElem (show xs.size - 1 - m < xs.toList.length by rw [Array.length_toList]; omega)]
    rfl
  have e2 : (List.range (xs.size - 1)).filterMap (fun (m : Nat) => xs[(((xs.size : Int) - 1) + (m : Int) * (-1)).toNat]?) = (List.range (xs.size - 1)).filterMap (fun m => some (xs.toList.reverse.getD m .none)) := by
    generalize List.range (xs.size - 1) = l at e
    induction l with
    | nil => rfl
    | cons a r ih =>
      rw [List.filterMap_cons, List.filterMap_cons, e a List.mem_cons_self, ih fun m hm => e m (List.mem_cons_of_mem _ hm)]
  rw [e2, List.filterMap_eq_map' ] <;> try rfl
  apply List.ext_getElem?
  intro i
  rw [List.getElem?_map]
  by_cases hi : i < xs.size - 1
  · rw [List.getElem?_range hi, List.getElem?_reverse (by rw [List.length_drop, Array.length_toList]; omega), List.length_drop, Array.length_toList, List.getElem?_drop,
      Option.map_some, List.getD_eq_getElem?_getD, List.getElem?_reverse (by rw [Array.length_toList]; omega), Array.length_toList,
      show 1 + (xs.size - 1 - 1 - i) = xs.size - 1 - i by omega, List.getElem?_eq_getElem (show xs.size - 1 - i < xs.toList.length by rw [Array.length_toList]; omega)]
    rfl
  · rw [List.getElem?_eq_none (by rw [List.length_range]; omega), List.getElem?_eq_none (by rw [List.length_reverse, List.length_drop, Array.length_toList]; omega)]
    rfl
theorem getItem_tuple_back {t sl : Addr} {items : Array Value} {vl vu vs : Value} {Q : Value → Shared → Prop} (ht : IsTup s.heap t items) (h1 : 1 ≤ items.size) (hs : s.heap.IsSliceOf sl vl vu vs) (pl : IsPart vl none) (pu : IsPart vu (some 0)) (ps : IsPart vs (some (-1)))
    (h : Q (.ref s.heap.objs.size) { s with heap := s.heap.push { cls := .type "tuple", data := .seq (items.toList.drop 1).reverse.toArray } })
    (hsz : items.size ≤ sizeLine) : wpAny (model prog w) A (getItem (.ref t) (.ref sl)) Q E s := by
  have htake : sizeOk (.seq (items.toList.drop 1).reverse.toArray) := by
    show ((items.toList.drop 1).reverse).toArray.size ≤ sizeLine
    rw [List.size_toArray, List.length_reverse, List.length_drop, Array.length_toList]
    omega
  obtain ⟨os, hos, hcs, hds⟩ := id hs
  have hTs : s.TypeIs (.ref sl) "slice" := ⟨os, hos, hcs⟩
  unfold getItem
  try with_reducible refine wpAny_holding ?_
  first | refine wpAny_bind (wpAny_pure ?_) | skip
  refine wpAny_bind (wpAny_sequenceKey ht.typeIs (by decide) ?_)
  refine wpAny_bind (wpAny_callSpecial?_slot (name := Str.ofString "__getitem__") ht.typeIs PyProof.Rows.slot_tuple_getitem
    (wpAny_call_entry PyProof.Rows.slot_tuple_getitem ht.typeIs entry_tuple_getitem ?_ (args_tuple_getitem _ _)))
  show wpAny _ _ (Builtin.Tuple.tupleItemsOf (.ref t) >>= _) _ _ s
  refine wpAny_bind (tupleItemsOf_ ht ?_)
  refine wpAny_bind (wpAny_typeOf hTs ?_)
  rw [if_pos (by decide)]
  refine wpAny_bind (applied_back h1 hs pl pu ps ?_)
  show wpAny _ _ (if ((((items.size : Int) - 1)) == 0 && (-1 : Int) == 1 && (items.size - 1) == items.size) = true then _ else _) _ _ s
  rw [if_neg (by simp), pick_back items h1]
  first
    | exact wpAny_bind (m := Builtin.Tuple.tupleExact _) (wpAny_newObj_type (wpAny_pure ⟨_, rfl, wpAny_pure h⟩) htake)
    | exact wpAny_bind (m := Builtin.Tuple.tupleExact _) (wpAny_newObj_type (wpAny_bind (wpAny_pure (wpAny_pure ⟨_, rfl, wpAny_pure h⟩))) htake)
    | exact wpAny_bind (wpAny_bind (m := Builtin.Tuple.tupleExact _) (wpAny_newObj_type (wpAny_pure (wpAny_pure ⟨_, rfl, wpAny_pure h⟩)) htake))
    | exact wpAny_bind (wpAny_bind (m := Builtin.Tuple.tupleExact _) (wpAny_newObj_type (wpAny_pure ⟨_, rfl, wpAny_pure h⟩) htake))
end
/-- t[:0:-1] -/
def tBackT (K : PySem.W.Frag) (te : TE) : TE := fun σ H Q => te σ H fun x H1 => ∃ a xs, x = .ref a ∧ SqT K H1 a xs ∧ 1 ≤ xs.length ∧ ∀ p, H1 p = none → Q (.ref p) (upd H1 p (.tup (xs.drop 1).reverse))
section
variable {X : Cx}
theorem pe_backT {e : Expr} {te : TE} {k k0 : Nat} {p0 p1 p2 p3 pos : Pos} (he : PE X e te) : PE X (.Subscript e (.Slice none (some (.Constant (.int 0) k0 p0)) (some (.UnaryOp .USub (.Constant (.int 1) k p1) p2)) p3) pos) (tBackT X.K te) := by
  refine ⟨fun pins s σ H Q I h => ?_⟩
  refine Subscript_ (thn (he.run pins s σ H _ I h) fun v s1 ⟨x, H1, I1, r1, q1⟩ => ?_)
  obtain ⟨a, xs, ex, hx, h1, q⟩ := q1
  subst ex
  cases r1
  have hst : PO X (some (.UnaryOp .USub (.Constant (.int 1) k p1) p2)) (tPart (tUn (rU fun i => .int (-i)) (tC (.int 1)))) := po_some (pe_un un_neg pe_int)
  have hhi : PO X (some (.Constant (.int 0) k0 p0)) (tPart (tC (.int 0))) := po_some pe_int
  refine wpAny_Slice (thn (po_none.run pins s1 σ H1 (fun o H2 => o = none ∧ H2 = H1) I1 ⟨rfl, rfl⟩) fun vl s2 ⟨l, H2, I2, pl, el, e2⟩ => ?_)
  subst el e2
  refine thn (hhi.run pins s2 σ H2 (fun o H3 => o = some 0 ∧ H3 = H2) I2 ⟨0, rfl, rfl, rfl⟩) fun vu s3 ⟨u, H3, I3, pu, eu, e3⟩ => ?_
  subst eu e3
  refine thn (hst.run pins s3 σ H3 (fun o H4 => o = some (-1) ∧ H4 = H3) I3 ⟨1, rfl, -1, rfl, rfl, rfl⟩) fun vs s4 ⟨o, H4, I4, ps, eo, e4⟩ => ?_
  subst eo e4
  have I5 : Inv X pins σ H4 { s4 with heap := s4.heap.push { cls := .type "slice", data := .fields #[vl, vu, vs] } } := I4.kept (t' := s4.toks) fun b ob q => Heap.get?_push_of_some _ q
  obtain ⟨its, r, ht, hz⟩ := I5.tuple hx
  have hlen := r.length
  show wpAny (model X.prog X.w) X.A (subscriptTail e (.Slice none (some (.Constant (.int 0) k0 p0)) (some (.UnaryOp .USub (.Constant (.int 1) k p1) p2)) p3) (.ref a) (.ref s4.heap.objs.size)) (EP X pins σ Q) X.xe { s4 with heap := s4.heap.push { cls := .type "slice", data := .fields #[vl, vu, vs] } }
  refine tail_any (ops := [.ref a, .ref s4.heap.objs.size]) ht.typeIs (PyProof.Rows.slot_tuple_getitem.lookup) ?_ (by with_unfolding_all rfl)
  refine getItem_tuple_back ht (by rw [List.size_toArray]; omega) (Heap.IsSliceOf.new _ vl vu vs) pl pu ps ?_ (by rw [List.size_toArray]; omega)
  refine ⟨.ref _, _, I5.laid (t' := s4.toks) (o := .tup (xs.drop 1).reverse) (fun b ob q => Heap.get?_push_of_some _ q) (Nat.le_refl _) ?_, rfl, q _ (I5.hok.fresh (Nat.le_refl _))⟩
  refine ⟨by rw [List.length_reverse, List.length_drop]; omega, (its.drop 1).reverse, ?_, ⟨_, Heap.get?_push_size _ rfl, rfl, _, rfl⟩⟩
  exact (r.drop 1).reverse
end
end N

namespace N
open PySem PySem.Spec PyProof.Rows L2
/-! ### words -/
theorem asc_alpha : ∀ c : Nat, c < 128 → Unicode.isAlpha c = (decide (65 ≤ c ∧ c ≤ 90) || decide (97 ≤ c ∧ c ≤ 122)) := by
  intro c h
  have q : ∀ c : Fin 128, Unicode.isAlpha c.1 = (decide (65 ≤ c.1 ∧ c.1 ≤ 90) || decide (97 ≤ c.1 ∧ c.1 ≤ 122)) := by decide +kernel
  exact q ⟨c, h⟩
theorem asc_lower : ∀ c : Nat, c < 128 → Unicode.isLower c = decide (97 ≤ c ∧ c ≤ 122) := by
  intro c h
  have q : ∀ c : Fin 128, Unicode.isLower c.1 = decide (97 ≤ c.1 ∧ c.1 ≤ 122) := by decide +kernel
  exact q ⟨c, h⟩
theorem asc_upper : ∀ c : Nat, c < 128 → (Unicode.isUpper c || Unicode.isTitle c) = decide (65 ≤ c ∧ c ≤ 90) := by
  intro c h
  have q : ∀ c : Fin 128, (Unicode.isUpper c.1 || Unicode.isTitle c.1) = decide (65 ≤ c.1 ∧ c.1 ≤ 90) := by decide +kernel
  exact q ⟨c, h⟩
/-- a letter, as the def says it -/
def isLet (x : Str) : Bool := decide (x.length = 1) && (!decide (x.cps.toList < ("A" : Str).cps.toList) && !decide (("Z" : Str).cps.toList < x.cps.toList))
def isNam (x : Str) : Bool := !decide (8 < x.length) && (Txt.isascii x && (Txt.isalpha x && Txt.islower x))
def Low (c : Nat) : Prop := 97 ≤ c ∧ c ≤ 122
theorem isLet_iff {x : Str} : isLet x = true ↔ ∃ c, x.cps.toList = [c] ∧ 65 ≤ c ∧ c ≤ 90 := by
  unfold isLet Str.length
  have eA : ("A" : Str).cps.toList = [65] := by decide +kernel
  have eZ : ("Z" : Str).cps.toList = [90] := by decide +kernel
  rw [eA, eZ]
  obtain ⟨⟨l⟩⟩ := x
  simp only [Bool.and_eq_true, decide_eq_true_eq, Bool.not_eq_true', decide_eq_false_iff_not, List.size_toArray]
  constructor
  · rintro ⟨h1, h2, h3⟩
    match l, h1 with
    | [c], _ =>
      refine ⟨c, rfl, ?_, ?_⟩
      · have : ¬ c < 65 := fun q => h2 (by simp [List.cons_lt_cons_iff, q])
        omega
      · have : ¬ 90 < c := fun q => h3 (by simp [List.cons_lt_cons_iff, q])
        omega
  · rintro ⟨c, h, h2, h3⟩
    subst h
    refine ⟨rfl, fun q => ?_, fun q => ?_⟩
    · simp [List.cons_lt_cons_iff] at q
      omega
    · simp [List.cons_lt_cons_iff] at q
      omega
theorem isNam_iff {x : Str} : isNam x = true ↔ 1 ≤ x.length ∧ x.length ≤ 8 ∧ ∀ c ∈ x.cps.toList, Low c := by
  obtain ⟨⟨l⟩⟩ := x
  have e1 : Txt.isascii ⟨⟨l⟩⟩ = l.all (fun c => decide (c < 128)) := by
    show Array.all _ _ = _
    exact List.all_toArray ..
  have e2 : Txt.isalpha ⟨⟨l⟩⟩ = (decide (l.length > 0) && l.all Unicode.isAlpha) := by
    show (decide _ && Array.all _ _) = _
    exact congrArg _ (List.all_toArray ..)
  have e3 : Txt.islower ⟨⟨l⟩⟩ = (l.any Unicode.isLower && !l.any fun c => Unicode.isUpper c || Unicode.isTitle c) := by
    show (Array.any _ _ && !Array.any _ _) = _
    exact congr (congrArg _ (List.any_toArray ..)) (congrArg _ (List.any_toArray ..))
  unfold isNam
  rw [e1, e2, e3]
  show (!decide (8 < l.length) && _) = true ↔ 1 ≤ l.length ∧ l.length ≤ 8 ∧ ∀ c ∈ l, Low c
  simp only [Bool.and_eq_true, Bool.not_eq_true', decide_eq_false_iff_not, decide_eq_true_eq, List.all_eq_true, List.any_eq_true, List.any_eq_false, Nat.not_lt]
  constructor
  · rintro ⟨h8, ha, ⟨h1, hb⟩, h3, h4⟩
    refine ⟨by omega, h8, fun c hc => ?_⟩
    have a1 := ha c hc
    have a2 := hb c hc
    rw [asc_alpha c a1] at a2
    have a3 := h4 c hc
    rw [asc_upper c a1] at a3
    simp only [Bool.or_eq_true, decide_eq_true_eq] at a2 a3
    unfold Low
    omega
  · rintro ⟨h1, h8, h⟩
    have hl : ∀ c ∈ l, 97 ≤ c ∧ c ≤ 122 := h
    refine ⟨h8, fun c hc => ?_, ⟨by omega, fun c hc => ?_⟩, ?_, fun c hc => ?_⟩
    · have := hl c hc
      omega
    · have q := hl c hc
      rw [asc_alpha c (by omega)]
      simp [q]
    · match l, h1 with
      | c :: r, _ =>
        refine ⟨c, List.mem_cons_self, ?_⟩
        have q := hl c List.mem_cons_self
        rw [asc_lower c (by omega)]
        simp [q]
    · have q := hl c hc
      rw [asc_upper _ (by omega)]
      simp
      omega
theorem let_not_nam {x : Str} (h : isLet x = true) : isNam x = false := by
  obtain ⟨c, e, h1, h2⟩ := isLet_iff.mp h
  cases q : isNam x with
  | false => rfl
  | true =>
    obtain ⟨_, _, h3⟩ := isNam_iff.mp q
    have := h3 c (by rw [e]; exact List.mem_cons_self)
    unfold Low at this
    omega

/-! ### any thing, as the program sees it -/
inductive Tg where
  | str (x : Str) | oth | tup (ts : List Tg)
mutual
def Tg.nodes : Tg → Nat
  | .str _ => 1
  | .oth => 1
  | .tup ts => 1 + nodesAll ts
def nodesAll : List Tg → Nat
  | [] => 0
  | t :: ts => t.nodes + nodesAll ts
end
theorem nodes_pos (t : Tg) : 1 ≤ t.nodes := by
  cases t <;> simp only [Tg.nodes] <;> omega
theorem nodesAll_app : ∀ a b : List Tg, nodesAll (a ++ b) = nodesAll a + nodesAll b
  | [], b => by simp [nodesAll]
  | t :: a, b => by
    rw [List.cons_append]
    simp only [nodesAll]
    rw [nodesAll_app a b]
    omega
theorem length_le_nodes : ∀ a : List Tg, a.length ≤ nodesAll a
  | [] => Nat.zero_le _
  | t :: a => by
    have h1 := length_le_nodes a
    have h2 := nodes_pos t
    simp only [nodesAll, List.length_cons]
    omega
def Tg.isNm : Tg → Bool
  | .str x => isNam x
  | _ => false
/-- a class type as far as its name and the number of its arguments go -/
def begT : Tg → Bool
  | .tup (n :: ts) => decide (ts.length ≤ 2) && n.isNm
  | _ => false
def Tg.isL : Tg → Bool
  | .str x => isLet x
  | _ => false
mutual
def isT : Tg → Bool
  | .str x => isLet x
  | .oth => false
  | .tup [] => false
  | .tup (n :: ts) => (decide (ts.length ≤ 2) && n.isNm) && isTAll ts
def isTAll : List Tg → Bool
  | [] => true
  | t :: ts => isT t && isTAll ts
end
theorem isTAll_app : ∀ a b : List Tg, isTAll (a ++ b) = (isTAll a && isTAll b)
  | [], b => by simp [isTAll]
  | t :: a, b => by
    rw [List.cons_append]
    simp only [isTAll]
    rw [isTAll_app a b, Bool.and_assoc]
def Tg.args : Tg → List Tg
  | .tup (_ :: ts) => ts
  | _ => []
theorem isT_beg {t : Tg} (h : begT t = true) : isT t = isTAll t.args := by
  match t, h with
  | .tup (n :: ts), h =>
    have h' : (decide (ts.length ≤ 2) && n.isNm) = true := h
    simp only [isT, Tg.args]
    rw [h', Bool.true_and]
theorem isT_nbeg {t : Tg} (h : begT t = false) : isT t = t.isL := by
  match t, h with
  | .str x, _ => simp [isT, Tg.isL]
  | .oth, _ => simp [isT, Tg.isL]
  | .tup [], _ => simp [isT, Tg.isL]
  | .tup (n :: ts), h =>
    have h' : (decide (ts.length ≤ 2) && n.isNm) = false := h
    simp only [isT, Tg.isL]
    rw [h', Bool.false_and]
theorem args_nodes {t : Tg} (h : begT t = true) : nodesAll t.args + 1 < t.nodes + 1 := by
  match t, h with
  | .tup (n :: ts), _ =>
    have := nodes_pos n
    simp only [Tg.args, Tg.nodes, nodesAll]
    omega
mutual
/-- at v stands such a thing -/
inductive Th (K : PySem.W.Frag) (H : Hp) : V → Tg → Prop
  | str (x : Str) (hx : x.length ≤ 100000) : Th K H (.str x) (.str x)
  | oth {v : V} {t : Value} (ty : TyX K H v t) (a : PySem.W.kitOne K t (.type "str") = some false) (b : PySem.W.kitOne K t (.type "tuple") = some false) : Th K H v .oth
  | tup {a : Addr} {xs : List V} {ts : List Tg} (h : SqT K H a xs) (r : ThAll K H xs ts) : Th K H (.ref a) (.tup ts)
inductive ThAll (K : PySem.W.Frag) (H : Hp) : List V → List Tg → Prop
  | nil : ThAll K H [] []
  | cons {v : V} {vs : List V} {t : Tg} {ts : List Tg} (h : Th K H v t) (r : ThAll K H vs ts) : ThAll K H (v :: vs) (t :: ts)
end
theorem ThAll.length {K : PySem.W.Frag} {H : Hp} : ∀ {vs : List V} {ts : List Tg}, ThAll K H vs ts → vs.length = ts.length
  | _, _, .nil => rfl
  | _, _, .cons _ r => by simp [ThAll.length r]
theorem ThAll.app {K : PySem.W.Frag} {H : Hp} : ∀ {vs ws : List V} {ts us : List Tg}, ThAll K H vs ts → ThAll K H ws us → ThAll K H (vs ++ ws) (ts ++ us)
  | _, _, _, _, .nil, r => r
  | _, _, _, _, .cons h r, q => .cons h (r.app q)
theorem ThAll.snoc {K : PySem.W.Frag} {H : Hp} {vs : List V} {ts : List Tg} (h : ThAll K H vs ts) (hn : ts ≠ []) : ∃ v vs' t ts', vs = vs' ++ [v] ∧ ts = ts' ++ [t] ∧ Th K H v t ∧ ThAll K H vs' ts' := by
  match vs, ts, h with
  | _, _, .nil => exact absurd rfl hn
  | _, _, .cons (v := v) (vs := vs) (t := t) (ts := ts) h r =>
    by_cases e : ts = []
    · subst e
      match vs, r with
      | _, .nil => exact ⟨v, [], t, [], rfl, rfl, h, .nil⟩
    · obtain ⟨v', vs', t', ts', e1, e2, h1, h2⟩ := r.snoc e
      exact ⟨v', v :: vs', t', t :: ts', by rw [e1]; rfl, by rw [e2]; rfl, h1, .cons h h2⟩
/-- what is needed of a change of the heap, for things to stay -/
structure Stay (K : PySem.W.Frag) (H H' : Hp) : Prop where
  tup : ∀ a xs, SqT K H a xs → SqT K H' a xs
  ty : ∀ v t, TyX K H v t → TyX K H' v t
mutual
theorem Th.stay {K : PySem.W.Frag} {H H' : Hp} (s : Stay K H H') : ∀ {v : V} {t : Tg}, Th K H v t → Th K H' v t
  | _, _, .str x hx => .str x hx
  | _, _, .oth ty a b => .oth (s.ty _ _ ty) a b
  | _, _, .tup h r => .tup (s.tup _ _ h) (ThAll.stay s r)
theorem ThAll.stay {K : PySem.W.Frag} {H H' : Hp} (s : Stay K H H') : ∀ {vs : List V} {ts : List Tg}, ThAll K H vs ts → ThAll K H' vs ts
  | _, _, .nil => .nil
  | _, _, .cons h r => .cons (Th.stay s h) (ThAll.stay s r)
end
theorem Stay.refl {K : PySem.W.Frag} (H : Hp) : Stay K H H := ⟨fun _ _ h => h, fun _ _ h => h⟩
theorem Stay.trans {K : PySem.W.Frag} {H H1 H2 : Hp} (a : Stay K H H1) (b : Stay K H1 H2) : Stay K H H2 := ⟨fun x y h => b.tup x y (a.tup x y h), fun x y h => b.ty x y (a.ty x y h)⟩
theorem stay_of {K : PySem.W.Frag} {H H' : Hp} (h : ∀ a o, H a = some o → H' a = some o ∨ ∃ xs ys, o = .lst xs ∧ H' a = some (.lst ys)) (hdx : ∀ a x, H a = some (.own x) → H' a = some (.own x)) : Stay K H H' where
  tup := fun a xs q => by
    rcases q with (q | ⟨o, q⟩) | q
    · rcases h a _ q with h1 | ⟨_, _, e, _⟩
      · exact .inl (.inl h1)
      · cases e
    · rcases h a _ q with h1 | ⟨_, _, e, _⟩
      · exact .inl (.inr ⟨o, h1⟩)
      · cases e
    · exact .inr q
  ty := fun v t q => by
    have k : ∀ a o, H a = some o → (∀ xs, o ≠ .lst xs) → H' a = some o := fun a o e n => by
      rcases h a o e with h1 | ⟨xs, _, e2, _⟩
      · exact h1
      · exact absurd e2 (n xs)
    cases q with
    | base b =>
      cases b with
      | non => exact .base .non
      | bl x => exact .base (.bl x)
      | int i => exact .base (.int i)
      | str x => exact .base (.str x)
      | flt x => exact .base (.flt x)
      | @lst a xs e =>
        rcases h a _ e with h1 | ⟨_, ys, _, h1⟩
        · exact .base (.lst h1)
        · exact .base (.lst h1)
      | frz e => exact .base (.frz (k _ _ e fun xs z => by cases z))
      | tup e => exact .base (.tup (k _ _ e fun xs z => by cases z))
      | dK e => exact .base (.dK (k _ _ e fun xs z => by cases z))
      | dT e => exact .base (.dT (k _ _ e fun xs z => by cases z))
      | ins e cl ha hn htk hm => exact .base (.ins (k _ _ e fun xs z => by cases z) cl ha hn htk hm)
    | byt b => exact .byt b
    | set e => exact .set (k _ _ e fun xs z => by cases z)
    | kList e c => exact .kList e c
    | kTuple e c => exact .kTuple e c
    | kDict e c => exact .kDict e c
    | fTuple e => exact .fTuple (k _ _ e fun xs z => by cases z)
    | fDict e => exact .fDict (k _ _ e fun xs z => by cases z)
theorem stay_same {K : PySem.W.Frag} {H H' : Hp} (e : Same H H') : Stay K H H' := stay_of (fun a o q => .inl (e a o q)) fun a x q => e a _ q
theorem same_new {H : Hp} {p : Addr} (h : H p = none) (o : HO) : Same H (upd H p o) := fun b u q => by rw [upd_ne (ne_of_none q h)]; exact q
theorem stay_new {K : PySem.W.Frag} {H : Hp} {p : Addr} (h : H p = none) (o : HO) : Stay K H (upd H p o) := stay_same (same_new h o)
theorem stay_lst {K : PySem.W.Frag} {H : Hp} {p : Addr} {xs ys : List V} (h : H p = some (.lst xs)) : Stay K H (upd H p (.lst ys)) := stay_of (fun a o q => by
    by_cases e : a = p
    · subst e
      rw [h] at q
      cases q
      exact .inr ⟨xs, ys, rfl, upd_same⟩
    · exact .inl (by rw [upd_ne e]; exact q)) fun a x q => by
  rw [upd_ne (ne_of q h (by intro z; cases z))]
  exact q
theorem SqT.ty {K : PySem.W.Frag} {H : Hp} {a : Addr} {xs : List V} (h : SqT K H a xs) : TyX K H (.ref a) (.type "tuple") := by
  rcases h with (h | ⟨o, h⟩) | ⟨o, its, n, h, c, _⟩
  · exact .base (.tup h)
  · exact .fTuple h
  · exact .kTuple h c
end N

namespace N
open PySem PySem.Spec PyProof.Rows L2
/-! ### promises where no repr is under way -/
structure RoomG (k : Nat) (A : Around) : Prop extends Room k A where
  gs : A.guards = some []
theorem RoomG.mono {j k : Nat} {A : Around} (r : RoomG k A) (h : j ≤ k) : RoomG j A := ⟨r.toRoom.mono h, r.gs⟩
theorem RoomG.deeper {k : Nat} {A : Around} (r : RoomG (k + 1) A) (env : Env) : RoomG k (A.deeper env) := ⟨r.toRoom.deeper env, r.gs⟩
theorem roomG_caller {k : Nat} (r : Room k callerA) : RoomG k callerA := ⟨r, rfl⟩
structure FnG (P : Program) (w : World) (K : PySem.W.Frag) (mg : Str → Option Value) (base : Heap) (CX : CXT) (k : Nat) (f : Addr) (fd : FuncData) (ps : List Str) (sp : Sp) : Prop where
  len : ∀ vs H Q E, sp vs H Q E → vs.length = ps.length
  run : ∀ (A : Around) (outer : List Env) (s : Shared) (H : Hp) (args : Args) (us : List Value) (vs : List V) (Q : VK) (E : XK), RoomG k A → Env0 P w K mg base A outer s H → BindsTo s fd args (ps.zip us) → Vals vs us → sp vs H Q E →
    codeAny (model P w) A (.call (.ref f) args) (CR CX outer P w H s Q E) s
section
variable {P : Program} {w : World} {K : PySem.W.Frag} {mg : Str → Option Value} {base : Heap} {CX : CXT} {j k : Nat} {f : Addr} {fd : FuncData} {ps : List Str} {sp : Sp}
theorem FnG.mono (F : FnG P w K mg base CX j f fd ps sp) (h : j ≤ k) : FnG P w K mg base CX k f fd ps sp := ⟨F.len, fun A outer s H args us vs Q E hr => F.run A outer s H args us vs Q E (hr.mono h)⟩
theorem FnG.imp {sp' : Sp} (F : FnG P w K mg base CX k f fd ps sp) (h : ∀ vs H Q E, sp' vs H Q E → sp vs H Q E) : FnG P w K mg base CX k f fd ps sp' :=
  ⟨fun vs H Q E q => F.len vs H Q E (h _ _ _ _ q), fun A outer s H args us vs Q E hr he hb hv hs => F.run A outer s H args us vs Q E hr he hb hv (h _ _ _ _ hs)⟩
/-- one entry, the surroundings fixed: the library's rule for a def is asked with a promise that holds there alone -/
theorem fnG_of {x : Str} {st : Stmt} {N : List Str} (F : Fun K x x st f fd) (S : FnScope N ps (defScope st)) (len : ∀ vs H Q E, sp vs H Q E → vs.length = ps.length)
    (hbody : ∀ (cdv : Value) (A : Around) (outer : List Env) (s : Shared) (H : Hp) (vs : List V) (Q : VK) (E : XK), RoomG k (A.deeper (envOfC x (defScope st) s.heap.objs.size f cdv)) → sp vs H Q E →
      ∃ t, PSs (cxOf CX P w K mg base N x (defScope st) f cdv A outer s H E) (defBody st) t ∧ t { nx := fun _ H' => Q .non H', rt := Q } (start N vs) H) : FnG P w K mg base CX (k + 1) f fd ps sp := by
  obtain ⟨oc, od, kV, doc, pm, an, cdv, ct, osl, rfl, lk, hcd⟩ := F.ex
  refine ⟨len, fun A outer s H args us vs Q E hr e0 hb r hsp => ?_⟩
  have KX : K.In s.heap := e0.mod.kin.keeps fun b o e => (e0.bs b o e).1
  have lim : s.heap.NoLimit := e0.mod.nolimit.keeps fun b o e => (e0.bs b o e).1
  have hkind : ∀ y ∈ ps.zip us, (defScope st).names.lookup y.1 = some .local ∨ ((defScope st).names.lookup y.1 = some .cell ∧ ((cellsFrom (s.heap.objs.size + 1) (defScope st).names []).lookup y.1).isSome = true) := fun ⟨n, v⟩ hy =>
    (S.par n (List.of_mem_zip hy).1).elim .inl fun q => .inr ⟨q, PySem.W.cellsFrom_some _ _ _ (.inl q)⟩
  refine codeAny_call_function hr.depth (KX _ _ lk) rfl S.co S.gen rfl (PySem.W.codeRec_of KX hcd) (hb _ _ _ _ ?_)
  refine wpAny_newFunctionEnv_cells S.kind hkind fun env he s1 x => ?_
  subst he
  refine ⟨lim.keeps x.toInCall.keep, codeAny_func ?_⟩
  obtain ⟨t, ht, hq⟩ := hbody cdv A outer s H vs Q E (hr.deeper _) hsp
  have I := inv_start (CX := CX) (P := P) (w := w) (mg := mg) (E := E) S hr.hd e0 (len _ _ _ _ hsp) r x
  refine wpAny_mono (ht.run [] s1 (start N vs) H _ I hq) (fun fl s' hs => ?_) fun e s' hs => hs
  cases fl with
  | ret u => obtain ⟨v, σ', H', J, rv, q⟩ := hs; exact ⟨v, H', J.os, J.bare, J.base, J.hok, rv, q⟩
  | next => obtain ⟨σ', H', J, q⟩ := hs; exact ⟨.non, H', J.os, J.bare, J.base, J.hok, rfl, q⟩
  | brk => obtain ⟨_, _, _, q⟩ := hs; exact False.elim q
  | cont => obtain ⟨_, _, _, q⟩ := hs; exact False.elim q
end
section
variable {X : Cx} {CX : CXT} {k : Nat} {f : Addr} {fd : FuncData} {ps : List Str} {sp : Sp} {E : XK}
theorem runG {pins : List (Addr × Obj)} {σ : L2.St} {H : Hp} {s : Shared} {Q : VK} {us : List Value} {vs : List V} (F : FnG X.prog X.w X.K X.mg X.base CX k f fd ps sp) (hr : RoomG k X.A) (hb : Binds X.K fd ps [])
    (hx : ∀ e s', CX X.stack H s E e s' → X.xe e s') (I : Inv X pins σ H s) (r : Vals vs us) (h : sp vs H Q E) : wpAny (model X.prog X.w) X.A (call (.ref f) us) (EP X pins σ Q) X.xe s := by
  have b := hb s us I.kIn (by rw [List.append_nil, ← r.length]; exact F.len _ _ _ _ h)
  rw [List.append_nil] at b
  refine wpAny_call (codeAny_mono (F.run X.A X.stack s H ⟨us, []⟩ us vs Q E hr I.env0 b r h) fun res s' hq => ?_)
  match res, hq with
  | .error e, hq => exact hx e s' hq
  | .ok (.ret u), hq => exact I.after hq
  | .ok .next, hq => exact False.elim hq
  | .ok .brk, hq => exact False.elim hq
  | .ok .cont, hq => exact False.elim hq
end
end N

namespace N
open PySem PySem.Spec PyProof.Rows L2
/-! ### defs as they stand behind the top, and what they promise -/
def DefAt (K : PySem.W.Frag) (mg : Str → Option Value) (x : Str) (st : Stmt) (ps : List Str) : Prop :=
  ∃ (f : Addr) (fd : FuncData), mg x = some (.ref f) ∧ Fun K x x st f fd ∧ Binds K fd ps []
def Cal (P : Program) (w : World) (K : PySem.W.Frag) (mg : Str → Option Value) (base : Heap) (k : Nat) (x : Str) (ps : List Str) (sp : Sp) : Prop :=
  ∃ (f : Addr) (fd : FuncData), mg x = some (.ref f) ∧ PySem.W.keepIn K (.ref f) = true ∧ Binds K fd ps [] ∧ FnG P w K mg base (L2.CX P w) k f fd ps sp
section
variable {P : Program} {w : World} {K : PySem.W.Frag} {mg : Str → Option Value} {base : Heap} {k : Nat} {x : Str} {ps N : List Str} {sp : Sp} {st : Stmt}
theorem Cal.mono {j : Nat} (c : Cal P w K mg base j x ps sp) (h : j ≤ k) : Cal P w K mg base k x ps sp := by
  obtain ⟨f, fd, a, b, d, F⟩ := c
  exact ⟨f, fd, a, b, d, F.mono h⟩
theorem Cal.imp {sp' : Sp} (c : Cal P w K mg base k x ps sp) (h : ∀ vs H Q E, sp' vs H Q E → sp vs H Q E) : Cal P w K mg base k x ps sp' := by
  obtain ⟨f, fd, a, b, d, F⟩ := c
  exact ⟨f, fd, a, b, d, F.imp h⟩
theorem DefAt.cal (D : DefAt K mg x st ps) (S : FnScope N ps (defScope st)) (len : ∀ vs H Q E, sp vs H Q E → vs.length = ps.length)
    (hbody : ∀ (f : Addr) (cdv : Value) (A : Around) (outer : List Env) (s : Shared) (H : Hp) (vs : List V) (Q : VK) (E : XK), RoomG k (A.deeper (envOfC x (defScope st) s.heap.objs.size f cdv)) → sp vs H Q E →
      ∃ t, PSs (cxOf (L2.CX P w) P w K mg base N x (defScope st) f cdv A outer s H E) (defBody st) t ∧ t { nx := fun _ H' => Q .non H', rt := Q } (start N vs) H) : Cal P w K mg base (k + 1) x ps sp := by
  obtain ⟨f, fd, a, F, b⟩ := D
  exact ⟨f, fd, a, F.kp, b, fnG_of F S len fun cdv A outer s H vs Q E hr h => hbody f cdv A outer s H vs Q E hr h⟩
theorem mk_def {h : Heap} {f : Addr} {oc : Value} {od an : Option Addr} {osl : Array (Option Value)} {kV doc pm cdv ct : Value} (X : K.In h) (G : h.Ns mainGlobals mg)
    (a : PySem.W.nsIn K mainGlobals x = some (some (.ref f))) (l : K.lookup f = some ⟨oc, od, .func (PySem.W.fnOf x x (defArgs st) (defBody st) (defScope st) .none kV doc pm an cdv ct), osl⟩) (c : PySem.W.codeIn K cdv x = true) (k : PySem.W.keepIn K (.ref f) = true)
    (b : ∀ (kV doc pm : Value) (an : Option Addr) (cdv ct : Value) (us : List Value), us.length = ps.length → bindArgs (PySem.W.fnOf x x (defArgs st) (defBody st) (defScope st) .none kV doc pm an cdv ct) ⟨us, []⟩ = pure (ps.zip us)) : DefAt K mg x st ps :=
  ⟨f, _, PySem.W.mg_of X G a, fun_mk l c k, (fun_mk l c k).binds b⟩
end
section
variable {X : Cx} {k : Nat} {x : Str} {ps : List Str} {sp : Sp} {p pos : Pos} {e : Expr} {es : List Expr} {t : TA} {W : WX}
/-- f(e, ..): what is raised goes where W says -/
theorem pcE (tk : Takes X W) (c : Cal X.prog X.w X.K X.mg X.base k x ps sp) (hr : RoomG k X.A) (hg : Gl X x) (ha : PA X (e :: es) t) (hdb : (x == ("__debug__" : Str)) = false := by decide) (he : starEach (e :: es) X.env = (false, eval e X.env) :: starEach es X.env := by rfl)
    (hpl : (backTo pos (starEach es X.env)).any (·.1) = false := by rfl) : PE X (.Call (.Name x p) (e :: es) [] pos) (tCallS sp (WE W) t) := by
  obtain ⟨f, fd, hm, hk, hb, F⟩ := c
  refine ⟨fun pins s σ H Q I h => wpAny_Call_Name_kw (ld_glob I hg hm ?_ hdb)⟩
  refine PySem.W.callWith_K (h₀ := X.base) I.ok.mod.kin hk (thn (ha.run pos pins s σ H _ I h) fun us s1 ⟨vs, H1, I1, r, q⟩ => ⟨I1.kIn, ?_⟩) he hpl
  exact runG F hr hb (fun e s' z => passAt tk σ pins H1 s1 e s' I1 z) I1 r q
/-- f(e, ..): nothing that is raised is let out -/
theorem pc (c : Cal X.prog X.w X.K X.mg X.base k x ps sp) (hr : RoomG k X.A) (hg : Gl X x) (ha : PA X (e :: es) t) (hdb : (x == ("__debug__" : Str)) = false := by decide) (he : starEach (e :: es) X.env = (false, eval e X.env) :: starEach es X.env := by rfl)
    (hpl : (backTo pos (starEach es X.env)).any (·.1) = false := by rfl) : PE X (.Call (.Name x p) (e :: es) [] pos) (fun σ H Q => t σ H fun vs H1 => sp vs H1 Q E0) := by
  obtain ⟨f, fd, hm, hk, hb, F⟩ := c
  refine ⟨fun pins s σ H Q I h => wpAny_Call_Name_kw (ld_glob I hg hm ?_ hdb)⟩
  refine PySem.W.callWith_K (h₀ := X.base) I.ok.mod.kin hk (thn (ha.run pos pins s σ H _ I h) fun us s1 ⟨vs, H1, I1, r, q⟩ => ⟨I1.kIn, ?_⟩) he hpl
  exact runG F hr hb (fun e s' z => passL pins σ H1 s1 e s' I1 z) I1 r q
theorem pc0 (c : Cal X.prog X.w X.K X.mg X.base k x [] sp) (hr : RoomG k X.A) (hg : Gl X x) (hdb : (x == ("__debug__" : Str)) = false := by decide) : PE X (.Call (.Name x p) [] [] pos) (fun _ H Q => sp [] H Q E0) := by
  obtain ⟨f, fd, hm, hk, hb, F⟩ := c
  refine ⟨fun pins s σ H Q I h => wpAny_Call_Name_kw (ld_glob I hg hm ?_ hdb)⟩
  exact PySem.W.callWith_K0 I.kIn hk (runG (us := []) F hr hb (fun e s' z => passL pins σ H s e s' I z) I .nil h)
end
theorem hug {k : Nat} {A : Around} (hr : RoomG k A) : A.units + 1 < cLine := hu_of hr.toRoom
/-- an own error class over ValueError, without an __init__ -/
structure ExcAt (K : PySem.W.Frag) (mg : Str → Option Value) (x : Str) (C : Addr) : Prop where
  g : mg x = some (.ref C)
  k : PySem.W.keepIn K (.ref C) = true
  b : PySem.W.subIn K (.ref C) (.type "BaseException") = some true
  t : PySem.W.typeIn K (.ref C) = some (.type "type")
  x : PySem.W.excIn K C [.type "ValueError", .type "Exception", .type "BaseException", .type "object"] "ValueError.__new__" = true
theorem b_str : bootBuiltins "str" = some (.type "str") := by decide +kernel
theorem b_tuple : bootBuiltins "tuple" = some (.type "tuple") := by decide +kernel
theorem b_dict : bootBuiltins "dict" = some (.type "dict") := by decide +kernel
theorem b_list : bootBuiltins "list" = some (.type "list") := by decide +kernel
/-- isinstance(e, T), T a built-in class -/
theorem pe_isi {X : Cx} {p p2 pos : Pos} {e : Expr} {te : TE} {n : String} {c : Str} (hm : X.mg "isinstance" = none) (hmc : X.mg c = none) (hv : bootBuiltins c = some (.type n)) (hg : Gl X "isinstance") (hgc : Gl X c) (he : PE X e te) (hn : c ≠ "__name__" := by decide)
    (hdb : (c == ("__debug__" : Str)) = false := by decide) (hst2 : starEach [e, .Name c p2] X.env = (false, eval e X.env) :: starEach [.Name c p2] X.env := by rfl) (hpl : (backTo pos (starEach [.Name c p2] X.env)).any (·.1) = false := by rfl) (hs3 : starEach [.Name c p2] X.env = (false, eval (.Name c p2) X.env) :: starEach [] X.env := by rfl) :
    PE X (.Call (.Name "isinstance" p) [e, .Name c p2] [] pos) (fun σ H Q => te σ H fun v H1 => rIsi X.K [v, .ty n] H1 Q) :=
  pe_callB call_isi hg hm (by decide +kernel) (pa_cons he (pa_cons (pe_bltn (v := .ty n) hgc hmc hv rfl hn hdb) pa_nil hs3) hst2) (by decide) (by decide) hst2 hpl
theorem isi_q {K : PySem.W.Frag} {H : Hp} {v : V} {t : Value} {n : String} {b : Bool} {Q : VK} (ty : TyX K H v t) (e : PySem.W.kitOne K t (.type n) = some b) (q : Q (.bl b) H) : rIsi K [v, .ty n] H Q := ⟨v, .ty n, t, _, b, rfl, .ty n, ty, e, q⟩
def Tg.isS : Tg → Bool
  | .str _ => true
  | _ => false
def Tg.isTu : Tg → Bool
  | .tup _ => true
  | _ => false
theorem isi_str {K : PySem.W.Frag} {H : Hp} {v : V} {t : Tg} {Q : VK} (h : Th K H v t) (q : Q (.bl t.isS) H) : rIsi K [v, .ty "str"] H Q := by
  cases h with
  | str x hx => exact isi_q (b := true) (.base (.str x)) (kit_ty (by decide +kernel)) q
  | oth ty a b => exact isi_q ty a q
  | tup h r => exact isi_q (b := false) (SqT.ty h) (kit_ty (by decide +kernel)) q
theorem isi_tup {K : PySem.W.Frag} {H : Hp} {v : V} {t : Tg} {Q : VK} (h : Th K H v t) (q : Q (.bl t.isTu) H) : rIsi K [v, .ty "tuple"] H Q := by
  cases h with
  | str x hx => exact isi_q (b := false) (.base (.str x)) (kit_ty (by decide +kernel)) q
  | oth ty a b => exact isi_q ty b q
  | tup h r => exact isi_q (b := true) (SqT.ty h) (kit_ty (by decide +kernel)) q
end N

namespace N
open PySem PySem.Spec PyProof.Rows L2
/-! ### the end of a law over such promises -/
section
variable {P : Program} {w : World} {K : PySem.W.Frag} {mg mb : Str → Option Value} {CX : CXT} {k : Nat} {fa a : Addr} {fd : FuncData} {x : Str} {sp : Sp} {s₁ : Shared} {vs : List Value} {ns : List Int}
/-- the law is run where at most the script is tracked -/
theorem run_law (H : Hp) (KX : K.In s₁.heap) (hns : s₁.heap.Ns mainGlobals mg) (hb : s₁.heap.Ns builtinsNs mb) (hbb : ∀ x : Str, x ≠ "__name__" → mb x = bootBuiltins x) (hlim : s₁.heap.NoLimit) (hg : s₁.gens = #[])
    (ha : s₁.heap.get? a = some { cls := .type "list", data := .seq vs.toArray }) (hr : Room k callerA) (F : ∀ base : Heap, K.In base → base.Ns mainGlobals mg → FnG P w K mg base CX k fa fd [x] sp) (hbind : ∀ (s : Shared) (u : Value), BindsTo s fd ⟨[u], []⟩ [(x, u)])
    (hsp : sp [.ref a] H (fun v _ => v = .bl true) fun _ _ _ => False) (hCX : ∀ e s', CX [] H s₁ (fun _ _ _ => False) e s' → False) (hO : Only H) (hok : HOk P w H s₁.heap) (hA : ∀ b, H b ≠ none → b = a) (hK : H a ≠ none → K.lookup a = none) :
    codeAny (model P w) callerA (.call (.ref fa) ⟨[.ref a], []⟩) (fun r s' => r = .ok (.ret (.bool true)) ∧ OldK s₁.heap s'.heap ∧ s'.os = s₁.os ∧ AllBare s'.gens) s₁ := by
  have free : ∀ {b : Addr}, b ≠ a → H b = none := fun {b} n => by
    cases q : H b with
    | none => rfl
    | some u => exact absurd (hA b (by rw [q]; exact fun z => by cases z)) n
  have nsK : ∀ {b : Addr} {m : Str → Option Value}, s₁.heap.Ns b m → (hidT s₁.heap H).Ns b m := fun {b m} ⟨o, es, ep, e, d, r⟩ => by
    have nb : b ≠ a := fun z => by
      subst z
      rw [ha] at e
      cases e
      have d' : Data.seq vs.toArray _ = Data.dict es ep := d
      cases d'
    exact ⟨o, es, ep, hidT_get e (free nb), d, r⟩
  have hKb : K.In (hidT s₁.heap H) := fun b o e => hidT_get (KX b o e) (by
    by_cases nb : b = a
    · subst nb
      cases q : H b with
      | none => rfl
      | some u =>
        have := hK (by rw [q]; exact fun z => by cases z)
        rw [this] at e
        cases e
    · exact free nb)
  have hM : Mod K mg (hidT s₁.heap H) := ⟨hKb, nsK hns, ⟨mb, nsK hb, hbb⟩, let ⟨mc, h1, h2⟩ := hlim; ⟨mc, nsK h1, h2⟩⟩
  have e0 : Env0 P w K mg (hidT s₁.heap H) callerA [] s₁ H := ⟨rfl, hM, fun b o e => of_hidT e, Nat.le_of_eq (hidT_size _ _), trivial, fun b hb => absurd (show b ∈ ([] : List Addr) from hb) (by simp), hok, .of_eq hg⟩
  have go := (F _ hKb (nsK hns)).run callerA [] s₁ H ⟨[.ref a], []⟩ [.ref a] [.ref a] (fun v _ => v = .bl true) (fun _ _ _ => False) (roomG_caller hr) e0 (hbind s₁ (.ref a)) (.cons rfl .nil) hsp
  refine codeAny_mono go fun r s' h => ?_
  match r, h with
  | .error e, h => exact (hCX e s' h).elim
  | .ok .next, h => exact False.elim h
  | .ok .brk, h => exact False.elim h
  | .ok .cont, h => exact False.elim h
  | .ok (.ret u), h =>
    obtain ⟨v, H', os, bare, un, hok', r', q⟩ := h
    have q' : v = .bl true := q
    subst q'
    obtain rfl : u = Value.bool true := r'
    refine ⟨rfl, OldK.of_keep fun b o e => ?_, os, bare⟩
    cases q : H b with
    | none => exact un.keep b o e q (by intro z; exact absurd (show b ∈ ([] : List Addr) from z) (by simp)) (by simp)
    | some u =>
      rcases hO b with z | ⟨ob, xs, z⟩
      · rw [q] at z; cases z
      · have e1 := (hok b _ z).1
        have e2 := (hok' b _ (un.frzs b ob _ z)).1
        rw [e] at e1
        cases e1
        exact e2
end
theorem walkG {l : PySem.W.OpenLaw} {n k : Nat} {q : Program} {loose : List Str} {XP : (Str → Option Value) → Heap → Prop} {YP : World → Heap → Prop} {d : DefRec} {K : Params → PySem.W.Frag} {CX : World → CXT} {sp : World → Sp} {x : Str}
    (hn : l.most = some n) (hn2 : n ≤ sizeLine) (hdf : d.params.defaults = []) (hr : Room k callerA) (hY : ∀ (w : World) (h : Heap), YP w h → (K w.params).In h)
    (F : ∀ (w : World) (mg : Str → Option Value) (fa : Addr) (h : Heap), (K w.params).In h → h.Ns mainGlobals mg → mg d.name = some (.ref fa) →
      ∃ fd : FuncData, (∀ (s : Shared) (u : Value), BindsTo s fd ⟨[u], []⟩ [(x, u)]) ∧ ∀ base : Heap, (K w.params).In base → base.Ns mainGlobals mg → FnG l.prog w (K w.params) mg base (CX w) k fa fd [x] (sp w))
    (hsp : ∀ (w : World) (H : Hp) (a : Addr) (ns : List Int), ns.length ≤ n → Only H → SqL (K w.params) H a (ns.map V.int) → sp w [.ref a] H (fun v _ => v = .bl true) fun _ _ _ => False)
    (hCX : ∀ (w : World) (H : Hp) (s : Shared) (e : Value) (s' : Shared), CX w [] H s (fun _ _ _ => False) e s' → False) : PySem.W.WalkO q loose XP YP l.row.toRowW d [] (fun f vs => PySem.call f vs) := by
  refine Att.attach_call hn hdf fun w s₀ s₁ mg mb fa o pm cd doc a vs ns G Y ho hd hcd hmg ha hi hlen hg => ?_
  have KX := hY w _ Y
  obtain ⟨fd, hb, hF⟩ := F w mg fa _ KX G.T.g hmg
  have rv := vals_ints hi
  have lenV := hi.length
  have hl : ns.length ≤ sizeLine := Nat.le_trans hlen hn2
  have one := fun (H : Hp) (hO : Only H) (hS : SqL (K w.params) H a (ns.map V.int)) => run_law H KX G.T.g G.T.b G.T.builtins G.T.nolimit hg ha hr hF hb (hsp w H a ns hlen hO hS) (fun e s' => hCX w H s₁ e s') hO
  cases hk : (K w.params).lookup a with
  | some o' =>
    have e := KX a o' hk
    rw [ha] at e
    cases e
    refine one (fun _ => none) (fun _ => .inl rfl) (.inr ⟨_, vs.toArray, _, hk, rfl, rfl, rfl, by rw [List.size_toArray, lenV]; exact hl, by simpa using rv⟩) (fun b u z => ?_) (fun b z => absurd rfl z) fun z => absurd rfl z
    have z' : (none : Option HO) = some u := z
    cases z'
  | none =>
    have ya : ∀ {b : Addr} {u : HO}, (if b = a then some (HO.frz { cls := .type "list", data := .seq vs.toArray } (.lst (ns.map V.int))) else none) = some u → b = a ∧ u = .frz { cls := .type "list", data := .seq vs.toArray } (.lst (ns.map V.int)) := fun {b u} z => by
      by_cases hb : b = a
      · rw [if_pos hb] at z
        exact ⟨hb, (Option.some.inj z).symm⟩
      · rw [if_neg hb] at z
        cases z
    refine one (fun b => if b = a then some (.frz { cls := .type "list", data := .seq vs.toArray } (.lst (ns.map V.int))) else none) (fun b => ?_) (.inl (.inr ⟨{ cls := .type "list", data := .seq vs.toArray }, if_pos rfl⟩)) (fun b u z => ?_) (fun b z => ?_) fun _ => hk
    · by_cases hb : b = a
      · exact .inr ⟨_, _, if_pos hb⟩
      · exact .inl (if_neg hb)
    · obtain ⟨e1, e2⟩ := ya z
      subst e1 e2
      exact ⟨ha, by rw [List.length_map]; exact hl, vs, _, rv, ha⟩
    · by_cases hb : b = a
      · exact hb
      · exact absurd (if_neg hb) z
end N

namespace N
open PySem PySem.Spec PyProof.Rows L2
/-! ### repr of data -/
/-- repr(x), x a list or a tuple of data without dicts -/
def rRepr (K : PySem.W.Frag) : List V → Hp → VK → Prop := fun xs H Q => ∃ (a : Addr) (d : PyData), xs = [V.ref a] ∧ Dp K H (.ref a) d ∧ d.showable = true ∧ d.hasDict = false ∧ d.depth ≤ 60 ∧ d.shown.length ≤ sizeLine ∧ Q (.str d.shown) H
theorem call_repr {X : Cx} {k : Nat} (hr : RoomG k X.A) : CallR X (.builtin "repr") (rRepr X.K) := by
  intro pins s σ H xs us Q I r h
  obtain ⟨a, d, rfl, hd, hs, hn, hdp, hz, q⟩ := h
  obtain ⟨u, rfl, ru⟩ := vals1 r
  cases (show u = Value.ref a from ru)
  obtain ⟨as, rd⟩ := Dp.reads I d _ _ hd rfl
  have hun := hr.toRoom.units
  exact repr_of_reads' rd hs (PyData.noDict_hsm hn) hr.gs (by omega) (fun b o e => e) (fun h' u tk hk => ⟨.str d.shown, H, I.kept (t' := tk) hk, ⟨_, rfl⟩, q⟩) hz
end N

namespace N
open PySem PySem.Spec PyProof.Rows L2
/-! ### kinds -/
inductive Kd where
  | L (c : Str) | C0 (n : Str) | C1 (n : Str) (a : Kd) | C2 (n : Str) (a b : Kd)
  deriving DecidableEq
namespace Kd
def args : Kd → List Kd
  | L _ => []
  | C0 _ => []
  | C1 _ a => [a]
  | C2 _ a b => [a, b]
def nm : Kd → Str
  | L c => c
  | C0 n => n
  | C1 n _ => n
  | C2 n _ _ => n
def isC : Kd → Bool
  | L _ => false
  | _ => true
def tg : Kd → Tg
  | L c => .str c
  | C0 n => .tup [.str n]
  | C1 n a => .tup [.str n, a.tg]
  | C2 n a b => .tup [.str n, a.tg, b.tg]
def ok : Kd → Prop
  | L c => isLet c = true
  | C0 n => isNam n = true
  | C1 n a => isNam n = true ∧ a.ok
  | C2 n a b => isNam n = true ∧ a.ok ∧ b.ok
def parts : Kd → List Kd
  | L c => [L c]
  | C0 n => [C0 n]
  | C1 n a => C1 n a :: a.parts
  | C2 n a b => C2 n a b :: (a.parts ++ b.parts)
def size : Kd → Nat
  | L _ => 0
  | C0 _ => 1
  | C1 _ a => 1 + a.size
  | C2 _ a b => 1 + a.size + b.size
def depth : Kd → Nat
  | L _ => 0
  | C0 _ => 1
  | C1 _ a => 1 + a.depth
  | C2 _ a b => 1 + max a.depth b.depth
/-- how many letters and names -/
def nds : Kd → Nat
  | L _ => 1
  | C0 _ => 1
  | C1 _ a => 1 + a.nds
  | C2 _ a b => 1 + a.nds + b.nds
theorem parts_eq (k : Kd) : k.parts = k :: k.args.flatMap parts := by
  cases k <;> simp [parts, args]
theorem tg_C {k : Kd} (h : k.isC = true) : k.tg = .tup (.str k.nm :: k.args.map tg) := by
  cases k <;> first | (cases h; done) | rfl
theorem tg_L {k : Kd} (h : k.isC = false) : k = L k.nm ∧ k.tg = .str k.nm := by
  cases k <;> first | (cases h; done) | exact ⟨rfl, rfl⟩
theorem isTu_tg (k : Kd) : k.tg.isTu = k.isC := by cases k <;> rfl
theorem isS_tg (k : Kd) : k.tg.isS = !k.isC := by cases k <;> rfl
theorem nds_parts (k : Kd) : k.parts.length = k.nds := by
  induction k with
  | L c => rfl
  | C0 n => rfl
  | C1 n a ih => simp [parts, nds, ih]; omega
  | C2 n a b ih1 ih2 => simp [parts, nds, ih1, ih2]; omega
theorem nds_pos (k : Kd) : 1 ≤ k.nds := by cases k <;> simp [nds] <;> omega
theorem nodes_tg (k : Kd) : k.tg.nodes ≤ 3 * k.nds := by
  induction k with
  | L c => simp [tg, nds, Tg.nodes]
  | C0 n => simp [tg, nds, Tg.nodes, nodesAll]
  | C1 n a ih => simp only [tg, nds, Tg.nodes, nodesAll]; omega
  | C2 n a b ih1 ih2 => simp only [tg, nds, Tg.nodes, nodesAll]; omega
theorem args_ok {k : Kd} (h : k.ok) : ∀ a ∈ k.args, a.ok := by
  cases k <;> simp only [args, ok] at * <;> simp_all
theorem isT_tg : ∀ {k : Kd}, k.ok → isT k.tg = true
  | L c, h => by
    show isT (.str c) = true
    simp only [isT]
    exact h
  | C0 n, h => by simp [tg, isT, isTAll, Tg.isNm, show isNam n = true from h]
  | C1 n a, h => by simp [tg, isT, isTAll, Tg.isNm, show isNam n = true from h.1, isT_tg h.2]
  | C2 n a b, h => by simp [tg, isT, isTAll, Tg.isNm, show isNam n = true from h.1, isT_tg h.2.1, isT_tg h.2.2]
theorem args_nds (k : Kd) : (k.args.map nds).sum + 1 ≤ k.nds := by
  cases k <;> simp [args, nds] <;> omega
theorem args_len (k : Kd) : k.args.length ≤ 2 := by cases k <;> simp [args]
end Kd
mutual
theorem of_isT : ∀ {t : Tg}, isT t = true → ∃ k : Kd, k.ok ∧ t = k.tg
  | .str x, h => ⟨.L x, by simpa [isT, Kd.ok] using h, rfl⟩
  | .oth, h => by simp [isT] at h
  | .tup [], h => by simp [isT] at h
  | .tup (n :: ts), h => by
    simp only [isT, Bool.and_eq_true, decide_eq_true_eq] at h
    obtain ⟨⟨h1, h2⟩, h3⟩ := h
    obtain ⟨ks, e, hk⟩ := of_isTAll h3
    match n, h2 with
    | .str x, h2 =>
      have h2' : isNam x = true := h2
      match ks, e with
      | [], e => exact ⟨.C0 x, h2', by rw [e]; rfl⟩
      | [a], e => exact ⟨.C1 x a, ⟨h2', hk a (by simp)⟩, by rw [e]; rfl⟩
      | [a, b], e => exact ⟨.C2 x a b, ⟨h2', hk a (by simp), hk b (by simp)⟩, by rw [e]; rfl⟩
      | a :: b :: c :: r, e => rw [e] at h1; simp at h1
theorem of_isTAll : ∀ {ts : List Tg}, isTAll ts = true → ∃ ks : List Kd, ts = ks.map Kd.tg ∧ ∀ k ∈ ks, k.ok
  | [], _ => ⟨[], rfl, fun k h => by cases h⟩
  | t :: ts, h => by
    simp only [isTAll, Bool.and_eq_true] at h
    obtain ⟨k, hk, e⟩ := of_isT h.1
    obtain ⟨ks, e2, hks⟩ := of_isTAll h.2
    exact ⟨k :: ks, by rw [e, e2]; rfl, fun z hz => by
      rcases List.mem_cons.mp hz with rfl | hz
      · exact hk
      · exact hks z hz⟩
end
/-- at v stands a kind; in vs kinds -/
abbrev Kp (K : PySem.W.Frag) (H : Hp) (v : V) (k : Kd) : Prop := Th K H v k.tg
abbrev Kps (K : PySem.W.Frag) (H : Hp) (vs : List V) (ks : List Kd) : Prop := ThAll K H vs (ks.map Kd.tg)
section
variable {K : PySem.W.Frag} {H : Hp}
theorem Kps.snoc {vs : List V} {ks : List Kd} (h : Kps K H vs ks) (hn : ks ≠ []) : ∃ v vs' k ks', vs = vs' ++ [v] ∧ ks = ks' ++ [k] ∧ Kp K H v k ∧ Kps K H vs' ks' := by
  obtain ⟨v, vs', t, ts', e1, e2, h1, h2⟩ := ThAll.snoc h (by simpa using hn)
  obtain ⟨ks', k, rfl⟩ : ∃ ks' k, ks = ks' ++ [k] := ⟨ks.dropLast, ks.getLast hn, (List.dropLast_concat_getLast hn).symm⟩
  rw [List.map_append, List.map_singleton] at e2
  obtain ⟨e3, e4⟩ := List.append_inj' e2 rfl
  cases e4
  exact ⟨v, vs', k, ks', e1, rfl, h1, by rw [← e3] at h2; exact h2⟩
theorem kp_L {v : V} {k : Kd} (h : Kp K H v k) (c : k.isC = false) : v = .str k.nm ∧ k.nm.length ≤ 100000 := by
  obtain ⟨_, e⟩ := Kd.tg_L c
  have h' : Th K H v (.str k.nm) := by rw [← e]; exact h
  cases h' with
  | str x hx => exact ⟨rfl, hx⟩
theorem kp_C {v : V} {k : Kd} (h : Kp K H v k) (c : k.isC = true) : ∃ (a : Addr) (xs : List V), v = .ref a ∧ SqT K H a (.str k.nm :: xs) ∧ k.nm.length ≤ 100000 ∧ Kps K H xs k.args := by
  have h' : Th K H v (.tup (.str k.nm :: k.args.map Kd.tg)) := by rw [← Kd.tg_C c]; exact h
  cases h' with
  | @tup a xs ts h r =>
    cases r with
    | @cons y ys n ts hy r =>
      cases hy with
      | str x hx => exact ⟨a, ys, rfl, h, hx, r⟩
theorem kp_mk {a : Addr} {k : Kd} {xs : List V} (c : k.isC = true) (h : SqT K H a (.str k.nm :: xs)) (hx : k.nm.length ≤ 100000) (r : Kps K H xs k.args) : Kp K H (.ref a) k := by
  show Th K H (.ref a) k.tg
  rw [Kd.tg_C c]
  exact .tup h (.cons (.str _ hx) r)
theorem ThAll.rev {vs : List V} {ts : List Tg} (h : ThAll K H vs ts) : ThAll K H vs.reverse ts.reverse := by
  induction vs generalizing ts with
  | nil => cases h; exact .nil
  | cons v vs ih =>
    cases h with
    | cons h r =>
      rw [List.reverse_cons, List.reverse_cons]
      exact (ih r).app (.cons h .nil)
theorem Kps.rev {vs : List V} {ks : List Kd} (h : Kps K H vs ks) : Kps K H vs.reverse ks.reverse := by
  have := ThAll.rev h
  rw [← List.map_reverse] at this
  exact this
theorem Kps.app {vs ws : List V} {ks js : List Kd} (h : Kps K H vs ks) (h2 : Kps K H ws js) : Kps K H (vs ++ ws) (ks ++ js) := by
  have := ThAll.app h h2
  rw [← List.map_append] at this
  exact this
theorem Kps.length {vs : List V} {ks : List Kd} (h : Kps K H vs ks) : vs.length = ks.length := by
  have := ThAll.length h
  rw [List.length_map] at this
  exact this
end
end N

namespace N
open PySem PySem.Spec PyProof.Rows L2
namespace Kd
theorem size_parts (k : Kd) : k.size = (k.parts.filter isC).length := by
  induction k with
  | L c => rfl
  | C0 n => rfl
  | C1 n a ih =>
    show 1 + a.size = ((C1 n a :: a.parts).filter isC).length
    rw [List.filter_cons_of_pos (by rfl), List.length_cons, ih]
    omega
  | C2 n a b ih1 ih2 =>
    show 1 + a.size + b.size = ((C2 n a b :: (a.parts ++ b.parts)).filter isC).length
    rw [List.filter_cons_of_pos (by rfl), List.length_cons, List.filter_append, List.length_append, ih1, ih2]
    omega
theorem nds_le (k : Kd) : k.nds ≤ k.tg.nodes := by
  induction k with
  | L c => simp [tg, nds, Tg.nodes]
  | C0 n => simp [tg, nds, Tg.nodes, nodesAll]
  | C1 n a ih => simp only [tg, nds, Tg.nodes, nodesAll]; omega
  | C2 n a b ih1 ih2 => simp only [tg, nds, Tg.nodes, nodesAll]; omega
end Kd
section
variable {K : PySem.W.Frag}
theorem Kps.at {H : Hp} : ∀ {vs : List V} {ks : List Kd} {i : Nat} {x : V}, Kps K H vs ks → vs[i]? = some x → ∃ k, ks[i]? = some k ∧ Kp K H x k
  | _, [], i, x, .nil, h => by simp at h
  | _, k :: ks, 0, x, .cons r _, h => by
    simp at h
    subst h
    exact ⟨k, rfl, r⟩
  | _, k :: ks, i + 1, x, .cons _ t, h => by
    obtain ⟨k', e, r⟩ := Kps.at (ks := ks) (i := i) (x := x) t (by simpa using h)
    exact ⟨k', by simpa using e, r⟩
theorem take_snoc {α : Type} {l : List α} {i : Nat} {x : α} (h : l[i]? = some x) : l.take (i + 1) = l.take i ++ [x] := by rw [List.take_add_one, h]; rfl
end
end N

namespace N
open PySem PySem.Spec PyProof.Rows L2 LamX NdefX
/-! ### lambdas with parameters and captured names -/
/-- the words of a lambda; its expression stands beside -/
def lamF (q : Str) (params : Arguments) (scope : Scope) (cl : List (Str × Addr)) (c : Addr) : NF := ⟨"<lambda>", q, params, [], scope, cl, c⟩
/-- at f stands the lambda -/
def LamO (f : Addr) (F : NF) (body : Expr) : HO := .ext fun h => ∃ pm ctv : Value, h.get? f = some (PySem.W.kla_obj F.name F.qual F.params body F.scope F.cl pm F.c ctv)
theorem lamO_at {P : Program} {w : World} {H : Hp} {h : Heap} {f : Addr} {F : NF} {body : Expr} (hok : HOk P w H h) (e : H f = some (LamO f F body)) : ∃ pm ctv : Value, h.get? f = some (PySem.W.kla_obj F.name F.qual F.params body F.scope F.cl pm F.c ctv) := (hok f _ e).1
theorem lamO_ne {f : Addr} {F : NF} {body : Expr} (ps : Array Value) : LamO f F body ≠ .tbl ps := fun z => by
  unfold LamO at z
  cases z
section
variable {X : Cx} {pins : List (Addr × Obj)} {σ : L2.St} {H : Hp} {s : Shared}
theorem tabS_more {H : Hp} {P c : Addr} {q : Str} {ps : Array Value} {pos : Pos} (hP : H P = some (.tbl ps)) (ht : TriplesOk ps.toList) (ha : ∀ (p' : Pos) (cv : Value), codeAmong p' ps.toList = some cv → ∃ c0, cv = .ref c0 ∧ H c0 = some (CodeO c0 q)) (hc : H c = none) :
    TabS (upd (upd H P (.tbl (ps ++ #[rawInt pos.line, rawInt pos.col, .ref c]))) c (CodeO c q)) P q := by
  have hne : P ≠ c := ne_of_none hP hc
  have el : (ps ++ #[rawInt pos.line, rawInt pos.col, .ref c]).toList = ps.toList ++ [rawInt pos.line, rawInt pos.col, .ref c] := by simp
  refine ⟨_, (by rw [upd_ne hne]; exact upd_same), by rw [el]; exact PySem.TriplesOk_snoc _ _ _ _ ht, ?_⟩
  intro p' cv hv
  rw [el] at hv
  rcases among_app _ ht hv with y | y
  · obtain ⟨c0, y1, y2⟩ := ha p' cv y
    have n1 : c0 ≠ c := ne_of_none y2 hc
    have n2 : c0 ≠ P := fun z => by
      rw [z, hP] at y2
      exact codeO_ne ps (Option.some.inj y2).symm
    exact ⟨c0, y1, by rw [upd_ne n1, upd_ne n2]; exact y2⟩
  · exact ⟨c, y, upd_same⟩
/-- a lambda is made; it is known from now on -/
theorem lam_new {c P : Addr} {params : Arguments} {body : Expr} {scope : Scope} {pos : Pos} {E : Value → Shared → Prop} {Q : Value → Shared → Prop} (I : Inv X pins σ H s) (TB : TabB X.base X.mg c P) (hcode : X.env.code = .ref c) (hT : TabS H P (X.env.qual ++ "<lambda>"))
    (hdef : defaultsOf params X.env = ([], [])) (hfree : ∀ y ∈ scope.names, y.2 = .free → ∃ c, X.env.cells.lookup y.1 = some c)
    (h : ∀ (f c' : Addr) (H1 : Hp) (s' : Shared), Inv X pins σ H1 s' → ExtN H H1 → TabS H1 P (X.env.qual ++ "<lambda>") → (∀ b, H1 b = none → H b = none) → H f = none → H1 f = some (LamO f (lamF (X.env.qual ++ "<lambda>") params scope (cloFrom X.env.cells scope.names []) c') body) → H1 c' = some (CodeO c' (X.env.qual ++ "<lambda>")) → Q (.ref f) s') :
    wpAny (model X.prog X.w) X.A (eval (.Lambda params body scope pos) X.env) Q E s := by
  obtain ⟨ps, hP, ht, ha⟩ := hT
  apply PySem.W.kla_eval hdef
  have hb : s.heap.BuiltinsAt X.mg P := TB.bm.keeps I.bk
  have tP : s.heap.get? P = some { cls := .none, data := .fields ps } := I.hok P _ hP
  -- the function object itself
  have fin : ∀ (h' : Heap) (tk : Nat) (c' : Addr) (ctv : Value) (H1 : Hp), Inv X pins σ H1 { s with heap := h', toks := tk } → ExtN H H1 → TabS H1 P (X.env.qual ++ "<lambda>") → (∀ b, H1 b = none → H b = none) → H1 c' = some (CodeO c' (X.env.qual ++ "<lambda>")) →
      Q (.ref h'.objs.size) { s with heap := h'.push (PySem.W.kla_obj "<lambda>" (X.env.qual ++ "<lambda>") params body scope (cloFrom X.env.cells scope.names []) ((X.mg "__name__").getD .none) c' ctv), toks := tk } := by
    intro h' tk c' ctv H1 J e1 T1 n1 k1
    have nf : H1 h'.objs.size = none := J.hok.fresh (Nat.le_refl _)
    have here : (h'.push (PySem.W.kla_obj "<lambda>" (X.env.qual ++ "<lambda>") params body scope (cloFrom X.env.cells scope.names []) ((X.mg "__name__").getD .none) c' ctv)).get? h'.objs.size = some _ := Heap.get?_push_size _ rfl
    have J2 := J.laid (t' := tk) (a := h'.objs.size) (o := LamO h'.objs.size (lamF (X.env.qual ++ "<lambda>") params scope (cloFrom X.env.cells scope.names []) c') body) (fun b u e => Heap.get?_push_of_some _ e) (Nat.le_refl _)
      ⟨⟨_, _, here⟩, ⟨_, here⟩, fun h1 h2 y st => by obtain ⟨a, b, z⟩ := y; exact ⟨a, b, st _ z⟩⟩
    have sm := same_new nf (LamO h'.objs.size (lamF (X.env.qual ++ "<lambda>") params scope (cloFrom X.env.cells scope.names []) c') body)
    exact h _ c' _ _ J2 (e1.trans (ExtN.of sm)) (T1.ext sm) (fun b z => n1 b (sm.free z)) (n1 _ nf) upd_same (sm _ _ k1)
  cases hc : codeAmong pos ps.toList with
  | some cv =>
    obtain ⟨c', ec, hco⟩ := ha pos cv hc
    subst ec
    refine PySem.W.kla_makeFunctionHit (closure_ok hfree) I.ok.glob (I.mod.glob.keeps I.bk) hcode (TB.code.keeps I.bk) tP ht hc hb (fun ctv h' tk kx _ => ?_)
    exact fin h' tk c' ctv H (I.kept kx) (ExtN.refl H) ⟨ps, hP, ht, ha⟩ (fun b z => z) hco
  | none =>
    refine PySem.W.kla_makeFunction (closure_ok hfree) I.ok.glob (I.mod.glob.keeps I.bk) hcode (TB.code.keeps I.bk) tP ht hc TB.gP hb (fun c' ctv h' tk kx hge hlt hrec htb => ?_)
    obtain ⟨c2, oc, vs, t, e2, y1, y2, y3⟩ := hrec
    cases e2
    have nc : H c' = none := I.hok.fresh hge
    have J := inv_table (t' := tk) (more := #[rawInt pos.line, rawInt pos.col, .ref c']) (h' := h') (q := X.env.qual ++ "<lambda>") I hP (fun b o n e => kx b o n e) htb hge ⟨oc, vs, t, y1, y2, y3⟩
    refine fin h' tk c' ctv _ J (fun b o e n => ?_) (tabS_more hP ht ha nc) (fun b z => upd_none (upd_none z)) upd_same
    rw [upd_ne (ne_of_none e nc), upd_ne (fun z => n ps (Option.some.inj (e.symm.trans (by rw [z]; exact hP))))]
    exact e
/-- what the cells held at the entry they hold -/
theorem cells_later {cl : List (Str × Addr)} {fr : List Str} {ws : List (Option V)} (C : CellsAt cl fr ws X.s_0.heap X.H_0) (hx : X.ex = []) (I : Inv X pins σ H s) : CellsAt cl fr ws s.heap H := by
  have kp : ∀ y c, cl.lookup y = some c → ∀ v, X.s_0.heap.IsCell c v → s.heap.IsCell c v := fun y c e v z => by
    obtain ⟨o, ho, hd⟩ := z
    obtain ⟨sl, z2⟩ := I.base.any ho (C.all y c e).1 (by rw [hx]; simp)
    exact ⟨_, z2, hd⟩
  refine ⟨C.len, fun y c e => ?_, C.inj, fun i y e => ?_⟩
  · obtain ⟨n, v, z⟩ := C.all y c e
    have z0 := z
    obtain ⟨o, ho, _⟩ := z0
    exact ⟨I.base.free c o ho n (by rw [hx]; simp), v, kp y c e _ z⟩
  · obtain ⟨c, e1, e2⟩ := C.has i y e
    exact ⟨c, e1, fun v ev => (e2 v ev).imp fun u r => ⟨r.1, kp y c e1 _ r.2⟩⟩
end
section
variable {P : Program} {w : World} {K : PySem.W.Frag} {mg : Str → Option Value} {base : Heap} {N ps fr : List Str} {F : NF} {f : Addr} {k : Nat} {body : Expr} {tb : TE}
/-- a lambda called -/
theorem run_lam (S : NScope N ps fr F.scope) (hb : ∀ (pm ctv : Value) (us : List Value), us.length = ps.length → bindArgs (PySem.W.kla_fn F.name F.qual F.params body F.scope F.cl pm (.ref F.c) ctv) ⟨us, []⟩ = pure (ps.zip us))
    {A : Around} {outer : List Env} {s : Shared} {H : Hp} {us : List Value} {vs : List V} {ws : List (Option V)} {Q : VK}
    (hbody : ∀ (s : Shared) (H : Hp), PE (ncx (L2.CX P w) P w K mg base N F f A outer s H E0) body tb)
    (hr : RoomG (k + 1) A) (e0 : Env0 P w K mg base A outer s H) (hf : H f = some (LamO f F body)) (hc : H F.c = some (CodeO F.c F.qual)) (C : CellsAt F.cl fr ws s.heap H) (r : Vals vs us) (hl : vs.length = ps.length) (q : tb (startF N vs ws) H Q) :
    codeAny (model P w) A (.call (.ref f) ⟨us, []⟩) (CR (L2.CX P w) outer P w H s Q E0) s := by
  have lim : s.heap.NoLimit := e0.mod.nolimit.keeps fun b o e => (e0.bs b o e).1
  obtain ⟨pm, ctv, ho⟩ := lamO_at e0.hok hf
  refine PySem.W.kla_callFunE hr.toRoom.depth ho rfl S.co S.gen rfl (codeO_at e0.hok hc) ?_
  rw [hb pm ctv us (by rw [← r.length]; exact hl)]
  refine wpAny_pure (wpAny_newFunctionEnv S.nocell (fun y hy => S.par y.1 (List.of_mem_zip (show (y.1, y.2) ∈ ps.zip us from hy)).1) (fun h1 hns hsb => ⟨lim.fresh _ hsb, ?_⟩) S.kind)
  show codeAny _ _ (.expr body (envF F f s.heap.objs.size)) _ _
  have kp : ∀ b o, s.heap.get? b = some o → h1.get? b = some o := fun b o e => hsb.extBut b o (Nat.ne_of_lt (Heap.lt_size e)) (Heap.get?_push_of_some _ e)
  have J : Inv (ncx (L2.CX P w) P w K mg base N F f A outer s H E0) [] (startF N vs ws) H { s with heap := h1, toks := s.toks + (ps.zip us).length } := inv_startN S hr.toRoom.hd e0 hl r C hns kp
  refine PySem.W.kla_codeExpr (wpAny_mono ((hbody s H).run [] _ _ H Q J q) (fun v s' z => ?_) fun e s' z => z)
  obtain ⟨v', H', J', rv, z2⟩ := z
  exact ⟨v', H', J'.os, J'.bare, J'.base, J'.hok, rv, z2⟩
end
section
variable {Z : Cx} {Nm ps fr : List Str} {F : NF} {f : Addr} {k i : Nat} {body : Expr} {tb : TE} {ws : List (Option V)} {G : List V → Hp → VK → Prop} {a : Str} {e : Expr} {es : List Expr} {t : TA} {p1 p2 : Pos}
theorem pe_actL (S : NScope Nm ps fr F.scope) (hb : ∀ (pm ctv : Value) (us : List Value), us.length = ps.length → bindArgs (PySem.W.kla_fn F.name F.qual F.params body F.scope F.cl pm (.ref F.c) ctv) ⟨us, []⟩ = pure (ps.zip us))
    (hbody : ∀ (s : Shared) (H : Hp), PE (ncx (L2.CX Z.prog Z.w) Z.prog Z.w Z.K Z.mg Z.base Nm F f Z.A Z.stack s H E0) body tb) (hr : RoomG (k + 1) Z.A) (C : CellsAt F.cl fr ws Z.s_0.heap Z.H_0) (hx : Z.ex = []) (hG : ∀ vs H1 Q, G vs H1 Q → H1 f = some (LamO f F body) ∧ H1 F.c = some (CodeO F.c F.qual) ∧ vs.length = ps.length ∧ tb (startF Nm vs ws) H1 Q)
    (hN : Z.N[i]? = some a) (hv : Vis Z.env.scope a) (ha : PA Z (e :: es) t) (hd : (a == ("__debug__" : Str)) = false := by decide) (hcd : (a == ("__classdict__" : Str)) = false := by decide)
    (he : starEach (e :: es) Z.env = (false, eval e Z.env) :: starEach es Z.env := by rfl) (hpl : (backTo p2 (starEach es Z.env)).any (·.1) = false := by rfl) :
    PE Z (.Call (.Name a p1) (e :: es) [] p2) (fun σ H Q => σ[i]? = some (some (.ref f)) ∧ H f = some (LamO f F body) ∧ t σ H fun vs H1 => G vs H1 Q) := by
  refine ⟨fun pins s σ H Q I h => ?_⟩
  obtain ⟨hs, hf, ht⟩ := h
  refine wpAny_Call_Name_kw (thn ((pe_var (pos := p1) hN hv hd hcd).run pins s σ H (fun v H1 => v = .ref f ∧ H1 = H) I ⟨.ref f, hs, rfl, rfl⟩) fun u s1 z => ?_)
  obtain ⟨v, H1, J, r1, ev, eH⟩ := z
  subst ev
  rw [eH] at J
  obtain rfl : u = Value.ref f := r1
  have fnAt : ∀ {s : Shared} {H : Hp} {pins : List (Addr × Obj)} {σ : L2.St}, Inv Z pins σ H s → H f = some (LamO f F body) → PySem.W.FnAt f s.heap := fun I e => by
    obtain ⟨pm, ctv, ho⟩ := lamO_at I.hok e
    exact ⟨_, _, _, _, ho⟩
  refine PySem.W.callWith_F (first := []) (fnAt J hf) (thn (ha.run p2 pins s1 σ H _ J ht) fun us s2 z => ?_) he hpl
  obtain ⟨vs, H2, J2, r, gg⟩ := z
  obtain ⟨q1, q2, q3, q4⟩ := hG vs H2 Q gg
  refine ⟨fnAt J2 q1, ?_⟩
  show wpAny _ _ (call (.ref f) us) _ _ _
  refine wpAny_call (codeAny_mono (run_lam S hb hbody hr J2.env0 q1 q2 (cells_later C hx J2) r q3 q4) fun res s' hq => ?_)
  match res, hq with
  | .error e, hq => exact passL pins σ H2 s2 e s' J2 hq
  | .ok (.ret u), hq => exact J2.after hq
  | .ok .next, hq => exact False.elim hq
  | .ok .brk, hq => exact False.elim hq
  | .ok .cont, hq => exact False.elim hq
end
end N

namespace N
open PySem PySem.Spec PyProof.Rows L2 LamX NdefX
/-! ### values that are called, by what they do -/
/-- at f stands a lambda that does spL, its cells being as they are in the heap h -/
def ActL (P : Program) (w : World) (K : PySem.W.Frag) (mg : Str → Option Value) (base : Heap) (f : Addr) (h : Heap) (H : Hp) (spL : List V → Hp → VK → Prop) : Prop :=
  ∃ (F : NF) (body : Expr) (Nm ps fr : List Str) (ws : List (Option V)) (tb : TE), NScope Nm ps fr F.scope ∧
    (∀ (pm ctv : Value) (us : List Value), us.length = ps.length → bindArgs (PySem.W.kla_fn F.name F.qual F.params body F.scope F.cl pm (.ref F.c) ctv) ⟨us, []⟩ = pure (ps.zip us)) ∧
    (∀ (A : Around) (outer : List Env) (s : Shared) (H : Hp), RoomG 0 (A.deeper (envF F f s.heap.objs.size)) → PE (ncx (L2.CX P w) P w K mg base Nm F f A outer s H E0) body tb) ∧ CellsAt F.cl fr ws h H ∧
    H f = some (LamO f F body) ∧ H F.c = some (CodeO F.c F.qual) ∧ ∀ vs H' Q, spL vs H' Q → vs.length = ps.length ∧ tb (startF Nm vs ws) H' Q
section
variable {Z : Cx} {f : Addr} {i : Nat} {a : Str} {e : Expr} {es : List Expr} {t : TA} {p1 p2 : Pos} {spL : List V → Hp → VK → Prop}
theorem pe_actS (L : ActL Z.prog Z.w Z.K Z.mg Z.base f Z.s_0.heap Z.H_0 spL) (hr : RoomG 1 Z.A) (hx : Z.ex = [])
    (hN : Z.N[i]? = some a) (hv : Vis Z.env.scope a) (ha : PA Z (e :: es) t) (hd : (a == ("__debug__" : Str)) = false := by decide) (hcd : (a == ("__classdict__" : Str)) = false := by decide)
    (he : starEach (e :: es) Z.env = (false, eval e Z.env) :: starEach es Z.env := by rfl) (hpl : (backTo p2 (starEach es Z.env)).any (·.1) = false := by rfl) :
    PE Z (.Call (.Name a p1) (e :: es) [] p2) (fun σ H Q => σ[i]? = some (some (.ref f)) ∧ Same Z.H_0 H ∧ t σ H fun vs H1 => Same Z.H_0 H1 ∧ spL vs H1 Q) := by
  obtain ⟨F, body, Nm, ps, fr, ws, tb, S, hb, hbody, C, h1, h2, hsp⟩ := L
  have q := pe_actL (Z := Z) (i := i) (f := f) (k := 0) (p1 := p1) (G := fun vs H1 Q => Same Z.H_0 H1 ∧ spL vs H1 Q) S hb (fun s H => hbody Z.A Z.stack s H (hr.deeper _)) hr C hx (fun vs H1 Q z => ⟨z.1 _ _ h1, z.1 _ _ h2, hsp vs H1 Q z.2⟩) hN hv ha hd hcd he hpl
  refine ⟨fun pins s σ H Q I h => ?_⟩
  obtain ⟨g1, g2, g3⟩ := h
  exact q.run pins s σ H Q I ⟨g1, g2 _ _ h1, g3⟩
end
end N

namespace N
open PySem PySem.Spec PyProof.Rows L2 LamX NdefX
section
variable {X : Cx} {k : Nat} {x : Str} {st : Stmt} {ps Ng : List Str} {p pos : Pos} {e : Expr} {es : List Expr} {t : TA}
/-- lambda ..: .. as a value -/
theorem pe_lamT {c P : Addr} {params : Arguments} {body : Expr} {scope : Scope} (TB : TabB X.base X.mg c P) (hcode : X.env.code = .ref c) (hdef : defaultsOf params X.env = ([], []) := by rfl)
    (fre : ∀ y ∈ scope.names, y.2 = .free → X.env.scope.names.lookup y.1 = some .cell ∨ X.env.scope.names.lookup y.1 = some .free := by decide +kernel) :
    PE X (.Lambda params body scope pos) (fun σ H Q => TabS H P (X.env.qual ++ "<lambda>") ∧ ∀ (f c' : Addr) (H1 : Hp), ExtN H H1 → TabS H1 P (X.env.qual ++ "<lambda>") → (∀ b, H1 b = none → H b = none) → H f = none →
      H1 f = some (LamO f (lamF (X.env.qual ++ "<lambda>") params scope (cloFrom X.env.cells scope.names []) c') body) → H1 c' = some (CodeO c' (X.env.qual ++ "<lambda>")) → Q (.ref f) H1) := by
  refine ⟨fun pins s σ H Q I h => ?_⟩
  obtain ⟨hT, h⟩ := h
  refine lam_new I TB hcode hT hdef (fun y hy ey => (fre y hy ey).elim (fun z => I.ok.has _ (.inl z)) fun z => I.ok.has _ (.inr z)) (fun f c' H1 s' J g1 g2 g3 g4 g5 g6 => ?_)
  exact ⟨.ref f, H1, J, rfl, h f c' H1 g1 g2 g3 g4 g5 g6⟩
/-- x(e, ..), the promise told of the very state -/
theorem pe_callH {RR : L2.St → List V → Hp → VK → Prop} (D : DefAt X.K X.mg x st ps) (Sg : FnScope Ng ps (defScope st)) (hr : RoomG (k + 1) X.A) (hg : Gl X x) (ha : PA X (e :: es) t) (hlen : ∀ σ vs H Q, RR σ vs H Q → vs.length = ps.length)
    (hG : ∀ (g : Addr) (cdv : Value) (pins : List (Addr × Obj)) (s : Shared) (σ : L2.St) (H : Hp) (vs : List V) (Q : VK), Inv X pins σ H s → RoomG k (X.A.deeper (envOfC x (defScope st) s.heap.objs.size g cdv)) → RR σ vs H Q →
      ∃ t, PSs (cxOf (L2.CX X.prog X.w) X.prog X.w X.K X.mg X.base Ng x (defScope st) g cdv X.A X.stack s H E0) (defBody st) t ∧ t { nx := fun _ H' => Q .non H', rt := Q } (L2.start Ng vs) H)
    (hdb : (x == ("__debug__" : Str)) = false := by decide) (he : starEach (e :: es) X.env = (false, eval e X.env) :: starEach es X.env := by rfl) (hpl : (backTo pos (starEach es X.env)).any (·.1) = false := by rfl) :
    PE X (.Call (.Name x p) (e :: es) [] pos) (fun σ H Q => t σ H fun vs H1 => RR σ vs H1 Q) := by
  obtain ⟨g, fd, hm, F, hb⟩ := D
  have hk := F.kp
  obtain ⟨oc, od, kV, doc, pm, an, cdv, ct, osl, rfl, lk, hcd⟩ := F.ex
  refine ⟨fun pins s σ H Q I h => wpAny_Call_Name_kw (ld_glob I hg hm ?_ hdb)⟩
  refine PySem.W.callWith_K (h₀ := X.base) I.ok.mod.kin hk (thn (ha.run pos pins s σ H _ I h) fun us s1 z => ?_) he hpl
  obtain ⟨vs, H1, J, r, q⟩ := z
  refine ⟨J.kIn, ?_⟩
  have hl := hlen _ _ _ _ q
  have b := hb s1 us J.kIn (by rw [List.append_nil, ← r.length]; exact hl)
  rw [List.append_nil] at b
  show wpAny _ _ (call (.ref g) us) _ _ _
  refine wpAny_call (codeAny_mono (run_ofS (CX := L2.CX X.prog X.w) (E := E0) lk hcd Sg hr.toRoom J.env0 b r hl fun hr' => hG g cdv pins s1 σ H1 vs Q J ⟨hr', hr.gs⟩ q) fun res s' hq => ?_)
  match res, hq with
  | .error e, hq => exact passL pins σ H1 s1 e s' J hq
  | .ok (.ret u), hq => exact J.after hq
  | .ok .next, hq => exact False.elim hq
  | .ok .brk, hq => exact False.elim hq
  | .ok .cont, hq => exact False.elim hq
end
/-! ### a def whose code object is named -/
def DefAtC (K : PySem.W.Frag) (mg : Str → Option Value) (x : Str) (st : Stmt) (ps : List Str) (c : Addr) : Prop :=
  ∃ (f : Addr) (fd : FuncData) (oc : Value) (od : Option Addr) (kV doc pm : Value) (an : Option Addr) (ct : Value) (osl : Array (Option Value)), mg x = some (.ref f) ∧ fd = PySem.W.fnOf x x (defArgs st) (defBody st) (defScope st) .none kV doc pm an (.ref c) ct ∧
    K.lookup f = some ⟨oc, od, .func fd, osl⟩ ∧ PySem.W.codeIn K (.ref c) x = true ∧ PySem.W.keepIn K (.ref f) = true ∧ Binds K fd ps []
section
variable {P : Program} {w : World} {K : PySem.W.Frag} {mg : Str → Option Value} {base : Heap} {k : Nat} {x : Str} {ps Nm : List Str} {sp : Sp} {st : Stmt} {c : Addr}
theorem DefAtC.cal (D : DefAtC K mg x st ps c) (S : FnScope Nm ps (defScope st)) (len : ∀ vs H Q E, sp vs H Q E → vs.length = ps.length)
    (hbody : ∀ (f : Addr) (A : Around) (outer : List Env) (s : Shared) (H : Hp) (vs : List V) (Q : VK) (E : XK), RoomG k (A.deeper (envOfC x (defScope st) s.heap.objs.size f (.ref c))) → sp vs H Q E →
      ∃ t, PSs (cxOf (L2.CX P w) P w K mg base Nm x (defScope st) f (.ref c) A outer s H E) (defBody st) t ∧ t { nx := fun _ H' => Q .non H', rt := Q } (start Nm vs) H) : Cal P w K mg base (k + 1) x ps sp := by
  obtain ⟨f, fd, oc, od, kV, doc, pm, an, ct, osl, hm, rfl, lk, hcd, hk, hb⟩ := D
  refine ⟨f, _, hm, hk, hb, len, fun A outer s H args us vs Q E hr e0 bt r hsp => ?_⟩
  exact run_ofS lk hcd S hr.toRoom e0 bt r (len _ _ _ _ hsp) fun hr' => hbody f A outer s H vs Q E ⟨hr', hr.gs⟩ hsp
end
theorem mk_defC {h : Heap} {K : PySem.W.Frag} {mg : Str → Option Value} {x : Str} {st : Stmt} {ps : List Str} {c : Addr} {f : Addr} {oc : Value} {od an : Option Addr} {osl : Array (Option Value)} {kV doc pm ct : Value} (X : K.In h) (G : h.Ns mainGlobals mg)
    (a : PySem.W.nsIn K mainGlobals x = some (some (.ref f))) (l : K.lookup f = some ⟨oc, od, .func (PySem.W.fnOf x x (defArgs st) (defBody st) (defScope st) .none kV doc pm an (.ref c) ct), osl⟩) (hc : PySem.W.codeIn K (.ref c) x = true) (k : PySem.W.keepIn K (.ref f) = true)
    (b : ∀ (kV doc pm : Value) (an : Option Addr) (cdv ct : Value) (us : List Value), us.length = ps.length → bindArgs (PySem.W.fnOf x x (defArgs st) (defBody st) (defScope st) .none kV doc pm an cdv ct) ⟨us, []⟩ = pure (ps.zip us)) : DefAtC K mg x st ps c :=
  ⟨f, _, oc, od, kV, doc, pm, an, ct, osl, PySem.W.mg_of X G a, rfl, l, hc, k, (fun_mk l hc k).binds b⟩
end N

namespace N
open PySem PySem.Spec PyProof.Rows L2
def topS (i : Nat) : Stmt := PySem.Challenge.pw_endlesskinds_k02_letters_filled.main.body.getD i (.Pass ⟨0, 0, 0, 0⟩)
abbrev s_is_letter : Stmt := topS 7
abbrev nm_is_letter : List Str := ["thing"]
theorem sc_is_letter : FnScope nm_is_letter ["thing"] (defScope s_is_letter) := ⟨rfl, rfl, rfl, by decide +kernel, rfl, by decide +kernel, by decide +kernel⟩
abbrev s_is_name : Stmt := topS 8
abbrev nm_is_name : List Str := ["thing"]
theorem sc_is_name : FnScope nm_is_name ["thing"] (defScope s_is_name) := ⟨rfl, rfl, rfl, by decide +kernel, rfl, by decide +kernel, by decide +kernel⟩
abbrev s_begins_class_type : Stmt := topS 9
abbrev nm_begins_class_type : List Str := ["thing"]
theorem sc_begins_class_type : FnScope nm_begins_class_type ["thing"] (defScope s_begins_class_type) := ⟨rfl, rfl, rfl, by decide +kernel, rfl, by decide +kernel, by decide +kernel⟩
abbrev s_is_type : Stmt := topS 10
abbrev nm_is_type : List Str := ["thing", "rest", "part"]
theorem sc_is_type : FnScope nm_is_type ["thing"] (defScope s_is_type) := ⟨rfl, rfl, rfl, by decide +kernel, rfl, by decide +kernel, by decide +kernel⟩
abbrev s_check_type : Stmt := topS 11
abbrev nm_check_type : List Str := ["thing"]
theorem sc_check_type : FnScope nm_check_type ["thing"] (defScope s_check_type) := ⟨rfl, rfl, rfl, by decide +kernel, rfl, by decide +kernel, by decide +kernel⟩
abbrev s_parts : Stmt := topS 12
abbrev nm_parts : List Str := ["kind", "found", "rest", "part"]
theorem sc_parts : FnScope nm_parts ["kind"] (defScope s_parts) := ⟨rfl, rfl, rfl, by decide +kernel, rfl, by decide +kernel, by decide +kernel⟩
abbrev s_folded : Stmt := topS 13
abbrev nm_folded : List Str := ["kind", "of_letter", "of_class", "done", "part", "arguments", "_"]
theorem sc_folded : FnScope nm_folded ["kind", "of_letter", "of_class"] (defScope s_folded) := ⟨rfl, rfl, rfl, by decide +kernel, rfl, by decide +kernel, by decide +kernel⟩
abbrev s_filled : Stmt := topS 14
abbrev nm_filled : List Str := ["kind", "values"]
theorem sc_filled : FnScope nm_filled ["kind", "values"] (defScope s_filled) := ⟨rfl, rfl, rfl, by decide +kernel, rfl, by decide +kernel, by decide +kernel⟩
abbrev s_are_values : Stmt := topS 15
abbrev nm_are_values : List Str := ["thing", "letter", "kind"]
theorem sc_are_values : FnScope nm_are_values ["thing"] (defScope s_are_values) := ⟨rfl, rfl, rfl, by decide +kernel, rfl, by decide +kernel, by decide +kernel⟩
abbrev s_fill : Stmt := topS 16
abbrev nm_fill : List Str := ["kind", "values"]
theorem sc_fill : FnScope nm_fill ["kind", "values"] (defScope s_fill) := ⟨rfl, rfl, rfl, by decide +kernel, rfl, by decide +kernel, by decide +kernel⟩
abbrev s_Lcell_at : Stmt := topS 18
abbrev nm_Lcell_at : List Str := ["_law_script", "_law_k"]
theorem sc_Lcell_at : FnScope nm_Lcell_at ["_law_script", "_law_k"] (defScope s_Lcell_at) := ⟨rfl, rfl, rfl, by decide +kernel, rfl, by decide +kernel, by decide +kernel⟩
abbrev s_Lpen : Stmt := topS 19
abbrev nm_Lpen : List Str := ["_law_cell"]
theorem sc_Lpen : FnScope nm_Lpen ["_law_cell"] (defScope s_Lpen) := ⟨rfl, rfl, rfl, by decide +kernel, rfl, by decide +kernel, by decide +kernel⟩
abbrev s_Ldraw : Stmt := topS 20
abbrev nm_Ldraw : List Str := ["_law_pen_here", "_law_many", "_law_found", "_law_mixed_here"]
theorem sc_Ldraw : FnScope nm_Ldraw ["_law_pen_here", "_law_many"] (defScope s_Ldraw) := ⟨rfl, rfl, rfl, by decide +kernel, rfl, by decide +kernel, by decide +kernel⟩
abbrev s_Lsame : Stmt := topS 21
abbrev nm_Lsame : List Str := ["_law_found", "_law_due"]
theorem sc_Lsame : FnScope nm_Lsame ["_law_found", "_law_due"] (defScope s_Lsame) := ⟨rfl, rfl, rfl, by decide +kernel, rfl, by decide +kernel, by decide +kernel⟩
abbrev s_Lpick : Stmt := topS 22
abbrev nm_Lpick : List Str := ["_law_pen_here", "_law_some"]
theorem sc_Lpick : FnScope nm_Lpick ["_law_pen_here", "_law_some"] (defScope s_Lpick) := ⟨rfl, rfl, rfl, by decide +kernel, rfl, by decide +kernel, by decide +kernel⟩
abbrev s_Lmixed : Stmt := topS 23
abbrev nm_Lmixed : List Str := ["_law_pen_here", "_law_some", "_law_left", "_law_one"]
theorem sc_Lmixed : FnScope nm_Lmixed ["_law_pen_here", "_law_some"] (defScope s_Lmixed) := ⟨rfl, rfl, rfl, by decide +kernel, rfl, by decide +kernel, by decide +kernel⟩
abbrev s_Lfilled : Stmt := topS 24
abbrev nm_Lfilled : List Str := ["_law_kind_here", "_law_held_here", "_law_one"]
theorem sc_Lfilled : FnScope nm_Lfilled ["_law_kind_here", "_law_held_here"] (defScope s_Lfilled) := ⟨rfl, rfl, rfl, by decide +kernel, rfl, by decide +kernel, by decide +kernel⟩
abbrev s_Lkind : Stmt := topS 25
abbrev nm_Lkind : List Str := ["_law_pen_here", "_law_letters", "_law_shapes", "_law_most", "_law_bare", "_law_name", "_law_count", "_law_some", "_law_shape", "_law_found", "_law_turn"]
theorem sc_Lkind : FnScope nm_Lkind ["_law_pen_here", "_law_letters", "_law_shapes", "_law_most"] (defScope s_Lkind) := ⟨rfl, rfl, rfl, by decide +kernel, rfl, by decide +kernel, by decide +kernel⟩
abbrev s_Lheld : Stmt := topS 26
abbrev nm_Lheld : List Str := ["_law_pen_here", "_law_shapes", "_law_found", "_law_letter"]
theorem sc_Lheld : FnScope nm_Lheld ["_law_pen_here", "_law_shapes"] (defScope s_Lheld) := ⟨rfl, rfl, rfl, by decide +kernel, rfl, by decide +kernel, by decide +kernel⟩
abbrev s_law : Stmt := topS 27
abbrev nm_law : List Str := ["_law_script", "_law_shapes", "_law_k", "_law_pen_here", "_law_turn", "_law_kind_here", "_law_rows", "_law_held_here", "_law_other", "_law_kept", "_law_due", "_law_exchanged"]
theorem sc_law : FnScope nm_law ["_law_script"] (defScope s_law) := ⟨rfl, rfl, rfl, by decide +kernel, rfl, by decide +kernel, by decide +kernel⟩
/-- what the top holds besides its defs -/
structure Glo (mg : Str → Option Value) : Prop where
  isinstance : mg "isinstance" = none
  str : mg "str" = none
  tuple : mg "tuple" = none
  dict : mg "dict" = none
  list : mg "list" = none
  len : mg "len" = none
  all : mg "all" = none
  max : mg "max" = none
  min : mg "min" = none
  range : mg "range" = none
  repr : mg "repr" = none
  sum : mg "sum" = none
  LN : ∃ t, mg "LONGEST_NAME" = some (.int 8 t)
  MA : ∃ t, mg "MOST_ARGUMENTS" = some (.int 2 t)
end N

namespace N
open PySem PySem.Spec PyProof.Rows L2
section
variable {P : Program} {w : World} {K : PySem.W.Frag} {mg : Str → Option Value} {base : Heap}
theorem sz5 {n : Nat} (h : n ≤ 100000) : n ≤ sizeLine := Nat.le_trans h (by decide)
/-- one thing, nothing changed -/
def spTest (K : PySem.W.Frag) (g : Tg → Bool) : Sp := fun vs H Q _ => ∃ v t, vs = [v] ∧ Th K H v t ∧ Q (.bl (g t)) H
theorem ok_is_letter (G : Glo mg) (D : DefAt K mg "is_letter" s_is_letter ["thing"]) : Cal P w K mg base 1 "is_letter" ["thing"] (spTest K Tg.isL) := by
  refine D.cal sc_is_letter (fun vs H Q E h => ?_) (fun f cdv A outer s H vs Q E hr h => ?_)
  · obtain ⟨v, t, rfl, _⟩ := h
    rfl
  obtain ⟨v, t, rfl, hT, q⟩ := h
  refine ⟨_, pss_one (ps_ret (pe_and (pe_isi G.isinstance G.str b_str rfl rfl (pv 0))
    (pe_and (pe_cmpR op_eq (pe_callB call_len_str (by rfl) G.len PySem.boot_len (pa_cons (pv 0) pa_nil)) pe_int (nomark _))
    (pe_one (pe_chain op_le_str op_le_str pe_str (pv 0) pe_str))))), ?_⟩
  refine ⟨v, rfl, isi_str hT ?_⟩
  cases hT with
  | str x hx =>
    refine ⟨true, rfl, iteT ⟨_, rfl, x, rfl, sz5 hx, rfl, _, rfl, ?_⟩⟩
    have e : decide (V.int (x.length : Int) = V.int 1) = decide (x.length = 1) := by
      by_cases h : x.length = 1
      · rw [h]
        decide
      · rw [decide_eq_false h, decide_eq_false (fun z => h (by have := V.int.inj z; omega))]
    rw [e]
    refine ite2 (fun c => ?_) (fun c => ?_)
    · refine ⟨_, rfl, _, _, rfl, rfl, _, rfl, ?_⟩
      refine ite2 (fun c2 => ?_) (fun c2 => ?_)
      · refine ⟨_, _, rfl, rfl, ?_⟩
        have e2 : Tg.isL (.str x) = (!decide (("Z" : Str).cps.toList < x.cps.toList)) := by
          show isLet x = _
          unfold isLet
          rw [c, c2, Bool.true_and, Bool.true_and]
        rw [← e2]
        exact q
      · have e2 : Tg.isL (.str x) = false := by
          show isLet x = _
          unfold isLet
          rw [Bool.eq_false_iff.mpr c2, Bool.false_and, Bool.and_false]
        rw [e2] at q
        exact q
    · have e2 : Tg.isL (.str x) = false := by
        show isLet x = _
        unfold isLet
        rw [Bool.eq_false_iff.mpr c, Bool.false_and]
      rw [e2] at q
      exact q
  | oth ty a b => exact ⟨false, rfl, iteF q⟩
  | tup h r => exact ⟨false, rfl, iteF q⟩
end
end N

namespace N
open PySem PySem.Spec PyProof.Rows L2
section
variable {P : Program} {w : World} {K : PySem.W.Frag} {mg : Str → Option Value} {base : Heap}
theorem ok_is_name (G : Glo mg) (D : DefAt K mg "is_name" s_is_name ["thing"]) : Cal P w K mg base 1 "is_name" ["thing"] (spTest K Tg.isNm) := by
  obtain ⟨t8, h8⟩ := G.LN
  refine D.cal sc_is_name (fun vs H Q E h => ?_) (fun f cdv A outer s H vs Q E hr h => ?_)
  · obtain ⟨v, t, rfl, _⟩ := h
    rfl
  obtain ⟨v, t, rfl, hT, q⟩ := h
  refine ⟨_, pss_cons (ps_if (PW.pt (pw_or (pt_not (pt_val (pe_isi G.isinstance G.str b_str rfl rfl (pv 0))))
      (pw_or1 (pt_cmpR op_gt (pe_callB call_len_str (by rfl) G.len PySem.boot_len (pa_cons (pv 0) pa_nil)) (pe_glob (v := .int 8) rfl h8 ⟨_, rfl⟩) (nomark _)))))
      (pss_one (ps_ret pe_bl)) pss_nil)
    (pss_one (ps_ret (pe_and (pe_m0 PySem.F.slot_str_isascii PySem.F.type_str_isascii mt_isascii (pv 0))
      (pe_and (pe_m0 PySem.F.slot_str_isalpha PySem.F.type_str_isalpha mt_isalpha (pv 0)) (pe_one (pe_m0 PySem.F.slot_str_islower PySem.F.type_str_islower mt_islower (pv 0))))))), ?_⟩
  refine ⟨v, rfl, isi_str hT ?_⟩
  cases hT with
  | str x hx =>
    refine ⟨true, rfl, iteF ⟨_, rfl, x, rfl, sz5 hx, _, _, rfl, rfl, _, rfl, ?_⟩⟩
    refine ite2 (fun c => ?_) (fun c => ?_)
    · have c' : ((x.length : Nat) : Int) > 8 := of_decide_eq_true c
      have e2 : Tg.isNm (.str x) = false := by
        show isNam x = _
        unfold isNam
        rw [decide_eq_true (show 8 < x.length by omega)]
        rfl
      rw [e2] at q
      exact q
    · have c' : ¬ ((x.length : Nat) : Int) > 8 := of_decide_eq_false (Bool.eq_false_iff.mpr c)
      have e2 : Tg.isNm (.str x) = (Txt.isascii x && (Txt.isalpha x && Txt.islower x)) := by
        show isNam x = _
        unfold isNam
        rw [decide_eq_false (show ¬ 8 < x.length by omega)]
        rfl
      rw [e2] at q
      refine ⟨_, rfl, ⟨_, rfl⟩, x, rfl, rfl, trivial, _, rfl, ?_⟩
      refine ite2 (fun c => ?_) (fun c => ?_)
      · rw [c, Bool.true_and] at q
        refine ⟨_, rfl, ⟨_, rfl⟩, x, rfl, rfl, trivial, _, rfl, ?_⟩
        refine ite2 (fun c => ?_) (fun c => ?_)
        · rw [c, Bool.true_and] at q
          exact ⟨_, rfl, ⟨_, rfl⟩, x, rfl, rfl, trivial, q⟩
        · rw [Bool.eq_false_iff.mpr c, Bool.false_and] at q
          exact q
      · rw [Bool.eq_false_iff.mpr c, Bool.false_and] at q
        exact q
  | oth ty a b => exact ⟨false, rfl, iteT q⟩
  | tup h r => exact ⟨false, rfl, iteT q⟩

theorem begT_long {ts : List Tg} (h : 3 < ts.length) : begT (.tup ts) = false := by
  match ts, h with
  | n :: ts, h =>
    show (decide (ts.length ≤ 2) && n.isNm) = false
    rw [decide_eq_false (by rw [List.length_cons] at h; omega), Bool.false_and]
theorem begT_none {ts : List Tg} (h : ts.length < 1) : begT (.tup ts) = false := by
  match ts, h with
  | [], _ => rfl
theorem ok_begins (G : Glo mg) (CN : Cal P w K mg base 1 "is_name" ["thing"] (spTest K Tg.isNm)) (D : DefAt K mg "begins_class_type" s_begins_class_type ["thing"]) : Cal P w K mg base 2 "begins_class_type" ["thing"] (spTest K begT) := by
  obtain ⟨t2, h2⟩ := G.MA
  refine D.cal sc_begins_class_type (fun vs H Q E h => ?_) (fun f cdv A outer s H vs Q E hr h => ?_)
  · obtain ⟨v, t, rfl, _⟩ := h
    rfl
  obtain ⟨v, t, rfl, hT, q⟩ := h
  refine ⟨_, pss_cons (ps_if (PW.pt (pw_or (pt_not (pt_val (pe_isi G.isinstance G.tuple b_tuple rfl rfl (pv 0))))
      (pw_or1 (pt_not (pt_chain op_le op_le pe_int (pe_callB call_len_seq (by rfl) G.len PySem.boot_len (pa_cons (pv 0) pa_nil)) (pe_op op_add pe_int (pe_glob (v := .int 2) rfl h2 ⟨_, rfl⟩)))))))
      (pss_one (ps_ret pe_bl)) pss_nil)
    (pss_one (ps_ret (pc CN hr rfl (pa_cons (pe_ix ix_tup (pv 0) pe_int (fun _ _ => rfl)) pa_nil)))), ?_⟩
  refine ⟨v, rfl, isi_tup hT ?_⟩
  cases hT with
  | str x hx => exact ⟨false, rfl, iteT q⟩
  | oth ty a b => exact ⟨false, rfl, iteT q⟩
  | @tup a xs ts h r =>
    have hl := r.length
    refine ⟨true, rfl, iteF ⟨_, rfl, a, xs, rfl, .inr h, _, _, rfl, rfl, _, rfl, ?_⟩⟩
    refine ite2 (fun c => ?_) (fun c => ?_)
    · have c' : (1 : Int) ≤ (xs.length : Nat) := of_decide_eq_true c
      refine ⟨_, _, rfl, rfl, _, _, rfl, rfl, _, rfl, ?_⟩
      refine ite2 (fun c2 => ?_) (fun c2 => ?_)
      · have c2' : ¬ ((xs.length : Nat) : Int) ≤ 1 + 2 := by
          have z := c2
          rw [Bool.not_eq_true'] at z
          exact of_decide_eq_false z
        rw [begT_long (by omega)] at q
        exact q
      · have c2' : ((xs.length : Nat) : Int) ≤ 1 + 2 := by
          have z := c2
          rw [Bool.not_eq_true', Bool.not_eq_false] at z
          exact of_decide_eq_true z
        cases r with
        | nil => exact absurd c' (by decide)
        | @cons y ys n ts hy r =>
          refine ⟨_, rfl, a, _, 0, y, rfl, rfl, h, atI_nat (j := 0) rfl, y, n, rfl, hy, ?_⟩
          have e2 : begT (.tup (n :: ts)) = n.isNm := by
            show (decide (ts.length ≤ 2) && n.isNm) = _
            rw [decide_eq_true (by rw [List.length_cons] at c2'; have := r.length; omega), Bool.true_and]
          rw [e2] at q
          exact q
    · have c' : ¬ (1 : Int) ≤ (xs.length : Nat) := of_decide_eq_false (Bool.eq_false_iff.mpr c)
      rw [begT_none (by omega)] at q
      exact ⟨false, rfl, iteT q⟩

end
end N

namespace N
open PySem PySem.Spec PyProof.Rows L2
section
variable {P : Program} {w : World} {K : PySem.W.Frag} {mg : Str → Option Value} {base : Heap}
/-- a question about one thing: all that stood stands -/
def spAsk (K : PySem.W.Frag) (g : Tg → Bool) : Sp := fun vs H Q _ => ∃ v t, vs = [v] ∧ Th K H v t ∧ t.nodes ≤ 100000 ∧ ∀ H', Same H H' → Q (.bl (g t)) H'
theorem cut_tail (xs : List V) : cutV xs (some 1) none = xs.drop 1 := by
  unfold cutV
  rw [show HT.sIx xs.length 0 (some 1) = min 1 xs.length from HT.sIx_nat xs.length 0 1, HT.sIx_none]
  cases xs with
  | nil => rfl
  | cons x r =>
    rw [show min 1 (x :: r).length = 1 by rw [List.length_cons]; omega]
    show (List.take ((x :: r).length - 1) r) = r
    rw [List.length_cons, Nat.add_sub_cancel]
    exact List.take_length
theorem cut_tail_ne (xs : List V) (h : 1 ≤ xs.length) : ¬ (HT.sIx xs.length 0 (some 1) = 0 ∧ HT.sIx xs.length xs.length none = xs.length) := fun q => by
  have e : HT.sIx xs.length 0 (some 1) = min 1 xs.length := HT.sIx_nat xs.length 0 1
  rw [e] at q
  omega
/-- a tuple's arguments -/
theorem beg_tup {K : PySem.W.Frag} {H : Hp} {v : V} {t : Tg} (h : Th K H v t) (b : begT t = true) : ∃ (a : Addr) (n : V) (x : Str) (xs : List V), v = .ref a ∧ SqT K H a (n :: xs) ∧ n = .str x ∧ t = .tup (.str x :: t.args) ∧ isNam x = true ∧ t.args.length ≤ 2 ∧ ThAll K H xs t.args := by
  cases h with
  | str x hx => cases b
  | oth ty a b' => cases b
  | @tup a xs ts h r =>
    cases r with
    | nil => cases b
    | @cons y ys n ts hy r =>
      have b' : (decide (ts.length ≤ 2) && n.isNm) = true := b
      rw [Bool.and_eq_true, decide_eq_true_eq] at b'
      cases hy with
      | str x hx => exact ⟨a, _, x, ys, rfl, h, rfl, rfl, b'.2, b'.1, r⟩
      | oth ty a b => cases b'.2
      | tup h r => cases b'.2
theorem iteE {b : Bool} {A B : Prop} (e : b = true) (h : A) : if b = true then A else B := by
  rw [if_pos e]
  exact h
theorem iteN {b : Bool} {A B : Prop} (e : b = false) (h : B) : if b = true then A else B := by
  rw [if_neg (by rw [e]; exact Bool.false_ne_true)]
  exact h
theorem same_mut {H H' : Hp} {p : Addr} {o : HO} (e : Same H H') (h : H p = none) : Same H (upd H' p o) := fun b u q => by rw [upd_ne (ne_of_none q h)]; exact e b u q
theorem ok_is_type (CL : Cal P w K mg base 1 "is_letter" ["thing"] (spTest K Tg.isL)) (CB : Cal P w K mg base 2 "begins_class_type" ["thing"] (spTest K begT)) (D : DefAt K mg "is_type" s_is_type ["thing"]) : Cal P w K mg base 3 "is_type" ["thing"] (spAsk K isT) := by
  refine D.cal sc_is_type (fun vs H Q E h => ?_) (fun f cdv A outer s H vs Q E hr h => ?_)
  · obtain ⟨v, t, rfl, _⟩ := h
    rfl
  obtain ⟨v, t, rfl, hT, hn, q⟩ := h
  refine ⟨_, pss_cons (ps_set (i := 1) sc_is_type.nd rfl (Or.inl rfl) (pe_lst (pa_cons (pv 0) pa_nil)))
    (pss_cons (ps_while (passes_of rfl) (pt_truth (pv 1) (by intro _; rfl))
      (pss_cons (ps_set (i := 2) sc_is_type.nd rfl (Or.inl rfl) (pe_bm0 PySem.F.plainAttrs_list PySem.F.slot_list_pop PySem.F.type_list_pop mt_pop (pv 1)))
        (pss_one (ps_if (pt_val (pc CB hr rfl (pa_cons (pv 2) pa_nil)))
          (pss_one (ps_expr (pe_bm PySem.F.plainAttrs_list PySem.F.slot_list_extend PySem.F.type_list_extend mt_extendT (pv 1) (pa_cons (pe_slice sl_tup (pv 2) (po_some pe_int) po_none) pa_nil))))
          (pss_one (ps_if (pt_not (pt_val (pc CL (hr.mono (by decide)) rfl (pa_cons (pv 2) pa_nil)))) (pss_one (ps_ret pe_bl)) pss_nil))))))
    (pss_one (ps_ret pe_bl))), ?_⟩
  refine ⟨v, rfl, by show 1 ≤ sizeLine; decide, fun l hl => ?_⟩
  refine ⟨fun m σ H' => ∃ xs ts y, m = nodesAll ts ∧ σ = [some v, some (.ref l), y] ∧ Same H H' ∧ H' l = some (.lst xs) ∧ ThAll K H' xs ts ∧ nodesAll ts ≤ 100000 ∧ isT t = isTAll ts,
    ⟨_, [v], [t], _, rfl, rfl, same_new hl _, upd_same, .cons (hT.stay (stay_new hl _)) .nil, by simp only [nodesAll]; omega, by simp only [isTAll, Bool.and_true]⟩, fun m σ H' hW => ?_⟩
  obtain ⟨xs, ts, y, rfl, rfl, sm, hx, hA, hm, ht⟩ := hW
  refine ⟨_, rfl, _, .inl ⟨xs, SqL.of hx, rfl⟩, ?_⟩
  have hlen := hA.length
  by_cases hne : ts = []
  · subst hne
    have e0 : xs = [] := List.length_eq_zero_iff.mp hlen
    subst e0
    rw [ht] at q
    exact iteF (q H' sm)
  obtain ⟨u, xs', t', ts', e1, e2, hu, hr'⟩ := hA.snoc hne
  subst e1 e2
  have ek : (!(xs' ++ [u]).isEmpty) = true := by cases xs' <;> rfl
  refine iteE ek ?_
  have en : nodesAll (ts' ++ [t']) = nodesAll ts' + t'.nodes := by rw [nodesAll_app]; simp only [nodesAll]; omega
  have et : isTAll (ts' ++ [t']) = (isTAll ts' && isT t') := by rw [isTAll_app]; simp only [isTAll, Bool.and_true]
  have hl' := length_le_nodes ts'
  have hl2 := hr'.length
  refine ⟨fun σ2 H2 => ∃ xs ts y, nodesAll ts < nodesAll (ts' ++ [t']) ∧ σ2 = [some v, some (.ref l), y] ∧ Same H H2 ∧ H2 l = some (.lst xs) ∧ ThAll K H2 xs ts ∧ nodesAll ts ≤ 100000 ∧ isT t = isTAll ts,
    fun σ2 H2 ⟨xs, ts, y, a, b, c, d, e, f, g⟩ => ⟨nodesAll ts, a, xs, ts, y, rfl, b, c, d, e, f, g⟩, ?_⟩
  have hlast : (xs' ++ [u])[(xs' ++ [u]).length - 1]? = some u := by
    rw [List.length_append, List.length_singleton, Nat.add_sub_cancel, List.getElem?_append_right (Nat.le_refl _), Nat.sub_self] <;> rfl
  refine ⟨_, rfl, .inl ⟨rfl, _, SqL.of hx⟩, l, _, u, rfl, rfl, hx, hlast, ?_⟩
  rw [List.dropLast_concat]
  have st : Stay K H' (upd H' l (.lst xs')) := stay_lst hx
  have hu1 := hu.stay st
  have hr1 := ThAll.stay st hr'
  have s1 : Same H (upd H' l (.lst xs')) := same_mut sm hl
  refine ⟨u, rfl, u, t', rfl, hu1, begT t', rfl, ?_⟩
  refine ite2 (fun c => ?_) (fun c => ?_)
  · obtain ⟨a, n, x, ys, rfl, hq, rfl, et', hnm, hl3, hr3⟩ := beg_tup hu1 c
    have el : 1 ≤ ((.str x : V) :: ys).length := by rw [List.length_cons]; omega
    refine ⟨_, rfl, .inl ⟨rfl, _, SqL.of upd_same⟩, _, rfl, 1, rfl, a, _, rfl, hq, cut_tail_ne _ el, fun p hp => ?_⟩
    rw [cut_tail]
    show ∃ _ : Addr, _
    have npl : l ≠ p := ne_of_none upd_same hp
    have hx2 : (upd (upd H' l (.lst xs')) p (.tup ys)) l = some (.lst xs') := by rw [upd_ne npl]; exact upd_same
    have hl4 := hr3.length
    have st2 : Stay K (upd H' l (.lst xs')) (upd (upd H' l (.lst xs')) p (.tup ys)) := stay_new hp _
    have st3 : Stay K (upd (upd H' l (.lst xs')) p (.tup ys)) (upd (upd (upd H' l (.lst xs')) p (.tup ys)) l (.lst (xs' ++ ys))) := stay_lst hx2
    have ea := args_nodes c
    have hl5 := length_le_nodes t'.args
    refine ⟨l, p, xs', ys, rfl, rfl, hx2, .inl (.inl upd_same), sz5 (by omega), ?_⟩
    refine ⟨xs' ++ ys, ts' ++ t'.args, _, ?_, rfl, ?_, upd_same, ((hr1.stay st2).stay st3).app ((hr3.stay st2).stay st3), ?_, ?_⟩
    · rw [nodesAll_app, en]; omega
    · exact same_mut (s1.trans (same_new hp _)) hl
    · rw [nodesAll_app]; omega
    · rw [ht, et, isTAll_app, isT_beg c]
  · have eb : begT t' = false := Bool.eq_false_iff.mpr c
    refine ⟨u, rfl, u, t', rfl, hu1, Tg.isL t', rfl, ?_⟩
    have e3 : isT t' = t'.isL := isT_nbeg eb
    refine ite2 (fun c2 => ?_) (fun c2 => ?_)
    · have c3 : t'.isL = false := by simpa using c2
      rw [ht, et, e3, c3, Bool.and_false] at q
      exact q _ s1
    · have c3 : t'.isL = true := by simpa using c2
      have hp1 := nodes_pos t'
      refine ⟨xs', ts', _, by omega, rfl, s1, upd_same, hr1, by omega, ?_⟩
      rw [ht, et, e3, c3, Bool.and_true]
end
end N

namespace N
open PySem PySem.Spec PyProof.Rows L2
section
variable {P : Program} {w : World} {K : PySem.W.Frag} {mg : Str → Option Value} {base : Heap}
def spCheck (K : PySem.W.Frag) (C : Addr) : Sp := fun vs H Q E => ∃ v t, vs = [v] ∧ Th K H v t ∧ t.nodes ≤ 100000 ∧ (isT t = true → ∀ H', Same H H' → Q .non H') ∧ (isT t = false → ∀ H', Same H H' → E (.ref C) none H')
theorem ok_check_type {C : Addr} (X : ExcAt K mg "NoType" C) (CT : Cal P w K mg base 3 "is_type" ["thing"] (spAsk K isT)) (D : DefAt K mg "check_type" s_check_type ["thing"]) : Cal P w K mg base 4 "check_type" ["thing"] (spCheck K C) := by
  refine D.cal sc_check_type (fun vs H Q E h => ?_) (fun f cdv A outer s H vs Q E hr h => ?_)
  · obtain ⟨v, t, rfl, _⟩ := h
    rfl
  obtain ⟨v, t, rfl, hT, hn, q1, q2⟩ := h
  refine ⟨_, pss_one (ps_if (pt_not (pt_val (pc CT hr rfl (pa_cons (pv 0) pa_nil)))) (pss_one (ps_raise rfl (takes_of rfl rfl rfl rfl) (pmk_own PySem.F.excBase_ValueError X.x X.g X.k (raises_own X.b X.t) rfl))) pss_nil), ?_⟩
  refine ⟨v, rfl, v, t, rfl, hT, hn, fun H' sm => ⟨_, rfl, ?_⟩⟩
  refine ite2 (fun c => ?_) (fun c => ?_)
  · exact q2 (by simpa using c) H' sm
  · exact q1 (by simpa using c) H' sm
end
end N

namespace N
open PySem PySem.Spec PyProof.Rows L2
section
variable {P : Program} {w : World} {K : PySem.W.Frag} {mg : Str → Option Value} {base : Heap}
def spParts (K : PySem.W.Frag) : Sp := fun vs H Q _ => ∃ (v : V) (k : Kd), vs = [v] ∧ Kp K H v k ∧ k.nds ≤ 100000 ∧
  ∀ p H' xs, Same H H' → H p = none → H' p = some (.lst xs) → Kps K H' xs k.parts → Q (.ref p) H'
theorem nds_flat : ∀ ks : List Kd, (ks.flatMap Kd.parts).length = (ks.map Kd.nds).sum
  | [] => rfl
  | k :: ks => by
    rw [List.flatMap_cons, List.length_append, Kd.nds_parts, nds_flat ks]
    rfl
theorem sum_ge_len : ∀ ks : List Kd, ks.length ≤ (ks.map Kd.nds).sum
  | [] => Nat.zero_le _
  | k :: ks => by
    have h1 := sum_ge_len ks
    have h2 := Kd.nds_pos k
    simp only [List.length_cons, List.map_cons, List.sum_cons]
    omega
theorem snoc_last {α : Type} (xs : List α) (u : α) : (xs ++ [u])[(xs ++ [u]).length - 1]? = some u := by
  rw [List.length_append, List.length_singleton, Nat.add_sub_cancel, List.getElem?_append_right (Nat.le_refl _), Nat.sub_self] <;> rfl
theorem snoc_ne {α : Type} (xs : List α) (u : α) : (!(xs ++ [u]).isEmpty) = true := by cases xs <;> rfl
theorem ok_parts (G : Glo mg) (D : DefAt K mg "parts" s_parts ["kind"]) : Cal P w K mg base 1 "parts" ["kind"] (spParts K) := by
  refine D.cal sc_parts (fun vs H Q E h => ?_) (fun f cdv A outer s H vs Q E hr h => ?_)
  · obtain ⟨v, k, rfl, _⟩ := h
    rfl
  obtain ⟨v, k, rfl, hT, hn, q⟩ := h
  refine ⟨_, pss_cons (ps_set (i := 1) sc_parts.nd rfl (Or.inl rfl) (pe_lst pa_nil)) (pss_cons (ps_set (i := 2) sc_parts.nd rfl (Or.inl rfl) (pe_lst (pa_cons (pv 0) pa_nil)))
    (pss_cons (ps_while (passes_of rfl) (pt_truth (pv 2) (by intro _; rfl))
      (pss_cons (ps_set (i := 3) sc_parts.nd rfl (Or.inl rfl) (pe_bm0 PySem.F.plainAttrs_list PySem.F.slot_list_pop PySem.F.type_list_pop mt_pop (pv 2)))
        (pss_cons (ps_expr (pe_bm PySem.F.plainAttrs_list PySem.F.slot_list_append PySem.F.type_list_append mt_append (pv 1) (pa_cons (pv 3) pa_nil)))
        (pss_one (ps_if (pt_val (pe_isi G.isinstance G.tuple b_tuple rfl rfl (pv 3)))
          (pss_one (ps_expr (pe_bm PySem.F.plainAttrs_list PySem.F.slot_list_extend PySem.F.type_list_extend mt_extendT (pv 2) (pa_cons (pe_backT (pv 3)) pa_nil))))
          pss_nil)))))
    (pss_one (ps_ret (pv 1))))), ?_⟩
  refine ⟨by show 0 ≤ sizeLine; decide, fun fo hfo => ?_⟩
  refine ⟨v, rfl, by show 1 ≤ sizeLine; decide, fun l hl => ?_⟩
  have nfl : fo ≠ l := ne_of_none upd_same hl
  have hl0 : H l = none := by rw [upd_ne nfl.symm] at hl; exact hl
  have s0 : Same H (upd (upd H fo (.lst [])) l (.lst [v])) := (same_new hfo _).trans (same_new hl _)
  refine ⟨fun m σ H' => ∃ fs done xs ks y, m = (ks.map Kd.nds).sum ∧ σ = [some v, some (.ref fo), some (.ref l), y] ∧ Same H H' ∧ H' fo = some (.lst fs) ∧ H' l = some (.lst xs) ∧ Kps K H' fs done ∧ Kps K H' xs ks ∧ k.parts = done ++ ks.reverse.flatMap Kd.parts,
    ⟨_, [], [], [v], [k], _, rfl, rfl, s0, by rw [upd_ne nfl]; exact upd_same, upd_same, .nil, .cons (hT.stay (stay_same s0)) .nil, by simp⟩, fun m σ H' hW => ?_⟩
  obtain ⟨fs, done, xs, ks, y, rfl, rfl, sm, hf, hx, hA, hB, he⟩ := hW
  refine ⟨_, rfl, _, .inl ⟨xs, SqL.of hx, rfl⟩, ?_⟩
  have hlen := Kps.length hB
  have hlf := Kps.length hA
  have hcount : done.length + (ks.map Kd.nds).sum = k.nds := by
    have := congrArg List.length he
    rw [Kd.nds_parts, List.length_append, nds_flat, List.map_reverse, List.sum_reverse] at this
    omega
  by_cases hne : ks = []
  · subst hne
    have e0 : xs = [] := List.length_eq_zero_iff.mp hlen
    subst e0
    refine iteF ⟨_, rfl, q fo H' fs sm hfo hf ?_⟩
    rw [he]
    simpa using hA
  obtain ⟨u, xs', k', ks', e1, e2, hu, hr'⟩ := Kps.snoc hB hne
  subst e1 e2
  refine iteE (snoc_ne _ _) ?_
  have en : ((ks' ++ [k']).map Kd.nds).sum = (ks'.map Kd.nds).sum + k'.nds := by rw [List.map_append, List.sum_append]; simp
  have hp1 := Kd.nds_pos k'
  have hge := sum_ge_len ks'
  have hl2 := Kps.length hr'
  refine ⟨fun σ2 H2 => ∃ fs done xs ks y, (ks.map Kd.nds).sum < ((ks' ++ [k']).map Kd.nds).sum ∧ σ2 = [some v, some (.ref fo), some (.ref l), y] ∧ Same H H2 ∧ H2 fo = some (.lst fs) ∧ H2 l = some (.lst xs) ∧ Kps K H2 fs done ∧ Kps K H2 xs ks ∧ k.parts = done ++ ks.reverse.flatMap Kd.parts,
    fun σ2 H2 ⟨fs, done, xs, ks, y, a, b, c, d, e, f, g, h⟩ => ⟨_, a, fs, done, xs, ks, y, rfl, b, c, d, e, f, g, h⟩, ?_⟩
  refine ⟨_, rfl, .inl ⟨rfl, _, SqL.of hx⟩, l, _, u, rfl, rfl, hx, snoc_last _ _, ?_⟩
  rw [List.dropLast_concat]
  have st : Stay K H' (upd H' l (.lst xs')) := stay_lst hx
  have hf1 : (upd H' l (.lst xs')) fo = some (.lst fs) := by rw [upd_ne nfl]; exact hf
  have st1 : Stay K (upd H' l (.lst xs')) (upd (upd H' l (.lst xs')) fo (.lst (fs ++ [u]))) := stay_lst hf1
  have st2 := st.trans st1
  have hl1 : (upd (upd H' l (.lst xs')) fo (.lst (fs ++ [u]))) l = some (.lst xs') := by rw [upd_ne nfl.symm]; exact upd_same
  refine ⟨_, rfl, .inl ⟨rfl, _, SqL.of hf1⟩, u, rfl, fo, fs, u, rfl, rfl, hf1, Nat.lt_of_le_of_lt (show fs.length ≤ 100000 by omega) (by decide), ?_⟩
  have s2 : Same H (upd (upd H' l (.lst xs')) fo (.lst (fs ++ [u]))) := same_mut (same_mut sm hl0) hfo
  have hu2 := hu.stay st2
  have hr2 : Kps K _ xs' ks' := ThAll.stay st2 hr'
  have hA2 : Kps K _ (fs ++ [u]) (done ++ [k']) := Kps.app (ThAll.stay st2 hA) (.cons hu2 .nil)
  refine ⟨u, rfl, isi_tup hu2 ⟨_, rfl, ?_⟩⟩
  rw [Kd.isTu_tg]
  have hen : k.parts = (done ++ [k']) ++ (ks' ++ k'.args.reverse).reverse.flatMap Kd.parts := by
    rw [he, List.reverse_append, List.reverse_append, List.reverse_reverse, List.flatMap_append, List.flatMap_append]
    simp only [List.reverse_singleton, List.flatMap_singleton, List.append_assoc]
    rw [Kd.parts_eq k']
    simp
  cases hc : k'.isC with
  | false =>
    refine iteF ⟨_, _, xs', ks', _, ?_, rfl, s2, upd_same, hl1, hA2, hr2, ?_⟩
    · omega
    · have ea : k'.args = [] := by cases k' <;> first | rfl | cases hc
      rw [ea] at hen
      simpa using hen
  | true =>
    obtain ⟨a, zs, rfl, hq, hx5, hz⟩ := kp_C hu2 hc
    have hzl := Kps.length hz
    have hal := Kd.args_len k'
    have han := Kd.args_nds k'
    have hgs := sum_ge_len k'.args
    refine iteT ⟨_, rfl, .inl ⟨rfl, _, SqL.of hl1⟩, _, rfl, a, _, rfl, hq, by simp, fun p hp => ?_⟩
    rw [show (V.str k'.nm :: zs).drop 1 = zs from rfl]
    have npl : l ≠ p := ne_of_none hl1 hp
    have npf : fo ≠ p := ne_of_none upd_same hp
    have hx2 : (upd (upd (upd H' l (.lst xs')) fo (.lst (fs ++ [.ref a]))) p (.tup zs.reverse)) l = some (.lst xs') := by rw [upd_ne npl]; exact hl1
    have st3 : Stay K (upd (upd H' l (.lst xs')) fo (.lst (fs ++ [.ref a]))) (upd (upd (upd H' l (.lst xs')) fo (.lst (fs ++ [.ref a]))) p (.tup zs.reverse)) := stay_new hp _
    have st4 : Stay K (upd (upd (upd H' l (.lst xs')) fo (.lst (fs ++ [.ref a]))) p (.tup zs.reverse)) (upd (upd (upd (upd H' l (.lst xs')) fo (.lst (fs ++ [.ref a]))) p (.tup zs.reverse)) l (.lst (xs' ++ zs.reverse))) := stay_lst hx2
    have st5 := st3.trans st4
    refine ⟨l, p, xs', zs.reverse, rfl, rfl, hx2, .inl (.inl upd_same), sz5 (by rw [List.length_reverse]; omega), ?_⟩
    refine ⟨fs ++ [.ref a], done ++ [k'], xs' ++ zs.reverse, ks' ++ k'.args.reverse, _, ?_, rfl, same_mut (s2.trans (same_new hp _)) hl0, ?_, upd_same, ThAll.stay st5 hA2, Kps.app (ThAll.stay st5 hr2) (Kps.rev (ThAll.stay st5 hz)), hen⟩
    · rw [en, List.map_append, List.sum_append, List.map_reverse, List.sum_reverse]
      omega
    · rw [upd_ne nfl, upd_ne npf]
      exact upd_same
end
end N

namespace N
open PySem PySem.Spec PyProof.Rows L2 StX LamX NdefX
/-! ### fill -/
abbrev Map := List (Str × Kd)
def look (m : Map) (c : Str) : Kd := match m.find? (fun p => decide (p.1 = c)) with
  | some p => p.2
  | none => .L c
def fillK (m : Map) : Kd → Kd
  | .L c => look m c
  | .C0 n => .C0 n
  | .C1 n a => .C1 n (fillK m a)
  | .C2 n a b => .C2 n (fillK m a) (fillK m b)
def mkN (n : Str) : List Kd → Kd
  | [] => .C0 n
  | [a] => .C1 n a
  | a :: b :: _ => .C2 n a b
def stepF (m : Map) (S : List Kd) (p : Kd) : Option (List Kd) :=
  match p with
  | .L c => some (S ++ [look m c])
  | p => if p.args.length ≤ S.length then some (S.take (S.length - p.args.length) ++ [mkN p.nm (S.drop (S.length - p.args.length)).reverse]) else none
theorem stepF_C {m : Map} {S : List Kd} {p : Kd} (h : p.isC = true) : stepF m S p = if p.args.length ≤ S.length then some (S.take (S.length - p.args.length) ++ [mkN p.nm (S.drop (S.length - p.args.length)).reverse]) else none := by
  cases p <;> first | rfl | cases h
theorem run_fill (m : Map) (k : Kd) : ∀ S : List Kd, k.parts.reverse.foldlM (stepF m) S = some (S ++ [fillK m k]) := by
  induction k with
  | L c => intro S; rfl
  | C0 n =>
    intro S
    show (stepF m S (.C0 n)).bind some = _
    simp [stepF, Kd.args, mkN, fillK, Kd.nm]
  | C1 n a ih =>
    intro S
    show (Kd.C1 n a :: a.parts).reverse.foldlM (stepF m) S = _
    rw [List.reverse_cons, List.foldlM_append, ih S]
    simp [stepF, Kd.args, mkN, fillK, Kd.nm, List.foldlM]
  | C2 n a b ih1 ih2 =>
    intro S
    show (Kd.C2 n a b :: (a.parts ++ b.parts)).reverse.foldlM (stepF m) S = _
    rw [List.reverse_cons, List.reverse_append, List.foldlM_append, List.foldlM_append, ih2 S]
    show ((Option.bind (some (S ++ [fillK m b])) fun S' => a.parts.reverse.foldlM (stepF m) S').bind fun s' => [Kd.C2 n a b].foldlM (stepF m) s') = _
    show (a.parts.reverse.foldlM (stepF m) (S ++ [fillK m b])).bind _ = _
    rw [ih1 (S ++ [fillK m b])]
    simp [stepF, Kd.args, mkN, fillK, Kd.nm, List.foldlM]
theorem foldlM_take {α β : Type} {f : β → α → Option β} {l : List α} {b r : β} (h : l.foldlM f b = some r) (i : Nat) (x : α) (hx : l[i]? = some x) : ∃ s s', (l.take i).foldlM f b = some s ∧ f s x = some s' ∧ (l.take (i + 1)).foldlM f b = some s' := by
  have e : l = l.take (i + 1) ++ l.drop (i + 1) := (List.take_append_drop _ _).symm
  have e2 : l.take (i + 1) = l.take i ++ [x] := take_snoc hx
  rw [e, List.foldlM_append] at h
  cases q : (l.take (i + 1)).foldlM f b with
  | none => rw [q] at h; cases h
  | some s' =>
    rw [e2, List.foldlM_append] at q
    cases q2 : (l.take i).foldlM f b with
    | none => rw [q2] at q; cases q
    | some s =>
      rw [q2] at q
      refine ⟨s, s', rfl, ?_, rfl⟩
      have : (f s x).bind some = some s' := q
      cases q3 : f s x with
      | none => rw [q3] at this; cases this
      | some z => rw [q3] at this; exact this
section
variable {P : Program} {w : World} {K : PySem.W.Frag} {mg : Str → Option Value} {base : Heap}
def Held (K : PySem.W.Frag) (H : Hp) (d : Addr) (m : Map) : Prop := ∃ kvs, H d = some (.dK kvs) ∧ Paired (fun (p : Key × V) (q : Str × Kd) => p.1 = Sum.inr q.1 ∧ Kp K H p.2 q.2) kvs m
theorem Held.stay {H H' : Hp} {d : Addr} {m : Map} (sm : Same H H') (h : Held K H d m) : Held K H' d m := by
  obtain ⟨kvs, e, r⟩ := h
  exact ⟨kvs, sm _ _ e, Paired.mapP r fun p q z => ⟨z.1, z.2.stay (stay_same sm)⟩⟩
theorem held_look {H : Hp} : ∀ {kvs : List (Key × V)} {m : Map} {c : Str}, Paired (fun (p : Key × V) (q : Str × Kd) => p.1 = Sum.inr q.1 ∧ Kp K H p.2 q.2) kvs m → c.length ≤ 100000 → Kp K H ((valV kvs (Sum.inr c)).getD (.str c)) (look m c)
  | _, _, c, .nil, hc => by
    show Th K H (.str c) (.str c)
    exact .str c hc
  | _, _, c, .cons (a := p) (b := q) (l₁ := kvs) (l₂ := m) r t, hc => by
    have ih := held_look t hc
    by_cases e : q.1 = c
    · have e2 : p.1 = Sum.inr c := by rw [r.1, e]
      rw [valV_pos e2]
      have e3 : look (q :: m) c = q.2 := by
        unfold look
        rw [List.find?_cons_of_pos (by simpa using e)]
      rw [e3]
      exact r.2
    · have e2 : ¬ p.1 = Sum.inr c := fun z => e (Sum.inr.inj (r.1.symm.trans z))
      rw [valV_neg e2]
      have e3 : look (q :: m) c = look m c := by
        unfold look
        rw [List.find?_cons_of_neg (by simpa using e)]
      rw [e3]
      exact ih
theorem mkN_nm (n : Str) : ∀ ks : List Kd, (mkN n ks).nm = n ∧ (mkN n ks).isC = true
  | [] => ⟨rfl, rfl⟩
  | [_] => ⟨rfl, rfl⟩
  | _ :: _ :: _ => ⟨rfl, rfl⟩
theorem mkN_args (n : Str) : ∀ ks : List Kd, ks.length ≤ 2 → (mkN n ks).args = ks
  | [], _ => rfl
  | [_], _ => rfl
  | [_, _], _ => rfl
  | _ :: _ :: _ :: _, h => by simp at h
theorem step_len {m : Map} {S S' : List Kd} {p : Kd} (h : stepF m S p = some S') : S'.length ≤ S.length + 1 := by
  cases hc : p.isC with
  | false =>
    obtain ⟨e, _⟩ := Kd.tg_L hc
    rw [e] at h
    have e2 : S ++ [look m p.nm] = S' := Option.some.inj h
    rw [← e2, List.length_append, List.length_singleton]
    omega
  | true =>
    rw [stepF_C hc] at h
    split at h
    · have e2 := Option.some.inj h
      rw [← e2, List.length_append, List.length_singleton, List.length_take]
      omega
    · cases h
theorem pop_take {α : Type} {l : List α} {j : Nat} (h : j < l.length) : (l.take (l.length - j))[(l.take (l.length - j)).length - 1]? = some l[l.length - j - 1] ∧ (l.take (l.length - j)).dropLast = l.take (l.length - (j + 1)) ∧
    (l.drop (l.length - j)).reverse ++ [l[l.length - j - 1]] = (l.drop (l.length - (j + 1))).reverse := by
  have e0 : (l.take (l.length - j)).length = l.length - j := by rw [List.length_take]; omega
  refine ⟨?_, ?_, ?_⟩
  · rw [e0, List.getElem?_take, if_pos (by omega), List.getElem?_eq_getElem (by omega)]
  · rw [List.dropLast_eq_take, e0, List.take_take]
    congr 1
    omega
  · have e1 : l.drop (l.length - (j + 1)) = l[l.length - j - 1] :: l.drop (l.length - j) := by
      have h1 : l.length - (j + 1) = l.length - j - 1 := by omega
      have h3 := List.drop_eq_getElem_cons (l := l) (i := l.length - j - 1) (by omega)
      rw [show l.length - j - 1 + 1 = l.length - j by omega] at h3
      rw [h1]
      exact h3
    rw [e1, List.reverse_cons]
theorem Kps.take {H : Hp} : ∀ {vs : List V} {ks : List Kd} (n : Nat), Kps K H vs ks → Kps K H (vs.take n) (ks.take n)
  | _, _, 0, _ => .nil
  | _, [], n + 1, .nil => .nil
  | _, k :: ks, n + 1, .cons r t => .cons r (Kps.take (ks := ks) n t)
theorem Kps.drop {H : Hp} : ∀ {vs : List V} {ks : List Kd} (n : Nat), Kps K H vs ks → Kps K H (vs.drop n) (ks.drop n)
  | _, _, 0, h => h
  | _, [], n + 1, .nil => .nil
  | _, k :: ks, n + 1, .cons r t => Kps.drop (ks := ks) n t
/-! ### folded, over a letter's value and a class's making -/
/-- what the first lambda does, d holding the map m -/
def lamLet (K : PySem.W.Frag) (d : Addr) (m : Map) : List V → Hp → VK → Prop := fun vs H Q => ∃ c : Str, vs = [.str c] ∧ c.length ≤ 100000 ∧ Held K H d m ∧ ∀ u, Kp K H u (look m c) → Q u H
/-- what the second one does -/
def lamCls (K : PySem.W.Frag) : List V → Hp → VK → Prop := fun vs H Q => ∃ (n : Str) (D : Addr) (xs : List V), vs = [.str n, .ref D] ∧ SqL K H D xs ∧ xs.length ≤ 1000 ∧ ∀ t, H t = none → Q (.ref t) (upd H t (.tup (.str n :: xs)))
structure FoldRR (P : Program) (w : World) (K : PySem.W.Frag) (mg : Str → Option Value) (base : Heap) (h : Heap) (v : V) (f1 f2 d : Addr) (k : Kd) (m : Map) (H : Hp) : Prop where
  a1 : ActL P w K mg base f1 h H (lamLet K d m)
  a2 : ActL P w K mg base f2 h H (lamCls K)
  kp : Kp K H v k
  nd : k.nds ≤ 100000
  hd : Held K H d m
theorem folded_body (G : Glo mg) (CP : Cal P w K mg base 1 "parts" ["kind"] (spParts K)) {g : Addr} {cdv : Value} {A : Around} {outer : List Env} {s : Shared} {H : Hp} {Q : VK} (hr : RoomG 1 (A.deeper (envOfC "folded" (defScope s_folded) s.heap.objs.size g cdv)))
    {v : V} {f1 f2 d : Addr} {k : Kd} {m : Map} (R : FoldRR P w K mg base s.heap v f1 f2 d k m H) (q : ∀ H' u, Same H H' → Kp K H' u (fillK m k) → Q u H') :
    ∃ t, PSs (cxOf (L2.CX P w) P w K mg base nm_folded "folded" (defScope s_folded) g cdv A outer s H E0) (defBody s_folded) t ∧ t { nx := fun _ H' => Q .non H', rt := Q } (L2.start nm_folded [v, .ref f1, .ref f2]) H := by
  obtain ⟨a1, a2, hT, hn, hd⟩ := R
  refine ⟨_, pss_cons (ps_set (i := 3) sc_folded.nd rfl (Or.inr rfl) (pe_lst pa_nil))
    (pss_cons (ps_for (passes_of rfl) rfl (pi_list (pe_revL (pc CP hr rfl (pa_cons (pv 0) pa_nil)))) (pg_name (i := 4) sc_folded.nd rfl (Or.inl rfl))
      (pss_one (ps_if (pt_val (pe_isi G.isinstance G.str b_str rfl rfl (pv 4)))
        (pss_one (ps_expr (pe_bm PySem.F.plainAttrs_list PySem.F.slot_list_append PySem.F.type_list_append mt_append (pv 3) (pa_cons (pe_actS (i := 1) a1 hr rfl rfl (.inl rfl) (pa_cons (pv 4) pa_nil)) pa_nil))))
        (pss_cons (ps_setLc (i := 5) (own := [("_", 6)]) (te := tBM0 K "list" rPop (tVar 3)) (by rfl) sc_folded.nd rfl rfl (sw_true rfl rfl rfl (by decide +kernel)) (pi_tup (pe_slice sl_tup (pv 4) (po_some pe_int) po_none)) (blkOk_by (N := nm_folded) (sc := defScope s_folded) (own := [("_", 6)]) (by decide +kernel))
            (fun _ _ _ _ _ => pg_name (i := 6) sc_folded.nd rfl (Or.inl rfl)) (fun _ _ _ _ _ => pts_nil) (fun _ _ _ _ _ => pe_bm0 PySem.F.plainAttrs_list PySem.F.slot_list_pop PySem.F.type_list_pop mt_pop (pv 3)))
          (pss_one (ps_expr (pe_bm PySem.F.plainAttrs_list PySem.F.slot_list_append PySem.F.type_list_append mt_append (pv 3) (pa_cons (pe_actS (i := 2) a2 hr rfl rfl (.inl rfl) (pa_cons (pe_ix ix_tup (pv 4) pe_int (fun _ _ => rfl)) (pa_cons (pv 5) pa_nil))) pa_nil))))))))
    (pss_one (ps_ret (pe_bm0 PySem.F.plainAttrs_list PySem.F.slot_list_pop PySem.F.type_list_pop mt_pop (pv 3))))), ?_⟩
  refine ⟨by show 0 ≤ sizeLine; decide, fun dn hdn => ?_⟩
  have s0 : Same H (upd H dn (.lst [])) := same_new hdn _
  refine ⟨v, rfl, v, k, rfl, hT.stay (stay_same s0), hn, fun p H1 xs sm1 hp hx hk => ?_⟩
  refine ⟨p, xs, rfl, SqL.of hx, fun p2 hp2 => ?_⟩
  have sm2 : Same H (upd H1 p2 (.lst xs.reverse)) := s0.trans (sm1.trans (same_new hp2 _))
  have hdn1 : (upd H1 p2 (.lst xs.reverse)) dn = some (.lst []) := (sm1.trans (same_new hp2 _)) _ _ upd_same
  have nd2 : dn ≠ p2 := ne_of_none (sm1 _ _ upd_same) hp2
  have hk2 : Kps K (upd H1 p2 (.lst xs.reverse)) xs.reverse k.parts.reverse := Kps.rev (ThAll.stay (stay_new hp2 _) hk)
  have htot := run_fill m k []
  refine ⟨p2, rfl, ⟨xs.reverse, SqL.of upd_same⟩, for_list (K := K) (a := p2) (xs := xs.reverse) (fun i σ H' => ∃ ss S y3 y4 y5, σ = [some v, some (.ref f1), some (.ref f2), some (.ref dn), y3, y4, y5] ∧ Same H H' ∧ Stay K (upd H1 p2 (.lst xs.reverse)) H' ∧ H' p2 = some (.lst xs.reverse) ∧ H' dn = some (.lst ss) ∧ Kps K H' ss S ∧ (k.parts.reverse.take i).foldlM (stepF m) [] = some S ∧ S.length ≤ i)
    ⟨[], [], _, _, _, rfl, sm2, Stay.refl _, upd_same, hdn1, .nil, rfl, Nat.le_refl _⟩ (fun i σ H' _ ⟨ss, S, y3, y4, y5, _, _, _, h, _⟩ => SqL.of h) (fun i x σ H' hxi ⟨ss, S, y3, y4, y5, eσ, sm, st, hp2', hdn', hS, hrun, hlen⟩ => ?_) (fun σ H' ⟨ss, S, y3, y4, y5, eσ, sm, st, hp2', hdn', hS, hrun, hlen⟩ => ?_)⟩
  · subst eσ
    obtain ⟨k', hk1, hk3⟩ := Kps.at hk2 hxi
    have hx3 := hk3.stay st
    obtain ⟨S0, S', e1, e2, e3⟩ := foldlM_take htot i k' hk1
    rw [hrun] at e1
    cases e1
    have hsl := step_len e2
    have hlS := Kps.length hS
    have hil : i < k.parts.reverse.length := (List.getElem?_eq_some_iff.mp hk1).1
    rw [List.length_reverse, Kd.nds_parts] at hil
    refine ⟨x, rfl, isi_str hx3 ⟨_, rfl, ?_⟩⟩
    rw [Kd.isS_tg]
    cases hc : k'.isC with
    | false =>
      obtain ⟨ex, hcl⟩ := kp_L hx3 hc
      subst ex
      have eS : S' = S ++ [look m k'.nm] := by
        obtain ⟨e4, _⟩ := Kd.tg_L hc
        rw [e4] at e2
        exact (Option.some.inj e2).symm
      refine iteT ⟨_, rfl, .inl ⟨rfl, _, SqL.of hdn'⟩, rfl, sm, _, rfl, sm, k'.nm, rfl, hcl, hd.stay sm, fun u hlk => ?_⟩
      refine ⟨dn, ss, _, rfl, rfl, hdn', Nat.lt_of_le_of_lt (show ss.length ≤ 100000 by omega) (by decide), ?_⟩
      refine ⟨_, S', _, _, _, rfl, same_mut sm hdn, st.trans (stay_lst hdn'), by rw [upd_ne nd2.symm]; exact hp2', upd_same, ?_, e3, by omega⟩
      rw [eS]
      exact Kps.app (ThAll.stay (stay_lst hdn') hS) (.cons (hlk.stay (stay_lst hdn')) .nil)
    | true =>
      rw [stepF_C hc] at e2
      split at e2
      case isFalse => cases e2
      rename_i hle
      have eS := (Option.some.inj e2).symm
      obtain ⟨a, zs, ea, hq, hnl, hz⟩ := kp_C hx3 hc
      subst ea
      have hzl := Kps.length hz
      have hal := Kd.args_len k'
      refine iteF ⟨_, rfl, 1, rfl, a, _, rfl, hq, cut_tail_ne _ (by simp), fun pz hpz => ?_⟩
      rw [cut_tail]
      show ∃ _ : Addr, _
      have ndz : dn ≠ pz := ne_of_none hdn' hpz
      have npz : p2 ≠ pz := ne_of_none hp2' hpz
      refine ⟨pz, rfl, ⟨zs, .inl (.inl upd_same)⟩, fun Dl hDl => ?_⟩
      have nzD : pz ≠ Dl := ne_of_none upd_same hDl
      have ndD : dn ≠ Dl := ne_of_none (show (upd H' pz (.tup zs)) dn = some (.lst ss) by rw [upd_ne ndz]; exact hdn') hDl
      have npD : p2 ≠ Dl := ne_of_none (show (upd H' pz (.tup zs)) p2 = some (.lst xs.reverse) by rw [upd_ne npz]; exact hp2') hDl
      refine lc_tup (K := K) (a := pz) (xs := zs) (fun j H2 => Same H H2 ∧ Stay K H' H2 ∧ H2 p2 = some (.lst xs.reverse) ∧ H2 pz = some (.tup zs) ∧ H2 dn = some (.lst (ss.take (ss.length - j))) ∧ H2 Dl = some (.lst (ss.drop (ss.length - j)).reverse))
        ⟨sm.trans ((same_new hpz _).trans (same_new hDl _)), (stay_new hpz _).trans (stay_new hDl _), by rw [upd_ne npD, upd_ne npz]; exact hp2', by rw [upd_ne nzD]; exact upd_same, by rw [upd_ne ndD, upd_ne ndz, Nat.sub_zero, List.take_length]; exact hdn', by rw [Nat.sub_zero, List.drop_length]; exact upd_same⟩
        (fun j H2 _ ⟨_, _, _, h, _⟩ => .inl (.inl h)) (fun j y H2 hy ⟨g1, g2, g3, g4, g5, g6⟩ => ?_) (fun H2 ⟨g1, g2, g3, g4, g5, g6⟩ => ?_)
      · have hj : j < zs.length := (List.getElem?_eq_some_iff.mp hy).1
        have hjs : j < ss.length := by omega
        obtain ⟨t1, t2, t3⟩ := pop_take hjs
        refine ⟨rfl, _, rfl, .inl ⟨rfl, _, SqL.of g5⟩, dn, _, _, rfl, rfl, g5, t1, ?_⟩
        rw [t2]
        have g6' : (upd H2 dn (.lst (ss.take (ss.length - (j + 1))))) Dl = some (.lst (ss.drop (ss.length - j)).reverse) := by rw [upd_ne ndD.symm]; exact g6
        refine ⟨_, g6', ?_, same_mut (same_mut g1 hdn) ?_, g2.trans ((stay_lst g5).trans (stay_lst g6')), ?_, ?_, ?_, ?_⟩
        · rw [List.length_reverse, List.length_drop]
          exact Nat.lt_of_le_of_lt (show _ ≤ 100000 by omega) (by decide)
        · exact sm.free (by have := hDl; rw [upd_ne nzD.symm] at this; exact this)
        · rw [upd_ne npD, upd_ne nd2.symm]; exact g3
        · rw [upd_ne nzD, upd_ne ndz.symm]; exact g4
        · rw [upd_ne ndD]; exact upd_same
        · rw [t3]; exact upd_same
      · have hzr : zs.length = k'.args.length := hzl
        rw [hzr] at g5 g6
        have hhead := g2.tup _ _ hq
        refine ⟨_, rfl, .inl ⟨rfl, _, SqL.of g5⟩, rfl, g1, _, rfl, a, _, 0, .str k'.nm, rfl, rfl, hhead, atI_nat (j := 0) rfl, _, rfl, g1, k'.nm, Dl, _, rfl, SqL.of g6, ?_, fun t ht => ?_⟩
        · rw [List.length_reverse, List.length_drop]
          omega
        have ndt : dn ≠ t := ne_of_none g5 ht
        have npt : p2 ≠ t := ne_of_none g3 ht
        have g5t : (upd H2 t (.tup (.str k'.nm :: (ss.drop (ss.length - k'.args.length)).reverse))) dn = some (.lst (ss.take (ss.length - k'.args.length))) := by rw [upd_ne ndt]; exact g5
        refine ⟨dn, _, .ref t, rfl, rfl, g5t, ?_, ?_⟩
        · rw [List.length_take]
          exact Nat.lt_of_le_of_lt (show _ ≤ 100000 by omega) (by decide)
        have stt : Stay K H' (upd (upd H2 t (.tup (.str k'.nm :: (ss.drop (ss.length - k'.args.length)).reverse))) dn (.lst (ss.take (ss.length - k'.args.length) ++ [.ref t]))) := g2.trans ((stay_new ht _).trans (stay_lst g5t))
        refine ⟨_, S', _, _, _, rfl, same_mut (g1.trans (same_new ht _)) hdn, st.trans stt, ?_, upd_same, ?_, e3, by omega⟩
        · rw [upd_ne nd2.symm, upd_ne npt]; exact g3
        · rw [eS]
          have hSt : Kps K _ ss S := ThAll.stay stt hS
          have ht1 := Kps.take (ss.length - k'.args.length) hSt
          have ht2 := Kps.rev (Kps.drop (ss.length - k'.args.length) hSt)
          rw [hlS] at ht1 ht2 ⊢
          refine Kps.app ht1 (.cons ?_ .nil)
          have hrl : (S.drop (S.length - k'.args.length)).reverse.length = k'.args.length := by rw [List.length_reverse, List.length_drop]; omega
          refine kp_mk (xs := (ss.drop (S.length - k'.args.length)).reverse) (mkN_nm _ _).2 ?_ ?_ ?_
          · rw [(mkN_nm _ _).1]
            refine .inl (.inl ?_)
            rw [upd_ne ndt.symm]
            exact upd_same
          · rw [(mkN_nm _ _).1]
            exact hnl
          · rw [mkN_args _ _ (by omega)]
            exact ht2
  · subst eσ
    have e : k.parts.reverse.take xs.reverse.length = k.parts.reverse := List.take_of_length_le (by rw [← Kps.length hk2]; exact Nat.le_refl _)
    rw [e, htot] at hrun
    have eS := Option.some.inj hrun
    rw [List.nil_append] at eS
    subst eS
    have hl1 := Kps.length hS
    match ss, hl1, hS, hdn' with
    | [u], _, hS, hdn' =>
      refine ⟨_, rfl, .inl ⟨rfl, _, SqL.of hdn'⟩, dn, _, u, rfl, rfl, hdn', rfl, ?_⟩
      cases hS with
      | cons hu _ => exact q _ u (same_mut sm hdn) (hu.stay (stay_lst hdn'))
end
end N

namespace N
open PySem PySem.Spec PyProof.Rows L2 StX LamX NdefX
/-! ### filled, with its lambdas -/
def tq : Str := ("filled" : Str) ++ ".<locals>." ++ "<lambda>"
/-- the two lambdas of filled: parameters, expression, names -/
def lamsOf (b : List Stmt) (o : Arguments × Expr × Scope) : (Arguments × Expr × Scope) × (Arguments × Expr × Scope) := match b with
  | [.Return (some (.Call _ [_, .Lambda a1 b1 s1 _, .Lambda a2 b2 s2 _] _ _)) _] => ((a1, b1, s1), (a2, b2, s2))
  | _ => (o, o)
def lams : (Arguments × Expr × Scope) × (Arguments × Expr × Scope) := lamsOf (defBody s_filled) (defArgs s_filled, .Name "x" ⟨0, 0, 0, 0⟩, defScope s_filled)
theorem sc_lam1 : NScope ["letter", "values"] ["letter"] ["values"] lams.1.2.2 := nscope_by (by decide +kernel)
theorem sc_lam2 : NScope ["name", "arguments"] ["name", "arguments"] [] lams.2.2.2 := nscope_by (by decide +kernel)
theorem fre1 : ∀ y ∈ lams.1.2.2.names, y.2 = .free → (defScope s_filled).names.lookup y.1 = some .cell ∨ (defScope s_filled).names.lookup y.1 = some .free := ndef_free (fr := []) (by decide +kernel)
theorem fre2 : ∀ y ∈ lams.2.2.2.names, y.2 = .free → (defScope s_filled).names.lookup y.1 = some .cell ∨ (defScope s_filled).names.lookup y.1 = some .free := ndef_free (fr := []) (by decide +kernel)
section
variable {P : Program} {w : World} {K : PySem.W.Frag} {mg : Str → Option Value} {base : Heap}
theorem act_let {F : NF} {f d : Addr} {m : Map} {h : Heap} {H : Hp} (eF : F.params = lams.1.1 ∧ F.scope = lams.1.2.2) (C : CellsAt F.cl ["values"] [some (V.ref d)] h H) (h1 : H f = some (LamO f F lams.1.2.1)) (h2 : H F.c = some (CodeO F.c F.qual)) : ActL P w K mg base f h H (lamLet K d m) := by
  obtain ⟨name, qual, params, fb, scope, cl, c⟩ := F
  obtain ⟨rfl, rfl⟩ := eF
  refine ⟨_, lams.1.2.1, _, _, _, _, _, sc_lam1, fun pm ctv us hl => match us, hl with | [_], _ => rfl, fun A outer s H hr => pe_dget2 (hug hr) (pe_var (x := "values") (i := 1) rfl (.inr (.inr rfl))) (pe_var (x := "letter") (i := 0) rfl (.inl rfl)) (pe_var (x := "letter") (i := 0) rfl (.inl rfl)) ⟨rfl, rfl, rfl, rfl⟩, C, h1, h2, fun vs H' Q z => ?_⟩
  obtain ⟨x, rfl, hx, ⟨kvs, hkv, hpr⟩, q⟩ := z
  exact ⟨rfl, _, rfl, d, rfl, .inl ⟨kvs, .inl hkv⟩, _, rfl, _, rfl, _, DGet.k (k := Sum.inr x) hkv, q _ (held_look hpr hx)⟩
theorem act_cls {F : NF} {f : Addr} {h : Heap} {H : Hp} (eF : F.params = lams.2.1 ∧ F.scope = lams.2.2.2) (C : CellsAt F.cl [] [] h H) (h1 : H f = some (LamO f F lams.2.2.1)) (h2 : H F.c = some (CodeO F.c F.qual)) : ActL P w K mg base f h H (lamCls K) := by
  obtain ⟨name, qual, params, fb, scope, cl, c⟩ := F
  obtain ⟨rfl, rfl⟩ := eF
  refine ⟨_, lams.2.2.1, _, _, _, _, tTup (tCons (tVar 0) (tStar K (tVar 1) tNil)), sc_lam2, fun pm ctv us hl => match us, hl with | [_, _], _ => rfl, fun A outer s H hr => by exact pe_tup (pa_cons (pv 0) (pa_star (pv 1) pa_nil)), C, h1, h2, fun vs H' Q z => ?_⟩
  obtain ⟨n, D, xs, rfl, hS, hl, q⟩ := z
  refine ⟨rfl, _, rfl, _, rfl, D, xs, rfl, .inr hS, ?_, fun t ht => ?_⟩
  · rw [List.append_nil, List.length_cons]
    exact Nat.le_trans (show _ ≤ 100000 by omega) (by decide)
  · rw [List.append_nil]
    exact q t ht
theorem ext_stay {H H' : Hp} (e : ExtN H H') : Stay K H H' where
  tup := fun a xs q => by
    rcases q with (q | ⟨o', q⟩) | q
    · exact .inl (.inl (e _ _ q (fun ps z => by cases z)))
    · exact .inl (.inr ⟨o', e _ _ q (fun ps z => by cases z)⟩)
    · exact .inr q
  ty := fun v t q => by
    cases q with
    | base b =>
      cases b with
      | non => exact .base .non
      | bl x => exact .base (.bl x)
      | int i => exact .base (.int i)
      | str x => exact .base (.str x)
      | flt x => exact .base (.flt x)
      | lst z => exact .base (.lst (e _ _ z (fun ps y => by cases y)))
      | frz z => exact .base (.frz (e _ _ z (fun ps y => by cases y)))
      | tup z => exact .base (.tup (e _ _ z (fun ps y => by cases y)))
      | dK z => exact .base (.dK (e _ _ z (fun ps y => by cases y)))
      | dT z => exact .base (.dT (e _ _ z (fun ps y => by cases y)))
      | ins z cl ha hn htk hm => exact .base (.ins (e _ _ z (fun ps y => by cases y)) cl ha hn htk hm)
    | byt b => exact .byt b
    | set z => exact .set (e _ _ z (fun ps y => by cases y))
    | kList z c => exact .kList z c
    | kTuple z c => exact .kTuple z c
    | kDict z c => exact .kDict z c
    | fTuple z => exact .fTuple (e _ _ z (fun ps y => by cases y))
    | fDict z => exact .fDict (e _ _ z (fun ps y => by cases y))
/-- all but the tables stays, and nothing that was tracked is gone -/
structure Gro (H H' : Hp) : Prop where
  e : ExtN H H'
  n : ∀ b, H' b = none → H b = none
theorem Gro.of {H H' : Hp} (s : Same H H') : Gro H H' := ⟨ExtN.of s, fun b z => s.free z⟩
theorem Gro.trans {H H1 H2 : Hp} (a : Gro H H1) (b : Gro H1 H2) : Gro H H2 := ⟨a.e.trans b.e, fun x z => a.n x (b.n x z)⟩
theorem Gro.refl (H : Hp) : Gro H H := ⟨ExtN.refl H, fun _ z => z⟩
theorem Gro.stay {H H' : Hp} (g : Gro H H') : Stay K H H' := ext_stay g.e
theorem Gro.seq {H H' : Hp} {a : Addr} {xs : List V} (g : Gro H H') (h : SqL K H a xs) : SqL K H' a xs := by
  rcases h with (h | ⟨o, h⟩) | h
  · exact .inl (.inl (g.e _ _ h (fun ps z => by cases z)))
  · exact .inl (.inr ⟨o, g.e _ _ h (fun ps z => by cases z)⟩)
  · exact .inr h
theorem Held.ext {H H' : Hp} {d : Addr} {m : Map} (e : ExtN H H') (h : Held K H d m) : Held K H' d m := by
  obtain ⟨kvs, z, r⟩ := h
  exact ⟨kvs, e _ _ z (fun ps y => by cases y), Paired.mapP r fun p q y => ⟨y.1, y.2.stay (ext_stay e)⟩⟩
def spFilledT (K : PySem.W.Frag) (Pt : Addr) : Sp := fun vs H Q _ => ∃ (v : V) (d : Addr) (k : Kd) (m : Map), vs = [v, .ref d] ∧ Kp K H v k ∧ k.nds ≤ 100000 ∧ Held K H d m ∧ TabS H Pt tq ∧ ∀ H' u, Gro H H' → TabS H' Pt tq → Kp K H' u (fillK m k) → Q u H'
theorem ok_filledT {c Pt : Addr} (G : Glo mg) (TB : TabB base mg c Pt) (CP : Cal P w K mg base 1 "parts" ["kind"] (spParts K)) (DF : DefAt K mg "folded" s_folded ["kind", "of_letter", "of_class"]) (D : DefAtC K mg "filled" s_filled ["kind", "values"] c) : Cal P w K mg base 3 "filled" ["kind", "values"] (spFilledT K Pt) := by
  refine D.cal sc_filled (fun vs H Q E h => ?_) (fun f A outer s H vs Q E hr h => ?_)
  · obtain ⟨v, d, k, m, rfl, _⟩ := h
    rfl
  obtain ⟨v, d, k, m, rfl, hT, hn, hd, ht, q⟩ := h
  refine ⟨_, pss_one (ps_ret (pe_callH (k := 1) (RR := fun σ vs H1 Q1 => ∃ (f1 c1 f2 c2 : Addr), vs = [v, .ref f1, .ref f2] ∧ slotAt σ 1 = some (.ref d) ∧
      H1 f1 = some (LamO f1 (lamF tq lams.1.1 lams.1.2.2 (cloFrom (envOfC "filled" (defScope s_filled) s.heap.objs.size f (.ref c)).cells lams.1.2.2.names []) c1) lams.1.2.1) ∧ H1 c1 = some (CodeO c1 tq) ∧
      H1 f2 = some (LamO f2 (lamF tq lams.2.1 lams.2.2.2 (cloFrom (envOfC "filled" (defScope s_filled) s.heap.objs.size f (.ref c)).cells lams.2.2.2.names []) c2) lams.2.2.1) ∧ H1 c2 = some (CodeO c2 tq) ∧
      Kp K H1 v k ∧ Held K H1 d m ∧ ∀ H' u, Same H1 H' → Kp K H' u (fillK m k) → Q1 u H') DF sc_folded hr rfl (pa_cons (pv 0) (pa_cons (pe_lamT TB rfl rfl fre1) (pa_cons (pe_lamT TB rfl rfl fre2) pa_nil)))
      (fun σ vs H1 Q1 z => by obtain ⟨f1, c1, f2, c2, rfl, _⟩ := z; rfl)
      (fun g cdv pins s1 σ H1 vs Q1 J hr1 z => ?_))), ?_⟩
  · obtain ⟨f1, c1, f2, c2, rfl, hsl, x1, x2, x3, x4, x5, x6, q1⟩ := z
    refine folded_body G CP hr1 (d := d) (m := m) (k := k) ⟨act_let (F := lamF tq lams.1.1 lams.1.2.2 _ c1) ⟨rfl, rfl⟩ ?_ x1 x2, act_cls (F := lamF tq lams.2.1 lams.2.2.2 _ c2) ⟨rfl, rfl⟩ ?_ x3 x4, x5, hn, x6⟩ q1
    · have C := cells_of (js := [1]) (fr := ["values"]) J (Caps.made (scope := lams.1.2.2) J.ok fre1 (by decide +kernel) rfl)
      have e : ([1] : List Nat).map (slotAt σ) = [some (V.ref d)] := by rw [← hsl]; rfl
      rw [e] at C
      exact C
    · exact cells_of (js := []) (fr := []) J (Caps.made (scope := lams.2.2.2) J.ok fre2 (by decide +kernel) rfl)
  · refine ⟨v, rfl, ht, fun f1 c1 H1 e1 t1 n1 z1 y1 k1 => ⟨t1, fun f2 c2 H2 e2 t2 n2 z2 y2 k2 => ?_⟩⟩
    have e12 := e1.trans e2
    have n12 : ∀ b, H2 b = none → H b = none := fun b z => n1 b (n2 b z)
    refine ⟨f1, c1, f2, c2, rfl, rfl, e2 _ _ y1 lamO_ne, e2 _ _ k1 codeO_ne, y2, k2, hT.stay (ext_stay e12), hd.ext e12, fun H' u sm hu => ?_⟩
    exact q H' u (Gro.trans ⟨e12, n12⟩ (Gro.of sm)) (t2.ext sm) hu
end
end N

namespace N
open PySem PySem.Spec PyProof.Rows L2 StX LamX NdefX
section
variable {P : Program} {w : World} {K : PySem.W.Frag} {mg : Str → Option Value} {base : Heap}
theorem stay_frz {H : Hp} {d : Addr} {o : Obj} {kvs : List (Key × V)} (h : H d = some (.dK kvs)) : Stay K H (upd H d (.frz o (.dK kvs))) where
  tup := fun a xs q => by
    rcases q with (q | ⟨o', q⟩) | q
    · refine .inl (.inl ?_)
      rw [upd_ne (ne_of q h (by intro z; cases z))]
      exact q
    · refine .inl (.inr ⟨o', ?_⟩)
      rw [upd_ne (ne_of q h (by intro z; cases z))]
      exact q
    · exact .inr q
  ty := fun v t q => by
    have k : ∀ a o', H a = some o' → o' ≠ .dK kvs → (upd H d (.frz o (.dK kvs))) a = some o' := fun a o' e n => by
      rw [upd_ne (ne_of e h n)]
      exact e
    cases q with
    | base b =>
      cases b with
      | non => exact .base .non
      | bl x => exact .base (.bl x)
      | int i => exact .base (.int i)
      | str x => exact .base (.str x)
      | flt x => exact .base (.flt x)
      | lst e => exact .base (.lst (k _ _ e (by intro z; cases z)))
      | frz e => exact .base (.frz (k _ _ e (by intro z; cases z)))
      | tup e => exact .base (.tup (k _ _ e (by intro z; cases z)))
      | @dK a kvs' e =>
        by_cases ea : a = d
        · subst ea
          exact .fDict upd_same
        · exact .base (.dK (by rw [upd_ne ea]; exact e))
      | dT e => exact .base (.dT (k _ _ e (by intro z; cases z)))
      | ins e cl ha hn htk hm => exact .base (.ins (k _ _ e (by intro z; cases z)) cl ha hn htk hm)
    | byt b => exact .byt b
    | set e => exact .set (k _ _ e (by intro z; cases z))
    | kList e c => exact .kList e c
    | kTuple e c => exact .kTuple e c
    | kDict e c => exact .kDict e c
    | fTuple e => exact .fTuple (k _ _ e (by intro z; cases z))
    | fDict e => exact .fDict (k _ _ e (by intro z; cases z))
theorem let_len9 {x : Str} (h : isLet x = true) : x.length ≤ 100000 := by
  unfold isLet at h
  simp only [Bool.and_eq_true, decide_eq_true_eq] at h
  omega
theorem unfrz {H H' : Hp} {d : Addr} {o : Obj} {u : HO} (h : H d = some u) (sm : Same (upd H d (.frz o u)) H') : Same H (upd H' d u) := fun b x e => by
  by_cases hb : b = d
  · subst hb
    rw [h] at e
    cases e
    exact upd_same
  · rw [upd_ne hb]
    exact sm b x (by rw [upd_ne hb]; exact e)
def MapOk (m : Map) : Prop := ∀ p ∈ m, isLet p.1 = true ∧ p.2.ok ∧ p.2.nds ≤ 33000
theorem Paired.at {α β : Type} {F : α → β → Prop} : ∀ {l : List α} {r : List β} {i : Nat} {x : α}, Paired F l r → l[i]? = some x → ∃ y, r[i]? = some y ∧ F x y
  | _, _, i, x, .nil, h => by simp at h
  | _, _, 0, x, .cons h _, e => by
    simp at e
    subst e
    exact ⟨_, rfl, h⟩
  | _, _, i + 1, x, .cons _ t, e => by
    obtain ⟨y, h1, h2⟩ := Paired.at (i := i) (x := x) t (by simpa using e)
    exact ⟨y, by simpa using h1, h2⟩
def spVals (K : PySem.W.Frag) : Sp := fun vs H Q _ => ∃ (d : Addr) (m : Map), vs = [.ref d] ∧ Held K H d m ∧ MapOk m ∧ m.length ≤ 1000 ∧ ∀ H', Same H H' → Q (.bl true) H'
theorem ok_are_values (G : Glo mg) (CL : Cal P w K mg base 1 "is_letter" ["thing"] (spTest K Tg.isL)) (CT : Cal P w K mg base 3 "is_type" ["thing"] (spAsk K isT)) (D : DefAt K mg "are_values" s_are_values ["thing"]) : Cal P w K mg base 4 "are_values" ["thing"] (spVals K) := by
  refine D.cal sc_are_values (fun vs H Q E h => ?_) (fun f cdv A outer s H vs Q E hr h => ?_)
  · obtain ⟨d, m, rfl, _⟩ := h
    rfl
  obtain ⟨d, m, rfl, ⟨kvs, hd, hpr⟩, hmo, hml, q⟩ := h
  refine ⟨_, pss_cons (ps_if (pt_not (pt_val (pe_isi G.isinstance G.dict b_dict rfl rfl (pv 0)))) (pss_one (ps_ret pe_bl)) pss_nil)
    (pss_one (ps_ret (pe_callB (cr_all rfl) (by rfl) G.all (by decide +kernel) (pa_cons (pe_lock (pe_lc (own := [("letter", 1), ("kind", 2)]) (g := gTup K 2 (gCons (gName 1) (gCons (gName 2) gNil))) rfl sc_are_values.nd (pi_items (pv 0)) (blkOk_by (N := nm_are_values) (sc := defScope s_are_values) (own := [("letter", 1), ("kind", 2)]) (by decide +kernel))
      (fun _ _ _ _ _ => pg_tup (by rfl) (pgs_cons (pg_name (i := 1) sc_are_values.nd rfl (Or.inl rfl)) (pgs_cons (pg_name (i := 2) sc_are_values.nd rfl (Or.inl rfl)) pgs_nil))) (fun _ _ _ _ _ => pts_nil)
      (fun _ _ _ _ _ => pe_and (pc CL (hr.mono (by decide)) rfl (pa_cons (pv 1) pa_nil)) (pe_one (pc CT hr rfl (pa_cons (pv 2) pa_nil)))))) pa_nil)))), ?_⟩
  refine ⟨_, rfl, isi_q (b := true) (.base (.dK hd)) (kit_ty (by decide +kernel)) ⟨_, rfl, ?_⟩⟩
  refine ⟨d, .dK kvs, hd, trivial, fun od => ?_⟩
  refine ⟨_, rfl, d, od, kvs, rfl, upd_same, fun D hD => ?_⟩
  have sH : Same (upd H d (.frz od (.dK kvs))) (upd (upd H d (.frz od (.dK kvs))) D (.lst [])) := same_new hD _
  have hkl : kvs.length = m.length := Paired.length hpr
  refine lc_it (walk_items (d := d) (o := od) (kvs := kvs)) (fun i H' => ∃ acc, Same (upd H d (.frz od (.dK kvs))) H' ∧ H' D = some (.lst acc) ∧ acc = List.replicate i (V.bl true)) ⟨[], sH, upd_same, rfl⟩ (fun i H' _ ⟨acc, sm, _⟩ => sm _ _ upd_same) (fun i x H' H2 hi ⟨acc, sm, hacc, eacc⟩ hy => ?_) (fun H' ⟨acc, sm, hacc, eacc⟩ => ?_)
  · obtain ⟨T, x, y, rfl, hT, rfl, h1, h2⟩ := hy
    obtain ⟨⟨key, v⟩, hkv⟩ : ∃ p, kvs[i]? = some p := ⟨_, List.getElem?_eq_getElem hi⟩
    obtain ⟨⟨c, k⟩, hm1, hm2, hm3⟩ := Paired.at hpr hkv
    replace h1 : (kvs[i]?.map fun kv => kV kv.1) = some x := h1
    replace h2 : (kvs[i]?.map Prod.snd) = some y := h2
    rw [hkv] at h1 h2
    have e1 : x = .str c := by
      have hm2' : key = Sum.inr c := hm2
      rw [hm2'] at h1
      exact (Option.some.inj h1).symm
    have e2 : y = v := (Option.some.inj h2).symm
    subst e1 e2
    obtain ⟨o1, o2, o3⟩ := hmo _ (List.mem_of_getElem? hm1)
    have hDT : D ≠ T := ne_of_none hacc hT
    have st : Stay K H (upd H' T (.tup [.str c, y])) := (stay_frz hd).trans ((stay_same sm).trans (stay_new hT _))
    have hnd := Kd.nodes_tg k
    have o3' : k.nds ≤ 33000 := o3
    refine ⟨T, _, rfl, .inl (.inl upd_same), rfl, .str c, [y], rfl, y, [], rfl, rfl, rfl, ?_⟩
    refine ⟨.str c, rfl, .str c, .str c, rfl, .str c (let_len9 o1), _, rfl, iteE o1 ?_⟩
    refine ⟨y, rfl, y, k.tg, rfl, hm3.stay st, by omega, fun H3 sm3 => ?_⟩
    rw [Kd.isT_tg o2]
    refine ⟨acc, sm3 _ _ (by rw [upd_ne hDT]; exact hacc), ?_, acc ++ [.bl true], same_mut (sm.trans ((same_new hT _).trans sm3)) hD, upd_same, ?_⟩
    · rw [eacc, List.length_replicate]
      exact Nat.lt_of_le_of_lt (show i ≤ 100000 by omega) (by decide)
    · rw [eacc, ← List.replicate_succ']
  · refine ⟨sm _ _ upd_same, ?_⟩
    have nDd : D ≠ d := fun e => by
      subst e
      rw [upd_same] at hD
      cases hD
    refine ⟨D, List.replicate kvs.length true, rfl, SqL.of (by rw [upd_ne nDd, hacc, eacc, List.map_replicate]), ?_⟩
    have e : (List.replicate kvs.length true).all id = true := by simp
    rw [e]
    exact q _ (unfrz hd sm)
def spFillT (K : PySem.W.Frag) (Pt : Addr) : Sp := fun vs H Q _ => ∃ (v : V) (d : Addr) (k : Kd) (m : Map), vs = [v, .ref d] ∧ Kp K H v k ∧ k.ok ∧ k.nds ≤ 33000 ∧ Held K H d m ∧ MapOk m ∧ m.length ≤ 1000 ∧ TabS H Pt tq ∧ ∀ H' u, Gro H H' → TabS H' Pt tq → Kp K H' u (fillK m k) → Q u H'
theorem ok_fillT {C Pt : Addr} (CK : Cal P w K mg base 4 "check_type" ["thing"] (spCheck K C)) (CV : Cal P w K mg base 4 "are_values" ["thing"] (spVals K)) (CF : Cal P w K mg base 3 "filled" ["kind", "values"] (spFilledT K Pt)) (D : DefAt K mg "fill" s_fill ["kind", "values"]) : Cal P w K mg base 5 "fill" ["kind", "values"] (spFillT K Pt) := by
  refine D.cal sc_fill (fun vs H Q E h => ?_) (fun f cdv A outer s H vs Q E hr h => ?_)
  · obtain ⟨v, d, k, m, rfl, _⟩ := h
    rfl
  obtain ⟨v, d, k, m, rfl, hT, hok, hn, hd, hm, hml, ht, q⟩ := h
  refine ⟨_, pss_cons (ps_expr (pcE (takes_of rfl rfl rfl rfl) CK hr rfl (pa_cons (pv 0) pa_nil)))
    (pss_cons (ps_if (pt_not (pt_val (pc CV hr rfl (pa_cons (pv 1) pa_nil)))) (pss_one ps_never) pss_nil)
    (pss_one (ps_ret (pc CF (hr.mono (by decide)) rfl (pa_cons (pv 0) (pa_cons (pv 1) pa_nil)))))), ?_⟩
  have hnd := Kd.nodes_tg k
  refine ⟨v, rfl, v, k.tg, rfl, hT, by omega, fun _ H1 sm1 => ?_, fun z => by rw [Kd.isT_tg hok] at z; cases z⟩
  refine ⟨_, rfl, d, m, rfl, hd.stay sm1, hm, hml, fun H2 sm2 => ⟨_, rfl, ?_⟩⟩
  exact ⟨v, rfl, _, rfl, v, d, k, m, rfl, hT.stay (stay_same (sm1.trans sm2)), by omega, hd.stay (sm1.trans sm2), ht.ext (sm1.trans sm2), fun H3 u e3 t3 hu => q H3 u ((Gro.of (sm1.trans sm2)).trans e3) t3 hu⟩
end
end N

namespace N
open PySem PySem.Spec PyProof.Rows L2
section
variable {P : Program} {w : World} {K : PySem.W.Frag} {mg : Str → Option Value} {base : Heap}
/-- all but what stands at p is as it was -/
def Bar (p : Addr) (H H' : Hp) : Prop := ∀ b o, b ≠ p → H b = some o → H' b = some o
def Pen (H : Hp) (p : Addr) : Prop := ∃ i j k : Int, H p = some (.lst [.int i, .int j, .int k]) ∧ 0 ≤ i ∧ 0 ≤ j ∧ j < 2147483648
theorem Bar.refl (p : Addr) (H : Hp) : Bar p H H := fun _ _ _ h => h
theorem Bar.trans {p : Addr} {H H1 H2 : Hp} (a : Bar p H H1) (b : Bar p H1 H2) : Bar p H H2 := fun x o n h => b x o n (a x o n h)
theorem bar_same {p : Addr} {H H' : Hp} (a : Same H H') : Bar p H H' := fun x o _ h => a x o h
theorem bar_upd {p : Addr} {H : Hp} (o : HO) : Bar p H (upd H p o) := fun b u n h => by rw [upd_ne n]; exact h
theorem Pen.same {p : Addr} {H H' : Hp} (a : Same H H') (h : Pen H p) : Pen H' p := by
  obtain ⟨i, j, k, e, r⟩ := h
  exact ⟨i, j, k, a _ _ e, r⟩
theorem bar_stay {p : Addr} {H H' : Hp} (a : Bar p H H') (h : Pen H p) (h' : Pen H' p) : Stay K H H' := by
  obtain ⟨i, j, k, e, _⟩ := h
  obtain ⟨i', j', k', e', _⟩ := h'
  refine stay_of (fun b o q => ?_) fun b x q => a b _ (ne_of q e (by intro z; cases z)) q
  by_cases hb : b = p
  · subst hb
    rw [e] at q
    cases q
    exact .inr ⟨_, _, rfl, e'⟩
  · exact .inl (a b o hb q)
theorem bar_seq {p a : Addr} {H H' : Hp} {xs : List V} (b : Bar p H H') (n : a ≠ p) (h : SqL K H a xs) : SqL K H' a xs := by
  rcases h with (h | ⟨o, h⟩) | h
  · exact .inl (.inl (b _ _ n h))
  · exact .inl (.inr ⟨o, b _ _ n h⟩)
  · exact .inr h
theorem pen_free {p q : Addr} {H H' : Hp} (b : Bar p H H') (h : Pen H p) (n : H' q = none) (hq : Pen H' p) : H q = none := by
  cases e : H q with
  | none => rfl
  | some o =>
    obtain ⟨_, _, _, e', _⟩ := hq
    by_cases hb : q = p
    · subst hb; rw [e'] at n; cases n
    · rw [b q o hb e] at n; cases n
def spCell (K : PySem.W.Frag) : Sp := fun vs H Q _ => ∃ (a : Addr) (ns : List Int) (k : Nat), vs = [.ref a, .int k] ∧ SqL K H a (ns.map V.int) ∧ ∀ n : Int, Q (.int n) H
theorem ok_cell (G : Glo mg) (D : DefAt K mg "_law_cell_at" s_Lcell_at ["_law_script", "_law_k"]) : Cal P w K mg base 1 "_law_cell_at" ["_law_script", "_law_k"] (spCell K) := by
  refine D.cal sc_Lcell_at (fun vs H Q E h => ?_) (fun f cdv A outer s H vs Q E hr h => ?_)
  · obtain ⟨a, ns, k, rfl, _⟩ := h
    rfl
  obtain ⟨a, ns, k, rfl, hS, q⟩ := h
  refine ⟨_, pss_cons (ps_if (pt_cmpR op_lt (pv 1) (pe_callB call_len_seq (by rfl) G.len PySem.boot_len (pa_cons (pv 0) pa_nil)) (nomark _)) (pss_one (ps_ret (pe_ix ix_list (pv 0) (pv 1) (fun _ _ => rfl)))) pss_nil) (pss_one (ps_ret pe_int)), ?_⟩
  refine ⟨_, rfl, _, rfl, a, _, rfl, .inl hS, _, _, rfl, rfl, _, rfl, ite2 (fun c => ?_) (fun c => ?_)⟩
  · have c' : ((k : Nat) : Int) < (((ns.map V.int).length : Nat) : Int) := of_decide_eq_true c
    rw [List.length_map] at c'
    have hk : k < ns.length := by omega
    exact ⟨_, rfl, _, rfl, a, _, _, .int ns[k], rfl, rfl, hS, atI_nat (by rw [List.getElem?_map, List.getElem?_eq_getElem hk] <;> rfl), q _⟩
  · exact q 0
def spPen (K : PySem.W.Frag) : Sp := fun vs H Q _ => ∃ n : Int, vs = [.int n] ∧ ∀ p H', Same H H' → H p = none → Pen H' p → Q (.ref p) H'
theorem ok_pen (G : Glo mg) (D : DefAt K mg "_law_pen" s_Lpen ["_law_cell"]) : Cal P w K mg base 1 "_law_pen" ["_law_cell"] (spPen K) := by
  refine D.cal sc_Lpen (fun vs H Q E h => ?_) (fun f cdv A outer s H vs Q E hr h => ?_)
  · obtain ⟨n, rfl, _⟩ := h
    rfl
  obtain ⟨n, rfl, q⟩ := h
  refine ⟨_, pss_one (ps_ret (pe_lst (pa_cons (pe_callB (call_max2 rfl) (by rfl) G.max (by decide +kernel) (pa_cons pe_int (pa_cons (pe_op op_sub (pv 0) (pe_op op_pow pe_int pe_int)) pa_nil)))
    (pa_cons (pe_op op_add (pe_op op_modN (pv 0) pe_int) pe_int) (pa_cons pe_int pa_nil))))), ?_⟩
  refine ⟨_, rfl, _, _, rfl, rfl, ⟨by decide, by decide, by decide⟩, _, _, rfl, rfl, _, _, rfl, ?_⟩
  refine ⟨_, rfl, _, _, rfl, rfl, (by show (2147483629 : Int) ≠ 0; decide), _, _, rfl, rfl, by show 3 ≤ sizeLine; decide, fun p hp => ?_⟩
  refine q p _ (same_new hp _) hp ⟨_, _, _, upd_same, ?_, ?_, ?_⟩
  · split <;> omega
  · rw [Int.fmod_eq_emod_of_nonneg _ (by decide)]; omega
  · rw [Int.fmod_eq_emod_of_nonneg _ (by decide)]; omega
def spDraw (K : PySem.W.Frag) : Sp := fun vs H Q _ => ∃ (p : Addr) (n : Int), vs = [.ref p, .int n] ∧ Pen H p ∧ 0 < n ∧ n < 1073741824 ∧ ∀ H' r, Bar p H H' → Pen H' p → 0 ≤ r → r < n → Q (.int r) H'
theorem ok_draw (D : DefAt K mg "_law_draw" s_Ldraw ["_law_pen_here", "_law_many"]) : Cal P w K mg base 1 "_law_draw" ["_law_pen_here", "_law_many"] (spDraw K) := by
  refine D.cal sc_Ldraw (fun vs H Q E h => ?_) (fun f cdv A outer s H vs Q E hr h => ?_)
  · obtain ⟨p, n, rfl, _⟩ := h
    rfl
  obtain ⟨p, n, rfl, ⟨i, j, k, e, hi, hj, hj2⟩, hn, hn2, q⟩ := h
  refine ⟨_, pss_cons (ps_if (pt_cmpR op_gt (pe_ix ix_list (pv 0) pe_int (fun _ _ => rfl)) pe_int (nomark _))
      (pss_cons (ps_set (i := 2) sc_Ldraw.nd rfl (Or.inl rfl) (pe_op op_modN (pe_ix ix_list (pv 0) pe_int (fun _ _ => rfl)) (pv 1)))
      (pss_cons (ps_asg (pe_op op_fdivN (pe_ix ix_list (pv 0) pe_int (fun _ _ => rfl)) (pv 1)) (pg_sub (pv 0) pe_int set_list)) (pss_one (ps_ret (pv 2))))) pss_nil)
    (pss_cons (ps_asg (pe_op op_add (pe_ix ix_list (pv 0) pe_int (fun _ _ => rfl)) pe_int) (pg_sub (pv 0) pe_int set_list))
    (pss_cons (ps_asg (pe_op op_modN (pe_op op_add (pe_op op_add (pe_op op_mul (pe_ix ix_list (pv 0) pe_int (fun _ _ => rfl)) pe_int) (pe_op op_mul pe_int (pe_ix ix_list (pv 0) pe_int (fun _ _ => rfl)))) pe_int) pe_int) (pg_sub (pv 0) pe_int set_list))
    (pss_cons (ps_set (i := 3) sc_Ldraw.nd rfl (Or.inl rfl) (pe_op op_modN (pe_op op_add (pe_op op_add (pe_op op_mul (pe_ix ix_list (pv 0) pe_int (fun _ _ => rfl)) (pe_ix ix_list (pv 0) pe_int (fun _ _ => rfl))) (pe_op op_mul pe_int (pe_ix ix_list (pv 0) pe_int (fun _ _ => rfl)))) pe_int) pe_int))
    (pss_cons (ps_set (i := 3) sc_Ldraw.nd rfl (Or.inl rfl) (pe_op op_modN (pe_op op_add (pe_op op_mul (pv 3) (pv 3)) (pe_op op_mul pe_int (pv 3))) pe_int))
    (pss_one (ps_ret (pe_op op_modN (pe_op op_fdivN (pv 3) pe_int) (pv 1)))))))), ?_⟩
  refine ⟨_, rfl, p, _, 0, .int i, rfl, rfl, SqL.of e, atI_nat (j := 0) rfl, _, _, rfl, rfl, _, rfl, ite2 (fun c => ?_) (fun c => ?_)⟩
  · have c' : i > 0 := of_decide_eq_true c
    refine ⟨_, rfl, p, _, 0, .int i, rfl, rfl, SqL.of e, atI_nat (j := 0) rfl, _, rfl, _, _, rfl, rfl, (by show n ≠ 0; omega), ?_⟩
    refine ⟨_, rfl, p, _, 0, .int i, rfl, rfl, SqL.of e, atI_nat (j := 0) rfl, _, rfl, _, _, rfl, rfl, ⟨by omega, by omega⟩, ?_⟩
    refine ⟨_, rfl, p, _, 0, 0, rfl, rfl, e, rfl, ?_⟩
    refine ⟨_, rfl, q _ _ (bar_upd _) ⟨_, j, k, upd_same, ?_, hj, hj2⟩ ?_ ?_⟩
    · rw [Int.fdiv_eq_ediv_of_nonneg _ (by omega)]
      exact Int.ediv_nonneg hi (by omega)
    · rw [Int.fmod_eq_emod_of_nonneg _ (by omega)]
      exact Int.emod_nonneg _ (by omega)
    · rw [Int.fmod_eq_emod_of_nonneg _ (by omega)]
      exact Int.emod_lt_of_pos _ hn
  · refine ⟨_, rfl, p, _, 2, .int k, rfl, rfl, SqL.of e, atI_nat (j := 2) rfl, _, _, rfl, rfl, ?_⟩
    refine ⟨_, rfl, p, _, 2, 2, rfl, rfl, e, rfl, ?_⟩
    have e1 : (upd H p (.lst ([.int i, .int j, .int k].set 2 (.int (k + 1))))) p = some (.lst [.int i, .int j, .int (k + 1)]) := upd_same
    refine ⟨_, rfl, p, _, 1, .int j, rfl, rfl, SqL.of e1, atI_nat (j := 1) rfl, _, _, rfl, rfl, .inl ⟨by omega, by omega⟩, ?_⟩
    refine ⟨_, rfl, p, _, 2, .int (k + 1), rfl, rfl, SqL.of e1, atI_nat (j := 2) rfl, _, _, rfl, rfl, .inl ⟨by decide, by decide⟩, _, _, rfl, rfl, _, _, rfl, rfl, _, _, rfl, rfl, (by show (2147483647 : Int) ≠ 0; decide), ?_⟩
    have hj0 : 0 ≤ ((j * 48271 + 1009 * (k + 1) + 7).fmod 2147483647) ∧ ((j * 48271 + 1009 * (k + 1) + 7).fmod 2147483647) < 2147483648 := by rw [Int.fmod_eq_emod_of_nonneg _ (by decide)]; omega
    dsimp only
    revert hj0
    generalize (j * 48271 + 1009 * (k + 1) + 7).fmod 2147483647 = j'
    intro hj'
    refine ⟨_, rfl, p, _, 1, 1, rfl, rfl, e1, rfl, ?_⟩
    have e2 : (upd (upd H p (.lst ([.int i, .int j, .int k].set 2 (.int (k + 1))))) p (.lst (([.int i, .int j, .int (k + 1)] : List V).set 1 (.int j')))) p = some (.lst [.int i, .int j', .int (k + 1)]) := upd_same
    have b2 : Bar p H (upd (upd H p (.lst ([.int i, .int j, .int k].set 2 (.int (k + 1))))) p (.lst (([.int i, .int j, .int (k + 1)] : List V).set 1 (.int j')))) := (bar_upd _).trans (bar_upd _)
    refine ⟨_, rfl, p, _, 1, .int j', rfl, rfl, SqL.of e2, atI_nat (j := 1) rfl, ?_⟩
    refine ⟨_, rfl, p, _, 1, .int j', rfl, rfl, SqL.of e2, atI_nat (j := 1) rfl, _, _, rfl, rfl, .inl ⟨by omega, by omega⟩, ?_⟩
    refine ⟨_, rfl, p, _, 1, .int j', rfl, rfl, SqL.of e2, atI_nat (j := 1) rfl, _, _, rfl, rfl, .inl ⟨by decide, by decide⟩, _, _, rfl, rfl, _, _, rfl, rfl, _, _, rfl, rfl, (by show (2147483629 : Int) ≠ 0; decide), ?_⟩
    have hm0 : 0 ≤ ((j' * j' + 69621 * j' + 11).fmod 2147483629) ∧ ((j' * j' + 69621 * j' + 11).fmod 2147483629) < 2147483648 := by rw [Int.fmod_eq_emod_of_nonneg _ (by decide)]; omega
    dsimp only
    revert hm0
    generalize (j' * j' + 69621 * j' + 11).fmod 2147483629 = m
    intro hm
    refine ⟨_, rfl, _, rfl, _, _, rfl, rfl, .inl ⟨by omega, by omega⟩, _, rfl, _, _, rfl, rfl, .inl ⟨by decide, by decide⟩, _, _, rfl, rfl, _, _, rfl, rfl, (by show (2147483587 : Int) ≠ 0; decide), ?_⟩
    refine ⟨_, rfl, _, _, rfl, rfl, ⟨by decide, by decide⟩, _, rfl, _, _, rfl, rfl, (by show n ≠ 0; omega), q _ _ b2 ⟨i, j', k + 1, e2, hi, hj'⟩ ?_ ?_⟩
    · rw [Int.fmod_eq_emod_of_nonneg _ (by omega)]
      exact Int.emod_nonneg _ (by omega)
    · rw [Int.fmod_eq_emod_of_nonneg _ (by omega)]
      exact Int.emod_lt_of_pos _ hn
end
end N

namespace N
open PySem PySem.Spec PyProof.Rows L2
section
variable {P : Program} {w : World} {K : PySem.W.Frag} {mg : Str → Option Value} {base : Heap}
def spPick (K : PySem.W.Frag) : Sp := fun vs H Q _ => ∃ (p a : Addr) (xs : List V), vs = [.ref p, .ref a] ∧ Pen H p ∧ a ≠ p ∧ SqL K H a xs ∧ 0 < xs.length ∧ xs.length ≤ 1000 ∧ ∀ H' x, Bar p H H' → Pen H' p → x ∈ xs → Q x H'
theorem ok_pick (G : Glo mg) (CD : Cal P w K mg base 1 "_law_draw" ["_law_pen_here", "_law_many"] (spDraw K)) (D : DefAt K mg "_law_pick" s_Lpick ["_law_pen_here", "_law_some"]) : Cal P w K mg base 2 "_law_pick" ["_law_pen_here", "_law_some"] (spPick K) := by
  refine D.cal sc_Lpick (fun vs H Q E h => ?_) (fun f cdv A outer s H vs Q E hr h => ?_)
  · obtain ⟨p, a, xs, rfl, _⟩ := h
    rfl
  obtain ⟨p, a, xs, rfl, hp, hne, hS, h0, h1, q⟩ := h
  refine ⟨_, pss_one (ps_ret (pe_ix ix_list (pv 1) (pc CD hr rfl (pa_cons (pv 0) (pa_cons (pe_callB call_len_seq (by rfl) G.len PySem.boot_len (pa_cons (pv 1) pa_nil)) pa_nil))) (fun _ _ => rfl))), ?_⟩
  refine ⟨_, rfl, _, rfl, _, rfl, a, _, rfl, .inl hS, p, _, rfl, hp, by omega, by omega, fun H' r b pn r0 r1 => ?_⟩
  have hk : r.toNat < xs.length := by omega
  have er : r = ((r.toNat : Nat) : Int) := by omega
  refine ⟨a, xs, r, xs[r.toNat], rfl, rfl, bar_seq b hne hS, ?_, q H' _ b pn (List.getElem_mem hk)⟩
  have := atI_nat (xs := xs) (List.getElem?_eq_getElem hk)
  rw [← er] at this
  exact this
/-! ### drawn kinds -/
def Kd.of (ls : List Str) (ss : List (Str × Nat)) : Kd → Prop
  | .L c => c ∈ ls
  | .C0 n => (n, 0) ∈ ss
  | .C1 n a => (n, 1) ∈ ss ∧ a.of ls ss
  | .C2 n a b => (n, 2) ∈ ss ∧ a.of ls ss ∧ b.of ls ss
def Shp (K : PySem.W.Frag) (H : Hp) (svs : List V) (ss : List (Str × Nat)) : Prop := Paired (fun v s => ∃ t, v = V.ref t ∧ SqT K H t [.str s.1, .int (s.2 : Nat)]) svs ss
structure Men (ls : List Str) (ss : List (Str × Nat)) : Prop where
  l : ∀ c ∈ ls, isLet c = true
  s : ∀ s ∈ ss, isNam s.1 = true ∧ s.2 ≤ 2
  z : ∃ n, (n, 0) ∈ ss
  ll : ls.length ≤ 100
  sl : ss.length ≤ 100
theorem let_len {x : Str} (h : isLet x = true) : x.length ≤ 100000 := by
  unfold isLet at h
  simp only [Bool.and_eq_true, decide_eq_true_eq] at h
  omega
theorem nam_len {x : Str} (h : isNam x = true) : x.length ≤ 100000 := by
  have := (isNam_iff.mp h).2.1
  omega
theorem Kd.of_ok {ls : List Str} {ss : List (Str × Nat)} (M : Men ls ss) : ∀ {k : Kd}, k.of ls ss → k.ok
  | .L c, h => M.l c h
  | .C0 n, h => (M.s _ h).1
  | .C1 n a, h => ⟨(M.s _ h.1).1, of_ok M h.2⟩
  | .C2 n a b, h => ⟨(M.s _ h.1).1, of_ok M h.2.1, of_ok M h.2.2⟩
theorem Shp.stay {H H' : Hp} {svs : List V} {ss : List (Str × Nat)} (s : Stay K H H') (h : Shp K H svs ss) : Shp K H' svs ss := Paired.mapP h fun _ _ ⟨t, e, q⟩ => ⟨t, e, s.tup _ _ q⟩
theorem Shp.at {H : Hp} : ∀ {svs : List V} {ss : List (Str × Nat)} {i : Nat} {x : V}, Shp K H svs ss → svs[i]? = some x → ∃ s, ss[i]? = some s ∧ ∃ t, x = .ref t ∧ SqT K H t [.str s.1, .int (s.2 : Nat)]
  | _, _, i, x, .nil, h => by simp at h
  | _, _, 0, x, .cons r _, h => by
    simp at h
    subst h
    exact ⟨_, rfl, r⟩
  | _, _, i + 1, x, .cons _ t, h => by
    obtain ⟨s, e, r⟩ := Shp.at (i := i) (x := x) t (by simpa using h)
    exact ⟨s, by simpa using e, r⟩
def bareK (ss : List (Str × Nat)) : List Kd := (ss.filter fun s => s.2 == 0).map fun s => .C0 s.1
theorem bareK_snoc {ss : List (Str × Nat)} {i : Nat} {s : Str × Nat} (h : ss[i]? = some s) : bareK (ss.take (i + 1)) = bareK (ss.take i) ++ (if s.2 = 0 then [.C0 s.1] else []) := by
  unfold bareK
  rw [List.take_add_one, h, List.filter_append, List.map_append]
  congr 1
  by_cases e : s.2 = 0 <;> simp [e]
def spKind (K : PySem.W.Frag) (M : Nat) : Sp := fun vs H Q _ => ∃ (p al sl : Addr) (ls : List Str) (svs : List V) (ss : List (Str × Nat)) (most : Nat), vs = [.ref p, .ref al, .ref sl, .int (most : Nat)] ∧ Pen H p ∧ al ≠ p ∧ sl ≠ p ∧
  H al = some (.lst (ls.map .str)) ∧ SqL K H sl svs ∧ Shp K H svs ss ∧ Men ls ss ∧ most < M ∧ ∀ H' v k, Bar p H H' → Pen H' p → Kp K H' v k → k.of ls ss → k.nds ≤ 2 * most + 1 → Q v H'
theorem kind_none (D : DefAt K mg "_law_kind" s_Lkind ["_law_pen_here", "_law_letters", "_law_shapes", "_law_most"]) : Cal P w K mg base 2 "_law_kind" ["_law_pen_here", "_law_letters", "_law_shapes", "_law_most"] (spKind K 0) := by
  obtain ⟨f, fd, a, F, b⟩ := D
  have no : ∀ vs H Q E, ¬ spKind K 0 vs H Q E := fun vs H Q E h => by
    obtain ⟨_, _, _, _, _, _, most, _, _, _, _, _, _, _, _, hm, _⟩ := h
    omega
  exact ⟨f, fd, a, F.kp, b, fun vs H Q E h => absurd h (no vs H Q E), fun A outer s H args us vs Q E _ _ _ _ h => absurd h (no vs H Q E)⟩
/-- the letters and the bare names, as the def puts them together -/
theorem kps_letters {H : Hp} : ∀ {ls : List Str}, (∀ c ∈ ls, isLet c = true) → Kps K H (ls.map .str) (ls.map Kd.L)
  | [], _ => .nil
  | c :: ls, h => .cons (.str c (let_len (h c List.mem_cons_self))) (kps_letters fun x hx => h x (List.mem_cons_of_mem _ hx))
theorem Kps.mem {H : Hp} : ∀ {vs : List V} {ks : List Kd} {v : V}, Kps K H vs ks → v ∈ vs → ∃ k ∈ ks, Kp K H v k
  | _, [], v, .nil, h => by cases h
  | _, k :: ks, v, .cons r t, h => by
    rcases List.mem_cons.mp h with rfl | h
    · exact ⟨k, List.mem_cons_self, r⟩
    · obtain ⟨k', h1, h2⟩ := Kps.mem t h
      exact ⟨k', List.mem_cons_of_mem _ h1, h2⟩
theorem eqv_letters (ls : List Str) : PyData.eqv (.list (ls.map .str)) (.list []) = ls.isEmpty := by
  cases ls <;> simp [PyData.eqv, PyData.eqvAll]
theorem dp_letters {H : Hp} : ∀ ls : List Str, DpAll K H (ls.map .str) (ls.map .str)
  | [] => .nil
  | c :: ls => .cons (.str c) (dp_letters ls)
theorem strOk_of {x : Str} (h : ∀ c ∈ x.cps.toList, c < 1114112) : PyData.strOk x = true := by
  obtain ⟨⟨l⟩⟩ := x
  show Array.all _ _ = true
  rw [List.all_toArray, List.all_eq_true]
  intro c hc
  exact decide_eq_true (h c hc)
theorem let_strOk {x : Str} (h : isLet x = true) : PyData.strOk x = true := by
  obtain ⟨c, e, h1, h2⟩ := isLet_iff.mp h
  refine strOk_of fun z hz => ?_
  rw [e] at hz
  have := List.mem_singleton.mp hz
  omega
theorem nam_strOk {x : Str} (h : isNam x = true) : PyData.strOk x = true := by
  obtain ⟨_, _, h3⟩ := isNam_iff.mp h
  refine strOk_of fun z hz => ?_
  have := h3 z hz
  unfold Low at this
  omega
theorem shaped_letters {ls : List Str} (hl : ∀ c ∈ ls, isLet c = true) : SeqAt.shaped (.list (ls.map .str)) = true := by
  have h1 : ∀ ls : List Str, (∀ c ∈ ls, isLet c = true) → PyData.canLayAll0 (ls.map .str) = true := fun ls => by
    induction ls with
    | nil => intro _; simp [PyData.canLayAll0]
    | cons c ls ih =>
      intro h
      simp [PyData.canLayAll0, PyData.canLay0, ih fun x hx => h x (List.mem_cons_of_mem _ hx), let_strOk (h c List.mem_cons_self)]
  have h2 : ∀ ls : List Str, PyData.depthAll (ls.map .str) ≤ 1 := fun ls => by
    induction ls with
    | nil => simp [PyData.depthAll]
    | cons c ls ih => simp only [List.map_cons, PyData.depthAll, PyData.depth]; omega
  show (PyData.canLay0 _ && decide (PyData.depth _ ≤ 64)) = true
  rw [Bool.and_eq_true, decide_eq_true_eq]
  refine ⟨by simp only [PyData.canLay0]; exact h1 ls hl, ?_⟩
  have := h2 ls
  simp only [PyData.depth]
  omega
/-- a name and its arguments -/
def mkK (n : Str) : List Kd → Kd
  | [] => .C0 n
  | [a] => .C1 n a
  | a :: b :: _ => .C2 n a b
theorem mkK_nm (n : Str) : ∀ ks : List Kd, (mkK n ks).nm = n ∧ (mkK n ks).isC = true
  | [] => ⟨rfl, rfl⟩
  | [_] => ⟨rfl, rfl⟩
  | _ :: _ :: _ => ⟨rfl, rfl⟩
theorem mkK_args (n : Str) : ∀ ks : List Kd, ks.length ≤ 2 → (mkK n ks).args = ks
  | [], _ => rfl
  | [_], _ => rfl
  | [_, _], _ => rfl
  | _ :: _ :: _ :: _, h => by simp at h
theorem mkK_of {ls : List Str} {ss : List (Str × Nat)} {n : Str} : ∀ {ks : List Kd}, ks.length ≤ 2 → (n, ks.length) ∈ ss → (∀ k ∈ ks, k.of ls ss) → (mkK n ks).of ls ss
  | [], _, h, _ => h
  | [a], _, h, q => ⟨h, q a (by simp)⟩
  | [a, b], _, h, q => ⟨h, q a (by simp), q b (by simp)⟩
  | _ :: _ :: _ :: _, h, _, _ => by simp at h
theorem mkK_nds {n : Str} {most : Nat} : ∀ {ks : List Kd}, ks.length ≤ 2 → ks.length < most → (∀ k ∈ ks, k.nds ≤ 2 * ((most - 1) / ks.length) + 1) → (mkK n ks).nds ≤ 2 * most + 1
  | [], _, _, _ => by simp [mkK, Kd.nds]
  | [a], _, h, q => by
    have := q a (by simp)
    simp only [List.length_singleton, Nat.div_one] at this
    simp only [mkK, Kd.nds, List.length_singleton] at *
    omega
  | [a, b], _, h, q => by
    have h1 := q a (by simp)
    have h2 := q b (by simp)
    simp only [List.length_cons, List.length_nil] at h1 h2 h
    simp only [mkK, Kd.nds]
    omega
  | _ :: _ :: _ :: _, h, _, _ => by simp at h
end
end N

namespace N
open PySem PySem.Spec PyProof.Rows L2
section
variable {P : Program} {w : World} {K : PySem.W.Frag} {mg : Str → Option Value} {base : Heap}
theorem Shp.app {H : Hp} : ∀ {a b : List V} {x y : List (Str × Nat)}, Shp K H a x → Shp K H b y → Shp K H (a ++ b) (x ++ y)
  | _, _, _, _, .nil, r => r
  | _, _, _, _, .cons h t, r => .cons h (Shp.app t r)
theorem ok_kind_step {M : Nat} (G : Glo mg) (CD : Cal P w K mg base 1 "_law_draw" ["_law_pen_here", "_law_many"] (spDraw K)) (CP : Cal P w K mg base 2 "_law_pick" ["_law_pen_here", "_law_some"] (spPick K))
    (CK : Cal P w K mg base (M + 2) "_law_kind" ["_law_pen_here", "_law_letters", "_law_shapes", "_law_most"] (spKind K M))
    (D : DefAt K mg "_law_kind" s_Lkind ["_law_pen_here", "_law_letters", "_law_shapes", "_law_most"]) : Cal P w K mg base (M + 1 + 2) "_law_kind" ["_law_pen_here", "_law_letters", "_law_shapes", "_law_most"] (spKind K (M + 1)) := by
  refine D.cal sc_Lkind (fun vs H Q E h => ?_) (fun f cdv A outer s H vs Q E hr h => ?_)
  · obtain ⟨p, al, sl, ls, svs, ss, most, rfl, _⟩ := h
    rfl
  obtain ⟨p, al, sl, ls, svs, ss, most, rfl, hp, nal, nsl, hL, hS, hSh, hM, hmost, q⟩ := h
  have hr1 : RoomG 1 _ := hr.mono (by omega)
  have hr2 : RoomG 2 _ := hr.mono (by omega)
  refine ⟨_, pss_cons (ps_setLc (i := 4) (g := gTup K 2 (gCons (gName 5) (gCons (gName 6) gNil))) (own := [("_law_name", 5), ("_law_count", 6)]) (by rfl) sc_Lkind.nd rfl rfl (sw_true rfl rfl rfl (by decide +kernel)) (pi_list (pv 2)) (blkOk_by (N := nm_Lkind) (sc := defScope s_Lkind) (own := [("_law_name", 5), ("_law_count", 6)]) (by decide +kernel))
      (fun _ _ _ _ _ => pg_tup (by rfl) (pgs_cons (pg_name (i := 5) sc_Lkind.nd rfl (Or.inl rfl)) (pgs_cons (pg_name (i := 6) sc_Lkind.nd rfl (Or.inl rfl)) pgs_nil)))
      (fun _ _ _ _ _ => pts_one (pt_cmpR op_eq (pv 6) pe_int (nomark _))) (fun _ _ _ _ _ => pe_tup (pa_cons (pv 5) pa_nil)))
    (pss_cons (ps_if (PW.pt (pw_and (pt_cmpR op_eq (pv 3) pe_int (nomark _)) (pw_and1 (pt_cmpR (op_neD hr.units) (pv 1) (pe_lst pa_nil) (nomark _)))))
      (pss_one (ps_ret (pc CP hr2 rfl (pa_cons (pv 0) (pa_cons (pv 1) pa_nil))))) pss_nil)
    (pss_cons (ps_if (PW.pt (pw_or (pt_cmpR op_lt (pv 3) pe_int (nomark _)) (pw_or1 (PW.pt (pw_and (pt_cmpR (op_neD hr.units) (pv 1) (pe_lst pa_nil) (nomark _)) (pw_and1 (pt_cmpR op_eq (pc CD hr1 rfl (pa_cons (pv 0) (pa_cons pe_int pa_nil))) pe_int (nomark _))))))))
      (pss_one (ps_ret (pc CP hr2 rfl (pa_cons (pv 0) (pa_cons (pe_op op_cat (pe_op op_cat (pv 1) (pv 1)) (pv 4)) pa_nil))))) pss_nil)
    (pss_cons (ps_setLc (i := 7) (tt := tTest (tOp (rI0 fun i j => .bl (decide (i < j))) (tOp (rIxT K) (tVar 8) (tC (.int 1))) (tVar 3))) (own := [("_law_shape", 8)]) (by rfl) sc_Lkind.nd rfl rfl (sw_true rfl rfl rfl (by decide +kernel)) (pi_list (pv 2)) (blkOk_by (N := nm_Lkind) (sc := defScope s_Lkind) (own := [("_law_shape", 8)]) (by decide +kernel))
      (fun _ _ _ _ _ => pg_name (i := 8) sc_Lkind.nd rfl (Or.inl rfl)) (fun _ _ _ _ _ => pts_one (pt_cmpR op_lt (pe_ix ix_tup (pv 8) pe_int (fun _ _ => rfl)) (pv 3) (nomark _))) (fun _ _ _ _ _ => pv 8))
    (pss_cons (ps_asg (pc CP hr2 rfl (pa_cons (pv 0) (pa_cons (pv 7) pa_nil))) (pg_tup (by rfl) (pgs_cons (pg_name (i := 5) sc_Lkind.nd rfl (Or.inl rfl)) (pgs_cons (pg_name (i := 6) sc_Lkind.nd rfl (Or.inl rfl)) pgs_nil))))
    (pss_cons (ps_set (i := 9) sc_Lkind.nd rfl (Or.inl rfl) (pe_tup (pa_cons (pv 5) pa_nil)))
    (pss_cons (ps_for (passes_of rfl) rfl (pi_range1 rfl G.range (pa_cons (pv 6) pa_nil)) (pg_name (i := 10) sc_Lkind.nd rfl (Or.inl rfl))
      (pss_one (ps_set (i := 9) sc_Lkind.nd rfl (Or.inl rfl) (pe_op op_catT (pv 9) (pe_tup (pa_cons (pc CK hr rfl (pa_cons (pv 0) (pa_cons (pv 1) (pa_cons (pv 2) (pa_cons (pe_op op_fdivN (pe_op op_sub (pv 3) pe_int) (pv 6)) pa_nil))))) pa_nil))))))
    (pss_one (ps_ret (pv 9))))))))), ?_⟩
  refine ⟨_, rfl, sl, rfl, ⟨svs, hS⟩, fun D hD => ?_⟩
  refine lc_list (K := K) (a := sl) (xs := svs) (fun i H' => ∃ acc, Same H H' ∧ H' D = some (.lst acc) ∧ Kps K H' acc (bareK (ss.take i))) ⟨[], same_new hD _, upd_same, .nil⟩ (fun i H' _ ⟨acc, sm, _⟩ => sm.seq hS) (fun i x H' hx ⟨acc, sm, hacc, hk⟩ => ?_) (fun H1 ⟨acc, sm, hacc, hk⟩ => ?_)
  · obtain ⟨s, hs, t, rfl, ht⟩ := hSh.at hx
    have hsm := hM.s s (List.mem_of_getElem? hs)
    have hlen := Kps.length hk
    have hbl : (bareK (ss.take i)).length ≤ 100 := by
      unfold bareK
      rw [List.length_map]
      exact Nat.le_trans (List.length_filter_le ..) (by rw [List.length_take]; have := hM.sl; omega)
    refine ⟨t, _, rfl, (stay_same sm).tup _ _ ht, rfl, .str s.1, [.int (s.2 : Nat)], rfl, .int (s.2 : Nat), [], rfl, rfl, rfl, _, rfl, rfl, _, rfl, ite2 (fun c => ?_) (fun c => ?_)⟩
    · have c0 : s.2 = 0 := by have := V.int.inj (of_decide_eq_true c); omega
      refine ⟨_, rfl, by show 1 ≤ sizeLine; decide, fun p' hp' => ?_⟩
      have hDp : D ≠ p' := ne_of_none hacc hp'
      refine ⟨acc, by rw [upd_ne hDp]; exact hacc, Nat.lt_of_le_of_lt (show acc.length ≤ 100000 by omega) (by decide), acc ++ [.ref p'], same_mut (sm.trans (same_new hp' _)) hD, upd_same, ?_⟩
      rw [bareK_snoc hs, if_pos c0]
      have st : Stay K H' (upd H' p' (.tup [.str s.1])) := stay_new hp' _
      have h2 : (upd H' p' (.tup [.str s.1])) D = some (.lst acc) := by rw [upd_ne hDp]; exact hacc
      refine ThAll.stay (stay_lst h2) (Kps.app (ThAll.stay st hk) (.cons ?_ .nil))
      exact kp_mk (k := .C0 s.1) rfl (.inl (.inl upd_same)) (nam_len hsm.1) .nil
    · have c0 : ¬ s.2 = 0 := fun z => c (by rw [z]; rfl)
      refine ⟨acc, sm, hacc, ?_⟩
      rw [bareK_snoc hs, if_neg c0, List.append_nil]
      exact hk
  have hss : svs.length = ss.length := Paired.length hSh
  rw [hss, List.take_length] at hk
  have hp1 : Pen H1 p := hp.same sm
  have hL1 := sm.seq (K := K) (SqL.of hL)
  have hS1 := sm.seq hS
  have hSh1 := hSh.stay (stay_same (K := K) sm)
  have nDp : D ≠ p := fun e => by
    subst e
    obtain ⟨_, _, _, e, _⟩ := hp
    rw [hD] at e
    cases e
  have b1 : Bar p H H1 := bar_same sm
  have hne0 : ∀ (Hx : Hp) (o : Addr), Hx o = none → DpAll K (upd Hx o (.lst [])) [] [] := fun _ _ _ => .nil
  have eqn : (!PyData.eqv (.list (ls.map .str)) (.list [])) = !ls.isEmpty := by rw [eqv_letters]
  have sh0 : SeqAt.shaped (.list []) = true := by decide
  have hkl : ls = [] ∨ ls ≠ [] := by cases ls <;> simp
  have fin1 : ∀ (Hx : Hp) (x : V) (H' : Hp), Same H Hx → Bar p Hx H' → Pen H' p → x ∈ ls.map V.str → Q x H' := fun Hx x H' sx b pn hx => by
    obtain ⟨k, hk1, hk2⟩ := Kps.mem (K := K) (H := H') (kps_letters hM.l) hx
    obtain ⟨c, hc, rfl⟩ := List.mem_map.mp hk1
    exact q H' x _ ((bar_same sx).trans b) pn hk2 hc (by simp [Kd.nds])
  by_cases hA : most = 0 ∧ ls ≠ []
  · obtain ⟨hm0, hl0⟩ := hA
    subst hm0
    refine ⟨_, rfl, rfl, _, rfl, iteE (decide_eq_true rfl) ?_⟩
    refine ⟨_, rfl, by show 0 ≤ sizeLine; decide, fun o ho => ⟨_, _, .lst ((same_new ho _).seq hL1) (dp_letters ls), .lst (.inl (.inl upd_same)) .nil, shaped_letters hM.l, sh0, _, rfl, iteE (by rw [eqn]; cases ls <;> simp at *) ?_⟩⟩
    refine ⟨_, rfl, _, rfl, p, al, _, rfl, hp1.same (same_new ho _), nal, (same_new ho _).seq hL1, ?_, ?_, fun H' x b pn hx => fin1 _ x H' (sm.trans (same_new ho _)) b pn hx⟩
    · rw [List.length_map]
      exact List.length_pos_iff.mpr hl0
    · rw [List.length_map]
      have := hM.ll
      omega
  have hb0 : 0 < (bareK ss).length := by
    obtain ⟨n, hn⟩ := hM.z
    refine List.length_pos_iff.mpr fun e => ?_
    have : Kd.C0 n ∈ bareK ss := List.mem_map.mpr ⟨(n, 0), List.mem_filter.mpr ⟨hn, rfl⟩, rfl⟩
    rw [e] at this
    cases this
  have hbare : (bareK ss).length ≤ 100 := by
    unfold bareK
    rw [List.length_map]
    exact Nat.le_trans (List.length_filter_le ..) hM.sl
  have hL1' : H1 al = some (.lst (ls.map .str)) := sm _ _ hL
  by_cases hB : most < 2
  · by_cases hm0 : most = 0
    · subst hm0
      have hl0 : ls = [] := Classical.byContradiction fun z => hA ⟨rfl, z⟩
      refine ⟨_, rfl, rfl, _, rfl, iteE (decide_eq_true rfl) ?_⟩
      refine ⟨_, rfl, by show 0 ≤ sizeLine; decide, fun o ho => ⟨_, _, .lst ((same_new ho _).seq hL1) (dp_letters ls), .lst (.inl (.inl upd_same)) .nil, shaped_letters hM.l, sh0, _, rfl, iteN (by rw [eqn, hl0]; rfl) ?_⟩⟩
      refine ⟨_, rfl, _, _, rfl, rfl, _, rfl, iteE (decide_eq_true (by decide)) ?_⟩
      have sx := same_new ho (.lst [])
      have hLx := sx _ _ hL1'
      have hDx := sx _ _ hacc
      have hkx := ThAll.stay (stay_same sx) hk
      have hpx := hp1.same sx
      have bx := b1.trans (bar_same sx)
      refine ⟨_, rfl, _, rfl, _, rfl, al, al, _, _, rfl, rfl, hLx, hLx, ?_, fun o1 h1 => ?_⟩
      · rw [List.length_map]
        have := hM.ll
        exact sz5 (by omega)
      have nD1 : D ≠ o1 := ne_of_none hDx h1
      refine ⟨_, rfl, o1, D, _, _, rfl, rfl, upd_same, by rw [upd_ne nD1]; exact hDx, ?_, fun o2 h2 => ?_⟩
      · have h3 := Kps.length hkx
        have h4 := hM.ll
        have h5 := hbare
        rw [List.length_append, List.length_map]
        exact sz5 (by omega)
      have sx2 : Same _ _ := (same_new h1 _).trans (same_new h2 (.lst ((ls.map V.str ++ ls.map V.str) ++ acc)))
      have no2 : o2 ≠ p := fun e => by
        subst e
        obtain ⟨_, _, _, e, _⟩ := hpx.same (same_new h1 _)
        rw [h2] at e
        cases e
      refine ⟨p, o2, _, rfl, hpx.same sx2, no2, SqL.of upd_same, ?_, ?_, fun H' x b pn hx => ?_⟩
      · rw [List.length_append, List.length_append, List.length_map]
        have h3 := Kps.length hkx
        omega
      · rw [List.length_append, List.length_append, List.length_map]
        have h3 := Kps.length hkx
        have h4 := hM.ll
        omega
      · have hall : Kps K H' ((ls.map V.str ++ ls.map V.str) ++ acc) ((ls.map Kd.L ++ ls.map Kd.L) ++ bareK ss) :=
          Kps.app (Kps.app (kps_letters hM.l) (kps_letters hM.l)) (ThAll.stay ((stay_same sx2).trans (bar_stay b (hpx.same sx2) pn)) hkx)
        obtain ⟨k, hk1, hk2⟩ := Kps.mem hall hx
        refine q H' x k (bx.trans ((bar_same sx2).trans b)) pn hk2 ?_ ?_
        · rcases List.mem_append.mp hk1 with h | h
          · have h' : k ∈ ls.map Kd.L := by rcases List.mem_append.mp h with h | h <;> exact h
            obtain ⟨c, hc, rfl⟩ := List.mem_map.mp h'
            exact hc
          · unfold bareK at h
            obtain ⟨s, hs, rfl⟩ := List.mem_map.mp h
            obtain ⟨hs1, hs2⟩ := List.mem_filter.mp hs
            have hs3 : s.2 = 0 := by simpa using hs2
            show (s.1, 0) ∈ ss
            rw [← hs3]
            exact hs1
        · rcases List.mem_append.mp hk1 with h | h
          · have h' : k ∈ ls.map Kd.L := by rcases List.mem_append.mp h with h | h <;> exact h
            obtain ⟨c, hc, rfl⟩ := List.mem_map.mp h'
            simp [Kd.nds]
          · unfold bareK at h
            obtain ⟨s, hs, rfl⟩ := List.mem_map.mp h
            simp [Kd.nds]
    · refine ⟨_, rfl, rfl, _, rfl, iteN (decide_eq_false fun z => hm0 (by have := V.int.inj z; omega)) ?_⟩
      refine ⟨_, rfl, _, _, rfl, rfl, _, rfl, iteE (decide_eq_true (by omega)) ?_⟩
      have hLx := hL1'
      have hDx := hacc
      have hkx := hk
      have hpx := hp1
      have bx := b1
      refine ⟨_, rfl, _, rfl, _, rfl, al, al, _, _, rfl, rfl, hLx, hLx, ?_, fun o1 h1 => ?_⟩
      · rw [List.length_map]
        have := hM.ll
        exact sz5 (by omega)
      have nD1 : D ≠ o1 := ne_of_none hDx h1
      refine ⟨_, rfl, o1, D, _, _, rfl, rfl, upd_same, by rw [upd_ne nD1]; exact hDx, ?_, fun o2 h2 => ?_⟩
      · have h3 := Kps.length hkx
        have h4 := hM.ll
        have h5 := hbare
        rw [List.length_append, List.length_map]
        exact sz5 (by omega)
      have sx2 : Same _ _ := (same_new h1 _).trans (same_new h2 (.lst ((ls.map V.str ++ ls.map V.str) ++ acc)))
      have no2 : o2 ≠ p := fun e => by
        subst e
        obtain ⟨_, _, _, e, _⟩ := hpx.same (same_new h1 _)
        rw [h2] at e
        cases e
      refine ⟨p, o2, _, rfl, hpx.same sx2, no2, SqL.of upd_same, ?_, ?_, fun H' x b pn hx => ?_⟩
      · rw [List.length_append, List.length_append, List.length_map]
        have h3 := Kps.length hkx
        omega
      · rw [List.length_append, List.length_append, List.length_map]
        have h3 := Kps.length hkx
        have h4 := hM.ll
        omega
      · have hall : Kps K H' ((ls.map V.str ++ ls.map V.str) ++ acc) ((ls.map Kd.L ++ ls.map Kd.L) ++ bareK ss) :=
          Kps.app (Kps.app (kps_letters hM.l) (kps_letters hM.l)) (ThAll.stay ((stay_same sx2).trans (bar_stay b (hpx.same sx2) pn)) hkx)
        obtain ⟨k, hk1, hk2⟩ := Kps.mem hall hx
        refine q H' x k (bx.trans ((bar_same sx2).trans b)) pn hk2 ?_ ?_
        · rcases List.mem_append.mp hk1 with h | h
          · have h' : k ∈ ls.map Kd.L := by rcases List.mem_append.mp h with h | h <;> exact h
            obtain ⟨c, hc, rfl⟩ := List.mem_map.mp h'
            exact hc
          · unfold bareK at h
            obtain ⟨s, hs, rfl⟩ := List.mem_map.mp h
            obtain ⟨hs1, hs2⟩ := List.mem_filter.mp hs
            have hs3 : s.2 = 0 := by simpa using hs2
            show (s.1, 0) ∈ ss
            rw [← hs3]
            exact hs1
        · rcases List.mem_append.mp hk1 with h | h
          · have h' : k ∈ ls.map Kd.L := by rcases List.mem_append.mp h with h | h <;> exact h
            obtain ⟨c, hc, rfl⟩ := List.mem_map.mp h'
            simp [Kd.nds]
          · unfold bareK at h
            obtain ⟨s, hs, rfl⟩ := List.mem_map.mp h
            simp [Kd.nds]
  refine ⟨_, rfl, rfl, _, rfl, iteN (decide_eq_false fun z => hB (by have := V.int.inj z; omega)) ?_⟩
  refine ⟨_, rfl, _, _, rfl, rfl, _, rfl, iteN (decide_eq_false (by omega)) ?_⟩
  refine ⟨_, rfl, by show 0 ≤ sizeLine; decide, fun o ho => ⟨_, _, .lst ((same_new ho _).seq hL1) (dp_letters ls), .lst (.inl (.inl upd_same)) .nil, shaped_letters hM.l, sh0, _, rfl, ?_⟩⟩
  rw [eqn]
  have so := same_new ho (.lst [])
  rcases hkl with hl0 | hl0
  · refine iteN (by rw [hl0]; rfl) ?_
    obtain ⟨Hx, eHx⟩ : ∃ Hx, Hx = upd H1 o (.lst []) := ⟨_, rfl⟩
    rw [← eHx]
    rw [← eHx] at so
    have hSx := so.seq hS1
    have hShx := hSh1.stay (stay_same (K := K) so)
    have hpx := hp1.same so
    have bx := b1.trans (bar_same so)
    refine ⟨_, rfl, sl, rfl, ⟨svs, hSx⟩, fun D2 hD2 => ?_⟩
    refine lc_list (K := K) (a := sl) (xs := svs) (fun i H' => ∃ acc2 ss2, Same Hx H' ∧ H' D2 = some (.lst acc2) ∧ Shp K H' acc2 ss2 ∧ (∀ s ∈ ss2, s ∈ ss ∧ s.2 < most) ∧ (∀ s ∈ ss.take i, s.2 < most → s ∈ ss2) ∧ acc2.length ≤ i) ⟨[], [], same_new hD2 _, upd_same, .nil, fun s h => (by cases h), fun s h => (by simp at h), Nat.le_refl _⟩ (fun i H' _ ⟨acc2, ss2, sm2, _⟩ => sm2.seq hSx) (fun i x H' hx ⟨acc2, ss2, sm2, hacc2, hs2, h3, h4, h5⟩ => ?_) (fun Hy ⟨acc2, ss2, sm2, hacc2, hs2, h3, h4, h5⟩ => ?_)
    · obtain ⟨s, hs, t, rfl, ht⟩ := hShx.at hx
      have hi : i < svs.length := (List.getElem?_eq_some_iff.mp hx).1
      have htk : ss.take (i + 1) = ss.take i ++ [s] := by rw [List.take_add_one, hs]; rfl
      refine ⟨rfl, _, rfl, t, _, 1, .int (s.2 : Nat), rfl, rfl, (stay_same sm2).tup _ _ ht, atI_nat (j := 1) rfl, _, rfl, _, _, rfl, rfl, _, rfl, ite2 (fun c => ?_) (fun c => ?_)⟩
      · have c0 : s.2 < most := by have := of_decide_eq_true c; omega
        refine ⟨_, rfl, acc2, hacc2, ?_, acc2 ++ [.ref t], ss2 ++ [s], same_mut sm2 hD2, upd_same, ?_, ?_, ?_, ?_⟩
        · have := hM.sl
          have : svs.length = ss.length := Paired.length hSh
          exact Nat.lt_of_le_of_lt (show acc2.length ≤ 100000 by omega) (by decide)
        · exact Shp.app (hs2.stay (stay_lst hacc2)) (.cons ⟨t, rfl, (stay_lst hacc2).tup _ _ ((stay_same sm2).tup _ _ ht)⟩ .nil)
        · intro z hz
          rcases List.mem_append.mp hz with h | h
          · exact h3 z h
          · rw [List.mem_singleton.mp h]
            exact ⟨List.mem_of_getElem? hs, c0⟩
        · intro z hz hz2
          rw [htk] at hz
          rcases List.mem_append.mp hz with h | h
          · exact List.mem_append_left _ (h4 z h hz2)
          · exact List.mem_append_right _ h
        · rw [List.length_append, List.length_singleton]; omega
      · have c0 : ¬ s.2 < most := fun z => c (decide_eq_true (by omega))
        refine ⟨acc2, ss2, sm2, hacc2, hs2, h3, ?_, by omega⟩
        intro z hz hz2
        rw [htk] at hz
        rcases List.mem_append.mp hz with h | h
        · exact h4 z h hz2
        · rw [List.mem_singleton.mp h] at hz2
          exact absurd hz2 c0
    rw [hss, List.take_length] at h4
    have hlen2 : acc2.length = ss2.length := Paired.length hs2
    have hpos : 0 < ss2.length := by
      obtain ⟨n, hn⟩ := hM.z
      exact List.length_pos_of_mem (h4 (n, 0) hn (by show 0 < most; omega))
    have nD2 : D2 ≠ p := fun e => by
      subst e
      obtain ⟨_, _, _, e, _⟩ := hpx
      rw [hD2] at e
      cases e
    refine ⟨_, rfl, _, rfl, p, D2, _, rfl, hpx.same sm2, nD2, SqL.of hacc2, by omega, by have := hM.sl; omega, fun Hz x bz pnz hx => ?_⟩
    obtain ⟨j, hj⟩ := List.mem_iff_getElem?.mp hx
    obtain ⟨s, hs, t, rfl, ht⟩ := (hs2.stay (bar_stay (K := K) bz (hpx.same sm2) pnz)).at hj
    obtain ⟨hs3, hs4⟩ := h3 s (List.mem_of_getElem? hs)
    have hsm := hM.s s hs3
    refine ⟨t, _, rfl, ht, rfl, .str s.1, [.int (s.2 : Nat)], rfl, .int (s.2 : Nat), [], rfl, rfl, ?_⟩
    refine ⟨_, rfl, by show 1 ≤ sizeLine; decide, fun F hF => ?_⟩
    have bz2 : Bar p H Hz := bx.trans ((bar_same sm2).trans bz)
    refine ⟨_, rfl, _, rfl, by omega, by omega, ?_⟩
    refine for_range (n := ((s.2 : Nat) : Int).toNat) (fun i σ H' => ∃ F' xs ks y8 y10, σ = [some (.ref p), some (.ref al), some (.ref sl), some (.int (most : Nat)), some (.ref D), some (.str s.1), some (.int (s.2 : Nat)), some (.ref D2), y8, some (.ref F'), y10] ∧ Bar p H H' ∧ Pen H' p ∧
        SqT K H' F' (.str s.1 :: xs) ∧ Kps K H' xs ks ∧ ks.length = i ∧ ∀ k ∈ ks, k.of ls ss ∧ k.nds ≤ 2 * ((most - 1) / s.2) + 1)
      ⟨F, [], [], _, _, rfl, bz2.trans (bar_same (same_new hF _)), pnz.same (same_new hF _), .inl (.inl upd_same), .nil, rfl, fun k h => (by cases h)⟩ (fun i σ H' hi ⟨F', xs, ks, y8, y10, eσ, b', pn', hF', hk', hl', hall⟩ => ?_) (fun σ H' ⟨F', xs, ks, y8, y10, eσ, b', pn', hF', hk', hl', hall⟩ => ?_)
    · subst eσ
      have hc1 : 0 < s.2 := by omega
      have hml : ((most : Nat) : Int) - 1 = ((most - 1 : Nat) : Int) := by omega
      have e3 : (((most : Nat) : Int) - 1).fdiv ((s.2 : Nat) : Int) = (((most - 1) / s.2 : Nat) : Int) := by
        rw [hml, Int.fdiv_eq_ediv_of_nonneg _ (by omega)]
        rfl
      have hdiv : (most - 1) / s.2 < M := Nat.lt_of_le_of_lt (Nat.div_le_self _ _) (by omega)
      refine ⟨_, rfl, _, rfl, _, rfl, _, rfl, _, rfl, _, _, rfl, rfl, _, rfl, _, _, rfl, rfl, ⟨by omega, by omega⟩, ?_⟩
      refine ⟨p, al, sl, ls, svs, ss, (most - 1) / s.2, by rw [← e3], pn', nal, nsl, b' _ _ nal hL, bar_seq b' nsl hS, hSh.stay (bar_stay b' hp pn'), hM, hdiv, fun H2 v k b2 pn2 hk2 hof hnd => ?_⟩
      refine ⟨by show 1 ≤ sizeLine; decide, fun t2 ht2 => ?_⟩
      have st2 : Stay K H' (upd H2 t2 (.tup [v])) := (bar_stay b2 pn' pn2).trans (stay_new ht2 _)
      have hxl := Kps.length hk'
      refine ⟨F', t2, _, _, rfl, rfl, st2.tup _ _ hF', .inl (.inl upd_same), by simp, by rw [List.length_cons, List.length_singleton]; exact sz5 (by omega), fun z => (by cases z), fun _ p3 hp3 => ?_⟩
      have st3 : Stay K (upd H2 t2 (.tup [v])) (upd (upd H2 t2 (.tup [v])) p3 (.tup ((.str s.1 :: xs) ++ [v]))) := stay_new hp3 _
      refine ⟨p3, xs ++ [v], ks ++ [k], _, _, rfl, b'.trans (b2.trans (bar_same ((same_new ht2 _).trans (same_new hp3 _)))), pn2.same ((same_new ht2 _).trans (same_new hp3 _)), .inl (.inl upd_same), Kps.app (ThAll.stay (st2.trans st3) hk') (.cons (hk2.stay ((stay_new ht2 _).trans st3)) .nil), by rw [List.length_append, hl']; rfl, fun z hz => ?_⟩
      rcases List.mem_append.mp hz with h | h
      · exact hall z h
      · rw [List.mem_singleton.mp h]
        exact ⟨hof, hnd⟩
    · subst eσ
      have hl2 : ks.length = s.2 := by omega
      have hl3 : ks.length ≤ 2 := by omega
      refine ⟨_, rfl, q H' _ (mkK s.1 ks) b' pn' ?_ ?_ ?_⟩
      · refine kp_mk (xs := xs) (mkK_nm _ _).2 ?_ ?_ ?_
        · rw [(mkK_nm s.1 ks).1]
          exact hF'
        · rw [(mkK_nm s.1 ks).1]
          exact nam_len hsm.1
        · rw [mkK_args _ _ hl3]
          exact hk'
      · refine mkK_of hl3 ?_ fun k hk => (hall k hk).1
        rw [hl2]
        exact hs3
      · refine mkK_nds hl3 (by omega) fun k hk => ?_
        rw [hl2]
        exact (hall k hk).2
  · refine iteE (by cases ls <;> simp at *) ?_
    refine ⟨_, rfl, p, 3, rfl, hp1.same so, by decide, by decide, fun Hx r bd hpx r0 r1 => ⟨rfl, _, rfl, ite2 (fun c => ?_) (fun c => ?_)⟩⟩
    · have bx : Bar p H Hx := b1.trans ((bar_same so).trans bd)
      have hLx : Hx al = some (.lst (ls.map .str)) := bx _ _ nal hL
      have hDx : Hx D = some (.lst acc) := bd _ _ nDp (so _ _ hacc)
      have hkx := ThAll.stay ((stay_same so).trans (bar_stay bd (hp1.same so) hpx)) hk
      refine ⟨_, rfl, _, rfl, _, rfl, al, al, _, _, rfl, rfl, hLx, hLx, ?_, fun o1 h1 => ?_⟩
      · rw [List.length_map]
        have := hM.ll
        exact sz5 (by omega)
      have nD1 : D ≠ o1 := ne_of_none hDx h1
      refine ⟨_, rfl, o1, D, _, _, rfl, rfl, upd_same, by rw [upd_ne nD1]; exact hDx, ?_, fun o2 h2 => ?_⟩
      · have h3 := Kps.length hkx
        have h4 := hM.ll
        have h5 := hbare
        rw [List.length_append, List.length_map]
        exact sz5 (by omega)
      have sx2 : Same _ _ := (same_new h1 _).trans (same_new h2 (.lst ((ls.map V.str ++ ls.map V.str) ++ acc)))
      have no2 : o2 ≠ p := fun e => by
        subst e
        obtain ⟨_, _, _, e, _⟩ := hpx.same (same_new h1 _)
        rw [h2] at e
        cases e
      refine ⟨p, o2, _, rfl, hpx.same sx2, no2, SqL.of upd_same, ?_, ?_, fun H' x b pn hx => ?_⟩
      · rw [List.length_append, List.length_append, List.length_map]
        have h3 := Kps.length hkx
        omega
      · rw [List.length_append, List.length_append, List.length_map]
        have h3 := Kps.length hkx
        have h4 := hM.ll
        omega
      · have hall : Kps K H' ((ls.map V.str ++ ls.map V.str) ++ acc) ((ls.map Kd.L ++ ls.map Kd.L) ++ bareK ss) :=
          Kps.app (Kps.app (kps_letters hM.l) (kps_letters hM.l)) (ThAll.stay ((stay_same sx2).trans (bar_stay b (hpx.same sx2) pn)) hkx)
        obtain ⟨k, hk1, hk2⟩ := Kps.mem hall hx
        refine q H' x k (bx.trans ((bar_same sx2).trans b)) pn hk2 ?_ ?_
        · rcases List.mem_append.mp hk1 with h | h
          · have h' : k ∈ ls.map Kd.L := by rcases List.mem_append.mp h with h | h <;> exact h
            obtain ⟨c, hc, rfl⟩ := List.mem_map.mp h'
            exact hc
          · unfold bareK at h
            obtain ⟨s, hs, rfl⟩ := List.mem_map.mp h
            obtain ⟨hs1, hs2⟩ := List.mem_filter.mp hs
            have hs3 : s.2 = 0 := by simpa using hs2
            show (s.1, 0) ∈ ss
            rw [← hs3]
            exact hs1
        · rcases List.mem_append.mp hk1 with h | h
          · have h' : k ∈ ls.map Kd.L := by rcases List.mem_append.mp h with h | h <;> exact h
            obtain ⟨c, hc, rfl⟩ := List.mem_map.mp h'
            simp [Kd.nds]
          · unfold bareK at h
            obtain ⟨s, hs, rfl⟩ := List.mem_map.mp h
            simp [Kd.nds]
    · have bx : Bar p H Hx := b1.trans ((bar_same so).trans bd)
      have hSx := bar_seq bx nsl hS
      have hShx := hSh.stay (bar_stay (K := K) bx hp hpx)
      refine ⟨_, rfl, sl, rfl, ⟨svs, hSx⟩, fun D2 hD2 => ?_⟩
      refine lc_list (K := K) (a := sl) (xs := svs) (fun i H' => ∃ acc2 ss2, Same Hx H' ∧ H' D2 = some (.lst acc2) ∧ Shp K H' acc2 ss2 ∧ (∀ s ∈ ss2, s ∈ ss ∧ s.2 < most) ∧ (∀ s ∈ ss.take i, s.2 < most → s ∈ ss2) ∧ acc2.length ≤ i) ⟨[], [], same_new hD2 _, upd_same, .nil, fun s h => (by cases h), fun s h => (by simp at h), Nat.le_refl _⟩ (fun i H' _ ⟨acc2, ss2, sm2, _⟩ => sm2.seq hSx) (fun i x H' hx ⟨acc2, ss2, sm2, hacc2, hs2, h3, h4, h5⟩ => ?_) (fun Hy ⟨acc2, ss2, sm2, hacc2, hs2, h3, h4, h5⟩ => ?_)
      · obtain ⟨s, hs, t, rfl, ht⟩ := hShx.at hx
        have hi : i < svs.length := (List.getElem?_eq_some_iff.mp hx).1
        have htk : ss.take (i + 1) = ss.take i ++ [s] := by rw [List.take_add_one, hs]; rfl
        refine ⟨rfl, _, rfl, t, _, 1, .int (s.2 : Nat), rfl, rfl, (stay_same sm2).tup _ _ ht, atI_nat (j := 1) rfl, _, rfl, _, _, rfl, rfl, _, rfl, ite2 (fun c => ?_) (fun c => ?_)⟩
        · have c0 : s.2 < most := by have := of_decide_eq_true c; omega
          refine ⟨_, rfl, acc2, hacc2, ?_, acc2 ++ [.ref t], ss2 ++ [s], same_mut sm2 hD2, upd_same, ?_, ?_, ?_, ?_⟩
          · have := hM.sl
            have : svs.length = ss.length := Paired.length hSh
            exact Nat.lt_of_le_of_lt (show acc2.length ≤ 100000 by omega) (by decide)
          · exact Shp.app (hs2.stay (stay_lst hacc2)) (.cons ⟨t, rfl, (stay_lst hacc2).tup _ _ ((stay_same sm2).tup _ _ ht)⟩ .nil)
          · intro z hz
            rcases List.mem_append.mp hz with h | h
            · exact h3 z h
            · rw [List.mem_singleton.mp h]
              exact ⟨List.mem_of_getElem? hs, c0⟩
          · intro z hz hz2
            rw [htk] at hz
            rcases List.mem_append.mp hz with h | h
            · exact List.mem_append_left _ (h4 z h hz2)
            · exact List.mem_append_right _ h
          · rw [List.length_append, List.length_singleton]; omega
        · have c0 : ¬ s.2 < most := fun z => c (decide_eq_true (by omega))
          refine ⟨acc2, ss2, sm2, hacc2, hs2, h3, ?_, by omega⟩
          intro z hz hz2
          rw [htk] at hz
          rcases List.mem_append.mp hz with h | h
          · exact h4 z h hz2
          · rw [List.mem_singleton.mp h] at hz2
            exact absurd hz2 c0
      rw [hss, List.take_length] at h4
      have hlen2 : acc2.length = ss2.length := Paired.length hs2
      have hpos : 0 < ss2.length := by
        obtain ⟨n, hn⟩ := hM.z
        exact List.length_pos_of_mem (h4 (n, 0) hn (by show 0 < most; omega))
      have nD2 : D2 ≠ p := fun e => by
        subst e
        obtain ⟨_, _, _, e, _⟩ := hpx
        rw [hD2] at e
        cases e
      refine ⟨_, rfl, _, rfl, p, D2, _, rfl, hpx.same sm2, nD2, SqL.of hacc2, by omega, by have := hM.sl; omega, fun Hz x bz pnz hx => ?_⟩
      obtain ⟨j, hj⟩ := List.mem_iff_getElem?.mp hx
      obtain ⟨s, hs, t, rfl, ht⟩ := (hs2.stay (bar_stay (K := K) bz (hpx.same sm2) pnz)).at hj
      obtain ⟨hs3, hs4⟩ := h3 s (List.mem_of_getElem? hs)
      have hsm := hM.s s hs3
      refine ⟨t, _, rfl, ht, rfl, .str s.1, [.int (s.2 : Nat)], rfl, .int (s.2 : Nat), [], rfl, rfl, ?_⟩
      refine ⟨_, rfl, by show 1 ≤ sizeLine; decide, fun F hF => ?_⟩
      have bz2 : Bar p H Hz := bx.trans ((bar_same sm2).trans bz)
      refine ⟨_, rfl, _, rfl, by omega, by omega, ?_⟩
      refine for_range (n := ((s.2 : Nat) : Int).toNat) (fun i σ H' => ∃ F' xs ks y8 y10, σ = [some (.ref p), some (.ref al), some (.ref sl), some (.int (most : Nat)), some (.ref D), some (.str s.1), some (.int (s.2 : Nat)), some (.ref D2), y8, some (.ref F'), y10] ∧ Bar p H H' ∧ Pen H' p ∧
          SqT K H' F' (.str s.1 :: xs) ∧ Kps K H' xs ks ∧ ks.length = i ∧ ∀ k ∈ ks, k.of ls ss ∧ k.nds ≤ 2 * ((most - 1) / s.2) + 1)
        ⟨F, [], [], _, _, rfl, bz2.trans (bar_same (same_new hF _)), pnz.same (same_new hF _), .inl (.inl upd_same), .nil, rfl, fun k h => (by cases h)⟩ (fun i σ H' hi ⟨F', xs, ks, y8, y10, eσ, b', pn', hF', hk', hl', hall⟩ => ?_) (fun σ H' ⟨F', xs, ks, y8, y10, eσ, b', pn', hF', hk', hl', hall⟩ => ?_)
      · subst eσ
        have hc1 : 0 < s.2 := by omega
        have hml : ((most : Nat) : Int) - 1 = ((most - 1 : Nat) : Int) := by omega
        have e3 : (((most : Nat) : Int) - 1).fdiv ((s.2 : Nat) : Int) = (((most - 1) / s.2 : Nat) : Int) := by
          rw [hml, Int.fdiv_eq_ediv_of_nonneg _ (by omega)]
          rfl
        have hdiv : (most - 1) / s.2 < M := Nat.lt_of_le_of_lt (Nat.div_le_self _ _) (by omega)
        refine ⟨_, rfl, _, rfl, _, rfl, _, rfl, _, rfl, _, _, rfl, rfl, _, rfl, _, _, rfl, rfl, ⟨by omega, by omega⟩, ?_⟩
        refine ⟨p, al, sl, ls, svs, ss, (most - 1) / s.2, by rw [← e3], pn', nal, nsl, b' _ _ nal hL, bar_seq b' nsl hS, hSh.stay (bar_stay b' hp pn'), hM, hdiv, fun H2 v k b2 pn2 hk2 hof hnd => ?_⟩
        refine ⟨by show 1 ≤ sizeLine; decide, fun t2 ht2 => ?_⟩
        have st2 : Stay K H' (upd H2 t2 (.tup [v])) := (bar_stay b2 pn' pn2).trans (stay_new ht2 _)
        have hxl := Kps.length hk'
        refine ⟨F', t2, _, _, rfl, rfl, st2.tup _ _ hF', .inl (.inl upd_same), by simp, by rw [List.length_cons, List.length_singleton]; exact sz5 (by omega), fun z => (by cases z), fun _ p3 hp3 => ?_⟩
        have st3 : Stay K (upd H2 t2 (.tup [v])) (upd (upd H2 t2 (.tup [v])) p3 (.tup ((.str s.1 :: xs) ++ [v]))) := stay_new hp3 _
        refine ⟨p3, xs ++ [v], ks ++ [k], _, _, rfl, b'.trans (b2.trans (bar_same ((same_new ht2 _).trans (same_new hp3 _)))), pn2.same ((same_new ht2 _).trans (same_new hp3 _)), .inl (.inl upd_same), Kps.app (ThAll.stay (st2.trans st3) hk') (.cons (hk2.stay ((stay_new ht2 _).trans st3)) .nil), by rw [List.length_append, hl']; rfl, fun z hz => ?_⟩
        rcases List.mem_append.mp hz with h | h
        · exact hall z h
        · rw [List.mem_singleton.mp h]
          exact ⟨hof, hnd⟩
      · subst eσ
        have hl2 : ks.length = s.2 := by omega
        have hl3 : ks.length ≤ 2 := by omega
        refine ⟨_, rfl, q H' _ (mkK s.1 ks) b' pn' ?_ ?_ ?_⟩
        · refine kp_mk (xs := xs) (mkK_nm _ _).2 ?_ ?_ ?_
          · rw [(mkK_nm s.1 ks).1]
            exact hF'
          · rw [(mkK_nm s.1 ks).1]
            exact nam_len hsm.1
          · rw [mkK_args _ _ hl3]
            exact hk'
        · refine mkK_of hl3 ?_ fun k hk => (hall k hk).1
          rw [hl2]
          exact hs3
        · refine mkK_nds hl3 (by omega) fun k hk => ?_
          rw [hl2]
          exact (hall k hk).2
end
end N

namespace N
open PySem PySem.Spec PyProof.Rows L2
section
variable {P : Program} {w : World} {K : PySem.W.Frag} {mg : Str → Option Value} {base : Heap}
theorem ok_kind (G : Glo mg) (CD : Cal P w K mg base 1 "_law_draw" ["_law_pen_here", "_law_many"] (spDraw K)) (CP : Cal P w K mg base 2 "_law_pick" ["_law_pen_here", "_law_some"] (spPick K))
    (D : DefAt K mg "_law_kind" s_Lkind ["_law_pen_here", "_law_letters", "_law_shapes", "_law_most"]) : ∀ M : Nat, Cal P w K mg base (M + 2) "_law_kind" ["_law_pen_here", "_law_letters", "_law_shapes", "_law_most"] (spKind K M)
  | 0 => kind_none D
  | M + 1 => ok_kind_step G CD CP (ok_kind G CD CP D M) D
end
end N

namespace N
open PySem PySem.Spec PyProof.Rows L2 StX
/-! ### k02: the law's own filling -/
section
variable {P : Program} {w : World} {K : PySem.W.Frag} {mg : Str → Option Value} {base : Heap}
theorem arg_depth {k : Kd} {n : Nat} (h : k.depth < n + 1) : ∀ a ∈ k.args, a.depth < n := by
  intro a ha
  cases k with
  | L c => cases ha
  | C0 m => cases ha
  | C1 m b =>
    have : a = b := by simpa [Kd.args] using ha
    subst this
    have h' : 1 + a.depth < n + 1 := h
    omega
  | C2 m b c =>
    have h' : 1 + max b.depth c.depth < n + 1 := h
    have : a = b ∨ a = c := by simpa [Kd.args] using ha
    rcases this with rfl | rfl <;> omega
theorem fill_C {m : Map} {k : Kd} (h : k.isC = true) : fillK m k = mkN k.nm (k.args.map (fillK m)) := by
  cases k <;> first | (cases h; done) | rfl
theorem cut_head (x : V) (xs : List V) : cutV (x :: xs) none (some 1) = [x] := by
  unfold cutV
  rw [HT.sIx_none, show HT.sIx (x :: xs).length (x :: xs).length (some 1) = min 1 (x :: xs).length from HT.sIx_nat _ _ 1, show min 1 (x :: xs).length = 1 by rw [List.length_cons]; omega]
  rfl
def spLF (K : PySem.W.Frag) (n : Nat) : Sp := fun vs H Q _ => ∃ (v : V) (d : Addr) (k : Kd) (m : Map), vs = [v, .ref d] ∧ Kp K H v k ∧ k.depth < n ∧ Held K H d m ∧ ∀ H' u, Same H H' → Kp K H' u (fillK m k) → Q u H'
theorem lf_none (D : DefAt K mg "_law_filled" s_Lfilled ["_law_kind_here", "_law_held_here"]) : Cal P w K mg base 1 "_law_filled" ["_law_kind_here", "_law_held_here"] (spLF K 0) := by
  obtain ⟨f, fd, a, F, b⟩ := D
  have no : ∀ vs H Q E, ¬ spLF K 0 vs H Q E := fun vs H Q E h => by
    obtain ⟨_, _, _, _, _, _, hm, _⟩ := h
    omega
  exact ⟨f, fd, a, F.kp, b, fun vs H Q E h => absurd h (no vs H Q E), fun A outer s H args us vs Q E _ _ _ _ h => absurd h (no vs H Q E)⟩
theorem ok_lf_step {n : Nat} (G : Glo mg) (CF : Cal P w K mg base (n + 1) "_law_filled" ["_law_kind_here", "_law_held_here"] (spLF K n)) (D : DefAt K mg "_law_filled" s_Lfilled ["_law_kind_here", "_law_held_here"]) : Cal P w K mg base (n + 1 + 1) "_law_filled" ["_law_kind_here", "_law_held_here"] (spLF K (n + 1)) := by
  refine D.cal sc_Lfilled (fun vs H Q E h => ?_) (fun f cdv A outer s H vs Q E hr h => ?_)
  · obtain ⟨v, d, k, m, rfl, _⟩ := h
    rfl
  obtain ⟨v, d, k, m, rfl, hT, hn, hd, q⟩ := h
  refine ⟨_, pss_cons (ps_if (pt_val (pe_isi G.isinstance G.str b_str rfl rfl (pv 0))) (pss_one (ps_ret (pe_dget2 (hug hr) (pv 1) (pv 0) (pv 0) ⟨rfl, rfl, rfl, rfl⟩))) pss_nil)
    (pss_one (ps_ret (pe_op op_catA (pe_slice sl_tupA (pv 0) po_none (po_some pe_int)) (pe_callTy call_tuple_of (by rfl) G.tuple b_tuple (pa_cons (pe_lc (own := [("_law_one", 2)]) (g := gName 2) (tt := tYes) (te := fun σ H Q => tCons (tVar 2) (tCons (tVar 1) tNil) σ H fun vs H1 => spLF K n vs H1 Q E0) rfl sc_Lfilled.nd (pi_tup (pe_slice sl_tupA (pv 0) (po_some pe_int) po_none)) (blkOk_by (N := nm_Lfilled) (sc := defScope s_Lfilled) (own := [("_law_one", 2)]) (by decide +kernel))
      (fun _ _ _ _ _ => pg_name (i := 2) sc_Lfilled.nd rfl (Or.inl rfl)) (fun _ _ _ _ _ => pts_nil) (fun _ _ _ _ _ => pc CF hr rfl (pa_cons (pv 2) (pa_cons (pv 1) pa_nil)))) pa_nil))))), ?_⟩
  refine ⟨v, rfl, isi_str hT ⟨_, rfl, ?_⟩⟩
  rw [Kd.isS_tg]
  cases hc : k.isC with
  | false =>
    obtain ⟨ev, hl⟩ := kp_L hT hc
    subst ev
    obtain ⟨kvs, hkv, hpr⟩ := hd
    have hlk := held_look hpr hl
    have e1 : fillK m k = look m k.nm := by
      obtain ⟨e, _⟩ := Kd.tg_L hc
      rw [e]
      rfl
    refine iteT ⟨_, rfl, d, rfl, .inl ⟨kvs, .inl hkv⟩, _, rfl, _, rfl, _, DGet.k (k := Sum.inr k.nm) hkv, q H _ (Same.refl _) ?_⟩
    rw [e1]
    exact hlk
  | true =>
    obtain ⟨a, zs, ea, hq, hnl, hz⟩ := kp_C hT hc
    subst ea
    have hzl := Kps.length hz
    have hal := Kd.args_len k
    have hdep := arg_depth hn
    refine iteF ⟨_, rfl, 1, rfl, a, _, rfl, hq, fun hw => ?_, fun hw hp hhp0 => ?_⟩
    · have hz0 : zs = [] := by
        have h2 := hw.2
        rw [show HT.sIx (V.str k.nm :: zs).length (V.str k.nm :: zs).length (some 1) = min 1 (V.str k.nm :: zs).length from HT.sIx_nat _ _ 1, List.length_cons] at h2
        exact List.length_eq_zero_iff.mp (by omega)
      have hhp : SqT K H a [.str k.nm] := by rw [hz0] at hq; exact hq
      obtain ⟨Hx, eHx⟩ : ∃ Hx, Hx = H := ⟨_, rfl⟩
      have sx : Same H Hx := by rw [eHx]; exact Same.refl _
      rw [← eHx] at hhp
      rw [← eHx]
      refine ⟨_, rfl, 1, rfl, a, _, rfl, (stay_same sx).tup _ _ hq, fun hw => absurd hw (cut_tail_ne _ (by simp)), fun _ pz hpz => ?_⟩
      rw [cut_tail]
      refine ⟨pz, rfl, ⟨zs, .inl (.inl upd_same)⟩, fun D hD => ?_⟩
      have nzD : pz ≠ D := ne_of_none upd_same hD
      have sz := sx.trans (same_new hpz (.tup zs))
      refine lc_tup (K := K) (a := pz) (xs := zs) (te := fun σ H Q => tCons (tVar 2) (tCons (tVar 1) tNil) σ H fun vs H1 => spLF K n vs H1 Q E0) (fun i H2 => ∃ acc, Same (upd Hx pz (.tup zs)) H2 ∧ H2 D = some (.lst acc) ∧ Kps K H2 acc ((k.args.take i).map (fillK m)))
        ⟨[], same_new hD _, upd_same, .nil⟩ (fun i H2 _ ⟨acc, sm, _⟩ => .inl (.inl (sm _ _ upd_same))) (fun i y H2 hy ⟨acc, sm, hacc, hk⟩ => ?_) (fun H2 ⟨acc, sm, hacc, hk⟩ => ?_)
      · obtain ⟨k', hk1, hk2⟩ := Kps.at hz hy
        have s2 := sz.trans sm
        have hal2 := Kps.length hk
        rw [List.length_map, List.length_take] at hal2
        refine ⟨rfl, _, rfl, _, rfl, y, d, k', m, rfl, hk2.stay (stay_same s2), hdep k' (List.mem_of_getElem? hk1), hd.stay s2, fun H3 u sm3 hu => ?_⟩
        have h3 := sm3 _ _ hacc
        refine ⟨acc, h3, Nat.lt_of_le_of_lt (show acc.length ≤ 100000 by omega) (by decide), acc ++ [u], same_mut (sm.trans sm3) hD, upd_same, ?_⟩
        rw [take_snoc hk1, List.map_append]
        exact Kps.app (ThAll.stay ((stay_same sm3).trans (stay_lst h3)) hk) (.cons (hu.stay (stay_lst h3)) .nil)
      rw [hzl, List.take_length] at hk
      have hkl := Kps.length hk
      rw [List.length_map] at hkl
      have s2 := sz.trans sm
      refine ⟨D, acc, rfl, .inl ⟨SqL.of hacc, fun pt hpt => ?_⟩⟩
      have s3 := s2.trans (same_new hpt (.tup acc))
      have sx3 : Same Hx (upd H2 pt (.tup acc)) := (same_new hpz (.tup zs)).trans (sm.trans (same_new hpt (.tup acc)))
      refine ⟨a, pt, [.str k.nm], acc, rfl, rfl, (stay_same sx3).tup _ _ hhp, .inl (.inl upd_same), by rw [List.length_singleton]; exact sz5 (by omega), fun e => (by cases e), fun _ e => ?_, fun _ _ p3 hp3 => ?_⟩
      · subst e
        refine q _ _ s3 ?_
        rw [fill_C hc]
        have ea : k.args = [] := List.length_eq_zero_iff.mp hkl.symm
        refine kp_mk (xs := []) (mkN_nm _ _).2 (by rw [(mkN_nm _ _).1]; exact (stay_same sx3).tup _ _ hhp) (by rw [(mkN_nm _ _).1]; exact hnl) (by rw [ea]; exact .nil)
      · refine q _ _ (s3.trans (same_new hp3 _)) ?_
        rw [fill_C hc]
        refine kp_mk (xs := acc) (mkN_nm _ _).2 (by rw [(mkN_nm _ _).1]; exact .inl (.inl upd_same)) (by rw [(mkN_nm _ _).1]; exact hnl) ?_
        rw [mkN_args _ _ (by rw [List.length_map]; exact hal)]
        exact ThAll.stay ((stay_new hpt _).trans (stay_new hp3 _)) hk
    · rw [cut_head]
      have hhp : SqT K (upd H hp (.tup [.str k.nm])) hp [.str k.nm] := .inl (.inl upd_same)
      have sx := same_new hhp0 (.tup [.str k.nm])
      obtain ⟨Hx, eHx⟩ : ∃ Hx, Hx = upd H hp (.tup [.str k.nm]) := ⟨_, rfl⟩
      rw [← eHx] at hhp sx
      rw [← eHx]
      refine ⟨_, rfl, 1, rfl, a, _, rfl, (stay_same sx).tup _ _ hq, fun hw => absurd hw (cut_tail_ne _ (by simp)), fun _ pz hpz => ?_⟩
      rw [cut_tail]
      refine ⟨pz, rfl, ⟨zs, .inl (.inl upd_same)⟩, fun D hD => ?_⟩
      have nzD : pz ≠ D := ne_of_none upd_same hD
      have sz := sx.trans (same_new hpz (.tup zs))
      refine lc_tup (K := K) (a := pz) (xs := zs) (te := fun σ H Q => tCons (tVar 2) (tCons (tVar 1) tNil) σ H fun vs H1 => spLF K n vs H1 Q E0) (fun i H2 => ∃ acc, Same (upd Hx pz (.tup zs)) H2 ∧ H2 D = some (.lst acc) ∧ Kps K H2 acc ((k.args.take i).map (fillK m)))
        ⟨[], same_new hD _, upd_same, .nil⟩ (fun i H2 _ ⟨acc, sm, _⟩ => .inl (.inl (sm _ _ upd_same))) (fun i y H2 hy ⟨acc, sm, hacc, hk⟩ => ?_) (fun H2 ⟨acc, sm, hacc, hk⟩ => ?_)
      · obtain ⟨k', hk1, hk2⟩ := Kps.at hz hy
        have s2 := sz.trans sm
        have hal2 := Kps.length hk
        rw [List.length_map, List.length_take] at hal2
        refine ⟨rfl, _, rfl, _, rfl, y, d, k', m, rfl, hk2.stay (stay_same s2), hdep k' (List.mem_of_getElem? hk1), hd.stay s2, fun H3 u sm3 hu => ?_⟩
        have h3 := sm3 _ _ hacc
        refine ⟨acc, h3, Nat.lt_of_le_of_lt (show acc.length ≤ 100000 by omega) (by decide), acc ++ [u], same_mut (sm.trans sm3) hD, upd_same, ?_⟩
        rw [take_snoc hk1, List.map_append]
        exact Kps.app (ThAll.stay ((stay_same sm3).trans (stay_lst h3)) hk) (.cons (hu.stay (stay_lst h3)) .nil)
      rw [hzl, List.take_length] at hk
      have hkl := Kps.length hk
      rw [List.length_map] at hkl
      have s2 := sz.trans sm
      refine ⟨D, acc, rfl, .inl ⟨SqL.of hacc, fun pt hpt => ?_⟩⟩
      have s3 := s2.trans (same_new hpt (.tup acc))
      have sx3 : Same Hx (upd H2 pt (.tup acc)) := (same_new hpz (.tup zs)).trans (sm.trans (same_new hpt (.tup acc)))
      refine ⟨hp, pt, [.str k.nm], acc, rfl, rfl, (stay_same sx3).tup _ _ hhp, .inl (.inl upd_same), by rw [List.length_singleton]; exact sz5 (by omega), fun e => (by cases e), fun _ e => ?_, fun _ _ p3 hp3 => ?_⟩
      · subst e
        refine q _ _ s3 ?_
        rw [fill_C hc]
        have ea : k.args = [] := List.length_eq_zero_iff.mp hkl.symm
        refine kp_mk (xs := []) (mkN_nm _ _).2 (by rw [(mkN_nm _ _).1]; exact (stay_same sx3).tup _ _ hhp) (by rw [(mkN_nm _ _).1]; exact hnl) (by rw [ea]; exact .nil)
      · refine q _ _ (s3.trans (same_new hp3 _)) ?_
        rw [fill_C hc]
        refine kp_mk (xs := acc) (mkN_nm _ _).2 (by rw [(mkN_nm _ _).1]; exact .inl (.inl upd_same)) (by rw [(mkN_nm _ _).1]; exact hnl) ?_
        rw [mkN_args _ _ (by rw [List.length_map]; exact hal)]
        exact ThAll.stay ((stay_new hpt _).trans (stay_new hp3 _)) hk
theorem ok_lf (G : Glo mg) (D : DefAt K mg "_law_filled" s_Lfilled ["_law_kind_here", "_law_held_here"]) : ∀ n : Nat, Cal P w K mg base (n + 1) "_law_filled" ["_law_kind_here", "_law_held_here"] (spLF K n)
  | 0 => lf_none D
  | n + 1 => ok_lf_step G (ok_lf G D n) D
end
end N

namespace N
open PySem PySem.Spec PyProof.Rows L2 StX
section
variable {P : Program} {w : World} {K : PySem.W.Frag} {mg : Str → Option Value} {base : Heap}
def rLenQ (K : PySem.W.Frag) : List V → Hp → VK → Prop := fun xs H Q => ∃ p ys, xs = [V.ref p] ∧ (SqL K H p ys ∨ SqT K H p ys) ∧ Q (.int ys.length) H
def spMix (K : PySem.W.Frag) : Sp := fun vs H Q _ => ∃ (p a : Addr) (ls : List Str), vs = [.ref p, .ref a] ∧ Pen H p ∧ a ≠ p ∧ SqL K H a (ls.map .str) ∧ ls.length ≤ 100 ∧ ∀ (H' : Hp) (D : Addr) (ys : List Str), Bar p H H' → Pen H' p → H D = none → H' D = some (.lst (ys.map V.str)) → ys.Perm ls → Q (.ref D) H'
theorem seq_at {r : Int} {n : Nat} (h0 : 0 ≤ r) (h1 : r < (n : Int)) : seqIndex? r n = some r.toNat := by
  have hn : ¬ r < 0 := by omega
  unfold seqIndex?
  simp only [hn, if_false]
  rw [if_pos]
  rw [Bool.and_eq_true, decide_eq_true_eq, decide_eq_true_eq]
  exact ⟨h0, h1⟩
theorem map_erase {α β : Type} (f : α → β) : ∀ (l : List α) (k : Nat), (l.map f).eraseIdx k = (l.eraseIdx k).map f
  | [], _ => by simp
  | _ :: _, 0 => by simp
  | a :: l, k + 1 => by simp [map_erase f l k]
theorem perm_erase {α : Type} : ∀ {l : List α} {k : Nat} (h : k < l.length), (l[k] :: l.eraseIdx k).Perm l
  | a :: l, 0, _ => .refl _
  | a :: l, k + 1, h => by
    have hk : k < l.length := by simpa using h
    have ih := perm_erase hk
    show (l[k] :: a :: l.eraseIdx k).Perm (a :: l)
    exact (List.Perm.swap _ _ _).trans (List.Perm.cons a ih)
theorem pen_neB {H : Hp} {p d : Addr} (h : Pen H p) (e : H d = none) : d ≠ p := fun z => by
  subst z
  obtain ⟨_, _, _, e', _⟩ := h
  rw [e] at e'
  cases e'
theorem ok_mixed (G : Glo mg) (CD : Cal P w K mg base 1 "_law_draw" ["_law_pen_here", "_law_many"] (spDraw K)) (D : DefAt K mg "_law_mixed" s_Lmixed ["_law_pen_here", "_law_some"]) : Cal P w K mg base 2 "_law_mixed" ["_law_pen_here", "_law_some"] (spMix K) := by
  refine D.cal sc_Lmixed (fun vs H Q E h => ?_) (fun f cdv A outer s H vs Q E hr h => ?_)
  · obtain ⟨p, a, ls, rfl, _⟩ := h
    rfl
  obtain ⟨p, a, ls, rfl, hp, hne, hS, hl, q⟩ := h
  refine ⟨_, pss_cons (ps_set (i := 2) sc_Lmixed.nd rfl (Or.inr rfl) (pe_callTy call_list_of (by rfl) G.list b_list (pa_cons (pv 1) pa_nil)))
    (pss_one (ps_ret (pe_lc (own := [("_law_one", 3)]) (g := gName 3) (tt := tYes) (te := tBM K "list" rPopAt (tVar 2) (tCons (fun σ H Q => tCons (tVar 0) (tCons (tCB (rLenQ K) (tCons (tVar 2) tNil)) tNil) σ H fun vs H1 => spDraw K vs H1 Q E0) tNil)) rfl sc_Lmixed.nd (pi_list (pv 1)) (blkOk_by (N := nm_Lmixed) (sc := defScope s_Lmixed) (own := [("_law_one", 3)]) (by decide +kernel))
      (fun _ _ _ _ _ => pg_name (i := 3) sc_Lmixed.nd rfl (Or.inl rfl)) (fun _ _ _ _ _ => pts_nil)
      (fun _ _ _ _ _ => pe_bm PySem.F.plainAttrs_list PySem.F.slot_list_pop PySem.F.type_list_pop mt_popAt (pv 2) (pa_cons (pc CD hr rfl (pa_cons (pv 0) (pa_cons (pe_callB call_len_seq (by rfl) G.len PySem.boot_len (pa_cons (pv 2) pa_nil)) pa_nil))) pa_nil))))), ?_⟩
  refine ⟨_, rfl, a, _, rfl, .inl hS, fun lf hlf => ?_⟩
  have sf := same_new hlf (.lst (ls.map V.str))
  have nlp : lf ≠ p := pen_neB hp hlf
  refine ⟨_, rfl, a, rfl, ⟨_, sf.seq hS⟩, fun D hD => ?_⟩
  have nlD : lf ≠ D := ne_of_none upd_same hD
  have sD := same_new hD (.lst [])
  have nDp : D ≠ p := pen_neB (hp.same sf) hD
  have hDH : H D = none := sf.free hD
  refine lc_list (K := K) (a := a) (xs := ls.map V.str) (fun i H' => ∃ (ys L : List Str), Bar p H H' ∧ Pen H' p ∧ H' lf = some (.lst (L.map V.str)) ∧ H' D = some (.lst (ys.map V.str)) ∧ (ys ++ L).Perm ls ∧ ys.length = i)
    ⟨[], ls, bar_same (sf.trans sD), (hp.same sf).same sD, by rw [upd_ne nlD]; exact upd_same, upd_same, .refl _, rfl⟩ (fun i H' _ ⟨ys, L, b, _⟩ => bar_seq b hne hS) (fun i x H' hx ⟨ys, L, b, pn, hL, hY, hP, hyl⟩ => ?_) (fun H' ⟨ys, L, b, pn, hL, hY, hP, hyl⟩ => ?_)
  · have hi : i < ls.length := by have := (List.getElem?_eq_some_iff.mp hx).1; rw [List.length_map] at this; exact this
    have hpl := hP.length_eq
    rw [List.length_append] at hpl
    have hLp : 0 < L.length := by omega
    refine ⟨rfl, _, rfl, .inl ⟨rfl, _, SqL.of hL⟩, _, rfl, _, rfl, lf, _, rfl, .inl (SqL.of hL), p, _, rfl, pn, by rw [List.length_map]; omega, by rw [List.length_map]; omega, fun H2 r b2 pn2 r0 r1 => ?_⟩
    rw [List.length_map] at r1
    have hk : r.toNat < L.length := by omega
    have hL2 := b2 _ _ nlp hL
    have hY2 := b2 _ _ nDp hY
    have hsq : seqIndex? r (L.map V.str).length = some r.toNat := seq_at r0 (by rw [List.length_map]; exact r1)
    refine ⟨lf, _, r, r.toNat, .str L[r.toNat], rfl, rfl, hL2, by omega, by omega, hsq, by rw [List.getElem?_map, List.getElem?_eq_getElem hk] <;> rfl, ?_⟩
    have hY3 : (upd H2 lf (.lst ((L.map V.str).eraseIdx r.toNat))) D = some (.lst (ys.map V.str)) := by rw [upd_ne nlD.symm]; exact hY2
    refine ⟨_, hY3, ?_, ys ++ [L[r.toNat]], L.eraseIdx r.toNat, ?_, ?_, ?_, by rw [List.map_append]; exact upd_same, ?_, by rw [List.length_append, hyl]; rfl⟩
    · rw [List.length_map]
      exact Nat.lt_of_le_of_lt (show ys.length ≤ 100000 by omega) (by decide)
    · intro z o n e
      have h1 := (b.trans b2) z o n e
      rw [upd_ne (fun w => by subst w; rw [hDH] at e; cases e), upd_ne (fun w => by subst w; rw [hlf] at e; cases e)]
      exact h1
    · obtain ⟨i1, j1, k1, e, rr⟩ := pn2
      exact ⟨i1, j1, k1, by rw [upd_ne nDp.symm, upd_ne nlp.symm]; exact e, rr⟩
    · rw [upd_ne nlD, ← map_erase]
      exact upd_same
    · rw [List.append_assoc]
      exact (List.Perm.append_left ys (perm_erase hk)).trans hP
  · have hpl := hP.length_eq
    rw [List.length_append, hyl, List.length_map] at hpl
    have hL0 : L = [] := List.length_eq_zero_iff.mp (by omega)
    subst hL0
    rw [List.append_nil] at hP
    exact q H' D ys b pn hDH hY hP
end
end N

namespace N
open PySem PySem.Spec PyProof.Rows L2 StX
/-! ### kinds as data -/
def Kd.pd : Kd → PyData
  | L c => .str c
  | C0 n => .tuple [.str n]
  | C1 n a => .tuple [.str n, a.pd]
  | C2 n a b => .tuple [.str n, a.pd, b.pd]
theorem pd_lay : ∀ {k : Kd}, k.ok → k.pd.canLay0 = true
  | .L c, h => by simp [Kd.pd, PyData.canLay0, let_strOk (show isLet c = true from h)]
  | .C0 n, h => by simp [Kd.pd, PyData.canLay0, PyData.canLayAll0, nam_strOk (show isNam n = true from h)]
  | .C1 n a, h => by simp [Kd.pd, PyData.canLay0, PyData.canLayAll0, nam_strOk h.1, pd_lay h.2]
  | .C2 n a b, h => by simp [Kd.pd, PyData.canLay0, PyData.canLayAll0, nam_strOk h.1, pd_lay h.2.1, pd_lay h.2.2]
theorem pd_depth : ∀ k : Kd, k.pd.depth ≤ k.depth + 1
  | .L c => by simp [Kd.pd, PyData.depth, Kd.depth]
  | .C0 n => by simp [Kd.pd, PyData.depth, PyData.depthAll, Kd.depth]
  | .C1 n a => by
    have := pd_depth a
    simp only [Kd.pd, PyData.depth, PyData.depthAll, Kd.depth]
    omega
  | .C2 n a b => by
    have := pd_depth a
    have := pd_depth b
    simp only [Kd.pd, PyData.depth, PyData.depthAll, Kd.depth]
    omega
theorem kp_dp {K : PySem.W.Frag} {H : Hp} : ∀ {k : Kd} {v : V}, Kp K H v k → Dp K H v k.pd
  | .L c, v, h => by
    obtain ⟨e, _⟩ := kp_L h rfl
    rw [e]
    exact .str c
  | .C0 n, v, h => by
    obtain ⟨a, xs, e, hq, _, r⟩ := kp_C h rfl
    rw [e]
    cases r
    exact .tup hq (.cons (.str n) .nil)
  | .C1 n b, v, h => by
    obtain ⟨a, xs, e, hq, _, r⟩ := kp_C h rfl
    rw [e]
    cases r with
    | cons h1 t =>
      cases t
      exact .tup hq (.cons (.str n) (.cons (kp_dp h1) .nil))
  | .C2 n b c, v, h => by
    obtain ⟨a, xs, e, hq, _, r⟩ := kp_C h rfl
    rw [e]
    cases r with
    | cons h1 t =>
      cases t with
      | cons h2 t =>
        cases t
        exact .tup hq (.cons (.str n) (.cons (kp_dp h1) (.cons (kp_dp h2) .nil)))

theorem pd_show : ∀ k : Kd, k.pd.showable = true
  | .L c => by simp only [Kd.pd, PyData.showable]
  | .C0 n => by simp only [Kd.pd, PyData.showable, PyData.showableAll, Bool.and_self]
  | .C1 n a => by simp only [Kd.pd, PyData.showable, PyData.showableAll, Bool.and_self, pd_show a]
  | .C2 n a b => by simp only [Kd.pd, PyData.showable, PyData.showableAll, Bool.and_self, pd_show a, pd_show b]
theorem pd_noDict {k : Kd} (h : k.ok) : k.pd.hasDict = false := PyData.hasDict_of_canLay _ (pd_lay h)
theorem pd_ints : ∀ k : Kd, k.pd.intsShort 8 = true
  | .L c => by simp only [Kd.pd, PyData.intsShort]
  | .C0 n => by simp only [Kd.pd, PyData.intsShort, PyData.intsShortAll, Bool.and_self]
  | .C1 n a => by simp only [Kd.pd, PyData.intsShort, PyData.intsShortAll, Bool.and_self, pd_ints a]
  | .C2 n a b => by simp only [Kd.pd, PyData.intsShort, PyData.intsShortAll, Bool.and_self, pd_ints a, pd_ints b]
theorem pd_short {k : Kd} (h : k.ok) : k.pd.leavesShort 8 = true := PyData.leavesShort_of_canLay0 8 _ (pd_lay h) (pd_ints k)
theorem nam_size {x : Str} (h : isNam x = true) : x.cps.size ≤ 8 := (isNam_iff.mp h).2.1
theorem let_size {x : Str} (h : isLet x = true) : x.cps.size = 1 := by
  obtain ⟨c, e, _⟩ := isLet_iff.mp h
  rw [← Array.length_toList, e]
  rfl
theorem pd_weight : ∀ {k : Kd}, k.ok → k.pd.weight ≤ 20 * k.nds
  | .L c, h => by
    have := let_size (show isLet c = true from h)
    simp only [Kd.pd, PyData.weight, Kd.nds]
    omega
  | .C0 n, h => by
    have := nam_size (show isNam n = true from h)
    simp only [Kd.pd, PyData.weight, PyData.weightAll, Kd.nds]
    omega
  | .C1 n a, h => by
    have := nam_size h.1
    have := pd_weight h.2
    simp only [Kd.pd, PyData.weight, PyData.weightAll, Kd.nds]
    omega
  | .C2 n a b, h => by
    have := nam_size h.1
    have := pd_weight h.2.1
    have := pd_weight h.2.2
    simp only [Kd.pd, PyData.weight, PyData.weightAll, Kd.nds]
    omega
theorem depth_le_nds : ∀ k : Kd, k.depth ≤ k.nds
  | .L c => by simp [Kd.depth]
  | .C0 n => by simp [Kd.depth, Kd.nds]
  | .C1 n a => by
    have := depth_le_nds a
    simp only [Kd.depth, Kd.nds]
    omega
  | .C2 n a b => by
    have := depth_le_nds a
    have := depth_le_nds b
    simp only [Kd.depth, Kd.nds]
    omega
/-! ### what filling does to the number of names, the depth, the form -/
theorem look_cases (m : Map) (c : Str) : (∃ q ∈ m, q.1 = c ∧ look m c = q.2) ∨ look m c = .L c := by
  unfold look
  cases h : m.find? (fun p => decide (p.1 = c)) with
  | none => exact .inr rfl
  | some q => exact .inl ⟨q, List.mem_of_find?_eq_some h, by simpa using List.find?_some h, rfl⟩
theorem look_nds {m : Map} (h : ∀ q ∈ m, q.2.nds ≤ 9) (c : Str) : (look m c).nds ≤ 9 := by
  rcases look_cases m c with ⟨q, hq, _, e⟩ | e
  · rw [e]; exact h q hq
  · rw [e]; simp [Kd.nds]
theorem look_depth {m : Map} (h : ∀ q ∈ m, q.2.nds ≤ 9) (c : Str) : (look m c).depth ≤ 9 := Nat.le_trans (depth_le_nds _) (look_nds h c)
theorem fill_nds {m : Map} (h : ∀ q ∈ m, q.2.nds ≤ 9) : ∀ k : Kd, (fillK m k).nds ≤ 9 * k.nds
  | .L c => by
    show (look m c).nds ≤ 9 * 1
    have := look_nds h c
    omega
  | .C0 n => by show 1 ≤ 9 * 1; omega
  | .C1 n a => by
    have := fill_nds h a
    show 1 + (fillK m a).nds ≤ 9 * (1 + a.nds)
    omega
  | .C2 n a b => by
    have := fill_nds h a
    have := fill_nds h b
    show 1 + (fillK m a).nds + (fillK m b).nds ≤ 9 * (1 + a.nds + b.nds)
    omega
theorem fill_depth {m : Map} (h : ∀ q ∈ m, q.2.nds ≤ 9) : ∀ k : Kd, (fillK m k).depth ≤ k.depth + 9
  | .L c => by
    show (look m c).depth ≤ 0 + 9
    have := look_depth h c
    omega
  | .C0 n => by show 1 ≤ 1 + 9; omega
  | .C1 n a => by
    have := fill_depth h a
    show 1 + (fillK m a).depth ≤ 1 + a.depth + 9
    omega
  | .C2 n a b => by
    have := fill_depth h a
    have := fill_depth h b
    show 1 + max (fillK m a).depth (fillK m b).depth ≤ 1 + max a.depth b.depth + 9
    omega
theorem fill_ok {m : Map} (h : ∀ q ∈ m, q.2.ok) : ∀ {k : Kd}, k.ok → (fillK m k).ok
  | .L c, hk => by
    show (look m c).ok
    rcases look_cases m c with ⟨q, hq, _, e⟩ | e
    · rw [e]; exact h q hq
    · rw [e]; exact hk
  | .C0 n, hk => hk
  | .C1 n a, hk => ⟨hk.1, fill_ok h (k := a) hk.2⟩
  | .C2 n a b, hk => ⟨hk.1, fill_ok h (k := a) hk.2.1, fill_ok h (k := b) hk.2.2⟩
theorem look_hit {m : Map} (hn : (m.map Prod.fst).Nodup) {q : Str × Kd} (hq : q ∈ m) : look m q.1 = q.2 := by
  unfold look
  induction m with
  | nil => cases hq
  | cons p m ih =>
    rw [List.map_cons, List.nodup_cons] at hn
    rcases List.mem_cons.mp hq with e | hq
    · rw [e, List.find?_cons_of_pos (by simp)]
    · have hne : ¬ p.1 = q.1 := fun e => hn.1 (by rw [e]; exact List.mem_map.mpr ⟨q, hq, rfl⟩)
      rw [List.find?_cons_of_neg (by simpa using hne)]
      exact ih hn.2 hq
theorem look_miss {m : Map} {c : Str} (h : c ∉ m.map Prod.fst) : look m c = .L c := by
  rcases look_cases m c with ⟨q, hq, e, _⟩ | e
  · exact absurd (List.mem_map.mpr ⟨q, hq, e⟩) h
  · exact e
theorem look_rev {m : Map} (hn : (m.map Prod.fst).Nodup) (c : Str) : look m.reverse c = look m c := by
  have hn2 : (m.reverse.map Prod.fst).Nodup := by
    rw [List.map_reverse]
    exact (List.reverse_perm _).nodup_iff.mpr hn
  by_cases h : c ∈ m.map Prod.fst
  · obtain ⟨q, hq, rfl⟩ := List.mem_map.mp h
    rw [look_hit hn hq, look_hit hn2 (List.mem_reverse.mpr hq)]
  · rw [look_miss h, look_miss (by rw [List.map_reverse]; exact fun z => h (List.mem_reverse.mp z))]
theorem fill_rev {m : Map} (hn : (m.map Prod.fst).Nodup) : ∀ k : Kd, fillK m.reverse k = fillK m k
  | .L c => look_rev hn c
  | .C0 n => rfl
  | .C1 n a => by
    show Kd.C1 n (fillK m.reverse a) = Kd.C1 n (fillK m a)
    rw [fill_rev hn a]
  | .C2 n a b => by
    show Kd.C2 n (fillK m.reverse a) (fillK m.reverse b) = Kd.C2 n (fillK m a) (fillK m b)
    rw [fill_rev hn a, fill_rev hn b]
end N

namespace N
open PySem PySem.Spec PyProof.Rows L2 StX
/-! ### k02: the rows of letters and kinds -/
section
variable {P : Program} {w : World} {K : PySem.W.Frag} {mg : Str → Option Value} {base : Heap}
def axyz : List Str := ["A", "X", "Y", "Z"]
def xyq : List Str := ["X", "Y", "Q"]
theorem axyz_let : ∀ c ∈ axyz, isLet c = true := by decide +kernel
theorem axyz_nodup : axyz.Nodup := by decide +kernel
/-- rows of a list: pairs of a letter and a kind -/
abbrev Rws (K : PySem.W.Frag) (H : Hp) (ts : List Addr) (m : Map) : Prop := Paired (fun (t : Addr) (q : Str × Kd) => ∃ v, SqT K H t [.str q.1, v] ∧ Kp K H v q.2) ts m
theorem Rws.stay {H H' : Hp} {ts : List Addr} {m : Map} (s : Stay K H H') (h : Rws K H ts m) : Rws K H' ts m := Paired.mapP h fun t q ⟨v, z, k⟩ => ⟨v, s.tup _ _ z, k.stay s⟩
theorem paired_snoc {α β : Type} {F : α → β → Prop} {a : α} {b : β} : ∀ {l : List α} {r : List β}, Paired F l r → F a b → Paired F (l ++ [a]) (r ++ [b])
  | _, _, .nil, h => .cons h .nil
  | _, _, .cons x t, h => .cons x (paired_snoc t h)
structure RowsOk (ss : List (Str × Nat)) (m : Map) : Prop where
  keys : (m.map Prod.fst).Nodup
  sub : ∀ q ∈ m, q.1 ∈ axyz
  of : ∀ q ∈ m, q.2.of xyq ss ∧ q.2.nds ≤ 9
  len : m.length ≤ 4
def spHeldR (K : PySem.W.Frag) : Sp := fun vs H Q _ => ∃ (p sl : Addr) (svs : List V) (ss : List (Str × Nat)), vs = [.ref p, .ref sl] ∧ Pen H p ∧ sl ≠ p ∧ SqL K H sl svs ∧ Shp K H svs ss ∧ Men xyq ss ∧
  ∀ H' d ts m, Bar p H H' → Pen H' p → H d = none → H' d = some (.lst (ts.map V.ref)) → Rws K H' ts m → RowsOk ss m → Q (.ref d) H'
theorem cut_take (xs : List V) (r : Nat) : cutV xs none (some (r : Int)) = xs.take r := by
  unfold cutV
  rw [HT.sIx_none, HT.sIx_nat, List.drop_zero, Nat.sub_zero]
  by_cases h : r ≤ xs.length
  · rw [Nat.min_eq_left h]
  · rw [Nat.min_eq_right (by omega), List.take_length, List.take_of_length_le (by omega)]
theorem ok_heldR (CM : Cal P w K mg base 2 "_law_mixed" ["_law_pen_here", "_law_some"] (spMix K)) (CD : Cal P w K mg base 1 "_law_draw" ["_law_pen_here", "_law_many"] (spDraw K)) (CK : Cal P w K mg base 7 "_law_kind" ["_law_pen_here", "_law_letters", "_law_shapes", "_law_most"] (spKind K 5))
    (D : DefAt K mg "_law_held" s_Lheld ["_law_pen_here", "_law_shapes"]) : Cal P w K mg base 8 "_law_held" ["_law_pen_here", "_law_shapes"] (spHeldR K) := by
  refine D.cal sc_Lheld (fun vs H Q E h => ?_) (fun f cdv A outer s H vs Q E hr h => ?_)
  · obtain ⟨p, sl, svs, ss, rfl, _⟩ := h
    rfl
  obtain ⟨p, sl, svs, ss, rfl, hp, nsl, hS, hSh, hM, q⟩ := h
  have hr1 : RoomG 1 _ := hr.mono (by decide)
  have hr2 : RoomG 2 _ := hr.mono (by decide)
  refine ⟨_, pss_cons (ps_set (i := 2) sc_Lheld.nd rfl (Or.inl rfl) (pe_lst pa_nil))
    (pss_cons (ps_for (passes_of rfl) rfl (pi_list (pe_slice sl_list (pc CM hr2 rfl (pa_cons (pv 0) (pa_cons (pe_lst (pa_cons pe_str (pa_cons pe_str (pa_cons pe_str (pa_cons pe_str pa_nil))))) pa_nil))) po_none (po_some (pc CD hr1 rfl (pa_cons (pv 0) (pa_cons pe_int pa_nil)))))) (pg_name (i := 3) sc_Lheld.nd rfl (Or.inl rfl))
      (pss_one (ps_expr (pe_bm PySem.F.plainAttrs_list PySem.F.slot_list_append PySem.F.type_list_append mt_append (pv 2) (pa_cons (pe_tup (pa_cons (pv 3) (pa_cons (pc CK hr rfl (pa_cons (pv 0) (pa_cons (pe_lst (pa_cons pe_str (pa_cons pe_str (pa_cons pe_str pa_nil)))) (pa_cons (pv 1) (pa_cons (pe_op op_add pe_int (pc CD hr1 rfl (pa_cons (pv 0) (pa_cons pe_int pa_nil)))) pa_nil))))) pa_nil))) pa_nil)))))
    (pss_one (ps_ret (pv 2)))), ?_⟩
  refine ⟨by show 0 ≤ sizeLine; decide, fun dd hdd => ?_⟩
  have ndp : dd ≠ p := pen_neB hp hdd
  have s0 := same_new hdd (.lst [])
  refine ⟨_, rfl, by show 4 ≤ sizeLine; decide, fun la hla => ?_⟩
  have s1 := s0.trans (same_new hla (.lst (axyz.map V.str)))
  have nla : la ≠ p := pen_neB (hp.same s0) hla
  have nda : dd ≠ la := ne_of_none upd_same hla
  refine ⟨p, la, axyz, rfl, hp.same s1, nla, SqL.of upd_same, by decide, fun H2 D2 ys b2 pn2 hD2 hy hperm => ?_⟩
  have hdd2 : H2 dd = some (.lst []) := b2 _ _ ndp (by rw [upd_ne nda]; exact upd_same)
  have nD2p : D2 ≠ p := pen_neB (hp.same s1) hD2
  refine ⟨_, rfl, p, 5, rfl, pn2, by decide, by decide, fun H3 r b3 pn3 r0 r1 => ?_⟩
  have hdd3 : H3 dd = some (.lst []) := b3 _ _ ndp hdd2
  have hy3 := b3 _ _ nD2p hy
  have hyl := hperm.length_eq
  obtain ⟨rn, ern⟩ : ∃ rn : Nat, r = (rn : Int) := ⟨r.toNat, by omega⟩
  subst ern
  refine ⟨_, rfl, D2, _, rfl, SqL.of hy3, fun ly hly => ?_⟩
  rw [cut_take, ← List.map_take]
  have nlp : ly ≠ p := pen_neB pn3 hly
  have s4 := same_new hly (.lst ((ys.take rn).map V.str))
  have ndl : dd ≠ ly := ne_of_none hdd3 hly
  have b4 : Bar p H (upd H3 ly (.lst ((ys.take rn).map V.str))) := ((bar_same s1).trans (b2.trans b3)).trans (bar_same s4)
  have hnd : (ys.take rn).Nodup := List.Nodup.sublist (List.take_sublist _ _) (hperm.nodup_iff.mpr axyz_nodup)
  have hmem : ∀ c ∈ ys.take rn, c ∈ axyz := fun c hc => hperm.mem_iff.mp (List.mem_of_mem_take hc)
  have hly4 : axyz.length = 4 := rfl
  refine ⟨ly, rfl, ⟨_, SqL.of upd_same⟩, for_list (K := K) (a := ly) (xs := (ys.take rn).map V.str) (fun i σ H' => ∃ (ts : List Addr) (m : Map) (y3 : Option V), σ = [some (.ref p), some (.ref sl), some (.ref dd), y3] ∧ Bar p H H' ∧ Pen H' p ∧ H' ly = some (.lst ((ys.take rn).map V.str)) ∧ H' dd = some (.lst (ts.map V.ref)) ∧ Rws K H' ts m ∧ m.map Prod.fst = (ys.take rn).take i ∧ ∀ q ∈ m, q.2.of xyq ss ∧ q.2.nds ≤ 9)
    ⟨[], [], _, rfl, b4, pn3.same s4, upd_same, by rw [upd_ne ndl]; exact hdd3, .nil, rfl, fun q h => (by cases h)⟩ (fun i σ H' _ ⟨_, _, _, _, _, _, h, _⟩ => SqL.of h) (fun i x σ H' hx ⟨ts, m, y3, eσ, b, pn, hl, hd, hpr, hmk, hmo⟩ => ?_) (fun σ H' ⟨ts, m, y3, eσ, b, pn, hl, hd, hpr, hmk, hmo⟩ => ?_)⟩
  · subst eσ
    obtain ⟨c, hc, rfl⟩ : ∃ c, (ys.take rn)[i]? = some c ∧ x = .str c := by
      rw [List.getElem?_map] at hx
      cases h : (ys.take rn)[i]? with
      | none => rw [h] at hx; cases hx
      | some c => rw [h] at hx; exact ⟨c, rfl, (Option.some.inj hx).symm⟩
    have hi : i < 4 := by
      have := (List.getElem?_eq_some_iff.mp hc).1
      rw [List.length_take] at this
      omega
    have htl : ts.length ≤ 4 := by
      have h1 := Paired.length hpr
      have h2 := congrArg List.length hmk
      rw [List.length_map, List.length_take] at h2
      omega
    refine ⟨_, rfl, .inl ⟨rfl, _, SqL.of hd⟩, _, rfl, _, rfl, by show 3 ≤ sizeLine; decide, fun l2 hl2 => ?_⟩
    have n2p : l2 ≠ p := pen_neB pn hl2
    have s2 := same_new hl2 (.lst (xyq.map V.str))
    refine ⟨_, rfl, _, rfl, p, 4, rfl, pn.same s2, by decide, by decide, fun H5 r' b5 pn5 q0 q1 => ?_⟩
    have hr4 : (1 : Int) + r' = ((1 + r'.toNat : Nat) : Int) := by omega
    have hL5 : H5 l2 = some (.lst (xyq.map V.str)) := b5 _ _ n2p upd_same
    have b6 : Bar p H H5 := b.trans ((bar_same s2).trans b5)
    refine ⟨_, _, rfl, rfl, p, l2, sl, xyq, svs, ss, 1 + r'.toNat, by rw [← hr4], pn5, n2p, nsl, hL5, bar_seq b6 nsl hS, hSh.stay (bar_stay b6 hp pn5), hM, by omega, fun H6 v k b7 pn6 hk hof hnds => ?_⟩
    have b8 : Bar p H' H6 := (bar_same s2).trans (b5.trans b7)
    refine ⟨by show 2 ≤ sizeLine; decide, fun t ht => ?_⟩
    have hd6 : H6 dd = some (.lst (ts.map V.ref)) := b8 _ _ ndp hd
    have ndt : dd ≠ t := ne_of_none hd6 ht
    have ntp : t ≠ p := pen_neB pn6 ht
    have st := same_new ht (.tup [.str c, v])
    have hd7 : (upd H6 t (.tup [.str c, v])) dd = some (.lst (ts.map V.ref)) := by rw [upd_ne ndt]; exact hd6
    refine ⟨dd, _, _, rfl, rfl, hd7, Nat.lt_of_le_of_lt (show _ ≤ 100000 by rw [List.length_map]; omega) (by decide), ?_⟩
    have stD : Stay K (upd H6 t (.tup [.str c, v])) (upd (upd H6 t (.tup [.str c, v])) dd (.lst (ts.map V.ref ++ [.ref t]))) := stay_lst hd7
    have stA : Stay K H' (upd (upd H6 t (.tup [.str c, v])) dd (.lst (ts.map V.ref ++ [.ref t]))) := (bar_stay b8 pn pn6).trans ((stay_same st).trans stD)
    have ldy : ly ≠ dd := ndl.symm
    refine ⟨ts ++ [t], m ++ [(c, k)], _, rfl, fun x o n e => ?_, ?_, ?_, ?_, paired_snoc (Rws.stay stA hpr) ⟨v, stD.tup _ _ (.inl (.inl upd_same)), hk.stay ((stay_same st).trans stD)⟩, ?_, fun z hz => ?_⟩
    · have h1 : H6 x = some o := (b.trans b8) x o n e
      have hx1 : x ≠ dd := fun z => by subst z; rw [hdd] at e; cases e
      rw [upd_ne hx1]
      exact st x o h1
    · obtain ⟨i1, j1, k1, e, rr⟩ := pn6.same st
      exact ⟨i1, j1, k1, by rw [upd_ne ndp.symm]; exact e, rr⟩
    · rw [upd_ne ldy]
      exact st _ _ (b8 _ _ nlp hl)
    · rw [List.map_append]
      exact upd_same
    · rw [List.map_append, hmk, take_snoc hc]
      rfl
    · rcases List.mem_append.mp hz with h | h
      · exact hmo z h
      · rw [List.mem_singleton.mp h]
        exact ⟨hof, (by omega : k.nds ≤ 9)⟩
  · subst eσ
    rw [List.length_map, List.take_length] at hmk
    refine ⟨_, rfl, q H' dd ts m b pn hdd hd hpr ⟨by rw [hmk]; exact hnd, fun z hz => hmem _ (by rw [← hmk]; exact List.mem_map.mpr ⟨z, hz, rfl⟩), hmo, ?_⟩⟩
    have h2 := congrArg List.length hmk
    rw [List.length_map, List.length_take] at h2
    omega
end
end N

namespace N
open PySem PySem.Spec PyProof.Rows L2 StX
/-! ### k02: repr, also of a dict, and same -/
theorem pd_fits {k : Kd} (h : k.ok) (hn : k.nds ≤ 1000) : k.pd.shown.length ≤ sizeLine := by
  have := pd_weight h
  exact PyData.shown_fits (B := 8) (by decide) (by decide) (pd_short h) (by omega)
/-- how a list of a kind and a dict shows -/
def kvd (m : Map) : PyData := .dict (m.map fun q => (.str q.1, q.2.pd))
def dKH (k : Kd) (m : Map) : PyData := .list [k.pd, kvd m]
theorem kv_show : ∀ m : Map, PyData.showableKv (m.map fun q => (.str q.1, q.2.pd)) = true
  | [] => rfl
  | q :: m => by simp only [List.map_cons, PyData.showableKv, PyData.showable, pd_show, kv_show m, Bool.and_self]
theorem kv_short : ∀ {m : Map}, (∀ q ∈ m, isLet q.1 = true ∧ q.2.ok) → PyData.leavesShortKv 8 (m.map fun q => (.str q.1, q.2.pd)) = true
  | [], _ => rfl
  | q :: m, h => by
    have h1 := h q List.mem_cons_self
    have h2 : PyData.leavesShort 8 (.str q.1) = true := pd_short (k := .L q.1) h1.1
    simp only [List.map_cons, PyData.leavesShortKv, h2, pd_short h1.2, kv_short fun z hz => h z (List.mem_cons_of_mem _ hz), Bool.and_self]
theorem kv_weight : ∀ {m : Map} {n : Nat}, (∀ q ∈ m, isLet q.1 = true ∧ q.2.ok ∧ q.2.nds ≤ n) → PyData.weightKv (m.map fun q => (.str q.1, q.2.pd)) ≤ m.length * (3 + 20 * n)
  | [], n, _ => by simp [PyData.weightKv]
  | q :: m, n, h => by
    have h1 := h q List.mem_cons_self
    have h2 := let_size h1.1
    have h3 := pd_weight h1.2.1
    have h4 := h1.2.2
    have ih := kv_weight fun z hz => h z (List.mem_cons_of_mem _ hz)
    simp only [List.map_cons, PyData.weightKv, PyData.weight, List.length_cons]
    rw [Nat.succ_mul]
    have h5 : 20 * q.2.nds ≤ 20 * n := by omega
    omega
theorem kv_depth : ∀ {m : Map} {n : Nat}, (∀ q ∈ m, q.2.nds ≤ n) → PyData.depthKv (m.map fun q => (.str q.1, q.2.pd)) ≤ n + 1
  | [], n, _ => by simp [PyData.depthKv]
  | q :: m, n, h => by
    have h1 := h q List.mem_cons_self
    have h2 := pd_depth q.2
    have h3 := depth_le_nds q.2
    have ih := kv_depth fun z hz => h z (List.mem_cons_of_mem _ hz)
    simp only [List.map_cons, PyData.depthKv, PyData.depth]
    omega
section
variable {X : Cx} {pins : List (Addr × Obj)} {σ : L2.St} {H : Hp} {s : Shared}
/-- a kind is read off the heap; no list is on the way -/
theorem kp_reads (I : Inv X pins σ H s) : ∀ {k : Kd} {v : V} {u : Value}, Kp X.K H v k → RelV v u → Reads s.heap u k.pd []
  | .L c, v, u, h, r => by
    obtain ⟨e, _⟩ := kp_L h rfl
    subst e
    obtain ⟨t, rfl⟩ := r
    exact .str c t
  | .C0 n, v, u, h, r => by
    obtain ⟨a, xs, e, hq, _, z⟩ := kp_C h rfl
    subst e
    cases z
    cases r
    obtain ⟨its, rv, ⟨o, ho, hc, j, hd⟩, _⟩ := I.tuple hq
    cases rv with
    | cons r1 rv =>
      cases rv
      obtain ⟨t1, rfl⟩ := r1
      exact .tuple ho hc hd (.cons (.str n t1) .nil)
  | .C1 n b, v, u, h, r => by
    obtain ⟨a, xs, e, hq, _, z⟩ := kp_C h rfl
    subst e
    cases r
    cases z with
    | cons h1 z =>
      cases z
      obtain ⟨its, rv, ⟨o, ho, hc, j, hd⟩, _⟩ := I.tuple hq
      cases rv with
      | cons r1 rv =>
        cases rv with
        | cons r2 rv =>
          cases rv
          obtain ⟨t1, rfl⟩ := r1
          exact .tuple ho hc hd (.cons (.str n t1) (.cons (kp_reads I (k := b) h1 r2) .nil))
  | .C2 n b c, v, u, h, r => by
    obtain ⟨a, xs, e, hq, _, z⟩ := kp_C h rfl
    subst e
    cases r
    cases z with
    | cons h1 z =>
      cases z with
      | cons h2 z =>
        cases z
        obtain ⟨its, rv, ⟨o, ho, hc, j, hd⟩, _⟩ := I.tuple hq
        cases rv with
        | cons r1 rv =>
          cases rv with
          | cons r2 rv =>
            cases rv with
            | cons r3 rv =>
              cases rv
              obtain ⟨t1, rfl⟩ := r1
              exact .tuple ho hc hd (.cons (.str n t1) (.cons (kp_reads I (k := b) h1 r2) (.cons (kp_reads I (k := c) h2 r3) .nil)))
theorem ents_keys {P : Program} {w : World} {h : Heap} {es : List DictEntry} {vs : List (Key × Value)} (hp : Pairs (mixKind P w) es vs) : ∀ {kvs : List (Key × V)} {m : Map}, KV kvs vs → Paired (fun (p : Key × V) (q : Str × Kd) => p.1 = Sum.inr q.1 ∧ Kp X.K H p.2 q.2) kvs m →
    ReadsAll h (es.map (·.key)) (m.map fun q => PyData.str q.1) [] := by
  induction hp with
  | nil =>
    intro kvs m k r
    cases k
    cases r
    exact .nil
  | @cons e kv es vs h1 h2 h3 ih =>
    intro kvs m k r
    cases k with
    | cons k1 k2 =>
      cases r with
      | @cons _ q _ m' r1 r2 =>
        have ih' := ih k2 r2
        rw [← k1.1, r1.1] at h1
        rcases keyIs_shape (show keyIs (Sum.inr q.1) e.key = true from h1) with ⟨i, t, z, _⟩ | ⟨x, t, z, ek⟩
        · cases z
        · cases z
          show ReadsAll h (e.key :: es.map (·.key)) (PyData.str q.1 :: m'.map fun q => PyData.str q.1) ([] ++ [])
          rw [ek]
          exact .cons (.str q.1 t) ih'
theorem ents_vals (I : Inv X pins σ H s) {P : Program} {w : World} {es : List DictEntry} {vs : List (Key × Value)} (hp : Pairs (mixKind P w) es vs) : ∀ {kvs : List (Key × V)} {m : Map}, KV kvs vs → Paired (fun (p : Key × V) (q : Str × Kd) => p.1 = Sum.inr q.1 ∧ Kp X.K H p.2 q.2) kvs m →
    ReadsAll s.heap (es.map (·.val)) (m.map fun q => q.2.pd) [] := by
  induction hp with
  | nil =>
    intro kvs m k r
    cases k
    cases r
    exact .nil
  | @cons e kv es vs h1 h2 h3 ih =>
    intro kvs m k r
    cases k with
    | cons k1 k2 =>
      cases r with
      | @cons _ q _ m' r1 r2 =>
        have ih' := ih k2 r2
        show ReadsAll s.heap (e.val :: es.map (·.val)) (q.2.pd :: m'.map fun q => q.2.pd) ([] ++ [])
        rw [h2]
        exact .cons (kp_reads I r1.2 k1.2) ih'
theorem held_reads {d : Addr} {m : Map} (I : Inv X pins σ H s) (h : Held X.K H d m) : Reads s.heap (.ref d) (kvd m) [d] ∧ (d == sysModules) = false := by
  obtain ⟨kvs, e, hp⟩ := h
  obtain ⟨_, hsm, vs, hkv, o, es, ep, ho, hx, hd, _, hpr, _⟩ := dk_of I.hok e
  refine ⟨?_, hsm⟩
  have h1 := ents_keys (X := X) (h := s.heap) hpr hkv hp
  have h2 := ents_vals I hpr hkv hp
  have q := Reads.dict (kvs := m.map fun q => (PyData.str q.1, q.2.pd)) ho hx.1 hd (by rw [List.map_map]; exact h1) (by rw [List.map_map]; exact h2)
  exact q
/-- [a, b] where the new list is known not to be the table of modules -/
theorem pe_lstB {es : List Expr} {t : TA} {pos : Pos} (ha : PA X es t) : PE X (.List es pos) (fun σ H Q => t σ H fun xs H1 => xs.length ≤ sizeLine ∧ ∀ p, H1 p = none → (p == sysModules) = false → Q (.ref p) (upd H1 p (.lst xs))) := by
  constructor
  intro pins s σ H Q I hq
  apply wpAny_List_spliced
  refine thn (ha.run pos pins s σ H _ I hq) (fun us s1 hx => ?_)
  obtain ⟨xs, H1, J, r, z, q⟩ := hx
  have hl := r.length
  have fr : H1 s1.heap.objs.size = none := J.hok.fresh (Nat.le_refl _)
  have big : (s1.heap.objs.size == sysModules) = false := beq_eq_false_iff_ne.mpr (Nat.ne_of_gt J.big)
  refine ⟨by rw [← hl]; exact z, .ref s1.heap.objs.size, upd H1 s1.heap.objs.size (.lst xs), ?_, rfl, q _ fr big⟩
  exact J.laid (t' := s1.toks) (fun b u e => Heap.get?_push_of_some _ e) (Nat.le_refl _) ⟨z, us, 0, r, Heap.get?_push_size _ rfl⟩
/-- repr of a list of a kind and a dict -/
def rReprKH (K : PySem.W.Frag) : List V → Hp → VK → Prop := fun xs H Q => ∃ (l : Addr) (v : V) (d : Addr) (k : Kd) (m : Map), xs = [V.ref l] ∧ H l = some (.lst [v, .ref d]) ∧ (l == sysModules) = false ∧ Kp K H v k ∧ Held K H d m ∧ k.ok ∧ k.nds ≤ 50 ∧
  (∀ q ∈ m, isLet q.1 = true ∧ q.2.ok ∧ q.2.nds ≤ 50) ∧ m.length ≤ 10 ∧ Q (.str (dKH k m).shown) H
theorem call_reprKH {j : Nat} (hr : RoomG j X.A) : CallR X (.builtin "repr") (rReprKH X.K) := by
  intro pins s σ H xs us Q I r h
  obtain ⟨l, v, d, k, m, rfl, hl, hls, hk, hd, hok, hn, hm, hml, q⟩ := h
  obtain ⟨u, rfl, ru⟩ := vals1 r
  cases (show u = Value.ref l from ru)
  obtain ⟨hz, its, n, rv, ho⟩ := I.hok l _ hl
  obtain ⟨rd, hds⟩ := held_reads I hd
  have hun := hr.toRoom.units
  cases rv with
  | cons r1 rv =>
    cases rv with
    | cons r2 rv =>
      cases rv
      have e2 := r2
      cases e2
      have R : Reads s.heap (.ref l) (dKH k m) (l :: [d]) := Reads.list ho rfl rfl (.cons (kp_reads I hk r1) (.cons rd .nil))
      have w1 := pd_weight hok
      have w2 := kv_weight hm
      have w3 : m.length * (3 + 20 * 50) ≤ 10 * (3 + 20 * 50) := Nat.mul_le_mul_right _ hml
      have d1 := pd_depth k
      have d2 := depth_le_nds k
      have d3 := kv_depth (m := m) (n := 50) fun q hq => (hm q hq).2.2
      refine repr_of_reads' R ?_ (fun _ hmem => ?_) hr.gs ?_ (fun b o e => e) (fun h' u tk hk => ⟨.str (dKH k m).shown, H, I.kept (t' := tk) hk, ⟨_, rfl⟩, q⟩) ?_
      · simp only [dKH, kvd, PyData.showable, PyData.showableAll, pd_show, kv_show, Bool.and_self]
      · rcases List.mem_cons.mp hmem with e | e
        · rw [← e] at hls
          exact absurd hls (by decide)
        · rw [← List.mem_singleton.mp e] at hds
          exact absurd hds (by decide)
      · simp only [dKH, kvd, PyData.depth, PyData.depthAll]
        omega
      · refine PyData.shown_fits (B := 8) (by decide) (by decide) ?_ ?_
        · simp only [dKH, kvd, PyData.leavesShort, PyData.leavesShortAll, pd_short hok, kv_short fun q hq => ⟨(hm q hq).1, (hm q hq).2.1⟩, Bool.and_self]
        · simp only [dKH, kvd, PyData.weight, PyData.weightAll]
          omega
/-- repr(x), x a text or data without dicts -/
def rReprA (K : PySem.W.Frag) : List V → Hp → VK → Prop := fun xs H Q => ∃ (v : V) (d : PyData), xs = [v] ∧ ((∃ a, v = .ref a) ∨ ∃ x, v = .str x) ∧ Dp K H v d ∧ d.showable = true ∧ d.hasDict = false ∧ d.depth ≤ 60 ∧ d.shown.length ≤ sizeLine ∧ Q (.str d.shown) H
theorem call_reprA {j : Nat} (hr : RoomG j X.A) : CallR X (.builtin "repr") (rReprA X.K) := by
  intro pins s σ H xs us Q I r h
  obtain ⟨v, d, rfl, hv, hd, hs, hn, hdp, hz, q⟩ := h
  rcases hv with ⟨a, rfl⟩ | ⟨x, rfl⟩
  · exact call_repr hr pins s σ H [.ref a] us Q I r ⟨a, d, rfl, hd, hs, hn, hdp, hz, q⟩
  · obtain ⟨u, rfl, t, rfl⟩ := vals1 r
    cases hd
    simp only [PyData.shown] at hz q
    exact PySem.P.repr_of_str ⟨.str (reprText x), H, I.kept (t' := s.toks + 1) fun b o e => e, ⟨_, rfl⟩, q⟩ hz
end
section
variable {P : Program} {w : World} {K : PySem.W.Frag} {mg : Str → Option Value} {base : Heap}
def spSame (K : PySem.W.Frag) : Sp := fun vs H Q _ => ∃ (v u : V) (d : PyData), vs = [v, u] ∧ ((∃ a, v = .ref a) ∨ ∃ x, v = .str x) ∧ ((∃ a, u = .ref a) ∨ ∃ x, u = .str x) ∧ Dp K H v d ∧ Dp K H u d ∧ d.showable = true ∧ d.hasDict = false ∧ d.depth ≤ 60 ∧ d.shown.length ≤ sizeLine ∧ Q (.bl true) H
theorem ok_same (G : Glo mg) (D : DefAt K mg "_law_same" s_Lsame ["_law_found", "_law_due"]) : Cal P w K mg base 1 "_law_same" ["_law_found", "_law_due"] (spSame K) := by
  refine D.cal sc_Lsame (fun vs H Q E h => ?_) (fun f cdv A outer s H vs Q E hr h => ?_)
  · obtain ⟨v, u, d, rfl, _⟩ := h
    rfl
  obtain ⟨v, u, d, rfl, hv, hu, h1, h2, hs, hn, hdp, hz, q⟩ := h
  refine ⟨_, pss_one (ps_ret (pe_cmpR op_eq (pe_callB (call_reprA hr) (by rfl) G.repr (by decide +kernel) (pa_cons (pv 0) pa_nil)) (pe_callB (call_reprA hr) (by rfl) G.repr (by decide +kernel) (pa_cons (pv 1) pa_nil)) (nomark _))), ?_⟩
  refine ⟨_, rfl, v, d, rfl, hv, h1, hs, hn, hdp, hz, _, rfl, u, d, rfl, hu, h2, hs, hn, hdp, hz, rfl, ?_⟩
  rw [decide_eq_true rfl]
  exact q
end
end N

namespace N
open PySem PySem.Spec PyProof.Rows L2 StX LamX NdefX
/-! ### k02: the law -/
section
variable {P : Program} {w : World} {K : PySem.W.Frag} {mg : Str → Option Value} {base : Heap}
def lxyz : List Str := ["X", "Y", "Z"]
def shq : List (Str × Nat) := [("one", 0), ("a", 0), ("box", 1), ("pair", 2)]
theorem menK : Men lxyz shq := ⟨by decide +kernel, by decide +kernel, ⟨"one", by decide +kernel⟩, by decide, by decide⟩
theorem menH : Men xyq shq := ⟨by decide +kernel, by decide +kernel, ⟨"one", by decide +kernel⟩, by decide, by decide⟩
theorem sameBar {p : Addr} {Hs H H' : Hp} (sm : Same Hs H) (h0 : Hs p = none) (b : Bar p H H') : Same Hs H' := fun x o e => b x o (ne_of_none e h0) (sm x o e)
theorem groBar {p : Addr} {Hs H H' : Hp} (sm : Gro Hs H) (h0 : Hs p = none) (b : Bar p H H') : Gro Hs H' where
  e := fun x o e nt => b x o (ne_of_none e h0) (sm.e x o e nt)
  n := fun x z => by
    cases hx : Hs x with
    | none => rfl
    | some o =>
      cases hy : H x with
      | none =>
        have y := sm.n x hy
        rw [hx] at y
        cases y
      | some o2 =>
        have y := b x o2 (ne_of_none hx h0) hy
        rw [z] at y
        cases y
theorem tabBar {p Pt : Addr} {H H' : Hp} {q : Str} (pn : Pen H p) (b : Bar p H H') (t : TabS H Pt q) : TabS H' Pt q := by
  obtain ⟨i, j, k, ep, _⟩ := pn
  obtain ⟨ps, h1, h2, h3⟩ := t
  refine ⟨ps, b _ _ (fun z => by rw [z, ep] at h1; cases h1) h1, h2, fun pos cv hc => ?_⟩
  obtain ⟨c, e1, e2⟩ := h3 pos cv hc
  refine ⟨c, e1, b _ _ (fun z => ?_) e2⟩
  rw [z, ep] at e2
  unfold CodeO at e2
  cases e2
theorem penGro {p : Addr} {H H' : Hp} (g : Gro H H') (h : Pen H p) : Pen H' p := by
  obtain ⟨i, j, k, e, r⟩ := h
  exact ⟨i, j, k, g.e _ _ e (fun ps z => by cases z), r⟩
theorem putNew {κ : Type} [DecidableEq κ] {kvs : List (κ × V)} {k : κ} {v : V} (h : ∀ p ∈ kvs, p.1 ≠ k) : putK kvs k v = kvs ++ [(k, v)] := by
  unfold putK
  rw [if_neg]
  rw [List.any_eq_true]
  rintro ⟨p, hp, e⟩
  exact h p hp (of_decide_eq_true e)
theorem mergeNew : ∀ {kb acc : List (Key × V)}, ((acc ++ kb).map Prod.fst).Nodup → mergeK acc kb = acc ++ kb
  | [], acc, _ => by simp [mergeK]
  | p :: kb, acc, h => by
    have h1 : ∀ x ∈ acc, x.1 ≠ p.1 := fun x hx e => by
      rw [List.map_append, List.map_cons, List.nodup_append] at h
      exact h.2.2 _ (List.mem_map.mpr ⟨x, hx, rfl⟩) _ List.mem_cons_self e
    show mergeK (putK acc p.1 p.2) kb = _
    rw [putNew h1, mergeNew (by simpa using h)]
    simp
abbrev Prq (K : PySem.W.Frag) (H : Hp) (kvs : List (Key × V)) (m : Map) : Prop := Paired (fun (p : Key × V) (q : Str × Kd) => p.1 = Sum.inr q.1 ∧ Kp K H p.2 q.2) kvs m
theorem Prq.stay {H H' : Hp} {kvs : List (Key × V)} {m : Map} (s : Stay K H H') (h : Prq K H kvs m) : Prq K H' kvs m := Paired.mapP h fun p q z => ⟨z.1, z.2.stay s⟩
theorem prq_keys {H : Hp} : ∀ {kvs : List (Key × V)} {m : Map}, Prq K H kvs m → kvs.map Prod.fst = (m.map Prod.fst).map Sum.inr
  | _, _, .nil => rfl
  | _, _, .cons r t => by rw [List.map_cons, List.map_cons, List.map_cons, r.1, prq_keys t]
theorem rws_kvs {H : Hp} : ∀ {ts : List Addr} {m : Map}, Rws K H ts m → ∃ kvs : List (Key × V), Paired (fun p kv => SqT K H p [kV kv.1, kv.2]) ts kvs ∧ Prq K H kvs m
  | _, _, .nil => ⟨[], .nil, .nil⟩
  | _, _, .cons (b := q) ⟨v, h1, h2⟩ t => by
    obtain ⟨kvs, a, b⟩ := rws_kvs t
    exact ⟨(Sum.inr q.1, v) :: kvs, .cons h1 a, .cons ⟨rfl, h2⟩ b⟩
theorem paired_rev {α β : Type} {F : α → β → Prop} : ∀ {l : List α} {r : List β}, Paired F l r → Paired F l.reverse r.reverse
  | _, _, .nil => .nil
  | _, _, .cons x t => by
    rw [List.reverse_cons, List.reverse_cons]
    exact paired_snoc (paired_rev t) x
theorem inr_nodup {l : List Str} (h : l.Nodup) : (l.map (Sum.inr : Str → Key)).Nodup := List.Pairwise.map _ (fun a b n e => n (Sum.inr.inj e)) h
theorem merge_rows {H : Hp} {kvs : List (Key × V)} {m : Map} (hp : Prq K H kvs m) (hn : (m.map Prod.fst).Nodup) : mergeK [] kvs = kvs := by
  rw [mergeNew (acc := []) (by rw [List.nil_append, prq_keys hp]; exact inr_nodup hn)]
  rfl
theorem heldStay {H H' : Hp} {d : Addr} {m : Map} (s : Stay K H H') (e : H' d = H d) (h : Held K H d m) : Held K H' d m := by
  obtain ⟨kvs, q, r⟩ := h
  exact ⟨kvs, by rw [e]; exact q, Prq.stay s r⟩
def spLaw2 (K : PySem.W.Frag) (Pt : Addr) : Sp := fun vs H Q _ => ∃ (a : Addr) (ns : List Int), vs = [.ref a] ∧ SqL K H a (ns.map V.int) ∧ ns.length ≤ 63 ∧ TabS H Pt tq ∧ ∀ H', Q (.bl true) H'
theorem ok_law2 {Pt : Addr} (G : Glo mg) (CC : Cal P w K mg base 1 "_law_cell_at" ["_law_script", "_law_k"] (spCell K)) (CP : Cal P w K mg base 1 "_law_pen" ["_law_cell"] (spPen K)) (CD : Cal P w K mg base 1 "_law_draw" ["_law_pen_here", "_law_many"] (spDraw K))
    (CK : Cal P w K mg base 13 "_law_kind" ["_law_pen_here", "_law_letters", "_law_shapes", "_law_most"] (spKind K 11)) (CH : Cal P w K mg base 8 "_law_held" ["_law_pen_here", "_law_shapes"] (spHeldR K))
    (CL : Cal P w K mg base 23 "_law_filled" ["_law_kind_here", "_law_held_here"] (spLF K 22)) (CF : Cal P w K mg base 5 "fill" ["kind", "values"] (spFillT K Pt)) (CS : Cal P w K mg base 1 "_law_same" ["_law_found", "_law_due"] (spSame K))
    {f : Addr} {fd : FuncData} (D : Fun K "law" "law" s_law f fd) : FnG P w K mg base (L2.CX P w) 24 f fd ["_law_script"] (spLaw2 K Pt) := by
  refine fnG_of D sc_law (fun vs H Q E h => ?_) (fun cdv A outer s H vs Q E hr h => ?_)
  · obtain ⟨a, ns, rfl, _⟩ := h
    rfl
  obtain ⟨a, ns, rfl, hS, hlen, tt, q⟩ := h
  have hr1 : RoomG 1 _ := hr.mono (by decide)
  have hr5 : RoomG 5 _ := hr.mono (by decide)
  have hr8 : RoomG 8 _ := hr.mono (by decide)
  have hr13 : RoomG 13 _ := hr.mono (by decide)
  refine ⟨_, pss_cons (ps_set (i := 1) sc_law.nd rfl (Or.inl rfl) (pe_lst (pa_cons (pe_tup (pa_cons pe_str (pa_cons pe_int pa_nil))) (pa_cons (pe_tup (pa_cons pe_str (pa_cons pe_int pa_nil))) (pa_cons (pe_tup (pa_cons pe_str (pa_cons pe_int pa_nil))) (pa_cons (pe_tup (pa_cons pe_str (pa_cons pe_int pa_nil))) pa_nil))))))
    (pss_cons (ps_for (passes_of rfl) rfl (pi_range1 rfl G.range (pa_cons (pe_callB (call_max2 rfl) (by rfl) G.max (by decide +kernel) (pa_cons pe_int (pa_cons (pe_callB (call_min2 rfl) (by rfl) G.min (by decide +kernel) (pa_cons (pe_callB call_len_seq (by rfl) G.len PySem.boot_len (pa_cons (pv 0) pa_nil)) (pa_cons pe_int pa_nil))) pa_nil))) pa_nil)) (pg_name (i := 2) sc_law.nd rfl (Or.inl rfl))
      (pss_cons (ps_set (i := 3) sc_law.nd rfl (Or.inl rfl) (pc CP hr1 rfl (pa_cons (pc CC hr1 rfl (pa_cons (pv 0) (pa_cons (pv 2) pa_nil))) pa_nil)))
      (pss_one (ps_for (passes_of rfl) rfl (pi_range1 rfl G.range (pa_cons pe_int pa_nil)) (pg_name (i := 4) sc_law.nd rfl (Or.inl rfl))
        (pss_cons (ps_par (i := 5) (j := 6) (by rfl) sc_law.nd rfl rfl (by decide) rfl rfl (pa_cons (pc CK hr13 rfl (pa_cons (pv 3) (pa_cons (pe_lst (pa_cons pe_str (pa_cons pe_str (pa_cons pe_str pa_nil)))) (pa_cons (pv 1) (pa_cons (pe_op op_add pe_int (pc CD hr1 rfl (pa_cons (pv 3) (pa_cons pe_int pa_nil)))) pa_nil))))) (pa_cons (pc CH hr8 rfl (pa_cons (pv 3) (pa_cons (pv 1) pa_nil))) pa_nil)) (by rfl))
        (pss_cons (ps_par (i := 7) (j := 8) (by rfl) sc_law.nd rfl rfl (by decide) rfl rfl (pa_cons (pe_callTy (call_dictP rfl) (by rfl) G.dict b_dict (pa_cons (pv 6) pa_nil)) (pa_cons (pe_callTy (call_dictP rfl) (by rfl) G.dict b_dict (pa_cons (pe_revL (pv 6)) pa_nil)) pa_nil)) (by rfl))
        (pss_cons (ps_par (i := 9) (j := 10) (by rfl) sc_law.nd rfl rfl (by decide) rfl rfl (pa_cons (pe_callB (call_reprKH hr) (by rfl) G.repr (by decide +kernel) (pa_cons (pe_lstB (pa_cons (pv 5) (pa_cons (pv 7) pa_nil))) pa_nil)) (pa_cons (pc CL hr rfl (pa_cons (pv 5) (pa_cons (pv 7) pa_nil))) pa_nil)) (by rfl))
        (pss_cons (ps_if (pt_not (pt_val (pc CS hr1 rfl (pa_cons (pe_lst (pa_cons (pc CF hr5 rfl (pa_cons (pv 5) (pa_cons (pv 7) pa_nil))) (pa_cons (pc CF hr5 rfl (pa_cons (pv 5) (pa_cons (pv 8) pa_nil))) (pa_cons (pc CF hr5 rfl (pa_cons (pv 5) (pa_cons (pv 7) pa_nil))) pa_nil)))) (pa_cons (pe_op op_rep (pe_lst (pa_cons (pv 10) pa_nil)) pe_int) pa_nil))))) (pss_one (ps_ret pe_bl)) pss_nil)
        (pss_one (ps_if (pt_cmpR op_ne (pe_callB (call_reprKH hr) (by rfl) G.repr (by decide +kernel) (pa_cons (pe_lstB (pa_cons (pv 5) (pa_cons (pv 7) pa_nil))) pa_nil)) (pv 9) (nomark _)) (pss_one (ps_ret pe_bl)) pss_nil))))))))))
    (pss_cons (ps_set (i := 11) sc_law.nd rfl (Or.inl rfl) (pc CF hr5 rfl (pa_cons (pe_tup (pa_cons pe_str (pa_cons pe_str (pa_cons (pe_tup (pa_cons pe_str (pa_cons pe_str pa_nil))) pa_nil)))) (pa_cons (pe_disp (pps_cons pe_str pe_str (pps_cons pe_str pe_str pps_nil)) (by rfl) (by rfl) (fun z => by cases z) (by decide)) pa_nil))))
    (pss_one (ps_ret (pe_and (pc CS hr1 rfl (pa_cons (pv 11) (pa_cons (pe_tup (pa_cons pe_str (pa_cons pe_str (pa_cons (pe_tup (pa_cons pe_str (pa_cons pe_str pa_nil))) pa_nil)))) pa_nil)))
      (pe_one (pc CS hr1 rfl (pa_cons (pc CF hr5 rfl (pa_cons pe_str (pa_cons pe_dnewK pa_nil))) (pa_cons pe_str pa_nil))))))))), ?_⟩
  refine ⟨by show 2 ≤ sizeLine; decide, fun t1 h1 => ⟨by show 2 ≤ sizeLine; decide, fun t2 h2 => ⟨by show 2 ≤ sizeLine; decide, fun t3 h3 => ⟨by show 2 ≤ sizeLine; decide, fun t4 h4 => ⟨by show 4 ≤ sizeLine; decide, fun sl hsl => ?_⟩⟩⟩⟩⟩
  have g1 := same_new h1 (.tup [.str "one", .int 0])
  have g2 := same_new h2 (.tup [.str "a", .int 0])
  have g3 := same_new h3 (.tup [.str "box", .int 1])
  have g4 := same_new h4 (.tup [.str "pair", .int 2])
  have g5 := same_new hsl (.lst [.ref t1, .ref t2, .ref t3, .ref t4])
  have sH : Same H _ := g1.trans (g2.trans (g3.trans (g4.trans g5)))
  have e1 := g5 _ _ (g4 _ _ (g3 _ _ (g2 _ _ (upd_same (H := H) (a := t1) (o := .tup [.str "one", .int 0])))))
  have e2 := g5 _ _ (g4 _ _ (g3 _ _ (upd_same (a := t2) (o := .tup [.str "a", .int 0]))))
  have e3 := g5 _ _ (g4 _ _ (upd_same (a := t3) (o := .tup [.str "box", .int 1])))
  have e4 := g5 _ _ (upd_same (a := t4) (o := .tup [.str "pair", .int 2]))
  have hsS := upd_same (H := upd (upd (upd (upd H t1 (.tup [.str "one", .int 0])) t2 (.tup [.str "a", .int 0])) t3 (.tup [.str "box", .int 1])) t4 (.tup [.str "pair", .int 2])) (a := sl) (o := .lst [.ref t1, .ref t2, .ref t3, .ref t4])
  have hSc0 := sH.seq hS
  have tts := tt.ext sH
  revert hSc0 tts hsS e1 e2 e3 e4
  show _ → _ → _ → _ → _ → _ → _
  generalize upd (upd (upd (upd (upd H t1 (.tup [.str "one", .int 0])) t2 (.tup [.str "a", .int 0])) t3 (.tup [.str "box", .int 1])) t4 (.tup [.str "pair", .int 2])) sl (.lst [.ref t1, .ref t2, .ref t3, .ref t4]) = Hs
  intro e1 e2 e3 e4 hsS hSc0 tts
  have hShp : Shp K Hs [.ref t1, .ref t2, .ref t3, .ref t4] shq := .cons ⟨t1, rfl, .inl (.inl e1)⟩ (.cons ⟨t2, rfl, .inl (.inl e2)⟩ (.cons ⟨t3, rfl, .inl (.inl e3)⟩ (.cons ⟨t4, rfl, .inl (.inl e4)⟩ .nil)))
  refine ⟨_, rfl, a, _, rfl, .inl hSc0, _, _, rfl, _, _, rfl, _, rfl, ?_, ?_, ?_⟩
  · rw [List.length_map]; split <;> split <;> omega
  · rw [List.length_map]; split <;> split <;> omega
  refine for_range (fun i σ H' => ∃ y2 y3 y4 y5 y6 y7 y8 y9 y10 y11, σ = [some (.ref a), some (.ref sl), y2, y3, y4, y5, y6, y7, y8, y9, y10, y11] ∧ Gro Hs H' ∧ TabS H' Pt tq) ⟨_, _, _, _, _, _, _, _, _, _, rfl, Gro.refl _, tts⟩ (fun i σ H' hi ⟨y2, y3, y4, y5, y6, y7, y8, y9, y10, y11, eσ, sm, tb⟩ => ?_) (fun σ H' ⟨y2, y3, y4, y5, y6, y7, y8, y9, y10, y11, eσ, sm, tz⟩ => ?_)
  · subst eσ
    refine ⟨_, rfl, _, rfl, a, ns, i, by rw [Int.zero_add], sm.seq hSc0, fun n => ⟨n, rfl, fun p H1 sm1 hp0 pn1 => ?_⟩⟩
    have smp : Gro Hs H1 := sm.trans (Gro.of sm1)
    have hpS : Hs p = none := sm.n _ hp0
    have tb1 := tb.ext sm1
    have nsl : sl ≠ p := ne_of_none hsS hpS
    refine ⟨12, rfl, by decide, by decide, ?_⟩
    refine for_range (n := 12) (fun j σ H' => ∃ y4 y5 y6 y7 y8 y9 y10 y11, σ = [some (.ref a), some (.ref sl), some (.int (0 + (i : Nat))), some (.ref p), y4, y5, y6, y7, y8, y9, y10, y11] ∧ Gro Hs H' ∧ Pen H' p ∧ TabS H' Pt tq) ⟨_, _, _, _, _, _, _, _, rfl, smp, pn1, tb1⟩ (fun j σ H' hj ⟨y4, y5, y6, y7, y8, y9, y10, y11, eσ, sm, pn, tb⟩ => ?_) (fun σ H' ⟨y4, y5, y6, y7, y8, y9, y10, y11, eσ, sm, pn, tb⟩ => ⟨_, _, _, _, _, _, _, _, _, _, eσ, sm, tb⟩)
    subst eσ
    -- kind, rows
    refine ⟨_, rfl, by show 3 ≤ sizeLine; decide, fun l2 hl2 => ?_⟩
    have n2p : l2 ≠ p := pen_neB pn hl2
    have s2 := same_new hl2 (.lst (lxyz.map V.str))
    refine ⟨_, rfl, _, rfl, p, 10, rfl, pn.same s2, by decide, by decide, fun H2 r b2 pn2 r0 r1 => ?_⟩
    have hr4 : (1 : Int) + r = ((1 + r.toNat : Nat) : Int) := by omega
    have sm2 : Gro Hs H2 := groBar (sm.trans (Gro.of s2)) hpS b2
    have tb2 := tabBar (pn.same s2) b2 (tb.ext s2)
    have hL2 : H2 l2 = some (.lst (lxyz.map V.str)) := b2 _ _ n2p upd_same
    refine ⟨_, _, rfl, rfl, p, l2, sl, lxyz, _, shq, 1 + r.toNat, by rw [← hr4], pn2, n2p, nsl, hL2, sm2.seq (SqL.of hsS), hShp.stay sm2.stay, menK, by omega, fun H3 v k b3 pn3 hk hof hnd => ?_⟩
    have sm3 : Gro Hs H3 := groBar sm2 hpS b3
    have tb3 := tabBar pn2 b3 tb2
    have kok := Kd.of_ok menK hof
    have knd : k.nds ≤ 21 := by omega
    refine ⟨_, rfl, _, rfl, p, sl, _, shq, rfl, pn3, nsl, sm3.seq (SqL.of hsS), hShp.stay sm3.stay, menH, fun H4 d ts m b4 pn4 hd0 hd4 hrw hro => ?_⟩
    have sm4 : Gro Hs H4 := groBar sm3 hpS b4
    have tb4 := tabBar pn3 b4 tb3
    have hk4 : Kp K H4 v k := hk.stay (bar_stay b4 pn3 pn4)
    have ndp : d ≠ p := pen_neB pn3 hd0
    refine ⟨_, _, rfl, ?_⟩
    have mok : ∀ q ∈ m, isLet q.1 = true ∧ q.2.ok ∧ q.2.nds ≤ 9 := fun z hz => ⟨axyz_let _ (hro.sub z hz), Kd.of_ok menH (hro.of z hz).1, (hro.of z hz).2⟩
    have m9 : ∀ q ∈ m, q.2.nds ≤ 9 := fun z hz => (mok z hz).2.2
    have mO : MapOk m := fun z hz => ⟨(mok z hz).1, (mok z hz).2.1, by have := (mok z hz).2.2; omega⟩
    have mOr : MapOk m.reverse := fun z hz => mO z (List.mem_reverse.mp hz)
    have ml := hro.len
    -- the dicts
    obtain ⟨kvs, hkv1, hkv2⟩ := rws_kvs hrw
    refine ⟨_, rfl, d, ts, kvs, rfl, SqL.of hd4, hkv1, fun d2 hd2 => ?_⟩
    rw [merge_rows hkv2 hro.keys]
    have s5 := same_new hd2 (.dK kvs)
    have hd5 : (upd H4 d2 (.dK kvs)) d = some (.lst (ts.map V.ref)) := s5 _ _ hd4
    refine ⟨_, rfl, d, _, rfl, SqL.of hd5, fun lr hlr => ?_⟩
    have s6 := same_new hlr (.lst (ts.map V.ref).reverse)
    have hrw6 : Rws K (upd (upd H4 d2 (.dK kvs)) lr (.lst (ts.map V.ref).reverse)) ts.reverse m.reverse := paired_rev (Rws.stay (stay_same (s5.trans s6)) hrw)
    obtain ⟨kvr, hkr1, hkr2⟩ := rws_kvs hrw6
    refine ⟨lr, ts.reverse, kvr, rfl, SqL.of (by rw [List.map_reverse]; exact upd_same), hkr1, fun d3 hd3 => ?_⟩
    have hnr : (m.reverse.map Prod.fst).Nodup := by
      rw [List.map_reverse]
      exact (List.reverse_perm _).nodup_iff.mpr hro.keys
    rw [merge_rows hkr2 hnr]
    have s7 := same_new hd3 (.dK kvr)
    have s57 := s5.trans (s6.trans s7)
    have hA : Held K (upd (upd (upd H4 d2 (.dK kvs)) lr (.lst (ts.map V.ref).reverse)) d3 (.dK kvr)) d2 m := ⟨kvs, (s6.trans s7) _ _ upd_same, Prq.stay (stay_same s57) hkv2⟩
    have hB : Held K (upd (upd (upd H4 d2 (.dK kvs)) lr (.lst (ts.map V.ref).reverse)) d3 (.dK kvr)) d3 m.reverse := ⟨kvr, upd_same, Prq.stay (stay_same s7) hkr2⟩
    have sm7 : Gro Hs _ := sm4.trans (Gro.of s57)
    have tb7 := tb4.ext s57
    have pn7 := pn4.same s57
    have hk7 := hk4.stay (stay_same (K := K) s57)
    revert hA hB sm7 pn7 hk7 tb7
    generalize upd (upd (upd H4 d2 (.dK kvs)) lr (.lst (ts.map V.ref).reverse)) d3 (.dK kvr) = H7
    intro hA hB sm7 tb7 pn7 hk7
    refine ⟨_, _, rfl, ?_⟩
    -- kept, due
    refine ⟨_, rfl, _, rfl, by show 2 ≤ sizeLine; decide, fun l8 hl8 hs8 => ?_⟩
    have s8 := same_new hl8 (.lst [v, .ref d2])
    have m50 : ∀ q ∈ m, isLet q.1 = true ∧ q.2.ok ∧ q.2.nds ≤ 50 := fun z hz => ⟨(mok z hz).1, (mok z hz).2.1, by have := (mok z hz).2.2; omega⟩
    refine ⟨l8, v, d2, k, m, rfl, upd_same, hs8, hk7.stay (stay_same s8), hA.stay s8, kok, by omega, m50, by omega, ?_⟩
    have kdep := depth_le_nds k
    refine ⟨_, rfl, _, rfl, v, d2, k, m, rfl, hk7.stay (stay_same s8), by omega, hA.stay s8, fun H9 u s9 hu => ?_⟩
    refine ⟨_, _, rfl, ?_⟩
    have s79 : Same H7 H9 := s8.trans s9
    -- same
    refine ⟨_, rfl, _, rfl, v, d2, k, m, rfl, hk7.stay (stay_same s79), kok, by omega, hA.stay s79, mO, by omega, tb7.ext s79, fun H10 u1 s10 tb10 hu1 => ?_⟩
    have s710 := (Gro.of s79).trans s10
    refine ⟨_, rfl, _, rfl, v, d3, k, m.reverse, rfl, hk7.stay s710.stay, kok, by omega, hB.ext s710.e, mOr, by rw [List.length_reverse]; omega, tb10, fun H11 u2 s11 tb11 hu2 => ?_⟩
    rw [fill_rev hro.keys] at hu2
    have s711 := s710.trans s11
    refine ⟨_, rfl, _, rfl, v, d2, k, m, rfl, hk7.stay s711.stay, kok, by omega, hA.ext s711.e, mO, by omega, tb11, fun H12 u3 s12 tb12 hu3 => ?_⟩
    have s712 := s711.trans s12
    refine ⟨by show 3 ≤ sizeLine; decide, fun l13 hl13 => ?_⟩
    have s13 := same_new hl13 (.lst [u1, u2, u3])
    refine ⟨_, rfl, by show 1 ≤ sizeLine; decide, fun l14 hl14 => ?_⟩
    have s14 := same_new hl14 (.lst [u])
    refine ⟨l14, 3, [u], rfl, rfl, upd_same, by decide, by decide, by show 1 * 3 ≤ sizeLine; decide, fun l15 hl15 => ?_⟩
    have s15 := same_new hl15 (.lst (List.replicate (3 : Int).toNat [u]).flatten)
    have dok : (fillK m k).ok := fill_ok (fun z hz => (mok z hz).2.1) kok
    have dnd := fill_nds m9 k
    have ddp := fill_depth m9 k
    have dpd := pd_depth (fillK m k)
    have dwt := pd_weight dok
    have st1 : Stay K H10 (upd (upd (upd H12 l13 (.lst [u1, u2, u3])) l14 (.lst [u])) l15 (.lst (List.replicate (3 : Int).toNat [u]).flatten)) := (s11.trans (s12.trans (Gro.of (s13.trans (s14.trans s15))))).stay
    have st2 : Stay K H11 (upd (upd (upd H12 l13 (.lst [u1, u2, u3])) l14 (.lst [u])) l15 (.lst (List.replicate (3 : Int).toNat [u]).flatten)) := (s12.trans (Gro.of (s13.trans (s14.trans s15)))).stay
    have st3 : Stay K H12 (upd (upd (upd H12 l13 (.lst [u1, u2, u3])) l14 (.lst [u])) l15 (.lst (List.replicate (3 : Int).toNat [u]).flatten)) := stay_same (s13.trans (s14.trans s15))
    have st0 : Stay K H9 (upd (upd (upd H12 l13 (.lst [u1, u2, u3])) l14 (.lst [u])) l15 (.lst (List.replicate (3 : Int).toNat [u]).flatten)) := (s10.trans (s11.trans (s12.trans (Gro.of (s13.trans (s14.trans s15)))))).stay
    have hl13' := (s14.trans s15) _ _ (upd_same (H := H12) (a := l13) (o := .lst [u1, u2, u3]))
    refine ⟨.ref l13, .ref l15, .list [(fillK m k).pd, (fillK m k).pd, (fillK m k).pd], rfl, .inl ⟨_, rfl⟩, .inl ⟨_, rfl⟩, .lst (SqL.of hl13') (.cons (kp_dp (hu1.stay st1)) (.cons (kp_dp (hu2.stay st2)) (.cons (kp_dp (hu3.stay st3)) .nil))),
      .lst (xs := [u, u, u]) (SqL.of upd_same) (.cons (kp_dp (hu.stay st0)) (.cons (kp_dp (hu.stay st0)) (.cons (kp_dp (hu.stay st0)) .nil))), ?_, ?_, ?_, ?_, ?_⟩
    · simp only [PyData.showable, PyData.showableAll, pd_show, Bool.and_self]
    · simp only [PyData.hasDict, PyData.hasDictAll, pd_noDict dok, Bool.or_self]
    · simp only [PyData.depth, PyData.depthAll]
      omega
    · refine PyData.shown_fits (B := 8) (by decide) (by decide) ?_ ?_
      · simp only [PyData.leavesShort, PyData.leavesShortAll, pd_short dok, Bool.and_self]
      · simp only [PyData.weight, PyData.weightAll]
        omega
    refine ⟨_, rfl, iteN rfl ?_⟩
    have s715 : Gro H7 _ := s712.trans (Gro.of (s13.trans (s14.trans s15)))
    have tb15 := tb12.ext (s13.trans (s14.trans s15))
    revert s715 tb15
    generalize upd (upd (upd H12 l13 (.lst [u1, u2, u3])) l14 (.lst [u])) l15 (.lst (List.replicate (3 : Int).toNat [u]).flatten) = H15
    intro s715 tb15
    refine ⟨_, rfl, _, rfl, by show 2 ≤ sizeLine; decide, fun l16 hl16 hs16 => ?_⟩
    have s16 := same_new hl16 (.lst [v, .ref d2])
    refine ⟨l16, v, d2, k, m, rfl, upd_same, hs16, hk7.stay (s715.trans (Gro.of s16)).stay, hA.ext (s715.trans (Gro.of s16)).e, kok, by omega, m50, by omega, ?_⟩
    refine ⟨_, rfl, rfl, _, rfl, iteN ?_ ?_⟩
    · rw [decide_eq_true rfl]
      rfl
    · exact ⟨_, _, _, _, _, _, _, _, rfl, sm7.trans (s715.trans (Gro.of s16)), penGro (s715.trans (Gro.of s16)) pn7, tb15.ext s16⟩
  · subst eσ
    -- exchanged
    refine ⟨by show 2 ≤ sizeLine; decide, fun ta hta => ?_⟩
    refine ⟨by show 3 ≤ sizeLine; decide, fun tb htb => ?_⟩
    have nab : ta ≠ tb := ne_of_none upd_same htb
    refine fun di hdi => ?_
    refine ⟨upd_same, [((Sum.inr "X" : Key), V.str "Y"), ((Sum.inr "Y" : Key), V.str "X")], rfl, by decide, ?_⟩
    have emk : mergeK [] [((Sum.inr "X" : Key), V.str "Y"), ((Sum.inr "Y" : Key), V.str "X")] = [((Sum.inr "X" : Key), V.str "Y"), ((Sum.inr "Y" : Key), V.str "X")] := by
      rw [mergeNew (acc := []) (by decide +kernel)]
      rfl
    rw [emk, upd_upd]
    have hid : Held K (upd (upd (upd H' ta (.tup [.str "box", .str "Y"])) tb (.tup [.str "pair", .str "X", .ref ta])) di (.dK [((Sum.inr "X" : Key), V.str "Y"), ((Sum.inr "Y" : Key), V.str "X")])) di [("X", .L "Y"), ("Y", .L "X")] :=
      ⟨_, upd_same, .cons ⟨rfl, show Th K _ (V.str "Y") (Tg.str "Y") from Th.str _ (by decide +kernel)⟩ (.cons ⟨rfl, show Th K _ (V.str "X") (Tg.str "X") from Th.str _ (by decide +kernel)⟩ .nil)⟩
    have moi : MapOk [("X", .L "Y"), ("Y", .L "X")] := fun p hp => by
      have h3 : p = ((("X" : Str), Kd.L "Y") : Str × Kd) ∨ p = ((("Y" : Str), Kd.L "X") : Str × Kd) := by simpa using hp
      rcases h3 with rfl | rfl
      · exact ⟨by decide +kernel, show isLet _ = true by decide +kernel, by decide⟩
      · exact ⟨by decide +kernel, show isLet _ = true by decide +kernel, by decide⟩
    have s17 := same_new hta (.tup [.str "box", .str "Y"])
    have s18 := same_new htb (.tup [.str "pair", .str "X", .ref ta])
    have s19 := same_new hdi (.dK [((Sum.inr "X" : Key), V.str "Y"), ((Sum.inr "Y" : Key), V.str "X")])
    have hka : Kp K (upd (upd (upd H' ta (.tup [.str "box", .str "Y"])) tb (.tup [.str "pair", .str "X", .ref ta])) di (.dK [((Sum.inr "X" : Key), V.str "Y"), ((Sum.inr "Y" : Key), V.str "X")])) (.ref ta) (.C1 "box" (.L "Y")) :=
      kp_mk (k := .C1 "box" (.L "Y")) (xs := [.str "Y"]) rfl (.inl (.inl (s19 _ _ (s18 _ _ upd_same)))) (by show ("box" : Str).length ≤ 100000; decide +kernel) (.cons (.str _ (by decide +kernel)) .nil)
    have hkb : Kp K (upd (upd (upd H' ta (.tup [.str "box", .str "Y"])) tb (.tup [.str "pair", .str "X", .ref ta])) di (.dK [((Sum.inr "X" : Key), V.str "Y"), ((Sum.inr "Y" : Key), V.str "X")])) (.ref tb) (.C2 "pair" (.L "X") (.C1 "box" (.L "Y"))) :=
      kp_mk (k := .C2 "pair" (.L "X") (.C1 "box" (.L "Y"))) (xs := [.str "X", .ref ta]) rfl (.inl (.inl (s19 _ _ upd_same))) (by show ("pair" : Str).length ≤ 100000; decide +kernel) (.cons (.str _ (by decide +kernel)) (.cons hka .nil))
    refine ⟨.ref tb, di, _, _, rfl, hkb, ⟨by decide +kernel, show isLet "X" = true by decide +kernel, by decide +kernel, show isLet "Y" = true by decide +kernel⟩, by decide, hid, moi, by decide, tz.ext (s17.trans (s18.trans s19)), fun H20 u20 s20 tb20 hu20 => ?_⟩
    have ef : fillK [("X", .L "Y"), ("Y", .L "X")] (.C2 "pair" (.L "X") (.C1 "box" (.L "Y"))) = .C2 "pair" (.L "Y") (.C1 "box" (.L "X")) := by decide +kernel
    rw [ef] at hu20
    refine ⟨_, rfl, by show 2 ≤ sizeLine; decide, fun tc htc => ?_⟩
    refine ⟨by show 3 ≤ sizeLine; decide, fun td htd => ?_⟩
    have s21 := same_new htc (.tup [.str "box", .str "X"])
    have s22 := same_new htd (.tup [.str "pair", .str "Y", .ref tc])
    have hkc : Kp K (upd (upd H20 tc (.tup [.str "box", .str "X"])) td (.tup [.str "pair", .str "Y", .ref tc])) (.ref tc) (.C1 "box" (.L "X")) :=
      kp_mk (k := .C1 "box" (.L "X")) (xs := [.str "X"]) rfl (.inl (.inl (s22 _ _ upd_same))) (by show ("box" : Str).length ≤ 100000; decide +kernel) (.cons (.str _ (by decide +kernel)) .nil)
    have hkd : Kp K (upd (upd H20 tc (.tup [.str "box", .str "X"])) td (.tup [.str "pair", .str "Y", .ref tc])) (.ref td) (.C2 "pair" (.L "Y") (.C1 "box" (.L "X"))) :=
      kp_mk (k := .C2 "pair" (.L "Y") (.C1 "box" (.L "X"))) (xs := [.str "Y", .ref tc]) rfl (.inl (.inl upd_same)) (by show ("pair" : Str).length ≤ 100000; decide +kernel) (.cons (.str _ (by decide +kernel)) (.cons hkc .nil))
    have eok : (Kd.C2 "pair" (.L "Y") (.C1 "box" (.L "X"))).ok := ⟨by decide +kernel, show isLet "Y" = true by decide +kernel, by decide +kernel, show isLet "X" = true by decide +kernel⟩
    obtain ⟨a1, ea1⟩ : ∃ a1, u20 = .ref a1 := by
      obtain ⟨a1, _, e, _⟩ := kp_C hu20 rfl
      exact ⟨a1, e⟩
    refine ⟨u20, .ref td, _, rfl, .inl ⟨a1, ea1⟩, .inl ⟨_, rfl⟩, kp_dp (hu20.stay (stay_same (s21.trans s22))), kp_dp hkd, pd_show _, pd_noDict eok, by decide, pd_fits eok (by decide), ?_⟩
    refine ⟨_, rfl, iteE rfl ?_⟩
    refine fun de hde => ?_
    have s23 := same_new hde (.dK [])
    refine ⟨.str "X", de, .L "X", [], rfl, show Th K _ (V.str "X") (Tg.str "X") from Th.str _ (by decide +kernel), show isLet "X" = true by decide +kernel, by decide, ⟨[], upd_same, .nil⟩, fun p hp => (by cases hp), by decide, tb20.ext (s21.trans (s22.trans s23)), fun H24 u24 s24 tb24 hu24 => ?_⟩
    have hX : Kp K H24 u24 (.L "X") := hu24
    obtain ⟨eu, _⟩ := kp_L hX rfl
    subst eu
    refine ⟨.str "X", .str "X", .str "X", rfl, .inr ⟨_, rfl⟩, .inr ⟨_, rfl⟩, .str _, .str _, rfl, rfl, by decide, pd_fits (k := .L "X") (show isLet "X" = true by decide +kernel) (by decide), q _⟩
end
end N

namespace N
open PySem PySem.Spec PyProof.Rows L2 LamX NdefX
/-! ### the end of a law, where one def makes lambdas -/
/-- what the end wants of the heap where the law is called -/
structure TabHere (K : PySem.W.Frag) (mg : Str → Option Value) (h : Heap) (c Pt : Addr) : Prop where
  tab : h.get? Pt = some { cls := .none, data := .fields #[] }
  off : K.lookup Pt = none
  hd : PySem.W.CodeHd h c Pt
  bm : ∃ (bm : Addr) (ob : Obj), mg "__builtins__" = some (.ref bm) ∧ bm ≠ builtinsNs ∧ h.get? bm = some ob ∧ ob.cls = .type "module" ∧ ob.dict = some builtinsNs ∧ ob.data = .plain
section
variable {P : Program} {w : World} {K : PySem.W.Frag} {mg mb : Str → Option Value} {CX : CXT} {k : Nat} {fa a c Pt : Addr} {fd : FuncData} {x : Str} {sp : Sp} {s₁ : Shared} {vs : List Value} {ns : List Int}
theorem run_lawT (H : Hp) (KX : K.In s₁.heap) (hns : s₁.heap.Ns mainGlobals mg) (hb : s₁.heap.Ns builtinsNs mb) (hbb : ∀ x : Str, x ≠ "__name__" → mb x = bootBuiltins x) (hlim : s₁.heap.NoLimit) (hg : s₁.gens = #[]) (T : TabHere K mg s₁.heap c Pt)
    (ha : s₁.heap.get? a = some { cls := .type "list", data := .seq vs.toArray }) (hr : Room k callerA) (F : ∀ base : Heap, K.In base → base.Ns mainGlobals mg → TabB base mg c Pt → FnG P w K mg base CX k fa fd [x] sp) (hbind : ∀ (s : Shared) (u : Value), BindsTo s fd ⟨[u], []⟩ [(x, u)])
    (hsp : sp [.ref a] H (fun v _ => v = .bl true) fun _ _ _ => False) (hCX : ∀ e s', CX [] H s₁ (fun _ _ _ => False) e s' → False) (hO : ∀ b, b ≠ Pt → H b = none ∨ ∃ o xs, H b = some (.frz o (.lst xs))) (hHP : H Pt = some (.tbl #[])) (hok : HOk P w H s₁.heap)
    (hA : ∀ b, H b ≠ none → b = a ∨ b = Pt) (hK : H a ≠ none → K.lookup a = none) :
    codeAny (model P w) callerA (.call (.ref fa) ⟨[.ref a], []⟩) (fun r s' => r = .ok (.ret (.bool true)) ∧ OldK s₁.heap s'.heap ∧ s'.os = s₁.os ∧ AllBare s'.gens) s₁ := by
  have tabH := T.tab
  -- what is neither the script nor the table is not tracked
  have free : ∀ {b : Addr} {o : Obj}, s₁.heap.get? b = some o → (∀ us n, o.data ≠ .seq us n) → o.data ≠ .fields #[] → H b = none := fun {b o} e n1 n2 => by
    cases q : H b with
    | none => rfl
    | some u =>
      rcases hA b (by rw [q]; exact fun z => by cases z) with z | z
      · rw [z, ha] at e
        cases e
        exact absurd rfl (n1 _ _)
      · rw [z, tabH] at e
        cases e
        exact absurd rfl n2
  have dictF : ∀ {b : Addr} {o : Obj} {es : Array DictEntry} {ep : Nat}, s₁.heap.get? b = some o → o.data = .dict es ep → H b = none := fun {b o es ep} e d => free e (fun us n z => by rw [d] at z; cases z) (fun z => by rw [d] at z; cases z)
  have nsK : ∀ {b : Addr} {m : Str → Option Value}, s₁.heap.Ns b m → (hidT s₁.heap H).Ns b m := fun {b m} z => by
    obtain ⟨o, es, ep, e, d, r⟩ := z
    exact ⟨o, es, ep, hidT_get e (dictF e d), d, r⟩
  have hKb : K.In (hidT s₁.heap H) := fun b o e => hidT_get (KX b o e) (by
    cases q : H b with
    | none => rfl
    | some u =>
      rcases hA b (by rw [q]; exact fun z => by cases z) with z | z
      · subst z
        rw [hK (by rw [q]; exact fun z => by cases z)] at e
        cases e
      · subst z
        rw [T.off] at e
        cases e)
  have hM : Mod K mg (hidT s₁.heap H) := ⟨hKb, nsK hns, ⟨mb, nsK hb, hbb⟩, let ⟨mc, h1, h2⟩ := hlim; ⟨mc, nsK h1, h2⟩⟩
  have gP : mainGlobals ≠ Pt := fun z => by
    obtain ⟨o, es, ep, e, d, _⟩ := hns
    rw [z, tabH] at e
    cases e
    cases d
  have TB : TabB (hidT s₁.heap H) mg c Pt := by
    refine ⟨?_, ?_, gP⟩
    · obtain ⟨o, us, file, tf, flags, tg, inF, text, tt, e1, r1, r2, r3, rest⟩ := T.hd
      refine ⟨o, us, file, tf, flags, tg, inF, text, tt, hidT_get e1 (free e1 (fun us n z => by rw [r2] at z; cases z) (fun z => ?_)), r1, r2, r3, rest⟩
      rw [r2] at z
      cases z
      simp at r3
    · obtain ⟨bm, ob, b1, b2, b3, b4, b5, b6⟩ := T.bm
      refine ⟨bm, ob, b1, b2, fun z => ?_, fun z => ?_, hidT_get b3 (free b3 (fun us n z => by rw [b6] at z; cases z) (fun z => by rw [b6] at z; cases z)), b4, b5, b6⟩
      · obtain ⟨o, es, ep, e, d, _⟩ := hns
        rw [z, e] at b3
        cases b3
        rw [d] at b6
        cases b6
      · rw [z, tabH] at b3
        cases b3
        cases b6
  have e0 : Env0 P w K mg (hidT s₁.heap H) callerA [] s₁ H := ⟨rfl, hM, fun b o e => of_hidT e, Nat.le_of_eq (hidT_size _ _), trivial, fun b hb => absurd (show b ∈ ([] : List Addr) from hb) (by simp), hok, .of_eq hg⟩
  have go := (F _ hKb (nsK hns) TB).run callerA [] s₁ H ⟨[.ref a], []⟩ [.ref a] [.ref a] (fun v _ => v = .bl true) (fun _ _ _ => False) (roomG_caller hr) e0 (hbind s₁ (.ref a)) (.cons rfl .nil) hsp
  refine codeAny_mono go fun r s' h => ?_
  match r, h with
  | .error e, h => exact (hCX e s' h).elim
  | .ok .next, h => exact False.elim h
  | .ok .brk, h => exact False.elim h
  | .ok .cont, h => exact False.elim h
  | .ok (.ret u), h =>
    obtain ⟨v, H', os, bare, un, hok', r', q⟩ := h
    have q' : v = .bl true := q
    subst q'
    obtain rfl : u = Value.bool true := r'
    obtain ⟨more, hm⟩ := un.tbls Pt #[] hHP
    have hm' : s'.heap.get? Pt = some { cls := .none, data := .fields (#[] ++ more) } := hok' Pt _ hm
    have key : ∀ b o, b ≠ Pt → s₁.heap.get? b = some o → s'.heap.get? b = some o := fun b o nb e => by
      cases q : H b with
      | none => exact un.keep b o e q (by intro z; exact absurd (show b ∈ ([] : List Addr) from z) (by simp)) (by simp)
      | some u =>
        rcases hO b nb with z | ⟨ob, xs, z⟩
        · rw [q] at z; cases z
        · have e1 := (hok b _ z).1
          have e2 := (hok' b _ (un.frzs b ob _ z)).1
          rw [e] at e1
          cases e1
          exact e2
    refine ⟨rfl, ⟨fun b o e => ?_, fun b o e => ?_⟩, os, bare⟩
    · by_cases nb : b = Pt
      · subst nb
        rw [tabH] at e
        cases e
        exact .inr (.inl ⟨(T.hd.tab tabH).isCodeTable, rfl, #[], more, rfl, hm'⟩)
      · exact .inl (key b o nb e)
    · by_cases nb : b = Pt
      · subst nb
        exact ⟨_, hm'⟩
      · exact ⟨o, key b o nb e⟩
end
theorem walkGT {l : PySem.W.OpenLaw} {n k : Nat} {q : Program} {loose : List Str} {XP : (Str → Option Value) → Heap → Prop} {YP : World → Heap → Prop} {d : DefRec} {K : Params → PySem.W.Frag} {CX : World → CXT} {sp : World → Sp} {x : Str} {Pt : Addr}
    (hn : l.most = some n) (hn2 : n ≤ sizeLine) (hdf : d.params.defaults = []) (hr : Room k callerA) (hY : ∀ (w : World) (h : Heap), YP w h → (K w.params).In h) (hP : ∀ (w : World) (h : Heap), YP w h → h.get? Pt = some { cls := .none, data := .fields #[] })
    (hoff : ∀ w : World, (K w.params).lookup Pt = none)
    (F : ∀ (w : World) (mg : Str → Option Value) (fa : Addr) (h : Heap), (K w.params).In h → h.Ns mainGlobals mg → mg d.name = some (.ref fa) →
      ∃ (c : Addr) (fd : FuncData), PySem.W.codeHdIn (K w.params) c Pt = true ∧ (∀ (s : Shared) (u : Value), BindsTo s fd ⟨[u], []⟩ [(x, u)]) ∧ ∀ base : Heap, (K w.params).In base → base.Ns mainGlobals mg → TabB base mg c Pt → FnG l.prog w (K w.params) mg base (CX w) k fa fd [x] (sp w))
    (hsp : ∀ (w : World) (H : Hp) (a : Addr) (ns : List Int), ns.length ≤ n → H Pt = some (.tbl #[]) → SqL (K w.params) H a (ns.map V.int) → sp w [.ref a] H (fun v _ => v = .bl true) fun _ _ _ => False)
    (hCX : ∀ (w : World) (H : Hp) (s : Shared) (e : Value) (s' : Shared), CX w [] H s (fun _ _ _ => False) e s' → False) : PySem.W.WalkO q loose XP YP l.row.toRowW d [] (fun f vs => PySem.call f vs) := by
  refine Att.attach_call hn hdf fun w s₀ s₁ mg mb fa o pm cd doc a vs ns G Y ho hd hcd hmg ha hi hlen hg => ?_
  have KX := hY w _ Y
  obtain ⟨c, fd, hcc, hb, hF⟩ := F w mg fa _ KX G.T.g hmg
  have ht := hP w _ Y
  have T : TabHere (K w.params) mg s₁.heap c Pt := ⟨ht, hoff w, PySem.W.codeHd_of_K KX hcc, G.T.bmain⟩
  have rv := vals_ints hi
  have lenV := hi.length
  have hl : ns.length ≤ sizeLine := Nat.le_trans hlen hn2
  have naP : a ≠ Pt := fun z => by
    rw [z, ht] at ha
    cases ha
  have one := fun (H : Hp) (hS : SqL (K w.params) H a (ns.map V.int)) (hHP : H Pt = some (.tbl #[])) => run_lawT H KX G.T.g G.T.b G.T.builtins G.T.nolimit hg T ha hr hF hb (hsp w H a ns hlen hHP hS) (fun e s' => hCX w H s₁ e s')
  cases hk : (K w.params).lookup a with
  | some o' =>
    have e := KX a o' hk
    rw [ha] at e
    cases e
    have at_ : ∀ {b : Addr}, b ≠ Pt → (if b = Pt then some (HO.tbl #[]) else none) = none := fun n => if_neg n
    refine one (fun b => if b = Pt then some (.tbl #[]) else none) (.inr ⟨_, vs.toArray, _, hk, rfl, rfl, rfl, by rw [List.size_toArray, lenV]; exact hl, by simpa using rv⟩) (if_pos rfl) (fun b nb => .inl (at_ nb)) (if_pos rfl) (fun b u z => ?_) (fun b z => ?_) fun z => absurd (at_ naP) z
    · by_cases nb : b = Pt
      · have z' := (if_pos nb).symm.trans z
        cases z'
        rw [nb]
        exact ht
      · have z' := (at_ nb).symm.trans z
        cases z'
    · by_cases nb : b = Pt
      · exact .inr nb
      · exact absurd (at_ nb) z
  | none =>
    have yP : (if Pt = a then some (HO.frz { cls := .type "list", data := .seq vs.toArray } (.lst (ns.map V.int))) else if Pt = Pt then some (.tbl #[]) else none) = some (.tbl #[]) := (if_neg (Ne.symm naP)).trans (if_pos rfl)
    refine one (fun b => if b = a then some (.frz { cls := .type "list", data := .seq vs.toArray } (.lst (ns.map V.int))) else if b = Pt then some (.tbl #[]) else none) (.inl (.inr ⟨{ cls := .type "list", data := .seq vs.toArray }, if_pos rfl⟩)) yP (fun b nb => ?_) yP (fun b u z => ?_) (fun b z => ?_) fun _ => hk
    · by_cases hb : b = a
      · exact .inr ⟨_, _, if_pos hb⟩
      · exact .inl ((if_neg hb).trans (if_neg nb))
    · by_cases hb : b = a
      · have z' := (if_pos hb).symm.trans z
        cases z'
        rw [hb]
        exact ⟨ha, by rw [List.length_map]; exact hl, vs, _, rv, ha⟩
      · have z1 := (if_neg hb).symm.trans z
        by_cases nb : b = Pt
        · have z' := (if_pos nb).symm.trans z1
          cases z'
          rw [nb]
          exact ht
        · have z' := (if_neg nb).symm.trans z1
          cases z'
    · by_cases hb : b = a
      · exact .inl hb
      · by_cases nb : b = Pt
        · exact .inr nb
        · exact absurd ((if_neg hb).trans (if_neg nb)) z
theorem packT {K : PySem.W.Frag} {c Pt : Addr} {A : FuncData → Prop} {B : Addr → FuncData → Prop} (h : ∃ fd, A fd ∧ B c fd) (hc : PySem.W.codeHdIn K c Pt = true) : ∃ c fd, PySem.W.codeHdIn K c Pt = true ∧ A fd ∧ B c fd := by
  obtain ⟨fd, a, b⟩ := h
  exact ⟨c, fd, hc, a, b⟩
end N

namespace N
open PySem PySem.Spec PyProof.Rows L2 StX LamX NdefX
theorem glo_mk {K : PySem.W.Frag} {h : Heap} {mg : Str → Option Value} {t8 t2 : Tok} (X : K.In h) (G : h.Ns mainGlobals mg)
    (z_isinstance : PySem.W.nsIn K mainGlobals "isinstance" = some none)
    (z_str : PySem.W.nsIn K mainGlobals "str" = some none)
    (z_tuple : PySem.W.nsIn K mainGlobals "tuple" = some none)
    (z_dict : PySem.W.nsIn K mainGlobals "dict" = some none)
    (z_list : PySem.W.nsIn K mainGlobals "list" = some none)
    (z_len : PySem.W.nsIn K mainGlobals "len" = some none)
    (z_all : PySem.W.nsIn K mainGlobals "all" = some none)
    (z_max : PySem.W.nsIn K mainGlobals "max" = some none)
    (z_min : PySem.W.nsIn K mainGlobals "min" = some none)
    (z_range : PySem.W.nsIn K mainGlobals "range" = some none)
    (z_repr : PySem.W.nsIn K mainGlobals "repr" = some none)
    (z_sum : PySem.W.nsIn K mainGlobals "sum" = some none)
    (zl : PySem.W.nsIn K mainGlobals "LONGEST_NAME" = some (some (.int 8 t8))) (zm : PySem.W.nsIn K mainGlobals "MOST_ARGUMENTS" = some (some (.int 2 t2))) : Glo mg :=
  ⟨PySem.W.mg_none_of X G z_isinstance, PySem.W.mg_none_of X G z_str, PySem.W.mg_none_of X G z_tuple, PySem.W.mg_none_of X G z_dict, PySem.W.mg_none_of X G z_list, PySem.W.mg_none_of X G z_len, PySem.W.mg_none_of X G z_all, PySem.W.mg_none_of X G z_max, PySem.W.mg_none_of X G z_min, PySem.W.mg_none_of X G z_range, PySem.W.mg_none_of X G z_repr, PySem.W.mg_none_of X G z_sum, ⟨_, PySem.W.mg_of X G zl⟩, ⟨_, PySem.W.mg_of X G zm⟩⟩
theorem exc_mk {K : PySem.W.Frag} {h : Heap} {mg : Str → Option Value} {x : Str} {C : Addr} (X : K.In h) (G : h.Ns mainGlobals mg) (a : PySem.W.nsIn K mainGlobals x = some (some (.ref C))) (k : PySem.W.keepIn K (.ref C) = true) (b : PySem.W.subIn K (.ref C) (.type "BaseException") = some true)
    (t : PySem.W.typeIn K (.ref C) = some (.type "type")) (e : PySem.W.excIn K C [.type "ValueError", .type "Exception", .type "BaseException", .type "object"] "ValueError.__new__" = true) : ∃ C, ExcAt K mg x C := ⟨C, PySem.W.mg_of X G a, k, b, t, e⟩
/-- the promises, one behind the other -/
theorem all_here {P : Program} {w : World} {K : PySem.W.Frag} {mg : Str → Option Value} {fa c Pt : Addr} (hfa : mg "law" = some (.ref fa)) (G : Glo mg) (X0 : ∃ C, ExcAt K mg "NoType" C)
    (D_is_letter : DefAt K mg "is_letter" s_is_letter ["thing"])
    (D_is_name : DefAt K mg "is_name" s_is_name ["thing"])
    (D_begins_class_type : DefAt K mg "begins_class_type" s_begins_class_type ["thing"])
    (D_is_type : DefAt K mg "is_type" s_is_type ["thing"])
    (D_check_type : DefAt K mg "check_type" s_check_type ["thing"])
    (D_parts : DefAt K mg "parts" s_parts ["kind"])
    (D_folded : DefAt K mg "folded" s_folded ["kind", "of_letter", "of_class"])
    (D_filled : DefAtC K mg "filled" s_filled ["kind", "values"] c)
    (D_are_values : DefAt K mg "are_values" s_are_values ["thing"])
    (D_fill : DefAt K mg "fill" s_fill ["kind", "values"])
    (D_Lcell_at : DefAt K mg "_law_cell_at" s_Lcell_at ["_law_script", "_law_k"])
    (D_Lpen : DefAt K mg "_law_pen" s_Lpen ["_law_cell"])
    (D_Ldraw : DefAt K mg "_law_draw" s_Ldraw ["_law_pen_here", "_law_many"])
    (D_Lsame : DefAt K mg "_law_same" s_Lsame ["_law_found", "_law_due"])
    (D_Lpick : DefAt K mg "_law_pick" s_Lpick ["_law_pen_here", "_law_some"])
    (D_Lmixed : DefAt K mg "_law_mixed" s_Lmixed ["_law_pen_here", "_law_some"])
    (D_Lfilled : DefAt K mg "_law_filled" s_Lfilled ["_law_kind_here", "_law_held_here"])
    (D_Lkind : DefAt K mg "_law_kind" s_Lkind ["_law_pen_here", "_law_letters", "_law_shapes", "_law_most"])
    (D_Lheld : DefAt K mg "_law_held" s_Lheld ["_law_pen_here", "_law_shapes"])
    (D_law : DefAt K mg "law" s_law ["_law_script"])
    : ∃ fd : FuncData, (∀ (s : Shared) (u : Value), BindsTo s fd ⟨[u], []⟩ [("_law_script", u)]) ∧ ∀ base : Heap, K.In base → base.Ns mainGlobals mg → TabB base mg c Pt → FnG P w K mg base (L2.CX P w) 24 fa fd ["_law_script"] (spLaw2 K Pt) := by
  obtain ⟨C0, X0⟩ := X0
  obtain ⟨f, fd, hm, F, _⟩ := D_law
  have ef := hm.symm.trans hfa
  cases ef
  refine ⟨fd, fun s u => ?_, fun base _ _ TB => ?_⟩
  · obtain ⟨oc, od, kV, doc, pm, an, cdv, ct, osl, rfl, _, _⟩ := F.ex
    exact .of_eq rfl
  · have c_isl := ok_is_letter (P := P) (w := w) (base := base) G D_is_letter
    have c_isn := ok_is_name (P := P) (w := w) (base := base) G D_is_name
    have c_beg := ok_begins G c_isn D_begins_class_type
    have c_ist := ok_is_type c_isl c_beg D_is_type
    have c_chk := ok_check_type X0 c_ist D_check_type
    have c_par := ok_parts (P := P) (w := w) (base := base) G D_parts
    have c_fld := ok_filledT G TB c_par D_folded D_filled
    have c_val := ok_are_values G c_isl c_ist D_are_values
    have c_fil := ok_fillT c_chk c_val c_fld D_fill
    have c_cel := ok_cell (P := P) (w := w) (base := base) G D_Lcell_at
    have c_pen := ok_pen (P := P) (w := w) (base := base) G D_Lpen
    have c_dra := ok_draw (P := P) (w := w) (base := base) D_Ldraw
    have c_sam := ok_same (P := P) (w := w) (base := base) G D_Lsame
    have c_pic := ok_pick G c_dra D_Lpick
    have c_mix := ok_mixed G c_dra D_Lmixed
    have c_lf := ok_lf (P := P) (w := w) (base := base) G D_Lfilled
    have c_kin := ok_kind G c_dra c_pic D_Lkind
    have c_hel := ok_heldR c_mix c_dra (c_kin 5) D_Lheld
    exact ok_law2 G c_cel c_pen c_dra (c_kin 11) c_hel (c_lf 22) c_fil c_sam F
end N
open PySem PySem.W PyProof.Rows
set_option maxHeartbeats 0 in
theorem PySem.Challenge.cw_endlesskinds_k02_letters_filled_holds : PySem.Challenge.rw_endlesskinds_k02_letters_filled.Holds := by
  w_on; o_law; k_head; (case hw => w_witness2)
  k_fill
  refine N.walkGT (l := PySem.Challenge.rw_endlesskinds_k02_letters_filled) (n := 63) (k := 24) (x := "_law_script") (Pt := 100) (CX := fun w => L2.CX PySem.Challenge.rw_endlesskinds_k02_letters_filled.prog w) (sp := fun w => N.spLaw2 _ 100) rfl (by decide) rfl ⟨rfl, by decide, by decide⟩ (fun w h Y => PySem.W.km_in_of Y) (fun w h Y => PySem.W.km_tabs_of Y 100 List.mem_cons_self) ?zoff ?F (fun w H a ns hl hP hS => ⟨a, ns, rfl, hS, hl, LamX.TabS.nil hP, fun _ => rfl⟩) (fun w H s e s' h => by obtain ⟨_, _, _, _, _, _, _, _, _, _, _, _, z⟩ := h; exact z)
  case zoff =>
    intro w
    kernel_rfl
  case F =>
    intro w mg fa h KX G hmg
    refine' N.packT (N.all_here hmg ?glo ?exc0 ?d_is_letter ?d_is_name ?d_begins_class_type ?d_is_type ?d_check_type ?d_parts ?d_folded ?d_filled ?d_are_values ?d_fill ?d_Lcell_at ?d_Lpen ?d_Ldraw ?d_Lsame ?d_Lpick ?d_Lmixed ?d_Lfilled ?d_Lkind ?d_Lheld ?d_law) ?zcd
    case glo =>
      refine' N.glo_mk KX G ?zg0 ?zg1 ?zg2 ?zg3 ?zg4 ?zg5 ?zg6 ?zg7 ?zg8 ?zg9 ?zg10 ?zg11 ?zgl ?zgm
      (case zg0 => k_is); (case zg1 => k_is); (case zg2 => k_is); (case zg3 => k_is); (case zg4 => k_is); (case zg5 => k_is); (case zg6 => k_is); (case zg7 => k_is); (case zg8 => k_is); (case zg9 => k_is); (case zg10 => k_is); (case zg11 => k_is); (case zgl => k_is); (case zgm => k_is)
    case exc0 =>
      refine' N.exc_mk KX G ?za_exc0 ?zk_exc0 ?zb_exc0 ?zt_exc0 ?ze_exc0
      (case za_exc0 => k_is); (case zk_exc0 => k_is); (case zb_exc0 => k_is); (case zt_exc0 => k_is); (case ze_exc0 => k_exc)
    case d_is_letter =>
      refine' N.mk_def KX G ?za_d_is_letter ?zl_d_is_letter ?zc_d_is_letter ?zk_d_is_letter ?zb_d_is_letter
      (case za_d_is_letter => k_is); (case zl_d_is_letter => k_is); (case zc_d_is_letter => k_is); (case zk_d_is_letter => k_is); (case zb_d_is_letter => exact fun _ _ _ _ _ _ us hl => match us, hl with | [_], _ => rfl)
    case d_is_name =>
      refine' N.mk_def KX G ?za_d_is_name ?zl_d_is_name ?zc_d_is_name ?zk_d_is_name ?zb_d_is_name
      (case za_d_is_name => k_is); (case zl_d_is_name => k_is); (case zc_d_is_name => k_is); (case zk_d_is_name => k_is); (case zb_d_is_name => exact fun _ _ _ _ _ _ us hl => match us, hl with | [_], _ => rfl)
    case d_begins_class_type =>
      refine' N.mk_def KX G ?za_d_begins_class_type ?zl_d_begins_class_type ?zc_d_begins_class_type ?zk_d_begins_class_type ?zb_d_begins_class_type
      (case za_d_begins_class_type => k_is); (case zl_d_begins_class_type => k_is); (case zc_d_begins_class_type => k_is); (case zk_d_begins_class_type => k_is); (case zb_d_begins_class_type => exact fun _ _ _ _ _ _ us hl => match us, hl with | [_], _ => rfl)
    case d_is_type =>
      refine' N.mk_def KX G ?za_d_is_type ?zl_d_is_type ?zc_d_is_type ?zk_d_is_type ?zb_d_is_type
      (case za_d_is_type => k_is); (case zl_d_is_type => k_is); (case zc_d_is_type => k_is); (case zk_d_is_type => k_is); (case zb_d_is_type => exact fun _ _ _ _ _ _ us hl => match us, hl with | [_], _ => rfl)
    case d_check_type =>
      refine' N.mk_def KX G ?za_d_check_type ?zl_d_check_type ?zc_d_check_type ?zk_d_check_type ?zb_d_check_type
      (case za_d_check_type => k_is); (case zl_d_check_type => k_is); (case zc_d_check_type => k_is); (case zk_d_check_type => k_is); (case zb_d_check_type => exact fun _ _ _ _ _ _ us hl => match us, hl with | [_], _ => rfl)
    case d_parts =>
      refine' N.mk_def KX G ?za_d_parts ?zl_d_parts ?zc_d_parts ?zk_d_parts ?zb_d_parts
      (case za_d_parts => k_is); (case zl_d_parts => k_is); (case zc_d_parts => k_is); (case zk_d_parts => k_is); (case zb_d_parts => exact fun _ _ _ _ _ _ us hl => match us, hl with | [_], _ => rfl)
    case d_folded =>
      refine' N.mk_def KX G ?za_d_folded ?zl_d_folded ?zc_d_folded ?zk_d_folded ?zb_d_folded
      (case za_d_folded => k_is); (case zl_d_folded => k_is); (case zc_d_folded => k_is); (case zk_d_folded => k_is); (case zb_d_folded => exact fun _ _ _ _ _ _ us hl => match us, hl with | [_, _, _], _ => rfl)
    case d_filled =>
      refine' N.mk_defC KX G ?za_d_filled ?zl_d_filled ?zc_d_filled ?zk_d_filled ?zb_d_filled
      (case za_d_filled => k_is); (case zl_d_filled => k_is); (case zc_d_filled => k_is); (case zk_d_filled => k_is); (case zb_d_filled => exact fun _ _ _ _ _ _ us hl => match us, hl with | [_, _], _ => rfl)
    case d_are_values =>
      refine' N.mk_def KX G ?za_d_are_values ?zl_d_are_values ?zc_d_are_values ?zk_d_are_values ?zb_d_are_values
      (case za_d_are_values => k_is); (case zl_d_are_values => k_is); (case zc_d_are_values => k_is); (case zk_d_are_values => k_is); (case zb_d_are_values => exact fun _ _ _ _ _ _ us hl => match us, hl with | [_], _ => rfl)
    case d_fill =>
      refine' N.mk_def KX G ?za_d_fill ?zl_d_fill ?zc_d_fill ?zk_d_fill ?zb_d_fill
      (case za_d_fill => k_is); (case zl_d_fill => k_is); (case zc_d_fill => k_is); (case zk_d_fill => k_is); (case zb_d_fill => exact fun _ _ _ _ _ _ us hl => match us, hl with | [_, _], _ => rfl)
    case d_Lcell_at =>
      refine' N.mk_def KX G ?za_d_Lcell_at ?zl_d_Lcell_at ?zc_d_Lcell_at ?zk_d_Lcell_at ?zb_d_Lcell_at
      (case za_d_Lcell_at => k_is); (case zl_d_Lcell_at => k_is); (case zc_d_Lcell_at => k_is); (case zk_d_Lcell_at => k_is); (case zb_d_Lcell_at => exact fun _ _ _ _ _ _ us hl => match us, hl with | [_, _], _ => rfl)
    case d_Lpen =>
      refine' N.mk_def KX G ?za_d_Lpen ?zl_d_Lpen ?zc_d_Lpen ?zk_d_Lpen ?zb_d_Lpen
      (case za_d_Lpen => k_is); (case zl_d_Lpen => k_is); (case zc_d_Lpen => k_is); (case zk_d_Lpen => k_is); (case zb_d_Lpen => exact fun _ _ _ _ _ _ us hl => match us, hl with | [_], _ => rfl)
    case d_Ldraw =>
      refine' N.mk_def KX G ?za_d_Ldraw ?zl_d_Ldraw ?zc_d_Ldraw ?zk_d_Ldraw ?zb_d_Ldraw
      (case za_d_Ldraw => k_is); (case zl_d_Ldraw => k_is); (case zc_d_Ldraw => k_is); (case zk_d_Ldraw => k_is); (case zb_d_Ldraw => exact fun _ _ _ _ _ _ us hl => match us, hl with | [_, _], _ => rfl)
    case d_Lsame =>
      refine' N.mk_def KX G ?za_d_Lsame ?zl_d_Lsame ?zc_d_Lsame ?zk_d_Lsame ?zb_d_Lsame
      (case za_d_Lsame => k_is); (case zl_d_Lsame => k_is); (case zc_d_Lsame => k_is); (case zk_d_Lsame => k_is); (case zb_d_Lsame => exact fun _ _ _ _ _ _ us hl => match us, hl with | [_, _], _ => rfl)
    case d_Lpick =>
      refine' N.mk_def KX G ?za_d_Lpick ?zl_d_Lpick ?zc_d_Lpick ?zk_d_Lpick ?zb_d_Lpick
      (case za_d_Lpick => k_is); (case zl_d_Lpick => k_is); (case zc_d_Lpick => k_is); (case zk_d_Lpick => k_is); (case zb_d_Lpick => exact fun _ _ _ _ _ _ us hl => match us, hl with | [_, _], _ => rfl)
    case d_Lmixed =>
      refine' N.mk_def KX G ?za_d_Lmixed ?zl_d_Lmixed ?zc_d_Lmixed ?zk_d_Lmixed ?zb_d_Lmixed
      (case za_d_Lmixed => k_is); (case zl_d_Lmixed => k_is); (case zc_d_Lmixed => k_is); (case zk_d_Lmixed => k_is); (case zb_d_Lmixed => exact fun _ _ _ _ _ _ us hl => match us, hl with | [_, _], _ => rfl)
    case d_Lfilled =>
      refine' N.mk_def KX G ?za_d_Lfilled ?zl_d_Lfilled ?zc_d_Lfilled ?zk_d_Lfilled ?zb_d_Lfilled
      (case za_d_Lfilled => k_is); (case zl_d_Lfilled => k_is); (case zc_d_Lfilled => k_is); (case zk_d_Lfilled => k_is); (case zb_d_Lfilled => exact fun _ _ _ _ _ _ us hl => match us, hl with | [_, _], _ => rfl)
    case d_Lkind =>
      refine' N.mk_def KX G ?za_d_Lkind ?zl_d_Lkind ?zc_d_Lkind ?zk_d_Lkind ?zb_d_Lkind
      (case za_d_Lkind => k_is); (case zl_d_Lkind => k_is); (case zc_d_Lkind => k_is); (case zk_d_Lkind => k_is); (case zb_d_Lkind => exact fun _ _ _ _ _ _ us hl => match us, hl with | [_, _, _, _], _ => rfl)
    case d_Lheld =>
      refine' N.mk_def KX G ?za_d_Lheld ?zl_d_Lheld ?zc_d_Lheld ?zk_d_Lheld ?zb_d_Lheld
      (case za_d_Lheld => k_is); (case zl_d_Lheld => k_is); (case zc_d_Lheld => k_is); (case zk_d_Lheld => k_is); (case zb_d_Lheld => exact fun _ _ _ _ _ _ us hl => match us, hl with | [_, _], _ => rfl)
    case d_law =>
      refine' N.mk_def KX G ?za_d_law ?zl_d_law ?zc_d_law ?zk_d_law ?zb_d_law
      (case za_d_law => k_is); (case zl_d_law => k_is); (case zc_d_law => k_is); (case zk_d_law => k_is); (case zb_d_law => exact fun _ _ _ _ _ _ us hl => match us, hl with | [_], _ => rfl)
    case zcd => kernel_rfl

