import Derived.Test.YtjfifaooimgbaaaPost
/- Who tells the truth loses nothing: plain mathematics of a clearing's outcome. -/
namespace Go.Proofs.Ytjfifaooimgbaaa
open Go.Sort

theorem buyers_sorted (l : List (Int × Int)) : (buyersOf l).Pairwise (fun x y => bLt y x = false) := by
  have := List.pairwise_mergeSort (le := fun x y => !bLt y x) (fun a b c h1 h2 => by
    simp only [Bool.not_eq_true'] at h1 h2 ⊢
    exact swo_bLt.ntrans c b a h2 h1) (fun a b => by
    cases h : bLt b a with
    | false => simp
    | true => simp [swo_bLt.asymmA h]) (Clr.cand 0 l)
  simpa [buyersOf] using this
theorem sellers_sorted (l : List (Int × Int)) : (sellersOf l).Pairwise (fun x y => sLt y x = false) := by
  have := List.pairwise_mergeSort (le := fun x y => !sLt y x) (fun a b c h1 h2 => by
    simp only [Bool.not_eq_true'] at h1 h2 ⊢
    exact swo_sLt.ntrans c b a h2 h1) (fun a b => by
    cases h : sLt b a with
    | false => simp
    | true => simp [swo_sLt.asymmA h]) (Clr.cand 1 l)
  simpa [sellersOf] using this

theorem getD_lt {s : List (Int × Int)} {i : Nat} (h : i < s.length) : s.getD i (0, 0) = s[i] := by
  rw [List.getD_eq_getElem?_getD, List.getElem?_eq_getElem h]; rfl
theorem priceAt_lt {no : Int} {s : List (Int × Int)} {i : Nat} (h : i < s.length) : priceAt no s i = s[i].2 := by
  unfold priceAt; rw [if_pos h, getD_lt h]
theorem priceAt_ge {no : Int} {s : List (Int × Int)} {i : Nat} (h : s.length ≤ i) : priceAt no s i = no := by
  unfold priceAt; rw [if_neg (by omega)]

theorem buyers_mono (l : List (Int × Int)) (i j : Nat) (h : i ≤ j) : priceAt 0 (buyersOf l) j ≤ priceAt 0 (buyersOf l) i := by
  by_cases hj : j < (buyersOf l).length
  · rw [priceAt_lt hj, priceAt_lt (show i < _ by omega)]
    by_cases e : i = j
    · subst e; omega
    · have := List.pairwise_iff_getElem.1 (buyers_sorted l) i j (by omega) hj (by omega)
      have := (bLt_no _ _).1 this
      omega
  · rw [priceAt_ge (show _ ≤ j by omega)]
    exact ((buyers_priced l).bd 0 (by omega) i).1
theorem sellers_mono (l : List (Int × Int)) (i j : Nat) (h : i ≤ j) : priceAt 1000 (sellersOf l) i ≤ priceAt 1000 (sellersOf l) j := by
  by_cases hj : j < (sellersOf l).length
  · rw [priceAt_lt hj, priceAt_lt (show i < _ by omega)]
    by_cases e : i = j
    · subst e; omega
    · have := List.pairwise_iff_getElem.1 (sellers_sorted l) i j (by omega) hj (by omega)
      have := (sLt_no _ _).1 this
      omega
  · rw [priceAt_ge (show _ ≤ j by omega)]
    exact ((sellers_priced l).bd 1000 (by omega) i).2

/-! ### one order is given another price -/
section
variable (l : List (Int × Int)) (i : Nat) (side : Int)
theorem getD_set_ne (x : Int × Int) (k : Nat) (h : k ≠ i) : (l.set i x).getD k (0, 0) = l.getD k (0, 0) := by
  simp [List.getD_eq_getElem?_getD, Ne.symm h]
theorem getD_set_eq (x : Int × Int) (h : i < l.length) : (l.set i x).getD i (0, 0) = x := by
  simp [List.getD_eq_getElem?_getD, h]

theorem cand_other (side' : Int) (hs : side ≠ side') (hi : i < l.length) (p q : Int) : ∀ k, Clr.candTo side' (l.set i (side, p)) k = Clr.candTo side' (l.set i (side, q)) k
  | 0 => rfl
  | k + 1 => by
    have ih := cand_other side' hs hi p q k
    rw [Clr.candTo, Clr.candTo, ih]
    by_cases e : k = i
    · subst e
      rw [getD_set_eq l k _ hi, getD_set_eq l k _ hi]
      have h : ∀ p, Clr.okB side' (side, p) = false := fun p => by simp [Clr.okB, hs]
      rw [h, h]; rfl
    · rw [getD_set_ne l i _ k e, getD_set_ne l i _ k e]

theorem cand_own (hi : i < l.length) (p : Int) (h1 : 1 ≤ p) (h2 : p < 1000) : ∀ k, (Clr.candTo side (l.set i (side, p)) k).Perm (if i < k then ((i : Int), p) :: Clr.candTo side (l.set i (side, 0)) k else Clr.candTo side (l.set i (side, 0)) k)
  | 0 => by rw [if_neg (by omega)]; exact List.Perm.refl _
  | k + 1 => by
    have ih := cand_own hi p h1 h2 k
    by_cases e : k = i
    · subst e
      rw [if_neg (by omega)] at ih
      have a1 : Clr.okB side ((l.set k (side, p)).getD k (0, 0)) = true := by
        rw [getD_set_eq l k _ hi]; simp [Clr.okB, h1, h2]
      have a2 : Clr.okB side ((l.set k (side, 0)).getD k (0, 0)) = false := by
        rw [getD_set_eq l k _ hi]; simp [Clr.okB]
      rw [Clr.candTo_hit a1, Clr.candTo_miss a2, if_pos (by omega), getD_set_eq l k _ hi]
      exact (List.perm_append_singleton _ _).trans (ih.cons _)
    · have b : (l.set i (side, p)).getD k (0, 0) = (l.set i (side, 0)).getD k (0, 0) := by rw [getD_set_ne l i _ k e, getD_set_ne l i _ k e]
      cases hc : Clr.okB side ((l.set i (side, 0)).getD k (0, 0)) with
      | true =>
        rw [Clr.candTo_hit hc, Clr.candTo_hit (by rw [b]; exact hc), b]
        by_cases hik : i < k
        · rw [if_pos hik] at ih
          rw [if_pos (by omega)]
          exact ih.append_right _
        · rw [if_neg hik] at ih
          rw [if_neg (by omega)]
          exact ih.append_right _
      | false =>
        rw [Clr.candTo_miss hc, Clr.candTo_miss (by rw [b]; exact hc)]
        by_cases hik : i < k
        · rw [if_pos hik] at ih
          rw [if_pos (by omega)]; exact ih
        · rw [if_neg hik] at ih
          rw [if_neg (by omega)]; exact ih
end

/-- where one's own order stands among the others. -/
structure Stands (X O : List (Int × Int)) (i : Nat) (p : Int) (A C : List (Int × Int)) : Prop where
  own : X = A ++ ((i : Int), p) :: C
  others : O = A ++ C

theorem stands_buy (l : List (Int × Int)) (i : Nat) (hi : i < l.length) (p : Int) (h1 : 1 ≤ p) (h2 : p < 1000) :
    ∃ A C, Stands (buyersOf (l.set i (0, p))) (buyersOf (l.set i (0, 0))) i p A C ∧ (∀ x ∈ A, p ≤ x.2) ∧ (∀ x ∈ C, x.2 ≤ p) := by
  have hp : (buyersOf (l.set i (0, p))).Perm (((i : Int), p) :: buyersOf (l.set i (0, 0))) := by
    have h := cand_own l i 0 hi p h1 h2 l.length
    rw [if_pos hi] at h
    have e1 : Clr.cand 0 (l.set i (0, p)) = Clr.candTo 0 (l.set i (0, p)) l.length := by unfold Clr.cand; rw [List.length_set]
    have e2 : Clr.cand 0 (l.set i (0, 0)) = Clr.candTo 0 (l.set i (0, 0)) l.length := by unfold Clr.cand; rw [List.length_set]
    have b1 := buyers_perm (l.set i (0, p))
    have b2 := buyers_perm (l.set i (0, 0))
    rw [e1] at b1
    rw [e2] at b2
    exact b1.trans (h.trans (b2.symm.cons _))
  obtain ⟨A, C, hX⟩ := List.append_of_mem (hp.mem_iff.2 List.mem_cons_self)
  have hs := buyers_sorted (l.set i (0, p))
  rw [hX] at hs hp
  have hAC : (A ++ C).Perm (buyersOf (l.set i (0, 0))) := (List.perm_middle.symm.trans hp).cons_inv
  have hs' : (A ++ C).Pairwise (fun x y => bLt y x = false) := hs.sublist (List.Sublist.append (List.Sublist.refl A) (List.sublist_cons_self _ C))
  have heq : A ++ C = buyersOf (l.set i (0, 0)) := List.Perm.eq_of_pairwise (fun x y _ _ h1 h2 => Prod.ext (by have := (bLt_no y x).1 h1; have := (bLt_no x y).1 h2; omega) (by have := (bLt_no y x).1 h1; have := (bLt_no x y).1 h2; omega)) hs' (buyers_sorted _) hAC
  rw [List.pairwise_append] at hs
  refine ⟨A, C, ⟨hX, heq.symm⟩, fun x hx => ?_, fun x hx => ?_⟩
  · have := (bLt_no _ _).1 (hs.2.2 x hx _ List.mem_cons_self)
    simp only [] at this
    omega
  · have := (bLt_no _ _).1 ((List.pairwise_cons.1 hs.2.1).1 x hx)
    simp only [] at this
    omega
theorem stands_sell (l : List (Int × Int)) (i : Nat) (hi : i < l.length) (p : Int) (h1 : 1 ≤ p) (h2 : p < 1000) :
    ∃ A C, Stands (sellersOf (l.set i (1, p))) (sellersOf (l.set i (1, 0))) i p A C ∧ (∀ x ∈ A, x.2 ≤ p) ∧ (∀ x ∈ C, p ≤ x.2) := by
  have hp : (sellersOf (l.set i (1, p))).Perm (((i : Int), p) :: sellersOf (l.set i (1, 0))) := by
    have h := cand_own l i 1 hi p h1 h2 l.length
    rw [if_pos hi] at h
    have e1 : Clr.cand 1 (l.set i (1, p)) = Clr.candTo 1 (l.set i (1, p)) l.length := by unfold Clr.cand; rw [List.length_set]
    have e2 : Clr.cand 1 (l.set i (1, 0)) = Clr.candTo 1 (l.set i (1, 0)) l.length := by unfold Clr.cand; rw [List.length_set]
    have b1 := sellers_perm (l.set i (1, p))
    have b2 := sellers_perm (l.set i (1, 0))
    rw [e1] at b1
    rw [e2] at b2
    exact b1.trans (h.trans (b2.symm.cons _))
  obtain ⟨A, C, hX⟩ := List.append_of_mem (hp.mem_iff.2 List.mem_cons_self)
  have hs := sellers_sorted (l.set i (1, p))
  rw [hX] at hs hp
  have hAC : (A ++ C).Perm (sellersOf (l.set i (1, 0))) := (List.perm_middle.symm.trans hp).cons_inv
  have hs' : (A ++ C).Pairwise (fun x y => sLt y x = false) := hs.sublist (List.Sublist.append (List.Sublist.refl A) (List.sublist_cons_self _ C))
  have heq : A ++ C = sellersOf (l.set i (1, 0)) := List.Perm.eq_of_pairwise (fun x y _ _ h1 h2 => Prod.ext (by have := (sLt_no y x).1 h1; have := (sLt_no x y).1 h2; omega) (by have := (sLt_no y x).1 h1; have := (sLt_no x y).1 h2; omega)) hs' (sellers_sorted _) hAC
  rw [List.pairwise_append] at hs
  refine ⟨A, C, ⟨hX, heq.symm⟩, fun x hx => ?_, fun x hx => ?_⟩
  · have := (sLt_no _ _).1 (hs.2.2 x hx _ List.mem_cons_self)
    simp only [] at this
    omega
  · have := (sLt_no _ _).1 ((List.pairwise_cons.1 hs.2.1).1 x hx)
    simp only [] at this
    omega

theorem Stands.lo {X O A C : List (Int × Int)} {i : Nat} {p no : Int} (h : Stands X O i p A C) (j : Nat) (hj : j < A.length) : priceAt no X j = A[j].2 ∧ priceAt no O j = A[j].2 := by
  rw [h.own, h.others, priceAt_lt (by simp; omega), priceAt_lt (by simp; omega), List.getElem_append_left hj, List.getElem_append_left hj]
  exact ⟨rfl, rfl⟩
theorem Stands.at {X O A C : List (Int × Int)} {i : Nat} {p no : Int} (h : Stands X O i p A C) : priceAt no X A.length = p := by
  rw [h.own, priceAt_lt (by simp)]
  simp
theorem Stands.hi {X O A C : List (Int × Int)} {i : Nat} {p no : Int} (h : Stands X O i p A C) (j : Nat) (hj : A.length ≤ j) : priceAt no X (j + 1) = priceAt no O j ∧ (priceAt no O j = no ∨ ∃ x ∈ C, priceAt no O j = x.2) := by
  rw [h.own, h.others]
  by_cases hc : j - A.length < C.length
  · have e1 : priceAt no (A ++ ((i : Int), p) :: C) (j + 1) = C[j - A.length].2 := by
      rw [priceAt_lt (by simp; omega), List.getElem_append_right (by omega)]
      simp [show j + 1 - A.length = (j - A.length) + 1 by omega]
    have e2 : priceAt no (A ++ C) j = C[j - A.length].2 := by
      rw [priceAt_lt (by simp; omega), List.getElem_append_right (by omega)]
    rw [e1, e2]
    exact ⟨rfl, Or.inr ⟨C[j - A.length], List.getElem_mem _, rfl⟩⟩
  · rw [priceAt_ge (by simp; omega), priceAt_ge (by simp; omega)]
    exact ⟨rfl, Or.inl rfl⟩

/-! ### who is filled -/
theorem markF_true (s : List (Int × Int)) (fl : List Bool) (j : Nat) (hj : j < fl.length) : ∀ n, (markF s fl n).getD j false = true ↔ (fl.getD j false = true ∨ ∃ t, t < n ∧ (s.getD t (0, 0)).1.toNat = j)
  | 0 => by
    rw [markF]
    exact ⟨Or.inl, fun h => h.elim id fun ⟨t, ht, _⟩ => absurd ht (Nat.not_lt_zero _)⟩
  | n + 1 => by
    have ih := markF_true s fl j hj n
    rw [markF]
    by_cases e : (s.getD n (0, 0)).1.toNat = j
    · have : ((markF s fl n).set (s.getD n (0, 0)).1.toNat true).getD j false = true := by
        rw [e, List.getD_eq_getElem?_getD, List.getElem?_set]
        simp [markF_length, hj]
      exact ⟨fun _ => Or.inr ⟨n, by omega, e⟩, fun _ => this⟩
    · have : ((markF s fl n).set (s.getD n (0, 0)).1.toNat true).getD j false = (markF s fl n).getD j false := by
        rw [List.getD_eq_getElem?_getD, List.getElem?_set, if_neg e, ← List.getD_eq_getElem?_getD]
      rw [this, ih]
      constructor
      · rintro (h | ⟨t, ht, h⟩)
        · exact Or.inl h
        · exact Or.inr ⟨t, by omega, h⟩
      · rintro (h | ⟨t, ht, h⟩)
        · exact Or.inl h
        · by_cases e' : t = n
          · rw [e'] at h; exact absurd h e
          · exact Or.inr ⟨t, by omega, h⟩

theorem filledL_true (l : List (Int × Int)) (j : Nat) (hj : j < l.length) : (filledL l).getD j false = true ↔ ∃ t, t < (setL l).1 ∧ (((buyersOf l).getD t (0, 0)).1.toNat = j ∨ ((sellersOf l).getD t (0, 0)).1.toNat = j) := by
  unfold filledL
  rw [markF_true _ _ _ (by rw [markF_length, List.length_replicate]; exact hj), markF_true _ _ _ (by rw [List.length_replicate]; exact hj)]
  have h0 : ¬ (List.replicate l.length false).getD j false = true := by
    rw [List.getD_eq_getElem?_getD]; simp [hj]
  constructor
  · rintro ((h | ⟨t, ht, h⟩) | ⟨t, ht, h⟩)
    · exact absurd h h0
    · exact ⟨t, ht, Or.inl h⟩
    · exact ⟨t, ht, Or.inr h⟩
  · rintro ⟨t, ht, h | h⟩
    · exact Or.inl (Or.inr ⟨t, ht, h⟩)
    · exact Or.inr ⟨t, ht, h⟩

theorem buyer_ok (l : List (Int × Int)) (t : Nat) (ht : t < (buyersOf l).length) : Clr.okB 0 (l.getD ((buyersOf l).getD t (0, 0)).1.toNat (0, 0)) = true := by
  rw [getD_lt ht]
  exact (Clr.candTo_place 0 l l.length _ ((buyers_perm l).mem_iff.1 (List.getElem_mem ht))).2.2.2.2.2
theorem seller_ok (l : List (Int × Int)) (t : Nat) (ht : t < (sellersOf l).length) : Clr.okB 1 (l.getD ((sellersOf l).getD t (0, 0)).1.toNat (0, 0)) = true := by
  rw [getD_lt ht]
  exact (Clr.candTo_place 1 l l.length _ ((sellers_perm l).mem_iff.1 (List.getElem_mem ht))).2.2.2.2.2
theorem fills_le (l : List (Int × Int)) : (setL l).1 ≤ (buyersOf l).length ∧ (setL l).1 ≤ (sellersOf l).length := by
  have := setL_le l; have := kL_le l; omega

/-- an order that may not be is not filled. -/
theorem not_filled (l : List (Int × Int)) (j : Nat) (hj : j < l.length) (h0 : Clr.okB 0 (l.getD j (0, 0)) = false) (h1 : Clr.okB 1 (l.getD j (0, 0)) = false) : (filledL l).getD j false = false := by
  cases h : (filledL l).getD j false with
  | false => rfl
  | true =>
    obtain ⟨t, ht, h | h⟩ := (filledL_true l j hj).1 h
    · have := buyer_ok l t (by have := (fills_le l).1; omega)
      rw [h, h0] at this; cases this
    · have := seller_ok l t (by have := (fills_le l).2; omega)
      rw [h, h1] at this; cases this

theorem okB_side {side side' : Int} {b : Int × Int} (h : Clr.okB side b = true) (hs : b.1 = side') : side = side' := by
  simp only [Clr.okB, Bool.and_eq_true, beq_iff_eq] at h
  omega

theorem filled_buy {l : List (Int × Int)} {i : Nat} (hi : i < l.length) {p : Int} {A C : List (Int × Int)} (h : Stands (buyersOf (l.set i (0, p))) (buyersOf (l.set i (0, 0))) i p A C) :
    (filledL (l.set i (0, p))).getD i false = true ↔ A.length < (setL (l.set i (0, p))).1 := by
  rw [filledL_true _ _ (by rw [List.length_set]; exact hi)]
  have hf := fills_le (l.set i (0, p))
  constructor
  · rintro ⟨t, ht, h' | h'⟩
    · -- only one's own order has the place i
      have hlen : (buyersOf (l.set i (0, p))).length = A.length + C.length + 1 := by rw [h.own]; simp; omega
      have key : ∀ x ∈ buyersOf (l.set i (0, 0)), x.1.toNat ≠ i := fun x hx e => by
        have := (Clr.candTo_place 0 _ _ _ ((buyers_perm _).mem_iff.1 hx)).2.2.2.2.2
        rw [e, getD_set_eq l i _ hi] at this
        simp [Clr.okB] at this
      by_cases e : t = A.length
      · omega
      · exfalso
        rw [h.own, getD_lt (by simp; omega)] at h'
        by_cases e1 : t < A.length
        · rw [List.getElem_append_left e1] at h'
          exact key _ (by rw [h.others]; exact List.mem_append_left _ (List.getElem_mem _)) h'
        · obtain ⟨u, rfl⟩ : ∃ u, t = A.length + 1 + u := ⟨t - A.length - 1, by omega⟩
          rw [List.getElem_append_right (by omega)] at h'
          have e2 : A.length + 1 + u - A.length = u + 1 := by omega
          simp only [e2, List.getElem_cons_succ] at h'
          exact key _ (by rw [h.others]; exact List.mem_append_right _ (List.getElem_mem _)) h'
    · have := seller_ok _ t (by omega : t < (sellersOf (l.set i (0, p))).length)
      rw [h', getD_set_eq l i _ hi] at this
      have := okB_side this rfl
      omega
  · intro ht
    refine ⟨A.length, ht, Or.inl ?_⟩
    rw [h.own, getD_lt (by simp)]
    simp
theorem filled_sell {l : List (Int × Int)} {i : Nat} (hi : i < l.length) {p : Int} {A C : List (Int × Int)} (h : Stands (sellersOf (l.set i (1, p))) (sellersOf (l.set i (1, 0))) i p A C) :
    (filledL (l.set i (1, p))).getD i false = true ↔ A.length < (setL (l.set i (1, p))).1 := by
  rw [filledL_true _ _ (by rw [List.length_set]; exact hi)]
  have hf := fills_le (l.set i (1, p))
  constructor
  · rintro ⟨t, ht, h' | h'⟩
    · have := buyer_ok _ t (by omega : t < (buyersOf (l.set i (1, p))).length)
      rw [h', getD_set_eq l i _ hi] at this
      have := okB_side this rfl
      omega
    · have hlen : (sellersOf (l.set i (1, p))).length = A.length + C.length + 1 := by rw [h.own]; simp; omega
      have key : ∀ x ∈ sellersOf (l.set i (1, 0)), x.1.toNat ≠ i := fun x hx e => by
        have := (Clr.candTo_place 1 _ _ _ ((sellers_perm _).mem_iff.1 hx)).2.2.2.2.2
        rw [e, getD_set_eq l i _ hi] at this
        simp [Clr.okB] at this
      by_cases e : t = A.length
      · omega
      · exfalso
        rw [h.own, getD_lt (by simp; omega)] at h'
        by_cases e1 : t < A.length
        · rw [List.getElem_append_left e1] at h'
          exact key _ (by rw [h.others]; exact List.mem_append_left _ (List.getElem_mem _)) h'
        · obtain ⟨u, rfl⟩ : ∃ u, t = A.length + 1 + u := ⟨t - A.length - 1, by omega⟩
          rw [List.getElem_append_right (by omega)] at h'
          have e2 : A.length + 1 + u - A.length = u + 1 := by omega
          simp only [e2, List.getElem_cons_succ] at h'
          exact key _ (by rw [h.others]; exact List.mem_append_right _ (List.getElem_mem _)) h'
  · intro ht
    refine ⟨A.length, ht, Or.inr ?_⟩
    rw [h.own, getD_lt (by simp)]
    simp

/-! ### the posted price -/
def midB (x y : Int) : Int := (x + y) / 2
def midS (x y : Int) : Int := 1000 - ((1000 - y) + (1000 - x)) / 2

theorem settle_buy (B S : List (Int × Int)) (k : Nat) : (settleF B S k).1 = Post.fillsG midB (priceAt 0 B) (priceAt 1000 S) k ∧ (0 < (settleF B S k).1 → (settleF B S k).2.1 = Post.payG midB (priceAt 0 B) (priceAt 1000 S) k) := by
  unfold settleF Post.fillsG Post.payG midF midB
  by_cases h0 : k = 0
  · rw [if_pos h0, if_pos h0]; exact ⟨rfl, fun h => by omega⟩
  · rw [if_neg h0, if_neg h0]
    by_cases hc : priceAt 1000 S (k - 1) ≤ (priceAt 0 B k + priceAt 1000 S k) / 2 ∧ (priceAt 0 B k + priceAt 1000 S k) / 2 ≤ priceAt 0 B (k - 1)
    · rw [if_pos hc, if_pos hc, if_pos hc]; exact ⟨rfl, fun _ => rfl⟩
    · rw [if_neg hc, if_neg hc, if_neg hc]
      by_cases h1 : k = 1
      · rw [if_pos h1]; exact ⟨by omega, fun h => by omega⟩
      · rw [if_neg h1]; exact ⟨rfl, fun _ => rfl⟩
theorem settle_sell (B S : List (Int × Int)) (k : Nat) : (settleF B S k).1 = Post.fillsG midS (fun j => 1000 - priceAt 1000 S j) (fun j => 1000 - priceAt 0 B j) k ∧ (0 < (settleF B S k).1 → (settleF B S k).2.2 = 1000 - Post.payG midS (fun j => 1000 - priceAt 1000 S j) (fun j => 1000 - priceAt 0 B j) k) := by
  unfold settleF Post.fillsG Post.payG midF midS
  by_cases h0 : k = 0
  · rw [if_pos h0, if_pos h0]; exact ⟨rfl, fun h => by omega⟩
  · rw [if_neg h0, if_neg h0]
    have e : (1000 : Int) - (1000 - priceAt 0 B k) + (1000 - (1000 - priceAt 1000 S k)) = priceAt 0 B k + priceAt 1000 S k := by omega
    simp only [e]
    by_cases hc : priceAt 1000 S (k - 1) ≤ (priceAt 0 B k + priceAt 1000 S k) / 2 ∧ (priceAt 0 B k + priceAt 1000 S k) / 2 ≤ priceAt 0 B (k - 1)
    · have hg : 1000 - priceAt 0 B (k - 1) ≤ 1000 - (priceAt 0 B k + priceAt 1000 S k) / 2 ∧ 1000 - (priceAt 0 B k + priceAt 1000 S k) / 2 ≤ 1000 - priceAt 1000 S (k - 1) := by omega
      rw [if_pos hc, if_pos hg, if_pos hg]; exact ⟨rfl, fun _ => by simp only []; omega⟩
    · have hg : ¬ (1000 - priceAt 0 B (k - 1) ≤ 1000 - (priceAt 0 B k + priceAt 1000 S k) / 2 ∧ 1000 - (priceAt 0 B k + priceAt 1000 S k) / 2 ≤ 1000 - priceAt 1000 S (k - 1)) := by omega
      rw [if_neg hc, if_neg hg, if_neg hg]
      by_cases h1 : k = 1
      · rw [if_pos h1]; exact ⟨by omega, fun h => by omega⟩
      · rw [if_neg h1]; exact ⟨rfl, fun _ => by simp only []; omega⟩

theorem posted_buy (l : List (Int × Int)) (i : Nat) (hi : i < l.length) : ∃ π : Int, ∀ p, 1 ≤ p → p < 1000 →
    ((filledL (l.set i (0, p))).getD i false = true → (setL (l.set i (0, p))).2.1 = π ∧ π ≤ p) ∧ ((filledL (l.set i (0, p))).getD i false = false → p ≤ π) := by
  have hS : ∀ p, sellersOf (l.set i (0, p)) = sellersOf (l.set i (0, 0)) := fun p => by
    unfold sellersOf Clr.cand
    rw [List.length_set, List.length_set, cand_other l i 0 1 (by omega) hi p 0]
  obtain ⟨π, hπ⟩ := Post.posted midB (fun x y h => by unfold midB; omega) (priceAt 0 (buyersOf (l.set i (0, 0)))) (priceAt 1000 (sellersOf (l.set i (0, 0)))) (buyers_mono _) (sellers_mono _)
    (fun j => by
      by_cases hj : j < (buyersOf (l.set i (0, 0))).length
      · rw [priceAt_lt hj]; have := (buyers_priced _) _ (List.getElem_mem hj); omega
      · rw [priceAt_ge (by omega)]; omega)
    ((buyersOf (l.set i (0, 0))).length + (sellersOf (l.set i (0, 0))).length + 1) (by
      unfold Post.ahead
      rw [if_neg (by omega), priceAt_ge (by omega), priceAt_ge (by omega)]; omega)
  refine ⟨π, fun p h1 h2 => ?_⟩
  obtain ⟨A, C, hst, hA, hC⟩ := stands_buy l i hi p h1 h2
  have hfi := filled_buy hi hst
  have hk := kL_is (l.set i (0, p))
  have hse := settle_buy (buyersOf (l.set i (0, p))) (sellersOf (l.set i (0, p))) (kL (l.set i (0, p)))
  have key := hπ p A.length (kL (l.set i (0, p))) (priceAt 0 (buyersOf (l.set i (0, p)))) (by omega)
    (fun j hj => by
      obtain ⟨e1, e2⟩ := hst.lo (no := 0) j hj
      rw [e1, e2]; exact ⟨rfl, hA _ (List.getElem_mem hj)⟩) hst.at
    (fun j hj => by
      obtain ⟨e1, e2⟩ := hst.hi (no := 0) j hj
      refine ⟨e1, ?_⟩
      rcases e2 with e2 | ⟨x, hx, e2⟩
      · rw [e2]; omega
      · rw [e2]; exact hC x hx)
    (fun j hj => by have := hk.yes j hj; rwa [hS p] at this) (by have := hk.no; rwa [hS p] at this)
  rw [hS p] at hse
  have e1 : (setL (l.set i (0, p))).1 = Post.fillsG midB (priceAt 0 (buyersOf (l.set i (0, p)))) (priceAt 1000 (sellersOf (l.set i (0, 0)))) (kL (l.set i (0, p))) := by
    unfold setL; rw [hS p]; exact hse.1
  rw [← e1] at key
  constructor
  · intro hf
    have hr := hfi.1 hf
    have := key.1 hr
    refine ⟨?_, this.2⟩
    rw [← this.1]
    have e2 : setL (l.set i (0, p)) = settleF (buyersOf (l.set i (0, p))) (sellersOf (l.set i (0, 0))) (kL (l.set i (0, p))) := by unfold setL; rw [hS p]
    rw [e2] at hr ⊢
    exact hse.2 (by omega)
  · intro hf
    exact key.2 (fun hr => by rw [hfi.2 hr] at hf; cases hf)

theorem posted_sell (l : List (Int × Int)) (i : Nat) (hi : i < l.length) : ∃ π : Int, ∀ p, 1 ≤ p → p < 1000 →
    ((filledL (l.set i (1, p))).getD i false = true → (setL (l.set i (1, p))).2.2 = π ∧ p ≤ π) ∧ ((filledL (l.set i (1, p))).getD i false = false → π ≤ p) := by
  have hB : ∀ p, buyersOf (l.set i (1, p)) = buyersOf (l.set i (1, 0)) := fun p => by
    unfold buyersOf Clr.cand
    rw [List.length_set, List.length_set, cand_other l i 1 0 (by omega) hi p 0]
  obtain ⟨π, hπ⟩ := Post.posted midS (fun x y h => by unfold midS; omega) (fun j => 1000 - priceAt 1000 (sellersOf (l.set i (1, 0))) j) (fun j => 1000 - priceAt 0 (buyersOf (l.set i (1, 0))) j)
    (fun a b h => by have := sellers_mono (l.set i (1, 0)) a b h; omega) (fun a b h => by have := buyers_mono (l.set i (1, 0)) a b h; omega)
    (fun j => by
      by_cases hj : j < (sellersOf (l.set i (1, 0))).length
      · rw [priceAt_lt hj]; have := (sellers_priced _) _ (List.getElem_mem hj); omega
      · rw [priceAt_ge (by omega)]; omega)
    ((buyersOf (l.set i (1, 0))).length + (sellersOf (l.set i (1, 0))).length + 1) (by
      unfold Post.ahead
      rw [if_neg (by omega)]
      show 1000 - priceAt 1000 (sellersOf (l.set i (1, 0))) _ < 1000 - priceAt 0 (buyersOf (l.set i (1, 0))) _
      rw [priceAt_ge (by omega), priceAt_ge (by omega)]; omega)
  refine ⟨1000 - π, fun p h1 h2 => ?_⟩
  obtain ⟨A, C, hst, hA, hC⟩ := stands_sell l i hi p h1 h2
  have hfi := filled_sell hi hst
  have hk := kL_is (l.set i (1, p))
  have hse := settle_sell (buyersOf (l.set i (1, p))) (sellersOf (l.set i (1, p))) (kL (l.set i (1, p)))
  have key := hπ (1000 - p) A.length (kL (l.set i (1, p))) (fun j => 1000 - priceAt 1000 (sellersOf (l.set i (1, p))) j) (by omega)
    (fun j hj => by
      obtain ⟨e1, e2⟩ := hst.lo (no := 1000) j hj
      rw [e1, e2]; have := hA _ (List.getElem_mem hj); exact ⟨rfl, by omega⟩) (by rw [hst.at])
    (fun j hj => by
      obtain ⟨e1, e2⟩ := hst.hi (no := 1000) j hj
      refine ⟨by rw [e1], ?_⟩
      rcases e2 with e2 | ⟨x, hx, e2⟩
      · rw [e2]; omega
      · rw [e2]; have := hC x hx; omega)
    (fun j hj => by have := hk.yes j hj; rw [hB p] at this; omega) (by have := hk.no; rw [hB p] at this; omega)
  rw [hB p] at hse
  have e1 : (setL (l.set i (1, p))).1 = Post.fillsG midS (fun j => 1000 - priceAt 1000 (sellersOf (l.set i (1, p))) j) (fun j => 1000 - priceAt 0 (buyersOf (l.set i (1, 0))) j) (kL (l.set i (1, p))) := by
    unfold setL; rw [hB p]; exact hse.1
  rw [← e1] at key
  constructor
  · intro hf
    have hr := hfi.1 hf
    have := key.1 hr
    refine ⟨?_, by omega⟩
    rw [← this.1]
    have e2 : setL (l.set i (1, p)) = settleF (buyersOf (l.set i (1, 0))) (sellersOf (l.set i (1, p))) (kL (l.set i (1, p))) := by unfold setL; rw [hB p]
    rw [e2] at hr ⊢
    exact hse.2 (by omega)
  · intro hf
    have := key.2 (fun hr => by rw [hfi.2 hr] at hf; cases hf)
    omega

/-- what an order comes to, for one to whom the unit is worth v. -/
def gainV (l : List (Int × Int)) (i : Nat) (side v : Int) : Int := if (filledL l).getD i false = true then (if side = 0 then v - (setL l).2.1 else (setL l).2.2 - v) else 0

theorem truthful_pure (l : List (Int × Int)) (i : Nat) (hi : i < l.length) (side v q : Int) (hs : side = 0 ∨ side = 1) (h1 : 1 ≤ v) (h2 : v < 1000) :
    0 ≤ gainV (l.set i (side, v)) i side v ∧ gainV (l.set i (side, q)) i side v ≤ gainV (l.set i (side, v)) i side v := by
  have hbad : ¬ (1 ≤ q ∧ q < 1000) → gainV (l.set i (side, q)) i side v = 0 := fun hq => by
    have : (filledL (l.set i (side, q))).getD i false = false := not_filled _ _ (by rw [List.length_set]; exact hi)
      (by rw [getD_set_eq l i _ hi]; simp [Clr.okB]; omega) (by rw [getD_set_eq l i _ hi]; simp [Clr.okB]; omega)
    unfold gainV; rw [this]; rfl
  rcases hs with rfl | rfl
  · obtain ⟨π, hπ⟩ := posted_buy l i hi
    have ev : ∀ p, 1 ≤ p → p < 1000 → gainV (l.set i (0, p)) i 0 v = (if (filledL (l.set i (0, p))).getD i false = true then v - π else 0) := fun p hp1 hp2 => by
      unfold gainV
      cases hf : (filledL (l.set i (0, p))).getD i false with
      | true => rw [if_pos rfl, if_pos rfl, if_pos rfl, ((hπ p hp1 hp2).1 hf).1]
      | false => rfl
    have hv := hπ v h1 h2
    have a1 : 0 ≤ gainV (l.set i (0, v)) i 0 v ∧ v - π ≤ gainV (l.set i (0, v)) i 0 v := by
      rw [ev v h1 h2]
      cases hf : (filledL (l.set i (0, v))).getD i false with
      | true => have := (hv.1 hf).2; rw [if_pos rfl]; omega
      | false => have := hv.2 hf; rw [if_neg (by decide)]; omega
    refine ⟨a1.1, ?_⟩
    by_cases hq : 1 ≤ q ∧ q < 1000
    · rw [ev q hq.1 hq.2]; split <;> omega
    · rw [hbad hq]; omega
  · obtain ⟨π, hπ⟩ := posted_sell l i hi
    have ev : ∀ p, 1 ≤ p → p < 1000 → gainV (l.set i (1, p)) i 1 v = (if (filledL (l.set i (1, p))).getD i false = true then π - v else 0) := fun p hp1 hp2 => by
      unfold gainV
      cases hf : (filledL (l.set i (1, p))).getD i false with
      | true => rw [if_pos rfl, if_neg (by decide), if_pos rfl, ((hπ p hp1 hp2).1 hf).1]
      | false => rfl
    have hv := hπ v h1 h2
    have a1 : 0 ≤ gainV (l.set i (1, v)) i 1 v ∧ π - v ≤ gainV (l.set i (1, v)) i 1 v := by
      rw [ev v h1 h2]
      cases hf : (filledL (l.set i (1, v))).getD i false with
      | true => have := (hv.1 hf).2; rw [if_pos rfl]; omega
      | false => have := hv.2 hf; rw [if_neg (by decide)]; omega
    refine ⟨a1.1, ?_⟩
    by_cases hq : 1 ≤ q ∧ q < 1000
    · rw [ev q hq.1 hq.2]; split <;> omega
    · rw [hbad hq]; omega
#print axioms truthful_pure
end Go.Proofs.Ytjfifaooimgbaaa
