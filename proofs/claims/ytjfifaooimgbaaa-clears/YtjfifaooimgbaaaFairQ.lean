/- Fairness: what each trader pays, nobody passed over, next to nothing lost. -/
import Derived.Test.YtjfifaooimgbaaaFairP
namespace Go.Proofs.Ytjfifaooimgbaaa
open Go.Sort

theorem rightB_of {b : Int × Int} (h : b.1 = 0 ∨ b.1 = 1) (h1 : 1 ≤ b.2) (h2 : b.2 < 1000) : rightB b = true := by
  unfold rightB
  rw [decide_eq_true h1, decide_eq_true h2]
  rcases h with h | h <;> rw [h] <;> rfl
theorem okB_of {side : Int} {b : Int × Int} (h : b.1 = side) (h1 : 1 ≤ b.2) (h2 : b.2 < 1000) : Clr.okB side b = true := by
  unfold Clr.okB
  rw [decide_eq_true h1, decide_eq_true h2, h]; simp
theorem set_cases (l : List (Int × Int)) : ((setL l).1 = 0 ∧ (setL l).2.1 = 0 ∧ (setL l).2.2 = 0 ∧ kL l ≤ 1) ∨
    ((setL l).1 = kL l ∧ 1 ≤ kL l ∧ (setL l).2.1 = (setL l).2.2 ∧ (setL l).2.1 ≤ priceAt 0 (buyersOf l) (kL l - 1) ∧ priceAt 1000 (sellersOf l) (kL l - 1) ≤ (setL l).2.2) ∨
    ((setL l).1 = kL l - 1 ∧ 2 ≤ kL l ∧ (setL l).2.1 = priceAt 0 (buyersOf l) (kL l - 1) ∧ (setL l).2.2 = priceAt 1000 (sellersOf l) (kL l - 1)) := by
  unfold setL settleF
  by_cases h0 : kL l = 0
  · left; rw [if_pos h0]; exact ⟨rfl, rfl, rfl, by omega⟩
  · rw [if_neg h0]
    by_cases hc : priceAt 1000 (sellersOf l) (kL l - 1) ≤ midF (buyersOf l) (sellersOf l) (kL l) ∧ midF (buyersOf l) (sellersOf l) (kL l) ≤ priceAt 0 (buyersOf l) (kL l - 1)
    · right; left; rw [if_pos hc]; exact ⟨rfl, by omega, rfl, hc.2, hc.1⟩
    · rw [if_neg hc]
      by_cases h1 : kL l = 1
      · left; rw [if_pos h1]; exact ⟨rfl, rfl, rfl, by omega⟩
      · right; right; rw [if_neg h1]; exact ⟨rfl, by omega, rfl, rfl⟩

/-- nobody pays more, or gets less, than they said. -/
theorem filled_ok (l : List (Int × Int)) (i : Nat) (hi : i < l.length) (hf : (filledL l).getD i false = true) :
    rightB (l.getD i (0, 0)) = true ∧ ((l.getD i (0, 0)).1 = 0 → (setL l).2.1 ≤ (l.getD i (0, 0)).2) ∧ ((l.getD i (0, 0)).1 = 1 → (l.getD i (0, 0)).2 ≤ (setL l).2.2) := by
  have hle := fills_le l
  have sc := set_cases l
  obtain ⟨t, ht, h | h⟩ := (filledL_true l i hi).1 hf
  · have hok := buyer_ok l t (by omega)
    rw [h] at hok
    have hpr : (l.getD i (0, 0)).2 = priceAt 0 (buyersOf l) t := by
      rw [← h, priceAt_lt (by omega), getD_lt (show t < (buyersOf l).length by omega)]
      exact ((Clr.candTo_place 0 l l.length _ ((buyers_perm l).mem_iff.1 (List.getElem_mem _))).2.2.2.2.1).symm
    have hok' := hok
    simp only [Clr.okB, Bool.and_eq_true, beq_iff_eq, decide_eq_true_eq] at hok'
    refine ⟨rightB_of (Or.inl hok'.1) hok'.2.1 hok'.2.2, fun _ => ?_, fun hs => by omega⟩
    rw [hpr]
    have hm := buyers_mono l t (kL l - 1) (by omega)
    rcases sc with sc | sc | sc <;> omega
  · have hok := seller_ok l t (by omega)
    rw [h] at hok
    have hpr : (l.getD i (0, 0)).2 = priceAt 1000 (sellersOf l) t := by
      rw [← h, priceAt_lt (by omega), getD_lt (show t < (sellersOf l).length by omega)]
      exact ((Clr.candTo_place 1 l l.length _ ((sellers_perm l).mem_iff.1 (List.getElem_mem _))).2.2.2.2.1).symm
    have hok' := hok
    simp only [Clr.okB, Bool.and_eq_true, beq_iff_eq, decide_eq_true_eq] at hok'
    refine ⟨rightB_of (Or.inr hok'.1) hok'.2.1 hok'.2.2, fun hs => by omega, fun _ => ?_⟩
    rw [hpr]
    have hm := sellers_mono l t (kL l - 1) (by omega)
    rcases sc with sc | sc | sc <;> omega

/-- an order that may be stands in its line. -/
theorem in_buyers (l : List (Int × Int)) (i : Nat) (hi : i < l.length) (h : Clr.okB 0 (l.getD i (0, 0)) = true) : ∃ t, ∃ ht : t < (buyersOf l).length, (buyersOf l)[t] = ((i : Int), (l.getD i (0, 0)).2) := by
  have key : ∀ k, i < k → ((i : Int), (l.getD i (0, 0)).2) ∈ Clr.candTo 0 l k := by
    intro k
    induction k with
    | zero => intro hk; omega
    | succ k ih =>
      intro hk
      by_cases e : i = k
      · subst e; rw [Clr.candTo_hit h]; exact List.mem_append_right _ List.mem_cons_self
      · have := ih (by omega)
        rw [Clr.candTo]; split
        · exact List.mem_append_left _ this
        · exact this
  obtain ⟨t, ht, e⟩ := List.getElem_of_mem ((buyers_perm l).mem_iff.2 (key l.length hi))
  exact ⟨t, ht, e⟩
theorem in_sellers (l : List (Int × Int)) (i : Nat) (hi : i < l.length) (h : Clr.okB 1 (l.getD i (0, 0)) = true) : ∃ t, ∃ ht : t < (sellersOf l).length, (sellersOf l)[t] = ((i : Int), (l.getD i (0, 0)).2) := by
  have key : ∀ k, i < k → ((i : Int), (l.getD i (0, 0)).2) ∈ Clr.candTo 1 l k := by
    intro k
    induction k with
    | zero => intro hk; omega
    | succ k ih =>
      intro hk
      by_cases e : i = k
      · subst e; rw [Clr.candTo_hit h]; exact List.mem_append_right _ List.mem_cons_self
      · have := ih (by omega)
        rw [Clr.candTo]; split
        · exact List.mem_append_left _ this
        · exact this
  obtain ⟨t, ht, e⟩ := List.getElem_of_mem ((sellers_perm l).mem_iff.2 (key l.length hi))
  exact ⟨t, ht, e⟩

theorem not_passed (l : List (Int × Int)) (i k : Nat) (hi : i < l.length) (hk : k < l.length) : ¬ passed l (filledL l) i k := by
  rintro ⟨hr, hfi, hfk, hs, hw⟩
  have hle := fills_le l
  simp only [rightB, Bool.and_eq_true, Bool.or_eq_true, beq_iff_eq, decide_eq_true_eq] at hr
  obtain ⟨⟨hside, hp1⟩, hp2⟩ := hr
  rcases hside with h0 | h1
  · obtain ⟨t, ht, et⟩ := in_buyers l i hi (okB_of h0 hp1 hp2)
    have htf : ¬ t < (setL l).1 := fun h => by
      have := (filledL_true l i hi).2 ⟨t, h, Or.inl (by rw [getD_lt ht, et]; simp)⟩
      rw [this] at hfi; cases hfi
    obtain ⟨u, hu, h | h⟩ := (filledL_true l k hk).1 hfk
    · rw [getD_lt (show u < (buyersOf l).length by omega)] at h
      have hsrt := (bLt_no _ _).1 (List.pairwise_iff_getElem.1 (buyers_sorted l) u t (by omega) ht (by omega))
      have hpl := buyers_place l _ (List.getElem_mem (show u < (buyersOf l).length by omega))
      have hpu := (Clr.candTo_place 0 l l.length _ ((buyers_perm l).mem_iff.1 (List.getElem_mem (show u < (buyersOf l).length by omega)))).2.2.2.2.1
      rw [h] at hpu
      rw [et] at hsrt
      simp only [] at hsrt
      omega
    · have := seller_ok l u (by omega); rw [h] at this
      have := okB_side this rfl
      omega
  · obtain ⟨t, ht, et⟩ := in_sellers l i hi (okB_of h1 hp1 hp2)
    have htf : ¬ t < (setL l).1 := fun h => by
      have := (filledL_true l i hi).2 ⟨t, h, Or.inr (by rw [getD_lt ht, et]; simp)⟩
      rw [this] at hfi; cases hfi
    obtain ⟨u, hu, h | h⟩ := (filledL_true l k hk).1 hfk
    · have := buyer_ok l u (by omega); rw [h] at this
      have := okB_side this rfl
      omega
    · rw [getD_lt (show u < (sellersOf l).length by omega)] at h
      have hsrt := (sLt_no _ _).1 (List.pairwise_iff_getElem.1 (sellers_sorted l) u t (by omega) ht (by omega))
      have hpl := sellers_place l _ (List.getElem_mem (show u < (sellersOf l).length by omega))
      have hpu := (Clr.candTo_place 1 l l.length _ ((sellers_perm l).mem_iff.1 (List.getElem_mem (show u < (sellersOf l).length by omega)))).2.2.2.2.1
      rw [h] at hpu
      rw [et] at hsrt
      simp only [] at hsrt
      omega

theorem pay_get (l : List (Int × Int)) : (setL l).2.2 ≤ (setL l).2.1 := by
  rcases set_cases l with h | h | h
  · omega
  · omega
  · have := (kL_is l).yes (kL l - 1) (by omega)
    omega
theorem fills_bd (l : List (Int × Int)) : (setL l).1 ≤ kL l ∧ kL l ≤ (setL l).1 + 1 := by
  rcases set_cases l with h | h | h <;> omega

theorem gain_each (l : List (Int × Int)) (k : Nat) : ∀ n, n ≤ k → (n : Int) * (priceAt 0 (buyersOf l) k - priceAt 1000 (sellersOf l) k) ≤ gainF (buyersOf l) (sellersOf l) n
  | 0, _ => by simp [gainF]
  | n + 1, h => by
    have ih := gain_each l k n (by omega)
    have h1 := buyers_mono l n k (by omega)
    have h2 := sellers_mono l n k (by omega)
    rw [gainF, show ((n + 1 : Nat) : Int) = (n : Int) + 1 by omega, Int.add_mul]
    omega
theorem little_lost (l : List (Int × Int)) : ((kL l : Int) - 1) * canL l ≤ (kL l : Int) * gainedL l := by
  have hb := gain_bd l
  have e : (kL l : Int) * gainedL l = ((kL l : Int) - 1) * gainedL l + gainedL l := by rw [Int.sub_mul]; omega
  rcases set_cases l with h | h | h
  · -- at most one pair
    have hg : gainedL l = 0 := by unfold gainedL; rw [h.1]; rfl
    by_cases h0 : kL l = 0
    · have hc : canL l = 0 := by unfold canL; rw [h0]; rfl
      rw [hg, hc]; simp
    · rw [hg, show (kL l : Int) - 1 = 0 by omega]; simp
  · have : gainedL l = canL l := by unfold gainedL canL; rw [h.1]
    rw [e, this]; omega
  · obtain ⟨n, hn⟩ : ∃ n, kL l = n + 1 := ⟨kL l - 1, by omega⟩
    have hg : gainedL l = gainF (buyersOf l) (sellersOf l) n := by unfold gainedL; rw [h.1, hn]; rfl
    have hc : canL l = gainF (buyersOf l) (sellersOf l) n + (priceAt 0 (buyersOf l) n - priceAt 1000 (sellersOf l) n) := by unfold canL; rw [hn]; rfl
    have he := gain_each l n n (Nat.le_refl _)
    rw [e, hc, hg, show (kL l : Int) - 1 = (n : Int) by omega, Int.mul_add]
    omega

theorem share_says (l : List (Int × Int)) (hl : l.length ≤ 8796093022208) : (shareL l = 4607182418800017408 ↔ gainedL l = canL l) ∧ (shareL l = 0 ↔ (gainedL l = 0 ∧ 0 < canL l)) ∧ shareL l ≤ 4607182418800017408 := by
  have hb := gain_bd l
  unfold shareL shareB
  by_cases h0 : canL l = 0
  · rw [if_pos h0]; refine ⟨⟨fun _ => by omega, fun _ => rfl⟩, ⟨fun h => absurd h (by decide), fun h => by omega⟩, Nat.le_refl _⟩
  · rw [if_neg h0]
    obtain ⟨a, ha⟩ := Int.eq_ofNat_of_zero_le hb.1
    obtain ⟨b, hbb⟩ := Int.eq_ofNat_of_zero_le (show 0 ≤ canL l by omega)
    rw [ha, hbb] at hb ⊢
    rw [hbb] at h0
    by_cases ha0 : a = 0
    · subst ha0
      have := Flt.div_zero b (by omega) (by omega)
      rw [show ((0 : Nat) : Int) = 0 from rfl, this]
      refine ⟨⟨fun h => absurd h (by decide), fun h => by omega⟩, ⟨fun _ => ⟨rfl, by omega⟩, fun _ => rfl⟩, by decide⟩
    · by_cases hab : a = b
      · subst hab
        rw [Flt.share_eq a (by omega) (by omega)]
        exact ⟨⟨fun _ => rfl, fun _ => rfl⟩, ⟨fun h => absurd h (by decide), fun h => by omega⟩, Nat.le_refl _⟩
      · obtain ⟨r, hr, h1, h2⟩ := Flt.share_lt a b (by omega) (by omega) (by omega)
        rw [hr]
        show ((r = _) ↔ _) ∧ ((r = 0) ↔ _) ∧ r ≤ _
        exact ⟨⟨fun h => by omega, fun h => by omega⟩, ⟨fun h => by omega, fun h => by omega⟩, by omega⟩
#print axioms share_says
#print axioms little_lost
#print axioms not_passed
end Go.Proofs.Ytjfifaooimgbaaa
