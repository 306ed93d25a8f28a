import Derived.Test.YteeplklhbhaicaaFlt
/- What a clearing comes to, as a plain function of the orders. -/
namespace Go.Proofs.Yteeplklhbhaicaa
open Go.Shelf Go.RowKit Go.Lib Go.Sort

def bLt (x y : Int × Int) : Bool := decide (y.2 < x.2 ∨ (x.2 = y.2 ∧ x.1 < y.1))
def sLt (x y : Int × Int) : Bool := decide (x.2 < y.2 ∨ (x.2 = y.2 ∧ x.1 < y.1))
def buyersOf (l : List (Int × Int)) : List (Int × Int) := (Clr.cand 0 l).mergeSort (fun x y => !bLt y x)
def sellersOf (l : List (Int × Int)) : List (Int × Int) := (Clr.cand 1 l).mergeSort (fun x y => !sLt y x)

theorem bLt_iff (x y : Int × Int) : bLt x y = true ↔ (y.2 < x.2 ∨ (x.2 = y.2 ∧ x.1 < y.1)) := decide_eq_true_iff
theorem bLt_no (x y : Int × Int) : bLt x y = false ↔ ¬ (y.2 < x.2 ∨ (x.2 = y.2 ∧ x.1 < y.1)) := decide_eq_false_iff_not
theorem sLt_iff (x y : Int × Int) : sLt x y = true ↔ (x.2 < y.2 ∨ (x.2 = y.2 ∧ x.1 < y.1)) := decide_eq_true_iff
theorem sLt_no (x y : Int × Int) : sLt x y = false ↔ ¬ (x.2 < y.2 ∨ (x.2 = y.2 ∧ x.1 < y.1)) := decide_eq_false_iff_not
theorem swo_bLt : SWO bLt where
  irrefl x := (bLt_no x x).2 (by omega)
  trans x y z h1 h2 := (bLt_iff x z).2 (by have := (bLt_iff x y).1 h1; have := (bLt_iff y z).1 h2; omega)
  ntrans x y z h1 h2 := (bLt_no x z).2 (by have := (bLt_no x y).1 h1; have := (bLt_no y z).1 h2; omega)
theorem swo_sLt : SWO sLt where
  irrefl x := (sLt_no x x).2 (by omega)
  trans x y z h1 h2 := (sLt_iff x z).2 (by have := (sLt_iff x y).1 h1; have := (sLt_iff y z).1 h2; omega)
  ntrans x y z h1 h2 := (sLt_no x z).2 (by have := (sLt_no x y).1 h1; have := (sLt_no y z).1 h2; omega)

theorem toList_size (s : List (Int × Int)) : s.toArray.size = s.length := by simp
theorem buyers_eq {l s : List (Int × Int)} (h : Stab.Post (ltOf (cfO fun x y => cmpI y x)) (fun x : Int × Int => x.1) 0 (Clr.cand 0 l).length (Clr.cand 0 l).toArray s.toArray) : s = buyersOf l := by
  have hs : SortedIn bLt 0 (Clr.cand 0 l).toArray.size s.toArray := fun i j h1 h2 h3 => by
    have := h.sort i j h1 h2 (by simpa using h3)
    unfold Stab.Ls at this
    rw [ltOf_buy, ltOf_buy, decide_eq_true_eq, decide_eq_false_iff_not] at this
    simp only [] at this
    exact (bLt_no _ _).2 (by omega)
  have := sorted_unique_holds (lt := bLt) swo_bLt (fun x y h1 h2 => Prod.ext (by have := (bLt_no x y).1 h1; have := (bLt_no y x).1 h2; omega) (by have := (bLt_no x y).1 h1; have := (bLt_no y x).1 h2; omega)) (Clr.cand 0 l).toArray s.toArray (by rw [toList_size]; exact h.perm) hs
  simpa [buyersOf] using this
theorem sellers_eq {l s : List (Int × Int)} (h : Stab.Post (ltOf (cfO cmpI)) (fun x : Int × Int => x.1) 0 (Clr.cand 1 l).length (Clr.cand 1 l).toArray s.toArray) : s = sellersOf l := by
  have hs : SortedIn sLt 0 (Clr.cand 1 l).toArray.size s.toArray := fun i j h1 h2 h3 => by
    have := h.sort i j h1 h2 (by simpa using h3)
    unfold Stab.Ls at this
    rw [ltOf_sell, ltOf_sell, decide_eq_true_eq, decide_eq_false_iff_not] at this
    simp only [] at this
    exact (sLt_no _ _).2 (by omega)
  have := sorted_unique_holds (lt := sLt) swo_sLt (fun x y h1 h2 => Prod.ext (by have := (sLt_no x y).1 h1; have := (sLt_no y x).1 h2; omega) (by have := (sLt_no x y).1 h1; have := (sLt_no y x).1 h2; omega)) (Clr.cand 1 l).toArray s.toArray (by rw [toList_size]; exact h.perm) hs
  simpa [sellersOf] using this

theorem buyers_perm (l : List (Int × Int)) : (buyersOf l).Perm (Clr.cand 0 l) := List.mergeSort_perm _ _
theorem sellers_perm (l : List (Int × Int)) : (sellersOf l).Perm (Clr.cand 1 l) := List.mergeSort_perm _ _
theorem buyers_priced (l : List (Int × Int)) : Priced (buyersOf l) := fun x hx => by
  have := Clr.candTo_place 0 l l.length x ((buyers_perm l).mem_iff.1 hx)
  exact ⟨this.2.2.1, this.2.2.2.1⟩
theorem sellers_priced (l : List (Int × Int)) : Priced (sellersOf l) := fun x hx => by
  have := Clr.candTo_place 1 l l.length x ((sellers_perm l).mem_iff.1 hx)
  exact ⟨this.2.2.1, this.2.2.2.1⟩
theorem buyers_place (l : List (Int × Int)) : ∀ x ∈ buyersOf l, 0 ≤ x.1 ∧ x.1 < (l.length : Int) := fun x hx => by
  have := Clr.candTo_place 0 l l.length x ((buyers_perm l).mem_iff.1 hx)
  exact ⟨this.1, this.2.1⟩
theorem sellers_place (l : List (Int × Int)) : ∀ x ∈ sellersOf l, 0 ≤ x.1 ∧ x.1 < (l.length : Int) := fun x hx => by
  have := Clr.candTo_place 1 l l.length x ((sellers_perm l).mem_iff.1 hx)
  exact ⟨this.1, this.2.1⟩
theorem buyers_le (l : List (Int × Int)) : (buyersOf l).length ≤ l.length := by rw [(buyers_perm l).length_eq]; exact Clr.candTo_le 0 l l.length
theorem sellers_le (l : List (Int × Int)) : (sellersOf l).length ≤ l.length := by rw [(sellers_perm l).length_eq]; exact Clr.candTo_le 1 l l.length

def kFrom (B S : List (Int × Int)) : Nat → Nat → Nat
  | 0, k => k
  | f + 1, k => if priceAt 1000 S k ≤ priceAt 0 B k then kFrom B S f (k + 1) else k
def kOf (B S : List (Int × Int)) : Nat := kFrom B S (B.length + 1) 0

theorem kFrom_is {B S : List (Int × Int)} (hB : Priced B) (hS : Priced S) : ∀ (f k : Nat), B.length + 1 ≤ k + f → (∀ i, i < k → priceAt 1000 S i ≤ priceAt 0 B i) → IsK B S (kFrom B S f k)
  | 0, k, h, hy => by
    have := (pair_in hB hS (hy (k - 1) (by omega))).1
    omega
  | f + 1, k, h, hy => by
    rw [kFrom]
    split
    · rename_i hc
      exact kFrom_is hB hS f (k + 1) (by omega) (fun i hi => by
        by_cases e : i = k
        · rw [e]; exact hc
        · exact hy i (by omega))
    · rename_i hc
      exact ⟨hy, by omega⟩
theorem kOf_is {B S : List (Int × Int)} (hB : Priced B) (hS : Priced S) : IsK B S (kOf B S) := kFrom_is hB hS _ _ (by omega) (fun i hi => by omega)
theorem IsK.unique {B S : List (Int × Int)} {k k' : Nat} (h : IsK B S k) (h' : IsK B S k') : k = k' := by
  rcases Nat.lt_trichotomy k k' with hl | he | hg
  · have := h'.yes k hl; have := h.no; omega
  · exact he
  · have := h.yes k' hg; have := h'.no; omega
theorem kOf_le {B S : List (Int × Int)} (hB : Priced B) (hS : Priced S) : kOf B S ≤ B.length ∧ kOf B S ≤ S.length := by
  have h := kOf_is hB hS
  by_cases h0 : kOf B S = 0
  · rw [h0]; omega
  · have := pair_in hB hS (h.yes (kOf B S - 1) (by omega)); omega
theorem settle_le (B S : List (Int × Int)) (k : Nat) : (settleF B S k).1 ≤ k := by
  unfold settleF
  split
  · omega
  · split
    · exact Nat.le_refl _
    · split
      · exact Nat.zero_le _
      · exact Nat.sub_le _ _

def kL (l : List (Int × Int)) : Nat := kOf (buyersOf l) (sellersOf l)
def setL (l : List (Int × Int)) : Nat × Int × Int := settleF (buyersOf l) (sellersOf l) (kL l)
def filledL (l : List (Int × Int)) : List Bool := markF (sellersOf l) (markF (buyersOf l) (List.replicate l.length false) (setL l).1) (setL l).1
def gainedL (l : List (Int × Int)) : Int := gainF (buyersOf l) (sellersOf l) (setL l).1
def canL (l : List (Int × Int)) : Int := gainF (buyersOf l) (sellersOf l) (kL l)
def shareL (l : List (Int × Int)) : Nat := shareB (gainedL l) (canL l)
theorem filledL_length (l : List (Int × Int)) : (filledL l).length = l.length := by
  unfold filledL; rw [markF_length, markF_length, List.length_replicate]
theorem setL_le (l : List (Int × Int)) : (setL l).1 ≤ kL l := settle_le _ _ _

theorem gainF_nonneg {B S : List (Int × Int)} {k : Nat} (h : ∀ i, i < k → priceAt 1000 S i ≤ priceAt 0 B i) : ∀ n, n ≤ k → 0 ≤ gainF B S n
  | 0, _ => by simp [gainF]
  | n + 1, hn => by
    have := gainF_nonneg h n (by omega)
    have := h n (by omega)
    rw [gainF]; omega
theorem gainF_mono {B S : List (Int × Int)} {k : Nat} (h : ∀ i, i < k → priceAt 1000 S i ≤ priceAt 0 B i) (n : Nat) : ∀ m, n ≤ m → m ≤ k → gainF B S n ≤ gainF B S m
  | 0, hn, _ => by rw [show n = 0 by omega]; omega
  | m + 1, hn, hm => by
    by_cases e : n = m + 1
    · rw [e]; omega
    · have := gainF_mono h n m (by omega) (by omega)
      have := h m (by omega)
      rw [gainF]; omega
theorem kL_is (l : List (Int × Int)) : IsK (buyersOf l) (sellersOf l) (kL l) := kOf_is (buyers_priced l) (sellers_priced l)
theorem kL_le (l : List (Int × Int)) : kL l ≤ (buyersOf l).length ∧ kL l ≤ (sellersOf l).length := kOf_le (buyers_priced l) (sellers_priced l)
theorem gain_bd (l : List (Int × Int)) : 0 ≤ gainedL l ∧ gainedL l ≤ canL l ∧ canL l ≤ 1000 * (l.length : Int) := by
  have h := (kL_is l).yes
  have h1 := setL_le l
  have h2 := (gainF_bd (buyers_priced l) (sellers_priced l) (kL l)).2
  have h3 := (kL_le l).1
  have h4 := buyers_le l
  exact ⟨gainF_nonneg h _ h1, gainF_mono h _ _ h1 (Nat.le_refl _), by unfold canL; omega⟩
theorem div_some (a b : Int) (h0 : 0 ≤ a) (h1 : a < 9007199254740992) (h2 : 0 < b) (h3 : b < 9007199254740992) : ∃ r, Ieee.double.div (floatOfInt .f64 a) (floatOfInt .f64 b) = some r := by
  obtain ⟨n, rfl⟩ := Int.eq_ofNat_of_zero_le h0
  obtain ⟨m, rfl⟩ := Int.eq_ofNat_of_zero_le (show 0 ≤ b by omega)
  by_cases e : n = 0
  · subst e; exact ⟨_, Flt.div_zero m (by omega) (by omega)⟩
  · exact ⟨_, Flt.div_whole n m (by omega) (by omega) (by omega) (by omega)⟩
theorem share_some (l : List (Int × Int)) (hl : l.length ≤ 8796093022208) : ∃ r, canL l ≠ 0 → Ieee.double.div (floatOfInt .f64 (gainedL l)) (floatOfInt .f64 (canL l)) = some r := by
  have h := gain_bd l
  by_cases e : canL l = 0
  · exact ⟨0, fun h => absurd e h⟩
  · obtain ⟨r, hr⟩ := div_some (gainedL l) (canL l) h.1 (by omega) (by omega) (by omega)
    exact ⟨r, fun _ => hr⟩
end Go.Proofs.Yteeplklhbhaicaa
/- A trader's price is posted: it does not hang on what they say. No program in this text. -/
namespace Go.Proofs.Yteeplklhbhaicaa.Post

/-- how many trade, and at which price of one's own side. -/
def fillsG (mid : Int → Int → Int) (b s : Nat → Int) (k : Nat) : Nat :=
  if k = 0 then 0 else if s (k - 1) ≤ mid (b k) (s k) ∧ mid (b k) (s k) ≤ b (k - 1) then k else k - 1
def payG (mid : Int → Int → Int) (b s : Nat → Int) (k : Nat) : Int :=
  if s (k - 1) ≤ mid (b k) (s k) ∧ mid (b k) (s k) ≤ b (k - 1) then mid (b k) (s k) else b (k - 1)

theorem least (p : Nat → Prop) [DecidablePred p] : ∀ n, p n → ∃ k, p k ∧ ∀ i, i < k → ¬ p i := by
  intro n
  induction n using Nat.strongRecOn with
  | ind n ih =>
    intro h
    by_cases hx : ∃ i, i < n ∧ p i
    · obtain ⟨i, hi, hp⟩ := hx
      exact ih i hi hp
    · exact ⟨n, h, fun i hi hp => hx ⟨i, hi, hp⟩⟩

/-- one's own side with the best price that may be put ahead of the others. -/
def ahead (o : Nat → Int) (i : Nat) : Int := if i = 0 then 999 else o (i - 1)

theorem posted (mid : Int → Int → Int) (hmid : ∀ x y, x < y → x ≤ mid x y) (o s : Nat → Int) (om : ∀ i j, i ≤ j → o j ≤ o i) (sm : ∀ i j, i ≤ j → s i ≤ s j)
    (ob : ∀ i, o i ≤ 999) (n : Nat) (hend : ahead o n < s n) :
    ∃ π : Int, ∀ (p : Int) (r k : Nat) (b : Nat → Int), p ≤ 999 → (∀ j, j < r → b j = o j ∧ p ≤ o j) → b r = p → (∀ j, r ≤ j → b (j + 1) = o j ∧ o j ≤ p) → (∀ i, i < k → s i ≤ b i) → b k < s k →
      (r < fillsG mid b s k → payG mid b s k = π ∧ π ≤ p) ∧ (¬ r < fillsG mid b s k → p ≤ π) := by
  obtain ⟨K, hK, hKm⟩ := least (fun i => ahead o i < s i) n hend
  have hKy : ∀ i, i < K → s i ≤ ahead o i := fun i hi => by have := hKm i hi; omega
  -- the one of the others who stands last among the first K
  by_cases hK0 : K = 0
  · subst hK0
    refine ⟨999, fun p r k b hp hlo hr hhi hy hn => ?_⟩
    have h0 : s 0 > 999 := by simpa [ahead] using hK
    have hk0 : k = 0 := by
      rcases Nat.eq_zero_or_pos k with h | h
      · exact h
      · have h1 := hy 0 h
        have h2 : b 0 ≤ 999 := by
          rcases Nat.eq_zero_or_pos r with hr0 | hr0
          · rw [hr0] at hr; omega
          · have := (hlo 0 hr0).1; have := ob 0; omega
        omega
    subst hk0
    exact ⟨fun h => by simp [fillsG] at h, fun _ => hp⟩
  · have hKl : ahead o K = o (K - 1) := by unfold ahead; rw [if_neg hK0]
    rw [hKl] at hK
    obtain ⟨M, hM⟩ : ∃ M, M = mid (o (K - 1)) (s K) := ⟨_, rfl⟩
    have hMo : o (K - 1) ≤ M := by rw [hM]; exact hmid _ _ hK
    obtain ⟨A, hA⟩ : ∃ A, A = ahead o (K - 1) := ⟨_, rfl⟩
    have hA1 : K = 1 → A = 999 := fun h => by rw [hA, h]; rfl
    have hA2 : K ≠ 1 → A = o (K - 2) := fun h => by rw [hA]; unfold ahead; rw [if_neg (by omega), show K - 1 - 1 = K - 2 by omega]
    have hsA : s (K - 1) ≤ A := by rw [hA]; exact hKy (K - 1) (by omega)
    refine ⟨if s (K - 1) ≤ M ∧ M ≤ A then M else A, fun p r k b hp hlo hr hhi hy hn => ?_⟩
    -- who stands behind K - 1 others: their price is at most A
    have hpA : K ≤ r + 1 → p ≤ A := fun h => by
      by_cases h1 : K = 1
      · rw [hA1 h1]; exact hp
      · rw [hA2 h1]; exact (hlo (K - 2) (by omega)).2
    by_cases hrk : r < k
    · -- in the pairs: then there are K of them
      have hbk : b k = o (k - 1) := by
        have := (hhi (k - 1) (by omega)).1
        rwa [show k - 1 + 1 = k by omega] at this
      have hkK : k = K := by
        rcases Nat.lt_trichotomy k K with h | h | h
        · have h1 := hKy k h
          unfold ahead at h1
          rw [if_neg (by omega)] at h1
          omega
        · exact h
        · -- K < k
          have h1 := hy K h
          by_cases hrK : r < K
          · have := (hhi (K - 1) (by omega)).1
            rw [show K - 1 + 1 = K by omega] at this
            omega
          · by_cases hrK' : r = K
            · rw [hrK'] at hr
              have := (hlo (K - 1) (by omega)).2
              omega
            · have h2 := (hlo K (by omega)).1
              have h3 := om (K - 1) K (by omega)
              omega
      subst hkK
      have hMb : mid (b k) (s k) = M := by rw [hbk, hM]
      unfold fillsG payG
      rw [if_neg hK0, hMb]
      by_cases hr1 : r + 1 = k
      · -- the last of the pairs
        have hbl : b (k - 1) = p := by rw [← hr, show k - 1 = r by omega]
        rw [hbl]
        have hpa := hpA (by omega)
        by_cases hc : s (k - 1) ≤ M ∧ M ≤ p
        · rw [if_pos hc, if_pos hc, if_pos ⟨hc.1, by omega⟩]
          exact ⟨fun _ => ⟨rfl, hc.2⟩, fun h => by omega⟩
        · rw [if_neg hc, if_neg hc]
          refine ⟨fun h => by omega, fun _ => ?_⟩
          split
          · omega
          · exact hpa
      · have hbl : b (k - 1) = A := by
          rw [hA2 (by omega)]
          have := (hhi (k - 2) (by omega)).1
          rwa [show k - 2 + 1 = k - 1 by omega] at this
        have hAp : A ≤ p := by rw [hA2 (by omega)]; exact (hhi (k - 2) (by omega)).2
        rw [hbl]
        by_cases hc : s (k - 1) ≤ M ∧ M ≤ A
        · rw [if_pos hc, if_pos hc]
          exact ⟨fun _ => ⟨rfl, by omega⟩, fun h => by omega⟩
        · rw [if_neg hc, if_neg hc]
          exact ⟨fun _ => ⟨rfl, hAp⟩, fun h => by omega⟩
    · -- not among the pairs
      have hf : fillsG mid b s k ≤ k := by
        unfold fillsG
        split
        · omega
        · split <;> omega
      refine ⟨fun h => by omega, fun _ => ?_⟩
      have hkK : k ≤ K := by
        rcases Nat.lt_or_ge K k with h | h
        · exfalso
          have h1 := hy K h
          have h2 := (hlo K (by omega)).1
          have h3 := om (K - 1) K (by omega)
          omega
        · exact h
      have hKk : K ≤ k + 1 := by
        rcases Nat.lt_or_ge (k + 1) K with h | h
        · exfalso
          have h1 := hKy (k + 1) h
          unfold ahead at h1
          rw [if_neg (by omega), show k + 1 - 1 = k by omega] at h1
          have h2 := sm k (k + 1) (by omega)
          by_cases e : r = k
          · have := (hhi k (by omega)).2
            rw [e] at hr
            omega
          · have := (hlo k (by omega)).1
            omega
        · exact h
      have hpa := hpA (by omega)
      split
      · rename_i hc
        by_cases e : K = k
        · have := (hlo (K - 1) (by omega)).2
          omega
        · have hk1 : K - 1 = k := by omega
          rw [hk1] at hc
          by_cases e2 : r = k
          · rw [e2] at hr; omega
          · have := (hlo k (by omega)).1
            have := (hlo k (by omega)).2
            omega
      · exact hpa
#print axioms posted
end Go.Proofs.Yteeplklhbhaicaa.Post
