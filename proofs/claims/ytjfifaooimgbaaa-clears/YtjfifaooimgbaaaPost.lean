/- A trader's price is posted: it does not hang on what they say. No program in this text. -/
namespace Go.Proofs.Ytjfifaooimgbaaa.Post

/-- how many trade, and at which price of one's own side. -/
def fillsG (mid : Int → Int → Int) (b s : Nat → Int) (k : Nat) : Nat :=
  if k = 0 then 0 else if s (k - 1) ≤ mid (b k) (s k) ∧ mid (b k) (s k) ≤ b (k - 1) then k else k - 1
def payG (mid : Int → Int → Int) (b s : Nat → Int) (k : Nat) : Int :=
  if s (k - 1) ≤ mid (b k) (s k) ∧ mid (b k) (s k) ≤ b (k - 1) then mid (b k) (s k) else b (k - 1)

theorem least (p : Nat → Prop) [DecidablePred p] : ∀ n, p n → ∃ k, p k ∧ ∀ i, i < k → ¬ p i := by
  intro n
  induction n using Nat.strongRecOn with
  | ind n ih =>
    intro h
    by_cases hx : ∃ i, i < n ∧ p i
    · obtain ⟨i, hi, hp⟩ := hx
      exact ih i hi hp
    · exact ⟨n, h, fun i hi hp => hx ⟨i, hi, hp⟩⟩

/-- one's own side with the best price that may be put ahead of the others. -/
def ahead (o : Nat → Int) (i : Nat) : Int := if i = 0 then 999 else o (i - 1)

theorem posted (mid : Int → Int → Int) (hmid : ∀ x y, x < y → x ≤ mid x y) (o s : Nat → Int) (om : ∀ i j, i ≤ j → o j ≤ o i) (sm : ∀ i j, i ≤ j → s i ≤ s j)
    (ob : ∀ i, o i ≤ 999) (n : Nat) (hend : ahead o n < s n) :
    ∃ π : Int, ∀ (p : Int) (r k : Nat) (b : Nat → Int), p ≤ 999 → (∀ j, j < r → b j = o j ∧ p ≤ o j) → b r = p → (∀ j, r ≤ j → b (j + 1) = o j ∧ o j ≤ p) → (∀ i, i < k → s i ≤ b i) → b k < s k →
      (r < fillsG mid b s k → payG mid b s k = π ∧ π ≤ p) ∧ (¬ r < fillsG mid b s k → p ≤ π) := by
  obtain ⟨K, hK, hKm⟩ := least (fun i => ahead o i < s i) n hend
  have hKy : ∀ i, i < K → s i ≤ ahead o i := fun i hi => by have := hKm i hi; omega
  -- the one of the others who stands last among the first K
  by_cases hK0 : K = 0
  · subst hK0
    refine ⟨999, fun p r k b hp hlo hr hhi hy hn => ?_⟩
    have h0 : s 0 > 999 := by simpa [ahead] using hK
    have hk0 : k = 0 := by
      rcases Nat.eq_zero_or_pos k with h | h
      · exact h
      · have h1 := hy 0 h
        have h2 : b 0 ≤ 999 := by
          rcases Nat.eq_zero_or_pos r with hr0 | hr0
          · rw [hr0] at hr; omega
          · have := (hlo 0 hr0).1; have := ob 0; omega
        omega
    subst hk0
    exact ⟨fun h => by simp [fillsG] at h, fun _ => hp⟩
  · have hKl : ahead o K = o (K - 1) := by unfold ahead; rw [if_neg hK0]
    rw [hKl] at hK
    obtain ⟨M, hM⟩ : ∃ M, M = mid (o (K - 1)) (s K) := ⟨_, rfl⟩
    have hMo : o (K - 1) ≤ M := by rw [hM]; exact hmid _ _ hK
    obtain ⟨A, hA⟩ : ∃ A, A = ahead o (K - 1) := ⟨_, rfl⟩
    have hA1 : K = 1 → A = 999 := fun h => by rw [hA, h]; rfl
    have hA2 : K ≠ 1 → A = o (K - 2) := fun h => by rw [hA]; unfold ahead; rw [if_neg (by omega), show K - 1 - 1 = K - 2 by omega]
    have hsA : s (K - 1) ≤ A := by rw [hA]; exact hKy (K - 1) (by omega)
    refine ⟨if s (K - 1) ≤ M ∧ M ≤ A then M else A, fun p r k b hp hlo hr hhi hy hn => ?_⟩
    -- who stands behind K - 1 others: their price is at most A
    have hpA : K ≤ r + 1 → p ≤ A := fun h => by
      by_cases h1 : K = 1
      · rw [hA1 h1]; exact hp
      · rw [hA2 h1]; exact (hlo (K - 2) (by omega)).2
    by_cases hrk : r < k
    · -- in the pairs: then there are K of them
      have hbk : b k = o (k - 1) := by
        have := (hhi (k - 1) (by omega)).1
        rwa [show k - 1 + 1 = k by omega] at this
      have hkK : k = K := by
        rcases Nat.lt_trichotomy k K with h | h | h
        · have h1 := hKy k h
          unfold ahead at h1
          rw [if_neg (by omega)] at h1
          omega
        · exact h
        · -- K < k
          have h1 := hy K h
          by_cases hrK : r < K
          · have := (hhi (K - 1) (by omega)).1
            rw [show K - 1 + 1 = K by omega] at this
            omega
          · by_cases hrK' : r = K
            · rw [hrK'] at hr
              have := (hlo (K - 1) (by omega)).2
              omega
            · have h2 := (hlo K (by omega)).1
              have h3 := om (K - 1) K (by omega)
              omega
      subst hkK
      have hMb : mid (b k) (s k) = M := by rw [hbk, hM]
      unfold fillsG payG
      rw [if_neg hK0, hMb]
      by_cases hr1 : r + 1 = k
      · -- the last of the pairs
        have hbl : b (k - 1) = p := by rw [← hr, show k - 1 = r by omega]
        rw [hbl]
        have hpa := hpA (by omega)
        by_cases hc : s (k - 1) ≤ M ∧ M ≤ p
        · rw [if_pos hc, if_pos hc, if_pos ⟨hc.1, by omega⟩]
          exact ⟨fun _ => ⟨rfl, hc.2⟩, fun h => by omega⟩
        · rw [if_neg hc, if_neg hc]
          refine ⟨fun h => by omega, fun _ => ?_⟩
          split
          · omega
          · exact hpa
      · have hbl : b (k - 1) = A := by
          rw [hA2 (by omega)]
          have := (hhi (k - 2) (by omega)).1
          rwa [show k - 2 + 1 = k - 1 by omega] at this
        have hAp : A ≤ p := by rw [hA2 (by omega)]; exact (hhi (k - 2) (by omega)).2
        rw [hbl]
        by_cases hc : s (k - 1) ≤ M ∧ M ≤ A
        · rw [if_pos hc, if_pos hc]
          exact ⟨fun _ => ⟨rfl, by omega⟩, fun h => by omega⟩
        · rw [if_neg hc, if_neg hc]
          exact ⟨fun _ => ⟨rfl, hAp⟩, fun h => by omega⟩
    · -- not among the pairs
      have hf : fillsG mid b s k ≤ k := by
        unfold fillsG
        split
        · omega
        · split <;> omega
      refine ⟨fun h => by omega, fun _ => ?_⟩
      have hkK : k ≤ K := by
        rcases Nat.lt_or_ge K k with h | h
        · exfalso
          have h1 := hy K h
          have h2 := (hlo K (by omega)).1
          have h3 := om (K - 1) K (by omega)
          omega
        · exact h
      have hKk : K ≤ k + 1 := by
        rcases Nat.lt_or_ge (k + 1) K with h | h
        · exfalso
          have h1 := hKy (k + 1) h
          unfold ahead at h1
          rw [if_neg (by omega), show k + 1 - 1 = k by omega] at h1
          have h2 := sm k (k + 1) (by omega)
          by_cases e : r = k
          · have := (hhi k (by omega)).2
            rw [e] at hr
            omega
          · have := (hlo k (by omega)).1
            omega
        · exact h
      have hpa := hpA (by omega)
      split
      · rename_i hc
        by_cases e : K = k
        · have := (hlo (K - 1) (by omega)).2
          omega
        · have hk1 : K - 1 = k := by omega
          rw [hk1] at hc
          by_cases e2 : r = k
          · rw [e2] at hr; omega
          · have := (hlo k (by omega)).1
            have := (hlo k (by omega)).2
            omega
      · exact hpa
#print axioms posted
end Go.Proofs.Ytjfifaooimgbaaa.Post
