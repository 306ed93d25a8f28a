/- When a share is one, when it is nought: no program in this text. -/
import Derived.Test.YtjfifaooimgbaaaFlt
namespace Go.Proofs.Ytjfifaooimgbaaa.Flt
open Ieee

theorem cut_le (n drop : Nat) (k : Nat) (hk : drop ≤ n.log2 + 2) (h : n / 2 ^ drop ≤ k) : Toward.even.cut false n drop ≤ k + 1 ∧ n / 2 ^ drop ≤ Toward.even.cut false n drop := by
  have h2 : ∃ bb : Bool, Toward.even.cut false n drop = n / 2 ^ drop + bb.toNat := by
    unfold Toward.cut
    rw [Nat.min_eq_left hk, Nat.shiftLeft_eq, Nat.one_mul]
    exact ⟨_, rfl⟩
  obtain ⟨bb, hb⟩ := h2
  rw [hb]
  cases bb <;> simp <;> omega

/-- the word of a magnitude of L + 1 digits at a place. -/
theorem nearest_word (mag L drop : Nat) (place : Int) (h0 : 0 < mag) (hL : mag.log2 = L) (hd : L = 52 + drop) (hp : -1000 ≤ place) (hp2 : place + (L : Int) ≤ 100) (kmax : Nat) (hk : mag / 2 ^ drop ≤ kmax) (hkm : kmax < 9007199254740992) :
    ∃ kept, kept ≤ kmax + 1 ∧ mag / 2 ^ drop ≤ kept ∧ double.nearest false mag place = (place + (drop : Int) + 1074).toNat * 4503599627370496 + kept := by
  have hc := cut_le mag drop kmax (by omega) hk
  refine ⟨Toward.even.cut false mag drop, hc.1, hc.2, ?_⟩
  unfold Format.nearest
  rw [if_neg (by omega), d_frac, d_least, d_binade, d_inf, hL]
  have e1 : max (place + (L : Int) - ((52 : Nat) : Int)) (-1074) = place + (drop : Int) := by omega
  have e2 : (place - (place + (drop : Int))).toNat = 0 := by omega
  have e3 : (place + (drop : Int) - place).toNat = drop := by omega
  have e4 : (place + (drop : Int) - -1074).toNat = (place + (drop : Int) + 1074).toNat := by omega
  simp only [e1, e2, e3, e4, Nat.shiftLeft_zero]
  rw [Nat.min_eq_left (by have := hc.1; omega)]
  rfl

theorem div_lt_of {x n k : Nat} (hn : 0 < n) (h : x < k * n) : x / n < k := (Nat.div_lt_iff_lt_mul hn).2 h
theorem le_div_of {x n k : Nat} (hn : 0 < n) (h : k * n ≤ x) : k ≤ x / n := (Nat.le_div_iff_mul_le hn).2 h

theorem log2_of {n k : Nat} (h1 : 2 ^ k ≤ n) (h2 : n < 2 ^ (k + 1)) : n.log2 = k := by
  have h0 : n ≠ 0 := by
    intro e; subst e
    have := Nat.pow_pos (n := k) (show 0 < 2 by omega)
    omega
  have a := (Nat.log2_lt h0 (k := k + 1)).2 h2
  have b : ¬ n.log2 < k := fun hc => by
    have := (Nat.log2_lt h0 (k := k)).1 hc
    omega
  omega

theorem share_lt (a b : Nat) (ha : 0 < a) (hab : a < b) (hb : b < 9007199254740992) :
    ∃ r, double.div (floatOfInt .f64 (a : Int)) (floatOfInt .f64 (b : Int)) = some r ∧ 0 < r ∧ r < 4607182418800017408 := by
  refine ⟨_, div_whole a b ha (by omega) (by omega) hb, ?_⟩
  have ma := sig_bd a ha (by omega)
  have mb := sig_bd b (by omega) hb
  have la := log2_lt a ha (by omega)
  have lb := log2_lt b (by omega) hb
  have hlog : a.log2 ≤ b.log2 := by
    have h1 := log2_bd a ha
    have h2 := log2_bd b (by omega)
    rcases Nat.lt_or_ge b.log2 a.log2 with h | h
    · exfalso
      have : 2 ^ (b.log2 + 1) ≤ 2 ^ a.log2 := Nat.pow_le_pow_right (by omega) h
      omega
    · exact h
  -- the digits
  obtain ⟨Q, hQ⟩ : ∃ Q, Q = sig a * 18014398509481984 / sig b := ⟨_, rfl⟩
  have hst : (sig a * 18014398509481984 % sig b != 0).toNat ≤ 1 := by cases (sig a * 18014398509481984 % sig b != 0) <;> simp
  have hmag : quoMag (sig a) (sig b) = 2 * Q + (sig a * 18014398509481984 % sig b != 0).toNat := by unfold quoMag; rw [hQ]
  generalize (sig a * 18014398509481984 % sig b != 0).toNat = st at hst hmag
  have q1 : 9007199254740992 ≤ Q := by rw [hQ]; exact le_div_of (by omega) (by omega)
  have q2 : Q < 36028797018963968 := by rw [hQ]; exact div_lt_of (by omega) (by omega)
  rw [hmag]
  by_cases h55 : 18014398509481984 ≤ Q
  · -- 56 digits
    have hL : (2 * Q + st).log2 = 55 := log2_of (by omega) (by omega)
    by_cases he : a.log2 + 1 = b.log2
    · -- just below one: it does not round up
      have hs2 : sig a + 2 ≤ 2 * sig b := by
        have e1 : sig a = a * 2 ^ (52 - a.log2) := rfl
        have e2 : 2 * sig b = b * 2 ^ (52 - a.log2) := by
          unfold sig
          rw [show 52 - a.log2 = (52 - b.log2) + 1 by omega, Nat.pow_succ]
          rw [Nat.mul_comm 2, Nat.mul_assoc]
        have hp : 2 ≤ 2 ^ (52 - a.log2) := by
          have : 2 ^ 1 ≤ 2 ^ (52 - a.log2) := Nat.pow_le_pow_right (by omega) (by omega)
          simpa using this
        have hm : a * 2 ^ (52 - a.log2) + 2 ^ (52 - a.log2) ≤ b * 2 ^ (52 - a.log2) := by
          rw [← Nat.succ_mul]; exact Nat.mul_le_mul_right _ hab
        rw [e1, e2]; omega
      have q3 : Q < 36028797018963964 := by rw [hQ]; exact div_lt_of (by omega) (by omega)
      obtain ⟨kept, k1, k2, e⟩ := nearest_word (2 * Q + st) 55 3 ((a.log2 : Int) - (b.log2 : Int) - 55) (by omega) hL rfl (by omega) (by omega) 9007199254740990 (by have : (2 * Q + st) / 2 ^ 3 = (2 * Q + st) / 8 := rfl; omega) (by omega)
      rw [e]
      have e5 : ((a.log2 : Int) - (b.log2 : Int) - 55 + ((3 : Nat) : Int) + 1074).toNat = 1021 := by omega
      rw [e5]; omega
    · have hne : a.log2 ≠ b.log2 := fun h => by
        have hm : sig a < sig b := by
          unfold sig; rw [h]; exact Nat.mul_lt_mul_of_pos_right hab (Nat.pow_pos (by omega))
        have : Q < 18014398509481984 := by rw [hQ]; exact div_lt_of (by omega) (by omega)
        omega
      obtain ⟨kept, k1, k2, e⟩ := nearest_word (2 * Q + st) 55 3 ((a.log2 : Int) - (b.log2 : Int) - 55) (by omega) hL rfl (by omega) (by omega) 9007199254740991 (by have : (2 * Q + st) / 2 ^ 3 = (2 * Q + st) / 8 := rfl; omega) (by omega)
      rw [e]
      have e5 : ((a.log2 : Int) - (b.log2 : Int) - 55 + ((3 : Nat) : Int) + 1074).toNat ≤ 1020 := by omega
      have e6 : 1 ≤ ((a.log2 : Int) - (b.log2 : Int) - 55 + ((3 : Nat) : Int) + 1074).toNat := by omega
      generalize ((a.log2 : Int) - (b.log2 : Int) - 55 + ((3 : Nat) : Int) + 1074).toNat = z at e5 e6
      omega
  · have hL : (2 * Q + st).log2 = 54 := log2_of (by omega) (by omega)
    by_cases he : a.log2 = b.log2
    · have hm : sig a + 1 ≤ sig b := by
        unfold sig; rw [he]; exact Nat.mul_lt_mul_of_pos_right hab (Nat.pow_pos (by omega))
      have q3 : Q < 18014398509481982 := by rw [hQ]; exact div_lt_of (by omega) (by omega)
      obtain ⟨kept, k1, k2, e⟩ := nearest_word (2 * Q + st) 54 2 ((a.log2 : Int) - (b.log2 : Int) - 55) (by omega) hL rfl (by omega) (by omega) 9007199254740990 (by have : (2 * Q + st) / 2 ^ 2 = (2 * Q + st) / 4 := rfl; omega) (by omega)
      rw [e]
      have e5 : ((a.log2 : Int) - (b.log2 : Int) - 55 + ((2 : Nat) : Int) + 1074).toNat = 1021 := by omega
      rw [e5]; omega
    · obtain ⟨kept, k1, k2, e⟩ := nearest_word (2 * Q + st) 54 2 ((a.log2 : Int) - (b.log2 : Int) - 55) (by omega) hL rfl (by omega) (by omega) 9007199254740991 (by have : (2 * Q + st) / 2 ^ 2 = (2 * Q + st) / 4 := rfl; omega) (by omega)
      rw [e]
      have e5 : ((a.log2 : Int) - (b.log2 : Int) - 55 + ((2 : Nat) : Int) + 1074).toNat ≤ 1020 := by omega
      have e6 : 1 ≤ ((a.log2 : Int) - (b.log2 : Int) - 55 + ((2 : Nat) : Int) + 1074).toNat := by omega
      generalize ((a.log2 : Int) - (b.log2 : Int) - 55 + ((2 : Nat) : Int) + 1074).toNat = z at e5 e6
      omega

theorem share_eq (a : Nat) (ha : 0 < a) (hb : a < 9007199254740992) : double.div (floatOfInt .f64 (a : Int)) (floatOfInt .f64 (a : Int)) = some 4607182418800017408 := by
  rw [div_whole a a ha hb ha hb]
  have mb := sig_bd a ha hb
  have e : quoMag (sig a) (sig a) = 36028797018963968 := by
    unfold quoMag
    rw [Nat.mul_comm (sig a), Nat.mul_div_cancel _ (by omega), Nat.mul_mod_left]
    rfl
  have e2 : double.nearest false 36028797018963968 (-55) = 4607182418800017408 := by kernel_rfl
  rw [e, show ((a.log2 : Int) - (a.log2 : Int) - 55) = -55 by omega, e2]
#print axioms share_lt
#print axioms share_eq
end Go.Proofs.Ytjfifaooimgbaaa.Flt
