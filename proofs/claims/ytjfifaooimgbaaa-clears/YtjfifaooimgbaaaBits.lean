/- A share, divided bit by bit: no program in this text. -/
import Derived.Test.YtjfifaooimgbaaaShare
namespace Go.Proofs.Ytjfifaooimgbaaa.Flt
open Ieee

/-- N / b, to the nearest whole number; between two, to the even one. -/
def halfEven (N b : Nat) : Nat := N / b + (decide (b < 2 * (N % b)) || (b == 2 * (N % b) && N / b % 2 == 1)).toNat

theorem nearest_cut (mag L drop : Nat) (place : Int) (h0 : 0 < mag) (hL : mag.log2 = L) (hd : L = 52 + drop) (hp : -1000 ≤ place) (hp2 : place + (L : Int) ≤ 100) (hm : mag < 9007199254740992 * 2 ^ drop) :
    double.nearest false mag place = (place + (drop : Int) + 1074).toNat * 4503599627370496 + Toward.even.cut false mag drop := by
  have hk : mag / 2 ^ drop ≤ 9007199254740991 := by
    have := div_lt_of (Nat.pow_pos (n := drop) (show 0 < 2 by omega)) hm
    omega
  have hc := cut_le mag drop 9007199254740991 (by omega) hk
  unfold Format.nearest
  rw [if_neg (by omega), d_frac, d_least, d_binade, d_inf, hL]
  have e1 : max (place + (L : Int) - ((52 : Nat) : Int)) (-1074) = place + (drop : Int) := by omega
  have e2 : (place - (place + (drop : Int))).toNat = 0 := by omega
  have e3 : (place + (drop : Int) - place).toNat = drop := by omega
  have e4 : (place + (drop : Int) - -1074).toNat = (place + (drop : Int) + 1074).toNat := by omega
  simp only [e1, e2, e3, e4, Nat.shiftLeft_zero]
  rw [Nat.min_eq_left (by have := hc.1; omega)]
  rfl

theorem cut_even (n drop : Nat) (hk : drop ≤ n.log2 + 2) : Toward.even.cut false n drop = n / 2 ^ drop + (decide (2 ^ drop < 2 * (n % 2 ^ drop)) || (2 ^ drop == 2 * (n % 2 ^ drop) && n / 2 ^ drop % 2 == 1)).toNat := by
  unfold Toward.cut
  rw [Nat.min_eq_left hk, Nat.shiftLeft_eq, Nat.one_mul]

theorem scaled (N b d : Nat) (hb : 0 < b) : N * d / b = N / b * d + (N % b) * d / b ∧ N * d % b = (N % b) * d % b := by
  have e : N * d = b * (N / b * d) + (N % b) * d := by
    conv => lhs; rw [← Nat.div_add_mod N b]
    rw [Nat.add_mul, Nat.mul_assoc]
  rw [e]
  exact ⟨Nat.mul_add_div hb _ _, Nat.mul_add_mod _ _ _⟩

theorem round3 (N b : Nat) (hb : 0 < b) (hk : 3 ≤ (2 * (N * 4 / b) + (N * 4 % b != 0).toNat).log2 + 2) : Toward.even.cut false (2 * (N * 4 / b) + (N * 4 % b != 0).toNat) 3 = halfEven N b := by
  rw [cut_even _ _ hk]
  obtain ⟨s1, s2⟩ := scaled N b 4 hb
  rw [s1, s2]
  have hr : N % b < b := Nat.mod_lt _ hb
  unfold halfEven
  generalize N / b = q
  generalize N % b = r at hr
  have h4 := Nat.div_add_mod (r * 4) b
  have hm : r * 4 % b < b := Nat.mod_lt _ hb
  have hd : r * 4 / b < 4 := div_lt_of hb (by omega)
  generalize r * 4 % b = m at h4 hm
  generalize r * 4 / b = t at h4 hd
  have e3 : (2 : Nat) ^ 3 = 8 := rfl
  rw [e3]
  have hst : (m != 0).toNat = 0 ∧ m = 0 ∨ (m != 0).toNat = 1 ∧ 0 < m := by
    by_cases h : m = 0
    · left; subst h; exact ⟨rfl, rfl⟩
    · right; exact ⟨by simp [h], by omega⟩
  generalize (m != 0).toNat = st at hst
  have ed : (2 * (q * 4 + t) + st) / 8 = q := by omega
  have em : (2 * (q * 4 + t) + st) % 8 = 2 * t + st := by omega
  rw [ed, em]
  congr 2
  have ht : t = 0 ∨ t = 1 ∨ t = 2 ∨ t = 3 := by omega
  have c1 : decide (8 < 2 * (2 * t + st)) = decide (b < 2 * r) := by
    apply decide_eq_decide.2
    rcases ht with rfl | rfl | rfl | rfl <;> rcases hst with ⟨rfl, h⟩ | ⟨rfl, h⟩ <;> omega
  have c2 : (8 == 2 * (2 * t + st)) = (b == 2 * r) := by
    rw [Bool.eq_iff_iff, beq_iff_eq, beq_iff_eq]
    rcases ht with rfl | rfl | rfl | rfl <;> rcases hst with ⟨rfl, h⟩ | ⟨rfl, h⟩ <;> omega
  rw [c1, c2]

theorem round2 (N b : Nat) (hb : 0 < b) (hk : 2 ≤ (2 * (N * 2 / b) + (N * 2 % b != 0).toNat).log2 + 2) : Toward.even.cut false (2 * (N * 2 / b) + (N * 2 % b != 0).toNat) 2 = halfEven N b := by
  rw [cut_even _ _ hk]
  obtain ⟨s1, s2⟩ := scaled N b 2 hb
  rw [s1, s2]
  have hr : N % b < b := Nat.mod_lt _ hb
  unfold halfEven
  generalize N / b = q
  generalize N % b = r at hr
  have h4 := Nat.div_add_mod (r * 2) b
  have hm : r * 2 % b < b := Nat.mod_lt _ hb
  have hd : r * 2 / b < 2 := div_lt_of hb (by omega)
  generalize r * 2 % b = m at h4 hm
  generalize r * 2 / b = t at h4 hd
  have e3 : (2 : Nat) ^ 2 = 4 := rfl
  rw [e3]
  have hst : (m != 0).toNat = 0 ∧ m = 0 ∨ (m != 0).toNat = 1 ∧ 0 < m := by
    by_cases h : m = 0
    · left; subst h; exact ⟨rfl, rfl⟩
    · right; exact ⟨by simp [h], by omega⟩
  generalize (m != 0).toNat = st at hst
  have ed : (2 * (q * 2 + t) + st) / 4 = q := by omega
  have em : (2 * (q * 2 + t) + st) % 4 = 2 * t + st := by omega
  rw [ed, em]
  congr 2
  have ht : t = 0 ∨ t = 1 := by omega
  have c1 : decide (4 < 2 * (2 * t + st)) = decide (b < 2 * r) := by
    apply decide_eq_decide.2
    rcases ht with rfl | rfl <;> rcases hst with ⟨rfl, h⟩ | ⟨rfl, h⟩ <;> omega
  have c2 : (4 == 2 * (2 * t + st)) = (b == 2 * r) := by
    rw [Bool.eq_iff_iff, beq_iff_eq, beq_iff_eq]
    rcases ht with rfl | rfl <;> rcases hst with ⟨rfl, h⟩ | ⟨rfl, h⟩ <;> omega
  rw [c1, c2]

theorem e_unique {a b e e' : Nat} (h1 : b ≤ a * 2 ^ e) (h2' : a * 2 ^ e' < 2 * b) : e' ≤ e := by
  rcases Nat.lt_or_ge e e' with h | h
  · exfalso
    have : a * 2 ^ (e + 1) ≤ a * 2 ^ e' := Nat.mul_le_mul_left _ (Nat.pow_le_pow_right (by omega) h)
    rw [Nat.pow_succ, ← Nat.mul_assoc] at this
    omega
  · exact h

theorem quoMag_scaled (A b t D : Nat) (ht : 0 < t) (m : Nat) (hm : m * 18014398509481984 = A * D * t) : quoMag m (b * t) = 2 * (A * D / b) + (A * D % b != 0).toNat := by
  unfold quoMag
  rw [hm, Nat.mul_div_mul_right _ _ ht, Nat.mul_mod_mul_right]
  congr 2
  by_cases h : A * D % b = 0
  · rw [h]; simp
  · have : A * D % b * t ≠ 0 := Nat.mul_ne_zero h (by omega)
    rw [bne_iff_ne.2 h, bne_iff_ne.2 this]

theorem share_bits (a b e : Nat) (ha : 0 < a) (hab : a ≤ b) (hb : b < 9007199254740992) (h1 : b ≤ a * 2 ^ e) (h2 : a * 2 ^ e < 2 * b) :
    double.div (floatOfInt .f64 (a : Int)) (floatOfInt .f64 (b : Int)) = some ((1022 - e) * 4503599627370496 + halfEven (a * 2 ^ e * 4503599627370496) b) := by
  rw [div_whole a b ha (by omega) (by omega) hb]
  congr 1
  have ma := sig_bd a ha (by omega)
  have mb := sig_bd b (by omega) hb
  have la := log2_lt a ha (by omega)
  have lb := log2_lt b (by omega) hb
  have hlog : a.log2 ≤ b.log2 := by
    have h1 := log2_bd a ha
    have h2 := log2_bd b (by omega)
    rcases Nat.lt_or_ge b.log2 a.log2 with h | h
    · exfalso
      have : 2 ^ (b.log2 + 1) ≤ 2 ^ a.log2 := Nat.pow_le_pow_right (by omega) h
      omega
    · exact h
  obtain ⟨t, ht⟩ : ∃ t, t = 2 ^ (52 - b.log2) := ⟨_, rfl⟩
  have ht0 : 0 < t := by rw [ht]; exact Nat.pow_pos (by omega)
  have sb : sig b = b * t := by rw [ht]; rfl
  have sa : sig a = a * 2 ^ (b.log2 - a.log2) * t := by
    unfold sig
    rw [ht, Nat.mul_assoc, ← Nat.pow_add, show b.log2 - a.log2 + (52 - b.log2) = 52 - a.log2 by omega]
  by_cases hs : sig b ≤ sig a
  · have g1 : b ≤ a * 2 ^ (b.log2 - a.log2) := by
      rw [sa, sb] at hs; exact Nat.le_of_mul_le_mul_right hs ht0
    have g2 : a * 2 ^ (b.log2 - a.log2) < 2 * b := by
      have : a * 2 ^ (b.log2 - a.log2) * t < (2 * b) * t := by rw [← sa, Nat.mul_assoc, ← sb]; omega
      exact Nat.lt_of_mul_lt_mul_right this
    have ee : e = b.log2 - a.log2 := Nat.le_antisymm (e_unique g1 h2) (e_unique h1 g2)
    rw [← ee] at sa
    generalize hA : a * 2 ^ e = A at *
    have hq : quoMag (sig a) (sig b) = 2 * (A * 18014398509481984 / b) + (A * 18014398509481984 % b != 0).toNat := by
      rw [sb]; exact quoMag_scaled A b t 18014398509481984 ht0 (sig a) (by rw [sa, Nat.mul_right_comm])
    have hN : A * 18014398509481984 = A * 4503599627370496 * 4 := by omega
    have q1 : 18014398509481984 ≤ A * 18014398509481984 / b := le_div_of (by omega) (by rw [Nat.mul_comm]; exact Nat.mul_le_mul_right _ h1)
    have q2 : A * 18014398509481984 / b < 36028797018963968 := div_lt_of (by omega) (by omega)
    have hst : (A * 18014398509481984 % b != 0).toNat ≤ 1 := by cases (A * 18014398509481984 % b != 0) <;> simp
    rw [hq]
    have hL : (2 * (A * 18014398509481984 / b) + (A * 18014398509481984 % b != 0).toNat).log2 = 55 := log2_of (by omega) (by omega)
    rw [nearest_cut _ 55 3 _ (by omega) hL rfl (by omega) (by omega) (by omega)]
    rw [hN] at hL ⊢
    rw [round3 _ b (by omega) (by omega)]
    congr 2
    omega
  · have g1 : b ≤ a * 2 ^ (b.log2 - a.log2 + 1) := by
      have : b * t ≤ a * 2 ^ (b.log2 - a.log2 + 1) * t := by
        rw [← sb, Nat.pow_succ, ← Nat.mul_assoc, Nat.mul_right_comm, ← sa]; omega
      exact Nat.le_of_mul_le_mul_right this ht0
    have g2 : a * 2 ^ (b.log2 - a.log2 + 1) < 2 * b := by
      have : a * 2 ^ (b.log2 - a.log2 + 1) * t < (2 * b) * t := by
        rw [Nat.pow_succ, ← Nat.mul_assoc, Nat.mul_right_comm, ← sa, Nat.mul_assoc, ← sb]; omega
      exact Nat.lt_of_mul_lt_mul_right this
    have ee : e = b.log2 - a.log2 + 1 := Nat.le_antisymm (e_unique g1 h2) (e_unique h1 g2)
    have sa2 : sig a * 2 = a * 2 ^ e * t := by
      rw [ee, Nat.pow_succ, ← Nat.mul_assoc, Nat.mul_right_comm _ 2 t, ← sa]
    generalize hA : a * 2 ^ e = A at *
    have hq : quoMag (sig a) (sig b) = 2 * (A * 9007199254740992 / b) + (A * 9007199254740992 % b != 0).toNat := by
      rw [sb]; exact quoMag_scaled A b t 9007199254740992 ht0 (sig a) (by rw [Nat.mul_right_comm A, ← sa2]; omega)
    have hN : A * 9007199254740992 = A * 4503599627370496 * 2 := by omega
    have q1 : 9007199254740992 ≤ A * 9007199254740992 / b := le_div_of (by omega) (by rw [Nat.mul_comm]; exact Nat.mul_le_mul_right _ h1)
    have q2 : A * 9007199254740992 / b < 18014398509481984 := div_lt_of (by omega) (by omega)
    have hst : (A * 9007199254740992 % b != 0).toNat ≤ 1 := by cases (A * 9007199254740992 % b != 0) <;> simp
    rw [hq]
    have hL : (2 * (A * 9007199254740992 / b) + (A * 9007199254740992 % b != 0).toNat).log2 = 54 := log2_of (by omega) (by omega)
    rw [nearest_cut _ 54 2 _ (by omega) hL rfl (by omega) (by omega) (by omega)]
    rw [hN] at hL ⊢
    rw [round2 _ b (by omega) (by omega)]
    congr 2
    omega
#print axioms share_bits
end Go.Proofs.Ytjfifaooimgbaaa.Flt
