/- Whole numbers as float64, and their quotient: no program in this text. -/
import Derived.Laws.FloatArith
namespace Go.Proofs.Ytjfifaooimgbaaa.Flt
open Ieee

theorem d_binade : double.binade = 4503599627370496 := rfl
theorem d_least : double.leastPlace = -1074 := rfl
theorem d_inf : double.infRung = 9218868437227405312 := rfl
theorem d_sign : double.signWeight = 9223372036854775808 := rfl
theorem d_frac : double.fractionBits = 52 := rfl

theorem log2_bd (n : Nat) (h0 : 0 < n) : 2 ^ n.log2 ≤ n ∧ n < 2 ^ (n.log2 + 1) := ⟨Nat.log2_self_le (by omega), Nat.lt_log2_self⟩
theorem log2_lt (n : Nat) (h0 : 0 < n) (h : n < 9007199254740992) : n.log2 ≤ 52 := by
  have := (Nat.log2_lt (n := n) (k := 53) (by omega)).2 (by simpa using h)
  omega

/-- the significand of n: 53 binary digits. -/
def sig (n : Nat) : Nat := n * 2 ^ (52 - n.log2)
theorem sig_bd (n : Nat) (h0 : 0 < n) (h : n < 9007199254740992) : 4503599627370496 ≤ sig n ∧ sig n < 9007199254740992 := by
  have hl := log2_lt n h0 h
  have hb := log2_bd n h0
  unfold sig
  have e1 : 2 ^ n.log2 * 2 ^ (52 - n.log2) = 4503599627370496 := by
    rw [← Nat.pow_add, show n.log2 + (52 - n.log2) = 52 by omega]
  have e2 : 2 ^ (n.log2 + 1) * 2 ^ (52 - n.log2) = 9007199254740992 := by
    rw [← Nat.pow_add, show n.log2 + 1 + (52 - n.log2) = 53 by omega]
  constructor
  · rw [← e1]; exact Nat.mul_le_mul_right _ hb.1
  · rw [← e2]; exact Nat.mul_lt_mul_of_pos_right hb.2 (Nat.pow_pos (by omega))

theorem cut_none (n : Nat) : Toward.even.cut false n 0 = n := by
  simp [Toward.cut, Nat.mod_one]

theorem nearest_whole (n : Nat) (h0 : 0 < n) (h : n < 9007199254740992) : double.nearest false n 0 = (1022 + n.log2) * 4503599627370496 + sig n := by
  have hl := log2_lt n h0 h
  have hs := sig_bd n h0 h
  unfold Format.nearest
  rw [if_neg (by omega), d_frac, d_least, d_binade, d_inf]
  have e1 : max ((0 : Int) + (n.log2 : Int) - ((52 : Nat) : Int)) (-1074) = (n.log2 : Int) - 52 := by omega
  have e2 : ((0 : Int) - ((n.log2 : Int) - 52)).toNat = 52 - n.log2 := by omega
  have e3 : ((n.log2 : Int) - 52 - 0).toNat = 0 := by omega
  have e4 : ((n.log2 : Int) - 52 - -1074).toNat = 1022 + n.log2 := by omega
  simp only [e1, e2, e3, e4, cut_none]
  have e5 : n <<< (52 - n.log2) = sig n := by rw [Nat.shiftLeft_eq]; rfl
  rw [e5]
  have e6 : (1022 + n.log2) * 4503599627370496 + sig n ≤ 9218868437227405312 := by omega
  rw [Nat.min_eq_left e6]
  rfl

theorem read_whole (n : Nat) (h0 : 0 < n) (h : n < 9007199254740992) : double.read ((1022 + n.log2) * 4503599627370496 + sig n) = .number false (sig n) ((n.log2 : Int) - 52) := by
  have hl := log2_lt n h0 h
  have hs := sig_bd n h0 h
  unfold Format.read
  rw [d_sign, d_binade, d_inf, d_least]
  have e1 : ((1022 + n.log2) * 4503599627370496 + sig n) / 9223372036854775808 = 0 := Nat.div_eq_of_lt (by omega)
  have e2 : ((1022 + n.log2) * 4503599627370496 + sig n) % 9223372036854775808 = (1022 + n.log2) * 4503599627370496 + sig n := Nat.mod_eq_of_lt (by omega)
  have e3 : ((1022 + n.log2) * 4503599627370496 + sig n) % 4503599627370496 = sig n - 4503599627370496 := by omega
  have e4 : ((1022 + n.log2) * 4503599627370496 + sig n) / 4503599627370496 = 1023 + n.log2 := by omega
  simp only [e1, e2, e3, e4]
  rw [if_neg (by omega), if_pos (by omega)]
  have e5 : 4503599627370496 + (sig n - 4503599627370496) = sig n := by omega
  have e6 : (-1074 : Int) + ((1023 + n.log2 - 1 : Nat) : Int) = (n.log2 : Int) - 52 := by omega
  rw [e5, e6]
  rfl

theorem ofInt_whole (n : Nat) (h0 : 0 < n) (h : n < 9007199254740992) : double.read (floatOfInt .f64 (n : Int)) = .number false (sig n) ((n.log2 : Int) - 52) := by
  have e : floatOfInt .f64 (n : Int) = double.nearest false n 0 := by
    show double.write (.number (decide ((n : Int) < 0)) (n : Int).natAbs 0) = _
    rw [decide_eq_false (by omega), Int.natAbs_natCast]; rfl
  rw [e, nearest_whole n h0 h, read_whole n h0 h]
theorem ofInt_zero : double.read (floatOfInt .f64 0) = .number false 0 (-1074) := by kernel_rfl

theorem log2_sig (n : Nat) (h0 : 0 < n) (h : n < 9007199254740992) : (sig n).log2 = 52 := by
  have hs := sig_bd n h0 h
  have h1 := (Nat.log2_lt (n := sig n) (k := 53) (by omega)).2 (by omega)
  have h2 : ¬ (sig n).log2 < 52 := fun hc => by
    have := (Nat.log2_lt (n := sig n) (k := 52) (by omega)).1 hc
    omega
  omega

/-- the quotient's digits: 2 q + (1 where anything is left over). -/
def quoMag (m n : Nat) : Nat := 2 * (m * 18014398509481984 / n) + (m * 18014398509481984 % n != 0).toNat

theorem div_whole (a b : Nat) (ha : 0 < a) (ha' : a < 9007199254740992) (hb : 0 < b) (hb' : b < 9007199254740992) :
    double.div (floatOfInt .f64 (a : Int)) (floatOfInt .f64 (b : Int)) = some (double.nearest false (quoMag (sig a) (sig b)) ((a.log2 : Int) - (b.log2 : Int) - 55)) := by
  unfold Format.div
  rw [ofInt_whole a ha ha', ofInt_whole b hb hb']
  have hs := sig_bd b hb hb'
  unfold Datum.quotient
  simp only []
  rw [if_neg (by omega), log2_sig a ha ha', log2_sig b hb hb', d_frac]
  have e1 : 52 + 2 + 52 - 52 = 54 := by omega
  simp only [e1, Nat.shiftLeft_eq]
  have e2 : (a.log2 : Int) - 52 - ((b.log2 : Int) - 52) - ((54 : Nat) : Int) - 1 = (a.log2 : Int) - (b.log2 : Int) - 55 := by omega
  simp only [Option.map_some, e2]
  rfl

theorem div_zero (b : Nat) (hb : 0 < b) (hb' : b < 9007199254740992) : double.div (floatOfInt .f64 0) (floatOfInt .f64 (b : Int)) = some 0 := by
  unfold Format.div
  rw [ofInt_zero, ofInt_whole b hb hb']
  have hs := sig_bd b hb hb'
  unfold Datum.quotient
  simp only []
  rw [if_neg (by omega)]
  simp [Format.write, Format.nearest, Format.word]
end Go.Proofs.Ytjfifaooimgbaaa.Flt
