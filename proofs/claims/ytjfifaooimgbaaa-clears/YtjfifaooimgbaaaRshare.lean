/- The walk of sealbidref.share. -/
import Derived.Test.YtjfifaooimgbaaaBits
import Derived.Test.YtjfifaooimgbaaaKeep
namespace Go.Proofs.Ytjfifaooimgbaaa
open Go.Shelf Go.RowKit Go.Lib Go.Sort

theorem vint {k : IntKind} {a b : Int} (h : a = b) : Value.int k a = Value.int k b := by rw [h]
theorem half_of (A b q r C : Nat) (hb : 0 < b) (hr : r < 2 * b) (h : A * (C * 2) = 2 * b * q + r) : Flt.halfEven (A * C) b = q + (decide (b < r) || (b == r && q % 2 == 1)).toNat := by
  have h2 : A * C * 2 = 2 * (b * q) + r := by rw [← Nat.mul_assoc, Nat.mul_assoc 2 b q] at h; exact h
  obtain ⟨r2, hr2⟩ : ∃ r2, r = 2 * r2 := ⟨r / 2, by omega⟩
  have h3 : A * C = b * q + r2 := by omega
  have hd : A * C / b = q := by rw [h3, Nat.mul_add_div hb, Nat.div_eq_of_lt (show r2 < b by omega), Nat.add_zero]
  have hm : A * C % b = r2 := by rw [h3, Nat.mul_add_mod, Nat.mod_eq_of_lt (show r2 < b by omega)]
  unfold Flt.halfEven
  rw [hd, hm, hr2]
theorem p53 : (2 : Nat) ^ 53 = 4503599627370496 * 2 := by decide
theorem e_small {a b e : Nat} (ha : 0 < a) (hb : b < 9007199254740992) (h : a * 2 ^ e < 2 * b) : e < 54 := by
  rcases Nat.lt_or_ge e 54 with h1 | h1
  · exact h1
  · exfalso
    have p : 2 ^ 54 ≤ 2 ^ e := Nat.pow_le_pow_right (by omega) h1
    have : 1 * 2 ^ e ≤ a * 2 ^ e := Nat.mul_le_mul_right _ ha
    omega

set_option maxHeartbeats 400000 in
set_option maxRecDepth 100000 in
theorem rshare_any (a b : Nat) (w : World) (ha : 0 < a) (hab : a ≤ b) (hb : b < 9007199254740992) :
    Calls Try.prog 43 #[.int .i64 a, .int .i64 b] w fun e w' => e = .returned (.int .u64 (shareB a b : Nat)) ∧ w' = w := by
  go_enter Try.func43, Try.ntmps43
  go_wp2_with fail
  go_loopg [0, 5] 54 (fun kx s t wq => ∃ e A : Nat, s = .int .i64 A ∧ t = .int .i64 (1023 - (e : Int)) ∧ A < 2 * b ∧ e ≤ 53 ∧ 54 - e ≤ kx ∧ wq = w ∧ Aside (A = a * 2 ^ e))
  case atStart => exact ⟨0, a, rfl, rfl, by omega, by omega, by omega, rfl, (by rw [Nat.pow_zero, Nat.mul_one] : a = a * 2 ^ 0)⟩
  case round =>
    obtain ⟨e, A, rfl, rfl, hA, he, hkx, rfl, EA⟩ := hrel
    by_cases hlt : A < b
    · have hltz : (A : Int) < (b : Int) := by omega
      go_wp2
      go_roundg (54 - (e + 1))
      case measure => omega
      case rel =>
        have e1 : 2 * A = a * 2 ^ (e + 1) := by rw [EA.out, Nat.pow_succ, Nat.mul_comm 2, Nat.mul_assoc]
        have := e_small (e := e + 1) ha hb (by rw [← e1]; omega)
        exact ⟨e + 1, 2 * A, vint (by omega), vint (by omega), by omega, by omega, Nat.le_refl _, rfl, e1⟩
    · have hltz : ¬ (A : Int) < (b : Int) := by omega
      have SB : Aside (shareB a b = (1022 - e) * 4503599627370496 + Flt.halfEven (A * 4503599627370496) b) := by
        have h := Flt.share_bits a b e ha hab hb (by rw [← EA.out]; omega) (by rw [← EA.out]; exact hA)
        rw [← EA.out] at h
        show shareB a b = _
        unfold shareB
        rw [if_neg (by omega), h, Option.getD_some]
      have hA1 : b ≤ A := by omega
      have hn : ((1023 : Int) - e - 1) = ((1022 - e : Nat) : Int) := by omega
      clear EA
      go_wp2_with fail
      go_loopg [0, 6, 7] 53 (fun kx s t u wq => ∃ i q r : Nat, s = .int .i64 r ∧ t = .int .i64 q ∧ u = .int .i64 i ∧ r < 2 * b ∧ i ≤ 53 ∧ 53 - i ≤ kx ∧ wq = wr ∧ Aside (A * 2 ^ i = 2 * b * q + r))
      case atStart => exact ⟨0, 0, A, rfl, rfl, rfl, hA, by omega, by omega, rfl, (by rw [Nat.pow_zero, Nat.mul_one, Nat.mul_zero, Nat.zero_add] : A * 2 ^ 0 = 2 * b * 0 + A)⟩
      case round =>
        obtain ⟨i, q, r, rfl, rfl, rfl, hr, hi, hkx2, rfl, IQ⟩ := hrel
        have hq : q ≤ 9007199254740992 := by
          have h1 : A * 2 ^ i ≤ (2 * b) * 2 ^ i := Nat.mul_le_mul_right _ (by omega)
          have h2 : 2 ^ i ≤ 2 ^ 53 := Nat.pow_le_pow_right (by omega) hi
          have h3 : (2 * b) * q ≤ (2 * b) * 2 ^ i := by rw [IQ.out] at h1; omega
          have h4 := Nat.le_of_mul_le_mul_left h3 (by omega)
          omega
        by_cases hi53 : i < 53
        · have hiz : (i : Int) < 53 := by omega
          have hq2 : q < 9007199254740992 / 2 + 1 := by
            have h1 : A * 2 ^ i ≤ (2 * b) * 2 ^ i := Nat.mul_le_mul_right _ (by omega)
            have h2 : 2 ^ i ≤ 2 ^ 52 := Nat.pow_le_pow_right (by omega) (by omega)
            have h3 : (2 * b) * q ≤ (2 * b) * 2 ^ i := by rw [IQ.out] at h1; omega
            have h4 := Nat.le_of_mul_le_mul_left h3 (by omega)
            omega
          by_cases hge : b ≤ r
          · have hgez : (b : Int) ≤ (r : Int) := by omega
            go_wp2
            go_roundg (53 - (i + 1))
            case measure => omega
            case rel =>
              refine ⟨i + 1, 2 * q + 1, 2 * (r - b), vint (by omega), vint (by omega), vint (by omega), by omega, by omega, Nat.le_refl _, rfl, ?_⟩
              show A * 2 ^ (i + 1) = 2 * b * (2 * q + 1) + 2 * (r - b)
              rw [Nat.pow_succ, ← Nat.mul_assoc, IQ.out]
              rw [Nat.mul_add, ← Nat.mul_assoc, Nat.mul_right_comm (2 * b) 2 q]
              omega
          · have hgez : ¬ (b : Int) ≤ (r : Int) := by omega
            go_wp2
            go_roundg (53 - (i + 1))
            case measure => omega
            case rel =>
              refine ⟨i + 1, 2 * q, 2 * r, vint (by omega), vint (by omega), vint (by omega), by omega, by omega, Nat.le_refl _, rfl, ?_⟩
              show A * 2 ^ (i + 1) = 2 * b * (2 * q) + 2 * r
              rw [Nat.pow_succ, ← Nat.mul_assoc, IQ.out]
              rw [← Nat.mul_assoc, Nat.mul_right_comm (2 * b) 2 q]
              omega
        · have ei : i = 53 := by omega
          subst ei
          have HE : Aside (Flt.halfEven (A * 4503599627370496) b = q + (decide (b < r) || (b == r && q % 2 == 1)).toNat) := by
            have h : A * (4503599627370496 * 2) = 2 * b * q + r := by rw [← p53]; exact IQ.out
            exact half_of A b q r _ (by omega) hr h
          have hq3 : q ≤ 9007199254740992 := hq
          have hi53z : ¬ ((53 : Nat) : Int) < 53 := by omega
          have hm : (q : Int).tmod 2 = ((q % 2 : Nat) : Int) := by rw [Int.tmod_eq_emod_of_nonneg (by omega)]; rfl
          by_cases h1 : b < r
          · have h1z : (b : Int) < (r : Int) := by omega
            have HV : Aside (shareB a b = (1022 - e) * 4503599627370496 + (q + 1)) := by
              show shareB a b = _
              rw [SB.out, HE.out, decide_eq_true h1]; rfl
            clear HE SB IQ
            go_wp2
            go_ret
            refine ⟨ret_int ?_, rfl⟩
            rw [HV.out]
            omega
          · have h1z : ¬ (b : Int) < (r : Int) := by omega
            by_cases h2 : r = b
            · have h2' : b = r := h2.symm
              clear h2
              subst h2'
              by_cases h3 : q % 2 = 1
              · have h3b : (q % 2 == 1) = true := by rw [h3]; rfl
                rw [h3] at hm
                have HV : Aside (shareB a b = (1022 - e) * 4503599627370496 + (q + 1)) := by
                  show shareB a b = _
                  rw [SB.out, HE.out, decide_eq_false h1, beq_self_eq_true, h3b]; rfl
                clear HE SB IQ
                go_wp2
                go_ret
                refine ⟨ret_int ?_, rfl⟩
                rw [HV.out]
                omega
              · have h3' : q % 2 = 0 := by omega
                have h3b : (q % 2 == 1) = false := by rw [h3']; rfl
                rw [h3'] at hm
                have HV : Aside (shareB a b = (1022 - e) * 4503599627370496 + q) := by
                  show shareB a b = _
                  rw [SB.out, HE.out, decide_eq_false h1, beq_self_eq_true, h3b]; rfl
                clear HE SB IQ
                go_wp2
                go_ret
                refine ⟨ret_int ?_, rfl⟩
                rw [HV.out]
                omega
            · have h2b : (b == r) = false := beq_eq_false_iff_ne.2 (fun h => h2 h.symm)
              have h2c : ((r : Int) == (b : Int)) = false := beq_eq_false_iff_ne.2 (by omega)
              have HV : Aside (shareB a b = (1022 - e) * 4503599627370496 + q) := by
                show shareB a b = _
                rw [SB.out, HE.out, decide_eq_false h1, h2b]; rfl
              clear HE SB IQ
              go_wp2
              go_ret
              refine ⟨ret_int ?_, rfl⟩
              rw [HV.out]
              omega
#print axioms rshare_any
end Go.Proofs.Ytjfifaooimgbaaa
