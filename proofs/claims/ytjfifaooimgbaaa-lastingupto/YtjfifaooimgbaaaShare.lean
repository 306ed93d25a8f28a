import Derived.Test.YtjfifaooimgbaaaKeep
import Derived.Test.YtjfifaooimgbaaaTlaw
import Derived.Test.YtjfifaooimgbaaaPost
/- The walk of firsts. -/
namespace Go.Proofs.Ytjfifaooimgbaaa
open Go.Shelf Go.RowKit Go.Lib Go.Sort

/-- is i passed over for k? -/
def passed (l : List (Int × Int)) (fl : List Bool) (i k : Nat) : Prop :=
  rightB (l.getD i (0, 0)) = true ∧ fl.getD i false = false ∧ fl.getD k false = true ∧ (l.getD k (0, 0)).1 = (l.getD i (0, 0)).1 ∧
  (((l.getD i (0, 0)).1 ≠ 1 ∧ ((l.getD i (0, 0)).2 > (l.getD k (0, 0)).2 ∨ ((l.getD i (0, 0)).2 = (l.getD k (0, 0)).2 ∧ i < k))) ∨
   ((l.getD i (0, 0)).1 = 1 ∧ ((l.getD i (0, 0)).2 < (l.getD k (0, 0)).2 ∨ ((l.getD i (0, 0)).2 = (l.getD k (0, 0)).2 ∧ i < k))))

set_option maxHeartbeats 1000000 in
set_option maxRecDepth 100000 in
theorem firsts_any (l : List (Int × Int)) (a : Option Addr) (cap : Nat) (x0 x1 x2 x3 x5 : Int) (F capF : Nat) (fl : List Bool) (w : World) (hB : BidsAt w a l) (hF : BoolsAt w F fl) (hfl : fl.length = l.length) (hl : l.length ≤ 1048576)
    (hno : ∀ i k, i < l.length → k < l.length → ¬ passed l fl i k) (hpr : ∀ i, i < l.length → fl.getD i false = true → 1 ≤ (l.getD i (0, 0)).2 ∧ (l.getD i (0, 0)).2 < 1000) :
    Calls Try.prog 22 #[.slice a l.length cap, .agg #[.int .i64 x0, .int .i64 x1, .int .i64 x2, .int .i64 x3, .slice (some ⟨F, 0, none⟩) l.length capF, .int .u64 x5]] w fun e w' => e = .returned (.bool true) ∧ Gr w w' := by
  have mixed : Try.prog.follows .mixedOrders = true := by kernel_rfl
  have HB : Aside _ := hB
  have HF : Aside _ := hF
  have HN : Aside _ := hno
  have HP : Aside _ := hpr
  clear hB hF hno hpr
  go_enter Try.func22, Try.ntmps22
  go_wp2
  obtain ⟨W0, hW0⟩ : ∃ W0, W0 = w.alloc (Obj.cells #[Value.int IntKind.i64 x0, Value.int IntKind.i64 x1, Value.int IntKind.i64 x2, Value.int IntKind.i64 x3, Value.slice (some ⟨F, 0, none⟩) l.length capF, Value.int IntKind.u64 x5] 26) := ⟨_, rfl⟩
  have G0 : Aside (Gr w W0) := by rw [hW0]; exact (Gr.refl w).alloc _
  have X0 : Aside (w.heap.size < W0.heap.size ∧ W0.cell? ⟨w.heap.size, 4, none⟩ = some (Value.slice (some ⟨F, 0, none⟩) l.length capF)) := by rw [hW0]; exact ⟨by simp, by simp⟩
  rw [← hW0]
  clear hW0
  go_loopg [5] l.length (fun kx s wr => ∃ i : Nat, s = .int .i64 i ∧ i ≤ l.length ∧ l.length - i ≤ kx ∧ Aside (Gr W0 wr))
  case atStart => exact ⟨0, rfl, Nat.zero_le _, by omega, Gr.refl _⟩
  case round =>
    obtain ⟨i, rfl, hi, hkx, G⟩ := hrel
    by_cases hlt : i < l.length
    · have hltz : (i : Int) < (l.length : Int) := by omega
      have GW : Aside (Gr w wr) := G0.out.trans G.out
      obtain ⟨b, o, rfl, hbl, y1, y2⟩ := BidsAt.gr HB.out GW.out i hlt
      obtain ⟨s1, e1⟩ : ∃ x, (l.getD i (0, 0)).1 = x := ⟨_, rfl⟩
      obtain ⟨p1, e2⟩ : ∃ x, (l.getD i (0, 0)).2 = x := ⟨_, rfl⟩
      rw [e1] at y1
      rw [e2] at y2
      have E : Aside ((l.getD i (0, 0)).1 = s1 ∧ (l.getD i (0, 0)).2 = p1) := ⟨e1, e2⟩
      clear e1 e2
      go_wp2_with fail
      refine (right_any s1 p1 wr).mono ?_
      rintro e w2 ⟨rfl, G2a⟩
      have G2 : Aside (Gr W0 w2) := G.out.trans G2a
      have GW2 : Aside (Gr w w2) := G0.out.trans G2.out
      have z1 := Gr.cell G2a hbl y1
      have z2 := Gr.cell G2a hbl y2
      have xc : w2.cell? ⟨w.heap.size, 4, none⟩ = some (Value.slice (some ⟨F, 0, none⟩) l.length capF) := Gr.cell G2.out X0.out.1 X0.out.2
      have FB : Aside (BoolsAt w2 F fl) := (GW2.out.below.block F (BoolsAt.lt HF.out)).trans HF.out
      have BB : Aside (BidsAt w2 (some ⟨b, o, none⟩) l) := BidsAt.gr HB.out GW2.out
      have fi := FB.out.cell (i := i) (by omega)
      obtain ⟨f1, hf1⟩ : ∃ f, fl.getD i false = f := ⟨_, rfl⟩
      rw [hf1] at fi
      have FI : Aside (fl.getD i false = f1) := hf1
      obtain ⟨r1, hr1⟩ : ∃ r, rightB (s1, p1) = r := ⟨_, rfl⟩
      rw [hr1]
      have RI : Aside (rightB (s1, p1) = r1) := hr1
      clear hf1 hr1 y1 y2 G2a GW
      go_wp2_with fail
      go_loopg [7] l.length (fun kx s wq => ∃ k m : Nat, s = .int .i64 k ∧ k ≤ l.length ∧ l.length - k ≤ kx ∧ wq = w2.drewN m)
      case atStart => exact ⟨0, 0, rfl, Nat.zero_le _, by omega, rfl⟩
      case round =>
        obtain ⟨k, m, rfl, hk, hkx2, rfl⟩ := hrel
        have GE : Aside (Gr W0 (w2.drewN m)) := G2.out.drewN m
        have xcm : (w2.drewN m).cell? ⟨w.heap.size, 4, none⟩ = some (Value.slice (some ⟨F, 0, none⟩) l.length capF) := xc
        have fim : (w2.drewN m).cell? ⟨F, i, none⟩ = some (.bool f1) := fi
        by_cases hin : k < l.length ∧ r1 = true ∧ f1 = false
        · obtain ⟨hkl, rfl, rfl⟩ := hin
          have hkz : (k : Int) < (l.length : Int) := by omega
          obtain ⟨b', o', ha, _, u1, u2⟩ := BB.out k hkl
          injection ha with ha; injection ha with q1 q2
          subst q1; subst q2
          have fk := FB.out.cell (i := k) (by omega)
          obtain ⟨s2, e1⟩ : ∃ x, (l.getD k (0, 0)).1 = x := ⟨_, rfl⟩
          obtain ⟨p2, e2⟩ : ∃ x, (l.getD k (0, 0)).2 = x := ⟨_, rfl⟩
          obtain ⟨f2, hf2⟩ : ∃ f, fl.getD k false = f := ⟨_, rfl⟩
          rw [e1] at u1
          rw [e2] at u2
          rw [hf2] at fk
          have K : Aside ((l.getD k (0, 0)).1 = s2 ∧ (l.getD k (0, 0)).2 = p2 ∧ fl.getD k false = f2) := ⟨e1, e2, hf2⟩
          clear e1 e2 hf2
          have a1 : ∀ n, ((w2.drewN m).drewN n).cell? ⟨b, o + i * 2, none⟩ = some (.int .i64 s1) := fun n => z1
          have a2 : ∀ n, ((w2.drewN m).drewN n).cell? ⟨b, o + i * 2 + 1, none⟩ = some (.int .i64 p1) := fun n => z2
          have a3 : ∀ n, ((w2.drewN m).drewN n).cell? ⟨b, o + k * 2, none⟩ = some (.int .i64 s2) := fun n => u1
          have a4 : ∀ n, ((w2.drewN m).drewN n).cell? ⟨b, o + k * 2 + 1, none⟩ = some (.int .i64 p2) := fun n => u2
          have a5 : ∀ n, ((w2.drewN m).drewN n).cell? ⟨F, k, none⟩ = some (.bool f2) := fun n => fk
          have a6 : ∀ n, ((w2.drewN m).drewN n).cell? ⟨w.heap.size, 4, none⟩ = some (Value.slice (some ⟨F, 0, none⟩) l.length capF) := fun n => xc
          have DR : Aside (∀ n, (w2.drewN m).drewN n = w2.drewN (m + n)) := fun n => World.drewN_drewN ..
          generalize hwq : w2.drewN m = wq at a1 a2 a3 a4 a5 a6 DR xcm fim GE ⊢
          clear hwq
          by_cases hf2 : f2 = true
          · subst hf2
            by_cases hs : s2 = s1
            · subst hs
              have hsb : (s2 == s2) = true := by simp
              -- who is filled has a price that may be
              have pr2 := HP.out k hkl K.out.2.2
              rw [K.out.2.1] at pr2
              have pr1 : (1 ≤ p1 ∧ p1 < 1000) := by
                have := RI.out
                simp only [rightB, Bool.and_eq_true, decide_eq_true_eq] at this
                omega
              have NP := HN.out i k hlt hkl
              have ND : Aside (¬ ((s2 ≠ 1 ∧ (p1 > p2 ∨ (p1 = p2 ∧ i < k))) ∨ (s2 = 1 ∧ (p1 < p2 ∨ (p1 = p2 ∧ i < k))))) := fun h => NP ⟨by
                  have : l.getD i (0, 0) = (s2, p1) := Prod.ext E.out.1 E.out.2
                  rw [this]; exact RI.out, FI.out, K.out.2.2, by rw [K.out.1, E.out.1], by rw [E.out.1, E.out.2, K.out.2.1]; exact h⟩
              clear NP
              have wr1 : IntKind.i64.wrap (p1 - p2) = p1 - p2 := by rw [IntKind.wrap_i64]; omega
              have wr2 : IntKind.i64.wrap (-(p1 - p2)) = -(p1 - p2) := by rw [IntKind.wrap_i64]; omega
              go_wp2_with fail
              go_quiet (fail)
              have b1 : ∀ n, ((wq.drewN nq).drewN n).cell? ⟨b, o + i * 2, none⟩ = some (.int .i64 s2) := fun n => by rw [World.drewN_drewN]; exact a1 _
              have b2 : ∀ n, ((wq.drewN nq).drewN n).cell? ⟨b, o + i * 2 + 1, none⟩ = some (.int .i64 p1) := fun n => by rw [World.drewN_drewN]; exact a2 _
              have b4 : ∀ n, ((wq.drewN nq).drewN n).cell? ⟨b, o + k * 2 + 1, none⟩ = some (.int .i64 p2) := fun n => by rw [World.drewN_drewN]; exact a4 _
              obtain ⟨m1, hm1⟩ : ∃ m1, m1 = nq := ⟨_, rfl⟩
              have DR2 : Aside (∀ n, (wq.drewN nq).drewN n = w2.drewN (m + (m1 + n))) := fun n => by rw [World.drewN_drewN, hm1]; exact DR.out _
              clear hm1
              clear a1 a2 a3 a4 a5 a6 DR xcm fim GE
              generalize wq.drewN nq = wq2 at b1 b2 b4 DR2 ⊢
              clear nq
              go_wp2_with fail
              go_quiet (fail)
              by_cases hs1 : s2 = 1
              · subst hs1
                by_cases hpe : p1 = p2
                · subst hpe
                  have hik : ¬ i < k := by have := ND.out; omega
                  have hikz : ¬ (i : Int) < (k : Int) := by omega
                  clear ND
                  go_wp2
                  go_roundg (l.length - (k + 1))
                  case measure => omega
                  case rel => exact ⟨k + 1, _, by go_num, by omega, Nat.le_refl _, DR2.out nq⟩
                · have hnz : ((-(p1 - p2)) == 0) = false := beq_eq_false_iff_ne.2 (by omega)
                  have hng : ¬ 0 < (-(p1 - p2)) := by have := ND.out; omega
                  clear ND
                  go_wp2
                  go_roundg (l.length - (k + 1))
                  case measure => omega
                  case rel => exact ⟨k + 1, _, by go_num, by omega, Nat.le_refl _, DR2.out nq⟩
              · have hs1b : (s2 == 1) = false := beq_eq_false_iff_ne.2 hs1
                by_cases hpe : p1 = p2
                · subst hpe
                  have hik : ¬ i < k := by have := ND.out; omega
                  have hikz : ¬ (i : Int) < (k : Int) := by omega
                  clear ND
                  go_wp2
                  go_roundg (l.length - (k + 1))
                  case measure => omega
                  case rel => exact ⟨k + 1, _, by go_num, by omega, Nat.le_refl _, DR2.out nq⟩
                · have hnz : ((p1 - p2) == 0) = false := beq_eq_false_iff_ne.2 (by omega)
                  have hng : ¬ 0 < (p1 - p2) := by have := ND.out; omega
                  clear ND
                  go_wp2
                  go_roundg (l.length - (k + 1))
                  case measure => omega
                  case rel => exact ⟨k + 1, _, by go_num, by omega, Nat.le_refl _, DR2.out nq⟩
            · have hsb : (s2 == s1) = false := beq_eq_false_iff_ne.2 hs
              go_wp2_with fail
              go_quiet (fail)
              go_wp2
              go_roundg (l.length - (k + 1))
              case measure => omega
              case rel => exact ⟨k + 1, _, by go_num, by omega, Nat.le_refl _, DR.out nq⟩
          · have hf2' : f2 = false := by simpa using hf2
            subst hf2'
            go_wp2_with fail
            go_quiet (fail)
            go_wp2
            go_roundg (l.length - (k + 1))
            case measure => omega
            case rel => exact ⟨k + 1, _, by go_num, by omega, Nat.le_refl _, DR.out nq⟩
        · -- the inner loop ends
          generalize w2.drewN m = wq at xcm fim GE ⊢
          by_cases hkl : k < l.length
          · have hkz : (k : Int) < (l.length : Int) := by omega
            cases r1 with
            | false =>
              go_wp2
              go_roundg (l.length - (i + 1))
              case measure => omega
              case rel => exact ⟨i + 1, by go_num, by omega, Nat.le_refl _, GE⟩
            | true =>
              cases f1 with
              | false => exact absurd ⟨hkl, rfl, rfl⟩ hin
              | true =>
                go_wp2
                go_roundg (l.length - (i + 1))
                case measure => omega
                case rel => exact ⟨i + 1, by go_num, by omega, Nat.le_refl _, GE⟩
          · have hkz : ¬ (k : Int) < (l.length : Int) := by omega
            go_wp2
            go_roundg (l.length - (i + 1))
            case measure => omega
            case rel => exact ⟨i + 1, by go_num, by omega, Nat.le_refl _, GE⟩
    · have hltz : ¬ (i : Int) < (l.length : Int) := by omega
      go_wp2
      go_ret
      exact ⟨rfl, G0.out.trans G.out⟩
#print axioms firsts_any
end Go.Proofs.Ytjfifaooimgbaaa
/- When a share is one, when it is nought: no program in this text. -/
namespace Go.Proofs.Ytjfifaooimgbaaa.Flt
open Ieee

theorem cut_le (n drop : Nat) (k : Nat) (hk : drop ≤ n.log2 + 2) (h : n / 2 ^ drop ≤ k) : Toward.even.cut false n drop ≤ k + 1 ∧ n / 2 ^ drop ≤ Toward.even.cut false n drop := by
  have h2 : ∃ bb : Bool, Toward.even.cut false n drop = n / 2 ^ drop + bb.toNat := by
    unfold Toward.cut
    rw [Nat.min_eq_left hk, Nat.shiftLeft_eq, Nat.one_mul]
    exact ⟨_, rfl⟩
  obtain ⟨bb, hb⟩ := h2
  rw [hb]
  cases bb <;> simp <;> omega

/-- the word of a magnitude of L + 1 digits at a place. -/
theorem nearest_word (mag L drop : Nat) (place : Int) (h0 : 0 < mag) (hL : mag.log2 = L) (hd : L = 52 + drop) (hp : -1000 ≤ place) (hp2 : place + (L : Int) ≤ 100) (kmax : Nat) (hk : mag / 2 ^ drop ≤ kmax) (hkm : kmax < 9007199254740992) :
    ∃ kept, kept ≤ kmax + 1 ∧ mag / 2 ^ drop ≤ kept ∧ double.nearest false mag place = (place + (drop : Int) + 1074).toNat * 4503599627370496 + kept := by
  have hc := cut_le mag drop kmax (by omega) hk
  refine ⟨Toward.even.cut false mag drop, hc.1, hc.2, ?_⟩
  unfold Format.nearest
  rw [if_neg (by omega), d_frac, d_least, d_binade, d_inf, hL]
  have e1 : max (place + (L : Int) - ((52 : Nat) : Int)) (-1074) = place + (drop : Int) := by omega
  have e2 : (place - (place + (drop : Int))).toNat = 0 := by omega
  have e3 : (place + (drop : Int) - place).toNat = drop := by omega
  have e4 : (place + (drop : Int) - -1074).toNat = (place + (drop : Int) + 1074).toNat := by omega
  simp only [e1, e2, e3, e4, Nat.shiftLeft_zero]
  rw [Nat.min_eq_left (by have := hc.1; omega)]
  rfl

theorem div_lt_of {x n k : Nat} (hn : 0 < n) (h : x < k * n) : x / n < k := (Nat.div_lt_iff_lt_mul hn).2 h
theorem le_div_of {x n k : Nat} (hn : 0 < n) (h : k * n ≤ x) : k ≤ x / n := (Nat.le_div_iff_mul_le hn).2 h

theorem log2_of {n k : Nat} (h1 : 2 ^ k ≤ n) (h2 : n < 2 ^ (k + 1)) : n.log2 = k := by
  have h0 : n ≠ 0 := by
    intro e; subst e
    have := Nat.pow_pos (n := k) (show 0 < 2 by omega)
    omega
  have a := (Nat.log2_lt h0 (k := k + 1)).2 h2
  have b : ¬ n.log2 < k := fun hc => by
    have := (Nat.log2_lt h0 (k := k)).1 hc
    omega
  omega

theorem share_lt (a b : Nat) (ha : 0 < a) (hab : a < b) (hb : b < 9007199254740992) :
    ∃ r, double.div (floatOfInt .f64 (a : Int)) (floatOfInt .f64 (b : Int)) = some r ∧ 0 < r ∧ r < 4607182418800017408 := by
  refine ⟨_, div_whole a b ha (by omega) (by omega) hb, ?_⟩
  have ma := sig_bd a ha (by omega)
  have mb := sig_bd b (by omega) hb
  have la := log2_lt a ha (by omega)
  have lb := log2_lt b (by omega) hb
  have hlog : a.log2 ≤ b.log2 := by
    have h1 := log2_bd a ha
    have h2 := log2_bd b (by omega)
    rcases Nat.lt_or_ge b.log2 a.log2 with h | h
    · exfalso
      have : 2 ^ (b.log2 + 1) ≤ 2 ^ a.log2 := Nat.pow_le_pow_right (by omega) h
      omega
    · exact h
  -- the digits
  obtain ⟨Q, hQ⟩ : ∃ Q, Q = sig a * 18014398509481984 / sig b := ⟨_, rfl⟩
  have hst : (sig a * 18014398509481984 % sig b != 0).toNat ≤ 1 := by cases (sig a * 18014398509481984 % sig b != 0) <;> simp
  have hmag : quoMag (sig a) (sig b) = 2 * Q + (sig a * 18014398509481984 % sig b != 0).toNat := by unfold quoMag; rw [hQ]
  generalize (sig a * 18014398509481984 % sig b != 0).toNat = st at hst hmag
  have q1 : 9007199254740992 ≤ Q := by rw [hQ]; exact le_div_of (by omega) (by omega)
  have q2 : Q < 36028797018963968 := by rw [hQ]; exact div_lt_of (by omega) (by omega)
  rw [hmag]
  by_cases h55 : 18014398509481984 ≤ Q
  · -- 56 digits
    have hL : (2 * Q + st).log2 = 55 := log2_of (by omega) (by omega)
    by_cases he : a.log2 + 1 = b.log2
    · -- just below one: it does not round up
      have hs2 : sig a + 2 ≤ 2 * sig b := by
        have e1 : sig a = a * 2 ^ (52 - a.log2) := rfl
        have e2 : 2 * sig b = b * 2 ^ (52 - a.log2) := by
          unfold sig
          rw [show 52 - a.log2 = (52 - b.log2) + 1 by omega, Nat.pow_succ]
          rw [Nat.mul_comm 2, Nat.mul_assoc]
        have hp : 2 ≤ 2 ^ (52 - a.log2) := by
          have : 2 ^ 1 ≤ 2 ^ (52 - a.log2) := Nat.pow_le_pow_right (by omega) (by omega)
          simpa using this
        have hm : a * 2 ^ (52 - a.log2) + 2 ^ (52 - a.log2) ≤ b * 2 ^ (52 - a.log2) := by
          rw [← Nat.succ_mul]; exact Nat.mul_le_mul_right _ hab
        rw [e1, e2]; omega
      have q3 : Q < 36028797018963964 := by rw [hQ]; exact div_lt_of (by omega) (by omega)
      obtain ⟨kept, k1, k2, e⟩ := nearest_word (2 * Q + st) 55 3 ((a.log2 : Int) - (b.log2 : Int) - 55) (by omega) hL rfl (by omega) (by omega) 9007199254740990 (by have : (2 * Q + st) / 2 ^ 3 = (2 * Q + st) / 8 := rfl; omega) (by omega)
      rw [e]
      have e5 : ((a.log2 : Int) - (b.log2 : Int) - 55 + ((3 : Nat) : Int) + 1074).toNat = 1021 := by omega
      rw [e5]; omega
    · have hne : a.log2 ≠ b.log2 := fun h => by
        have hm : sig a < sig b := by
          unfold sig; rw [h]; exact Nat.mul_lt_mul_of_pos_right hab (Nat.pow_pos (by omega))
        have : Q < 18014398509481984 := by rw [hQ]; exact div_lt_of (by omega) (by omega)
        omega
      obtain ⟨kept, k1, k2, e⟩ := nearest_word (2 * Q + st) 55 3 ((a.log2 : Int) - (b.log2 : Int) - 55) (by omega) hL rfl (by omega) (by omega) 9007199254740991 (by have : (2 * Q + st) / 2 ^ 3 = (2 * Q + st) / 8 := rfl; omega) (by omega)
      rw [e]
      have e5 : ((a.log2 : Int) - (b.log2 : Int) - 55 + ((3 : Nat) : Int) + 1074).toNat ≤ 1020 := by omega
      have e6 : 1 ≤ ((a.log2 : Int) - (b.log2 : Int) - 55 + ((3 : Nat) : Int) + 1074).toNat := by omega
      generalize ((a.log2 : Int) - (b.log2 : Int) - 55 + ((3 : Nat) : Int) + 1074).toNat = z at e5 e6
      omega
  · have hL : (2 * Q + st).log2 = 54 := log2_of (by omega) (by omega)
    by_cases he : a.log2 = b.log2
    · have hm : sig a + 1 ≤ sig b := by
        unfold sig; rw [he]; exact Nat.mul_lt_mul_of_pos_right hab (Nat.pow_pos (by omega))
      have q3 : Q < 18014398509481982 := by rw [hQ]; exact div_lt_of (by omega) (by omega)
      obtain ⟨kept, k1, k2, e⟩ := nearest_word (2 * Q + st) 54 2 ((a.log2 : Int) - (b.log2 : Int) - 55) (by omega) hL rfl (by omega) (by omega) 9007199254740990 (by have : (2 * Q + st) / 2 ^ 2 = (2 * Q + st) / 4 := rfl; omega) (by omega)
      rw [e]
      have e5 : ((a.log2 : Int) - (b.log2 : Int) - 55 + ((2 : Nat) : Int) + 1074).toNat = 1021 := by omega
      rw [e5]; omega
    · obtain ⟨kept, k1, k2, e⟩ := nearest_word (2 * Q + st) 54 2 ((a.log2 : Int) - (b.log2 : Int) - 55) (by omega) hL rfl (by omega) (by omega) 9007199254740991 (by have : (2 * Q + st) / 2 ^ 2 = (2 * Q + st) / 4 := rfl; omega) (by omega)
      rw [e]
      have e5 : ((a.log2 : Int) - (b.log2 : Int) - 55 + ((2 : Nat) : Int) + 1074).toNat ≤ 1020 := by omega
      have e6 : 1 ≤ ((a.log2 : Int) - (b.log2 : Int) - 55 + ((2 : Nat) : Int) + 1074).toNat := by omega
      generalize ((a.log2 : Int) - (b.log2 : Int) - 55 + ((2 : Nat) : Int) + 1074).toNat = z at e5 e6
      omega

theorem share_eq (a : Nat) (ha : 0 < a) (hb : a < 9007199254740992) : double.div (floatOfInt .f64 (a : Int)) (floatOfInt .f64 (a : Int)) = some 4607182418800017408 := by
  rw [div_whole a a ha hb ha hb]
  have mb := sig_bd a ha hb
  have e : quoMag (sig a) (sig a) = 36028797018963968 := by
    unfold quoMag
    rw [Nat.mul_comm (sig a), Nat.mul_div_cancel _ (by omega), Nat.mul_mod_left]
    rfl
  have e2 : double.nearest false 36028797018963968 (-55) = 4607182418800017408 := by kernel_rfl
  rw [e, show ((a.log2 : Int) - (a.log2 : Int) - 55) = -55 by omega, e2]
#print axioms share_lt
#print axioms share_eq
end Go.Proofs.Ytjfifaooimgbaaa.Flt
