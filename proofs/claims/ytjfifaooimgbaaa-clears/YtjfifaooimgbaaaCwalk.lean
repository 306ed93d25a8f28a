/- The walk of Clears. -/
import Derived.Test.YtjfifaooimgbaaaCw
import Derived.Test.YtjfifaooimgbaaaRclear
namespace Go.Proofs.Ytjfifaooimgbaaa
open Go.Shelf Go.RowKit Go.Lib Go.Sort

set_option maxHeartbeats 4000000 in
set_option maxRecDepth 100000 in
theorem clears_any (l : List (Int × Int)) (a : Option Addr) (cap : Nat) (again : Int) (w : World) (hB : BidsAt w a l) (hl : l.length ≤ 8796093022208) (h1 : -9223372036854775808 ≤ again) (h2 : again ≤ 9223372036854775807) :
    Calls Try.prog 3 #[.slice a l.length cap, .int .i64 again] w fun e w' => e = .returned (.bool true) ∧ Below w.heap.size w w' := by
  have mixed : Try.prog.follows .mixedOrders = true := by kernel_rfl
  have HB : Aside (BidsAt w a l) := hB
  clear hB
  go_enter Try.func3, Try.ntmps3
  go_wp2_with fail
  obtain ⟨W0, hW0⟩ : ∃ W0, W0 = w.alloc (Obj.cells #[Value.int IntKind.i64 0, Value.int IntKind.i64 9, Value.int IntKind.i64 0, Value.int IntKind.i64 8, Value.int IntKind.i64 1, Value.int IntKind.i64 3, Value.int IntKind.i64 1, Value.int IntKind.i64 7] 29) := ⟨_, rfl⟩
  have hb : BidsAt W0 (some ⟨w.heap.size, 0, none⟩) l1 := by
    intro i hi
    have hi' : i < 4 := hi
    refine ⟨w.heap.size, 0, rfl, by rw [hW0]; simp, ?_, ?_⟩
    · rw [hW0]
      match i, hi' with
      | 0, _ => simp [l1]
      | 1, _ => simp [l1]
      | 2, _ => simp [l1]
      | 3, _ => simp [l1]
    · rw [hW0]
      match i, hi' with
      | 0, _ => simp [l1]
      | 1, _ => simp [l1]
      | 2, _ => simp [l1]
      | 3, _ => simp [l1]
  have B0 : Aside (Below w.heap.size w W0) := by rw [hW0]; exact below_alloc _ _
  rw [← hW0]
  clear hW0
  have hc := clear_any l1 (some ⟨w.heap.size, 0, none⟩) 4 W0 hb (by decide)
  rw [l1_k, l1_set, l1_share, l1_filled, show l1.length = 4 from rfl] at hc
  refine hc.mono ?_
  clear hc hb
  rintro e w1 ⟨F, rfl, FL, hF, B1⟩
  have FL1 : Aside _ := FL
  have BB1 : Aside (Below w.heap.size w w1) := B0.out.trans (B1.mono B0.out.size)
  clear FL B1 B0 hF
  go_wp2_with fail
  obtain ⟨W1, hW1⟩ : ∃ W1, W1 = (w1.alloc (Obj.cells #[Value.int IntKind.i64 2, Value.int IntKind.i64 1, Value.int IntKind.i64 8, Value.int IntKind.i64 7, Value.slice (some ⟨F, 0, none⟩) 4 4, Value.int IntKind.u64 4605895676049340123] 26)).alloc (Obj.cells #[Value.bool true, Value.bool false, Value.bool true, Value.bool false] 4) := ⟨_, rfl⟩
  have FS : BsAt W1 (some ⟨F, 0, none⟩) [true, false, true, false] := by rw [hW1]; exact ((BsAt.of FL1.out).up (below_alloc _ _)).up (below_alloc _ _)
  have FN : BsAt W1 (some ⟨w1.heap.size + 1, 0, none⟩) [true, false, true, false] := BsAt.of (by
    rw [hW1]
    show ((w1.heap.push _).push _)[w1.heap.size + 1]? = _
    rw [Array.getElem?_push, if_pos (by simp)]
    rfl)
  have BW1 : Aside (Below w.heap.size w W1) := by rw [hW1]; exact (BB1.out.alloc BB1.out.size _).alloc (Nat.le_trans BB1.out.size (by simp)) _
  rw [← hW1]
  have hs := sameO_true 2 1 8 7 4605895676049340123 [true, false, true, false] (some ⟨F, 0, none⟩) (some ⟨w1.heap.size + 1, 0, none⟩) 4 4 W1 FS FN (by decide)
  clear FS FN hW1 FL1 BB1
  rw [show ([true, false, true, false] : List Bool).length = 4 from rfl] at hs
  refine hs.mono ?_
  clear hs
  rintro e w2 ⟨rfl, G2⟩
  have B2 : Aside (Below w.heap.size w w2) := BW1.out.trans (G2.below.mono BW1.out.size)
  clear BW1 G2
  go_wp2_with fail
  refine (rclear_any l a cap w2 (BidsAt.up HB.out B2.out) hl).mono ?_
  rintro e w3 ⟨F2, rfl, FL2, hF2, B3⟩
  have FL3 : Aside _ := FL2
  have B3w : Aside (Below w.heap.size w w3) := B2.out.trans (B3.mono B2.out.size)
  clear FL2 B3 B2 hF2
  go_wp2_with fail
  obtain ⟨W3, hW3⟩ : ∃ W3, W3 = w3.alloc (Obj.cells #[Value.int IntKind.i64 (kL l), Value.int IntKind.i64 (setL l).1, Value.int IntKind.i64 (setL l).2.1, Value.int IntKind.i64 (setL l).2.2, Value.slice (some ⟨F2, 0, none⟩) l.length l.length, Value.int IntKind.u64 (shareL l)] 26) := ⟨_, rfl⟩
  have X3 : Aside (OutAt W3 w3.heap.size l F2) := by rw [hW3]; exact out_made FL3.out
  have hX : W3.heap.size = w3.heap.size + 1 := by rw [hW3]; simp
  have B3x : Aside (Below w.heap.size w W3) := by rw [hW3]; exact B3w.out.alloc B3w.out.size _
  rw [← hW3, ← hX]
  generalize w3.heap.size = XW at X3
  clear hW3 hX FL3 B3w
  obtain ⟨W4, hW4⟩ : ∃ W4, W4 = W3.alloc (Obj.cells #[Value.slice none 0 0, Value.slice none 0 0, Value.int IntKind.i64 0] 34) := ⟨_, rfl⟩
  have K4 : Aside (BookOk W4 W3.heap.size W3.heap.size (.slice none 0 0) (.slice none 0 0) [] 0) := by rw [hW4]; exact book_start W3
  have b4 : Below W3.heap.size W3 W4 := by rw [hW4]; exact below_alloc _ _
  have X4 : Aside (OutAt W4 XW l F2) := X3.out.up b4
  have L4 : Aside (XW < W3.heap.size ∧ F2 < W3.heap.size ∧ w.heap.size ≤ W3.heap.size) := ⟨X3.out.1, X3.out.2.2.2.2.2.2.2.lt, B3x.out.size⟩
  have B4 : Aside (Below w.heap.size w W4) := B3x.out.trans (b4.mono B3x.out.size)
  have s4 : Aside (W3.heap.size ≤ W4.heap.size) := b4.size
  rw [← hW4]
  clear hW4 b4 X3 B3x
  generalize W3.heap.size = X at K4 L4 s4 ⊢
  have hp := pickN_lt again 20 (by decide)
  have HPK : Aside (∀ W, Calls Try.prog 16 #[.int .i64 again, .int .i64 20] W fun e w' => e = .returned (.int .i64 (pickN again 20 : Nat)) ∧ w' = W) := fun W => pickL_any again 20 W (by decide) (by decide) h1 h2
  generalize pickN again 20 = N at hp HPK
  go_loopg [9] (N + 2) (fun kx s wq => ∃ (i : Nat) (vL vW : Value) (es : List Ent), s = .int .i64 i ∧ i ≤ N + 2 ∧ N + 2 - i ≤ kx ∧ Aside (BookOk wq X X vL vW es (i : Int)) ∧ Aside (es.length = 4 * i) ∧ Aside (Below X W4 wq))
  case atStart => exact ⟨0, _, _, [], rfl, Nat.zero_le _, by omega, K4, rfl, Below.refl _ _⟩
  case round =>
    obtain ⟨i, vL, vW, es, rfl, hi, hkx, BK, LE, BX⟩ := hrel
    have BWr : Aside (Below w.heap.size w wr) := B4.out.trans (BX.out.mono L4.out.2.2)
    obtain ⟨U0, rfl⟩ : ∃ U0, U0 = wr := ⟨_, rfl⟩
    go_wp2_with fail
    refine (HPK.out U0).mono ?_
    rintro e w' ⟨rfl, hw'⟩
    rw [hw']
    clear hw' w'
    by_cases hlt : i < N + 2
    · have hltz : (i : Int) < 2 + (N : Int) := by omega
      obtain ⟨n8, hn8⟩ : ∃ n8, n8 = l.length + 8 := ⟨_, rfl⟩
      have OB : Aside (BidsAt U0 a l) := BidsAt.up HB.out BWr.out
      obtain ⟨U1, U2, f0, hmk, hcp, RF, hf, BU⟩ := made_in U0 a cap n8 l OB.out hl hn8
      have R2 : Aside _ := RF
      have HF2 : Aside _ := hf
      have B2 : Aside _ := BU
      have hn : l.length ≤ n8 ∧ n8 ≤ 8796093022216 := by omega
      have HN : Aside (n8 = l.length + 8) := hn8
      clear RF hf BU hn8 K4
      go_wp2_with fail
      clear hmk hcp
      go_loopg [11] 8 (fun kx s wq => ∃ (k : Nat) (f : Nat → Int × Int), s = .int .i64 k ∧ l.length ≤ k ∧ k ≤ n8 ∧ n8 - k ≤ kx ∧ Aside (RowF wq U0.heap.size n8 f) ∧ Aside (∀ j, j < l.length → f j = l.getD j (0, 0)) ∧ Aside (∀ j, l.length ≤ j → j < k → f j = (-77, 0)) ∧ Aside (Below U0.heap.size U0 wq))
      case atStart => exact ⟨l.length, f0, rfl, Nat.le_refl _, hn.1, by have := HN.out; omega, R2, HF2, fun j q1 q2 => absurd q1 (by omega), B2⟩
      case round =>
        obtain ⟨k, f, rfl, hk1, hk2, hkxA, RA, fA, fB, BA⟩ := hrel
        by_cases hkl : k < n8
        · have hz : (k : Int) < (n8 : Int) := by omega
          have c1 := RA.out.at1 hkl
          have c2 := RA.out.at2 hkl
          have z1 := RA.out.frozen (k * 2)
          have z2 := RA.out.frozen (k * 2 + 1)
          go_wp2
          go_roundg (n8 - (k + 1))
          case measure => omega
          case rel =>
            refine ⟨k + 1, _, by go_num, by omega, by omega, Nat.le_refl _, RA.out.set (k := k) (-77) 0, fun j hj => ?_, fun j q1 q2 => ?_, ?_⟩
            · rw [if_neg (by omega)]; exact fA.out j hj
            · by_cases hjk : j = k
              · rw [if_pos hjk]
              · rw [if_neg hjk]; exact fB.out j q1 (by omega)
            · exact (BA.out.setCell (p := ⟨U0.heap.size, k * 2, none⟩) (Nat.le_refl _) _).setCell (p := ⟨U0.heap.size, k * 2 + 1, none⟩) (Nat.le_refl _) _
        · have hz : ¬ (k : Int) < (n8 : Int) := by omega
          have ekn : n8 = k := by omega
          subst ekn
          obtain ⟨U3, rfl⟩ : ∃ U3, U3 = wr := ⟨_, rfl⟩
          go_wp2_with fail
          refine (clear_any l (some ⟨U0.heap.size, 0, none⟩) n8 U3 (RA.out.bids hn.1 fA.out) hl).mono ?_
          rintro e w6 ⟨F6, rfl, FL6, hF6, B6⟩
          obtain ⟨U4, hU4⟩ : ∃ U4, U4 = w6.alloc (Obj.cells #[Value.int IntKind.i64 (kL l), Value.int IntKind.i64 (setL l).1, Value.int IntKind.i64 (setL l).2.1, Value.int IntKind.i64 (setL l).2.2, Value.slice (some ⟨F6, 0, none⟩) l.length l.length, Value.int IntKind.u64 (shareL l)] 26) := ⟨_, rfl⟩
          have X6 : Aside (OutAt U4 w6.heap.size l F6) := by rw [hU4]; exact out_made FL6
          have K6 : Below U3.heap.size U3 U4 := by rw [hU4]; exact B6.alloc B6.size _
          have gU3 : U0.heap.size < U3.heap.size := RA.out.lt
          have R4 : Aside (RowF U4 U0.heap.size n8 f) := RA.out.to (K6.block _ gU3)
          have B4U : Aside (Below U0.heap.size U0 U4) := BA.out.trans (K6.mono BA.out.size)
          have BWU : Aside (Below w.heap.size w U4) := BWr.out.trans (B4U.out.mono BWr.out.size)
          have SZ : Aside (U0.heap.size < F6 ∧ U0.heap.size < w6.heap.size) := ⟨by omega, by have := B6.size; omega⟩
          have HU4 : Aside _ := hU4
          clear hU4 FL6 hF6 B6 K6 gU3 RA BA
          go_wp2_with fail
          rw [← HU4.out]
          generalize w6.heap.size = XO at X6 SZ ⊢
          clear HU4
          go_loopg [13, 14] n8 (fun kx s t wq => ∃ (k : Nat) (f : Nat → Int × Int), s = .bool true ∧ t = .int .i64 k ∧ k ≤ n8 ∧ n8 - k ≤ kx ∧ Aside (RowF wq U0.heap.size n8 f) ∧ Aside (∀ j, k ≤ j → j < l.length → f j = l.getD j (0, 0)) ∧ Aside (∀ j, k ≤ j → l.length ≤ j → j < n8 → f j = (-77, 0)) ∧ Aside (U4.grownBy wq (some U0.heap.size)))
          case atStart => exact ⟨0, f, rfl, rfl, Nat.zero_le _, by omega, R4, fun j _ hj => fA.out j hj, fun j _ q1 q2 => fB.out j q1 q2, gb_refl _ _⟩
          case round =>
            obtain ⟨k, f', rfl, rfl, hk, hkxB, RB, fC, fD, GB⟩ := hrel
            by_cases hkl : k < n8
            · have hz : (k : Int) < (n8 : Int) := by omega
              have c1 := RB.out.at1 hkl
              have c2 := RB.out.at2 hkl
              by_cases hkll : k < l.length
              · have hkz : (k : Int) < (l.length : Int) := by omega
                have hd : decide ((k : Int) < (l.length : Int)) = true := decide_eq_true hkz
                have OBk : BidsAt wr a l := BidsAt.up HB.out (BWU.out.grown GB.out BWU.out.size (fun g hg => by
                  injection hg with hg
                  have := BWr.out.size
                  omega))
                obtain ⟨b, o, rfl, hb, v1, v2⟩ := OBk k hkll
                rw [fC.out k (Nat.le_refl _) hkll] at c1 c2
                obtain ⟨p1, e1⟩ : ∃ x, (l.getD k (0, 0)).1 = x := ⟨_, rfl⟩
                obtain ⟨p2, e2⟩ : ∃ x, (l.getD k (0, 0)).2 = x := ⟨_, rfl⟩
                rw [e1] at c1 v1
                rw [e2] at c2 v2
                clear e1 e2 OBk hb
                have x1 : ∀ q, (wr.drewN q).cell? ⟨U0.heap.size, k * 2, none⟩ = some (.int .i64 p1) := fun q => c1
                have x2 : ∀ q, (wr.drewN q).cell? ⟨U0.heap.size, k * 2 + 1, none⟩ = some (.int .i64 p2) := fun q => c2
                have x3 : ∀ q, (wr.drewN q).cell? ⟨b, o + k * 2, none⟩ = some (.int .i64 p1) := fun q => v1
                have x4 : ∀ q, (wr.drewN q).cell? ⟨b, o + k * 2 + 1, none⟩ = some (.int .i64 p2) := fun q => v2
                have y1 : ∀ q, (wr.drewN q).frozen? ⟨U0.heap.size, k * 2, none⟩ = false := fun q => RB.out.frozen _
                have y2 : ∀ q, (wr.drewN q).frozen? ⟨U0.heap.size, k * 2 + 1, none⟩ = false := fun q => RB.out.frozen _
                clear c1 c2 v1 v2
                go_wp2_with fail
                go_quiet (fail)
                go_wp2
                go_roundg (n8 - (k + 1))
                case measure => omega
                case rel =>
                  refine ⟨k + 1, _, rfl, by go_num, by omega, Nat.le_refl _, RowF.set (k := k) (RB.out.to (w' := wr.drewN nq) rfl) _ _, fun j q1 q2 => ?_, fun j q1 q2 q3 => ?_, ?_⟩
                  · rw [if_neg (by omega)]; exact fC.out j (by omega) q2
                  · rw [if_neg (by omega)]; exact fD.out j (by omega) q2 q3
                  · exact gb_set (gb_set (b := wr.drewN nq) ⟨GB.out.os, GB.out.tape, GB.out.output, GB.out.size, GB.out.block⟩ _ _) _ _
              · have hkz : ¬ (k : Int) < (l.length : Int) := by omega
                have hd : decide ((k : Int) < (l.length : Int)) = false := decide_eq_false hkz
                have hd2 : decide ((l.length : Int) ≤ (k : Int)) = true := decide_eq_true (by omega)
                rw [fD.out k (Nat.le_refl _) (by omega) hkl] at c1 c2
                have x1 : ∀ q, (wr.drewN q).cell? ⟨U0.heap.size, k * 2, none⟩ = some (.int .i64 (-77)) := fun q => c1
                have x2 : ∀ q, (wr.drewN q).cell? ⟨U0.heap.size, k * 2 + 1, none⟩ = some (.int .i64 0) := fun q => c2
                have y1 : ∀ q, (wr.drewN q).frozen? ⟨U0.heap.size, k * 2, none⟩ = false := fun q => RB.out.frozen _
                have y2 : ∀ q, (wr.drewN q).frozen? ⟨U0.heap.size, k * 2 + 1, none⟩ = false := fun q => RB.out.frozen _
                go_wp2_with fail
                go_quiet (fail)
                go_wp2
                go_roundg (n8 - (k + 1))
                case measure => omega
                case rel =>
                  refine ⟨k + 1, _, rfl, by go_num, by omega, Nat.le_refl _, RowF.set (k := k) (RB.out.to (w' := wr.drewN nq) rfl) _ _, fun j q1 q2 => ?_, fun j q1 q2 q3 => ?_, ?_⟩
                  · rw [if_neg (by omega)]; exact fC.out j (by omega) q2
                  · rw [if_neg (by omega)]; exact fD.out j (by omega) q2 q3
                  · exact gb_set (gb_set (b := wr.drewN nq) ⟨GB.out.os, GB.out.tape, GB.out.output, GB.out.size, GB.out.block⟩ _ _) _ _
            · have hz : ¬ (k : Int) < (n8 : Int) := by omega
              have ekn : n8 = k := by omega
              subst ekn
              have XA : Aside (OutAt wr XO l F6) := X6.out.gb GB.out (by have := SZ.out; omega) (by have := SZ.out; omega)
              have BXW : Aside (Below X W4 wr) := by
                have h3 : Below X W4 U4 := BX.out.trans (B4U.out.mono (by have := BX.out.size; have := s4.out; omega))
                exact h3.grown GB.out (by have := h3.size; have := s4.out; omega) (fun g hg => by
                  injection hg with hg
                  have := BX.out.size
                  have := s4.out
                  omega)
              have XB : Aside (OutAt wr XW l F2) := X4.out.low BXW.out L4.out.1 L4.out.2.1
              have BU0 : Aside (Below U0.heap.size U0 wr) := B4U.out.grown GB.out B4U.out.size (fun g hg => by injection hg with hg; omega)
              obtain ⟨-, x0, x1, x2, x3, x4, x5, FA⟩ := XA.out
              obtain ⟨-, y0, y1, y2, y3, y4, y5, FB⟩ := XB.out
              have hsm := sameO_true (kL l) (setL l).1 (setL l).2.1 (setL l).2.2 (shareL l) (filledL l) (some ⟨F6, 0, none⟩) (some ⟨F2, 0, none⟩) l.length l.length wr (BsAt.of FA) (BsAt.of FB) (by rw [filledL_length]; omega)
              rw [filledL_length] at hsm
              clear FA FB
              go_wp2_with fail
              refine hsm.mono ?_
              rintro e w7 ⟨rfl, G7⟩
              have B7 : Aside (Below U0.heap.size U0 w7) := BU0.out.trans (G7.below.mono BU0.out.size)
              have BX7 : Aside (Below X W4 w7) := BXW.out.trans (G7.below.mono (by have := BXW.out.size; have := s4.out; omega))
              have XA7 : Aside (OutAt w7 XO l F6) := XA.out.up G7.below
              have BK7 : Aside (BookOk w7 X X vL vW es (i : Int)) := BK.out.up B7.out
              clear G7 hsm x0 x1 x2 x3 x4 x5 y0 y1 y2 y3 y4 y5 XA XB BU0 BXW
              go_wp2_with fail
              refine (still_any w7 X X vL vW es i BK7.out (by have := LE.out; omega)).mono ?_
              rintro e w8 ⟨rfl, m8, hw8⟩
              have D8 : Gr w7 w8 := by rw [hw8]; exact (Gr.refl w7).drewN m8
              have B8 : Aside (Below U0.heap.size U0 w8) := B7.out.trans (D8.below.mono B7.out.size)
              have BX8 : Aside (Below X W4 w8) := BX7.out.trans (D8.below.mono (by have := BX7.out.size; have := s4.out; omega))
              have XA8 : Aside (OutAt w8 XO l F6) := XA7.out.up D8.below
              have BK8 : Aside (BookOk w8 X X vL vW es (i : Int)) := BK.out.up B8.out
              have x4 := XA8.out.2.2.2.2.2.1
              clear D8 hw8 B7 BX7 XA7 BK7
              go_wp2_with fail
              clear x4
              obtain ⟨q1, q2, q3, q4⟩ := BK.out.far (F := F6) (Nat.le_of_lt SZ.out.1)
              have hown := own_any w8 X X F6 vL vW es i (filledL l) BK8.out XA8.out.2.2.2.2.2.2.2 (by have := BK.out.lt; have := SZ.out.1; omega) q1 q2 q3 q4 (by omega) (by have := LE.out; omega) (by rw [filledL_length]; exact hl)
              rw [filledL_length] at hown
              refine hown.mono ?_
              clear hown q1 q2 q3 q4
              rintro e w9 ⟨rfl, vL9, vW9, es9, K9, le9, B9⟩
              have BK9 : Aside (BookOk w9 X X vL9 vW9 es9 ((i : Int) + 1)) := K9
              have LE9 : Aside (es9.length = 4 * (i + 1)) := by
                have := LE.out
                show _ = _
                omega
              have BX9 : Aside (Below X W4 w9) := BX8.out.trans B9
              clear K9 le9 B9 BK8 XA8 BX8 B8
              go_wp2_with fail
              refine (still_any w9 X X vL9 vW9 es9 ((i : Int) + 1) BK9.out (by have := LE9.out; omega)).mono ?_
              rintro e wz ⟨rfl, m9, hwz⟩
              have DZ : Gr w9 wz := by rw [hwz]; exact (Gr.refl w9).drewN m9
              have BXZ : Aside (Below X W4 wz) := BX9.out.trans (DZ.below.mono (by have := BX9.out.size; have := s4.out; omega))
              have BKZ : Aside (BookOk wz X X vL9 vW9 es9 ((i : Int) + 1)) := BK9.out.up DZ.below
              clear DZ hwz BX9 BK9
              go_wp2
              go_roundg (N + 2 - (i + 1))
              case measure => omega
              case rel => exact ⟨i + 1, vL9, vW9, es9, by go_num, by omega, Nat.le_refl _, BKZ, LE9, BXZ⟩
    · have hltz : ¬ (i : Int) < 2 + (N : Int) := by omega
      go_wp2
      go_ret
      exact ⟨rfl, BWr.out⟩
#print axioms clears_any
end Go.Proofs.Ytjfifaooimgbaaa
