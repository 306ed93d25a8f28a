/- The walk of Fair. -/
import Derived.Test.YtjfifaooimgbaaaFairQ
namespace Go.Proofs.Ytjfifaooimgbaaa
open Go.Shelf Go.RowKit Go.Lib Go.Sort

theorem IntsAt.up {w w' : World} {av : Option Addr} {out : List Int} (h : IntsAt w av out) (b : Below w.heap.size w w') : IntsAt w' av out := fun j hj => by
  obtain ⟨g, ha, hg, hc⟩ := h j hj
  exact ⟨g, ha, Nat.lt_of_lt_of_le hg b.size, (b.cell (p := ⟨g, j, none⟩) hg).trans hc⟩


theorem bought_bd (l : List (Int × Int)) : ∀ n : Nat, 0 ≤ boughtTo l n ∧ boughtTo l n ≤ (n : Int)
  | 0 => by simp [boughtTo, sumTo]
  | n + 1 => by
    have ih := bought_bd l n
    unfold boughtTo at ih ⊢
    rw [sumTo]; split <;> omega
theorem sold_bd (l : List (Int × Int)) : ∀ n : Nat, 0 ≤ soldTo l n ∧ soldTo l n ≤ (n : Int)
  | 0 => by simp [soldTo, sumTo]
  | n + 1 => by
    have ih := sold_bd l n
    unfold soldTo at ih ⊢
    rw [sumTo]; split <;> omega
theorem gained_bd (l : List (Int × Int)) : ∀ n : Nat, n ≤ l.length → -(1000 * (n : Int)) ≤ gainedTo l n ∧ gainedTo l n ≤ 1000 * (n : Int)
  | 0, _ => by simp [gainedTo, sumTo]
  | n + 1, h => by
    have ih := gained_bd l n (by omega)
    unfold gainedTo at ih ⊢
    rw [sumTo]
    by_cases hf : (filledL l).getD n false = true
    · have hr := (filled_ok l n (by omega) hf).1
      simp only [rightB, Bool.and_eq_true, decide_eq_true_eq] at hr
      split <;> split <;> omega
    · rw [if_neg (fun h => hf h.1), if_neg (fun h => hf h.1)]; omega
theorem bought_step (l : List (Int × Int)) (i : Nat) : boughtTo l (i + 1) = boughtTo l i + (if (filledL l).getD i false = true ∧ (l.getD i (0, 0)).1 = 0 then 1 else 0) := rfl
theorem sold_step (l : List (Int × Int)) (i : Nat) : soldTo l (i + 1) = soldTo l i + (if (filledL l).getD i false = true ∧ (l.getD i (0, 0)).1 ≠ 0 then 1 else 0) := rfl
theorem gained_step (l : List (Int × Int)) (i : Nat) : gainedTo l (i + 1) = gainedTo l i + ((if (filledL l).getD i false = true ∧ (l.getD i (0, 0)).1 = 0 then (l.getD i (0, 0)).2 else 0) + (if (filledL l).getD i false = true ∧ (l.getD i (0, 0)).1 ≠ 0 then -(l.getD i (0, 0)).2 else 0)) := rfl

set_option maxHeartbeats 4000000 in
set_option maxRecDepth 100000 in
theorem fair_any (l : List (Int × Int)) (a : Option Addr) (cap : Nat) (w : World) (hB : BidsAt w a l) (hl : l.length ≤ 1048576) :
    Calls Try.prog 4 #[.slice a l.length cap] w fun e w' => e = .returned (.bool true) ∧ Below w.heap.size w w' := by
  have mixed : Try.prog.follows .mixedOrders = true := by kernel_rfl
  have HB : Aside _ := hB
  clear hB
  go_enter Try.func4, Try.ntmps4
  go_wp2_with fail
  refine (begun_any w).mono ?_
  rintro e w1 ⟨rfl, B1a⟩
  have B1 : Aside _ := B1a
  clear B1a
  have BB1 : Aside (BidsAt w1 a l) := BidsAt.up HB.out B1.out
  clear HB
  go_wp2_with fail
  refine (clear_any l a cap w1 BB1.out (by omega)).mono ?_
  rintro e w2 ⟨F, rfl, FLa, q1, K2a⟩
  clear q1
  obtain ⟨W2, hW2⟩ : ∃ W2, W2 = w2.alloc (Obj.cells #[Value.int IntKind.i64 (kL l), Value.int IntKind.i64 (setL l).1, Value.int IntKind.i64 (setL l).2.1, Value.int IntKind.i64 (setL l).2.2, Value.slice (some ⟨F, 0, none⟩) l.length l.length, Value.int IntKind.u64 (shareL l)] 26) := ⟨_, rfl⟩
  have X2 : Aside (OutAt W2 w2.heap.size l F) := by rw [hW2]; exact out_made FLa
  have K2 : Aside (Below w1.heap.size w1 W2) := by rw [hW2]; exact K2a.alloc K2a.size _
  have BB2 : Aside (BidsAt W2 a l) := BidsAt.up BB1.out K2.out
  have B2 : Aside (Below w.heap.size w W2) := B1.out.trans (K2.out.mono B1.out.size)
  have x4 := X2.out.2.2.2.2.2.1
  rw [hW2] at x4
  have HW2 : Aside _ := hW2
  clear FLa K2a hW2 K2 BB1 B1
  go_wp2_with fail
  clear x4
  rw [← HW2.out]
  clear HW2
  refine (prices_buy l a cap W2 BB2.out hl).mono ?_
  rintro e w3 ⟨vb, ob, rfl, Oa, Pa, Ka⟩
  obtain rfl := price_buy_eq Pa
  obtain ⟨ab, cb, rfl, q1, q2, IBa, q3⟩ := ints_of_own Oa
  clear q1 q2 q3
  have IB3 : Aside _ := IBa
  have X3 : Aside (OutAt w3 w2.heap.size l F) := X2.out.up Ka
  have BB3 : Aside (BidsAt w3 a l) := BidsAt.up BB2.out Ka
  have B3 : Aside (Below w.heap.size w w3) := B2.out.trans (Ka.mono B2.out.size)
  clear Oa Pa IBa Ka X2 BB2 B2
  go_wp2_with fail
  refine (prices_sell l a cap w3 BB3.out hl).mono ?_
  rintro e w4 ⟨vs, os, rfl, Oa, Pa, Ka⟩
  obtain rfl := price_sell_eq Pa
  obtain ⟨az, cs, rfl, q1, q2, ISa, q3⟩ := ints_of_own Oa
  clear q1 q2 q3
  have IS4 : Aside _ := ISa
  have IB4 : Aside _ := IntsAt.up IB3.out Ka
  have X4 : Aside (OutAt w4 w2.heap.size l F) := X3.out.up Ka
  have BB4 : Aside (BidsAt w4 a l) := BidsAt.up BB3.out Ka
  have B4 : Aside (Below w.heap.size w w4) := B3.out.trans (Ka.mono B3.out.size)
  clear Oa Pa ISa Ka X3 BB3 B3 IB3
  rw [List.length_map]
  have hbl := buyers_le l
  have hsl := sellers_le l
  go_wp2_with fail
  rename_i K hK
  have TAIL : ∀ (mm : Nat) (x33 x34 x35 x36 x37 x38 x39 x40 x41 x42 x43 x44 x45 x46 x47 x48 x49 x50 x51 x52 x53 x54 x55 x56 x57 x58 x59 x60 x61 x62 x63 x64 x65 x66 : Value), K { tmps := #[Value.slice a l.length cap, undef, Value.bool false, Value.bool true, Value.pointer (some ⟨w2.heap.size, 0, none⟩), Value.slice ab (buyersOf l).length cb, Value.slice az (sellersOf l).length cs, Value.int IntKind.i64 (kL l), Value.int IntKind.i64 (canL l), undef, undef, undef, undef, undef, undef, undef, Value.bool true, Value.slice a l.length cap, Value.agg #[Value.int IntKind.i64 (kL l), Value.int IntKind.i64 (setL l).1, Value.int IntKind.i64 (setL l).2.1, Value.int IntKind.i64 (setL l).2.2, Value.slice (some ⟨F, 0, none⟩) l.length l.length, Value.int IntKind.u64 (shareL l)], Value.bool true, Value.bool false, Value.bool false, Value.pointer (some ⟨w2.heap.size, 4, none⟩), Value.slice (some ⟨F, 0, none⟩) l.length l.length, Value.int IntKind.i64 l.length, Value.slice a l.length cap, Value.int IntKind.i64 l.length, Value.bool false, Value.bool false, Value.slice a l.length cap, Value.slice ab (buyersOf l).length cb, Value.slice a l.length cap, Value.slice az (sellersOf l).length cs, x33, x34, x35, x36, x37, x38, x39, x40, x41, x42, x43, x44, x45, x46, x47, x48, x49, x50, x51, x52, x53, x54, x55, x56, x57, x58, x59, x60, x61, x62, x63, x64, x65, x66, undef, undef, undef, undef, undef, undef, undef, undef, undef, undef, undef, undef, undef, undef, undef, undef, undef, undef, undef, undef, undef, undef, undef, undef, undef, undef, undef, undef, undef, undef, undef, undef, undef, undef, undef, undef, undef, undef, undef, undef, undef, undef, undef, undef, undef, undef, undef, undef, undef, undef, undef, undef, undef, undef, undef, undef, undef, undef, undef, undef, undef, undef, undef, undef, undef, undef, undef, undef, undef, undef, undef, undef, undef, undef, undef, undef, undef, undef, undef, undef, undef, undef, undef, undef, undef, undef, undef, undef, undef, undef, undef, undef, undef, undef, undef, undef, undef, undef, undef, undef, undef, undef, undef, undef, undef, undef, undef, undef, undef, undef, undef, undef, undef, undef, undef, undef, undef, undef, undef, undef, undef, undef, undef, undef, undef, undef, undef, undef, undef, undef, undef, undef, undef, undef, undef, undef, undef, undef, undef, undef, undef, undef, undef, undef, undef, undef, undef, undef, undef, undef, undef], defers := [] } (w4.drewN mm) := by
    intro mm x33 x34 x35 x36 x37 x38 x39 x40 x41 x42 x43 x44 x45 x46 x47 x48 x49 x50 x51 x52 x53 x54 x55 x56 x57 x58 x59 x60 x61 x62 x63 x64 x65 x66
    refine hK _ _ ?_
    clear hK
    have hkl := kL_le l
    have hk1 := hkl.1
    have X5 : Aside (OutAt (w4.drewN mm) w2.heap.size l F) := X4.out.up (Gr.below ⟨mm, #[], by rw [grow_empty]⟩)
    have BB5 : Aside (BidsAt (w4.drewN mm) a l) := BidsAt.up BB4.out (Gr.below ⟨mm, #[], by rw [grow_empty]⟩)
    have B5 : Aside (Below w.heap.size w (w4.drewN mm)) := below_drewN B4.out mm
    generalize w4.drewN mm = W5 at X5 BB5 B5 ⊢
    clear X4 BB4 B4
    go_wp2_with fail
    go_loopg [9, 10, 11, 12] l.length (fun kx s9 s10 s11 s12 wr => ∃ i : Nat, s9 = .int .i64 (boughtTo l i) ∧ s10 = .int .i64 (soldTo l i) ∧ s11 = .int .i64 (gainedTo l i) ∧ s12 = .int .i64 i ∧ i ≤ l.length ∧ l.length - i ≤ kx ∧ Aside (Gr W5 wr))
    case atStart => exact ⟨0, rfl, rfl, rfl, rfl, Nat.zero_le _, by omega, Gr.refl _⟩
    case round =>
      obtain ⟨i, rfl, rfl, rfl, rfl, hi, hkx3, G⟩ := hrel
      by_cases hlt : i < l.length
      · have hltz : (i : Int) < (l.length : Int) := by omega
        have X6 : Aside (OutAt wr w2.heap.size l F) := X5.out.up G.out.below
        have BB6 : Aside (BidsAt wr a l) := BidsAt.up BB5.out G.out.below
        obtain ⟨b, o, rfl, hbl, y1, y2⟩ := BB6.out i hlt
        have x4 := X6.out.2.2.2.2.2.1
        have fi := X6.out.2.2.2.2.2.2.2.cell (i := i) (by rw [filledL_length]; exact hlt)
        have OKI : Aside ((filledL l).getD i false = true → rightB (l.getD i (0, 0)) = true ∧ ((l.getD i (0, 0)).1 = 0 → (setL l).2.1 ≤ (l.getD i (0, 0)).2) ∧ ((l.getD i (0, 0)).1 = 1 → (l.getD i (0, 0)).2 ≤ (setL l).2.2)) := fun h => filled_ok l i hlt h
        have bd1 := bought_bd l i
        have bd2 := sold_bd l i
        have bd3 := gained_bd l i (by omega)
        have ST : Aside (boughtTo l (i + 1) = boughtTo l i + (if (filledL l).getD i false = true ∧ (l.getD i (0, 0)).1 = 0 then 1 else 0) ∧ soldTo l (i + 1) = soldTo l i + (if (filledL l).getD i false = true ∧ (l.getD i (0, 0)).1 ≠ 0 then 1 else 0) ∧ gainedTo l (i + 1) = gainedTo l i + ((if (filledL l).getD i false = true ∧ (l.getD i (0, 0)).1 = 0 then (l.getD i (0, 0)).2 else 0) + (if (filledL l).getD i false = true ∧ (l.getD i (0, 0)).1 ≠ 0 then -(l.getD i (0, 0)).2 else 0))) := ⟨rfl, rfl, rfl⟩
        generalize (filledL l).getD i false = f at fi OKI ST
        have eb : l.getD i (0, 0) = ((l.getD i (0, 0)).1, (l.getD i (0, 0)).2) := rfl
        rw [eb] at OKI
        clear eb
        generalize (l.getD i (0, 0)).1 = s1 at y1 OKI ST
        generalize (l.getD i (0, 0)).2 = p1 at y2 OKI ST
        generalize boughtTo l i = r1 at bd1 ST ⊢
        generalize soldTo l i = r2 at bd2 ST ⊢
        generalize gainedTo l i = r3 at bd3 ST ⊢
        cases f with
        | false =>
          go_wp2
          go_roundg (l.length - (i + 1))
          case measure => omega
          case rel => exact ⟨i + 1, by rw [ST.out.1]; simp, by rw [ST.out.2.1]; simp, by rw [ST.out.2.2]; simp, by go_num, by omega, Nat.le_refl _, G⟩
        | true =>
          have hok := OKI.out rfl
          have OK2 : Aside ((rightB (s1, p1) = true) ∧ (s1 = 0 → (setL l).2.1 ≤ p1) ∧ (s1 = 1 → p1 ≤ (setL l).2.2)) := hok
          clear OKI
          have hr : rightB (s1, p1) = true := hok.1
          have hsd : (s1 = 0 ∨ s1 = 1) ∧ 1 ≤ p1 ∧ p1 < 1000 := by
            have := hr
            simp only [rightB, Bool.and_eq_true, Bool.or_eq_true, beq_iff_eq, decide_eq_true_eq] at this
            omega
          have HR : Aside (rightB (s1, p1) = true) := hr
          have HS : Aside (s1 = 0 ∨ s1 = 1) := hsd.1
          have pp1 := hsd.2.1
          have pp2 := hsd.2.2
          clear hok hr hsd
          have sbd := set_bd l
          go_wp2_with fail
          refine (right_any s1 p1 wr).mono ?_
          rintro e w7 ⟨rfl, G7a⟩
          rw [HR.out]
          have G7 : Aside (Gr W5 w7) := G.out.trans G7a
          have X7 : Aside (OutAt w7 w2.heap.size l F) := X5.out.up G7.out.below
          have u2 : ∀ n, (w7.drewN n).cell? ⟨w2.heap.size, 2, none⟩ = some (.int .i64 (setL l).2.1) := fun n => X7.out.2.2.2.1
          have u3 : ∀ n, (w7.drewN n).cell? ⟨w2.heap.size, 3, none⟩ = some (.int .i64 (setL l).2.2) := fun n => X7.out.2.2.2.2.1
          have u4 : ∀ n, (w7.drewN n).cell? ⟨b, o + i * 2, none⟩ = some (.int .i64 s1) := fun n => Gr.cell G7a hbl y1
          have u5 : ∀ n, (w7.drewN n).cell? ⟨b, o + i * 2 + 1, none⟩ = some (.int .i64 p1) := fun n => Gr.cell G7a hbl y2
          clear G7a y1 y2 x4 fi X6 BB6
          rcases HS.out with hs | hs
          · subst hs
            have hpp : (setL l).2.1 ≤ p1 := OK2.out.2.1 rfl
            have hdp : decide (p1 < (setL l).2.1) = false := decide_eq_false (by omega)
            have wr1 : IntKind.i64.wrap (r3 + p1) = r3 + p1 := by rw [IntKind.wrap_i64]; omega
            have wr2 : IntKind.i64.wrap (r3 - p1) = r3 - p1 := by rw [IntKind.wrap_i64]; omega
            clear OK2
            go_wp2_with fail
            go_quiet (fail)
            have GF : Aside (Gr W5 (w7.drewN nq)) := G7.out.drewN nq
            have v1 := u4 nq
            have v2 := u5 nq
            clear u2 u3 u4 u5
            generalize w7.drewN nq = w8 at GF v1 v2 ⊢
            go_wp2
            go_roundg (l.length - (i + 1))
            case measure => omega
            case rel => exact ⟨i + 1, by rw [ST.out.1]; simp, by rw [ST.out.2.1]; simp, by rw [ST.out.2.2]; simp, by go_num, by omega, Nat.le_refl _, GF⟩
          · subst hs
            have hpp : p1 ≤ (setL l).2.2 := OK2.out.2.2 rfl
            have hdp : decide ((setL l).2.2 < p1) = false := decide_eq_false (by omega)
            have wr1 : IntKind.i64.wrap (r3 + p1) = r3 + p1 := by rw [IntKind.wrap_i64]; omega
            have wr2 : IntKind.i64.wrap (r3 - p1) = r3 - p1 := by rw [IntKind.wrap_i64]; omega
            clear OK2
            go_wp2_with fail
            go_quiet (fail)
            have GF : Aside (Gr W5 (w7.drewN nq)) := G7.out.drewN nq
            have v1 := u4 nq
            have v2 := u5 nq
            clear u2 u3 u4 u5
            generalize w7.drewN nq = w8 at GF v1 v2 ⊢
            go_wp2
            go_roundg (l.length - (i + 1))
            case measure => omega
            case rel => exact ⟨i + 1, by rw [ST.out.1]; simp, by rw [ST.out.2.1]; simp, by rw [ST.out.2.2]; simp; omega, by go_num, by omega, Nat.le_refl _, GF⟩
      · have hltz : ¬ (i : Int) < (l.length : Int) := by omega
        have ei : i = l.length := by omega
        subst ei
        rw [bought_all l, sold_all l, gained_all l]
        have X6 : Aside (OutAt wr w2.heap.size l F) := X5.out.up G.out.below
        have BB6 : Aside (BidsAt wr a l) := BidsAt.up BB5.out G.out.below
        have B6 : Aside (Below w.heap.size w wr) := B5.out.trans (G.out.below.mono B5.out.size)
        have c0 := X6.out.2.1
        have c1 := X6.out.2.2.1
        have c2 := X6.out.2.2.2.1
        have c3 := X6.out.2.2.2.2.1
        have c4 := X6.out.2.2.2.2.2.1
        have c5 := X6.out.2.2.2.2.2.2.1
        go_wp2_with fail
        refine (firsts_any l a cap _ _ _ _ _ F l.length (filledL l) wr BB6.out X6.out.2.2.2.2.2.2.2 (filledL_length l) hl (fun i k hi hk => not_passed l i k hi hk) (fun i hi h => by
          have := (filled_ok l i hi h).1
          simp only [rightB, Bool.and_eq_true, decide_eq_true_eq] at this
          omega)).mono ?_
        rintro e w9 ⟨rfl, G9a⟩
        have X9 : Aside (OutAt w9 w2.heap.size l F) := X6.out.up G9a.below
        have B9 : Aside (Below w.heap.size w w9) := B6.out.trans (G9a.below.mono B6.out.size)
        clear c0 c1 c2 c3 c4 c5 G9a X6 BB6 B6 G
        have d0 : w9.cell? ⟨w2.heap.size, 0, none⟩ = some (.int .i64 (kL l)) := X9.out.2.1
        have d1 : w9.cell? ⟨w2.heap.size, 1, none⟩ = some (.int .i64 (setL l).1) := X9.out.2.2.1
        have d2 : w9.cell? ⟨w2.heap.size, 2, none⟩ = some (.int .i64 (setL l).2.1) := X9.out.2.2.2.1
        have d3 : w9.cell? ⟨w2.heap.size, 3, none⟩ = some (.int .i64 (setL l).2.2) := X9.out.2.2.2.2.1
        have d5 : w9.cell? ⟨w2.heap.size, 5, none⟩ = some (.int .u64 (shareL l)) := X9.out.2.2.2.2.2.2.1
        have fb := fills_bd l
        have pg := pay_get l
        have ll := little_lost l
        have gb := gain_bd l
        have kb : (kL l : Int) ≤ 1048576 := by omega
        have gcl : canL l ≤ 1048576000 := by omega
        have m1 : 0 ≤ (kL l : Int) * gainedL l := Int.mul_nonneg (by omega) (by omega)
        have m2 : (kL l : Int) * gainedL l ≤ 1048576 * 1048576000 := Int.mul_le_mul kb (by omega) (by omega) (by omega)
        have m3 : ((kL l : Int) - 1) * canL l ≤ 1048576 * 1048576000 := by omega
        have m4 : -1048576000 ≤ ((kL l : Int) - 1) * canL l := by
          have : 0 ≤ (kL l : Int) * canL l := Int.mul_nonneg (by omega) (by omega)
          rw [Int.sub_mul]; omega
        have ss := share_says l (by omega)
        generalize hA : (kL l : Int) * gainedL l = A at m1 m2 ll
        generalize hC : ((kL l : Int) - 1) * canL l = C at m3 m4 ll
        have s1 : ((shareL l : Int) == 4607182418800017408) = (gainedL l == canL l) := by
          rw [Bool.eq_iff_iff, beq_iff_eq, beq_iff_eq, ← ss.1]; omega
        have q1 : decide ((kL l : Int) < (setL l).1) = false := decide_eq_false (by omega)
        have q2 : decide (((setL l).1 : Int) < (kL l : Int) - 1) = false := decide_eq_false (by omega)
        have q3 : decide ((setL l).2.1 < (setL l).2.2) = false := decide_eq_false (by omega)
        have q4 : decide (A < C) = false := decide_eq_false (by omega)
        by_cases hz : gainedL l = 0
        · by_cases hc : 0 < canL l
          · have e0 := ss.2.1.2 ⟨hz, hc⟩
            have hzc : ((0 : Int) == canL l) = false := by rw [beq_eq_false_iff_ne]; omega
            have hdc : decide (0 < canL l) = true := decide_eq_true hc
            have hA0 : A = 0 := by rw [← hA, hz]; simp
            have hC0 : C ≤ 0 := by omega
            have q5 : decide (0 < C) = false := decide_eq_false (by omega)
            clear hA
            subst hA0
            clear ss s1
            rw [e0] at d5
            rw [hz]
            go_wp2
            go_ret
            exact ⟨rfl, B9.out⟩
          · have e0 : canL l = 0 := by omega
            have e1 := ss.1.2 (by omega)
            clear ss s1
            rw [e1] at d5
            rw [hz, e0]
            go_wp2
            go_ret
            exact ⟨rfl, B9.out⟩
        · have s2 : ((shareL l : Int) == 0) = false := by
            rw [beq_eq_false_iff_ne]
            intro h; exact hz (ss.2.1.1 (by omega)).1
          clear ss
          go_wp2
          go_ret
          exact ⟨rfl, B9.out⟩
  clear hK BB4 X4 B4
  have TAILA : Aside _ := TAIL
  clear TAIL
  go_loopg [7, 8] ((buyersOf l).length + 1) (fun kx s t wq => ∃ k m : Nat, s = .int .i64 k ∧ t = .int .i64 (gainF (buyersOf l) (sellersOf l) k) ∧ k ≤ (buyersOf l).length ∧ k ≤ (sellersOf l).length ∧ (buyersOf l).length + 1 - k ≤ kx ∧ wq = w4.drewN m ∧ Aside (∀ i, i < k → priceAt 1000 (sellersOf l) i ≤ priceAt 0 (buyersOf l) i))
  case atStart => exact ⟨0, 0, rfl, rfl, Nat.zero_le _, Nat.zero_le _, by omega, rfl, (fun i hi => absurd hi (Nat.not_lt_zero _) : ∀ i, i < 0 → priceAt 1000 (sellersOf l) i ≤ priceAt 0 (buyersOf l) i)⟩
  case round =>
    obtain ⟨k, m, rfl, rfl, hk1, hk2, hkx, rfl, I⟩ := hrel
    have gbd := gainF_bd (buyers_priced l) (sellers_priced l) k
    have DR : Aside (∀ n, (w4.drewN m).drewN n = w4.drewN (m + n)) := fun n => World.drewN_drewN ..
    have FIN : Aside (priceAt 0 (buyersOf l) k < priceAt 1000 (sellersOf l) k → k = kL l ∧ gainF (buyersOf l) (sellersOf l) k = canL l) := fun h => by
      have e : k = kL l := IsK.unique ⟨I.out, h⟩ (kL_is l)
      exact ⟨e, by rw [e]; rfl⟩
    have ST : Aside (gainF (buyersOf l) (sellersOf l) (k + 1) = gainF (buyersOf l) (sellersOf l) k + (priceAt 0 (buyersOf l) k - priceAt 1000 (sellersOf l) k)) := rfl
    have pb := (buyers_priced l).bd 0 (by omega) k
    have ps := (sellers_priced l).bd 1000 (by omega) k
    by_cases h1 : k < (buyersOf l).length
    · have h1z : (k : Int) < ((buyersOf l).length : Int) := by omega
      by_cases h2 : k < (sellersOf l).length
      · have h2z : (k : Int) < ((sellersOf l).length : Int) := by omega
        obtain ⟨g1, rfl, hg1, c1⟩ := Aside.out IB4 k (by rw [List.length_map]; exact h1)
        obtain ⟨g2, rfl, hg2, c2⟩ := Aside.out IS4 k (by rw [List.length_map]; exact h2)
        rw [getD_map2 _ 0 k h1] at c1
        rw [getD_map2 _ 1000 k h2] at c2
        have NX : Aside (priceAt 1000 (sellersOf l) k ≤ priceAt 0 (buyersOf l) k → ∀ i, i < k + 1 → priceAt 1000 (sellersOf l) i ≤ priceAt 0 (buyersOf l) i) := fun h i hi => by
          by_cases e : i = k
          · rw [e]; exact h
          · exact I.out i (by omega)
        have z1 : ∀ n, ((w4.drewN m).drewN n).cell? ⟨g1, k, none⟩ = some (.int .i64 (priceAt 0 (buyersOf l) k)) := fun n => c1
        have z2 : ∀ n, ((w4.drewN m).drewN n).cell? ⟨g2, k, none⟩ = some (.int .i64 (priceAt 1000 (sellersOf l) k)) := fun n => c2
        generalize priceAt 0 (buyersOf l) k = x1 at z1 FIN ST pb NX
        generalize priceAt 1000 (sellersOf l) k = x2 at z2 FIN ST ps NX
        generalize hwq : w4.drewN m = wq at z1 z2 DR ⊢
        clear hwq c1 c2
        by_cases hle : x2 ≤ x1
        · have hd : decide (x2 ≤ x1) = true := decide_eq_true hle
          have EW : Aside (gainF (buyersOf l) (sellersOf l) (k + 1) = gainF (buyersOf l) (sellersOf l) k + x1 - x2) := by show _ = _; rw [ST.out]; omega
          clear ST FIN
          generalize gainF (buyersOf l) (sellersOf l) k = r0 at EW gbd ⊢
          have wr1 : IntKind.i64.wrap (r0 + x1) = r0 + x1 := by rw [IntKind.wrap_i64]; omega
          have wr2 : IntKind.i64.wrap (r0 + x1 - x2) = r0 + x1 - x2 := by rw [IntKind.wrap_i64]; omega
          go_wp2_with fail
          go_quiet (fail)
          have y1 : ∀ n, ((wq.drewN nq).drewN n).cell? ⟨g1, k, none⟩ = some (.int .i64 x1) := fun n => by rw [World.drewN_drewN]; exact z1 _
          have y2 : ∀ n, ((wq.drewN nq).drewN n).cell? ⟨g2, k, none⟩ = some (.int .i64 x2) := fun n => by rw [World.drewN_drewN]; exact z2 _
          obtain ⟨m1, hm1⟩ : ∃ m1, m1 = nq := ⟨_, rfl⟩
          have DR2 : Aside (∀ n, (wq.drewN nq).drewN n = w4.drewN (m + (m1 + n))) := fun n => by rw [World.drewN_drewN, hm1]; exact DR.out _
          clear hm1 z1 z2 DR
          generalize wq.drewN nq = wq2 at y1 y2 DR2 ⊢
          clear nq
          go_wp2_with fail
          go_quiet (fail)
          go_wp2
          go_roundg ((buyersOf l).length + 1 - (k + 1))
          case measure => omega
          case rel => exact ⟨k + 1, _, by go_num, by rw [EW.out], by omega, by omega, Nat.le_refl _, DR2.out nq, NX.out hle⟩
        · have hd : decide (x2 ≤ x1) = false := decide_eq_false hle
          have fk := FIN.out (by omega)
          obtain ⟨rfl, ec⟩ := fk
          rw [ec]
          clear ST FIN I NX
          go_wp2_with fail
          go_quiet (fail)
          have hd2 := DR.out nq
          rw [hd2]
          clear hd2 DR z1 z2
          generalize m + nq = mm
          go_wp2_with fail
          exact TAILA.out _ _ _ _ _ _ _ _ _ _ _ _ _ _ _ _ _ _ _ _ _ _ _ _ _ _ _ _ _ _ _ _ _ _ _
      · have h2z : ¬ (k : Int) < ((sellersOf l).length : Int) := by omega
        have h2d : decide ((k : Int) < ((sellersOf l).length : Int)) = false := decide_eq_false h2z
        have fk := FIN.out (by
          rw [priceAt_lt h1, priceAt_ge (show (sellersOf l).length ≤ k by omega)]
          have := (buyers_priced l) _ (List.getElem_mem h1)
          omega)
        obtain ⟨rfl, ec⟩ := fk
        rw [ec]
        clear ST FIN I
        generalize hwq : w4.drewN m = wq at DR ⊢
        clear hwq
        go_wp2_with fail
        go_quiet (fail)
        have hd2 := DR.out nq
        rw [hd2]
        clear hd2 DR
        generalize m + nq = mm
        go_wp2_with fail
        exact TAILA.out _ _ _ _ _ _ _ _ _ _ _ _ _ _ _ _ _ _ _ _ _ _ _ _ _ _ _ _ _ _ _ _ _ _ _
    · have h1z : ¬ (k : Int) < ((buyersOf l).length : Int) := by omega
      have h1d : decide ((k : Int) < ((buyersOf l).length : Int)) = false := decide_eq_false h1z
      have fk := FIN.out (by
        rw [priceAt_ge (show (buyersOf l).length ≤ k by omega)]
        by_cases hs : k < (sellersOf l).length
        · rw [priceAt_lt hs]; have := (sellers_priced l) _ (List.getElem_mem hs); omega
        · rw [priceAt_ge (by omega)]; omega)
      obtain ⟨rfl, ec⟩ := fk
      rw [ec]
      clear ST FIN I
      generalize hwq : w4.drewN m = wq at DR ⊢
      clear hwq
      go_wp2_with fail
      go_quiet (fail)
      have hd2 := DR.out nq
      rw [hd2]
      clear hd2 DR
      generalize m + nq = mm
      go_wp2_with fail
      exact TAILA.out _ _ _ _ _ _ _ _ _ _ _ _ _ _ _ _ _ _ _ _ _ _ _ _ _ _ _ _ _ _ _ _ _ _ _
#print axioms fair_any
end Go.Proofs.Ytjfifaooimgbaaa
