import Derived.Test.YtjfifaooimgbaaaKeep
import Derived.Test.YtjfifaooimgbaaaTruth
/- The walk of Truthful. -/
namespace Go.Proofs.Ytjfifaooimgbaaa
open Go.Shelf Go.RowKit Go.Lib Go.Sort

/-- an outcome in a box of six cells. -/
def OutAt (w : World) (X : Nat) (l : List (Int × Int)) (F : Nat) : Prop := X < w.heap.size ∧ w.cell? ⟨X, 0, none⟩ = some (.int .i64 (kL l)) ∧ w.cell? ⟨X, 1, none⟩ = some (.int .i64 (setL l).1) ∧ w.cell? ⟨X, 2, none⟩ = some (.int .i64 (setL l).2.1) ∧ w.cell? ⟨X, 3, none⟩ = some (.int .i64 (setL l).2.2) ∧ w.cell? ⟨X, 4, none⟩ = some (.slice (some ⟨F, 0, none⟩) l.length l.length) ∧ w.cell? ⟨X, 5, none⟩ = some (.int .u64 (shareL l)) ∧ BoolsAt w F (filledL l)
theorem OutAt.up {w w' : World} {X : Nat} {l : List (Int × Int)} {F : Nat} (h : OutAt w X l F) (b : Below w.heap.size w w') : OutAt w' X l F :=
  ⟨Nat.lt_of_lt_of_le h.1 b.size, (b.cell (p := ⟨X, 0, none⟩) h.1).trans h.2.1, (b.cell (p := ⟨X, 1, none⟩) h.1).trans h.2.2.1, (b.cell (p := ⟨X, 2, none⟩) h.1).trans h.2.2.2.1, (b.cell (p := ⟨X, 3, none⟩) h.1).trans h.2.2.2.2.1, (b.cell (p := ⟨X, 4, none⟩) h.1).trans h.2.2.2.2.2.1, (b.cell (p := ⟨X, 5, none⟩) h.1).trans h.2.2.2.2.2.2.1, (b.block F h.2.2.2.2.2.2.2.lt).trans h.2.2.2.2.2.2.2⟩
theorem out_made {w : World} {l : List (Int × Int)} {F : Nat} (h : BoolsAt w F (filledL l)) : OutAt (w.alloc (Obj.cells #[Value.int IntKind.i64 (kL l), Value.int IntKind.i64 (setL l).1, Value.int IntKind.i64 (setL l).2.1, Value.int IntKind.i64 (setL l).2.2, Value.slice (some ⟨F, 0, none⟩) l.length l.length, Value.int IntKind.u64 (shareL l)] 26)) w.heap.size l F :=
  ⟨by simp, by simp, by simp, by simp, by simp, by simp, by simp, (Below.heap_alloc w _ F h.lt).trans h⟩

theorem set_bd (l : List (Int × Int)) : (0 ≤ (setL l).2.1 ∧ (setL l).2.1 ≤ 1000) ∧ (0 ≤ (setL l).2.2 ∧ (setL l).2.2 ≤ 1000) := by
  unfold setL settleF midF
  have b1 := (buyers_priced l).bd 0 (by omega) (kL l - 1)
  have b2 := (sellers_priced l).bd 1000 (by omega) (kL l - 1)
  have b3 := (buyers_priced l).bd 0 (by omega) (kL l)
  have b4 := (sellers_priced l).bd 1000 (by omega) (kL l)
  split
  · simp
  · split
    · simp only []; omega
    · split
      · simp
      · exact ⟨b1, b2⟩

set_option maxHeartbeats 1000000 in
theorem truthful_any (l : List (Int × Int)) (a : Option Addr) (cap : Nat) (who other : Int) (w : World) (hB : BidsAt w a l) (hl : l.length ≤ 8796093022208) (h1 : -9223372036854775808 ≤ who) (h2 : who ≤ 9223372036854775807) :
    Calls Try.prog 5 #[.slice a l.length cap, .int .i64 who, .int .i64 other] w fun e w' => e = .returned (.bool true) ∧ Below w.heap.size w w' := by
  have mixed : Try.prog.follows .mixedOrders = true := by kernel_rfl
  have HB : Aside _ := hB
  clear hB
  go_enter Try.func5, Try.ntmps5
  go_wp2_with fail
  refine (begun_any w).mono ?_
  rintro e w1 ⟨rfl, B1a⟩
  have B1 : Aside _ := B1a
  clear B1a
  by_cases h0 : l.length = 0
  · have hz : ((l.length : Int) == 0) = true := beq_iff_eq.2 (by omega)
    go_wp2
    go_ret
    exact ⟨rfl, B1.out⟩
  · have hz : ((l.length : Int) == 0) = false := beq_eq_false_iff_ne.2 (by omega)
    have hp := pickN_lt who l.length (by omega)
    have hpk := pick_any who l.length w1 (by omega) (by omega) h1 h2
    generalize pickN who l.length = i at hp hpk
    obtain ⟨b, o, rfl, hb, _, _⟩ := HB.out i hp
    have BB1 : Aside (BidsAt w1 (some ⟨b, o, none⟩) l) := BidsAt.up HB.out B1.out
    obtain ⟨b', o', ha, hb1, hx1, hx2⟩ := BB1.out i hp
    injection ha with ha; injection ha with e1 e2
    subst e1; subst e2
    obtain ⟨side, hside⟩ : ∃ x, (l.getD i (0, 0)).1 = x := ⟨_, rfl⟩
    obtain ⟨v, hv⟩ : ∃ x, (l.getD i (0, 0)).2 = x := ⟨_, rfl⟩
    rw [hside] at hx1
    rw [hv] at hx2
    have E : Aside ((l.getD i (0, 0)).1 = side ∧ (l.getD i (0, 0)).2 = v) := ⟨hside, hv⟩
    clear hside hv
    have hiz : (i : Int) < (l.length : Int) := by omega
    go_wp2_with fail
    refine hpk.mono ?_
    rintro e w' ⟨rfl, rfl⟩
    clear hpk
    go_wp2_with fail
    refine (right_any side v _).mono ?_
    rintro e w2 ⟨rfl, G2a⟩
    have G2 : Aside _ := G2a
    clear G2a hx1 hx2
    by_cases hr : rightB (side, v) = true
    · rw [hr]
      have BB2 : Aside (BidsAt w2 (some ⟨b, o, none⟩) l) := BidsAt.gr BB1.out G2.out
      have B2 : Aside (Below w.heap.size w w2) := B1.out.trans ((Gr.below G2.out).mono B1.out.size)
      clear G2 B1 BB1 HB
      have hmk := make_bids l.length w2 (by omega)
      obtain ⟨W3, hW3⟩ : ∃ W3, W3 = w2.alloc (.cells (madeCells #[.int .i64 0, .int .i64 0] (l.length * 2)) 29) := ⟨_, rfl⟩
      have hM3 : W3.heap[w2.heap.size]? = some (.cells (madeCells #[.int .i64 0, .int .i64 0] (l.length * 2)) 29 (0, 0)) := by
        rw [hW3]; show (w2.heap.push _)[w2.heap.size]? = _; simp
      have K3 : Aside (Below w2.heap.size w2 W3) := by rw [hW3]; exact below_alloc _ _
      have hcp := fun ty => run_copy_bids W3 ty w2.heap.size l.length l.length (some ⟨b, o, none⟩) cap _ 29 l (BidsAt.up BB2.out K3.out) hM3 (Nat.le_refl _) (by rw [size_madeCells]; omega)
      obtain ⟨W4, hW4⟩ : ∃ W4, W4 = W3.setRow w2.heap.size (flatO l ++ (madeCells #[.int .i64 0, .int .i64 0] (l.length * 2)).toList.drop (l.length * 2)).toArray := ⟨_, rfl⟩
      have M4 : Aside (BidsIn W4 w2.heap.size l) := by rw [hW4]; exact bids_of_block _ hM3 (size_madeCells _ _)
      have K4 : Aside (Below w2.heap.size w2 W4) := by rw [hW4]; exact K3.out.trans (below_setRow' _ _ _ _ (Nat.le_refl _))
      rw [← hW3] at hmk
      rw [← hW4] at hcp
      have hc4 := M4.out.cell (flatO_at l i hp).2
      have hf4 := M4.out.frozen (i * 2 + 1)
      rw [E.out.2] at hc4
      have M5 : Aside (BidsIn (W4.setCell ⟨w2.heap.size, i * 2 + 1, none⟩ (.int .i64 other)) w2.heap.size (l.set i (side, other))) := by
        have := M4.out.set i other hp
        rw [E.out.1] at this; exact this
      have K5 : Aside (Below w2.heap.size w2 (W4.setCell ⟨w2.heap.size, i * 2 + 1, none⟩ (.int .i64 other))) := K4.out.setCell (Nat.le_refl _) _
      have HW5 : Aside (∃ W5, W5 = W4.setCell ⟨w2.heap.size, i * 2 + 1, none⟩ (.int .i64 other)) := ⟨_, rfl⟩
      clear hW3 hM3 hW4 K3 K4 M4
      go_wp2_with fail
      obtain ⟨W5, hW5⟩ := HW5.out
      rw [← hW5] at M5 K5 ⊢
      clear hW5 HW5 hmk hcp hc4 hf4
      refine (clear_any l (some ⟨b, o, none⟩) cap W5 (BidsAt.up BB2.out K5.out) hl).mono ?_
      rintro e w6 ⟨F, rfl, FLa, _, K6a⟩
      obtain ⟨W6, hW6⟩ : ∃ W6, W6 = w6.alloc (Obj.cells #[Value.int IntKind.i64 (kL l), Value.int IntKind.i64 (setL l).1, Value.int IntKind.i64 (setL l).2.1, Value.int IntKind.i64 (setL l).2.2, Value.slice (some ⟨F, 0, none⟩) l.length l.length, Value.int IntKind.u64 (shareL l)] 26) := ⟨_, rfl⟩
      have X6 : Aside (OutAt W6 w6.heap.size l F) := by rw [hW6]; exact out_made FLa
      have K6 : Aside (Below W5.heap.size W5 W6) := by rw [hW6]; exact K6a.alloc K6a.size _
      have M6 : Aside (BidsAt W6 (some ⟨w2.heap.size, 0, none⟩) (l.set i (side, other))) := BidsAt.up M5.out.bids K6.out
      have B6 : Aside (Below w2.heap.size w2 W6) := K5.out.trans (K6.out.mono K5.out.size)
      have HW6 : Aside _ := hW6
      clear FLa K6a hW6 M5 K5 K6
      go_wp2_with fail
      rw [← HW6.out]
      clear HW6
      have hc := clear_any (l.set i (side, other)) (some ⟨w2.heap.size, 0, none⟩) l.length W6 M6.out (by rw [List.length_set]; exact hl)
      rw [List.length_set] at hc
      refine hc.mono ?_
      clear hc
      rintro e w7 ⟨F', rfl, FLa, _, K7a⟩
      obtain ⟨W7, hW7⟩ : ∃ W7, W7 = w7.alloc (Obj.cells #[Value.int IntKind.i64 (kL (l.set i (side, other))), Value.int IntKind.i64 (setL (l.set i (side, other))).1, Value.int IntKind.i64 (setL (l.set i (side, other))).2.1, Value.int IntKind.i64 (setL (l.set i (side, other))).2.2, Value.slice (some ⟨F', 0, none⟩) l.length l.length, Value.int IntKind.u64 (shareL (l.set i (side, other)))] 26) := ⟨_, rfl⟩
      have Y7 : Aside (OutAt W7 w7.heap.size (l.set i (side, other)) F') := by rw [hW7]; have := out_made FLa; rwa [List.length_set] at this
      have K7 : Aside (Below W6.heap.size W6 W7) := by rw [hW7]; exact K7a.alloc K7a.size _
      have X7 : Aside (OutAt W7 w6.heap.size l F) := X6.out.up K7.out
      have B7 : Aside (Below w2.heap.size w2 W7) := B6.out.trans (K7.out.mono B6.out.size)
      have BB7 : Aside (BidsAt W7 (some ⟨b, o, none⟩) l) := BidsAt.up BB2.out B7.out
      have B7w : Aside (Below w.heap.size w W7) := B2.out.trans (B7.out.mono B2.out.size)
      have x4 := X7.out.2.2.2.2.2.1
      have y4 := Y7.out.2.2.2.2.2.1
      rw [List.length_set] at y4
      rw [hW7] at x4 y4
      have HW7 : Aside _ := hW7
      clear FLa K7a hW7 X6 M6 B6 K7 BB2 B2 B7
      have hv : (0 ≤ v ∧ v ≤ 1000) ∧ (side = 0 ∨ side = 1) ∧ 1 ≤ v ∧ v < 1000 := by
        simp only [rightB, Bool.and_eq_true, Bool.or_eq_true, beq_iff_eq, decide_eq_true_eq] at hr
        omega
      have HV : Aside _ := hv
      clear hv
      go_wp2_with fail
      rw [← HW7.out]
      clear x4 y4 HW7
      have x0 : ∀ n os, (grow (W7.drewN n) os).cell? ⟨w6.heap.size, 0, none⟩ = some (.int .i64 (kL l)) := fun n os => (OutAt.up X7.out (below_grow W7 n os)).2.1
      have x1 : ∀ n os, (grow (W7.drewN n) os).cell? ⟨w6.heap.size, 1, none⟩ = some (.int .i64 (setL l).1) := fun n os => (OutAt.up X7.out (below_grow W7 n os)).2.2.1
      have x2 : ∀ n os, (grow (W7.drewN n) os).cell? ⟨w6.heap.size, 2, none⟩ = some (.int .i64 (setL l).2.1) := fun n os => (OutAt.up X7.out (below_grow W7 n os)).2.2.2.1
      have x3 : ∀ n os, (grow (W7.drewN n) os).cell? ⟨w6.heap.size, 3, none⟩ = some (.int .i64 (setL l).2.2) := fun n os => (OutAt.up X7.out (below_grow W7 n os)).2.2.2.2.1
      have x4 : ∀ n os, (grow (W7.drewN n) os).cell? ⟨w6.heap.size, 4, none⟩ = some (.slice (some ⟨F, 0, none⟩) l.length l.length) := fun n os => (OutAt.up X7.out (below_grow W7 n os)).2.2.2.2.2.1
      have x5 : ∀ n os, (grow (W7.drewN n) os).cell? ⟨w6.heap.size, 5, none⟩ = some (.int .u64 (shareL l)) := fun n os => (OutAt.up X7.out (below_grow W7 n os)).2.2.2.2.2.2.1
      have xl0 : ∀ n os, (grow (W7.drewN n) os).cell? ⟨b, o + i * 2, none⟩ = some (.int .i64 side) := fun n os => by
        obtain ⟨b', o', ha, _, q1, _⟩ := BidsAt.up BB7.out (below_grow W7 n os) i hp
        injection ha with ha; injection ha with e1 e2; subst e1; subst e2
        rw [q1, E.out.1]
      have xl1 : ∀ n os, (grow (W7.drewN n) os).cell? ⟨b, o + i * 2 + 1, none⟩ = some (.int .i64 v) := fun n os => by
        obtain ⟨b', o', ha, _, _, q1⟩ := BidsAt.up BB7.out (below_grow W7 n os) i hp
        injection ha with ha; injection ha with e1 e2; subst e1; subst e2
        rw [q1, E.out.2]
      have p1 : ∀ n os, Calls Try.prog 24 #[.agg #[.int .i64 (kL l), .int .i64 (setL l).1, .int .i64 (setL l).2.1, .int .i64 (setL l).2.2, .slice (some ⟨F, 0, none⟩) l.length l.length, .int .u64 (shareL l)], .int .i64 i, .int .i64 side, .int .i64 v] (grow (W7.drewN n) os) fun e w' => e = .returned (.int .i64 (gainV l i side v)) ∧ ∃ q os', w' = grow ((grow (W7.drewN n) os).drewN q) os' := fun n os =>
        gainK_any _ _ _ (setL l).2.1 (setL l).2.2 side v F l.length l.length i (filledL l) _ (OutAt.up X7.out (below_grow W7 n os)).2.2.2.2.2.2.2 (filledL_length l) hp (set_bd l).1 (set_bd l).2 HV.out.1
      go_quiet_grown (first | (go_at_call 24; refine Calls.grown_of (p1 _ _)))
      have G8 : Gr W7 (grow (W7.drewN nq) osq) := ⟨nq, osq, rfl⟩
      generalize grow (W7.drewN nq) osq = W8 at G8 ⊢
      have Y8 : Aside (OutAt W8 w7.heap.size (l.set i (side, other)) F') := Y7.out.up G8.below
      have BB8 : Aside (BidsAt W8 (some ⟨b, o, none⟩) l) := BidsAt.up BB7.out G8.below
      have B8w : Aside (Below w.heap.size w W8) := B7w.out.trans (G8.below.mono B7w.out.size)
      clear x0 x1 x2 x3 x4 x5 xl0 xl1 p1 G8 X7 Y7 BB7 B7w
      have y0 : ∀ n os, (grow (W8.drewN n) os).cell? ⟨w7.heap.size, 0, none⟩ = some (.int .i64 (kL (l.set i (side, other)))) := fun n os => (OutAt.up Y8.out (below_grow W8 n os)).2.1
      have y1 : ∀ n os, (grow (W8.drewN n) os).cell? ⟨w7.heap.size, 1, none⟩ = some (.int .i64 (setL (l.set i (side, other))).1) := fun n os => (OutAt.up Y8.out (below_grow W8 n os)).2.2.1
      have y2 : ∀ n os, (grow (W8.drewN n) os).cell? ⟨w7.heap.size, 2, none⟩ = some (.int .i64 (setL (l.set i (side, other))).2.1) := fun n os => (OutAt.up Y8.out (below_grow W8 n os)).2.2.2.1
      have y3 : ∀ n os, (grow (W8.drewN n) os).cell? ⟨w7.heap.size, 3, none⟩ = some (.int .i64 (setL (l.set i (side, other))).2.2) := fun n os => (OutAt.up Y8.out (below_grow W8 n os)).2.2.2.2.1
      have y4 : ∀ n os, (grow (W8.drewN n) os).cell? ⟨w7.heap.size, 4, none⟩ = some (.slice (some ⟨F', 0, none⟩) l.length l.length) := fun n os => by have := (OutAt.up Y8.out (below_grow W8 n os)).2.2.2.2.2.1; rwa [List.length_set] at this
      have y5 : ∀ n os, (grow (W8.drewN n) os).cell? ⟨w7.heap.size, 5, none⟩ = some (.int .u64 (shareL (l.set i (side, other)))) := fun n os => (OutAt.up Y8.out (below_grow W8 n os)).2.2.2.2.2.2.1
      have yl0 : ∀ n os, (grow (W8.drewN n) os).cell? ⟨b, o + i * 2, none⟩ = some (.int .i64 side) := fun n os => by
        obtain ⟨b', o', ha, _, q1, _⟩ := BidsAt.up BB8.out (below_grow W8 n os) i hp
        injection ha with ha; injection ha with e1 e2; subst e1; subst e2
        rw [q1, E.out.1]
      have yl1 : ∀ n os, (grow (W8.drewN n) os).cell? ⟨b, o + i * 2 + 1, none⟩ = some (.int .i64 v) := fun n os => by
        obtain ⟨b', o', ha, _, _, q1⟩ := BidsAt.up BB8.out (below_grow W8 n os) i hp
        injection ha with ha; injection ha with e1 e2; subst e1; subst e2
        rw [q1, E.out.2]
      have p1 : ∀ n os, Calls Try.prog 24 #[.agg #[.int .i64 (kL (l.set i (side, other))), .int .i64 (setL (l.set i (side, other))).1, .int .i64 (setL (l.set i (side, other))).2.1, .int .i64 (setL (l.set i (side, other))).2.2, .slice (some ⟨F', 0, none⟩) l.length l.length, .int .u64 (shareL (l.set i (side, other)))], .int .i64 i, .int .i64 side, .int .i64 v] (grow (W8.drewN n) os) fun e w' => e = .returned (.int .i64 (gainV (l.set i (side, other)) i side v)) ∧ ∃ q os', w' = grow ((grow (W8.drewN n) os).drewN q) os' := fun n os =>
        gainK_any _ _ _ (setL (l.set i (side, other))).2.1 (setL (l.set i (side, other))).2.2 side v F' l.length l.length i (filledL (l.set i (side, other))) _ (OutAt.up Y8.out (below_grow W8 n os)).2.2.2.2.2.2.2 (by rw [filledL_length, List.length_set]) hp (set_bd _).1 (set_bd _).2 HV.out.1
      go_wp2_with fail
      go_quiet_grown (first | (go_at_call 24; refine Calls.grown_of (p1 _ _)))
      have B9 : Aside (Below w.heap.size w (grow (W8.drewN nq) osq)) := B8w.out.trans ((below_grow W8 nq osq).mono B8w.out.size)
      clear y0 y1 y2 y3 y4 y5 yl0 yl1 p1
      have T := truthful_pure l i hp side v other HV.out.2.1 HV.out.2.2.1 HV.out.2.2.2
      have el : l.set i (side, v) = l := by
        have : l[i] = (side, v) := by
          rw [← getD_lt hp]; exact Prod.ext E.out.1 E.out.2
        rw [← this]; exact List.set_getElem_self hp
      rw [el] at T
      generalize gainV l i side v = ga at T ⊢
      generalize gainV (l.set i (side, other)) i side v = gb at T ⊢
      clear el
      have t1 := T.1
      have t2 := T.2
      have d1 : decide (0 ≤ ga) = true := decide_eq_true t1
      have d2 : decide (gb ≤ ga) = true := decide_eq_true t2
      clear T
      go_wp2
      go_ret
      exact ⟨rfl, B9.out⟩
    · have hr' : rightB (side, v) = false := by simpa using hr
      rw [hr']
      go_wp2
      go_ret
      exact ⟨rfl, B1.out.trans ((Gr.below G2.out).mono B1.out.size)⟩
#print axioms truthful_any
end Go.Proofs.Ytjfifaooimgbaaa
