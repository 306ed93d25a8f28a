import Derived.Test.YteeplklhbhaicaaKeep
import Derived.Test.YteeplklhbhaicaaTruth
import Derived.Test.YteeplklhbhaicaaPost
/- The walk of Truthful. -/
namespace Go.Proofs.Yteeplklhbhaicaa
open Go.Shelf Go.RowKit Go.Lib Go.Sort

/-- an outcome in a box of six cells. -/
def OutAt (w : World) (X : Nat) (l : List (Int × Int)) (F : Nat) : Prop := X < w.heap.size ∧ w.cell? ⟨X, 0, none⟩ = some (.int .i64 (kL l)) ∧ w.cell? ⟨X, 1, none⟩ = some (.int .i64 (setL l).1) ∧ w.cell? ⟨X, 2, none⟩ = some (.int .i64 (setL l).2.1) ∧ w.cell? ⟨X, 3, none⟩ = some (.int .i64 (setL l).2.2) ∧ w.cell? ⟨X, 4, none⟩ = some (.slice (some ⟨F, 0, none⟩) l.length l.length) ∧ w.cell? ⟨X, 5, none⟩ = some (.int .u64 (shareL l)) ∧ BoolsAt w F (filledL l)
theorem OutAt.up {w w' : World} {X : Nat} {l : List (Int × Int)} {F : Nat} (h : OutAt w X l F) (b : Below w.heap.size w w') : OutAt w' X l F :=
  ⟨Nat.lt_of_lt_of_le h.1 b.size, (b.cell (p := ⟨X, 0, none⟩) h.1).trans h.2.1, (b.cell (p := ⟨X, 1, none⟩) h.1).trans h.2.2.1, (b.cell (p := ⟨X, 2, none⟩) h.1).trans h.2.2.2.1, (b.cell (p := ⟨X, 3, none⟩) h.1).trans h.2.2.2.2.1, (b.cell (p := ⟨X, 4, none⟩) h.1).trans h.2.2.2.2.2.1, (b.cell (p := ⟨X, 5, none⟩) h.1).trans h.2.2.2.2.2.2.1, (b.block F h.2.2.2.2.2.2.2.lt).trans h.2.2.2.2.2.2.2⟩
theorem out_made {w : World} {l : List (Int × Int)} {F : Nat} (h : BoolsAt w F (filledL l)) : OutAt (w.alloc (Obj.cells #[Value.int IntKind.i64 (kL l), Value.int IntKind.i64 (setL l).1, Value.int IntKind.i64 (setL l).2.1, Value.int IntKind.i64 (setL l).2.2, Value.slice (some ⟨F, 0, none⟩) l.length l.length, Value.int IntKind.u64 (shareL l)] 26)) w.heap.size l F :=
  ⟨by simp, by simp, by simp, by simp, by simp, by simp, by simp, (Below.heap_alloc w _ F h.lt).trans h⟩

theorem set_bd (l : List (Int × Int)) : (0 ≤ (setL l).2.1 ∧ (setL l).2.1 ≤ 1000) ∧ (0 ≤ (setL l).2.2 ∧ (setL l).2.2 ≤ 1000) := by
  unfold setL settleF midF
  have b1 := (buyers_priced l).bd 0 (by omega) (kL l - 1)
  have b2 := (sellers_priced l).bd 1000 (by omega) (kL l - 1)
  have b3 := (buyers_priced l).bd 0 (by omega) (kL l)
  have b4 := (sellers_priced l).bd 1000 (by omega) (kL l)
  split
  · simp
  · split
    · simp only []; omega
    · split
      · simp
      · exact ⟨b1, b2⟩

set_option maxHeartbeats 1000000 in
theorem truthful_any (l : List (Int × Int)) (a : Option Addr) (cap : Nat) (who other : Int) (w : World) (hB : BidsAt w a l) (hl : l.length ≤ 8796093022208) (h1 : -9223372036854775808 ≤ who) (h2 : who ≤ 9223372036854775807) :
    Calls Try.prog 5 #[.slice a l.length cap, .int .i64 who, .int .i64 other] w fun e w' => e = .returned (.bool true) ∧ Below w.heap.size w w' := by
  have mixed : Try.prog.follows .mixedOrders = true := by kernel_rfl
  have HB : Aside _ := hB
  clear hB
  go_enter Try.func5, Try.ntmps5
  go_wp2_with fail
  refine (begun_any w).mono ?_
  rintro e w1 ⟨rfl, B1a⟩
  have B1 : Aside _ := B1a
  clear B1a
  by_cases h0 : l.length = 0
  · have hz : ((l.length : Int) == 0) = true := beq_iff_eq.2 (by omega)
    go_wp2
    go_ret
    exact ⟨rfl, B1.out⟩
  · have hz : ((l.length : Int) == 0) = false := beq_eq_false_iff_ne.2 (by omega)
    have hp := pickN_lt who l.length (by omega)
    have hpk := pick_any who l.length w1 (by omega) (by omega) h1 h2
    generalize pickN who l.length = i at hp hpk
    obtain ⟨b, o, rfl, hb, _, _⟩ := HB.out i hp
    have BB1 : Aside (BidsAt w1 (some ⟨b, o, none⟩) l) := BidsAt.up HB.out B1.out
    obtain ⟨b', o', ha, hb1, hx1, hx2⟩ := BB1.out i hp
    injection ha with ha; injection ha with e1 e2
    subst e1; subst e2
    obtain ⟨side, hside⟩ : ∃ x, (l.getD i (0, 0)).1 = x := ⟨_, rfl⟩
    obtain ⟨v, hv⟩ : ∃ x, (l.getD i (0, 0)).2 = x := ⟨_, rfl⟩
    rw [hside] at hx1
    rw [hv] at hx2
    have E : Aside ((l.getD i (0, 0)).1 = side ∧ (l.getD i (0, 0)).2 = v) := ⟨hside, hv⟩
    clear hside hv
    have hiz : (i : Int) < (l.length : Int) := by omega
    go_wp2_with fail
    refine hpk.mono ?_
    rintro e w' ⟨rfl, rfl⟩
    clear hpk
    go_wp2_with fail
    refine (right_any side v _).mono ?_
    rintro e w2 ⟨rfl, G2a⟩
    have G2 : Aside _ := G2a
    clear G2a hx1 hx2
    by_cases hr : rightB (side, v) = true
    · rw [hr]
      have BB2 : Aside (BidsAt w2 (some ⟨b, o, none⟩) l) := BidsAt.gr BB1.out G2.out
      have B2 : Aside (Below w.heap.size w w2) := B1.out.trans ((Gr.below G2.out).mono B1.out.size)
      clear G2 B1 BB1 HB
      have hmk := make_bids l.length w2 (by omega)
      obtain ⟨W3, hW3⟩ : ∃ W3, W3 = w2.alloc (.cells (madeCells #[.int .i64 0, .int .i64 0] (l.length * 2)) 29) := ⟨_, rfl⟩
      have hM3 : W3.heap[w2.heap.size]? = some (.cells (madeCells #[.int .i64 0, .int .i64 0] (l.length * 2)) 29 (0, 0)) := by
        rw [hW3]; show (w2.heap.push _)[w2.heap.size]? = _; simp
      have K3 : Aside (Below w2.heap.size w2 W3) := by rw [hW3]; exact below_alloc _ _
      have hcp := fun ty => run_copy_bids W3 ty w2.heap.size l.length l.length (some ⟨b, o, none⟩) cap _ 29 l (BidsAt.up BB2.out K3.out) hM3 (Nat.le_refl _) (by rw [size_madeCells]; omega)
      obtain ⟨W4, hW4⟩ : ∃ W4, W4 = W3.setRow w2.heap.size (flatO l ++ (madeCells #[.int .i64 0, .int .i64 0] (l.length * 2)).toList.drop (l.length * 2)).toArray := ⟨_, rfl⟩
      have M4 : Aside (BidsIn W4 w2.heap.size l) := by rw [hW4]; exact bids_of_block _ hM3 (size_madeCells _ _)
      have K4 : Aside (Below w2.heap.size w2 W4) := by rw [hW4]; exact K3.out.trans (below_setRow' _ _ _ _ (Nat.le_refl _))
      rw [← hW3] at hmk
      rw [← hW4] at hcp
      have hc4 := M4.out.cell (flatO_at l i hp).2
      have hf4 := M4.out.frozen (i * 2 + 1)
      rw [E.out.2] at hc4
      have M5 : Aside (BidsIn (W4.setCell ⟨w2.heap.size, i * 2 + 1, none⟩ (.int .i64 other)) w2.heap.size (l.set i (side, other))) := by
        have := M4.out.set i other hp
        rw [E.out.1] at this; exact this
      have K5 : Aside (Below w2.heap.size w2 (W4.setCell ⟨w2.heap.size, i * 2 + 1, none⟩ (.int .i64 other))) := K4.out.setCell (Nat.le_refl _) _
      have HW5 : Aside (∃ W5, W5 = W4.setCell ⟨w2.heap.size, i * 2 + 1, none⟩ (.int .i64 other)) := ⟨_, rfl⟩
      clear hW3 hM3 hW4 K3 K4 M4
      go_wp2_with fail
      obtain ⟨W5, hW5⟩ := HW5.out
      rw [← hW5] at M5 K5 ⊢
      clear hW5 HW5 hmk hcp hc4 hf4
      refine (clear_any l (some ⟨b, o, none⟩) cap W5 (BidsAt.up BB2.out K5.out) hl).mono ?_
      rintro e w6 ⟨F, rfl, FLa, _, K6a⟩
      obtain ⟨W6, hW6⟩ : ∃ W6, W6 = w6.alloc (Obj.cells #[Value.int IntKind.i64 (kL l), Value.int IntKind.i64 (setL l).1, Value.int IntKind.i64 (setL l).2.1, Value.int IntKind.i64 (setL l).2.2, Value.slice (some ⟨F, 0, none⟩) l.length l.length, Value.int IntKind.u64 (shareL l)] 26) := ⟨_, rfl⟩
      have X6 : Aside (OutAt W6 w6.heap.size l F) := by rw [hW6]; exact out_made FLa
      have K6 : Aside (Below W5.heap.size W5 W6) := by rw [hW6]; exact K6a.alloc K6a.size _
      have M6 : Aside (BidsAt W6 (some ⟨w2.heap.size, 0, none⟩) (l.set i (side, other))) := BidsAt.up M5.out.bids K6.out
      have B6 : Aside (Below w2.heap.size w2 W6) := K5.out.trans (K6.out.mono K5.out.size)
      have HW6 : Aside _ := hW6
      clear FLa K6a hW6 M5 K5 K6
      go_wp2_with fail
      rw [← HW6.out]
      clear HW6
      have hc := clear_any (l.set i (side, other)) (some ⟨w2.heap.size, 0, none⟩) l.length W6 M6.out (by rw [List.length_set]; exact hl)
      rw [List.length_set] at hc
      refine hc.mono ?_
      clear hc
      rintro e w7 ⟨F', rfl, FLa, _, K7a⟩
      obtain ⟨W7, hW7⟩ : ∃ W7, W7 = w7.alloc (Obj.cells #[Value.int IntKind.i64 (kL (l.set i (side, other))), Value.int IntKind.i64 (setL (l.set i (side, other))).1, Value.int IntKind.i64 (setL (l.set i (side, other))).2.1, Value.int IntKind.i64 (setL (l.set i (side, other))).2.2, Value.slice (some ⟨F', 0, none⟩) l.length l.length, Value.int IntKind.u64 (shareL (l.set i (side, other)))] 26) := ⟨_, rfl⟩
      have Y7 : Aside (OutAt W7 w7.heap.size (l.set i (side, other)) F') := by rw [hW7]; have := out_made FLa; rwa [List.length_set] at this
      have K7 : Aside (Below W6.heap.size W6 W7) := by rw [hW7]; exact K7a.alloc K7a.size _
      have X7 : Aside (OutAt W7 w6.heap.size l F) := X6.out.up K7.out
      have B7 : Aside (Below w2.heap.size w2 W7) := B6.out.trans (K7.out.mono B6.out.size)
      have BB7 : Aside (BidsAt W7 (some ⟨b, o, none⟩) l) := BidsAt.up BB2.out B7.out
      have B7w : Aside (Below w.heap.size w W7) := B2.out.trans (B7.out.mono B2.out.size)
      have x4 := X7.out.2.2.2.2.2.1
      have y4 := Y7.out.2.2.2.2.2.1
      rw [List.length_set] at y4
      rw [hW7] at x4 y4
      have HW7 : Aside _ := hW7
      clear FLa K7a hW7 X6 M6 B6 K7 BB2 B2 B7
      have hv : (0 ≤ v ∧ v ≤ 1000) ∧ (side = 0 ∨ side = 1) ∧ 1 ≤ v ∧ v < 1000 := by
        simp only [rightB, Bool.and_eq_true, Bool.or_eq_true, beq_iff_eq, decide_eq_true_eq] at hr
        omega
      have HV : Aside _ := hv
      clear hv
      go_wp2_with fail
      rw [← HW7.out]
      clear x4 y4 HW7
      have x0 : ∀ n os, (grow (W7.drewN n) os).cell? ⟨w6.heap.size, 0, none⟩ = some (.int .i64 (kL l)) := fun n os => (OutAt.up X7.out (below_grow W7 n os)).2.1
      have x1 : ∀ n os, (grow (W7.drewN n) os).cell? ⟨w6.heap.size, 1, none⟩ = some (.int .i64 (setL l).1) := fun n os => (OutAt.up X7.out (below_grow W7 n os)).2.2.1
      have x2 : ∀ n os, (grow (W7.drewN n) os).cell? ⟨w6.heap.size, 2, none⟩ = some (.int .i64 (setL l).2.1) := fun n os => (OutAt.up X7.out (below_grow W7 n os)).2.2.2.1
      have x3 : ∀ n os, (grow (W7.drewN n) os).cell? ⟨w6.heap.size, 3, none⟩ = some (.int .i64 (setL l).2.2) := fun n os => (OutAt.up X7.out (below_grow W7 n os)).2.2.2.2.1
      have x4 : ∀ n os, (grow (W7.drewN n) os).cell? ⟨w6.heap.size, 4, none⟩ = some (.slice (some ⟨F, 0, none⟩) l.length l.length) := fun n os => (OutAt.up X7.out (below_grow W7 n os)).2.2.2.2.2.1
      have x5 : ∀ n os, (grow (W7.drewN n) os).cell? ⟨w6.heap.size, 5, none⟩ = some (.int .u64 (shareL l)) := fun n os => (OutAt.up X7.out (below_grow W7 n os)).2.2.2.2.2.2.1
      have xl0 : ∀ n os, (grow (W7.drewN n) os).cell? ⟨b, o + i * 2, none⟩ = some (.int .i64 side) := fun n os => by
        obtain ⟨b', o', ha, _, q1, _⟩ := BidsAt.up BB7.out (below_grow W7 n os) i hp
        injection ha with ha; injection ha with e1 e2; subst e1; subst e2
        rw [q1, E.out.1]
      have xl1 : ∀ n os, (grow (W7.drewN n) os).cell? ⟨b, o + i * 2 + 1, none⟩ = some (.int .i64 v) := fun n os => by
        obtain ⟨b', o', ha, _, _, q1⟩ := BidsAt.up BB7.out (below_grow W7 n os) i hp
        injection ha with ha; injection ha with e1 e2; subst e1; subst e2
        rw [q1, E.out.2]
      have p1 : ∀ n os, Calls Try.prog 23 #[.agg #[.int .i64 (kL l), .int .i64 (setL l).1, .int .i64 (setL l).2.1, .int .i64 (setL l).2.2, .slice (some ⟨F, 0, none⟩) l.length l.length, .int .u64 (shareL l)], .int .i64 i, .int .i64 side, .int .i64 v] (grow (W7.drewN n) os) fun e w' => e = .returned (.int .i64 (gainV l i side v)) ∧ ∃ q os', w' = grow ((grow (W7.drewN n) os).drewN q) os' := fun n os =>
        gainK_any _ _ _ (setL l).2.1 (setL l).2.2 side v F l.length l.length i (filledL l) _ (OutAt.up X7.out (below_grow W7 n os)).2.2.2.2.2.2.2 (filledL_length l) hp (set_bd l).1 (set_bd l).2 HV.out.1
      go_quiet_grown (first | (go_at_call 23; refine Calls.grown_of (p1 _ _)))
      have G8 : Gr W7 (grow (W7.drewN nq) osq) := ⟨nq, osq, rfl⟩
      generalize grow (W7.drewN nq) osq = W8 at G8 ⊢
      have Y8 : Aside (OutAt W8 w7.heap.size (l.set i (side, other)) F') := Y7.out.up G8.below
      have BB8 : Aside (BidsAt W8 (some ⟨b, o, none⟩) l) := BidsAt.up BB7.out G8.below
      have B8w : Aside (Below w.heap.size w W8) := B7w.out.trans (G8.below.mono B7w.out.size)
      clear x0 x1 x2 x3 x4 x5 xl0 xl1 p1 G8 X7 Y7 BB7 B7w
      have y0 : ∀ n os, (grow (W8.drewN n) os).cell? ⟨w7.heap.size, 0, none⟩ = some (.int .i64 (kL (l.set i (side, other)))) := fun n os => (OutAt.up Y8.out (below_grow W8 n os)).2.1
      have y1 : ∀ n os, (grow (W8.drewN n) os).cell? ⟨w7.heap.size, 1, none⟩ = some (.int .i64 (setL (l.set i (side, other))).1) := fun n os => (OutAt.up Y8.out (below_grow W8 n os)).2.2.1
      have y2 : ∀ n os, (grow (W8.drewN n) os).cell? ⟨w7.heap.size, 2, none⟩ = some (.int .i64 (setL (l.set i (side, other))).2.1) := fun n os => (OutAt.up Y8.out (below_grow W8 n os)).2.2.2.1
      have y3 : ∀ n os, (grow (W8.drewN n) os).cell? ⟨w7.heap.size, 3, none⟩ = some (.int .i64 (setL (l.set i (side, other))).2.2) := fun n os => (OutAt.up Y8.out (below_grow W8 n os)).2.2.2.2.1
      have y4 : ∀ n os, (grow (W8.drewN n) os).cell? ⟨w7.heap.size, 4, none⟩ = some (.slice (some ⟨F', 0, none⟩) l.length l.length) := fun n os => by have := (OutAt.up Y8.out (below_grow W8 n os)).2.2.2.2.2.1; rwa [List.length_set] at this
      have y5 : ∀ n os, (grow (W8.drewN n) os).cell? ⟨w7.heap.size, 5, none⟩ = some (.int .u64 (shareL (l.set i (side, other)))) := fun n os => (OutAt.up Y8.out (below_grow W8 n os)).2.2.2.2.2.2.1
      have yl0 : ∀ n os, (grow (W8.drewN n) os).cell? ⟨b, o + i * 2, none⟩ = some (.int .i64 side) := fun n os => by
        obtain ⟨b', o', ha, _, q1, _⟩ := BidsAt.up BB8.out (below_grow W8 n os) i hp
        injection ha with ha; injection ha with e1 e2; subst e1; subst e2
        rw [q1, E.out.1]
      have yl1 : ∀ n os, (grow (W8.drewN n) os).cell? ⟨b, o + i * 2 + 1, none⟩ = some (.int .i64 v) := fun n os => by
        obtain ⟨b', o', ha, _, _, q1⟩ := BidsAt.up BB8.out (below_grow W8 n os) i hp
        injection ha with ha; injection ha with e1 e2; subst e1; subst e2
        rw [q1, E.out.2]
      have p1 : ∀ n os, Calls Try.prog 23 #[.agg #[.int .i64 (kL (l.set i (side, other))), .int .i64 (setL (l.set i (side, other))).1, .int .i64 (setL (l.set i (side, other))).2.1, .int .i64 (setL (l.set i (side, other))).2.2, .slice (some ⟨F', 0, none⟩) l.length l.length, .int .u64 (shareL (l.set i (side, other)))], .int .i64 i, .int .i64 side, .int .i64 v] (grow (W8.drewN n) os) fun e w' => e = .returned (.int .i64 (gainV (l.set i (side, other)) i side v)) ∧ ∃ q os', w' = grow ((grow (W8.drewN n) os).drewN q) os' := fun n os =>
        gainK_any _ _ _ (setL (l.set i (side, other))).2.1 (setL (l.set i (side, other))).2.2 side v F' l.length l.length i (filledL (l.set i (side, other))) _ (OutAt.up Y8.out (below_grow W8 n os)).2.2.2.2.2.2.2 (by rw [filledL_length, List.length_set]) hp (set_bd _).1 (set_bd _).2 HV.out.1
      go_wp2_with fail
      go_quiet_grown (first | (go_at_call 23; refine Calls.grown_of (p1 _ _)))
      have B9 : Aside (Below w.heap.size w (grow (W8.drewN nq) osq)) := B8w.out.trans ((below_grow W8 nq osq).mono B8w.out.size)
      clear y0 y1 y2 y3 y4 y5 yl0 yl1 p1
      have T := truthful_pure l i hp side v other HV.out.2.1 HV.out.2.2.1 HV.out.2.2.2
      have el : l.set i (side, v) = l := by
        have : l[i] = (side, v) := by
          rw [← getD_lt hp]; exact Prod.ext E.out.1 E.out.2
        rw [← this]; exact List.set_getElem_self hp
      rw [el] at T
      generalize gainV l i side v = ga at T ⊢
      generalize gainV (l.set i (side, other)) i side v = gb at T ⊢
      clear el
      have t1 := T.1
      have t2 := T.2
      have d1 : decide (0 ≤ ga) = true := decide_eq_true t1
      have d2 : decide (gb ≤ ga) = true := decide_eq_true t2
      clear T
      go_wp2
      go_ret
      exact ⟨rfl, B9.out⟩
    · have hr' : rightB (side, v) = false := by simpa using hr
      rw [hr']
      go_wp2
      go_ret
      exact ⟨rfl, B1.out.trans ((Gr.below G2.out).mono B1.out.size)⟩
#print axioms truthful_any
end Go.Proofs.Yteeplklhbhaicaa
/- The walk of firsts. -/
namespace Go.Proofs.Yteeplklhbhaicaa
open Go.Shelf Go.RowKit Go.Lib Go.Sort

/-- is i passed over for k? -/
def passed (l : List (Int × Int)) (fl : List Bool) (i k : Nat) : Prop :=
  rightB (l.getD i (0, 0)) = true ∧ fl.getD i false = false ∧ fl.getD k false = true ∧ (l.getD k (0, 0)).1 = (l.getD i (0, 0)).1 ∧
  (((l.getD i (0, 0)).1 ≠ 1 ∧ ((l.getD i (0, 0)).2 > (l.getD k (0, 0)).2 ∨ ((l.getD i (0, 0)).2 = (l.getD k (0, 0)).2 ∧ i < k))) ∨
   ((l.getD i (0, 0)).1 = 1 ∧ ((l.getD i (0, 0)).2 < (l.getD k (0, 0)).2 ∨ ((l.getD i (0, 0)).2 = (l.getD k (0, 0)).2 ∧ i < k))))

set_option maxHeartbeats 1000000 in
set_option maxRecDepth 100000 in
theorem firsts_any (l : List (Int × Int)) (a : Option Addr) (cap : Nat) (x0 x1 x2 x3 x5 : Int) (F capF : Nat) (fl : List Bool) (w : World) (hB : BidsAt w a l) (hF : BoolsAt w F fl) (hfl : fl.length = l.length) (hl : l.length ≤ 1048576)
    (hno : ∀ i k, i < l.length → k < l.length → ¬ passed l fl i k) (hpr : ∀ i, i < l.length → fl.getD i false = true → 1 ≤ (l.getD i (0, 0)).2 ∧ (l.getD i (0, 0)).2 < 1000) :
    Calls Try.prog 21 #[.slice a l.length cap, .agg #[.int .i64 x0, .int .i64 x1, .int .i64 x2, .int .i64 x3, .slice (some ⟨F, 0, none⟩) l.length capF, .int .u64 x5]] w fun e w' => e = .returned (.bool true) ∧ Gr w w' := by
  have mixed : Try.prog.follows .mixedOrders = true := by kernel_rfl
  have HB : Aside _ := hB
  have HF : Aside _ := hF
  have HN : Aside _ := hno
  have HP : Aside _ := hpr
  clear hB hF hno hpr
  go_enter Try.func21, Try.ntmps21
  go_wp2
  obtain ⟨W0, hW0⟩ : ∃ W0, W0 = w.alloc (Obj.cells #[Value.int IntKind.i64 x0, Value.int IntKind.i64 x1, Value.int IntKind.i64 x2, Value.int IntKind.i64 x3, Value.slice (some ⟨F, 0, none⟩) l.length capF, Value.int IntKind.u64 x5] 26) := ⟨_, rfl⟩
  have G0 : Aside (Gr w W0) := by rw [hW0]; exact (Gr.refl w).alloc _
  have X0 : Aside (w.heap.size < W0.heap.size ∧ W0.cell? ⟨w.heap.size, 4, none⟩ = some (Value.slice (some ⟨F, 0, none⟩) l.length capF)) := by rw [hW0]; exact ⟨by simp, by simp⟩
  rw [← hW0]
  clear hW0
  go_loopg [5] l.length (fun kx s wr => ∃ i : Nat, s = .int .i64 i ∧ i ≤ l.length ∧ l.length - i ≤ kx ∧ Aside (Gr W0 wr))
  case atStart => exact ⟨0, rfl, Nat.zero_le _, by omega, Gr.refl _⟩
  case round =>
    obtain ⟨i, rfl, hi, hkx, G⟩ := hrel
    by_cases hlt : i < l.length
    · have hltz : (i : Int) < (l.length : Int) := by omega
      have GW : Aside (Gr w wr) := G0.out.trans G.out
      obtain ⟨b, o, rfl, hbl, y1, y2⟩ := BidsAt.gr HB.out GW.out i hlt
      obtain ⟨s1, e1⟩ : ∃ x, (l.getD i (0, 0)).1 = x := ⟨_, rfl⟩
      obtain ⟨p1, e2⟩ : ∃ x, (l.getD i (0, 0)).2 = x := ⟨_, rfl⟩
      rw [e1] at y1
      rw [e2] at y2
      have E : Aside ((l.getD i (0, 0)).1 = s1 ∧ (l.getD i (0, 0)).2 = p1) := ⟨e1, e2⟩
      clear e1 e2
      go_wp2_with fail
      refine (right_any s1 p1 wr).mono ?_
      rintro e w2 ⟨rfl, G2a⟩
      have G2 : Aside (Gr W0 w2) := G.out.trans G2a
      have GW2 : Aside (Gr w w2) := G0.out.trans G2.out
      have z1 := Gr.cell G2a hbl y1
      have z2 := Gr.cell G2a hbl y2
      have xc : w2.cell? ⟨w.heap.size, 4, none⟩ = some (Value.slice (some ⟨F, 0, none⟩) l.length capF) := Gr.cell G2.out X0.out.1 X0.out.2
      have FB : Aside (BoolsAt w2 F fl) := (GW2.out.below.block F (BoolsAt.lt HF.out)).trans HF.out
      have BB : Aside (BidsAt w2 (some ⟨b, o, none⟩) l) := BidsAt.gr HB.out GW2.out
      have fi := FB.out.cell (i := i) (by omega)
      obtain ⟨f1, hf1⟩ : ∃ f, fl.getD i false = f := ⟨_, rfl⟩
      rw [hf1] at fi
      have FI : Aside (fl.getD i false = f1) := hf1
      obtain ⟨r1, hr1⟩ : ∃ r, rightB (s1, p1) = r := ⟨_, rfl⟩
      rw [hr1]
      have RI : Aside (rightB (s1, p1) = r1) := hr1
      clear hf1 hr1 y1 y2 G2a GW
      go_wp2_with fail
      go_loopg [7] l.length (fun kx s wq => ∃ k m : Nat, s = .int .i64 k ∧ k ≤ l.length ∧ l.length - k ≤ kx ∧ wq = w2.drewN m)
      case atStart => exact ⟨0, 0, rfl, Nat.zero_le _, by omega, rfl⟩
      case round =>
        obtain ⟨k, m, rfl, hk, hkx2, rfl⟩ := hrel
        have GE : Aside (Gr W0 (w2.drewN m)) := G2.out.drewN m
        have xcm : (w2.drewN m).cell? ⟨w.heap.size, 4, none⟩ = some (Value.slice (some ⟨F, 0, none⟩) l.length capF) := xc
        have fim : (w2.drewN m).cell? ⟨F, i, none⟩ = some (.bool f1) := fi
        by_cases hin : k < l.length ∧ r1 = true ∧ f1 = false
        · obtain ⟨hkl, rfl, rfl⟩ := hin
          have hkz : (k : Int) < (l.length : Int) := by omega
          obtain ⟨b', o', ha, _, u1, u2⟩ := BB.out k hkl
          injection ha with ha; injection ha with q1 q2
          subst q1; subst q2
          have fk := FB.out.cell (i := k) (by omega)
          obtain ⟨s2, e1⟩ : ∃ x, (l.getD k (0, 0)).1 = x := ⟨_, rfl⟩
          obtain ⟨p2, e2⟩ : ∃ x, (l.getD k (0, 0)).2 = x := ⟨_, rfl⟩
          obtain ⟨f2, hf2⟩ : ∃ f, fl.getD k false = f := ⟨_, rfl⟩
          rw [e1] at u1
          rw [e2] at u2
          rw [hf2] at fk
          have K : Aside ((l.getD k (0, 0)).1 = s2 ∧ (l.getD k (0, 0)).2 = p2 ∧ fl.getD k false = f2) := ⟨e1, e2, hf2⟩
          clear e1 e2 hf2
          have a1 : ∀ n, ((w2.drewN m).drewN n).cell? ⟨b, o + i * 2, none⟩ = some (.int .i64 s1) := fun n => z1
          have a2 : ∀ n, ((w2.drewN m).drewN n).cell? ⟨b, o + i * 2 + 1, none⟩ = some (.int .i64 p1) := fun n => z2
          have a3 : ∀ n, ((w2.drewN m).drewN n).cell? ⟨b, o + k * 2, none⟩ = some (.int .i64 s2) := fun n => u1
          have a4 : ∀ n, ((w2.drewN m).drewN n).cell? ⟨b, o + k * 2 + 1, none⟩ = some (.int .i64 p2) := fun n => u2
          have a5 : ∀ n, ((w2.drewN m).drewN n).cell? ⟨F, k, none⟩ = some (.bool f2) := fun n => fk
          have a6 : ∀ n, ((w2.drewN m).drewN n).cell? ⟨w.heap.size, 4, none⟩ = some (Value.slice (some ⟨F, 0, none⟩) l.length capF) := fun n => xc
          have DR : Aside (∀ n, (w2.drewN m).drewN n = w2.drewN (m + n)) := fun n => World.drewN_drewN ..
          generalize hwq : w2.drewN m = wq at a1 a2 a3 a4 a5 a6 DR xcm fim GE ⊢
          clear hwq
          by_cases hf2 : f2 = true
          · subst hf2
            by_cases hs : s2 = s1
            · subst hs
              have hsb : (s2 == s2) = true := by simp
              -- who is filled has a price that may be
              have pr2 := HP.out k hkl K.out.2.2
              rw [K.out.2.1] at pr2
              have pr1 : (1 ≤ p1 ∧ p1 < 1000) := by
                have := RI.out
                simp only [rightB, Bool.and_eq_true, decide_eq_true_eq] at this
                omega
              have NP := HN.out i k hlt hkl
              have ND : Aside (¬ ((s2 ≠ 1 ∧ (p1 > p2 ∨ (p1 = p2 ∧ i < k))) ∨ (s2 = 1 ∧ (p1 < p2 ∨ (p1 = p2 ∧ i < k))))) := fun h => NP ⟨by
                  have : l.getD i (0, 0) = (s2, p1) := Prod.ext E.out.1 E.out.2
                  rw [this]; exact RI.out, FI.out, K.out.2.2, by rw [K.out.1, E.out.1], by rw [E.out.1, E.out.2, K.out.2.1]; exact h⟩
              clear NP
              have wr1 : IntKind.i64.wrap (p1 - p2) = p1 - p2 := by rw [IntKind.wrap_i64]; omega
              have wr2 : IntKind.i64.wrap (-(p1 - p2)) = -(p1 - p2) := by rw [IntKind.wrap_i64]; omega
              go_wp2_with fail
              go_quiet (fail)
              have b1 : ∀ n, ((wq.drewN nq).drewN n).cell? ⟨b, o + i * 2, none⟩ = some (.int .i64 s2) := fun n => by rw [World.drewN_drewN]; exact a1 _
              have b2 : ∀ n, ((wq.drewN nq).drewN n).cell? ⟨b, o + i * 2 + 1, none⟩ = some (.int .i64 p1) := fun n => by rw [World.drewN_drewN]; exact a2 _
              have b4 : ∀ n, ((wq.drewN nq).drewN n).cell? ⟨b, o + k * 2 + 1, none⟩ = some (.int .i64 p2) := fun n => by rw [World.drewN_drewN]; exact a4 _
              obtain ⟨m1, hm1⟩ : ∃ m1, m1 = nq := ⟨_, rfl⟩
              have DR2 : Aside (∀ n, (wq.drewN nq).drewN n = w2.drewN (m + (m1 + n))) := fun n => by rw [World.drewN_drewN, hm1]; exact DR.out _
              clear hm1
              clear a1 a2 a3 a4 a5 a6 DR xcm fim GE
              generalize wq.drewN nq = wq2 at b1 b2 b4 DR2 ⊢
              clear nq
              go_wp2_with fail
              go_quiet (fail)
              by_cases hs1 : s2 = 1
              · subst hs1
                by_cases hpe : p1 = p2
                · subst hpe
                  have hik : ¬ i < k := by have := ND.out; omega
                  have hikz : ¬ (i : Int) < (k : Int) := by omega
                  clear ND
                  go_wp2
                  go_roundg (l.length - (k + 1))
                  case measure => omega
                  case rel => exact ⟨k + 1, _, by go_num, by omega, Nat.le_refl _, DR2.out nq⟩
                · have hnz : ((-(p1 - p2)) == 0) = false := beq_eq_false_iff_ne.2 (by omega)
                  have hng : ¬ 0 < (-(p1 - p2)) := by have := ND.out; omega
                  clear ND
                  go_wp2
                  go_roundg (l.length - (k + 1))
                  case measure => omega
                  case rel => exact ⟨k + 1, _, by go_num, by omega, Nat.le_refl _, DR2.out nq⟩
              · have hs1b : (s2 == 1) = false := beq_eq_false_iff_ne.2 hs1
                by_cases hpe : p1 = p2
                · subst hpe
                  have hik : ¬ i < k := by have := ND.out; omega
                  have hikz : ¬ (i : Int) < (k : Int) := by omega
                  clear ND
                  go_wp2
                  go_roundg (l.length - (k + 1))
                  case measure => omega
                  case rel => exact ⟨k + 1, _, by go_num, by omega, Nat.le_refl _, DR2.out nq⟩
                · have hnz : ((p1 - p2) == 0) = false := beq_eq_false_iff_ne.2 (by omega)
                  have hng : ¬ 0 < (p1 - p2) := by have := ND.out; omega
                  clear ND
                  go_wp2
                  go_roundg (l.length - (k + 1))
                  case measure => omega
                  case rel => exact ⟨k + 1, _, by go_num, by omega, Nat.le_refl _, DR2.out nq⟩
            · have hsb : (s2 == s1) = false := beq_eq_false_iff_ne.2 hs
              go_wp2_with fail
              go_quiet (fail)
              go_wp2
              go_roundg (l.length - (k + 1))
              case measure => omega
              case rel => exact ⟨k + 1, _, by go_num, by omega, Nat.le_refl _, DR.out nq⟩
          · have hf2' : f2 = false := by simpa using hf2
            subst hf2'
            go_wp2_with fail
            go_quiet (fail)
            go_wp2
            go_roundg (l.length - (k + 1))
            case measure => omega
            case rel => exact ⟨k + 1, _, by go_num, by omega, Nat.le_refl _, DR.out nq⟩
        · -- the inner loop ends
          generalize w2.drewN m = wq at xcm fim GE ⊢
          by_cases hkl : k < l.length
          · have hkz : (k : Int) < (l.length : Int) := by omega
            cases r1 with
            | false =>
              go_wp2
              go_roundg (l.length - (i + 1))
              case measure => omega
              case rel => exact ⟨i + 1, by go_num, by omega, Nat.le_refl _, GE⟩
            | true =>
              cases f1 with
              | false => exact absurd ⟨hkl, rfl, rfl⟩ hin
              | true =>
                go_wp2
                go_roundg (l.length - (i + 1))
                case measure => omega
                case rel => exact ⟨i + 1, by go_num, by omega, Nat.le_refl _, GE⟩
          · have hkz : ¬ (k : Int) < (l.length : Int) := by omega
            go_wp2
            go_roundg (l.length - (i + 1))
            case measure => omega
            case rel => exact ⟨i + 1, by go_num, by omega, Nat.le_refl _, GE⟩
    · have hltz : ¬ (i : Int) < (l.length : Int) := by omega
      go_wp2
      go_ret
      exact ⟨rfl, G0.out.trans G.out⟩
#print axioms firsts_any
end Go.Proofs.Yteeplklhbhaicaa
/- When a share is one, when it is nought: no program in this text. -/
namespace Go.Proofs.Yteeplklhbhaicaa.Flt
open Ieee

theorem cut_le (n drop : Nat) (k : Nat) (hk : drop ≤ n.log2 + 2) (h : n / 2 ^ drop ≤ k) : Toward.even.cut false n drop ≤ k + 1 ∧ n / 2 ^ drop ≤ Toward.even.cut false n drop := by
  have h2 : ∃ bb : Bool, Toward.even.cut false n drop = n / 2 ^ drop + bb.toNat := by
    unfold Toward.cut
    rw [Nat.min_eq_left hk, Nat.shiftLeft_eq, Nat.one_mul]
    exact ⟨_, rfl⟩
  obtain ⟨bb, hb⟩ := h2
  rw [hb]
  cases bb <;> simp <;> omega

/-- the word of a magnitude of L + 1 digits at a place. -/
theorem nearest_word (mag L drop : Nat) (place : Int) (h0 : 0 < mag) (hL : mag.log2 = L) (hd : L = 52 + drop) (hp : -1000 ≤ place) (hp2 : place + (L : Int) ≤ 100) (kmax : Nat) (hk : mag / 2 ^ drop ≤ kmax) (hkm : kmax < 9007199254740992) :
    ∃ kept, kept ≤ kmax + 1 ∧ mag / 2 ^ drop ≤ kept ∧ double.nearest false mag place = (place + (drop : Int) + 1074).toNat * 4503599627370496 + kept := by
  have hc := cut_le mag drop kmax (by omega) hk
  refine ⟨Toward.even.cut false mag drop, hc.1, hc.2, ?_⟩
  unfold Format.nearest
  rw [if_neg (by omega), d_frac, d_least, d_binade, d_inf, hL]
  have e1 : max (place + (L : Int) - ((52 : Nat) : Int)) (-1074) = place + (drop : Int) := by omega
  have e2 : (place - (place + (drop : Int))).toNat = 0 := by omega
  have e3 : (place + (drop : Int) - place).toNat = drop := by omega
  have e4 : (place + (drop : Int) - -1074).toNat = (place + (drop : Int) + 1074).toNat := by omega
  simp only [e1, e2, e3, e4, Nat.shiftLeft_zero]
  rw [Nat.min_eq_left (by have := hc.1; omega)]
  rfl

theorem div_lt_of {x n k : Nat} (hn : 0 < n) (h : x < k * n) : x / n < k := (Nat.div_lt_iff_lt_mul hn).2 h
theorem le_div_of {x n k : Nat} (hn : 0 < n) (h : k * n ≤ x) : k ≤ x / n := (Nat.le_div_iff_mul_le hn).2 h

theorem log2_of {n k : Nat} (h1 : 2 ^ k ≤ n) (h2 : n < 2 ^ (k + 1)) : n.log2 = k := by
  have h0 : n ≠ 0 := by
    intro e; subst e
    have := Nat.pow_pos (n := k) (show 0 < 2 by omega)
    omega
  have a := (Nat.log2_lt h0 (k := k + 1)).2 h2
  have b : ¬ n.log2 < k := fun hc => by
    have := (Nat.log2_lt h0 (k := k)).1 hc
    omega
  omega

theorem share_lt (a b : Nat) (ha : 0 < a) (hab : a < b) (hb : b < 9007199254740992) :
    ∃ r, double.div (floatOfInt .f64 (a : Int)) (floatOfInt .f64 (b : Int)) = some r ∧ 0 < r ∧ r < 4607182418800017408 := by
  refine ⟨_, div_whole a b ha (by omega) (by omega) hb, ?_⟩
  have ma := sig_bd a ha (by omega)
  have mb := sig_bd b (by omega) hb
  have la := log2_lt a ha (by omega)
  have lb := log2_lt b (by omega) hb
  have hlog : a.log2 ≤ b.log2 := by
    have h1 := log2_bd a ha
    have h2 := log2_bd b (by omega)
    rcases Nat.lt_or_ge b.log2 a.log2 with h | h
    · exfalso
      have : 2 ^ (b.log2 + 1) ≤ 2 ^ a.log2 := Nat.pow_le_pow_right (by omega) h
      omega
    · exact h
  -- the digits
  obtain ⟨Q, hQ⟩ : ∃ Q, Q = sig a * 18014398509481984 / sig b := ⟨_, rfl⟩
  have hst : (sig a * 18014398509481984 % sig b != 0).toNat ≤ 1 := by cases (sig a * 18014398509481984 % sig b != 0) <;> simp
  have hmag : quoMag (sig a) (sig b) = 2 * Q + (sig a * 18014398509481984 % sig b != 0).toNat := by unfold quoMag; rw [hQ]
  generalize (sig a * 18014398509481984 % sig b != 0).toNat = st at hst hmag
  have q1 : 9007199254740992 ≤ Q := by rw [hQ]; exact le_div_of (by omega) (by omega)
  have q2 : Q < 36028797018963968 := by rw [hQ]; exact div_lt_of (by omega) (by omega)
  rw [hmag]
  by_cases h55 : 18014398509481984 ≤ Q
  · -- 56 digits
    have hL : (2 * Q + st).log2 = 55 := log2_of (by omega) (by omega)
    by_cases he : a.log2 + 1 = b.log2
    · -- just below one: it does not round up
      have hs2 : sig a + 2 ≤ 2 * sig b := by
        have e1 : sig a = a * 2 ^ (52 - a.log2) := rfl
        have e2 : 2 * sig b = b * 2 ^ (52 - a.log2) := by
          unfold sig
          rw [show 52 - a.log2 = (52 - b.log2) + 1 by omega, Nat.pow_succ]
          rw [Nat.mul_comm 2, Nat.mul_assoc]
        have hp : 2 ≤ 2 ^ (52 - a.log2) := by
          have : 2 ^ 1 ≤ 2 ^ (52 - a.log2) := Nat.pow_le_pow_right (by omega) (by omega)
          simpa using this
        have hm : a * 2 ^ (52 - a.log2) + 2 ^ (52 - a.log2) ≤ b * 2 ^ (52 - a.log2) := by
          rw [← Nat.succ_mul]; exact Nat.mul_le_mul_right _ hab
        rw [e1, e2]; omega
      have q3 : Q < 36028797018963964 := by rw [hQ]; exact div_lt_of (by omega) (by omega)
      obtain ⟨kept, k1, k2, e⟩ := nearest_word (2 * Q + st) 55 3 ((a.log2 : Int) - (b.log2 : Int) - 55) (by omega) hL rfl (by omega) (by omega) 9007199254740990 (by have : (2 * Q + st) / 2 ^ 3 = (2 * Q + st) / 8 := rfl; omega) (by omega)
      rw [e]
      have e5 : ((a.log2 : Int) - (b.log2 : Int) - 55 + ((3 : Nat) : Int) + 1074).toNat = 1021 := by omega
      rw [e5]; omega
    · have hne : a.log2 ≠ b.log2 := fun h => by
        have hm : sig a < sig b := by
          unfold sig; rw [h]; exact Nat.mul_lt_mul_of_pos_right hab (Nat.pow_pos (by omega))
        have : Q < 18014398509481984 := by rw [hQ]; exact div_lt_of (by omega) (by omega)
        omega
      obtain ⟨kept, k1, k2, e⟩ := nearest_word (2 * Q + st) 55 3 ((a.log2 : Int) - (b.log2 : Int) - 55) (by omega) hL rfl (by omega) (by omega) 9007199254740991 (by have : (2 * Q + st) / 2 ^ 3 = (2 * Q + st) / 8 := rfl; omega) (by omega)
      rw [e]
      have e5 : ((a.log2 : Int) - (b.log2 : Int) - 55 + ((3 : Nat) : Int) + 1074).toNat ≤ 1020 := by omega
      have e6 : 1 ≤ ((a.log2 : Int) - (b.log2 : Int) - 55 + ((3 : Nat) : Int) + 1074).toNat := by omega
      generalize ((a.log2 : Int) - (b.log2 : Int) - 55 + ((3 : Nat) : Int) + 1074).toNat = z at e5 e6
      omega
  · have hL : (2 * Q + st).log2 = 54 := log2_of (by omega) (by omega)
    by_cases he : a.log2 = b.log2
    · have hm : sig a + 1 ≤ sig b := by
        unfold sig; rw [he]; exact Nat.mul_lt_mul_of_pos_right hab (Nat.pow_pos (by omega))
      have q3 : Q < 18014398509481982 := by rw [hQ]; exact div_lt_of (by omega) (by omega)
      obtain ⟨kept, k1, k2, e⟩ := nearest_word (2 * Q + st) 54 2 ((a.log2 : Int) - (b.log2 : Int) - 55) (by omega) hL rfl (by omega) (by omega) 9007199254740990 (by have : (2 * Q + st) / 2 ^ 2 = (2 * Q + st) / 4 := rfl; omega) (by omega)
      rw [e]
      have e5 : ((a.log2 : Int) - (b.log2 : Int) - 55 + ((2 : Nat) : Int) + 1074).toNat = 1021 := by omega
      rw [e5]; omega
    · obtain ⟨kept, k1, k2, e⟩ := nearest_word (2 * Q + st) 54 2 ((a.log2 : Int) - (b.log2 : Int) - 55) (by omega) hL rfl (by omega) (by omega) 9007199254740991 (by have : (2 * Q + st) / 2 ^ 2 = (2 * Q + st) / 4 := rfl; omega) (by omega)
      rw [e]
      have e5 : ((a.log2 : Int) - (b.log2 : Int) - 55 + ((2 : Nat) : Int) + 1074).toNat ≤ 1020 := by omega
      have e6 : 1 ≤ ((a.log2 : Int) - (b.log2 : Int) - 55 + ((2 : Nat) : Int) + 1074).toNat := by omega
      generalize ((a.log2 : Int) - (b.log2 : Int) - 55 + ((2 : Nat) : Int) + 1074).toNat = z at e5 e6
      omega

theorem share_eq (a : Nat) (ha : 0 < a) (hb : a < 9007199254740992) : double.div (floatOfInt .f64 (a : Int)) (floatOfInt .f64 (a : Int)) = some 4607182418800017408 := by
  rw [div_whole a a ha hb ha hb]
  have mb := sig_bd a ha hb
  have e : quoMag (sig a) (sig a) = 36028797018963968 := by
    unfold quoMag
    rw [Nat.mul_comm (sig a), Nat.mul_div_cancel _ (by omega), Nat.mul_mod_left]
    rfl
  have e2 : double.nearest false 36028797018963968 (-55) = 4607182418800017408 := by kernel_rfl
  rw [e, show ((a.log2 : Int) - (a.log2 : Int) - 55) = -55 by omega, e2]
#print axioms share_lt
#print axioms share_eq
end Go.Proofs.Yteeplklhbhaicaa.Flt
