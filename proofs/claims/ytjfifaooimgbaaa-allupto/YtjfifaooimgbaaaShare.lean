import Derived.Test.YtjfifaooimgbaaaTruth
import Derived.Laws.CopyRow
import Derived.Laws.OwnMore
/- The walk of Clear. -/
namespace Go.Proofs.Ytjfifaooimgbaaa
open Go.Shelf Go.RowKit Go.Lib Go.Sort

theorem BidsAt.up {w w' : World} {a : Option Addr} {s : List (Int × Int)} (h : BidsAt w a s) (hb : Below w.heap.size w w') : BidsAt w' a s := fun i hi => by
  obtain ⟨b, o, ha, h1, h2, h3⟩ := h i hi
  exact ⟨b, o, ha, Nat.lt_of_lt_of_le h1 hb.size, (hb.cell (p := ⟨b, o + i * 2, none⟩) h1).trans h2, (hb.cell (p := ⟨b, o + i * 2 + 1, none⟩) h1).trans h3⟩
theorem below_alloc (w : World) (o : Obj) : Below w.heap.size w (w.alloc o) := (Below.refl _ _).alloc (Nat.le_refl _) _

/-- the boxes of the two lines. -/
def Bx (x1 x2 : Nat) (v v' : Value) (W : World) : Prop := x1 < W.heap.size ∧ x2 < W.heap.size ∧ W.cell? ⟨x1, 0, none⟩ = some v ∧ W.cell? ⟨x1, 1, none⟩ = some (Value.int IntKind.i64 0) ∧ W.cell? ⟨x2, 0, none⟩ = some v' ∧ W.cell? ⟨x2, 1, none⟩ = some (Value.int IntKind.i64 1000)
theorem Bx.gr {x1 x2 : Nat} {v v' : Value} {W W' : World} (h : Bx x1 x2 v v' W) (g : Gr W W') : Bx x1 x2 v v' W' :=
  ⟨Nat.lt_of_lt_of_le h.1 g.below.size, Nat.lt_of_lt_of_le h.2.1 g.below.size, g.cell h.1 h.2.2.1, g.cell h.1 h.2.2.2.1, g.cell h.2.1 h.2.2.2.2.1, g.cell h.2.1 h.2.2.2.2.2⟩
theorem Bx.gb {x1 x2 F : Nat} {v v' : Value} {W W' : World} (h : Bx x1 x2 v v' W) (g : W.grownBy W' (some F)) (h1 : x1 ≠ F) (h2 : x2 ≠ F) : Bx x1 x2 v v' W' := by
  have e1 := g.block x1 h.1 (fun e => h1 (by injection e))
  have e2 := g.block x2 h.2.1 (fun e => h2 (by injection e))
  exact ⟨Nat.lt_of_lt_of_le h.1 g.size, Nat.lt_of_lt_of_le h.2.1 g.size, (World.cell?_of_block (a := ⟨x1, 0, none⟩) e1).trans h.2.2.1, (World.cell?_of_block (a := ⟨x1, 1, none⟩) e1).trans h.2.2.2.1, (World.cell?_of_block (a := ⟨x2, 0, none⟩) e2).trans h.2.2.2.2.1, (World.cell?_of_block (a := ⟨x2, 1, none⟩) e2).trans h.2.2.2.2.2⟩

theorem Try.info4 : (Try.prog.info? 4).map (fun i => (i.zero, i.size, i.bytes)) = some (some (.bool false), 1, 1) := by kernel_rfl
theorem made_bools (n : Nat) : madeCells (Value.bool false).cells (n * 1) = ((List.replicate n false).map Value.bool).toArray := by
  apply Array.ext
  · simp [madeCells]
  · intro i h1 h2
    simp [madeCells, Value.cells, Nat.mod_one]

theorem make_bools (n : Nat) (w : World) (hn : n ≤ 8796093022208) : (Instr.makeSlice 23 (.int .i64 (n : Int)) (.int .i64 (n : Int))).run Try.prog w = .ok (.slice (some ⟨w.heap.size, 0, none⟩) n n) (w.alloc (.cells ((List.replicate n false).map Value.bool).toArray 4)) := by
  obtain ⟨i0, hi, hz0, hz1, hz2⟩ := info_parts Try.info4
  have h := run_make (P := Try.prog) w 23 4 i0 (.bool false) Try.underlying23 hi hz0 .i64 .i64 (n : Int) (n : Int) (by omega) (Int.le_refl _) (by rw [hz2]; omega) (by omega)
  rw [hz1, Int.toNat_natCast, made_bools] at h
  exact h

theorem bits_run (b : Nat) (w : World) : (callFunc 61 #[.float .f64 b]).run Try.prog w = .ok (.value (.int .u64 b)) w := by
  rw [run_callFunc_extern (e := Extern.MathFloatBits.float64bits) Try.func61 (by kernel_rfl) (by kernel_rfl) (by kernel_rfl) (by kernel_rfl)]
  rfl

set_option maxHeartbeats 1000000 in
theorem clearing_any (l : List (Int × Int)) (a : Option Addr) (cap : Nat) (w : World) (hB : BidsAt w a l) (hl : l.length ≤ 8796093022208) :
    Calls Try.prog 40 #[.slice a l.length cap] w fun e w' => ∃ F, e = .returned (.agg #[.int .i64 (kL l), .int .i64 (setL l).1, .int .i64 (setL l).2.1, .int .i64 (setL l).2.2, .slice (some ⟨F, 0, none⟩) l.length l.length, .int .u64 (shareL l)]) ∧ BoolsAt w' F (filledL l) ∧ w.heap.size ≤ F ∧ Below w.heap.size w w' := by
  have mixed : Try.prog.follows .mixedOrders = true := by kernel_rfl
  have HB : Aside _ := hB
  clear hB
  go_enter Try.func40, Try.ntmps40
  go_wp2_with fail
  obtain ⟨W0, hW0⟩ : ∃ W0, W0 = w.alloc (Obj.cells #[Value.int IntKind.i64 0, Value.int IntKind.i64 0, Value.int IntKind.i64 0, Value.int IntKind.i64 0, Value.slice none 0 0, Value.int IntKind.u64 0] 26) := ⟨_, rfl⟩
  have Z0 : Aside (W0.heap.size = w.heap.size + 1 ∧ Below w.heap.size w W0 ∧ W0.cell? ⟨w.heap.size, 0, none⟩ = some (.int .i64 0) ∧ W0.cell? ⟨w.heap.size, 1, none⟩ = some (.int .i64 0) ∧ W0.cell? ⟨w.heap.size, 2, none⟩ = some (.int .i64 0) ∧ W0.cell? ⟨w.heap.size, 3, none⟩ = some (.int .i64 0) ∧ W0.cell? ⟨w.heap.size, 4, none⟩ = some (.slice none 0 0) ∧ W0.cell? ⟨w.heap.size, 5, none⟩ = some (.int .u64 0) ∧ ∀ j, W0.frozen? ⟨w.heap.size, j, none⟩ = false) := by
    rw [hW0]
    exact ⟨by simp, (Below.refl _ _).alloc (Nat.le_refl _) _, by simp, by simp, by simp, by simp, by simp, by simp, fun j => by simp⟩
  rw [← hW0]
  clear hW0
  have HB0 : Aside (BidsAt W0 a l) := BidsAt.up HB.out Z0.out.2.1
  clear HB
  refine (lineUp_any 53 _ better0_at swo_cmpI' 0 0 l a cap W0 HB0.out hl).mono ?_
  rintro e w1 ⟨v, s, rfl, hsl, P1, La, B1⟩
  obtain rfl := buyers_eq P1
  obtain ⟨ab, cb, rfl, hcb, hbb⟩ := La
  clear P1 hsl
  -- the first box
  obtain ⟨W1, hW1⟩ : ∃ W1, W1 = w1.alloc (Obj.cells #[Value.slice ab (buyersOf l).length cb, Value.int IntKind.i64 0] 109) := ⟨_, rfl⟩
  have BX1 : Aside (W1.heap.size = w1.heap.size + 1 ∧ Below w1.heap.size w1 W1 ∧ W1.cell? ⟨w1.heap.size, 0, none⟩ = some (Value.slice ab (buyersOf l).length cb) ∧ W1.cell? ⟨w1.heap.size, 1, none⟩ = some (Value.int IntKind.i64 0)) := by
    rw [hW1]; exact ⟨by simp, below_alloc _ _, by simp, by simp⟩
  have K1 : Aside (Below W0.heap.size W0 W1) := B1.trans (BX1.out.2.1.mono B1.size)
  have HB1 : Aside (BidsAt W1 a l) := HB0.out.up K1.out
  have BB1 : Aside (BidsAt W1 ab (buyersOf l)) := hbb.up BX1.out.2.1
  have PB : Aside (Priced (buyersOf l)) := buyers_priced l
  have PS : Aside (Priced (sellersOf l)) := sellers_priced l
  have hbl := buyers_le l
  have hsl := sellers_le l
  clear hbb B1 HB0
  go_wp2_with fail
  rw [← hW1]
  clear hW1
  refine (lineUp_any 55 _ better1_at swo_cmpI 1 1000 l a cap W1 HB1.out hl).mono ?_
  rintro e w2 ⟨v, s, rfl, hsl2, P1, La, B2⟩
  obtain rfl := sellers_eq P1
  obtain ⟨az, cs, rfl, hcs, hss⟩ := La
  clear P1 hsl2
  obtain ⟨W2, hW2⟩ : ∃ W2, W2 = w2.alloc (Obj.cells #[Value.slice az (sellersOf l).length cs, Value.int IntKind.i64 1000] 109) := ⟨_, rfl⟩
  have BX2 : Aside (W2.heap.size = w2.heap.size + 1 ∧ Below w2.heap.size w2 W2 ∧ W2.cell? ⟨w2.heap.size, 0, none⟩ = some (Value.slice az (sellersOf l).length cs) ∧ W2.cell? ⟨w2.heap.size, 1, none⟩ = some (Value.int IntKind.i64 1000)) := by
    rw [hW2]; exact ⟨by simp, below_alloc _ _, by simp, by simp⟩
  have K2 : Aside (Below W1.heap.size W1 W2) := B2.trans (BX2.out.2.1.mono B2.size)
  have BB2 : Aside (BidsAt W2 ab (buyersOf l)) := BB1.out.up K2.out
  have SS2 : Aside (BidsAt W2 az (sellersOf l)) := hss.up BX2.out.2.1
  have q1 : w1.heap.size < W1.heap.size := by have := BX1.out.1; omega
  have c10 := (K2.out.cell (p := ⟨w1.heap.size, 0, none⟩) q1).trans BX1.out.2.2.1
  have c11 := (K2.out.cell (p := ⟨w1.heap.size, 1, none⟩) q1).trans BX1.out.2.2.2
  have c20 := BX2.out.2.2.1
  have c21 := BX2.out.2.2.2
  have bx1 : Aside (Bx w1.heap.size w2.heap.size (Value.slice ab (buyersOf l).length cb) (Value.slice az (sellersOf l).length cs) W2) := ⟨by have := K2.out.size; omega, by have := BX2.out.1; omega, c10, c11, c20, c21⟩
  have K : Aside (Below W0.heap.size W0 W2) := K1.out.trans (K2.out.mono K1.out.size)
  clear hss B2 BB1 BX2 K1 K2 BX1 HB1 q1
  rw [hW2] at c10 c11 c20 c21
  have HW2 : Aside _ := hW2
  clear hW2
  go_wp2_with fail
  clear c10 c11 c20 c21
  rw [← HW2.out]
  clear HW2
  refine (countPairs_any ab az cb cs (buyersOf l) (sellersOf l) W2 BB2.out SS2.out PB.out PS.out (by omega) (by omega)).mono ?_
  rintro e w3 ⟨k, rfl, hK, hk1, hk2, G3⟩
  have ek : k = kL l := hK.unique (kOf_is PB.out PS.out)
  subst ek
  have bx3 : Aside _ := bx1.out.gr G3
  have BB3 : Aside _ := BB2.out.gr G3
  have SS3 : Aside _ := SS2.out.gr G3
  have K3 : Aside (Below W0.heap.size W0 w3) := K.out.trans (G3.below.mono K.out.size)
  clear hK G3 bx1 BB2 SS2 K
  have c10 := bx3.out.2.2.1
  have c11 := bx3.out.2.2.2.1
  have c20 := bx3.out.2.2.2.2.1
  have c21 := bx3.out.2.2.2.2.2
  go_wp2_with fail
  refine (settle_any ab az cb cs (buyersOf l) (sellersOf l) (kL l) w3 BB3.out SS3.out PB.out PS.out (by omega)).mono ?_
  rintro e w4 ⟨rfl, G4⟩
  have bx4 : Aside _ := Bx.gr bx3.out G4
  have BB4 : Aside _ := BidsAt.gr BB3.out G4
  have SS4 : Aside _ := BidsAt.gr SS3.out G4
  have K4 : Aside (Below W0.heap.size W0 w4) := K3.out.trans (G4.below.mono K3.out.size)
  clear G4 bx3 BB3 SS3 K3 c10 c11 c20 c21
  have hmk := make_bools l.length w4 hl
  obtain ⟨W5, hW5⟩ : ∃ W5, W5 = w4.alloc (.cells ((List.replicate l.length false).map Value.bool).toArray 4) := ⟨_, rfl⟩
  have FL5 : Aside (BoolsAt W5 w4.heap.size (List.replicate l.length false)) := by
    rw [hW5]; show (w4.heap.push _)[w4.heap.size]? = _
    simp
  have G5 : Gr w4 W5 := by rw [hW5]; exact (Gr.refl w4).alloc _
  have z5 : W5.heap.size = w4.heap.size + 1 := by rw [hW5]; simp
  have bx5 : Aside _ := Bx.gr bx4.out G5
  have BB5 : Aside _ := BidsAt.gr BB4.out G5
  have SS5 : Aside _ := BidsAt.gr SS4.out G5
  have K5 : Aside (Below W0.heap.size W0 W5) := K4.out.trans (G5.below.mono K4.out.size)
  have nb : Aside (∀ b o, ab = some ⟨b, o, none⟩ → 0 < (buyersOf l).length → b ≠ w4.heap.size) := fun b o hb h0 => by
    obtain ⟨b', o', ha', h1, _⟩ := BB4.out 0 h0
    rw [ha'] at hb; injection hb with hb; injection hb with e1; omega
  have ns : Aside (∀ b o, az = some ⟨b, o, none⟩ → 0 < (sellersOf l).length → b ≠ w4.heap.size) := fun b o hb h0 => by
    obtain ⟨b', o', ha', h1, _⟩ := SS4.out 0 h0
    rw [ha'] at hb; injection hb with hb; injection hb with e1; omega
  have x1 : w1.heap.size ≠ w4.heap.size := by have := bx4.out.1; omega
  have x2 : w2.heap.size ≠ w4.heap.size := by have := bx4.out.2.1; omega
  have X12 : Aside (w1.heap.size ≠ w4.heap.size ∧ w2.heap.size ≠ w4.heap.size) := ⟨x1, x2⟩
  have x0 : Aside (w.heap.size < w4.heap.size) := by
    have h1 := Z0.out.1
    have h2 := K4.out.size
    show _ < _
    omega
  have hset := setL_le l
  have EF : Aside (settleF (buyersOf l) (sellersOf l) (kL l) = setL l) := rfl
  rw [← hW5] at hmk
  clear hW5 G5 x1 x2 bx4 BB4 SS4 K4
  have c10 := bx5.out.2.2.1
  have c11 := bx5.out.2.2.2.1
  have c20 := bx5.out.2.2.2.2.1
  have c21 := bx5.out.2.2.2.2.2
  rw [EF.out]
  go_wp2_with fail
  have hm := mark_any ab cb l.length w4.heap.size 0 (buyersOf l) (setL l).1 (List.replicate l.length false) W5 BB5.out FL5.out nb.out (fun x hx => by rw [List.length_replicate]; exact buyers_place l x hx) (by omega) hcb (by omega)
  rw [List.length_replicate] at hm
  refine hm.mono ?_
  clear hm
  rintro e w6 ⟨rfl, FLa, GBa⟩
  have FL6 : Aside _ := FLa
  have bx6 : Aside _ := Bx.gb bx5.out GBa X12.out.1 X12.out.2
  have BB6 : Aside _ := BidsAt.gb BB5.out GBa nb.out
  have SS6 : Aside _ := BidsAt.gb SS5.out GBa ns.out
  have K6 : Aside (Below W0.heap.size W0 w6) := Below.grown K5.out GBa K5.out.size (fun k hk => by injection hk with hk; have := x0.out; have := Z0.out.1; omega)
  clear FLa GBa c10 c11 c20 c21 bx5 BB5 SS5 K5 FL5 hmk z5
  have c10 := bx6.out.2.2.1
  have c11 := bx6.out.2.2.2.1
  have c20 := bx6.out.2.2.2.2.1
  have c21 := bx6.out.2.2.2.2.2
  go_wp2_with fail
  have hm := mark_any az cs l.length w4.heap.size 1000 (sellersOf l) (setL l).1 (markF (buyersOf l) (List.replicate l.length false) (setL l).1) w6 SS6.out FL6.out ns.out (fun x hx => by rw [markF_length, List.length_replicate]; exact sellers_place l x hx) (by omega) hcs (by omega)
  rw [markF_length, List.length_replicate] at hm
  refine hm.mono ?_
  clear hm
  rintro e w7 ⟨rfl, FLa, GBa⟩
  have FL7 : Aside (BoolsAt w7 w4.heap.size (filledL l)) := FLa
  have bx7 : Aside _ := Bx.gb bx6.out GBa X12.out.1 X12.out.2
  have BB7 : Aside _ := BidsAt.gb BB6.out GBa nb.out
  have SS7 : Aside _ := BidsAt.gb SS6.out GBa ns.out
  have K7 : Aside (Below W0.heap.size W0 w7) := Below.grown K6.out GBa K6.out.size (fun k hk => by injection hk with hk; have := x0.out; have := Z0.out.1; omega)
  clear FLa GBa c10 c11 c20 c21 bx6 BB6 SS6 K6 FL6
  obtain ⟨r, hr⟩ := share_some l hl
  have c10 : ∀ n os, (grow (w7.drewN n) os).cell? ⟨w1.heap.size, 0, none⟩ = some (Value.slice ab (buyersOf l).length cb) := fun n os => (Bx.gr bx7.out ⟨n, os, rfl⟩).2.2.1
  have c11 : ∀ n os, (grow (w7.drewN n) os).cell? ⟨w1.heap.size, 1, none⟩ = some (.int .i64 0) := fun n os => (Bx.gr bx7.out ⟨n, os, rfl⟩).2.2.2.1
  have c20 : ∀ n os, (grow (w7.drewN n) os).cell? ⟨w2.heap.size, 0, none⟩ = some (Value.slice az (sellersOf l).length cs) := fun n os => (Bx.gr bx7.out ⟨n, os, rfl⟩).2.2.2.2.1
  have c21 : ∀ n os, (grow (w7.drewN n) os).cell? ⟨w2.heap.size, 1, none⟩ = some (.int .i64 1000) := fun n os => (Bx.gr bx7.out ⟨n, os, rfl⟩).2.2.2.2.2
  have p1 : ∀ n os, Calls Try.prog 60 #[.agg #[.slice ab (buyersOf l).length cb, .int .i64 0], .agg #[.slice az (sellersOf l).length cs, .int .i64 1000], .int .i64 (setL l).1] (grow (w7.drewN n) os) fun e w' => e = .returned (.int .i64 (gainedL l)) ∧ ∃ q os', w' = grow ((grow (w7.drewN n) os).drewN q) os' := fun n os => gain_any ab az cb cs (buyersOf l) (sellersOf l) (setL l).1 _ (BidsAt.gr BB7.out ⟨n, os, rfl⟩) (BidsAt.gr SS7.out ⟨n, os, rfl⟩) PB.out PS.out (by omega)
  have p2 : ∀ n os, Calls Try.prog 60 #[.agg #[.slice ab (buyersOf l).length cb, .int .i64 0], .agg #[.slice az (sellersOf l).length cs, .int .i64 1000], .int .i64 (kL l)] (grow (w7.drewN n) os) fun e w' => e = .returned (.int .i64 (canL l)) ∧ ∃ q os', w' = grow ((grow (w7.drewN n) os).drewN q) os' := fun n os => gain_any ab az cb cs (buyersOf l) (sellersOf l) (kL l) _ (BidsAt.gr BB7.out ⟨n, os, rfl⟩) (BidsAt.gr SS7.out ⟨n, os, rfl⟩) PB.out PS.out (by omega)
  have p3 : ∀ n os, Calls Try.prog 59 #[.int .i64 (gainedL l), .int .i64 (canL l)] (grow (w7.drewN n) os) fun e w' => e = .returned (.float .f64 (shareL l)) ∧ ∃ q os', w' = grow ((grow (w7.drewN n) os).drewN q) os' := fun n os => (shareOf_any (gainedL l) (canL l) _ r hr).mono fun e w' ⟨h1, h2⟩ => ⟨h1, 0, #[], by rw [h2, grow_empty]; rfl⟩
  clear hr
  go_wp2_with fail
  go_quiet_grown (first | (go_at_call 59; refine Calls.grown_of (p3 _ _)) | (go_at_call_of 60 (Value.int IntKind.i64 (((setL l).1 : Nat) : Int)); refine Calls.grown_of (p1 _ _)) | (go_at_call 60; refine Calls.grown_of (p2 _ _)))
  have G8 : Gr w7 (grow (w7.drewN nq) osq) := ⟨nq, osq, rfl⟩
  generalize grow (w7.drewN nq) osq = w8 at G8 ⊢
  have FL8 : Aside (BoolsAt w8 w4.heap.size (filledL l)) := (G8.below.block _ FL7.out.lt).trans FL7.out
  have K8 : Aside (Below W0.heap.size W0 w8) := K7.out.trans (G8.below.mono K7.out.size)
  clear c10 c11 c20 c21 p1 p2 p3 G8 FL7 K7 bx7 BB7 SS7
  have hbits := bits_run (shareL l) w8
  have r0 : w.heap.size < W0.heap.size := by have := Z0.out.1; omega
  have d0 := (K8.out.cell (p := ⟨w.heap.size, 0, none⟩) r0).trans Z0.out.2.2.1
  have d1 := (K8.out.cell (p := ⟨w.heap.size, 1, none⟩) r0).trans Z0.out.2.2.2.1
  have d2 := (K8.out.cell (p := ⟨w.heap.size, 2, none⟩) r0).trans Z0.out.2.2.2.2.1
  have d3 := (K8.out.cell (p := ⟨w.heap.size, 3, none⟩) r0).trans Z0.out.2.2.2.2.2.1
  have d4 := (K8.out.cell (p := ⟨w.heap.size, 4, none⟩) r0).trans Z0.out.2.2.2.2.2.2.1
  have d5 := (K8.out.cell (p := ⟨w.heap.size, 5, none⟩) r0).trans Z0.out.2.2.2.2.2.2.2.1
  have f0 := (K8.out.frozen (p := ⟨w.heap.size, 0, none⟩) r0).trans (Z0.out.2.2.2.2.2.2.2.2 0)
  have f1 := (K8.out.frozen (p := ⟨w.heap.size, 1, none⟩) r0).trans (Z0.out.2.2.2.2.2.2.2.2 1)
  have f2 := (K8.out.frozen (p := ⟨w.heap.size, 2, none⟩) r0).trans (Z0.out.2.2.2.2.2.2.2.2 2)
  have f3 := (K8.out.frozen (p := ⟨w.heap.size, 3, none⟩) r0).trans (Z0.out.2.2.2.2.2.2.2.2 3)
  have f4 := (K8.out.frozen (p := ⟨w.heap.size, 4, none⟩) r0).trans (Z0.out.2.2.2.2.2.2.2.2 4)
  have f5 := (K8.out.frozen (p := ⟨w.heap.size, 5, none⟩) r0).trans (Z0.out.2.2.2.2.2.2.2.2 5)
  go_wp2
  refine bodyPost_ret (v := .agg #[.int .i64 (kL l), .int .i64 (setL l).1, .int .i64 (setL l).2.1, .int .i64 (setL l).2.2, .slice (some ⟨w4.heap.size, 0, none⟩) l.length l.length, .int .u64 (shareL l)]) (by simp [results, Try.results40, go_sem, d0, d1, d2, d3, d4, d5]) rfl ?_
  have B8 : Below w.heap.size w w8 := Z0.out.2.1.trans (K8.out.mono (by omega))
  have hx0 := x0.out
  refine ⟨w4.heap.size, rfl, ?_, by omega, ?_⟩
  · unfold BoolsAt
    rw [Below.heap_setCell _ _ _ _ (show w4.heap.size ≠ w.heap.size by omega), Below.heap_setCell _ _ _ _ (show w4.heap.size ≠ w.heap.size by omega), Below.heap_setCell _ _ _ _ (show w4.heap.size ≠ w.heap.size by omega), Below.heap_setCell _ _ _ _ (show w4.heap.size ≠ w.heap.size by omega), Below.heap_setCell _ _ _ _ (show w4.heap.size ≠ w.heap.size by omega), Below.heap_setCell _ _ _ _ (show w4.heap.size ≠ w.heap.size by omega)]
    exact FL8.out
  · exact (((((B8.setCell (Nat.le_refl _) _).setCell (Nat.le_refl _) _).setCell (Nat.le_refl _) _).setCell (Nat.le_refl _) _).setCell (Nat.le_refl _) _).setCell (Nat.le_refl _) _

end Go.Proofs.Ytjfifaooimgbaaa
/- The walks of pick, right, gain; what make and copy of a list of orders do. -/
namespace Go.Proofs.Ytjfifaooimgbaaa
open Go.Shelf Go.RowKit Go.Lib Go.Sort

theorem ret_int {k : IntKind} {a b : Int} (h : a = b) : Ending.returned (.int k a) = .returned (.int k b) := by rw [h]
theorem ret_bool {a b : Bool} (h : a = b) : Ending.returned (.bool a) = .returned (.bool b) := by rw [h]
def pickN (c : Int) (n : Nat) : Nat := ((if c < 0 then -(c + 1) else c) % (n : Int)).toNat
theorem pickN_lt (c : Int) (n : Nat) (hn : 0 < n) : pickN c n < n := by
  unfold pickN
  have h1 := Int.emod_nonneg (if c < 0 then -(c + 1) else c) (show (n : Int) ≠ 0 by omega)
  have h2 := Int.emod_lt_of_pos (if c < 0 then -(c + 1) else c) (show (0 : Int) < n by omega)
  omega

/-- may the order be? -/
def rightB (b : Int × Int) : Bool := (b.1 == 0 || b.1 == 1) && decide (1 ≤ b.2) && decide (b.2 < 1000)

/-- what an order comes to. -/
def gainR (f : Bool) (side v pay get : Int) : Int := if f = true then (if side = 0 then v - pay else get - v) else 0

/-! ### make and copy of orders -/
theorem Try.info29 : (Try.prog.info? 29).map (fun i => (i.zero, i.size, i.bytes)) = some (some (.agg #[.int .i64 0, .int .i64 0]), 2, 16) := by kernel_rfl
theorem flatO_set : ∀ (l : List (Int × Int)) (i : Nat) (q : Int), i < l.length → flatO (l.set i ((l.getD i (0, 0)).1, q)) = (flatO l).set (i * 2 + 1) (.int .i64 q)
  | [], i, q, h => by simp at h
  | x :: r, 0, q, _ => by simp [flatO, encO]
  | x :: r, i + 1, q, h => by
    have ih := flatO_set r i q (by simpa using h)
    rw [List.getD_cons_succ, List.set_cons_succ]
    simp only [flatO, List.flatMap_cons] at ih ⊢
    rw [ih, show (i + 1) * 2 + 1 = (encO x).length + (i * 2 + 1) by simp [encO]; omega, List.set_append_right _ _ (by omega)]
    simp

/-- the block M holds these orders, and nothing else. -/
def BidsIn (w : World) (M : Nat) (l : List (Int × Int)) : Prop := w.heap[M]? = some (.cells (flatO l).toArray 29 (0, 0))
theorem BidsIn.lt {w : World} {M : Nat} {l : List (Int × Int)} (h : BidsIn w M l) : M < w.heap.size := (Array.getElem?_eq_some_iff.1 h).1
theorem BidsIn.cell {w : World} {M : Nat} {l : List (Int × Int)} (h : BidsIn w M l) {j : Nat} {v : Value} (hv : (flatO l)[j]? = some v) : w.cell? ⟨M, j, none⟩ = some v := by
  unfold BidsIn at h
  simp only [World.cell?, h]
  simpa using hv
theorem BidsIn.frozen {w : World} {M : Nat} {l : List (Int × Int)} (h : BidsIn w M l) (j : Nat) : w.frozen? ⟨M, j, none⟩ = false := by
  unfold BidsIn at h
  simp [World.frozen?, h]
theorem flatO_at (l : List (Int × Int)) (i : Nat) (hi : i < l.length) : (flatO l)[i * 2]? = some (.int .i64 (l.getD i (0, 0)).1) ∧ (flatO l)[i * 2 + 1]? = some (.int .i64 (l.getD i (0, 0)).2) := by
  have hd : l.getD i default = l.getD i (0, 0) := by
    rw [List.getD_eq_getElem?_getD, List.getD_eq_getElem?_getD, List.getElem?_eq_getElem hi]; rfl
  constructor
  · rw [flatO_get l (i * 2) (by omega), show i * 2 / 2 = i by omega, show i * 2 % 2 = 0 by omega, hd]; rfl
  · rw [flatO_get l (i * 2 + 1) (by omega), show (i * 2 + 1) / 2 = i by omega, show (i * 2 + 1) % 2 = 1 by omega, hd]; rfl
theorem BidsIn.bids {w : World} {M : Nat} {l : List (Int × Int)} (h : BidsIn w M l) : BidsAt w (some ⟨M, 0, none⟩) l := fun i hi =>
  ⟨M, 0, rfl, h.lt, by rw [Nat.zero_add]; exact h.cell (flatO_at l i hi).1, by rw [Nat.zero_add]; exact h.cell (flatO_at l i hi).2⟩
theorem BidsIn.set {w : World} {M : Nat} {l : List (Int × Int)} (h : BidsIn w M l) (i : Nat) (q : Int) (hi : i < l.length) : BidsIn (w.setCell ⟨M, i * 2 + 1, none⟩ (.int .i64 q)) M (l.set i ((l.getD i (0, 0)).1, q)) := by
  unfold BidsIn at h ⊢
  rw [flatO_set l i q hi]
  simp [World.setCell, Array.getElem?_modify, h]
end Go.Proofs.Ytjfifaooimgbaaa
/- The walk of prices. -/
namespace Go.Proofs.Ytjfifaooimgbaaa
open Go.Shelf Go.RowKit Go.Lib Go.Sort

theorem Try.info3 : (Try.prog.info? 3).map (fun i => (i.zero, i.size, i.bytes)) = some (some (.int .i64 0), 1, 8) := by kernel_rfl

/-- is x no worse than p, on this side? -/
def noWorse (side : Int) (x p : Int) : Bool := if side = 0 then decide (p ≤ x) else decide (x ≤ p)

/-- the prices of the orders among the first k, the best first. -/
structure PriceL (side : Int) (l : List (Int × Int)) (k : Nat) (out : List Int) : Prop where
  perm : out.Perm ((Clr.candTo side l k).map (fun x => x.2))
  sort : out.Pairwise (fun x y => noWorse side x y = true)

theorem PriceL.start (side : Int) (l : List (Int × Int)) : PriceL side l 0 [] := ⟨List.Perm.refl _, List.Pairwise.nil⟩
theorem PriceL.miss {side : Int} {l : List (Int × Int)} {k : Nat} {out : List Int} (h : PriceL side l k out) (hm : Clr.okB side (l.getD k (0, 0)) = false) : PriceL side l (k + 1) out := by
  refine ⟨?_, h.sort⟩
  rw [Clr.candTo_miss hm]; exact h.perm
theorem noWorse_trans {side x y z : Int} (h1 : noWorse side x y = true) (h2 : noWorse side y z = true) : noWorse side x z = true := by
  unfold noWorse at *
  split <;> rename_i hs
  · rw [if_pos hs] at h1 h2; simp only [decide_eq_true_eq] at *; omega
  · rw [if_neg hs] at h1 h2; simp only [decide_eq_true_eq] at *; omega
theorem noWorse_total {side x y : Int} (h1 : noWorse side x y = false) : noWorse side y x = true := by
  unfold noWorse at *
  split <;> rename_i hs
  · rw [if_pos hs] at h1; simp only [decide_eq_true_eq, decide_eq_false_iff_not] at *; omega
  · rw [if_neg hs] at h1; simp only [decide_eq_true_eq, decide_eq_false_iff_not] at *; omega
theorem PriceL.hit {side : Int} {l : List (Int × Int)} {k : Nat} {out : List Int} (h : PriceL side l k out) (hm : Clr.okB side (l.getD k (0, 0)) = true) (at0 : Nat)
    (hlo : ∀ j, j < at0 → noWorse side (out.getD j 0) (l.getD k (0, 0)).2 = true) (hhi : at0 = out.length ∨ noWorse side (out.getD at0 0) (l.getD k (0, 0)).2 = false) (hle : at0 ≤ out.length) :
    PriceL side l (k + 1) (out.take at0 ++ (l.getD k (0, 0)).2 :: out.drop at0) := by
  obtain ⟨p, hp⟩ : ∃ p, (l.getD k (0, 0)).2 = p := ⟨_, rfl⟩
  rw [hp] at hlo hhi
  refine ⟨?_, ?_⟩
  · rw [Clr.candTo_hit hm, List.map_append, hp]
    refine List.perm_middle.trans ?_
    rw [List.take_append_drop]
    exact (h.perm.cons p).trans (List.perm_append_singleton _ _).symm
  · have hs := h.sort
    rw [← List.take_append_drop at0 out, List.pairwise_append] at hs
    have hd : ∀ y ∈ out.drop at0, noWorse side p y = true := fun y hy => by
      obtain ⟨j, hj, rfl⟩ := List.getElem_of_mem hy
      have hj' : at0 + j < out.length := by simp at hj; omega
      rcases hhi with hhi | hhi
      · simp at hj; omega
      · have h1 := noWorse_total hhi
        rw [List.getElem_drop]
        have e0 : out.getD at0 0 = out[at0] := by rw [List.getD_eq_getElem?_getD, List.getElem?_eq_getElem (show at0 < out.length by omega)]; rfl
        rw [e0] at h1
        by_cases hj0 : j = 0
        · subst hj0; simpa using h1
        · exact noWorse_trans h1 (List.pairwise_iff_getElem.1 h.sort at0 (at0 + j) (by omega) hj' (by omega))
    have ht : ∀ x ∈ out.take at0, noWorse side x p = true := fun x hx => by
      obtain ⟨j, hj, rfl⟩ := List.getElem_of_mem hx
      have hj' : j < at0 ∧ j < out.length := by simp at hj; omega
      have := hlo j hj'.1
      rw [List.getElem_take]
      rwa [List.getD_eq_getElem?_getD, List.getElem?_eq_getElem hj'.2] at this
    rw [hp, List.pairwise_append]
    refine ⟨hs.1, List.pairwise_cons.2 ⟨hd, hs.2.1⟩, fun x hx y hy => ?_⟩
    rcases List.mem_cons.1 hy with rfl | hy
    · exact ht x hx
    · exact noWorse_trans (ht x hx) (hd y hy)
theorem PriceL.le {side : Int} {l : List (Int × Int)} {k : Nat} {out : List Int} (h : PriceL side l k out) : out.length ≤ k := by
  rw [h.perm.length_eq, List.length_map]; exact Clr.candTo_le side l k

/-- a list of numbers that a call of one's own made lies in w. -/
def IntsAt (w : World) (av : Option Addr) (out : List Int) : Prop := ∀ j, j < out.length → ∃ g, av = some ⟨g, 0, none⟩ ∧ g < w.heap.size ∧ w.cell? ⟨g, j, none⟩ = some (.int .i64 (out.getD j 0))
theorem ints_of_own {w : World} {base : Nat} {v : Value} {out : List Int} (h : w.ownsRow base 3 1 v out.length (out.map (Value.int .i64))) :
    ∃ av capv, v = .slice av out.length capv ∧ out.length ≤ capv ∧ capv ≤ maxLen ∧ IntsAt w av out ∧ ((av = none ∧ out = [] ∧ capv = 0) ∨ ∃ g, av = some ⟨g, 0, none⟩ ∧ base ≤ g ∧ g < w.heap.size) := by
  rcases h.2 with ⟨rfl, hn⟩ | ⟨g, cap, cur, rfl, hb, hg, h1, h2, h3, h4⟩
  · have : out = [] := List.length_eq_zero_iff.1 hn
    subst this
    exact ⟨none, 0, rfl, Nat.le_refl _, by simp [maxLen], fun j hj => by simp at hj, Or.inl ⟨rfl, rfl, rfl⟩⟩
  · have hlt := (Array.getElem?_eq_some_iff.1 hg).1
    refine ⟨some ⟨g, 0, none⟩, cap, rfl, h1, h2, fun j hj => ⟨g, rfl, hlt, ?_⟩, Or.inr ⟨g, rfl, hb, hlt⟩⟩
    have := h.cells (g := g) rfl j (.int .i64 (out.getD j 0)) (by rw [List.getElem?_map, List.getElem?_eq_getElem hj, List.getD_eq_getElem?_getD, List.getElem?_eq_getElem hj]; rfl)
    rwa [Addr.add_lit, Nat.zero_add] at this
theorem own_gr {w w' : World} {base : Nat} {v : Value} {n : Nat} {xs : List Value} (h : w.ownsRow base 3 1 v n xs) (g : Gr w w') : w'.ownsRow base 3 1 v n xs :=
  h.kept (gb_gr g none) (by cases v.ownBlock with
    | none => exact Or.inl rfl
    | some k => exact Or.inr (by simp))

theorem own_base {w : World} {base base' : Nat} {v : Value} {n : Nat} {xs : List Value} (h : w.ownsRow base' 3 1 v n xs) (hb : base ≤ base') : w.ownsRow base 3 1 v n xs := by
  refine ⟨h.1, ?_⟩
  rcases h.2 with h2 | ⟨g, cap, cur, e1, e2, e3⟩
  · exact Or.inl h2
  · exact Or.inr ⟨g, cap, cur, e1, Nat.le_trans hb e2, e3⟩
/-- a goal at which the walk stands still. -/
def Halted (p : Prop) : Prop := p
theorem Halted.out {p : Prop} (h : Halted p) : p := h
theorem Halted.mk {p : Prop} (h : p) : Halted p := h
/-- an append whose run is known. -/
theorem wpList_append_by {P : Program} {w : World} {ops : Array Oper} {rest : List Oper} {o : Oper} {a : Act} {Q : Exit → Act → World → Prop} (hgd : o.guard = none) (s x : Operand) (t : TypeId)
    (ho : o.op = .call { callee := .builtin .append, args := #[s, x], argTypes := #[t, t] }) (v xv : Value) (hs : a.eval s = v) (hx : a.eval x = xv) (v' : Value) (w' : World)
    (hr : (Builtin.append_ #[t, t] o.type #[v, xv]).run P w = .ok v' w') (h : wpList P ops Q rest (a.put o.dst v') w') : wpList P ops Q (o :: rest) a w := by
  refine wpList_plain hgd fun K hK => ?_
  unfold Oper.wp
  simp [execOp, ho, resolve, invoke, builtin, hs, hx, hr, Result.andThen]
  exact hK _ _ h

end Go.Proofs.Ytjfifaooimgbaaa
/- The walk of Truthful. -/
namespace Go.Proofs.Ytjfifaooimgbaaa
open Go.Shelf Go.RowKit Go.Lib Go.Sort

/-- an outcome in a box of six cells. -/
def OutAt (w : World) (X : Nat) (l : List (Int × Int)) (F : Nat) : Prop := X < w.heap.size ∧ w.cell? ⟨X, 0, none⟩ = some (.int .i64 (kL l)) ∧ w.cell? ⟨X, 1, none⟩ = some (.int .i64 (setL l).1) ∧ w.cell? ⟨X, 2, none⟩ = some (.int .i64 (setL l).2.1) ∧ w.cell? ⟨X, 3, none⟩ = some (.int .i64 (setL l).2.2) ∧ w.cell? ⟨X, 4, none⟩ = some (.slice (some ⟨F, 0, none⟩) l.length l.length) ∧ w.cell? ⟨X, 5, none⟩ = some (.int .u64 (shareL l)) ∧ BoolsAt w F (filledL l)
theorem OutAt.up {w w' : World} {X : Nat} {l : List (Int × Int)} {F : Nat} (h : OutAt w X l F) (b : Below w.heap.size w w') : OutAt w' X l F :=
  ⟨Nat.lt_of_lt_of_le h.1 b.size, (b.cell (p := ⟨X, 0, none⟩) h.1).trans h.2.1, (b.cell (p := ⟨X, 1, none⟩) h.1).trans h.2.2.1, (b.cell (p := ⟨X, 2, none⟩) h.1).trans h.2.2.2.1, (b.cell (p := ⟨X, 3, none⟩) h.1).trans h.2.2.2.2.1, (b.cell (p := ⟨X, 4, none⟩) h.1).trans h.2.2.2.2.2.1, (b.cell (p := ⟨X, 5, none⟩) h.1).trans h.2.2.2.2.2.2.1, (b.block F h.2.2.2.2.2.2.2.lt).trans h.2.2.2.2.2.2.2⟩
theorem set_bd (l : List (Int × Int)) : (0 ≤ (setL l).2.1 ∧ (setL l).2.1 ≤ 1000) ∧ (0 ≤ (setL l).2.2 ∧ (setL l).2.2 ≤ 1000) := by
  unfold setL settleF midF
  have b1 := (buyers_priced l).bd 0 (by omega) (kL l - 1)
  have b2 := (sellers_priced l).bd 1000 (by omega) (kL l - 1)
  have b3 := (buyers_priced l).bd 0 (by omega) (kL l)
  have b4 := (sellers_priced l).bd 1000 (by omega) (kL l)
  split
  · simp
  · split
    · simp only []; omega
    · split
      · simp
      · exact ⟨b1, b2⟩

end Go.Proofs.Ytjfifaooimgbaaa
/- When a share is one, when it is nought: no program in this text. -/
namespace Go.Proofs.Ytjfifaooimgbaaa.Flt
open Ieee

theorem cut_le (n drop : Nat) (k : Nat) (hk : drop ≤ n.log2 + 2) (h : n / 2 ^ drop ≤ k) : Toward.even.cut false n drop ≤ k + 1 ∧ n / 2 ^ drop ≤ Toward.even.cut false n drop := by
  have h2 : ∃ bb : Bool, Toward.even.cut false n drop = n / 2 ^ drop + bb.toNat := by
    unfold Toward.cut
    rw [Nat.min_eq_left hk, Nat.shiftLeft_eq, Nat.one_mul]
    exact ⟨_, rfl⟩
  obtain ⟨bb, hb⟩ := h2
  rw [hb]
  cases bb <;> simp <;> omega

/-- the word of a magnitude of L + 1 digits at a place. -/
theorem nearest_word (mag L drop : Nat) (place : Int) (h0 : 0 < mag) (hL : mag.log2 = L) (hd : L = 52 + drop) (hp : -1000 ≤ place) (hp2 : place + (L : Int) ≤ 100) (kmax : Nat) (hk : mag / 2 ^ drop ≤ kmax) (hkm : kmax < 9007199254740992) :
    ∃ kept, kept ≤ kmax + 1 ∧ mag / 2 ^ drop ≤ kept ∧ double.nearest false mag place = (place + (drop : Int) + 1074).toNat * 4503599627370496 + kept := by
  have hc := cut_le mag drop kmax (by omega) hk
  refine ⟨Toward.even.cut false mag drop, hc.1, hc.2, ?_⟩
  unfold Format.nearest
  rw [if_neg (by omega), d_frac, d_least, d_binade, d_inf, hL]
  have e1 : max (place + (L : Int) - ((52 : Nat) : Int)) (-1074) = place + (drop : Int) := by omega
  have e2 : (place - (place + (drop : Int))).toNat = 0 := by omega
  have e3 : (place + (drop : Int) - place).toNat = drop := by omega
  have e4 : (place + (drop : Int) - -1074).toNat = (place + (drop : Int) + 1074).toNat := by omega
  simp only [e1, e2, e3, e4, Nat.shiftLeft_zero]
  rw [Nat.min_eq_left (by have := hc.1; omega)]
  rfl

theorem div_lt_of {x n k : Nat} (hn : 0 < n) (h : x < k * n) : x / n < k := (Nat.div_lt_iff_lt_mul hn).2 h
theorem le_div_of {x n k : Nat} (hn : 0 < n) (h : k * n ≤ x) : k ≤ x / n := (Nat.le_div_iff_mul_le hn).2 h

theorem log2_of {n k : Nat} (h1 : 2 ^ k ≤ n) (h2 : n < 2 ^ (k + 1)) : n.log2 = k := by
  have h0 : n ≠ 0 := by
    intro e; subst e
    have := Nat.pow_pos (n := k) (show 0 < 2 by omega)
    omega
  have a := (Nat.log2_lt h0 (k := k + 1)).2 h2
  have b : ¬ n.log2 < k := fun hc => by
    have := (Nat.log2_lt h0 (k := k)).1 hc
    omega
  omega

theorem share_lt (a b : Nat) (ha : 0 < a) (hab : a < b) (hb : b < 9007199254740992) :
    ∃ r, double.div (floatOfInt .f64 (a : Int)) (floatOfInt .f64 (b : Int)) = some r ∧ 0 < r ∧ r < 4607182418800017408 := by
  refine ⟨_, div_whole a b ha (by omega) (by omega) hb, ?_⟩
  have ma := sig_bd a ha (by omega)
  have mb := sig_bd b (by omega) hb
  have la := log2_lt a ha (by omega)
  have lb := log2_lt b (by omega) hb
  have hlog : a.log2 ≤ b.log2 := by
    have h1 := log2_bd a ha
    have h2 := log2_bd b (by omega)
    rcases Nat.lt_or_ge b.log2 a.log2 with h | h
    · exfalso
      have : 2 ^ (b.log2 + 1) ≤ 2 ^ a.log2 := Nat.pow_le_pow_right (by omega) h
      omega
    · exact h
  -- the digits
  obtain ⟨Q, hQ⟩ : ∃ Q, Q = sig a * 18014398509481984 / sig b := ⟨_, rfl⟩
  have hst : (sig a * 18014398509481984 % sig b != 0).toNat ≤ 1 := by cases (sig a * 18014398509481984 % sig b != 0) <;> simp
  have hmag : quoMag (sig a) (sig b) = 2 * Q + (sig a * 18014398509481984 % sig b != 0).toNat := by unfold quoMag; rw [hQ]
  generalize (sig a * 18014398509481984 % sig b != 0).toNat = st at hst hmag
  have q1 : 9007199254740992 ≤ Q := by rw [hQ]; exact le_div_of (by omega) (by omega)
  have q2 : Q < 36028797018963968 := by rw [hQ]; exact div_lt_of (by omega) (by omega)
  rw [hmag]
  by_cases h55 : 18014398509481984 ≤ Q
  · -- 56 digits
    have hL : (2 * Q + st).log2 = 55 := log2_of (by omega) (by omega)
    by_cases he : a.log2 + 1 = b.log2
    · -- just below one: it does not round up
      have hs2 : sig a + 2 ≤ 2 * sig b := by
        have e1 : sig a = a * 2 ^ (52 - a.log2) := rfl
        have e2 : 2 * sig b = b * 2 ^ (52 - a.log2) := by
          unfold sig
          rw [show 52 - a.log2 = (52 - b.log2) + 1 by omega, Nat.pow_succ]
          rw [Nat.mul_comm 2, Nat.mul_assoc]
        have hp : 2 ≤ 2 ^ (52 - a.log2) := by
          have : 2 ^ 1 ≤ 2 ^ (52 - a.log2) := Nat.pow_le_pow_right (by omega) (by omega)
          simpa using this
        have hm : a * 2 ^ (52 - a.log2) + 2 ^ (52 - a.log2) ≤ b * 2 ^ (52 - a.log2) := by
          rw [← Nat.succ_mul]; exact Nat.mul_le_mul_right _ hab
        rw [e1, e2]; omega
      have q3 : Q < 36028797018963964 := by rw [hQ]; exact div_lt_of (by omega) (by omega)
      obtain ⟨kept, k1, k2, e⟩ := nearest_word (2 * Q + st) 55 3 ((a.log2 : Int) - (b.log2 : Int) - 55) (by omega) hL rfl (by omega) (by omega) 9007199254740990 (by have : (2 * Q + st) / 2 ^ 3 = (2 * Q + st) / 8 := rfl; omega) (by omega)
      rw [e]
      have e5 : ((a.log2 : Int) - (b.log2 : Int) - 55 + ((3 : Nat) : Int) + 1074).toNat = 1021 := by omega
      rw [e5]; omega
    · have hne : a.log2 ≠ b.log2 := fun h => by
        have hm : sig a < sig b := by
          unfold sig; rw [h]; exact Nat.mul_lt_mul_of_pos_right hab (Nat.pow_pos (by omega))
        have : Q < 18014398509481984 := by rw [hQ]; exact div_lt_of (by omega) (by omega)
        omega
      obtain ⟨kept, k1, k2, e⟩ := nearest_word (2 * Q + st) 55 3 ((a.log2 : Int) - (b.log2 : Int) - 55) (by omega) hL rfl (by omega) (by omega) 9007199254740991 (by have : (2 * Q + st) / 2 ^ 3 = (2 * Q + st) / 8 := rfl; omega) (by omega)
      rw [e]
      have e5 : ((a.log2 : Int) - (b.log2 : Int) - 55 + ((3 : Nat) : Int) + 1074).toNat ≤ 1020 := by omega
      have e6 : 1 ≤ ((a.log2 : Int) - (b.log2 : Int) - 55 + ((3 : Nat) : Int) + 1074).toNat := by omega
      generalize ((a.log2 : Int) - (b.log2 : Int) - 55 + ((3 : Nat) : Int) + 1074).toNat = z at e5 e6
      omega
  · have hL : (2 * Q + st).log2 = 54 := log2_of (by omega) (by omega)
    by_cases he : a.log2 = b.log2
    · have hm : sig a + 1 ≤ sig b := by
        unfold sig; rw [he]; exact Nat.mul_lt_mul_of_pos_right hab (Nat.pow_pos (by omega))
      have q3 : Q < 18014398509481982 := by rw [hQ]; exact div_lt_of (by omega) (by omega)
      obtain ⟨kept, k1, k2, e⟩ := nearest_word (2 * Q + st) 54 2 ((a.log2 : Int) - (b.log2 : Int) - 55) (by omega) hL rfl (by omega) (by omega) 9007199254740990 (by have : (2 * Q + st) / 2 ^ 2 = (2 * Q + st) / 4 := rfl; omega) (by omega)
      rw [e]
      have e5 : ((a.log2 : Int) - (b.log2 : Int) - 55 + ((2 : Nat) : Int) + 1074).toNat = 1021 := by omega
      rw [e5]; omega
    · obtain ⟨kept, k1, k2, e⟩ := nearest_word (2 * Q + st) 54 2 ((a.log2 : Int) - (b.log2 : Int) - 55) (by omega) hL rfl (by omega) (by omega) 9007199254740991 (by have : (2 * Q + st) / 2 ^ 2 = (2 * Q + st) / 4 := rfl; omega) (by omega)
      rw [e]
      have e5 : ((a.log2 : Int) - (b.log2 : Int) - 55 + ((2 : Nat) : Int) + 1074).toNat ≤ 1020 := by omega
      have e6 : 1 ≤ ((a.log2 : Int) - (b.log2 : Int) - 55 + ((2 : Nat) : Int) + 1074).toNat := by omega
      generalize ((a.log2 : Int) - (b.log2 : Int) - 55 + ((2 : Nat) : Int) + 1074).toNat = z at e5 e6
      omega

theorem share_eq (a : Nat) (ha : 0 < a) (hb : a < 9007199254740992) : double.div (floatOfInt .f64 (a : Int)) (floatOfInt .f64 (a : Int)) = some 4607182418800017408 := by
  rw [div_whole a a ha hb ha hb]
  have mb := sig_bd a ha hb
  have e : quoMag (sig a) (sig a) = 36028797018963968 := by
    unfold quoMag
    rw [Nat.mul_comm (sig a), Nat.mul_div_cancel _ (by omega), Nat.mul_mod_left]
    rfl
  have e2 : double.nearest false 36028797018963968 (-55) = 4607182418800017408 := by kernel_rfl
  rw [e, show ((a.log2 : Int) - (a.log2 : Int) - 55) = -55 by omega, e2]
end Go.Proofs.Ytjfifaooimgbaaa.Flt
