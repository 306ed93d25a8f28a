import Derived.Test.YtjfifaooimgbaaaPost
/- The walk of Clear. -/
namespace Go.Proofs.Ytjfifaooimgbaaa
open Go.Shelf Go.RowKit Go.Lib Go.Sort

theorem BidsAt.up {w w' : World} {a : Option Addr} {s : List (Int × Int)} (h : BidsAt w a s) (hb : Below w.heap.size w w') : BidsAt w' a s := fun i hi => by
  obtain ⟨b, o, ha, h1, h2, h3⟩ := h i hi
  exact ⟨b, o, ha, Nat.lt_of_lt_of_le h1 hb.size, (hb.cell (p := ⟨b, o + i * 2, none⟩) h1).trans h2, (hb.cell (p := ⟨b, o + i * 2 + 1, none⟩) h1).trans h3⟩
theorem below_alloc (w : World) (o : Obj) : Below w.heap.size w (w.alloc o) := (Below.refl _ _).alloc (Nat.le_refl _) _

/-- the boxes of the two lines. -/
def Bx (x1 x2 : Nat) (v v' : Value) (W : World) : Prop := x1 < W.heap.size ∧ x2 < W.heap.size ∧ W.cell? ⟨x1, 0, none⟩ = some v ∧ W.cell? ⟨x1, 1, none⟩ = some (Value.int IntKind.i64 0) ∧ W.cell? ⟨x2, 0, none⟩ = some v' ∧ W.cell? ⟨x2, 1, none⟩ = some (Value.int IntKind.i64 1000)
theorem Bx.gr {x1 x2 : Nat} {v v' : Value} {W W' : World} (h : Bx x1 x2 v v' W) (g : Gr W W') : Bx x1 x2 v v' W' :=
  ⟨Nat.lt_of_lt_of_le h.1 g.below.size, Nat.lt_of_lt_of_le h.2.1 g.below.size, g.cell h.1 h.2.2.1, g.cell h.1 h.2.2.2.1, g.cell h.2.1 h.2.2.2.2.1, g.cell h.2.1 h.2.2.2.2.2⟩
theorem Bx.gb {x1 x2 F : Nat} {v v' : Value} {W W' : World} (h : Bx x1 x2 v v' W) (g : W.grownBy W' (some F)) (h1 : x1 ≠ F) (h2 : x2 ≠ F) : Bx x1 x2 v v' W' := by
  have e1 := g.block x1 h.1 (fun e => h1 (by injection e))
  have e2 := g.block x2 h.2.1 (fun e => h2 (by injection e))
  exact ⟨Nat.lt_of_lt_of_le h.1 g.size, Nat.lt_of_lt_of_le h.2.1 g.size, (World.cell?_of_block (a := ⟨x1, 0, none⟩) e1).trans h.2.2.1, (World.cell?_of_block (a := ⟨x1, 1, none⟩) e1).trans h.2.2.2.1, (World.cell?_of_block (a := ⟨x2, 0, none⟩) e2).trans h.2.2.2.2.1, (World.cell?_of_block (a := ⟨x2, 1, none⟩) e2).trans h.2.2.2.2.2⟩

theorem Try.info4 : (Try.prog.info? 4).map (fun i => (i.zero, i.size, i.bytes)) = some (some (.bool false), 1, 1) := by kernel_rfl
theorem made_bools (n : Nat) : madeCells (Value.bool false).cells (n * 1) = ((List.replicate n false).map Value.bool).toArray := by
  apply Array.ext
  · simp [madeCells]
  · intro i h1 h2
    simp [madeCells, Value.cells, Nat.mod_one]

theorem make_bools (n : Nat) (w : World) (hn : n ≤ 8796093022208) : (Instr.makeSlice 23 (.int .i64 (n : Int)) (.int .i64 (n : Int))).run Try.prog w = .ok (.slice (some ⟨w.heap.size, 0, none⟩) n n) (w.alloc (.cells ((List.replicate n false).map Value.bool).toArray 4)) := by
  obtain ⟨i0, hi, hz0, hz1, hz2⟩ := info_parts Try.info4
  have h := run_make (P := Try.prog) w 23 4 i0 (.bool false) Try.underlying23 hi hz0 .i64 .i64 (n : Int) (n : Int) (by omega) (Int.le_refl _) (by rw [hz2]; omega) (by omega)
  rw [hz1, Int.toNat_natCast, made_bools] at h
  exact h

theorem bits_run (b : Nat) (w : World) : (callFunc 61 #[.float .f64 b]).run Try.prog w = .ok (.value (.int .u64 b)) w := by
  rw [run_callFunc_extern (e := Extern.MathFloatBits.float64bits) Try.func61 (by kernel_rfl) (by kernel_rfl) (by kernel_rfl) (by kernel_rfl)]
  rfl

set_option maxHeartbeats 1000000 in
theorem clearing_any (l : List (Int × Int)) (a : Option Addr) (cap : Nat) (w : World) (hB : BidsAt w a l) (hl : l.length ≤ 8796093022208) :
    Calls Try.prog 40 #[.slice a l.length cap] w fun e w' => ∃ F, e = .returned (.agg #[.int .i64 (kL l), .int .i64 (setL l).1, .int .i64 (setL l).2.1, .int .i64 (setL l).2.2, .slice (some ⟨F, 0, none⟩) l.length l.length, .int .u64 (shareL l)]) ∧ BoolsAt w' F (filledL l) ∧ w.heap.size ≤ F ∧ Below w.heap.size w w' := by
  have mixed : Try.prog.follows .mixedOrders = true := by kernel_rfl
  have HB : Aside _ := hB
  clear hB
  go_enter Try.func40, Try.ntmps40
  go_wp2_with fail
  obtain ⟨W0, hW0⟩ : ∃ W0, W0 = w.alloc (Obj.cells #[Value.int IntKind.i64 0, Value.int IntKind.i64 0, Value.int IntKind.i64 0, Value.int IntKind.i64 0, Value.slice none 0 0, Value.int IntKind.u64 0] 26) := ⟨_, rfl⟩
  have Z0 : Aside (W0.heap.size = w.heap.size + 1 ∧ Below w.heap.size w W0 ∧ W0.cell? ⟨w.heap.size, 0, none⟩ = some (.int .i64 0) ∧ W0.cell? ⟨w.heap.size, 1, none⟩ = some (.int .i64 0) ∧ W0.cell? ⟨w.heap.size, 2, none⟩ = some (.int .i64 0) ∧ W0.cell? ⟨w.heap.size, 3, none⟩ = some (.int .i64 0) ∧ W0.cell? ⟨w.heap.size, 4, none⟩ = some (.slice none 0 0) ∧ W0.cell? ⟨w.heap.size, 5, none⟩ = some (.int .u64 0) ∧ ∀ j, W0.frozen? ⟨w.heap.size, j, none⟩ = false) := by
    rw [hW0]
    exact ⟨by simp, (Below.refl _ _).alloc (Nat.le_refl _) _, by simp, by simp, by simp, by simp, by simp, by simp, fun j => by simp⟩
  rw [← hW0]
  clear hW0
  have HB0 : Aside (BidsAt W0 a l) := BidsAt.up HB.out Z0.out.2.1
  clear HB
  refine (lineUp_any 53 _ better0_at swo_cmpI' 0 0 l a cap W0 HB0.out hl).mono ?_
  rintro e w1 ⟨v, s, rfl, hsl, P1, La, B1⟩
  obtain rfl := buyers_eq P1
  obtain ⟨ab, cb, rfl, hcb, hbb⟩ := La
  clear P1 hsl
  -- the first box
  obtain ⟨W1, hW1⟩ : ∃ W1, W1 = w1.alloc (Obj.cells #[Value.slice ab (buyersOf l).length cb, Value.int IntKind.i64 0] 109) := ⟨_, rfl⟩
  have BX1 : Aside (W1.heap.size = w1.heap.size + 1 ∧ Below w1.heap.size w1 W1 ∧ W1.cell? ⟨w1.heap.size, 0, none⟩ = some (Value.slice ab (buyersOf l).length cb) ∧ W1.cell? ⟨w1.heap.size, 1, none⟩ = some (Value.int IntKind.i64 0)) := by
    rw [hW1]; exact ⟨by simp, below_alloc _ _, by simp, by simp⟩
  have K1 : Aside (Below W0.heap.size W0 W1) := B1.trans (BX1.out.2.1.mono B1.size)
  have HB1 : Aside (BidsAt W1 a l) := HB0.out.up K1.out
  have BB1 : Aside (BidsAt W1 ab (buyersOf l)) := hbb.up BX1.out.2.1
  have PB : Aside (Priced (buyersOf l)) := buyers_priced l
  have PS : Aside (Priced (sellersOf l)) := sellers_priced l
  have hbl := buyers_le l
  have hsl := sellers_le l
  clear hbb B1 HB0
  go_wp2_with fail
  rw [← hW1]
  clear hW1
  refine (lineUp_any 55 _ better1_at swo_cmpI 1 1000 l a cap W1 HB1.out hl).mono ?_
  rintro e w2 ⟨v, s, rfl, hsl2, P1, La, B2⟩
  obtain rfl := sellers_eq P1
  obtain ⟨az, cs, rfl, hcs, hss⟩ := La
  clear P1 hsl2
  obtain ⟨W2, hW2⟩ : ∃ W2, W2 = w2.alloc (Obj.cells #[Value.slice az (sellersOf l).length cs, Value.int IntKind.i64 1000] 109) := ⟨_, rfl⟩
  have BX2 : Aside (W2.heap.size = w2.heap.size + 1 ∧ Below w2.heap.size w2 W2 ∧ W2.cell? ⟨w2.heap.size, 0, none⟩ = some (Value.slice az (sellersOf l).length cs) ∧ W2.cell? ⟨w2.heap.size, 1, none⟩ = some (Value.int IntKind.i64 1000)) := by
    rw [hW2]; exact ⟨by simp, below_alloc _ _, by simp, by simp⟩
  have K2 : Aside (Below W1.heap.size W1 W2) := B2.trans (BX2.out.2.1.mono B2.size)
  have BB2 : Aside (BidsAt W2 ab (buyersOf l)) := BB1.out.up K2.out
  have SS2 : Aside (BidsAt W2 az (sellersOf l)) := hss.up BX2.out.2.1
  have q1 : w1.heap.size < W1.heap.size := by have := BX1.out.1; omega
  have c10 := (K2.out.cell (p := ⟨w1.heap.size, 0, none⟩) q1).trans BX1.out.2.2.1
  have c11 := (K2.out.cell (p := ⟨w1.heap.size, 1, none⟩) q1).trans BX1.out.2.2.2
  have c20 := BX2.out.2.2.1
  have c21 := BX2.out.2.2.2
  have bx1 : Aside (Bx w1.heap.size w2.heap.size (Value.slice ab (buyersOf l).length cb) (Value.slice az (sellersOf l).length cs) W2) := ⟨by have := K2.out.size; omega, by have := BX2.out.1; omega, c10, c11, c20, c21⟩
  have K : Aside (Below W0.heap.size W0 W2) := K1.out.trans (K2.out.mono K1.out.size)
  clear hss B2 BB1 BX2 K1 K2 BX1 HB1 q1
  rw [hW2] at c10 c11 c20 c21
  have HW2 : Aside _ := hW2
  clear hW2
  go_wp2_with fail
  clear c10 c11 c20 c21
  rw [← HW2.out]
  clear HW2
  refine (countPairs_any ab az cb cs (buyersOf l) (sellersOf l) W2 BB2.out SS2.out PB.out PS.out (by omega) (by omega)).mono ?_
  rintro e w3 ⟨k, rfl, hK, hk1, hk2, G3⟩
  have ek : k = kL l := hK.unique (kOf_is PB.out PS.out)
  subst ek
  have bx3 : Aside _ := bx1.out.gr G3
  have BB3 : Aside _ := BB2.out.gr G3
  have SS3 : Aside _ := SS2.out.gr G3
  have K3 : Aside (Below W0.heap.size W0 w3) := K.out.trans (G3.below.mono K.out.size)
  clear hK G3 bx1 BB2 SS2 K
  have c10 := bx3.out.2.2.1
  have c11 := bx3.out.2.2.2.1
  have c20 := bx3.out.2.2.2.2.1
  have c21 := bx3.out.2.2.2.2.2
  go_wp2_with fail
  refine (settle_any ab az cb cs (buyersOf l) (sellersOf l) (kL l) w3 BB3.out SS3.out PB.out PS.out (by omega)).mono ?_
  rintro e w4 ⟨rfl, G4⟩
  have bx4 : Aside _ := Bx.gr bx3.out G4
  have BB4 : Aside _ := BidsAt.gr BB3.out G4
  have SS4 : Aside _ := BidsAt.gr SS3.out G4
  have K4 : Aside (Below W0.heap.size W0 w4) := K3.out.trans (G4.below.mono K3.out.size)
  clear G4 bx3 BB3 SS3 K3 c10 c11 c20 c21
  have hmk := make_bools l.length w4 hl
  obtain ⟨W5, hW5⟩ : ∃ W5, W5 = w4.alloc (.cells ((List.replicate l.length false).map Value.bool).toArray 4) := ⟨_, rfl⟩
  have FL5 : Aside (BoolsAt W5 w4.heap.size (List.replicate l.length false)) := by
    rw [hW5]; show (w4.heap.push _)[w4.heap.size]? = _
    simp
  have G5 : Gr w4 W5 := by rw [hW5]; exact (Gr.refl w4).alloc _
  have z5 : W5.heap.size = w4.heap.size + 1 := by rw [hW5]; simp
  have bx5 : Aside _ := Bx.gr bx4.out G5
  have BB5 : Aside _ := BidsAt.gr BB4.out G5
  have SS5 : Aside _ := BidsAt.gr SS4.out G5
  have K5 : Aside (Below W0.heap.size W0 W5) := K4.out.trans (G5.below.mono K4.out.size)
  have nb : Aside (∀ b o, ab = some ⟨b, o, none⟩ → 0 < (buyersOf l).length → b ≠ w4.heap.size) := fun b o hb h0 => by
    obtain ⟨b', o', ha', h1, _⟩ := BB4.out 0 h0
    rw [ha'] at hb; injection hb with hb; injection hb with e1; omega
  have ns : Aside (∀ b o, az = some ⟨b, o, none⟩ → 0 < (sellersOf l).length → b ≠ w4.heap.size) := fun b o hb h0 => by
    obtain ⟨b', o', ha', h1, _⟩ := SS4.out 0 h0
    rw [ha'] at hb; injection hb with hb; injection hb with e1; omega
  have x1 : w1.heap.size ≠ w4.heap.size := by have := bx4.out.1; omega
  have x2 : w2.heap.size ≠ w4.heap.size := by have := bx4.out.2.1; omega
  have X12 : Aside (w1.heap.size ≠ w4.heap.size ∧ w2.heap.size ≠ w4.heap.size) := ⟨x1, x2⟩
  have x0 : Aside (w.heap.size < w4.heap.size) := by
    have h1 := Z0.out.1
    have h2 := K4.out.size
    show _ < _
    omega
  have hset := setL_le l
  have EF : Aside (settleF (buyersOf l) (sellersOf l) (kL l) = setL l) := rfl
  rw [← hW5] at hmk
  clear hW5 G5 x1 x2 bx4 BB4 SS4 K4
  have c10 := bx5.out.2.2.1
  have c11 := bx5.out.2.2.2.1
  have c20 := bx5.out.2.2.2.2.1
  have c21 := bx5.out.2.2.2.2.2
  rw [EF.out]
  go_wp2_with fail
  have hm := mark_any ab cb l.length w4.heap.size 0 (buyersOf l) (setL l).1 (List.replicate l.length false) W5 BB5.out FL5.out nb.out (fun x hx => by rw [List.length_replicate]; exact buyers_place l x hx) (by omega) hcb (by omega)
  rw [List.length_replicate] at hm
  refine hm.mono ?_
  clear hm
  rintro e w6 ⟨rfl, FLa, GBa⟩
  have FL6 : Aside _ := FLa
  have bx6 : Aside _ := Bx.gb bx5.out GBa X12.out.1 X12.out.2
  have BB6 : Aside _ := BidsAt.gb BB5.out GBa nb.out
  have SS6 : Aside _ := BidsAt.gb SS5.out GBa ns.out
  have K6 : Aside (Below W0.heap.size W0 w6) := Below.grown K5.out GBa K5.out.size (fun k hk => by injection hk with hk; have := x0.out; have := Z0.out.1; omega)
  clear FLa GBa c10 c11 c20 c21 bx5 BB5 SS5 K5 FL5 hmk z5
  have c10 := bx6.out.2.2.1
  have c11 := bx6.out.2.2.2.1
  have c20 := bx6.out.2.2.2.2.1
  have c21 := bx6.out.2.2.2.2.2
  go_wp2_with fail
  have hm := mark_any az cs l.length w4.heap.size 1000 (sellersOf l) (setL l).1 (markF (buyersOf l) (List.replicate l.length false) (setL l).1) w6 SS6.out FL6.out ns.out (fun x hx => by rw [markF_length, List.length_replicate]; exact sellers_place l x hx) (by omega) hcs (by omega)
  rw [markF_length, List.length_replicate] at hm
  refine hm.mono ?_
  clear hm
  rintro e w7 ⟨rfl, FLa, GBa⟩
  have FL7 : Aside (BoolsAt w7 w4.heap.size (filledL l)) := FLa
  have bx7 : Aside _ := Bx.gb bx6.out GBa X12.out.1 X12.out.2
  have BB7 : Aside _ := BidsAt.gb BB6.out GBa nb.out
  have SS7 : Aside _ := BidsAt.gb SS6.out GBa ns.out
  have K7 : Aside (Below W0.heap.size W0 w7) := Below.grown K6.out GBa K6.out.size (fun k hk => by injection hk with hk; have := x0.out; have := Z0.out.1; omega)
  clear FLa GBa c10 c11 c20 c21 bx6 BB6 SS6 K6 FL6
  obtain ⟨r, hr⟩ := share_some l hl
  have c10 : ∀ n os, (grow (w7.drewN n) os).cell? ⟨w1.heap.size, 0, none⟩ = some (Value.slice ab (buyersOf l).length cb) := fun n os => (Bx.gr bx7.out ⟨n, os, rfl⟩).2.2.1
  have c11 : ∀ n os, (grow (w7.drewN n) os).cell? ⟨w1.heap.size, 1, none⟩ = some (.int .i64 0) := fun n os => (Bx.gr bx7.out ⟨n, os, rfl⟩).2.2.2.1
  have c20 : ∀ n os, (grow (w7.drewN n) os).cell? ⟨w2.heap.size, 0, none⟩ = some (Value.slice az (sellersOf l).length cs) := fun n os => (Bx.gr bx7.out ⟨n, os, rfl⟩).2.2.2.2.1
  have c21 : ∀ n os, (grow (w7.drewN n) os).cell? ⟨w2.heap.size, 1, none⟩ = some (.int .i64 1000) := fun n os => (Bx.gr bx7.out ⟨n, os, rfl⟩).2.2.2.2.2
  have p1 : ∀ n os, Calls Try.prog 60 #[.agg #[.slice ab (buyersOf l).length cb, .int .i64 0], .agg #[.slice az (sellersOf l).length cs, .int .i64 1000], .int .i64 (setL l).1] (grow (w7.drewN n) os) fun e w' => e = .returned (.int .i64 (gainedL l)) ∧ ∃ q os', w' = grow ((grow (w7.drewN n) os).drewN q) os' := fun n os => gain_any ab az cb cs (buyersOf l) (sellersOf l) (setL l).1 _ (BidsAt.gr BB7.out ⟨n, os, rfl⟩) (BidsAt.gr SS7.out ⟨n, os, rfl⟩) PB.out PS.out (by omega)
  have p2 : ∀ n os, Calls Try.prog 60 #[.agg #[.slice ab (buyersOf l).length cb, .int .i64 0], .agg #[.slice az (sellersOf l).length cs, .int .i64 1000], .int .i64 (kL l)] (grow (w7.drewN n) os) fun e w' => e = .returned (.int .i64 (canL l)) ∧ ∃ q os', w' = grow ((grow (w7.drewN n) os).drewN q) os' := fun n os => gain_any ab az cb cs (buyersOf l) (sellersOf l) (kL l) _ (BidsAt.gr BB7.out ⟨n, os, rfl⟩) (BidsAt.gr SS7.out ⟨n, os, rfl⟩) PB.out PS.out (by omega)
  have p3 : ∀ n os, Calls Try.prog 59 #[.int .i64 (gainedL l), .int .i64 (canL l)] (grow (w7.drewN n) os) fun e w' => e = .returned (.float .f64 (shareL l)) ∧ ∃ q os', w' = grow ((grow (w7.drewN n) os).drewN q) os' := fun n os => (shareOf_any (gainedL l) (canL l) _ r hr).mono fun e w' ⟨h1, h2⟩ => ⟨h1, 0, #[], by rw [h2, grow_empty]; rfl⟩
  clear hr
  go_wp2_with fail
  go_quiet_grown (first | (go_at_call 59; refine Calls.grown_of (p3 _ _)) | (go_at_call_of 60 (Value.int IntKind.i64 (((setL l).1 : Nat) : Int)); refine Calls.grown_of (p1 _ _)) | (go_at_call 60; refine Calls.grown_of (p2 _ _)))
  have G8 : Gr w7 (grow (w7.drewN nq) osq) := ⟨nq, osq, rfl⟩
  generalize grow (w7.drewN nq) osq = w8 at G8 ⊢
  have FL8 : Aside (BoolsAt w8 w4.heap.size (filledL l)) := (G8.below.block _ FL7.out.lt).trans FL7.out
  have K8 : Aside (Below W0.heap.size W0 w8) := K7.out.trans (G8.below.mono K7.out.size)
  clear c10 c11 c20 c21 p1 p2 p3 G8 FL7 K7 bx7 BB7 SS7
  have hbits := bits_run (shareL l) w8
  have r0 : w.heap.size < W0.heap.size := by have := Z0.out.1; omega
  have d0 := (K8.out.cell (p := ⟨w.heap.size, 0, none⟩) r0).trans Z0.out.2.2.1
  have d1 := (K8.out.cell (p := ⟨w.heap.size, 1, none⟩) r0).trans Z0.out.2.2.2.1
  have d2 := (K8.out.cell (p := ⟨w.heap.size, 2, none⟩) r0).trans Z0.out.2.2.2.2.1
  have d3 := (K8.out.cell (p := ⟨w.heap.size, 3, none⟩) r0).trans Z0.out.2.2.2.2.2.1
  have d4 := (K8.out.cell (p := ⟨w.heap.size, 4, none⟩) r0).trans Z0.out.2.2.2.2.2.2.1
  have d5 := (K8.out.cell (p := ⟨w.heap.size, 5, none⟩) r0).trans Z0.out.2.2.2.2.2.2.2.1
  have f0 := (K8.out.frozen (p := ⟨w.heap.size, 0, none⟩) r0).trans (Z0.out.2.2.2.2.2.2.2.2 0)
  have f1 := (K8.out.frozen (p := ⟨w.heap.size, 1, none⟩) r0).trans (Z0.out.2.2.2.2.2.2.2.2 1)
  have f2 := (K8.out.frozen (p := ⟨w.heap.size, 2, none⟩) r0).trans (Z0.out.2.2.2.2.2.2.2.2 2)
  have f3 := (K8.out.frozen (p := ⟨w.heap.size, 3, none⟩) r0).trans (Z0.out.2.2.2.2.2.2.2.2 3)
  have f4 := (K8.out.frozen (p := ⟨w.heap.size, 4, none⟩) r0).trans (Z0.out.2.2.2.2.2.2.2.2 4)
  have f5 := (K8.out.frozen (p := ⟨w.heap.size, 5, none⟩) r0).trans (Z0.out.2.2.2.2.2.2.2.2 5)
  go_wp2
  refine bodyPost_ret (v := .agg #[.int .i64 (kL l), .int .i64 (setL l).1, .int .i64 (setL l).2.1, .int .i64 (setL l).2.2, .slice (some ⟨w4.heap.size, 0, none⟩) l.length l.length, .int .u64 (shareL l)]) (by simp [results, Try.results40, go_sem, d0, d1, d2, d3, d4, d5]) rfl ?_
  have B8 : Below w.heap.size w w8 := Z0.out.2.1.trans (K8.out.mono (by omega))
  have hx0 := x0.out
  refine ⟨w4.heap.size, rfl, ?_, by omega, ?_⟩
  · unfold BoolsAt
    rw [Below.heap_setCell _ _ _ _ (show w4.heap.size ≠ w.heap.size by omega), Below.heap_setCell _ _ _ _ (show w4.heap.size ≠ w.heap.size by omega), Below.heap_setCell _ _ _ _ (show w4.heap.size ≠ w.heap.size by omega), Below.heap_setCell _ _ _ _ (show w4.heap.size ≠ w.heap.size by omega), Below.heap_setCell _ _ _ _ (show w4.heap.size ≠ w.heap.size by omega), Below.heap_setCell _ _ _ _ (show w4.heap.size ≠ w.heap.size by omega)]
    exact FL8.out
  · exact (((((B8.setCell (Nat.le_refl _) _).setCell (Nat.le_refl _) _).setCell (Nat.le_refl _) _).setCell (Nat.le_refl _) _).setCell (Nat.le_refl _) _).setCell (Nat.le_refl _) _

set_option maxHeartbeats 1000000 in
theorem clear_any (l : List (Int × Int)) (a : Option Addr) (cap : Nat) (w : World) (hB : BidsAt w a l) (hl : l.length ≤ 8796093022208) :
    Calls Try.prog 13 #[.slice a l.length cap] w fun e w' => ∃ F, e = .returned (.agg #[.int .i64 (kL l), .int .i64 (setL l).1, .int .i64 (setL l).2.1, .int .i64 (setL l).2.2, .slice (some ⟨F, 0, none⟩) l.length l.length, .int .u64 (shareL l)]) ∧ BoolsAt w' F (filledL l) ∧ w.heap.size ≤ F ∧ Below w.heap.size w w' := by
  have HB : Aside _ := hB
  clear hB
  go_enter Try.func13, Try.ntmps13
  go_wp2_with fail
  obtain ⟨W0, hW0⟩ : ∃ W0, W0 = w.alloc (Obj.cells #[Value.int IntKind.i64 0, Value.int IntKind.i64 0, Value.int IntKind.i64 0, Value.int IntKind.i64 0, Value.slice none 0 0, Value.int IntKind.u64 0] 26) := ⟨_, rfl⟩
  have Z0 : Aside (W0.heap.size = w.heap.size + 1 ∧ Below w.heap.size w W0 ∧ W0.cell? ⟨w.heap.size, 0, none⟩ = some (.int .i64 0) ∧ W0.cell? ⟨w.heap.size, 1, none⟩ = some (.int .i64 0) ∧ W0.cell? ⟨w.heap.size, 2, none⟩ = some (.int .i64 0) ∧ W0.cell? ⟨w.heap.size, 3, none⟩ = some (.int .i64 0) ∧ W0.cell? ⟨w.heap.size, 4, none⟩ = some (.slice none 0 0) ∧ W0.cell? ⟨w.heap.size, 5, none⟩ = some (.int .u64 0) ∧ ∀ j, W0.frozen? ⟨w.heap.size, j, none⟩ = false) := by
    rw [hW0]
    exact ⟨by simp, (Below.refl _ _).alloc (Nat.le_refl _) _, by simp, by simp, by simp, by simp, by simp, by simp, fun j => by simp⟩
  rw [← hW0]
  clear hW0
  refine (clearing_any l a cap W0 (BidsAt.up HB.out Z0.out.2.1) hl).mono ?_
  rintro e w8 ⟨F, rfl, FLa, hF, Ka⟩
  have FL8 : Aside _ := FLa
  have K8 : Aside _ := Ka
  clear FLa Ka
  have r0 : w.heap.size < W0.heap.size := by have := Z0.out.1; omega
  have d0 := (Below.cell K8.out (p := ⟨w.heap.size, 0, none⟩) r0).trans Z0.out.2.2.1
  have d1 := (Below.cell K8.out (p := ⟨w.heap.size, 1, none⟩) r0).trans Z0.out.2.2.2.1
  have d2 := (Below.cell K8.out (p := ⟨w.heap.size, 2, none⟩) r0).trans Z0.out.2.2.2.2.1
  have d3 := (Below.cell K8.out (p := ⟨w.heap.size, 3, none⟩) r0).trans Z0.out.2.2.2.2.2.1
  have d4 := (Below.cell K8.out (p := ⟨w.heap.size, 4, none⟩) r0).trans Z0.out.2.2.2.2.2.2.1
  have d5 := (Below.cell K8.out (p := ⟨w.heap.size, 5, none⟩) r0).trans Z0.out.2.2.2.2.2.2.2.1
  have f0 := (Below.frozen K8.out (p := ⟨w.heap.size, 0, none⟩) r0).trans (Z0.out.2.2.2.2.2.2.2.2 0)
  have f1 := (Below.frozen K8.out (p := ⟨w.heap.size, 1, none⟩) r0).trans (Z0.out.2.2.2.2.2.2.2.2 1)
  have f2 := (Below.frozen K8.out (p := ⟨w.heap.size, 2, none⟩) r0).trans (Z0.out.2.2.2.2.2.2.2.2 2)
  have f3 := (Below.frozen K8.out (p := ⟨w.heap.size, 3, none⟩) r0).trans (Z0.out.2.2.2.2.2.2.2.2 3)
  have f4 := (Below.frozen K8.out (p := ⟨w.heap.size, 4, none⟩) r0).trans (Z0.out.2.2.2.2.2.2.2.2 4)
  have f5 := (Below.frozen K8.out (p := ⟨w.heap.size, 5, none⟩) r0).trans (Z0.out.2.2.2.2.2.2.2.2 5)
  go_wp2
  refine bodyPost_ret (v := .agg #[.int .i64 (kL l), .int .i64 (setL l).1, .int .i64 (setL l).2.1, .int .i64 (setL l).2.2, .slice (some ⟨F, 0, none⟩) l.length l.length, .int .u64 (shareL l)]) (by simp [results, Try.results13, go_sem, d0, d1, d2, d3, d4, d5]) rfl ?_
  have B8 : Below w.heap.size w w8 := Z0.out.2.1.trans (Below.mono K8.out (by omega))
  refine ⟨F, rfl, ?_, by omega, ?_⟩
  · unfold BoolsAt
    rw [Below.heap_setCell _ _ _ _ (show F ≠ w.heap.size by omega), Below.heap_setCell _ _ _ _ (show F ≠ w.heap.size by omega), Below.heap_setCell _ _ _ _ (show F ≠ w.heap.size by omega), Below.heap_setCell _ _ _ _ (show F ≠ w.heap.size by omega), Below.heap_setCell _ _ _ _ (show F ≠ w.heap.size by omega), Below.heap_setCell _ _ _ _ (show F ≠ w.heap.size by omega)]
    exact FL8.out
  · exact (((((B8.setCell (Nat.le_refl _) _).setCell (Nat.le_refl _) _).setCell (Nat.le_refl _) _).setCell (Nat.le_refl _) _).setCell (Nat.le_refl _) _).setCell (Nat.le_refl _) _
#print axioms clear_any
end Go.Proofs.Ytjfifaooimgbaaa
