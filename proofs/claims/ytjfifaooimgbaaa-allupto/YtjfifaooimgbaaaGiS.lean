import Derived.Test.YtjfifaooimgbaaaGi6
import Derived.Test.YtjfifaooimgbaaaBt3
import Derived.Deep.RegionLaw
/- An order is given: the batch is full. -/
namespace Go.Proofs.Ytjfifaooimgbaaa
open Go.Shelf Go.RowKit Go.Lib Go.Sort

set_option maxHeartbeats 2000000 in
set_option maxRecDepth 100000 in
theorem give_7_0 (w : World) (m X k t a pr : Nat) (s : MkS) (q : Nat → A4) (os : List Ex.Ord) (hX : BoxM w X m) (hM : MkAt w m s) (hA : AccF w s.ba q) (hO : ORow w s.ov os) (hq : Tame q) (ht : t < 20) (hl : os.length ≤ 1000) (hpr : pr < 65536) (hp : 1 ≤ pr ∧ pr < 1000) (hn : placeX os t < 0) (hc : s.cap ≤ (os.length : Int)) :
    Calls Try.prog 119 #[reqV k t a 0 pr, .pointer (some ⟨X, 0, none⟩)] w fun e w' => e = .returned (.tuple #[.int .u8 7, .slice none 0 0]) ∧ Below w.heap.size w w' := by
  have mixed : Try.prog.follows .mixedOrders = true := by kernel_rfl
  obtain ⟨W, hW⟩ : ∃ W, W = (w.alloc (.cells #[.int .i64 (k : Int), .int .i64 (t : Int), .int .u64 (a : Int), .int .i64 0, .int .i64 (pr : Int)] 157)).alloc (.cells #[.int .i64 (t : Int), .int .i64 0, .int .i64 (pr : Int)] 171) := ⟨_, rfl⟩
  have hsz : W.heap.size = w.heap.size + 1 + 1 := by rw [hW]; simp
  have bk : ∀ j, j < w.heap.size → W.heap[j]? = w.heap[j]? := fun j hj => by rw [hW]; exact (Below.heap_alloc _ _ j (by simp; omega)).trans (Below.heap_alloc w _ j hj)
  have F : Aside (∀ w1 : World, (∀ j, j < W.heap.size → j ≠ s.ba → w1.heap[j]? = W.heap[j]?) → w1.cell? ⟨X, 0, none⟩ = some (.pointer (some ⟨m, 0, none⟩)) ∧ MkAt w1 m s ∧ w1.cell? ⟨w.heap.size, 1, none⟩ = some (.int .i64 (t : Int)) ∧ w1.cell? ⟨w.heap.size, 3, none⟩ = some (.int .i64 0) ∧ w1.cell? ⟨w.heap.size, 4, none⟩ = some (.int .i64 (pr : Int)) ∧ w1.cell? ⟨w.heap.size + 1, 0, none⟩ = some (.int .i64 (t : Int)) ∧ w1.cell? ⟨w.heap.size + 1, 1, none⟩ = some (.int .i64 0) ∧ w1.cell? ⟨w.heap.size + 1, 2, none⟩ = some (.int .i64 (pr : Int)) ∧ ORow w1 s.ov os) := fun w1 h => by
    obtain ⟨es, ec, hb⟩ := hA.block
    have nX : X ≠ s.ba := fun e => by rw [← e] at hb; have := hX; unfold BoxM at this; rw [this] at hb; cases hb
    have nM : m ≠ s.ba := fun e => by rw [← e] at hb; have := hM; unfold MkAt at this; rw [this] at hb; cases hb
    have al := hA.lt
    have b0 : W.heap[w.heap.size]? = some (.cells #[.int .i64 (k : Int), .int .i64 (t : Int), .int .u64 (a : Int), .int .i64 0, .int .i64 (pr : Int)] 157) := by rw [hW]; exact (Below.heap_alloc _ _ _ (by simp)).trans (heap_alloc_new w _)
    have b1 : W.heap[w.heap.size + 1]? = some (.cells #[.int .i64 (t : Int), .int .i64 0, .int .i64 (pr : Int)] 171) := by rw [hW]; exact next_new w _ _
    have e0 := (h w.heap.size (by omega) (by omega)).trans b0
    have e1 := (h (w.heap.size + 1) (by omega) (by omega)).trans b1
    have M1 : MkAt w1 m s := hM.kept ((h m (by have := hM.lt; omega) nM).trans (bk m hM.lt))
    refine ⟨(hX.kept ((h X (by have := hX.lt; omega) nX).trans (bk X hX.lt))).cell, M1, ?_, ?_, ?_, ?_, ?_, ?_, hO.kept (fun j hj => ?_)⟩
    · simp [World.cell?, e0]
    · simp [World.cell?, e0]
    · simp [World.cell?, e0]
    · simp [World.cell?, e1]
    · simp [World.cell?, e1]
    · simp [World.cell?, e1]
    · have jl := hO.lt hj
      exact (h j (by omega) (fun e => by obtain ⟨cur, hc⟩ := row_block hO hj; rw [e, hb] at hc; cases hc)).trans (bk j jl)
  have AW : Aside (AccF W s.ba q) := hA.kept (bk _ hA.lt)
  have HOW : Aside (Onl (fun _ => False) w W) := by show Onl _ _ _; rw [hW]; exact ((Onl.refl _ w).alloc _).alloc _
  have HS : Aside (Calls Try.prog 107 #[.agg #[.int .i64 (t : Int), .int .i64 0, .int .i64 (pr : Int)]] W fun e w' => e = .returned (.tuple #[.int .i64 0, .int .i64 (pr : Int)]) ∧ Below W.heap.size W w') := stake_any ⟨t, 0, pr⟩ W
  have hqt := hq t (by omega)
  unfold reqV
  have p1 : decide ((pr : Int) < 1) = false := decide_eq_false (by omega)
  have p2 : decide ((1000 : Int) ≤ (pr : Int)) = false := decide_eq_false (by omega)
  have hpl : decide (0 ≤ placeX os t) = false := decide_eq_false (by omega)
  clear hX hM hA hO hq bk
  go_enter Try.func119, Try.ntmps119
  go_wp2_with fail
  rw [← hW]
  clear hW
  refine Calls.mono (f := 107) HS.out ?_
  rintro e w1 ⟨rfl, B1⟩
  obtain ⟨x1, M1, r1, r3, r4, o0, o1, o2, OR1⟩ := F.out w1 (fun j hj _ => B1.block j hj)
  have A1 : Aside (AccF w1 s.ba q) := AW.out.kept (B1.block _ AW.out.lt)
  have HO1 : Aside (Onl (fun _ => False) w w1) := HOW.out.below B1
  have BB1 : Aside (Below W.heap.size W w1) := B1
  have hsz1 : W.heap.size ≤ w1.heap.size := B1.size
  have HM1 : Aside (MkAt w1 m s) := M1
  have HOR1 : Aside (ORow w1 s.ov os) := OR1
  clear HS B1 M1 OR1
  have m4 := HM1.out.all.c4
  have m5 := HM1.out.all.c5
  have m6 := HM1.out.all.c6
  have HPL : Aside _ := place_any os s.ov s.num s.fin t w1.drew (HOR1.out.kept (fun _ _ => rfl)) hl
  go_wp2_with fail
  go_still_tail 6, mixed
  go_wp2_with fail
  refine Calls.mono (f := 120) HPL.out ?_
  rintro e w2 ⟨rfl, B2⟩
  have B12 : Below W.heap.size W w2 := BB1.out.trans ⟨B2.os, B2.tape, B2.output, B2.size, fun j hj => B2.block j (by show j < w1.heap.size; omega)⟩
  clear x1 r1 r3 r4 o0 o1 o2 m4 m5 m6 A1 HO1 HM1 HOR1 HPL BB1
  obtain ⟨x1, M2, r1, r3, r4, o0, o1, o2, OR2⟩ := F.out w2 (fun j hj _ => B12.block j hj)
  have A2 : Aside (AccF w2 s.ba q) := AW.out.kept (B12.block _ AW.out.lt)
  have HO2 : Aside (Onl (fun _ => False) w w2) := HOW.out.below B12
  have BB2 : Aside (Below W.heap.size W w2) := B12
  have hsz2 : W.heap.size ≤ w2.heap.size := B12.size
  have HM2 : Aside (MkAt w2 m s) := M2
  have HOR2 : Aside (ORow w2 s.ov os) := OR2
  clear B2 B12 M2 OR2
  obtain ⟨oa, ocp, hov, _⟩ := HOR2.out.ords
  have m6 := HM2.out.all.c6
  rw [hov] at m6
  have m1 := HM2.out.all.c1
  have HOV : Aside (s.ov = .slice oa os.length ocp) := hov
  clear hov
  obtain ⟨W3, hW3⟩ : ∃ W3 : World, W3 = { heap := w2.heap, tape := w2.tape, drawn := w2.drawn + 1, os := w2.os, output := w2.output } := ⟨_, rfl⟩
  have hsame : W3.heap = w2.heap := by rw [hW3]
  have BW3 : Aside (Below W.heap.size W W3) := by show Below _ _ _; rw [hW3]; exact ⟨BB2.out.os, BB2.out.tape, BB2.out.output, BB2.out.size, BB2.out.block⟩
  go_wp2_with fail
  go_still_tail 12, mixed
  go_wp2_with fail
  go_ret2
  exact ⟨rfl, HO2.out.drew.toBelow⟩

set_option maxHeartbeats 2000000 in
set_option maxRecDepth 100000 in
theorem give_7_1 (w : World) (m X k t a pr : Nat) (s : MkS) (q : Nat → A4) (os : List Ex.Ord) (hX : BoxM w X m) (hM : MkAt w m s) (hA : AccF w s.ba q) (hO : ORow w s.ov os) (hq : Tame q) (ht : t < 20) (hl : os.length ≤ 1000) (hpr : pr < 65536) (hp : 1 ≤ pr ∧ pr < 1000) (hn : placeX os t < 0) (hc : s.cap ≤ (os.length : Int)) :
    Calls Try.prog 119 #[reqV k t a 1 pr, .pointer (some ⟨X, 0, none⟩)] w fun e w' => e = .returned (.tuple #[.int .u8 7, .slice none 0 0]) ∧ Below w.heap.size w w' := by
  have mixed : Try.prog.follows .mixedOrders = true := by kernel_rfl
  obtain ⟨W, hW⟩ : ∃ W, W = (w.alloc (.cells #[.int .i64 (k : Int), .int .i64 (t : Int), .int .u64 (a : Int), .int .i64 1, .int .i64 (pr : Int)] 157)).alloc (.cells #[.int .i64 (t : Int), .int .i64 1, .int .i64 (pr : Int)] 171) := ⟨_, rfl⟩
  have hsz : W.heap.size = w.heap.size + 1 + 1 := by rw [hW]; simp
  have bk : ∀ j, j < w.heap.size → W.heap[j]? = w.heap[j]? := fun j hj => by rw [hW]; exact (Below.heap_alloc _ _ j (by simp; omega)).trans (Below.heap_alloc w _ j hj)
  have F : Aside (∀ w1 : World, (∀ j, j < W.heap.size → j ≠ s.ba → w1.heap[j]? = W.heap[j]?) → w1.cell? ⟨X, 0, none⟩ = some (.pointer (some ⟨m, 0, none⟩)) ∧ MkAt w1 m s ∧ w1.cell? ⟨w.heap.size, 1, none⟩ = some (.int .i64 (t : Int)) ∧ w1.cell? ⟨w.heap.size, 3, none⟩ = some (.int .i64 1) ∧ w1.cell? ⟨w.heap.size, 4, none⟩ = some (.int .i64 (pr : Int)) ∧ w1.cell? ⟨w.heap.size + 1, 0, none⟩ = some (.int .i64 (t : Int)) ∧ w1.cell? ⟨w.heap.size + 1, 1, none⟩ = some (.int .i64 1) ∧ w1.cell? ⟨w.heap.size + 1, 2, none⟩ = some (.int .i64 (pr : Int)) ∧ ORow w1 s.ov os) := fun w1 h => by
    obtain ⟨es, ec, hb⟩ := hA.block
    have nX : X ≠ s.ba := fun e => by rw [← e] at hb; have := hX; unfold BoxM at this; rw [this] at hb; cases hb
    have nM : m ≠ s.ba := fun e => by rw [← e] at hb; have := hM; unfold MkAt at this; rw [this] at hb; cases hb
    have al := hA.lt
    have b0 : W.heap[w.heap.size]? = some (.cells #[.int .i64 (k : Int), .int .i64 (t : Int), .int .u64 (a : Int), .int .i64 1, .int .i64 (pr : Int)] 157) := by rw [hW]; exact (Below.heap_alloc _ _ _ (by simp)).trans (heap_alloc_new w _)
    have b1 : W.heap[w.heap.size + 1]? = some (.cells #[.int .i64 (t : Int), .int .i64 1, .int .i64 (pr : Int)] 171) := by rw [hW]; exact next_new w _ _
    have e0 := (h w.heap.size (by omega) (by omega)).trans b0
    have e1 := (h (w.heap.size + 1) (by omega) (by omega)).trans b1
    have M1 : MkAt w1 m s := hM.kept ((h m (by have := hM.lt; omega) nM).trans (bk m hM.lt))
    refine ⟨(hX.kept ((h X (by have := hX.lt; omega) nX).trans (bk X hX.lt))).cell, M1, ?_, ?_, ?_, ?_, ?_, ?_, hO.kept (fun j hj => ?_)⟩
    · simp [World.cell?, e0]
    · simp [World.cell?, e0]
    · simp [World.cell?, e0]
    · simp [World.cell?, e1]
    · simp [World.cell?, e1]
    · simp [World.cell?, e1]
    · have jl := hO.lt hj
      exact (h j (by omega) (fun e => by obtain ⟨cur, hc⟩ := row_block hO hj; rw [e, hb] at hc; cases hc)).trans (bk j jl)
  have AW : Aside (AccF W s.ba q) := hA.kept (bk _ hA.lt)
  have HOW : Aside (Onl (fun _ => False) w W) := by show Onl _ _ _; rw [hW]; exact ((Onl.refl _ w).alloc _).alloc _
  have HS : Aside (Calls Try.prog 107 #[.agg #[.int .i64 (t : Int), .int .i64 1, .int .i64 (pr : Int)]] W fun e w' => e = .returned (.tuple #[.int .i64 1, .int .i64 1]) ∧ Below W.heap.size W w') := stake_any ⟨t, 1, pr⟩ W
  have hqt := hq t (by omega)
  unfold reqV
  have p1 : decide ((pr : Int) < 1) = false := decide_eq_false (by omega)
  have p2 : decide ((1000 : Int) ≤ (pr : Int)) = false := decide_eq_false (by omega)
  have hpl : decide (0 ≤ placeX os t) = false := decide_eq_false (by omega)
  clear hX hM hA hO hq bk
  go_enter Try.func119, Try.ntmps119
  go_wp2_with fail
  rw [← hW]
  clear hW
  refine Calls.mono (f := 107) HS.out ?_
  rintro e w1 ⟨rfl, B1⟩
  obtain ⟨x1, M1, r1, r3, r4, o0, o1, o2, OR1⟩ := F.out w1 (fun j hj _ => B1.block j hj)
  have A1 : Aside (AccF w1 s.ba q) := AW.out.kept (B1.block _ AW.out.lt)
  have HO1 : Aside (Onl (fun _ => False) w w1) := HOW.out.below B1
  have BB1 : Aside (Below W.heap.size W w1) := B1
  have hsz1 : W.heap.size ≤ w1.heap.size := B1.size
  have HM1 : Aside (MkAt w1 m s) := M1
  have HOR1 : Aside (ORow w1 s.ov os) := OR1
  clear HS B1 M1 OR1
  have m4 := HM1.out.all.c4
  have m5 := HM1.out.all.c5
  have m6 := HM1.out.all.c6
  have HPL : Aside _ := place_any os s.ov s.num s.fin t w1.drew (HOR1.out.kept (fun _ _ => rfl)) hl
  go_wp2_with fail
  go_still_tail 6, mixed
  go_wp2_with fail
  refine Calls.mono (f := 120) HPL.out ?_
  rintro e w2 ⟨rfl, B2⟩
  have B12 : Below W.heap.size W w2 := BB1.out.trans ⟨B2.os, B2.tape, B2.output, B2.size, fun j hj => B2.block j (by show j < w1.heap.size; omega)⟩
  clear x1 r1 r3 r4 o0 o1 o2 m4 m5 m6 A1 HO1 HM1 HOR1 HPL BB1
  obtain ⟨x1, M2, r1, r3, r4, o0, o1, o2, OR2⟩ := F.out w2 (fun j hj _ => B12.block j hj)
  have A2 : Aside (AccF w2 s.ba q) := AW.out.kept (B12.block _ AW.out.lt)
  have HO2 : Aside (Onl (fun _ => False) w w2) := HOW.out.below B12
  have BB2 : Aside (Below W.heap.size W w2) := B12
  have hsz2 : W.heap.size ≤ w2.heap.size := B12.size
  have HM2 : Aside (MkAt w2 m s) := M2
  have HOR2 : Aside (ORow w2 s.ov os) := OR2
  clear B2 B12 M2 OR2
  obtain ⟨oa, ocp, hov, _⟩ := HOR2.out.ords
  have m6 := HM2.out.all.c6
  rw [hov] at m6
  have m1 := HM2.out.all.c1
  have HOV : Aside (s.ov = .slice oa os.length ocp) := hov
  clear hov
  obtain ⟨W3, hW3⟩ : ∃ W3 : World, W3 = { heap := w2.heap, tape := w2.tape, drawn := w2.drawn + 1, os := w2.os, output := w2.output } := ⟨_, rfl⟩
  have hsame : W3.heap = w2.heap := by rw [hW3]
  have BW3 : Aside (Below W.heap.size W W3) := by show Below _ _ _; rw [hW3]; exact ⟨BB2.out.os, BB2.out.tape, BB2.out.output, BB2.out.size, BB2.out.block⟩
  go_wp2_with fail
  go_still_tail 12, mixed
  go_wp2_with fail
  go_ret2
  exact ⟨rfl, HO2.out.drew.toBelow⟩

end Go.Proofs.Ytjfifaooimgbaaa
/- An order is given: short. -/
namespace Go.Proofs.Ytjfifaooimgbaaa
open Go.Shelf Go.RowKit Go.Lib Go.Sort

set_option maxHeartbeats 2000000 in
set_option maxRecDepth 100000 in
theorem give_8_0 (w : World) (m X k t a pr : Nat) (s : MkS) (q : Nat → A4) (os : List Ex.Ord) (hX : BoxM w X m) (hM : MkAt w m s) (hA : AccF w s.ba q) (hO : ORow w s.ov os) (hq : Tame q) (ht : t < 20) (hl : os.length ≤ 1000) (hpr : pr < 65536) (hp : 1 ≤ pr ∧ pr < 1000) (hn : placeX os t < 0) (hc : (os.length : Int) < s.cap) (hs : (q t).c < pr) :
    Calls Try.prog 119 #[reqV k t a 0 pr, .pointer (some ⟨X, 0, none⟩)] w fun e w' => e = .returned (.tuple #[.int .u8 8, .slice none 0 0]) ∧ Below w.heap.size w w' := by
  have mixed : Try.prog.follows .mixedOrders = true := by kernel_rfl
  obtain ⟨W, hW⟩ : ∃ W, W = (w.alloc (.cells #[.int .i64 (k : Int), .int .i64 (t : Int), .int .u64 (a : Int), .int .i64 0, .int .i64 (pr : Int)] 157)).alloc (.cells #[.int .i64 (t : Int), .int .i64 0, .int .i64 (pr : Int)] 171) := ⟨_, rfl⟩
  have hsz : W.heap.size = w.heap.size + 1 + 1 := by rw [hW]; simp
  have bk : ∀ j, j < w.heap.size → W.heap[j]? = w.heap[j]? := fun j hj => by rw [hW]; exact (Below.heap_alloc _ _ j (by simp; omega)).trans (Below.heap_alloc w _ j hj)
  have F : Aside (∀ w1 : World, (∀ j, j < W.heap.size → j ≠ s.ba → w1.heap[j]? = W.heap[j]?) → w1.cell? ⟨X, 0, none⟩ = some (.pointer (some ⟨m, 0, none⟩)) ∧ MkAt w1 m s ∧ w1.cell? ⟨w.heap.size, 1, none⟩ = some (.int .i64 (t : Int)) ∧ w1.cell? ⟨w.heap.size, 3, none⟩ = some (.int .i64 0) ∧ w1.cell? ⟨w.heap.size, 4, none⟩ = some (.int .i64 (pr : Int)) ∧ w1.cell? ⟨w.heap.size + 1, 0, none⟩ = some (.int .i64 (t : Int)) ∧ w1.cell? ⟨w.heap.size + 1, 1, none⟩ = some (.int .i64 0) ∧ w1.cell? ⟨w.heap.size + 1, 2, none⟩ = some (.int .i64 (pr : Int)) ∧ ORow w1 s.ov os) := fun w1 h => by
    obtain ⟨es, ec, hb⟩ := hA.block
    have nX : X ≠ s.ba := fun e => by rw [← e] at hb; have := hX; unfold BoxM at this; rw [this] at hb; cases hb
    have nM : m ≠ s.ba := fun e => by rw [← e] at hb; have := hM; unfold MkAt at this; rw [this] at hb; cases hb
    have al := hA.lt
    have b0 : W.heap[w.heap.size]? = some (.cells #[.int .i64 (k : Int), .int .i64 (t : Int), .int .u64 (a : Int), .int .i64 0, .int .i64 (pr : Int)] 157) := by rw [hW]; exact (Below.heap_alloc _ _ _ (by simp)).trans (heap_alloc_new w _)
    have b1 : W.heap[w.heap.size + 1]? = some (.cells #[.int .i64 (t : Int), .int .i64 0, .int .i64 (pr : Int)] 171) := by rw [hW]; exact next_new w _ _
    have e0 := (h w.heap.size (by omega) (by omega)).trans b0
    have e1 := (h (w.heap.size + 1) (by omega) (by omega)).trans b1
    have M1 : MkAt w1 m s := hM.kept ((h m (by have := hM.lt; omega) nM).trans (bk m hM.lt))
    refine ⟨(hX.kept ((h X (by have := hX.lt; omega) nX).trans (bk X hX.lt))).cell, M1, ?_, ?_, ?_, ?_, ?_, ?_, hO.kept (fun j hj => ?_)⟩
    · simp [World.cell?, e0]
    · simp [World.cell?, e0]
    · simp [World.cell?, e0]
    · simp [World.cell?, e1]
    · simp [World.cell?, e1]
    · simp [World.cell?, e1]
    · have jl := hO.lt hj
      exact (h j (by omega) (fun e => by obtain ⟨cur, hc⟩ := row_block hO hj; rw [e, hb] at hc; cases hc)).trans (bk j jl)
  have AW : Aside (AccF W s.ba q) := hA.kept (bk _ hA.lt)
  have HOW : Aside (Onl (fun _ => False) w W) := by show Onl _ _ _; rw [hW]; exact ((Onl.refl _ w).alloc _).alloc _
  have HS : Aside (Calls Try.prog 107 #[.agg #[.int .i64 (t : Int), .int .i64 0, .int .i64 (pr : Int)]] W fun e w' => e = .returned (.tuple #[.int .i64 0, .int .i64 (pr : Int)]) ∧ Below W.heap.size W w') := stake_any ⟨t, 0, pr⟩ W
  have hqt := hq t (by omega)
  unfold reqV
  have p1 : decide ((pr : Int) < 1) = false := decide_eq_false (by omega)
  have p2 : decide ((1000 : Int) ≤ (pr : Int)) = false := decide_eq_false (by omega)
  have hpl : decide (0 ≤ placeX os t) = false := decide_eq_false (by omega)
  have hcp : decide (s.cap ≤ (os.length : Int)) = false := decide_eq_false (by omega)
  clear hX hM hA hO hq bk
  go_enter Try.func119, Try.ntmps119
  go_wp2_with fail
  rw [← hW]
  clear hW
  refine Calls.mono (f := 107) HS.out ?_
  rintro e w1 ⟨rfl, B1⟩
  obtain ⟨x1, M1, r1, r3, r4, o0, o1, o2, OR1⟩ := F.out w1 (fun j hj _ => B1.block j hj)
  have A1 : Aside (AccF w1 s.ba q) := AW.out.kept (B1.block _ AW.out.lt)
  have HO1 : Aside (Onl (fun _ => False) w w1) := HOW.out.below B1
  have BB1 : Aside (Below W.heap.size W w1) := B1
  have hsz1 : W.heap.size ≤ w1.heap.size := B1.size
  have HM1 : Aside (MkAt w1 m s) := M1
  have HOR1 : Aside (ORow w1 s.ov os) := OR1
  clear HS B1 M1 OR1
  have m4 := HM1.out.all.c4
  have m5 := HM1.out.all.c5
  have m6 := HM1.out.all.c6
  have HPL : Aside _ := place_any os s.ov s.num s.fin t w1.drew (HOR1.out.kept (fun _ _ => rfl)) hl
  go_wp2_with fail
  go_still_tail 6, mixed
  go_wp2_with fail
  refine Calls.mono (f := 120) HPL.out ?_
  rintro e w2 ⟨rfl, B2⟩
  have B12 : Below W.heap.size W w2 := BB1.out.trans ⟨B2.os, B2.tape, B2.output, B2.size, fun j hj => B2.block j (by show j < w1.heap.size; omega)⟩
  clear x1 r1 r3 r4 o0 o1 o2 m4 m5 m6 A1 HO1 HM1 HOR1 HPL BB1
  obtain ⟨x1, M2, r1, r3, r4, o0, o1, o2, OR2⟩ := F.out w2 (fun j hj _ => B12.block j hj)
  have A2 : Aside (AccF w2 s.ba q) := AW.out.kept (B12.block _ AW.out.lt)
  have HO2 : Aside (Onl (fun _ => False) w w2) := HOW.out.below B12
  have BB2 : Aside (Below W.heap.size W w2) := B12
  have hsz2 : W.heap.size ≤ w2.heap.size := B12.size
  have HM2 : Aside (MkAt w2 m s) := M2
  have HOR2 : Aside (ORow w2 s.ov os) := OR2
  clear B2 B12 M2 OR2
  obtain ⟨oa, ocp, hov, _⟩ := HOR2.out.ords
  have m6 := HM2.out.all.c6
  rw [hov] at m6
  have m1 := HM2.out.all.c1
  have HOV : Aside (s.ov = .slice oa os.length ocp) := hov
  clear hov
  obtain ⟨W3, hW3⟩ : ∃ W3 : World, W3 = { heap := w2.heap, tape := w2.tape, drawn := w2.drawn + 1, os := w2.os, output := w2.output } := ⟨_, rfl⟩
  have hsame : W3.heap = w2.heap := by rw [hW3]
  have BW3 : Aside (Below W.heap.size W W3) := by show Below _ _ _; rw [hW3]; exact ⟨BB2.out.os, BB2.out.tape, BB2.out.output, BB2.out.size, BB2.out.block⟩
  go_wp2_with fail
  go_still_tail 12, mixed
  go_wp2_with fail
  rw [← hW3]
  clear x1 r1 r3 r4 o0 o1 o2 m6 m1 hW3 hsame A2 HO2 BB2 HM2 HOR2
  obtain ⟨x1, M3, r1, r3, r4, o0, o1, o2, OR3⟩ := F.out W3 (fun j hj _ => BW3.out.block j hj)
  have A3 : AccF W3 s.ba q := AW.out.kept (BW3.out.block _ AW.out.lt)
  have HO3 : Aside (Onl (fun _ => False) w W3) := HOW.out.below BW3.out
  have lk : (Instr.lookup 121 (.map (some s.ba)) (.int .i64 (t : Int)) false).run Try.prog W3.drew = .ok (.agg #[.int .i64 (q t).c, .int .i64 (q t).h, .int .i64 (q t).u, .int .i64 (q t).k]) W3.drew := (A3.kept (w' := W3.drew) rfl).look (by omega)
  have m3 := M3.all.c3
  clear A3 M3 OR3
  have fx := fld0 (.int .i64 (q t).c) (.int .i64 (q t).h)
  have ix := idx0 (.int .i64 (q t).c) (.int .i64 (q t).h) (.int .i64 (q t).u) (.int .i64 (q t).k)
  obtain ⟨W4, hW4⟩ : ∃ W4 : World, W4 = { heap := W3.heap, tape := W3.tape, drawn := W3.drawn + 1, os := W3.os, output := W3.output } := ⟨_, rfl⟩
  have BW4 : Aside (Below W.heap.size W W4) := by show Below _ _ _; rw [hW4]; exact ⟨BW3.out.os, BW3.out.tape, BW3.out.output, BW3.out.size, BW3.out.block⟩
  go_still_tail 12, mixed
  go_wp2_with fail
  go_ret2
  exact ⟨rfl, HO3.out.drew.toBelow⟩

set_option maxHeartbeats 2000000 in
set_option maxRecDepth 100000 in
theorem give_8_1 (w : World) (m X k t a pr : Nat) (s : MkS) (q : Nat → A4) (os : List Ex.Ord) (hX : BoxM w X m) (hM : MkAt w m s) (hA : AccF w s.ba q) (hO : ORow w s.ov os) (hq : Tame q) (ht : t < 20) (hl : os.length ≤ 1000) (hpr : pr < 65536) (hp : 1 ≤ pr ∧ pr < 1000) (hn : placeX os t < 0) (hc : (os.length : Int) < s.cap) (hs : (q t).u < 1) :
    Calls Try.prog 119 #[reqV k t a 1 pr, .pointer (some ⟨X, 0, none⟩)] w fun e w' => e = .returned (.tuple #[.int .u8 8, .slice none 0 0]) ∧ Below w.heap.size w w' := by
  have mixed : Try.prog.follows .mixedOrders = true := by kernel_rfl
  obtain ⟨W, hW⟩ : ∃ W, W = (w.alloc (.cells #[.int .i64 (k : Int), .int .i64 (t : Int), .int .u64 (a : Int), .int .i64 1, .int .i64 (pr : Int)] 157)).alloc (.cells #[.int .i64 (t : Int), .int .i64 1, .int .i64 (pr : Int)] 171) := ⟨_, rfl⟩
  have hsz : W.heap.size = w.heap.size + 1 + 1 := by rw [hW]; simp
  have bk : ∀ j, j < w.heap.size → W.heap[j]? = w.heap[j]? := fun j hj => by rw [hW]; exact (Below.heap_alloc _ _ j (by simp; omega)).trans (Below.heap_alloc w _ j hj)
  have F : Aside (∀ w1 : World, (∀ j, j < W.heap.size → j ≠ s.ba → w1.heap[j]? = W.heap[j]?) → w1.cell? ⟨X, 0, none⟩ = some (.pointer (some ⟨m, 0, none⟩)) ∧ MkAt w1 m s ∧ w1.cell? ⟨w.heap.size, 1, none⟩ = some (.int .i64 (t : Int)) ∧ w1.cell? ⟨w.heap.size, 3, none⟩ = some (.int .i64 1) ∧ w1.cell? ⟨w.heap.size, 4, none⟩ = some (.int .i64 (pr : Int)) ∧ w1.cell? ⟨w.heap.size + 1, 0, none⟩ = some (.int .i64 (t : Int)) ∧ w1.cell? ⟨w.heap.size + 1, 1, none⟩ = some (.int .i64 1) ∧ w1.cell? ⟨w.heap.size + 1, 2, none⟩ = some (.int .i64 (pr : Int)) ∧ ORow w1 s.ov os) := fun w1 h => by
    obtain ⟨es, ec, hb⟩ := hA.block
    have nX : X ≠ s.ba := fun e => by rw [← e] at hb; have := hX; unfold BoxM at this; rw [this] at hb; cases hb
    have nM : m ≠ s.ba := fun e => by rw [← e] at hb; have := hM; unfold MkAt at this; rw [this] at hb; cases hb
    have al := hA.lt
    have b0 : W.heap[w.heap.size]? = some (.cells #[.int .i64 (k : Int), .int .i64 (t : Int), .int .u64 (a : Int), .int .i64 1, .int .i64 (pr : Int)] 157) := by rw [hW]; exact (Below.heap_alloc _ _ _ (by simp)).trans (heap_alloc_new w _)
    have b1 : W.heap[w.heap.size + 1]? = some (.cells #[.int .i64 (t : Int), .int .i64 1, .int .i64 (pr : Int)] 171) := by rw [hW]; exact next_new w _ _
    have e0 := (h w.heap.size (by omega) (by omega)).trans b0
    have e1 := (h (w.heap.size + 1) (by omega) (by omega)).trans b1
    have M1 : MkAt w1 m s := hM.kept ((h m (by have := hM.lt; omega) nM).trans (bk m hM.lt))
    refine ⟨(hX.kept ((h X (by have := hX.lt; omega) nX).trans (bk X hX.lt))).cell, M1, ?_, ?_, ?_, ?_, ?_, ?_, hO.kept (fun j hj => ?_)⟩
    · simp [World.cell?, e0]
    · simp [World.cell?, e0]
    · simp [World.cell?, e0]
    · simp [World.cell?, e1]
    · simp [World.cell?, e1]
    · simp [World.cell?, e1]
    · have jl := hO.lt hj
      exact (h j (by omega) (fun e => by obtain ⟨cur, hc⟩ := row_block hO hj; rw [e, hb] at hc; cases hc)).trans (bk j jl)
  have AW : Aside (AccF W s.ba q) := hA.kept (bk _ hA.lt)
  have HOW : Aside (Onl (fun _ => False) w W) := by show Onl _ _ _; rw [hW]; exact ((Onl.refl _ w).alloc _).alloc _
  have HS : Aside (Calls Try.prog 107 #[.agg #[.int .i64 (t : Int), .int .i64 1, .int .i64 (pr : Int)]] W fun e w' => e = .returned (.tuple #[.int .i64 1, .int .i64 1]) ∧ Below W.heap.size W w') := stake_any ⟨t, 1, pr⟩ W
  have hqt := hq t (by omega)
  unfold reqV
  have p1 : decide ((pr : Int) < 1) = false := decide_eq_false (by omega)
  have p2 : decide ((1000 : Int) ≤ (pr : Int)) = false := decide_eq_false (by omega)
  have hpl : decide (0 ≤ placeX os t) = false := decide_eq_false (by omega)
  have hcp : decide (s.cap ≤ (os.length : Int)) = false := decide_eq_false (by omega)
  clear hX hM hA hO hq bk
  go_enter Try.func119, Try.ntmps119
  go_wp2_with fail
  rw [← hW]
  clear hW
  refine Calls.mono (f := 107) HS.out ?_
  rintro e w1 ⟨rfl, B1⟩
  obtain ⟨x1, M1, r1, r3, r4, o0, o1, o2, OR1⟩ := F.out w1 (fun j hj _ => B1.block j hj)
  have A1 : Aside (AccF w1 s.ba q) := AW.out.kept (B1.block _ AW.out.lt)
  have HO1 : Aside (Onl (fun _ => False) w w1) := HOW.out.below B1
  have BB1 : Aside (Below W.heap.size W w1) := B1
  have hsz1 : W.heap.size ≤ w1.heap.size := B1.size
  have HM1 : Aside (MkAt w1 m s) := M1
  have HOR1 : Aside (ORow w1 s.ov os) := OR1
  clear HS B1 M1 OR1
  have m4 := HM1.out.all.c4
  have m5 := HM1.out.all.c5
  have m6 := HM1.out.all.c6
  have HPL : Aside _ := place_any os s.ov s.num s.fin t w1.drew (HOR1.out.kept (fun _ _ => rfl)) hl
  go_wp2_with fail
  go_still_tail 6, mixed
  go_wp2_with fail
  refine Calls.mono (f := 120) HPL.out ?_
  rintro e w2 ⟨rfl, B2⟩
  have B12 : Below W.heap.size W w2 := BB1.out.trans ⟨B2.os, B2.tape, B2.output, B2.size, fun j hj => B2.block j (by show j < w1.heap.size; omega)⟩
  clear x1 r1 r3 r4 o0 o1 o2 m4 m5 m6 A1 HO1 HM1 HOR1 HPL BB1
  obtain ⟨x1, M2, r1, r3, r4, o0, o1, o2, OR2⟩ := F.out w2 (fun j hj _ => B12.block j hj)
  have A2 : Aside (AccF w2 s.ba q) := AW.out.kept (B12.block _ AW.out.lt)
  have HO2 : Aside (Onl (fun _ => False) w w2) := HOW.out.below B12
  have BB2 : Aside (Below W.heap.size W w2) := B12
  have hsz2 : W.heap.size ≤ w2.heap.size := B12.size
  have HM2 : Aside (MkAt w2 m s) := M2
  have HOR2 : Aside (ORow w2 s.ov os) := OR2
  clear B2 B12 M2 OR2
  obtain ⟨oa, ocp, hov, _⟩ := HOR2.out.ords
  have m6 := HM2.out.all.c6
  rw [hov] at m6
  have m1 := HM2.out.all.c1
  have HOV : Aside (s.ov = .slice oa os.length ocp) := hov
  clear hov
  obtain ⟨W3, hW3⟩ : ∃ W3 : World, W3 = { heap := w2.heap, tape := w2.tape, drawn := w2.drawn + 1, os := w2.os, output := w2.output } := ⟨_, rfl⟩
  have hsame : W3.heap = w2.heap := by rw [hW3]
  have BW3 : Aside (Below W.heap.size W W3) := by show Below _ _ _; rw [hW3]; exact ⟨BB2.out.os, BB2.out.tape, BB2.out.output, BB2.out.size, BB2.out.block⟩
  go_wp2_with fail
  go_still_tail 12, mixed
  go_wp2_with fail
  rw [← hW3]
  clear x1 r1 r3 r4 o0 o1 o2 m6 m1 hW3 hsame A2 HO2 BB2 HM2 HOR2
  obtain ⟨x1, M3, r1, r3, r4, o0, o1, o2, OR3⟩ := F.out W3 (fun j hj _ => BW3.out.block j hj)
  have A3 : AccF W3 s.ba q := AW.out.kept (BW3.out.block _ AW.out.lt)
  have HO3 : Aside (Onl (fun _ => False) w W3) := HOW.out.below BW3.out
  have lk : (Instr.lookup 121 (.map (some s.ba)) (.int .i64 (t : Int)) false).run Try.prog W3.drew = .ok (.agg #[.int .i64 (q t).c, .int .i64 (q t).h, .int .i64 (q t).u, .int .i64 (q t).k]) W3.drew := (A3.kept (w' := W3.drew) rfl).look (by omega)
  have m3 := M3.all.c3
  clear A3 M3 OR3
  have fx := fld0 (.int .i64 (q t).u) (.int .i64 (q t).k)
  have ix := idx1 (.int .i64 (q t).c) (.int .i64 (q t).h) (.int .i64 (q t).u) (.int .i64 (q t).k)
  obtain ⟨W4, hW4⟩ : ∃ W4 : World, W4 = { heap := W3.heap, tape := W3.tape, drawn := W3.drawn + 1, os := W3.os, output := W3.output } := ⟨_, rfl⟩
  have BW4 : Aside (Below W.heap.size W W4) := by show Below _ _ _; rw [hW4]; exact ⟨BW3.out.os, BW3.out.tape, BW3.out.output, BW3.out.size, BW3.out.block⟩
  go_still_tail 12, mixed
  go_wp2_with fail
  go_ret2
  exact ⟨rfl, HO3.out.drew.toBelow⟩

end Go.Proofs.Ytjfifaooimgbaaa
/- An order is given: it is in the batch. -/
namespace Go.Proofs.Ytjfifaooimgbaaa
open Go.Shelf Go.RowKit Go.Lib Go.Sort

theorem ORow.sl {w : World} {v : Value} {os : List Ex.Ord} (h : ORow w v os) : ∃ a n cap, v = .slice a n cap ∧ n = os.length := by
  obtain ⟨a, cap, rfl, _, _⟩ := h.ords
  exact ⟨a, _, cap, rfl, rfl⟩
theorem one_oc (o : Ex.Ord) : ∀ u ∈ oc o, u.oneCell' = true := fun u hu => by
  simp [oc] at hu
  rcases hu with rfl | rfl | rfl <;> rfl
theorem Try.info171 : (Try.prog.info? 171).map (fun i => (i.zero, i.size, i.bytes)) = some (some (.agg #[.int .i64 0, .int .i64 0, .int .i64 0]), 3, 24) := by kernel_rfl
theorem step_append_ord {ops : Array Oper} {o : Oper} {a : Act} {w : World} {K : Act → World → Prop} {Q : Exit → Act → World → Prop} {E : Prop}
    (hg : o.guard = none) (s x : Operand) (hop : o.op = Op.call { callee := Callee.builtin Builtin.append, args := #[s, x], argTypes := #[122, 122] })
    (v : Value) (os : List Ex.Ord) (hs : a.eval s = v) (hown : ORow w v os) (o1 : Ex.Ord) (ad : Addr) (hx : a.eval x = .slice (some ad) 1 1) (hc : ∀ j u, (oc o1)[j]? = some u → w.cell? (ad.add j) = some u) (hl : os.length ≤ 1000)
    (hK : ∀ v' w', ORow w' v' (os ++ [o1]) → w.grownBy w' v.ownBlock → (v'.ownBlock = v.ownBlock ∨ v'.ownBlock = some w.heap.size) → K (a.put o.dst v') w') :
    if Region.wanted o (yielded ops a.tmps) = true then Oper.wp Try.prog o a w K Q else E := by
  have hw : Region.wanted o (yielded ops a.tmps) = true := by simp [Region.wanted, hg]
  rw [if_pos hw]
  obtain ⟨i0, hi, hz0, hz1, hz2⟩ := info_parts Try.info171
  obtain ⟨v', w', hr, h2, h3, h4⟩ := append_own_src (P := Try.prog) w 122 122 o.type 171 i0 (.agg #[.int .i64 0, .int .i64 0, .int .i64 0]) 3 24 Try.underlying122 hi hz0 hz1 hz2 rfl v os.length (ocs os) hown (.slice (some ad) 1 1) 1 (oc o1) (Src.ofSlice w Try.underlying122 ad 1 1 (oc o1) rfl hc (one_oc o1)) (by unfold maxLen; omega) (by omega) (by omega)
  unfold Oper.wp execOp
  simp only [hop, resolve, invoke, builtin, Sem.run_bind, Sem.run_pure, Result.andThen_ok, List.map_toArray, List.map_cons, List.map_nil, hs, hx, hr]
  refine hK v' w' ?_ h3 h4
  unfold ORow
  rw [ocs_append, List.length_append]
  have : ocs [o1] = oc o1 := by simp [ocs]
  rw [this]
  exact h2

end Go.Proofs.Ytjfifaooimgbaaa
