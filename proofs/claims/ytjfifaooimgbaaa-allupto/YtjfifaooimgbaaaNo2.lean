import Derived.Test.YtjfifaooimgbaaaNw
import Derived.Deep.Cut
import Derived.Deep.RegionHeld3
/- A new market, an exchange opened. -/
namespace Go.Proofs.Ytjfifaooimgbaaa
open Go.Shelf Go.RowKit Go.Lib Go.Sort

/-- the block of a market that has done nothing, its deeds not laid yet. -/
abbrev blk0 (per cap z1 z2 z3 z4 z5 : Int) (A P : Nat) : Obj := .cells #[.int .i64 per, .int .i64 cap, .int .i64 0, .map (some A), .int .i64 1, .int .i64 per, .slice none 0 0, .int .i64 z1, .int .i64 z2, .int .i64 z3, .int .i64 z4, .int .u64 z5, .map (some P), .slice none 0 0, .map none] 130
def NewMid (w : World) (per cap z1 z2 z3 z4 z5 : Int) (v : Value) (w3 : World) : Prop := ∃ m A P, v = .pointer (some ⟨m, 0, none⟩) ∧ w3.heap[m]? = some (blk0 per cap z1 z2 z3 z4 z5 A P) ∧ MapF Try.prog 3 w3 A 21 (fun _ => none) ∧ MapF Try.prog 3 w3 P 20 (fun _ => none) ∧ A ≠ P ∧ w.heap.size ≤ m ∧ w.heap.size ≤ A ∧ w.heap.size ≤ P ∧ Below w.heap.size w w3
section
variable {w w1 w2 : World} {per cap z1 z2 z3 z4 z5 : Int} {P : Nat} {bo : Obj}
theorem finA (b1 : Below ((w.alloc bo).alloc (.map #[] 0)).drew.heap.size ((w.alloc bo).alloc (.map #[] 0)).drew w1) (p1 : MapF Try.prog 3 w2 P 20 (fun _ => none)) (p2 : w1.heap.size ≤ P) (p3 : Below w1.heap.size w1 w2) : NewMid w per cap z1 z2 z3 z4 z5 (.pointer (some ⟨w2.heap.size, 0, none⟩)) (w2.alloc (blk0 per cap z1 z2 z3 z4 z5 (w.heap.size + 1) P)) := by
  have s0 : ((w.alloc bo).alloc (.map #[] 0)).drew.heap.size = w.heap.size + 2 := by show ((w.alloc bo).alloc _).heap.size = _; simp
  have s1 : w.heap.size + 2 ≤ w1.heap.size := by have := b1.size; omega
  have s2 := p3.size
  have MA : MapF Try.prog 3 ((w.alloc bo).alloc (.map #[] 0)) (w.heap.size + 1) 21 (fun _ => none) := by
    have := MapF.made Try.prog 3 (w.alloc bo) 21
    rwa [show (w.alloc bo).heap.size = w.heap.size + 1 by simp] at this
  have o1 : Onl (fun _ => False) w w2 := ((((Onl.refl _ w).alloc bo).alloc _).drew.below b1).below p3
  refine ⟨_, _, P, rfl, heap_alloc_new w2 _, ?_, p1.kept (Below.heap_alloc w2 _ P p1.lt), by omega, by omega, by omega, by omega, (o1.alloc _).toBelow⟩
  exact MA.kept ((Below.heap_alloc w2 _ _ (by omega)).trans ((p3.block _ (by omega)).trans (b1.block _ (by omega))))
theorem finB (b1 : Below (w.alloc bo).drew.heap.size (w.alloc bo).drew w1) (p1 : MapF Try.prog 3 w2 P 20 (fun _ => none)) (p2 : (w1.alloc (.map #[] 0)).heap.size ≤ P) (p3 : Below (w1.alloc (.map #[] 0)).heap.size (w1.alloc (.map #[] 0)) w2) : NewMid w per cap z1 z2 z3 z4 z5 (.pointer (some ⟨w2.heap.size, 0, none⟩)) (w2.alloc (blk0 per cap z1 z2 z3 z4 z5 w1.heap.size P)) := by
  have s0 : (w.alloc bo).drew.heap.size = w.heap.size + 1 := by show (w.alloc bo).heap.size = _; simp
  have s1 : w.heap.size + 1 ≤ w1.heap.size := by have := b1.size; omega
  have e1 : (w1.alloc (.map #[] 0)).heap.size = w1.heap.size + 1 := by simp
  have s2 := p3.size
  have MA := MapF.made Try.prog 3 w1 21
  have o1 : Onl (fun _ => False) w w2 := ((((Onl.refl _ w).alloc bo).drew.below b1).alloc _).below p3
  refine ⟨_, _, P, rfl, heap_alloc_new w2 _, ?_, p1.kept (Below.heap_alloc w2 _ P p1.lt), by omega, by omega, by omega, by omega, (o1.alloc _).toBelow⟩
  exact MA.kept ((Below.heap_alloc w2 _ _ (by omega)).trans (p3.block _ (by omega)))
theorem finC (b1 : Below (w.alloc bo).drew.heap.size (w.alloc bo).drew w1) (p1 : MapF Try.prog 3 w2 P 20 (fun _ => none)) (p2 : w1.heap.size ≤ P) (p3 : Below w1.heap.size w1 w2) : NewMid w per cap z1 z2 z3 z4 z5 (.pointer (some ⟨w2.heap.size + 1, 0, none⟩)) ((w2.alloc (.map #[] 0)).alloc (blk0 per cap z1 z2 z3 z4 z5 w2.heap.size P)) := by
  have s0 : (w.alloc bo).drew.heap.size = w.heap.size + 1 := by show (w.alloc bo).heap.size = _; simp
  have s1 : w.heap.size + 1 ≤ w1.heap.size := by have := b1.size; omega
  have s2 := p3.size
  have pl := p1.lt
  have e1 : (w2.alloc (.map #[] 0)).heap.size = w2.heap.size + 1 := by simp
  have MA := MapF.made Try.prog 3 w2 21
  have o1 : Onl (fun _ => False) w w2 := ((((Onl.refl _ w).alloc bo).drew.below b1)).below p3
  refine ⟨_, _, P, rfl, next_new w2 _ _, ?_, p1.kept ((Below.heap_alloc _ _ P (by omega)).trans (Below.heap_alloc w2 _ P pl)), by omega, by omega, by omega, by omega, ((o1.alloc _).alloc _).toBelow⟩
  exact MA.kept (Below.heap_alloc _ _ _ (by omega))
end
/-- a market that has done nothing. -/
def mk0 (per cap : Int) (A P M : Nat) : MkS := ⟨per, cap, 0, A, 1, per, .slice none 0 0, kL [], (setL []).1, (setL []).2.1, (setL []).2.2, shareL [], P, .slice none 0 0, M⟩

set_option maxHeartbeats 80000000 in
set_option maxRecDepth 100000 in
theorem new_any (w : World) (per cap : Int) : Calls Try.prog 68 #[.agg #[.int .i64 per, .int .i64 cap]] w fun e w' => ∃ m A P M bx gx, e = .returned (.pointer (some ⟨m, 0, none⟩)) ∧ MkAt w' m (mk0 per cap A P M) ∧ MapF Try.prog 3 w' A 21 (fun _ => none) ∧ MapF Try.prog 3 w' P 20 (fun _ => none) ∧ Bxs w' M m bx gx ∧ (A ≠ P ∧ M ≠ A ∧ M ≠ P) ∧ (w.heap.size ≤ m ∧ w.heap.size ≤ A ∧ w.heap.size ≤ P ∧ ∀ j, BFoot M bx gx j → w.heap.size ≤ j) ∧ Below w.heap.size w w' := by
  have mixed : Try.prog.follows .mixedOrders = true := by kernel_rfl
  have hmm := @run_makeMap Try.prog
  have HC : Aside (∀ w1, Calls Try.prog 40 #[.slice none 0 0] w1 fun e w' => ∃ F, e = .returned (.agg #[.int .i64 ((kL [] : Nat) : Int), .int .i64 (((setL []).1 : Nat) : Int), .int .i64 (setL []).2.1, .int .i64 (setL []).2.2, .slice (some ⟨F, 0, none⟩) 0 0, .int .u64 ((shareL [] : Nat) : Int)]) ∧ Below w1.heap.size w1 w') := fun w1 => by
    refine (clearing_any [] none 0 w1 (fun i hi => by simp at hi) (by decide)).mono ?_
    rintro e w' ⟨F, rfl, _, _, b⟩
    exact ⟨F, rfl, b⟩
  have HR : Aside (∀ w1 F, Calls Try.prog 86 #[.agg #[.int .i64 ((kL [] : Nat) : Int), .int .i64 (((setL []).1 : Nat) : Int), .int .i64 (setL []).2.1, .int .i64 (setL []).2.2, .slice (some ⟨F, 0, none⟩) 0 0, .int .u64 ((shareL [] : Nat) : Int)]] w1 fun e w' => ∃ P, e = .returned (.agg #[.int .i64 ((kL [] : Nat) : Int), .int .i64 (((setL []).1 : Nat) : Int), .int .i64 (setL []).2.1, .int .i64 (setL []).2.2, .int .u64 ((shareL [] : Nat) : Int), .map (some P)]) ∧ MapF Try.prog 3 w' P 20 (fun _ => none) ∧ w1.heap.size ≤ P ∧ Below w1.heap.size w1 w') := fun w1 F => resultOf_any w1 _ _ _ _ (.slice (some ⟨F, 0, none⟩) 0 0) (some ⟨F, 0, none⟩) 0 0 rfl _
  have EQM : Aside (∀ A P M, some (Obj.cells ((#[.int .i64 per, .int .i64 cap, .int .i64 0, .map (some A), .int .i64 1, .int .i64 per, .slice none 0 0, .int .i64 ((kL [] : Nat) : Int), .int .i64 (((setL []).1 : Nat) : Int), .int .i64 (setL []).2.1, .int .i64 (setL []).2.2, .int .u64 ((shareL [] : Nat) : Int), .map (some P), .slice none 0 0, .map none] : Array Value).setIfInBounds 14 (.map (some M))) 130 (0, 0)) = some (Obj.cells (mk0 per cap A P M).cells 130 (0, 0))) := fun _ _ _ => rfl
  generalize ((kL [] : Nat) : Int) = z1 at *
  generalize (((setL []).1 : Nat) : Int) = z2 at *
  generalize (setL []).2.1 = z3 at *
  generalize (setL []).2.2 = z4 at *
  generalize ((shareL [] : Nat) : Int) = z5 at *
  go_enter Try.func68, Try.ntmps68
  go_wp2_with fail
  go_cut [3] from 4 (fun v w3 => Aside (NewMid w per cap z1 z2 z3 z4 z5 v w3))
  case first =>
    go_region_held3 (fun W => W.cell? ⟨w.heap.size, 0, none⟩ = some (.int .i64 per) ∧ W.cell? ⟨w.heap.size, 1, none⟩ = some (.int .i64 cap)) (first | exact ⟨by assumption, by assumption⟩ | go_keep) (first | (go_at_call 40; refine Calls.mono (f := 40) (HC.out _) ?_; rintro e w1 ⟨F, rfl, b1⟩; have q0 : w1.cell? ⟨w.heap.size, 0, none⟩ = some (.int .i64 per) := (b1.cell (p := ⟨w.heap.size, 0, none⟩) (by simp <;> omega)).trans (by first | assumption | simp); have q1 : w1.cell? ⟨w.heap.size, 1, none⟩ = some (.int .i64 cap) := (b1.cell (p := ⟨w.heap.size, 1, none⟩) (by simp <;> omega)).trans (by first | assumption | simp); have hz : w.heap.size + 1 ≤ w1.heap.size := (by have := b1.size; (try simp at this); omega)) | (go_at_call 86; refine Calls.mono (f := 86) (HR.out _ _) ?_; rintro e w2 ⟨P, rfl, p1, p2, p3⟩; have q2 : w2.cell? ⟨w.heap.size, 0, none⟩ = some (.int .i64 per) := (p3.cell (p := ⟨w.heap.size, 0, none⟩) (by simp <;> omega)).trans (by first | exact q0 | exact (World.cell?_of_block (a := ⟨w.heap.size, 0, none⟩) (Below.heap_alloc _ _ _ (by show w.heap.size < w1.heap.size; omega))).trans q0); have q3 : w2.cell? ⟨w.heap.size, 1, none⟩ = some (.int .i64 cap) := (p3.cell (p := ⟨w.heap.size, 1, none⟩) (by simp <;> omega)).trans (by first | exact q1 | exact (World.cell?_of_block (a := ⟨w.heap.size, 1, none⟩) (Below.heap_alloc _ _ _ (by show w.heap.size < w1.heap.size; omega))).trans q1); have hz2 : w.heap.size + 1 ≤ w2.heap.size := (by have := p3.size; (try simp at this); omega)))
    all_goals (
      go_wp2_with fail
      go_meet
      first | exact finA b1 p1 p2 p3 | exact finB b1 p1 p2 p3 | exact finC b1 p1 p2 p3)
  case rest =>
    obtain ⟨m, A, P, rfl, HF0⟩ := hcut.out
    have HF : Aside _ := HF0
    clear HF0 hcut
    have HD : Aside _ := deeds_any wc m
    have hl : m < wc.heap.size := (Array.getElem?_eq_some_iff.1 HF.out.1).1
    clear HC HR hmm
    go_wp2_with fail
    refine Calls.mono (f := 87) HD.out ?_
    rintro e w4 ⟨M, bx, gx, rfl, d1, d2, d3⟩
    have mb := (d3.block m hl).trans HF.out.1
    have c14 : w4.cell? ⟨m, 14, none⟩ = some (.map none) := by simp [World.cell?, mb]
    have f14 : w4.frozen? ⟨m, 14, none⟩ = false := by simp [World.frozen?, mb]
    have HMB : Aside _ := mb
    have HB4 : Aside (Bxs w4 M m bx gx) := d1
    have HN : Aside (∀ j, BFoot M bx gx j → wc.heap.size ≤ j) := d2
    have HB : Aside (Below wc.heap.size wc w4) := d3
    clear mb d1 d2 d3 HD
    go_wp2
    go_ret
    obtain ⟨f1, f2, f3, f4, f5, f6, f7, f8⟩ := HF.out
    have k4 : ∀ j, j ≠ m → (w4.setCell ⟨m, 14, none⟩ (.map (some M))).heap[j]? = w4.heap[j]? := fun j hj => Below.heap_setCell w4 _ _ j hj
    have nA : A ≠ m := fun e => by obtain ⟨es, c, h⟩ := f2.block; rw [e, f1] at h; cases h
    have nP : P ≠ m := fun e => by obtain ⟨es, c, h⟩ := f3.block; rw [e, f1] at h; cases h
    have hM := HN.out M (Or.inl rfl)
    refine ⟨m, A, P, M, bx, gx, rfl, ?_, f2.kept ((k4 A nA).trans (HB.out.block A f2.lt)), f3.kept ((k4 P nP).trans (HB.out.block P f3.lt)), HB4.out.kept (fun j hj => k4 j (by have := HN.out j hj; omega)), ⟨f4, by have := f2.lt; omega, by have := f3.lt; omega⟩, ⟨f5, f6, f7, fun j hj => by have := HN.out j hj; have := f8.size; omega⟩, ?_⟩
    · unfold MkAt
      rw [setCell_heap HMB.out]
      exact EQM.out A P M
    · exact (f8.trans (HB.out.mono f8.size)).setCell (by exact f5) _
end Go.Proofs.Ytjfifaooimgbaaa
