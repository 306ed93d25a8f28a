import Derived.Test.YtjfifaooimgbaaaNb3
import Derived.Test.YtjfifaooimgbaaaEx
/- Requests read. -/
namespace Go.Proofs.Ytjfifaooimgbaaa
open Go.Shelf Go.RowKit Go.Lib Go.Sort

set_option maxHeartbeats 1000000 in
set_option maxRecDepth 100000 in
theorem size_any (k : Nat) (w : World) : Calls Try.prog 113 #[.int .u8 k] w fun e w' => e = .returned (.int .i64 (Ex.longOf k : Nat)) ∧ w' = w := by
  by_cases h : k ≤ 10
  · rcases (show k = 0 ∨ k = 1 ∨ k = 2 ∨ k = 3 ∨ k = 4 ∨ k = 5 ∨ k = 6 ∨ k = 7 ∨ k = 8 ∨ k = 9 ∨ k = 10 by omega) with rfl | rfl | rfl | rfl | rfl | rfl | rfl | rfl | rfl | rfl | rfl
    all_goals go_enter Try.func113, Try.ntmps113
    all_goals go_wp2
    all_goals go_ret
    all_goals exact ⟨rfl, rfl⟩
  · have e : Ex.longOf k = 0 := by
      unfold Ex.longOf
      rw [if_neg (by omega), if_neg (by omega), if_neg (by omega), if_neg (by omega)]
    rw [e]
    clear e
    have e1 : ((k : Int) == 1) = false := beq_eq_false_iff_ne.2 (by omega)
    have e2 : ((k : Int) == 2) = false := beq_eq_false_iff_ne.2 (by omega)
    have e3 : ((k : Int) == 3) = false := beq_eq_false_iff_ne.2 (by omega)
    have e4 : ((k : Int) == 4) = false := beq_eq_false_iff_ne.2 (by omega)
    have e5 : ((k : Int) == 5) = false := beq_eq_false_iff_ne.2 (by omega)
    have e6 : ((k : Int) == 6) = false := beq_eq_false_iff_ne.2 (by omega)
    have e7 : ((k : Int) == 7) = false := beq_eq_false_iff_ne.2 (by omega)
    have e8 : ((k : Int) == 8) = false := beq_eq_false_iff_ne.2 (by omega)
    have e9 : ((k : Int) == 9) = false := beq_eq_false_iff_ne.2 (by omega)
    have e10 : ((k : Int) == 10) = false := beq_eq_false_iff_ne.2 (by omega)
    go_enter Try.func113, Try.ntmps113
    go_wp2
    go_ret
    exact ⟨rfl, rfl⟩

/-- a request, read. -/
def reqV (k t a s p : Nat) : Value := .agg #[.int .i64 k, .int .i64 t, .int .u64 a, .int .i64 s, .int .i64 p]

theorem ext2 (l : List UInt8) (i : Nat) : (⟨l.toArray⟩ : ByteArray).extract i l.length = ⟨(l.drop i).toArray⟩ := by
  apply ByteArray.ext
  simp only [ByteArray.data_extract]
  rw [List.extract_toArray, List.extract_eq_take_drop, List.take_of_length_le (by simp)]

set_option maxHeartbeats 1000000 in
set_option maxRecDepth 100000 in
theorem read_nil (w : World) : Calls Try.prog 93 #[.string ⟨([] : List UInt8).toArray⟩] w fun e w' => e = .returned (.tuple #[reqV 0 0 0 0 0, .int .u8 1]) ∧ Below w.heap.size w w' := by
  have mixed : Try.prog.follows .mixedOrders = true := by kernel_rfl
  unfold reqV
  go_enter Try.func93, Try.ntmps93
  go_wp2
  refine bodyPost_ret (v := .tuple #[.agg #[.int .i64 0, .int .i64 0, .int .u64 0, .int .i64 0, .int .i64 0], .int .u8 1]) (by simp [results, Try.results93, go_sem]) rfl ?_
  exact ⟨rfl, (Below.refl _ w).alloc (Nat.le_refl _) _⟩

set_option maxHeartbeats 1000000 in
set_option maxRecDepth 100000 in
theorem read_len (k : UInt8) (r : List UInt8) (w : World) (h : r.length + 1 ≠ Ex.longOf k.toNat) : Calls Try.prog 93 #[.string ⟨(k :: r).toArray⟩] w fun e w' => e = .returned (.tuple #[reqV 0 0 0 0 0, .int .u8 1]) ∧ Below w.heap.size w w' := by
  have mixed : Try.prog.follows .mixedOrders = true := by kernel_rfl
  have HS : Aside (∀ w, Calls Try.prog 113 #[.int .u8 (k.toNat : Int)] w fun e w' => e = .returned (.int .i64 (Ex.longOf k.toNat : Nat)) ∧ w' = w) := fun w => size_any k.toNat w
  have ne : ((r.length : Int) + 1 == ((Ex.longOf k.toNat : Nat) : Int)) = false := by
    rw [beq_eq_false_iff_ne]; omega
  unfold reqV
  go_enter Try.func93, Try.ntmps93
  go_wp2_with fail
  refine Calls.mono (f := 113) (HS.out _) ?_
  rintro e w' ⟨rfl, rfl⟩
  go_wp2
  refine bodyPost_ret (v := .tuple #[.agg #[.int .i64 0, .int .i64 0, .int .u64 0, .int .i64 0, .int .i64 0], .int .u8 1]) (by simp [results, Try.results93, go_sem]) rfl ?_
  exact ⟨rfl, (Below.refl _ w).alloc (Nat.le_refl _) _⟩

set_option maxHeartbeats 1000000 in
set_option maxRecDepth 100000 in
theorem read_trader (k t : UInt8) (r : List UInt8) (w : World) (h : r.length + 2 = Ex.longOf k.toNat) (ht : 20 ≤ t.toNat) : Calls Try.prog 93 #[.string ⟨(k :: t :: r).toArray⟩] w fun e w' => e = .returned (.tuple #[reqV 0 0 0 0 0, .int .u8 2]) ∧ Below w.heap.size w w' := by
  have mixed : Try.prog.follows .mixedOrders = true := by kernel_rfl
  have HS : Aside (∀ w, Calls Try.prog 113 #[.int .u8 (k.toNat : Int)] w fun e w' => e = .returned (.int .i64 (Ex.longOf k.toNat : Nat)) ∧ w' = w) := fun w => size_any k.toNat w
  have ne : ((r.length : Int) + 1 + 1 == ((Ex.longOf k.toNat : Nat) : Int)) = true := by
    rw [beq_iff_eq]; omega
  have hgt : (1 : Int) < (r.length : Int) + 1 + 1 := by omega
  have htz : (20 : Int) ≤ (t.toNat : Int) := by omega
  have htb : (t.toNat : Int) < 256 := by have := UInt8.toNat_lt t; omega
  unfold reqV
  go_enter Try.func93, Try.ntmps93
  go_wp2_with fail
  refine Calls.mono (f := 113) (HS.out _) ?_
  rintro e w' ⟨rfl, rfl⟩
  have e0 : ({ data := (k :: t :: r).toArray } : ByteArray)[0]'(by show 0 < (k :: t :: r).toArray.size; simp) = k := rfl
  have e1 : ({ data := (k :: t :: r).toArray } : ByteArray)[1]'(by show 1 < (k :: t :: r).toArray.size; simp) = t := rfl
  go_wp2
  refine bodyPost_ret (v := .tuple #[.agg #[.int .i64 0, .int .i64 0, .int .u64 0, .int .i64 0, .int .i64 0], .int .u8 2]) (by simp [results, Try.results93, go_sem]) rfl ?_
  exact ⟨rfl, ((Below.refl _ w).alloc (Nat.le_refl _) _).alloc (by simp) _⟩

set_option maxHeartbeats 1000000 in
set_option maxRecDepth 100000 in
theorem read_one8 (w : World) : Calls Try.prog 93 #[.string ⟨([8] : List UInt8).toArray⟩] w fun e w' => e = .returned (.tuple #[reqV 8 0 0 0 0, .int .u8 0]) ∧ Below w.heap.size w w' := by
  have mixed : Try.prog.follows .mixedOrders = true := by kernel_rfl
  unfold reqV
  have HS : Aside (∀ w, Calls Try.prog 113 #[.int .u8 8] w fun e w' => e = .returned (.int .i64 1) ∧ w' = w) := fun w => size_any 8 w
  go_enter Try.func93, Try.ntmps93
  go_wp2_with fail
  refine Calls.mono (f := 113) (HS.out _) ?_
  rintro e w' ⟨rfl, rfl⟩
  have e0 : ({ data := #[8] } : ByteArray)[0] = 8 := rfl
  go_wp2
  try simp only [Exit.inBlock, Exit.then]
  refine bodyPost_ret (v := .tuple #[.agg #[.int .i64 8, .int .i64 0, .int .u64 0, .int .i64 0, .int .i64 0], .int .u8 0]) (by simp [results, Try.results93, go_sem]) rfl ?_
  exact ⟨rfl, ((Below.refl _ w).alloc (Nat.le_refl _) _).alloc (by simp) _⟩

set_option maxHeartbeats 1000000 in
set_option maxRecDepth 100000 in
theorem read_one10 (w : World) : Calls Try.prog 93 #[.string ⟨([10] : List UInt8).toArray⟩] w fun e w' => e = .returned (.tuple #[reqV 10 0 0 0 0, .int .u8 0]) ∧ Below w.heap.size w w' := by
  have mixed : Try.prog.follows .mixedOrders = true := by kernel_rfl
  unfold reqV
  have HS : Aside (∀ w, Calls Try.prog 113 #[.int .u8 10] w fun e w' => e = .returned (.int .i64 1) ∧ w' = w) := fun w => size_any 10 w
  go_enter Try.func93, Try.ntmps93
  go_wp2_with fail
  refine Calls.mono (f := 113) (HS.out _) ?_
  rintro e w' ⟨rfl, rfl⟩
  have e0 : ({ data := #[10] } : ByteArray)[0] = 10 := rfl
  go_wp2
  try simp only [Exit.inBlock, Exit.then]
  refine bodyPost_ret (v := .tuple #[.agg #[.int .i64 10, .int .i64 0, .int .u64 0, .int .i64 0, .int .i64 0], .int .u8 0]) (by simp [results, Try.results93, go_sem]) rfl ?_
  exact ⟨rfl, ((Below.refl _ w).alloc (Nat.le_refl _) _).alloc (by simp) _⟩

set_option maxHeartbeats 1000000 in
set_option maxRecDepth 100000 in
theorem read_two6 (t : UInt8) (ht : t.toNat < 20) (w : World) : Calls Try.prog 93 #[.string ⟨([6, t] : List UInt8).toArray⟩] w fun e w' => e = .returned (.tuple #[reqV 6 t.toNat 0 0 0, .int .u8 0]) ∧ Below w.heap.size w w' := by
  have mixed : Try.prog.follows .mixedOrders = true := by kernel_rfl
  unfold reqV
  have HS : Aside (∀ w, Calls Try.prog 113 #[.int .u8 6] w fun e w' => e = .returned (.int .i64 2) ∧ w' = w) := fun w => size_any 6 w
  have htz : ¬ (20 : Int) ≤ (t.toNat : Int) := by omega
  go_enter Try.func93, Try.ntmps93
  go_wp2_with fail
  refine Calls.mono (f := 113) (HS.out _) ?_
  rintro e w' ⟨rfl, rfl⟩
  have e0 : ({ data := #[6, t] } : ByteArray)[0]'(by show 0 < 2; decide) = 6 := rfl
  have e1 : ({ data := #[6, t] } : ByteArray)[1]'(by show 1 < 2; decide) = t := rfl
  go_wp2
  try simp only [Exit.inBlock, Exit.then]
  refine bodyPost_ret (v := .tuple #[.agg #[.int .i64 6, .int .i64 t.toNat, .int .u64 0, .int .i64 0, .int .i64 0], .int .u8 0]) (by simp [results, Try.results93, go_sem]) rfl ?_
  exact ⟨rfl, ((Below.refl _ w).alloc (Nat.le_refl _) _).alloc (by simp) _⟩

set_option maxHeartbeats 1000000 in
set_option maxRecDepth 100000 in
theorem read_two7 (t : UInt8) (ht : t.toNat < 20) (w : World) : Calls Try.prog 93 #[.string ⟨([7, t] : List UInt8).toArray⟩] w fun e w' => e = .returned (.tuple #[reqV 7 t.toNat 0 0 0, .int .u8 0]) ∧ Below w.heap.size w w' := by
  have mixed : Try.prog.follows .mixedOrders = true := by kernel_rfl
  unfold reqV
  have HS : Aside (∀ w, Calls Try.prog 113 #[.int .u8 7] w fun e w' => e = .returned (.int .i64 2) ∧ w' = w) := fun w => size_any 7 w
  have htz : ¬ (20 : Int) ≤ (t.toNat : Int) := by omega
  go_enter Try.func93, Try.ntmps93
  go_wp2_with fail
  refine Calls.mono (f := 113) (HS.out _) ?_
  rintro e w' ⟨rfl, rfl⟩
  have e0 : ({ data := #[7, t] } : ByteArray)[0]'(by show 0 < 2; decide) = 7 := rfl
  have e1 : ({ data := #[7, t] } : ByteArray)[1]'(by show 1 < 2; decide) = t := rfl
  go_wp2
  try simp only [Exit.inBlock, Exit.then]
  refine bodyPost_ret (v := .tuple #[.agg #[.int .i64 7, .int .i64 t.toNat, .int .u64 0, .int .i64 0, .int .i64 0], .int .u8 0]) (by simp [results, Try.results93, go_sem]) rfl ?_
  exact ⟨rfl, ((Below.refl _ w).alloc (Nat.le_refl _) _).alloc (by simp) _⟩

set_option maxHeartbeats 1000000 in
set_option maxRecDepth 100000 in
theorem read_two9 (t : UInt8) (ht : t.toNat < 20) (w : World) : Calls Try.prog 93 #[.string ⟨([9, t] : List UInt8).toArray⟩] w fun e w' => e = .returned (.tuple #[reqV 9 t.toNat 0 0 0, .int .u8 0]) ∧ Below w.heap.size w w' := by
  have mixed : Try.prog.follows .mixedOrders = true := by kernel_rfl
  unfold reqV
  have HS : Aside (∀ w, Calls Try.prog 113 #[.int .u8 9] w fun e w' => e = .returned (.int .i64 2) ∧ w' = w) := fun w => size_any 9 w
  have htz : ¬ (20 : Int) ≤ (t.toNat : Int) := by omega
  go_enter Try.func93, Try.ntmps93
  go_wp2_with fail
  refine Calls.mono (f := 113) (HS.out _) ?_
  rintro e w' ⟨rfl, rfl⟩
  have e0 : ({ data := #[9, t] } : ByteArray)[0]'(by show 0 < 2; decide) = 9 := rfl
  have e1 : ({ data := #[9, t] } : ByteArray)[1]'(by show 1 < 2; decide) = t := rfl
  go_wp2
  try simp only [Exit.inBlock, Exit.then]
  refine bodyPost_ret (v := .tuple #[.agg #[.int .i64 9, .int .i64 t.toNat, .int .u64 0, .int .i64 0, .int .i64 0], .int .u8 0]) (by simp [results, Try.results93, go_sem]) rfl ?_
  exact ⟨rfl, ((Below.refl _ w).alloc (Nat.le_refl _) _).alloc (by simp) _⟩

set_option maxHeartbeats 1000000 in
set_option maxRecDepth 100000 in
theorem read_amt1 (t : UInt8) (l : List UInt8) (ht : t.toNat < 20) (hl : l.length = 8) (hn : numOf l < 18446744073709551616) (w : World) : Calls Try.prog 93 #[.string ⟨(1 :: t :: l : List UInt8).toArray⟩] w fun e w' => e = .returned (.tuple #[reqV 1 t.toNat (numOf l) 0 0, .int .u8 0]) ∧ Below w.heap.size w w' := by
  have mixed : Try.prog.follows .mixedOrders = true := by kernel_rfl
  unfold reqV
  have HS : Aside (∀ w, Calls Try.prog 113 #[.int .u8 1] w fun e w' => e = .returned (.int .i64 10) ∧ w' = w) := fun w => size_any 1 w
  have HN : Aside (∀ w, Calls Try.prog 88 #[.string ⟨l.toArray⟩] w fun e w' => e = .returned (.int .u64 (numOf l)) ∧ w' = w) := fun w => readN_any l w (by omega) hn
  have htz : ¬ (20 : Int) ≤ (t.toNat : Int) := by omega
  have hll : ((l.length : Nat) : Int) = 8 := by omega
  go_enter Try.func93, Try.ntmps93
  go_wp2_with fail
  refine Calls.mono (f := 113) (HS.out _) ?_
  rintro e w' ⟨rfl, rfl⟩
  have e0 : ({ data := (1 :: t :: l : List UInt8).toArray } : ByteArray)[0]'(by show 0 < (1 :: t :: l).toArray.size; simp) = 1 := rfl
  have e1 : ({ data := (1 :: t :: l : List UInt8).toArray } : ByteArray)[1]'(by show 1 < (1 :: t :: l).toArray.size; simp) = t := rfl
  have ex : ({ data := (1 :: t :: l : List UInt8).toArray } : ByteArray).extract 2 10 = ⟨l.toArray⟩ := by
    have := ext2 (1 :: t :: l) 2
    rw [show (1 :: t :: l : List UInt8).length = 10 by simp [hl]] at this
    exact this
  go_wp2_with fail
  refine Calls.mono (f := 88) (HN.out _) ?_
  rintro e w' ⟨rfl, rfl⟩
  go_wp2
  try simp only [Exit.inBlock, Exit.then]
  refine bodyPost_ret (v := .tuple #[.agg #[.int .i64 1, .int .i64 t.toNat, .int .u64 (numOf l), .int .i64 0, .int .i64 0], .int .u8 0]) (by simp [results, Try.results93, go_sem]) rfl ?_
  exact ⟨rfl, ((Below.refl _ w).alloc (Nat.le_refl _) _).alloc (by simp) _⟩

set_option maxHeartbeats 1000000 in
set_option maxRecDepth 100000 in
theorem read_amt2 (t : UInt8) (l : List UInt8) (ht : t.toNat < 20) (hl : l.length = 8) (hn : numOf l < 18446744073709551616) (w : World) : Calls Try.prog 93 #[.string ⟨(2 :: t :: l : List UInt8).toArray⟩] w fun e w' => e = .returned (.tuple #[reqV 2 t.toNat (numOf l) 0 0, .int .u8 0]) ∧ Below w.heap.size w w' := by
  have mixed : Try.prog.follows .mixedOrders = true := by kernel_rfl
  unfold reqV
  have HS : Aside (∀ w, Calls Try.prog 113 #[.int .u8 2] w fun e w' => e = .returned (.int .i64 10) ∧ w' = w) := fun w => size_any 2 w
  have HN : Aside (∀ w, Calls Try.prog 88 #[.string ⟨l.toArray⟩] w fun e w' => e = .returned (.int .u64 (numOf l)) ∧ w' = w) := fun w => readN_any l w (by omega) hn
  have htz : ¬ (20 : Int) ≤ (t.toNat : Int) := by omega
  have hll : ((l.length : Nat) : Int) = 8 := by omega
  go_enter Try.func93, Try.ntmps93
  go_wp2_with fail
  refine Calls.mono (f := 113) (HS.out _) ?_
  rintro e w' ⟨rfl, rfl⟩
  have e0 : ({ data := (2 :: t :: l : List UInt8).toArray } : ByteArray)[0]'(by show 0 < (2 :: t :: l).toArray.size; simp) = 2 := rfl
  have e1 : ({ data := (2 :: t :: l : List UInt8).toArray } : ByteArray)[1]'(by show 1 < (2 :: t :: l).toArray.size; simp) = t := rfl
  have ex : ({ data := (2 :: t :: l : List UInt8).toArray } : ByteArray).extract 2 10 = ⟨l.toArray⟩ := by
    have := ext2 (2 :: t :: l) 2
    rw [show (2 :: t :: l : List UInt8).length = 10 by simp [hl]] at this
    exact this
  go_wp2_with fail
  refine Calls.mono (f := 88) (HN.out _) ?_
  rintro e w' ⟨rfl, rfl⟩
  go_wp2
  try simp only [Exit.inBlock, Exit.then]
  refine bodyPost_ret (v := .tuple #[.agg #[.int .i64 2, .int .i64 t.toNat, .int .u64 (numOf l), .int .i64 0, .int .i64 0], .int .u8 0]) (by simp [results, Try.results93, go_sem]) rfl ?_
  exact ⟨rfl, ((Below.refl _ w).alloc (Nat.le_refl _) _).alloc (by simp) _⟩

set_option maxHeartbeats 1000000 in
set_option maxRecDepth 100000 in
theorem read_amt3 (t : UInt8) (l : List UInt8) (ht : t.toNat < 20) (hl : l.length = 8) (hn : numOf l < 18446744073709551616) (w : World) : Calls Try.prog 93 #[.string ⟨(3 :: t :: l : List UInt8).toArray⟩] w fun e w' => e = .returned (.tuple #[reqV 3 t.toNat (numOf l) 0 0, .int .u8 0]) ∧ Below w.heap.size w w' := by
  have mixed : Try.prog.follows .mixedOrders = true := by kernel_rfl
  unfold reqV
  have HS : Aside (∀ w, Calls Try.prog 113 #[.int .u8 3] w fun e w' => e = .returned (.int .i64 10) ∧ w' = w) := fun w => size_any 3 w
  have HN : Aside (∀ w, Calls Try.prog 88 #[.string ⟨l.toArray⟩] w fun e w' => e = .returned (.int .u64 (numOf l)) ∧ w' = w) := fun w => readN_any l w (by omega) hn
  have htz : ¬ (20 : Int) ≤ (t.toNat : Int) := by omega
  have hll : ((l.length : Nat) : Int) = 8 := by omega
  go_enter Try.func93, Try.ntmps93
  go_wp2_with fail
  refine Calls.mono (f := 113) (HS.out _) ?_
  rintro e w' ⟨rfl, rfl⟩
  have e0 : ({ data := (3 :: t :: l : List UInt8).toArray } : ByteArray)[0]'(by show 0 < (3 :: t :: l).toArray.size; simp) = 3 := rfl
  have e1 : ({ data := (3 :: t :: l : List UInt8).toArray } : ByteArray)[1]'(by show 1 < (3 :: t :: l).toArray.size; simp) = t := rfl
  have ex : ({ data := (3 :: t :: l : List UInt8).toArray } : ByteArray).extract 2 10 = ⟨l.toArray⟩ := by
    have := ext2 (3 :: t :: l) 2
    rw [show (3 :: t :: l : List UInt8).length = 10 by simp [hl]] at this
    exact this
  go_wp2_with fail
  refine Calls.mono (f := 88) (HN.out _) ?_
  rintro e w' ⟨rfl, rfl⟩
  go_wp2
  try simp only [Exit.inBlock, Exit.then]
  refine bodyPost_ret (v := .tuple #[.agg #[.int .i64 3, .int .i64 t.toNat, .int .u64 (numOf l), .int .i64 0, .int .i64 0], .int .u8 0]) (by simp [results, Try.results93, go_sem]) rfl ?_
  exact ⟨rfl, ((Below.refl _ w).alloc (Nat.le_refl _) _).alloc (by simp) _⟩

set_option maxHeartbeats 1000000 in
set_option maxRecDepth 100000 in
theorem read_amt4 (t : UInt8) (l : List UInt8) (ht : t.toNat < 20) (hl : l.length = 8) (hn : numOf l < 18446744073709551616) (w : World) : Calls Try.prog 93 #[.string ⟨(4 :: t :: l : List UInt8).toArray⟩] w fun e w' => e = .returned (.tuple #[reqV 4 t.toNat (numOf l) 0 0, .int .u8 0]) ∧ Below w.heap.size w w' := by
  have mixed : Try.prog.follows .mixedOrders = true := by kernel_rfl
  unfold reqV
  have HS : Aside (∀ w, Calls Try.prog 113 #[.int .u8 4] w fun e w' => e = .returned (.int .i64 10) ∧ w' = w) := fun w => size_any 4 w
  have HN : Aside (∀ w, Calls Try.prog 88 #[.string ⟨l.toArray⟩] w fun e w' => e = .returned (.int .u64 (numOf l)) ∧ w' = w) := fun w => readN_any l w (by omega) hn
  have htz : ¬ (20 : Int) ≤ (t.toNat : Int) := by omega
  have hll : ((l.length : Nat) : Int) = 8 := by omega
  go_enter Try.func93, Try.ntmps93
  go_wp2_with fail
  refine Calls.mono (f := 113) (HS.out _) ?_
  rintro e w' ⟨rfl, rfl⟩
  have e0 : ({ data := (4 :: t :: l : List UInt8).toArray } : ByteArray)[0]'(by show 0 < (4 :: t :: l).toArray.size; simp) = 4 := rfl
  have e1 : ({ data := (4 :: t :: l : List UInt8).toArray } : ByteArray)[1]'(by show 1 < (4 :: t :: l).toArray.size; simp) = t := rfl
  have ex : ({ data := (4 :: t :: l : List UInt8).toArray } : ByteArray).extract 2 10 = ⟨l.toArray⟩ := by
    have := ext2 (4 :: t :: l) 2
    rw [show (4 :: t :: l : List UInt8).length = 10 by simp [hl]] at this
    exact this
  go_wp2_with fail
  refine Calls.mono (f := 88) (HN.out _) ?_
  rintro e w' ⟨rfl, rfl⟩
  go_wp2
  try simp only [Exit.inBlock, Exit.then]
  refine bodyPost_ret (v := .tuple #[.agg #[.int .i64 4, .int .i64 t.toNat, .int .u64 (numOf l), .int .i64 0, .int .i64 0], .int .u8 0]) (by simp [results, Try.results93, go_sem]) rfl ?_
  exact ⟨rfl, ((Below.refl _ w).alloc (Nat.le_refl _) _).alloc (by simp) _⟩

set_option maxHeartbeats 1000000 in
set_option maxRecDepth 100000 in
theorem read_ord (t s : UInt8) (l : List UInt8) (ht : t.toNat < 20) (hl : l.length = 2) (hn : numOf l < 65536) (w : World) : Calls Try.prog 93 #[.string ⟨(5 :: t :: s :: l : List UInt8).toArray⟩] w fun e w' => e = .returned (.tuple #[reqV 5 t.toNat 0 s.toNat (numOf l), .int .u8 0]) ∧ Below w.heap.size w w' := by
  have mixed : Try.prog.follows .mixedOrders = true := by kernel_rfl
  unfold reqV
  have HS : Aside (∀ w, Calls Try.prog 113 #[.int .u8 5] w fun e w' => e = .returned (.int .i64 5) ∧ w' = w) := fun w => size_any 5 w
  have HN : Aside (∀ w, Calls Try.prog 88 #[.string ⟨l.toArray⟩] w fun e w' => e = .returned (.int .u64 (numOf l)) ∧ w' = w) := fun w => readN_any l w (by omega) (by omega)
  have htz : ¬ (20 : Int) ≤ (t.toNat : Int) := by omega
  have hll : ((l.length : Nat) : Int) = 2 := by omega
  have hsb : s.toNat < 256 := UInt8.toNat_lt s
  go_enter Try.func93, Try.ntmps93
  go_wp2_with fail
  refine Calls.mono (f := 113) (HS.out _) ?_
  rintro e w' ⟨rfl, rfl⟩
  have e0 : ({ data := (5 :: t :: s :: l : List UInt8).toArray } : ByteArray)[0]'(by show 0 < (5 :: t :: s :: l).toArray.size; simp) = 5 := rfl
  have e1 : ({ data := (5 :: t :: s :: l : List UInt8).toArray } : ByteArray)[1]'(by show 1 < (5 :: t :: s :: l).toArray.size; simp) = t := rfl
  have e2 : ({ data := (5 :: t :: s :: l : List UInt8).toArray } : ByteArray)[2]'(by show 2 < (5 :: t :: s :: l).toArray.size; simp) = s := rfl
  have ex : ({ data := (5 :: t :: s :: l : List UInt8).toArray } : ByteArray).extract 3 5 = ⟨l.toArray⟩ := by
    have := ext2 (5 :: t :: s :: l) 3
    rw [show (5 :: t :: s :: l : List UInt8).length = 5 by simp [hl]] at this
    exact this
  go_wp2_with fail
  go_region_with (go_at_call 88; refine Calls.mono (f := 88) (HN.out _) ?_; rintro e w' ⟨rfl, rfl⟩)
  all_goals go_wp2
  all_goals try simp only [Exit.inBlock, Exit.then]
  all_goals refine bodyPost_ret (v := .tuple #[.agg #[.int .i64 5, .int .i64 t.toNat, .int .u64 0, .int .i64 s.toNat, .int .i64 (numOf l)], .int .u8 0]) (by simp [results, Try.results93, go_sem]) rfl ?_
  all_goals exact ⟨rfl, Below.drew (((Below.refl _ w).alloc (Nat.le_refl _) _).alloc (by simp) _)⟩
end Go.Proofs.Ytjfifaooimgbaaa
