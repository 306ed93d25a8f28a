import Derived.Test.YtjfifaooimgbaaaRu
import Derived.Test.YtjfifaooimgbaaaRd
/- The document's exchange: answers. -/
namespace Go.Proofs.Ytjfifaooimgbaaa
open Go.Shelf Go.RowKit Go.Lib Go.Sort

/-- a text comes back, and S is so. -/
def Txt (S : ByteArray → World → Prop) (e : Ending) (w' : World) : Prop := ∃ s, e = .returned (.string s) ∧ S s w'

set_option maxHeartbeats 1000000 in
set_option maxRecDepth 100000 in
theorem ansR_nil (p : Nat) (w : World) : Calls Try.prog 67 #[.pointer (some ⟨p, 0, none⟩), .string ⟨([] : List UInt8).toArray⟩] w fun e w' => e = .returned (.string ⟨#[1]⟩) ∧ w' = rowed w [1] := by
  go_enter Try.func67, Try.ntmps67
  go_wp2_with fail
  refine (code_any 1 1 rfl _).mono ?_
  rintro e w2 ⟨rfl, hw2⟩
  have HW : Aside _ := hw2
  clear hw2
  go_wp2
  go_ret
  exact ⟨rfl, HW.out⟩

set_option maxHeartbeats 1000000 in
set_option maxRecDepth 100000 in
theorem ansR_len (p : Nat) (k : UInt8) (r : List UInt8) (w : World) (h : r.length + 1 ≠ Ex.longOf k.toNat) : Calls Try.prog 67 #[.pointer (some ⟨p, 0, none⟩), .string ⟨(k :: r).toArray⟩] w fun e w' => e = .returned (.string ⟨#[1]⟩) ∧ w' = rowed w [1] := by
  have mixed : Try.prog.follows .mixedOrders = true := by kernel_rfl
  have HS : Aside (∀ w, Calls Try.prog 81 #[.int .i64 (k.toNat : Int)] w fun e w' => e = .returned (.int .i64 (Ex.longOf k.toNat : Nat)) ∧ w' = w) := fun w => longR_any k.toNat w
  have ne : ((r.length : Int) + 1 == ((Ex.longOf k.toNat : Nat) : Int)) = false := by
    rw [beq_eq_false_iff_ne]; omega
  have e0 : ({ data := (k :: r).toArray } : ByteArray)[0]'(by show 0 < (k :: r).toArray.size; simp) = k := rfl
  have hk : (k.toNat : Int) < 256 := by have := UInt8.toNat_lt k; omega
  go_enter Try.func67, Try.ntmps67
  go_wp2_with fail
  refine Calls.mono (f := 81) (HS.out _) ?_
  rintro e w' ⟨rfl, rfl⟩
  by_cases hz : Ex.longOf k.toNat = 0
  · rw [hz]
    rw [hz] at ne
    go_wp2_with fail
    refine (code_any 1 1 rfl _).mono ?_
    rintro e w2 ⟨rfl, hw2⟩
    have HW : Aside _ := hw2
    clear hw2
    go_wp2
    go_ret
    exact ⟨rfl, HW.out⟩
  · have nz : (((Ex.longOf k.toNat : Nat) : Int) == 0) = false := by rw [beq_eq_false_iff_ne]; omega
    go_wp2_with fail
    refine (code_any 1 1 rfl _).mono ?_
    rintro e w2 ⟨rfl, hw2⟩
    have HW : Aside _ := hw2
    clear hw2
    go_wp2
    go_ret
    exact ⟨rfl, HW.out⟩

set_option maxHeartbeats 1000000 in
set_option maxRecDepth 100000 in
theorem ansR_trader (p : Nat) (k t : UInt8) (r : List UInt8) (w : World) (h : r.length + 2 = Ex.longOf k.toNat) (ht : 20 ≤ t.toNat) : Calls Try.prog 67 #[.pointer (some ⟨p, 0, none⟩), .string ⟨(k :: t :: r).toArray⟩] w fun e w' => e = .returned (.string ⟨#[2]⟩) ∧ w' = rowed w [2] := by
  have mixed : Try.prog.follows .mixedOrders = true := by kernel_rfl
  have HS : Aside (∀ w, Calls Try.prog 81 #[.int .i64 (k.toNat : Int)] w fun e w' => e = .returned (.int .i64 ((r.length + 2 : Nat) : Int)) ∧ w' = w) := fun w => by rw [h]; exact longR_any k.toNat w
  have nz : (((r.length : Int) + 2) == 0) = false := by rw [beq_eq_false_iff_ne]; omega
  have ne : ((r.length : Int) + 1 + 1 == (r.length : Int) + 2) = true := by
    rw [beq_iff_eq]; omega
  have hgt : (1 : Int) < (r.length : Int) + 2 := by omega
  have htz : (20 : Int) ≤ (t.toNat : Int) := by omega
  have htb : (t.toNat : Int) < 256 := by have := UInt8.toNat_lt t; omega
  have hk : (k.toNat : Int) < 256 := by have := UInt8.toNat_lt k; omega
  have e0 : ({ data := (k :: t :: r).toArray } : ByteArray)[0]'(by show 0 < (k :: t :: r).toArray.size; simp) = k := rfl
  have e1 : ({ data := (k :: t :: r).toArray } : ByteArray)[1]'(by show 1 < (k :: t :: r).toArray.size; simp) = t := rfl
  go_enter Try.func67, Try.ntmps67
  go_wp2_with fail
  refine Calls.mono (f := 81) (HS.out _) ?_
  rintro e w' ⟨rfl, rfl⟩
  go_wp2_with fail
  refine (code_any 2 2 rfl _).mono ?_
  rintro e w2 ⟨rfl, hw2⟩
  have HW : Aside _ := hw2
  clear hw2
  go_wp2
  go_ret
  exact ⟨rfl, HW.out⟩


set_option maxHeartbeats 1000000 in
set_option maxRecDepth 100000 in
theorem ansR_mv1 (p : Nat) (t : UInt8) (l : List UInt8) (w : World) (ht : t.toNat < 20) (hl : l.length = 8) (S : ByteArray → World → Prop)
    (HC : Calls Try.prog 82 #[.pointer (some ⟨p, 0, none⟩), .int .i64 ((1 : Nat) : Int), .int .i64 (t.toNat : Nat), .int .i64 (numCap l : Nat)] w (Txt S)) : Calls Try.prog 67 #[.pointer (some ⟨p, 0, none⟩), .string ⟨(1 :: t :: l : List UInt8).toArray⟩] w (Txt S) := by
  have mixed : Try.prog.follows .mixedOrders = true := by kernel_rfl
  have HS : Aside (∀ w, Calls Try.prog 81 #[.int .i64 1] w fun e w' => e = .returned (.int .i64 10) ∧ w' = w) := fun w => longR_any 1 w
  have HN : Aside (∀ w, Calls Try.prog 64 #[.string ⟨l.toArray⟩] w fun e w' => e = .returned (.int .i64 (numCap l : Nat)) ∧ w' = w) := fun w => numberR_any l w (by omega)
  have H79 : Aside _ := HC
  clear HC
  have htz : ¬ (20 : Int) ≤ (t.toNat : Int) := by omega
  have hll : ((l.length : Nat) : Int) = 8 := by omega
  have e0 : ({ data := (1 :: t :: l : List UInt8).toArray } : ByteArray)[0]'(by show 0 < (1 :: t :: l).toArray.size; simp) = 1 := rfl
  have e1 : ({ data := (1 :: t :: l : List UInt8).toArray } : ByteArray)[1]'(by show 1 < (1 :: t :: l).toArray.size; simp) = t := rfl
  have ex : ({ data := (1 :: t :: l : List UInt8).toArray } : ByteArray).extract 2 10 = ⟨l.toArray⟩ := by
    have := ext2 (1 :: t :: l) 2
    rw [show (1 :: t :: l : List UInt8).length = 10 by simp [hl]] at this
    exact this
  go_enter Try.func67, Try.ntmps67
  go_wp2_with fail
  refine Calls.mono (f := 81) (HS.out _) ?_
  rintro e w' ⟨rfl, rfl⟩
  go_wp2_with fail
  refine Calls.mono (f := 64) (HN.out _) ?_
  rintro e w' ⟨rfl, rfl⟩
  go_wp2_with fail
  refine Calls.mono (f := 82) H79.out ?_
  rintro e w2 ⟨s, rfl, hs⟩
  have HSS : Aside _ := hs
  clear hs
  go_wp2
  go_ret
  exact ⟨s, rfl, HSS.out⟩


set_option maxHeartbeats 1000000 in
set_option maxRecDepth 100000 in
theorem ansR_mv2 (p : Nat) (t : UInt8) (l : List UInt8) (w : World) (ht : t.toNat < 20) (hl : l.length = 8) (S : ByteArray → World → Prop)
    (HC : Calls Try.prog 82 #[.pointer (some ⟨p, 0, none⟩), .int .i64 ((2 : Nat) : Int), .int .i64 (t.toNat : Nat), .int .i64 (numCap l : Nat)] w (Txt S)) : Calls Try.prog 67 #[.pointer (some ⟨p, 0, none⟩), .string ⟨(2 :: t :: l : List UInt8).toArray⟩] w (Txt S) := by
  have mixed : Try.prog.follows .mixedOrders = true := by kernel_rfl
  have HS : Aside (∀ w, Calls Try.prog 81 #[.int .i64 2] w fun e w' => e = .returned (.int .i64 10) ∧ w' = w) := fun w => longR_any 2 w
  have HN : Aside (∀ w, Calls Try.prog 64 #[.string ⟨l.toArray⟩] w fun e w' => e = .returned (.int .i64 (numCap l : Nat)) ∧ w' = w) := fun w => numberR_any l w (by omega)
  have H79 : Aside _ := HC
  clear HC
  have htz : ¬ (20 : Int) ≤ (t.toNat : Int) := by omega
  have hll : ((l.length : Nat) : Int) = 8 := by omega
  have e0 : ({ data := (2 :: t :: l : List UInt8).toArray } : ByteArray)[0]'(by show 0 < (2 :: t :: l).toArray.size; simp) = 2 := rfl
  have e1 : ({ data := (2 :: t :: l : List UInt8).toArray } : ByteArray)[1]'(by show 1 < (2 :: t :: l).toArray.size; simp) = t := rfl
  have ex : ({ data := (2 :: t :: l : List UInt8).toArray } : ByteArray).extract 2 10 = ⟨l.toArray⟩ := by
    have := ext2 (2 :: t :: l) 2
    rw [show (2 :: t :: l : List UInt8).length = 10 by simp [hl]] at this
    exact this
  go_enter Try.func67, Try.ntmps67
  go_wp2_with fail
  refine Calls.mono (f := 81) (HS.out _) ?_
  rintro e w' ⟨rfl, rfl⟩
  go_wp2_with fail
  refine Calls.mono (f := 64) (HN.out _) ?_
  rintro e w' ⟨rfl, rfl⟩
  go_wp2_with fail
  refine Calls.mono (f := 82) H79.out ?_
  rintro e w2 ⟨s, rfl, hs⟩
  have HSS : Aside _ := hs
  clear hs
  go_wp2
  go_ret
  exact ⟨s, rfl, HSS.out⟩


set_option maxHeartbeats 1000000 in
set_option maxRecDepth 100000 in
theorem ansR_mv3 (p : Nat) (t : UInt8) (l : List UInt8) (w : World) (ht : t.toNat < 20) (hl : l.length = 8) (S : ByteArray → World → Prop)
    (HC : Calls Try.prog 82 #[.pointer (some ⟨p, 0, none⟩), .int .i64 ((3 : Nat) : Int), .int .i64 (t.toNat : Nat), .int .i64 (numCap l : Nat)] w (Txt S)) : Calls Try.prog 67 #[.pointer (some ⟨p, 0, none⟩), .string ⟨(3 :: t :: l : List UInt8).toArray⟩] w (Txt S) := by
  have mixed : Try.prog.follows .mixedOrders = true := by kernel_rfl
  have HS : Aside (∀ w, Calls Try.prog 81 #[.int .i64 3] w fun e w' => e = .returned (.int .i64 10) ∧ w' = w) := fun w => longR_any 3 w
  have HN : Aside (∀ w, Calls Try.prog 64 #[.string ⟨l.toArray⟩] w fun e w' => e = .returned (.int .i64 (numCap l : Nat)) ∧ w' = w) := fun w => numberR_any l w (by omega)
  have H79 : Aside _ := HC
  clear HC
  have htz : ¬ (20 : Int) ≤ (t.toNat : Int) := by omega
  have hll : ((l.length : Nat) : Int) = 8 := by omega
  have e0 : ({ data := (3 :: t :: l : List UInt8).toArray } : ByteArray)[0]'(by show 0 < (3 :: t :: l).toArray.size; simp) = 3 := rfl
  have e1 : ({ data := (3 :: t :: l : List UInt8).toArray } : ByteArray)[1]'(by show 1 < (3 :: t :: l).toArray.size; simp) = t := rfl
  have ex : ({ data := (3 :: t :: l : List UInt8).toArray } : ByteArray).extract 2 10 = ⟨l.toArray⟩ := by
    have := ext2 (3 :: t :: l) 2
    rw [show (3 :: t :: l : List UInt8).length = 10 by simp [hl]] at this
    exact this
  go_enter Try.func67, Try.ntmps67
  go_wp2_with fail
  refine Calls.mono (f := 81) (HS.out _) ?_
  rintro e w' ⟨rfl, rfl⟩
  go_wp2_with fail
  refine Calls.mono (f := 64) (HN.out _) ?_
  rintro e w' ⟨rfl, rfl⟩
  go_wp2_with fail
  refine Calls.mono (f := 82) H79.out ?_
  rintro e w2 ⟨s, rfl, hs⟩
  have HSS : Aside _ := hs
  clear hs
  go_wp2
  go_ret
  exact ⟨s, rfl, HSS.out⟩


set_option maxHeartbeats 1000000 in
set_option maxRecDepth 100000 in
theorem ansR_mv4 (p : Nat) (t : UInt8) (l : List UInt8) (w : World) (ht : t.toNat < 20) (hl : l.length = 8) (S : ByteArray → World → Prop)
    (HC : Calls Try.prog 82 #[.pointer (some ⟨p, 0, none⟩), .int .i64 ((4 : Nat) : Int), .int .i64 (t.toNat : Nat), .int .i64 (numCap l : Nat)] w (Txt S)) : Calls Try.prog 67 #[.pointer (some ⟨p, 0, none⟩), .string ⟨(4 :: t :: l : List UInt8).toArray⟩] w (Txt S) := by
  have mixed : Try.prog.follows .mixedOrders = true := by kernel_rfl
  have HS : Aside (∀ w, Calls Try.prog 81 #[.int .i64 4] w fun e w' => e = .returned (.int .i64 10) ∧ w' = w) := fun w => longR_any 4 w
  have HN : Aside (∀ w, Calls Try.prog 64 #[.string ⟨l.toArray⟩] w fun e w' => e = .returned (.int .i64 (numCap l : Nat)) ∧ w' = w) := fun w => numberR_any l w (by omega)
  have H79 : Aside _ := HC
  clear HC
  have htz : ¬ (20 : Int) ≤ (t.toNat : Int) := by omega
  have hll : ((l.length : Nat) : Int) = 8 := by omega
  have e0 : ({ data := (4 :: t :: l : List UInt8).toArray } : ByteArray)[0]'(by show 0 < (4 :: t :: l).toArray.size; simp) = 4 := rfl
  have e1 : ({ data := (4 :: t :: l : List UInt8).toArray } : ByteArray)[1]'(by show 1 < (4 :: t :: l).toArray.size; simp) = t := rfl
  have ex : ({ data := (4 :: t :: l : List UInt8).toArray } : ByteArray).extract 2 10 = ⟨l.toArray⟩ := by
    have := ext2 (4 :: t :: l) 2
    rw [show (4 :: t :: l : List UInt8).length = 10 by simp [hl]] at this
    exact this
  go_enter Try.func67, Try.ntmps67
  go_wp2_with fail
  refine Calls.mono (f := 81) (HS.out _) ?_
  rintro e w' ⟨rfl, rfl⟩
  go_wp2_with fail
  refine Calls.mono (f := 64) (HN.out _) ?_
  rintro e w' ⟨rfl, rfl⟩
  go_wp2_with fail
  refine Calls.mono (f := 82) H79.out ?_
  rintro e w2 ⟨s, rfl, hs⟩
  have HSS : Aside _ := hs
  clear hs
  go_wp2
  go_ret
  exact ⟨s, rfl, HSS.out⟩


set_option maxHeartbeats 1000000 in
set_option maxRecDepth 100000 in
theorem ansR_ord (p : Nat) (t sd : UInt8) (l : List UInt8) (w : World) (ht : t.toNat < 20) (hl : l.length = 2) (S : ByteArray → World → Prop)
    (HC : ∀ W : World, (W.heap = w.heap ∧ W.os = w.os ∧ W.tape = w.tape ∧ W.output = w.output) → Calls Try.prog 83 #[.pointer (some ⟨p, 0, none⟩), .int .i64 (t.toNat : Nat), .int .i64 (sd.toNat : Nat), .int .i64 (numCap l : Nat)] W (Txt S)) : Calls Try.prog 67 #[.pointer (some ⟨p, 0, none⟩), .string ⟨(5 :: t :: sd :: l : List UInt8).toArray⟩] w (Txt S) := by
  unfold Txt at *
  have mixed : Try.prog.follows .mixedOrders = true := by kernel_rfl
  have HS : Aside (∀ w, Calls Try.prog 81 #[.int .i64 5] w fun e w' => e = .returned (.int .i64 5) ∧ w' = w) := fun w => longR_any 5 w
  have HN : Aside (∀ w, Calls Try.prog 64 #[.string ⟨l.toArray⟩] w fun e w' => e = .returned (.int .i64 (numCap l : Nat)) ∧ w' = w) := fun w => numberR_any l w (by omega)
  have H80 : Aside _ := HC
  clear HC
  have htz : ¬ (20 : Int) ≤ (t.toNat : Int) := by omega
  have hll : ((l.length : Nat) : Int) = 2 := by omega
  have hsb : (sd.toNat : Int) < 256 := by have := UInt8.toNat_lt sd; omega
  have hwr : IntKind.i64.wrap (sd.toNat : Int) = (sd.toNat : Int) := IntWalk.i64_in _ (by omega)
  have e0 : ({ data := (5 :: t :: sd :: l : List UInt8).toArray } : ByteArray)[0]'(by show 0 < (5 :: t :: sd :: l).toArray.size; simp) = 5 := rfl
  have e1 : ({ data := (5 :: t :: sd :: l : List UInt8).toArray } : ByteArray)[1]'(by show 1 < (5 :: t :: sd :: l).toArray.size; simp) = t := rfl
  have e2 : ({ data := (5 :: t :: sd :: l : List UInt8).toArray } : ByteArray)[2]'(by show 2 < (5 :: t :: sd :: l).toArray.size; simp) = sd := rfl
  have ex : ({ data := (5 :: t :: sd :: l : List UInt8).toArray } : ByteArray).extract 3 5 = ⟨l.toArray⟩ := by
    have := ext2 (5 :: t :: sd :: l) 3
    rw [show (5 :: t :: sd :: l : List UInt8).length = 5 by simp [hl]] at this
    exact this
  go_enter Try.func67, Try.ntmps67
  go_wp2_with fail
  refine Calls.mono (f := 81) (HS.out _) ?_
  rintro e w1 ⟨rfl, hw1⟩
  rw [hw1]
  clear hw1
  go_wp2_with fail
  go_region_with (first | (go_at_call 64; refine Calls.mono (f := 64) (HN.out _) ?_; rintro e w3 ⟨rfl, rfl⟩) | (go_at_call 83; refine Calls.mono (f := 83) (H80.out _ (by exact ⟨rfl, rfl, rfl, rfl⟩)) ?_; rintro e w2 ⟨s, rfl, hs⟩; have HSS : Aside _ := hs; clear hs))
  all_goals go_wp2
  all_goals go_ret
  all_goals exact ⟨s, rfl, HSS.out⟩


set_option maxHeartbeats 1000000 in
set_option maxRecDepth 100000 in
theorem ansR_cancel (p : Nat) (t : UInt8) (w : World) (ht : t.toNat < 20) (S : ByteArray → World → Prop)
    (HC : Calls Try.prog 84 #[.pointer (some ⟨p, 0, none⟩), .int .i64 (t.toNat : Nat)] w (Txt S)) : Calls Try.prog 67 #[.pointer (some ⟨p, 0, none⟩), .string ⟨([6, t] : List UInt8).toArray⟩] w (Txt S) := by
  have mixed : Try.prog.follows .mixedOrders = true := by kernel_rfl
  have HS : Aside (∀ w, Calls Try.prog 81 #[.int .i64 6] w fun e w' => e = .returned (.int .i64 2) ∧ w' = w) := fun w => longR_any 6 w
  have HF : Aside _ := HC
  clear HC
  have htz : ¬ (20 : Int) ≤ (t.toNat : Int) := by omega
  have e0 : ({ data := #[6, t] } : ByteArray)[0]'(by show 0 < 2; decide) = 6 := rfl
  have e1 : ({ data := #[6, t] } : ByteArray)[1]'(by show 1 < 2; decide) = t := rfl
  go_enter Try.func67, Try.ntmps67
  go_wp2_with fail
  refine Calls.mono (f := 81) (HS.out _) ?_
  rintro e w' ⟨rfl, rfl⟩
  go_wp2_with fail
  refine Calls.mono (f := 84) HF.out ?_
  rintro e w2 ⟨s, rfl, hs⟩
  have HSS : Aside _ := hs
  clear hs
  go_wp2
  go_ret
  exact ⟨s, rfl, HSS.out⟩


set_option maxHeartbeats 1000000 in
set_option maxRecDepth 100000 in
theorem ansR_tell7 (p : Nat) (t : UInt8) (w : World) (ht : t.toNat < 20) (S : ByteArray → World → Prop)
    (HC : Calls Try.prog 85 #[.pointer (some ⟨p, 0, none⟩), .int .i64 7, .int .i64 (t.toNat : Nat)] w (Txt S)) : Calls Try.prog 67 #[.pointer (some ⟨p, 0, none⟩), .string ⟨([7, t] : List UInt8).toArray⟩] w (Txt S) := by
  have mixed : Try.prog.follows .mixedOrders = true := by kernel_rfl
  have HS : Aside (∀ w, Calls Try.prog 81 #[.int .i64 7] w fun e w' => e = .returned (.int .i64 2) ∧ w' = w) := fun w => longR_any 7 w
  have HF : Aside _ := HC
  clear HC
  have htz : ¬ (20 : Int) ≤ (t.toNat : Int) := by omega
  have e0 : ({ data := #[7, t] } : ByteArray)[0]'(by show 0 < 2; decide) = 7 := rfl
  have e1 : ({ data := #[7, t] } : ByteArray)[1]'(by show 1 < 2; decide) = t := rfl
  go_enter Try.func67, Try.ntmps67
  go_wp2_with fail
  refine Calls.mono (f := 81) (HS.out _) ?_
  rintro e w' ⟨rfl, rfl⟩
  go_wp2_with fail
  refine Calls.mono (f := 85) HF.out ?_
  rintro e w2 ⟨s, rfl, hs⟩
  have HSS : Aside _ := hs
  clear hs
  go_wp2
  go_ret
  exact ⟨s, rfl, HSS.out⟩


set_option maxHeartbeats 1000000 in
set_option maxRecDepth 100000 in
theorem ansR_tell9 (p : Nat) (t : UInt8) (w : World) (ht : t.toNat < 20) (S : ByteArray → World → Prop)
    (HC : Calls Try.prog 85 #[.pointer (some ⟨p, 0, none⟩), .int .i64 9, .int .i64 (t.toNat : Nat)] w (Txt S)) : Calls Try.prog 67 #[.pointer (some ⟨p, 0, none⟩), .string ⟨([9, t] : List UInt8).toArray⟩] w (Txt S) := by
  have mixed : Try.prog.follows .mixedOrders = true := by kernel_rfl
  have HS : Aside (∀ w, Calls Try.prog 81 #[.int .i64 9] w fun e w' => e = .returned (.int .i64 2) ∧ w' = w) := fun w => longR_any 9 w
  have HF : Aside _ := HC
  clear HC
  have htz : ¬ (20 : Int) ≤ (t.toNat : Int) := by omega
  have e0 : ({ data := #[9, t] } : ByteArray)[0]'(by show 0 < 2; decide) = 9 := rfl
  have e1 : ({ data := #[9, t] } : ByteArray)[1]'(by show 1 < 2; decide) = t := rfl
  go_enter Try.func67, Try.ntmps67
  go_wp2_with fail
  refine Calls.mono (f := 81) (HS.out _) ?_
  rintro e w' ⟨rfl, rfl⟩
  go_wp2_with fail
  refine Calls.mono (f := 85) HF.out ?_
  rintro e w2 ⟨s, rfl, hs⟩
  have HSS : Aside _ := hs
  clear hs
  go_wp2
  go_ret
  exact ⟨s, rfl, HSS.out⟩


set_option maxHeartbeats 1000000 in
set_option maxRecDepth 100000 in
theorem ansR_tell8 (p : Nat) (w : World) (S : ByteArray → World → Prop)
    (HC : Calls Try.prog 85 #[.pointer (some ⟨p, 0, none⟩), .int .i64 8, .int .i64 ((0 : Nat) : Int)] w (Txt S)) : Calls Try.prog 67 #[.pointer (some ⟨p, 0, none⟩), .string ⟨([8] : List UInt8).toArray⟩] w (Txt S) := by
  have mixed : Try.prog.follows .mixedOrders = true := by kernel_rfl
  have HS : Aside (∀ w, Calls Try.prog 81 #[.int .i64 8] w fun e w' => e = .returned (.int .i64 1) ∧ w' = w) := fun w => longR_any 8 w
  have HF : Aside _ := HC
  clear HC
  have e0 : ({ data := #[8] } : ByteArray)[0] = 8 := rfl
  go_enter Try.func67, Try.ntmps67
  go_wp2_with fail
  refine Calls.mono (f := 81) (HS.out _) ?_
  rintro e w' ⟨rfl, rfl⟩
  go_wp2_with fail
  refine Calls.mono (f := 85) HF.out ?_
  rintro e w2 ⟨s, rfl, hs⟩
  have HSS : Aside _ := hs
  clear hs
  go_wp2
  go_ret
  exact ⟨s, rfl, HSS.out⟩


set_option maxHeartbeats 1000000 in
set_option maxRecDepth 100000 in
theorem ansR_tell10 (p : Nat) (w : World) (S : ByteArray → World → Prop)
    (HC : Calls Try.prog 85 #[.pointer (some ⟨p, 0, none⟩), .int .i64 10, .int .i64 ((0 : Nat) : Int)] w (Txt S)) : Calls Try.prog 67 #[.pointer (some ⟨p, 0, none⟩), .string ⟨([10] : List UInt8).toArray⟩] w (Txt S) := by
  have mixed : Try.prog.follows .mixedOrders = true := by kernel_rfl
  have HS : Aside (∀ w, Calls Try.prog 81 #[.int .i64 10] w fun e w' => e = .returned (.int .i64 1) ∧ w' = w) := fun w => longR_any 10 w
  have HF : Aside _ := HC
  clear HC
  have e0 : ({ data := #[10] } : ByteArray)[0] = 10 := rfl
  go_enter Try.func67, Try.ntmps67
  go_wp2_with fail
  refine Calls.mono (f := 81) (HS.out _) ?_
  rintro e w' ⟨rfl, rfl⟩
  go_wp2_with fail
  refine Calls.mono (f := 85) HF.out ?_
  rintro e w2 ⟨s, rfl, hs⟩
  have HSS : Aside _ := hs
  clear hs
  go_wp2
  go_ret
  exact ⟨s, rfl, HSS.out⟩

end Go.Proofs.Ytjfifaooimgbaaa
/- The document's exchange: answers, to whatever is asked. -/
namespace Go.Proofs.Ytjfifaooimgbaaa
open Go.Shelf Go.RowKit Go.Lib Go.Sort

theorem num_snocR (l : List UInt8) (h : 0 < l.length) : ∃ b : Nat, b < 256 ∧ numOf l = 256 * numOf (l.take (l.length - 1)) + b := by
  have e := num_next l (l.length - 1) (by omega)
  rw [show l.take (l.length - 1 + 1) = l from List.take_of_length_le (by omega)] at e
  exact ⟨_, UInt8.toNat_lt _, by omega⟩
theorem num_ltR : ∀ l : List UInt8, numOf l < 256 ^ l.length := fun l => by
  have : ∀ n, ∀ l : List UInt8, l.length = n → numOf l < 256 ^ n := fun n => by
    induction n with
    | zero => intro l h; rw [List.length_eq_zero_iff.1 h]; decide
    | succ n ih =>
      intro l h
      obtain ⟨b, hb, e⟩ := num_snocR l (by omega)
      have := ih (l.take (l.length - 1)) (by rw [List.length_take]; omega)
      rw [e, Nat.pow_succ]
      omega
  exact this _ l rfl
theorem cap_le (l : List UInt8) : numCap l ≤ 4611686018427387904 := by
  unfold numCap
  split
  · exact Nat.le_refl _
  · rename_i h
    by_cases h0 : 0 < l.length
    · obtain ⟨b, hb, e⟩ := num_snocR l h0
      omega
    · have : l = [] := List.eq_nil_of_length_eq_zero (by omega)
      subst this
      exact Nat.zero_le _
theorem moves_cap {x : Ex.Xch} (ok : Ex.Ok x) (k t : Nat) (l : List UInt8) (hk : k = 1 ∨ k = 2 ∨ k = 3 ∨ k = 4) (ht : t < 20) (hl : l.length = 8) : Ex.movesX x k t (numCap l) = Ex.movesX x k t (numOf l) := by
  unfold numCap
  split
  · rename_i h
    obtain ⟨b, hb, e⟩ := num_snocR l (by omega)
    have big : 4611686018427387904 ≤ numOf l := by omega
    obtain ⟨⟨b1, b2, b3, b4⟩, b5, b6, b7, b8⟩ := ok.bdsR t ht
    have s3 : 0 ≤ Ex.allCash x := by
      have := ok.bdsR 19 (by decide)
      have e : Ex.allCash x = cashR x 19 + ((x.ps 19).cash + (x.ps 19).held) := by unfold Ex.allCash cashR; rw [sumTo]; omega
      omega
    have s4 : 0 ≤ Ex.allUnits x := by
      have := ok.bdsR 19 (by decide)
      have e : Ex.allUnits x = unitsR x 19 + ((x.ps 19).units + (x.ps 19).hun) := by unfold Ex.allUnits unitsR; rw [sumTo]
      omega
    generalize numOf l = n at *
    unfold Ex.movesX
    dsimp only
    rw [if_neg (by omega), if_neg (show ¬ n = 0 by omega)]
    rcases hk with rfl | rfl | rfl | rfl
    · rw [if_pos (Or.inl ⟨rfl, by omega⟩), if_pos (Or.inl ⟨rfl, by omega⟩)]
    · rw [if_neg (by simp), if_pos (Or.inl ⟨rfl, by omega⟩), if_neg (by simp), if_pos (Or.inl ⟨rfl, by omega⟩)]
    · rw [if_pos (Or.inr ⟨rfl, by omega⟩), if_pos (Or.inr ⟨rfl, by omega⟩)]
    · rw [if_neg (by simp), if_pos (Or.inr ⟨rfl, by omega⟩), if_neg (by simp), if_pos (Or.inr ⟨rfl, by omega⟩)]
  · rfl
theorem cap_two {l : List UInt8} (hl : l.length = 2) (hn : numOf l < 65536) : numCap l = numOf l := by
  unfold numCap
  rw [if_neg]
  have := num_mono l (i := l.length - 1) (j := l.length) (by omega)
  rw [List.take_length] at this
  omega
theorem share_small {l : List (Int × Int)} (h : l.length ≤ 20) : shareL l < 18446744073709551616 := by
  have := (share_says l (by omega)).2.2
  omega

section
variable {w : World} {p : Nat} {x : Ex.Xch} {ov fv : Value}
theorem rst_code (h : RefAt w p x ov fv) (hO : LRow w ov x.ords) {f : FuncId} {args : Array Value} {b : UInt8} (hc : Calls Try.prog f args w fun e w' => e = .returned (.string ⟨#[b]⟩) ∧ w' = rowed w [b]) : Calls Try.prog f args w fun e w' => e = .returned (.string ⟨([b] : List UInt8).toArray⟩) ∧ RSt w p ov w' x :=
  Calls.mono hc (by
    rintro e w' ⟨rfl, rfl⟩
    exact ⟨rfl, ov, fv, h.al _, hO.al _, fun k hk => Or.inl hk, (Onl.refl _ _).alloc _⟩)
theorem rst_tell (h : RefAt w p x ov fv) (hO : LRow w ov x.ords) {f : FuncId} {args : Array Value} {l : List UInt8} (hc : Calls Try.prog f args w fun e w' => e = .returned (.string ⟨l.toArray⟩) ∧ Below w.heap.size w w') : Calls Try.prog f args w (Txt fun s w' => s = ⟨l.toArray⟩ ∧ RSt w p ov w' x) :=
  Calls.mono hc (by
    rintro e w' ⟨rfl, hb⟩
    exact ⟨_, rfl, rfl, ov, fv, h.kept (hb.block p h.lt), hO.kept (fun k hk => hb.block k (hO.lt hk)), fun k hk => Or.inl hk, (Onl.refl _ _).below hb⟩)
theorem rst_txt {f : FuncId} {args : Array Value} {R : Ex.Xch × List UInt8} (hc : Calls Try.prog f args w fun e w' => e = .returned (.string ⟨R.2.toArray⟩) ∧ RSt w p ov w' R.1) : Calls Try.prog f args w (Txt fun s w' => s = ⟨R.2.toArray⟩ ∧ RSt w p ov w' R.1) :=
  Calls.mono hc (by
    rintro e w' ⟨rfl, hb⟩
    exact ⟨_, rfl, rfl, hb⟩)
theorem rst_back {w0 : World} {p0 : Nat} {ov0 : Value} {R : Ex.Xch × List UInt8} : ∀ (e : Ending) (w' : World), Txt (fun s w' => s = ⟨R.2.toArray⟩ ∧ RSt w0 p0 ov0 w' R.1) e w' → e = .returned (.string ⟨R.2.toArray⟩) ∧ RSt w0 p0 ov0 w' R.1 := by
  rintro e w' ⟨s, rfl, rfl, h⟩
  exact ⟨rfl, h⟩
theorem rst_move {k t n : Nat} (hO : LRow w ov x.ords) {f : FuncId} {args : Array Value} (hc : Calls Try.prog f args w fun e w' => e = .returned (.string ⟨(Ex.movesX x k t n).2.toArray⟩) ∧ RefAt w' p (Ex.movesX x k t n).1 ov fv ∧ Onl (· = p) w w') (hp : ov.ownBlock ≠ some p) : Calls Try.prog f args w (Txt fun s w' => s = ⟨(Ex.movesX x k t n).2.toArray⟩ ∧ RSt w p ov w' (Ex.movesX x k t n).1) :=
  Calls.mono hc (by
    rintro e w' ⟨rfl, hb, ho⟩
    have e : (Ex.movesX x k t n).1.ords = x.ords := by
      unfold Ex.movesX
      dsimp only
      repeat' split
      all_goals rfl
    exact ⟨_, rfl, rfl, ov, fv, hb, by rw [e]; exact hO.onl ho hp, fun k hk => Or.inl hk, ho.mono (fun _ q => Or.inl q)⟩)
theorem rst_same {W : World} (hW : W.heap = w.heap ∧ W.os = w.os ∧ W.tape = w.tape ∧ W.output = w.output) {f : FuncId} {args : Array Value} {R : Ex.Xch × List UInt8} (hc : Calls Try.prog f args W fun e w' => e = .returned (.string ⟨R.2.toArray⟩) ∧ RSt W p ov w' R.1) : Calls Try.prog f args W (Txt fun s w' => s = ⟨R.2.toArray⟩ ∧ RSt w p ov w' R.1) :=
  Calls.mono hc (by
    rintro e w' ⟨rfl, ov', fv', h1, h2, h3, h4⟩
    rw [hW.1] at h3
    exact ⟨_, rfl, rfl, ov', fv', h1, h2, h3, ⟨h4.os.trans hW.2.1, h4.tape.trans hW.2.2.1, h4.output.trans hW.2.2.2, by have := h4.size; rwa [hW.1] at this, fun k hk hs => (h4.block k (by rw [hW.1]; exact hk) hs).trans (by rw [hW.1])⟩⟩)
end

set_option maxRecDepth 100000 in
theorem answersR_any {w : World} {p : Nat} {x : Ex.Xch} {ov fv : Value} (h : RefAt w p x ov fv) (hO : LRow w ov x.ords) (ok : Ex.Ok x) (hl00 : x.last = 0 → x.lastL = []) (hb : x.batch ≤ 1152921504606846976) (r : List UInt8) :
    Calls Try.prog 67 #[.pointer (some ⟨p, 0, none⟩), .string ⟨r.toArray⟩] w fun e w' => e = .returned (.string ⟨(Ex.answerX x r).2.toArray⟩) ∧ RSt w p ov w' (Ex.answerX x r).1 := by
  cases r with
  | nil => exact rst_code h hO (ansR_nil p w)
  | cons k rest =>
    by_cases h1 : Ex.longOf k.toNat = 0 ∨ (k :: rest).length ≠ Ex.longOf k.toNat
    · have e : Ex.answerX x (k :: rest) = (x, [1]) := by
        unfold Ex.answerX
        exact if_pos h1
      rw [e]
      exact rst_code h hO (ansR_len p k rest w (by
        rw [List.length_cons] at h1
        intro e
        exact h1.elim (fun q => by omega) (fun q => q e)))
    · have hlen : rest.length + 1 = Ex.longOf k.toNat := by rw [List.length_cons] at h1; omega
      have hl0 : Ex.longOf k.toNat ≠ 0 := by omega
      have e0 : Ex.answerX x (k :: rest) = (if 20 ≤ (if Ex.longOf k.toNat = 1 then 0 else ((k :: rest).getD 1 0).toNat) then (x, [2]) else if Ex.longOf k.toNat = 10 then Ex.movesX x k.toNat (if Ex.longOf k.toNat = 1 then 0 else ((k :: rest).getD 1 0).toNat) (numOf ((k :: rest).drop 2)) else if k.toNat = 5 then Ex.ordersX x (if Ex.longOf k.toNat = 1 then 0 else ((k :: rest).getD 1 0).toNat) ((k :: rest).getD 2 0).toNat (numOf ((k :: rest).drop 3)) else if k.toNat = 6 then Ex.cancelX x (if Ex.longOf k.toNat = 1 then 0 else ((k :: rest).getD 1 0).toNat) else (x, Ex.tellsX x k.toNat (if Ex.longOf k.toNat = 1 then 0 else ((k :: rest).getD 1 0).toNat))) := by
        unfold Ex.answerX
        exact if_neg h1
      cases rest with
      | nil =>
        have hk : k = 8 ∨ k = 10 := by
          have h2 : Ex.longOf k.toNat = 1 := by simpa using hlen.symm
          unfold Ex.longOf at h2
          have h3 : k.toNat = 8 ∨ k.toNat = 10 := by
            split at h2
            · omega
            · split at h2
              · omega
              · split at h2
                · omega
                · split at h2 <;> omega
          rcases h3 with h | h
          · exact Or.inl (UInt8.toNat_inj.1 h)
          · exact Or.inr (UInt8.toNat_inj.1 h)
        rcases hk with rfl | rfl
        · have e : Ex.answerX x [8] = (x, Ex.tellsX x 8 0) := e0
          rw [e]
          exact (ansR_tell8 p w _ (rst_tell h hO (tells8_any w p 0 x ov fv h hO ok hb))).mono (rst_back (R := (x, Ex.tellsX x 8 0)))
        · have e : Ex.answerX x [10] = (x, Ex.tellsX x 10 0) := e0
          rw [e]
          exact (ansR_tell10 p w _ (rst_tell h hO (tells10_any w p 0 x ov fv h ok hl00 (share_small ok.lastLen) ⟨(set_bd x.lastL).1.1, (set_bd x.lastL).2.1⟩))).mono (rst_back (R := (x, Ex.tellsX x 10 0)))
      | cons t rest =>
        have hcl : (k.toNat = 1 ∨ k.toNat = 2 ∨ k.toNat = 3 ∨ k.toNat = 4) ∧ Ex.longOf k.toNat = 10 ∨ k.toNat = 5 ∧ Ex.longOf k.toNat = 5 ∨ (k.toNat = 6 ∨ k.toNat = 7 ∨ k.toNat = 9) ∧ Ex.longOf k.toNat = 2 := by
          rw [List.length_cons] at hlen
          generalize hL : Ex.longOf k.toNat = L at *
          unfold Ex.longOf at hL
          split at hL
          · omega
          · split at hL
            · omega
            · split at hL
              · omega
              · split at hL <;> omega
        by_cases ht : 20 ≤ t.toNat
        · have e : Ex.answerX x (k :: t :: rest) = (x, [2]) := by
            rw [e0]
            have : (if Ex.longOf k.toNat = 1 then 0 else ((k :: t :: rest).getD 1 0).toNat) = t.toNat := by
              rw [if_neg (by omega)]; rfl
            rw [this]
            exact if_pos ht
          rw [e]
          exact rst_code h hO (ansR_trader p k t rest w (by rw [List.length_cons] at hlen; omega) ht)
        · have ht' : t.toNat < 20 := by omega
          rcases hcl with ⟨hk, hL⟩ | ⟨hk, hL⟩ | ⟨hk, hL⟩
          · have hr8 : rest.length = 8 := by rw [List.length_cons] at hlen; omega
            have hnum : numOf rest < 18446744073709551616 := by
              have := num_ltR rest
              rw [hr8] at this
              exact this
            have hk' : k = 1 ∨ k = 2 ∨ k = 3 ∨ k = 4 := by
              rcases hk with h | h | h | h
              · exact Or.inl (UInt8.toNat_inj.1 h)
              · exact Or.inr (Or.inl (UInt8.toNat_inj.1 h))
              · exact Or.inr (Or.inr (Or.inl (UInt8.toNat_inj.1 h)))
              · exact Or.inr (Or.inr (Or.inr (UInt8.toNat_inj.1 h)))
            rcases hk' with rfl | rfl | rfl | rfl
            · have e : Ex.answerX x (1 :: t :: rest) = Ex.movesX x 1 t.toNat (numOf rest) := by rw [e0]; exact if_neg ht
              rw [e]
              exact (ansR_mv1 p t rest w ht' hr8 _ (rst_move (fv := fv) hO (by rw [← moves_cap ok 1 t.toNat rest (by decide) ht' hr8]; exact movesR_any w p 1 t.toNat (numCap rest) x ov fv h ok (by decide) ht' (cap_le rest)) (ref_apart h hO))).mono (rst_back)
            · have e : Ex.answerX x (2 :: t :: rest) = Ex.movesX x 2 t.toNat (numOf rest) := by rw [e0]; exact if_neg ht
              rw [e]
              exact (ansR_mv2 p t rest w ht' hr8 _ (rst_move (fv := fv) hO (by rw [← moves_cap ok 2 t.toNat rest (by decide) ht' hr8]; exact movesR_any w p 2 t.toNat (numCap rest) x ov fv h ok (by decide) ht' (cap_le rest)) (ref_apart h hO))).mono (rst_back)
            · have e : Ex.answerX x (3 :: t :: rest) = Ex.movesX x 3 t.toNat (numOf rest) := by rw [e0]; exact if_neg ht
              rw [e]
              exact (ansR_mv3 p t rest w ht' hr8 _ (rst_move (fv := fv) hO (by rw [← moves_cap ok 3 t.toNat rest (by decide) ht' hr8]; exact movesR_any w p 3 t.toNat (numCap rest) x ov fv h ok (by decide) ht' (cap_le rest)) (ref_apart h hO))).mono (rst_back)
            · have e : Ex.answerX x (4 :: t :: rest) = Ex.movesX x 4 t.toNat (numOf rest) := by rw [e0]; exact if_neg ht
              rw [e]
              exact (ansR_mv4 p t rest w ht' hr8 _ (rst_move (fv := fv) hO (by rw [← moves_cap ok 4 t.toNat rest (by decide) ht' hr8]; exact movesR_any w p 4 t.toNat (numCap rest) x ov fv h ok (by decide) ht' (cap_le rest)) (ref_apart h hO))).mono (rst_back)
          · obtain rfl : k = 5 := UInt8.toNat_inj.1 hk
            match rest, hlen, e0 with
            | [], hlen, _ => rw [hL] at hlen; simp at hlen
            | sd :: l, hlen, e0 =>
              have hl2 : l.length = 2 := by rw [List.length_cons, List.length_cons] at hlen; omega
              have hnum : numOf l < 65536 := by
                have := num_ltR l
                rw [hl2] at this
                exact this
              have e : Ex.answerX x (5 :: t :: sd :: l) = Ex.ordersX x t.toNat sd.toNat (numOf l) := by rw [e0]; exact if_neg ht
              rw [e]
              exact (ansR_ord p t sd l w ht' hl2 _ (fun W hW => by rw [cap_two hl2 hnum]; exact rst_same hW (ordersR_any W p t.toNat sd.toNat (numOf l) x ov fv (h.kept (by rw [hW.1])) (hO.kept (fun k _ => by rw [hW.1])) ok ht' (by omega)))).mono (rst_back)
          · have hr0 : rest = [] := by
              rw [List.length_cons] at hlen
              exact List.length_eq_zero_iff.1 (by omega)
            subst hr0
            have hk' : k = 6 ∨ k = 7 ∨ k = 9 := by
              rcases hk with h | h | h
              · exact Or.inl (UInt8.toNat_inj.1 h)
              · exact Or.inr (Or.inl (UInt8.toNat_inj.1 h))
              · exact Or.inr (Or.inr (UInt8.toNat_inj.1 h))
            rcases hk' with rfl | rfl | rfl
            · have e : Ex.answerX x [6, t] = Ex.cancelX x t.toNat := by rw [e0]; exact if_neg ht
              rw [e]
              exact (ansR_cancel p t w ht' _ (rst_txt (cancelsR_any w p t.toNat x ov fv h hO ok))).mono (rst_back)
            · have e : Ex.answerX x [7, t] = (x, Ex.tellsX x 7 t.toNat) := by rw [e0]; exact if_neg ht
              rw [e]
              exact (ansR_tell7 p t w ht' _ (rst_tell h hO (tells7_any w p t.toNat x ov fv h ok ht'))).mono (rst_back (R := (x, Ex.tellsX x 7 t.toNat)))
            · have e : Ex.answerX x [9, t] = (x, Ex.tellsX x 9 t.toNat) := by rw [e0]; exact if_neg ht
              rw [e]
              exact (ansR_tell9 p t w ht' _ (rst_tell h hO (tells9_any w p t.toNat x ov fv h ok ht'))).mono (rst_back (R := (x, Ex.tellsX x 9 t.toNat)))
end Go.Proofs.Ytjfifaooimgbaaa
