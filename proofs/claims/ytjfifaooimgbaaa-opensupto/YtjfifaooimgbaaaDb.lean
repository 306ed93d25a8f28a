import Derived.Test.YtjfifaooimgbaaaDz
namespace Go.Proofs.Ytjfifaooimgbaaa
open Go.Shelf Go.RowKit Go.Lib Go.Sort
theorem blw_set {w b : World} (h : Below w.heap.size w b) (a : Addr) (v : Value) (ha : w.heap.size ≤ a.block) : Below w.heap.size w (b.setCell a v) :=
  ⟨h.os, h.tape, h.output, Nat.le_trans h.size (by simp [World.setCell]), fun k hk => (Below.heap_setCell b a v k (by omega)).trans (h.block k hk)⟩
theorem blw_trans {a b c : World} (h : Below a.heap.size a b) (g : Below b.heap.size b c) : Below a.heap.size a c :=
  ⟨g.os.trans h.os, g.tape.trans h.tape, g.output.trans h.output, Nat.le_trans h.size g.size, fun k hk => (g.block k (Nat.lt_of_lt_of_le hk h.size)).trans (h.block k hk)⟩

theorem blw_onl {w b c : World} {S : Nat → Prop} (h : Below w.heap.size w b) (o : Onl S b c) (hS : ∀ k, S k → w.heap.size ≤ k) : Below w.heap.size w c :=
  ⟨o.os.trans h.os, o.tape.trans h.tape, o.output.trans h.output, Nat.le_trans h.size o.size, fun k hk => (o.block k (Nat.lt_of_lt_of_le hk h.size) (fun q => by have := hS k q; omega)).trans (h.block k hk)⟩
end Go.Proofs.Ytjfifaooimgbaaa
/- The law's walk: begun. -/
namespace Go.Proofs.Ytjfifaooimgbaaa
open Go.Shelf Go.RowKit Go.Lib Go.Sort

theorem blw_only {w b c : World} {S : Nat → Prop} (h : Below w.heap.size w b) (o : Only S b c) (hS : ∀ k, S k → w.heap.size ≤ k) : Below w.heap.size w c :=
  ⟨o.os.trans h.os, o.tape.trans h.tape, o.output.trans h.output, Nat.le_trans h.size o.size, fun k hk => (o.block k (Nat.lt_of_lt_of_le hk h.size) (fun q => by have := hS k q; omega)).trans (h.block k hk)⟩
def rq1 : List UInt8 := [1, 0, 0, 0, 0, 0, 0, 0, 3, 232]
def rq2 : List UInt8 := [5, 0, 0, 0, 9]
def xb1 : Ex.Xch := (Ex.doX (Ex.openX 10 5) 0 rq1).1
def xb2 : Ex.Xch := (Ex.doX xb1 1 rq2).1
set_option maxRecDepth 100000 in
theorem ans1 : (Ex.doX (Ex.openX 10 5) 0 rq1).2 = [0] := by kernel_rfl
set_option maxRecDepth 100000 in
theorem ans2 : (Ex.doX xb1 1 rq2).2 = [0, 1] := by kernel_rfl
set_option maxRecDepth 100000 in
theorem ans3 : (Ex.doX xb2 9 [8]).2 = [0, 0, 0, 0, 1, 0, 0, 0, 0, 0, 0, 0, 10, 1] := by kernel_rfl

set_option maxHeartbeats 2000000 in
set_option maxRecDepth 100000 in
theorem begunL_any (w : World) : Calls Try.prog 34 #[] w fun e w' => e = .returned (.bool true) ∧ Below w.heap.size w w' := by
  have mixed : Try.prog.follows .mixedOrders = true := by kernel_rfl
  have HX : Aside (∀ V : World, Calls Try.prog 39 #[.agg #[.int .i64 10, .int .i64 5], .string ⟨#[]⟩] V fun e w' => ∃ S p, e = .returned (.tuple #[.pointer (some ⟨p, 0, none⟩), .int .i64 0]) ∧ RepX w' S p (Ex.openX 10 5) ∧ (∀ k, S k → V.heap.size ≤ k) ∧ Below V.heap.size V w') := fun V => exch.open_ V 10 5 (by decide) (by decide) (by decide) (by decide)
  have ok0 : Ex.Ok (Ex.openX 10 5) := Ex.open_ok ⟨by decide, by decide⟩ ⟨by decide, by decide⟩
  have ok1 : Ex.Ok xb1 := (Ex.do_ok ok0 0 rq1).1
  have ok2 : Ex.Ok xb2 := (Ex.do_ok ok1 1 rq2).1
  have j0 : (Ex.openX 10 5).jr.length = 0 := rfl
  have j1 : xb1.jr.length ≤ 40 := by have := do_jr2 (x := Ex.openX 10 5) 0 rq1; rw [j0] at this; exact this
  have j2 : xb2.jr.length ≤ 80 := by have := do_jr2 (x := xb1) 1 rq2; exact Nat.le_trans this (by omega)
  have D1 : Aside (∀ (V : World) S p, RepX V S p (Ex.openX 10 5) → Calls Try.prog 46 #[.pointer (some ⟨p, 0, none⟩), .int .i64 0, .string ⟨#[1, 0, 0, 0, 0, 0, 0, 0, 3, 232]⟩] V fun e w' => ∃ S', e = .returned (.tuple #[.string ⟨#[0]⟩, .int .i64 0]) ∧ RepX w' S' p xb1 ∧ (∀ k, S' k → S k ∨ V.heap.size ≤ k) ∧ Only S V w') := fun V S p h => by
    have := rep_do V S p (Ex.openX 10 5) 0 rq1 h ok0 (by decide) (by decide) (by rw [j0]; decide)
    rw [ans1] at this
    exact this
  have D2 : Aside (∀ (V : World) S p, RepX V S p xb1 → Calls Try.prog 46 #[.pointer (some ⟨p, 0, none⟩), .int .i64 1, .string ⟨#[5, 0, 0, 0, 9]⟩] V fun e w' => ∃ S', e = .returned (.tuple #[.string ⟨#[0, 1]⟩, .int .i64 0]) ∧ RepX w' S' p xb2 ∧ (∀ k, S' k → S k ∨ V.heap.size ≤ k) ∧ Only S V w') := fun V S p h => by
    have := rep_do V S p xb1 1 rq2 h ok1 (by decide) (by decide) (by omega)
    rw [ans2] at this
    exact this
  have D3 : Aside (∀ (V : World) S p, RepX V S p xb2 → Calls Try.prog 46 #[.pointer (some ⟨p, 0, none⟩), .int .i64 9, .string ⟨#[8]⟩] V fun e w' => ∃ S', e = .returned (.tuple #[.string ⟨#[0, 0, 0, 0, 1, 0, 0, 0, 0, 0, 0, 0, 10, 1]⟩, .int .i64 0]) ∧ RepX w' S' p (Ex.doX xb2 9 [8]).1 ∧ (∀ k, S' k → S k ∨ V.heap.size ≤ k) ∧ Only S V w') := fun V S p h => by
    have := rep_do V S p xb2 9 [8] h ok2 (by decide) (by decide) (by omega)
    rw [ans3] at this
    exact this
  clear ok0 ok1 ok2 j0 j1 j2
  generalize xb1 = y1 at *
  generalize xb2 = y2 at *
  generalize Ex.openX 10 5 = y0 at *
  go_enter Try.func34, Try.ntmps34
  go_wp2_with fail
  refine Calls.mono (f := 39) (HX.out _) ?_
  rintro e w1 ⟨S1, p, rfl, r1, s1, b1⟩
  have R1 : Aside _ := r1
  have N1 : Aside _ := s1
  have B1 : Aside (Below w.heap.size w w1) := b1
  clear r1 s1 b1
  go_wp2_with fail
  refine Calls.mono (f := 46) (D1.out _ S1 p R1.out) ?_
  rintro e w2 ⟨S2, rfl, r2, s2, o2⟩
  have R2 : Aside _ := r2
  have N2 : Aside (∀ k, S2 k → w.heap.size ≤ k) := fun k hk => by
    rcases s2 k hk with e | e
    · exact N1.out k e
    · exact Nat.le_trans B1.out.size e
  have B2 : Aside (Below w.heap.size w w2) := blw_only B1.out o2 N1.out
  clear r2 s2 o2
  go_wp2_with fail
  refine Calls.mono (f := 46) (D2.out _ S2 p R2.out) ?_
  rintro e w3 ⟨S3, rfl, r3, s3, o3⟩
  have R3 : Aside _ := r3
  have N3 : Aside (∀ k, S3 k → w.heap.size ≤ k) := fun k hk => by
    rcases s3 k hk with e | e
    · exact N2.out k e
    · exact Nat.le_trans B2.out.size e
  have B3 : Aside (Below w.heap.size w w3) := blw_only B2.out o3 N2.out
  clear r3 s3 o3
  go_wp2_with fail
  refine Calls.mono (f := 46) (D3.out _ S3 p R3.out) ?_
  rintro e w4 ⟨S4, rfl, r4, s4, o4⟩
  have B4 : Aside (Below w.heap.size w w4) := blw_only B3.out o4 N3.out
  clear r4 s4 o4
  go_wp2
  go_ret
  exact ⟨rfl, B4.out⟩
#print axioms begunL_any
end Go.Proofs.Ytjfifaooimgbaaa
