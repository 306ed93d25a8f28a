import Derived.Test.YtjfifaooimgbaaaHl
import Derived.Test.YtjfifaooimgbaaaRs2
/- The law's walk: opened, of any journal. -/
namespace Go.Proofs.Ytjfifaooimgbaaa
open Go.Shelf Go.RowKit Go.Lib Go.Sort

set_option maxHeartbeats 2000000 in
set_option maxRecDepth 100000 in
theorem opened_badJ (w : World) (period cap : Int) (h : BadC period cap) (j : List UInt8) :
    Calls Try.prog 35 #[.agg #[.int .i64 period, .int .i64 cap], .string ⟨j.toArray⟩] w fun e w' => e = .returned (.tuple #[.agg #[.pointer none, .pointer none], .bool true]) ∧ Below w.heap.size w w' := by
  have mixed : Try.prog.follows .mixedOrders = true := by kernel_rfl
  have HX : Aside (∀ V : World, Calls Try.prog 39 #[.agg #[.int .i64 period, .int .i64 cap], .string ⟨j.toArray⟩] V fun e w' => e = .returned (.tuple #[.pointer none, .int .i64 2]) ∧ Below V.heap.size V w') := fun V => openX_bad V period cap h j
  have HR : Aside (∀ V : World, Calls Try.prog 48 #[.agg #[.int .i64 period, .int .i64 cap], .string ⟨j.toArray⟩] V fun e w' => e = .returned (.tuple #[.pointer none, .int .i64 2]) ∧ Below V.heap.size V w') := fun V => openR_bad V period cap h j
  obtain ⟨W, hW⟩ : ∃ W, W = (w.alloc (.cells #[.int .i64 period, .int .i64 cap] 68)).alloc (.cells #[.pointer none, .pointer none] 71) := ⟨_, rfl⟩
  have BW : Aside (Below w.heap.size w W) := by rw [hW]; exact blw_al (blw_al (Below.refl _ w) _) _
  have z0 : W.cell? ⟨w.heap.size, 0, none⟩ = some (.int .i64 period) := by rw [hW]; simp
  have z1 : W.cell? ⟨w.heap.size, 1, none⟩ = some (.int .i64 cap) := by rw [hW]; simp
  have hs : w.heap.size + 1 < W.heap.size := by rw [hW]; simp
  have z2 : W.cell? ⟨w.heap.size + 1, 0, none⟩ = some (.pointer none) := by rw [hW]; simp
  have z3 : W.cell? ⟨w.heap.size + 1, 1, none⟩ = some (.pointer none) := by rw [hW]; simp
  have zf : ∀ j, W.frozen? ⟨w.heap.size + 1, j, none⟩ = false := fun j => by
    have hb : W.heap[w.heap.size + 1]? = some (.cells #[.pointer none, .pointer none] 71 (0, 0)) := by rw [hW]; exact next_new w _ _
    simp [World.frozen?, hb]
  go_enter Try.func35, Try.ntmps35
  go_wp2_with fail
  rw [← hW]
  clear hW
  refine Calls.mono (f := 39) (HX.out W) ?_
  rintro e w1 ⟨rfl, hb1⟩
  have B1 : Aside (Below W.heap.size W w1) := hb1
  have a0 : w1.cell? ⟨w.heap.size, 0, none⟩ = some (.int .i64 period) := (World.cell?_of_block (a := ⟨w.heap.size, 0, none⟩) (B1.out.block w.heap.size (by omega))).trans z0
  have a1 : w1.cell? ⟨w.heap.size, 1, none⟩ = some (.int .i64 cap) := (World.cell?_of_block (a := ⟨w.heap.size, 1, none⟩) (B1.out.block w.heap.size (by omega))).trans z1
  clear hb1
  go_wp2_with fail
  refine Calls.mono (f := 48) (HR.out w1) ?_
  rintro e w2 ⟨rfl, hb2⟩
  have B2 : Aside (Below W.heap.size W w2) := ⟨hb2.os.trans B1.out.os, hb2.tape.trans B1.out.tape, hb2.output.trans B1.out.output, Nat.le_trans B1.out.size hb2.size, fun k hk => (hb2.block k (Nat.lt_of_lt_of_le hk B1.out.size)).trans (B1.out.block k hk)⟩
  have a2 : w2.cell? ⟨w.heap.size + 1, 0, none⟩ = some (.pointer none) := (World.cell?_of_block (a := ⟨w.heap.size + 1, 0, none⟩) (B2.out.block _ hs)).trans z2
  have a3 : w2.cell? ⟨w.heap.size + 1, 1, none⟩ = some (.pointer none) := (World.cell?_of_block (a := ⟨w.heap.size + 1, 1, none⟩) (B2.out.block _ hs)).trans z3
  have af : ∀ j, w2.frozen? ⟨w.heap.size + 1, j, none⟩ = false := fun j => (World.frozen?_of_block (a := ⟨w.heap.size + 1, j, none⟩) (B2.out.block _ hs)).trans (zf j)
  clear hb2
  go_wp2
  have e0 : ((w2.setCell ⟨w.heap.size + 1, 0, none⟩ (.pointer none)).setCell ⟨w.heap.size + 1, 1, none⟩ (.pointer none)).cell? ⟨w.heap.size + 1, 0, none⟩ = some (.pointer none) := (cell_ne _ _ (by decide)).trans (cell_eq _ _ a2)
  have e1 : ((w2.setCell ⟨w.heap.size + 1, 0, none⟩ (.pointer none)).setCell ⟨w.heap.size + 1, 1, none⟩ (.pointer none)).cell? ⟨w.heap.size + 1, 1, none⟩ = some (.pointer none) := cell_eq _ _ ((cell_ne _ _ (by decide)).trans a3)
  refine bodyPost_ret (v := .tuple #[.agg #[.pointer none, .pointer none], .bool true]) (by simp [results, Try.results35, go_sem, e0, e1]) rfl ?_
  exact ⟨rfl, blw_set (blw_set (blw_trans BW.out B2.out) _ _ (by show w.heap.size ≤ w.heap.size + 1; omega)) _ _ (by show w.heap.size ≤ w.heap.size + 1; omega)⟩

set_option maxHeartbeats 2000000 in
set_option maxRecDepth 100000 in
theorem opened_okJ (w : World) (period cap : Int) (h1 : 1 ≤ period) (h2 : period ≤ 1125899906842624) (h3 : 1 ≤ cap) (h4 : cap ≤ 20) (j : List UInt8) (hj : j.length ≤ 1099511627776) :
    Calls Try.prog 35 #[.agg #[.int .i64 period, .int .i64 cap], .string ⟨j.toArray⟩] w fun e w' => ∃ S p q, e = .returned (.tuple #[.agg #[.pointer (some ⟨p, 0, none⟩), .pointer (some ⟨q, 0, none⟩)], .bool true]) ∧ Twin w' S p q (Ex.openJ (Ex.openX period cap) j) ∧ (∀ k, S k → w.heap.size ≤ k) ∧ Below w.heap.size w w' := by
  have mixed : Try.prog.follows .mixedOrders = true := by kernel_rfl
  have HX : Aside (∀ V : World, Calls Try.prog 39 #[.agg #[.int .i64 period, .int .i64 cap], .string ⟨j.toArray⟩] V fun e w' => ∃ S p, e = .returned (.tuple #[.pointer (some ⟨p, 0, none⟩), .int .i64 0]) ∧ RepX w' S p (Ex.openJ (Ex.openX period cap) j) ∧ (∀ k, S k → V.heap.size ≤ k) ∧ Below V.heap.size V w') := fun V => rep_openJ new_any V period cap h1 h2 h3 h4 j hj
  have HR : Aside (∀ V : World, Calls Try.prog 48 #[.agg #[.int .i64 period, .int .i64 cap], .string ⟨j.toArray⟩] V fun e w' => ∃ S p, e = .returned (.tuple #[.pointer (some ⟨p, 0, none⟩), .int .i64 0]) ∧ RepR w' S p (Ex.openJ (Ex.openX period cap) j) ∧ (∀ k, S k → V.heap.size ≤ k) ∧ Below V.heap.size V w') := fun V => openR_any V period cap h1 h2 h3 h4 j hj
  obtain ⟨W, hW⟩ : ∃ W, W = (w.alloc (.cells #[.int .i64 period, .int .i64 cap] 68)).alloc (.cells #[.pointer none, .pointer none] 71) := ⟨_, rfl⟩
  have BW : Aside (Below w.heap.size w W) := by rw [hW]; exact blw_al (blw_al (Below.refl _ w) _) _
  have z0 : W.cell? ⟨w.heap.size, 0, none⟩ = some (.int .i64 period) := by rw [hW]; simp
  have z1 : W.cell? ⟨w.heap.size, 1, none⟩ = some (.int .i64 cap) := by rw [hW]; simp
  have hs : w.heap.size + 1 < W.heap.size := by rw [hW]; simp
  have z2 : W.cell? ⟨w.heap.size + 1, 0, none⟩ = some (.pointer none) := by rw [hW]; simp
  have z3 : W.cell? ⟨w.heap.size + 1, 1, none⟩ = some (.pointer none) := by rw [hW]; simp
  have zf : ∀ j, W.frozen? ⟨w.heap.size + 1, j, none⟩ = false := fun j => by
    have hb : W.heap[w.heap.size + 1]? = some (.cells #[.pointer none, .pointer none] 71 (0, 0)) := by rw [hW]; exact next_new w _ _
    simp [World.frozen?, hb]
  go_enter Try.func35, Try.ntmps35
  go_wp2_with fail
  rw [← hW]
  clear hW
  refine Calls.mono (f := 39) (HX.out W) ?_
  rintro e w1 ⟨S1, p, rfl, r1, s1, hb1⟩
  have B1 : Aside (Below W.heap.size W w1) := hb1
  have R1 : Aside (RepX w1 S1 p (Ex.openJ (Ex.openX period cap) j)) := r1
  have N1 : Aside (∀ k, S1 k → W.heap.size ≤ k) := s1
  have a0 : w1.cell? ⟨w.heap.size, 0, none⟩ = some (.int .i64 period) := (World.cell?_of_block (a := ⟨w.heap.size, 0, none⟩) (B1.out.block w.heap.size (by omega))).trans z0
  have a1 : w1.cell? ⟨w.heap.size, 1, none⟩ = some (.int .i64 cap) := (World.cell?_of_block (a := ⟨w.heap.size, 1, none⟩) (B1.out.block w.heap.size (by omega))).trans z1
  clear hb1 r1 s1
  go_wp2_with fail
  refine Calls.mono (f := 48) (HR.out w1) ?_
  rintro e w2 ⟨S2, q, rfl, r2, s2, hb2⟩
  have B12 : Aside (Below w1.heap.size w1 w2) := hb2
  have R2 : Aside (RepR w2 S2 q (Ex.openJ (Ex.openX period cap) j)) := r2
  have N2 : Aside (∀ k, S2 k → w1.heap.size ≤ k) := s2
  have B2 : Aside (Below W.heap.size W w2) := ⟨hb2.os.trans B1.out.os, hb2.tape.trans B1.out.tape, hb2.output.trans B1.out.output, Nat.le_trans B1.out.size hb2.size, fun k hk => (hb2.block k (Nat.lt_of_lt_of_le hk B1.out.size)).trans (B1.out.block k hk)⟩
  have a2 : w2.cell? ⟨w.heap.size + 1, 0, none⟩ = some (.pointer none) := (World.cell?_of_block (a := ⟨w.heap.size + 1, 0, none⟩) (B2.out.block _ hs)).trans z2
  have a3 : w2.cell? ⟨w.heap.size + 1, 1, none⟩ = some (.pointer none) := (World.cell?_of_block (a := ⟨w.heap.size + 1, 1, none⟩) (B2.out.block _ hs)).trans z3
  have af : ∀ j, w2.frozen? ⟨w.heap.size + 1, j, none⟩ = false := fun j => (World.frozen?_of_block (a := ⟨w.heap.size + 1, j, none⟩) (B2.out.block _ hs)).trans (zf j)
  clear hb2 r2 s2
  go_wp2
  have e0 : ((w2.setCell ⟨w.heap.size + 1, 0, none⟩ (.pointer (some ⟨p, 0, none⟩))).setCell ⟨w.heap.size + 1, 1, none⟩ (.pointer (some ⟨q, 0, none⟩))).cell? ⟨w.heap.size + 1, 0, none⟩ = some (.pointer (some ⟨p, 0, none⟩)) := (cell_ne _ _ (by decide)).trans (cell_eq _ _ a2)
  have e1 : ((w2.setCell ⟨w.heap.size + 1, 0, none⟩ (.pointer (some ⟨p, 0, none⟩))).setCell ⟨w.heap.size + 1, 1, none⟩ (.pointer (some ⟨q, 0, none⟩))).cell? ⟨w.heap.size + 1, 1, none⟩ = some (.pointer (some ⟨q, 0, none⟩)) := cell_eq _ _ ((cell_ne _ _ (by decide)).trans a3)
  refine bodyPost_ret (v := .tuple #[.agg #[.pointer (some ⟨p, 0, none⟩), .pointer (some ⟨q, 0, none⟩)], .bool true]) (by simp [results, Try.results35, go_sem, e0, e1]) rfl ?_
  have sz : w2.heap.size ≤ ((w2.setCell ⟨w.heap.size + 1, 0, none⟩ (.pointer (some ⟨p, 0, none⟩))).setCell ⟨w.heap.size + 1, 1, none⟩ (.pointer (some ⟨q, 0, none⟩))).heap.size := by simp [World.setCell]
  have kb : ∀ k, W.heap.size ≤ k → ((w2.setCell ⟨w.heap.size + 1, 0, none⟩ (.pointer (some ⟨p, 0, none⟩))).setCell ⟨w.heap.size + 1, 1, none⟩ (.pointer (some ⟨q, 0, none⟩))).heap[k]? = w2.heap[k]? := fun k hk => (Below.heap_setCell _ _ _ k (by show k ≠ w.heap.size + 1; omega)).trans (Below.heap_setCell _ _ _ k (by show k ≠ w.heap.size + 1; omega))
  have ok0 : Ex.Ok (Ex.openJ (Ex.openX period cap) j) := Ex.openJ_ok (Ex.open_ok ⟨h1, h2⟩ ⟨h3, h4⟩) j
  have inv0 : Inv (Ex.openJ (Ex.openX period cap) j) := Ex.openJ_ind Inv (fun x t r h => inv_do h t r) _ _ j (Nat.le_refl _) ⟨by show (1 : Int) ≤ _; simp [Ex.openX]⟩
  refine ⟨fun k => S1 k ∨ S2 k, p, q, rfl, ⟨S1, S2, ?_, ?_, fun k hk e => ?_, fun k => Iff.rfl, ok0, inv0.num⟩, ?_, ?_⟩
  · exact rep_keep R1.out (fun k hk => (kb k (N1.out k hk)).trans (B12.out.block k (rep_low R1.out k hk)))
  · exact repR_keep R2.out (fun k hk => kb k (Nat.le_trans B1.out.size (N2.out k hk)))
  · have := rep_low R1.out k hk
    have := N2.out k e
    omega
  · rintro k (hk | hk)
    · have := N1.out k hk
      omega
    · have := N2.out k hk
      have := B1.out.size
      omega
  · exact blw_set (blw_set (blw_trans BW.out B2.out) _ _ (by show w.heap.size ≤ w.heap.size + 1; omega)) _ _ (by show w.heap.size ≤ w.heap.size + 1; omega)
/-- what is read of a journal is no longer than it. -/
theorem openJ_len (period cap : Int) (j : List UInt8) : (Ex.openJ (Ex.openX period cap) j).jr.length ≤ j.length := by
  obtain ⟨b, h1, h2, _⟩ := Ex.openJ_cut _ (Ex.openX period cap) j (Nat.le_refl _)
  rw [h2]
  show ([] ++ j.take b).length ≤ _
  rw [List.nil_append, List.length_take]
  omega
end Go.Proofs.Ytjfifaooimgbaaa
