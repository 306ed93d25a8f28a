/- The walks of sameB, sameO, pick. -/
import Derived.Test.YtjfifaooimgbaaaKeep
namespace Go.Proofs.Ytjfifaooimgbaaa
open Go.Shelf Go.RowKit Go.Lib Go.Sort

/-- a list of yes and no lies there. -/
def BsAt (w : World) (a : Option Addr) (fl : List Bool) : Prop := ∀ i, i < fl.length → ∃ g, a = some ⟨g, 0, none⟩ ∧ g < w.heap.size ∧ w.cell? ⟨g, i, none⟩ = some (.bool (fl.getD i false))

theorem BsAt.up {w w' : World} {a : Option Addr} {fl : List Bool} (h : BsAt w a fl) (b : Below w.heap.size w w') : BsAt w' a fl := fun i hi => by
  obtain ⟨g, e, hg, hc⟩ := h i hi
  exact ⟨g, e, Nat.lt_of_lt_of_le hg b.size, (b.cell (p := ⟨g, i, none⟩) hg).trans hc⟩

set_option maxHeartbeats 400000 in
set_option maxRecDepth 100000 in
theorem sameB_true (fl : List Bool) (a1 a2 : Option Addr) (c1 c2 : Nat) (w : World) (h1 : BsAt w a1 fl) (h2 : BsAt w a2 fl) (hl : fl.length ≤ 17592186044416) :
    Calls Try.prog 41 #[.slice a1 fl.length c1, .slice a2 fl.length c2] w fun e w' => e = .returned (.bool true) ∧ ∃ n, w' = w.drewN n := by
  have mixed : Try.prog.follows .mixedOrders = true := by kernel_rfl
  have H1 : Aside (BsAt w a1 fl) := h1
  have H2 : Aside (BsAt w a2 fl) := h2
  clear h1 h2
  go_enter Try.func41, Try.ntmps41
  go_wp2_with fail
  go_loopg [5] fl.length (fun kx s wq => ∃ i m : Nat, s = .int .i64 i ∧ i ≤ fl.length ∧ fl.length - i ≤ kx ∧ wq = w.drewN m)
  case atStart => exact ⟨0, 0, rfl, Nat.zero_le _, by omega, rfl⟩
  case round =>
    obtain ⟨i, m, rfl, hi, hkx, rfl⟩ := hrel
    have DR : Aside (∀ n, (w.drewN m).drewN n = w.drewN (m + n)) := fun n => World.drewN_drewN ..
    by_cases hlt : i < fl.length
    · have hltz : (i : Int) < (fl.length : Int) := by omega
      obtain ⟨g1, rfl, _, x1⟩ := H1.out i hlt
      obtain ⟨g2, rfl, _, x2⟩ := H2.out i hlt
      generalize fl.getD i false = bb at x1 x2
      have z1 : ∀ n, ((w.drewN m).drewN n).cell? ⟨g1, i, none⟩ = some (.bool bb) := fun n => x1
      have z2 : ∀ n, ((w.drewN m).drewN n).cell? ⟨g2, i, none⟩ = some (.bool bb) := fun n => x2
      clear x1 x2
      generalize hwq : w.drewN m = wq at z1 z2 DR ⊢
      clear hwq
      go_wp2_with fail
      go_quiet (fail)
      go_wp2
      go_roundg (fl.length - (i + 1))
      case measure => omega
      case rel => exact ⟨i + 1, m + nq, by go_num, by omega, Nat.le_refl _, DR.out nq⟩
    · have hltz : ¬ (i : Int) < (fl.length : Int) := by omega
      go_wp2
      go_ret
      exact ⟨rfl, m, rfl⟩

set_option maxHeartbeats 400000 in
theorem pickL_any (c : Int) (n : Nat) (w : World) (hn : 0 < n) (hn2 : n ≤ 9007199254740992) (h1 : -9223372036854775808 ≤ c) (h2 : c ≤ 9223372036854775807) :
    Calls Try.prog 16 #[.int .i64 c, .int .i64 n] w fun e w' => e = .returned (.int .i64 (pickN c n : Nat)) ∧ w' = w := by
  have hz : ((n : Int) == 0) = false := beq_eq_false_iff_ne.2 (by omega)
  have hz' : ¬ (n : Int) = 0 := by omega
  have p1 := Int.emod_nonneg (if c < 0 then -(c + 1) else c) (show (n : Int) ≠ 0 by omega)
  by_cases hc : c < 0
  · have e : ((pickN c n : Nat) : Int) = (-(c + 1)) % (n : Int) := by
      unfold pickN; rw [if_pos hc] at p1 ⊢; omega
    rw [e]
    have hm : (-(c + 1)).tmod (n : Int) = (-(c + 1)) % (n : Int) := Int.tmod_eq_emod_of_nonneg (by omega)
    go_enter Try.func16, Try.ntmps16
    go_wp2
    go_ret
    exact ⟨ret_int rfl, rfl⟩
  · have e : ((pickN c n : Nat) : Int) = c % (n : Int) := by
      unfold pickN; rw [if_neg hc] at p1 ⊢; omega
    rw [e]
    have hm : c.tmod (n : Int) = c % (n : Int) := Int.tmod_eq_emod_of_nonneg (by omega)
    go_enter Try.func16, Try.ntmps16
    go_wp2
    go_ret
    exact ⟨ret_int rfl, rfl⟩

set_option maxHeartbeats 400000 in
set_option maxRecDepth 100000 in
theorem sameO_true (k f p g s : Int) (fl : List Bool) (a1 a2 : Option Addr) (c1 c2 : Nat) (w : World) (h1 : BsAt w a1 fl) (h2 : BsAt w a2 fl) (hl : fl.length ≤ 17592186044416) :
    Calls Try.prog 14 #[.agg #[.int .i64 k, .int .i64 f, .int .i64 p, .int .i64 g, .slice a1 fl.length c1, .int .u64 s], .agg #[.int .i64 k, .int .i64 f, .int .i64 p, .int .i64 g, .slice a2 fl.length c2, .int .u64 s]] w fun e w' => e = .returned (.bool true) ∧ Gr w w' := by
  have mixed : Try.prog.follows .mixedOrders = true := by kernel_rfl
  have H1 : Aside (BsAt w a1 fl) := h1
  have H2 : Aside (BsAt w a2 fl) := h2
  clear h1 h2
  go_enter Try.func14, Try.ntmps14
  go_wp2_with fail
  obtain ⟨W0, hW0⟩ : ∃ W0, W0 = (w.alloc (Obj.cells #[.int .i64 k, .int .i64 f, .int .i64 p, .int .i64 g, .slice a1 fl.length c1, .int .u64 s] 26)).alloc (Obj.cells #[.int .i64 k, .int .i64 f, .int .i64 p, .int .i64 g, .slice a2 fl.length c2, .int .u64 s] 26) := ⟨_, rfl⟩
  have G0 : Aside (Gr w W0) := by rw [hW0]; exact ((Gr.refl w).alloc _).alloc _
  have z : ∀ n, (W0.drewN n).cell? ⟨w.heap.size, 0, none⟩ = some (.int .i64 k) ∧ (W0.drewN n).cell? ⟨w.heap.size, 1, none⟩ = some (.int .i64 f) ∧ (W0.drewN n).cell? ⟨w.heap.size, 2, none⟩ = some (.int .i64 p) ∧ (W0.drewN n).cell? ⟨w.heap.size, 3, none⟩ = some (.int .i64 g) ∧ (W0.drewN n).cell? ⟨w.heap.size, 5, none⟩ = some (.int .u64 s) ∧
      (W0.drewN n).cell? ⟨w.heap.size + 1, 0, none⟩ = some (.int .i64 k) ∧ (W0.drewN n).cell? ⟨w.heap.size + 1, 1, none⟩ = some (.int .i64 f) ∧ (W0.drewN n).cell? ⟨w.heap.size + 1, 2, none⟩ = some (.int .i64 p) ∧ (W0.drewN n).cell? ⟨w.heap.size + 1, 3, none⟩ = some (.int .i64 g) ∧ (W0.drewN n).cell? ⟨w.heap.size + 1, 5, none⟩ = some (.int .u64 s) := fun n => by
    rw [hW0]
    refine ⟨?_, ?_, ?_, ?_, ?_, ?_, ?_, ?_, ?_, ?_⟩ <;> simp
  rw [← hW0]
  clear hW0
  refine (sameB_true fl a1 a2 c1 c2 W0 (BsAt.up H1.out G0.out.below) (BsAt.up H2.out G0.out.below) hl).mono ?_
  rintro e w2 ⟨rfl, n, rfl⟩
  have GF : Aside (Gr w (W0.drewN n)) := G0.out.drewN n
  obtain ⟨y0, y1, y2, y3, y5, x0, x1, x2, x3, x5⟩ := z n
  clear z
  generalize W0.drewN n = W1 at *
  go_wp2
  go_ret
  exact ⟨rfl, GF.out⟩
end Go.Proofs.Ytjfifaooimgbaaa
