/- The walks of the closures. -/
import Derived.Test.YtjfifaooimgbaaaStable
namespace Go.Proofs.Ytjfifaooimgbaaa
open Go.Shelf Go.RowKit Go.Lib Go.Sort

def cmpI (x y : Int) : Int := if x < y then -1 else if y < x then 1 else 0

set_option maxHeartbeats 400000 in
theorem isNaN_any (x : Int) (w : World) : Calls Try.prog 74 #[.int .i64 x] w fun e w' => e = .returned (.bool false) ∧ w' = w := by
  go_enter Try.func74, Try.ntmps74
  go_wp2
  go_ret
  exact ⟨by simp, rfl⟩

set_option maxHeartbeats 400000 in
theorem compare_any (x y : Int) (w : World) : Calls Try.prog 54 #[.int .i64 x, .int .i64 y] w fun e w' => e = .returned (.int .i64 (cmpI x y)) ∧ w' = w := by
  go_enter Try.func54, Try.ntmps54
  go_wp2_with fail
  refine (isNaN_any x w).mono ?_
  rintro e w' ⟨rfl, rfl⟩
  go_wp2_with fail
  refine (isNaN_any y _).mono ?_
  rintro e w' ⟨rfl, rfl⟩
  by_cases h1 : x < y
  · go_wp2
    go_ret
    exact ⟨by rw [cmpI, if_pos (by omega)]; rfl, rfl⟩
  · by_cases h2 : y < x
    · go_wp2
      go_ret
      exact ⟨by rw [cmpI, if_neg (by omega), if_pos (by omega)]; rfl, rfl⟩
    · go_wp2
      go_ret
      exact ⟨by rw [cmpI, if_neg (by omega), if_neg (by omega)]; rfl, rfl⟩

set_option maxHeartbeats 400000 in
theorem better0_any (x y : Int) (w : World) : Calls Try.prog 53 #[.int .i64 x, .int .i64 y] w fun e w' => e = .returned (.int .i64 (cmpI y x)) ∧ w' = w := by
  have hc := compare_any y x w
  generalize cmpI y x = r at hc ⊢
  go_enter Try.func53, Try.ntmps53
  go_wp2_with fail
  refine hc.mono ?_
  rintro e w' ⟨rfl, rfl⟩
  go_wp2
  go_ret
  exact ⟨rfl, rfl⟩

set_option maxHeartbeats 400000 in
theorem better1_any (x y : Int) (w : World) : Calls Try.prog 55 #[.int .i64 x, .int .i64 y] w fun e w' => e = .returned (.int .i64 (cmpI x y)) ∧ w' = w := by
  have hc := compare_any x y w
  generalize cmpI x y = r at hc ⊢
  go_enter Try.func55, Try.ntmps55
  go_wp2_with fail
  refine hc.mono ?_
  rintro e w' ⟨rfl, rfl⟩
  go_wp2
  go_ret
  exact ⟨rfl, rfl⟩

/-- the comparison that 'better' makes of two prices: function g. -/
def BetterAt (g : Nat) (c : Int → Int → Int) : Prop := (∀ args w, (callFunc g args).run Try.prog w = .ok (.enter g args) w) ∧ ∀ x y w, Calls Try.prog g #[.int .i64 x, .int .i64 y] w fun e w' => e = .returned (.int .i64 (c x y)) ∧ w' = w

theorem better0_at : BetterAt 53 (fun x y => cmpI y x) := ⟨enters_of Try.func53 (by kernel_rfl) rfl, fun x y w => better0_any x y w⟩
theorem better1_at : BetterAt 55 cmpI := ⟨enters_of Try.func55 (by kernel_rfl) rfl, fun x y w => better1_any x y w⟩

set_option maxHeartbeats 400000 in
theorem cmpO_any (g : Nat) (c : Int → Int → Int) (hb : BetterAt g c) (x y : Int × Int) (B : Nat) (w : World) (hB : B < w.heap.size) (hc : w.cell? ⟨B, 0, none⟩ = some (.func (.func g) #[] #[])) :
    Calls Try.prog 73 #[.agg #[.int .i64 x.1, .int .i64 x.2], .agg #[.int .i64 y.1, .int .i64 y.2], .pointer (some ⟨B, 0, none⟩)] w fun e w' => e = .returned (.int .i64 (c x.2 y.2)) ∧ ∃ q os, w' = grow (w.drewN q) os := by
  have eg := hb.1
  have hk := hb.2 x.2 y.2
  generalize c x.2 y.2 = r at hk ⊢
  clear hb
  go_enter Try.func73, Try.ntmps73
  go_wp2_with fail
  refine (hk _).mono ?_
  rintro e w' ⟨rfl, rfl⟩
  go_wp2
  go_ret
  exact ⟨rfl, 0, _, by rw [alloc_eq_grow, alloc_eq_grow, grow_grow]; rfl⟩

theorem cmpLays_of (g : Nat) (c : Int → Int → Int) (hb : BetterAt g c) (B blk off size : Nat) (w : World) (hB : B < w.heap.size) (hne : B ≠ blk) (hc : w.cell? ⟨B, 0, none⟩ = some (.func (.func g) #[] #[])) :
    CmpLays Try.prog 73 #[.pointer (some ⟨B, 0, none⟩)] encO 2 (fun x y => c x.2 y.2) blk off size w := by
  intro m os dk _ x y
  have h1 : B < (sortWorldK encO 2 w blk off m dk os).heap.size := Nat.lt_of_lt_of_le hB (size_sortWorldK_c encO 2 w blk off m dk os)
  have h2 : (sortWorldK encO 2 w blk off m dk os).cell? ⟨B, 0, none⟩ = some (.func (.func g) #[] #[]) := by
    unfold sortWorldK
    rw [cell?_grow _ _ _ (by rw [size_putRowK]; exact hB), cell?_putRowK_other _ _ _ _ _ _ _ hne]
    exact hc
  exact cmpO_any g c hb x y B _ h1 h2

theorem e35 : ∀ args w, (callFunc 73 args).run Try.prog w = .ok (.enter 73 args) w := enters_of Try.func73 (by kernel_rfl) rfl

/-- at no order there is nothing to sort. -/
theorem sortNone_any (cb : Array Value) (w : World) : Calls Try.prog 72 #[.slice none 0 0, .func (.func 73) #[] cb] w fun e w' => e = .returned (.tuple #[]) ∧ ∃ q os, w' = grow (w.drewN q) os := by
  have h39 : ∀ W, Calls Try.prog 111 #[.slice none 0 0, .int .i64 0, .int .i64 0, .func (.func 73) #[] cb] W fun e w' => e = .returned (.tuple #[]) ∧ w' = W := by
    intro W
    go_enter Try.func111, Try.ntmps111
    go_wp2
    go_loopg [8] 0 (fun kx s wr => s = .int .i64 1 ∧ wr = W)
    case atStart => exact ⟨rfl, rfl⟩
    case round =>
      obtain ⟨rfl, rfl⟩ := hrel
      go_wp2
      go_end0
      exact ⟨rfl, rfl⟩
  have h38 : ∀ W, Calls Try.prog 92 #[.slice none 0 0, .int .i64 0, .func (.func 73) #[] cb] W fun e w' => e = .returned (.tuple #[]) ∧ w' = W := by
    intro W
    go_enter Try.func92, Try.ntmps92
    go_wp2
    go_loopg [7, 8] 0 (fun kx s t wr => s = .int .i64 0 ∧ t = .int .i64 20 ∧ wr = W)
    case atStart => exact ⟨rfl, rfl, rfl⟩
    case round =>
      obtain ⟨rfl, rfl, rfl⟩ := hrel
      go_wp2_with fail
      refine (h39 _).mono ?_
      rintro e w' ⟨rfl, rfl⟩
      go_wp2
      go_loopg [6] 0 (fun kx s wr => s = .int .i64 20 ∧ wr = w')
      case atStart => exact ⟨rfl, rfl⟩
      case round =>
        obtain ⟨rfl, rfl⟩ := hrel
        go_wp2
        go_end0
        exact ⟨rfl, rfl⟩
  clear h39
  go_enter Try.func72, Try.ntmps72
  go_wp2_with fail
  refine (h38 _).mono ?_
  rintro e w' ⟨rfl, rfl⟩
  go_wp2
  go_end0
  exact ⟨rfl, 0, #[], by rw [grow_empty]; rfl⟩
#print axioms cmpLays_of
#print axioms sortNone_any
end Go.Proofs.Ytjfifaooimgbaaa
