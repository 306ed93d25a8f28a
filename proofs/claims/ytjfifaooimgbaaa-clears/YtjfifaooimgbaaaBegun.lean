/- The walks of the small functions of sealbidkeep. -/
import Derived.Test.YtjfifaooimgbaaaClear
namespace Go.Proofs.Ytjfifaooimgbaaa
open Go.Shelf Go.RowKit Go.Lib Go.Sort

def l0 : List (Int × Int) := [(0, 9), (0, 5), (1, 3), (1, 6)]
theorem l0_buyers : buyersOf l0 = [(0, 9), (1, 5)] := by
  have h : (buyersOf l0).Perm [(0, 9), (1, 5)] := buyers_perm l0
  exact List.Perm.eq_of_pairwise (le := fun x y => bLt y x = false) (fun x y _ _ h1 h2 => Prod.ext (by have := (bLt_no y x).1 h1; have := (bLt_no x y).1 h2; omega) (by have := (bLt_no y x).1 h1; have := (bLt_no x y).1 h2; omega))
    (by have := List.pairwise_mergeSort (le := fun x y => !bLt y x) (fun a b c h1 h2 => by
          simp only [Bool.not_eq_true'] at h1 h2 ⊢
          exact swo_bLt.ntrans c b a h2 h1) (fun a b => by
          cases h : bLt b a with
          | false => simp
          | true => simp [swo_bLt.asymmA h]) (Clr.cand 0 l0)
        simpa [buyersOf] using this) (by decide) h
theorem l0_sellers : sellersOf l0 = [(2, 3), (3, 6)] := by
  have h : (sellersOf l0).Perm [(2, 3), (3, 6)] := sellers_perm l0
  exact List.Perm.eq_of_pairwise (le := fun x y => sLt y x = false) (fun x y _ _ h1 h2 => Prod.ext (by have := (sLt_no y x).1 h1; have := (sLt_no x y).1 h2; omega) (by have := (sLt_no y x).1 h1; have := (sLt_no x y).1 h2; omega))
    (by have := List.pairwise_mergeSort (le := fun x y => !sLt y x) (fun a b c h1 h2 => by
          simp only [Bool.not_eq_true'] at h1 h2 ⊢
          exact swo_sLt.ntrans c b a h2 h1) (fun a b => by
          cases h : sLt b a with
          | false => simp
          | true => simp [swo_sLt.asymmA h]) (Clr.cand 1 l0)
        simpa [sellersOf] using this) (by decide) h
theorem l0_k : kL l0 = 1 := by unfold kL; rw [l0_buyers, l0_sellers]; decide
theorem l0_set : setL l0 = (1, 5, 5) := by unfold setL; rw [l0_k, l0_buyers, l0_sellers]; decide
theorem l0_filled : filledL l0 = [true, false, true, false] := by unfold filledL; rw [l0_set, l0_buyers, l0_sellers]; decide
theorem l0_share : shareL l0 = 4607182418800017408 := by
  unfold shareL gainedL canL; rw [l0_set, l0_k, l0_buyers, l0_sellers]; kernel_rfl

set_option maxHeartbeats 1000000 in
theorem begun_any (w : World) : Calls Try.prog 19 #[] w fun e w' => e = .returned (.bool true) ∧ Below w.heap.size w w' := by
  have mixed : Try.prog.follows .mixedOrders = true := by kernel_rfl
  go_enter Try.func19, Try.ntmps19
  go_wp2_with fail
  obtain ⟨W0, hW0⟩ : ∃ W0, W0 = w.alloc (Obj.cells #[Value.int IntKind.i64 0, Value.int IntKind.i64 9, Value.int IntKind.i64 0, Value.int IntKind.i64 5, Value.int IntKind.i64 1, Value.int IntKind.i64 3, Value.int IntKind.i64 1, Value.int IntKind.i64 6] 29) := ⟨_, rfl⟩
  have hb : BidsAt W0 (some ⟨w.heap.size, 0, none⟩) l0 := by
    intro i hi
    have hi' : i < 4 := hi
    refine ⟨w.heap.size, 0, rfl, by rw [hW0]; simp, ?_, ?_⟩
    · rw [hW0]
      match i, hi' with
      | 0, _ => simp [l0]
      | 1, _ => simp [l0]
      | 2, _ => simp [l0]
      | 3, _ => simp [l0]
    · rw [hW0]
      match i, hi' with
      | 0, _ => simp [l0]
      | 1, _ => simp [l0]
      | 2, _ => simp [l0]
      | 3, _ => simp [l0]
  have B0 : Aside (Below w.heap.size w W0) := by rw [hW0]; exact below_alloc _ _
  rw [← hW0]
  clear hW0
  have hc := clear_any l0 (some ⟨w.heap.size, 0, none⟩) 4 W0 hb (by decide)
  rw [l0_k, l0_set, l0_share, l0_filled, show l0.length = 4 from rfl] at hc
  refine hc.mono ?_
  clear hc hb
  rintro e w1 ⟨F, rfl, FL, hF, B1⟩
  have hlt := FL.lt
  have g0 : ∀ o, (w1.alloc o).cell? ⟨F, 0, none⟩ = some (.bool true) := fun o => (World.cell?_of_block (a := ⟨F, 0, none⟩) (Below.heap_alloc w1 o F hlt)).trans (FL.cell (i := 0) (by decide))
  have g1 : ∀ o, (w1.alloc o).cell? ⟨F, 1, none⟩ = some (.bool false) := fun o => (World.cell?_of_block (a := ⟨F, 1, none⟩) (Below.heap_alloc w1 o F hlt)).trans (FL.cell (i := 1) (by decide))
  have g2 : ∀ o, (w1.alloc o).cell? ⟨F, 2, none⟩ = some (.bool true) := fun o => (World.cell?_of_block (a := ⟨F, 2, none⟩) (Below.heap_alloc w1 o F hlt)).trans (FL.cell (i := 2) (by decide))
  have g3 : ∀ o, (w1.alloc o).cell? ⟨F, 3, none⟩ = some (.bool false) := fun o => (World.cell?_of_block (a := ⟨F, 3, none⟩) (Below.heap_alloc w1 o F hlt)).trans (FL.cell (i := 3) (by decide))
  have BB : Aside (∀ o, Below w.heap.size w (w1.alloc o)) := fun o => (B0.out.trans (B1.mono B0.out.size)).alloc (by have := B0.out.size; have := B1.size; omega) o
  clear B0 B1 FL
  go_wp2
  go_ret
  exact ⟨rfl, BB.out _⟩
#print axioms begun_any
end Go.Proofs.Ytjfifaooimgbaaa
