/- Plain mathematics of a clearing: no program in this text. -/
import Derived.Test.YtjfifaooimgbaaaBlks
namespace Go.Proofs.Ytjfifaooimgbaaa.Clr
open Go.Sort

/-- is b an order of this side that may be? -/
def okB (side : Int) (b : Int × Int) : Bool := b.1 == side && (decide (1 ≤ b.2) && decide (b.2 < 1000))

/-- the orders of a side among the first k, each with its place. -/
def candTo (side : Int) (l : List (Int × Int)) : Nat → List (Int × Int)
  | 0 => []
  | k + 1 => if okB side (l.getD k (0, 0)) = true then candTo side l k ++ [((k : Int), (l.getD k (0, 0)).2)] else candTo side l k

theorem candTo_hit {side : Int} {l : List (Int × Int)} {k : Nat} (h : okB side (l.getD k (0, 0)) = true) : candTo side l (k + 1) = candTo side l k ++ [((k : Int), (l.getD k (0, 0)).2)] := by
  rw [candTo, if_pos h]
theorem candTo_miss {side : Int} {l : List (Int × Int)} {k : Nat} (h : okB side (l.getD k (0, 0)) = false) : candTo side l (k + 1) = candTo side l k := by
  rw [candTo, if_neg (by rw [h]; decide)]
theorem candTo_le (side : Int) (l : List (Int × Int)) : ∀ k, (candTo side l k).length ≤ k
  | 0 => Nat.le_refl _
  | k + 1 => by
    have := candTo_le side l k
    rw [candTo]; split
    · simp; omega
    · omega
theorem candTo_place (side : Int) (l : List (Int × Int)) : ∀ k, ∀ x ∈ candTo side l k, 0 ≤ x.1 ∧ x.1 < (k : Int) ∧ 1 ≤ x.2 ∧ x.2 < 1000 ∧ x.2 = (l.getD x.1.toNat (0, 0)).2 ∧ okB side (l.getD x.1.toNat (0, 0)) = true
  | 0 => by intro x hx; simp [candTo] at hx
  | k + 1 => by
    intro x hx
    have ih := candTo_place side l k
    rw [candTo] at hx; split at hx
    · rename_i h
      rcases List.mem_append.1 hx with hx | hx
      · have := ih x hx
        exact ⟨this.1, by omega, this.2.2⟩
      · simp only [List.mem_singleton] at hx
        subst hx
        refine ⟨by simp, by simp; omega, ?_, ?_, ?_, ?_⟩
        · simp only [okB, Bool.and_eq_true, decide_eq_true_eq] at h; exact h.2.1
        · simp only [okB, Bool.and_eq_true, decide_eq_true_eq] at h; exact h.2.2
        · simp
        · simpa using h
    · have := ih x hx
      exact ⟨this.1, by omega, this.2.2⟩
theorem candTo_sorted (side : Int) (l : List (Int × Int)) : ∀ k, (candTo side l k).Pairwise (fun x y => x.1 < y.1)
  | 0 => List.Pairwise.nil
  | k + 1 => by
    have ih := candTo_sorted side l k
    rw [candTo]; split
    · rw [List.pairwise_append]
      refine ⟨ih, List.pairwise_singleton _ _, fun x hx y hy => ?_⟩
      simp only [List.mem_singleton] at hy
      subst hy
      exact (candTo_place side l k x hx).2.1
    · exact ih
def cand (side : Int) (l : List (Int × Int)) : List (Int × Int) := candTo side l l.length
end Go.Proofs.Ytjfifaooimgbaaa.Clr
