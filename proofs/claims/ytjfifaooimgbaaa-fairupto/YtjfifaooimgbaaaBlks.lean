/- Plain mathematics of the stable sort's blocks: no program in this text. -/
import Derived.Test.YtjfifaooimgbaaaStab
namespace Go.Proofs.Ytjfifaooimgbaaa.Stab
open Go.Sort
section
variable {α : Type} [Inhabited α] {lt : α → α → Bool} {tag : α → Int}

/-- [0, A) stands in blocks of V, the rest in blocks of W. -/
structure Blks (lt : α → α → Bool) (tag : α → Int) (d0 : Array α) (n V A W : Nat) (dk : Array α) : Prop where
  size : dk.size = d0.size
  perm : PermIn 0 n d0 dk
  al : ∃ T, A = T * V
  pre : ∀ t, (t + 1) * V ≤ A → Seg lt tag d0 (t * V) ((t + 1) * V) dk
  rest : ∀ t, A + t * W < n → Seg lt tag d0 (A + t * W) (min (A + (t + 1) * W) n) dk

structure Full (lt : α → α → Bool) (tag : α → Int) (d0 : Array α) (n W : Nat) (dk : Array α) : Prop where
  size : dk.size = d0.size
  perm : PermIn 0 n d0 dk
  seg : ∀ t, t * W < n → Seg lt tag d0 (t * W) (min ((t + 1) * W) n) dk

theorem Blks.start1 (d0 : Array α) (n V : Nat) : Blks lt tag d0 n V 0 1 d0 :=
  ⟨rfl, permIn_refl _ _ _, ⟨0, by omega⟩, fun t h => by
    have h0 : (t + 1) * V = 0 := by omega
    rcases Nat.mul_eq_zero.1 h0 with h1 | h1
    · omega
    · subst h1
      exact ⟨fun i j q1 q2 q3 => by simp at q3, fun p _ i q1 q2 => by simp at q2⟩,
   fun t h => ⟨fun i j q1 q2 q3 => by simp only [Nat.mul_one] at q1 q3; omega, fun p hp i q1 q2 => hp i q1 q2⟩⟩

theorem Blks.same1 {d0 dk : Array α} {n V A : Nat} (h : Blks lt tag d0 n V A 1 dk) {i : Nat} (h1 : A ≤ i) (h2 : i < n) : dk[i]! = d0[i]! :=
  (h.rest (i - A) (by omega)).same (fun v => v = d0[i]!) (fun x q1 q2 => congrArg (fun z => d0[z]!) (by omega)) i (by omega) (by omega)

theorem step_lt {t T V : Nat} (h : (t + 1) * V ≤ T * V + V) (hV : 0 < V) : t < T ∨ t = T := by
  have : (t + 1) * V ≤ (T + 1) * V := by rw [Nat.succ_mul T]; exact h
  have := Nat.le_of_mul_le_mul_right this hV
  omega

theorem mul_lt_step {t T V : Nat} (h : t < T) : (t + 1) * V ≤ T * V := Nat.mul_le_mul_right V h

/-- one block more, of V, is made of what stood in [A, A + V). -/
theorem Blks.next {d0 dk dk' : Array α} {n V A W k : Nat} (h : Blks lt tag d0 n V A W dk) (hV : 0 < V) (hk : V = k * W) (hA : A + V ≤ n) (hn : n ≤ d0.size)
    (hp : Post lt tag A (A + V) dk dk') (hg : Seg lt tag d0 A (A + V) dk') : Blks lt tag d0 n V (A + V) W dk' := by
  have hs := h.size
  obtain ⟨T, hT⟩ := h.al
  refine ⟨hp.perm.1.trans hs, permIn_trans _ _ _ _ _ h.perm (permIn_mono _ _ _ _ _ _ (Nat.zero_le _) hA (by omega) hp.perm), ⟨T + 1, by rw [Nat.succ_mul, hT]⟩, fun t ht => ?_, fun t ht => ?_⟩
  · rcases step_lt (T := T) (by rw [← hT]; exact ht) hV with h1 | h1
    · have h2 := mul_lt_step (V := V) h1
      exact (h.pre t (by rw [hT]; exact h2)).outside fun i _ q2 => hp.perm.2.1 i (Or.inl (by omega))
    · subst h1
      rw [Nat.succ_mul, ← hT]; exact hg
  · have e1 : A + V + t * W = A + (k + t) * W := by rw [Nat.add_mul, hk]; omega
    have e2 : A + V + (t + 1) * W = A + (k + t + 1) * W := by rw [show k + t + 1 = k + (t + 1) by omega, Nat.add_mul k, hk]; omega
    rw [e1] at ht
    have := h.rest (k + t) ht
    rw [e1, e2]
    refine this.outside fun i q1 _ => hp.perm.2.1 i (Or.inr ?_)
    rw [← e1] at q1; omega

/-- what is left over is one block. -/
theorem Blks.last {d0 dk dk' : Array α} {n V A W : Nat} (h : Blks lt tag d0 n V A W dk) (hA : A ≤ n) (hA2 : n < A + V) (hn : n ≤ d0.size)
    (hp : Post lt tag A n dk dk') (hg : Seg lt tag d0 A n dk') : Full lt tag d0 n V dk' := by
  have hs := h.size
  obtain ⟨T, hT⟩ := h.al
  refine ⟨hp.perm.1.trans hs, permIn_trans _ _ _ _ _ h.perm (permIn_mono _ _ _ _ _ _ (Nat.zero_le _) (Nat.le_refl _) (by omega) hp.perm), fun t ht => ?_⟩
  by_cases h1 : t < T
  · have h2 := mul_lt_step (V := V) h1
    rw [Nat.min_eq_left (by omega)]
    exact (h.pre t (by rw [hT]; exact h2)).outside fun i _ q2 => hp.perm.2.1 i (Or.inl (by omega))
  · have h2 : t = T := by
      rcases Nat.lt_or_ge T t with h3 | h3
      · have := mul_lt_step (V := V) h3
        rw [Nat.succ_mul] at this; omega
      · omega
    subst h2
    rw [Nat.succ_mul, ← hT, Nat.min_eq_right (by omega)]; exact hg

theorem Full.start {d0 dk : Array α} {n W V : Nat} (h : Full lt tag d0 n W dk) (hV : 0 < V) : Blks lt tag d0 n V 0 W dk :=
  ⟨h.size, h.perm, ⟨0, by omega⟩, fun t ht => by
    have : 0 < (t + 1) * V := Nat.mul_pos (by omega) hV
    omega, fun t ht => by
    have := h.seg t (by omega)
    rw [Nat.zero_add, Nat.zero_add]; exact this⟩

theorem Blks.first {d0 dk : Array α} {n V A W : Nat} (h : Blks lt tag d0 n V A W dk) (hA : A < n) (hW : A + W ≤ n) : Seg lt tag d0 A (A + W) dk := by
  have := h.rest 0 (by omega)
  simp only [Nat.zero_mul, Nat.add_zero, Nat.zero_add, Nat.one_mul] at this
  rwa [Nat.min_eq_left hW] at this
theorem Blks.only {d0 dk : Array α} {n V A W : Nat} (h : Blks lt tag d0 n V A W dk) (hA : A ≤ n) (hW : n ≤ A + W) : Seg lt tag d0 A n dk := by
  by_cases e : A < n
  · have := h.rest 0 (by omega)
    simp only [Nat.zero_mul, Nat.add_zero, Nat.zero_add, Nat.one_mul] at this
    rwa [Nat.min_eq_right hW] at this
  · exact ⟨fun i j _ _ _ => by omega, fun p _ i _ _ => by omega⟩
theorem Blks.second {d0 dk : Array α} {n V A W b : Nat} (h : Blks lt tag d0 n V A W dk) (hA : A + W < n) (hb : b = min (A + 2 * W) n) : Seg lt tag d0 (A + W) b dk := by
  have := h.rest 1 (by omega)
  simp only [Nat.one_mul] at this
  rw [hb]; exact this

theorem Full.done {d0 dk : Array α} {n W : Nat} (h : Full lt tag d0 n W dk) (hW : n ≤ W) : SortL lt tag 0 n dk := by
  intro i j h1 h2 h3
  have := h.seg 0 (by omega)
  simp only [Nat.zero_mul, Nat.zero_add, Nat.one_mul] at this
  rw [Nat.min_eq_right hW] at this
  exact this.sort i j h1 h2 h3
end
end Go.Proofs.Ytjfifaooimgbaaa.Stab
