import Derived.Test.YtjfifaooimgbaaaRy
/- The document's exchange: Do, Journal, Open of an empty journal. -/
namespace Go.Proofs.Ytjfifaooimgbaaa
open Go.Shelf Go.RowKit Go.Lib Go.Sort

/-- the document's exchange lies at p, in the state x; it has the blocks S. -/
def RepR (w : World) (S : Nat → Prop) (p : Nat) (x : Ex.Xch) : Prop :=
  ∃ ov fv, RefAt w p x ov fv ∧ LRow w ov x.ords ∧ (x.last = 0 → x.lastL = []) ∧ S = (fun k => k = p ∨ ov.ownBlock = some k)
theorem repR_low {w : World} {S : Nat → Prop} {p : Nat} {x : Ex.Xch} (h : RepR w S p x) : ∀ k, S k → k < w.heap.size := by
  obtain ⟨ov, fv, h1, h2, _, rfl⟩ := h
  rintro k (rfl | hk)
  · exact h1.lt
  · exact h2.lt hk
theorem repR_keep {w w' : World} {S : Nat → Prop} {p : Nat} {x : Ex.Xch} (h : RepR w S p x) (e : ∀ k, S k → w'.heap[k]? = w.heap[k]?) : RepR w' S p x := by
  obtain ⟨ov, fv, h1, h2, h3, rfl⟩ := h
  exact ⟨ov, fv, h1.kept (e p (Or.inl rfl)), h2.kept (fun k hk => e k (Or.inr hk)), h3, rfl⟩

theorem moves_last (x : Ex.Xch) (k t n : Nat) : (Ex.movesX x k t n).1.last = x.last ∧ (Ex.movesX x k t n).1.lastL = x.lastL ∧ (Ex.movesX x k t n).1.jr = x.jr ∧ (Ex.movesX x k t n).1.time = x.time := by
  unfold Ex.movesX
  dsimp only
  repeat' split
  all_goals exact ⟨rfl, rfl, rfl, rfl⟩
theorem orders_last (x : Ex.Xch) (t sd pr : Nat) : (Ex.ordersX x t sd pr).1.last = x.last ∧ (Ex.ordersX x t sd pr).1.lastL = x.lastL ∧ (Ex.ordersX x t sd pr).1.jr = x.jr ∧ (Ex.ordersX x t sd pr).1.time = x.time := by
  unfold Ex.ordersX
  dsimp only
  split
  · exact ⟨rfl, rfl, rfl, rfl⟩
  · split
    · exact ⟨rfl, rfl, rfl, rfl⟩
    · split
      · exact ⟨rfl, rfl, rfl, rfl⟩
      · split
        · exact ⟨rfl, rfl, rfl, rfl⟩
        · split
          · exact ⟨rfl, rfl, rfl, rfl⟩
          · exact ⟨rfl, rfl, rfl, rfl⟩
theorem cancel_last (x : Ex.Xch) (t : Nat) : (Ex.cancelX x t).1.last = x.last ∧ (Ex.cancelX x t).1.lastL = x.lastL ∧ (Ex.cancelX x t).1.jr = x.jr ∧ (Ex.cancelX x t).1.time = x.time := by
  unfold Ex.cancelX
  split
  · exact ⟨rfl, rfl, rfl, rfl⟩
  · exact ⟨rfl, rfl, rfl, rfl⟩
theorem answer_last (x : Ex.Xch) (r : List UInt8) : (Ex.answerX x r).1.last = x.last ∧ (Ex.answerX x r).1.lastL = x.lastL ∧ (Ex.answerX x r).1.jr = x.jr ∧ (Ex.answerX x r).1.time = x.time := by
  unfold Ex.answerX
  dsimp only
  generalize (if Ex.longOf (r.getD 0 0).toNat = 1 then 0 else (r.getD 1 0).toNat) = tt
  split
  · exact ⟨rfl, rfl, rfl, rfl⟩
  · split
    · exact ⟨rfl, rfl, rfl, rfl⟩
    · split
      · exact moves_last _ _ _ _
      · split
        · exact orders_last _ _ _ _
        · split
          · exact cancel_last _ _
          · exact ⟨rfl, rfl, rfl, rfl⟩
theorem cleared_last (x : Ex.Xch) (ok : Ex.Ok x) (h : x.last = 0 → x.lastL = []) : (Ex.cleared x).last = 0 → (Ex.cleared x).lastL = [] := by
  unfold Ex.cleared
  split
  · intro e
    have := ok.batch
    exact absurd e (by show x.batch ≠ 0; omega)
  · exact h

theorem RSt.trans {a b c : World} {p : Nat} {ov ov1 : Value} {y : Ex.Xch} (o : Onl (fun k => k = p ∨ ov.ownBlock = some k) a b) (hv : ∀ k, ov1.ownBlock = some k → ov.ownBlock = some k ∨ a.heap.size ≤ k) (h : RSt b p ov1 c y) : RSt a p ov c y := by
  obtain ⟨ov', fv', h1, h2, h3, h4⟩ := h
  refine ⟨ov', fv', h1, h2, fun k hk => ?_, o.trans h4 (fun k hk => ?_)⟩
  · rcases h3 k hk with e | e
    · exact hv k e
    · exact Or.inr (Nat.le_trans o.size e)
  · rcases hk with rfl | e
    · exact Or.inl (Or.inl rfl)
    · rcases hv k e with q | q
      · exact Or.inl (Or.inr q)
      · exact Or.inr q
theorem RSt.jr {a b c : World} {p : Nat} {ov : Value} {y : Ex.Xch} (h : RSt a p ov b y) (hb : Below b.heap.size b c) (l : List UInt8) : RSt a p ov (c.setCell ⟨p, 2, none⟩ (.string ⟨l.toArray⟩)) { y with jr := l } := by
  obtain ⟨ov', fv', h1, h2, h3, h4⟩ := h
  have r1 : RefAt c p y ov' fv' := h1.kept (hb.block p h1.lt)
  have l1 : LRow c ov' y.ords := h2.kept (fun k hk => hb.block k (h2.lt hk))
  exact ⟨ov', fv', r1.setJr l, l1.setp (ref_apart r1 l1) _ _, h3, (h4.below hb).set _ _ (Or.inl (Or.inl rfl))⟩
theorem RSt.dr {a b : World} {p : Nat} {ov : Value} {y : Ex.Xch} (h : RSt a p ov b y) : RSt a p ov b.drew y := by
  obtain ⟨ov', fv', h1, h2, h3, h4⟩ := h
  exact ⟨ov', fv', h1.kept rfl, h2.kept (fun _ _ => rfl), h3, h4.drew⟩
theorem RSt.same {a b : World} {p : Nat} {ov : Value} {y z : Ex.Xch} (h : RSt a p ov b y) (e : y = z) : RSt a p ov b z := e ▸ h
end Go.Proofs.Ytjfifaooimgbaaa
/- The document's exchange: Do. -/
namespace Go.Proofs.Ytjfifaooimgbaaa
open Go.Shelf Go.RowKit Go.Lib Go.Sort

theorem tells_ne (x : Ex.Xch) (k t : Nat) : ∃ b s, Ex.tellsX x k t = b :: s := by
  unfold Ex.tellsX
  repeat' split
  all_goals exact ⟨_, _, rfl⟩
theorem moves_ne (x : Ex.Xch) (k t n : Nat) : ∃ b s, (Ex.movesX x k t n).2 = b :: s := by
  unfold Ex.movesX
  dsimp only
  repeat' split
  all_goals exact ⟨_, _, rfl⟩
theorem orders_ne (x : Ex.Xch) (t sd pr : Nat) : ∃ b s, (Ex.ordersX x t sd pr).2 = b :: s := by
  unfold Ex.ordersX
  dsimp only
  split
  · exact ⟨_, _, rfl⟩
  · split
    · exact ⟨_, _, rfl⟩
    · split
      · exact ⟨_, _, rfl⟩
      · split
        · exact ⟨_, _, rfl⟩
        · split
          · exact ⟨_, _, rfl⟩
          · exact ⟨_, _, rfl⟩
theorem cancel_ne (x : Ex.Xch) (t : Nat) : ∃ b s, (Ex.cancelX x t).2 = b :: s := by
  unfold Ex.cancelX
  split
  · exact ⟨_, _, rfl⟩
  · exact ⟨_, _, rfl⟩
theorem answer_ne (x : Ex.Xch) (r : List UInt8) : ∃ b s, (Ex.answerX x r).2 = b :: s := by
  unfold Ex.answerX
  dsimp only
  generalize (if Ex.longOf (r.getD 0 0).toNat = 1 then 0 else (r.getD 1 0).toNat) = tt
  split
  · exact ⟨_, _, rfl⟩
  · split
    · exact ⟨_, _, rfl⟩
    · split
      · exact moves_ne _ _ _ _
      · split
        · exact orders_ne _ _ _ _
        · split
          · exact cancel_ne _ _
          · exact tells_ne _ _ _
theorem long_le (k : Nat) : Ex.longOf k ≤ 10 := by
  unfold Ex.longOf
  repeat' split
  all_goals omega
theorem answer_short (x : Ex.Xch) (r : List UInt8) {b : UInt8} {s : List UInt8} (h : (Ex.answerX x r).2 = b :: s) (hb : b = 0) : r.length ≤ 10 ∧ r ≠ [] := by
  unfold Ex.answerX at h
  dsimp only at h
  by_cases h1 : Ex.longOf (r.getD 0 0).toNat = 0 ∨ r.length ≠ Ex.longOf (r.getD 0 0).toNat
  · rw [if_pos h1] at h
    injection h with h _
    rw [← h] at hb
    exact absurd hb (by decide)
  · have := long_le (r.getD 0 0).toNat
    have h2 : r.length = Ex.longOf (r.getD 0 0).toNat := by omega
    have h3 : Ex.longOf (r.getD 0 0).toNat ≠ 0 := by omega
    exact ⟨by omega, fun e => by subst e; exact h3 h2.symm⟩
end Go.Proofs.Ytjfifaooimgbaaa
