import Derived.Test.YtjfifaooimgbaaaHx
import Derived.Test.YtjfifaooimgbaaaHy
/- P10 without a program: two exchanges, alike but for the prices of the others' orders. -/
namespace Go.Proofs.Ytjfifaooimgbaaa
namespace Ex
open Go.Shelf Go.RowKit Go.Lib Go.Sort

/-- what all may know of an order. -/
def seen (o : Ord) : Nat × Int × Int := (o.who, o.side, if o.who = 0 then o.price else 0)

structure Alike (x y : Xch) : Prop where
  okx : Ok x
  oky : Ok y
  time : x.time = 0 ∧ y.time = 0
  fin : x.fin = 100 ∧ y.fin = 100
  cap : x.cap = 20 ∧ y.cap = 20
  batch : x.batch = y.batch
  ps0 : x.ps 0 = y.ps 0
  rich1 : ∀ t, t ≠ 0 → t < 20 → (x.ps t).cash + (x.ps t).held = 5000 ∧ (x.ps t).units + (x.ps t).hun = 5
  rich2 : ∀ t, t ≠ 0 → t < 20 → (y.ps t).cash + (y.ps t).held = 5000 ∧ (y.ps t).units + (y.ps t).hun = 5
  ords : x.ords.map seen = y.ords.map seen
  own : x.own = y.own
  last : x.last = y.last ∧ x.lastL = y.lastL
  told : x.traded = y.traded ∧ x.paid = y.paid

theorem Alike.still {x y : Xch} (h : Alike x y) : Still x 0 ∧ Still y 0 := by
  have h1 := h.time
  have h2 := h.fin
  refine ⟨⟨by omega, ?_⟩, ⟨by omega, ?_⟩⟩
  · rw [h1.1]; decide
  · rw [h1.2]; decide
theorem Alike.jr {x y : Xch} (h : Alike x y) (j k : List UInt8) : Alike { x with jr := j } { y with jr := k } :=
  ⟨jr_ok h.okx j, jr_ok h.oky k, h.time, h.fin, h.cap, h.batch, h.ps0, h.rich1, h.rich2, h.ords, h.own, h.last, h.told⟩
theorem Alike.len {x y : Xch} (h : Alike x y) : x.ords.length = y.ords.length := by
  have := congrArg List.length h.ords
  simpa using this
theorem alike_written {x y : Xch} (h : Alike x y) (r r' s s' : List UInt8) : Alike (written x r s) (written y r' s') := by
  unfold written
  split
  · split
    · exact h.jr _ _
    · exact h.jr _ y.jr
  · split
    · exact h.jr x.jr _
    · exact h

/-- what a trader 0 is told, and what all are told of the batch. -/
theorem alike_tells {x y : Xch} (h : Alike x y) : tellsX x 8 0 = tellsX y 8 0 ∧ tellsX x 7 0 = tellsX y 7 0 ∧ tellsX x 9 0 = tellsX y 9 0 ∧ tellsX x 10 0 = tellsX y 10 0 := by
  refine ⟨?_, ?_, ?_, ?_⟩
  · unfold tellsX
    rw [if_neg (by decide), if_pos rfl, if_neg (by decide), if_pos rfl, h.batch, h.fin.1, h.fin.2, h.len]
  · unfold tellsX
    rw [if_pos rfl, if_pos rfl, h.ps0]
  · show (if x.traded 0 = true then 0 :: 1 :: bytesOf (x.paid 0).toNat 2 else [0, 0, 0, 0]) = (if y.traded 0 = true then 0 :: 1 :: bytesOf (y.paid 0).toNat 2 else [0, 0, 0, 0])
    rw [h.told.1, h.told.2]
  · unfold tellsX
    rw [if_neg (by decide), if_neg (by decide), if_neg (by decide), if_neg (by decide), if_neg (by decide), if_neg (by decide), h.last.1, h.last.2, h.own]

theorem sum_const (g g' : Nat → Int) (h : ∀ i, i < 20 → g i = g' i) : sumTo g 20 = sumTo g' 20 := sumTo_congr 20 h
theorem Alike.sums {x y : Xch} (h : Alike x y) : allCash x = allCash y ∧ allUnits x = allUnits y := by
  have e1 : sumTo (fun i => (x.ps i).cash + (x.ps i).held) 20 = sumTo (fun i => (y.ps i).cash + (y.ps i).held) 20 := sum_const _ _ fun i hi => by
    by_cases h0 : i = 0
    · rw [h0, h.ps0]
    · rw [(h.rich1 i h0 hi).1, (h.rich2 i h0 hi).1]
  have e2 : sumTo (fun i => (x.ps i).units + (x.ps i).hun) 20 = sumTo (fun i => (y.ps i).units + (y.ps i).hun) 20 := sum_const _ _ fun i hi => by
    by_cases h0 : i = 0
    · rw [h0, h.ps0]
    · rw [(h.rich1 i h0 hi).2, (h.rich2 i h0 hi).2]
  unfold allCash allUnits
  rw [e1, e2, h.own]
  exact ⟨rfl, rfl⟩

theorem live_seen (os : List Ord) (t : Nat) : liveAt os t = (os.map seen).any (fun s => s.1 == t) := by
  unfold liveAt
  rw [List.any_map]
  rfl
theorem Alike.live {x y : Xch} (h : Alike x y) (t : Nat) : liveAt x.ords t = liveAt y.ords t := by
  rw [live_seen, live_seen, h.ords]

/-- the trader 0 puts in, or takes out. -/
theorem alike_moves {x y : Xch} (h : Alike x y) {k n : Nat} (hk : k = 1 ∨ k = 2 ∨ k = 3 ∨ k = 4) : (movesX x k 0 n).2 = (movesX y k 0 n).2 ∧ Alike (movesX x k 0 n).1 (movesX y k 0 n).1 := by
  have a := (moves_ok h.okx (n := n) hk (t := 0) (by decide)).1
  have b := (moves_ok h.oky (n := n) hk (t := 0) (by decide)).1
  obtain ⟨s1, s2⟩ := h.sums
  unfold movesX at a b ⊢
  dsimp only at a b ⊢
  rw [s1, s2, h.ps0] at a ⊢
  by_cases h1 : n = 0
  · simp only [if_pos h1]; exact ⟨trivial, h⟩
  · simp only [if_neg h1] at a b ⊢
    by_cases h2 : (k = 1 ∧ 1125899906842624 - allCash y < n) ∨ (k = 3 ∧ 1125899906842624 - allUnits y < n)
    · simp only [if_pos h2]; exact ⟨trivial, h⟩
    · simp only [if_neg h2] at a b ⊢
      by_cases h3 : (k = 2 ∧ (y.ps 0).cash < n) ∨ (k = 4 ∧ (y.ps 0).units < n)
      · simp only [if_pos h3]; exact ⟨trivial, h⟩
      · simp only [if_neg h3] at a b ⊢
        refine ⟨trivial, a, b, h.time, h.fin, h.cap, h.batch, ?_, fun t ht hl => ?_, fun t ht hl => ?_, h.ords, h.own, h.last, h.told⟩
        · exact (upd_same x.ps 0 _).trans (upd_same y.ps 0 _).symm
        · show (upd x.ps 0 _ t).cash + (upd x.ps 0 _ t).held = _ ∧ (upd x.ps 0 _ t).units + (upd x.ps 0 _ t).hun = _
          rw [upd_ne _ _ ht]; exact h.rich1 t ht hl
        · show (upd y.ps 0 _ t).cash + (upd y.ps 0 _ t).held = _ ∧ (upd y.ps 0 _ t).units + (upd y.ps 0 _ t).hun = _
          rw [upd_ne _ _ ht]; exact h.rich2 t ht hl

/-- an order: the trader 0's, or another's with whatever price that may be. -/
theorem alike_order {x y : Xch} (h : Alike x y) {t s p p' : Nat} (ht : t < 20) (hp : p = p' ∧ t = 0 ∨ t ≠ 0 ∧ s ≤ 1 ∧ (1 ≤ p ∧ p < 1000) ∧ (1 ≤ p' ∧ p' < 1000)) :
    (ordersX x t s p).2 = (ordersX y t s p').2 ∧ Alike (ordersX x t s p).1 (ordersX y t s p').1 := by
  have a := (orders_ok h.okx (t := t) (side := s) (price := p) ht).1
  have b := (orders_ok h.oky (t := t) (side := s) (price := p') ht).1
  have hlen := h.len
  have hc1 := h.cap.1
  have hc2 := h.cap.2
  unfold ordersX at a b ⊢
  dsimp only at a b ⊢
  rw [h.live t, hlen] at a ⊢
  by_cases h1 : 1 < s
  · simp only [if_pos h1]; exact ⟨trivial, h⟩
  · simp only [if_neg h1] at a b ⊢
    by_cases h2 : p < 1 ∨ 1000 ≤ p
    · have h2' : p' < 1 ∨ 1000 ≤ p' := by omega
      simp only [if_pos h2, if_pos h2']; exact ⟨trivial, h⟩
    · have h2' : ¬ (p' < 1 ∨ 1000 ≤ p') := by omega
      simp only [if_neg h2, if_neg h2'] at a b ⊢
      by_cases h3 : liveAt y.ords t = true
      · simp only [if_pos h3]; exact ⟨trivial, h⟩
      · simp only [if_neg h3] at a b ⊢
        have lf : liveAt y.ords t = false := by simpa using h3
        have py := place_for h.oky ht lf
        simp only [if_neg (show ¬ x.cap ≤ (y.ords.length : Int) by omega), if_neg (show ¬ y.cap ≤ (y.ords.length : Int) by omega)] at a b ⊢
        have n1 := h.okx.held.no t ((h.live t).trans lf)
        have n2 := h.oky.held.no t lf
        have fin5 : ∀ v v' : Purse, (t = 0 → v = v') → (v.cash + v.held = (x.ps t).cash + (x.ps t).held ∧ v.units + v.hun = (x.ps t).units + (x.ps t).hun) → (v'.cash + v'.held = (y.ps t).cash + (y.ps t).held ∧ v'.units + v'.hun = (y.ps t).units + (y.ps t).hun) →
            Ok { x with ps := upd x.ps t v, ords := x.ords ++ [⟨t, s, p⟩] } → Ok { y with ps := upd y.ps t v', ords := y.ords ++ [⟨t, s, p'⟩] } → Alike { x with ps := upd x.ps t v, ords := x.ords ++ [⟨t, s, p⟩] } { y with ps := upd y.ps t v', ords := y.ords ++ [⟨t, s, p'⟩] } := fun v v' hv e1 e2 o1 o2 => by
          refine ⟨o1, o2, h.time, h.fin, h.cap, h.batch, ?_, fun u hu hl => ?_, fun u hu hl => ?_, ?_, h.own, h.last, h.told⟩
          · show upd x.ps t v 0 = upd y.ps t v' 0
            by_cases h0 : t = 0
            · subst h0; rw [upd_same, upd_same]; exact hv rfl
            · rw [upd_ne _ _ (fun e => h0 e.symm), upd_ne _ _ (fun e => h0 e.symm)]; exact h.ps0
          · show (upd x.ps t v u).cash + (upd x.ps t v u).held = _ ∧ (upd x.ps t v u).units + (upd x.ps t v u).hun = _
            by_cases hut : u = t
            · subst hut; rw [upd_same, e1.1, e1.2]; exact h.rich1 u hu hl
            · rw [upd_ne _ _ hut]; exact h.rich1 u hu hl
          · show (upd y.ps t v' u).cash + (upd y.ps t v' u).held = _ ∧ (upd y.ps t v' u).units + (upd y.ps t v' u).hun = _
            by_cases hut : u = t
            · subst hut; rw [upd_same, e2.1, e2.2]; exact h.rich2 u hu hl
            · rw [upd_ne _ _ hut]; exact h.rich2 u hu hl
          · show (x.ords ++ [(⟨t, s, p⟩ : Ord)]).map seen = (y.ords ++ [(⟨t, s, p'⟩ : Ord)]).map seen
            rw [List.map_append, List.map_append, h.ords]
            congr 1
            show [seen (⟨t, s, p⟩ : Ord)] = [seen (⟨t, s, p'⟩ : Ord)]
            unfold seen
            dsimp only
            by_cases h0 : t = 0
            · obtain rfl : p = p' := by omega
              rfl
            · rw [if_neg h0, if_neg h0]
        by_cases h0 : t = 0
        · subst h0
          obtain rfl : p = p' := by omega
          rw [h.ps0] at a ⊢
          by_cases h5 : (s = 0 ∧ (y.ps 0).cash < p) ∨ (s = 1 ∧ (y.ps 0).units < 1)
          · simp only [if_pos h5]; exact ⟨trivial, h⟩
          · simp only [if_neg h5] at a b ⊢
            refine ⟨trivial, fin5 _ _ (fun _ => rfl) ?_ ?_ a b⟩
            · rw [h.ps0]
              split <;> dsimp only <;> omega
            · split <;> dsimp only <;> omega
        · have r1 := h.rich1 t h0 ht
          have r2 := h.rich2 t h0 ht
          have h5 : ¬ ((s = 0 ∧ (x.ps t).cash < p) ∨ (s = 1 ∧ (x.ps t).units < 1)) := by omega
          have h5' : ¬ ((s = 0 ∧ (y.ps t).cash < p') ∨ (s = 1 ∧ (y.ps t).units < 1)) := by omega
          simp only [if_neg h5, if_neg h5'] at a b ⊢
          refine ⟨trivial, fin5 _ _ (fun e => absurd e h0) ?_ ?_ a b⟩
          · split <;> dsimp only <;> omega
          · split <;> dsimp only <;> omega

theorem find_seen (os : List Ord) (t : Nat) : (os.find? (fun o => o.who == t)).map seen = (os.map seen).find? (fun s => s.1 == t) := by
  rw [List.find?_map]
  rfl
theorem without_seen (os : List Ord) (t : Nat) : (without os t).map seen = (os.map seen).filter (fun s => s.1 != t) := by
  unfold without
  rw [List.filter_map]
  rfl

/-- an order is gone. -/
theorem alike_cancel {x y : Xch} (h : Alike x y) {t : Nat} (ht : t < 20) : (cancelX x t).2 = (cancelX y t).2 ∧ Alike (cancelX x t).1 (cancelX y t).1 := by
  have a := (cancel_ok h.okx (t := t) ht).1
  have b := (cancel_ok h.oky (t := t) ht).1
  have fe : (x.ords.find? (fun o => o.who == t)).map seen = (y.ords.find? (fun o => o.who == t)).map seen := by rw [find_seen, find_seen, h.ords]
  unfold cancelX at a b ⊢
  cases hx : x.ords.find? (fun o => o.who == t) with
  | none =>
    cases hy : y.ords.find? (fun o => o.who == t) with
    | none => exact ⟨rfl, h⟩
    | some o' => rw [hx, hy] at fe; cases fe
  | some o =>
    cases hy : y.ords.find? (fun o => o.who == t) with
    | none => rw [hx, hy] at fe; cases fe
    | some o' =>
      rw [hx, hy] at fe
      rw [hx] at a
      rw [hy] at b
      dsimp only at a b ⊢
      have fe' : seen o = seen o' := by injection fe
      obtain ⟨_, wo⟩ := find_spec hx
      obtain ⟨_, wo'⟩ := find_spec hy
      have f1 := freed_sum (x.ps t) o
      have f2 := freed_sum (y.ps t) o'
      refine ⟨rfl, a, b, h.time, h.fin, h.cap, h.batch, ?_, fun u hu hl => ?_, fun u hu hl => ?_, ?_, h.own, h.last, h.told⟩
      · show upd x.ps t _ 0 = upd y.ps t _ 0
        by_cases h0 : t = 0
        · subst h0
          rw [upd_same, upd_same, h.ps0]
          unfold seen at fe'
          rw [if_pos wo, if_pos wo'] at fe'
          simp only [Prod.mk.injEq] at fe'
          unfold freed
          rw [fe'.2.1, fe'.2.2]
        · rw [upd_ne _ _ (fun e => h0 e.symm), upd_ne _ _ (fun e => h0 e.symm)]; exact h.ps0
      · show (upd x.ps t _ u).cash + (upd x.ps t _ u).held = _ ∧ (upd x.ps t _ u).units + (upd x.ps t _ u).hun = _
        by_cases hut : u = t
        · subst hut; rw [upd_same, f1.1, f1.2]; exact h.rich1 u hu hl
        · rw [upd_ne _ _ hut]; exact h.rich1 u hu hl
      · show (upd y.ps t _ u).cash + (upd y.ps t _ u).held = _ ∧ (upd y.ps t _ u).units + (upd y.ps t _ u).hun = _
        by_cases hut : u = t
        · subst hut; rw [upd_same, f2.1, f2.2]; exact h.rich2 u hu hl
        · rw [upd_ne _ _ hut]; exact h.rich2 u hu hl
      · show (without x.ords t).map seen = (without y.ords t).map seen
        rw [without_seen, without_seen, h.ords]
end Ex
end Go.Proofs.Ytjfifaooimgbaaa
/- Sealed: two floors side by side. -/
namespace Go.Proofs.Ytjfifaooimgbaaa
open Go.Shelf Go.RowKit Go.Lib Go.Sort

variable {Rep : World → (Nat → Prop) → Nat → Ex.Xch → Prop}

theorem one_byte (t : Nat) : bytesOf t 1 = [UInt8.ofNat t] := by
  show [UInt8.ofNat (t / 256 ^ 0)] = _
  rw [Nat.pow_zero, Nat.div_one]

theorem ans_moves (x : Ex.Xch) (k t n : Nat) (hk : k = 1 ∨ k = 2 ∨ k = 3 ∨ k = 4) (ht : t < 20) (hn : n < 18446744073709551616) : Ex.answerX x (UInt8.ofNat k :: (bytesOf t 1 ++ bytesOf n 8)) = Ex.movesX x k t n := by
  have ln := bytesOf_length n 8
  rw [one_byte]
  unfold Ex.answerX
  dsimp only
  have g0 : ((UInt8.ofNat k :: ([UInt8.ofNat t] ++ bytesOf n 8)).getD 0 0).toNat = k := by
    show (UInt8.ofNat k).toNat = k
    rw [UInt8.toNat_ofNat']; omega
  have g1 : ((UInt8.ofNat k :: ([UInt8.ofNat t] ++ bytesOf n 8)).getD 1 0).toNat = t := by
    show (UInt8.ofNat t).toNat = t
    rw [UInt8.toNat_ofNat']; omega
  have gl : (UInt8.ofNat k :: ([UInt8.ofNat t] ++ bytesOf n 8)).length = 10 := by simp [ln]
  have gd : (UInt8.ofNat k :: ([UInt8.ofNat t] ++ bytesOf n 8)).drop 2 = bytesOf n 8 := rfl
  have hl : Ex.longOf k = 10 := by unfold Ex.longOf; rw [if_pos (by omega)]
  rw [g0, g1, gl, gd, hl, num_bytes n 8 (by omega), if_neg (by decide), if_neg (show ¬ (10 : Nat) = 1 by decide), if_neg (by omega), if_pos rfl]
theorem ans_order (x : Ex.Xch) (t s p : Nat) (ht : t < 20) (hs : s < 256) (hp : p < 65536) : Ex.answerX x (5 :: (bytesOf t 1 ++ bytesOf s 1 ++ bytesOf p 2)) = Ex.ordersX x t s p := by
  have lp := bytesOf_length p 2
  rw [one_byte, one_byte]
  unfold Ex.answerX
  dsimp only
  have g0 : ((5 :: ([UInt8.ofNat t] ++ [UInt8.ofNat s] ++ bytesOf p 2)).getD 0 0).toNat = 5 := rfl
  have g1 : ((5 :: ([UInt8.ofNat t] ++ [UInt8.ofNat s] ++ bytesOf p 2)).getD 1 0).toNat = t := by
    show (UInt8.ofNat t).toNat = t
    rw [UInt8.toNat_ofNat']; omega
  have g2 : ((5 :: ([UInt8.ofNat t] ++ [UInt8.ofNat s] ++ bytesOf p 2)).getD 2 0).toNat = s := by
    show (UInt8.ofNat s).toNat = s
    rw [UInt8.toNat_ofNat']; omega
  have gl : (5 :: ([UInt8.ofNat t] ++ [UInt8.ofNat s] ++ bytesOf p 2) : List UInt8).length = 5 := by simp [lp]
  have gd : (5 :: ([UInt8.ofNat t] ++ [UInt8.ofNat s] ++ bytesOf p 2) : List UInt8).drop 3 = bytesOf p 2 := rfl
  rw [g0, g1, g2, gl, gd, num_bytes p 2 (by omega)]
  have l5 : Ex.longOf 5 = 5 := by decide
  rw [l5, if_neg (by decide), if_neg (show ¬ (5 : Nat) = 1 by decide), if_neg (by omega), if_neg (by decide), if_pos rfl]
theorem ans_cancel (x : Ex.Xch) (t : Nat) (ht : t < 20) : Ex.answerX x (6 :: bytesOf t 1) = Ex.cancelX x t := by
  rw [one_byte]
  unfold Ex.answerX
  dsimp only
  have g0 : (([6, UInt8.ofNat t] : List UInt8).getD 0 0).toNat = 6 := rfl
  have g1 : (([6, UInt8.ofNat t] : List UInt8).getD 1 0).toNat = t := by
    show (UInt8.ofNat t).toNat = t
    rw [UInt8.toNat_ofNat']; omega
  have gl : ([6, UInt8.ofNat t] : List UInt8).length = 2 := rfl
  have l6 : Ex.longOf 6 = 2 := by decide
  rw [g0, g1, gl, l6, if_neg (by decide), if_neg (show ¬ (2 : Nat) = 1 by decide), if_neg (by omega), if_neg (by decide), if_neg (by decide), if_pos rfl]
theorem ans_bad (x : Ex.Xch) (t : Nat) : Ex.answerX x (11 :: bytesOf t 1) = (x, [1]) := by
  rw [one_byte]
  unfold Ex.answerX
  dsimp only
  have g0 : (([11, UInt8.ofNat t] : List UInt8).getD 0 0).toNat = 11 := rfl
  have l11 : Ex.longOf 11 = 0 := by decide
  rw [g0, l11, if_pos (Or.inl rfl)]

/-- the same of both, or another's order with whatever price. -/
def SameMove (K W N N' : Int) : Prop :=
  pickN K 10 ≠ 8 ∧ (N = N' ∧ (pickN W 20 = 0 ∨ 7 ≤ pickN K 10) ∨
    (pickN W 20 ≠ 0 ∧ 4 ≤ pickN K 10 ∧ pickN K 10 < 7 ∧ pickN N 2 = pickN N' 2 ∧ (1 ≤ pickN (N.tdiv 2) 1002 ∧ pickN (N.tdiv 2) 1002 < 1000) ∧ (1 ≤ pickN (N'.tdiv 2) 1002 ∧ pickN (N'.tdiv 2) 1002 < 1000)))

theorem alike_do {x y : Ex.Xch} (h : Ex.Alike x y) {K W N N' : Int} (hm : SameMove K W N N') :
    (Ex.doX x 0 (reqOf K W N)).2 = (Ex.doX y 0 (reqOf K W N')).2 ∧ Ex.Alike (Ex.doX x 0 (reqOf K W N)).1 (Ex.doX y 0 (reqOf K W N')).1 := by
  have key : (Ex.answerX x (reqOf K W N)).2 = (Ex.answerX y (reqOf K W N')).2 ∧ Ex.Alike (Ex.answerX x (reqOf K W N)).1 (Ex.answerX y (reqOf K W N')).1 := by
    have lw := pickN_lt W 20 (by decide)
    have lk := pickN_lt K 10 (by decide)
    have ln := pickN_lt N 3000 (by decide)
    have l2 := pickN_lt N 2 (by decide)
    have l2' := pickN_lt N' 2 (by decide)
    have lp := pickN_lt (N.tdiv 2) 1002 (by decide)
    have lp' := pickN_lt (N'.tdiv 2) 1002 (by decide)
    obtain ⟨h8, hm⟩ := hm
    unfold reqOf
    generalize pickN K 10 = k at *
    generalize pickN W 20 = t at *
    by_cases h7 : 7 ≤ k
    · simp only [if_neg (show ¬ k = 0 by omega), if_neg (show ¬ k = 1 by omega), if_neg (show ¬ k = 2 by omega), if_neg (show ¬ k = 3 by omega), if_neg (show ¬ k < 7 by omega)]
      by_cases h7e : k = 7
      · simp only [if_pos h7e]
        rw [ans_cancel x t lw, ans_cancel y t lw]
        exact Ex.alike_cancel h lw
      · simp only [if_neg h7e]
        rw [ans_bad, ans_bad]
        exact ⟨rfl, h⟩
    · by_cases h4 : 4 ≤ k
      · simp only [if_neg (show ¬ k = 0 by omega), if_neg (show ¬ k = 1 by omega), if_neg (show ¬ k = 2 by omega), if_neg (show ¬ k = 3 by omega), if_pos (show k < 7 by omega)]
        rw [ans_order x t _ _ lw (by omega) (by omega), ans_order y t _ _ lw (by omega) (by omega)]
        rcases hm with ⟨rfl, ht⟩ | ⟨ht, _, _, es, v1, v2⟩
        · exact Ex.alike_order h lw (Or.inl ⟨rfl, by omega⟩)
        · rw [es]
          exact Ex.alike_order h lw (Or.inr ⟨ht, by omega, v1, v2⟩)
      · obtain ⟨rfl, ht⟩ : N = N' ∧ t = 0 := by
          rcases hm with ⟨e, ht⟩ | ⟨_, h4', _⟩
          · exact ⟨e, by omega⟩
          · omega
        subst ht
        have mv : ∀ kk, (kk = 1 ∨ kk = 2 ∨ kk = 3 ∨ kk = 4) → (Ex.answerX x (UInt8.ofNat kk :: (bytesOf 0 1 ++ bytesOf (pickN N 3000) 8))).2 = (Ex.answerX y (UInt8.ofNat kk :: (bytesOf 0 1 ++ bytesOf (pickN N 3000) 8))).2 ∧ Ex.Alike (Ex.answerX x (UInt8.ofNat kk :: (bytesOf 0 1 ++ bytesOf (pickN N 3000) 8))).1 (Ex.answerX y (UInt8.ofNat kk :: (bytesOf 0 1 ++ bytesOf (pickN N 3000) 8))).1 := fun kk hkk => by
          rw [ans_moves x kk 0 _ hkk (by decide) (by omega), ans_moves y kk 0 _ hkk (by decide) (by omega)]
          exact Ex.alike_moves h hkk
        obtain rfl | rfl | rfl | rfl : k = 0 ∨ k = 1 ∨ k = 2 ∨ k = 3 := by omega
        · exact mv 1 (by omega)
        · exact mv 3 (by omega)
        · exact mv 2 (by omega)
        · exact mv 4 (by omega)
  rw [h.still.1.do_, h.still.2.do_]
  exact ⟨key.1, Ex.alike_written key.2 _ _ _ _⟩

set_option maxRecDepth 100000 in
theorem alike_fund : Ex.Alike fund0 fund0 := by
  have T := twin_fund
  have r : ∀ t : Fin 20, t.1 ≠ 0 → (fund0.ps t.1).cash + (fund0.ps t.1).held = 5000 ∧ (fund0.ps t.1).units + (fund0.ps t.1).hun = 5 := by decide +kernel
  have r' : ∀ t, t ≠ 0 → t < 20 → (fund0.ps t).cash + (fund0.ps t).held = 5000 ∧ (fund0.ps t).units + (fund0.ps t).hun = 5 := fun t h0 hl => r ⟨t, hl⟩ h0
  exact ⟨T.okx, T.okx, T.time, T.fin, T.cap, rfl, rfl, r', r', rfl, rfl, ⟨rfl, rfl⟩, ⟨rfl, rfl⟩⟩
end Go.Proofs.Ytjfifaooimgbaaa
