import Derived.Test.YtjfifaooimgbaaaPl
/- P9 through the exchange, without a program. -/
namespace Go.Proofs.Ytjfifaooimgbaaa
namespace Ex
open Go.Shelf Go.RowKit Go.Lib Go.Sort

/-! ### how many there can be -/
theorem sum_one_le (g : Nat → Int) : ∀ n, (∀ i, i < n → g i ≤ 1) → sumTo g n ≤ n
  | 0, _ => Int.le_refl _
  | n + 1, h => by
    rw [sumTo]
    have := sum_one_le g n (fun i hi => h i (by omega))
    have := h n (by omega)
    omega
theorem few (l : List Nat) (n : Nat) (hp : l.Pairwise (fun a b => a ≠ b)) (hl : ∀ a ∈ l, a < n) : l.length ≤ n := by
  have h := sumTo_places (fun _ => 1) n (l.map (fun a : Nat => ((a : Int), (0 : Int)))) (by
    rw [List.pairwise_map]
    exact hp.imp (fun {a b} hab => by simpa using hab)) (fun x hx => by
    obtain ⟨a, ha, rfl⟩ := List.mem_map.1 hx
    simpa using hl a ha)
  have h2 := sum_one_le (fun i => if hasPlace (l.map (fun a : Nat => ((a : Int), (0 : Int)))) i = true then 1 else 0) n (fun i _ => by split <;> omega)
  rw [h] at h2
  rw [List.map_map] at h2
  have h3 : (l.map ((fun _ => (1 : Int)) ∘ fun a : Nat => ((a : Int), (0 : Int)))).sum = l.length := by
    clear h h2 hp hl
    induction l with
    | nil => rfl
    | cons a r ih => rw [List.map_cons, List.sum_cons, ih]; simp; omega
  have h4 : (l.map ((fun x : Int × Int => (fun _ => (1 : Int)) x.1.toNat) ∘ fun a : Nat => ((a : Int), (0 : Int)))).sum = l.length := h3
  omega

/-- who has no order finds a place. -/
theorem place_for {x : Xch} (h : Ok x) {t : Nat} (ht : t < 20) (hl : liveAt x.ords t = false) : x.ords.length < 20 := by
  have := few (t :: x.ords.map Ord.who) 20 (by
    rw [List.pairwise_cons]
    refine ⟨fun a ha => ?_, ?_⟩
    · obtain ⟨o, ho, rfl⟩ := List.mem_map.1 ha
      exact fun e => live_false hl o ho e.symm
    · rw [List.pairwise_map]
      exact h.ones) (fun a ha => by
    rcases List.mem_cons.1 ha with rfl | ha
    · exact ht
    · obtain ⟨o, ho, rfl⟩ := List.mem_map.1 ha
      exact (h.ord o ho).1)
  simp only [List.length_cons, List.length_map] at this
  omega

/-! ### two runs, alike but for the trader 0's order -/

/-- the orders of the one who is set apart: o, or none. -/
def mid (o : Option Ord) : List Ord := o.toList

structure Twin (o o' : Option Ord) (z z' : Purse) (x y : Xch) : Prop where
  ps0 : x.ps 0 = z ∧ y.ps 0 = z'
  okx : Ok x
  oky : Ok y
  time : x.time = 0 ∧ y.time = 0
  fin : x.fin = 100 ∧ y.fin = 100
  cap : x.cap = 20 ∧ y.cap = 20
  ps : ∀ t, t ≠ 0 → x.ps t = y.ps t
  cash : allCash x = allCash y
  units : allUnits x = allUnits y
  ords : ∃ pre post, x.ords = pre ++ mid o ++ post ∧ y.ords = pre ++ mid o' ++ post ∧ (∀ q ∈ pre, q.who ≠ 0) ∧ (∀ q ∈ post, q.who ≠ 0)
  own1 : ∀ q, o = some q → q.who = 0
  own2 : ∀ q, o' = some q → q.who = 0

theorem any_mid {o : Option Ord} (h : ∀ q, o = some q → q.who = 0) {t : Nat} (ht : t ≠ 0) (pre post : List Ord) : liveAt (pre ++ mid o ++ post) t = liveAt (pre ++ post) t := by
  unfold liveAt
  rw [List.any_append, List.any_append, List.any_append]
  cases o with
  | none => simp [mid]
  | some q =>
    have := h q rfl
    have hq : (q.who == t) = false := by rw [this]; exact beq_eq_false_iff_ne.2 (fun e => ht e.symm)
    simp [mid, hq]
theorem find_mid {o : Option Ord} (h : ∀ q, o = some q → q.who = 0) {t : Nat} (ht : t ≠ 0) (pre post : List Ord) : (pre ++ mid o ++ post).find? (fun o => o.who == t) = (pre ++ post).find? (fun o => o.who == t) := by
  rw [List.find?_append, List.find?_append, List.find?_append]
  cases o with
  | none => simp [mid]
  | some q =>
    have := h q rfl
    have hq : (q.who == t) = false := by rw [this]; exact beq_eq_false_iff_ne.2 (fun e => ht e.symm)
    simp [mid, hq]
theorem without_mid {o : Option Ord} (h : ∀ q, o = some q → q.who = 0) {t : Nat} (ht : t ≠ 0) (pre post : List Ord) : without (pre ++ mid o ++ post) t = without pre t ++ mid o ++ without post t := by
  unfold without
  rw [List.filter_append, List.filter_append]
  cases o with
  | none => simp [mid]
  | some q =>
    have := h q rfl
    have hq : (q.who != t) = true := by rw [this]; simpa using fun e => ht e.symm
    simp [mid, hq]

theorem Twin.jr {o o' : Option Ord} {z z' : Purse} {x y : Xch} (h : Twin o o' z z' x y) (j k : List UInt8) : Twin o o' z z' { x with jr := j } { y with jr := k } :=
  ⟨h.ps0, jr_ok h.okx j, jr_ok h.oky k, h.time, h.fin, h.cap, h.ps, h.cash, h.units, h.ords, h.own1, h.own2⟩

theorem allCash_ps (x : Xch) (ps : Nat → Purse) (os : List Ord) : allCash { x with ps := ps, ords := os } = x.own + cashOf ps := rfl
theorem allUnits_ps (x : Xch) (ps : Nat → Purse) (os : List Ord) : allUnits { x with ps := ps, ords := os } = unitsOf ps := rfl

theorem ps0_upd {x y : Xch} {z z' : Purse} (h : x.ps 0 = z ∧ y.ps 0 = z') {t : Nat} (h0 : t ≠ 0) (v : Purse) : upd x.ps t v 0 = z ∧ upd y.ps t v 0 = z' := by
  rw [upd_ne _ _ (fun e => h0 e.symm), upd_ne _ _ (fun e => h0 e.symm)]; exact h
theorem twin_ps {x y : Xch} {t : Nat} (v : Purse) (h : ∀ u, u ≠ 0 → x.ps u = y.ps u) : ∀ u, u ≠ 0 → upd x.ps t v u = upd y.ps t v u := fun u hu => by
  by_cases e : u = t
  · rw [e, upd_same, upd_same]
  · rw [upd_ne _ _ e, upd_ne _ _ e]; exact h u hu

theorem twin_moves {o o' : Option Ord} {z z' : Purse} {x y : Xch} (h : Twin o o' z z' x y) {k t n : Nat} (hk : k = 1 ∨ k = 2 ∨ k = 3 ∨ k = 4) (ht : t < 20) (h0 : t ≠ 0) : Twin o o' z z' (movesX x k t n).1 (movesX y k t n).1 := by
  have a := moves_ok h.okx (n := n) hk ht
  have b := moves_ok h.oky (n := n) hk ht
  have ta := moves_time x k t n
  have tb := moves_time y k t n
  unfold movesX at *
  dsimp only at *
  rw [h.cash, h.units, h.ps t h0] at *
  by_cases h1 : n = 0
  · rw [if_pos h1]; rw [if_pos h1]; exact h
  · rw [if_neg h1] at *
    rw [if_neg h1] at *
    by_cases h2 : (k = 1 ∧ 1125899906842624 - allCash y < n) ∨ (k = 3 ∧ 1125899906842624 - allUnits y < n)
    · rw [if_pos h2]; rw [if_pos h2]; exact h
    · rw [if_neg h2] at *
      rw [if_neg h2] at *
      by_cases h3 : (k = 2 ∧ (y.ps t).cash < n) ∨ (k = 4 ∧ (y.ps t).units < n)
      · rw [if_pos h3]; rw [if_pos h3]; exact h
      · rw [if_neg h3] at *
        rw [if_neg h3] at *
        generalize (if k = 1 then { y.ps t with cash := (y.ps t).cash + n } else if k = 2 then { y.ps t with cash := (y.ps t).cash - n } else if k = 3 then { y.ps t with units := (y.ps t).units + n } else { y.ps t with units := (y.ps t).units - n } : Purse) = v at *
        have e1 : allCash { x with ps := upd x.ps t v } = allCash { y with ps := upd y.ps t v } := by
          show x.own + cashOf (upd x.ps t v) = y.own + cashOf (upd y.ps t v)
          rw [cash_upd _ _ _ ht, cash_upd _ _ _ ht, h.ps t h0]
          have := h.cash
          rw [allCash_eq, allCash_eq] at this
          omega
        have e2 : allUnits { x with ps := upd x.ps t v } = allUnits { y with ps := upd y.ps t v } := by
          show unitsOf (upd x.ps t v) = unitsOf (upd y.ps t v)
          rw [units_upd _ _ _ ht, units_upd _ _ _ ht, h.ps t h0]
          have := h.units
          rw [allUnits_eq, allUnits_eq] at this
          omega
        exact ⟨ps0_upd h.ps0 h0 v, a.1, b.1, h.time, h.fin, h.cap, twin_ps v h.ps, e1, e2, h.ords, h.own1, h.own2⟩

theorem twin_orders {o o' : Option Ord} {z z' : Purse} {x y : Xch} (h : Twin o o' z z' x y) {t s p : Nat} (ht : t < 20) (h0 : t ≠ 0) : Twin o o' z z' (ordersX x t s p).1 (ordersX y t s p).1 := by
  have a := orders_ok h.okx (t := t) (side := s) (price := p) ht
  have b := orders_ok h.oky (t := t) (side := s) (price := p) ht
  obtain ⟨pre, post, ex, ey, n1, n2⟩ := h.ords
  have lv : liveAt x.ords t = liveAt y.ords t := by rw [ex, ey, any_mid h.own1 h0, any_mid h.own2 h0]
  have px := place_for h.okx ht
  have py := place_for h.oky ht
  unfold ordersX at a b ⊢
  dsimp only at a b ⊢
  rw [h.ps t h0, lv] at a ⊢
  by_cases h1 : 1 < s
  · simp only [if_pos h1]; exact h
  · simp only [if_neg h1] at a b ⊢
    by_cases h2 : p < 1 ∨ 1000 ≤ p
    · simp only [if_pos h2]; exact h
    · simp only [if_neg h2] at a b ⊢
      by_cases h3 : liveAt y.ords t = true
      · simp only [if_pos h3]; exact h
      · simp only [if_neg h3] at a b ⊢
        have h3' : liveAt y.ords t = false := by simpa using h3
        have px' := px (lv.trans h3')
        have py' := py h3'
        have cx := h.cap.1
        have cy := h.cap.2
        simp only [if_neg (show ¬ x.cap ≤ (x.ords.length : Int) by omega), if_neg (show ¬ y.cap ≤ (y.ords.length : Int) by omega)] at a b ⊢
        by_cases h5 : (s = 0 ∧ (y.ps t).cash < p) ∨ (s = 1 ∧ (y.ps t).units < 1)
        · simp only [if_pos h5]; exact h
        · simp only [if_neg h5] at a b ⊢
          refine ⟨ps0_upd h.ps0 h0 _, a.1, b.1, h.time, h.fin, h.cap, twin_ps _ h.ps, a.2.2.1.trans (h.cash.trans b.2.2.1.symm), a.2.2.2.trans (h.units.trans b.2.2.2.symm), ?_, h.own1, h.own2⟩
          refine ⟨pre, post ++ [⟨t, s, p⟩], ?_, ?_, n1, fun q hq => ?_⟩
          · show x.ords ++ _ = _
            rw [ex, List.append_assoc]
          · show y.ords ++ _ = _
            rw [ey, List.append_assoc]
          · rcases List.mem_append.1 hq with hq | hq
            · exact n2 q hq
            · rw [List.mem_singleton] at hq
              subst hq
              exact h0

theorem twin_cancel {o o' : Option Ord} {z z' : Purse} {x y : Xch} (h : Twin o o' z z' x y) {t : Nat} (ht : t < 20) (h0 : t ≠ 0) : Twin o o' z z' (cancelX x t).1 (cancelX y t).1 := by
  have a := cancel_ok h.okx (t := t) ht
  have b := cancel_ok h.oky (t := t) ht
  obtain ⟨pre, post, ex, ey, n1, n2⟩ := h.ords
  have fe : x.ords.find? (fun o => o.who == t) = y.ords.find? (fun o => o.who == t) := by rw [ex, ey, find_mid h.own1 h0, find_mid h.own2 h0]
  unfold cancelX at a b ⊢
  rw [fe] at a ⊢
  cases hf : y.ords.find? (fun o => o.who == t) with
  | none => exact h
  | some q =>
    rw [hf] at a b
    dsimp only at a b ⊢
    rw [h.ps t h0] at a ⊢
    refine ⟨ps0_upd h.ps0 h0 _, a.1, b.1, h.time, h.fin, h.cap, twin_ps _ h.ps, a.2.2.1.trans (h.cash.trans b.2.2.1.symm), a.2.2.2.trans (h.units.trans b.2.2.2.symm), ?_, h.own1, h.own2⟩
    refine ⟨without pre t, without post t, ?_, ?_, fun q hq => n1 q (List.mem_filter.1 (show q ∈ pre.filter _ from hq)).1, fun q hq => n2 q (List.mem_filter.1 (show q ∈ post.filter _ from hq)).1⟩
    · show without x.ords t = _
      rw [ex, without_mid h.own1 h0]
    · show without y.ords t = _
      rw [ey, without_mid h.own2 h0]

/-- a request of another trader. -/
theorem twin_answer {o o' : Option Ord} {z z' : Purse} {x y : Xch} (h : Twin o o' z z' x y) (r : List UInt8) (hr : (r.getD 1 0).toNat ≠ 0) : Twin o o' z z' (answerX x r).1 (answerX y r).1 := by
  unfold answerX
  dsimp only
  by_cases h1 : longOf (r.getD 0 0).toNat = 0 ∨ r.length ≠ longOf (r.getD 0 0).toNat
  · rw [if_pos h1, if_pos h1]; exact h
  · rw [if_neg h1, if_neg h1]
    by_cases hl1 : longOf (r.getD 0 0).toNat = 1
    · rw [if_pos hl1]
      have hk : (r.getD 0 0).toNat ≠ 5 ∧ (r.getD 0 0).toNat ≠ 6 := by
        constructor
        · intro e; rw [e] at hl1; exact absurd hl1 (by decide)
        · intro e; rw [e] at hl1; exact absurd hl1 (by decide)
      rw [if_neg (by decide), if_neg (by omega), if_neg hk.1, if_neg hk.2, if_neg (by decide), if_neg (by omega), if_neg hk.1, if_neg hk.2]
      exact h
    · rw [if_neg hl1]
      by_cases h2 : 20 ≤ (r.getD 1 0).toNat
      · rw [if_pos h2, if_pos h2]; exact h
      · rw [if_neg h2, if_neg h2]
        by_cases h3 : longOf (r.getD 0 0).toNat = 10
        · rw [if_pos h3, if_pos h3]; exact twin_moves h (long10 h3) (by omega) hr
        · rw [if_neg h3, if_neg h3]
          by_cases h4 : (r.getD 0 0).toNat = 5
          · rw [if_pos h4, if_pos h4]; exact twin_orders h (by omega) hr
          · rw [if_neg h4, if_neg h4]
            by_cases h5 : (r.getD 0 0).toNat = 6
            · rw [if_pos h5, if_pos h5]; exact twin_cancel h (by omega) hr
            · rw [if_neg h5, if_neg h5]; exact h

theorem written_twin {o o' : Option Ord} {z z' : Purse} {x y : Xch} (h : Twin o o' z z' x y) (r r' s s' : List UInt8) : Twin o o' z z' (written x r s) (written y r' s') := by
  unfold written
  split
  · split
    · exact h.jr _ _
    · exact h.jr _ y.jr
  · split
    · exact h.jr x.jr _
    · exact h

theorem Twin.still {o o' : Option Ord} {z z' : Purse} {x y : Xch} (h : Twin o o' z z' x y) : Still x 0 ∧ Still y 0 := by
  have h1 := h.time
  have h2 := h.fin
  refine ⟨⟨by omega, ?_⟩, ⟨by omega, ?_⟩⟩
  · rw [h1.1]; decide
  · rw [h1.2]; decide

theorem twin_do {o o' : Option Ord} {z z' : Purse} {x y : Xch} (h : Twin o o' z z' x y) (r : List UInt8) (hr : (r.getD 1 0).toNat ≠ 0) : Twin o o' z z' (doX x 0 r).1 (doX y 0 r).1 := by
  rw [h.still.1.do_, h.still.2.do_]
  exact written_twin (twin_answer h r hr) r r _ _
end Ex

theorem req_who {K W N : Int} (h : 0 < pickN W 20) : ((reqOf K W N).getD 1 0).toNat ≠ 0 := by
  have hl := pickN_lt W 20 (by decide)
  have hb : bytesOf (pickN W 20) 1 = [UInt8.ofNat (pickN W 20)] := by
    show [UInt8.ofNat (pickN W 20 / 256 ^ 0)] = _
    rw [Nat.pow_zero, Nat.div_one]
  have key : ∀ (k : UInt8) (rest : List UInt8), ((k :: ([UInt8.ofNat (pickN W 20)] ++ rest)).getD 1 0).toNat ≠ 0 := fun k rest => by
    show (UInt8.ofNat (pickN W 20)).toNat ≠ 0
    rw [UInt8.toNat_ofNat']
    omega
  unfold reqOf
  rw [hb]
  split
  · exact key _ _
  · split
    · exact key _ _
    · split
      · exact key _ _
      · split
        · exact key _ _
        · split
          · rw [List.append_assoc]; exact key _ _
          · split
            · exact key _ []
            · exact key _ []

theorem twin_oth {o o' : Option Ex.Ord} {z z' : Ex.Purse} (l : List (Int × Int × Int)) {x y : Ex.Xch} (h : Ex.Twin o o' z z' x y) : ∀ n, Ex.Twin o o' z z' (othTo x 0 l n) (othTo y 0 l n)
  | 0 => h
  | n + 1 => by
    have ih := twin_oth l h n
    rw [othTo, othTo]
    split
    · rename_i hc
      exact Ex.twin_do ih _ (req_who hc.1)
    · exact ih

def z0 : Ex.Purse := ⟨1000, 0, 5, 0⟩
theorem twin_fund : Ex.Twin none none z0 z0 fund0 fund0 := by
  have h := fund0_ok.1
  have e1 : fund0.time = 0 := by decide +kernel
  have e2 : fund0.fin = 100 := by decide +kernel
  have e3 : fund0.cap = 20 := by decide +kernel
  have e4 : fund0.ords = [] := by
    apply List.length_eq_zero_iff.1
    decide +kernel
  have e5 : fund0.ps 0 = z0 := by kernel_rfl
  exact ⟨⟨e5, e5⟩, h, h, ⟨e1, e1⟩, ⟨e2, e2⟩, ⟨e3, e3⟩, fun _ _ => rfl, rfl, rfl, ⟨[], [], by rw [e4]; rfl, by rw [e4]; rfl, by simp, by simp⟩, by simp, by simp⟩

theorem askO_answer {x : Ex.Xch} (side price : Nat) (hs : side < 256) (hp : price < 65536) : Ex.answerX x (askO side price) = Ex.ordersX x 0 side price := by
  have b1 : bytesOf side 1 = [UInt8.ofNat side] := by
    show [UInt8.ofNat (side / 256 ^ 0)] = _
    rw [Nat.pow_zero, Nat.div_one]
  have lp := bytesOf_length price 2
  unfold askO
  rw [b1]
  unfold Ex.answerX
  dsimp only
  have g0 : ((5 :: 0 :: ([UInt8.ofNat side] ++ bytesOf price 2)).getD 0 0) = (5 : UInt8) := rfl
  have g1 : ((5 :: 0 :: ([UInt8.ofNat side] ++ bytesOf price 2)).getD 1 0) = (0 : UInt8) := rfl
  have g2 : ((5 :: 0 :: ([UInt8.ofNat side] ++ bytesOf price 2)).getD 2 0) = UInt8.ofNat side := rfl
  have gl : (5 :: 0 :: ([UInt8.ofNat side] ++ bytesOf price 2) : List UInt8).length = 5 := by simp [lp]
  have gd : (5 :: 0 :: ([UInt8.ofNat side] ++ bytesOf price 2) : List UInt8).drop 3 = bytesOf price 2 := rfl
  rw [g0, g1, g2, gl, gd, num_bytes price 2 (by omega)]
  have l5 : Ex.longOf (UInt8.toNat 5) = 5 := by decide
  rw [l5, if_neg (show ¬ ((5 : Nat) = 0 ∨ (5 : Nat) ≠ 5) by decide), if_neg (show ¬ 20 ≤ (if (5 : Nat) = 1 then 0 else UInt8.toNat 0) by decide), if_neg (show ¬ (5 : Nat) = 10 by decide), if_pos (show UInt8.toNat 5 = 5 by decide)]
  have e : (UInt8.ofNat side).toNat = side := by rw [UInt8.toNat_ofNat']; omega
  rw [e]
  rfl

/-- the trader 0's order, that may be. -/
theorem order_yes {x : Ex.Xch} (h : Ex.Twin none none z0 z0 x x) {side p : Nat} (hs : side = 0 ∨ side = 1) (h1 : 1 ≤ p) (h2 : p < 1000) : ∃ z, Ex.ordersX x 0 side p = ({ x with ps := Ex.upd x.ps 0 z, ords := x.ords ++ [⟨0, side, p⟩] }, 0 :: bytesOf (x.ords.length + 1) 1) := by
  obtain ⟨pre, post, ex, _, n1, n2⟩ := h.ords
  have hl : Ex.liveAt x.ords 0 = false := Ex.live_of fun o ho => by
    rw [ex] at ho
    simp only [Ex.mid, Option.toList, List.append_nil, List.mem_append] at ho
    rcases ho with ho | ho
    · exact n1 o ho
    · exact n2 o ho
  have hp := Ex.place_for h.okx (t := 0) (by decide) hl
  have hc := h.cap.1
  unfold Ex.ordersX
  dsimp only
  rw [if_neg (by omega), if_neg (by omega), if_neg (by rw [hl]; decide), if_neg (by omega), h.ps0.1, if_neg (by
    show ¬ ((side = 0 ∧ (1000 : Int) < p) ∨ (side = 1 ∧ (5 : Int) < 1))
    omega)]
  exact ⟨_, rfl⟩
theorem order_no {x : Ex.Xch} {side p : Nat} (hs : side = 0 ∨ side = 1) (h : ¬ (1 ≤ p ∧ p < 1000)) : Ex.ordersX x 0 side p = (x, [5]) := by
  unfold Ex.ordersX
  dsimp only
  rw [if_neg (by omega), if_pos (by omega)]

theorem trade_skip (pay get : Int) (os : List Ex.Ord) (fl : List Bool) (s : Ex.St) (a : Nat) : ∀ n, (∀ j, a ≤ j → j < a + n → (os.getD j ⟨0, 0, 0⟩).who ≠ 0) →
    (Ex.tradeTo pay get os fl s (a + n)).traded 0 = (Ex.tradeTo pay get os fl s a).traded 0 ∧ (Ex.tradeTo pay get os fl s (a + n)).paid 0 = (Ex.tradeTo pay get os fl s a).paid 0
  | 0, _ => ⟨rfl, rfl⟩
  | n + 1, h => by
    obtain ⟨q1, q2⟩ := trade_skip pay get os fl s a n (fun j j1 j2 => h j j1 (by omega))
    have hne := h (a + n) (by omega) (by omega)
    rw [← q1, ← q2, show a + (n + 1) = (a + n) + 1 by omega, Ex.tradeTo]
    generalize Ex.tradeTo pay get os fl s (a + n) = u
    generalize os.getD (a + n) ⟨0, 0, 0⟩ = o at hne ⊢
    unfold Ex.tradeOne
    split
    · split
      · exact ⟨Ex.upd_ne _ _ (fun e => hne e.symm), Ex.upd_ne _ _ (fun e => hne e.symm)⟩
      · exact ⟨Ex.upd_ne _ _ (fun e => hne e.symm), Ex.upd_ne _ _ (fun e => hne e.symm)⟩
    · exact ⟨rfl, rfl⟩
end Go.Proofs.Ytjfifaooimgbaaa
