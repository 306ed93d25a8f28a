import Derived.Test.YtjfifaooimgbaaaLk
import Derived.Test.YtjfifaooimgbaaaNx
/- A journal read, without a program. -/
namespace Go.Proofs.Ytjfifaooimgbaaa
namespace Ex

def Comes (x : Xch) (s : List UInt8) : Prop := x.time ≤ (rtime s : Int) ∧ (rtime s : Int) ≤ 1125899906842624 ∧ (rlen s = 0 ↔ x.fin ≤ (rtime s : Int))
instance (x : Xch) (s : List UInt8) : Decidable (Comes x s) := inferInstanceAs (Decidable (_ ∧ _ ∧ _))

/-- the exchange behind the record at the front of s, if it is one that this exchange could have written. -/
def readJ (x : Xch) (s : List UInt8) : Option Xch :=
  if Whole s ∧ Comes x s ∧ (doX x (rtime s : Int) (rreq s)).1.jr = x.jr ++ s.take (10 + rlen s) then some (doX x (rtime s : Int) (rreq s)).1 else none

def openN : Nat → Xch → List UInt8 → Xch
  | 0, x, _ => x
  | n + 1, x, s => match readJ x s with
    | none => x
    | some y => openN n y (s.drop (10 + rlen s))
/-- THE EXCHANGE THAT COMES OF A JOURNAL. -/
def openJ (x : Xch) (s : List UInt8) : Xch := openN s.length x s

theorem readJ_some {x y : Xch} {s : List UInt8} (h : readJ x s = some y) : Whole s ∧ Comes x s ∧ (doX x (rtime s : Int) (rreq s)).1 = y ∧ y.jr = x.jr ++ s.take (10 + rlen s) := by
  unfold readJ at h
  split at h
  · rename_i hc
    injection h with h
    subst h
    exact ⟨hc.1, hc.2.1, rfl, hc.2.2⟩
  · cases h
theorem readJ_of {x : Xch} {s : List UInt8} (h1 : Whole s) (h2 : Comes x s) (h3 : (doX x (rtime s : Int) (rreq s)).1.jr = x.jr ++ s.take (10 + rlen s)) : readJ x s = some (doX x (rtime s : Int) (rreq s)).1 := if_pos ⟨h1, h2, h3⟩
theorem readJ_not {x : Xch} {s : List UInt8} (h : ¬ (Whole s ∧ Comes x s ∧ (doX x (rtime s : Int) (rreq s)).1.jr = x.jr ++ s.take (10 + rlen s))) : readJ x s = none := if_neg h

theorem openN_fuel : ∀ (n m : Nat) (x : Xch) (s : List UInt8), s.length ≤ n → s.length ≤ m → openN n x s = openN m x s
  | 0, m, x, s, h1, _ => by
    have e : s = [] := List.eq_nil_of_length_eq_zero (by omega)
    subst e
    cases m with
    | zero => rfl
    | succ m =>
      have : readJ x [] = none := readJ_not (fun h => by have := h.1.1; simp at this)
      rw [openN, openN, this]
  | n + 1, 0, x, s, _, h2 => by
    have e : s = [] := List.eq_nil_of_length_eq_zero (by omega)
    subst e
    have : readJ x [] = none := readJ_not (fun h => by have := h.1.1; simp at this)
    rw [openN, openN, this]
  | n + 1, m + 1, x, s, h1, h2 => by
    rw [openN, openN]
    cases h : readJ x s with
    | none => rfl
    | some y =>
      dsimp only
      have := (readJ_some h).1.1
      exact openN_fuel n m y _ (by rw [List.length_drop]; omega) (by rw [List.length_drop]; omega)
theorem openJ_none {x : Xch} {s : List UInt8} (h : readJ x s = none) : openJ x s = x := by
  unfold openJ
  cases hn : s.length with
  | zero => rfl
  | succ n => rw [openN, h]
theorem openJ_some {x y : Xch} {s : List UInt8} (h : readJ x s = some y) : openJ x s = openJ y (s.drop (10 + rlen s)) := by
  have hl := (readJ_some h).1.1
  unfold openJ
  obtain ⟨n, hn⟩ : ∃ n, s.length = n + 1 := ⟨s.length - 1, by omega⟩
  rw [hn, openN, h]
  dsimp only
  exact openN_fuel _ _ _ _ (by rw [List.length_drop]; omega) (by rw [List.length_drop]; omega)
theorem openJ_nil (x : Xch) : openJ x [] = x := rfl

/-- what every request keeps, reading keeps. -/
theorem openJ_ind (P : Xch → Prop) (hs : ∀ (x : Xch) (t : Int) (r : List UInt8), P x → P (doX x t r).1) : ∀ (n : Nat) (x : Xch) (s : List UInt8), s.length ≤ n → P x → P (openJ x s)
  | 0, x, s, h, hx => by
    have e : s = [] := List.eq_nil_of_length_eq_zero (by omega)
    subst e
    exact hx
  | n + 1, x, s, h, hx => by
    cases hr : readJ x s with
    | none => rw [openJ_none hr]; exact hx
    | some y =>
      obtain ⟨a, b, c, d⟩ := readJ_some hr
      rw [openJ_some hr]
      exact openJ_ind P hs n y _ (by rw [List.length_drop]; omega) (by rw [← c]; exact hs _ _ _ hx)
theorem openJ_ok {x : Xch} (h : Ok x) (s : List UInt8) : Ok (openJ x s) := openJ_ind Ok (fun _ t r h => (do_ok h t r).1) s.length x s (Nat.le_refl _) h

/-! ### a record is told by its own bytes -/
theorem getD_of {a b : List UInt8} {i : Nat} (h : a[i]? = b[i]?) : a.getD i 0 = b.getD i 0 := by
  rw [List.getD_eq_getElem?_getD, List.getD_eq_getElem?_getD, h]
theorem take_of {a b : List UInt8} {n : Nat} (h : ∀ i, i < n → a[i]? = b[i]?) : a.take n = b.take n := by
  apply List.ext_getElem?
  intro i
  rw [List.getElem?_take, List.getElem?_take]
  split
  · exact h i ‹_›
  · rfl
theorem sub_of {a b : List UInt8} {d n : Nat} (h : ∀ i, i < d + n → a[i]? = b[i]?) : (a.drop d).take n = (b.drop d).take n := by
  apply List.ext_getElem?
  intro i
  rw [List.getElem?_take, List.getElem?_take]
  split
  · rw [List.getElem?_drop, List.getElem?_drop]; exact h _ (by omega)
  · rfl
theorem readJ_same {x y : Xch} {s s' : List UInt8} (hr : readJ x s = some y) (hl : 10 + rlen s ≤ s'.length) (h : ∀ i, i < 10 + rlen s → s'[i]? = s[i]?) : readJ x s' = some y ∧ rlen s' = rlen s := by
  obtain ⟨a, b, c, d⟩ := readJ_some hr
  have e1 : rlen s' = rlen s := by unfold rlen; rw [getD_of (h 0 (by omega))]
  have e2 : rtime s' = rtime s := by unfold rtime; rw [sub_of (fun i hi => h i (by omega))]
  have e3 : rreq s' = rreq s := by unfold rreq; rw [e1, sub_of (fun i hi => h i (by omega))]
  have e4 : s'.take (10 + rlen s) = s.take (10 + rlen s) := take_of h
  have w : Whole s' := ⟨by rw [e1]; exact hl, by rw [e1, getD_of (h _ (by omega))]; exact a.2⟩
  have g : Comes x s' := by unfold Comes; rw [e1, e2]; exact b
  have := readJ_of w g (by rw [e1, e2, e3, e4, c]; exact d)
  rw [e2, e3, c] at this
  exact ⟨this, e1⟩
theorem readJ_append {x y : Xch} {s : List UInt8} (hr : readJ x s = some y) (q : List UInt8) : readJ x (s ++ q) = some y ∧ rlen (s ++ q) = rlen s := by
  have hl := (readJ_some hr).1.1
  exact readJ_same hr (by rw [List.length_append]; omega) (fun i hi => List.getElem?_append_left (by omega))
theorem readJ_take {x y : Xch} {s : List UInt8} (hr : readJ x s = some y) {k : Nat} (hk : 10 + rlen s ≤ k) : readJ x (s.take k) = some y ∧ rlen (s.take k) = rlen s := by
  have hl := (readJ_some hr).1.1
  exact readJ_same hr (by rw [List.length_take]; omega) (fun i hi => by rw [List.getElem?_take, if_pos (by omega)])

/-- what was read is a beginning; and of that beginning, or of any more of it, the same exchange comes. -/
theorem openJ_cut : ∀ (n : Nat) (x : Xch) (s : List UInt8), s.length ≤ n → ∃ b, b ≤ s.length ∧ (openJ x s).jr = x.jr ++ s.take b ∧ ∀ m, b ≤ m → openJ x (s.take m) = openJ x s
  | 0, x, s, h => by
    have e : s = [] := List.eq_nil_of_length_eq_zero (by omega)
    subst e
    exact ⟨0, Nat.le_refl _, by simp [openJ_nil], fun m _ => by rw [List.take_nil]⟩
  | n + 1, x, s, h => by
    cases hr : readJ x s with
    | none =>
      refine ⟨0, Nat.zero_le _, by rw [openJ_none hr]; simp, fun m _ => ?_⟩
      rw [openJ_none hr]
      cases hm : readJ x (s.take m) with
      | none => exact openJ_none hm
      | some y =>
        have := (readJ_append hm (s.drop m)).1
        rw [List.take_append_drop, hr] at this
        cases this
    | some y =>
      obtain ⟨a, b, c, d⟩ := readJ_some hr
      have hl := a.1
      obtain ⟨k, k1, k2, k3⟩ := openJ_cut n y (s.drop (10 + rlen s)) (by rw [List.length_drop]; omega)
      rw [List.length_drop] at k1
      refine ⟨10 + rlen s + k, by omega, ?_, fun m hm => ?_⟩
      · rw [openJ_some hr, k2, d, List.append_assoc]
        exact congrArg (x.jr ++ ·) List.take_add.symm
      · obtain ⟨q1, q2⟩ := readJ_take hr (k := m) (by omega)
        rw [openJ_some hr, openJ_some q1, q2, List.drop_take]
        exact k3 _ (by omega)

/-- what is read whole, and then more. -/
theorem openJ_more : ∀ (n : Nat) (x : Xch) (s q : List UInt8), s.length ≤ n → (openJ x s).jr = x.jr ++ s → openJ x (s ++ q) = openJ (openJ x s) q
  | n, x, s, q, h, hj => by
    cases hr : readJ x s with
    | none =>
      rw [openJ_none hr] at hj ⊢
      have hl := congrArg List.length hj
      rw [List.length_append] at hl
      have e : s = [] := List.eq_nil_of_length_eq_zero (by omega)
      subst e
      rfl
    | some y =>
      obtain ⟨a, b, c, d⟩ := readJ_some hr
      have hl := a.1
      match n with
      | 0 => omega
      | n + 1 =>
        obtain ⟨q1, q2⟩ := readJ_append hr q
        have ih := openJ_more n y (s.drop (10 + rlen s)) q (by rw [List.length_drop]; omega) (by
          rw [openJ_some hr] at hj
          rw [hj, d, List.append_assoc, List.take_append_drop])
        rw [openJ_some hr, openJ_some q1, q2, List.drop_append_of_le_length hl, ih]

/-! ### what a record does -/
theorem moves_at (x : Xch) (t : Int) (k w n : Nat) : movesX { x with time := t } k w n = ({ (movesX x k w n).1 with time := t }, (movesX x k w n).2) := by
  have e1 : allCash { x with time := t } = allCash x := rfl
  have e2 : allUnits { x with time := t } = allUnits x := rfl
  unfold movesX
  dsimp only
  rw [e1, e2]
  repeat' split
  all_goals rfl
theorem orders_at (x : Xch) (t : Int) (w sd p : Nat) : ordersX { x with time := t } w sd p = ({ (ordersX x w sd p).1 with time := t }, (ordersX x w sd p).2) := by
  unfold ordersX
  dsimp only
  by_cases h1 : 1 < sd
  · rw [if_pos h1, if_pos h1]
  · rw [if_neg h1, if_neg h1]
    by_cases h2 : p < 1 ∨ 1000 ≤ p
    · rw [if_pos h2, if_pos h2]
    · rw [if_neg h2, if_neg h2]
      by_cases h3 : liveAt x.ords w = true
      · rw [if_pos h3, if_pos h3]
      · rw [if_neg h3, if_neg h3]
        by_cases h4 : x.cap ≤ (x.ords.length : Int)
        · rw [if_pos h4, if_pos h4]
        · rw [if_neg h4, if_neg h4]
          by_cases h5 : (sd = 0 ∧ (x.ps w).cash < (p : Int)) ∨ (sd = 1 ∧ (x.ps w).units < 1)
          · rw [if_pos h5, if_pos h5]
          · rw [if_neg h5, if_neg h5]
theorem cancel_at (x : Xch) (t : Int) (w : Nat) : cancelX { x with time := t } w = ({ (cancelX x w).1 with time := t }, (cancelX x w).2) := by
  unfold cancelX
  dsimp only
  cases x.ords.find? (fun o => o.who == w) <;> rfl
theorem answer_at (x : Xch) (t : Int) (r : List UInt8) : answerX { x with time := t } r = ({ (answerX x r).1 with time := t }, (answerX x r).2) := by
  unfold answerX
  dsimp only
  generalize (if longOf (r.getD 0 0).toNat = 1 then 0 else (r.getD 1 0).toNat) = w
  by_cases h1 : longOf (r.getD 0 0).toNat = 0 ∨ r.length ≠ longOf (r.getD 0 0).toNat
  · rw [if_pos h1, if_pos h1]
  · rw [if_neg h1, if_neg h1]
    by_cases h2 : 20 ≤ w
    · rw [if_pos h2, if_pos h2]
    · rw [if_neg h2, if_neg h2]
      by_cases h3 : longOf (r.getD 0 0).toNat = 10
      · rw [if_pos h3, if_pos h3]; exact moves_at _ _ _ _ _
      · rw [if_neg h3, if_neg h3]
        by_cases h4 : (r.getD 0 0).toNat = 5
        · rw [if_pos h4, if_pos h4]; exact orders_at _ _ _ _ _
        · rw [if_neg h4, if_neg h4]
          by_cases h5 : (r.getD 0 0).toNat = 6
          · rw [if_pos h5, if_pos h5]; exact cancel_at _ _ _
          · rw [if_neg h5, if_neg h5]; rfl

/-- P6: what is refused changes nothing. -/
theorem moves_no (x : Xch) (k w n : Nat) (h : (movesX x k w n).2.getD 0 0 ≠ 0) : (movesX x k w n).1 = x := by
  revert h
  unfold movesX
  dsimp only
  split
  · exact fun _ => rfl
  · split
    · exact fun _ => rfl
    · split
      · exact fun _ => rfl
      · exact fun h => absurd rfl h
theorem orders_no (x : Xch) (w sd p : Nat) (h : (ordersX x w sd p).2.getD 0 0 ≠ 0) : (ordersX x w sd p).1 = x := by
  revert h
  unfold ordersX
  dsimp only
  split
  · exact fun _ => rfl
  · split
    · exact fun _ => rfl
    · split
      · exact fun _ => rfl
      · split
        · exact fun _ => rfl
        · split
          · exact fun _ => rfl
          · exact fun h => absurd rfl h
theorem cancel_no (x : Xch) (w : Nat) (h : (cancelX x w).2.getD 0 0 ≠ 0) : (cancelX x w).1 = x := by
  revert h
  unfold cancelX
  split
  · exact fun _ => rfl
  · exact fun h => absurd rfl h
theorem answer_no (x : Xch) (r : List UInt8) (h : (answerX x r).2.getD 0 0 ≠ 0 ∨ 6 < (r.getD 0 0).toNat) : (answerX x r).1 = x := by
  revert h
  unfold answerX
  dsimp only
  generalize (if longOf (r.getD 0 0).toNat = 1 then 0 else (r.getD 1 0).toNat) = w
  split
  · exact fun _ => rfl
  · split
    · exact fun _ => rfl
    · split
      · rename_i h3
        have := long10 h3
        exact fun h => moves_no _ _ _ _ (h.resolve_right (by omega))
      · split
        · exact fun h => orders_no _ _ _ _ (h.resolve_right (by omega))
        · split
          · exact fun h => cancel_no _ _ (h.resolve_right (by omega))
          · exact fun _ => rfl
theorem answer_nil (x : Xch) : answerX x [] = (x, [1]) := by
  unfold answerX
  exact if_pos (Or.inl rfl)
theorem answer_len10 (x : Xch) (r : List UInt8) (h : (answerX x r).2.getD 0 0 = 0) : r.length ≤ 10 := by
  revert h
  unfold answerX
  dsimp only
  split
  · exact fun h => absurd (show (1 : UInt8) = 0 from h) (by decide)
  · rename_i h1
    have : longOf (r.getD 0 0).toNat ≤ 10 := by
      unfold longOf
      repeat' split
      all_goals omega
    intro _
    omega

theorem timed_at {x : Xch} {t : Int} (h1 : x.time ≤ t) (h2 : t ≤ 1125899906842624) : timed x t = { x with time := t } := by
  unfold timed
  dsimp only
  rw [if_neg (show ¬ (1125899906842624 : Int) < t by omega)]
  by_cases h : x.time < t
  · rw [if_pos h]
  · rw [if_neg h, show x.time = t by omega]

/-- bytes that are a number's. -/
theorem bytes_num (l : List UInt8) : bytesOf (numOf l) l.length = l := by
  have key : ∀ (l : List UInt8) (a : Nat), bytesOf (numFrom a l) l.length = l := by
    intro l
    induction l with
    | nil => intro a; rfl
    | cons b r ih =>
      intro a
      have hs : numFrom a (b :: r) = numFrom (256 * a + b.toNat) r := rfl
      rw [List.length_cons, bytesOf, hs, ih]
      congr 1
      have hd : ∀ (l : List UInt8) (n : Nat), numFrom n l / 256 ^ l.length = n := by
        intro l
        induction l with
        | nil => intro n; simp [numFrom]
        | cons c q ih2 =>
          intro n
          rw [numFrom, List.length_cons, Nat.pow_succ, ← Nat.div_div_eq_div_mul, ih2]
          have := c.toNat_lt
          omega
      rw [hd r]
      apply UInt8.toNat_inj.1
      rw [UInt8.toNat_ofNat']
      have := b.toNat_lt
      omega
  exact key l 0
/-- a whole record is what the exchange would write. -/
theorem take_record {s : List UInt8} (h : Whole s) : s.take (10 + rlen s) = record (rtime s : Int) (rreq s) := by
  obtain ⟨h1, h2⟩ := h
  have l8 : ((s.drop 1).take 8).length = 8 := by rw [List.length_take, List.length_drop]; omega
  have lr : (rreq s).length = rlen s := by unfold rreq; rw [List.length_take, List.length_drop]; omega
  have b1 : bytesOf (rlen s) 1 = s.take 1 := by
    obtain ⟨b, q, rfl⟩ : ∃ b q, s = b :: q := by
      cases s with
      | nil => simp at h1
      | cons b q => exact ⟨b, q, rfl⟩
    show [UInt8.ofNat (b.toNat / 256 ^ 0)] = [b]
    rw [Nat.pow_zero, Nat.div_one]
    congr 1
    apply UInt8.toNat_inj.1
    rw [UInt8.toNat_ofNat']
    have := b.toNat_lt
    omega
  have b8 : bytesOf (rtime s) 8 = (s.drop 1).take 8 := by
    have := bytes_num ((s.drop 1).take 8)
    rw [l8] at this
    exact this
  have e : ((rtime s : Nat) : Int).toNat = rtime s := Int.toNat_natCast _
  unfold record
  rw [lr, e, b1, b8]
  have s1 : s.take (10 + rlen s) = s.take 1 ++ (s.drop 1).take 8 ++ (s.drop 9).take (rlen s) ++ (s.drop (9 + rlen s)).take 1 := by
    have a1 : s.take (10 + rlen s) = s.take (9 + rlen s) ++ (s.drop (9 + rlen s)).take 1 := by rw [← List.take_add]; congr 1; omega
    have a2 : s.take (9 + rlen s) = s.take 9 ++ (s.drop 9).take (rlen s) := by rw [← List.take_add]
    have a3 : s.take 9 = s.take 1 ++ (s.drop 1).take 8 := by rw [← List.take_add]
    rw [a1, a2, a3]
  rw [s1]
  congr 1
  have hlt : 9 + rlen s < s.length := by omega
  rw [List.getD_eq_getElem?_getD, List.getElem?_eq_getElem hlt] at h2
  rw [List.drop_eq_getElem_cons hlt]
  show [s[9 + rlen s]] = [165]
  rw [show s[9 + rlen s] = 165 from h2]
theorem do_at {x : Xch} {t : Int} (h1 : x.time ≤ t) (h2 : t ≤ 1125899906842624) (h3 : t < x.fin) (r : List UInt8) : doX x t r = (written { (answerX x r).1 with time := t } r (answerX x r).2, (answerX x r).2) := by
  have e : cleared (timed x t) = { x with time := t } := by
    rw [timed_at h1 h2]
    unfold cleared
    exact if_neg (by show ¬ x.fin ≤ t; omega)
  unfold doX
  rw [e, answer_at]
/-- a clearing's record. -/
theorem readJ_clear {x : Xch} {s : List UInt8} (h1 : Whole s) (h2 : x.time ≤ (rtime s : Int)) (h3 : (rtime s : Int) ≤ 1125899906842624) (h4 : rlen s = 0) (h5 : x.fin ≤ (rtime s : Int)) :
    readJ x s = some { clearX { x with time := (rtime s : Int) } with jr := x.jr ++ record (rtime s : Int) [] } := by
  have er : rreq s = [] := by unfold rreq; rw [h4, List.take_zero]
  have ed : (doX x (rtime s : Int) (rreq s)).1 = { clearX { x with time := (rtime s : Int) } with jr := x.jr ++ record (rtime s : Int) [] } := by
    have e : cleared (timed x (rtime s : Int)) = { clearX { x with time := (rtime s : Int) } with jr := x.jr ++ record (rtime s : Int) [] } := by
      rw [timed_at h2 h3]
      unfold cleared
      exact if_pos h5
    unfold doX
    rw [e, er, answer_nil]
    rfl
  have := readJ_of h1 ⟨h2, h3, fun _ => h5, fun _ => h4⟩ (by rw [ed, take_record h1, er])
  rw [ed] at this
  exact this
/-- a request's record that is Done, of the kinds that write. -/
theorem readJ_done {x : Xch} {s : List UInt8} (h1 : Whole s) (h2 : x.time ≤ (rtime s : Int)) (h3 : (rtime s : Int) ≤ 1125899906842624) (h4 : rlen s ≠ 0) (h5 : (rtime s : Int) < x.fin) (h6 : (answerX x (rreq s)).2.getD 0 0 = 0) (h7 : ((rreq s).getD 0 0).toNat ≤ 6) :
    readJ x s = some { (answerX x (rreq s)).1 with time := (rtime s : Int), jr := x.jr ++ record (rtime s : Int) (rreq s) } := by
  have ed : (doX x (rtime s : Int) (rreq s)).1 = { (answerX x (rreq s)).1 with time := (rtime s : Int), jr := x.jr ++ record (rtime s : Int) (rreq s) } := by
    rw [do_at h2 h3 h5]
    unfold written
    dsimp only
    rw [if_pos ⟨h6, h7⟩, (answer_time x (rreq s)).2.2]
  have := readJ_of h1 ⟨h2, h3, fun h => absurd h h4, fun h => by omega⟩ (by rw [ed, take_record h1])
  rw [ed] at this
  exact this
/-- one that is not. -/
theorem readJ_undone {x : Xch} {s : List UInt8} (h1 : Whole s) (h2 : x.time ≤ (rtime s : Int)) (h3 : (rtime s : Int) ≤ 1125899906842624) (h5 : (rtime s : Int) < x.fin) (h6 : (answerX x (rreq s)).2.getD 0 0 ≠ 0 ∨ 6 < ((rreq s).getD 0 0).toNat) : readJ x s = none := by
  refine readJ_not (fun h => ?_)
  have h := h.2.2
  rw [do_at h2 h3 h5] at h
  unfold written at h
  dsimp only at h
  rw [if_neg (fun q => h6.elim (fun a => a q.1) (fun a => absurd q.2 (by omega)))] at h
  have h' : (answerX x (rreq s)).1.jr = x.jr ++ s.take (10 + rlen s) := h
  rw [(answer_time x (rreq s)).2.2] at h'
  have := congrArg List.length h'
  rw [List.length_append, List.length_take] at this
  have := h1.1
  omega
/-! ### P12 -/
/-- of its journal an exchange comes as it is, but for the time. -/
structure Lasts (x0 x : Xch) : Prop where
  jr : (openJ x0 x.jr).jr = x.jr
  same : { openJ x0 x.jr with time := x.time } = x
  time : (openJ x0 x.jr).time ≤ x.time
  max : x.time ≤ 1125899906842624
  fin : x.time < x.fin
theorem Lasts.begin {x0 : Xch} (h : x0.jr = []) (ht : x0.time < x0.fin) (hm : x0.time ≤ 1125899906842624) : Lasts x0 x0 := by
  have e : openJ x0 x0.jr = x0 := by rw [h]; rfl
  exact ⟨by rw [e], by rw [e], by rw [e]; exact Int.le_refl _, hm, ht⟩

theorem lasts_full {x0 z : Xch} (e : openJ x0 z.jr = z) (h1 : z.time ≤ 1125899906842624) (h2 : z.time < z.fin) : Lasts x0 z :=
  ⟨by rw [e], by rw [e], by rw [e]; exact Int.le_refl _, h1, h2⟩

theorem record_whole (t : Int) (r : List UInt8) (h0 : 0 ≤ t) (h1 : t ≤ 1125899906842624) (hr : r.length ≤ 255) : Whole (record t r) ∧ rlen (record t r) = r.length ∧ ((rtime (record t r) : Nat) : Int) = t ∧ rreq (record t r) = r := by
  have e0 : record t r = UInt8.ofNat r.length :: (bytesOf t.toNat 8 ++ r ++ [165]) := by
    unfold record
    have : bytesOf r.length 1 = [UInt8.ofNat r.length] := by
      show [UInt8.ofNat (r.length / 256 ^ 0)] = _
      rw [Nat.pow_zero, Nat.div_one]
    rw [this]
    simp
  have er : rlen (record t r) = r.length := by
    unfold rlen
    rw [e0]
    show (UInt8.ofNat r.length).toNat = _
    rw [UInt8.toNat_ofNat']
    omega
  have l8 : (bytesOf t.toNat 8).length = 8 := bytesOf_length _ _
  have et : rtime (record t r) = t.toNat := by
    unfold rtime
    rw [e0, List.drop_succ_cons, List.drop_zero, List.append_assoc, List.take_left' l8, num_bytes _ _ (by omega)]
  refine ⟨⟨by rw [er, record_length]; omega, ?_⟩, er, by rw [et]; omega, ?_⟩
  · rw [er, e0, show 9 + r.length = (8 + r.length) + 1 by omega, List.getD_cons_succ, List.getD_eq_getElem?_getD, List.getElem?_append_right (by rw [List.length_append, l8]; omega), List.length_append, l8, Nat.sub_self]
    rfl
  · unfold rreq
    rw [er, e0, show (9 : Nat) = 8 + 1 from rfl, List.drop_succ_cons, List.append_assoc, List.drop_left' l8, List.take_left' rfl]

/-- one record more. -/
theorem lasts_rec {x0 x y : Xch} (L : Lasts x0 x) (h0 : x0.jr = []) {t : Int} {r : List UInt8} (h1 : 0 ≤ t) (h2 : t ≤ 1125899906842624) (hr : r.length ≤ 255) (hy : readJ (openJ x0 x.jr) (record t r) = some y) : openJ x0 (x.jr ++ record t r) = y := by
  have hj : (openJ x0 x.jr).jr = x0.jr ++ x.jr := by rw [h0, L.jr]; rfl
  obtain ⟨w1, w2, _, _⟩ := record_whole t r h1 h2 hr
  rw [openJ_more _ x0 x.jr (record t r) (Nat.le_refl _) hj, openJ_some hy, List.drop_of_length_le (by rw [w2, record_length]; omega), openJ_nil]
theorem lasts_cleared {x0 x : Xch} (L : Lasts x0 x) (ok : Ok x) (h0 : x0.jr = []) (now : Int) : Lasts x0 (cleared (timed x now)) := by
  obtain ⟨j1, j2, j3, j4, j5⟩ := L
  obtain ⟨t, ht⟩ : ∃ t, (timed x now).time = t := ⟨_, rfl⟩
  have et : timed x now = { x with time := t } := by rw [← ht]; rfl
  have t1 : x.time ≤ t ∧ t ≤ 1125899906842624 := by
    have := (timed_ok ok now).time
    rw [ht] at this
    refine ⟨?_, this.2⟩
    rw [← ht]
    show x.time ≤ (if x.time < _ then _ else x.time)
    split <;> omega
  have t0 := ok.time
  have hp := ok.per
  obtain ⟨y, hy⟩ : ∃ y, openJ x0 x.jr = y := ⟨_, rfl⟩
  have ey : ∀ u : Int, { y with time := u } = { x with time := u } := fun u => by
    rw [← j2, hy]
  have yfin : y.fin = x.fin := by have h := congrArg Xch.fin (ey 0); exact h
  have yjr : y.jr = x.jr := by have h := congrArg Xch.jr (ey 0); exact h
  rw [et]
  unfold cleared
  by_cases hf : x.fin ≤ t
  · rw [if_pos (show ({ x with time := t } : Xch).fin ≤ ({ x with time := t } : Xch).time from hf)]
    have w := record_whole t [] (by omega) t1.2 (by decide)
    have hr := readJ_clear (x := y) (s := record t []) w.1 (by rw [w.2.2.1, ← hy]; omega) (by rw [w.2.2.1]; omega) w.2.1 (by rw [w.2.2.1, yfin]; exact hf)
    rw [w.2.2.1, ey t, yjr] at hr
    have hr' := lasts_rec (t := t) (r := []) ⟨j1, j2, j3, j4, j5⟩ h0 (by omega) t1.2 (by decide) (by rw [hy]; exact hr)
    exact lasts_full (z := { clearX { x with time := t } with jr := x.jr ++ record t [] }) hr' t1.2 (by show t < t + x.period; omega)
  · rw [if_neg (show ¬ ({ x with time := t } : Xch).fin ≤ ({ x with time := t } : Xch).time from hf)]
    exact ⟨j1, by show { openJ x0 x.jr with time := t } = _; rw [hy, ey], by show (openJ x0 x.jr).time ≤ t; omega, t1.2, by show t < x.fin; omega⟩
theorem lasts_written {x0 x : Xch} (L : Lasts x0 x) (ok : Ok x) (h0 : x0.jr = []) (r : List UInt8) : Lasts x0 (written (answerX x r).1 r (answerX x r).2) := by
  obtain ⟨j1, j2, j3, j4, j5⟩ := L
  have t0 := ok.time
  have hat := answer_time x r
  obtain ⟨y, hy⟩ : ∃ y, openJ x0 x.jr = y := ⟨_, rfl⟩
  have ey : ∀ u : Int, { y with time := u } = { x with time := u } := fun u => by
    rw [← j2, hy]
  have yfin : y.fin = x.fin := by have h := congrArg Xch.fin (ey 0); exact h
  have yjr : y.jr = x.jr := by have h := congrArg Xch.jr (ey 0); exact h
  unfold written
  by_cases hc : (answerX x r).2.getD 0 0 = 0 ∧ (r.getD 0 0).toNat ≤ 6
  · rw [if_pos hc]
    have hl := answer_len10 x r hc.1
    have hne : r ≠ [] := fun e => by
      rw [e, answer_nil] at hc
      exact absurd (show (1 : UInt8) = 0 from hc.1) (by decide)
    have hl0 : r.length ≠ 0 := fun e => hne (List.eq_nil_of_length_eq_zero e)
    have ea : ∀ u : Int, ({ (answerX y r).1 with time := u }, (answerX y r).2) = ({ (answerX x r).1 with time := u }, (answerX x r).2) := fun u => by
      rw [← answer_at, ← answer_at, ey]
    have ea2 : (answerX y r).2 = (answerX x r).2 := by have h := congrArg Prod.snd (ea 0); exact h
    have w := record_whole x.time r (by omega) j4 (by omega)
    have hr := readJ_done (x := y) (s := record x.time r) w.1 (by rw [w.2.2.1, ← hy]; exact j3) (by rw [w.2.2.1]; exact j4) (by rw [w.2.1]; exact hl0) (by rw [w.2.2.1, yfin]; exact j5) (by rw [w.2.2.2, ea2]; exact hc.1) (by rw [w.2.2.2]; exact hc.2)
    rw [w.2.2.1, w.2.2.2, yjr] at hr
    have ez : ({ (answerX y r).1 with time := x.time, jr := x.jr ++ record x.time r } : Xch) = { (answerX x r).1 with jr := (answerX x r).1.jr ++ record (answerX x r).1.time r } := by
      have e1 : ({ (answerX y r).1 with time := x.time } : Xch) = { (answerX x r).1 with time := x.time } := by have h := congrArg Prod.fst (ea x.time); exact h
      have e2 : ({ (answerX x r).1 with time := x.time } : Xch) = (answerX x r).1 := by
        have := hat.1
        generalize (answerX x r).1 = z at this ⊢
        rw [← this]
      rw [hat.1, hat.2.2]
      have e3 : ({ ({ (answerX y r).1 with time := x.time } : Xch) with jr := x.jr ++ record x.time r } : Xch) = { (answerX x r).1 with jr := x.jr ++ record x.time r } := by rw [e1, e2]
      exact e3
    rw [ez] at hr
    have hr' := lasts_rec (t := x.time) (r := r) ⟨j1, j2, j3, j4, j5⟩ h0 (by omega) j4 (by omega) (by rw [hy]; exact hr)
    have e : openJ x0 ({ (answerX x r).1 with jr := (answerX x r).1.jr ++ record (answerX x r).1.time r } : Xch).jr = { (answerX x r).1 with jr := (answerX x r).1.jr ++ record (answerX x r).1.time r } := by
      show openJ x0 ((answerX x r).1.jr ++ record (answerX x r).1.time r) = _
      rw [hat.1, hat.2.2, hr', hat.1, hat.2.2]
    exact lasts_full e (by show (answerX x r).1.time ≤ _; rw [hat.1]; exact j4) (by show (answerX x r).1.time < (answerX x r).1.fin; rw [hat.1, hat.2.1]; exact j5)
  · rw [if_neg hc, answer_no x r (by
      by_cases q : (answerX x r).2.getD 0 0 = 0
      · exact Or.inr (by have : ¬ (r.getD 0 0).toNat ≤ 6 := fun h => hc ⟨q, h⟩; omega)
      · exact Or.inl q)]
    exact ⟨j1, j2, j3, j4, j5⟩
/-- P12: WHATEVER IS DONE, THE EXCHANGE COMES AGAIN AS IT WAS. -/
theorem Lasts.do_ {x0 x : Xch} (L : Lasts x0 x) (ok : Ok x) (h0 : x0.jr = []) (now : Int) (r : List UInt8) : Lasts x0 (doX x now r).1 :=
  lasts_written (lasts_cleared L ok h0 now) (cleared_ok (timed_ok ok now)).1 h0 r
end Ex
end Go.Proofs.Ytjfifaooimgbaaa
