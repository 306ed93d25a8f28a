import Derived.Test.YteeplklhbhaicaaDo
import Derived.Test.YteeplklhbhaicaaRd
/- Every request is answered as the exchange without a program answers it. -/
namespace Go.Proofs.Yteeplklhbhaicaa
open Go.Shelf Go.RowKit Go.Lib Go.Sort

theorem numFrom_lt : ∀ (l : List UInt8) (n : Nat), numFrom n l < (n + 1) * 256 ^ l.length
  | [], n => by simp [numFrom]
  | b :: r, n => by
    rw [numFrom, List.length_cons, Nat.pow_succ]
    have h1 := numFrom_lt r (256 * n + b.toNat)
    have h2 : b.toNat < 256 := UInt8.toNat_lt b
    have h3 : (256 * n + b.toNat + 1) * 256 ^ r.length ≤ (n + 1) * 256 * 256 ^ r.length := Nat.mul_le_mul_right _ (by omega)
    rw [Nat.mul_comm (256 ^ r.length) 256, ← Nat.mul_assoc]
    omega
theorem num_lt (l : List UInt8) : numOf l < 256 ^ l.length := by
  have := numFrom_lt l 0
  simpa [numOf] using this

section
variable {w : World} {m : Nat} {s : MkS} {x : Ex.Xch} {bx gx : Nat → Nat} (hK : Mkt w m s x) (ok : Ex.Ok x) (hB : Bxs w s.bd m bx gx) (hb : x.batch < 1152921504606846976) (hj : x.jr.length ≤ 17592186044416)
include hK
theorem ans_no (r : List UInt8) (c : UInt8) (hc : c ≠ 0) (k t a sd pr : Nat) (hR : Calls Try.prog 93 #[.string ⟨r.toArray⟩] w fun e w' => e = .returned (.tuple #[reqV k t a sd pr, .int .u8 (c.toNat : Nat)]) ∧ Below w.heap.size w w') : Calls Try.prog 74 #[.pointer (some ⟨m, 0, none⟩), .string ⟨r.toArray⟩] w (Ans m s w (Ex.written x r [c], [c])) := by
  refine (answer_no w m r k t a sd pr c.toNat (fun e => hc (UInt8.toNat_inj.1 e)) hR).mono ?_
  rintro e w' ⟨rfl, B⟩
  have e : Ex.written x r [c] = x := by
    unfold Ex.written
    rw [if_neg (fun h => hc h.1)]
  rw [e]
  exact ⟨s, .slice none 0 0, c, [], rfl, rfl, BRow.nil _, fun j hj => by simp [Value.ownBlock] at hj, hK.below B, (Step.refl m s w).below B⟩
include ok hB hj in
theorem ans_go (r : List UInt8) (k t a sd pr fn : Nat) (caps : Array Value) (R : Ex.Xch × List UInt8)
    (hR : Calls Try.prog 93 #[.string ⟨r.toArray⟩] w fun e w' => e = .returned (.tuple #[reqV k t a sd pr, .int .u8 0]) ∧ Below w.heap.size w w')
    (hF : deedF bx gx k = some (.func (.func fn) #[] caps)) (hk : 1 ≤ k ∧ k ≤ 10) (hr0 : (r.getD 0 0).toNat = k) (hrl : r.length ≤ 1000) (hRj : R.1.jr = x.jr) (hRt : R.1.time = x.time)
    (hCF : ∀ w, (callFunc fn (#[.agg #[.int .i64 (k : Int), .int .i64 (t : Int), .int .u64 (a : Int), .int .i64 (sd : Int), .int .i64 (pr : Int)]] ++ caps)).run Try.prog w = .ok (.enter fn (#[.agg #[.int .i64 (k : Int), .int .i64 (t : Int), .int .u64 (a : Int), .int .i64 (sd : Int), .int .i64 (pr : Int)]] ++ caps)) w)
    (hD : ∀ w0, Mkt w0 m s x → Bxs w0 s.bd m bx gx → Calls Try.prog fn (#[reqV k t a sd pr] ++ caps) w0 (Deed m s w0 R)) :
    Calls Try.prog 74 #[.pointer (some ⟨m, 0, none⟩), .string ⟨r.toArray⟩] w (Ans m s w (Ex.written R.1 r R.2, R.2)) :=
  answer_go w m s x r k t a sd pr fn caps R (deedF bx gx) hR hK hB.map hF hk hr0 hrl (by rw [hRj]; exact hj) (by rw [hRt]; exact ok.time) hCF (fun w0 b => hD w0 (hK.below b) (hB.below b))
end

theorem moves_keep (x : Ex.Xch) (k t n : Nat) : (Ex.movesX x k t n).1.jr = x.jr ∧ (Ex.movesX x k t n).1.time = x.time := by
  unfold Ex.movesX
  dsimp only
  split
  · exact ⟨rfl, rfl⟩
  · split
    · exact ⟨rfl, rfl⟩
    · split
      · exact ⟨rfl, rfl⟩
      · exact ⟨rfl, rfl⟩
theorem orders_keep (x : Ex.Xch) (t sd pr : Nat) : (Ex.ordersX x t sd pr).1.jr = x.jr ∧ (Ex.ordersX x t sd pr).1.time = x.time := by
  unfold Ex.ordersX
  dsimp only
  split
  · exact ⟨rfl, rfl⟩
  · split
    · exact ⟨rfl, rfl⟩
    · split
      · exact ⟨rfl, rfl⟩
      · split
        · exact ⟨rfl, rfl⟩
        · split
          · exact ⟨rfl, rfl⟩
          · exact ⟨rfl, rfl⟩
theorem cancel_keep (x : Ex.Xch) (t : Nat) : (Ex.cancelX x t).1.jr = x.jr ∧ (Ex.cancelX x t).1.time = x.time := by
  unfold Ex.cancelX
  split
  · exact ⟨rfl, rfl⟩
  · exact ⟨rfl, rfl⟩

/-- what cancelling is to do. -/
def CancelOk : Prop := ∀ (w : World) (m X t : Nat) (s : MkS) (x : Ex.Xch), BoxM w X m → Mkt w m s x → Ex.Ok x → t < 20 → Calls Try.prog 110 #[reqV 6 t 0 0 0, .pointer (some ⟨X, 0, none⟩)] w (Deed m s w (Ex.cancelX x t))

set_option maxRecDepth 100000 in
theorem answer_any (CO : CancelOk) {w : World} {m : Nat} {s : MkS} {x : Ex.Xch} {bx gx : Nat → Nat} (hK : Mkt w m s x) (ok : Ex.Ok x) (hB : Bxs w s.bd m bx gx) (hb : x.batch < 1152921504606846976) (hj : x.jr.length ≤ 17592186044416) (r : List UInt8) (hrl : r.length ≤ 1000) :
    Calls Try.prog 74 #[.pointer (some ⟨m, 0, none⟩), .string ⟨r.toArray⟩] w (Ans m s w (Ex.written (Ex.answerX x r).1 r (Ex.answerX x r).2, (Ex.answerX x r).2)) := by
  cases r with
  | nil => exact ans_no hK [] 1 (by decide) 0 0 0 0 0 (read_nil w)
  | cons k rest =>
    by_cases h1 : Ex.longOf k.toNat = 0 ∨ (k :: rest).length ≠ Ex.longOf k.toNat
    · have e : Ex.answerX x (k :: rest) = (x, [1]) := by
        unfold Ex.answerX
        exact if_pos h1
      rw [e]
      exact ans_no hK _ 1 (by decide) 0 0 0 0 0 (read_len k rest w (by
        rw [List.length_cons] at h1
        omega))
    · have hlen : rest.length + 1 = Ex.longOf k.toNat := by rw [List.length_cons] at h1; omega
      have hl0 : Ex.longOf k.toNat ≠ 0 := by omega
      have e0 : Ex.answerX x (k :: rest) = (if 20 ≤ (if Ex.longOf k.toNat = 1 then 0 else ((k :: rest).getD 1 0).toNat) then (x, [2]) else if Ex.longOf k.toNat = 10 then Ex.movesX x k.toNat (if Ex.longOf k.toNat = 1 then 0 else ((k :: rest).getD 1 0).toNat) (numOf ((k :: rest).drop 2)) else if k.toNat = 5 then Ex.ordersX x (if Ex.longOf k.toNat = 1 then 0 else ((k :: rest).getD 1 0).toNat) ((k :: rest).getD 2 0).toNat (numOf ((k :: rest).drop 3)) else if k.toNat = 6 then Ex.cancelX x (if Ex.longOf k.toNat = 1 then 0 else ((k :: rest).getD 1 0).toNat) else (x, Ex.tellsX x k.toNat (if Ex.longOf k.toNat = 1 then 0 else ((k :: rest).getD 1 0).toNat))) := by
        unfold Ex.answerX
        exact if_neg h1
      cases rest with
      | nil =>
        have hk : k = 8 ∨ k = 10 := by
          have h2 : Ex.longOf k.toNat = 1 := by simpa using hlen.symm
          unfold Ex.longOf at h2
          have h3 : k.toNat = 8 ∨ k.toNat = 10 := by
            split at h2
            · omega
            · split at h2
              · omega
              · split at h2
                · omega
                · split at h2 <;> omega
          rcases h3 with h | h
          · exact Or.inl (UInt8.toNat_inj.1 h)
          · exact Or.inr (UInt8.toNat_inj.1 h)
        rcases hk with rfl | rfl
        · have e : Ex.answerX x [8] = (x, Ex.tellsX x 8 0) := e0
          rw [e]
          exact ans_go hK ok hB hj [8] 8 0 0 0 0 114 _ (x, Ex.tellsX x 8 0) (read_one8 w) rfl (by decide) rfl hrl rfl rfl (fun w => by kernel_rfl) (fun w0 k0 b0 => deed_batch w0 m (bx 8) s x (b0.box 8 (by decide) (by decide)) k0 ok hb)
        · have e : Ex.answerX x [10] = (x, Ex.tellsX x 10 0) := e0
          rw [e]
          exact ans_go hK ok hB hj [10] 10 0 0 0 0 116 _ (x, Ex.tellsX x 10 0) (read_one10 w) rfl (by decide) rfl hrl rfl rfl (fun w => by kernel_rfl) (fun w0 k0 b0 => deed_clearing w0 m (bx 10) s x (b0.box 10 (by decide) (by decide)) k0 ok hb)
      | cons t rest =>
        have hcl : (k.toNat = 1 ∨ k.toNat = 2 ∨ k.toNat = 3 ∨ k.toNat = 4) ∧ Ex.longOf k.toNat = 10 ∨ k.toNat = 5 ∧ Ex.longOf k.toNat = 5 ∨ (k.toNat = 6 ∨ k.toNat = 7 ∨ k.toNat = 9) ∧ Ex.longOf k.toNat = 2 := by
          rw [List.length_cons] at hlen
          generalize hL : Ex.longOf k.toNat = L at *
          unfold Ex.longOf at hL
          split at hL
          · omega
          · split at hL
            · omega
            · split at hL
              · omega
              · split at hL <;> omega
        by_cases ht : 20 ≤ t.toNat
        · have e : Ex.answerX x (k :: t :: rest) = (x, [2]) := by
            rw [e0]
            have : (if Ex.longOf k.toNat = 1 then 0 else ((k :: t :: rest).getD 1 0).toNat) = t.toNat := by
              rw [if_neg (by omega)]; rfl
            rw [this]
            exact if_pos ht
          rw [e]
          exact ans_no hK _ 2 (by decide) 0 0 0 0 0 (read_trader k t rest w (by rw [List.length_cons] at hlen; omega) ht)
        · have ht' : t.toNat < 20 := by omega
          rcases hcl with ⟨hk, hL⟩ | ⟨hk, hL⟩ | ⟨hk, hL⟩
          · have hr8 : rest.length = 8 := by rw [List.length_cons] at hlen; omega
            have hnum : numOf rest < 18446744073709551616 := by
              have := num_lt rest
              rw [hr8] at this
              exact this
            have hk' : k = 1 ∨ k = 2 ∨ k = 3 ∨ k = 4 := by
              rcases hk with h | h | h | h
              · exact Or.inl (UInt8.toNat_inj.1 h)
              · exact Or.inr (Or.inl (UInt8.toNat_inj.1 h))
              · exact Or.inr (Or.inr (Or.inl (UInt8.toNat_inj.1 h)))
              · exact Or.inr (Or.inr (Or.inr (UInt8.toNat_inj.1 h)))
            rcases hk' with rfl | rfl | rfl | rfl
            · have e : Ex.answerX x (1 :: t :: rest) = Ex.movesX x 1 t.toNat (numOf rest) := by rw [e0]; exact if_neg ht
              rw [e]
              exact ans_go hK ok hB hj (1 :: t :: rest) 1 t.toNat (numOf rest) 0 0 100 _ (Ex.movesX x 1 t.toNat (numOf rest)) (read_amt1 t rest ht' hr8 hnum w) rfl (by decide) rfl hrl (moves_keep _ _ _ _).1 (moves_keep _ _ _ _).2 (fun w => by kernel_rfl) (fun w0 k0 b0 => deed_put w0 m (bx 1) (gx 1) t.toNat (numOf rest) s x (b0.box 1 (by decide) (by decide)) k0 ok ht' hnum 1 0 (by decide) (b0.good 1 (by decide) (by decide)))
            · have e : Ex.answerX x (2 :: t :: rest) = Ex.movesX x 2 t.toNat (numOf rest) := by rw [e0]; exact if_neg ht
              rw [e]
              exact ans_go hK ok hB hj (2 :: t :: rest) 2 t.toNat (numOf rest) 0 0 103 _ (Ex.movesX x 2 t.toNat (numOf rest)) (read_amt2 t rest ht' hr8 hnum w) rfl (by decide) rfl hrl (moves_keep _ _ _ _).1 (moves_keep _ _ _ _).2 (fun w => by kernel_rfl) (fun w0 k0 b0 => deed_take w0 m (bx 2) (gx 2) t.toNat (numOf rest) s x (b0.box 2 (by decide) (by decide)) k0 ok ht' hnum 2 0 (by decide) (b0.good 2 (by decide) (by decide)))
            · have e : Ex.answerX x (3 :: t :: rest) = Ex.movesX x 3 t.toNat (numOf rest) := by rw [e0]; exact if_neg ht
              rw [e]
              exact ans_go hK ok hB hj (3 :: t :: rest) 3 t.toNat (numOf rest) 0 0 100 _ (Ex.movesX x 3 t.toNat (numOf rest)) (read_amt3 t rest ht' hr8 hnum w) rfl (by decide) rfl hrl (moves_keep _ _ _ _).1 (moves_keep _ _ _ _).2 (fun w => by kernel_rfl) (fun w0 k0 b0 => deed_put w0 m (bx 3) (gx 3) t.toNat (numOf rest) s x (b0.box 3 (by decide) (by decide)) k0 ok ht' hnum 3 1 (by decide) (b0.good 3 (by decide) (by decide)))
            · have e : Ex.answerX x (4 :: t :: rest) = Ex.movesX x 4 t.toNat (numOf rest) := by rw [e0]; exact if_neg ht
              rw [e]
              exact ans_go hK ok hB hj (4 :: t :: rest) 4 t.toNat (numOf rest) 0 0 103 _ (Ex.movesX x 4 t.toNat (numOf rest)) (read_amt4 t rest ht' hr8 hnum w) rfl (by decide) rfl hrl (moves_keep _ _ _ _).1 (moves_keep _ _ _ _).2 (fun w => by kernel_rfl) (fun w0 k0 b0 => deed_take w0 m (bx 4) (gx 4) t.toNat (numOf rest) s x (b0.box 4 (by decide) (by decide)) k0 ok ht' hnum 4 1 (by decide) (b0.good 4 (by decide) (by decide)))
          · obtain rfl : k = 5 := UInt8.toNat_inj.1 hk
            match rest, hlen, hrl, e0 with
            | [], hlen, _, _ => rw [hL] at hlen; simp at hlen
            | sd :: l, hlen, hrl, e0 =>
              have hl2 : l.length = 2 := by rw [List.length_cons, List.length_cons] at hlen; omega
              have hnum : numOf l < 65536 := by
                have := num_lt l
                rw [hl2] at this
                exact this
              have e : Ex.answerX x (5 :: t :: sd :: l) = Ex.ordersX x t.toNat sd.toNat (numOf l) := by rw [e0]; exact if_neg ht
              rw [e]
              exact ans_go hK ok hB hj (5 :: t :: sd :: l) 5 t.toNat 0 sd.toNat (numOf l) 105 _ (Ex.ordersX x t.toNat sd.toNat (numOf l)) (read_ord t sd l ht' hl2 hnum w) rfl (by decide) rfl hrl (orders_keep _ _ _ _).1 (orders_keep _ _ _ _).2 (fun w => by kernel_rfl) (fun w0 k0 b0 => deed_order w0 m (bx 5) t.toNat sd.toNat (numOf l) s x (b0.box 5 (by decide) (by decide)) k0 ok ht' hnum)
          · have hr0 : rest = [] := by
              rw [List.length_cons] at hlen
              exact List.length_eq_zero_iff.1 (by omega)
            subst hr0
            have hk' : k = 6 ∨ k = 7 ∨ k = 9 := by
              rcases hk with h | h | h
              · exact Or.inl (UInt8.toNat_inj.1 h)
              · exact Or.inr (Or.inl (UInt8.toNat_inj.1 h))
              · exact Or.inr (Or.inr (UInt8.toNat_inj.1 h))
            rcases hk' with rfl | rfl | rfl
            · have e : Ex.answerX x [6, t] = Ex.cancelX x t.toNat := by rw [e0]; exact if_neg ht
              rw [e]
              exact ans_go hK ok hB hj [6, t] 6 t.toNat 0 0 0 110 _ (Ex.cancelX x t.toNat) (read_two6 t ht' w) rfl (by decide) rfl hrl (cancel_keep _ _).1 (cancel_keep _ _).2 (fun w => by kernel_rfl) (fun w0 k0 b0 => CO w0 m (bx 6) t.toNat s x (b0.box 6 (by decide) (by decide)) k0 ok ht')
            · have e : Ex.answerX x [7, t] = (x, Ex.tellsX x 7 t.toNat) := by rw [e0]; exact if_neg ht
              rw [e]
              exact ans_go hK ok hB hj [7, t] 7 t.toNat 0 0 0 113 _ (x, Ex.tellsX x 7 t.toNat) (read_two7 t ht' w) rfl (by decide) rfl hrl rfl rfl (fun w => by kernel_rfl) (fun w0 k0 b0 => deed_account w0 m (bx 7) t.toNat s x (b0.box 7 (by decide) (by decide)) k0 ok ht')
            · have e : Ex.answerX x [9, t] = (x, Ex.tellsX x 9 t.toNat) := by rw [e0]; exact if_neg ht
              rw [e]
              exact ans_go hK ok hB hj [9, t] 9 t.toNat 0 0 0 115 _ (x, Ex.tellsX x 9 t.toNat) (read_two9 t ht' w) rfl (by decide) rfl hrl rfl rfl (fun w => by kernel_rfl) (fun w0 k0 b0 => deed_result w0 m (bx 9) t.toNat s x (b0.box 9 (by decide) (by decide)) k0 ok ht')
end Go.Proofs.Yteeplklhbhaicaa
