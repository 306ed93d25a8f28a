import Derived.Test.YtjfifaooimgbaaaDo
import Derived.Test.YtjfifaooimgbaaaRd
/- Every request is answered as the exchange without a program answers it. -/
namespace Go.Proofs.Ytjfifaooimgbaaa
open Go.Shelf Go.RowKit Go.Lib Go.Sort

theorem numFrom_lt : ∀ (l : List UInt8) (n : Nat), numFrom n l < (n + 1) * 256 ^ l.length
  | [], n => by simp [numFrom]
  | b :: r, n => by
    rw [numFrom, List.length_cons, Nat.pow_succ]
    have h1 := numFrom_lt r (256 * n + b.toNat)
    have h2 : b.toNat < 256 := UInt8.toNat_lt b
    have h3 : (256 * n + b.toNat + 1) * 256 ^ r.length ≤ (n + 1) * 256 * 256 ^ r.length := Nat.mul_le_mul_right _ (by omega)
    rw [Nat.mul_comm (256 ^ r.length) 256, ← Nat.mul_assoc]
    omega
theorem num_lt (l : List UInt8) : numOf l < 256 ^ l.length := by
  have := numFrom_lt l 0
  simpa [numOf] using this

section
variable {w : World} {m : Nat} {s : MkS} {x : Ex.Xch} {bx gx : Nat → Nat} (hK : Mkt w m s x) (ok : Ex.Ok x) (hB : Bxs w s.bd m bx gx) (hb : x.batch < 1152921504606846976) (hj : x.jr.length ≤ 17592186044416)
include hK
theorem ans_no (r : List UInt8) (c : UInt8) (hc : c ≠ 0) (k t a sd pr : Nat) (hR : Calls Try.prog 93 #[.string ⟨r.toArray⟩] w fun e w' => e = .returned (.tuple #[reqV k t a sd pr, .int .u8 (c.toNat : Nat)]) ∧ Below w.heap.size w w') : Calls Try.prog 77 #[.pointer (some ⟨m, 0, none⟩), .string ⟨r.toArray⟩] w (Ans m s w (Ex.written x r [c], [c])) := by
  refine (answer_no w m r k t a sd pr c.toNat (fun e => hc (UInt8.toNat_inj.1 e)) hR).mono ?_
  rintro e w' ⟨rfl, B⟩
  have e : Ex.written x r [c] = x := by
    unfold Ex.written
    rw [if_neg (fun h => hc h.1)]
  rw [e]
  exact ⟨s, .slice none 0 0, c, [], rfl, rfl, BRow.nil _, fun j hj => by simp [Value.ownBlock] at hj, hK.below B, (Step.refl m s w).below B⟩
include ok hB hj in
theorem ans_go (r : List UInt8) (k t a sd pr fn : Nat) (caps : Array Value) (R : Ex.Xch × List UInt8)
    (hR : Calls Try.prog 93 #[.string ⟨r.toArray⟩] w fun e w' => e = .returned (.tuple #[reqV k t a sd pr, .int .u8 0]) ∧ Below w.heap.size w w')
    (hF : deedF bx gx k = some (.func (.func fn) #[] caps)) (hk : 1 ≤ k ∧ k ≤ 10) (hr0 : (r.getD 0 0).toNat = k) (hrl : r.length ≤ 1000) (hRj : R.1.jr = x.jr) (hRt : R.1.time = x.time)
    (hCF : ∀ w, (callFunc fn (#[.agg #[.int .i64 (k : Int), .int .i64 (t : Int), .int .u64 (a : Int), .int .i64 (sd : Int), .int .i64 (pr : Int)]] ++ caps)).run Try.prog w = .ok (.enter fn (#[.agg #[.int .i64 (k : Int), .int .i64 (t : Int), .int .u64 (a : Int), .int .i64 (sd : Int), .int .i64 (pr : Int)]] ++ caps)) w)
    (hD : ∀ w0, Mkt w0 m s x → Bxs w0 s.bd m bx gx → Calls Try.prog fn (#[reqV k t a sd pr] ++ caps) w0 (Deed m s w0 R)) :
    Calls Try.prog 77 #[.pointer (some ⟨m, 0, none⟩), .string ⟨r.toArray⟩] w (Ans m s w (Ex.written R.1 r R.2, R.2)) :=
  answer_go w m s x r k t a sd pr fn caps R (deedF bx gx) hR hK hB.map hF hk hr0 hrl (by rw [hRj]; exact hj) (by rw [hRt]; exact ok.time) hCF (fun w0 b => hD w0 (hK.below b) (hB.below b))
end

theorem moves_keep (x : Ex.Xch) (k t n : Nat) : (Ex.movesX x k t n).1.jr = x.jr ∧ (Ex.movesX x k t n).1.time = x.time := by
  unfold Ex.movesX
  dsimp only
  split
  · exact ⟨rfl, rfl⟩
  · split
    · exact ⟨rfl, rfl⟩
    · split
      · exact ⟨rfl, rfl⟩
      · exact ⟨rfl, rfl⟩
theorem orders_keep (x : Ex.Xch) (t sd pr : Nat) : (Ex.ordersX x t sd pr).1.jr = x.jr ∧ (Ex.ordersX x t sd pr).1.time = x.time := by
  unfold Ex.ordersX
  dsimp only
  split
  · exact ⟨rfl, rfl⟩
  · split
    · exact ⟨rfl, rfl⟩
    · split
      · exact ⟨rfl, rfl⟩
      · split
        · exact ⟨rfl, rfl⟩
        · split
          · exact ⟨rfl, rfl⟩
          · exact ⟨rfl, rfl⟩
theorem cancel_keep (x : Ex.Xch) (t : Nat) : (Ex.cancelX x t).1.jr = x.jr ∧ (Ex.cancelX x t).1.time = x.time := by
  unfold Ex.cancelX
  split
  · exact ⟨rfl, rfl⟩
  · exact ⟨rfl, rfl⟩

/-- what cancelling is to do. -/
def CancelOk : Prop := ∀ (w : World) (m X t : Nat) (s : MkS) (x : Ex.Xch), BoxM w X m → Mkt w m s x → Ex.Ok x → t < 20 → Calls Try.prog 123 #[reqV 6 t 0 0 0, .pointer (some ⟨X, 0, none⟩)] w (Deed m s w (Ex.cancelX x t))

set_option maxRecDepth 100000 in
theorem answer_any (CO : CancelOk) {w : World} {m : Nat} {s : MkS} {x : Ex.Xch} {bx gx : Nat → Nat} (hK : Mkt w m s x) (ok : Ex.Ok x) (hB : Bxs w s.bd m bx gx) (hb : x.batch < 1152921504606846976) (hj : x.jr.length ≤ 17592186044416) (r : List UInt8) (hrl : r.length ≤ 1000) :
    Calls Try.prog 77 #[.pointer (some ⟨m, 0, none⟩), .string ⟨r.toArray⟩] w (Ans m s w (Ex.written (Ex.answerX x r).1 r (Ex.answerX x r).2, (Ex.answerX x r).2)) := by
  cases r with
  | nil => exact ans_no hK [] 1 (by decide) 0 0 0 0 0 (read_nil w)
  | cons k rest =>
    by_cases h1 : Ex.longOf k.toNat = 0 ∨ (k :: rest).length ≠ Ex.longOf k.toNat
    · have e : Ex.answerX x (k :: rest) = (x, [1]) := by
        unfold Ex.answerX
        exact if_pos h1
      rw [e]
      exact ans_no hK _ 1 (by decide) 0 0 0 0 0 (read_len k rest w (by
        rw [List.length_cons] at h1
        omega))
    · have hlen : rest.length + 1 = Ex.longOf k.toNat := by rw [List.length_cons] at h1; omega
      have hl0 : Ex.longOf k.toNat ≠ 0 := by omega
      have e0 : Ex.answerX x (k :: rest) = (if 20 ≤ (if Ex.longOf k.toNat = 1 then 0 else ((k :: rest).getD 1 0).toNat) then (x, [2]) else if Ex.longOf k.toNat = 10 then Ex.movesX x k.toNat (if Ex.longOf k.toNat = 1 then 0 else ((k :: rest).getD 1 0).toNat) (numOf ((k :: rest).drop 2)) else if k.toNat = 5 then Ex.ordersX x (if Ex.longOf k.toNat = 1 then 0 else ((k :: rest).getD 1 0).toNat) ((k :: rest).getD 2 0).toNat (numOf ((k :: rest).drop 3)) else if k.toNat = 6 then Ex.cancelX x (if Ex.longOf k.toNat = 1 then 0 else ((k :: rest).getD 1 0).toNat) else (x, Ex.tellsX x k.toNat (if Ex.longOf k.toNat = 1 then 0 else ((k :: rest).getD 1 0).toNat))) := by
        unfold Ex.answerX
        exact if_neg h1
      cases rest with
      | nil =>
        have hk : k = 8 ∨ k = 10 := by
          have h2 : Ex.longOf k.toNat = 1 := by simpa using hlen.symm
          unfold Ex.longOf at h2
          have h3 : k.toNat = 8 ∨ k.toNat = 10 := by
            split at h2
            · omega
            · split at h2
              · omega
              · split at h2
                · omega
                · split at h2 <;> omega
          rcases h3 with h | h
          · exact Or.inl (UInt8.toNat_inj.1 h)
          · exact Or.inr (UInt8.toNat_inj.1 h)
        rcases hk with rfl | rfl
        · have e : Ex.answerX x [8] = (x, Ex.tellsX x 8 0) := e0
          rw [e]
          exact ans_go hK ok hB hj [8] 8 0 0 0 0 126 _ (x, Ex.tellsX x 8 0) (read_one8 w) rfl (by decide) rfl hrl rfl rfl (fun w => by kernel_rfl) (fun w0 k0 b0 => deed_batch w0 m (bx 8) s x (b0.box 8 (by decide) (by decide)) k0 ok hb)
        · have e : Ex.answerX x [10] = (x, Ex.tellsX x 10 0) := e0
          rw [e]
          exact ans_go hK ok hB hj [10] 10 0 0 0 0 128 _ (x, Ex.tellsX x 10 0) (read_one10 w) rfl (by decide) rfl hrl rfl rfl (fun w => by kernel_rfl) (fun w0 k0 b0 => deed_clearing w0 m (bx 10) s x (b0.box 10 (by decide) (by decide)) k0 ok hb)
      | cons t rest =>
        have hcl : (k.toNat = 1 ∨ k.toNat = 2 ∨ k.toNat = 3 ∨ k.toNat = 4) ∧ Ex.longOf k.toNat = 10 ∨ k.toNat = 5 ∧ Ex.longOf k.toNat = 5 ∨ (k.toNat = 6 ∨ k.toNat = 7 ∨ k.toNat = 9) ∧ Ex.longOf k.toNat = 2 := by
          rw [List.length_cons] at hlen
          generalize hL : Ex.longOf k.toNat = L at *
          unfold Ex.longOf at hL
          split at hL
          · omega
          · split at hL
            · omega
            · split at hL
              · omega
              · split at hL <;> omega
        by_cases ht : 20 ≤ t.toNat
        · have e : Ex.answerX x (k :: t :: rest) = (x, [2]) := by
            rw [e0]
            have : (if Ex.longOf k.toNat = 1 then 0 else ((k :: t :: rest).getD 1 0).toNat) = t.toNat := by
              rw [if_neg (by omega)]; rfl
            rw [this]
            exact if_pos ht
          rw [e]
          exact ans_no hK _ 2 (by decide) 0 0 0 0 0 (read_trader k t rest w (by rw [List.length_cons] at hlen; omega) ht)
        · have ht' : t.toNat < 20 := by omega
          rcases hcl with ⟨hk, hL⟩ | ⟨hk, hL⟩ | ⟨hk, hL⟩
          · have hr8 : rest.length = 8 := by rw [List.length_cons] at hlen; omega
            have hnum : numOf rest < 18446744073709551616 := by
              have := num_lt rest
              rw [hr8] at this
              exact this
            have hk' : k = 1 ∨ k = 2 ∨ k = 3 ∨ k = 4 := by
              rcases hk with h | h | h | h
              · exact Or.inl (UInt8.toNat_inj.1 h)
              · exact Or.inr (Or.inl (UInt8.toNat_inj.1 h))
              · exact Or.inr (Or.inr (Or.inl (UInt8.toNat_inj.1 h)))
              · exact Or.inr (Or.inr (Or.inr (UInt8.toNat_inj.1 h)))
            rcases hk' with rfl | rfl | rfl | rfl
            · have e : Ex.answerX x (1 :: t :: rest) = Ex.movesX x 1 t.toNat (numOf rest) := by rw [e0]; exact if_neg ht
              rw [e]
              exact ans_go hK ok hB hj (1 :: t :: rest) 1 t.toNat (numOf rest) 0 0 115 _ (Ex.movesX x 1 t.toNat (numOf rest)) (read_amt1 t rest ht' hr8 hnum w) rfl (by decide) rfl hrl (moves_keep _ _ _ _).1 (moves_keep _ _ _ _).2 (fun w => by kernel_rfl) (fun w0 k0 b0 => deed_put w0 m (bx 1) (gx 1) t.toNat (numOf rest) s x (b0.box 1 (by decide) (by decide)) k0 ok ht' hnum 1 0 (by decide) (b0.good 1 (by decide) (by decide)))
            · have e : Ex.answerX x (2 :: t :: rest) = Ex.movesX x 2 t.toNat (numOf rest) := by rw [e0]; exact if_neg ht
              rw [e]
              exact ans_go hK ok hB hj (2 :: t :: rest) 2 t.toNat (numOf rest) 0 0 117 _ (Ex.movesX x 2 t.toNat (numOf rest)) (read_amt2 t rest ht' hr8 hnum w) rfl (by decide) rfl hrl (moves_keep _ _ _ _).1 (moves_keep _ _ _ _).2 (fun w => by kernel_rfl) (fun w0 k0 b0 => deed_take w0 m (bx 2) (gx 2) t.toNat (numOf rest) s x (b0.box 2 (by decide) (by decide)) k0 ok ht' hnum 2 0 (by decide) (b0.good 2 (by decide) (by decide)))
            · have e : Ex.answerX x (3 :: t :: rest) = Ex.movesX x 3 t.toNat (numOf rest) := by rw [e0]; exact if_neg ht
              rw [e]
              exact ans_go hK ok hB hj (3 :: t :: rest) 3 t.toNat (numOf rest) 0 0 115 _ (Ex.movesX x 3 t.toNat (numOf rest)) (read_amt3 t rest ht' hr8 hnum w) rfl (by decide) rfl hrl (moves_keep _ _ _ _).1 (moves_keep _ _ _ _).2 (fun w => by kernel_rfl) (fun w0 k0 b0 => deed_put w0 m (bx 3) (gx 3) t.toNat (numOf rest) s x (b0.box 3 (by decide) (by decide)) k0 ok ht' hnum 3 1 (by decide) (b0.good 3 (by decide) (by decide)))
            · have e : Ex.answerX x (4 :: t :: rest) = Ex.movesX x 4 t.toNat (numOf rest) := by rw [e0]; exact if_neg ht
              rw [e]
              exact ans_go hK ok hB hj (4 :: t :: rest) 4 t.toNat (numOf rest) 0 0 117 _ (Ex.movesX x 4 t.toNat (numOf rest)) (read_amt4 t rest ht' hr8 hnum w) rfl (by decide) rfl hrl (moves_keep _ _ _ _).1 (moves_keep _ _ _ _).2 (fun w => by kernel_rfl) (fun w0 k0 b0 => deed_take w0 m (bx 4) (gx 4) t.toNat (numOf rest) s x (b0.box 4 (by decide) (by decide)) k0 ok ht' hnum 4 1 (by decide) (b0.good 4 (by decide) (by decide)))
          · obtain rfl : k = 5 := UInt8.toNat_inj.1 hk
            match rest, hlen, hrl, e0 with
            | [], hlen, _, _ => rw [hL] at hlen; simp at hlen
            | sd :: l, hlen, hrl, e0 =>
              have hl2 : l.length = 2 := by rw [List.length_cons, List.length_cons] at hlen; omega
              have hnum : numOf l < 65536 := by
                have := num_lt l
                rw [hl2] at this
                exact this
              have e : Ex.answerX x (5 :: t :: sd :: l) = Ex.ordersX x t.toNat sd.toNat (numOf l) := by rw [e0]; exact if_neg ht
              rw [e]
              exact ans_go hK ok hB hj (5 :: t :: sd :: l) 5 t.toNat 0 sd.toNat (numOf l) 119 _ (Ex.ordersX x t.toNat sd.toNat (numOf l)) (read_ord t sd l ht' hl2 hnum w) rfl (by decide) rfl hrl (orders_keep _ _ _ _).1 (orders_keep _ _ _ _).2 (fun w => by kernel_rfl) (fun w0 k0 b0 => deed_order w0 m (bx 5) t.toNat sd.toNat (numOf l) s x (b0.box 5 (by decide) (by decide)) k0 ok ht' hnum)
          · have hr0 : rest = [] := by
              rw [List.length_cons] at hlen
              exact List.length_eq_zero_iff.1 (by omega)
            subst hr0
            have hk' : k = 6 ∨ k = 7 ∨ k = 9 := by
              rcases hk with h | h | h
              · exact Or.inl (UInt8.toNat_inj.1 h)
              · exact Or.inr (Or.inl (UInt8.toNat_inj.1 h))
              · exact Or.inr (Or.inr (UInt8.toNat_inj.1 h))
            rcases hk' with rfl | rfl | rfl
            · have e : Ex.answerX x [6, t] = Ex.cancelX x t.toNat := by rw [e0]; exact if_neg ht
              rw [e]
              exact ans_go hK ok hB hj [6, t] 6 t.toNat 0 0 0 123 _ (Ex.cancelX x t.toNat) (read_two6 t ht' w) rfl (by decide) rfl hrl (cancel_keep _ _).1 (cancel_keep _ _).2 (fun w => by kernel_rfl) (fun w0 k0 b0 => CO w0 m (bx 6) t.toNat s x (b0.box 6 (by decide) (by decide)) k0 ok ht')
            · have e : Ex.answerX x [7, t] = (x, Ex.tellsX x 7 t.toNat) := by rw [e0]; exact if_neg ht
              rw [e]
              exact ans_go hK ok hB hj [7, t] 7 t.toNat 0 0 0 125 _ (x, Ex.tellsX x 7 t.toNat) (read_two7 t ht' w) rfl (by decide) rfl hrl rfl rfl (fun w => by kernel_rfl) (fun w0 k0 b0 => deed_account w0 m (bx 7) t.toNat s x (b0.box 7 (by decide) (by decide)) k0 ok ht')
            · have e : Ex.answerX x [9, t] = (x, Ex.tellsX x 9 t.toNat) := by rw [e0]; exact if_neg ht
              rw [e]
              exact ans_go hK ok hB hj [9, t] 9 t.toNat 0 0 0 127 _ (x, Ex.tellsX x 9 t.toNat) (read_two9 t ht' w) rfl (by decide) rfl hrl rfl rfl (fun w => by kernel_rfl) (fun w0 k0 b0 => deed_result w0 m (bx 9) t.toNat s x (b0.box 9 (by decide) (by decide)) k0 ok ht')
end Go.Proofs.Ytjfifaooimgbaaa
/- A new market. -/
namespace Go.Proofs.Ytjfifaooimgbaaa
open Go.Shelf Go.RowKit Go.Lib Go.Sort

section
variable (w : World) (m g : Nat)
set_option maxRecDepth 100000
theorem mk_put : Calls Try.prog 98 #[.pointer (some ⟨m, 0, none⟩), .int .i64 (g : Int)] w fun e w' => e = .returned (.func (.func 115) #[] #[.pointer (some ⟨w.heap.size, 0, none⟩), .pointer (some ⟨w.heap.size + 1, 0, none⟩)]) ∧ w' = (w.alloc (.cells #[.pointer (some ⟨m, 0, none⟩)] 103)).alloc (.cells #[.int .i64 (g : Int)] 167) := by
  go_enter Try.func98, Try.ntmps98
  go_wp2
  go_ret
  exact ⟨rfl, rfl⟩
theorem mk_take : Calls Try.prog 99 #[.pointer (some ⟨m, 0, none⟩), .int .i64 (g : Int)] w fun e w' => e = .returned (.func (.func 117) #[] #[.pointer (some ⟨w.heap.size, 0, none⟩), .pointer (some ⟨w.heap.size + 1, 0, none⟩)]) ∧ w' = (w.alloc (.cells #[.pointer (some ⟨m, 0, none⟩)] 103)).alloc (.cells #[.int .i64 (g : Int)] 167) := by
  go_enter Try.func99, Try.ntmps99
  go_wp2
  go_ret
  exact ⟨rfl, rfl⟩
theorem mk_give : Calls Try.prog 100 #[.pointer (some ⟨m, 0, none⟩)] w fun e w' => e = .returned (.func (.func 119) #[] #[.pointer (some ⟨w.heap.size, 0, none⟩)]) ∧ w' = w.alloc (.cells #[.pointer (some ⟨m, 0, none⟩)] 103) := by
  go_enter Try.func100, Try.ntmps100
  go_wp2
  go_ret
  exact ⟨rfl, rfl⟩
theorem mk_cancel : Calls Try.prog 101 #[.pointer (some ⟨m, 0, none⟩)] w fun e w' => e = .returned (.func (.func 123) #[] #[.pointer (some ⟨w.heap.size, 0, none⟩)]) ∧ w' = w.alloc (.cells #[.pointer (some ⟨m, 0, none⟩)] 103) := by
  go_enter Try.func101, Try.ntmps101
  go_wp2
  go_ret
  exact ⟨rfl, rfl⟩
theorem mk_account : Calls Try.prog 102 #[.pointer (some ⟨m, 0, none⟩)] w fun e w' => e = .returned (.func (.func 125) #[] #[.pointer (some ⟨w.heap.size, 0, none⟩)]) ∧ w' = w.alloc (.cells #[.pointer (some ⟨m, 0, none⟩)] 103) := by
  go_enter Try.func102, Try.ntmps102
  go_wp2
  go_ret
  exact ⟨rfl, rfl⟩
theorem mk_batch : Calls Try.prog 103 #[.pointer (some ⟨m, 0, none⟩)] w fun e w' => e = .returned (.func (.func 126) #[] #[.pointer (some ⟨w.heap.size, 0, none⟩)]) ∧ w' = w.alloc (.cells #[.pointer (some ⟨m, 0, none⟩)] 103) := by
  go_enter Try.func103, Try.ntmps103
  go_wp2
  go_ret
  exact ⟨rfl, rfl⟩
theorem mk_result : Calls Try.prog 104 #[.pointer (some ⟨m, 0, none⟩)] w fun e w' => e = .returned (.func (.func 127) #[] #[.pointer (some ⟨w.heap.size, 0, none⟩)]) ∧ w' = w.alloc (.cells #[.pointer (some ⟨m, 0, none⟩)] 103) := by
  go_enter Try.func104, Try.ntmps104
  go_wp2
  go_ret
  exact ⟨rfl, rfl⟩
theorem mk_clearing : Calls Try.prog 105 #[.pointer (some ⟨m, 0, none⟩)] w fun e w' => e = .returned (.func (.func 128) #[] #[.pointer (some ⟨w.heap.size, 0, none⟩)]) ∧ w' = w.alloc (.cells #[.pointer (some ⟨m, 0, none⟩)] 103) := by
  go_enter Try.func105, Try.ntmps105
  go_wp2
  go_ret
  exact ⟨rfl, rfl⟩
end

theorem wpList_insert_mapf (w : World) {ops : Array Oper} {rest : List Oper} {o : Oper} {a : Act} {Q : Exit → Act → World → Prop} (hg : o.guard = none) (m x v : Operand) (t : TypeId) (hop : o.op = Op.insert t m x v) (k e : TypeId) (K : Maps.Keyed Try.prog k) (ht : Try.prog.underlying t = some (.map k e)) (b N : Nat) (f : Nat → Option Value) (hN : N ≤ 1000000)
    (hm : a.eval m = .map (some b)) (h : MapF Try.prog k w b N f) (i : Nat) (hi : i < N) (key val : Value) (hx : a.eval x = key) (hv : a.eval v = val) (hkey : keyOf Try.prog k key = some (ik i))
    (hK : ∀ w', MapF Try.prog k w' b N (setF f i val) → w.grownBy w' (some b) → w'.heap.size = w.heap.size → wpList Try.prog ops Q rest (a.put o.dst undef) w') : wpList Try.prog ops Q (o :: rest) a w := by
  refine wpList_plain hg fun K' hK' => ?_
  obtain ⟨w', hrun, r1, r2, r3⟩ := h.store K ht hi hN hkey val
  unfold Oper.wp
  simp [execOp, hop, hm, hx, hv, hrun, Result.andThen]
  exact hK' _ _ (hK w' r1 r2 r3)

/-- the deeds up to the k-th are laid. -/
structure Dd (W : World) (M m k : Nat) (bx gx : Nat → Nat) (w : World) : Prop where
  map : MapF Try.prog 3 w M 11 (fun j => if j ≤ k then deedF bx gx j else none)
  box : ∀ j, 1 ≤ j → j ≤ k → BoxM w (bx j) m ∧ W.heap.size ≤ bx j
  good : ∀ j, 1 ≤ j → j ≤ k → j ≤ 4 → BoxG w (gx j) (if j ≤ 2 then 0 else 1) ∧ W.heap.size ≤ gx j
  onl : Onl (· = M) W w
theorem deedF_congr {bx gx bx' gx' : Nat → Nat} {j : Nat} (h1 : bx' j = bx j) (h2 : gx' j = gx j) : deedF bx' gx' j = deedF bx gx j := by
  unfold deedF
  rw [h1, h2]
/-- one more: its box lies at X (its good at Y); it is put into the map. -/
theorem Dd.next {W : World} {M m k : Nat} {bx gx : Nat → Nat} {w w1 w2 : World} (h : Dd W M m k bx gx w) (X Y : Nat) (v : Value) (hM : M < W.heap.size) (b1 : Below w.heap.size w w1) (hX : BoxM w1 X m) (hXw : w.heap.size ≤ X) (hY : k + 1 ≤ 4 → BoxG w1 Y (if k + 1 ≤ 2 then 0 else 1) ∧ w.heap.size ≤ Y) (hv : deedF (fun j => if j = k + 1 then X else bx j) (fun j => if j = k + 1 then Y else gx j) (k + 1) = some v)
    (hm : MapF Try.prog 3 w2 M 11 (setF (fun j => if j ≤ k then deedF bx gx j else none) (k + 1) v)) (g : w1.grownBy w2 (some M)) : Dd W M m (k + 1) (fun j => if j = k + 1 then X else bx j) (fun j => if j = k + 1 then Y else gx j) w2 := by
  have sz : W.heap.size ≤ w.heap.size := h.onl.size
  have kb : ∀ j, j < w1.heap.size → j ≠ M → w2.heap[j]? = w1.heap[j]? := fun j hj hne => g.block j hj (fun e => hne (by injection e))
  refine ⟨?_, fun j h1 h2 => ?_, fun j h1 h2 h3 => ?_, (h.onl.below b1).grown g (Or.inl rfl)⟩
  · have e : (fun j => if j ≤ k + 1 then deedF (fun j => if j = k + 1 then X else bx j) (fun j => if j = k + 1 then Y else gx j) j else none) = setF (fun j => if j ≤ k then deedF bx gx j else none) (k + 1) v := by
      funext j
      unfold setF
      by_cases e : j = k + 1
      · rw [if_pos e, if_pos (by omega), e, hv]
      · rw [if_neg e]
        dsimp only
        by_cases hjk : j ≤ k
        · rw [if_pos hjk, if_pos (by omega)]
          exact deedF_congr (if_neg e) (if_neg e)
        · rw [if_neg hjk, if_neg (by omega)]
    rw [e]
    exact hm
  · by_cases e : j = k + 1
    · rw [if_pos e]
      exact ⟨hX.kept (kb X hX.lt (by omega)), by omega⟩
    · rw [if_neg e]
      obtain ⟨q1, q2⟩ := h.box j h1 (by omega)
      exact ⟨q1.kept ((kb _ (Nat.lt_of_lt_of_le q1.lt b1.size) (by omega)).trans (b1.block _ q1.lt)), q2⟩
  · by_cases e : j = k + 1
    · subst e
      rw [if_pos rfl]
      obtain ⟨q1, q2⟩ := hY h3
      exact ⟨q1.kept (kb Y q1.lt (by omega)), by omega⟩
    · rw [if_neg e]
      obtain ⟨q1, q2⟩ := h.good j h1 (by omega) h3
      exact ⟨q1.kept ((kb _ (Nat.lt_of_lt_of_le q1.lt b1.size) (by omega)).trans (b1.block _ q1.lt)), q2⟩
theorem new_one {w : World} {m : Nat} {f fn : Nat} (h : Calls Try.prog f #[.pointer (some ⟨m, 0, none⟩)] w fun e w' => e = .returned (.func (.func fn) #[] #[.pointer (some ⟨w.heap.size, 0, none⟩)]) ∧ w' = w.alloc (.cells #[.pointer (some ⟨m, 0, none⟩)] 103)) :
    Calls Try.prog f #[.pointer (some ⟨m, 0, none⟩)] w fun e w' => ∃ X, e = .returned (.func (.func fn) #[] #[.pointer (some ⟨X, 0, none⟩)]) ∧ BoxM w' X m ∧ w.heap.size ≤ X ∧ Below w.heap.size w w' := by
  refine h.mono ?_
  rintro e w' ⟨rfl, rfl⟩
  exact ⟨_, rfl, heap_alloc_new w _, Nat.le_refl _, (Below.refl _ w).alloc (Nat.le_refl _) _⟩
theorem new_two {w : World} {m g : Nat} {f fn : Nat} (h : Calls Try.prog f #[.pointer (some ⟨m, 0, none⟩), .int .i64 (g : Int)] w fun e w' => e = .returned (.func (.func fn) #[] #[.pointer (some ⟨w.heap.size, 0, none⟩), .pointer (some ⟨w.heap.size + 1, 0, none⟩)]) ∧ w' = (w.alloc (.cells #[.pointer (some ⟨m, 0, none⟩)] 103)).alloc (.cells #[.int .i64 (g : Int)] 167)) :
    Calls Try.prog f #[.pointer (some ⟨m, 0, none⟩), .int .i64 (g : Int)] w fun e w' => ∃ X Y, e = .returned (.func (.func fn) #[] #[.pointer (some ⟨X, 0, none⟩), .pointer (some ⟨Y, 0, none⟩)]) ∧ BoxM w' X m ∧ BoxG w' Y g ∧ w.heap.size ≤ X ∧ w.heap.size ≤ Y ∧ Below w.heap.size w w' := by
  refine h.mono ?_
  rintro e w' ⟨rfl, rfl⟩
  refine ⟨_, _, rfl, ?_, next_new w _ _, Nat.le_refl _, by omega, ((Below.refl _ w).alloc (Nat.le_refl _) _).alloc (by simp) _⟩
  exact (Below.heap_alloc _ _ _ (by simp)).trans (heap_alloc_new w _)

set_option maxHeartbeats 8000000 in
set_option maxRecDepth 100000 in
theorem deeds_any (w : World) (m : Nat) : Calls Try.prog 87 #[.pointer (some ⟨m, 0, none⟩)] w fun e w' => ∃ M bx gx, e = .returned (.map (some M)) ∧ Bxs w' M m bx gx ∧ (∀ j, BFoot M bx gx j → w.heap.size ≤ j) ∧ Below w.heap.size w w' := by
  have mixed : Try.prog.follows .mixedOrders = true := by kernel_rfl
  have hmm := @run_makeMap Try.prog
  obtain ⟨W, hW⟩ : ∃ W, W = w.alloc (.map #[] 0) := ⟨_, rfl⟩
  have D0 : Aside (Dd W w.heap.size m 0 (fun _ => 0) (fun _ => 0) W) := by
    refine ⟨?_, fun j h1 h2 => by omega, fun j h1 h2 _ => by omega, Onl.refl _ _⟩
    have e : (fun j => if j ≤ 0 then deedF (fun _ => 0) (fun _ => 0) j else none) = fun _ => none := by
      funext j
      by_cases h : j ≤ 0
      · rw [if_pos h, show j = 0 by omega]; rfl
      · rw [if_neg h]
    rw [e, hW]
    exact MapF.made Try.prog 3 w 11
  have hM : w.heap.size < W.heap.size := by rw [hW]; simp
  have OW : Aside (Below w.heap.size w W) := by show Below _ _ _; rw [hW]; exact (Below.refl _ w).alloc (Nat.le_refl _) _
  go_enter Try.func87, Try.ntmps87
  go_wp2_with fail
  rw [← hW]
  clear hW hmm
  refine Calls.mono (f := 98) (new_two (mk_put W m 0)) ?_
  rintro e u1 ⟨X, Y, rfl, b1, b2, b3, b4, b5⟩
  have HX1 : Aside (BoxM u1 X m) := b1
  have HB1 : Aside (Below W.heap.size W u1) := b5
  clear b1 b5
  go_wp2_with (first | (refine wpList_insert_mapf _ rfl _ _ _ 128 rfl 3 161 K3 Try.underlying128 w.heap.size 11 _ (by decide) rfl (D0.out.map.kept (HB1.out.block _ D0.out.map.lt)) 1 (by decide) _ _ rfl rfl (key3 1 (by decide)) ?_; intro v1 g1 g2 g3) | fail)
  have D1 : Aside (Dd W w.heap.size m 1 _ _ v1) := Dd.next D0.out X Y _ hM HB1.out HX1.out b3 (fun _ => ⟨b2, b4⟩) rfl g1 g2
  clear g1 g2 g3 HX1 HB1 D0
  refine Calls.mono (f := 99) (new_two (mk_take v1 m 0)) ?_
  rintro e u2 ⟨X, Y, rfl, b1, b2, b3, b4, b5⟩
  have HX2 : Aside (BoxM u2 X m) := b1
  have HB2 : Aside (Below v1.heap.size v1 u2) := b5
  clear b1 b5
  go_wp2_with (first | (refine wpList_insert_mapf _ rfl _ _ _ 128 rfl 3 161 K3 Try.underlying128 w.heap.size 11 _ (by decide) rfl (D1.out.map.kept (HB2.out.block _ D1.out.map.lt)) 2 (by decide) _ _ rfl rfl (key3 2 (by decide)) ?_; intro v2 g1 g2 g3) | fail)
  have D2 : Aside (Dd W w.heap.size m 2 _ _ v2) := Dd.next D1.out X Y _ hM HB2.out HX2.out b3 (fun _ => ⟨b2, b4⟩) rfl g1 g2
  clear g1 g2 g3 HX2 HB2 D1
  refine Calls.mono (f := 98) (new_two (mk_put v2 m 1)) ?_
  rintro e u3 ⟨X, Y, rfl, b1, b2, b3, b4, b5⟩
  have HX3 : Aside (BoxM u3 X m) := b1
  have HB3 : Aside (Below v2.heap.size v2 u3) := b5
  clear b1 b5
  go_wp2_with (first | (refine wpList_insert_mapf _ rfl _ _ _ 128 rfl 3 161 K3 Try.underlying128 w.heap.size 11 _ (by decide) rfl (D2.out.map.kept (HB3.out.block _ D2.out.map.lt)) 3 (by decide) _ _ rfl rfl (key3 3 (by decide)) ?_; intro v3 g1 g2 g3) | fail)
  have D3 : Aside (Dd W w.heap.size m 3 _ _ v3) := Dd.next D2.out X Y _ hM HB3.out HX3.out b3 (fun _ => ⟨b2, b4⟩) rfl g1 g2
  clear g1 g2 g3 HX3 HB3 D2
  refine Calls.mono (f := 99) (new_two (mk_take v3 m 1)) ?_
  rintro e u4 ⟨X, Y, rfl, b1, b2, b3, b4, b5⟩
  have HX4 : Aside (BoxM u4 X m) := b1
  have HB4 : Aside (Below v3.heap.size v3 u4) := b5
  clear b1 b5
  go_wp2_with (first | (refine wpList_insert_mapf _ rfl _ _ _ 128 rfl 3 161 K3 Try.underlying128 w.heap.size 11 _ (by decide) rfl (D3.out.map.kept (HB4.out.block _ D3.out.map.lt)) 4 (by decide) _ _ rfl rfl (key3 4 (by decide)) ?_; intro v4 g1 g2 g3) | fail)
  have D4 : Aside (Dd W w.heap.size m 4 _ _ v4) := Dd.next D3.out X Y _ hM HB4.out HX4.out b3 (fun _ => ⟨b2, b4⟩) rfl g1 g2
  clear g1 g2 g3 HX4 HB4 D3
  refine Calls.mono (f := 100) (new_one (mk_give v4 m)) ?_
  rintro e u5 ⟨X, rfl, b1, b3, b5⟩
  have HX5 : Aside (BoxM u5 X m) := b1
  have HB5 : Aside (Below v4.heap.size v4 u5) := b5
  clear b1 b5
  go_wp2_with (first | (refine wpList_insert_mapf _ rfl _ _ _ 128 rfl 3 161 K3 Try.underlying128 w.heap.size 11 _ (by decide) rfl (D4.out.map.kept (HB5.out.block _ D4.out.map.lt)) 5 (by decide) _ _ rfl rfl (key3 5 (by decide)) ?_; intro v5 g1 g2 g3) | fail)
  have D5 : Aside (Dd W w.heap.size m 5 _ _ v5) := Dd.next D4.out X 0 _ hM HB5.out HX5.out b3 (fun h => absurd h (by decide)) rfl g1 g2
  clear g1 g2 g3 HX5 HB5 D4
  refine Calls.mono (f := 101) (new_one (mk_cancel v5 m)) ?_
  rintro e u6 ⟨X, rfl, b1, b3, b5⟩
  have HX6 : Aside (BoxM u6 X m) := b1
  have HB6 : Aside (Below v5.heap.size v5 u6) := b5
  clear b1 b5
  go_wp2_with (first | (refine wpList_insert_mapf _ rfl _ _ _ 128 rfl 3 161 K3 Try.underlying128 w.heap.size 11 _ (by decide) rfl (D5.out.map.kept (HB6.out.block _ D5.out.map.lt)) 6 (by decide) _ _ rfl rfl (key3 6 (by decide)) ?_; intro v6 g1 g2 g3) | fail)
  have D6 : Aside (Dd W w.heap.size m 6 _ _ v6) := Dd.next D5.out X 0 _ hM HB6.out HX6.out b3 (fun h => absurd h (by decide)) rfl g1 g2
  clear g1 g2 g3 HX6 HB6 D5
  refine Calls.mono (f := 102) (new_one (mk_account v6 m)) ?_
  rintro e u7 ⟨X, rfl, b1, b3, b5⟩
  have HX7 : Aside (BoxM u7 X m) := b1
  have HB7 : Aside (Below v6.heap.size v6 u7) := b5
  clear b1 b5
  go_wp2_with (first | (refine wpList_insert_mapf _ rfl _ _ _ 128 rfl 3 161 K3 Try.underlying128 w.heap.size 11 _ (by decide) rfl (D6.out.map.kept (HB7.out.block _ D6.out.map.lt)) 7 (by decide) _ _ rfl rfl (key3 7 (by decide)) ?_; intro v7 g1 g2 g3) | fail)
  have D7 : Aside (Dd W w.heap.size m 7 _ _ v7) := Dd.next D6.out X 0 _ hM HB7.out HX7.out b3 (fun h => absurd h (by decide)) rfl g1 g2
  clear g1 g2 g3 HX7 HB7 D6
  refine Calls.mono (f := 103) (new_one (mk_batch v7 m)) ?_
  rintro e u8 ⟨X, rfl, b1, b3, b5⟩
  have HX8 : Aside (BoxM u8 X m) := b1
  have HB8 : Aside (Below v7.heap.size v7 u8) := b5
  clear b1 b5
  go_wp2_with (first | (refine wpList_insert_mapf _ rfl _ _ _ 128 rfl 3 161 K3 Try.underlying128 w.heap.size 11 _ (by decide) rfl (D7.out.map.kept (HB8.out.block _ D7.out.map.lt)) 8 (by decide) _ _ rfl rfl (key3 8 (by decide)) ?_; intro v8 g1 g2 g3) | fail)
  have D8 : Aside (Dd W w.heap.size m 8 _ _ v8) := Dd.next D7.out X 0 _ hM HB8.out HX8.out b3 (fun h => absurd h (by decide)) rfl g1 g2
  clear g1 g2 g3 HX8 HB8 D7
  refine Calls.mono (f := 104) (new_one (mk_result v8 m)) ?_
  rintro e u9 ⟨X, rfl, b1, b3, b5⟩
  have HX9 : Aside (BoxM u9 X m) := b1
  have HB9 : Aside (Below v8.heap.size v8 u9) := b5
  clear b1 b5
  go_wp2_with (first | (refine wpList_insert_mapf _ rfl _ _ _ 128 rfl 3 161 K3 Try.underlying128 w.heap.size 11 _ (by decide) rfl (D8.out.map.kept (HB9.out.block _ D8.out.map.lt)) 9 (by decide) _ _ rfl rfl (key3 9 (by decide)) ?_; intro v9 g1 g2 g3) | fail)
  have D9 : Aside (Dd W w.heap.size m 9 _ _ v9) := Dd.next D8.out X 0 _ hM HB9.out HX9.out b3 (fun h => absurd h (by decide)) rfl g1 g2
  clear g1 g2 g3 HX9 HB9 D8
  refine Calls.mono (f := 105) (new_one (mk_clearing v9 m)) ?_
  rintro e u10 ⟨X, rfl, b1, b3, b5⟩
  have HX10 : Aside (BoxM u10 X m) := b1
  have HB10 : Aside (Below v9.heap.size v9 u10) := b5
  clear b1 b5
  go_wp2_with (first | (refine wpList_insert_mapf _ rfl _ _ _ 128 rfl 3 161 K3 Try.underlying128 w.heap.size 11 _ (by decide) rfl (D9.out.map.kept (HB10.out.block _ D9.out.map.lt)) 10 (by decide) _ _ rfl rfl (key3 10 (by decide)) ?_; intro v10 g1 g2 g3) | fail)
  have D10 : Aside (Dd W w.heap.size m 10 _ _ v10) := Dd.next D9.out X 0 _ hM HB10.out HX10.out b3 (fun h => absurd h (by decide)) rfl g1 g2
  clear g1 g2 g3 HX10 HB10 D9
  go_ret
  have D := D10.out
  refine ⟨w.heap.size, _, _, rfl, ⟨?_, fun j h1 h2 => (D.box j h1 h2).1, fun j h1 h2 => (D.good j h1 (by omega) h2).1⟩, fun j hj => ?_, ?_⟩
  · have e : ∀ bx gx : Nat → Nat, (fun j => if j ≤ 10 then deedF bx gx j else none) = deedF bx gx := fun bx gx => by
      funext j
      by_cases h : j ≤ 10
      · rw [if_pos h]
      · rw [if_neg h]
        unfold deedF
        rw [if_neg (by omega), if_neg (by omega), if_neg (by omega), if_neg (by omega), if_neg (by omega), if_neg (by omega), if_neg (by omega), if_neg (by omega)]
    have := D.map
    rw [e] at this
    exact this
  · rcases hj with rfl | ⟨k, h1, h2, rfl⟩ | ⟨k, h1, h2, rfl⟩
    · exact Nat.le_refl _
    · exact Nat.le_trans (Nat.le_of_lt hM) (D.box k h1 h2).2
    · exact Nat.le_trans (Nat.le_of_lt hM) (D.good k h1 (by omega) h2).2
  · have o := D.onl
    exact OW.out.trans ⟨o.os, o.tape, o.output, o.size, fun k hk => o.block k (by omega) (by omega)⟩
end Go.Proofs.Ytjfifaooimgbaaa
