import Derived.Test.YtjfifaooimgbaaaAw
import Derived.Test.YtjfifaooimgbaaaGi6
import Derived.Test.YtjfifaooimgbaaaNx
import Derived.Test.YtjfifaooimgbaaaOj
import Derived.Test.YtjfifaooimgbaaaNw
/- A record's request is done again. -/
namespace Go.Proofs.Ytjfifaooimgbaaa
open Go.Shelf Go.RowKit Go.Lib Go.Sort

/-- what a record's request comes to, R being what the deed does. -/
def rptO (T : Int) (r : List UInt8) (R : Ex.Xch × List UInt8) : Option Ex.Xch := if R.2.getD 0 0 = 0 ∧ (r.getD 0 0).toNat ≤ 6 then some { R.1 with time := T, jr := R.1.jr ++ Ex.record T r } else none
/-- a record was, or was not, taken. -/
def Rpt (m : Nat) (s : MkS) (w : World) (x : Ex.Xch) (o : Option Ex.Xch) (e : Ending) (w' : World) : Prop := ∃ s', e = .returned (.bool o.isSome) ∧ Mkt w' m s' (o.getD x) ∧ Step m s w s' w'

set_option maxHeartbeats 4000000 in
set_option maxRecDepth 100000 in
theorem rep_no (w : World) (m : Nat) (T : Int) (r : List UInt8) (k t a sd pr c : Nat) (hc : c ≠ 0) (hRead : Calls Try.prog 93 #[.string ⟨r.toArray⟩] w fun e w' => e = .returned (.tuple #[reqV k t a sd pr, .int .u8 c]) ∧ Below w.heap.size w w') :
    Calls Try.prog 90 #[.pointer (some ⟨m, 0, none⟩), .int .i64 T, .string ⟨r.toArray⟩] w fun e w' => e = .returned (.bool false) ∧ Below w.heap.size w w' := by
  have mixed : Try.prog.follows .mixedOrders = true := by kernel_rfl
  unfold reqV at hRead
  have HR : Aside _ := hRead
  have hb : ((c : Int) == 0) = false := beq_eq_false_iff_ne.2 (by omega)
  have hb2 : ((c : Int) != 0) = true := bne_iff_ne.2 (by omega)
  clear hRead hc
  go_enter Try.func90, Try.ntmps90
  go_wp2_with fail
  refine Calls.mono (f := 93) HR.out ?_
  rintro e w1 ⟨rfl, B1⟩
  go_wp2
  go_ret
  refine ⟨rfl, B1.alloc ?_ _⟩
  exact B1.size
set_option maxHeartbeats 4000000 in
set_option maxRecDepth 100000 in
theorem rep_ask (w : World) (m : Nat) (T : Int) (r : List UInt8) (k t a sd pr : Nat) (hk : 6 < k) (hRead : Calls Try.prog 93 #[.string ⟨r.toArray⟩] w fun e w' => e = .returned (.tuple #[reqV k t a sd pr, .int .u8 0]) ∧ Below w.heap.size w w') :
    Calls Try.prog 90 #[.pointer (some ⟨m, 0, none⟩), .int .i64 T, .string ⟨r.toArray⟩] w fun e w' => e = .returned (.bool false) ∧ Below w.heap.size w w' := by
  have mixed : Try.prog.follows .mixedOrders = true := by kernel_rfl
  unfold reqV at hRead
  have HR : Aside _ := hRead
  have HCh : Aside (∀ w, Calls Try.prog 94 #[.int .i64 (k : Int)] w fun e w' => e = .returned (.bool false) ∧ w' = w) := fun w => by
    have := changes_any w k
    rw [decide_eq_false (by omega)] at this
    exact this
  clear hRead hk
  go_enter Try.func90, Try.ntmps90
  go_wp2_with fail
  refine Calls.mono (f := 93) HR.out ?_
  rintro e w1 ⟨rfl, B1⟩
  go_wp2_with fail
  refine Calls.mono (f := 94) (HCh.out _) ?_
  rintro e w4 ⟨rfl, rfl⟩
  go_wp2
  go_ret
  refine ⟨rfl, B1.alloc ?_ _⟩
  exact B1.size

set_option maxHeartbeats 4000000 in
set_option maxRecDepth 100000 in
theorem rep_go (w : World) (m : Nat) (s : MkS) (x : Ex.Xch) (T : Int) (r : List UInt8) (k t a sd pr fn : Nat) (caps : Array Value) (R : Ex.Xch × List UInt8) (Fd : Nat → Option Value)
    (hRead : Calls Try.prog 93 #[.string ⟨r.toArray⟩] w fun e w' => e = .returned (.tuple #[reqV k t a sd pr, .int .u8 0]) ∧ Below w.heap.size w w') (hK : Mkt w m s x)
    (hB : MapF Try.prog 3 w s.bd 11 Fd) (hF : Fd k = some (.func (.func fn) #[] caps)) (hk : 1 ≤ k ∧ k ≤ 6) (hr0 : (r.getD 0 0).toNat = k) (hrl : r.length ≤ 1000) (hRj : R.1.jr.length ≤ 17592186044416) (hT : 0 ≤ T ∧ T ≤ 1125899906842624) (hRx : R.2.getD 0 0 ≠ 0 → R.1 = x)
    (hCF : ∀ w, (callFunc fn (#[.agg #[.int .i64 (k : Int), .int .i64 (t : Int), .int .u64 (a : Int), .int .i64 (sd : Int), .int .i64 (pr : Int)]] ++ caps)).run Try.prog w = .ok (.enter fn (#[.agg #[.int .i64 (k : Int), .int .i64 (t : Int), .int .u64 (a : Int), .int .i64 (sd : Int), .int .i64 (pr : Int)]] ++ caps)) w)
    (hD : ∀ w0, Below w.heap.size w w0 → Calls Try.prog fn (#[reqV k t a sd pr] ++ caps) w0 (Deed m s w0 R)) :
    Calls Try.prog 90 #[.pointer (some ⟨m, 0, none⟩), .int .i64 T, .string ⟨r.toArray⟩] w (Rpt m s w x (rptO T r R)) := by
  have mixed : Try.prog.follows .mixedOrders = true := by kernel_rfl
  unfold reqV at hRead hD
  have HR : Aside _ := hRead
  have HCh : Aside (∀ w, Calls Try.prog 94 #[.int .i64 (k : Int)] w fun e w' => e = .returned (.bool true) ∧ w' = w) := fun w => by
    have := changes_any w k
    rw [decide_eq_true (by omega)] at this
    exact this
  clear hRead
  go_enter Try.func90, Try.ntmps90
  go_wp2_with fail
  refine Calls.mono (f := 93) HR.out ?_
  rintro e w1 ⟨rfl, B1⟩
  obtain ⟨W, hW⟩ : ∃ W, W = w1.alloc (.cells #[.int .i64 (k : Int), .int .i64 (t : Int), .int .u64 (a : Int), .int .i64 (sd : Int), .int .i64 (pr : Int)] 157) := ⟨_, rfl⟩
  have BW : Below w.heap.size w W := by rw [hW]; exact B1.alloc B1.size _
  have szW : W.heap.size = w1.heap.size + 1 := by rw [hW]; simp
  have rb : W.heap[w1.heap.size]? = some (.cells #[.int .i64 (k : Int), .int .i64 (t : Int), .int .u64 (a : Int), .int .i64 (sd : Int), .int .i64 (pr : Int)] 157) := by rw [hW]; exact heap_alloc_new w1 _
  have r0 : W.cell? ⟨w1.heap.size, 0, none⟩ = some (.int .i64 (k : Int)) := by simp [World.cell?, rb]
  have r1 : W.cell? ⟨w1.heap.size, 1, none⟩ = some (.int .i64 (t : Int)) := by simp [World.cell?, rb]
  have r2 : W.cell? ⟨w1.heap.size, 2, none⟩ = some (.int .u64 (a : Int)) := by simp [World.cell?, rb]
  have r3 : W.cell? ⟨w1.heap.size, 3, none⟩ = some (.int .i64 (sd : Int)) := by simp [World.cell?, rb]
  have r4 : W.cell? ⟨w1.heap.size, 4, none⟩ = some (.int .i64 (pr : Int)) := by simp [World.cell?, rb]
  have m14 := (hK.below BW).at_.all.c14
  have lk : (Instr.lookup 128 (.map (some s.bd)) (.int .i64 (k : Int)) false).run Try.prog W.drew = .ok (.func (.func fn) #[] caps) W.drew := by
    have h1 : MapF Try.prog 3 W.drew s.bd 11 Fd := hB.kept (BW.block _ hB.lt)
    have := h1.look K3 Try.underlying128 (z147 W.drew) (i := k) (by omega) (key3 k (by omega))
    rw [hF] at this
    exact this
  have HD : Aside (Calls Try.prog fn (#[.agg #[.int .i64 (k : Int), .int .i64 (t : Int), .int .u64 (a : Int), .int .i64 (sd : Int), .int .i64 (pr : Int)]] ++ caps) W.drew (Deed m s W.drew R)) := hD W.drew ⟨BW.os, BW.tape, BW.output, BW.size, BW.block⟩
  go_wp2_with fail
  rw [← hW]
  clear hW
  clear hD
  refine Calls.mono (f := 94) (HCh.out _) ?_
  rintro e w4 ⟨rfl, rfl⟩
  have fl := hK.foot_lt
  have HFL : Aside (∀ j, Foot m s j → j < w.heap.size) := fl
  have szw : w.heap.size ≤ w1.heap.size := B1.size
  have HMX : Aside (m < w.heap.size) := hK.at_.lt
  have HBW : Aside (Below w.heap.size w w4) := BW
  clear hK hB hF B1 BW rb HR
  go_wp2_with fail
  go_cut [8] from 9 (fun vc w3 => ∃ (c : UInt8) (vu : Value), vc = .int .u8 (c.toNat : Int) ∧ Aside (Deed m s w4.drew R (.returned (.tuple #[.int .u8 (c.toNat : Int), vu])) w3))
  case first =>
    go_region_with (go_at_fn fn; refine Calls.mono (f := fn) HD.out ?_; rintro e w3 ⟨s', u, c, told, d1, rfl, d2, d3, d4, d5, d6⟩)
    all_goals (
      go_wp2_with fail
      go_meet
      exact ⟨c, u, rfl, s', u, c, told, d1, rfl, d2, d3, d4, d5, d6⟩)
  case rest =>
    obtain ⟨c, vu, rfl, DD⟩ := hcut
    obtain ⟨s', u, c', told, d1, d0, d2, d3, d4, d5, d6⟩ := DD.out
    injection d0 with d0
    injection d0 with d0
    have e1 : c' = c := by
      have := congrArg (fun l : Array Value => l[0]?) d0
      simp at this
      exact UInt8.toNat_inj.1 (by omega)
    subst e1
    have ST : Aside (Step m s w s' wc) := Step.trans (s1 := s) (w1 := w4.drew) ⟨((Onl.refl _ w).below (show Below w.heap.size w w4.drew from ⟨HBW.out.os, HBW.out.tape, HBW.out.output, HBW.out.size, HBW.out.block⟩)), fun _ h => Or.inl h, rfl⟩ d5
    have HK3 : Aside (Mkt wc m s' R.1) := d4
    have HD1 : Aside (R.2 = c' :: told) := d1
    clear d0 d1 d2 d3 d4 d5 d6 DD HD r0 r1 r2 r3 r4 m14 lk hCF
    by_cases hc : c' = 0
    · subst hc
      obtain ⟨W2, hW2⟩ : ∃ W2, W2 = wc.setCell ⟨m, 2, none⟩ (.int .i64 T) := ⟨_, rfl⟩
      have C := HK3.out.at_.all
      have c2 := C.c2
      have f2 := C.fr 2
      have M1 : MkAt W2 m { s' with time := T } := by rw [hW2]; exact HK3.out.at_.setTime T
      have O1 : Onl (· = m) wc W2 := by rw [hW2]; exact (Onl.refl _ wc).set _ _ (Or.inl rfl)
      have K2 : Aside (Mkt W2 m { s' with time := T } { R.1 with time := T }) := HK3.out.onTime T M1 O1
      have S2 : Aside (Step m s w { s' with time := T } W2) := ST.out.trans (Step.onTime T O1)
      obtain ⟨tn, htn⟩ := Int.eq_ofNat_of_zero_le hT.1
      have HWr : Aside _ := write_any W2 m { s' with time := T } R.1.jr r tn K2.out.at_ K2.out.jrn K2.out.apart.jm htn (by omega) hrl hRj
      have EW : Aside (rptO T r R = some { R.1 with time := T, jr := R.1.jr ++ recB tn r }) := by
        show _ = _
        unfold rptO
        rw [if_pos ⟨by rw [HD1.out]; rfl, by omega⟩]
        have hrec : Ex.record T r = recB tn r := by
          unfold Ex.record recB
          rw [htn]
          rfl
        rw [hrec]
      clear htn hT C M1 O1
      go_wp2_with fail
      rw [← hW2]
      clear hW2
      refine Calls.mono (f := 95) HWr.out ?_
      rintro e w5 ⟨v, rfl, M5, J5, O5, L5⟩
      go_wp2
      go_ret
      rw [EW.out]
      exact ⟨{ s' with time := T, jv := v }, rfl, K2.out.onJr v _ M5 O5 J5, S2.out.trans (Step.onJr v O5 L5)⟩
    · have hcn : ((c'.toNat : Int) != 0) = true := bne_iff_ne.2 (fun e => hc (UInt8.toNat_inj.1 (by show c'.toNat = 0; omega)))
      have EX : Aside (R.1 = x) := hRx (by rw [HD1.out]; exact hc)
      have EW : Aside (rptO T r R = none) := by
        show _ = _
        unfold rptO
        rw [if_neg (fun h => hc (by have := h.1; rw [HD1.out] at this; exact this))]
      clear hc
      go_wp2
      go_ret
      rw [EW.out]
      refine ⟨s', rfl, ?_, ST.out⟩
      show Mkt _ _ _ x
      rw [← EX.out]
      exact HK3.out
end Go.Proofs.Ytjfifaooimgbaaa
/- Every request of a record. -/
namespace Go.Proofs.Ytjfifaooimgbaaa
open Go.Shelf Go.RowKit Go.Lib Go.Sort

section
variable {w : World} {m : Nat} {s : MkS} {x : Ex.Xch} {bx gx : Nat → Nat} (hK : Mkt w m s x) (hB : Bxs w s.bd m bx gx) (hj : x.jr.length ≤ 17592186044416)
include hK
theorem rpt_none {B' : World} (B : Below w.heap.size w B') {o : Option Ex.Xch} (h : o = none) : Rpt m s w x o (.returned (.bool false)) B' := by
  rw [h]
  exact ⟨s, rfl, hK.below B, (Step.refl m s w).below B⟩
theorem rq_no (T : Int) (r : List UInt8) (c : UInt8) (hc : c ≠ 0) (k t a sd pr : Nat) (hR : Calls Try.prog 93 #[.string ⟨r.toArray⟩] w fun e w' => e = .returned (.tuple #[reqV k t a sd pr, .int .u8 (c.toNat : Nat)]) ∧ Below w.heap.size w w') : Calls Try.prog 90 #[.pointer (some ⟨m, 0, none⟩), .int .i64 T, .string ⟨r.toArray⟩] w (Rpt m s w x (rptO T r (x, [c]))) := by
  refine (rep_no w m T r k t a sd pr c.toNat (fun e => hc (UInt8.toNat_inj.1 e)) hR).mono ?_
  rintro e w' ⟨rfl, B⟩
  exact rpt_none hK B (if_neg (fun h => hc h.1))
theorem rq_ask (T : Int) (r : List UInt8) (k t a sd pr : Nat) (R : Ex.Xch × List UInt8) (hk : 6 < k) (hr0 : (r.getD 0 0).toNat = k) (hR : Calls Try.prog 93 #[.string ⟨r.toArray⟩] w fun e w' => e = .returned (.tuple #[reqV k t a sd pr, .int .u8 0]) ∧ Below w.heap.size w w') : Calls Try.prog 90 #[.pointer (some ⟨m, 0, none⟩), .int .i64 T, .string ⟨r.toArray⟩] w (Rpt m s w x (rptO T r R)) := by
  refine (rep_ask w m T r k t a sd pr hk hR).mono ?_
  rintro e w' ⟨rfl, B⟩
  exact rpt_none hK B (if_neg (fun h => by have := h.2; omega))
include hB hj in
theorem rq_go (T : Int) (hT : 0 ≤ T ∧ T ≤ 1125899906842624) (r : List UInt8) (k t a sd pr fn : Nat) (caps : Array Value) (R : Ex.Xch × List UInt8)
    (hR : Calls Try.prog 93 #[.string ⟨r.toArray⟩] w fun e w' => e = .returned (.tuple #[reqV k t a sd pr, .int .u8 0]) ∧ Below w.heap.size w w')
    (hF : deedF bx gx k = some (.func (.func fn) #[] caps)) (hk : 1 ≤ k ∧ k ≤ 6) (hr0 : (r.getD 0 0).toNat = k) (hrl : r.length ≤ 1000) (hRj : R.1.jr = x.jr) (hRx : R.2.getD 0 0 ≠ 0 → R.1 = x)
    (hCF : ∀ w, (callFunc fn (#[.agg #[.int .i64 (k : Int), .int .i64 (t : Int), .int .u64 (a : Int), .int .i64 (sd : Int), .int .i64 (pr : Int)]] ++ caps)).run Try.prog w = .ok (.enter fn (#[.agg #[.int .i64 (k : Int), .int .i64 (t : Int), .int .u64 (a : Int), .int .i64 (sd : Int), .int .i64 (pr : Int)]] ++ caps)) w)
    (hD : ∀ w0, Mkt w0 m s x → Bxs w0 s.bd m bx gx → Calls Try.prog fn (#[reqV k t a sd pr] ++ caps) w0 (Deed m s w0 R)) :
    Calls Try.prog 90 #[.pointer (some ⟨m, 0, none⟩), .int .i64 T, .string ⟨r.toArray⟩] w (Rpt m s w x (rptO T r R)) :=
  rep_go w m s x T r k t a sd pr fn caps R (deedF bx gx) hR hK hB.map hF hk hr0 hrl (by rw [hRj]; exact hj) hT hRx hCF (fun w0 b => hD w0 (hK.below b) (hB.below b))
end

set_option maxRecDepth 100000 in
theorem repeatRequest_any (CO : CancelOk) {w : World} {m : Nat} {s : MkS} {x : Ex.Xch} {bx gx : Nat → Nat} (hK : Mkt w m s x) (ok : Ex.Ok x) (hB : Bxs w s.bd m bx gx) (hj : x.jr.length ≤ 17592186044416) (T : Int) (hT : 0 ≤ T ∧ T ≤ 1125899906842624) (r : List UInt8) (hrl : r.length ≤ 1000) :
    Calls Try.prog 90 #[.pointer (some ⟨m, 0, none⟩), .int .i64 T, .string ⟨r.toArray⟩] w (Rpt m s w x (rptO T r (Ex.answerX x r))) := by
  cases r with
  | nil => exact rq_no hK T [] 1 (by decide) 0 0 0 0 0 (read_nil w)
  | cons k rest =>
    by_cases h1 : Ex.longOf k.toNat = 0 ∨ (k :: rest).length ≠ Ex.longOf k.toNat
    · have e : Ex.answerX x (k :: rest) = (x, [1]) := by
        unfold Ex.answerX
        exact if_pos h1
      rw [e]
      exact rq_no hK T _ 1 (by decide) 0 0 0 0 0 (read_len k rest w (by
        rw [List.length_cons] at h1
        omega))
    · have hlen : rest.length + 1 = Ex.longOf k.toNat := by rw [List.length_cons] at h1; omega
      have hl0 : Ex.longOf k.toNat ≠ 0 := by omega
      have e0 : Ex.answerX x (k :: rest) = (if 20 ≤ (if Ex.longOf k.toNat = 1 then 0 else ((k :: rest).getD 1 0).toNat) then (x, [2]) else if Ex.longOf k.toNat = 10 then Ex.movesX x k.toNat (if Ex.longOf k.toNat = 1 then 0 else ((k :: rest).getD 1 0).toNat) (numOf ((k :: rest).drop 2)) else if k.toNat = 5 then Ex.ordersX x (if Ex.longOf k.toNat = 1 then 0 else ((k :: rest).getD 1 0).toNat) ((k :: rest).getD 2 0).toNat (numOf ((k :: rest).drop 3)) else if k.toNat = 6 then Ex.cancelX x (if Ex.longOf k.toNat = 1 then 0 else ((k :: rest).getD 1 0).toNat) else (x, Ex.tellsX x k.toNat (if Ex.longOf k.toNat = 1 then 0 else ((k :: rest).getD 1 0).toNat))) := by
        unfold Ex.answerX
        exact if_neg h1
      cases rest with
      | nil =>
        have hk : k = 8 ∨ k = 10 := by
          have h2 : Ex.longOf k.toNat = 1 := by simpa using hlen.symm
          unfold Ex.longOf at h2
          have h3 : k.toNat = 8 ∨ k.toNat = 10 := by
            split at h2
            · omega
            · split at h2
              · omega
              · split at h2
                · omega
                · split at h2 <;> omega
          rcases h3 with h | h
          · exact Or.inl (UInt8.toNat_inj.1 h)
          · exact Or.inr (UInt8.toNat_inj.1 h)
        rcases hk with rfl | rfl
        · have e : Ex.answerX x [8] = (x, Ex.tellsX x 8 0) := e0
          rw [e]
          exact rq_ask hK T [8] 8 0 0 0 0 _ (by decide) rfl (read_one8 w)
        · have e : Ex.answerX x [10] = (x, Ex.tellsX x 10 0) := e0
          rw [e]
          exact rq_ask hK T [10] 10 0 0 0 0 _ (by decide) rfl (read_one10 w)
      | cons t rest =>
        have hcl : (k.toNat = 1 ∨ k.toNat = 2 ∨ k.toNat = 3 ∨ k.toNat = 4) ∧ Ex.longOf k.toNat = 10 ∨ k.toNat = 5 ∧ Ex.longOf k.toNat = 5 ∨ (k.toNat = 6 ∨ k.toNat = 7 ∨ k.toNat = 9) ∧ Ex.longOf k.toNat = 2 := by
          rw [List.length_cons] at hlen
          generalize hL : Ex.longOf k.toNat = L at *
          unfold Ex.longOf at hL
          split at hL
          · omega
          · split at hL
            · omega
            · split at hL
              · omega
              · split at hL <;> omega
        by_cases ht : 20 ≤ t.toNat
        · have e : Ex.answerX x (k :: t :: rest) = (x, [2]) := by
            rw [e0]
            have : (if Ex.longOf k.toNat = 1 then 0 else ((k :: t :: rest).getD 1 0).toNat) = t.toNat := by
              rw [if_neg (by omega)]; rfl
            rw [this]
            exact if_pos ht
          rw [e]
          exact rq_no hK T _ 2 (by decide) 0 0 0 0 0 (read_trader k t rest w (by rw [List.length_cons] at hlen; omega) ht)
        · have ht' : t.toNat < 20 := by omega
          rcases hcl with ⟨hk, hL⟩ | ⟨hk, hL⟩ | ⟨hk, hL⟩
          · have hr8 : rest.length = 8 := by rw [List.length_cons] at hlen; omega
            have hnum : numOf rest < 18446744073709551616 := by
              have := num_lt rest
              rw [hr8] at this
              exact this
            have hk' : k = 1 ∨ k = 2 ∨ k = 3 ∨ k = 4 := by
              rcases hk with h | h | h | h
              · exact Or.inl (UInt8.toNat_inj.1 h)
              · exact Or.inr (Or.inl (UInt8.toNat_inj.1 h))
              · exact Or.inr (Or.inr (Or.inl (UInt8.toNat_inj.1 h)))
              · exact Or.inr (Or.inr (Or.inr (UInt8.toNat_inj.1 h)))
            rcases hk' with rfl | rfl | rfl | rfl
            · have e : Ex.answerX x (1 :: t :: rest) = Ex.movesX x 1 t.toNat (numOf rest) := by rw [e0]; exact if_neg ht
              rw [e]
              exact rq_go hK hB hj T hT (1 :: t :: rest) 1 t.toNat (numOf rest) 0 0 115 _ (Ex.movesX x 1 t.toNat (numOf rest)) (read_amt1 t rest ht' hr8 hnum w) rfl (by decide) rfl hrl (moves_keep _ _ _ _).1 (Ex.moves_no _ _ _ _) (fun w => by kernel_rfl) (fun w0 k0 b0 => deed_put w0 m (bx 1) (gx 1) t.toNat (numOf rest) s x (b0.box 1 (by decide) (by decide)) k0 ok ht' hnum 1 0 (by decide) (b0.good 1 (by decide) (by decide)))
            · have e : Ex.answerX x (2 :: t :: rest) = Ex.movesX x 2 t.toNat (numOf rest) := by rw [e0]; exact if_neg ht
              rw [e]
              exact rq_go hK hB hj T hT (2 :: t :: rest) 2 t.toNat (numOf rest) 0 0 117 _ (Ex.movesX x 2 t.toNat (numOf rest)) (read_amt2 t rest ht' hr8 hnum w) rfl (by decide) rfl hrl (moves_keep _ _ _ _).1 (Ex.moves_no _ _ _ _) (fun w => by kernel_rfl) (fun w0 k0 b0 => deed_take w0 m (bx 2) (gx 2) t.toNat (numOf rest) s x (b0.box 2 (by decide) (by decide)) k0 ok ht' hnum 2 0 (by decide) (b0.good 2 (by decide) (by decide)))
            · have e : Ex.answerX x (3 :: t :: rest) = Ex.movesX x 3 t.toNat (numOf rest) := by rw [e0]; exact if_neg ht
              rw [e]
              exact rq_go hK hB hj T hT (3 :: t :: rest) 3 t.toNat (numOf rest) 0 0 115 _ (Ex.movesX x 3 t.toNat (numOf rest)) (read_amt3 t rest ht' hr8 hnum w) rfl (by decide) rfl hrl (moves_keep _ _ _ _).1 (Ex.moves_no _ _ _ _) (fun w => by kernel_rfl) (fun w0 k0 b0 => deed_put w0 m (bx 3) (gx 3) t.toNat (numOf rest) s x (b0.box 3 (by decide) (by decide)) k0 ok ht' hnum 3 1 (by decide) (b0.good 3 (by decide) (by decide)))
            · have e : Ex.answerX x (4 :: t :: rest) = Ex.movesX x 4 t.toNat (numOf rest) := by rw [e0]; exact if_neg ht
              rw [e]
              exact rq_go hK hB hj T hT (4 :: t :: rest) 4 t.toNat (numOf rest) 0 0 117 _ (Ex.movesX x 4 t.toNat (numOf rest)) (read_amt4 t rest ht' hr8 hnum w) rfl (by decide) rfl hrl (moves_keep _ _ _ _).1 (Ex.moves_no _ _ _ _) (fun w => by kernel_rfl) (fun w0 k0 b0 => deed_take w0 m (bx 4) (gx 4) t.toNat (numOf rest) s x (b0.box 4 (by decide) (by decide)) k0 ok ht' hnum 4 1 (by decide) (b0.good 4 (by decide) (by decide)))
          · obtain rfl : k = 5 := UInt8.toNat_inj.1 hk
            match rest, hlen, hrl, e0 with
            | [], hlen, _, _ => rw [hL] at hlen; simp at hlen
            | sd :: l, hlen, hrl, e0 =>
              have hl2 : l.length = 2 := by rw [List.length_cons, List.length_cons] at hlen; omega
              have hnum : numOf l < 65536 := by
                have := num_lt l
                rw [hl2] at this
                exact this
              have e : Ex.answerX x (5 :: t :: sd :: l) = Ex.ordersX x t.toNat sd.toNat (numOf l) := by rw [e0]; exact if_neg ht
              rw [e]
              exact rq_go hK hB hj T hT (5 :: t :: sd :: l) 5 t.toNat 0 sd.toNat (numOf l) 119 _ (Ex.ordersX x t.toNat sd.toNat (numOf l)) (read_ord t sd l ht' hl2 hnum w) rfl (by decide) rfl hrl (orders_keep _ _ _ _).1 (Ex.orders_no _ _ _ _) (fun w => by kernel_rfl) (fun w0 k0 b0 => deed_order w0 m (bx 5) t.toNat sd.toNat (numOf l) s x (b0.box 5 (by decide) (by decide)) k0 ok ht' hnum)
          · have hr0 : rest = [] := by
              rw [List.length_cons] at hlen
              exact List.length_eq_zero_iff.1 (by omega)
            subst hr0
            have hk' : k = 6 ∨ k = 7 ∨ k = 9 := by
              rcases hk with h | h | h
              · exact Or.inl (UInt8.toNat_inj.1 h)
              · exact Or.inr (Or.inl (UInt8.toNat_inj.1 h))
              · exact Or.inr (Or.inr (UInt8.toNat_inj.1 h))
            rcases hk' with rfl | rfl | rfl
            · have e : Ex.answerX x [6, t] = Ex.cancelX x t.toNat := by rw [e0]; exact if_neg ht
              rw [e]
              exact rq_go hK hB hj T hT [6, t] 6 t.toNat 0 0 0 123 _ (Ex.cancelX x t.toNat) (read_two6 t ht' w) rfl (by decide) rfl hrl (cancel_keep _ _).1 (Ex.cancel_no _ _) (fun w => by kernel_rfl) (fun w0 k0 b0 => CO w0 m (bx 6) t.toNat s x (b0.box 6 (by decide) (by decide)) k0 ok ht')
            · have e : Ex.answerX x [7, t] = (x, Ex.tellsX x 7 t.toNat) := by rw [e0]; exact if_neg ht
              rw [e]
              exact rq_ask hK T [7, t] 7 t.toNat 0 0 0 _ (by decide) rfl (read_two7 t ht' w)
            · have e : Ex.answerX x [9, t] = (x, Ex.tellsX x 9 t.toNat) := by rw [e0]; exact if_neg ht
              rw [e]
              exact rq_ask hK T [9, t] 9 t.toNat 0 0 0 _ (by decide) rfl (read_two9 t ht' w)
end Go.Proofs.Ytjfifaooimgbaaa
