import Derived.Test.YtjfifaooimgbaaaPl
import Derived.Test.YtjfifaooimgbaaaHx
/- The walks of plays and Honest, of any exchange that keeps its contract. -/
namespace Go.Proofs.Ytjfifaooimgbaaa
open Go.Shelf Go.RowKit Go.Lib Go.Sort

variable {Rep : World → (Nat → Prop) → Nat → Ex.Xch → Prop}

theorem byte_zero (c : UInt8) : ((c.toNat : Int) == 0) = (c == 0) := by
  by_cases h : c = 0
  · subst h; rfl
  · have h1 : (c == 0) = false := beq_eq_false_iff_ne.2 h
    have h2 : c.toNat ≠ 0 := fun e => h (by
      apply UInt8.toNat_inj.1
      simpa using e)
    rw [h1]
    exact beq_eq_false_iff_ne.2 (by omega)

/-- a floor behind the world w. -/
structure Pst (Rep : World → (Nat → Prop) → Nat → Ex.Xch → Prop) (w wq : World) (S : Nat → Prop) (f p : Nat) (now cash units : Int) (x : Ex.Xch) : Prop where
  fl : Fl Rep wq S f p now cash units x
  below : Below w.heap.size w wq
  s : ∀ k, S k → w.heap.size ≤ k
  f : w.heap.size ≤ f

theorem Pst.up (E : Exch Rep) {w wq w' : World} {S : Nat → Prop} {f p : Nat} {now cash units : Int} {x : Ex.Xch} (h : Pst Rep w wq S f p now cash units x) (b : Below wq.heap.size wq w') : Pst Rep w w' S f p now cash units x :=
  ⟨h.fl.up E b, h.below.trans (b.mono h.below.size), h.s, h.f⟩

theorem Gone.below' {S S' : Nat → Prop} {w wq w' : World} (g : Gone S S' wq w') (b : Below w.heap.size w wq) (hs : ∀ k, S k → w.heap.size ≤ k) : Below w.heap.size w w' ∧ ∀ k, S' k → w.heap.size ≤ k :=
  ⟨b.trans (g.only.below hs b.size), fun k hk => by
    rcases g.sub k hk with h | h
    · exact hs k h
    · have := b.size; omega⟩

theorem pst_asks (E : Exch Rep) {w wq : World} {S : Nat → Prop} {f p : Nat} {now cash units : Int} {x : Ex.Xch} (h : Pst Rep w wq S f p now cash units x) (ok : Ex.Ok x) (r : List UInt8) (h0 : 0 ≤ now) (h1 : now ≤ 9223372036854775807) (hj : x.jr.length ≤ 1099511627776) (hr : r.length ≤ 1000) :
    Calls Try.prog 29 #[.pointer (some ⟨f, 0, none⟩), .string ⟨r.toArray⟩] wq fun e w' => ∃ S', e = .returned (.string ⟨(Ex.doX x now r).2.toArray⟩) ∧ Pst Rep w w' S' f p now cash units (Ex.doX x now r).1 := by
  refine Calls.mono (f := 29) (fl_asks E h.fl ok r h0 h1 hj hr) ?_
  rintro e w' ⟨S', q1, q2, q3, q4⟩
  obtain ⟨a, b⟩ := Gone.below' ⟨q4, q3⟩ h.below h.s
  exact ⟨S', q1, q2, a, b, h.f⟩

theorem pst_others (E : Exch Rep) {w wq : World} {S : Nat → Prop} {f p : Nat} {now cash units : Int} {x : Ex.Xch} (h : Pst Rep w wq S f p now cash units x) (ok : Ex.Ok x) (h0 : 0 ≤ now) (h1 : now ≤ 1152921504606846976) (hj : x.jr.length ≤ 1099011627776)
    (hc : -1000000000000 ≤ cash ∧ cash ≤ 1000000000000) (hu : -1000000000000 ≤ units ∧ units ≤ 1000000000000) (l : List (Int × Int × Int)) (a : Option Addr) (cap : Nat) (hM : MovesAt w a l) (hw : ∀ i, i < l.length → I64 (l.getD i (0, 0, 0)).1 ∧ I64 (l.getD i (0, 0, 0)).2.1 ∧ I64 (l.getD i (0, 0, 0)).2.2) (hl : l.length ≤ 1048576) :
    Calls Try.prog 47 #[.pointer (some ⟨f, 0, none⟩), .slice a l.length cap] wq fun e w' => ∃ S' cash' units', e = .returned (.tuple #[]) ∧ Pst Rep w w' S' f p now cash' units' (othTo x now l l.length) ∧ (-5000000000 + cash ≤ cash' ∧ cash' ≤ 5000000000 + cash) ∧ (-5000000000 + units ≤ units' ∧ units' ≤ 5000000000 + units) := by
  have hMq : MovesAt wq a l := hM.up h.below
  have hap : 0 < l.length → ∀ b o, a = some ⟨b, o, none⟩ → ¬ S b ∧ b ≠ f := fun hpos b o hb => by
    obtain ⟨b', o', e, hlt, _⟩ := hM 0 (by omega)
    rw [e] at hb
    injection hb with hb
    injection hb with e1 e2
    subst e1
    exact ⟨fun hs => by have := h.s b' hs; omega, fun e => by have := h.f; omega⟩
  refine Calls.mono (f := 47) (others_any E h.fl ok h0 h1 hj hc hu l a cap hMq hap hw hl) ?_
  rintro e w' ⟨S', c', u', q1, q2, q3, q4, q5⟩
  obtain ⟨x1, x2⟩ := q3.below' h.below (fun k hk => by
    rcases hk with hk | hk
    · exact h.s k hk
    · rw [hk]; exact h.f)
  exact ⟨S', c', u', q1, ⟨q2, x1, fun k hk => x2 k (Or.inl hk), h.f⟩, q4, q5⟩

set_option maxHeartbeats 4000000 in
set_option maxRecDepth 100000 in
theorem plays_any (E : Exch Rep) (ahead behind : List (Int × Int × Int)) (a1 a2 : Option Addr) (c1 c2 : Nat) (side price : Nat) (v : Int) (w : World) (hM1 : MovesAt w a1 ahead) (hM2 : MovesAt w a2 behind)
    (hw1 : ∀ i, i < ahead.length → I64 (ahead.getD i (0, 0, 0)).1 ∧ I64 (ahead.getD i (0, 0, 0)).2.1 ∧ I64 (ahead.getD i (0, 0, 0)).2.2) (hw2 : ∀ i, i < behind.length → I64 (behind.getD i (0, 0, 0)).1 ∧ I64 (behind.getD i (0, 0, 0)).2.1 ∧ I64 (behind.getD i (0, 0, 0)).2.2)
    (hl1 : ahead.length ≤ 1048576) (hl2 : behind.length ≤ 1048576) (hs : side = 0 ∨ side = 1) (hv : 1 ≤ v ∧ v ≤ 999) :
    Calls Try.prog 33 #[.slice a1 ahead.length c1, .slice a2 behind.length c2, .int .i64 side, .int .i64 price, .int .i64 v] w fun e w' => e = .returned (.tuple #[.int .i64 (playGain ahead behind side price v), .bool (playTold ahead side price), .bool true]) ∧ Below w.heap.size w w' := by
  have mixed : Try.prog.follows .mixedOrders = true := by kernel_rfl
  obtain ⟨⟨okA, jA⟩, ⟨okB, jB⟩, ⟨okC, jC⟩, ⟨okD, jD⟩⟩ := play_ok ahead behind side price hl1 hl2
  have HB : Aside (∀ (n m : Nat) W, m ≤ 1000 → Calls Try.prog 30 #[.int .i64 n, .int .i64 m] W fun e w' => e = .returned (.string ⟨(bytesOf n m).toArray⟩) ∧ w' = rowed W (bytesOf n m)) := fun n m W hm => bytesK_any n m W hm
  have M1 : Aside (MovesAt w a1 ahead) := hM1
  have M2 : Aside (MovesAt w a2 behind) := hM2
  clear hM1 hM2
  go_enter Try.func33, Try.ntmps33
  go_wp2_with fail
  refine (opened_any E 99 19 (by decide) (by decide) w).mono ?_
  rintro e w0 ⟨f, p, S0, rfl, F0, R0, nS0, hfw, s0, B0⟩
  have P0 : Pst Rep w w0 S0 f p 0 1000 0 begun0 := ⟨⟨F0, R0, nS0⟩, B0, s0, hfw⟩
  have hfu := funded_any E P0.fl begun0_ok.1 (by decide) (by decide) (by show (Ex.record 0 (1 :: 0 :: bytesOf 1000 8)).length ≤ _; rw [Ex.record_length]; simp [bytesOf_length]) fund_resp.1 fund_resp.2
  have HFU : Aside _ := hfu
  have PP0 : Aside (Pst Rep w w0 S0 f p 0 1000 0 begun0) := P0
  clear F0 R0 nS0 s0 B0 P0 hfu
  go_wp2_with fail
  refine Calls.mono (f := 32) HFU.out ?_
  rintro e w1 ⟨S1, rfl, F1, G1⟩
  obtain ⟨y1, y2⟩ := G1.below' PP0.out.below PP0.out.s
  have P1 : Pst Rep w w1 S1 f p 0 1000 0 fund0 := ⟨F1, y1, y2, hfw⟩
  have hoa := pst_others E P1 fund0_ok.1 (by decide) (by decide) (by have := fund0_ok.2; omega) (by decide) (by decide) ahead a1 c1 M1.out hw1 hl1
  have HOA : Aside _ := hoa
  clear HFU PP0 F1 G1 y1 y2 P1 hoa
  go_wp2_with fail
  refine Calls.mono (f := 47) HOA.out ?_
  rintro e w2 ⟨S2, cash2, units2, rfl, P2, bc2, bu2⟩
  have PP2 : Aside (Pst Rep w w2 S2 f p 0 cash2 units2 (playA ahead)) := P2
  clear P2 HOA
  have hls : (bytesOf side 1).length = 1 := bytesOf_length _ _
  have hlp : (bytesOf price 2).length = 2 := bytesOf_length _ _
  have cat1 : ({ data := #[5, 0] } : ByteArray) ++ { data := (bytesOf side 1).toArray } = { data := (5 :: 0 :: bytesOf side 1).toArray } := cat_txt [5, 0] _
  have cat2 : ({ data := (5 :: 0 :: bytesOf side 1).toArray } : ByteArray) ++ { data := (bytesOf price 2).toArray } = { data := (askO side price).toArray } := cat_txt (5 :: 0 :: bytesOf side 1) _
  have la : (askO side price).length = 5 := by simp [askO, bytesOf_length]
  go_wp2_with fail
  refine Calls.mono (f := 30) (HB.out side 1 w2 (by decide)) ?_
  rintro e w3 ⟨rfl, hw3⟩
  have HW3 : Aside _ := hw3
  clear hw3
  go_wp2_with fail
  refine Calls.mono (f := 30) (HB.out price 2 w3 (by decide)) ?_
  rintro e w4 ⟨rfl, hw4⟩
  have B4 : Below w2.heap.size w2 w4 := by rw [hw4, HW3.out]; unfold rowed; exact ((Below.refl _ _).alloc (Nat.le_refl _) _).alloc (by simp) _
  have ha := pst_asks E (PP2.out.up E B4) okA (askO side price) (by decide) (by decide) (by omega) (by omega)
  have HA : Aside _ := ha
  clear hw4 HW3 B4 ha PP2
  go_wp2_with fail
  refine Calls.mono (f := 29) HA.out ?_
  rintro e w5 ⟨S5, rfl, P5⟩
  obtain ⟨c, rest, hcr⟩ := answer_ne (Ex.cleared (Ex.timed (playA ahead) 0)) (askO side price)
  have hcr' : (Ex.doX (playA ahead) 0 (askO side price)).2 = c :: rest := hcr
  have TOLD : Aside (playTold ahead side price = (c == 0)) := by
    show _ = _
    unfold playTold
    rw [hcr']
    rfl
  rw [hcr']
  have P5' : Pst Rep w w5 S5 f p 0 cash2 units2 (playB ahead side price) := P5
  have hob := pst_others E P5' okB (by decide) (by decide) (by omega) (by omega) (by omega) behind a2 c2 M2.out hw2 hl2
  have HOB : Aside _ := hob
  clear hcr hcr' HA P5 P5' hob
  go_wp2_with fail
  refine Calls.mono (f := 47) HOB.out ?_
  rintro e w6 ⟨S6, cash6, units6, rfl, P6, bc6, bu6⟩
  have P6' : Pst Rep w w6 S6 f p 0 cash6 units6 (playC ahead behind side price) := P6
  have y1 := blk_cell P6'.fl.fl 1
  have z1 := P6'.fl.fl.frozen 1
  have P7 : Pst Rep w (w6.setCell ⟨f, 1, none⟩ (.int .i64 1000)) S6 f p 1000 cash6 units6 (playC ahead behind side price) :=
    ⟨⟨P6'.fl.fl.set1 1000, E.set P6'.fl.rep P6'.fl.no _ _, P6'.fl.no⟩, P6'.below.setCell (p := ⟨f, 1, none⟩) P6'.f _, P6'.s, P6'.f⟩
  have ha := pst_asks E P7 okC [8] (by decide) (by decide) (by omega) (by decide)
  have HA : Aside _ := ha
  clear HOB P6 P6' P7 ha
  go_wp2_with fail
  refine Calls.mono (f := 29) HA.out ?_
  rintro e w8 ⟨S8, rfl, P8⟩
  have st : Ex.Still (playD ahead behind side price) 1000 := Ex.do_still okC 1000 [8]
  have P8' : Pst Rep w w8 S8 f p 1000 cash6 units6 (playD ahead behind side price) := P8
  have tl := Ex.tell st (k := 9) (by decide) 0 (by decide) [9, 0] rfl
  have ha := pst_asks E P8' okD [9, 0] (by decide) (by decide) (by omega) (by decide)
  rw [tl] at ha
  have HA2 : Aside _ := ha
  have pd := okD.paid 0
  have GAIN : Aside (playGain ahead behind side price v = if (playD ahead behind side price).traded 0 = true then (if side = 1 then -(v - (playD ahead behind side price).paid 0) else v - (playD ahead behind side price).paid 0) else 0) := rfl
  generalize (Ex.doX (playC ahead behind side price) 1000 [8]).2 = s8
  clear HA P8 P8' ha tl st y1 z1
  go_wp2_with fail
  refine Calls.mono (f := 29) HA2.out ?_
  rintro e w9 ⟨S9, rfl, P9⟩
  have B9 : Aside (Below w.heap.size w w9) := P9.below
  clear HA2 P9
  by_cases htr : (playD ahead behind side price).traded 0 = true
  · obtain ⟨pp, hpp⟩ : ∃ pp, (playD ahead behind side price).paid 0 = pp := ⟨_, rfl⟩
    have et : Ex.tellsX (playD ahead behind side price) (UInt8.toNat 9) (if Ex.longOf (UInt8.toNat 9) = 1 then 0 else 0) = 0 :: 1 :: bytesOf pp.toNat 2 := by
      show (if (playD ahead behind side price).traded 0 = true then 0 :: 1 :: bytesOf ((playD ahead behind side price).paid 0).toNat 2 else [0, 0, 0, 0]) = _
      rw [if_pos htr, hpp]
    rw [et]
    have g := GAIN.out
    rw [if_pos htr, hpp] at g
    rw [hpp] at pd
    have GG : Aside _ := g
    have lb : (bytesOf pp.toNat 2).length = 2 := bytesOf_length _ _
    have ex : ({ data := (0 :: 1 :: bytesOf pp.toNat 2).toArray } : ByteArray).extract 2 4 = { data := (bytesOf pp.toNat 2).toArray } := by
      rw [ext_txt]
      have : (0 :: 1 :: bytesOf pp.toNat 2 : List UInt8).take 4 = 0 :: 1 :: bytesOf pp.toNat 2 := List.take_of_length_le (by simp [lb])
      rw [this]
      rfl
    have hno : numOf (bytesOf pp.toNat 2) = pp.toNat := num_bytes _ _ (by omega)
    have hnum := numberK_any (bytesOf pp.toNat 2) w9 (by rw [lb]; decide) (by rw [hno]; omega)
    rw [hno, show ((pp.toNat : Nat) : Int) = pp by omega] at hnum
    unfold txt at hnum
    have HNUM : Aside _ := hnum
    clear g et hnum hno htr GAIN hpp
    have hc0 : ({ data := (c :: rest).toArray } : ByteArray)[0]'(by show 0 < (c :: rest).toArray.size; simp) = c := rfl
    rcases hs with rfl | rfl
    · have g2 : playGain ahead behind 0 price v = v - pp := GG.out
      have G3 : Aside _ := g2
      clear g2 GG
      go_wp2_with fail
      refine Calls.mono (f := 31) HNUM.out ?_
      rintro e w10 ⟨rfl, hw10⟩
      rw [hw10]
      clear hw10 w10 HNUM
      go_wp2_with fail
      go_quiet (fail)
      go_wp2
      go_ret3
      refine ⟨?_, ⟨B9.out.os, B9.out.tape, B9.out.output, B9.out.size, B9.out.block⟩⟩
      rw [G3.out, TOLD.out]
      show Ending.returned (Value.tuple #[.int .i64 (v - pp), .bool ((c.toNat : Int) == 0), .bool true]) = _
      rw [byte_zero]
    · have g2 : playGain ahead behind 1 price v = -(v - pp) := GG.out
      have G3 : Aside _ := g2
      clear g2 GG
      go_wp2_with fail
      refine Calls.mono (f := 31) HNUM.out ?_
      rintro e w10 ⟨rfl, hw10⟩
      rw [hw10]
      clear hw10 w10 HNUM
      go_wp2_with fail
      go_quiet (fail)
      go_wp2
      go_ret3
      refine ⟨?_, ⟨B9.out.os, B9.out.tape, B9.out.output, B9.out.size, B9.out.block⟩⟩
      rw [G3.out, TOLD.out]
      show Ending.returned (Value.tuple #[.int .i64 (-(v - pp)), .bool ((c.toNat : Int) == 0), .bool true]) = _
      rw [byte_zero]
  · have et : Ex.tellsX (playD ahead behind side price) (UInt8.toNat 9) (if Ex.longOf (UInt8.toNat 9) = 1 then 0 else 0) = [0, 0, 0, 0] := by
      show (if (playD ahead behind side price).traded 0 = true then 0 :: 1 :: bytesOf ((playD ahead behind side price).paid 0).toNat 2 else [0, 0, 0, 0]) = _
      rw [if_neg htr]
    rw [et]
    have g := GAIN.out
    rw [if_neg htr] at g
    have GG : Aside _ := g
    have hc0 : ({ data := (c :: rest).toArray } : ByteArray)[0]'(by show 0 < (c :: rest).toArray.size; simp) = c := rfl
    clear g et htr GAIN
    go_wp2_with fail
    go_quiet (fail)
    go_wp2
    go_ret3
    refine ⟨?_, ⟨B9.out.os, B9.out.tape, B9.out.output, B9.out.size, B9.out.block⟩⟩
    rw [GG.out, TOLD.out]
    show Ending.returned (Value.tuple #[.int .i64 0, .bool ((c.toNat : Int) == 0), .bool true]) = _
    rw [byte_zero]
#print axioms plays_any
end Go.Proofs.Ytjfifaooimgbaaa
/- The walk of Honest, of any exchange that keeps its contract. -/
namespace Go.Proofs.Ytjfifaooimgbaaa
open Go.Shelf Go.RowKit Go.Lib Go.Sort

variable {Rep : World → (Nat → Prop) → Nat → Ex.Xch → Prop}

/-- P9, through the exchange. -/
def HonestX : Prop := ∀ (ahead behind : List (Int × Int × Int)) (side v q : Nat), (side = 0 ∨ side = 1) → 1 ≤ v → v ≤ 999 → q < 65536 → playTold ahead side v = true → 0 ≤ playGain ahead behind side v v ∧ playGain ahead behind side q v ≤ playGain ahead behind side v v

set_option maxHeartbeats 4000000 in
set_option maxRecDepth 100000 in
theorem honest_any (HX : HonestX) (E : Exch Rep) (ahead behind : List (Int × Int × Int)) (a1 a2 : Option Addr) (c1 c2 : Nat) (side price other : Int) (h1 : I64 side) (h2 : I64 price) (h3 : I64 other) (w : World) (hM1 : MovesAt w a1 ahead) (hM2 : MovesAt w a2 behind)
    (hw1 : ∀ i, i < ahead.length → I64 (ahead.getD i (0, 0, 0)).1 ∧ I64 (ahead.getD i (0, 0, 0)).2.1 ∧ I64 (ahead.getD i (0, 0, 0)).2.2) (hw2 : ∀ i, i < behind.length → I64 (behind.getD i (0, 0, 0)).1 ∧ I64 (behind.getD i (0, 0, 0)).2.1 ∧ I64 (behind.getD i (0, 0, 0)).2.2)
    (hl1 : ahead.length ≤ 1048576) (hl2 : behind.length ≤ 1048576) :
    Calls Try.prog 9 #[.slice a1 ahead.length c1, .slice a2 behind.length c2, .int .i64 side, .int .i64 price, .int .i64 other] w fun e w' => e = .returned (.bool true) ∧ Below w.heap.size w w' := by
  have mixed : Try.prog.follows .mixedOrders = true := by kernel_rfl
  have HP : Aside (∀ (c : Int) (n : Nat) (W : World), 0 < n → n ≤ 9007199254740992 → I64 c → Calls Try.prog 23 #[.int .i64 c, .int .i64 n] W fun e w' => e = .returned (.int .i64 (pickN c n : Nat)) ∧ w' = W) := fun c n W h1 h2 h3 => pick_any c n W h1 h2 h3.1 h3.2
  have l1 := pickN_lt side 2 (by decide)
  have l2 := pickN_lt price 999 (by decide)
  have l3 := pickN_lt other 65536 (by decide)
  have HPS : Aside (∀ W, Calls Try.prog 23 #[.int .i64 side, .int .i64 2] W fun e w' => e = .returned (.int .i64 (pickN side 2 : Nat)) ∧ w' = W) := fun W => HP.out side 2 W (by decide) (by decide) h1
  have HPP : Aside (∀ W, Calls Try.prog 23 #[.int .i64 price, .int .i64 999] W fun e w' => e = .returned (.int .i64 (pickN price 999 : Nat)) ∧ w' = W) := fun W => HP.out price 999 W (by decide) (by decide) h2
  have HPO : Aside (∀ W, Calls Try.prog 23 #[.int .i64 other, .int .i64 65536] W fun e w' => e = .returned (.int .i64 (pickN other 65536 : Nat)) ∧ w' = W) := fun W => HP.out other 65536 W (by decide) (by decide) h3
  generalize pickN side 2 = sd at *
  generalize pickN price 999 = pr at *
  generalize pickN other 65536 = q at *
  obtain ⟨v, hv⟩ : ∃ v, v = 1 + pr := ⟨_, rfl⟩
  have hvi : (1 : Int) + (pr : Int) = (v : Int) := by omega
  have hx := HX ahead behind sd v q (by omega) (by omega) (by omega) l3
  have pA := fun W (m1 : MovesAt W a1 ahead) (m2 : MovesAt W a2 behind) => plays_any E ahead behind a1 a2 c1 c2 sd v v W m1 m2 hw1 hw2 hl1 hl2 (by omega) (by omega)
  have pB := fun W (m1 : MovesAt W a1 ahead) (m2 : MovesAt W a2 behind) => plays_any E ahead behind a1 a2 c1 c2 sd q v W m1 m2 hw1 hw2 hl1 hl2 (by omega) (by omega)
  generalize playGain ahead behind sd v v = ga at *
  generalize playGain ahead behind sd q v = gb at *
  generalize playTold ahead sd v = ta at *
  generalize playTold ahead sd q = tb at *
  have PA : Aside _ := pA
  have PB : Aside _ := pB
  have M1 : Aside (MovesAt w a1 ahead) := hM1
  have M2 : Aside (MovesAt w a2 behind) := hM2
  clear pA pB hM1 hM2 hv
  go_enter Try.func9, Try.ntmps9
  go_wp2_with fail
  refine Calls.mono (f := 23) (HPP.out _) ?_
  rintro e w1 ⟨rfl, hw1'⟩
  rw [hw1']
  clear hw1' w1
  go_wp2_with fail
  refine Calls.mono (f := 23) (HPS.out _) ?_
  rintro e w1 ⟨rfl, hw1'⟩
  rw [hw1']
  clear hw1' w1
  go_wp2_with fail
  refine Calls.mono (f := 33) (PA.out w M1.out M2.out) ?_
  rintro e w1 ⟨rfl, B1⟩
  have BB1 : Aside (Below w.heap.size w w1) := B1
  clear B1
  go_wp2_with fail
  refine Calls.mono (f := 23) (HPS.out _) ?_
  rintro e w2 ⟨rfl, hw2'⟩
  rw [hw2']
  clear hw2' w2
  go_wp2_with fail
  refine Calls.mono (f := 23) (HPO.out _) ?_
  rintro e w2 ⟨rfl, hw2'⟩
  rw [hw2']
  clear hw2' w2
  go_wp2_with fail
  refine Calls.mono (f := 33) (PB.out w1 (M1.out.up BB1.out) (M2.out.up BB1.out)) ?_
  rintro e w2 ⟨rfl, B2⟩
  have BB2 : Aside (Below w.heap.size w w2) := BB1.out.trans (B2.mono BB1.out.size)
  clear B2 BB1
  cases ta with
  | false =>
    go_wp2
    go_ret
    exact ⟨rfl, BB2.out⟩
  | true =>
    obtain ⟨x1, x2⟩ := hx rfl
    have d1 : decide (0 ≤ ga) = true := decide_eq_true x1
    have d2 : decide (gb ≤ ga) = true := decide_eq_true x2
    go_wp2
    go_ret
    exact ⟨rfl, BB2.out⟩
#print axioms honest_any
end Go.Proofs.Ytjfifaooimgbaaa
/- P9 through the exchange: what comes of it. -/
namespace Go.Proofs.Ytjfifaooimgbaaa
open Go.Shelf Go.RowKit Go.Lib Go.Sort

theorem play_one (ahead : List (Int × Int × Int)) : Ex.Twin none none z0 z0 (playA ahead) (playA ahead) := twin_oth ahead twin_fund _

theorem playB_eq (ahead : List (Int × Int × Int)) {side p : Nat} (hs : side = 0 ∨ side = 1) (hp : p < 65536) : playB ahead side p = Ex.written (Ex.ordersX (playA ahead) 0 side p).1 (askO side p) (Ex.ordersX (playA ahead) 0 side p).2 := by
  unfold playB
  rw [(play_one ahead).still.1.do_, askO_answer side p (by omega) hp]

theorem twin_start (ahead : List (Int × Int × Int)) {side v q : Nat} (hs : side = 0 ∨ side = 1) (h1 : 1 ≤ v) (h2 : v < 1000) (hq : q < 65536) :
    ∃ z z', Ex.Twin (some ⟨0, side, v⟩) (if 1 ≤ q ∧ q < 1000 then some ⟨0, side, q⟩ else none) z z' (playB ahead side v) (playB ahead side q) := by
  have T := play_one ahead
  rw [playB_eq ahead hs (by omega), playB_eq ahead hs hq]
  have ok := fun p => Ex.orders_ok T.okx (t := 0) (side := side) (price := p) (by decide)
  obtain ⟨pre, post, ex, _, n1, n2⟩ := T.ords
  have ex' : (playA ahead).ords = pre ++ post := by rw [ex]; simp [Ex.mid]
  have nn : ∀ o ∈ pre ++ post, o.who ≠ 0 := fun o ho => by
    rcases List.mem_append.1 ho with ho | ho
    · exact n1 o ho
    · exact n2 o ho
  obtain ⟨z, ez⟩ := order_yes T hs h1 h2
  have okv := ok v
  rw [ez] at okv ⊢
  by_cases hv : 1 ≤ q ∧ q < 1000
  · rw [if_pos hv]
    obtain ⟨z', ez'⟩ := order_yes T hs hv.1 hv.2
    have okq := ok q
    rw [ez'] at okq ⊢
    refine ⟨z, z', Ex.written_twin ⟨⟨Ex.upd_same (playA ahead).ps 0 z, Ex.upd_same (playA ahead).ps 0 z'⟩, okv.1, okq.1, T.time, T.fin, T.cap, fun t ht => ?_, okv.2.2.1.trans okq.2.2.1.symm, okv.2.2.2.trans okq.2.2.2.symm, ?_, fun q' hq' => ?_, fun q' hq' => ?_⟩ _ _ _ _⟩
    · show Ex.upd _ 0 z t = Ex.upd _ 0 z' t
      rw [Ex.upd_ne _ _ ht, Ex.upd_ne _ _ ht]
    · refine ⟨pre ++ post, [], ?_, ?_, nn, by simp⟩
      · show (playA ahead).ords ++ _ = _
        rw [ex']; simp [Ex.mid]
      · show (playA ahead).ords ++ _ = _
        rw [ex']; simp [Ex.mid]
    · injection hq' with hq'; rw [← hq']
    · injection hq' with hq'; rw [← hq']
  · rw [if_neg hv]
    have en := order_no (x := playA ahead) hs hv
    rw [en]
    refine ⟨z, z0, Ex.written_twin ⟨⟨Ex.upd_same (playA ahead).ps 0 z, T.ps0.2⟩, okv.1, T.oky, T.time, T.fin, T.cap, fun t ht => ?_, okv.2.2.1, okv.2.2.2, ?_, fun q' hq' => ?_, fun q' hq' => by cases hq'⟩ _ _ _ _⟩
    · show Ex.upd _ 0 z t = _
      rw [Ex.upd_ne _ _ ht]
    · refine ⟨pre ++ post, [], ?_, ?_, nn, by simp⟩
      · show (playA ahead).ords ++ _ = _
        rw [ex']; simp [Ex.mid]
      · rw [ex']; simp [Ex.mid]
    · injection hq' with hq'; rw [← hq']

/-- a batch is cleared at last. -/
theorem end_state {x : Ex.Xch} (h1 : x.time = 0) (h2 : x.fin = 100) : (Ex.doX x 1000 [8]).1.traded = (Ex.clearX (Ex.timed x 1000)).traded ∧ (Ex.doX x 1000 [8]).1.paid = (Ex.clearX (Ex.timed x 1000)).paid := by
  have e1 : Ex.cleared (Ex.timed x 1000) = { Ex.clearX (Ex.timed x 1000) with jr := x.jr ++ Ex.record (Ex.timed x 1000).time [] } := by
    unfold Ex.cleared
    rw [if_pos]
    · rfl
    · show x.fin ≤ (if x.time < (if (1125899906842624 : Int) < 1000 then 1125899906842624 else 1000) then (if (1125899906842624 : Int) < 1000 then 1125899906842624 else 1000) else x.time)
      rw [h1, h2]; decide
  have e2 : ∀ y : Ex.Xch, (Ex.answerX y [8]).1 = y := fun y => by
    unfold Ex.answerX
    rfl
  have e3 : ∀ (y : Ex.Xch) s, Ex.written y [8] s = y := fun y s => by
    unfold Ex.written
    rw [if_neg]
    rintro ⟨_, h⟩
    exact absurd h (by decide)
  show (Ex.written (Ex.answerX (Ex.cleared (Ex.timed x 1000)) [8]).1 [8] _).traded = _ ∧ (Ex.written (Ex.answerX (Ex.cleared (Ex.timed x 1000)) [8]).1 [8] _).paid = _
  rw [e3, e2, e1]
  exact ⟨rfl, rfl⟩

theorem getD_pre {α : Type} (pre : List α) (a : α) (post : List α) (d : α) : (pre ++ [a] ++ post).getD pre.length d = a := by
  rw [List.getD_eq_getElem?_getD, List.append_assoc, List.getElem?_append_right (Nat.le_refl _), Nat.sub_self]
  rfl
theorem getD_inpre {α : Type} (pre rest : List α) (d : α) {j : Nat} (h : j < pre.length) : (pre ++ rest).getD j d = pre.getD j d := by
  rw [List.getD_eq_getElem?_getD, List.getElem?_append_left h, List.getD_eq_getElem?_getD]
theorem getD_inpost {α : Type} (pre : List α) (a : α) (post : List α) (d : α) (j : Nat) : (pre ++ [a] ++ post).getD (pre.length + 1 + j) d = post.getD j d := by
  rw [List.getD_eq_getElem?_getD, List.getElem?_append_right (by simp), List.getD_eq_getElem?_getD]
  simp
theorem getD_mem' {α : Type} (l : List α) (d : α) {j : Nat} (h : j < l.length) : l.getD j d ∈ l := by
  rw [List.getD_eq_getElem?_getD, List.getElem?_eq_getElem h]
  exact List.getElem_mem _

/-- with the trader 0's order at its place. -/
theorem end_some {x : Ex.Xch} (h1 : x.time = 0) (h2 : x.fin = 100) {pre post : List Ex.Ord} {q : Ex.Ord} (hq : q.who = 0) (hx : x.ords = pre ++ [q] ++ post) (n1 : ∀ o ∈ pre, o.who ≠ 0) (n2 : ∀ o ∈ post, o.who ≠ 0) :
    (Ex.doX x 1000 [8]).1.traded 0 = (filledL (Ex.bidsOf x.ords)).getD pre.length false ∧ ((filledL (Ex.bidsOf x.ords)).getD pre.length false = true → (Ex.doX x 1000 [8]).1.paid 0 = if q.side = 0 then (setL (Ex.bidsOf x.ords)).2.1 else (setL (Ex.bidsOf x.ords)).2.2) := by
  obtain ⟨e1, e2⟩ := end_state h1 h2
  rw [e1, e2]
  have et : (Ex.timed x 1000).ords = x.ords := rfl
  show (Ex.tradeTo (setL (Ex.bidsOf x.ords)).2.1 (setL (Ex.bidsOf x.ords)).2.2 x.ords (filledL (Ex.bidsOf x.ords)) ⟨x.ps, x.own, fun _ => 0, fun _ => false⟩ x.ords.length).traded 0 = _ ∧ (_ → (Ex.tradeTo (setL (Ex.bidsOf x.ords)).2.1 (setL (Ex.bidsOf x.ords)).2.2 x.ords (filledL (Ex.bidsOf x.ords)) ⟨x.ps, x.own, fun _ => 0, fun _ => false⟩ x.ords.length).paid 0 = _)
  generalize (setL (Ex.bidsOf x.ords)).2.1 = pay
  generalize (setL (Ex.bidsOf x.ords)).2.2 = get
  generalize filledL (Ex.bidsOf x.ords) = fl
  have len : x.ords.length = (pre.length + 1) + post.length := by rw [hx]; simp; omega
  rw [len]
  have s2 := trade_skip pay get x.ords fl ⟨x.ps, x.own, fun _ => 0, fun _ => false⟩ (pre.length + 1) post.length (fun j j1 j2 => by
    obtain ⟨m, rfl⟩ : ∃ m, j = pre.length + 1 + m := ⟨j - (pre.length + 1), by omega⟩
    rw [hx, getD_inpost]
    exact n2 _ (getD_mem' post _ (by omega)))
  have s1 := trade_skip pay get x.ords fl ⟨x.ps, x.own, fun _ => 0, fun _ => false⟩ 0 pre.length (fun j j1 j2 => by
    rw [hx, List.append_assoc, getD_inpre _ _ _ (by omega)]
    exact n1 _ (getD_mem' pre _ (by omega)))
  rw [Nat.zero_add] at s1
  rw [s2.1, s2.2, Ex.tradeTo, hx, getD_pre]
  have s1' : (Ex.tradeTo pay get (pre ++ [q] ++ post) fl ⟨x.ps, x.own, fun _ => 0, fun _ => false⟩ pre.length).traded 0 = false := by
    rw [← hx]; exact s1.1
  generalize Ex.tradeTo pay get (pre ++ [q] ++ post) fl ⟨x.ps, x.own, fun _ => 0, fun _ => false⟩ pre.length = u at s1' ⊢
  generalize fl.getD pre.length false = f
  unfold Ex.tradeOne
  rw [hq]
  cases f with
  | false => exact ⟨s1', fun h => by cases h⟩
  | true =>
    by_cases hs : q.side = 0
    · simp only [hs, if_true]
      exact ⟨Ex.upd_same _ _ _, fun _ => Ex.upd_same _ _ _⟩
    · simp only [hs, if_true, if_false]
      exact ⟨Ex.upd_same _ _ _, fun _ => Ex.upd_same _ _ _⟩

theorem end_none {x : Ex.Xch} (h1 : x.time = 0) (h2 : x.fin = 100) (n : ∀ o ∈ x.ords, o.who ≠ 0) : (Ex.doX x 1000 [8]).1.traded 0 = false := by
  obtain ⟨e1, _⟩ := end_state h1 h2
  rw [e1]
  show (Ex.tradeTo (setL (Ex.bidsOf x.ords)).2.1 (setL (Ex.bidsOf x.ords)).2.2 x.ords (filledL (Ex.bidsOf x.ords)) ⟨x.ps, x.own, fun _ => 0, fun _ => false⟩ x.ords.length).traded 0 = _
  have s1 := trade_skip (setL (Ex.bidsOf x.ords)).2.1 (setL (Ex.bidsOf x.ords)).2.2 x.ords (filledL (Ex.bidsOf x.ords)) ⟨x.ps, x.own, fun _ => 0, fun _ => false⟩ 0 x.ords.length (fun j j1 j2 => n _ (getD_mem' x.ords _ (by omega)))
  rw [Nat.zero_add] at s1
  exact s1.1

theorem bids_mid (pre post : List Ex.Ord) (side : Int) (p : Int) : Ex.bidsOf (pre ++ [⟨0, side, p⟩] ++ post) = (Ex.bidsOf pre ++ (side, (0 : Int)) :: Ex.bidsOf post).set pre.length (side, p) := by
  unfold Ex.bidsOf
  rw [List.map_append, List.map_append, List.set_append_right _ _ (by simp)]
  simp

theorem honest_x : HonestX := by
  intro ahead behind side v q hs h1 h2 hq _
  obtain ⟨z, z', T0⟩ := twin_start ahead hs h1 (by omega : v < 1000) hq
  have T : Ex.Twin _ _ z z' (playC ahead behind side v) (playC ahead behind side q) := twin_oth behind T0 behind.length
  obtain ⟨pre, post, ex, ey, n1, n2⟩ := T.ords
  have ex' : (playC ahead behind side v).ords = pre ++ [⟨0, side, v⟩] ++ post := ex
  obtain ⟨a1, a2⟩ := end_some T.time.1 T.fin.1 rfl ex' n1 n2
  have tp := truthful_pure (Ex.bidsOf pre ++ ((side : Int), (0 : Int)) :: Ex.bidsOf post) pre.length (by simp [Ex.bidsOf]) side v q (by omega) (by omega) (by omega)
  have eA : Ex.bidsOf (playC ahead behind side v).ords = (Ex.bidsOf pre ++ ((side : Int), (0 : Int)) :: Ex.bidsOf post).set pre.length ((side : Int), (v : Int)) := by rw [ex', bids_mid]
  rw [eA] at a1 a2
  have gA : playGain ahead behind side v v = gainV ((Ex.bidsOf pre ++ ((side : Int), (0 : Int)) :: Ex.bidsOf post).set pre.length ((side : Int), (v : Int))) pre.length side v := by
    unfold playGain gainV
    show (if (Ex.doX (playC ahead behind side v) 1000 [8]).1.traded 0 = true then (if side = 1 then -((v : Int) - (Ex.doX (playC ahead behind side v) 1000 [8]).1.paid 0) else (v : Int) - (Ex.doX (playC ahead behind side v) 1000 [8]).1.paid 0) else 0) = _
    rw [a1]
    by_cases hf : (filledL ((Ex.bidsOf pre ++ ((side : Int), (0 : Int)) :: Ex.bidsOf post).set pre.length ((side : Int), (v : Int)))).getD pre.length false = true
    · have a3 : _ = if (side : Int) = 0 then _ else _ := a2 hf
      rw [if_pos hf, if_pos hf, a3]
      rcases hs with rfl | rfl
      · rfl
      · rw [if_pos rfl, if_neg (show ¬ ((1 : Nat) : Int) = 0 by decide), if_neg (show ¬ ((1 : Nat) : Int) = 0 by decide)]
        omega
    · rw [if_neg hf, if_neg hf]
  rw [gA]
  refine ⟨tp.1, ?_⟩
  by_cases hv : 1 ≤ q ∧ q < 1000
  · rw [if_pos hv] at ey
    have ey' : (playC ahead behind side q).ords = pre ++ [⟨0, side, q⟩] ++ post := ey
    obtain ⟨b1, b2⟩ := end_some T.time.2 T.fin.2 rfl ey' n1 n2
    have eB : Ex.bidsOf (playC ahead behind side q).ords = (Ex.bidsOf pre ++ ((side : Int), (0 : Int)) :: Ex.bidsOf post).set pre.length ((side : Int), (q : Int)) := by rw [ey', bids_mid]
    rw [eB] at b1 b2
    have gB : playGain ahead behind side q v = gainV ((Ex.bidsOf pre ++ ((side : Int), (0 : Int)) :: Ex.bidsOf post).set pre.length ((side : Int), (q : Int))) pre.length side v := by
      unfold playGain gainV
      show (if (Ex.doX (playC ahead behind side q) 1000 [8]).1.traded 0 = true then (if side = 1 then -((v : Int) - (Ex.doX (playC ahead behind side q) 1000 [8]).1.paid 0) else (v : Int) - (Ex.doX (playC ahead behind side q) 1000 [8]).1.paid 0) else 0) = _
      rw [b1]
      by_cases hf : (filledL ((Ex.bidsOf pre ++ ((side : Int), (0 : Int)) :: Ex.bidsOf post).set pre.length ((side : Int), (q : Int)))).getD pre.length false = true
      · have b3 : _ = if (side : Int) = 0 then _ else _ := b2 hf
        rw [if_pos hf, if_pos hf, b3]
        rcases hs with rfl | rfl
        · rfl
        · rw [if_pos rfl, if_neg (show ¬ ((1 : Nat) : Int) = 0 by decide), if_neg (show ¬ ((1 : Nat) : Int) = 0 by decide)]
          omega
      · rw [if_neg hf, if_neg hf]
    rw [gB]
    exact tp.2
  · rw [if_neg hv] at ey
    have ey' : (playC ahead behind side q).ords = pre ++ post := by rw [ey]; simp [Ex.mid]
    have tr := end_none T.time.2 T.fin.2 (fun o ho => by
      rw [ey'] at ho
      rcases List.mem_append.1 ho with ho | ho
      · exact n1 o ho
      · exact n2 o ho)
    have gB : playGain ahead behind side q v = 0 := by
      unfold playGain
      rw [if_neg]
      show ¬ (Ex.doX (playC ahead behind side q) 1000 [8]).1.traded 0 = true
      rw [tr]; decide
    rw [gB]
    exact tp.1
#print axioms honest_x
end Go.Proofs.Ytjfifaooimgbaaa
