import Derived.Test.YteeplklhbhaicaaPl
/- The walks of plays and Honest, of any exchange that keeps its contract. -/
namespace Go.Proofs.Yteeplklhbhaicaa
open Go.Shelf Go.RowKit Go.Lib Go.Sort

variable {Rep : World → (Nat → Prop) → Nat → Ex.Xch → Prop}

theorem byte_zero (c : UInt8) : ((c.toNat : Int) == 0) = (c == 0) := by
  by_cases h : c = 0
  · subst h; rfl
  · have h1 : (c == 0) = false := beq_eq_false_iff_ne.2 h
    have h2 : c.toNat ≠ 0 := fun e => h (by
      apply UInt8.toNat_inj.1
      simpa using e)
    rw [h1]
    exact beq_eq_false_iff_ne.2 (by omega)

/-- a floor behind the world w. -/
structure Pst (Rep : World → (Nat → Prop) → Nat → Ex.Xch → Prop) (w wq : World) (S : Nat → Prop) (f p : Nat) (now cash units : Int) (x : Ex.Xch) : Prop where
  fl : Fl Rep wq S f p now cash units x
  below : Below w.heap.size w wq
  s : ∀ k, S k → w.heap.size ≤ k
  f : w.heap.size ≤ f

theorem Pst.up (E : Exch Rep) {w wq w' : World} {S : Nat → Prop} {f p : Nat} {now cash units : Int} {x : Ex.Xch} (h : Pst Rep w wq S f p now cash units x) (b : Below wq.heap.size wq w') : Pst Rep w w' S f p now cash units x :=
  ⟨h.fl.up E b, h.below.trans (b.mono h.below.size), h.s, h.f⟩

theorem Gone.below' {S S' : Nat → Prop} {w wq w' : World} (g : Gone S S' wq w') (b : Below w.heap.size w wq) (hs : ∀ k, S k → w.heap.size ≤ k) : Below w.heap.size w w' ∧ ∀ k, S' k → w.heap.size ≤ k :=
  ⟨b.trans (g.only.below hs b.size), fun k hk => by
    rcases g.sub k hk with h | h
    · exact hs k h
    · have := b.size; omega⟩

theorem pst_asks (E : Exch Rep) {w wq : World} {S : Nat → Prop} {f p : Nat} {now cash units : Int} {x : Ex.Xch} (h : Pst Rep w wq S f p now cash units x) (ok : Ex.Ok x) (r : List UInt8) (h0 : 0 ≤ now) (h1 : now ≤ 9223372036854775807) (hj : x.jr.length ≤ 1099511627776) (hr : r.length ≤ 1000) :
    Calls Try.prog 28 #[.pointer (some ⟨f, 0, none⟩), .string ⟨r.toArray⟩] wq fun e w' => ∃ S', e = .returned (.string ⟨(Ex.doX x now r).2.toArray⟩) ∧ Pst Rep w w' S' f p now cash units (Ex.doX x now r).1 := by
  refine Calls.mono (f := 28) (fl_asks E h.fl ok r h0 h1 hj hr) ?_
  rintro e w' ⟨S', q1, q2, q3, q4⟩
  obtain ⟨a, b⟩ := Gone.below' ⟨q4, q3⟩ h.below h.s
  exact ⟨S', q1, q2, a, b, h.f⟩

theorem pst_others (E : Exch Rep) {w wq : World} {S : Nat → Prop} {f p : Nat} {now cash units : Int} {x : Ex.Xch} (h : Pst Rep w wq S f p now cash units x) (ok : Ex.Ok x) (h0 : 0 ≤ now) (h1 : now ≤ 1152921504606846976) (hj : x.jr.length ≤ 1099011627776)
    (hc : -1000000000000 ≤ cash ∧ cash ≤ 1000000000000) (hu : -1000000000000 ≤ units ∧ units ≤ 1000000000000) (l : List (Int × Int × Int)) (a : Option Addr) (cap : Nat) (hM : MovesAt w a l) (hw : ∀ i, i < l.length → I64 (l.getD i (0, 0, 0)).1 ∧ I64 (l.getD i (0, 0, 0)).2.1 ∧ I64 (l.getD i (0, 0, 0)).2.2) (hl : l.length ≤ 1048576) :
    Calls Try.prog 44 #[.pointer (some ⟨f, 0, none⟩), .slice a l.length cap] wq fun e w' => ∃ S' cash' units', e = .returned (.tuple #[]) ∧ Pst Rep w w' S' f p now cash' units' (othTo x now l l.length) ∧ (-5000000000 + cash ≤ cash' ∧ cash' ≤ 5000000000 + cash) ∧ (-5000000000 + units ≤ units' ∧ units' ≤ 5000000000 + units) := by
  have hMq : MovesAt wq a l := hM.up h.below
  have hap : 0 < l.length → ∀ b o, a = some ⟨b, o, none⟩ → ¬ S b ∧ b ≠ f := fun hpos b o hb => by
    obtain ⟨b', o', e, hlt, _⟩ := hM 0 (by omega)
    rw [e] at hb
    injection hb with hb
    injection hb with e1 e2
    subst e1
    exact ⟨fun hs => by have := h.s b' hs; omega, fun e => by have := h.f; omega⟩
  refine Calls.mono (f := 44) (others_any E h.fl ok h0 h1 hj hc hu l a cap hMq hap hw hl) ?_
  rintro e w' ⟨S', c', u', q1, q2, q3, q4, q5⟩
  obtain ⟨x1, x2⟩ := q3.below' h.below (fun k hk => by
    rcases hk with hk | hk
    · exact h.s k hk
    · rw [hk]; exact h.f)
  exact ⟨S', c', u', q1, ⟨q2, x1, fun k hk => x2 k (Or.inl hk), h.f⟩, q4, q5⟩

set_option maxHeartbeats 4000000 in
set_option maxRecDepth 100000 in
theorem plays_any (E : Exch Rep) (ahead behind : List (Int × Int × Int)) (a1 a2 : Option Addr) (c1 c2 : Nat) (side price : Nat) (v : Int) (w : World) (hM1 : MovesAt w a1 ahead) (hM2 : MovesAt w a2 behind)
    (hw1 : ∀ i, i < ahead.length → I64 (ahead.getD i (0, 0, 0)).1 ∧ I64 (ahead.getD i (0, 0, 0)).2.1 ∧ I64 (ahead.getD i (0, 0, 0)).2.2) (hw2 : ∀ i, i < behind.length → I64 (behind.getD i (0, 0, 0)).1 ∧ I64 (behind.getD i (0, 0, 0)).2.1 ∧ I64 (behind.getD i (0, 0, 0)).2.2)
    (hl1 : ahead.length ≤ 1048576) (hl2 : behind.length ≤ 1048576) (hs : side = 0 ∨ side = 1) (hv : 1 ≤ v ∧ v ≤ 999) :
    Calls Try.prog 32 #[.slice a1 ahead.length c1, .slice a2 behind.length c2, .int .i64 side, .int .i64 price, .int .i64 v] w fun e w' => e = .returned (.tuple #[.int .i64 (playGain ahead behind side price v), .bool (playTold ahead side price), .bool true]) ∧ Below w.heap.size w w' := by
  have mixed : Try.prog.follows .mixedOrders = true := by kernel_rfl
  obtain ⟨⟨okA, jA⟩, ⟨okB, jB⟩, ⟨okC, jC⟩, ⟨okD, jD⟩⟩ := play_ok ahead behind side price hl1 hl2
  have HB : Aside (∀ (n m : Nat) W, m ≤ 1000 → Calls Try.prog 29 #[.int .i64 n, .int .i64 m] W fun e w' => e = .returned (.string ⟨(bytesOf n m).toArray⟩) ∧ w' = rowed W (bytesOf n m)) := fun n m W hm => bytesK_any n m W hm
  have M1 : Aside (MovesAt w a1 ahead) := hM1
  have M2 : Aside (MovesAt w a2 behind) := hM2
  clear hM1 hM2
  go_enter Try.func32, Try.ntmps32
  go_wp2_with fail
  refine (opened_any E 99 19 (by decide) (by decide) w).mono ?_
  rintro e w0 ⟨f, p, S0, rfl, F0, R0, nS0, hfw, s0, B0⟩
  have P0 : Pst Rep w w0 S0 f p 0 1000 0 begun0 := ⟨⟨F0, R0, nS0⟩, B0, s0, hfw⟩
  have hfu := funded_any E P0.fl begun0_ok.1 (by decide) (by decide) (by show (Ex.record 0 (1 :: 0 :: bytesOf 1000 8)).length ≤ _; rw [Ex.record_length]; simp [bytesOf_length]) fund_resp.1 fund_resp.2
  have HFU : Aside _ := hfu
  have PP0 : Aside (Pst Rep w w0 S0 f p 0 1000 0 begun0) := P0
  clear F0 R0 nS0 s0 B0 P0 hfu
  go_wp2_with fail
  refine Calls.mono (f := 31) HFU.out ?_
  rintro e w1 ⟨S1, rfl, F1, G1⟩
  obtain ⟨y1, y2⟩ := G1.below' PP0.out.below PP0.out.s
  have P1 : Pst Rep w w1 S1 f p 0 1000 0 fund0 := ⟨F1, y1, y2, hfw⟩
  have hoa := pst_others E P1 fund0_ok.1 (by decide) (by decide) (by have := fund0_ok.2; omega) (by decide) (by decide) ahead a1 c1 M1.out hw1 hl1
  have HOA : Aside _ := hoa
  clear HFU PP0 F1 G1 y1 y2 P1 hoa
  go_wp2_with fail
  refine Calls.mono (f := 44) HOA.out ?_
  rintro e w2 ⟨S2, cash2, units2, rfl, P2, bc2, bu2⟩
  have PP2 : Aside (Pst Rep w w2 S2 f p 0 cash2 units2 (playA ahead)) := P2
  clear P2 HOA
  have hls : (bytesOf side 1).length = 1 := bytesOf_length _ _
  have hlp : (bytesOf price 2).length = 2 := bytesOf_length _ _
  have cat1 : ({ data := #[5, 0] } : ByteArray) ++ { data := (bytesOf side 1).toArray } = { data := (5 :: 0 :: bytesOf side 1).toArray } := cat_txt [5, 0] _
  have cat2 : ({ data := (5 :: 0 :: bytesOf side 1).toArray } : ByteArray) ++ { data := (bytesOf price 2).toArray } = { data := (askO side price).toArray } := cat_txt (5 :: 0 :: bytesOf side 1) _
  have la : (askO side price).length = 5 := by simp [askO, bytesOf_length]
  go_wp2_with fail
  refine Calls.mono (f := 29) (HB.out side 1 w2 (by decide)) ?_
  rintro e w3 ⟨rfl, hw3⟩
  have HW3 : Aside _ := hw3
  clear hw3
  go_wp2_with fail
  refine Calls.mono (f := 29) (HB.out price 2 w3 (by decide)) ?_
  rintro e w4 ⟨rfl, hw4⟩
  have B4 : Below w2.heap.size w2 w4 := by rw [hw4, HW3.out]; unfold rowed; exact ((Below.refl _ _).alloc (Nat.le_refl _) _).alloc (by simp) _
  have ha := pst_asks E (PP2.out.up E B4) okA (askO side price) (by decide) (by decide) (by omega) (by omega)
  have HA : Aside _ := ha
  clear hw4 HW3 B4 ha PP2
  go_wp2_with fail
  refine Calls.mono (f := 28) HA.out ?_
  rintro e w5 ⟨S5, rfl, P5⟩
  obtain ⟨c, rest, hcr⟩ := answer_ne (Ex.cleared (Ex.timed (playA ahead) 0)) (askO side price)
  have hcr' : (Ex.doX (playA ahead) 0 (askO side price)).2 = c :: rest := hcr
  have TOLD : Aside (playTold ahead side price = (c == 0)) := by
    show _ = _
    unfold playTold
    rw [hcr']
    rfl
  rw [hcr']
  have P5' : Pst Rep w w5 S5 f p 0 cash2 units2 (playB ahead side price) := P5
  have hob := pst_others E P5' okB (by decide) (by decide) (by omega) (by omega) (by omega) behind a2 c2 M2.out hw2 hl2
  have HOB : Aside _ := hob
  clear hcr hcr' HA P5 P5' hob
  go_wp2_with fail
  refine Calls.mono (f := 44) HOB.out ?_
  rintro e w6 ⟨S6, cash6, units6, rfl, P6, bc6, bu6⟩
  have P6' : Pst Rep w w6 S6 f p 0 cash6 units6 (playC ahead behind side price) := P6
  have y1 := blk_cell P6'.fl.fl 1
  have z1 := P6'.fl.fl.frozen 1
  have P7 : Pst Rep w (w6.setCell ⟨f, 1, none⟩ (.int .i64 1000)) S6 f p 1000 cash6 units6 (playC ahead behind side price) :=
    ⟨⟨P6'.fl.fl.set1 1000, E.set P6'.fl.rep P6'.fl.no _ _, P6'.fl.no⟩, P6'.below.setCell (p := ⟨f, 1, none⟩) P6'.f _, P6'.s, P6'.f⟩
  have ha := pst_asks E P7 okC [8] (by decide) (by decide) (by omega) (by decide)
  have HA : Aside _ := ha
  clear HOB P6 P6' P7 ha
  go_wp2_with fail
  refine Calls.mono (f := 28) HA.out ?_
  rintro e w8 ⟨S8, rfl, P8⟩
  have st : Ex.Still (playD ahead behind side price) 1000 := Ex.do_still okC 1000 [8]
  have P8' : Pst Rep w w8 S8 f p 1000 cash6 units6 (playD ahead behind side price) := P8
  have tl := Ex.tell st (k := 9) (by decide) 0 (by decide) [9, 0] rfl
  have ha := pst_asks E P8' okD [9, 0] (by decide) (by decide) (by omega) (by decide)
  rw [tl] at ha
  have HA2 : Aside _ := ha
  have pd := okD.paid 0
  have GAIN : Aside (playGain ahead behind side price v = if (playD ahead behind side price).traded 0 = true then (if side = 1 then -(v - (playD ahead behind side price).paid 0) else v - (playD ahead behind side price).paid 0) else 0) := rfl
  generalize (Ex.doX (playC ahead behind side price) 1000 [8]).2 = s8
  clear HA P8 P8' ha tl st y1 z1
  go_wp2_with fail
  refine Calls.mono (f := 28) HA2.out ?_
  rintro e w9 ⟨S9, rfl, P9⟩
  have B9 : Aside (Below w.heap.size w w9) := P9.below
  clear HA2 P9
  by_cases htr : (playD ahead behind side price).traded 0 = true
  · obtain ⟨pp, hpp⟩ : ∃ pp, (playD ahead behind side price).paid 0 = pp := ⟨_, rfl⟩
    have et : Ex.tellsX (playD ahead behind side price) (UInt8.toNat 9) (if Ex.longOf (UInt8.toNat 9) = 1 then 0 else 0) = 0 :: 1 :: bytesOf pp.toNat 2 := by
      show (if (playD ahead behind side price).traded 0 = true then 0 :: 1 :: bytesOf ((playD ahead behind side price).paid 0).toNat 2 else [0, 0, 0, 0]) = _
      rw [if_pos htr, hpp]
    rw [et]
    have g := GAIN.out
    rw [if_pos htr, hpp] at g
    rw [hpp] at pd
    have GG : Aside _ := g
    have lb : (bytesOf pp.toNat 2).length = 2 := bytesOf_length _ _
    have ex : ({ data := (0 :: 1 :: bytesOf pp.toNat 2).toArray } : ByteArray).extract 2 4 = { data := (bytesOf pp.toNat 2).toArray } := by
      rw [ext_txt]
      have : (0 :: 1 :: bytesOf pp.toNat 2 : List UInt8).take 4 = 0 :: 1 :: bytesOf pp.toNat 2 := List.take_of_length_le (by simp [lb])
      rw [this]
      rfl
    have hno : numOf (bytesOf pp.toNat 2) = pp.toNat := num_bytes _ _ (by omega)
    have hnum := numberK_any (bytesOf pp.toNat 2) w9 (by rw [lb]; decide) (by rw [hno]; omega)
    rw [hno, show ((pp.toNat : Nat) : Int) = pp by omega] at hnum
    unfold txt at hnum
    have HNUM : Aside _ := hnum
    clear g et hnum hno htr GAIN hpp
    have hc0 : ({ data := (c :: rest).toArray } : ByteArray)[0]'(by show 0 < (c :: rest).toArray.size; simp) = c := rfl
    rcases hs with rfl | rfl
    · have g2 : playGain ahead behind 0 price v = v - pp := GG.out
      have G3 : Aside _ := g2
      clear g2 GG
      go_wp2_with fail
      refine Calls.mono (f := 30) HNUM.out ?_
      rintro e w10 ⟨rfl, hw10⟩
      rw [hw10]
      clear hw10 w10 HNUM
      go_wp2_with fail
      go_quiet (fail)
      go_wp2
      go_ret3
      refine ⟨?_, ⟨B9.out.os, B9.out.tape, B9.out.output, B9.out.size, B9.out.block⟩⟩
      rw [G3.out, TOLD.out]
      show Ending.returned (Value.tuple #[.int .i64 (v - pp), .bool ((c.toNat : Int) == 0), .bool true]) = _
      rw [byte_zero]
    · have g2 : playGain ahead behind 1 price v = -(v - pp) := GG.out
      have G3 : Aside _ := g2
      clear g2 GG
      go_wp2_with fail
      refine Calls.mono (f := 30) HNUM.out ?_
      rintro e w10 ⟨rfl, hw10⟩
      rw [hw10]
      clear hw10 w10 HNUM
      go_wp2_with fail
      go_quiet (fail)
      go_wp2
      go_ret3
      refine ⟨?_, ⟨B9.out.os, B9.out.tape, B9.out.output, B9.out.size, B9.out.block⟩⟩
      rw [G3.out, TOLD.out]
      show Ending.returned (Value.tuple #[.int .i64 (-(v - pp)), .bool ((c.toNat : Int) == 0), .bool true]) = _
      rw [byte_zero]
  · have et : Ex.tellsX (playD ahead behind side price) (UInt8.toNat 9) (if Ex.longOf (UInt8.toNat 9) = 1 then 0 else 0) = [0, 0, 0, 0] := by
      show (if (playD ahead behind side price).traded 0 = true then 0 :: 1 :: bytesOf ((playD ahead behind side price).paid 0).toNat 2 else [0, 0, 0, 0]) = _
      rw [if_neg htr]
    rw [et]
    have g := GAIN.out
    rw [if_neg htr] at g
    have GG : Aside _ := g
    have hc0 : ({ data := (c :: rest).toArray } : ByteArray)[0]'(by show 0 < (c :: rest).toArray.size; simp) = c := rfl
    clear g et htr GAIN
    go_wp2_with fail
    go_quiet (fail)
    go_wp2
    go_ret3
    refine ⟨?_, ⟨B9.out.os, B9.out.tape, B9.out.output, B9.out.size, B9.out.block⟩⟩
    rw [GG.out, TOLD.out]
    show Ending.returned (Value.tuple #[.int .i64 0, .bool ((c.toNat : Int) == 0), .bool true]) = _
    rw [byte_zero]
#print axioms plays_any
end Go.Proofs.Yteeplklhbhaicaa
