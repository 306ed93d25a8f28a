import Derived.Test.YtjfifaooimgbaaaDd
import Derived.Test.YtjfifaooimgbaaaEx
import Derived.StillTailTactics
import Derived.Deep.Cut
import Derived.BigRegion
/- What is taken out. -/
namespace Go.Proofs.Ytjfifaooimgbaaa
open Go.Shelf Go.RowKit Go.Lib Go.Sort

theorem AccF.look {w : World} {b : Nat} {q : Nat → A4} (h : AccF w b q) {i : Nat} (hi : i < 21) : (Instr.lookup 121 (.map (some b)) (.int .i64 (i : Int)) false).run Try.prog w = .ok (.agg #[.int .i64 (q i).c, .int .i64 (q i).h, .int .i64 (q i).u, .int .i64 (q i).k]) w := by
  obtain ⟨f, h1, h2⟩ := h
  rw [h1.look K3 Try.underlying121 (z166 w) hi (key3 i (by omega)), h2 i hi]
  rfl
theorem idx0 (a b c d : Value) (w : World) : (Instr.index 184 (.agg #[a, b, c, d]) (.int .i64 0)).run Try.prog w = .ok (.agg #[a, b]) w := by
  simp [Instr.index, go_sem]
theorem idx1 (a b c d : Value) (w : World) : (Instr.index 184 (.agg #[a, b, c, d]) (.int .i64 1)).run Try.prog w = .ok (.agg #[c, d]) w := by
  simp [Instr.index, go_sem]
theorem fld0 (a b : Value) (w : World) : (Instr.field 182 (.agg #[a, b]) 0).run Try.prog w = .ok a w := by
  simp [Instr.field, go_sem, asAgg]
def freeOf (g : Nat) (a : A4) : Int := if g = 0 then a.c else a.u
def takeCode (a : Nat) (fr : Int) : Int := if a = 0 then 3 else if fr < a then 8 else 0
def takeQ (a : Nat) (fr : Int) (q : Nat → A4) (t g : Nat) : Nat → A4 := if a = 0 then q else if fr < a then q else updA q t (chg g (-(a : Int)) 0 (q t))

set_option maxHeartbeats 2000000 in
set_option maxRecDepth 100000 in
theorem take_deed (w : World) (m X Y g k t a sd pr : Nat) (s : MkS) (q : Nat → A4) (hX : BoxM w X m) (hY : BoxG w Y g) (hM : MkAt w m s) (hA : AccF w s.ba q) (hq : Tame q) (hg : g < 2) (ht : t < 20) (ha : a < 18446744073709551616) :
    Calls Try.prog 117 #[reqV k t a sd pr, .pointer (some ⟨X, 0, none⟩), .pointer (some ⟨Y, 0, none⟩)] w fun e w' =>
      e = .returned (.tuple #[.int .u8 (takeCode a (freeOf g (q t))), .slice none 0 0]) ∧ AccF w' s.ba (takeQ a (freeOf g (q t)) q t g) ∧ Onl (· = s.ba) w w' := by
  have mixed : Try.prog.follows .mixedOrders = true := by kernel_rfl
  unfold reqV
  obtain ⟨W, hW⟩ : ∃ W, W = w.alloc (.cells #[.int .i64 (k : Int), .int .i64 (t : Int), .int .u64 (a : Int), .int .i64 (sd : Int), .int .i64 (pr : Int)] 157) := ⟨_, rfl⟩
  have hsz : W.heap.size = w.heap.size + 1 := by rw [hW]; simp
  have bk : ∀ j, j < w.heap.size → W.heap[j]? = w.heap[j]? := fun j hj => by rw [hW]; exact Below.heap_alloc w _ j hj
  have x1 := (hX.kept (bk X hX.lt)).cell
  have y1 := (hY.kept (bk Y hY.lt)).cell
  have m3 := (hM.kept (bk m hM.lt)).all.c3
  have AW : AccF W s.ba q := hA.kept (bk _ hA.lt)
  have r1 : W.cell? ⟨w.heap.size, 1, none⟩ = some (.int .i64 (t : Int)) := by rw [hW]; simp
  have r2 : W.cell? ⟨w.heap.size, 2, none⟩ = some (.int .u64 (a : Int)) := by rw [hW]; simp
  have OW : Onl (· = s.ba) w W := by rw [hW]; exact (Onl.refl _ w).alloc _
  have HP : Aside (∀ w1, AccF w1 s.ba q → sml a → Calls Try.prog 118 #[.map (some s.ba), .int .i64 t, .int .i64 g, .int .i64 a] w1 fun e w' => e = .returned (.tuple #[]) ∧ AccF w' s.ba (updA q t (chg g (-(a : Int)) 0 (q t))) ∧ Onl (· = s.ba) w1 w') := fun w1 h1 h2 => take_any w1 s.ba q t g a h1 (by omega) hg (hq.ok (by omega)) h2
  have lk : (Instr.lookup 121 (.map (some s.ba)) (.int .i64 (t : Int)) false).run Try.prog W.drew = .ok (.agg #[.int .i64 (q t).c, .int .i64 (q t).h, .int .i64 (q t).u, .int .i64 (q t).k]) W.drew := (AW.kept (w' := W.drew) rfl).look (by omega)
  have HAW : Aside (AccF W s.ba q) := AW
  have HOW : Aside (Onl (· = s.ba) w W) := OW
  have hqt := hq t (by omega)
  have HC0 : Aside (a = 0 → takeCode a (freeOf g (q t)) = 3 ∧ takeQ a (freeOf g (q t)) q t g = q) := fun h => by unfold takeCode takeQ; rw [if_pos h, if_pos h]; exact ⟨rfl, rfl⟩
  have HC1 : Aside (a ≠ 0 → freeOf g (q t) < a → takeCode a (freeOf g (q t)) = 8 ∧ takeQ a (freeOf g (q t)) q t g = q) := fun h h' => by unfold takeCode takeQ; rw [if_neg h, if_neg h, if_pos h', if_pos h']; exact ⟨rfl, rfl⟩
  have HC2 : Aside (a ≠ 0 → ¬ freeOf g (q t) < a → takeCode a (freeOf g (q t)) = 0 ∧ takeQ a (freeOf g (q t)) q t g = updA q t (chg g (-(a : Int)) 0 (q t))) := fun h h' => by unfold takeCode takeQ; rw [if_neg h, if_neg h, if_neg h', if_neg h']; exact ⟨rfl, rfl⟩
  generalize takeCode a (freeOf g (q t)) = pc at *
  generalize takeQ a (freeOf g (q t)) q t g = pq at *
  have hwc : IntKind.u64.wrap (q t).c = (q t).c := wrap_u _ (by omega) (by omega)
  have hwu : IntKind.u64.wrap (q t).u = (q t).u := wrap_u _ (by omega) (by omega)
  clear hX hY hM hA hq AW OW bk
  by_cases a0 : a = 0
  · obtain ⟨rfl, rfl⟩ := HC0.out a0
    have hz : ((a : Int) == 0) = true := by rw [a0]; rfl
    clear HP HC0 HC1 HC2 lk hqt hwc hwu a0
    go_enter Try.func117, Try.ntmps117
    go_wp2
    go_ret2
    exact ⟨rfl, by rw [← hW]; exact HAW.out, by rw [← hW]; exact HOW.out⟩
  · have hz : ((a : Int) == 0) = false := beq_eq_false_iff_ne.2 (by omega)
    have hf : freeOf g (q t) = if g = 0 then (q t).c else (q t).u := rfl
    rcases (show g = 0 ∨ g = 1 by omega) with rfl | rfl
    · rw [if_pos rfl] at hf
      rw [hf] at HC1 HC2
      have y0 : W.cell? ⟨Y, 0, none⟩ = some (.int .i64 0) := y1
      clear y1 hf
      have fx := fld0 (.int .i64 (q t).c) (.int .i64 (q t).h)
      have ix := idx0 (.int .i64 (q t).c) (.int .i64 (q t).h) (.int .i64 (q t).u) (.int .i64 (q t).k)
      by_cases hs : (q t).c < a
      · obtain ⟨rfl, rfl⟩ := HC1.out a0 hs
        clear HP HC0 HC1 HC2
        go_enter Try.func117, Try.ntmps117
        go_wp2_with fail
        rw [← hW]
        clear hW
        go_still_tail 14, mixed
        go_wp2_with fail
        go_wp2
        go_ret2
        exact ⟨rfl, HAW.out.kept rfl, HOW.out.drew⟩
      · obtain ⟨rfl, rfl⟩ := HC2.out a0 hs
        have hal : (a : Int) ≤ 1125899906842624 := by omega
        obtain ⟨W2, hW2⟩ : ∃ W2 : World, W2 = { heap := W.heap, tape := W.tape, drawn := W.drawn + 1, os := W.os, output := W.output } := ⟨_, rfl⟩
        have x2 : W2.cell? ⟨X, 0, none⟩ = some (.pointer (some ⟨m, 0, none⟩)) := by rw [hW2]; exact x1
        have y2 : W2.cell? ⟨Y, 0, none⟩ = some (.int .i64 0) := by rw [hW2]; exact y0
        have m4 : W2.cell? ⟨m, 3, none⟩ = some (.map (some s.ba)) := by rw [hW2]; exact m3
        have r3 : W2.cell? ⟨w.heap.size, 1, none⟩ = some (.int .i64 (t : Int)) := by rw [hW2]; exact r1
        have r4 : W2.cell? ⟨w.heap.size, 2, none⟩ = some (.int .u64 (a : Int)) := by rw [hW2]; exact r2
        have HA2 : Aside (AccF W2 s.ba q) := by show AccF _ _ _; rw [hW2]; exact HAW.out
        have HO2 : Aside (Onl (· = s.ba) w W2) := by show Onl _ _ _; rw [hW2]; exact HOW.out.drew
        have HP1 : Aside _ := HP.out W2.drew (AccF.kept HA2.out rfl) ⟨by omega, by omega⟩
        clear HP HC0 HC1 HC2
        go_enter Try.func117, Try.ntmps117
        go_wp2_with fail
        rw [← hW]
        clear hW
        go_still_tail 14, mixed
        go_wp2_with fail
        rw [← hW2]
        clear hW2 x1 y0 m3 r1 r2 lk
        go_still_tail 10, mixed
        go_wp2_with fail
        refine Calls.mono (f := 118) HP1.out ?_
        rintro e w2 ⟨rfl, A2, O2⟩
        go_wp2
        go_ret2
        exact ⟨rfl, A2, HO2.out.drew.trans O2 (fun i hi => Or.inl hi)⟩
    · rw [if_neg (by decide)] at hf
      rw [hf] at HC1 HC2
      have y0 : W.cell? ⟨Y, 0, none⟩ = some (.int .i64 1) := y1
      clear y1 hf
      have fx := fld0 (.int .i64 (q t).u) (.int .i64 (q t).k)
      have ix := idx1 (.int .i64 (q t).c) (.int .i64 (q t).h) (.int .i64 (q t).u) (.int .i64 (q t).k)
      by_cases hs : (q t).u < a
      · obtain ⟨rfl, rfl⟩ := HC1.out a0 hs
        clear HP HC0 HC1 HC2
        go_enter Try.func117, Try.ntmps117
        go_wp2_with fail
        rw [← hW]
        clear hW
        go_still_tail 14, mixed
        go_wp2_with fail
        go_wp2
        go_ret2
        exact ⟨rfl, HAW.out.kept rfl, HOW.out.drew⟩
      · obtain ⟨rfl, rfl⟩ := HC2.out a0 hs
        have hal : (a : Int) ≤ 1125899906842624 := by omega
        obtain ⟨W2, hW2⟩ : ∃ W2 : World, W2 = { heap := W.heap, tape := W.tape, drawn := W.drawn + 1, os := W.os, output := W.output } := ⟨_, rfl⟩
        have x2 : W2.cell? ⟨X, 0, none⟩ = some (.pointer (some ⟨m, 0, none⟩)) := by rw [hW2]; exact x1
        have y2 : W2.cell? ⟨Y, 0, none⟩ = some (.int .i64 1) := by rw [hW2]; exact y0
        have m4 : W2.cell? ⟨m, 3, none⟩ = some (.map (some s.ba)) := by rw [hW2]; exact m3
        have r3 : W2.cell? ⟨w.heap.size, 1, none⟩ = some (.int .i64 (t : Int)) := by rw [hW2]; exact r1
        have r4 : W2.cell? ⟨w.heap.size, 2, none⟩ = some (.int .u64 (a : Int)) := by rw [hW2]; exact r2
        have HA2 : Aside (AccF W2 s.ba q) := by show AccF _ _ _; rw [hW2]; exact HAW.out
        have HO2 : Aside (Onl (· = s.ba) w W2) := by show Onl _ _ _; rw [hW2]; exact HOW.out.drew
        have HP1 : Aside _ := HP.out W2.drew (AccF.kept HA2.out rfl) ⟨by omega, by omega⟩
        clear HP HC0 HC1 HC2
        go_enter Try.func117, Try.ntmps117
        go_wp2_with fail
        rw [← hW]
        clear hW
        go_still_tail 14, mixed
        go_wp2_with fail
        rw [← hW2]
        clear hW2 x1 y0 m3 r1 r2 lk
        go_still_tail 10, mixed
        go_wp2_with fail
        refine Calls.mono (f := 118) HP1.out ?_
        rintro e w2 ⟨rfl, A2, O2⟩
        go_wp2
        go_ret2
        exact ⟨rfl, A2, HO2.out.drew.trans O2 (fun i hi => Or.inl hi)⟩
end Go.Proofs.Ytjfifaooimgbaaa
/- The exchange without a program: what is told, while time stands still. -/
namespace Go.Proofs.Ytjfifaooimgbaaa
namespace Ex

/-- a reading of the clock that turns nothing. -/
structure Still (x : Xch) (now : Int) : Prop where
  fin : x.time < x.fin
  now : (if 1125899906842624 < now then 1125899906842624 else now) ≤ x.time

theorem Still.timed {x : Xch} {now : Int} (h : Still x now) : Ex.timed x now = x := by
  have hn := h.now
  unfold Ex.timed
  dsimp only
  generalize (if 1125899906842624 < now then 1125899906842624 else now) = n at hn ⊢
  rw [if_neg (by omega)]
theorem Still.cleared {x : Xch} {now : Int} (h : Still x now) : Ex.cleared x = x := by
  unfold Ex.cleared
  have := h.fin
  rw [if_neg (by omega)]
theorem Still.do_ {x : Xch} {now : Int} (h : Still x now) (r : List UInt8) : doX x now r = (written (answerX x r).1 r (answerX x r).2, (answerX x r).2) := by
  unfold doX
  rw [h.timed, h.cleared]

theorem moves_time (x : Xch) (k t n : Nat) : (movesX x k t n).1.time = x.time ∧ (movesX x k t n).1.fin = x.fin ∧ (movesX x k t n).1.jr = x.jr := by
  unfold movesX
  dsimp only
  split
  · exact ⟨rfl, rfl, rfl⟩
  · split
    · exact ⟨rfl, rfl, rfl⟩
    · split <;> exact ⟨rfl, rfl, rfl⟩
theorem orders_time (x : Xch) (t s p : Nat) : (ordersX x t s p).1.time = x.time ∧ (ordersX x t s p).1.fin = x.fin ∧ (ordersX x t s p).1.jr = x.jr := by
  unfold ordersX
  dsimp only
  split
  · exact ⟨rfl, rfl, rfl⟩
  · split
    · exact ⟨rfl, rfl, rfl⟩
    · split
      · exact ⟨rfl, rfl, rfl⟩
      · split
        · exact ⟨rfl, rfl, rfl⟩
        · split <;> exact ⟨rfl, rfl, rfl⟩
theorem cancel_time (x : Xch) (t : Nat) : (cancelX x t).1.time = x.time ∧ (cancelX x t).1.fin = x.fin ∧ (cancelX x t).1.jr = x.jr := by
  unfold cancelX
  split <;> exact ⟨rfl, rfl, rfl⟩
theorem answer_time (x : Xch) (r : List UInt8) : (answerX x r).1.time = x.time ∧ (answerX x r).1.fin = x.fin ∧ (answerX x r).1.jr = x.jr := by
  unfold answerX
  dsimp only
  split
  · exact ⟨rfl, rfl, rfl⟩
  · generalize (if longOf (r.getD 0 0).toNat = 1 then 0 else (r.getD 1 0).toNat) = t
    split
    · exact ⟨rfl, rfl, rfl⟩
    · split
      · exact moves_time _ _ _ _
      · split
        · exact orders_time _ _ _ _
        · split
          · exact cancel_time _ _
          · exact ⟨rfl, rfl, rfl⟩
theorem written_time (x : Xch) (r s : List UInt8) : (written x r s).time = x.time ∧ (written x r s).fin = x.fin := by
  unfold written
  split <;> exact ⟨rfl, rfl⟩
theorem record_length (t : Int) (r : List UInt8) : (record t r).length = r.length + 10 := by
  unfold record
  simp only [List.length_append, bytesOf_length, List.length_singleton]
  omega
theorem written_jr (x : Xch) (r s : List UInt8) : (written x r s).jr.length ≤ x.jr.length + r.length + 10 := by
  unfold written
  split
  · show (x.jr ++ record x.time r).length ≤ _
    rw [List.length_append, record_length]; omega
  · omega
theorem cleared_jr (x : Xch) : (cleared x).jr.length ≤ x.jr.length + 10 := by
  unfold cleared
  split
  · show (x.jr ++ record x.time []).length ≤ _
    rw [List.length_append, record_length]; simp
  · omega
theorem do_jr (x : Xch) (now : Int) (r : List UInt8) : (doX x now r).1.jr.length ≤ x.jr.length + r.length + 20 := by
  have h1 := written_jr (answerX (cleared (timed x now)) r).1 r (answerX (cleared (timed x now)) r).2
  have h2 := cleared_jr (timed x now)
  have h3 := (answer_time (cleared (timed x now)) r).2.2
  have h4 : (timed x now).jr = x.jr := rfl
  rw [h3] at h1
  rw [h4] at h2
  show (written _ _ _).jr.length ≤ _
  omega

/-- behind a request at now, time stands still at now. -/
theorem do_still {x : Xch} (h : Ok x) (now : Int) (r : List UInt8) : Still (doX x now r).1 now := by
  have w := written_time (answerX (cleared (timed x now)) r).1 r (answerX (cleared (timed x now)) r).2
  have a := answer_time (cleared (timed x now)) r
  have hc : (cleared (timed x now)).time < (cleared (timed x now)).fin ∧ (cleared (timed x now)).time = (timed x now).time := by
    unfold cleared
    split
    · refine ⟨?_, rfl⟩
      show (timed x now).time < (timed x now).time + x.period
      have := h.per
      omega
    · rename_i hn
      exact ⟨by omega, rfl⟩
  have ht : (if 1125899906842624 < now then 1125899906842624 else now) ≤ (timed x now).time := by
    show _ ≤ (if x.time < (if 1125899906842624 < now then 1125899906842624 else now) then (if 1125899906842624 < now then 1125899906842624 else now) else x.time)
    generalize (if 1125899906842624 < now then 1125899906842624 else now) = n
    split <;> omega
  refine ⟨?_, ?_⟩
  · show (written _ _ _).time < (written _ _ _).fin
    rw [w.1, w.2, a.1, a.2.1]; exact hc.1
  · show _ ≤ (written _ _ _).time
    rw [w.1, a.1, hc.2]; exact ht

/-- what is only asked turns nothing. -/
theorem tell {x : Xch} {now : Int} (h : Still x now) {k : UInt8} (hk : 7 ≤ k.toNat ∧ k.toNat ≤ 10) (t : Nat) (ht : t < 20) (r : List UInt8) (hr : r = if longOf k.toNat = 1 then [k] else [k, UInt8.ofNat t]) :
    doX x now r = (x, tellsX x k.toNat (if longOf k.toNat = 1 then 0 else t)) := by
  rw [h.do_]
  have g0 : (r.getD 0 0) = k := by rw [hr]; split <;> rfl
  have hl : longOf k.toNat = 1 ∨ longOf k.toNat = 2 := by
    unfold longOf
    rw [if_neg (by omega), if_neg (by omega)]
    split
    · exact Or.inr rfl
    · rw [if_pos (by omega)]; exact Or.inl rfl
  have len : r.length = longOf k.toNat := by
    rw [hr]
    rcases hl with hl | hl
    · rw [if_pos hl, hl]; rfl
    · rw [if_neg (by omega), hl]; rfl
  have g1 : longOf k.toNat = 2 → (r.getD 1 0).toNat = t := fun h2 => by
    rw [hr, if_neg (by omega)]
    show (UInt8.ofNat t).toNat = t
    rw [UInt8.toNat_ofNat']
    omega
  have e : answerX x r = (x, tellsX x k.toNat (if longOf k.toNat = 1 then 0 else t)) := by
    unfold answerX
    dsimp only
    rw [g0]
    have et : (if longOf k.toNat = 1 then 0 else (r.getD 1 0).toNat) = (if longOf k.toNat = 1 then 0 else t) := by
      rcases hl with hl | hl
      · rw [if_pos hl, if_pos hl]
      · rw [if_neg (by omega), if_neg (by omega), g1 hl]
    rw [et, if_neg (by omega)]
    have h20 : (if longOf k.toNat = 1 then 0 else t) < 20 := by split <;> omega
    rw [if_neg (by omega), if_neg (by omega), if_neg (by omega), if_neg (by omega)]
  rw [e]
  have : written x r (tellsX x k.toNat (if longOf k.toNat = 1 then 0 else t)) = x := by
    unfold written
    rw [g0, if_neg (by omega)]
  rw [this]
end Ex
end Go.Proofs.Ytjfifaooimgbaaa
/- The market's state against the exchange's. -/
namespace Go.Proofs.Ytjfifaooimgbaaa
open Go.Shelf Go.RowKit Go.Lib Go.Sort

theorem smTo_sum (h : Nat → Int) : ∀ n, smTo h n = sumTo h n
  | 0 => rfl
  | n + 1 => by rw [smTo, sumTo, smTo_sum h n]
theorem total_cash (x : Ex.Xch) : totalOf 0 (qOf x) = Ex.allCash x := by
  have h20 : part 0 (qOf x 20) = x.own := by
    unfold part
    rw [if_pos rfl]
    unfold qOf
    rw [if_neg (by decide)]
    dsimp only
    omega
  have hs : sumTo (fun i => part 0 (qOf x i)) 20 = sumTo (fun i => (x.ps i).cash + (x.ps i).held) 20 := sumTo_congr 20 fun i hi => by
    unfold part
    rw [if_pos rfl]
    unfold qOf
    rw [if_pos hi]
  unfold totalOf Ex.allCash
  rw [smTo, smTo_sum, h20, hs, Int.add_comm]
theorem total_units (x : Ex.Xch) : totalOf 1 (qOf x) = Ex.allUnits x := by
  unfold totalOf Ex.allUnits
  rw [smTo, smTo_sum]
  have : part 1 (qOf x 20) = 0 := by
    unfold part
    rw [if_neg (by decide)]
    unfold qOf
    rw [if_neg (by decide)]
    rfl
  rw [this, Int.add_zero]
  refine sumTo_congr 20 fun i hi => ?_
  unfold part
  rw [if_neg (by decide)]
  unfold qOf
  rw [if_pos hi]
theorem one_le_sum (h : Nat → Int) (n : Nat) (h0 : ∀ i, i < n → 0 ≤ h i) {i : Nat} (hi : i < n) : h i ≤ sumTo h n := by
  induction n with
  | zero => omega
  | succ n ih =>
    rw [sumTo]
    have hn := h0 n (by omega)
    by_cases e : i = n
    · subst e
      have := Ex.sum_nonneg h i (fun j hj => h0 j (by omega))
      omega
    · have := ih (fun j hj => h0 j (by omega)) (by omega)
      omega
theorem tame_of {x : Ex.Xch} (ok : Ex.Ok x) : Tame (qOf x) := fun i hi => by
  have hc := ok.sumC
  have hu := ok.sumU
  have own := ok.own
  unfold Ex.allCash at hc
  unfold Ex.allUnits at hu
  have n1 : ∀ j, j < 20 → 0 ≤ (x.ps j).cash + (x.ps j).held := fun j _ => by have := ok.cash j; have := (ok.heldNon j).1; omega
  have n2 : ∀ j, j < 20 → 0 ≤ (x.ps j).units + (x.ps j).hun := fun j _ => by have := ok.units j; have := (ok.heldNon j).2; omega
  unfold qOf
  by_cases h : i < 20
  · rw [if_pos h]
    have a1 := one_le_sum _ 20 n1 h
    have a2 := one_le_sum _ 20 n2 h
    have := ok.cash i
    have := ok.units i
    have := ok.heldNon i
    dsimp only at *
    omega
  · rw [if_neg h]
    have := Ex.sum_nonneg _ 20 n1
    dsimp only
    omega
theorem qOf_upd (x : Ex.Xch) (t : Nat) (ht : t < 20) (p : Ex.Purse) : qOf { x with ps := Ex.upd x.ps t p } = updA (qOf x) t ⟨p.cash, p.held, p.units, p.hun⟩ := by
  funext i
  by_cases e : i = t
  · subst e
    simp only [qOf, updA, if_pos ht, if_true, Ex.upd_same]
  · by_cases h : i < 20
    · simp only [qOf, updA, if_pos h, if_neg e, Ex.upd_ne _ _ e]
    · simp only [qOf, updA, if_neg h, if_neg e]
theorem qOf_at (x : Ex.Xch) (t : Nat) (ht : t < 20) : qOf x t = ⟨(x.ps t).cash, (x.ps t).held, (x.ps t).units, (x.ps t).hun⟩ := if_pos ht
end Go.Proofs.Ytjfifaooimgbaaa
/- What is put in and taken out: against the exchange without a program. -/
namespace Go.Proofs.Ytjfifaooimgbaaa
open Go.Shelf Go.RowKit Go.Lib Go.Sort

/-- a deed is done: R: what the exchange without a program comes to, and answers. -/
def Deed (m : Nat) (s : MkS) (w : World) (R : Ex.Xch × List UInt8) (e : Ending) (w' : World) : Prop :=
  ∃ s' u c told, R.2 = c :: told ∧ e = .returned (.tuple #[.int .u8 ((c : UInt8).toNat : Int), u]) ∧ BRow w' u told ∧ (∀ j, u.ownBlock = some j → w.heap.size ≤ j) ∧ Mkt w' m s' R.1 ∧ Step m s w s' w' ∧ s'.jv = s.jv

theorem deed_same {m : Nat} {s : MkS} {w w' : World} {x : Ex.Xch} (hK : Mkt w m s x) (c : UInt8) (b : Onl (· = s.ba) w w') (ha : AccF w' s.ba (qOf x)) : Deed m s w (x, [c]) (.returned (.tuple #[.int .u8 (c.toNat : Int), .slice none 0 0])) w' :=
  ⟨s, .slice none 0 0, c, [], rfl, rfl, BRow.nil _, fun j hj => by simp [Value.ownBlock] at hj, hK.onAcc b ha rfl, (Step.refl m s w).onAcc b, rfl⟩

section
variable (w : World) (m X Y t n : Nat) (s : MkS) (x : Ex.Xch) (hX : BoxM w X m) (hK : Mkt w m s x) (ok : Ex.Ok x) (ht : t < 20) (hn : n < 18446744073709551616)
include hX hK ok ht hn
theorem deed_put (k g : Nat) (hk : (k = 1 ∧ g = 0) ∨ (k = 3 ∧ g = 1)) (hY : BoxG w Y g) : Calls Try.prog 115 #[reqV k t n 0 0, .pointer (some ⟨X, 0, none⟩), .pointer (some ⟨Y, 0, none⟩)] w (Deed m s w (Ex.movesX x k t n)) := by
  have hg : g < 2 := by omega
  have htot : totalOf g (qOf x) ≤ 1125899906842624 := by
    rcases hk with ⟨_, rfl⟩ | ⟨_, rfl⟩
    · rw [total_cash]; exact ok.sumC
    · rw [total_units]; exact ok.sumU
  have hcond : ((k = 1 ∧ 1125899906842624 - Ex.allCash x < n) ∨ (k = 3 ∧ 1125899906842624 - Ex.allUnits x < n)) ↔ 1125899906842624 - totalOf g (qOf x) < n := by
    rcases hk with ⟨rfl, rfl⟩ | ⟨rfl, rfl⟩
    · rw [total_cash]; omega
    · rw [total_units]; omega
  refine (put_deed w m X Y g k t n 0 0 s (qOf x) hX hY hK.at_ hK.acc (tame_of ok) hg ht hn htot).mono ?_
  rintro e w' ⟨rfl, A, O⟩
  unfold putCode putQ at *
  unfold Ex.movesX
  dsimp only
  by_cases h0 : n = 0
  · rw [if_pos h0] at A ⊢
    rw [if_pos h0]
    exact deed_same hK 3 O A
  · rw [if_neg h0] at A ⊢
    rw [if_neg h0]
    by_cases h1 : 1125899906842624 - totalOf g (qOf x) < n
    · rw [if_pos h1] at A ⊢
      rw [if_pos (hcond.2 h1)]
      exact deed_same hK 9 O A
    · rw [if_neg h1] at A ⊢
      rw [if_neg (fun h => h1 (hcond.1 h)), if_neg (by omega)]
      refine ⟨s, .slice none 0 0, 0, [], rfl, rfl, BRow.nil _, fun j hj => by simp [Value.ownBlock] at hj, hK.onAcc O ?_ rfl, (Step.refl m s w).onAcc O, rfl⟩
      rw [qOf_upd x t ht]
      rw [qOf_at x t ht] at A
      rcases hk with ⟨rfl, rfl⟩ | ⟨rfl, rfl⟩
      · have e : chg 0 (n : Int) 0 ⟨(x.ps t).cash, (x.ps t).held, (x.ps t).units, (x.ps t).hun⟩ = ⟨(x.ps t).cash + n, (x.ps t).held, (x.ps t).units, (x.ps t).hun⟩ := by
          simp only [chg, if_true, Int.add_zero]
        rw [e] at A
        exact A
      · have e : chg 1 (n : Int) 0 ⟨(x.ps t).cash, (x.ps t).held, (x.ps t).units, (x.ps t).hun⟩ = ⟨(x.ps t).cash, (x.ps t).held, (x.ps t).units + n, (x.ps t).hun⟩ := by
          simp only [chg, show ¬ ((1 : Nat) = 0) by decide, if_false, Int.add_zero]
        rw [e] at A
        exact A
theorem deed_take (k g : Nat) (hk : (k = 2 ∧ g = 0) ∨ (k = 4 ∧ g = 1)) (hY : BoxG w Y g) : Calls Try.prog 117 #[reqV k t n 0 0, .pointer (some ⟨X, 0, none⟩), .pointer (some ⟨Y, 0, none⟩)] w (Deed m s w (Ex.movesX x k t n)) := by
  have hg : g < 2 := by omega
  have hfree : freeOf g (qOf x t) = if k = 2 then (x.ps t).cash else (x.ps t).units := by
    rw [qOf_at x t ht]
    unfold freeOf
    rcases hk with ⟨rfl, rfl⟩ | ⟨rfl, rfl⟩ <;> rfl
  have hcond : ((k = 2 ∧ (x.ps t).cash < n) ∨ (k = 4 ∧ (x.ps t).units < n)) ↔ freeOf g (qOf x t) < n := by
    rw [hfree]
    rcases hk with ⟨rfl, rfl⟩ | ⟨rfl, rfl⟩
    · rw [if_pos rfl]; omega
    · rw [if_neg (by decide)]; omega
  refine (take_deed w m X Y g k t n 0 0 s (qOf x) hX hY hK.at_ hK.acc (tame_of ok) hg ht hn).mono ?_
  rintro e w' ⟨rfl, A, O⟩
  unfold takeCode takeQ at *
  unfold Ex.movesX
  dsimp only
  by_cases h0 : n = 0
  · rw [if_pos h0] at A ⊢
    rw [if_pos h0]
    exact deed_same hK 3 O A
  · rw [if_neg h0] at A ⊢
    rw [if_neg h0, if_neg (by omega)]
    by_cases h1 : freeOf g (qOf x t) < n
    · rw [if_pos h1] at A ⊢
      rw [if_pos (hcond.2 h1)]
      exact deed_same hK 8 O A
    · rw [if_neg h1] at A ⊢
      rw [if_neg (fun h => h1 (hcond.1 h))]
      refine ⟨s, .slice none 0 0, 0, [], rfl, rfl, BRow.nil _, fun j hj => by simp [Value.ownBlock] at hj, hK.onAcc O ?_ rfl, (Step.refl m s w).onAcc O, rfl⟩
      rw [qOf_upd x t ht]
      rw [qOf_at x t ht] at A
      rcases hk with ⟨rfl, rfl⟩ | ⟨rfl, rfl⟩
      · have e : chg 0 (-(n : Int)) 0 ⟨(x.ps t).cash, (x.ps t).held, (x.ps t).units, (x.ps t).hun⟩ = ⟨(x.ps t).cash - n, (x.ps t).held, (x.ps t).units, (x.ps t).hun⟩ := by
          simp only [chg, if_true, Int.add_zero, Int.sub_eq_add_neg]
        rw [e] at A
        exact A
      · have e : chg 1 (-(n : Int)) 0 ⟨(x.ps t).cash, (x.ps t).held, (x.ps t).units, (x.ps t).hun⟩ = ⟨(x.ps t).cash, (x.ps t).held, (x.ps t).units - n, (x.ps t).hun⟩ := by
          simp only [chg, show ¬ ((1 : Nat) = 0) by decide, if_false, Int.add_zero, Int.sub_eq_add_neg]
        rw [e] at A
        exact A
end
end Go.Proofs.Ytjfifaooimgbaaa
/- The journal is written. -/
namespace Go.Proofs.Ytjfifaooimgbaaa
open Go.Shelf Go.RowKit Go.Lib Go.Sort

theorem BRow.sl {w : World} {v : Value} {l : List UInt8} (h : BRow w v l) : ∃ a n cap, v = .slice a n cap := by
  rcases h.2 with ⟨rfl, h2⟩ | ⟨g, cap, cur, rfl, _⟩
  · exact ⟨none, 0, 0, rfl⟩
  · exact ⟨_, _, cap, rfl⟩

set_option maxHeartbeats 2000000 in
set_option maxRecDepth 100000 in
theorem write_any (w : World) (m : Nat) (s : MkS) (jr r : List UInt8) (t : Nat) (hM : MkAt w m s) (hJ : BRow w s.jv jr) (hne : s.jv.ownBlock ≠ some m) (ht : s.time = (t : Int)) (htb : t < 9223372036854775808) (hr : r.length ≤ 1000) (hl : jr.length ≤ 17592186044416) :
    Calls Try.prog 95 #[.pointer (some ⟨m, 0, none⟩), .string ⟨r.toArray⟩] w fun e w' => ∃ v, e = .returned (.tuple #[]) ∧ MkAt w' m { s with jv := v } ∧ BRow w' v (jr ++ recB t r) ∧ Onl (fun k => k = m ∨ s.jv.ownBlock = some k) w w' ∧ Lies w s.jv v := by
  have mixed : Try.prog.follows .mixedOrders = true := by kernel_rfl
  have HR : Aside (Calls Try.prog 114 #[s.jv, .int .i64 t, .string ⟨r.toArray⟩] w.drew fun e w' => ∃ v', e = .returned v' ∧ BRow w' v' (jr ++ recB t r) ∧ OnlV s.jv w.drew w' ∧ Lies w.drew s.jv v') := record_any s.jv jr r t w.drew (hJ.kept (fun _ _ => rfl)) htb hr hl
  have C := hM.all
  have c2 := C.c2
  have c13 := C.c13
  rw [ht] at c2
  have HM : Aside (MkAt w m s) := hM
  have HN : Aside (s.jv.ownBlock ≠ some m) := hne
  have hml := hM.lt
  have HQ : Aside (∀ (w' : World) (v : Value), OnlV s.jv w.drew w' → w'.cell? ⟨m, 13, none⟩ = some s.jv ∧ w'.frozen? ⟨m, 13, none⟩ = false) := fun w' _ o => by
    have := (HM.out.kept (o.block m hml HN.out)).all
    exact ⟨this.c13, this.fr 13⟩
  clear hM hJ hne C
  go_enter Try.func95, Try.ntmps95
  go_wp2_with fail
  go_region_with (go_at_call 114; refine Calls.mono (f := 114) HR.out ?_; rintro e w1 ⟨v', rfl, q1, q2, q3⟩; obtain ⟨d1, d2⟩ := HQ.out _ v' q2; obtain ⟨va, vn, vc, rfl⟩ := q1.sl)
  all_goals go_wp2
  all_goals go_end0
  all_goals (
    have M1 : MkAt w1 m s := HM.out.kept (q2.block m hml HN.out)
    have nv : ∀ k, (Value.slice va vn vc).ownBlock = some k → k ≠ m := fun k hk e => by
      subst e
      rcases q3.own k hk with h | h
      · exact HN.out h
      · have h' : w.heap.size ≤ k := h
        omega
    refine ⟨_, rfl, M1.setJv _, q1.kept (fun k hk => Below.heap_setCell _ _ _ _ (nv k hk)), ?_, q3⟩
    exact (((Onl.refl (fun k => k = m ∨ s.jv.ownBlock = some k) w).drew).trans q2 (fun i hi => Or.inl (Or.inr hi))).set _ _ (Or.inl (Or.inl rfl)))
end Go.Proofs.Ytjfifaooimgbaaa
/- Small functions of the market. -/
namespace Go.Proofs.Ytjfifaooimgbaaa
open Go.Shelf Go.RowKit Go.Lib Go.Sort

theorem Onl.toBelow' {a b : World} (h : Onl (fun _ => False) a b) : Below a.heap.size a b := ⟨h.os, h.tape, h.output, h.size, fun k hk => h.block k hk (fun x => x)⟩

set_option maxHeartbeats 2000000 in
set_option maxRecDepth 100000 in
theorem resultOf_any (w : World) (a b c d : Int) (fv : Value) (fa : Option Addr) (fn fc : Nat) (hfv : fv = .slice fa fn fc) (sh : Nat) :
    Calls Try.prog 86 #[.agg #[.int .i64 a, .int .i64 b, .int .i64 c, .int .i64 d, fv, .int .u64 sh]] w fun e w' => ∃ P, e = .returned (.agg #[.int .i64 a, .int .i64 b, .int .i64 c, .int .i64 d, .int .u64 sh, .map (some P)]) ∧ MapF Try.prog 3 w' P 20 (fun _ => none) ∧ w.heap.size ≤ P ∧ Below w.heap.size w w' := by
  have mixed : Try.prog.follows .mixedOrders = true := by kernel_rfl
  subst hfv
  have hmm := @run_makeMap Try.prog
  go_enter Try.func86, Try.ntmps86
  go_wp2
  refine bodyPost_ret (v := .agg #[.int .i64 a, .int .i64 b, .int .i64 c, .int .i64 d, .int .u64 sh, .map (some (w.heap.size + 1 + 1))]) (by simp [results, Try.results86, go_sem]) rfl ?_
  refine ⟨_, rfl, ?_, by omega, ((((Onl.refl (fun _ => False) w).alloc _).alloc _).alloc _).toBelow'⟩
  have h := fun A B => MapF.made Try.prog 3 ((w.alloc A).alloc B) 20
  have e : ∀ A B, ((w.alloc A).alloc B).heap.size = w.heap.size + 1 + 1 := fun A B => by simp
  simp only [e] at h
  exact h _ _
set_option maxHeartbeats 2000000 in
set_option maxRecDepth 100000 in
theorem changes_any (w : World) (k : Nat) : Calls Try.prog 94 #[.int .i64 k] w fun e w' => e = .returned (.bool (decide (1 ≤ k ∧ k ≤ 6))) ∧ w' = w := by
  have mixed : Try.prog.follows .mixedOrders = true := by kernel_rfl
  by_cases h : 1 ≤ k
  · have h1 : (1 : Int) ≤ (k : Int) := by omega
    have E : Aside (decide ((k : Int) ≤ 6) = decide (1 ≤ k ∧ k ≤ 6)) := by
      show _ = _
      by_cases h6 : k ≤ 6
      · rw [decide_eq_true (by omega), decide_eq_true (by omega)]
      · rw [decide_eq_false (by omega), decide_eq_false (by omega)]
    go_enter Try.func94, Try.ntmps94
    go_wp2
    go_ret
    refine ⟨?_, rfl⟩
    show Ending.returned (Value.bool (decide ((k : Int) ≤ 6))) = _
    rw [E.out]
  · have h1 : decide ((1 : Int) ≤ (k : Int)) = false := decide_eq_false (by omega)
    have e : decide (1 ≤ k ∧ k ≤ 6) = false := decide_eq_false (by omega)
    rw [e]
    go_enter Try.func94, Try.ntmps94
    go_wp2
    go_ret
    exact ⟨rfl, rfl⟩
end Go.Proofs.Ytjfifaooimgbaaa
