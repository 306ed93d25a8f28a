import Derived.Test.YteeplklhbhaicaaSame
/- The law's walk: does. -/
namespace Go.Proofs.Yteeplklhbhaicaa
open Go.Shelf Go.RowKit Go.Lib Go.Sort

/-- a step of a script. -/
structure OpS where
  kind : Int
  X : Int
  now : Int
  raw : Bool
  s : List UInt8
  per : Int
  cap : Int
def OpS.cells (o : OpS) : Array Value := #[.int .i64 o.kind, .int .i64 o.X, .int .i64 o.now, .bool o.raw, .string ⟨o.s.toArray⟩, .int .i64 o.per, .int .i64 o.cap]
def OpS.fine (o : OpS) : Prop := (-9223372036854775808 ≤ o.now ∧ o.now ≤ 9223372036854775807) ∧ (-9223372036854775808 ≤ o.X ∧ o.X ≤ 9223372036854775807)

/-- what a step of twins leaves. -/
def TwSt (w : World) (S : Nat → Prop) (p q : Nat) (x : Ex.Xch) (w' : World) : Prop :=
  ∃ S' x', Twin w' S' p q x' ∧ x'.jr.length ≤ x.jr.length + 40 ∧ (∀ k, S' k → S k ∨ w.heap.size ≤ k) ∧ Onl S w w'

theorem do_jr2 {x : Ex.Xch} (now : Int) (r : List UInt8) : (Ex.doX x now r).1.jr.length ≤ x.jr.length + 40 := by
  by_cases hr : r.length ≤ 10
  · have := Ex.do_jr x now r
    omega
  · obtain ⟨b, s, hs⟩ := answer_ne (Ex.cleared (Ex.timed x now)) r
    have hb : b ≠ 0 := fun e => hr (answer_short _ r hs e).1
    have e : (Ex.doX x now r).1 = (Ex.answerX (Ex.cleared (Ex.timed x now)) r).1 := by
      show Ex.written _ _ _ = _
      unfold Ex.written
      rw [hs, if_neg (fun q => hb q.1)]
    rw [e, (answer_last _ r).2.2.1]
    have := Ex.cleared_jr (Ex.timed x now)
    have e2 : (Ex.timed x now).jr = x.jr := rfl
    rw [e2] at this
    omega
theorem onl_of {S : Nat → Prop} {a b : World} (h : Only S a b) : Onl S a b := ⟨h.os, h.tape, h.output, h.size, h.block⟩

set_option maxHeartbeats 2000000 in
set_option maxRecDepth 100000 in
theorem does_journal (w : World) (S : Nat → Prop) (p q : Nat) (x : Ex.Xch) (T : Twin w S p q x) (o : OpS) (hk : o.kind = 4) :
    Calls Try.prog 35 #[.agg #[.pointer (some ⟨p, 0, none⟩), .pointer (some ⟨q, 0, none⟩)], .agg o.cells] w fun e w' => e = .returned (.bool true) ∧ TwSt w S p q x w' := by
  have mixed : Try.prog.follows .mixedOrders = true := by kernel_rfl
  have HT : Aside (Twin w S p q x) := T
  unfold OpS.cells
  rw [hk]
  obtain ⟨W, hW⟩ : ∃ W, W = (w.alloc (.cells #[.pointer (some ⟨p, 0, none⟩), .pointer (some ⟨q, 0, none⟩)] 71)).alloc (.cells #[.int .i64 4, .int .i64 o.X, .int .i64 o.now, .bool o.raw, .string ⟨o.s.toArray⟩, .int .i64 o.per, .int .i64 o.cap] 76) := ⟨_, rfl⟩
  have BW : Aside (Below w.heap.size w W) := by rw [hW]; exact blw_al (blw_al (Below.refl _ w) _) _
  have TW : Aside (Twin W S p q x) := T.keep (fun k hk => BW.out.block k (T.low k hk))
  have z0 : W.cell? ⟨w.heap.size, 0, none⟩ = some (.pointer (some ⟨p, 0, none⟩)) := by rw [hW]; simp
  have z1 : W.cell? ⟨w.heap.size, 1, none⟩ = some (.pointer (some ⟨q, 0, none⟩)) := by rw [hW]; simp
  have y0 : W.cell? ⟨w.heap.size + 1, 0, none⟩ = some (.int .i64 4) := by rw [hW]; simp
  obtain ⟨S1, S2, h1, h2, _⟩ := TW.out
  obtain ⟨ov, fv, g1, _⟩ := h2
  have HJ : Aside _ := journalX_any W S1 p x h1
  have HR : Aside _ := journalR_any W q x ov fv g1
  clear h1 g1 T
  go_enter Try.func35, Try.ntmps35
  go_wp2_with fail
  rw [← hW]
  clear hW
  refine Calls.mono (f := 46) HJ.out ?_
  rintro e w1 ⟨rfl, hw1⟩
  rw [hw1]
  clear hw1
  go_wp2_with fail
  refine Calls.mono (f := 40) HR.out ?_
  rintro e w1 ⟨rfl, hw1⟩
  rw [hw1]
  clear hw1
  go_wp2
  go_ret
  exact ⟨rfl, S, x, TW.out, by omega, fun k hk => Or.inl hk, (Onl.refl _ _).below BW.out⟩

set_option maxHeartbeats 4000000 in
set_option maxRecDepth 100000 in
theorem does_do1 (w : World) (S : Nat → Prop) (p q : Nat) (x : Ex.Xch) (T : Twin w S p q x) (o : OpS) (hk : o.kind = 3) (hf : o.fine) (hraw : o.raw = true) (hj : x.jr.length ≤ 1099511627776) :
    Calls Try.prog 35 #[.agg #[.pointer (some ⟨p, 0, none⟩), .pointer (some ⟨q, 0, none⟩)], .agg o.cells] w fun e w' => e = .returned (.bool true) ∧ TwSt w S p q x w' := by
  have mixed : Try.prog.follows .mixedOrders = true := by kernel_rfl
  have HT : Aside (Twin w S p q x) := T
  unfold OpS.cells
  rw [hk, hraw]
  obtain ⟨W, hW⟩ : ∃ W, W = (w.alloc (.cells #[.pointer (some ⟨p, 0, none⟩), .pointer (some ⟨q, 0, none⟩)] 71)).alloc (.cells #[.int .i64 3, .int .i64 o.X, .int .i64 o.now, .bool true, .string ⟨o.s.toArray⟩, .int .i64 o.per, .int .i64 o.cap] 76) := ⟨_, rfl⟩
  have BW : Aside (Below w.heap.size w W) := by rw [hW]; exact blw_al (blw_al (Below.refl _ w) _) _
  have TW : Aside (Twin W S p q x) := T.keep (fun k hk => BW.out.block k (T.low k hk))
  have z0 : W.cell? ⟨w.heap.size, 0, none⟩ = some (.pointer (some ⟨p, 0, none⟩)) := by rw [hW]; simp
  have z1 : W.cell? ⟨w.heap.size, 1, none⟩ = some (.pointer (some ⟨q, 0, none⟩)) := by rw [hW]; simp
  have y0 : W.cell? ⟨w.heap.size + 1, 0, none⟩ = some (.int .i64 3) := by rw [hW]; simp
  have y2 : W.cell? ⟨w.heap.size + 1, 2, none⟩ = some (.int .i64 o.now) := by rw [hW]; simp
  have y3 : W.cell? ⟨w.heap.size + 1, 3, none⟩ = some (.bool true) := by rw [hW]; simp
  have y4 : W.cell? ⟨w.heap.size + 1, 4, none⟩ = some (.string ⟨o.s.toArray⟩) := by rw [hW]; simp
  have hsW : w.heap.size + 1 < W.heap.size := by rw [hW]; simp
  have low := T.low
  obtain ⟨S1, S2, h1, h2, h3, h4, h5, h6⟩ := TW.out
  have t3 : W.cell? ⟨q, 3, none⟩ = some (.int .i64 x.time) := by
    obtain ⟨ov, fv, g1, _⟩ := h2
    exact g1.head 3 (by decide)
  obtain ⟨f1, f2⟩ := hf
  obtain ⟨f11, f12⟩ := f1
  have qt := h5.time
  obtain ⟨qt1, qt2⟩ := qt
  have L1 : Aside (∀ k, S1 k → k < w.heap.size) := fun k hk => low k ((h4 k).2 (Or.inl hk))
  have L2 : Aside (∀ k, S2 k → k < w.heap.size) := fun k hk => low k ((h4 k).2 (Or.inr hk))
  have H1 : Aside (RepX W S1 p x) := h1
  have H2 : Aside (RepR W S2 q x) := h2
  have H3 : Aside (∀ k, S1 k → ¬ S2 k) := h3
  have H4 : Aside (∀ k, S k ↔ S1 k ∨ S2 k) := h4
  have H5 : Aside (Ex.Ok x) := h5
  have H6 : Aside (x.batch ≤ x.jr.length + 1) := h6
  clear h1 h2 h3 h4 h5 h6 T low
  have HP : Aside (∀ V : World, Calls Try.prog 15 #[.int .i64 o.now, .int .i64 50] V fun e w' => e = .returned (.int .i64 (pickN o.now 50 : Nat)) ∧ ∃ m, w' = V.drewN m) := fun V => (pickL_any o.now 50 V (by decide) (by decide) f11 f12).mono (fun e w' h => ⟨h.1, 0, by rw [h.2]; rfl⟩)
  have hpk : pickN o.now 50 < 50 := pickN_lt _ _ (by decide)
  obtain ⟨now, hnow⟩ : ∃ now : Int, now = o.now := ⟨_, rfl⟩
  have nb : -9223372036854775808 ≤ now ∧ now ≤ 9223372036854775807 := by rw [hnow]; omega
  go_enter Try.func35, Try.ntmps35
  go_wp2_with fail
  rw [← hW]
  clear hW
  rw [← hnow]
  clear hnow
  have BV : Aside (Below w.heap.size w W) := BW.out
  have v1 := z1
  have v4 := y4
  have hsV : w.heap.size + 1 < W.heap.size := hsW
  have R1 : Aside (RepX W S1 p x) := H1.out
  have R2 : Aside (RepR W S2 q x) := H2.out
  obtain ⟨D, hDD⟩ : ∃ D, D = Ex.doX x now o.s := ⟨_, rfl⟩
  have EDD : Aside (D = Ex.doX x now o.s) := hDD
  have HD : Aside _ := rep_do W S1 p x now o.s R1.out H5.out nb.1 nb.2 hj
  unfold txt at HD
  rw [← hDD] at HD
  have HDR : Aside (∀ V : World, RepR V S2 q x → Calls Try.prog 47 #[.pointer (some ⟨q, 0, none⟩), .int .i64 now, .string ⟨o.s.toArray⟩] V fun e w' => ∃ S', e = .returned (.tuple #[.string ⟨D.2.toArray⟩, .int .i64 0]) ∧ RepR w' S' q D.1 ∧ (∀ k, S' k → S2 k ∨ V.heap.size ≤ k) ∧ Onl S2 V w') := fun V hV => by rw [hDD]; exact repR_do V S2 q x now o.s hV H5.out nb hj H6.out
  clear hDD
  refine Calls.mono (f := 43) HD.out ?_
  rintro e w3 ⟨S1', rfl, r3, s3, o3⟩
  have O3 : Aside (Onl S1 W w3) := onl_of o3
  have R3 : Aside (RepX w3 S1' p D.1) := r3
  have N3 : Aside (∀ k, S1' k → S1 k ∨ W.heap.size ≤ k) := s3
  have nin : ∀ k, w.heap.size ≤ k → ¬ S1 k := fun k hk h => by have := L1.out k h; omega
  have u1 : w3.cell? ⟨w.heap.size, 1, none⟩ = some (.pointer (some ⟨q, 0, none⟩)) := (World.cell?_of_block (a := ⟨w.heap.size, 1, none⟩) (O3.out.block w.heap.size (by omega) (nin _ (Nat.le_refl _)))).trans v1
  have u4 : w3.cell? ⟨w.heap.size + 1, 4, none⟩ = some (.string ⟨o.s.toArray⟩) := (World.cell?_of_block (a := ⟨w.heap.size + 1, 4, none⟩) (O3.out.block (w.heap.size + 1) (by omega) (nin _ (by omega)))).trans v4
  have Q3 : Aside (RepR w3 S2 q x) := repR_keep R2.out (fun k hk => O3.out.block k (Nat.lt_of_lt_of_le (L2.out k hk) (by omega)) (fun h => H3.out k h hk))
  clear r3 s3 o3 nin
  go_wp2_with fail
  refine Calls.mono (f := 47) (HDR.out w3 Q3.out) ?_
  rintro e w4 ⟨S2', rfl, r4, s4, o4⟩
  have O4 : Aside (Onl S2 w3 w4) := o4
  have R4 : Aside (RepR w4 S2' q D.1) := r4
  have N4 : Aside (∀ k, S2' k → S2 k ∨ w3.heap.size ≤ k) := s4
  clear r4 s4 o4
  go_wp2
  go_ret
  refine ⟨rfl, fun k => S1' k ∨ S2' k, D.1, ?_, by rw [EDD.out]; exact do_jr2 now o.s, ?_, ?_⟩
  · refine ⟨S1', S2', rep_keep R3.out (fun k hk => O4.out.block k (rep_low R3.out k hk) (fun h => ?_)), R4.out, fun k hk h => ?_, fun k => Iff.rfl, by rw [EDD.out]; exact (Ex.do_ok H5.out now o.s).1, ?_⟩
    · rcases N3.out k hk with e | e
      · exact H3.out k e h
      · have := L2.out k h
        omega
    · rcases N4.out k h with e | e
      · rcases N3.out k hk with e' | e'
        · exact H3.out k e' e
        · have := L2.out k e
          omega
      · have := rep_low R3.out k hk
        omega
    · obtain ⟨m, s', bx, gx, _, _, _, _, inv, _⟩ := R3.out
      exact inv.num
  · rintro k (hk | hk)
    · rcases N3.out k hk with e | e
      · exact Or.inl ((H4.out k).2 (Or.inl e))
      · exact Or.inr (by omega)
    · rcases N4.out k hk with e | e
      · exact Or.inl ((H4.out k).2 (Or.inr e))
      · exact Or.inr (by have := O3.out.size; omega)
  · have o1 : Onl S w W := (Onl.refl _ _).below BV.out
    exact (o1.trans O3.out (fun k h => Or.inl ((H4.out k).2 (Or.inl h)))).trans O4.out (fun k h => Or.inl ((H4.out k).2 (Or.inr h)))

set_option maxHeartbeats 4000000 in
set_option maxRecDepth 100000 in
theorem does_do2 (w : World) (S : Nat → Prop) (p q : Nat) (x : Ex.Xch) (T : Twin w S p q x) (o : OpS) (hk : o.kind = 3) (hf : o.fine) (hraw : o.raw = false) (hj : x.jr.length ≤ 1099511627776) :
    Calls Try.prog 35 #[.agg #[.pointer (some ⟨p, 0, none⟩), .pointer (some ⟨q, 0, none⟩)], .agg o.cells] w fun e w' => e = .returned (.bool true) ∧ TwSt w S p q x w' := by
  have mixed : Try.prog.follows .mixedOrders = true := by kernel_rfl
  have HT : Aside (Twin w S p q x) := T
  unfold OpS.cells
  rw [hk, hraw]
  obtain ⟨W, hW⟩ : ∃ W, W = (w.alloc (.cells #[.pointer (some ⟨p, 0, none⟩), .pointer (some ⟨q, 0, none⟩)] 71)).alloc (.cells #[.int .i64 3, .int .i64 o.X, .int .i64 o.now, .bool false, .string ⟨o.s.toArray⟩, .int .i64 o.per, .int .i64 o.cap] 76) := ⟨_, rfl⟩
  have BW : Aside (Below w.heap.size w W) := by rw [hW]; exact blw_al (blw_al (Below.refl _ w) _) _
  have TW : Aside (Twin W S p q x) := T.keep (fun k hk => BW.out.block k (T.low k hk))
  have z0 : W.cell? ⟨w.heap.size, 0, none⟩ = some (.pointer (some ⟨p, 0, none⟩)) := by rw [hW]; simp
  have z1 : W.cell? ⟨w.heap.size, 1, none⟩ = some (.pointer (some ⟨q, 0, none⟩)) := by rw [hW]; simp
  have y0 : W.cell? ⟨w.heap.size + 1, 0, none⟩ = some (.int .i64 3) := by rw [hW]; simp
  have y2 : W.cell? ⟨w.heap.size + 1, 2, none⟩ = some (.int .i64 o.now) := by rw [hW]; simp
  have y3 : W.cell? ⟨w.heap.size + 1, 3, none⟩ = some (.bool false) := by rw [hW]; simp
  have y4 : W.cell? ⟨w.heap.size + 1, 4, none⟩ = some (.string ⟨o.s.toArray⟩) := by rw [hW]; simp
  have hsW : w.heap.size + 1 < W.heap.size := by rw [hW]; simp
  have low := T.low
  obtain ⟨S1, S2, h1, h2, h3, h4, h5, h6⟩ := TW.out
  have t3 : W.cell? ⟨q, 3, none⟩ = some (.int .i64 x.time) := by
    obtain ⟨ov, fv, g1, _⟩ := h2
    exact g1.head 3 (by decide)
  obtain ⟨f1, f2⟩ := hf
  obtain ⟨f11, f12⟩ := f1
  have qt := h5.time
  obtain ⟨qt1, qt2⟩ := qt
  have L1 : Aside (∀ k, S1 k → k < w.heap.size) := fun k hk => low k ((h4 k).2 (Or.inl hk))
  have L2 : Aside (∀ k, S2 k → k < w.heap.size) := fun k hk => low k ((h4 k).2 (Or.inr hk))
  have H1 : Aside (RepX W S1 p x) := h1
  have H2 : Aside (RepR W S2 q x) := h2
  have H3 : Aside (∀ k, S1 k → ¬ S2 k) := h3
  have H4 : Aside (∀ k, S k ↔ S1 k ∨ S2 k) := h4
  have H5 : Aside (Ex.Ok x) := h5
  have H6 : Aside (x.batch ≤ x.jr.length + 1) := h6
  clear h1 h2 h3 h4 h5 h6 T low
  have HP : Aside (∀ V : World, Calls Try.prog 15 #[.int .i64 o.now, .int .i64 50] V fun e w' => e = .returned (.int .i64 (pickN o.now 50 : Nat)) ∧ ∃ m, w' = V.drewN m) := fun V => (pickL_any o.now 50 V (by decide) (by decide) f11 f12).mono (fun e w' h => ⟨h.1, 0, by rw [h.2]; rfl⟩)
  have hpk : pickN o.now 50 < 50 := pickN_lt _ _ (by decide)
  obtain ⟨now, hnow⟩ : ∃ now : Int, now = x.time + (pickN o.now 50 : Nat) := ⟨_, rfl⟩
  have nb : -9223372036854775808 ≤ now ∧ now ≤ 9223372036854775807 := by rw [hnow]; omega
  go_enter Try.func35, Try.ntmps35
  go_wp2_with fail
  rw [← hW]
  clear hW
  have wr1 : IntKind.i64.wrap (x.time + (pickN o.now 50 : Nat)) = x.time + (pickN o.now 50 : Nat) := IntWalk.i64_in _ (by omega)
  go_quiet (first | (go_at_call 15; refine Calls.quiet_of (HP.out _)))
  rw [← hnow]
  clear hnow
  obtain ⟨V, hV⟩ : ∃ V, V = W.drewN nq := ⟨_, rfl⟩
  rw [← hV]
  have BV : Aside (Below w.heap.size w V) := by rw [hV]; exact Below.drewN BW.out _
  have v0 : V.cell? ⟨w.heap.size, 0, none⟩ = some (.pointer (some ⟨p, 0, none⟩)) := by rw [hV]; exact z0
  have v1 : V.cell? ⟨w.heap.size, 1, none⟩ = some (.pointer (some ⟨q, 0, none⟩)) := by rw [hV]; exact z1
  have v4 : V.cell? ⟨w.heap.size + 1, 4, none⟩ = some (.string ⟨o.s.toArray⟩) := by rw [hV]; exact y4
  have hsV : w.heap.size + 1 < V.heap.size := by rw [hV]; exact hsW
  have R1 : Aside (RepX V S1 p x) := by rw [hV]; exact rep_keep H1.out (fun _ _ => rfl)
  have R2 : Aside (RepR V S2 q x) := by rw [hV]; exact repR_keep H2.out (fun _ _ => rfl)
  clear hV z0 z1 y0 y2 y3 y4 t3
  go_wp2_with fail
  obtain ⟨D, hDD⟩ : ∃ D, D = Ex.doX x now o.s := ⟨_, rfl⟩
  have EDD : Aside (D = Ex.doX x now o.s) := hDD
  have HD : Aside _ := rep_do V S1 p x now o.s R1.out H5.out nb.1 nb.2 hj
  unfold txt at HD
  rw [← hDD] at HD
  have HDR : Aside (∀ V : World, RepR V S2 q x → Calls Try.prog 47 #[.pointer (some ⟨q, 0, none⟩), .int .i64 now, .string ⟨o.s.toArray⟩] V fun e w' => ∃ S', e = .returned (.tuple #[.string ⟨D.2.toArray⟩, .int .i64 0]) ∧ RepR w' S' q D.1 ∧ (∀ k, S' k → S2 k ∨ V.heap.size ≤ k) ∧ Onl S2 V w') := fun V hV => by rw [hDD]; exact repR_do V S2 q x now o.s hV H5.out nb hj H6.out
  clear hDD
  refine Calls.mono (f := 43) HD.out ?_
  rintro e w3 ⟨S1', rfl, r3, s3, o3⟩
  have O3 : Aside (Onl S1 V w3) := onl_of o3
  have R3 : Aside (RepX w3 S1' p D.1) := r3
  have N3 : Aside (∀ k, S1' k → S1 k ∨ V.heap.size ≤ k) := s3
  have nin : ∀ k, w.heap.size ≤ k → ¬ S1 k := fun k hk h => by have := L1.out k h; omega
  have u1 : w3.cell? ⟨w.heap.size, 1, none⟩ = some (.pointer (some ⟨q, 0, none⟩)) := (World.cell?_of_block (a := ⟨w.heap.size, 1, none⟩) (O3.out.block w.heap.size (by omega) (nin _ (Nat.le_refl _)))).trans v1
  have u4 : w3.cell? ⟨w.heap.size + 1, 4, none⟩ = some (.string ⟨o.s.toArray⟩) := (World.cell?_of_block (a := ⟨w.heap.size + 1, 4, none⟩) (O3.out.block (w.heap.size + 1) (by omega) (nin _ (by omega)))).trans v4
  have Q3 : Aside (RepR w3 S2 q x) := repR_keep R2.out (fun k hk => O3.out.block k (Nat.lt_of_lt_of_le (L2.out k hk) (by omega)) (fun h => H3.out k h hk))
  clear r3 s3 o3 nin
  go_wp2_with fail
  refine Calls.mono (f := 47) (HDR.out w3 Q3.out) ?_
  rintro e w4 ⟨S2', rfl, r4, s4, o4⟩
  have O4 : Aside (Onl S2 w3 w4) := o4
  have R4 : Aside (RepR w4 S2' q D.1) := r4
  have N4 : Aside (∀ k, S2' k → S2 k ∨ w3.heap.size ≤ k) := s4
  clear r4 s4 o4
  go_wp2
  go_ret
  refine ⟨rfl, fun k => S1' k ∨ S2' k, D.1, ?_, by rw [EDD.out]; exact do_jr2 now o.s, ?_, ?_⟩
  · refine ⟨S1', S2', rep_keep R3.out (fun k hk => O4.out.block k (rep_low R3.out k hk) (fun h => ?_)), R4.out, fun k hk h => ?_, fun k => Iff.rfl, by rw [EDD.out]; exact (Ex.do_ok H5.out now o.s).1, ?_⟩
    · rcases N3.out k hk with e | e
      · exact H3.out k e h
      · have := L2.out k h
        omega
    · rcases N4.out k h with e | e
      · rcases N3.out k hk with e' | e'
        · exact H3.out k e' e
        · have := L2.out k e
          omega
      · have := rep_low R3.out k hk
        omega
    · obtain ⟨m, s', bx, gx, _, _, _, _, inv, _⟩ := R3.out
      exact inv.num
  · rintro k (hk | hk)
    · rcases N3.out k hk with e | e
      · exact Or.inl ((H4.out k).2 (Or.inl e))
      · exact Or.inr (by omega)
    · rcases N4.out k hk with e | e
      · exact Or.inl ((H4.out k).2 (Or.inr e))
      · exact Or.inr (by have := O3.out.size; omega)
  · have o1 : Onl S w V := (Onl.refl _ _).below BV.out
    exact (o1.trans O3.out (fun k h => Or.inl ((H4.out k).2 (Or.inl h)))).trans O4.out (fun k h => Or.inl ((H4.out k).2 (Or.inr h)))
end Go.Proofs.Yteeplklhbhaicaa
