import Derived.Test.YtjfifaooimgbaaaRf2
/- The document's exchange: frees, moves. -/
namespace Go.Proofs.Ytjfifaooimgbaaa
open Go.Shelf Go.RowKit Go.Lib Go.Sort

section
variable {w : World} {p : Nat} {x : Ex.Xch} {ov fv : Value}
theorem RefAt.setCash (h : RefAt w p x ov fv) (t : Nat) (ht : t < 20) (v : Int) : RefAt (w.setCell ⟨p, 6 + t * 4, none⟩ (.int .i64 v)) p { x with ps := Ex.upd x.ps t { x.ps t with cash := v } } ov fv :=
  h.setPurse t 0 ht (by decide) v _ (fun d hd => by match d, hd with | 0, _ => rfl | 1, _ => rfl | 2, _ => rfl | 3, _ => rfl)
theorem RefAt.setHeld (h : RefAt w p x ov fv) (t : Nat) (ht : t < 20) (v : Int) : RefAt (w.setCell ⟨p, 6 + t * 4 + 1, none⟩ (.int .i64 v)) p { x with ps := Ex.upd x.ps t { x.ps t with held := v } } ov fv :=
  h.setPurse t 1 ht (by decide) v _ (fun d hd => by match d, hd with | 0, _ => rfl | 1, _ => rfl | 2, _ => rfl | 3, _ => rfl)
theorem RefAt.setUnits (h : RefAt w p x ov fv) (t : Nat) (ht : t < 20) (v : Int) : RefAt (w.setCell ⟨p, 6 + t * 4 + 2, none⟩ (.int .i64 v)) p { x with ps := Ex.upd x.ps t { x.ps t with units := v } } ov fv :=
  h.setPurse t 2 ht (by decide) v _ (fun d hd => by match d, hd with | 0, _ => rfl | 1, _ => rfl | 2, _ => rfl | 3, _ => rfl)
theorem RefAt.setHun (h : RefAt w p x ov fv) (t : Nat) (ht : t < 20) (v : Int) : RefAt (w.setCell ⟨p, 6 + t * 4 + 3, none⟩ (.int .i64 v)) p { x with ps := Ex.upd x.ps t { x.ps t with hun := v } } ov fv :=
  h.setPurse t 3 ht (by decide) v _ (fun d hd => by match d, hd with | 0, _ => rfl | 1, _ => rfl | 2, _ => rfl | 3, _ => rfl)
theorem RefAt.c0 (h : RefAt w p x ov fv) {t : Nat} (ht : t < 20) : w.cell? ⟨p, 6 + t * 4, none⟩ = some (.int .i64 (x.ps t).cash) := h.purse t 0 ht (by decide)
theorem RefAt.c1 (h : RefAt w p x ov fv) {t : Nat} (ht : t < 20) : w.cell? ⟨p, 6 + t * 4 + 1, none⟩ = some (.int .i64 (x.ps t).held) := h.purse t 1 ht (by decide)
theorem RefAt.c2 (h : RefAt w p x ov fv) {t : Nat} (ht : t < 20) : w.cell? ⟨p, 6 + t * 4 + 2, none⟩ = some (.int .i64 (x.ps t).units) := h.purse t 2 ht (by decide)
theorem RefAt.c3 (h : RefAt w p x ov fv) {t : Nat} (ht : t < 20) : w.cell? ⟨p, 6 + t * 4 + 3, none⟩ = some (.int .i64 (x.ps t).hun) := h.purse t 3 ht (by decide)
end
theorem upd_upd {α : Type} (f : Nat → α) (i : Nat) (a b : α) : Ex.upd (Ex.upd f i a) i b = Ex.upd f i b := by
  funext j
  unfold Ex.upd
  split <;> rfl
theorem RefAt.same {w : World} {p : Nat} {x y : Ex.Xch} {ov fv : Value} (h : RefAt w p x ov fv) (e : x = y) : RefAt w p y ov fv := e ▸ h

/-- a code, told. -/
theorem code_any (c : Nat) (b : UInt8) (hb : bytesOf c 1 = [b]) (w : World) : Calls Try.prog 80 #[.int .i64 c] w fun e w' => e = .returned (.string ⟨#[b]⟩) ∧ w' = rowed w [b] := by
  have := oneR_any c w
  rwa [hb] at this


set_option maxHeartbeats 4000000 in
set_option maxRecDepth 100000 in
theorem movesR_any (w : World) (p k t n : Nat) (x : Ex.Xch) (ov fv : Value) (h : RefAt w p x ov fv) (ok : Ex.Ok x) (hk : k = 1 ∨ k = 2 ∨ k = 3 ∨ k = 4) (ht : t < 20) (hn : n ≤ 4611686018427387904) :
    Calls Try.prog 82 #[.pointer (some ⟨p, 0, none⟩), .int .i64 k, .int .i64 t, .int .i64 n] w fun e w' => e = .returned (.string ⟨(Ex.movesX x k t n).2.toArray⟩) ∧ RefAt w' p (Ex.movesX x k t n).1 ov fv ∧ Onl (· = p) w w' := by
  have mixed : Try.prog.follows .mixedOrders = true := by kernel_rfl
  have HA : Aside _ := allR_any w p x ov fv h ok
  have HR : Aside (RefAt w p x ov fv) := h
  have hpl := h.lt
  obtain ⟨⟨b1, b2, b3, b4⟩, b5, b6, b7, b8⟩ := ok.bdsR t ht
  have s1 := ok.sumC
  have s2 := ok.sumU
  have s3 : 0 ≤ Ex.allCash x := by
    have := ok.bdsR 19 (by decide)
    have e : Ex.allCash x = cashR x 19 + ((x.ps 19).cash + (x.ps 19).held) := by unfold Ex.allCash cashR; rw [sumTo]; omega
    omega
  have s4 : 0 ≤ Ex.allUnits x := by
    have := ok.bdsR 19 (by decide)
    have e : Ex.allUnits x = unitsR x 19 + ((x.ps 19).units + (x.ps 19).hun) := by unfold Ex.allUnits unitsR; rw [sumTo]
    omega
  have htz : (t : Int) < 20 := by omega
  have qc : (x.ps t).cash ≤ 1125899906842624 := by omega
  have qu : (x.ps t).units ≤ 1125899906842624 := by omega
  clear h ok b1 b2 b3 b4
  obtain ⟨R, hR⟩ : ∃ R, Ex.movesX x k t n = R := ⟨_, rfl⟩
  rw [hR]
  unfold Ex.movesX at hR
  have HA2 : Aside (∀ C U, Ex.allCash x = C → Ex.allUnits x = U → Calls Try.prog 96 #[.pointer (some ⟨p, 0, none⟩)] w fun e w' => e = .returned (.tuple #[.int .i64 C, .int .i64 U]) ∧ Below w.heap.size w w') := fun C U e1 e2 => by rw [← e1, ← e2]; exact HA.out
  clear HA
  generalize Ex.allCash x = C at *
  generalize Ex.allUnits x = U at *
  have HC : Aside _ := HA2.out C U rfl rfl
  clear HA2
  obtain ⟨q, hq⟩ : ∃ q, x.ps t = q := ⟨_, rfl⟩
  have HQ : Aside (x.ps t = q) := hq
  rw [hq] at b5 b6 b7 b8 qc qu hR
  clear hq
  rcases hk with rfl | rfl | rfl | rfl
  · by_cases h0 : n = 0
    · subst h0
      rw [if_pos rfl] at hR
      go_enter Try.func82, Try.ntmps82
      go_wp2_with fail
      refine Calls.mono (f := 96) HC.out ?_
      rintro e w1 ⟨rfl, hB1⟩
      have R1 : Aside (RefAt w1 p x ov fv) := HR.out.kept (hB1.block p hpl)
      have O1 : Aside (Onl (· = p) w w1) := (Onl.refl _ _).below hB1
      have x0 : w1.cell? ⟨p, 6 + t * 4, none⟩ = some (.int .i64 q.cash) := by rw [R1.out.c0 ht, HQ.out]
      have x2 : w1.cell? ⟨p, 6 + t * 4 + 2, none⟩ = some (.int .i64 q.units) := by rw [R1.out.c2 ht, HQ.out]
      have f0 : w1.frozen? ⟨p, 6 + t * 4, none⟩ = false := FAt.frozen R1.out _
      have f2 : w1.frozen? ⟨p, 6 + t * 4 + 2, none⟩ = false := FAt.frozen R1.out _
      clear hB1
      go_wp2_with fail
      refine (code_any 3 3 rfl _).mono ?_
      rintro e w2 ⟨rfl, hw2⟩
      have HW : Aside _ := hw2
      clear hw2
      go_wp2
      go_ret
      subst hR
      refine ⟨rfl, ?_, ?_⟩
      · rw [HW.out]; exact R1.out.kept (Below.heap_alloc _ _ _ R1.out.lt)
      · rw [HW.out]; exact O1.out.alloc _
    · rw [if_neg h0] at hR
      have z0 : ((n : Int) == 0) = false := beq_eq_false_iff_ne.2 (by omega)
      by_cases h1 : 1125899906842624 - C < (n : Int)
      · rw [if_pos (by simp [h1])] at hR
        go_enter Try.func82, Try.ntmps82
        go_wp2_with fail
        refine Calls.mono (f := 96) HC.out ?_
        rintro e w1 ⟨rfl, hB1⟩
        have R1 : Aside (RefAt w1 p x ov fv) := HR.out.kept (hB1.block p hpl)
        have O1 : Aside (Onl (· = p) w w1) := (Onl.refl _ _).below hB1
        have x0 : w1.cell? ⟨p, 6 + t * 4, none⟩ = some (.int .i64 q.cash) := by rw [R1.out.c0 ht, HQ.out]
        have x2 : w1.cell? ⟨p, 6 + t * 4 + 2, none⟩ = some (.int .i64 q.units) := by rw [R1.out.c2 ht, HQ.out]
        have f0 : w1.frozen? ⟨p, 6 + t * 4, none⟩ = false := FAt.frozen R1.out _
        have f2 : w1.frozen? ⟨p, 6 + t * 4 + 2, none⟩ = false := FAt.frozen R1.out _
        clear hB1
        go_wp2_with fail
        refine (code_any 9 9 rfl _).mono ?_
        rintro e w2 ⟨rfl, hw2⟩
        have HW : Aside _ := hw2
        clear hw2
        go_wp2
        go_ret
        subst hR
        refine ⟨rfl, ?_, ?_⟩
        · rw [HW.out]; exact R1.out.kept (Below.heap_alloc _ _ _ R1.out.lt)
        · rw [HW.out]; exact O1.out.alloc _
      · rw [if_neg (by simp; omega), if_neg (by simp)] at hR
        go_enter Try.func82, Try.ntmps82
        go_wp2_with fail
        refine Calls.mono (f := 96) HC.out ?_
        rintro e w1 ⟨rfl, hB1⟩
        have R1 : Aside (RefAt w1 p x ov fv) := HR.out.kept (hB1.block p hpl)
        have O1 : Aside (Onl (· = p) w w1) := (Onl.refl _ _).below hB1
        have x0 : w1.cell? ⟨p, 6 + t * 4, none⟩ = some (.int .i64 q.cash) := by rw [R1.out.c0 ht, HQ.out]
        have x2 : w1.cell? ⟨p, 6 + t * 4 + 2, none⟩ = some (.int .i64 q.units) := by rw [R1.out.c2 ht, HQ.out]
        have f0 : w1.frozen? ⟨p, 6 + t * 4, none⟩ = false := FAt.frozen R1.out _
        have f2 : w1.frozen? ⟨p, 6 + t * 4 + 2, none⟩ = false := FAt.frozen R1.out _
        clear hB1
        go_wp2_with fail
        refine (code_any 0 0 rfl _).mono ?_
        rintro e w2 ⟨rfl, hw2⟩
        have HW : Aside _ := hw2
        clear hw2
        go_wp2
        go_ret
        subst hR
        have R2 := R1.out.setCash t ht (q.cash + n)
        refine ⟨rfl, ?_, ?_⟩
        · rw [HW.out]
          refine (R2.kept (Below.heap_alloc _ _ _ R2.lt)).same ?_
          rw [HQ.out]
          simp
        · rw [HW.out]; exact (O1.out.set _ _ (Or.inl rfl)).alloc _
  · by_cases h0 : n = 0
    · subst h0
      rw [if_pos rfl] at hR
      go_enter Try.func82, Try.ntmps82
      go_wp2_with fail
      refine Calls.mono (f := 96) HC.out ?_
      rintro e w1 ⟨rfl, hB1⟩
      have R1 : Aside (RefAt w1 p x ov fv) := HR.out.kept (hB1.block p hpl)
      have O1 : Aside (Onl (· = p) w w1) := (Onl.refl _ _).below hB1
      have x0 : w1.cell? ⟨p, 6 + t * 4, none⟩ = some (.int .i64 q.cash) := by rw [R1.out.c0 ht, HQ.out]
      have x2 : w1.cell? ⟨p, 6 + t * 4 + 2, none⟩ = some (.int .i64 q.units) := by rw [R1.out.c2 ht, HQ.out]
      have f0 : w1.frozen? ⟨p, 6 + t * 4, none⟩ = false := FAt.frozen R1.out _
      have f2 : w1.frozen? ⟨p, 6 + t * 4 + 2, none⟩ = false := FAt.frozen R1.out _
      clear hB1
      go_wp2_with fail
      refine (code_any 3 3 rfl _).mono ?_
      rintro e w2 ⟨rfl, hw2⟩
      have HW : Aside _ := hw2
      clear hw2
      go_wp2
      go_ret
      subst hR
      refine ⟨rfl, ?_, ?_⟩
      · rw [HW.out]; exact R1.out.kept (Below.heap_alloc _ _ _ R1.out.lt)
      · rw [HW.out]; exact O1.out.alloc _
    · rw [if_neg h0] at hR
      have z0 : ((n : Int) == 0) = false := beq_eq_false_iff_ne.2 (by omega)
      rw [if_neg (by simp)] at hR
      by_cases h1 : q.cash < (n : Int)
      · rw [if_pos (by simp [h1])] at hR
        go_enter Try.func82, Try.ntmps82
        go_wp2_with fail
        refine Calls.mono (f := 96) HC.out ?_
        rintro e w1 ⟨rfl, hB1⟩
        have R1 : Aside (RefAt w1 p x ov fv) := HR.out.kept (hB1.block p hpl)
        have O1 : Aside (Onl (· = p) w w1) := (Onl.refl _ _).below hB1
        have x0 : w1.cell? ⟨p, 6 + t * 4, none⟩ = some (.int .i64 q.cash) := by rw [R1.out.c0 ht, HQ.out]
        have x2 : w1.cell? ⟨p, 6 + t * 4 + 2, none⟩ = some (.int .i64 q.units) := by rw [R1.out.c2 ht, HQ.out]
        have f0 : w1.frozen? ⟨p, 6 + t * 4, none⟩ = false := FAt.frozen R1.out _
        have f2 : w1.frozen? ⟨p, 6 + t * 4 + 2, none⟩ = false := FAt.frozen R1.out _
        clear hB1
        go_wp2_with fail
        refine (code_any 8 8 rfl _).mono ?_
        rintro e w2 ⟨rfl, hw2⟩
        have HW : Aside _ := hw2
        clear hw2
        go_wp2
        go_ret
        subst hR
        refine ⟨rfl, ?_, ?_⟩
        · rw [HW.out]; exact R1.out.kept (Below.heap_alloc _ _ _ R1.out.lt)
        · rw [HW.out]; exact O1.out.alloc _
      · rw [if_neg (by simp; omega)] at hR
        go_enter Try.func82, Try.ntmps82
        go_wp2_with fail
        refine Calls.mono (f := 96) HC.out ?_
        rintro e w1 ⟨rfl, hB1⟩
        have R1 : Aside (RefAt w1 p x ov fv) := HR.out.kept (hB1.block p hpl)
        have O1 : Aside (Onl (· = p) w w1) := (Onl.refl _ _).below hB1
        have x0 : w1.cell? ⟨p, 6 + t * 4, none⟩ = some (.int .i64 q.cash) := by rw [R1.out.c0 ht, HQ.out]
        have x2 : w1.cell? ⟨p, 6 + t * 4 + 2, none⟩ = some (.int .i64 q.units) := by rw [R1.out.c2 ht, HQ.out]
        have f0 : w1.frozen? ⟨p, 6 + t * 4, none⟩ = false := FAt.frozen R1.out _
        have f2 : w1.frozen? ⟨p, 6 + t * 4 + 2, none⟩ = false := FAt.frozen R1.out _
        clear hB1
        go_wp2_with fail
        refine (code_any 0 0 rfl _).mono ?_
        rintro e w2 ⟨rfl, hw2⟩
        have HW : Aside _ := hw2
        clear hw2
        go_wp2
        go_ret
        subst hR
        have R2 := R1.out.setCash t ht (q.cash - n)
        refine ⟨rfl, ?_, ?_⟩
        · rw [HW.out]
          refine (R2.kept (Below.heap_alloc _ _ _ R2.lt)).same ?_
          rw [HQ.out]
          simp
        · rw [HW.out]; exact (O1.out.set _ _ (Or.inl rfl)).alloc _
  · by_cases h0 : n = 0
    · subst h0
      rw [if_pos rfl] at hR
      go_enter Try.func82, Try.ntmps82
      go_wp2_with fail
      refine Calls.mono (f := 96) HC.out ?_
      rintro e w1 ⟨rfl, hB1⟩
      have R1 : Aside (RefAt w1 p x ov fv) := HR.out.kept (hB1.block p hpl)
      have O1 : Aside (Onl (· = p) w w1) := (Onl.refl _ _).below hB1
      have x0 : w1.cell? ⟨p, 6 + t * 4, none⟩ = some (.int .i64 q.cash) := by rw [R1.out.c0 ht, HQ.out]
      have x2 : w1.cell? ⟨p, 6 + t * 4 + 2, none⟩ = some (.int .i64 q.units) := by rw [R1.out.c2 ht, HQ.out]
      have f0 : w1.frozen? ⟨p, 6 + t * 4, none⟩ = false := FAt.frozen R1.out _
      have f2 : w1.frozen? ⟨p, 6 + t * 4 + 2, none⟩ = false := FAt.frozen R1.out _
      clear hB1
      go_wp2_with fail
      refine (code_any 3 3 rfl _).mono ?_
      rintro e w2 ⟨rfl, hw2⟩
      have HW : Aside _ := hw2
      clear hw2
      go_wp2
      go_ret
      subst hR
      refine ⟨rfl, ?_, ?_⟩
      · rw [HW.out]; exact R1.out.kept (Below.heap_alloc _ _ _ R1.out.lt)
      · rw [HW.out]; exact O1.out.alloc _
    · rw [if_neg h0] at hR
      have z0 : ((n : Int) == 0) = false := beq_eq_false_iff_ne.2 (by omega)
      by_cases h1 : 1125899906842624 - U < (n : Int)
      · rw [if_pos (by simp [h1])] at hR
        go_enter Try.func82, Try.ntmps82
        go_wp2_with fail
        refine Calls.mono (f := 96) HC.out ?_
        rintro e w1 ⟨rfl, hB1⟩
        have R1 : Aside (RefAt w1 p x ov fv) := HR.out.kept (hB1.block p hpl)
        have O1 : Aside (Onl (· = p) w w1) := (Onl.refl _ _).below hB1
        have x0 : w1.cell? ⟨p, 6 + t * 4, none⟩ = some (.int .i64 q.cash) := by rw [R1.out.c0 ht, HQ.out]
        have x2 : w1.cell? ⟨p, 6 + t * 4 + 2, none⟩ = some (.int .i64 q.units) := by rw [R1.out.c2 ht, HQ.out]
        have f0 : w1.frozen? ⟨p, 6 + t * 4, none⟩ = false := FAt.frozen R1.out _
        have f2 : w1.frozen? ⟨p, 6 + t * 4 + 2, none⟩ = false := FAt.frozen R1.out _
        clear hB1
        go_wp2_with fail
        refine (code_any 9 9 rfl _).mono ?_
        rintro e w2 ⟨rfl, hw2⟩
        have HW : Aside _ := hw2
        clear hw2
        go_wp2
        go_ret
        subst hR
        refine ⟨rfl, ?_, ?_⟩
        · rw [HW.out]; exact R1.out.kept (Below.heap_alloc _ _ _ R1.out.lt)
        · rw [HW.out]; exact O1.out.alloc _
      · rw [if_neg (by simp; omega), if_neg (by simp)] at hR
        go_enter Try.func82, Try.ntmps82
        go_wp2_with fail
        refine Calls.mono (f := 96) HC.out ?_
        rintro e w1 ⟨rfl, hB1⟩
        have R1 : Aside (RefAt w1 p x ov fv) := HR.out.kept (hB1.block p hpl)
        have O1 : Aside (Onl (· = p) w w1) := (Onl.refl _ _).below hB1
        have x0 : w1.cell? ⟨p, 6 + t * 4, none⟩ = some (.int .i64 q.cash) := by rw [R1.out.c0 ht, HQ.out]
        have x2 : w1.cell? ⟨p, 6 + t * 4 + 2, none⟩ = some (.int .i64 q.units) := by rw [R1.out.c2 ht, HQ.out]
        have f0 : w1.frozen? ⟨p, 6 + t * 4, none⟩ = false := FAt.frozen R1.out _
        have f2 : w1.frozen? ⟨p, 6 + t * 4 + 2, none⟩ = false := FAt.frozen R1.out _
        clear hB1
        go_wp2_with fail
        refine (code_any 0 0 rfl _).mono ?_
        rintro e w2 ⟨rfl, hw2⟩
        have HW : Aside _ := hw2
        clear hw2
        go_wp2
        go_ret
        subst hR
        have R2 := R1.out.setUnits t ht (q.units + n)
        refine ⟨rfl, ?_, ?_⟩
        · rw [HW.out]
          refine (R2.kept (Below.heap_alloc _ _ _ R2.lt)).same ?_
          rw [HQ.out]
          simp
        · rw [HW.out]; exact (O1.out.set _ _ (Or.inl rfl)).alloc _
  · by_cases h0 : n = 0
    · subst h0
      rw [if_pos rfl] at hR
      go_enter Try.func82, Try.ntmps82
      go_wp2_with fail
      refine Calls.mono (f := 96) HC.out ?_
      rintro e w1 ⟨rfl, hB1⟩
      have R1 : Aside (RefAt w1 p x ov fv) := HR.out.kept (hB1.block p hpl)
      have O1 : Aside (Onl (· = p) w w1) := (Onl.refl _ _).below hB1
      have x0 : w1.cell? ⟨p, 6 + t * 4, none⟩ = some (.int .i64 q.cash) := by rw [R1.out.c0 ht, HQ.out]
      have x2 : w1.cell? ⟨p, 6 + t * 4 + 2, none⟩ = some (.int .i64 q.units) := by rw [R1.out.c2 ht, HQ.out]
      have f0 : w1.frozen? ⟨p, 6 + t * 4, none⟩ = false := FAt.frozen R1.out _
      have f2 : w1.frozen? ⟨p, 6 + t * 4 + 2, none⟩ = false := FAt.frozen R1.out _
      clear hB1
      go_wp2_with fail
      refine (code_any 3 3 rfl _).mono ?_
      rintro e w2 ⟨rfl, hw2⟩
      have HW : Aside _ := hw2
      clear hw2
      go_wp2
      go_ret
      subst hR
      refine ⟨rfl, ?_, ?_⟩
      · rw [HW.out]; exact R1.out.kept (Below.heap_alloc _ _ _ R1.out.lt)
      · rw [HW.out]; exact O1.out.alloc _
    · rw [if_neg h0] at hR
      have z0 : ((n : Int) == 0) = false := beq_eq_false_iff_ne.2 (by omega)
      rw [if_neg (by simp)] at hR
      by_cases h1 : q.units < (n : Int)
      · rw [if_pos (by simp [h1])] at hR
        go_enter Try.func82, Try.ntmps82
        go_wp2_with fail
        refine Calls.mono (f := 96) HC.out ?_
        rintro e w1 ⟨rfl, hB1⟩
        have R1 : Aside (RefAt w1 p x ov fv) := HR.out.kept (hB1.block p hpl)
        have O1 : Aside (Onl (· = p) w w1) := (Onl.refl _ _).below hB1
        have x0 : w1.cell? ⟨p, 6 + t * 4, none⟩ = some (.int .i64 q.cash) := by rw [R1.out.c0 ht, HQ.out]
        have x2 : w1.cell? ⟨p, 6 + t * 4 + 2, none⟩ = some (.int .i64 q.units) := by rw [R1.out.c2 ht, HQ.out]
        have f0 : w1.frozen? ⟨p, 6 + t * 4, none⟩ = false := FAt.frozen R1.out _
        have f2 : w1.frozen? ⟨p, 6 + t * 4 + 2, none⟩ = false := FAt.frozen R1.out _
        clear hB1
        go_wp2_with fail
        refine (code_any 8 8 rfl _).mono ?_
        rintro e w2 ⟨rfl, hw2⟩
        have HW : Aside _ := hw2
        clear hw2
        go_wp2
        go_ret
        subst hR
        refine ⟨rfl, ?_, ?_⟩
        · rw [HW.out]; exact R1.out.kept (Below.heap_alloc _ _ _ R1.out.lt)
        · rw [HW.out]; exact O1.out.alloc _
      · rw [if_neg (by simp; omega)] at hR
        go_enter Try.func82, Try.ntmps82
        go_wp2_with fail
        refine Calls.mono (f := 96) HC.out ?_
        rintro e w1 ⟨rfl, hB1⟩
        have R1 : Aside (RefAt w1 p x ov fv) := HR.out.kept (hB1.block p hpl)
        have O1 : Aside (Onl (· = p) w w1) := (Onl.refl _ _).below hB1
        have x0 : w1.cell? ⟨p, 6 + t * 4, none⟩ = some (.int .i64 q.cash) := by rw [R1.out.c0 ht, HQ.out]
        have x2 : w1.cell? ⟨p, 6 + t * 4 + 2, none⟩ = some (.int .i64 q.units) := by rw [R1.out.c2 ht, HQ.out]
        have f0 : w1.frozen? ⟨p, 6 + t * 4, none⟩ = false := FAt.frozen R1.out _
        have f2 : w1.frozen? ⟨p, 6 + t * 4 + 2, none⟩ = false := FAt.frozen R1.out _
        clear hB1
        go_wp2_with fail
        refine (code_any 0 0 rfl _).mono ?_
        rintro e w2 ⟨rfl, hw2⟩
        have HW : Aside _ := hw2
        clear hw2
        go_wp2
        go_ret
        subst hR
        have R2 := R1.out.setUnits t ht (q.units - n)
        refine ⟨rfl, ?_, ?_⟩
        · rw [HW.out]
          refine (R2.kept (Below.heap_alloc _ _ _ R2.lt)).same ?_
          rw [HQ.out]
          simp
        · rw [HW.out]; exact (O1.out.set _ _ (Or.inl rfl)).alloc _
end Go.Proofs.Ytjfifaooimgbaaa
