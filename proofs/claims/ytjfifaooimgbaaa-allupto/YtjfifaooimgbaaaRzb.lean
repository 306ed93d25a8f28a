import Derived.Test.YtjfifaooimgbaaaRz
/- The document's exchange: Do, a case of the clock. -/
namespace Go.Proofs.Ytjfifaooimgbaaa
open Go.Shelf Go.RowKit Go.Lib Go.Sort

set_option maxHeartbeats 8000000 in
set_option maxRecDepth 100000 in
theorem doR_w2 (w : World) (p : Nat) (x : Ex.Xch) (ov fv : Value) (h : RefAt w p x ov fv) (hO : LRow w ov x.ords) (ok : Ex.Ok x) (hl0 : x.last = 0 → x.lastL = []) (now : Int) (hn : -9223372036854775808 ≤ now ∧ now ≤ 9223372036854775807) (hj : x.jr.length ≤ 1099511627776) (hb : x.batch ≤ 1099511627777) (hcap : 1125899906842624 < now) (hlat : ¬ x.time < 1125899906842624) (r : List UInt8) :
    Calls Try.prog 49 #[.pointer (some ⟨p, 0, none⟩), .int .i64 now, .string ⟨r.toArray⟩] w fun e w' => e = .returned (.tuple #[.string ⟨(Ex.doX x now r).2.toArray⟩, .int .i64 0]) ∧ RSt w p ov w' (Ex.doX x now r).1 := by
  have mixed : Try.prog.follows .mixedOrders = true := by kernel_rfl
  have OKY : Aside (Ex.Ok (Ex.timed x now)) := Ex.timed_ok ok now
  have OKZ : Aside (Ex.Ok (Ex.cleared (Ex.timed x now))) := (Ex.cleared_ok (Ex.timed_ok ok now)).1
  have LZ : Aside _ := cleared_last (Ex.timed x now) (Ex.timed_ok ok now) hl0
  have BY : Aside ((Ex.timed x now).batch = x.batch ∧ (Ex.timed x now).jr = x.jr ∧ (Ex.timed x now).ords = x.ords ∧ (Ex.timed x now).fin = x.fin) := ⟨rfl, rfl, rfl, rfl⟩
  have hpl := h.lt
  have HR : Aside (RefAt w p x ov fv) := h
  have HO : Aside (LRow w ov x.ords) := hO
  have c3 : w.cell? ⟨p, 3, none⟩ = some (.int .i64 x.time) := h.head 3 (by decide)
  have f0 : ∀ j, w.frozen? ⟨p, j, none⟩ = false := FAt.frozen h
  have q1 := ok.time
  obtain ⟨q11, q12⟩ := q1
  obtain ⟨hn1, hn2⟩ := hn
  have ED : Aside (Ex.doX x now r = (Ex.written (Ex.answerX (Ex.cleared (Ex.timed x now)) r).1 r (Ex.answerX (Ex.cleared (Ex.timed x now)) r).2, (Ex.answerX (Ex.cleared (Ex.timed x now)) r).2)) := rfl
  have ET : Aside (Ex.timed x now = { x with time := if x.time < (if 1125899906842624 < now then 1125899906842624 else now) then (if 1125899906842624 < now then 1125899906842624 else now) else x.time }) := rfl
  clear h hO ok
  generalize Ex.timed x now = y at *
  have yb := BY.out.1
  rw [← yb] at hb
  have yj : y.jr.length ≤ 1099511627776 := by rw [BY.out.2.1]; exact hj
  have AL : Aside _ := answer_last (Ex.cleared y) r
  have NEX : Aside _ := answer_ne (Ex.cleared y) r
  have SH : Aside (∀ b s, (Ex.answerX (Ex.cleared y) r).2 = b :: s → b = 0 → r.length ≤ 10 ∧ r ≠ []) := fun b s h1 h2 => answer_short (Ex.cleared y) r h1 h2
  have tz : 0 ≤ (Ex.cleared y).time := OKZ.out.time.1
  have jz : (Ex.cleared y).jr.length ≤ 1099511627776 + 10 := by
    have := Ex.cleared_jr y
    omega
  have bz : (Ex.cleared y).batch ≤ 1152921504606846976 := by
    unfold Ex.cleared
    split
    · show y.batch + 1 ≤ _
      omega
    · omega
  have yt := OKY.out.time.1
  rw [if_pos hcap] at ET
  rw [if_neg hlat] at ET
  have R1 : Aside (RefAt w p y ov fv) := by rw [ET.out]; exact HR.out
  have L1 : Aside (LRow w ov y.ords) := by rw [BY.out.2.2.1]; exact HO.out
  have O1 : Aside (Onl (· = p) w w) := Onl.refl _ _
  have d3 : w.cell? ⟨p, 3, none⟩ = some (.int .i64 y.time) := R1.out.head 3 (by decide)
  have d5 : w.cell? ⟨p, 5, none⟩ = some (.int .i64 y.fin) := R1.out.head 5 (by decide)
  go_enter Try.func49, Try.ntmps49
  go_wp2_with fail
  clear c3 f0
  by_cases hc : y.fin ≤ y.time
  · have EC : Aside (Ex.cleared y = { Ex.clearX y with jr := y.jr ++ Ex.record y.time [] }) := if_pos hc
    go_quiet (fail)
    have hb1 := hb
    obtain ⟨W3, hW3⟩ : ∃ W3, W3 = w.drewN nq := ⟨_, rfl⟩
    rw [← hW3]
    have R3 : Aside (RefAt W3 p y ov fv) := by rw [hW3]; exact R1.out.kept rfl
    have L3 : Aside (LRow W3 ov y.ords) := by rw [hW3]; exact L1.out.kept (fun _ _ => rfl)
    have O3 : Aside (Onl (fun k => k = p ∨ ov.ownBlock = some k) w W3) := by rw [hW3]; exact (O1.out.mono (fun _ h => Or.inl h)).drewN _
    clear hW3 d3 d5
    go_wp2_with fail
    refine Calls.mono (f := 65) (clearsR_any W3 p y ov fv R3.out L3.out OKY.out (by omega)) ?_
    rintro e w5 ⟨rfl, hS⟩
    have S5 : Aside (RSt w p ov w5 (Ex.clearX y)) := RSt.trans O3.out (fun k hk => Or.inl hk) hS
    obtain ⟨ov5, fv5, hr5, hl5, hf5, ho5⟩ := hS
    have g2 : w5.cell? ⟨p, 2, none⟩ = some (.string ⟨y.jr.toArray⟩) := hr5.head 2 (by decide)
    have g3 : w5.cell? ⟨p, 3, none⟩ = some (.int .i64 y.time) := hr5.head 3 (by decide)
    have gf : ∀ j, w5.frozen? ⟨p, j, none⟩ = false := FAt.frozen hr5
    have hp5 : p < w5.heap.size := RefAt.lt hr5
    clear hr5 hl5 hf5 ho5
    obtain ⟨T0, hT0⟩ := Int.eq_ofNat_of_zero_le yt
    rw [hT0] at g3
    obtain ⟨RC0, hRC0⟩ : ∃ RC0, RC0 = Ex.record (T0 : Int) [] := ⟨_, rfl⟩
    have rl0 : RC0.length ≤ 20 := by rw [hRC0, Ex.record_length]; simp
    have HRC0 : Aside (RC0 = Ex.record y.time []) := by
      show RC0 = _
      rw [hRC0, hT0]
    have REC0 : Aside (∀ W : World, Calls Try.prog 66 #[.int .i64 (T0 : Int), .string ⟨#[]⟩] W fun e w' => e = .returned (.string ⟨RC0.toArray⟩) ∧ Below W.heap.size W w') := fun W => by rw [hRC0]; exact recordR_any T0 [] (by decide) W
    clear hRC0 hT0
    go_wp2_with fail
    go_region_with (first | (go_at_call 66; refine Calls.mono (f := 66) (REC0.out _) ?_; rintro e w6 ⟨rfl, hb6⟩; have HB6 : Aside (Below w5.heap.size w5 w6) := ⟨hb6.os, hb6.tape, hb6.output, hb6.size, hb6.block⟩; have k2 : w6.cell? ⟨p, 2, none⟩ = some (.string ⟨y.jr.toArray⟩) := (World.cell?_of_block (a := ⟨p, 2, none⟩) (HB6.out.block p hp5)).trans g2; have kf : w6.frozen? ⟨p, 2, none⟩ = false := (World.frozen?_of_block (a := ⟨p, 2, none⟩) (HB6.out.block p hp5)).trans (gf 2); clear hb6))
    all_goals
      have J0 := S5.out.jr HB6.out (y.jr ++ RC0)
      rw [← cat_str] at J0
      have J1 : RSt w p ov (w6.setCell ⟨p, 2, none⟩ (.string (⟨y.jr.toArray⟩ ++ ⟨RC0.toArray⟩))) (Ex.cleared y) := J0.same (by rw [EC.out, HRC0.out])
      obtain ⟨W4, hW4⟩ : ∃ W4, W4 = w6.setCell ⟨p, 2, none⟩ (.string (⟨y.jr.toArray⟩ ++ ⟨RC0.toArray⟩)) := ⟨_, rfl⟩
      rw [← hW4] at J1
      rw [← hW4]
      clear hW4 J0 g2 g3 gf k2 kf
      obtain ⟨ov4, fv4, hr4, hl4, hf4, ho4⟩ := J1
      have R4 : Aside (RefAt W4 p (Ex.cleared y) ov4 fv4) := hr4
      have L4 : Aside (LRow W4 ov4 (Ex.cleared y).ords) := hl4
      have O4 : Aside (Onl (fun k => k = p ∨ ov.ownBlock = some k) w W4) := ho4
      have F4 : Aside (∀ k, ov4.ownBlock = some k → ov.ownBlock = some k ∨ w.heap.size ≤ k) := hf4
      clear hr4 hl4 hf4 ho4
      go_wp2_with fail
      refine Calls.mono (f := 67) (answersR_any R4.out L4.out OKZ.out LZ.out bz r) ?_
      rintro e w8 ⟨rfl, hS⟩
      have S8 : Aside (RSt w p ov w8 (Ex.answerX (Ex.cleared y) r).1) := RSt.trans O4.out F4.out hS
      obtain ⟨ov8, fv8, hr8, hl8, hf8, ho8⟩ := hS
      have g2 : w8.cell? ⟨p, 2, none⟩ = some (.string ⟨(Ex.answerX (Ex.cleared y) r).1.jr.toArray⟩) := hr8.head 2 (by decide)
      have g3 : w8.cell? ⟨p, 3, none⟩ = some (.int .i64 (Ex.answerX (Ex.cleared y) r).1.time) := hr8.head 3 (by decide)
      have gf : ∀ j, w8.frozen? ⟨p, j, none⟩ = false := FAt.frozen hr8
      have hp8 : p < w8.heap.size := RefAt.lt hr8
      rw [AL.out.2.2.1] at g2
      rw [AL.out.2.2.2] at g3
      clear hr8 hl8 hf8 ho8
      obtain ⟨b, s, hbs⟩ := NEX.out
      have HBS : Aside _ := hbs
      rw [hbs]
      clear hbs
      obtain ⟨T, hT⟩ := Int.eq_ofNat_of_zero_le tz
      rw [hT] at g3
      have HT : Aside _ := hT
      clear hT
      have e0 : ({ data := (b :: s).toArray } : ByteArray)[0]'(by show 0 < (b :: s).toArray.size; simp) = b := rfl
      by_cases hb0 : b = 0
      · have hr := SH.out b s HBS.out hb0
        obtain ⟨hr1, hr2⟩ := hr
        subst hb0
        obtain ⟨k, r', rfl⟩ : ∃ k r', r = k :: r' := by
          cases r with
          | nil => exact absurd rfl hr2
          | cons k r' => exact ⟨k, r', rfl⟩
        have e1 : ({ data := (k :: r').toArray } : ByteArray)[0]'(by show 0 < (k :: r').toArray.size; simp) = k := rfl
        by_cases hk : k.toNat ≤ 6
        · have hkz : (k.toNat : Int) ≤ 6 := by omega
          have hrl : (k :: r').length ≤ 1000 := by omega
          obtain ⟨RC, hRC⟩ : ∃ RC, RC = Ex.record (T : Int) (k :: r') := ⟨_, rfl⟩
          have rl : RC.length ≤ 20 := by rw [hRC, Ex.record_length]; omega
          have HRC : Aside _ := hRC
          have REC : Aside (∀ W : World, Calls Try.prog 66 #[.int .i64 (T : Int), .string ⟨(k :: r').toArray⟩] W fun e w' => e = .returned (.string ⟨RC.toArray⟩) ∧ Below W.heap.size W w') := fun W => by rw [hRC]; exact recordR_any T (k :: r') hrl W
          clear hRC
          go_wp2_with fail
          go_region_with (first | (go_at_call 66; refine Calls.mono (f := 66) (REC.out _) ?_; rintro e w9 ⟨rfl, hb9⟩; have HB9 : Aside (Below w8.heap.size w8 w9) := ⟨hb9.os, hb9.tape, hb9.output, hb9.size, hb9.block⟩; have k2 : w9.cell? ⟨p, 2, none⟩ = some (.string ⟨(Ex.cleared y).jr.toArray⟩) := (World.cell?_of_block (a := ⟨p, 2, none⟩) (HB9.out.block p hp8)).trans g2; have kf : w9.frozen? ⟨p, 2, none⟩ = false := (World.frozen?_of_block (a := ⟨p, 2, none⟩) (HB9.out.block p hp8)).trans (gf 2); clear hb9))
          all_goals go_wp2
          all_goals go_ret2
          all_goals
            have J := S8.out.jr HB9.out ((Ex.cleared y).jr ++ RC)
            rw [← cat_str] at J
            have EE : ({ (Ex.answerX (Ex.cleared y) (k :: r')).1 with jr := (Ex.cleared y).jr ++ RC } : Ex.Xch) = Ex.written (Ex.answerX (Ex.cleared y) (k :: r')).1 (k :: r') (Ex.answerX (Ex.cleared y) (k :: r')).2 := by
              have e1 : Ex.record (Ex.answerX (Ex.cleared y) (k :: r')).1.time (k :: r') = RC := by rw [AL.out.2.2.2, HT.out, HRC.out]
              have e2 : (Ex.answerX (Ex.cleared y) (k :: r')).1.jr = (Ex.cleared y).jr := AL.out.2.2.1
              unfold Ex.written
              rw [if_pos ⟨by rw [HBS.out]; rfl, hk⟩, e1, e2]
            rw [ED.out]
            refine ⟨by rw [HBS.out]; rfl, ?_⟩
            first | exact J.same EE | exact J.dr.same EE
        · have hkz : ¬ (k.toNat : Int) ≤ 6 := by omega
          go_wp2
          go_ret2
          rw [ED.out]
          refine ⟨by rw [HBS.out]; rfl, S8.out.same ?_⟩
          show _ = Ex.written _ _ _
          unfold Ex.written
          rw [if_neg (fun q => hk q.2)]
      · have hbz : ((b.toNat : Int) == 0) = false := beq_eq_false_iff_ne.2 (fun e => hb0 (UInt8.toNat_inj.1 (by simpa using e)))
        go_wp2
        go_ret2
        rw [ED.out]
        refine ⟨by rw [HBS.out]; rfl, S8.out.same ?_⟩
        show _ = Ex.written _ _ _
        unfold Ex.written
        rw [HBS.out, if_neg (fun q => hb0 q.1)]
  · have EC : Aside (Ex.cleared y = y) := if_neg hc
    go_quiet (fail)
    obtain ⟨W4, hW4⟩ : ∃ W4, W4 = w.drewN nq := ⟨_, rfl⟩
    rw [← hW4]
    have R4 : Aside (RefAt W4 p (Ex.cleared y) ov fv) := by rw [EC.out, hW4]; exact R1.out.kept rfl
    have L4 : Aside (LRow W4 ov (Ex.cleared y).ords) := by rw [EC.out, hW4]; exact L1.out.kept (fun _ _ => rfl)
    have O4 : Aside (Onl (fun k => k = p ∨ ov.ownBlock = some k) w W4) := by rw [hW4]; exact (O1.out.mono (fun _ h => Or.inl h)).drewN _
    have F4 : Aside (∀ k, ov.ownBlock = some k → ov.ownBlock = some k ∨ w.heap.size ≤ k) := fun k hk => Or.inl hk
    clear hW4 d3 d5
    go_wp2_with fail
    refine Calls.mono (f := 67) (answersR_any R4.out L4.out OKZ.out LZ.out bz r) ?_
    rintro e w8 ⟨rfl, hS⟩
    have S8 : Aside (RSt w p ov w8 (Ex.answerX (Ex.cleared y) r).1) := RSt.trans O4.out F4.out hS
    obtain ⟨ov8, fv8, hr8, hl8, hf8, ho8⟩ := hS
    have g2 : w8.cell? ⟨p, 2, none⟩ = some (.string ⟨(Ex.answerX (Ex.cleared y) r).1.jr.toArray⟩) := hr8.head 2 (by decide)
    have g3 : w8.cell? ⟨p, 3, none⟩ = some (.int .i64 (Ex.answerX (Ex.cleared y) r).1.time) := hr8.head 3 (by decide)
    have gf : ∀ j, w8.frozen? ⟨p, j, none⟩ = false := FAt.frozen hr8
    have hp8 : p < w8.heap.size := RefAt.lt hr8
    rw [AL.out.2.2.1] at g2
    rw [AL.out.2.2.2] at g3
    clear hr8 hl8 hf8 ho8
    obtain ⟨b, s, hbs⟩ := NEX.out
    have HBS : Aside _ := hbs
    rw [hbs]
    clear hbs
    obtain ⟨T, hT⟩ := Int.eq_ofNat_of_zero_le tz
    rw [hT] at g3
    have HT : Aside _ := hT
    clear hT
    have e0 : ({ data := (b :: s).toArray } : ByteArray)[0]'(by show 0 < (b :: s).toArray.size; simp) = b := rfl
    by_cases hb0 : b = 0
    · have hr := SH.out b s HBS.out hb0
      obtain ⟨hr1, hr2⟩ := hr
      subst hb0
      obtain ⟨k, r', rfl⟩ : ∃ k r', r = k :: r' := by
        cases r with
        | nil => exact absurd rfl hr2
        | cons k r' => exact ⟨k, r', rfl⟩
      have e1 : ({ data := (k :: r').toArray } : ByteArray)[0]'(by show 0 < (k :: r').toArray.size; simp) = k := rfl
      by_cases hk : k.toNat ≤ 6
      · have hkz : (k.toNat : Int) ≤ 6 := by omega
        have hrl : (k :: r').length ≤ 1000 := by omega
        obtain ⟨RC, hRC⟩ : ∃ RC, RC = Ex.record (T : Int) (k :: r') := ⟨_, rfl⟩
        have rl : RC.length ≤ 20 := by rw [hRC, Ex.record_length]; omega
        have HRC : Aside _ := hRC
        have REC : Aside (∀ W : World, Calls Try.prog 66 #[.int .i64 (T : Int), .string ⟨(k :: r').toArray⟩] W fun e w' => e = .returned (.string ⟨RC.toArray⟩) ∧ Below W.heap.size W w') := fun W => by rw [hRC]; exact recordR_any T (k :: r') hrl W
        clear hRC
        go_wp2_with fail
        go_region_with (first | (go_at_call 66; refine Calls.mono (f := 66) (REC.out _) ?_; rintro e w9 ⟨rfl, hb9⟩; have HB9 : Aside (Below w8.heap.size w8 w9) := ⟨hb9.os, hb9.tape, hb9.output, hb9.size, hb9.block⟩; have k2 : w9.cell? ⟨p, 2, none⟩ = some (.string ⟨(Ex.cleared y).jr.toArray⟩) := (World.cell?_of_block (a := ⟨p, 2, none⟩) (HB9.out.block p hp8)).trans g2; have kf : w9.frozen? ⟨p, 2, none⟩ = false := (World.frozen?_of_block (a := ⟨p, 2, none⟩) (HB9.out.block p hp8)).trans (gf 2); clear hb9))
        all_goals go_wp2
        all_goals go_ret2
        all_goals
          have J := S8.out.jr HB9.out ((Ex.cleared y).jr ++ RC)
          rw [← cat_str] at J
          have EE : ({ (Ex.answerX (Ex.cleared y) (k :: r')).1 with jr := (Ex.cleared y).jr ++ RC } : Ex.Xch) = Ex.written (Ex.answerX (Ex.cleared y) (k :: r')).1 (k :: r') (Ex.answerX (Ex.cleared y) (k :: r')).2 := by
            have e1 : Ex.record (Ex.answerX (Ex.cleared y) (k :: r')).1.time (k :: r') = RC := by rw [AL.out.2.2.2, HT.out, HRC.out]
            have e2 : (Ex.answerX (Ex.cleared y) (k :: r')).1.jr = (Ex.cleared y).jr := AL.out.2.2.1
            unfold Ex.written
            rw [if_pos ⟨by rw [HBS.out]; rfl, hk⟩, e1, e2]
          rw [ED.out]
          refine ⟨by rw [HBS.out]; rfl, ?_⟩
          first | exact J.same EE | exact J.dr.same EE
      · have hkz : ¬ (k.toNat : Int) ≤ 6 := by omega
        go_wp2
        go_ret2
        rw [ED.out]
        refine ⟨by rw [HBS.out]; rfl, S8.out.same ?_⟩
        show _ = Ex.written _ _ _
        unfold Ex.written
        rw [if_neg (fun q => hk q.2)]
    · have hbz : ((b.toNat : Int) == 0) = false := beq_eq_false_iff_ne.2 (fun e => hb0 (UInt8.toNat_inj.1 (by simpa using e)))
      go_wp2
      go_ret2
      rw [ED.out]
      refine ⟨by rw [HBS.out]; rfl, S8.out.same ?_⟩
      show _ = Ex.written _ _ _
      unfold Ex.written
      rw [HBS.out, if_neg (fun q => hb0 q.1)]
end Go.Proofs.Ytjfifaooimgbaaa
