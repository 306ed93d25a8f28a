import Derived.Test.YtjfifaooimgbaaaRk
/- The document's exchange: orders. -/
namespace Go.Proofs.Ytjfifaooimgbaaa
open Go.Shelf Go.RowKit Go.Lib Go.Sort

theorem src_newO (W : World) (o : Ex.Ord) : Src Try.prog 3 92 (.slice (some ⟨W.heap.size, 0, none⟩) 1 1) 1 (ocs [o]) (W.alloc (.cells #[.int .i64 (o.who : Int), .int .i64 o.side, .int .i64 o.price] 147)) :=
  Src.ofSlice _ Try.underlying92 _ 1 1 _ rfl (fun j u hj => by
    have hjl : j < 3 := (List.getElem?_eq_some_iff.1 hj).1
    rw [Addr.add_lit, Nat.zero_add]
    have e : (W.alloc (.cells #[.int .i64 (o.who : Int), .int .i64 o.side, .int .i64 o.price] 147)).cell? ⟨W.heap.size, j, none⟩ = (#[Value.int .i64 (o.who : Int), .int .i64 o.side, .int .i64 o.price] : Array Value)[j]? := by
      have hb : (W.alloc (.cells #[.int .i64 (o.who : Int), .int .i64 o.side, .int .i64 o.price] 147)).heap[W.heap.size]? = some (.cells #[.int .i64 (o.who : Int), .int .i64 o.side, .int .i64 o.price] 147) := Array.getElem?_push_size
      simp only [World.cell?, hb]
      rfl
    rw [e]
    match j, hjl, hj with
    | 0, _, hj => exact hj
    | 1, _, hj => exact hj
    | 2, _, hj => exact hj) (ocs_one _)
theorem src_newO' (W : World) (o : Ex.Ord) (b : Nat) (hb : b = W.heap.size) : Src Try.prog 3 92 (.slice (some ⟨b, 0, none⟩) 1 1) 1 (ocs [o]) (W.alloc (.cells #[.int .i64 (o.who : Int), .int .i64 o.side, .int .i64 o.price] 147)) := by
  subst hb
  exact src_newO W o
theorem LRow.setp {w : World} {v : Value} {os : List Ex.Ord} (h : LRow w v os) {p : Nat} (hp : v.ownBlock ≠ some p) (j : Nat) (u : Value) : LRow (w.setCell ⟨p, j, none⟩ u) v os :=
  h.kept fun k hk => Below.heap_setCell w ⟨p, j, none⟩ u k (fun e => hp (by rw [hk]; exact congrArg some e))
theorem LRow.al {w : World} {v : Value} {os : List Ex.Ord} (h : LRow w v os) (o : Obj) : LRow (w.alloc o) v os := h.kept fun _ hk => Below.heap_alloc _ _ _ (h.lt hk)
theorem RefAt.al {w : World} {p : Nat} {x : Ex.Xch} {ov fv : Value} (h : RefAt w p x ov fv) (o : Obj) : RefAt (w.alloc o) p x ov fv := h.kept (Below.heap_alloc _ _ _ h.lt)
theorem live_find (os : List Ex.Ord) (t : Nat) : Ex.liveAt os t = (os.findIdx? (fun o => o.who == t)).isSome := by
  unfold Ex.liveAt
  rw [List.findIdx?_isSome]

set_option maxHeartbeats 4000000 in
set_option maxRecDepth 100000 in
theorem ordersR_any (w : World) (p t side price : Nat) (x : Ex.Xch) (ov fv : Value) (h : RefAt w p x ov fv) (hO : LRow w ov x.ords) (ok : Ex.Ok x) (ht : t < 20) (hpr : price ≤ 4611686018427387904) :
    Calls Try.prog 83 #[.pointer (some ⟨p, 0, none⟩), .int .i64 t, .int .i64 side, .int .i64 price] w fun e w' => e = .returned (.string ⟨(Ex.ordersX x t side price).2.toArray⟩) ∧ RSt w p ov w' (Ex.ordersX x t side price).1 := by
  have mixed : Try.prog.follows .mixedOrders = true := by kernel_rfl
  have hl : x.ords.length ≤ 20 := by have := ok.len; have := ok.cap; omega
  have HL : Aside _ := liveR_any w p t x ov fv h hO hl
  have HR : Aside (RefAt w p x ov fv) := h
  have HO : Aside (LRow w ov x.ords) := hO
  have NP : Aside (ov.ownBlock ≠ some p) := ref_apart h hO
  have hpl := h.lt
  have htz : (t : Int) < 20 := by omega
  obtain ⟨b1, b5, b6, b7, b8⟩ := ok.bdsR t ht
  have tm := tm_of ok ht
  obtain ⟨⟨t1, t2⟩, ⟨t3, t4⟩, ⟨t5, t6⟩, t7, t8⟩ := tm
  have qc := ok.cap
  obtain ⟨k1, k2⟩ := qc
  obtain ⟨ao, cap, hov, ords, hcap⟩ := hO.ords
  subst hov
  have c87 : w.cell? ⟨p, 87, none⟩ = some (.slice ao x.ords.length cap) := HR.out.mid 1 (by decide)
  have c1 : w.cell? ⟨p, 1, none⟩ = some (.int .i64 x.cap) := HR.out.head 1 (by decide)
  have x0 := HR.out.c0 ht
  have x1 := HR.out.c1 ht
  have x2 := HR.out.c2 ht
  have x3 := HR.out.c3 ht
  have f0 : ∀ j, w.frozen? ⟨p, j, none⟩ = false := FAt.frozen HR.out
  obtain ⟨R, hR⟩ : ∃ R, Ex.ordersX x t side price = R := ⟨_, rfl⟩
  rw [hR]
  unfold Ex.ordersX at hR
  rw [live_find] at hR
  unfold placeR at HL
  have FC := findR_idx x.ords t
  clear h hO ords b1 ok
  obtain ⟨q, hq⟩ : ∃ q, x.ps t = q := ⟨_, rfl⟩
  have HQ : Aside (x.ps t = q) := hq
  rw [hq] at b5 b6 b7 b8 t1 t2 t3 t4 t5 t6 t7 t8 x0 x1 x2 x3 hR
  clear hq
  by_cases h4 : 1 < side
  · rw [if_pos h4] at hR
    have z4 : (1 : Int) < (side : Int) := by omega
    rcases FC with ⟨e1, e2⟩ | ⟨i, hi, e1, e2, e3⟩
    · rw [e1] at HL
      clear e1 e2
      go_enter Try.func83, Try.ntmps83
      go_wp2_with fail
      refine Calls.mono (f := 97) HL.out ?_
      rintro e w1 ⟨rfl, hw1⟩
      rw [hw1]
      clear hw1
      go_wp2_with fail
      refine (code_any 4 4 rfl _).mono ?_
      rintro e w2 ⟨rfl, hw2⟩
      have HW : Aside _ := hw2
      clear hw2
      go_wp2
      go_ret
      subst hR
      rw [HW.out]
      exact ⟨rfl, _, fv, HR.out.kept (Below.heap_alloc _ _ _ hpl), HO.out.kept (fun k hk => Below.heap_alloc _ _ _ (HO.out.lt hk)), fun k hk => Or.inl hk, (Onl.refl _ _).alloc _⟩
    · rw [e1] at HL
      clear e1 e2
      go_enter Try.func83, Try.ntmps83
      go_wp2_with fail
      refine Calls.mono (f := 97) HL.out ?_
      rintro e w1 ⟨rfl, hw1⟩
      rw [hw1]
      clear hw1
      go_wp2_with fail
      refine (code_any 4 4 rfl _).mono ?_
      rintro e w2 ⟨rfl, hw2⟩
      have HW : Aside _ := hw2
      clear hw2
      go_wp2
      go_ret
      subst hR
      rw [HW.out]
      exact ⟨rfl, _, fv, HR.out.kept (Below.heap_alloc _ _ _ hpl), HO.out.kept (fun k hk => Below.heap_alloc _ _ _ (HO.out.lt hk)), fun k hk => Or.inl hk, (Onl.refl _ _).alloc _⟩
  · rw [if_neg h4] at hR
    have z4 : ¬ (1 : Int) < (side : Int) := by omega
    by_cases h5 : price < 1 ∨ 1000 ≤ price
    · rw [if_pos h5] at hR
      have z5 : ¬ ((1 : Int) ≤ (price : Int) ∧ (price : Int) < 1000) := by omega
      by_cases h5a : price < 1
      · have z5a : (price : Int) < 1 := by omega
        clear h5
        rcases FC with ⟨e1, e2⟩ | ⟨i, hi, e1, e2, e3⟩
        · rw [e1] at HL
          clear e1 e2
          go_enter Try.func83, Try.ntmps83
          go_wp2_with fail
          refine Calls.mono (f := 97) HL.out ?_
          rintro e w1 ⟨rfl, hw1⟩
          rw [hw1]
          clear hw1
          go_wp2_with fail
          refine (code_any 5 5 rfl _).mono ?_
          rintro e w2 ⟨rfl, hw2⟩
          have HW : Aside _ := hw2
          clear hw2
          go_wp2
          go_ret
          subst hR
          rw [HW.out]
          exact ⟨rfl, _, fv, HR.out.kept (Below.heap_alloc _ _ _ hpl), HO.out.kept (fun k hk => Below.heap_alloc _ _ _ (HO.out.lt hk)), fun k hk => Or.inl hk, (Onl.refl _ _).alloc _⟩
        · rw [e1] at HL
          clear e1 e2
          go_enter Try.func83, Try.ntmps83
          go_wp2_with fail
          refine Calls.mono (f := 97) HL.out ?_
          rintro e w1 ⟨rfl, hw1⟩
          rw [hw1]
          clear hw1
          go_wp2_with fail
          refine (code_any 5 5 rfl _).mono ?_
          rintro e w2 ⟨rfl, hw2⟩
          have HW : Aside _ := hw2
          clear hw2
          go_wp2
          go_ret
          subst hR
          rw [HW.out]
          exact ⟨rfl, _, fv, HR.out.kept (Below.heap_alloc _ _ _ hpl), HO.out.kept (fun k hk => Below.heap_alloc _ _ _ (HO.out.lt hk)), fun k hk => Or.inl hk, (Onl.refl _ _).alloc _⟩
      · have z5a : ¬ (price : Int) < 1 := by omega
        have z5b : (1000 : Int) ≤ (price : Int) := by omega
        clear h5
        rcases FC with ⟨e1, e2⟩ | ⟨i, hi, e1, e2, e3⟩
        · rw [e1] at HL
          clear e1 e2
          go_enter Try.func83, Try.ntmps83
          go_wp2_with fail
          refine Calls.mono (f := 97) HL.out ?_
          rintro e w1 ⟨rfl, hw1⟩
          rw [hw1]
          clear hw1
          go_wp2_with fail
          refine (code_any 5 5 rfl _).mono ?_
          rintro e w2 ⟨rfl, hw2⟩
          have HW : Aside _ := hw2
          clear hw2
          go_wp2
          go_ret
          subst hR
          rw [HW.out]
          exact ⟨rfl, _, fv, HR.out.kept (Below.heap_alloc _ _ _ hpl), HO.out.kept (fun k hk => Below.heap_alloc _ _ _ (HO.out.lt hk)), fun k hk => Or.inl hk, (Onl.refl _ _).alloc _⟩
        · rw [e1] at HL
          clear e1 e2
          go_enter Try.func83, Try.ntmps83
          go_wp2_with fail
          refine Calls.mono (f := 97) HL.out ?_
          rintro e w1 ⟨rfl, hw1⟩
          rw [hw1]
          clear hw1
          go_wp2_with fail
          refine (code_any 5 5 rfl _).mono ?_
          rintro e w2 ⟨rfl, hw2⟩
          have HW : Aside _ := hw2
          clear hw2
          go_wp2
          go_ret
          subst hR
          rw [HW.out]
          exact ⟨rfl, _, fv, HR.out.kept (Below.heap_alloc _ _ _ hpl), HO.out.kept (fun k hk => Below.heap_alloc _ _ _ (HO.out.lt hk)), fun k hk => Or.inl hk, (Onl.refl _ _).alloc _⟩
    · rw [if_neg h5] at hR
      have z5a : ¬ (price : Int) < 1 := by omega
      have z5b : ¬ (1000 : Int) ≤ (price : Int) := by omega
      clear h5
      rcases FC with ⟨e1, e2⟩ | ⟨i, hi, e1, e2, e3⟩
      case inr =>
        rw [e1] at HL hR
        rw [if_pos (show (some i).isSome = true from rfl)] at hR
        have z6 : (0 : Int) ≤ (i : Int) := by omega
        clear e1 e2
        go_enter Try.func83, Try.ntmps83
        go_wp2_with fail
        refine Calls.mono (f := 97) HL.out ?_
        rintro e w1 ⟨rfl, hw1⟩
        rw [hw1]
        clear hw1
        go_wp2_with fail
        refine (code_any 6 6 rfl _).mono ?_
        rintro e w2 ⟨rfl, hw2⟩
        have HW : Aside _ := hw2
        clear hw2
        go_wp2
        go_ret
        subst hR
        rw [HW.out]
        exact ⟨rfl, _, fv, HR.out.kept (Below.heap_alloc _ _ _ hpl), HO.out.kept (fun k hk => Below.heap_alloc _ _ _ (HO.out.lt hk)), fun k hk => Or.inl hk, (Onl.refl _ _).alloc _⟩
      rw [e1] at HL hR
      rw [if_neg (by simp)] at hR
      clear e1 e2
      by_cases h7 : x.cap ≤ (x.ords.length : Int)
      · rw [if_pos h7] at hR
        go_enter Try.func83, Try.ntmps83
        go_wp2_with fail
        refine Calls.mono (f := 97) HL.out ?_
        rintro e w1 ⟨rfl, hw1⟩
        rw [hw1]
        clear hw1
        go_wp2_with fail
        go_quiet (fail)
        go_wp2_with fail
        refine (code_any 7 7 rfl _).mono ?_
        rintro e w2 ⟨rfl, hw2⟩
        have HW : Aside _ := hw2
        clear hw2
        go_wp2
        go_ret
        subst hR
        rw [HW.out]
        refine ⟨rfl, _, fv, HR.out.kept (Below.heap_alloc _ _ _ hpl), HO.out.kept (fun k hk => Below.heap_alloc _ _ _ (HO.out.lt hk)), fun k hk => Or.inl hk, ?_⟩
        exact ((Onl.refl _ w).drewN _).alloc _
      · rw [if_neg h7] at hR
        obtain rfl | rfl : side = 0 ∨ side = 1 := by omega
        · by_cases h8 : q.cash < (price : Int)
          · rw [if_pos (Or.inl ⟨rfl, h8⟩)] at hR
            go_enter Try.func83, Try.ntmps83
            go_wp2_with fail
            refine Calls.mono (f := 97) HL.out ?_
            rintro e w1 ⟨rfl, hw1⟩
            rw [hw1]
            clear hw1
            go_wp2_with fail
            go_quiet (fail)
            go_wp2_with fail
            refine (code_any 8 8 rfl _).mono ?_
            rintro e w2 ⟨rfl, hw2⟩
            have HW : Aside _ := hw2
            clear hw2
            go_wp2
            go_ret
            subst hR
            rw [HW.out]
            refine ⟨rfl, _, fv, HR.out.kept (Below.heap_alloc _ _ _ hpl), HO.out.kept (fun k hk => Below.heap_alloc _ _ _ (HO.out.lt hk)), fun k hk => Or.inl hk, ?_⟩
            exact ((Onl.refl _ w).drewN _).alloc _
          · rw [if_neg (by simp; omega)] at hR
            go_enter Try.func83, Try.ntmps83
            go_wp2_with fail
            refine Calls.mono (f := 97) HL.out ?_
            rintro e w1 ⟨rfl, hw1⟩
            rw [hw1]
            clear hw1
            go_wp2_with fail
            go_quiet (fail)
            obtain ⟨W, hW⟩ : ∃ W, W = w.drewN nq := ⟨_, rfl⟩
            rw [← hW]
            have RW : Aside (RefAt W p x (.slice ao x.ords.length cap) fv) := by rw [hW]; exact HR.out.kept rfl
            have LW : Aside (LRow W (.slice ao x.ords.length cap) x.ords) := by rw [hW]; exact HO.out.kept (fun _ _ => rfl)
            have OW : Aside (Onl (fun k => k = p ∨ (Value.slice ao x.ords.length cap).ownBlock = some k) w W) := by rw [hW]; exact (Onl.refl _ w).drewN _
            clear hW c87 c1 x0 x1 x2 x3 f0
            have y0 : W.cell? ⟨p, 6 + t * 4, none⟩ = some (.int .i64 q.cash) := by rw [RW.out.c0 ht, HQ.out]
            have y1 : W.cell? ⟨p, 6 + t * 4 + 1, none⟩ = some (.int .i64 q.held) := by rw [RW.out.c1 ht, HQ.out]
            have y2 : W.cell? ⟨p, 6 + t * 4 + 2, none⟩ = some (.int .i64 q.units) := by rw [RW.out.c2 ht, HQ.out]
            have y3 : W.cell? ⟨p, 6 + t * 4 + 3, none⟩ = some (.int .i64 q.hun) := by rw [RW.out.c3 ht, HQ.out]
            have y87 : W.cell? ⟨p, 87, none⟩ = some (.slice ao x.ords.length cap) := RW.out.mid 1 (by decide)
            have f0 : ∀ j, W.frozen? ⟨p, j, none⟩ = false := FAt.frozen RW.out
            have o87 : 6 + t * 4 ≠ 87 := by omega
            have o88 : 6 + t * 4 + 1 ≠ 87 := by omega
            have o89 : 6 + t * 4 + 2 ≠ 87 := by omega
            have o90 : 6 + t * 4 + 3 ≠ 87 := by omega
            have hpW : p < W.heap.size := RW.out.lt
            have R1 : Aside (RefAt ((W.setCell ⟨p, 6 + t * 4, none⟩ (.int .i64 (q.cash - price))).setCell ⟨p, 6 + t * 4 + 1, none⟩ (.int .i64 (q.held + price))) p { x with ps := Ex.upd x.ps t { q with cash := q.cash - price, held := q.held + price } } (.slice ao x.ords.length cap) fv) := by
              refine RefAt.same ((RW.out.setCash t ht (q.cash - price)).setHeld t ht (q.held + price)) ?_
              show { x with ps := Ex.upd (Ex.upd x.ps t _) t _ } = { x with ps := Ex.upd x.ps t _ }
              rw [upd_upd]
              simp only [Ex.upd_same, HQ.out]
            go_wp2_with (first | (at_builtin; refine wpList_append_live _ rfl _ _ rfl (.slice ao x.ords.length cap) x.ords rfl (((LW.out.setp NP.out _ _).setp NP.out _ _).al _) _ rfl [⟨t, 0, price⟩] (src_newO' _ ⟨t, 0, price⟩ _ (by simp)) (by simp; omega) ?_; intro v4 w4 g1 g2 g3; obtain ⟨a4, c4, hv4, _⟩ := row_slice_le g1; obtain ⟨m4, hm4⟩ : ∃ m, m = x.ords.length + 1 := ⟨_, rfl⟩; rw [List.length_append, List.length_singleton, ← hm4] at hv4; have HM : Aside _ := hm4; clear hm4; subst hv4; have G1 : Aside _ := g1; have G2 : Aside _ := g2; have G3 : Aside _ := g3; have R4 : Aside (RefAt w4 p { x with ps := Ex.upd x.ps t { q with cash := q.cash - price, held := q.held + price } } (.slice ao x.ords.length cap) fv) := grown_ref (R1.out.al _) (((LW.out.setp NP.out _ _).setp NP.out _ _).al _) g2; have d4 := R4.out.mid 1 (by decide); have f4 : w4.frozen? ⟨p, 87, none⟩ = false := FAt.frozen R4.out _; clear g1 g2 g3) | fail)
            obtain ⟨w5, hw5⟩ : ∃ w5, w5 = w4.setCell ⟨p, 87, none⟩ (.slice a4 m4 c4) := ⟨_, rfl⟩
            rw [← hw5]
            have R5 : Aside (RefAt w5 p { x with ps := Ex.upd x.ps t { q with cash := q.cash - price, held := q.held + price }, ords := x.ords ++ [⟨t, 0, price⟩] } (.slice a4 m4 c4) fv) := by rw [hw5]; exact R4.out.setOv (.slice a4 m4 c4) (x.ords ++ [⟨t, 0, price⟩])
            have nv4 := ref_apart R4.out G1.out
            have L5 : Aside (LRow w5 (.slice a4 m4 c4) (x.ords ++ [⟨t, 0, price⟩])) := by rw [hw5]; exact LRow.setp G1.out nv4 _ _
            have O5 : Aside (Onl (fun k => k = p ∨ (Value.slice ao x.ords.length cap).ownBlock = some k) w w5) := by
              have o2 : Onl (fun k => k = p ∨ (Value.slice ao x.ords.length cap).ownBlock = some k) w _ := ((OW.out.set ⟨p, 6 + t * 4, none⟩ (.int .i64 (q.cash - price)) (Or.inl (Or.inl rfl))).set ⟨p, 6 + t * 4 + 1, none⟩ (.int .i64 (q.held + price)) (Or.inl (Or.inl rfl))).alloc (Obj.cells #[.int .i64 (t : Int), .int .i64 0, .int .i64 (price : Int)] 147)
              have o3 : Onl (fun k => k = p ∨ (Value.slice ao x.ords.length cap).ownBlock = some k) w w4 := by
                cases hv : (Value.slice ao x.ords.length cap).ownBlock with
                | none => rw [hv] at o2; exact o2.grown0 (hv ▸ G2.out)
                | some j => rw [hv] at o2; exact o2.grown (hv ▸ G2.out) (Or.inl (Or.inr rfl))
              rw [hw5]; exact o3.set _ _ (Or.inl (Or.inl rfl))
            have F5 : Aside (∀ k, (Value.slice a4 m4 c4).ownBlock = some k → (Value.slice ao x.ords.length cap).ownBlock = some k ∨ w.heap.size ≤ k) := fun k hk => by
              rcases G3.out with e | e
              · rw [e] at hk; exact Or.inl hk
              · rw [e] at hk
                injection hk with hk
                right
                rw [← hk]
                have := OW.out.size
                simp
                omega
            have e87 : w5.cell? ⟨p, 87, none⟩ = some (.slice a4 m4 c4) := R5.out.mid 1 (by decide)
            have hp5 : p < w5.heap.size := R5.out.lt
            clear hw5 d4 f4 y0 y1 y2 y3 y87 f0 nv4
            have bl1 := bytesOf_length m4 1
            go_region_held3 (fun V => V.cell? ⟨p, 87, none⟩ = some (.slice a4 m4 c4)) (first | assumption | go_keep) (first | (go_at_call 80; refine (code_any 0 0 rfl _).mono ?_; rintro e w' ⟨rfl, rfl⟩; unfold rowed) | (go_at_call 79; refine (bytesR_any m4 1 _ (by decide)).mono ?_; rintro e w' ⟨rfl, rfl⟩; unfold rowed txt))
            all_goals go_wp2
            all_goals go_ret
            subst hR
            refine ⟨congrArg Ending.returned (congrArg Value.string ?_), .slice a4 m4 c4, fv, ((R5.out.al _).al _).same ?_, ?_, F5.out, ((O5.out.alloc _).alloc _).drew⟩
            · show (⟨#[0]⟩ : ByteArray) ++ ⟨(bytesOf m4 1).toArray⟩ = _
              rw [HM.out]
              exact cat_str [0] _
            · simp
            · show LRow _ _ (x.ords ++ [⟨t, 0, price⟩])
              exact LRow.al (LRow.al L5.out _) _
        · by_cases h8 : q.units < 1
          · rw [if_pos (Or.inr ⟨rfl, h8⟩)] at hR
            go_enter Try.func83, Try.ntmps83
            go_wp2_with fail
            refine Calls.mono (f := 97) HL.out ?_
            rintro e w1 ⟨rfl, hw1⟩
            rw [hw1]
            clear hw1
            go_wp2_with fail
            go_quiet (fail)
            go_wp2_with fail
            refine (code_any 8 8 rfl _).mono ?_
            rintro e w2 ⟨rfl, hw2⟩
            have HW : Aside _ := hw2
            clear hw2
            go_wp2
            go_ret
            subst hR
            rw [HW.out]
            refine ⟨rfl, _, fv, HR.out.kept (Below.heap_alloc _ _ _ hpl), HO.out.kept (fun k hk => Below.heap_alloc _ _ _ (HO.out.lt hk)), fun k hk => Or.inl hk, ?_⟩
            exact ((Onl.refl _ w).drewN _).alloc _
          · rw [if_neg (by simp; omega)] at hR
            go_enter Try.func83, Try.ntmps83
            go_wp2_with fail
            refine Calls.mono (f := 97) HL.out ?_
            rintro e w1 ⟨rfl, hw1⟩
            rw [hw1]
            clear hw1
            go_wp2_with fail
            go_quiet (fail)
            obtain ⟨W, hW⟩ : ∃ W, W = w.drewN nq := ⟨_, rfl⟩
            rw [← hW]
            have RW : Aside (RefAt W p x (.slice ao x.ords.length cap) fv) := by rw [hW]; exact HR.out.kept rfl
            have LW : Aside (LRow W (.slice ao x.ords.length cap) x.ords) := by rw [hW]; exact HO.out.kept (fun _ _ => rfl)
            have OW : Aside (Onl (fun k => k = p ∨ (Value.slice ao x.ords.length cap).ownBlock = some k) w W) := by rw [hW]; exact (Onl.refl _ w).drewN _
            clear hW c87 c1 x0 x1 x2 x3 f0
            have y0 : W.cell? ⟨p, 6 + t * 4, none⟩ = some (.int .i64 q.cash) := by rw [RW.out.c0 ht, HQ.out]
            have y1 : W.cell? ⟨p, 6 + t * 4 + 1, none⟩ = some (.int .i64 q.held) := by rw [RW.out.c1 ht, HQ.out]
            have y2 : W.cell? ⟨p, 6 + t * 4 + 2, none⟩ = some (.int .i64 q.units) := by rw [RW.out.c2 ht, HQ.out]
            have y3 : W.cell? ⟨p, 6 + t * 4 + 3, none⟩ = some (.int .i64 q.hun) := by rw [RW.out.c3 ht, HQ.out]
            have y87 : W.cell? ⟨p, 87, none⟩ = some (.slice ao x.ords.length cap) := RW.out.mid 1 (by decide)
            have f0 : ∀ j, W.frozen? ⟨p, j, none⟩ = false := FAt.frozen RW.out
            have o87 : 6 + t * 4 ≠ 87 := by omega
            have o88 : 6 + t * 4 + 1 ≠ 87 := by omega
            have o89 : 6 + t * 4 + 2 ≠ 87 := by omega
            have o90 : 6 + t * 4 + 3 ≠ 87 := by omega
            have hpW : p < W.heap.size := RW.out.lt
            have R1 : Aside (RefAt ((W.setCell ⟨p, 6 + t * 4 + 2, none⟩ (.int .i64 (q.units - 1))).setCell ⟨p, 6 + t * 4 + 3, none⟩ (.int .i64 (q.hun + 1))) p { x with ps := Ex.upd x.ps t { q with units := q.units - 1, hun := q.hun + 1 } } (.slice ao x.ords.length cap) fv) := by
              refine RefAt.same ((RW.out.setUnits t ht (q.units - 1)).setHun t ht (q.hun + 1)) ?_
              show { x with ps := Ex.upd (Ex.upd x.ps t _) t _ } = { x with ps := Ex.upd x.ps t _ }
              rw [upd_upd]
              simp only [Ex.upd_same, HQ.out]
            go_wp2_with (first | (at_builtin; refine wpList_append_live _ rfl _ _ rfl (.slice ao x.ords.length cap) x.ords rfl (((LW.out.setp NP.out _ _).setp NP.out _ _).al _) _ rfl [⟨t, 1, price⟩] (src_newO' _ ⟨t, 1, price⟩ _ (by simp)) (by simp; omega) ?_; intro v4 w4 g1 g2 g3; obtain ⟨a4, c4, hv4, _⟩ := row_slice_le g1; obtain ⟨m4, hm4⟩ : ∃ m, m = x.ords.length + 1 := ⟨_, rfl⟩; rw [List.length_append, List.length_singleton, ← hm4] at hv4; have HM : Aside _ := hm4; clear hm4; subst hv4; have G1 : Aside _ := g1; have G2 : Aside _ := g2; have G3 : Aside _ := g3; have R4 : Aside (RefAt w4 p { x with ps := Ex.upd x.ps t { q with units := q.units - 1, hun := q.hun + 1 } } (.slice ao x.ords.length cap) fv) := grown_ref (R1.out.al _) (((LW.out.setp NP.out _ _).setp NP.out _ _).al _) g2; have d4 := R4.out.mid 1 (by decide); have f4 : w4.frozen? ⟨p, 87, none⟩ = false := FAt.frozen R4.out _; clear g1 g2 g3) | fail)
            obtain ⟨w5, hw5⟩ : ∃ w5, w5 = w4.setCell ⟨p, 87, none⟩ (.slice a4 m4 c4) := ⟨_, rfl⟩
            rw [← hw5]
            have R5 : Aside (RefAt w5 p { x with ps := Ex.upd x.ps t { q with units := q.units - 1, hun := q.hun + 1 }, ords := x.ords ++ [⟨t, 1, price⟩] } (.slice a4 m4 c4) fv) := by rw [hw5]; exact R4.out.setOv (.slice a4 m4 c4) (x.ords ++ [⟨t, 1, price⟩])
            have nv4 := ref_apart R4.out G1.out
            have L5 : Aside (LRow w5 (.slice a4 m4 c4) (x.ords ++ [⟨t, 1, price⟩])) := by rw [hw5]; exact LRow.setp G1.out nv4 _ _
            have O5 : Aside (Onl (fun k => k = p ∨ (Value.slice ao x.ords.length cap).ownBlock = some k) w w5) := by
              have o2 : Onl (fun k => k = p ∨ (Value.slice ao x.ords.length cap).ownBlock = some k) w _ := ((OW.out.set ⟨p, 6 + t * 4 + 2, none⟩ (.int .i64 (q.units - 1)) (Or.inl (Or.inl rfl))).set ⟨p, 6 + t * 4 + 3, none⟩ (.int .i64 (q.hun + 1)) (Or.inl (Or.inl rfl))).alloc (Obj.cells #[.int .i64 (t : Int), .int .i64 1, .int .i64 (price : Int)] 147)
              have o3 : Onl (fun k => k = p ∨ (Value.slice ao x.ords.length cap).ownBlock = some k) w w4 := by
                cases hv : (Value.slice ao x.ords.length cap).ownBlock with
                | none => rw [hv] at o2; exact o2.grown0 (hv ▸ G2.out)
                | some j => rw [hv] at o2; exact o2.grown (hv ▸ G2.out) (Or.inl (Or.inr rfl))
              rw [hw5]; exact o3.set _ _ (Or.inl (Or.inl rfl))
            have F5 : Aside (∀ k, (Value.slice a4 m4 c4).ownBlock = some k → (Value.slice ao x.ords.length cap).ownBlock = some k ∨ w.heap.size ≤ k) := fun k hk => by
              rcases G3.out with e | e
              · rw [e] at hk; exact Or.inl hk
              · rw [e] at hk
                injection hk with hk
                right
                rw [← hk]
                have := OW.out.size
                simp
                omega
            have e87 : w5.cell? ⟨p, 87, none⟩ = some (.slice a4 m4 c4) := R5.out.mid 1 (by decide)
            have hp5 : p < w5.heap.size := R5.out.lt
            clear hw5 d4 f4 y0 y1 y2 y3 y87 f0 nv4
            have bl1 := bytesOf_length m4 1
            go_region_held3 (fun V => V.cell? ⟨p, 87, none⟩ = some (.slice a4 m4 c4)) (first | assumption | go_keep) (first | (go_at_call 80; refine (code_any 0 0 rfl _).mono ?_; rintro e w' ⟨rfl, rfl⟩; unfold rowed) | (go_at_call 79; refine (bytesR_any m4 1 _ (by decide)).mono ?_; rintro e w' ⟨rfl, rfl⟩; unfold rowed txt))
            all_goals go_wp2
            all_goals go_ret
            subst hR
            refine ⟨congrArg Ending.returned (congrArg Value.string ?_), .slice a4 m4 c4, fv, ((R5.out.al _).al _).same ?_, ?_, F5.out, ((O5.out.alloc _).alloc _).drew⟩
            · show (⟨#[0]⟩ : ByteArray) ++ ⟨(bytesOf m4 1).toArray⟩ = _
              rw [HM.out]
              exact cat_str [0] _
            · simp
            · show LRow _ _ (x.ords ++ [⟨t, 1, price⟩])
              exact LRow.al (LRow.al L5.out _) _
end Go.Proofs.Ytjfifaooimgbaaa
/- The document's exchange: tells. -/
namespace Go.Proofs.Ytjfifaooimgbaaa
open Go.Shelf Go.RowKit Go.Lib Go.Sort

theorem cell_up {w : World} {a : Addr} {v : Value} (h : w.cell? a = some v) (o : Obj) : (w.alloc o).cell? a = some v := by
  by_cases hb : a.block < w.heap.size
  · exact (World.cell?_of_block (Below.heap_alloc w o a.block hb)).trans h
  · have : w.heap[a.block]? = none := Array.getElem?_eq_none (by omega)
    simp [World.cell?, this] at h
theorem cell_dr {w : World} {a : Addr} {v : Value} (h : w.cell? a = some v) : w.drew.cell? a = some v := h

theorem blw_al {w b : World} (h : Below w.heap.size w b) (o : Obj) : Below w.heap.size w (b.alloc o) := h.alloc h.size o
theorem blw_dr {w b : World} (h : Below w.heap.size w b) : Below w.heap.size w b.drew := ⟨h.os, h.tape, h.output, h.size, h.block⟩
theorem b0 : (⟨#[0]⟩ : ByteArray) = ⟨[0].toArray⟩ := rfl

set_option maxHeartbeats 4000000 in
set_option maxRecDepth 100000 in
theorem tells7_any (w : World) (p t : Nat) (x : Ex.Xch) (ov fv : Value) (h : RefAt w p x ov fv) (ok : Ex.Ok x) (ht : t < 20) :
    Calls Try.prog 85 #[.pointer (some ⟨p, 0, none⟩), .int .i64 7, .int .i64 t] w fun e w' => e = .returned (.string ⟨(Ex.tellsX x 7 t).toArray⟩) ∧ Below w.heap.size w w' := by
  have mixed : Try.prog.follows .mixedOrders = true := by kernel_rfl
  obtain ⟨b1, b5, b6, b7, b8⟩ := ok.bdsR t ht
  have htz : (t : Int) < 20 := by omega
  have x0 := h.c0 ht
  have x1 := h.c1 ht
  have x2 := h.c2 ht
  have x3 := h.c3 ht
  have hpl := h.lt
  have ER : Aside (Ex.tellsX x 7 t = 0 :: (bytesOf (x.ps t).cash.toNat 8 ++ bytesOf (x.ps t).held.toNat 8 ++ bytesOf (x.ps t).units.toNat 8 ++ bytesOf (x.ps t).hun.toNat 8)) := rfl
  clear h ok b1
  obtain ⟨a, ha⟩ := Int.eq_ofNat_of_zero_le b5
  obtain ⟨b, hb⟩ := Int.eq_ofNat_of_zero_le b6
  obtain ⟨c, hc⟩ := Int.eq_ofNat_of_zero_le b7
  obtain ⟨d, hd⟩ := Int.eq_ofNat_of_zero_le b8
  rw [ha, hb, hc, hd, Int.toNat_natCast, Int.toNat_natCast, Int.toNat_natCast, Int.toNat_natCast] at ER
  rw [ha] at x0
  rw [hb] at x1
  rw [hc] at x2
  rw [hd] at x3
  clear ha hb hc hd b5 b6 b7 b8
  have hbl := bytesOf_length
  go_enter Try.func85, Try.ntmps85
  go_wp2_with fail
  refine (code_any 0 0 rfl _).mono ?_
  rintro e w1 ⟨rfl, hw1⟩
  have B1 : Aside (Below w.heap.size w w1) := by rw [hw1]; exact (Below.refl _ w).alloc (Nat.le_refl _) _
  have y0 : w1.cell? ⟨p, 6 + t * 4, none⟩ = some (.int .i64 (a : Int)) := (World.cell?_of_block (a := ⟨p, 6 + t * 4, none⟩) (B1.out.block p hpl)).trans x0
  have y1 : w1.cell? ⟨p, 6 + t * 4 + 1, none⟩ = some (.int .i64 (b : Int)) := (World.cell?_of_block (a := ⟨p, 6 + t * 4 + 1, none⟩) (B1.out.block p hpl)).trans x1
  have y2 : w1.cell? ⟨p, 6 + t * 4 + 2, none⟩ = some (.int .i64 (c : Int)) := (World.cell?_of_block (a := ⟨p, 6 + t * 4 + 2, none⟩) (B1.out.block p hpl)).trans x2
  have y3 : w1.cell? ⟨p, 6 + t * 4 + 3, none⟩ = some (.int .i64 (d : Int)) := (World.cell?_of_block (a := ⟨p, 6 + t * 4 + 3, none⟩) (B1.out.block p hpl)).trans x3
  clear hw1 x0 x1 x2 x3
  go_wp2_with fail
  obtain ⟨w2, hw2⟩ : ∃ w2, w2 = w1.alloc (.cells #[.int .i64 (a : Int), .int .i64 (b : Int), .int .i64 (c : Int), .int .i64 (d : Int)] 90) := ⟨_, rfl⟩
  rw [← hw2]
  have z0 : w2.cell? ⟨w1.heap.size, 0, none⟩ = some (.int .i64 (a : Int)) := by rw [hw2]; simp
  have z1 : w2.cell? ⟨w1.heap.size, 1, none⟩ = some (.int .i64 (b : Int)) := by rw [hw2]; simp
  have z2 : w2.cell? ⟨w1.heap.size, 2, none⟩ = some (.int .i64 (c : Int)) := by rw [hw2]; simp
  have z3 : w2.cell? ⟨w1.heap.size, 3, none⟩ = some (.int .i64 (d : Int)) := by rw [hw2]; simp
  have hs2 : w1.heap.size < w2.heap.size := by rw [hw2]; simp
  have B2 : Aside (Below w.heap.size w w2) := by rw [hw2]; exact B1.out.alloc B1.out.size _
  clear hw2 y0 y1 y2 y3
  go_region_held3 (fun V => V.cell? ⟨w1.heap.size, 0, none⟩ = some (.int .i64 (a : Int)) ∧ V.cell? ⟨w1.heap.size, 1, none⟩ = some (.int .i64 (b : Int)) ∧ V.cell? ⟨w1.heap.size, 2, none⟩ = some (.int .i64 (c : Int)) ∧ V.cell? ⟨w1.heap.size, 3, none⟩ = some (.int .i64 (d : Int))) (refine ⟨?_, ?_, ?_, ?_⟩ <;> repeat (first | assumption | refine cell_up ?_ _ | refine cell_dr ?_)) (first | (go_at_call 79; refine (bytesR_any _ 8 _ (by decide)).mono ?_; rintro e w' ⟨rfl, rfl⟩; unfold rowed txt))
  all_goals go_wp2
  all_goals go_ret
  rw [ER.out]
  refine ⟨congrArg Ending.returned (congrArg Value.string ?_), ?_⟩
  · show (((((⟨#[0]⟩ : ByteArray) ++ ⟨(bytesOf a 8).toArray⟩) ++ ⟨(bytesOf b 8).toArray⟩) ++ ⟨(bytesOf c 8).toArray⟩) ++ ⟨(bytesOf d 8).toArray⟩) = _
    rw [b0, cat_str, cat_str, cat_str, cat_str]
    rfl
  · repeat (first | exact B2.out | refine blw_al ?_ _ | refine blw_dr ?_)

set_option maxHeartbeats 4000000 in
set_option maxRecDepth 100000 in
theorem tells8_any (w : World) (p t : Nat) (x : Ex.Xch) (ov fv : Value) (h : RefAt w p x ov fv) (hO : LRow w ov x.ords) (ok : Ex.Ok x) (hb : x.batch ≤ 1152921504606846976) :
    Calls Try.prog 85 #[.pointer (some ⟨p, 0, none⟩), .int .i64 8, .int .i64 t] w fun e w' => e = .returned (.string ⟨(Ex.tellsX x 8 t).toArray⟩) ∧ Below w.heap.size w w' := by
  have mixed : Try.prog.follows .mixedOrders = true := by kernel_rfl
  obtain ⟨ao, cap, hov, _, _⟩ := hO.ords
  subst hov
  have x0 : w.cell? ⟨p, 4, none⟩ = some (.int .i64 x.batch) := h.head 4 (by decide)
  have x1 : w.cell? ⟨p, 5, none⟩ = some (.int .i64 x.fin) := h.head 5 (by decide)
  have x2 : w.cell? ⟨p, 87, none⟩ = some (.slice ao x.ords.length cap) := h.mid 1 (by decide)
  have hpl := h.lt
  have ER : Aside (Ex.tellsX x 8 t = 0 :: (bytesOf x.batch.toNat 4 ++ bytesOf x.fin.toNat 8 ++ bytesOf x.ords.length 1)) := rfl
  have q1 := ok.batch
  have q2 := ok.fin
  obtain ⟨a, ha⟩ := Int.eq_ofNat_of_zero_le (show 0 ≤ x.batch by omega)
  obtain ⟨b, hb⟩ := Int.eq_ofNat_of_zero_le (show 0 ≤ x.fin by omega)
  rw [ha, hb, Int.toNat_natCast, Int.toNat_natCast] at ER
  rw [ha] at x0
  rw [hb] at x1
  clear ha hb h hO ok q1 q2
  generalize x.ords.length = c at *
  have hbl := bytesOf_length
  go_enter Try.func85, Try.ntmps85
  go_wp2_with fail
  refine (code_any 0 0 rfl _).mono ?_
  rintro e w1 ⟨rfl, hw1⟩
  have B1 : Aside (Below w.heap.size w w1) := by rw [hw1]; exact (Below.refl _ w).alloc (Nat.le_refl _) _
  have y0 : w1.cell? ⟨p, 4, none⟩ = some (.int .i64 (a : Int)) := (World.cell?_of_block (a := ⟨p, 4, none⟩) (B1.out.block p hpl)).trans x0
  have y1 : w1.cell? ⟨p, 5, none⟩ = some (.int .i64 (b : Int)) := (World.cell?_of_block (a := ⟨p, 5, none⟩) (B1.out.block p hpl)).trans x1
  have y2 : w1.cell? ⟨p, 87, none⟩ = some (.slice ao c cap) := (World.cell?_of_block (a := ⟨p, 87, none⟩) (B1.out.block p hpl)).trans x2
  clear hw1 x0 x1 x2
  go_wp2_with fail
  go_region_held3 (fun V => V.cell? ⟨p, 4, none⟩ = some (.int .i64 (a : Int)) ∧ V.cell? ⟨p, 5, none⟩ = some (.int .i64 (b : Int)) ∧ V.cell? ⟨p, 87, none⟩ = some (.slice ao c cap)) (refine ⟨?_, ?_, ?_⟩ <;> repeat (first | assumption | refine cell_up ?_ _ | refine cell_dr ?_)) (first | (go_at_call 79; refine (bytesR_any _ _ _ ?_).mono ?_; (first | decide | skip); rintro e w' ⟨rfl, rfl⟩; unfold rowed txt))
  all_goals go_wp2
  all_goals go_ret
  rw [ER.out]
  refine ⟨congrArg Ending.returned (congrArg Value.string ?_), ?_⟩
  · show ((((⟨#[0]⟩ : ByteArray) ++ ⟨(bytesOf a 4).toArray⟩) ++ ⟨(bytesOf b 8).toArray⟩) ++ ⟨(bytesOf c 1).toArray⟩) = _
    rw [b0, cat_str, cat_str, cat_str]
    rfl
  · repeat (first | exact B1.out | refine blw_al ?_ _ | refine blw_dr ?_)

set_option maxHeartbeats 4000000 in
set_option maxRecDepth 100000 in
theorem tells9_any (w : World) (p t : Nat) (x : Ex.Xch) (ov fv : Value) (h : RefAt w p x ov fv) (ok : Ex.Ok x) (ht : t < 20) :
    Calls Try.prog 85 #[.pointer (some ⟨p, 0, none⟩), .int .i64 9, .int .i64 t] w fun e w' => e = .returned (.string ⟨(Ex.tellsX x 9 t).toArray⟩) ∧ Below w.heap.size w w' := by
  have mixed : Try.prog.follows .mixedOrders = true := by kernel_rfl
  have x0 := h.paid t ht
  have x1 := h.traded t ht
  have hpl := h.lt
  have htz : (t : Int) < 20 := by omega
  have ER : Aside (Ex.tellsX x 9 t = if x.traded t = true then 0 :: 1 :: bytesOf (x.paid t).toNat 2 else [0, 0, 0, 0]) := rfl
  have q1 := ok.paid t
  obtain ⟨a, ha⟩ := Int.eq_ofNat_of_zero_le q1.1
  rw [ha, Int.toNat_natCast] at ER
  rw [ha] at x0
  clear ha h ok q1
  have hbl := bytesOf_length
  cases htr : x.traded t with
  | true =>
    rw [htr] at x1 ER
    rw [if_pos rfl] at ER
    go_enter Try.func85, Try.ntmps85
    go_wp2_with fail
    refine (code_any 0 0 rfl _).mono ?_
    rintro e w1 ⟨rfl, hw1⟩
    have B1 : Aside (Below w.heap.size w w1) := by rw [hw1]; exact (Below.refl _ w).alloc (Nat.le_refl _) _
    have y0 : w1.cell? ⟨p, 95 + t, none⟩ = some (.int .i64 (a : Int)) := (World.cell?_of_block (a := ⟨p, 95 + t, none⟩) (B1.out.block p hpl)).trans x0
    have y1 : w1.cell? ⟨p, 115 + t, none⟩ = some (.bool true) := (World.cell?_of_block (a := ⟨p, 115 + t, none⟩) (B1.out.block p hpl)).trans x1
    clear hw1 x0 x1
    go_wp2_with fail
    refine (bytesR_any a 2 _ (by decide)).mono ?_
    rintro e w2 ⟨rfl, hw2⟩
    have B2 : Aside (Below w.heap.size w w2) := by rw [hw2]; unfold rowed; exact blw_al B1.out _
    clear hw2
    unfold txt
    go_wp2
    go_ret
    rw [ER.out]
    refine ⟨congrArg Ending.returned (congrArg Value.string ?_), B2.out⟩
    exact cat_str [0, 1] _
  | false =>
    rw [htr] at x1 ER
    rw [if_neg (by decide)] at ER
    go_enter Try.func85, Try.ntmps85
    go_wp2_with fail
    refine (code_any 0 0 rfl _).mono ?_
    rintro e w1 ⟨rfl, hw1⟩
    have B1 : Aside (Below w.heap.size w w1) := by rw [hw1]; exact (Below.refl _ w).alloc (Nat.le_refl _) _
    have y1 : w1.cell? ⟨p, 115 + t, none⟩ = some (.bool false) := (World.cell?_of_block (a := ⟨p, 115 + t, none⟩) (B1.out.block p hpl)).trans x1
    clear hw1 x0 x1
    go_wp2
    go_ret
    rw [ER.out]
    exact ⟨rfl, B1.out⟩
end Go.Proofs.Ytjfifaooimgbaaa
