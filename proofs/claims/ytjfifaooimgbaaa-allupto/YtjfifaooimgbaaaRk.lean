import Derived.Test.YtjfifaooimgbaaaRm
import Derived.Deep.Upon
/- The document's exchange: frees, cancels. -/
namespace Go.Proofs.Ytjfifaooimgbaaa
open Go.Shelf Go.RowKit Go.Lib Go.Sort

/-- numbers far from the ends. -/
def Tm (p : Ex.Purse) : Prop := (-1152921504606846976 ≤ p.cash ∧ p.cash ≤ 1152921504606846976) ∧ (-1152921504606846976 ≤ p.held ∧ p.held ≤ 1152921504606846976) ∧ (-1152921504606846976 ≤ p.units ∧ p.units ≤ 1152921504606846976) ∧ (-1152921504606846976 ≤ p.hun ∧ p.hun ≤ 1152921504606846976)

set_option maxHeartbeats 4000000 in
set_option maxRecDepth 100000 in
theorem freesR_any (w : World) (p : Nat) (x : Ex.Xch) (ov fv : Value) (o : Ex.Ord) (h : RefAt w p x ov fv) (ht : o.who < 20) (hp : 0 ≤ o.price ∧ o.price ≤ 1000) (hb : Tm (x.ps o.who)) :
    Calls Try.prog 78 #[.pointer (some ⟨p, 0, none⟩), ordV o] w fun e w' => e = .returned (.tuple #[]) ∧ RefAt w' p { x with ps := Ex.upd x.ps o.who (Ex.freed (x.ps o.who) o) } ov fv ∧ Onl (· = p) w w' := by
  have mixed : Try.prog.follows .mixedOrders = true := by kernel_rfl
  obtain ⟨⟨b1, b2⟩, ⟨b3, b4⟩, ⟨b5, b6⟩, b7, b8⟩ := hb
  obtain ⟨p1, p2⟩ := hp
  have hpl := h.lt
  have htz : (o.who : Int) < 20 := by omega
  unfold ordV
  obtain ⟨W, hW⟩ : ∃ W, W = w.alloc (.cells #[.int .i64 (o.who : Int), .int .i64 o.side, .int .i64 o.price] 147) := ⟨_, rfl⟩
  have R1 : Aside (RefAt W p x ov fv) := by rw [hW]; exact h.kept (Below.heap_alloc _ _ _ hpl)
  have O1 : Aside (Onl (· = p) w W) := by rw [hW]; exact (Onl.refl _ _).alloc _
  have x0 := R1.out.c0 ht
  have x1 := R1.out.c1 ht
  have x2 := R1.out.c2 ht
  have x3 := R1.out.c3 ht
  have f0 : W.frozen? ⟨p, 6 + o.who * 4, none⟩ = false := FAt.frozen R1.out _
  have f1 : W.frozen? ⟨p, 6 + o.who * 4 + 1, none⟩ = false := FAt.frozen R1.out _
  have f2 : W.frozen? ⟨p, 6 + o.who * 4 + 2, none⟩ = false := FAt.frozen R1.out _
  have f3 : W.frozen? ⟨p, 6 + o.who * 4 + 3, none⟩ = false := FAt.frozen R1.out _
  have hne : w.heap.size ≠ p := by omega
  have o0 : W.cell? ⟨w.heap.size, 0, none⟩ = some (.int .i64 (o.who : Int)) := by rw [hW]; simp
  have o1 : W.cell? ⟨w.heap.size, 1, none⟩ = some (.int .i64 o.side) := by rw [hW]; simp
  have o2 : W.cell? ⟨w.heap.size, 2, none⟩ = some (.int .i64 o.price) := by rw [hW]; simp
  obtain ⟨R, hR⟩ : ∃ R, Ex.freed (x.ps o.who) o = R := ⟨_, rfl⟩
  rw [hR]
  have HR : Aside _ := hR
  clear hR h
  obtain ⟨q, hq⟩ : ∃ q, x.ps o.who = q := ⟨_, rfl⟩
  have HQ : Aside (x.ps o.who = q) := hq
  rw [hq] at b1 b2 b3 b4 b5 b6 b7 b8 x0 x1 x2 x3
  clear hq
  have wr1 : IntKind.i64.wrap (q.held - o.price) = q.held - o.price := IntWalk.i64_in _ (by omega)
  have wr2 : IntKind.i64.wrap (q.cash + o.price) = q.cash + o.price := IntWalk.i64_in _ (by omega)
  by_cases hs : o.side = 0
  · have hsz : (o.side == 0) = true := by rw [hs]; rfl
    have HS : Aside (o.side = 0) := hs
    clear hs
    go_enter Try.func78, Try.ntmps78
    go_wp2_with fail
    rw [← hW]
    clear hW
    go_region_held3 (fun V => V.cell? ⟨w.heap.size, 0, none⟩ = some (.int .i64 (o.who : Int))) (first | assumption | go_keep) (fail)
    go_wp2_with fail
    go_region_with (fail)
    all_goals go_wp2_with fail
    all_goals go_region_with (fail)
    all_goals go_wp2
    all_goals go_end0
    all_goals
      have R2 := (R1.out.setHeld o.who ht (q.held - o.price)).setCash o.who ht (q.cash + o.price)
      refine ⟨rfl, (R2.kept rfl).same ?_, ?_⟩
      · rw [← HR.out]
        unfold Ex.freed
        rw [if_pos HS.out]
        show { x with ps := Ex.upd (Ex.upd x.ps o.who _) o.who _ } = { x with ps := Ex.upd x.ps o.who _ }
        rw [upd_upd]
        simp only [Ex.upd_same, HQ.out]
      · have O2 := (O1.out.set ⟨p, 6 + o.who * 4 + 1, none⟩ (.int .i64 (q.held - o.price)) (Or.inl rfl)).set ⟨p, 6 + o.who * 4, none⟩ (.int .i64 (q.cash + o.price)) (Or.inl rfl)
        exact ⟨O2.os, O2.tape, O2.output, O2.size, O2.block⟩
  · have hsz : (o.side == 0) = false := beq_eq_false_iff_ne.2 hs
    have HS : Aside (¬ o.side = 0) := hs
    clear hs
    go_enter Try.func78, Try.ntmps78
    go_wp2_with fail
    rw [← hW]
    clear hW
    go_region_held3 (fun V => V.cell? ⟨w.heap.size, 0, none⟩ = some (.int .i64 (o.who : Int))) (first | assumption | go_keep) (fail)
    go_wp2
    go_end0
    have R2 := (R1.out.setHun o.who ht (q.hun - 1)).setUnits o.who ht (q.units + 1)
    refine ⟨rfl, (R2.kept rfl).same ?_, ?_⟩
    · rw [← HR.out]
      unfold Ex.freed
      rw [if_neg HS.out]
      show { x with ps := Ex.upd (Ex.upd x.ps o.who _) o.who _ } = { x with ps := Ex.upd x.ps o.who _ }
      rw [upd_upd]
      simp only [Ex.upd_same, HQ.out]
    · have O2 := (O1.out.set ⟨p, 6 + o.who * 4 + 3, none⟩ (.int .i64 (q.hun - 1)) (Or.inl rfl)).set ⟨p, 6 + o.who * 4 + 2, none⟩ (.int .i64 (q.units + 1)) (Or.inl rfl)
      exact ⟨O2.os, O2.tape, O2.output, O2.size, O2.block⟩
end Go.Proofs.Ytjfifaooimgbaaa
/- The document's exchange: cancels, orders. -/
namespace Go.Proofs.Ytjfifaooimgbaaa
open Go.Shelf Go.RowKit Go.Lib Go.Sort

theorem withoutR_erase : ∀ (os : List Ex.Ord) (t i : Nat), os.Pairwise (fun o q => o.who ≠ q.who) → os.findIdx? (fun o => o.who == t) = some i → Ex.without os t = os.eraseIdx i
  | [], t, i, _, h => by simp at h
  | o :: r, t, i, hp, h => by
    obtain ⟨h1, h2⟩ := List.pairwise_cons.1 hp
    rw [List.findIdx?_cons] at h
    unfold Ex.without
    by_cases e : (o.who == t) = true
    · rw [if_pos e] at h
      injection h with h
      subst h
      have e' : o.who = t := by simpa using e
      rw [List.eraseIdx_zero, List.tail_cons, List.filter_cons_of_neg (by simp [e'])]
      exact List.filter_eq_self.2 (fun q hq => by simpa [← e'] using (h1 q hq).symm)
    · rw [if_neg e] at h
      obtain ⟨j, hj, rfl⟩ := Option.map_eq_some_iff.1 h
      have e' : ¬ o.who = t := by simpa using e
      rw [List.eraseIdx_cons_succ, List.filter_cons_of_pos (by simpa using e')]
      congr 1
      exact withoutR_erase r t j h2 hj
theorem findR_idx (os : List Ex.Ord) (t : Nat) : (os.findIdx? (fun o => o.who == t) = none ∧ os.find? (fun o => o.who == t) = none) ∨ ∃ i, i < os.length ∧ os.findIdx? (fun o => o.who == t) = some i ∧ os.find? (fun o => o.who == t) = some (os.getD i ⟨0, 0, 0⟩) ∧ (os.getD i ⟨0, 0, 0⟩).who = t := by
  cases h : os.findIdx? (fun o => o.who == t) with
  | none =>
    refine Or.inl ⟨rfl, List.find?_eq_none.2 fun o ho => ?_⟩
    rw [List.findIdx?_eq_none_iff] at h
    rw [h o ho]; decide
  | some i =>
    have h0 := h
    rw [List.findIdx?_eq_some_iff_getElem] at h
    obtain ⟨hi, h2, h3⟩ := h
    have eg : os.getD i ⟨0, 0, 0⟩ = os[i] := by rw [List.getD_eq_getElem?_getD, List.getElem?_eq_getElem hi]; rfl
    refine Or.inr ⟨i, hi, rfl, ?_, by rw [eg]; simpa using h2⟩
    rw [eg, List.find?_eq_some_iff_getElem]
    exact ⟨h2, i, hi, rfl, fun j hj => by simpa using h3 j hj⟩

/-- what a step of the document's exchange leaves: the state x', the journal aside nothing else is turned. -/
def RSt (w : World) (p : Nat) (ov : Value) (w' : World) (x' : Ex.Xch) : Prop :=
  ∃ ov' fv', RefAt w' p x' ov' fv' ∧ LRow w' ov' x'.ords ∧ (∀ k, ov'.ownBlock = some k → ov.ownBlock = some k ∨ w.heap.size ≤ k) ∧ Onl (fun k => k = p ∨ ov.ownBlock = some k) w w'

theorem lrow_block {w : World} {v : Value} {os : List Ex.Ord} (h : LRow w v os) {k : Nat} (hk : v.ownBlock = some k) : ∃ cur, w.heap[k]? = some (.cells cur 147 (0, 0)) := by
  rcases h.2 with ⟨rfl, _⟩ | ⟨g, cap, cur, rfl, _, a2, _⟩
  · simp [Value.ownBlock] at hk
  · simp [Value.ownBlock] at hk
    subst hk
    exact ⟨cur, a2⟩
theorem ref_apart {w : World} {p : Nat} {x : Ex.Xch} {ov fv : Value} {os : List Ex.Ord} (h : RefAt w p x ov fv) {v : Value} (hO : LRow w v os) : v.ownBlock ≠ some p := fun e => by
  obtain ⟨cs, h1, _⟩ := h
  obtain ⟨cur, a⟩ := lrow_block hO e
  rw [a] at h1
  injection h1 with h1
  injection h1 with _ h1
  revert h1
  decide
theorem LRow.onl {w w' : World} {v : Value} {os : List Ex.Ord} {p : Nat} (h : LRow w v os) (o : Onl (· = p) w w') (hp : v.ownBlock ≠ some p) : LRow w' v os :=
  h.kept fun k hk => o.block k (h.lt hk) (fun e => hp (e ▸ hk))

theorem Try.info147' : (Try.prog.info? 147).map (fun i => (i.zero, i.size, i.bytes)) = some (some (.agg #[.int .i64 0, .int .i64 0, .int .i64 0]), 3, 24) := by kernel_rfl
theorem ocs_one (os : List Ex.Ord) : ∀ u ∈ ocs os, u.oneCell' = true := fun u hu => by
  obtain ⟨o, _, ho⟩ := List.mem_flatMap.1 hu
  simp only [oc, List.mem_cons, List.not_mem_nil, or_false] at ho
  rcases ho with rfl | rfl | rfl <;> rfl
theorem row_slice_le {w : World} {v : Value} {os : List Ex.Ord} (h : LRow w v os) : ∃ a cap, v = .slice a os.length cap ∧ os.length ≤ cap := let ⟨a, c, h1, _, h3⟩ := h.ords; ⟨a, c, h1, h3⟩

theorem wpList_append_live (w : World) {ops : Array Oper} {rest : List Oper} {o : Oper} {a : Act} {Q : Exit → Act → World → Prop} (hgd : o.guard = none) (s x : Operand)
    (ho : o.op = .call { callee := .builtin .append, args := #[s, x], argTypes := #[92, 92] }) (v : Value) (os : List Ex.Ord) (hs : a.eval s = v) (hown : LRow w v os) (xv : Value) (hx : a.eval x = xv) (news : List Ex.Ord) (hsrc : Src Try.prog 3 92 xv news.length (ocs news) w)
    (hb : os.length + news.length ≤ 1000)
    (h : ∀ v' w', LRow w' v' (os ++ news) → w.grownBy w' v.ownBlock → (v'.ownBlock = v.ownBlock ∨ v'.ownBlock = some w.heap.size) → wpList Try.prog ops Q rest (a.put o.dst v') w') : wpList Try.prog ops Q (o :: rest) a w := by
  refine wpList_plain hgd fun K hK => ?_
  obtain ⟨i0, hi, hz0, hz1, hz2⟩ := info_parts Try.info147'
  by_cases hpos : 0 < os.length + news.length
  · obtain ⟨v', w', hr, h2, h3, h4⟩ := append_own_src (P := Try.prog) w 92 92 o.type 147 i0 (.agg #[.int .i64 0, .int .i64 0, .int .i64 0]) 3 24 Try.underlying92 hi hz0 hz1 hz2 rfl v os.length (ocs os) hown xv news.length (ocs news) hsrc (by unfold maxLen; omega) (by omega) hpos
    unfold Oper.wp execOp
    simp only [ho, resolve, invoke, builtin, Sem.run_bind, Sem.run_pure, Result.andThen_ok, List.map_toArray, List.map_cons, List.map_nil, hs, hx, hr]
    refine hK _ _ (h v' w' ?_ h3 h4)
    unfold LRow
    rw [ocs_append, List.length_append]
    exact h2
  · have e1 : os = [] := List.eq_nil_of_length_eq_zero (by omega)
    have e2 : news = [] := List.eq_nil_of_length_eq_zero (by omega)
    subst e1 e2
    obtain ⟨a', c', rfl, hle⟩ := row_slice_le hown
    have hr := run_append_nothing (P := Try.prog) w 92 92 o.type 147 i0 Try.underlying92 hi a' 0 c' (Nat.zero_le _) xv (by rw [hz1]; exact hsrc)
    unfold Oper.wp execOp
    simp only [ho, resolve, invoke, builtin, Sem.run_bind, Sem.run_pure, Result.andThen_ok, List.map_toArray, List.map_cons, List.map_nil, hs, hx, List.length_nil, hr]
    exact hK _ _ (h _ w hown ⟨rfl, rfl, rfl, Nat.le_refl _, fun _ _ _ => rfl⟩ (Or.inl rfl))

/-- a part of the orders, as a slice of them. -/
theorem src_part {w : World} {g i n c : Nat} {os : List Ex.Ord} (hO : OrdsAt w (some ⟨g, 0, none⟩) os) (h : i + n ≤ os.length) : Src Try.prog 3 92 (.slice (some ⟨g, i * 3, none⟩) n c) n (ocs ((os.drop i).take n)) w := by
  have hlen : ((os.drop i).take n).length = n := by rw [List.length_take, List.length_drop]; omega
  refine Src.ofSlice w Try.underlying92 _ n c _ (by rw [ocs_length, hlen]) (fun j u hj => ?_) (ocs_one _)
  have hjl : j < n * 3 := by
    have := (List.getElem?_eq_some_iff.1 hj).1
    rwa [ocs_length, hlen] at this
  have hq : j / 3 < n := by omega
  have ea := ocs_at ((os.drop i).take n) (j / 3) (by rw [hlen]; exact hq) (j % 3) (Nat.mod_lt _ (by decide))
  rw [show j / 3 * 3 + j % 3 = j by omega, hj] at ea
  have eg : ((os.drop i).take n).getD (j / 3) ⟨0, 0, 0⟩ = os.getD (i + j / 3) ⟨0, 0, 0⟩ := by
    simp only [List.getD_eq_getElem?_getD]
    rw [List.getElem?_take_of_lt hq, List.getElem?_drop]
  rw [eg] at ea
  obtain ⟨g', e, _, c0, c1, c2⟩ := hO (i + j / 3) (by omega)
  injection e with e
  injection e with e _ _
  subst e
  rw [Addr.add_lit]
  have hm : j % 3 = 0 ∨ j % 3 = 1 ∨ j % 3 = 2 := by omega
  rcases hm with hm | hm | hm
  · rw [hm] at ea
    rw [show i * 3 + j = (i + j / 3) * 3 by omega, c0, ea]; rfl
  · rw [hm] at ea
    rw [show i * 3 + j = (i + j / 3) * 3 + 1 by omega, c1, ea]; rfl
  · rw [hm] at ea
    rw [show i * 3 + j = (i + j / 3) * 3 + 2 by omega, c2, ea]; rfl
end Go.Proofs.Ytjfifaooimgbaaa
/- The document's exchange: cancels. -/
namespace Go.Proofs.Ytjfifaooimgbaaa
open Go.Shelf Go.RowKit Go.Lib Go.Sort

theorem tm_of {x : Ex.Xch} (ok : Ex.Ok x) {t : Nat} (ht : t < 20) : Tm (x.ps t) := by
  obtain ⟨⟨b1, b2, b3, b4⟩, b5, b6, b7, b8⟩ := ok.bdsR t ht
  unfold Tm
  omega
theorem part_nil {w : World} {g n c : Nat} {os : List Ex.Ord} (hO : OrdsAt w (some ⟨g, 0, none⟩) os) (h : n ≤ os.length) : Src Try.prog 3 92 (.slice (some ⟨g, 0, none⟩) n c) n (ocs (os.take n)) w := by
  have := src_part (c := c) hO (i := 0) (n := n) (by omega)
  rwa [Nat.zero_mul, List.drop_zero] at this
theorem part_end {w : World} {g i n c : Nat} {os : List Ex.Ord} (hO : OrdsAt w (some ⟨g, 0, none⟩) os) (h : i + n = os.length) : Src Try.prog 3 92 (.slice (some ⟨g, i * 3, none⟩) n c) n (ocs (os.drop i)) w := by
  have := src_part (c := c) hO (i := i) (n := n) (by omega)
  rwa [List.take_of_length_le (by rw [List.length_drop]; omega)] at this

theorem grown_ref {w w' : World} {p : Nat} {x : Ex.Xch} {ov fv v : Value} {os : List Ex.Ord} (h : RefAt w p x ov fv) (hv : LRow w v os) (g : w.grownBy w' v.ownBlock) : RefAt w' p x ov fv :=
  h.kept (g.block p h.lt (fun e => ref_apart h hv e.symm))

set_option maxHeartbeats 4000000 in
set_option maxRecDepth 100000 in
theorem cancelsR_any (w : World) (p t : Nat) (x : Ex.Xch) (ov fv : Value) (h : RefAt w p x ov fv) (hO : LRow w ov x.ords) (ok : Ex.Ok x) :
    Calls Try.prog 84 #[.pointer (some ⟨p, 0, none⟩), .int .i64 t] w fun e w' => e = .returned (.string ⟨(Ex.cancelX x t).2.toArray⟩) ∧ RSt w p ov w' (Ex.cancelX x t).1 := by
  have mixed : Try.prog.follows .mixedOrders = true := by kernel_rfl
  have hl : x.ords.length ≤ 20 := by have := ok.len; have := ok.cap; omega
  have HL : Aside _ := liveR_any w p t x ov fv h hO hl
  have HR : Aside (RefAt w p x ov fv) := h
  have HO : Aside (LRow w ov x.ords) := hO
  have NP : Aside (ov.ownBlock ≠ some p) := ref_apart h hO
  have hpl := h.lt
  obtain ⟨R, hR⟩ : ∃ R, Ex.cancelX x t = R := ⟨_, rfl⟩
  rw [hR]
  unfold Ex.cancelX at hR
  unfold placeR at HL
  rcases findR_idx x.ords t with ⟨e1, e2⟩ | ⟨i, hi, e1, e2, e3⟩
  · rw [e2] at hR
    rw [e1] at HL
    have HRE : Aside _ := hR
    clear h hO hR e1 e2
    go_enter Try.func84, Try.ntmps84
    go_wp2_with fail
    refine Calls.mono (f := 97) HL.out ?_
    rintro e w1 ⟨rfl, hw1⟩
    rw [hw1]
    clear hw1
    go_wp2_with fail
    refine (code_any 10 10 rfl _).mono ?_
    rintro e w2 ⟨rfl, hw2⟩
    have HW : Aside _ := hw2
    clear hw2
    go_wp2
    go_ret
    rw [← HRE.out, HW.out]
    exact ⟨rfl, ov, fv, HR.out.kept (Below.heap_alloc _ _ _ hpl), HO.out.kept (fun k hk => Below.heap_alloc _ _ _ (HO.out.lt hk)), fun k hk => Or.inl hk, (Onl.refl _ _).alloc _⟩
  · rw [e2] at hR
    rw [e1] at HL
    obtain ⟨ao, cap, hov, ords, hcap⟩ := hO.ords
    obtain ⟨g, hg, q1, q2, q3, q4⟩ := ords i hi
    subst hg
    subst hov
    have HRE : Aside _ := hR
    have ERA : Aside (Ex.without x.ords t = x.ords.take i ++ x.ords.drop (i + 1)) := by
      show _ = _
      rw [withoutR_erase x.ords t i ok.ones e1, List.eraseIdx_eq_take_drop_succ]
    have OD : Aside (OrdsAt w (some ⟨g, 0, none⟩) x.ords) := ords
    have ho := ok.ord (x.ords.getD i ⟨0, 0, 0⟩) (by rw [List.getD_eq_getElem?_getD, List.getElem?_eq_getElem hi]; exact List.getElem_mem hi)
    have htm := tm_of ok (t := (x.ords.getD i ⟨0, 0, 0⟩).who) ho.1
    have EW : Aside ((x.ords.getD i ⟨0, 0, 0⟩).who = t) := e3
    generalize x.ords.getD i ⟨0, 0, 0⟩ = o at *
    have HF : Aside _ := freesR_any w p x _ fv o HR.out ho.1 ⟨by omega, by omega⟩ htm
    unfold ordV at HF
    have c87 : w.cell? ⟨p, 87, none⟩ = some (.slice (some ⟨g, 0, none⟩) x.ords.length cap) := HR.out.mid 1 (by decide)
    have hiz : (i : Int) < (x.ords.length : Int) := by omega
    have hiz0 : ¬ (i : Int) < 0 := by omega
    have hgp : g ≠ p := fun e => NP.out (by rw [e]; rfl)
    clear h hO hR e1 e2 ords htm ho e3
    go_enter Try.func84, Try.ntmps84
    go_wp2_with fail
    refine Calls.mono (f := 97) HL.out ?_
    rintro e w1 ⟨rfl, hw1⟩
    rw [hw1]
    clear hw1
    go_wp2_with fail
    refine Calls.mono (f := 78) HF.out ?_
    rintro e w2 ⟨rfl, R2, O2⟩
    have HR2 : Aside _ := R2
    have HO2 : Aside _ := O2
    have d87 : w2.cell? ⟨p, 87, none⟩ = some (.slice (some ⟨g, 0, none⟩) x.ords.length cap) := R2.mid 1 (by decide)
    have L2 : Aside (LRow w2 (.slice (some ⟨g, 0, none⟩) x.ords.length cap) x.ords) := HO.out.onl O2 NP.out
    have D2 : Aside (OrdsAt w2 (some ⟨g, 0, none⟩) x.ords) := by
      obtain ⟨a', c', e', h', _⟩ := L2.out.ords
      injection e' with e' _ _
      subst e'
      exact h'
    clear R2 O2 c87 q1 q2 q3 q4
    have hlt2 : g < w2.heap.size := L2.out.lt rfl
    have hp2 : p < w2.heap.size := HR2.out.lt
    have hic : i + 1 ≤ cap := by omega
    rcases Nat.lt_or_ge (i + 1) cap with hc1 | hc1
    · have hc2 : ¬ cap = i + 1 := by omega
      go_wp2_with (first | (at_builtin; refine wpList_append_live _ rfl _ _ rfl (.slice none 0 0) [] rfl (LRow.nil _) _ rfl (x.ords.take i) (by rw [List.length_take, Nat.min_eq_left (Nat.le_of_lt hi)]; exact part_nil D2.out (Nat.le_of_lt hi)) (by rw [List.length_take]; simp; omega) ?_; intro v3 w3 g1 g2 g3; have G2 : Aside _ := g2; have G1 : Aside _ := g1; have G3 : Aside _ := g3; have d3 : w3.cell? ⟨p, 87, none⟩ = some (.slice (some ⟨g, 0, none⟩) x.ords.length cap) := (World.cell?_of_block (a := ⟨p, 87, none⟩) (g2.block p hp2 (by simp [Value.ownBlock]))).trans d87; have D3 : Aside (OrdsAt w3 (some ⟨g, 0, none⟩) x.ords) := (fun j hj => (D2.out j hj).elim fun g' ⟨z1, z2, z3, z4, z5⟩ => ⟨g', z1, Nat.lt_of_lt_of_le z2 g2.size, (World.cell?_of_block (a := ⟨g', j * 3, none⟩) (g2.block g' z2 (by simp [Value.ownBlock]))).trans z3, (World.cell?_of_block (a := ⟨g', j * 3 + 1, none⟩) (g2.block g' z2 (by simp [Value.ownBlock]))).trans z4, (World.cell?_of_block (a := ⟨g', j * 3 + 2, none⟩) (g2.block g' z2 (by simp [Value.ownBlock]))).trans z5⟩); have R3 : Aside (RefAt w3 p { x with ps := Ex.upd x.ps o.who (Ex.freed (x.ps o.who) o) } (.slice (some ⟨g, 0, none⟩) x.ords.length cap) fv) := grown_ref HR2.out (LRow.nil w2) g2; clear g1 g2 g3) | (at_builtin; refine wpList_append_live _ rfl _ _ rfl v3 ([] ++ x.ords.take i) rfl G1.out _ rfl (x.ords.drop (i + 1)) (by rw [List.length_drop]; exact part_end D3.out (by omega)) (by rw [List.length_drop, List.nil_append, List.length_take]; omega) ?_; intro v4 w4 g1 g2 g3; obtain ⟨a4, c4, hv4, _⟩ := row_slice_le g1; obtain ⟨n4, hn4⟩ : ∃ n, n = ([] ++ x.ords.take i ++ x.ords.drop (i + 1)).length := ⟨_, rfl⟩; rw [← hn4] at hv4; clear hn4; subst hv4; have G4 : Aside _ := g2; have G5 : Aside (LRow w4 (.slice a4 n4 c4) (x.ords.take i ++ x.ords.drop (i + 1))) := g1; have G6 : Aside _ := g3; have R4 : Aside (RefAt w4 p { x with ps := Ex.upd x.ps o.who (Ex.freed (x.ps o.who) o) } (.slice (some ⟨g, 0, none⟩) x.ords.length cap) fv) := grown_ref R3.out G1.out g2; have d4 := R4.out.mid 1 (by decide); have f4 : w4.frozen? ⟨p, 87, none⟩ = false := FAt.frozen R4.out _; clear g1 g2 g3) | fail)
      refine (code_any 0 0 rfl _).mono ?_
      rintro e w6 ⟨rfl, hw6⟩
      have HW : Aside _ := hw6
      clear hw6
      go_wp2
      go_ret
      have hp4 := R4.out.lt
      have R5 := R4.out.setOv (.slice a4 n4 c4) (x.ords.take i ++ x.ords.drop (i + 1))
      have O4 : Onl (fun k => k = p ∨ (Value.slice (some ⟨g, 0, none⟩) x.ords.length cap).ownBlock = some k) w w4 := by
        have o3 : Onl (fun k => k = p ∨ (Value.slice (some ⟨g, 0, none⟩) x.ords.length cap).ownBlock = some k) w w3 := (HO2.out.mono (fun _ h => Or.inl h)).grown0 G2.out
        cases hv : v3.ownBlock with
        | none => exact o3.grown0 (hv ▸ G4.out)
        | some j => exact o3.grown (hv ▸ G4.out) (Or.inr (by
            rcases G3.out with e | e
            · rw [hv] at e; simp [Value.ownBlock] at e
            · rw [hv] at e
              injection e with e
              rw [e]; exact HO2.out.size))
      have nv4 := ref_apart R4.out G5.out
      have L5 : LRow (w4.setCell ⟨p, 87, none⟩ (.slice a4 n4 c4)) (.slice a4 n4 c4) (x.ords.take i ++ x.ords.drop (i + 1)) := G5.out.kept (fun k hk => Below.heap_setCell w4 ⟨p, 87, none⟩ _ k (fun e => nv4 (by rw [hk]; exact congrArg some e)))
      rw [← HRE.out, HW.out]
      refine ⟨rfl, .slice a4 n4 c4, fv, ?_, ?_, ?_, (O4.set _ _ (Or.inl (Or.inl rfl))).alloc _⟩
      · refine (R5.kept (Below.heap_alloc _ _ _ R5.lt)).same ?_
        show ({ x with ps := Ex.upd x.ps o.who (Ex.freed (x.ps o.who) o), ords := x.ords.take i ++ x.ords.drop (i + 1) } : Ex.Xch) = { x with ps := Ex.upd x.ps t (Ex.freed (x.ps t) o), ords := Ex.without x.ords t }
        rw [ERA.out, EW.out]
      · show LRow _ (.slice a4 n4 c4) (Ex.without x.ords t)
        rw [ERA.out]
        exact L5.kept (fun k hk => Below.heap_alloc _ _ _ (L5.lt hk))
      · intro k hk
        right
        rcases G6.out with e | e
        · rcases G3.out with e' | e'
          · rw [e, e'] at hk; simp [Value.ownBlock] at hk
          · rw [e, e'] at hk
            injection hk with hk
            rw [← hk]; exact HO2.out.size
        · rw [e] at hk
          injection hk with hk
          rw [← hk]; exact Nat.le_trans HO2.out.size G2.out.size
    · obtain rfl : cap = i + 1 := by omega
      go_wp2_with (first | (at_builtin; refine wpList_append_live _ rfl _ _ rfl (.slice none 0 0) [] rfl (LRow.nil _) _ rfl (x.ords.take i) (by rw [List.length_take, Nat.min_eq_left (Nat.le_of_lt hi)]; exact part_nil D2.out (Nat.le_of_lt hi)) (by rw [List.length_take]; simp; omega) ?_; intro v3 w3 g1 g2 g3; have G2 : Aside _ := g2; have G1 : Aside _ := g1; have G3 : Aside _ := g3; have d3 : w3.cell? ⟨p, 87, none⟩ = some (.slice (some ⟨g, 0, none⟩) x.ords.length (i + 1)) := (World.cell?_of_block (a := ⟨p, 87, none⟩) (g2.block p hp2 (by simp [Value.ownBlock]))).trans d87; have D3 : Aside (OrdsAt w3 (some ⟨g, 0, none⟩) x.ords) := (fun j hj => (D2.out j hj).elim fun g' ⟨z1, z2, z3, z4, z5⟩ => ⟨g', z1, Nat.lt_of_lt_of_le z2 g2.size, (World.cell?_of_block (a := ⟨g', j * 3, none⟩) (g2.block g' z2 (by simp [Value.ownBlock]))).trans z3, (World.cell?_of_block (a := ⟨g', j * 3 + 1, none⟩) (g2.block g' z2 (by simp [Value.ownBlock]))).trans z4, (World.cell?_of_block (a := ⟨g', j * 3 + 2, none⟩) (g2.block g' z2 (by simp [Value.ownBlock]))).trans z5⟩); have R3 : Aside (RefAt w3 p { x with ps := Ex.upd x.ps o.who (Ex.freed (x.ps o.who) o) } (.slice (some ⟨g, 0, none⟩) x.ords.length (i + 1)) fv) := grown_ref HR2.out (LRow.nil w2) g2; clear g1 g2 g3) | (at_builtin; refine wpList_append_live _ rfl _ _ rfl v3 ([] ++ x.ords.take i) rfl G1.out _ rfl [] (Src.ofSlice _ Try.underlying92 _ 0 _ [] rfl (fun j u hj => by simp at hj) (fun u hu => by simp at hu)) (by rw [List.length_nil, List.nil_append, List.length_take]; omega) ?_; intro v4 w4 g1 g2 g3; obtain ⟨a4, c4, hv4, _⟩ := row_slice_le g1; obtain ⟨n4, hn4⟩ : ∃ n, n = ([] ++ x.ords.take i ++ ([] : List Ex.Ord)).length := ⟨_, rfl⟩; rw [← hn4] at hv4; clear hn4; subst hv4; have G4 : Aside _ := g2; have G5 : Aside (LRow w4 (.slice a4 n4 c4) (x.ords.take i ++ x.ords.drop (i + 1))) := (by rw [show x.ords.drop (i + 1) = [] from List.drop_eq_nil_of_le (by omega)]; exact g1); have G6 : Aside _ := g3; have R4 : Aside (RefAt w4 p { x with ps := Ex.upd x.ps o.who (Ex.freed (x.ps o.who) o) } (.slice (some ⟨g, 0, none⟩) x.ords.length (i + 1)) fv) := grown_ref R3.out G1.out g2; have d4 := R4.out.mid 1 (by decide); have f4 : w4.frozen? ⟨p, 87, none⟩ = false := FAt.frozen R4.out _; clear g1 g2 g3) | fail)
      refine (code_any 0 0 rfl _).mono ?_
      rintro e w6 ⟨rfl, hw6⟩
      have HW : Aside _ := hw6
      clear hw6
      go_wp2
      go_ret
      have hp4 := R4.out.lt
      have R5 := R4.out.setOv (.slice a4 n4 c4) (x.ords.take i ++ x.ords.drop (i + 1))
      have O4 : Onl (fun k => k = p ∨ (Value.slice (some ⟨g, 0, none⟩) x.ords.length (i + 1)).ownBlock = some k) w w4 := by
        have o3 : Onl (fun k => k = p ∨ (Value.slice (some ⟨g, 0, none⟩) x.ords.length (i + 1)).ownBlock = some k) w w3 := (HO2.out.mono (fun _ h => Or.inl h)).grown0 G2.out
        cases hv : v3.ownBlock with
        | none => exact o3.grown0 (hv ▸ G4.out)
        | some j => exact o3.grown (hv ▸ G4.out) (Or.inr (by
            rcases G3.out with e | e
            · rw [hv] at e; simp [Value.ownBlock] at e
            · rw [hv] at e
              injection e with e
              rw [e]; exact HO2.out.size))
      have nv4 := ref_apart R4.out G5.out
      have L5 : LRow (w4.setCell ⟨p, 87, none⟩ (.slice a4 n4 c4)) (.slice a4 n4 c4) (x.ords.take i ++ x.ords.drop (i + 1)) := G5.out.kept (fun k hk => Below.heap_setCell w4 ⟨p, 87, none⟩ _ k (fun e => nv4 (by rw [hk]; exact congrArg some e)))
      rw [← HRE.out, HW.out]
      refine ⟨rfl, .slice a4 n4 c4, fv, ?_, ?_, ?_, (O4.set _ _ (Or.inl (Or.inl rfl))).alloc _⟩
      · refine (R5.kept (Below.heap_alloc _ _ _ R5.lt)).same ?_
        show ({ x with ps := Ex.upd x.ps o.who (Ex.freed (x.ps o.who) o), ords := x.ords.take i ++ x.ords.drop (i + 1) } : Ex.Xch) = { x with ps := Ex.upd x.ps t (Ex.freed (x.ps t) o), ords := Ex.without x.ords t }
        rw [ERA.out, EW.out]
      · show LRow _ (.slice a4 n4 c4) (Ex.without x.ords t)
        rw [ERA.out]
        exact L5.kept (fun k hk => Below.heap_alloc _ _ _ (L5.lt hk))
      · intro k hk
        right
        rcases G6.out with e | e
        · rcases G3.out with e' | e'
          · rw [e, e'] at hk; simp [Value.ownBlock] at hk
          · rw [e, e'] at hk
            injection hk with hk
            rw [← hk]; exact HO2.out.size
        · rw [e] at hk
          injection hk with hk
          rw [← hk]; exact Nat.le_trans HO2.out.size G2.out.size
end Go.Proofs.Ytjfifaooimgbaaa
