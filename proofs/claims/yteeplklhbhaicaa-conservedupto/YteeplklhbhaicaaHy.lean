import Derived.Test.YteeplklhbhaicaaPw
import Derived.Test.YteeplklhbhaicaaHx
/- The walk of Honest, of any exchange that keeps its contract. -/
namespace Go.Proofs.Yteeplklhbhaicaa
open Go.Shelf Go.RowKit Go.Lib Go.Sort

variable {Rep : World → (Nat → Prop) → Nat → Ex.Xch → Prop}

/-- P9, through the exchange. -/
def HonestX : Prop := ∀ (ahead behind : List (Int × Int × Int)) (side v q : Nat), (side = 0 ∨ side = 1) → 1 ≤ v → v ≤ 999 → q < 65536 → playTold ahead side v = true → 0 ≤ playGain ahead behind side v v ∧ playGain ahead behind side q v ≤ playGain ahead behind side v v

set_option maxHeartbeats 4000000 in
set_option maxRecDepth 100000 in
theorem honest_any (HX : HonestX) (E : Exch Rep) (ahead behind : List (Int × Int × Int)) (a1 a2 : Option Addr) (c1 c2 : Nat) (side price other : Int) (h1 : I64 side) (h2 : I64 price) (h3 : I64 other) (w : World) (hM1 : MovesAt w a1 ahead) (hM2 : MovesAt w a2 behind)
    (hw1 : ∀ i, i < ahead.length → I64 (ahead.getD i (0, 0, 0)).1 ∧ I64 (ahead.getD i (0, 0, 0)).2.1 ∧ I64 (ahead.getD i (0, 0, 0)).2.2) (hw2 : ∀ i, i < behind.length → I64 (behind.getD i (0, 0, 0)).1 ∧ I64 (behind.getD i (0, 0, 0)).2.1 ∧ I64 (behind.getD i (0, 0, 0)).2.2)
    (hl1 : ahead.length ≤ 1048576) (hl2 : behind.length ≤ 1048576) :
    Calls Try.prog 9 #[.slice a1 ahead.length c1, .slice a2 behind.length c2, .int .i64 side, .int .i64 price, .int .i64 other] w fun e w' => e = .returned (.bool true) ∧ Below w.heap.size w w' := by
  have mixed : Try.prog.follows .mixedOrders = true := by kernel_rfl
  have HP : Aside (∀ (c : Int) (n : Nat) (W : World), 0 < n → n ≤ 9007199254740992 → I64 c → Calls Try.prog 22 #[.int .i64 c, .int .i64 n] W fun e w' => e = .returned (.int .i64 (pickN c n : Nat)) ∧ w' = W) := fun c n W h1 h2 h3 => pick_any c n W h1 h2 h3.1 h3.2
  have l1 := pickN_lt side 2 (by decide)
  have l2 := pickN_lt price 999 (by decide)
  have l3 := pickN_lt other 65536 (by decide)
  have HPS : Aside (∀ W, Calls Try.prog 22 #[.int .i64 side, .int .i64 2] W fun e w' => e = .returned (.int .i64 (pickN side 2 : Nat)) ∧ w' = W) := fun W => HP.out side 2 W (by decide) (by decide) h1
  have HPP : Aside (∀ W, Calls Try.prog 22 #[.int .i64 price, .int .i64 999] W fun e w' => e = .returned (.int .i64 (pickN price 999 : Nat)) ∧ w' = W) := fun W => HP.out price 999 W (by decide) (by decide) h2
  have HPO : Aside (∀ W, Calls Try.prog 22 #[.int .i64 other, .int .i64 65536] W fun e w' => e = .returned (.int .i64 (pickN other 65536 : Nat)) ∧ w' = W) := fun W => HP.out other 65536 W (by decide) (by decide) h3
  generalize pickN side 2 = sd at *
  generalize pickN price 999 = pr at *
  generalize pickN other 65536 = q at *
  obtain ⟨v, hv⟩ : ∃ v, v = 1 + pr := ⟨_, rfl⟩
  have hvi : (1 : Int) + (pr : Int) = (v : Int) := by omega
  have hx := HX ahead behind sd v q (by omega) (by omega) (by omega) l3
  have pA := fun W (m1 : MovesAt W a1 ahead) (m2 : MovesAt W a2 behind) => plays_any E ahead behind a1 a2 c1 c2 sd v v W m1 m2 hw1 hw2 hl1 hl2 (by omega) (by omega)
  have pB := fun W (m1 : MovesAt W a1 ahead) (m2 : MovesAt W a2 behind) => plays_any E ahead behind a1 a2 c1 c2 sd q v W m1 m2 hw1 hw2 hl1 hl2 (by omega) (by omega)
  generalize playGain ahead behind sd v v = ga at *
  generalize playGain ahead behind sd q v = gb at *
  generalize playTold ahead sd v = ta at *
  generalize playTold ahead sd q = tb at *
  have PA : Aside _ := pA
  have PB : Aside _ := pB
  have M1 : Aside (MovesAt w a1 ahead) := hM1
  have M2 : Aside (MovesAt w a2 behind) := hM2
  clear pA pB hM1 hM2 hv
  go_enter Try.func9, Try.ntmps9
  go_wp2_with fail
  refine Calls.mono (f := 22) (HPP.out _) ?_
  rintro e w1 ⟨rfl, hw1'⟩
  rw [hw1']
  clear hw1' w1
  go_wp2_with fail
  refine Calls.mono (f := 22) (HPS.out _) ?_
  rintro e w1 ⟨rfl, hw1'⟩
  rw [hw1']
  clear hw1' w1
  go_wp2_with fail
  refine Calls.mono (f := 32) (PA.out w M1.out M2.out) ?_
  rintro e w1 ⟨rfl, B1⟩
  have BB1 : Aside (Below w.heap.size w w1) := B1
  clear B1
  go_wp2_with fail
  refine Calls.mono (f := 22) (HPS.out _) ?_
  rintro e w2 ⟨rfl, hw2'⟩
  rw [hw2']
  clear hw2' w2
  go_wp2_with fail
  refine Calls.mono (f := 22) (HPO.out _) ?_
  rintro e w2 ⟨rfl, hw2'⟩
  rw [hw2']
  clear hw2' w2
  go_wp2_with fail
  refine Calls.mono (f := 32) (PB.out w1 (M1.out.up BB1.out) (M2.out.up BB1.out)) ?_
  rintro e w2 ⟨rfl, B2⟩
  have BB2 : Aside (Below w.heap.size w w2) := BB1.out.trans (B2.mono BB1.out.size)
  clear B2 BB1
  cases ta with
  | false =>
    go_wp2
    go_ret
    exact ⟨rfl, BB2.out⟩
  | true =>
    obtain ⟨x1, x2⟩ := hx rfl
    have d1 : decide (0 ≤ ga) = true := decide_eq_true x1
    have d2 : decide (gb ≤ ga) = true := decide_eq_true x2
    go_wp2
    go_ret
    exact ⟨rfl, BB2.out⟩
#print axioms honest_any
end Go.Proofs.Yteeplklhbhaicaa
/- P9 through the exchange: what comes of it. -/
namespace Go.Proofs.Yteeplklhbhaicaa
open Go.Shelf Go.RowKit Go.Lib Go.Sort

theorem play_one (ahead : List (Int × Int × Int)) : Ex.Twin none none z0 z0 (playA ahead) (playA ahead) := twin_oth ahead twin_fund _

theorem playB_eq (ahead : List (Int × Int × Int)) {side p : Nat} (hs : side = 0 ∨ side = 1) (hp : p < 65536) : playB ahead side p = Ex.written (Ex.ordersX (playA ahead) 0 side p).1 (askO side p) (Ex.ordersX (playA ahead) 0 side p).2 := by
  unfold playB
  rw [(play_one ahead).still.1.do_, askO_answer side p (by omega) hp]

theorem twin_start (ahead : List (Int × Int × Int)) {side v q : Nat} (hs : side = 0 ∨ side = 1) (h1 : 1 ≤ v) (h2 : v < 1000) (hq : q < 65536) :
    ∃ z z', Ex.Twin (some ⟨0, side, v⟩) (if 1 ≤ q ∧ q < 1000 then some ⟨0, side, q⟩ else none) z z' (playB ahead side v) (playB ahead side q) := by
  have T := play_one ahead
  rw [playB_eq ahead hs (by omega), playB_eq ahead hs hq]
  have ok := fun p => Ex.orders_ok T.okx (t := 0) (side := side) (price := p) (by decide)
  obtain ⟨pre, post, ex, _, n1, n2⟩ := T.ords
  have ex' : (playA ahead).ords = pre ++ post := by rw [ex]; simp [Ex.mid]
  have nn : ∀ o ∈ pre ++ post, o.who ≠ 0 := fun o ho => by
    rcases List.mem_append.1 ho with ho | ho
    · exact n1 o ho
    · exact n2 o ho
  obtain ⟨z, ez⟩ := order_yes T hs h1 h2
  have okv := ok v
  rw [ez] at okv ⊢
  by_cases hv : 1 ≤ q ∧ q < 1000
  · rw [if_pos hv]
    obtain ⟨z', ez'⟩ := order_yes T hs hv.1 hv.2
    have okq := ok q
    rw [ez'] at okq ⊢
    refine ⟨z, z', Ex.written_twin ⟨⟨Ex.upd_same (playA ahead).ps 0 z, Ex.upd_same (playA ahead).ps 0 z'⟩, okv.1, okq.1, T.time, T.fin, T.cap, fun t ht => ?_, okv.2.2.1.trans okq.2.2.1.symm, okv.2.2.2.trans okq.2.2.2.symm, ?_, fun q' hq' => ?_, fun q' hq' => ?_⟩ _ _ _ _⟩
    · show Ex.upd _ 0 z t = Ex.upd _ 0 z' t
      rw [Ex.upd_ne _ _ ht, Ex.upd_ne _ _ ht]
    · refine ⟨pre ++ post, [], ?_, ?_, nn, by simp⟩
      · show (playA ahead).ords ++ _ = _
        rw [ex']; simp [Ex.mid]
      · show (playA ahead).ords ++ _ = _
        rw [ex']; simp [Ex.mid]
    · injection hq' with hq'; rw [← hq']
    · injection hq' with hq'; rw [← hq']
  · rw [if_neg hv]
    have en := order_no (x := playA ahead) hs hv
    rw [en]
    refine ⟨z, z0, Ex.written_twin ⟨⟨Ex.upd_same (playA ahead).ps 0 z, T.ps0.2⟩, okv.1, T.oky, T.time, T.fin, T.cap, fun t ht => ?_, okv.2.2.1, okv.2.2.2, ?_, fun q' hq' => ?_, fun q' hq' => by cases hq'⟩ _ _ _ _⟩
    · show Ex.upd _ 0 z t = _
      rw [Ex.upd_ne _ _ ht]
    · refine ⟨pre ++ post, [], ?_, ?_, nn, by simp⟩
      · show (playA ahead).ords ++ _ = _
        rw [ex']; simp [Ex.mid]
      · rw [ex']; simp [Ex.mid]
    · injection hq' with hq'; rw [← hq']

/-- a batch is cleared at last. -/
theorem end_state {x : Ex.Xch} (h1 : x.time = 0) (h2 : x.fin = 100) : (Ex.doX x 1000 [8]).1.traded = (Ex.clearX (Ex.timed x 1000)).traded ∧ (Ex.doX x 1000 [8]).1.paid = (Ex.clearX (Ex.timed x 1000)).paid := by
  have e1 : Ex.cleared (Ex.timed x 1000) = { Ex.clearX (Ex.timed x 1000) with jr := x.jr ++ Ex.record (Ex.timed x 1000).time [] } := by
    unfold Ex.cleared
    rw [if_pos]
    · rfl
    · show x.fin ≤ (if x.time < (if (1125899906842624 : Int) < 1000 then 1125899906842624 else 1000) then (if (1125899906842624 : Int) < 1000 then 1125899906842624 else 1000) else x.time)
      rw [h1, h2]; decide
  have e2 : ∀ y : Ex.Xch, (Ex.answerX y [8]).1 = y := fun y => by
    unfold Ex.answerX
    rfl
  have e3 : ∀ (y : Ex.Xch) s, Ex.written y [8] s = y := fun y s => by
    unfold Ex.written
    rw [if_neg]
    rintro ⟨_, h⟩
    exact absurd h (by decide)
  show (Ex.written (Ex.answerX (Ex.cleared (Ex.timed x 1000)) [8]).1 [8] _).traded = _ ∧ (Ex.written (Ex.answerX (Ex.cleared (Ex.timed x 1000)) [8]).1 [8] _).paid = _
  rw [e3, e2, e1]
  exact ⟨rfl, rfl⟩

theorem getD_pre {α : Type} (pre : List α) (a : α) (post : List α) (d : α) : (pre ++ [a] ++ post).getD pre.length d = a := by
  rw [List.getD_eq_getElem?_getD, List.append_assoc, List.getElem?_append_right (Nat.le_refl _), Nat.sub_self]
  rfl
theorem getD_inpre {α : Type} (pre rest : List α) (d : α) {j : Nat} (h : j < pre.length) : (pre ++ rest).getD j d = pre.getD j d := by
  rw [List.getD_eq_getElem?_getD, List.getElem?_append_left h, List.getD_eq_getElem?_getD]
theorem getD_inpost {α : Type} (pre : List α) (a : α) (post : List α) (d : α) (j : Nat) : (pre ++ [a] ++ post).getD (pre.length + 1 + j) d = post.getD j d := by
  rw [List.getD_eq_getElem?_getD, List.getElem?_append_right (by simp), List.getD_eq_getElem?_getD]
  simp
theorem getD_mem' {α : Type} (l : List α) (d : α) {j : Nat} (h : j < l.length) : l.getD j d ∈ l := by
  rw [List.getD_eq_getElem?_getD, List.getElem?_eq_getElem h]
  exact List.getElem_mem _

/-- with the trader 0's order at its place. -/
theorem end_some {x : Ex.Xch} (h1 : x.time = 0) (h2 : x.fin = 100) {pre post : List Ex.Ord} {q : Ex.Ord} (hq : q.who = 0) (hx : x.ords = pre ++ [q] ++ post) (n1 : ∀ o ∈ pre, o.who ≠ 0) (n2 : ∀ o ∈ post, o.who ≠ 0) :
    (Ex.doX x 1000 [8]).1.traded 0 = (filledL (Ex.bidsOf x.ords)).getD pre.length false ∧ ((filledL (Ex.bidsOf x.ords)).getD pre.length false = true → (Ex.doX x 1000 [8]).1.paid 0 = if q.side = 0 then (setL (Ex.bidsOf x.ords)).2.1 else (setL (Ex.bidsOf x.ords)).2.2) := by
  obtain ⟨e1, e2⟩ := end_state h1 h2
  rw [e1, e2]
  have et : (Ex.timed x 1000).ords = x.ords := rfl
  show (Ex.tradeTo (setL (Ex.bidsOf x.ords)).2.1 (setL (Ex.bidsOf x.ords)).2.2 x.ords (filledL (Ex.bidsOf x.ords)) ⟨x.ps, x.own, fun _ => 0, fun _ => false⟩ x.ords.length).traded 0 = _ ∧ (_ → (Ex.tradeTo (setL (Ex.bidsOf x.ords)).2.1 (setL (Ex.bidsOf x.ords)).2.2 x.ords (filledL (Ex.bidsOf x.ords)) ⟨x.ps, x.own, fun _ => 0, fun _ => false⟩ x.ords.length).paid 0 = _)
  generalize (setL (Ex.bidsOf x.ords)).2.1 = pay
  generalize (setL (Ex.bidsOf x.ords)).2.2 = get
  generalize filledL (Ex.bidsOf x.ords) = fl
  have len : x.ords.length = (pre.length + 1) + post.length := by rw [hx]; simp; omega
  rw [len]
  have s2 := trade_skip pay get x.ords fl ⟨x.ps, x.own, fun _ => 0, fun _ => false⟩ (pre.length + 1) post.length (fun j j1 j2 => by
    obtain ⟨m, rfl⟩ : ∃ m, j = pre.length + 1 + m := ⟨j - (pre.length + 1), by omega⟩
    rw [hx, getD_inpost]
    exact n2 _ (getD_mem' post _ (by omega)))
  have s1 := trade_skip pay get x.ords fl ⟨x.ps, x.own, fun _ => 0, fun _ => false⟩ 0 pre.length (fun j j1 j2 => by
    rw [hx, List.append_assoc, getD_inpre _ _ _ (by omega)]
    exact n1 _ (getD_mem' pre _ (by omega)))
  rw [Nat.zero_add] at s1
  rw [s2.1, s2.2, Ex.tradeTo, hx, getD_pre]
  have s1' : (Ex.tradeTo pay get (pre ++ [q] ++ post) fl ⟨x.ps, x.own, fun _ => 0, fun _ => false⟩ pre.length).traded 0 = false := by
    rw [← hx]; exact s1.1
  generalize Ex.tradeTo pay get (pre ++ [q] ++ post) fl ⟨x.ps, x.own, fun _ => 0, fun _ => false⟩ pre.length = u at s1' ⊢
  generalize fl.getD pre.length false = f
  unfold Ex.tradeOne
  rw [hq]
  cases f with
  | false => exact ⟨s1', fun h => by cases h⟩
  | true =>
    by_cases hs : q.side = 0
    · simp only [hs, if_true]
      exact ⟨Ex.upd_same _ _ _, fun _ => Ex.upd_same _ _ _⟩
    · simp only [hs, if_true, if_false]
      exact ⟨Ex.upd_same _ _ _, fun _ => Ex.upd_same _ _ _⟩

theorem end_none {x : Ex.Xch} (h1 : x.time = 0) (h2 : x.fin = 100) (n : ∀ o ∈ x.ords, o.who ≠ 0) : (Ex.doX x 1000 [8]).1.traded 0 = false := by
  obtain ⟨e1, _⟩ := end_state h1 h2
  rw [e1]
  show (Ex.tradeTo (setL (Ex.bidsOf x.ords)).2.1 (setL (Ex.bidsOf x.ords)).2.2 x.ords (filledL (Ex.bidsOf x.ords)) ⟨x.ps, x.own, fun _ => 0, fun _ => false⟩ x.ords.length).traded 0 = _
  have s1 := trade_skip (setL (Ex.bidsOf x.ords)).2.1 (setL (Ex.bidsOf x.ords)).2.2 x.ords (filledL (Ex.bidsOf x.ords)) ⟨x.ps, x.own, fun _ => 0, fun _ => false⟩ 0 x.ords.length (fun j j1 j2 => n _ (getD_mem' x.ords _ (by omega)))
  rw [Nat.zero_add] at s1
  exact s1.1

theorem bids_mid (pre post : List Ex.Ord) (side : Int) (p : Int) : Ex.bidsOf (pre ++ [⟨0, side, p⟩] ++ post) = (Ex.bidsOf pre ++ (side, (0 : Int)) :: Ex.bidsOf post).set pre.length (side, p) := by
  unfold Ex.bidsOf
  rw [List.map_append, List.map_append, List.set_append_right _ _ (by simp)]
  simp

theorem honest_x : HonestX := by
  intro ahead behind side v q hs h1 h2 hq _
  obtain ⟨z, z', T0⟩ := twin_start ahead hs h1 (by omega : v < 1000) hq
  have T : Ex.Twin _ _ z z' (playC ahead behind side v) (playC ahead behind side q) := twin_oth behind T0 behind.length
  obtain ⟨pre, post, ex, ey, n1, n2⟩ := T.ords
  have ex' : (playC ahead behind side v).ords = pre ++ [⟨0, side, v⟩] ++ post := ex
  obtain ⟨a1, a2⟩ := end_some T.time.1 T.fin.1 rfl ex' n1 n2
  have tp := truthful_pure (Ex.bidsOf pre ++ ((side : Int), (0 : Int)) :: Ex.bidsOf post) pre.length (by simp [Ex.bidsOf]) side v q (by omega) (by omega) (by omega)
  have eA : Ex.bidsOf (playC ahead behind side v).ords = (Ex.bidsOf pre ++ ((side : Int), (0 : Int)) :: Ex.bidsOf post).set pre.length ((side : Int), (v : Int)) := by rw [ex', bids_mid]
  rw [eA] at a1 a2
  have gA : playGain ahead behind side v v = gainV ((Ex.bidsOf pre ++ ((side : Int), (0 : Int)) :: Ex.bidsOf post).set pre.length ((side : Int), (v : Int))) pre.length side v := by
    unfold playGain gainV
    show (if (Ex.doX (playC ahead behind side v) 1000 [8]).1.traded 0 = true then (if side = 1 then -((v : Int) - (Ex.doX (playC ahead behind side v) 1000 [8]).1.paid 0) else (v : Int) - (Ex.doX (playC ahead behind side v) 1000 [8]).1.paid 0) else 0) = _
    rw [a1]
    by_cases hf : (filledL ((Ex.bidsOf pre ++ ((side : Int), (0 : Int)) :: Ex.bidsOf post).set pre.length ((side : Int), (v : Int)))).getD pre.length false = true
    · have a3 : _ = if (side : Int) = 0 then _ else _ := a2 hf
      rw [if_pos hf, if_pos hf, a3]
      rcases hs with rfl | rfl
      · rfl
      · rw [if_pos rfl, if_neg (show ¬ ((1 : Nat) : Int) = 0 by decide), if_neg (show ¬ ((1 : Nat) : Int) = 0 by decide)]
        omega
    · rw [if_neg hf, if_neg hf]
  rw [gA]
  refine ⟨tp.1, ?_⟩
  by_cases hv : 1 ≤ q ∧ q < 1000
  · rw [if_pos hv] at ey
    have ey' : (playC ahead behind side q).ords = pre ++ [⟨0, side, q⟩] ++ post := ey
    obtain ⟨b1, b2⟩ := end_some T.time.2 T.fin.2 rfl ey' n1 n2
    have eB : Ex.bidsOf (playC ahead behind side q).ords = (Ex.bidsOf pre ++ ((side : Int), (0 : Int)) :: Ex.bidsOf post).set pre.length ((side : Int), (q : Int)) := by rw [ey', bids_mid]
    rw [eB] at b1 b2
    have gB : playGain ahead behind side q v = gainV ((Ex.bidsOf pre ++ ((side : Int), (0 : Int)) :: Ex.bidsOf post).set pre.length ((side : Int), (q : Int))) pre.length side v := by
      unfold playGain gainV
      show (if (Ex.doX (playC ahead behind side q) 1000 [8]).1.traded 0 = true then (if side = 1 then -((v : Int) - (Ex.doX (playC ahead behind side q) 1000 [8]).1.paid 0) else (v : Int) - (Ex.doX (playC ahead behind side q) 1000 [8]).1.paid 0) else 0) = _
      rw [b1]
      by_cases hf : (filledL ((Ex.bidsOf pre ++ ((side : Int), (0 : Int)) :: Ex.bidsOf post).set pre.length ((side : Int), (q : Int)))).getD pre.length false = true
      · have b3 : _ = if (side : Int) = 0 then _ else _ := b2 hf
        rw [if_pos hf, if_pos hf, b3]
        rcases hs with rfl | rfl
        · rfl
        · rw [if_pos rfl, if_neg (show ¬ ((1 : Nat) : Int) = 0 by decide), if_neg (show ¬ ((1 : Nat) : Int) = 0 by decide)]
          omega
      · rw [if_neg hf, if_neg hf]
    rw [gB]
    exact tp.2
  · rw [if_neg hv] at ey
    have ey' : (playC ahead behind side q).ords = pre ++ post := by rw [ey]; simp [Ex.mid]
    have tr := end_none T.time.2 T.fin.2 (fun o ho => by
      rw [ey'] at ho
      rcases List.mem_append.1 ho with ho | ho
      · exact n1 o ho
      · exact n2 o ho)
    have gB : playGain ahead behind side q v = 0 := by
      unfold playGain
      rw [if_neg]
      show ¬ (Ex.doX (playC ahead behind side q) 1000 [8]).1.traded 0 = true
      rw [tr]; decide
    rw [gB]
    exact tp.1
#print axioms honest_x
end Go.Proofs.Yteeplklhbhaicaa
