import Derived.Test.YtjfifaooimgbaaaLk
import Derived.BigRegion
import Derived.Test.YtjfifaooimgbaaaAw
/- A filled order's trade. -/
namespace Go.Proofs.Ytjfifaooimgbaaa
open Go.Shelf Go.RowKit Go.Lib Go.Sort

/-- small enough. -/
def Calm (q : Nat → A4) : Prop := ∀ i, i < 21 → (-288230376151711744 ≤ (q i).c ∧ (q i).c ≤ 288230376151711744 ∧ -288230376151711744 ≤ (q i).h ∧ (q i).h ≤ 288230376151711744) ∧ (-288230376151711744 ≤ (q i).u ∧ (q i).u ≤ 288230376151711744 ∧ -288230376151711744 ≤ (q i).k ∧ (q i).k ≤ 288230376151711744)
theorem Calm.ok {q : Nat → A4} (h : Calm q) {i : Nat} (hi : i < 21) : (q i).ok := by
  have := h i hi
  exact ⟨⟨by omega, by omega⟩, ⟨by omega, by omega⟩, ⟨by omega, by omega⟩, ⟨by omega, by omega⟩⟩
/-- what a trade comes to. -/
def tradeQ (o : Ex.Ord) (pay get : Int) (q : Nat → A4) : Nat → A4 :=
  if o.side = 0 then let q1 := updA q o.who (chg 0 (-pay) 0 (q o.who)); updA q1 o.who (chg 1 1 0 (q1 o.who))
  else let q1 := updA q o.who (chg 1 (-1) 0 (q o.who)); updA q1 o.who (chg 0 get 0 (q1 o.who))

theorem updA_same (q : Nat → A4) (i : Nat) (v : A4) : updA q i v i = v := if_pos rfl
/-- only the accounts, and the prices, are written. -/
abbrev OnlAP (s : MkS) (w w' : World) : Prop := Onl (fun k => k = s.ba ∨ k = s.bp) w w'

set_option maxHeartbeats 2000000 in
set_option maxRecDepth 100000 in
theorem trade_buy (w : World) (m : Nat) (s : MkS) (q : Nat → A4) (f : Nat → Option Value) (who : Nat) (price : Int) (hM : MkAt w m s) (hA : AccF w s.ba q) (hP : MapF Try.prog 3 w s.bp 20 f) (hq : Calm q) (ho : who < 20) (hpay : 0 ≤ s.pay ∧ s.pay ≤ 1000) (hap : s.ba ≠ s.bp) :
    Calls Try.prog 109 #[.pointer (some ⟨m, 0, none⟩), ordV ⟨who, 0, price⟩] w fun e w' => e = .returned (.tuple #[]) ∧ AccF w' s.ba (tradeQ ⟨who, 0, price⟩ s.pay s.get q) ∧ MapF Try.prog 3 w' s.bp 20 (setF f who (.int .i64 s.pay)) ∧ OnlAP s w w' := by
  have mixed : Try.prog.follows .mixedOrders = true := by kernel_rfl
  have ok1 := hq.ok (i := who) (by omega)
  have hqt := hq who (by omega)
  obtain ⟨W, hW⟩ : ∃ W, W = w.alloc (.cells #[.int .i64 (who : Int), .int .i64 0, .int .i64 price] 171) := ⟨_, rfl⟩
  have hsz : W.heap.size = w.heap.size + 1 := by rw [hW]; simp
  have bk : ∀ j, j < w.heap.size → W.heap[j]? = w.heap[j]? := fun j hj => by rw [hW]; exact Below.heap_alloc w _ j hj
  have MW : MkAt W m s := hM.kept (bk m hM.lt)
  have AW : AccF W s.ba q := hA.kept (bk _ hA.lt)
  have PW : MapF Try.prog 3 W s.bp 20 f := hP.kept (bk _ hP.lt)
  have r0 : W.heap[w.heap.size]? = some (.cells #[.int .i64 (who : Int), .int .i64 0, .int .i64 price] 171 (0, 0)) := by rw [hW]; exact heap_alloc_new w _
  have OW : Aside (OnlAP s w W) := by show Onl _ _ _; rw [hW]; exact (Onl.refl _ w).alloc _
  have nma : m ≠ s.ba := fun e => by
    obtain ⟨es, c, h1⟩ := AW.block
    have h2 : W.heap[m]? = _ := MW
    rw [e, h1] at h2; cases h2
  have nwa : w.heap.size ≠ s.ba := fun e => by
    have := hA.lt
    omega
  have hml : m < W.heap.size := MW.lt
  unfold ordV
  have HT : Aside _ := take_any W.drew s.ba q who 0 s.pay (AW.kept rfl) (by omega) (by decide) ok1 ⟨by omega, by omega⟩
  have HP : Aside (∀ w1, AccF w1 s.ba (updA q who (chg 0 (-s.pay) 0 (q who))) → Calls Try.prog 110 #[.map (some s.ba), .int .i64 (who : Int), .int .i64 1, .int .i64 1] w1 fun e w' => e = .returned (.tuple #[]) ∧ AccF w' s.ba (updA (updA q who (chg 0 (-s.pay) 0 (q who))) who (chg 1 1 0 (updA q who (chg 0 (-s.pay) 0 (q who)) who))) ∧ Onl (· = s.ba) w1 w') := fun w1 h1 => put_any w1 s.ba _ who 1 1 h1 (by omega) (by decide) (by
    rw [updA_same]
    unfold chg
    rw [if_pos rfl]
    refine ⟨⟨?_, ?_⟩, ⟨?_, ?_⟩, ok1.u, ok1.k⟩ <;> dsimp only <;> omega) ⟨by decide, by decide⟩
  have EQ : Aside (tradeQ ⟨who, 0, price⟩ s.pay s.get q = updA (updA q who (chg 0 (-s.pay) 0 (q who))) who (chg 1 1 0 (updA q who (chg 0 (-s.pay) 0 (q who)) who))) := by
    show _ = _
    unfold tradeQ; rw [if_pos rfl]
  generalize tradeQ ⟨who, 0, price⟩ s.pay s.get q = qq at *
  have C := MW.all
  have m3 := C.c3
  have m9 := C.c9
  have rc0 : W.cell? ⟨w.heap.size, 0, none⟩ = some (.int .i64 (who : Int)) := by simp [World.cell?, r0]
  have HM : Aside (MkAt W m s) := MW
  have HPW : Aside (MapF Try.prog 3 W s.bp 20 f) := PW
  have HR0 : Aside (W.heap[w.heap.size]? = some (.cells #[.int .i64 (who : Int), .int .i64 0, .int .i64 price] 171 (0, 0))) := r0
  clear hM hA hP hq AW PW MW bk C r0 ok1 hqt
  go_enter Try.func109, Try.ntmps109
  go_wp2_with fail
  rw [← hW]
  clear hW
  go_still_tail 11, mixed
  go_wp2_with fail
  refine Calls.mono (f := 118) HT.out ?_
  rintro e w1 ⟨rfl, A1, O1⟩
  have M1 : MkAt w1 m s := HM.out.kept (O1.block m hml nma)
  have R1 : w1.heap[w.heap.size]? = some (.cells #[.int .i64 (who : Int), .int .i64 0, .int .i64 price] 171 (0, 0)) := (O1.block w.heap.size (by show w.heap.size < W.heap.size; omega) nwa).trans HR0.out
  have P1 : MapF Try.prog 3 w1 s.bp 20 f := HPW.out.kept (O1.block _ HPW.out.lt (fun e => hap e.symm))
  have m3 := M1.all.c3
  have rc0 : w1.cell? ⟨w.heap.size, 0, none⟩ = some (.int .i64 (who : Int)) := by simp [World.cell?, R1]
  have HA1 : Aside _ := A1
  have HO1 : Aside (OnlAP s w w1) := OW.out.drew.trans O1 (fun i hi => Or.inl (Or.inl hi))
  have HM1 : Aside (MkAt w1 m s) := M1
  have HR1 : Aside (w1.heap[w.heap.size]? = some (.cells #[.int .i64 (who : Int), .int .i64 0, .int .i64 price] 171 (0, 0))) := R1
  have HP1 : Aside (MapF Try.prog 3 w1 s.bp 20 f) := P1
  have hs1 : W.heap.size ≤ w1.heap.size := O1.size
  clear HT A1 O1 M1 R1 P1 HM HPW HR0
  go_wp2_with fail
  go_still_tail 6, mixed
  go_wp2_with fail
  refine Calls.mono (f := 110) (HP.out w1.drew (AccF.kept HA1.out rfl)) ?_
  rintro e w2 ⟨rfl, A2, O2⟩
  have M2 : MkAt w2 m s := HM1.out.kept (O2.block m (by show m < w1.heap.size; omega) nma)
  have R2 : w2.heap[w.heap.size]? = some (.cells #[.int .i64 (who : Int), .int .i64 0, .int .i64 price] 171 (0, 0)) := (O2.block w.heap.size (by show w.heap.size < w1.heap.size; omega) nwa).trans HR1.out
  have P2 : MapF Try.prog 3 w2 s.bp 20 f := HP1.out.kept (O2.block _ HP1.out.lt (fun e => hap e.symm))
  have m12 := M2.all.c12
  have m9 := M2.all.c9
  have rc0 : w2.cell? ⟨w.heap.size, 0, none⟩ = some (.int .i64 (who : Int)) := by simp [World.cell?, R2]
  have HO2 : Aside (OnlAP s w w2) := HO1.out.drew.trans O2 (fun i hi => Or.inl (Or.inl hi))
  have HA2 : Aside (AccF w2 s.ba qq) := by show AccF _ _ _; rw [EQ.out]; exact A2
  have HP2 : Aside (MapF Try.prog 3 w2.drew s.bp 20 f) := P2.kept rfl
  clear A2 O2 M2 R2 P2 HM1 HR1 HP1 HO1 HP HA1
  go_wp2_with fail
  go_still_tail 12, mixed
  go_wp2_with (first | (at_mapUpdate; refine wpList_store_mapf _ rfl _ _ _ 125 rfl 3 3 K3 Try.underlying125 s.bp 20 f (by decide) rfl HP2.out who ho _ _ rfl rfl (key3 _ (by omega)) ?_; intro w3 g1 g2 g3) | fail)
  try simp only [Exit.inBlock, Exit.then]
  refine bodyPost_ret (results_none rfl _ _ _) rfl ?_
  refine ⟨rfl, HA2.out.kept (g2.block _ HA2.out.lt (fun e => hap (by injection e))), g1, ?_⟩
  exact HO2.out.drew.grown g2 (Or.inl (Or.inr rfl))

set_option maxHeartbeats 2000000 in
set_option maxRecDepth 100000 in
theorem trade_sell (w : World) (m : Nat) (s : MkS) (q : Nat → A4) (f : Nat → Option Value) (who : Nat) (side price : Int) (hs : side ≠ 0) (hM : MkAt w m s) (hA : AccF w s.ba q) (hP : MapF Try.prog 3 w s.bp 20 f) (hq : Calm q) (ho : who < 20) (hget : 0 ≤ s.get ∧ s.get ≤ 1000) (hap : s.ba ≠ s.bp) :
    Calls Try.prog 109 #[.pointer (some ⟨m, 0, none⟩), ordV ⟨who, side, price⟩] w fun e w' => e = .returned (.tuple #[]) ∧ AccF w' s.ba (tradeQ ⟨who, side, price⟩ s.pay s.get q) ∧ MapF Try.prog 3 w' s.bp 20 (setF f who (.int .i64 s.get)) ∧ OnlAP s w w' := by
  have mixed : Try.prog.follows .mixedOrders = true := by kernel_rfl
  have ok1 := hq.ok (i := who) (by omega)
  have hqt := hq who (by omega)
  obtain ⟨W, hW⟩ : ∃ W, W = w.alloc (.cells #[.int .i64 (who : Int), .int .i64 side, .int .i64 price] 171) := ⟨_, rfl⟩
  have hsz : W.heap.size = w.heap.size + 1 := by rw [hW]; simp
  have bk : ∀ j, j < w.heap.size → W.heap[j]? = w.heap[j]? := fun j hj => by rw [hW]; exact Below.heap_alloc w _ j hj
  have MW : MkAt W m s := hM.kept (bk m hM.lt)
  have AW : AccF W s.ba q := hA.kept (bk _ hA.lt)
  have PW : MapF Try.prog 3 W s.bp 20 f := hP.kept (bk _ hP.lt)
  have r0 : W.heap[w.heap.size]? = some (.cells #[.int .i64 (who : Int), .int .i64 side, .int .i64 price] 171 (0, 0)) := by rw [hW]; exact heap_alloc_new w _
  have OW : Aside (OnlAP s w W) := by show Onl _ _ _; rw [hW]; exact (Onl.refl _ w).alloc _
  have nma : m ≠ s.ba := fun e => by
    obtain ⟨es, c, h1⟩ := AW.block
    have h2 : W.heap[m]? = _ := MW
    rw [e, h1] at h2; cases h2
  have nwa : w.heap.size ≠ s.ba := fun e => by
    have := hA.lt
    omega
  have hml : m < W.heap.size := MW.lt
  unfold ordV
  have hb : (side == 0) = false := beq_eq_false_iff_ne.2 hs
  have HT : Aside _ := take_any W.drew s.ba q who 1 1 (AW.kept rfl) (by omega) (by decide) ok1 ⟨by decide, by decide⟩
  have HP : Aside (∀ w1, AccF w1 s.ba (updA q who (chg 1 (-1) 0 (q who))) → Calls Try.prog 110 #[.map (some s.ba), .int .i64 (who : Int), .int .i64 0, .int .i64 s.get] w1 fun e w' => e = .returned (.tuple #[]) ∧ AccF w' s.ba (updA (updA q who (chg 1 (-1) 0 (q who))) who (chg 0 s.get 0 (updA q who (chg 1 (-1) 0 (q who)) who))) ∧ Onl (· = s.ba) w1 w') := fun w1 h1 => put_any w1 s.ba _ who 0 s.get h1 (by omega) (by decide) (by
    rw [updA_same]
    unfold chg
    rw [if_neg (by decide)]
    refine ⟨ok1.c, ok1.h, ⟨?_, ?_⟩, ⟨?_, ?_⟩⟩ <;> dsimp only <;> omega) ⟨by omega, by omega⟩
  have EQ : Aside (tradeQ ⟨who, side, price⟩ s.pay s.get q = updA (updA q who (chg 1 (-1) 0 (q who))) who (chg 0 s.get 0 (updA q who (chg 1 (-1) 0 (q who)) who))) := by
    show _ = _
    unfold tradeQ; rw [if_neg hs]
  generalize tradeQ ⟨who, side, price⟩ s.pay s.get q = qq at *
  have C := MW.all
  have m3 := C.c3
  have rc0 : W.cell? ⟨w.heap.size, 0, none⟩ = some (.int .i64 (who : Int)) := by simp [World.cell?, r0]
  have HM : Aside (MkAt W m s) := MW
  have HPW : Aside (MapF Try.prog 3 W s.bp 20 f) := PW
  have HR0 : Aside (W.heap[w.heap.size]? = some (.cells #[.int .i64 (who : Int), .int .i64 side, .int .i64 price] 171 (0, 0))) := r0
  clear hs hM hA hP hq AW PW MW bk C r0 ok1 hqt
  go_enter Try.func109, Try.ntmps109
  go_wp2_with fail
  rw [← hW]
  clear hW
  go_still_tail 6, mixed
  go_wp2_with fail
  refine Calls.mono (f := 118) HT.out ?_
  rintro e w1 ⟨rfl, A1, O1⟩
  have M1 : MkAt w1 m s := HM.out.kept (O1.block m hml nma)
  have R1 : w1.heap[w.heap.size]? = some (.cells #[.int .i64 (who : Int), .int .i64 side, .int .i64 price] 171 (0, 0)) := (O1.block w.heap.size (by show w.heap.size < W.heap.size; omega) nwa).trans HR0.out
  have P1 : MapF Try.prog 3 w1 s.bp 20 f := HPW.out.kept (O1.block _ HPW.out.lt (fun e => hap e.symm))
  have m3 := M1.all.c3
  have m10 := M1.all.c10
  have rc0 : w1.cell? ⟨w.heap.size, 0, none⟩ = some (.int .i64 (who : Int)) := by simp [World.cell?, R1]
  have HA1 : Aside _ := A1
  have HO1 : Aside (OnlAP s w w1) := OW.out.drew.trans O1 (fun i hi => Or.inl (Or.inl hi))
  have HM1 : Aside (MkAt w1 m s) := M1
  have HR1 : Aside (w1.heap[w.heap.size]? = some (.cells #[.int .i64 (who : Int), .int .i64 side, .int .i64 price] 171 (0, 0))) := R1
  have HP1 : Aside (MapF Try.prog 3 w1 s.bp 20 f) := P1
  have hs1 : W.heap.size ≤ w1.heap.size := O1.size
  clear HT A1 O1 M1 R1 P1 HM HPW HR0
  go_wp2_with fail
  go_still_tail 11, mixed
  go_wp2_with fail
  refine Calls.mono (f := 110) (HP.out w1.drew (AccF.kept HA1.out rfl)) ?_
  rintro e w2 ⟨rfl, A2, O2⟩
  have M2 : MkAt w2 m s := HM1.out.kept (O2.block m (by show m < w1.heap.size; omega) nma)
  have R2 : w2.heap[w.heap.size]? = some (.cells #[.int .i64 (who : Int), .int .i64 side, .int .i64 price] 171 (0, 0)) := (O2.block w.heap.size (by show w.heap.size < w1.heap.size; omega) nwa).trans HR1.out
  have P2 : MapF Try.prog 3 w2 s.bp 20 f := HP1.out.kept (O2.block _ HP1.out.lt (fun e => hap e.symm))
  have m12 := M2.all.c12
  have m10 := M2.all.c10
  have rc0 : w2.cell? ⟨w.heap.size, 0, none⟩ = some (.int .i64 (who : Int)) := by simp [World.cell?, R2]
  have HO2 : Aside (OnlAP s w w2) := HO1.out.drew.trans O2 (fun i hi => Or.inl (Or.inl hi))
  have HA2 : Aside (AccF w2 s.ba qq) := by show AccF _ _ _; rw [EQ.out]; exact A2
  have HP2 : Aside (MapF Try.prog 3 w2.drew s.bp 20 f) := P2.kept rfl
  clear A2 O2 M2 R2 P2 HM1 HR1 HP1 HO1 HP HA1
  go_wp2_with fail
  go_still_tail 12, mixed
  go_wp2_with (first | (at_mapUpdate; refine wpList_store_mapf _ rfl _ _ _ 125 rfl 3 3 K3 Try.underlying125 s.bp 20 f (by decide) rfl HP2.out who ho _ _ rfl rfl (key3 _ (by omega)) ?_; intro w3 g1 g2 g3) | fail)
  go_end0
  refine ⟨rfl, HA2.out.kept (g2.block _ HA2.out.lt (fun e => hap (by injection e))), g1, ?_⟩
  exact HO2.out.drew.grown g2 (Or.inl (Or.inr rfl))
end Go.Proofs.Ytjfifaooimgbaaa
/- What a clearing goes through, in accounts. -/
namespace Go.Proofs.Ytjfifaooimgbaaa
open Go.Shelf Go.RowKit Go.Lib Go.Sort

/-- the purse as four numbers. -/
def a4 (p : Ex.Purse) : A4 := ⟨p.cash, p.held, p.units, p.hun⟩
/-- what is held for an order is free again. -/
def relQ (o : Ex.Ord) (q : Nat → A4) : Nat → A4 := updA q o.who (chg (goodOf o.side) (stakeOf o) (-(stakeOf o)) (q o.who))
theorem rel_freed (q : Nat → A4) (o : Ex.Ord) (p : Ex.Purse) (h : q o.who = a4 p) : relQ o q o.who = a4 (Ex.freed p o) := by
  unfold relQ
  rw [updA_same, h]
  unfold chg goodOf stakeOf Ex.freed a4
  by_cases hs : o.side = 0
  · rw [if_pos hs, if_pos rfl, if_pos hs, if_pos hs]
    dsimp only
    congr 1
  · rw [if_neg hs, if_neg (by decide), if_neg hs, if_neg hs]
    dsimp only
    congr 1
def stepQ (pay get : Int) (o : Ex.Ord) (f : Bool) (q : Nat → A4) : Nat → A4 := if f = true then tradeQ o pay get (relQ o q) else relQ o q
def qTo (pay get : Int) (os : List Ex.Ord) (fl : List Bool) (q : Nat → A4) : Nat → Nat → A4
  | 0 => q
  | n + 1 => stepQ pay get (os.getD n ⟨0, 0, 0⟩) (fl.getD n false) (qTo pay get os fl q n)
theorem updA_ne (q : Nat → A4) {i j : Nat} (v : A4) (h : j ≠ i) : updA q i v j = q j := if_neg h
theorem step_other (pay get : Int) (o : Ex.Ord) (f : Bool) (q : Nat → A4) {j : Nat} (h : j ≠ o.who) : stepQ pay get o f q j = q j := by
  unfold stepQ tradeQ relQ
  split
  · split
    · dsimp only
      rw [updA_ne _ _ h, updA_ne _ _ h, updA_ne _ _ h]
    · dsimp only
      rw [updA_ne _ _ h, updA_ne _ _ h, updA_ne _ _ h]
  · rw [updA_ne _ _ h]
theorem step_same (pay get : Int) (o : Ex.Ord) (f : Bool) (q : Nat → A4) (s : Ex.St) (h : q o.who = a4 (s.ps o.who)) : stepQ pay get o f q o.who = a4 ((Ex.tradeOne pay get s o f).ps o.who) := by
  have r := rel_freed q o (s.ps o.who) h
  unfold stepQ Ex.tradeOne
  cases f with
  | false =>
    rw [if_neg (by decide)]
    dsimp only
    rw [if_neg (by decide)]
    dsimp only
    rw [Ex.upd_same, r]
  | true =>
    rw [if_pos rfl]
    dsimp only
    rw [if_pos rfl]
    unfold tradeQ
    by_cases hs : o.side = 0
    · rw [if_pos hs, if_pos hs]
      dsimp only
      rw [updA_same, updA_same, Ex.upd_same, r]
      simp only [chg, a4, show ¬ ((1 : Nat) = 0) by decide, if_true, if_false]
      congr 1
      all_goals omega
    · rw [if_neg hs, if_neg hs]
      dsimp only
      rw [updA_same, updA_same, Ex.upd_same, r]
      simp only [chg, a4, show ¬ ((1 : Nat) = 0) by decide, if_true, if_false]
      congr 1
      all_goals omega
theorem qTo_ps (pay get : Int) (os : List Ex.Ord) (fl : List Bool) (q : Nat → A4) (s : Ex.St) (h : ∀ i, i < 20 → q i = a4 (s.ps i)) (hw : ∀ o ∈ os, o.who < 20) : ∀ n, n ≤ os.length → ∀ i, i < 20 → qTo pay get os fl q n i = a4 ((Ex.tradeTo pay get os fl s n).ps i)
  | 0, _, i, hi => h i hi
  | n + 1, hn, i, hi => by
    have ih := qTo_ps pay get os fl q s h hw n (by omega)
    have ho : (os.getD n ⟨0, 0, 0⟩).who < 20 := hw _ (Ex.getD_mem os (by omega))
    rw [qTo, Ex.tradeTo]
    by_cases e : i = (os.getD n ⟨0, 0, 0⟩).who
    · rw [e]
      exact step_same pay get _ _ _ _ (ih _ ho)
    · rw [step_other pay get _ _ _ e, ih i hi]
      congr 1
      unfold Ex.tradeOne
      split
      · split <;> exact (Ex.upd_ne _ _ e).symm
      · exact (Ex.upd_ne _ _ e).symm
theorem qTo_house (pay get : Int) (os : List Ex.Ord) (fl : List Bool) (q : Nat → A4) (hw : ∀ o ∈ os, o.who < 20) : ∀ n, n ≤ os.length → qTo pay get os fl q n 20 = q 20
  | 0, _ => rfl
  | n + 1, hn => by
    have ho : (os.getD n ⟨0, 0, 0⟩).who < 20 := hw _ (Ex.getD_mem os (by omega))
    rw [qTo, step_other pay get _ _ _ (by omega), qTo_house pay get os fl q hw n (by omega)]
/-- what those who traded paid, or got. -/
def fTo (pay get : Int) (os : List Ex.Ord) (fl : List Bool) : Nat → Nat → Option Value
  | 0 => fun _ => none
  | n + 1 => if fl.getD n false = true then setF (fTo pay get os fl n) (os.getD n ⟨0, 0, 0⟩).who (.int .i64 (if (os.getD n ⟨0, 0, 0⟩).side = 0 then pay else get)) else fTo pay get os fl n
theorem fTo_paid (pay get : Int) (os : List Ex.Ord) (fl : List Bool) (s : Ex.St) (h : ∀ i, s.traded i = false) : ∀ n i, fTo pay get os fl n i = if (Ex.tradeTo pay get os fl s n).traded i = true then some (.int .i64 ((Ex.tradeTo pay get os fl s n).paid i)) else none
  | 0, i => by rw [Ex.tradeTo, h i]; rfl
  | n + 1, i => by
    have ih := fTo_paid pay get os fl s h n i
    rw [fTo, Ex.tradeTo]
    unfold Ex.tradeOne
    by_cases hf : fl.getD n false = true
    · rw [if_pos hf]
      simp only [hf, if_true]
      unfold setF
      by_cases hs : (os.getD n ⟨0, 0, 0⟩).side = 0
      · simp only [hs, if_true]
        by_cases e : i = (os.getD n ⟨0, 0, 0⟩).who
        · rw [if_pos e, e, Ex.upd_same, Ex.upd_same, if_pos rfl]
        · rw [if_neg e, Ex.upd_ne _ _ e, Ex.upd_ne _ _ e, ih]
      · simp only [hs, if_false]
        by_cases e : i = (os.getD n ⟨0, 0, 0⟩).who
        · rw [if_pos e, e, Ex.upd_same, Ex.upd_same, if_pos rfl]
        · rw [if_neg e, Ex.upd_ne _ _ e, Ex.upd_ne _ _ e, ih]
    · rw [if_neg hf]
      simp only [hf, if_false, Bool.false_eq_true]
      exact ih
end Go.Proofs.Ytjfifaooimgbaaa
/- A clearing, in accounts: what comes of it. -/
namespace Go.Proofs.Ytjfifaooimgbaaa
open Go.Shelf Go.RowKit Go.Lib Go.Sort

theorem own_clear {x : Ex.Xch} (h : Ex.Ok x) : (Ex.clearX x).own = x.own + (((setL (Ex.bidsOf x.ords)).1 : Nat) : Int) * ((setL (Ex.bidsOf x.ords)).2.1 - (setL (Ex.bidsOf x.ords)).2.2) := by
  have ts := Ex.trade_sums (setL (Ex.bidsOf x.ords)).2.1 (setL (Ex.bidsOf x.ords)).2.2 x.ords (filledL (Ex.bidsOf x.ords)) ⟨x.ps, x.own, fun _ => 0, fun _ => false⟩ (fun o ho => (h.ord o ho).1) x.ords.length (Nat.le_refl _)
  rw [Ex.nB_bought _ _ (Nat.le_refl _), Ex.nS_sold _ _ (Nat.le_refl _), ← Ex.bids_length, bought_all, sold_all, Ex.bids_length] at ts
  have t3 := ts.2.2
  show (Ex.tradeTo _ _ _ _ _ _).own = _
  rw [t3, Int.mul_sub, Int.mul_comm (setL (Ex.bidsOf x.ords)).2.1, Int.mul_comm (setL (Ex.bidsOf x.ords)).2.2]
  dsimp only
  omega
theorem q_clear {x : Ex.Xch} (h : Ex.Ok x) (j : List UInt8) : ∀ i, i < 21 → updA (qTo (setL (Ex.bidsOf x.ords)).2.1 (setL (Ex.bidsOf x.ords)).2.2 x.ords (filledL (Ex.bidsOf x.ords)) (qOf x) x.ords.length) 20 (chg 0 ((((setL (Ex.bidsOf x.ords)).1 : Nat) : Int) * ((setL (Ex.bidsOf x.ords)).2.1 - (setL (Ex.bidsOf x.ords)).2.2)) 0 (qTo (setL (Ex.bidsOf x.ords)).2.1 (setL (Ex.bidsOf x.ords)).2.2 x.ords (filledL (Ex.bidsOf x.ords)) (qOf x) x.ords.length 20)) i = qOf { Ex.clearX x with jr := j } i := fun i hi => by
  have hw : ∀ o ∈ x.ords, o.who < 20 := fun o ho => (h.ord o ho).1
  by_cases e : i = 20
  · subst e
    rw [updA_same, qTo_house _ _ _ _ _ hw _ (Nat.le_refl _)]
    have hq : qOf x 20 = ⟨x.own, 0, 0, 0⟩ := if_neg (by decide)
    have hq2 : qOf { Ex.clearX x with jr := j } 20 = ⟨(Ex.clearX x).own, 0, 0, 0⟩ := if_neg (by decide)
    rw [hq, hq2, own_clear h]
    rfl
  · rw [updA_ne _ _ e, qTo_ps _ _ _ _ (qOf x) ⟨x.ps, x.own, fun _ => 0, fun _ => false⟩ (fun k hk => if_pos hk) hw _ (Nat.le_refl _) i (by omega)]
    have hq2 : qOf { Ex.clearX x with jr := j } i = a4 ((Ex.clearX x).ps i) := if_pos (by omega)
    rw [hq2]
    rfl
theorem f_clear (x : Ex.Xch) (j : List UInt8) : fTo (setL (Ex.bidsOf x.ords)).2.1 (setL (Ex.bidsOf x.ords)).2.2 x.ords (filledL (Ex.bidsOf x.ords)) x.ords.length = prOf { Ex.clearX x with jr := j } := by
  funext i
  exact fTo_paid _ _ _ _ ⟨x.ps, x.own, fun _ => 0, fun _ => false⟩ (fun _ => rfl) _ i

def Bd (B : Int) (a : A4) : Prop := (-B ≤ a.c ∧ a.c ≤ B) ∧ (-B ≤ a.h ∧ a.h ≤ B) ∧ (-B ≤ a.u ∧ a.u ≤ B) ∧ (-B ≤ a.k ∧ a.k ≤ B)
theorem bd_chg (g : Nat) (x y : Int) (a : A4) (B : Int) (h : Bd B a) (hx : -1000 ≤ x ∧ x ≤ 1000) (hy : -1000 ≤ y ∧ y ≤ 1000) : Bd (B + 1000) (chg g x y a) := by
  obtain ⟨h1, h2, h3, h4⟩ := h
  unfold chg Bd
  split
  · dsimp only; omega
  · dsimp only; omega
theorem bd_upd (q : Nat → A4) (i : Nat) (v : A4) (B C : Int) (hBC : B ≤ C) (h : ∀ j, Bd B (q j)) (hv : Bd C v) : ∀ j, Bd C (updA q i v j) := fun j => by
  by_cases e : j = i
  · rw [e, updA_same]; exact hv
  · rw [updA_ne _ _ e]
    have := h j
    unfold Bd at *
    omega
theorem bd_step (pay get : Int) (o : Ex.Ord) (f : Bool) (q : Nat → A4) (B : Int) (h : ∀ j, Bd B (q j)) (hp : 0 ≤ pay ∧ pay ≤ 1000) (hg : 0 ≤ get ∧ get ≤ 1000) (ho : 1 ≤ o.price ∧ o.price < 1000) : ∀ j, Bd (B + 3000) (stepQ pay get o f q j) := by
  have sk : -1000 ≤ stakeOf o ∧ stakeOf o ≤ 1000 := by unfold stakeOf; split <;> omega
  have r : ∀ j, Bd (B + 1000) (relQ o q j) := by
    unfold relQ
    exact bd_upd q _ _ B _ (by omega) h (bd_chg _ _ _ _ B (h _) sk (by omega))
  have wk : ∀ j, Bd (B + 3000) (relQ o q j) := fun j => by have := r j; unfold Bd at *; omega
  unfold stepQ
  split
  · unfold tradeQ
    split
    · dsimp only
      have a1 := bd_upd (relQ o q) o.who _ (B + 1000) (B + 2000) (by omega) r (by have := bd_chg 0 (-pay) 0 (relQ o q o.who) (B + 1000) (r _) (by omega) (by omega); rw [show B + 1000 + 1000 = B + 2000 by omega] at this; exact this)
      refine bd_upd _ o.who _ (B + 2000) (B + 3000) (by omega) a1 ?_
      have := bd_chg 1 1 0 _ (B + 2000) (a1 o.who) (by omega) (by omega)
      rw [show B + 2000 + 1000 = B + 3000 by omega] at this
      exact this
    · dsimp only
      have a1 := bd_upd (relQ o q) o.who _ (B + 1000) (B + 2000) (by omega) r (by have := bd_chg 1 (-1) 0 (relQ o q o.who) (B + 1000) (r _) (by omega) (by omega); rw [show B + 1000 + 1000 = B + 2000 by omega] at this; exact this)
      refine bd_upd _ o.who _ (B + 2000) (B + 3000) (by omega) a1 ?_
      have := bd_chg 0 get 0 _ (B + 2000) (a1 o.who) (by omega) (by omega)
      rw [show B + 2000 + 1000 = B + 3000 by omega] at this
      exact this
  · exact wk
theorem bd_to (pay get : Int) (os : List Ex.Ord) (fl : List Bool) (q : Nat → A4) (B : Int) (h : ∀ j, Bd B (q j)) (hp : 0 ≤ pay ∧ pay ≤ 1000) (hg : 0 ≤ get ∧ get ≤ 1000) (ho : ∀ o ∈ os, 1 ≤ o.price ∧ o.price < 1000) : ∀ n, n ≤ os.length → ∀ j, Bd (B + 3000 * (n : Int)) (qTo pay get os fl q n j)
  | 0, _, j => by
    have := h j
    show Bd (B + 3000 * 0) (q j)
    unfold Bd at *
    omega
  | n + 1, hn, j => by
    have ih := bd_to pay get os fl q B h hp hg ho n (by omega)
    have := bd_step pay get _ (fl.getD n false) _ _ ih hp hg (ho _ (Ex.getD_mem os (show n < os.length by omega))) j
    rw [show B + 3000 * ((n + 1 : Nat) : Int) = B + 3000 * (n : Int) + 3000 by omega]
    exact this
/-- all numbers stay small on the way. -/
theorem calm_clear {x : Ex.Xch} (ok : Ex.Ok x) : ∀ n, n ≤ x.ords.length → ∀ i, i < 21 → Bd 144115188075855872 (qTo (setL (Ex.bidsOf x.ords)).2.1 (setL (Ex.bidsOf x.ords)).2.2 x.ords (filledL (Ex.bidsOf x.ords)) (qOf x) n i) := fun n hn i _ => by
  have len : x.ords.length ≤ 20 := by have := ok.len; have := ok.cap; omega
  have sb := set_bd (Ex.bidsOf x.ords)
  have t := tame_of ok
  have q0 : ∀ j, Bd 1125899906842624 (qOf x j) := fun j => by
    by_cases h : j < 21
    · have := t j h
      unfold Bd
      omega
    · have e : qOf x j = qOf x 20 := by unfold qOf; rw [if_neg (by omega), if_neg (by omega)]
      rw [e]
      have := t 20 (by omega)
      unfold Bd
      omega
  have := bd_to _ _ x.ords (filledL (Ex.bidsOf x.ords)) (qOf x) _ q0 sb.1 sb.2 (fun o ho => (ok.ord o ho).2.2) n hn i
  unfold Bd at *
  omega
end Go.Proofs.Ytjfifaooimgbaaa
/- Time goes on. -/
namespace Go.Proofs.Ytjfifaooimgbaaa
open Go.Shelf Go.RowKit Go.Lib Go.Sort

def newTime (x now : Int) : Int := if x < (if 1125899906842624 < now then 1125899906842624 else now) then (if 1125899906842624 < now then 1125899906842624 else now) else x

set_option maxHeartbeats 2000000 in
set_option maxRecDepth 100000 in
theorem setTime_no (w : World) (m : Nat) (s : MkS) (now : Int) (hM : MkAt w m s) (ht : 0 ≤ s.time ∧ s.time ≤ 1125899906842624) (hn : -9223372036854775808 ≤ now ∧ now ≤ 9223372036854775807) (hf : newTime s.time now < s.fin) :
    Calls Try.prog 76 #[.pointer (some ⟨m, 0, none⟩), .int .i64 now] w fun e w' => e = .returned (.tuple #[]) ∧ MkAt w' m { s with time := newTime s.time now } ∧ Onl (· = m) w w' := by
  have mixed : Try.prog.follows .mixedOrders = true := by kernel_rfl
  have C := hM.all
  have c2 := C.c2
  have f2 := C.fr 2
  have HM : Aside (MkAt w m s) := hM
  have e : min (max now s.time) 1125899906842624 = newTime s.time now := by
    unfold newTime
    split <;> split <;> omega
  obtain ⟨T, hT⟩ : ∃ T, T = newTime s.time now := ⟨_, rfl⟩
  rw [← hT] at e hf ⊢
  have M1 : MkAt (w.setCell ⟨m, 2, none⟩ (.int .i64 T)) m { s with time := T } := hM.setTime T
  have HM1 : Aside (MkAt (w.setCell ⟨m, 2, none⟩ (.int .i64 T)) m { s with time := T }) := M1
  have d2 := M1.all.c2
  have d5 := M1.all.c5
  have HO : Aside (Onl (· = m) w (w.setCell ⟨m, 2, none⟩ (.int .i64 T))) := (Onl.refl _ w).set _ _ (Or.inl rfl)
  have hff : decide (s.fin ≤ T) = false := decide_eq_false (by omega)
  clear C hM M1 hT
  go_enter Try.func76, Try.ntmps76
  go_wp2_with fail
  obtain ⟨W, hW⟩ : ∃ W, W = w.setCell ⟨m, 2, none⟩ (.int .i64 T) := ⟨_, rfl⟩
  rw [← hW] at d2 d5 HM1 HO ⊢
  clear hW
  go_still_tail 9, mixed
  go_wp2
  go_end0
  exact ⟨rfl, MkAt.kept HM1.out rfl, HO.out.drew⟩
end Go.Proofs.Ytjfifaooimgbaaa
