import Derived.Test.YtjfifaooimgbaaaSt
import Derived.BigRegion
/- The batch is cleared: the walk up to the loop's end. -/
namespace Go.Proofs.Ytjfifaooimgbaaa
open Go.Shelf Go.RowKit Go.Lib Go.Sort

theorem MkAt.setRes {w : World} {m : Nat} {s : MkS} (h : MkAt w m s) (a b : Nat) (c d : Int) (sh P : Nat) : MkAt ((((((w.setCell ⟨m, 7, none⟩ (.int .i64 (a : Int))).setCell ⟨m, 8, none⟩ (.int .i64 (b : Int))).setCell ⟨m, 9, none⟩ (.int .i64 c)).setCell ⟨m, 10, none⟩ (.int .i64 d)).setCell ⟨m, 11, none⟩ (.int .u64 (sh : Int))).setCell ⟨m, 12, none⟩ (.map (some P))) m { s with prs := a, fls := b, pay := c, get := d, share := sh, bp := P } := by
  unfold MkAt at *
  rw [setCell_heap (setCell_heap (setCell_heap (setCell_heap (setCell_heap (setCell_heap h _ _) _ _) _ _) _ _) _ _) _ _]
  rfl
theorem MkAt.setBatch {w : World} {m : Nat} {s : MkS} (h : MkAt w m s) (n f : Int) : MkAt (((w.setCell ⟨m, 4, none⟩ (.int .i64 n)).setCell ⟨m, 5, none⟩ (.int .i64 f)).setCell ⟨m, 6, none⟩ (.slice none 0 0)) m { s with num := n, fin := f, ov := .slice none 0 0 } := by
  unfold MkAt at *
  rw [setCell_heap (setCell_heap (setCell_heap h _ _) _ _) _ _]
  rfl

theorem AccF.congr {w : World} {b : Nat} {q q' : Nat → A4} (h : AccF w b q) (e : ∀ i, i < 21 → q i = q' i) : AccF w b q' := by
  obtain ⟨f, h1, h2⟩ := h
  exact ⟨f, h1, fun i hi => by rw [h2 i hi, e i hi]⟩
/-- smaller still. -/
def Calm2 (q : Nat → A4) : Prop := ∀ i, i < 21 → (-144115188075855872 ≤ (q i).c ∧ (q i).c ≤ 144115188075855872 ∧ -144115188075855872 ≤ (q i).h ∧ (q i).h ≤ 144115188075855872) ∧ (-144115188075855872 ≤ (q i).u ∧ (q i).u ≤ 144115188075855872 ∧ -144115188075855872 ≤ (q i).k ∧ (q i).k ≤ 144115188075855872)
theorem Calm2.calm {q : Nat → A4} (h : Calm2 q) : Calm q := fun i hi => by have := h i hi; omega
theorem calm_rel (o : Ex.Ord) (q : Nat → A4) (h : Calm2 q) (h2 : o.who < 20 ∧ (o.side = 0 ∨ o.side = 1) ∧ 1 ≤ o.price ∧ o.price < 1000) : Calm (relQ o q) := fun i hi => by
  unfold relQ
  by_cases e : i = o.who
  · subst e
    rw [updA_same]
    have := h o.who hi
    unfold chg stakeOf goodOf
    by_cases hs : o.side = 0
    · simp only [hs, if_true]
      omega
    · simp only [hs, if_false, show ¬ ((1 : Nat) = 0) by decide]
      omega
  · rw [updA_ne _ _ e]
    exact h.calm i hi

theorem trade_o (w : World) (m : Nat) (s : MkS) (q : Nat → A4) (f : Nat → Option Value) (o : Ex.Ord) (hM : MkAt w m s) (hA : AccF w s.ba q) (hP : MapF Try.prog 3 w s.bp 20 f) (hq : Calm q) (ho : o.who < 20) (hpay : 0 ≤ s.pay ∧ s.pay ≤ 1000) (hget : 0 ≤ s.get ∧ s.get ≤ 1000) (hap : s.ba ≠ s.bp) :
    Calls Try.prog 109 #[.pointer (some ⟨m, 0, none⟩), .agg #[.int .i64 (o.who : Int), .int .i64 o.side, .int .i64 o.price]] w fun e w' => e = .returned (.tuple #[]) ∧ AccF w' s.ba (tradeQ o s.pay s.get q) ∧ MapF Try.prog 3 w' s.bp 20 (setF f o.who (.int .i64 (if o.side = 0 then s.pay else s.get))) ∧ OnlAP s w w' := by
  obtain ⟨who, side, price⟩ := o
  by_cases h : side = 0
  · subst h
    exact trade_buy w m s q f who price hM hA hP hq ho hpay hap
  · refine Calls.mono (trade_sell w m s q f who side price h hM hA hP hq ho hget hap) ?_
    rintro e w' ⟨a, b, c, d⟩
    refine ⟨a, b, ?_, d⟩
    dsimp only
    rw [if_neg h]
    exact c

theorem mul_bd (f : Nat) (d : Int) (hf : f ≤ 20) (hd : -1000 ≤ d ∧ d ≤ 1000) : -20000 ≤ (f : Int) * d ∧ (f : Int) * d ≤ 20000 := by
  have h1 : (f : Int) * d ≤ (f : Int) * 1000 := Int.mul_le_mul_of_nonneg_left hd.2 (by omega)
  have h2 : (f : Int) * (-1000) ≤ (f : Int) * d := Int.mul_le_mul_of_nonneg_left hd.1 (by omega)
  omega
/-- a row of the loop: what has been gone through. -/
structure Rnd (W : World) (m P : Nat) (s : MkS) (pay get : Int) (os : List Ex.Ord) (fl : List Bool) (q : Nat → A4) (i : Nat) (wr : World) : Prop where
  acc : AccF wr s.ba (qTo pay get os fl q i)
  prc : MapF Try.prog 3 wr P 20 (fTo pay get os fl i)
  onl : Onl (fun k => k = s.ba ∨ k = P) W wr

set_option maxHeartbeats 8000000 in
set_option maxRecDepth 100000 in
theorem clear_walk (w : World) (m : Nat) (s : MkS) (x : Ex.Xch) (hK : Mkt w m s x) (ok : Ex.Ok x) (hn : x.batch < 1152921504606846976) (hj : x.jr.length ≤ 8796093022208)
    (calm : ∀ n, n ≤ x.ords.length → Calm2 (qTo (setL (Ex.bidsOf x.ords)).2.1 (setL (Ex.bidsOf x.ords)).2.2 x.ords (filledL (Ex.bidsOf x.ords)) (qOf x) n)) :
    Calls Try.prog 91 #[.pointer (some ⟨m, 0, none⟩)] w fun e w' => ∃ s', e = .returned (.tuple #[]) ∧ Mkt w' m s' { Ex.clearX x with jr := x.jr ++ Ex.record x.time [] } ∧ Step m s w s' w' := by
  have mixed : Try.prog.follows .mixedOrders = true := by kernel_rfl
  have len20 : x.ords.length ≤ 20 := by have := ok.len; have := ok.cap; omega
  obtain ⟨l, hl⟩ : ∃ l, l = Ex.bidsOf x.ords := ⟨_, rfl⟩
  have hll : l.length = x.ords.length := by rw [hl]; exact Ex.bids_length _
  obtain ⟨oa, ocp, hov, _, _⟩ := hK.ord.ords
  have C := hK.at_.all
  have c4 := C.c4
  have c5 := C.c5
  have c6 := C.c6
  have HB : Aside (Calls Try.prog 106 #[.agg #[.int .i64 s.num, .int .i64 s.fin, s.ov]] w fun e w' => ∃ a cap, e = .returned (.slice a x.ords.length cap) ∧ BidsAt w' a l ∧ Below w.heap.size w w') := by
    rw [hl]; exact bids_any x.ords s.ov s.num s.fin w hK.ord (by omega)
  have HK : Aside (Mkt w m s x) := hK
  rw [← hl] at calm
  have CALM : Aside _ := calm
  have CR : Aside (∀ (o : Ex.Ord) (q : Nat → A4), Calm2 q → (o.who < 20 ∧ (o.side = 0 ∨ o.side = 1) ∧ 1 ≤ o.price ∧ o.price < 1000) → Calm (relQ o q)) := fun o q h h2 => calm_rel o q h h2
  have HOV : Aside (s.ov = .slice oa x.ords.length ocp) := hov
  have HL : Aside (l.length = x.ords.length) := hll
  have HLL : Aside (l = Ex.bidsOf x.ords) := hl
  clear hK C calm hov hll hl
  go_enter Try.func91, Try.ntmps91
  go_wp2_with fail
  refine Calls.mono (f := 106) HB.out ?_
  rintro e w1 ⟨a, cap, rfl, BD, B1⟩
  have HC : Aside (Calls Try.prog 40 #[.slice a x.ords.length cap] w1 fun e w' => ∃ F, e = .returned (.agg #[.int .i64 (kL l), .int .i64 (setL l).1, .int .i64 (setL l).2.1, .int .i64 (setL l).2.2, .slice (some ⟨F, 0, none⟩) x.ords.length x.ords.length, .int .u64 (shareL l)]) ∧ BoolsAt w' F (filledL l) ∧ w1.heap.size ≤ F ∧ Below w1.heap.size w1 w') := by
    have := clearing_any l a cap w1 BD (by rw [HL.out]; omega)
    rw [HL.out] at this
    exact this
  have BB1 : Aside (Below w.heap.size w w1) := B1
  clear HB BD B1 c4 c5 c6
  go_wp2_with fail
  refine Calls.mono (f := 40) HC.out ?_
  rintro e w2 ⟨F, rfl, BF, hF, B2⟩
  have BB2 : Aside (Below w.heap.size w w2) := BB1.out.trans (B2.mono BB1.out.size)
  have hFl : F < w2.heap.size := BF.lt
  have hF0 : w.heap.size ≤ F := Nat.le_trans BB1.out.size hF
  have HBF : Aside (BoolsAt w2 F (filledL l)) := BF
  clear HC B2 BF hF BB1
  obtain ⟨W3, hW3⟩ : ∃ W3, W3 = w2.alloc (.cells #[.int .i64 ((kL l : Nat) : Int), .int .i64 (((setL l).1 : Nat) : Int), .int .i64 (setL l).2.1, .int .i64 (setL l).2.2, .slice (some ⟨F, 0, none⟩) x.ords.length x.ords.length, .int .u64 ((shareL l : Nat) : Int)] 26) := ⟨_, rfl⟩
  have HR : Aside _ := resultOf_any W3 ((kL l : Nat) : Int) (((setL l).1 : Nat) : Int) (setL l).2.1 (setL l).2.2 (.slice (some ⟨F, 0, none⟩) x.ords.length x.ords.length) (some ⟨F, 0, none⟩) x.ords.length x.ords.length rfl (shareL l)
  go_wp2_with fail
  rw [← hW3]
  refine Calls.mono (f := 86) HR.out ?_
  rintro e w4 ⟨P, rfl, MP, hP, B4⟩
  have sz3 : W3.heap.size = w2.heap.size + 1 := by rw [hW3]; simp
  have yb : W3.heap[w2.heap.size]? = some (.cells #[.int .i64 ((kL l : Nat) : Int), .int .i64 (((setL l).1 : Nat) : Int), .int .i64 (setL l).2.1, .int .i64 (setL l).2.2, .slice (some ⟨F, 0, none⟩) x.ords.length x.ords.length, .int .u64 ((shareL l : Nat) : Int)] 26) := by rw [hW3]; exact heap_alloc_new w2 _
  have b3 : ∀ j, j < w2.heap.size → W3.heap[j]? = w2.heap[j]? := fun j hj => by rw [hW3]; exact Below.heap_alloc w2 _ j hj
  have YB : Aside (w4.heap[w2.heap.size]? = some (.cells #[.int .i64 ((kL l : Nat) : Int), .int .i64 (((setL l).1 : Nat) : Int), .int .i64 (setL l).2.1, .int .i64 (setL l).2.2, .slice (some ⟨F, 0, none⟩) x.ords.length x.ords.length, .int .u64 ((shareL l : Nat) : Int)] 26)) := (B4.block _ (by omega)).trans yb
  have BB4 : Aside (Below w.heap.size w w4) := BB2.out.trans ⟨by rw [B4.os, hW3]; rfl, by rw [B4.tape, hW3]; rfl, by rw [B4.output, hW3]; rfl, by have := B4.size; omega, fun j hj => (B4.block j (by have := BB2.out.size; omega)).trans (b3 j (by have := BB2.out.size; omega))⟩
  have BF4 : Aside (BoolsAt w4 F (filledL l)) := ((B4.block F (by omega)).trans (b3 F hFl)).trans HBF.out
  have K4 := HK.out.below BB4.out
  have C4 := K4.at_.all
  have d6 := C4.c6
  rw [HOV.out] at d6
  have d7 := C4.c7
  have d8 := C4.c8
  have d9 := C4.c9
  have d10 := C4.c10
  have d11 := C4.c11
  have d12 := C4.c12
  have fr := C4.fr
  have HMP : Aside (MapF Try.prog 3 w4 P 20 (fun _ => none)) := MP
  have hwb := BB2.out.size
  have sz4 : w2.heap.size + 1 ≤ w4.heap.size := by have := B4.size; omega
  have HK4 : Aside (Mkt w4 m s x) := K4
  clear hW3 HR MP B4 yb b3 K4 C4
  go_wp2_with fail
  obtain ⟨W5, hW5⟩ : ∃ W5, W5 = (((((w4.setCell ⟨m, 7, none⟩ (.int .i64 ((kL l : Nat) : Int))).setCell ⟨m, 8, none⟩ (.int .i64 (((setL l).1 : Nat) : Int))).setCell ⟨m, 9, none⟩ (.int .i64 (setL l).2.1)).setCell ⟨m, 10, none⟩ (.int .i64 (setL l).2.2)).setCell ⟨m, 11, none⟩ (.int .u64 ((shareL l : Nat) : Int))).setCell ⟨m, 12, none⟩ (.map (some P)) := ⟨_, rfl⟩
  rw [← hW5]
  obtain ⟨s1, hs1⟩ : ∃ s1 : MkS, s1 = { s with prs := kL l, fls := (setL l).1, pay := (setL l).2.1, get := (setL l).2.2, share := shareL l, bp := P } := ⟨_, rfl⟩
  have M5 : MkAt W5 m s1 := by rw [hW5, hs1]; exact HK4.out.at_.setRes _ _ _ _ _ _
  have sz5 : W5.heap.size = w4.heap.size := by rw [hW5]; simp [World.setCell]
  have b5 : ∀ j, j ≠ m → W5.heap[j]? = w4.heap[j]? := fun j hj => by
    rw [hW5, Below.heap_setCell _ _ _ j hj, Below.heap_setCell _ _ _ j hj, Below.heap_setCell _ _ _ j hj, Below.heap_setCell _ _ _ j hj, Below.heap_setCell _ _ _ j hj, Below.heap_setCell _ _ _ j hj]
  have hml : m < w.heap.size := HK.out.at_.lt
  have APT := HK.out.apart
  have A5 : AccF W5 s.ba (qOf x) := HK4.out.acc.kept (b5 _ (fun e => APT.ma e.symm))
  have P5 : MapF Try.prog 3 W5 P 20 (fun _ => none) := HMP.out.kept (b5 _ (by omega))
  have O5 : Aside (Onl (Foot m s) w W5) := by
    have o4 : Onl (Foot m s) w w4 := (Onl.refl _ w).below BB4.out
    show Onl _ _ _
    rw [hW5]
    exact (((((o4.set _ _ (Or.inl (Or.inl rfl))).set _ _ (Or.inl (Or.inl rfl))).set _ _ (Or.inl (Or.inl rfl))).set _ _ (Or.inl (Or.inl rfl))).set _ _ (Or.inl (Or.inl rfl))).set _ _ (Or.inl (Or.inl rfl))
  have YB5 : Aside (W5.heap[w2.heap.size]? = some (.cells #[.int .i64 ((kL l : Nat) : Int), .int .i64 (((setL l).1 : Nat) : Int), .int .i64 (setL l).2.1, .int .i64 (setL l).2.2, .slice (some ⟨F, 0, none⟩) x.ords.length x.ords.length, .int .u64 ((shareL l : Nat) : Int)] 26)) := (b5 _ (by omega)).trans YB.out
  have BF5 : Aside (BoolsAt W5 F (filledL l)) := (b5 F (by omega)).trans BF4.out
  have OR5 : Aside (ORow W5 (.slice oa x.ords.length ocp) x.ords) := by
    have := HK4.out.ord
    rw [HOV.out] at this
    exact this.kept (fun j hj => b5 j (fun e => by subst e; exact APT.om (by rw [HOV.out]; exact hj)))
  have HM5 : Aside (MkAt W5 m s1) := M5
  have J5 : Aside (BRow W5 s.jv x.jr) := HK4.out.jrn.kept (fun j hj => b5 j (fun e => by subst e; exact APT.jm hj))
  have R0 : Aside (Rnd W5 m P s (setL l).2.1 (setL l).2.2 x.ords (filledL l) (qOf x) 0 W5) := ⟨A5, P5, Onl.refl _ _⟩
  have HAPT : Aside (Apart m s) := APT
  have nPa : P ≠ s.ba := fun e => by have := HK.out.acc.lt; omega
  have nPm : P ≠ m := by omega
  have hbl := HK.out.acc.lt
  have hS1 : Aside (s1 = { s with prs := kL l, fls := (setL l).1, pay := (setL l).2.1, get := (setL l).2.2, share := shareL l, bp := P }) := hs1
  have hfl : (filledL l).length = x.ords.length := (filledL_length l).trans HL.out
  have HFL : Aside ((filledL l).length = x.ords.length) := hfl
  have hsb := set_bd l
  have HSB : Aside _ := hsb
  have szw : w2.heap.size + 1 ≤ W5.heap.size := by omega
  have hPl : P < W5.heap.size := P5.lt
  clear d6 d7 d8 d9 d10 d11 d12 fr hW5 hs1 M5 b5 A5 P5 APT BB2 BB4 HMP YB BF4 HBF HK4 hfl hsb sz5
  go_loopg [24] x.ords.length (fun kx t wr => ∃ (i : Nat), t = .int .i64 i ∧ i ≤ x.ords.length ∧ x.ords.length - i ≤ kx ∧ Aside (Rnd W5 m P s (setL l).2.1 (setL l).2.2 x.ords (filledL l) (qOf x) i wr))
  case atStart => exact ⟨0, rfl, Nat.zero_le _, by omega, R0⟩
  case round =>
    clear R0
    obtain ⟨i, rfl, hi, hkx, RN⟩ := hrel
    have ON := RN.out.onl
    have bw : ∀ j, j < W5.heap.size → j ≠ s.ba → j ≠ P → wr.heap[j]? = W5.heap[j]? := fun j hj h1 h2 => ON.block j hj (fun h => h.elim h1 h2)
    by_cases hlt : i < x.ords.length
    · have hltz : (i : Int) < (x.ords.length : Int) := by omega
      have hmW : m < W5.heap.size := HM5.out.lt
      have ORr : ORow wr (.slice oa x.ords.length ocp) x.ords := OR5.out.kept (fun j hj => bw j (OR5.out.lt hj) (fun e => by subst e; exact HAPT.out.oa (by rw [HOV.out]; exact hj)) (fun e => by
        have := HK.out.ord.lt (k := j) (by rw [HOV.out]; exact hj)
        omega))
      obtain ⟨oa', ocp', ho1, hords, _⟩ := ORr.ords
      injection ho1 with ho1 ho2 ho3
      subst ho1
      subst ho3
      clear ho2
      obtain ⟨g, hg, _, o0, o1, o2⟩ := hords i hlt
      subst hg
      have OO := ok.ord _ (Ex.getD_mem x.ords hlt)
      have Mr : MkAt wr m s1 := HM5.out.kept (bw m hmW HAPT.out.ma (fun e => nPm e.symm))
      have Yr := (bw w2.heap.size (by omega) (by omega) (by omega)).trans YB5.out
      have Fr := (bw F (by omega) (by omega) (by omega)).trans BF5.out
      have EQ1 : Aside (qTo (setL l).2.1 (setL l).2.2 x.ords (filledL l) (qOf x) (i + 1) = stepQ (setL l).2.1 (setL l).2.2 (x.ords.getD i ⟨0, 0, 0⟩) ((filledL l).getD i false) (qTo (setL l).2.1 (setL l).2.2 x.ords (filledL l) (qOf x) i)) := rfl
      have EF1 : Aside (fTo (setL l).2.1 (setL l).2.2 x.ords (filledL l) (i + 1) = if (filledL l).getD i false = true then setF (fTo (setL l).2.1 (setL l).2.2 x.ords (filledL l) i) (x.ords.getD i ⟨0, 0, 0⟩).who (.int .i64 (if (x.ords.getD i ⟨0, 0, 0⟩).side = 0 then (setL l).2.1 else (setL l).2.2)) else fTo (setL l).2.1 (setL l).2.2 x.ords (filledL l) i) := rfl
      have calm := CALM.out i hi
      have accr := RN.out.acc
      have prcr := RN.out.prc
      have szr : W5.heap.size ≤ wr.heap.size := ON.size
      generalize x.ords.getD i ⟨0, 0, 0⟩ = o at *
      generalize hfi : (filledL l).getD i false = fi at *
      generalize qTo (setL l).2.1 (setL l).2.2 x.ords (filledL l) (qOf x) i = qi at *
      generalize fTo (setL l).2.1 (setL l).2.2 x.ords (filledL l) i = fi0 at *
      have HFC : Aside (wr.cell? ⟨F, i, none⟩ = some (.bool fi)) := by
        have := BoolsAt.cell (w := wr) (F := F) (fl := filledL l) Fr (i := i) (by rw [HFL.out]; exact hlt)
        rw [hfi] at this
        exact this
      have HYR : Aside _ := Yr
      have HMR : Aside (MkAt wr m s1) := Mr
      have HACC : Aside (AccF wr s.ba qi) := accr
      have HPRC : Aside (MapF Try.prog 3 wr P 20 fi0) := prcr
      have HON : Aside (Onl (fun k => k = s.ba ∨ k = P) W5 wr) := ON
      have HCALM : Aside (Calm2 qi) := calm
      have HOO : Aside _ := OO
      have HS : Aside (Calls Try.prog 107 #[.agg #[.int .i64 (o.who : Int), .int .i64 o.side, .int .i64 o.price]] (wr.alloc (.cells #[.int .i64 (o.who : Int), .int .i64 o.side, .int .i64 o.price] 171)) fun e w' => e = .returned (.tuple #[.int .i64 (goodOf o.side : Nat), .int .i64 (stakeOf o)]) ∧ Below (wr.alloc (.cells #[.int .i64 (o.who : Int), .int .i64 o.side, .int .i64 o.price] 171)).heap.size (wr.alloc (.cells #[.int .i64 (o.who : Int), .int .i64 o.side, .int .i64 o.price] 171)) w') := stake_any o _
      have gd : goodOf o.side < 2 := by unfold goodOf; split <;> decide
      have sk : sml (stakeOf o) := by
        unfold stakeOf
        split
        · exact ⟨by omega, by omega⟩
        · exact ⟨by decide, by decide⟩
      clear ORr hords Mr Yr Fr RN ON bw accr prcr calm OO hfi
      go_wp2_with fail
      refine Calls.mono (f := 107) HS.out ?_
      rintro e w6 ⟨rfl, B6⟩
      have e6 : (wr.alloc (.cells #[.int .i64 (o.who : Int), .int .i64 o.side, .int .i64 o.price] 171)).heap.size = wr.heap.size + 1 := by simp
      have b6 : ∀ j, j < wr.heap.size → w6.heap[j]? = wr.heap[j]? := fun j hj => (B6.block j (by omega)).trans (Below.heap_alloc wr _ j hj)
      have zb : w6.heap[wr.heap.size]? = some (.cells #[.int .i64 (o.who : Int), .int .i64 o.side, .int .i64 o.price] 171) := (B6.block _ (by omega)).trans (heap_alloc_new wr _)
      have sz6 : wr.heap.size + 1 ≤ w6.heap.size := by have := B6.size; omega
      have z0 : w6.cell? ⟨wr.heap.size, 0, none⟩ = some (.int .i64 (o.who : Int)) := by simp [World.cell?, zb]
      have M6 : MkAt w6 m s1 := HMR.out.kept (b6 m (by omega))
      have m3 : w6.cell? ⟨m, 3, none⟩ = some (.map (some s.ba)) := by
        have := M6.all.c3
        rw [hS1.out] at this
        exact this
      have A6 : AccF w6 s.ba qi := HACC.out.kept (b6 _ HACC.out.lt)
      have P6 : MapF Try.prog 3 w6 P 20 fi0 := HPRC.out.kept (b6 _ HPRC.out.lt)
      have O6 : Onl (fun k => k = s.ba ∨ k = P) W5 w6 := HON.out.below ⟨by rw [B6.os]; rfl, by rw [B6.tape]; rfl, by rw [B6.output]; rfl, by omega, b6⟩
      have HR : Aside _ := release_any w6.drew s.ba qi o.who (goodOf o.side) (stakeOf o) (A6.kept (w' := w6.drew) rfl) (by have := HOO.out.1; omega) gd (HCALM.out.calm.ok (by have := HOO.out.1; omega)) sk
      have HM6 : Aside (MkAt w6 m s1) := M6
      have HZB : Aside (w6.heap[wr.heap.size]? = some (.cells #[.int .i64 (o.who : Int), .int .i64 o.side, .int .i64 o.price] 171 (0, 0))) := zb
      have HP6 : Aside (MapF Try.prog 3 w6 P 20 fi0) := P6
      have HO6 : Aside (Onl (fun k => k = s.ba ∨ k = P) W5 w6) := O6
      have HFC6 : Aside (w6.cell? ⟨F, i, none⟩ = some (.bool fi)) := (World.cell?_of_block (a := ⟨F, i, none⟩) (b6 F (by omega))).trans HFC.out
      have HY6 : Aside _ := (b6 w2.heap.size (by omega)).trans HYR.out
      clear HS B6 b6 zb M6 A6 P6 O6 HMR HACC HPRC HON HFC HYR o0 o1 o2
      go_wp2_with fail
      go_still_tail 8, mixed
      go_wp2_with fail
      refine Calls.mono (f := 108) HR.out ?_
      rintro e w7 ⟨rfl, A7, O7⟩
      have b7 : ∀ j, j < w6.heap.size → j ≠ s.ba → w7.heap[j]? = w6.heap[j]? := fun j hj hne => O7.block j hj hne
      have sz7 : w6.heap.size ≤ w7.heap.size := O7.size
      have nza : wr.heap.size ≠ s.ba := by omega
      have yy := (b7 w2.heap.size (by omega) (by omega)).trans HY6.out
      have y4 : w7.cell? ⟨w2.heap.size, 4, none⟩ = some (.slice (some ⟨F, 0, none⟩) x.ords.length x.ords.length) := by simp [World.cell?, yy]
      have fc : w7.cell? ⟨F, i, none⟩ = some (.bool fi) := (World.cell?_of_block (a := ⟨F, i, none⟩) (b7 F (by omega) (by omega))).trans HFC6.out
      have zz := (b7 wr.heap.size (by omega) nza).trans HZB.out
      have z0 : w7.cell? ⟨wr.heap.size, 0, none⟩ = some (.int .i64 (o.who : Int)) := by simp [World.cell?, zz]
      have z1 : w7.cell? ⟨wr.heap.size, 1, none⟩ = some (.int .i64 o.side) := by simp [World.cell?, zz]
      have z2 : w7.cell? ⟨wr.heap.size, 2, none⟩ = some (.int .i64 o.price) := by simp [World.cell?, zz]
      have HA7 : Aside (AccF w7 s.ba (relQ o qi)) := A7
      have HM7 : Aside (MkAt w7 m s1) := HM6.out.kept (b7 m (by omega) HAPT.out.ma)
      have HP7 : Aside (MapF Try.prog 3 w7 P 20 fi0) := HP6.out.kept (b7 P (by omega) nPa)
      have HO7 : Aside (Onl (fun k => k = s.ba ∨ k = P) W5 w7) := HO6.out.drew.trans O7 (fun j hj => Or.inl (Or.inl hj))
      clear HR A7 O7 b7 yy zz m3 HM6 HZB HP6 HO6 HFC6 HY6
      cases fi with
      | false =>
        have R1 : Aside (Rnd W5 m P s (setL l).2.1 (setL l).2.2 x.ords (filledL l) (qOf x) (i + 1) w7) := ⟨by rw [EQ1.out]; exact HA7.out, by rw [EF1.out]; exact HP7.out, HO7.out⟩
        go_wp2
        go_roundg (x.ords.length - (i + 1))
        case measure => omega
        case rel => exact ⟨i + 1, by go_num, by omega, Nat.le_refl _, R1⟩
      | true =>
        have HT : Aside (Calls Try.prog 109 #[.pointer (some ⟨m, 0, none⟩), .agg #[.int .i64 (o.who : Int), .int .i64 o.side, .int .i64 o.price]] w7 fun e w' => e = .returned (.tuple #[]) ∧ AccF w' s.ba (tradeQ o (setL l).2.1 (setL l).2.2 (relQ o qi)) ∧ MapF Try.prog 3 w' P 20 (setF fi0 o.who (.int .i64 (if o.side = 0 then (setL l).2.1 else (setL l).2.2))) ∧ Onl (fun k => k = s.ba ∨ k = P) w7 w') := by
          have cm : Calm (relQ o qi) := CR.out o qi HCALM.out HOO.out
          have hM := HM7.out
          have := trade_o w7 m s1 (relQ o qi) fi0 o hM (by rw [hS1.out]; exact HA7.out) (by rw [hS1.out]; exact HP7.out) cm HOO.out.1 (by rw [hS1.out]; exact HSB.out.1) (by rw [hS1.out]; exact HSB.out.2) (by rw [hS1.out]; exact fun e => nPa e.symm)
          rw [hS1.out] at this
          exact this
        go_wp2_with fail
        refine Calls.mono (f := 109) HT.out ?_
        rintro e w8 ⟨rfl, A8, P8, O8⟩
        have R1 : Aside (Rnd W5 m P s (setL l).2.1 (setL l).2.2 x.ords (filledL l) (qOf x) (i + 1) w8) := ⟨by rw [EQ1.out]; exact A8, by rw [EF1.out]; exact P8, HO7.out.trans O8 (fun j hj => Or.inl hj)⟩
        clear A8 P8 O8 HT
        go_wp2
        go_roundg (x.ords.length - (i + 1))
        case measure => omega
        case rel => exact ⟨i + 1, by go_num, by omega, Nat.le_refl _, R1⟩
    · obtain rfl : i = x.ords.length := by omega
      have hltz : ¬ (x.ords.length : Int) < (x.ords.length : Int) := by omega
      have hmW : m < W5.heap.size := HM5.out.lt
      have Mr : MkAt wr m s1 := HM5.out.kept (bw m hmW HAPT.out.ma (fun e => nPm e.symm))
      have Yr := (bw w2.heap.size (by omega) (by omega) (by omega)).trans YB5.out
      have m3 : wr.cell? ⟨m, 3, none⟩ = some (.map (some s.ba)) := by
        have := Mr.all.c3
        rw [hS1.out] at this
        exact this
      have y1 : wr.cell? ⟨w2.heap.size, 1, none⟩ = some (.int .i64 (((setL l).1 : Nat) : Int)) := by simp [World.cell?, Yr]
      have y2 : wr.cell? ⟨w2.heap.size, 2, none⟩ = some (.int .i64 (setL l).2.1) := by simp [World.cell?, Yr]
      have y3 : wr.cell? ⟨w2.heap.size, 3, none⟩ = some (.int .i64 (setL l).2.2) := by simp [World.cell?, Yr]
      have szr : W5.heap.size ≤ wr.heap.size := ON.size
      have hf20 : (setL l).1 ≤ 20 := by
        have h1 := setL_le l
        have h2 := (kL_le l).1
        have h3 := buyers_le l
        have h4 := HL.out
        omega
      have mb := mul_bd (setL l).1 ((setL l).2.1 - (setL l).2.2) hf20 (by have := HSB.out; omega)
      obtain ⟨mb1, mb2⟩ := mb
      obtain ⟨⟨pb1, pb2⟩, pb3, pb4⟩ := HSB.out
      have HCALM : Aside (Calm (qTo (setL l).2.1 (setL l).2.2 x.ords (filledL l) (qOf x) x.ords.length)) := (CALM.out x.ords.length (Nat.le_refl _)).calm
      have HPut : Aside _ := put_any wr.drew s.ba _ 20 0 ((((setL l).1 : Nat) : Int) * ((setL l).2.1 - (setL l).2.2)) (RN.out.acc.kept (w' := wr.drew) rfl) (by decide) (by decide) (Calm.ok HCALM.out (by decide)) ⟨by omega, by omega⟩
      have HPRC : Aside (MapF Try.prog 3 wr P 20 (fTo (setL l).2.1 (setL l).2.2 x.ords (filledL l) x.ords.length)) := RN.out.prc
      have HON : Aside (Onl (fun k => k = s.ba ∨ k = P) W5 wr) := ON
      have HMR : Aside (MkAt wr m s1) := Mr
      clear Mr Yr RN ON bw
      go_wp2_with fail
      go_still_tail 12, mixed
      go_wp2_with fail
      refine Calls.mono (f := 110) HPut.out ?_
      rintro e w9 ⟨rfl, A9, O9⟩
      have M9 : MkAt w9 m s1 := HMR.out.kept (O9.block m (by show m < wr.heap.size; omega) HAPT.out.ma)
      have P9 : MapF Try.prog 3 w9 P 20 (fTo (setL l).2.1 (setL l).2.2 x.ords (filledL l) x.ords.length) := MapF.kept HPRC.out (O9.block P (by show P < wr.heap.size; omega) nPa)
      have O59 : Aside (Onl (fun k => k = s.ba ∨ k = P) W5 w9) := HON.out.drew.trans O9 (fun j hj => Or.inl (Or.inl hj))
      have C9 := M9.all
      have g0 : w9.cell? ⟨m, 0, none⟩ = some (.int .i64 s.per) := by have := C9.c0; rw [hS1.out] at this; exact this
      have g2 : w9.cell? ⟨m, 2, none⟩ = some (.int .i64 s.time) := by have := C9.c2; rw [hS1.out] at this; exact this
      have g4 : w9.cell? ⟨m, 4, none⟩ = some (.int .i64 s.num) := by have := C9.c4; rw [hS1.out] at this; exact this
      have g5 : w9.cell? ⟨m, 5, none⟩ = some (.int .i64 s.fin) := by have := C9.c5; rw [hS1.out] at this; exact this
      have g6 : w9.cell? ⟨m, 6, none⟩ = some (.slice oa x.ords.length ocp) := by have := C9.c6; rw [hS1.out] at this; rw [this]; exact congrArg some HOV.out
      have fr := C9.fr
      have HA9 : Aside (AccF w9 s.ba (updA (qTo (setL l).2.1 (setL l).2.2 x.ords (filledL l) (qOf x) x.ords.length) 20 (chg 0 ((((setL l).1 : Nat) : Int) * ((setL l).2.1 - (setL l).2.2)) 0 (qTo (setL l).2.1 (setL l).2.2 x.ords (filledL l) (qOf x) x.ords.length 20)))) := A9
      have HM9 : Aside (MkAt w9 m s1) := M9
      have HP9 : Aside (MapF Try.prog 3 w9 P 20 (fTo (setL l).2.1 (setL l).2.2 x.ords (filledL l) x.ords.length)) := P9
      have nb1 : 1 ≤ s.num := by have := HK.out.num; have := ok.batch; omega
      have nb2 : s.num < 1152921504606846976 := by have := HK.out.num; omega
      have tb1 : 0 ≤ s.time ∧ s.time ≤ 1125899906842624 := by have := HK.out.time; have := ok.time; omega
      have pr1 : 1 ≤ s.per ∧ s.per ≤ 1125899906842624 := by have := HK.out.per; have := ok.per; omega
      obtain ⟨tb1, tb2⟩ := tb1
      obtain ⟨pr1, pr2⟩ := pr1
      clear A9 O9 M9 P9 C9 HPut HPRC HON HMR m3 y1 y2 y3 mb1 mb2
      go_wp2_with fail
      go_region
      all_goals go_wp2_with fail
      obtain ⟨W12, hW12⟩ : ∃ W12, W12 = (((w9.setCell ⟨m, 4, none⟩ (.int .i64 (s.num + 1))).setCell ⟨m, 5, none⟩ (.int .i64 (s.time + s.per))).setCell ⟨m, 6, none⟩ (.slice none 0 0)).drew := ⟨_, rfl⟩
      rw [← hW12]
      have M12 : MkAt W12 m { s1 with num := s.num + 1, fin := s.time + s.per, ov := .slice none 0 0 } := by rw [hW12]; exact MkAt.kept (HM9.out.setBatch _ _) rfl
      have b12 : ∀ j, j ≠ m → W12.heap[j]? = w9.heap[j]? := fun j hj => by
        rw [hW12]
        show (((w9.setCell _ _).setCell _ _).setCell _ _).heap[j]? = _
        rw [Below.heap_setCell _ _ _ j hj, Below.heap_setCell _ _ _ j hj, Below.heap_setCell _ _ _ j hj]
      have sz12 : W12.heap.size = w9.heap.size := by rw [hW12]; simp [World.setCell, World.drew]
      have O12 : Onl (Foot m s) w W12 := by
        have o9 : Onl (Foot m s) w w9 := O5.out.trans O59.out (fun j hj => by
          rcases hj with rfl | rfl
          · exact Or.inl (Or.inr (Or.inl rfl))
          · exact Or.inr (by omega))
        rw [hW12]
        exact (((o9.set _ _ (Or.inl (Or.inl rfl))).set _ _ (Or.inl (Or.inl rfl))).set _ _ (Or.inl (Or.inl rfl))).drew
      have szA : W5.heap.size ≤ w9.heap.size := O59.out.size
      have J12 : BRow W12 s.jv x.jr := J5.out.kept (fun j hj => (b12 j (fun e => by subst e; exact HAPT.out.jm hj)).trans (O59.out.block j (J5.out.lt hj) (fun h => by
        rcases h with rfl | rfl
        · exact HAPT.out.ja hj
        · have := HK.out.jrn.lt hj
          omega)))
      have A12 : AccF W12 s.ba _ := HA9.out.kept (b12 _ (fun e => HAPT.out.ma e.symm))
      have P12 : MapF Try.prog 3 W12 P 20 _ := HP9.out.kept (b12 _ nPm)
      have jvm : s.jv.ownBlock ≠ some m := HAPT.out.jm
      obtain ⟨tn, htn⟩ := Int.eq_ofNat_of_zero_le tb1
      have hjv1 : ({ s1 with num := s.num + 1, fin := s.time + s.per, ov := .slice none 0 0 } : MkS).jv = s.jv := by rw [hS1.out]
      have htm1 : ({ s1 with num := s.num + 1, fin := s.time + s.per, ov := .slice none 0 0 } : MkS).time = (tn : Int) := by rw [hS1.out]; exact htn
      have HWr : Aside _ := write_any W12 m { s1 with num := s.num + 1, fin := s.time + s.per, ov := .slice none 0 0 } x.jr [] tn M12 (by rw [hjv1]; exact J12) (by rw [hjv1]; exact jvm) htm1 (by omega) (by decide) (by omega)
      have HO12 : Aside (Onl (Foot m s) w W12) := O12
      have HA12 : Aside (AccF W12 s.ba (qOf { Ex.clearX x with jr := x.jr ++ Ex.record x.time [] })) := AccF.congr A12 (by rw [HLL.out]; exact q_clear ok _)
      have HP12 : Aside (MapF Try.prog 3 W12 P 20 (prOf { Ex.clearX x with jr := x.jr ++ Ex.record x.time [] })) := by
        show MapF _ _ _ _ _ _
        rw [← f_clear x, ← HLL.out]; exact P12
      have HJV : Aside _ := hjv1
      clear hW12 M12 b12 O12 J12 A12 P12 g0 g2 g4 g5 g6 fr htm1 hjv1
      refine Calls.mono (f := 95) HWr.out ?_
      rintro e w13 ⟨v, rfl, M13, J13, O13, L13⟩
      go_wp2
      go_end0
      rw [HJV.out] at O13 L13
      have nv : ∀ j, j < w9.heap.size → j ≠ m → s.jv.ownBlock ≠ some j → w13.heap[j]? = W12.heap[j]? := fun j hj h1 h2 => O13.block j (by omega) (fun h => h.elim h1 h2)
      have hw5 : w.heap.size ≤ W12.heap.size := HO12.out.size
      have e1 := hS1.out
      subst e1
      have Xt : x.time.toNat = tn := by have := HK.out.time; omega
      refine ⟨_, rfl, { at_ := M13, acc := ?_, ord := ORow.nil _, prc := ?_, jrn := ?_, nap := fun e => nPa e.symm, per := HK.out.per, cap := HK.out.cap, time := HK.out.time, num := ?_, fin := ?_, last := ?_, prs := ?_, fls := ?_, pay := ?_, get := ?_, share := ?_ }, ⟨HO12.out.trans O13 (fun j hj => Or.inl (by
        rcases hj with rfl | hj
        · exact Or.inl rfl
        · exact Or.inr (Or.inr (Or.inr (Or.inr hj))))), fun j hj => ?_, rfl⟩⟩
      · exact HA12.out.kept (nv _ (by have := HA12.out.lt; omega) (fun e => HAPT.out.ma e.symm) HAPT.out.ja)
      · exact HP12.out.kept (nv _ (by have := HP12.out.lt; omega) nPm (fun e => by have := HK.out.jrn.lt e; omega))
      · show BRow w13 v (x.jr ++ Ex.record x.time [])
        have : Ex.record x.time [] = recB tn [] := by unfold Ex.record recB; rw [Xt]
        rw [this]
        exact J13
      · show s.num + 1 = x.batch + 1
        have := HK.out.num
        omega
      · show s.time + s.per = x.time + x.period
        have := HK.out.time
        have := HK.out.per
        omega
      · show x.batch = x.batch + 1 - 1
        omega
      · show kL l = kL (Ex.bidsOf x.ords)
        rw [HLL.out]
      · show (setL l).1 = (setL (Ex.bidsOf x.ords)).1
        rw [HLL.out]
      · show (setL l).2.1 = (setL (Ex.bidsOf x.ords)).2.1
        rw [HLL.out]
      · show (setL l).2.2 = (setL (Ex.bidsOf x.ords)).2.2
        rw [HLL.out]
      · show shareL l = shareL (Ex.bidsOf x.ords)
        rw [HLL.out]
      · rcases hj with rfl | rfl | rfl | hj | hj
        · exact Or.inl (Or.inl rfl)
        · exact Or.inl (Or.inr (Or.inl rfl))
        · exact Or.inr (by show w.heap.size ≤ _; omega)
        · simp [Value.ownBlock] at hj
        · rcases L13.own j hj with h | h
          · exact Or.inl (Or.inr (Or.inr (Or.inr (Or.inr h))))
          · exact Or.inr (by omega)

/-- THE BATCH IS CLEARED. -/
theorem clearBatch_any (w : World) (m : Nat) (s : MkS) (x : Ex.Xch) (hK : Mkt w m s x) (ok : Ex.Ok x) (hn : x.batch < 1152921504606846976) (hj : x.jr.length ≤ 8796093022208) :
    Calls Try.prog 91 #[.pointer (some ⟨m, 0, none⟩)] w fun e w' => ∃ s', e = .returned (.tuple #[]) ∧ Mkt w' m s' { Ex.clearX x with jr := x.jr ++ Ex.record x.time [] } ∧ Step m s w s' w' :=
  clear_walk w m s x hK ok hn hj (fun n h i hi => by
    have := calm_clear ok n h i hi
    unfold Bd at this
    omega)
end Go.Proofs.Ytjfifaooimgbaaa
