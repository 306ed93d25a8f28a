import Derived.Test.YtjfifaooimgbaaaLc
/- Lasting: the walk. -/
namespace Go.Proofs.Ytjfifaooimgbaaa
open Go.Shelf Go.RowKit Go.Lib Go.Sort

def lensTo (P C : Int) (l : List (Int × Int × Int)) (i : Nat) : List Nat := (List.range (i + 1)).map (fun j => (runX P C l j).1.jr.length)
def shotsTo (P C : Int) (l : List (Int × Int × Int)) (i : Nat) : List (List UInt8) := (List.range (i + 1)).map (fun j => shownX (runX P C l j).1)
theorem lens_next (P C : Int) (l : List (Int × Int × Int)) (i : Nat) : lensTo P C l (i + 1) = lensTo P C l i ++ [(runX P C l (i + 1)).1.jr.length] := by
  unfold lensTo
  rw [List.range_succ, List.map_append]
  rfl
theorem shots_next (P C : Int) (l : List (Int × Int × Int)) (i : Nat) : shotsTo P C l (i + 1) = shotsTo P C l i ++ [shownX (runX P C l (i + 1)).1] := by
  unfold shotsTo
  rw [List.range_succ, List.map_append]
  rfl

set_option maxHeartbeats 8000000 in
set_option maxRecDepth 100000 in
theorem lasting_any (period batch cut mK mW mN : Int) (hp : I64 period) (hb : I64 batch) (hcut : I64 cut) (hmK : I64 mK) (hmW : I64 mW) (hmN : I64 mN) (l : List (Int × Int × Int)) (a : Option Addr) (cap : Nat) (w : World) (hM : MovesAt w a l) (hw : ∀ i, i < l.length → I64 (l.getD i (0, 0, 0)).1 ∧ I64 (l.getD i (0, 0, 0)).2.1 ∧ I64 (l.getD i (0, 0, 0)).2.2) (hl : l.length ≤ 1048576) :
    Calls Try.prog 12 #[.int .i64 period, .int .i64 batch, .slice a l.length cap, .int .i64 cut, .agg #[.int .i64 mK, .int .i64 mW, .int .i64 mN]] w fun e w' => e = .returned (.bool true) ∧ Below w.heap.size w w' := by
  have mixed : Try.prog.follows .mixedOrders = true := by kernel_rfl
  have HM : Aside (MovesAt w a l) := hM
  clear hM
  obtain ⟨W0, hW0⟩ : ∃ W0, W0 = w.alloc (.cells #[.int .i64 mK, .int .i64 mW, .int .i64 mN] 54) := ⟨_, rfl⟩
  have BW0 : Aside (Below w.heap.size w W0) := by rw [hW0]; exact (Below.refl _ w).alloc (Nat.le_refl _) _
  have hsz0 : w.heap.size < W0.heap.size := by rw [hW0]; simp
  have mr : Aside (W0.heap[w.heap.size]? = some (.cells #[.int .i64 mK, .int .i64 mW, .int .i64 mN] 54 (0, 0))) := by rw [hW0]; exact heap_alloc_new w _
  go_enter Try.func12, Try.ntmps12
  go_wp2_with fail
  rw [← hW0]
  clear hW0
  refine (opened_any exch period batch hp hb W0).mono ?_
  rintro e w0 ⟨f, p, S0, rfl, F0, R0, nS0, hfw, s0, B0⟩
  have l1 := pickN_lt period 100 (by decide)
  have l2 := pickN_lt batch 20 (by decide)
  have HP : Aside (∀ W, Calls Try.prog 23 #[.int .i64 period, .int .i64 100] W fun e w' => e = .returned (.int .i64 (pickN period 100 : Nat)) ∧ w' = W) := fun W => pick_any period 100 W (by decide) (by decide) hp.1 hp.2
  have HC : Aside (∀ W, Calls Try.prog 23 #[.int .i64 batch, .int .i64 20] W fun e w' => e = .returned (.int .i64 (pickN batch 20 : Nat)) ∧ w' = W) := fun W => pick_any batch 20 W (by decide) (by decide) hb.1 hb.2
  obtain ⟨pn, hpn⟩ : ∃ n, pickN period 100 = n := ⟨_, rfl⟩
  obtain ⟨bn, hbn⟩ : ∃ n, pickN batch 20 = n := ⟨_, rfl⟩
  rw [hpn] at HP l1 R0
  rw [hbn] at HC l2 R0
  clear hpn hbn
  have RK : Aside (∀ i, RunOk (1 + (pn : Nat)) (1 + (bn : Nat)) (runX (1 + (pn : Nat)) (1 + (bn : Nat)) l i).1 (runX (1 + (pn : Nat)) (1 + (bn : Nat)) l i).2 i) := runX_ok (by omega) (by omega) l
  have FA0 : Aside (FlA w0 (fun k => S0 k ∨ k = f) f p 0 1000 0 (begunX (1 + (pn : Nat)) (1 + (bn : Nat)))) := ⟨S0, ⟨F0, R0, nS0⟩, fun k => Iff.rfl⟩
  have LW0 : Aside (∀ k, (S0 k ∨ k = f) → W0.heap.size ≤ k ∧ k < w0.heap.size) := fun k hk => by
    refine ⟨?_, FA0.out.lt k hk⟩
    rcases hk with h | rfl
    · exact s0 k h
    · exact hfw
  have sz00 : W0.heap.size ≤ w0.heap.size := B0.size
  have B00 : Aside (Below w.heap.size w w0) := blw_tr BW0.out B0
  have MR0 : Aside (w0.heap[w.heap.size]? = some (.cells #[.int .i64 mK, .int .i64 mW, .int .i64 mN] 54 (0, 0))) := (B0.block _ hsz0).trans mr.out
  have f0 := FA0.out.cell0
  clear F0 R0 nS0 s0 B0 BW0 mr
  go_wp2_with fail
  refine Calls.mono (f := 23) (HP.out _) ?_
  rintro e w1 ⟨rfl, hw1⟩
  rw [hw1]
  clear hw1 w1
  go_wp2_with fail
  refine Calls.mono (f := 23) (HC.out _) ?_
  rintro e w1 ⟨rfl, hw1⟩
  rw [hw1]
  clear hw1 w1 HP HC
  obtain ⟨W1, hW1⟩ : ∃ W1, W1 = w0.alloc (.cells #[.int .i64 (1 + (pn : Nat)), .int .i64 (1 + (bn : Nat))] 68) := ⟨_, rfl⟩
  have bW1 : Below w0.heap.size w0 W1 := by rw [hW1]; exact (Below.refl _ w0).alloc (Nat.le_refl _) _
  have hszc : w0.heap.size < W1.heap.size := by rw [hW1]; simp
  have MC1 : Aside (W1.heap[w0.heap.size]? = some (.cells #[.int .i64 (1 + (pn : Nat)), .int .i64 (1 + (bn : Nat))] 68 (0, 0))) := by rw [hW1]; exact heap_alloc_new w0 _
  have hmw : w.heap.size < w0.heap.size := (Array.getElem?_eq_some_iff.1 MR0.out).1
  have MR1 : Aside (W1.heap[w.heap.size]? = some (.cells #[.int .i64 mK, .int .i64 mW, .int .i64 mN] 54 (0, 0))) := (bW1.block _ hmw).trans MR0.out
  have FA1 : Aside (FlA W1 (fun k => S0 k ∨ k = f) f p 0 1000 0 (begunX (1 + (pn : Nat)) (1 + (bn : Nat)))) := FA0.out.keep (fun k hk => bW1.block k (FA0.out.lt k hk))
  have B11 : Aside (Below w.heap.size w W1) := blw_tr B00.out bW1
  have g0 : (w0.alloc (.cells #[.int .i64 (1 + (pn : Nat)), .int .i64 (1 + (bn : Nat))] 68)).cell? ⟨f, 0, none⟩ = some (.pointer (some ⟨p, 0, none⟩)) := by rw [← hW1]; exact FA1.out.cell0
  have HJ : Aside _ := fla_journal FA1.out
  clear bW1 FA0 MR0 B00 f0
  go_wp2_with fail
  rw [← hW1]
  clear hW1 g0
  refine Calls.mono (f := 37) HJ.out ?_
  rintro e w1 ⟨rfl, hw1⟩
  rw [hw1]
  clear hw1 w1 HJ
  obtain ⟨jl, hjl⟩ : ∃ n, (begunX (1 + (pn : Nat)) (1 + (bn : Nat))).jr.length = n := ⟨_, rfl⟩
  have HJL : Aside _ := hjl
  obtain ⟨W2, hW2⟩ : ∃ W2, W2 = W1.alloc (.cells #[.int .i64 ((begunX (1 + (pn : Nat)) (1 + (bn : Nat))).jr.length : Nat)] 3) := ⟨_, rfl⟩
  have bW2 : Below W1.heap.size W1 W2 := by rw [hW2]; exact (Below.refl _ W1).alloc (Nat.le_refl _) _
  have hsz2 : W1.heap.size < W2.heap.size := by rw [hW2]; simp
  have IR2 : Aside (IRow W2 (.slice (some ⟨W1.heap.size, 0, none⟩) 1 1) [(begunX (1 + (pn : Nat)) (1 + (bn : Nat))).jr.length]) := by rw [hW2]; exact row_one W1 3 _
  have r0 := RK.out 0
  have HS : Aside _ := fla_shown (FA1.out.keep (fun k hk => bW2.block k (FA1.out.lt k hk))) r0.ok r0.st (by decide) (by decide) (by show (runX (1 + (pn : Nat)) (1 + (bn : Nat)) l 0).1.jr.length ≤ _; have := r0.jr; omega)
  have B22 : Aside (Below w.heap.size w W2) := blw_tr B11.out bW2
  have MC2 : Aside (W2.heap[w0.heap.size]? = some (.cells #[.int .i64 (1 + (pn : Nat)), .int .i64 (1 + (bn : Nat))] 68 (0, 0))) := (bW2.block _ hszc).trans MC1.out
  have MR2 : Aside (W2.heap[w.heap.size]? = some (.cells #[.int .i64 mK, .int .i64 mW, .int .i64 mN] 54 (0, 0))) := (bW2.block _ (by omega)).trans MR1.out
  clear hjl bW2 r0
  go_wp2_with fail
  rw [← hW2]
  clear hW2
  refine Calls.mono (f := 38) HS.out ?_
  rintro e W3 ⟨B3, rfl, FB3, G3⟩
  obtain ⟨W4, hW4⟩ : ∃ W4, W4 = W3.alloc (.cells #[.string ⟨(shownX (begunX (1 + (pn : Nat)) (1 + (bn : Nat)))).toArray⟩] 9) := ⟨_, rfl⟩
  have bW4 : Below W3.heap.size W3 W4 := by rw [hW4]; exact (Below.refl _ W3).alloc (Nat.le_refl _) _
  have TR4 : TRow W4 (.slice (some ⟨W3.heap.size, 0, none⟩) 1 1) [shownX (begunX (1 + (pn : Nat)) (1 + (bn : Nat)))] := by rw [hW4]; exact row_one W3 9 _
  have hs4 : W3.heap.size < W4.heap.size := by rw [hW4]; simp
  have LL : Aside (∃ A, L1 w A f p (begunX (1 + (pn : Nat)) (1 + (bn : Nat))) 0 (.slice (some ⟨W1.heap.size, 0, none⟩) 1 1) (.slice (some ⟨W3.heap.size, 0, none⟩) 1 1) [(begunX (1 + (pn : Nat)) (1 + (bn : Nat))).jr.length] [shownX (begunX (1 + (pn : Nat)) (1 + (bn : Nat)))] w0.heap.size w.heap.size (.cells #[.int .i64 (1 + (pn : Nat)), .int .i64 (1 + (bn : Nat))] 68 (0, 0)) (.cells #[.int .i64 mK, .int .i64 mW, .int .i64 mN] 54 (0, 0)) W4) :=
    l1_init hsz0 sz00 LW0.out hszc hsz2 FB3 G3 IR2.out TR4 bW4 hs4 MC2.out MR2.out B22.out
  clear FB3 G3 IR2 TR4 bW4 hs4 MC2 MR2 B22 MC1 MR1 B11 FA1 HS LW0
  go_wp2_with fail
  rw [← hW4]
  clear hW4
  go_loopg [13, 14, 15, 16, 17] l.length (fun kx sj se sl st si wq => ∃ (i : Nat) (A : Nat → Nat → Prop), sj = .string ⟨(runX (1 + (pn : Nat)) (1 + (bn : Nat)) l i).1.jr.toArray⟩ ∧ se = .int .i64 0 ∧ si = .int .i64 i ∧ i ≤ l.length ∧ l.length - i ≤ kx ∧ Aside (L1 w A f p (runX (1 + (pn : Nat)) (1 + (bn : Nat)) l i).1 (runX (1 + (pn : Nat)) (1 + (bn : Nat)) l i).2 sl st (lensTo (1 + (pn : Nat)) (1 + (bn : Nat)) l i) (shotsTo (1 + (pn : Nat)) (1 + (bn : Nat)) l i) w0.heap.size w.heap.size (.cells #[.int .i64 (1 + (pn : Nat)), .int .i64 (1 + (bn : Nat))] 68 (0, 0)) (.cells #[.int .i64 mK, .int .i64 mW, .int .i64 mN] 54 (0, 0)) wq))
  case atStart =>
    obtain ⟨A, hA⟩ := LL.out
    exact ⟨0, A, rfl, rfl, rfl, Nat.zero_le _, by omega, hA⟩
  case round =>
    obtain ⟨i, A, rfl, rfl, rfl, hi, hkx, LA⟩ := hrel
    have r := RK.out i
    by_cases hlt : i < l.length
    · have hltz : (i : Int) < (l.length : Int) := by omega
      obtain ⟨g, o, rfl, hg, c1, c2, c3⟩ := (HM.out.up LA.out.bel) i hlt
      obtain ⟨i1, i2, i3⟩ := hw i hlt
      have r1 := RK.out (i + 1)
      have EX : Aside (runX (1 + (pn : Nat)) (1 + (bn : Nat)) l (i + 1) = ((Ex.doX (runX (1 + (pn : Nat)) (1 + (bn : Nat)) l i).1 (mvNow (runX (1 + (pn : Nat)) (1 + (bn : Nat)) l i).2 (l.getD i (0, 0, 0)).1 (l.getD i (0, 0, 0)).2.2) (mvReq (l.getD i (0, 0, 0)).1 (l.getD i (0, 0, 0)).2.1 (l.getD i (0, 0, 0)).2.2)).1, mvNow (runX (1 + (pn : Nat)) (1 + (bn : Nat)) l i).2 (l.getD i (0, 0, 0)).1 (l.getD i (0, 0, 0)).2.2)) := rfl
      have HLN : Aside _ := lens_next (1 + (pn : Nat)) (1 + (bn : Nat)) l i
      have HSN : Aside _ := shots_next (1 + (pn : Nat)) (1 + (bn : Nat)) l i
      have LNL : Aside ((lensTo (1 + (pn : Nat)) (1 + (bn : Nat)) l i).length = i + 1) := by unfold lensTo; show _ = _; simp
      have LNS : Aside ((shotsTo (1 + (pn : Nat)) (1 + (bn : Nat)) l i).length = i + 1) := by unfold shotsTo; show _ = _; simp
      obtain ⟨gl, cl, hvl, hcl⟩ := row_slice LA.out.il (by rw [LNL.out]; omega)
      obtain ⟨gs, cs, hvs, hcs⟩ := row_slice LA.out.ts (by rw [LNS.out]; omega)
      rw [LNL.out] at hvl hcl
      rw [LNS.out] at hvs hcs
      subst hvl hvs
      generalize (l.getD i (0, 0, 0)).1 = K at *
      generalize (l.getD i (0, 0, 0)).2.1 = Wh at *
      generalize (l.getD i (0, 0, 0)).2.2 = N at *
      obtain ⟨X1, hX1⟩ : ∃ X, X = runX (1 + (pn : Nat)) (1 + (bn : Nat)) l (i + 1) := ⟨_, rfl⟩
      rw [← hX1] at r1 EX HLN HSN
      have HMV : Aside (Calls Try.prog 27 #[.pointer (some ⟨f, 0, none⟩), .agg #[.int .i64 K, .int .i64 Wh, .int .i64 N]] wr fun e w' => ∃ s : List UInt8, e = .returned (.string ⟨s.toArray⟩) ∧ ∃ A', L1 w A' f p X1.1 X1.2 (.slice (some ⟨gl, 0, none⟩) (i + 1) cl) (.slice (some ⟨gs, 0, none⟩) (i + 1) cs) (lensTo (1 + (pn : Nat)) (1 + (bn : Nat)) l i) (shotsTo (1 + (pn : Nat)) (1 + (bn : Nat)) l i) w0.heap.size w.heap.size (.cells #[.int .i64 (1 + (pn : Nat)), .int .i64 (1 + (bn : Nat))] 68 (0, 0)) (.cells #[.int .i64 mK, .int .i64 mW, .int .i64 mN] 54 (0, 0)) w') := by
        refine (l1_moves LA.out r.ok r.now0 (by have := r.now1; omega) (by have := r.jr; omega) K Wh N i1 i2 i3).mono ?_
        rintro e w' ⟨rfl, q⟩
        refine ⟨_, rfl, ?_⟩
        rw [EX.out]
        exact q
      have HX1 : Aside _ := hX1
      clear hX1 EX
      go_wp2_with fail
      refine Calls.mono (f := 27) HMV.out ?_
      rintro e w1 ⟨sm, rfl, A1, q1⟩
      have LA1 : Aside _ := q1
      have f0 := q1.fl.cell0
      have HJ : Aside _ := fla_journal q1.fl
      clear q1 HMV LA c1 c2 c3
      go_wp2_with fail
      refine Calls.mono (f := 37) HJ.out ?_
      rintro e w2 ⟨rfl, hw2⟩
      rw [hw2]
      clear hw2 w2 HJ f0
      obtain ⟨W2', hW2'⟩ : ∃ W2', W2' = w1.alloc (.cells #[.int .i64 (X1.1.jr.length : Nat)] 3) := ⟨_, rfl⟩
      have LA2 : Aside _ := LA1.out.up (show Below w1.heap.size w1 W2' by rw [hW2']; exact (Below.refl _ w1).alloc (Nat.le_refl _) _)
      have SR2 : Aside (Src Try.prog 1 39 (.slice (some ⟨w1.heap.size, 0, none⟩) 1 1) 1 [.int .i64 (X1.1.jr.length : Nat)] W2') := by rw [hW2']; exact src_cell w1 39 3 Try.underlying39 _ rfl _ rfl
      rw [hW2'] at LA2 SR2
      clear hW2'
      go_wp2_with (first | (at_builtin; refine wpList_append_int _ rfl _ _ rfl (.slice (some ⟨gl, 0, none⟩) (i + 1) cl) (lensTo (1 + (pn : Nat)) (1 + (bn : Nat)) l i) rfl LA2.out.il _ rfl X1.1.jr.length SR2.out (by rw [LNL.out]; omega) ?_; intro v3 w3 g1 g2 g3; obtain ⟨gl3, cl3, hv3, hc3⟩ := row_slice g1 (by simp); obtain ⟨n3, hn3⟩ : ∃ n, n = (lensTo (1 + (pn : Nat)) (1 + (bn : Nat)) l i ++ [X1.1.jr.length]).length := ⟨_, rfl⟩; rw [← hn3] at hv3; have LA3 : Aside _ := LA2.out.pushI g1 g2 g3; clear hn3 g1 g2 g3 hc3; subst hv3) | fail)
      obtain ⟨A3, q3⟩ := LA3.out
      have HSH : Aside _ := l1_shown q3 r1.ok r1.st r1.now0 (by have := r1.now1; omega) (by have := r1.jr; omega)
      clear q3 LA3 LA2 LA1 SR2
      refine Calls.mono (f := 38) HSH.out ?_
      rintro e w4 ⟨rfl, A4, q4⟩
      have LA4 : Aside _ := q4.up (show Below w4.heap.size w4 (w4.alloc (.cells #[.string ⟨(shownX X1.1).toArray⟩] 9)) from (Below.refl _ w4).alloc (Nat.le_refl _) _)
      have SR4 : Aside (Src Try.prog 1 82 (.slice (some ⟨w4.heap.size, 0, none⟩) 1 1) 1 [.string ⟨(shownX X1.1).toArray⟩] (w4.alloc (.cells #[.string ⟨(shownX X1.1).toArray⟩] 9))) := src_cell w4 82 9 Try.underlying82 _ rfl _ rfl
      clear q4 HSH
      go_wp2_with (first | (at_builtin; refine wpList_append_str _ rfl _ _ rfl (.slice (some ⟨gs, 0, none⟩) (i + 1) cs) (shotsTo (1 + (pn : Nat)) (1 + (bn : Nat)) l i) rfl LA4.out.ts _ rfl (shownX X1.1) SR4.out (by rw [LNS.out]; omega) ?_; intro v5 w5 g1 g2 g3; have LA5 : Aside _ := LA4.out.pushT g1 g2 g3; clear g1 g2 g3) | fail)
      go_roundg (l.length - (i + 1))
      case measure => omega
      case rel =>
        obtain ⟨A5, q5⟩ := LA5.out
        refine ⟨i + 1, A5, by rw [← HX1.out], rfl, by go_num, by omega, Nat.le_refl _, ?_⟩
        show L1 _ _ _ _ _ _ _ _ _ _ _ _ _ _ _
        rw [HLN.out, HSN.out, ← HX1.out]
        exact q5
    · obtain rfl : i = l.length := by omega
      have hltz : ¬ (l.length : Int) < (l.length : Int) := by omega
      have LNL : Aside ((lensTo (1 + (pn : Nat)) (1 + (bn : Nat)) l l.length).length = l.length + 1) := by unfold lensTo; show _ = _; simp
      have LNS : Aside ((shotsTo (1 + (pn : Nat)) (1 + (bn : Nat)) l l.length).length = l.length + 1) := by unfold shotsTo; show _ = _; simp
      obtain ⟨gl, cl, hvl, hcl⟩ := row_slice LA.out.il (by rw [LNL.out]; omega)
      obtain ⟨gs, cs, hvs, hcs⟩ := row_slice LA.out.ts (by rw [LNS.out]; omega)
      rw [LNL.out] at hvl hcl
      rw [LNS.out] at hvs hcs
      subst hvl hvs
      obtain ⟨X, hX⟩ : ∃ X, X = runX (1 + (pn : Nat)) (1 + (bn : Nat)) l l.length := ⟨_, rfl⟩
      have HX : Aside _ := hX
      rw [← hX] at r LA ⊢
      clear hX
      have jb : X.1.jr.length ≤ 41943070 := by have := r.jr; omega
      obtain ⟨kk, hkk⟩ : ∃ k, pickN cut (X.1.jr.length + 1) = k := ⟨_, rfl⟩
      have hkl := pickN_lt cut (X.1.jr.length + 1) (Nat.succ_pos _)
      rw [hkk] at hkl
      have HPK : Aside (∀ W, Calls Try.prog 23 #[.int .i64 cut, .int .i64 ((X.1.jr.length : Int) + 1)] W fun e w' => e = .returned (.int .i64 (kk : Nat)) ∧ w' = W) := fun W => by
        have := pick_any cut (X.1.jr.length + 1) W (Nat.succ_pos _) (Nat.le_trans (Nat.succ_le_succ jb) (by decide)) hcut.1 hcut.2
        rw [hkk] at this
        exact this
      clear hkk
      have kz : (kk : Int) ≤ (X.1.jr.length : Int) := by omega
      have HKL : Aside _ := hkl
      have xk : ({ data := X.1.jr.toArray } : ByteArray).extract 0 kk = ⟨(X.1.jr.take kk).toArray⟩ := by rw [ext_mid]; rfl
      have HO1 : Aside (∀ V : World, Calls Try.prog 39 #[.agg #[.int .i64 (1 + (pn : Nat)), .int .i64 (1 + (bn : Nat))], .string ⟨(X.1.jr.take kk).toArray⟩] V fun e w' => ∃ S p, e = .returned (.tuple #[.pointer (some ⟨p, 0, none⟩), .int .i64 0]) ∧ RepX w' S p (Ex.openJ (Ex.openX (1 + (pn : Nat)) (1 + (bn : Nat))) (X.1.jr.take kk)) ∧ (∀ k, S k → V.heap.size ≤ k) ∧ Below V.heap.size V w') := fun V => rep_openJ new_any V _ _ (by omega) (by omega) (by omega) (by omega) _ (by rw [List.length_take]; omega)
      have HO2 : Aside (∀ V : World, Calls Try.prog 39 #[.agg #[.int .i64 (1 + (pn : Nat)), .int .i64 (1 + (bn : Nat))], .string ⟨X.1.jr.toArray⟩] V fun e w' => ∃ S p, e = .returned (.tuple #[.pointer (some ⟨p, 0, none⟩), .int .i64 0]) ∧ RepX w' S p (Ex.openJ (Ex.openX (1 + (pn : Nat)) (1 + (bn : Nat))) X.1.jr) ∧ (∀ k, S k → V.heap.size ≤ k) ∧ Below V.heap.size V w') := fun V => rep_openJ new_any V _ _ (by omega) (by omega) (by omega) (by omega) _ (by omega)
      obtain ⟨Y, hY⟩ : ∃ Y, Y = Ex.openJ (Ex.openX (1 + (pn : Nat)) (1 + (bn : Nat))) (X.1.jr.take kk) := ⟨_, rfl⟩
      obtain ⟨Z, hZ⟩ : ∃ Z, Z = Ex.openJ (Ex.openX (1 + (pn : Nat)) (1 + (bn : Nat))) X.1.jr := ⟨_, rfl⟩
      have HY : Aside _ := hY
      have HZ : Aside _ := hZ
      rw [← hY] at HO1
      rw [← hZ] at HO2
      clear hY hZ
      have cc0 : wr.cell? ⟨w0.heap.size, 0, none⟩ = some (.int .i64 (1 + (pn : Nat))) := blk_cell LA.out.cb 0
      have cc1 : wr.cell? ⟨w0.heap.size, 1, none⟩ = some (.int .i64 (1 + (bn : Nat))) := blk_cell LA.out.cb 1
      have hcw : w0.heap.size < wr.heap.size := LA.out.dis.lt 5 _ ((LA.out.ca _).2 rfl)
      go_wp2_with fail
      refine Calls.mono (f := 23) (HPK.out _) ?_
      rintro e w1 ⟨rfl, hw1⟩
      rw [hw1]
      clear hw1 w1 HPK
      go_wp2_with fail
      go_region_with (go_at_call 39; refine Calls.mono (f := 39) (HO1.out _) ?_; rintro e w1 ⟨S1, p1, rfl, R1, n1, b1⟩)
      have B1 : Aside (Below wr.heap.size wr w1) := ⟨b1.os, b1.tape, b1.output, b1.size, b1.block⟩
      have RR1 : Aside (RepX w1 S1 p1 Y) := R1
      have N1 : Aside (∀ k, S1 k → wr.heap.size ≤ k) := n1
      have dd0 : w1.cell? ⟨w0.heap.size, 0, none⟩ = some (.int .i64 (1 + (pn : Nat))) := (B1.out.cell (p := ⟨w0.heap.size, 0, none⟩) hcw).trans cc0
      have dd1 : w1.cell? ⟨w0.heap.size, 1, none⟩ = some (.int .i64 (1 + (bn : Nat))) := (B1.out.cell (p := ⟨w0.heap.size, 1, none⟩) hcw).trans cc1
      clear b1 R1 n1 HO1 cc0 cc1 xk kz
      go_wp2_with fail
      refine Calls.mono (f := 39) (HO2.out _) ?_
      rintro e w2 ⟨S2, p2, rfl, R2, n2, b2⟩
      have B2 : Aside (Below w1.heap.size w1 w2) := b2
      have RR1' : Aside (RepX w2 S1 p1 Y) := rep_keep RR1.out (fun k hk => b2.block k (rep_low RR1.out k hk))
      have RR2 : Aside (RepX w2 S2 p2 Z) := R2
      have N2 : Aside (∀ k, S2 k → w1.heap.size ≤ k) := n2
      have L1' : Aside (∀ k, S1 k → k < w1.heap.size) := rep_low RR1.out
      have HJ2 : Aside _ := journalX_any w2 S1 p1 Y RR1'.out
      clear b2 R2 n2 HO2 dd0 dd1 RR1
      go_wp2_with fail
      refine Calls.mono (f := 37) HJ2.out ?_
      rintro e w3 ⟨rfl, hw3⟩
      rw [hw3]
      clear hw3 w3 HJ2
      obtain ⟨bb, hb1, hb2, hb3, hb4⟩ := cut_read (openX_jr (1 + (pn : Nat)) (1 + (bn : Nat))) r.las kk (by omega)
      rw [← HY.out] at hb3 hb4
      have lY : Y.jr.length = bb := by rw [hb3, List.length_take]; omega
      have xY : ({ data := X.1.jr.toArray } : ByteArray).extract 0 bb = ⟨Y.jr.toArray⟩ := by rw [ext_mid, hb3]; rfl
      have HB4 : Aside _ := hb4
      have HB3 : Aside _ := hb3
      clear hb3 hb4
      obtain ⟨YJ, hYJ⟩ : ∃ YJ, YJ = Y.jr := ⟨_, rfl⟩
      rw [← hYJ] at lY xY ⊢
      have HYJ : Aside _ := hYJ
      clear hYJ
      have bz1 : (bb : Int) ≤ (kk : Int) := by omega
      have bz2 : (bb : Int) ≤ (X.1.jr.length : Int) := by omega
      have bz3 : (kk : Int) ≤ (bb : Int) + 20 := by omega
      have dk1 : decide (kk < bb) = false := decide_eq_false (by omega)
      have dk2 : decide ((bb : Int) + 20 < (kk : Int)) = false := decide_eq_false (by omega)
      have dk3 : decide ((kk : Int) < (bb : Int)) = false := decide_eq_false (by omega)
      obtain ⟨W5, hW5⟩ : ∃ W5, W5 = (w2.alloc (.cells #[.pointer (some ⟨p1, 0, none⟩), .int .i64 0, .int .i64 0, .int .i64 0] 61)).alloc (.cells #[.pointer (some ⟨p2, 0, none⟩), .int .i64 0, .int .i64 0, .int .i64 0] 61) := ⟨_, rfl⟩
      have LL2 : Aside (∃ A', L2 w A' f p X.2 (Ex.allCash X.1) (Ex.allUnits X.1) X.1 w2.heap.size p1 Y (w2.heap.size + 1) p2 0 0 0 Z (.slice (some ⟨gl, 0, none⟩) (l.length + 1) cl) (.slice (some ⟨gs, 0, none⟩) (l.length + 1) cs) (lensTo (1 + (pn : Nat)) (1 + (bn : Nat)) l l.length) (shotsTo (1 + (pn : Nat)) (1 + (bn : Nat)) l l.length) w.heap.size (.cells #[.int .i64 mK, .int .i64 mW, .int .i64 mN] 54 (0, 0)) W5) := by
        rw [hW5]
        exact l2_two LA.out B1.out B2.out RR1'.out RR2.out N1.out L1'.out N2.out
      clear LA B1 B2 RR1' RR2 N1 L1' N2
      go_wp2_with fail
      rw [← hW5]
      clear hW5
      go_loopg [27] (l.length + 1) (fun kx si wq => ∃ (i : Nat) (A : Nat → Nat → Prop), si = .int .i64 i ∧ i ≤ l.length + 1 ∧ l.length + 1 - i ≤ kx ∧ Aside (L2 w A f p X.2 (Ex.allCash X.1) (Ex.allUnits X.1) X.1 w2.heap.size p1 Y (w2.heap.size + 1) p2 0 0 0 Z (.slice (some ⟨gl, 0, none⟩) (l.length + 1) cl) (.slice (some ⟨gs, 0, none⟩) (l.length + 1) cs) (lensTo (1 + (pn : Nat)) (1 + (bn : Nat)) l l.length) (shotsTo (1 + (pn : Nat)) (1 + (bn : Nat)) l l.length) w.heap.size (.cells #[.int .i64 mK, .int .i64 mW, .int .i64 mN] 54 (0, 0)) wq))
      case atStart =>
        obtain ⟨A', q⟩ := LL2.out
        exact ⟨0, A', rfl, Nat.zero_le _, by omega, q⟩
      case round =>
        obtain ⟨i, A2, rfl, hi2, hk2, LB⟩ := hrel
        by_cases hl2 : i < l.length + 1
        · have hlz : (i : Int) < (l.length : Int) + 1 := by omega
          have gi : (ivs (lensTo (1 + (pn : Nat)) (1 + (bn : Nat)) l l.length))[i]? = some (.int .i64 ((runX (1 + (pn : Nat)) (1 + (bn : Nat)) l i).1.jr.length : Nat)) := by
            unfold ivs lensTo
            rw [List.map_map, List.getElem?_map, List.getElem?_range hl2]
            rfl
          have ti : (tvs (shotsTo (1 + (pn : Nat)) (1 + (bn : Nat)) l l.length))[i]? = some (.string ⟨(shownX (runX (1 + (pn : Nat)) (1 + (bn : Nat)) l i).1).toArray⟩) := by
            unfold tvs shotsTo
            rw [List.map_map, List.getElem?_map, List.getElem?_range hl2]
            rfl
          have il := LB.out.il
          have ts := LB.out.ts
          unfold IRow at il
          unfold TRow at ts
          rw [LNL.out] at il
          rw [LNS.out] at ts
          have ci : wr.cell? ⟨gl, i, none⟩ = some (.int .i64 ((runX (1 + (pn : Nat)) (1 + (bn : Nat)) l i).1.jr.length : Nat)) := row_cell il gi
          have SQ : Aside ((runX (1 + (pn : Nat)) (1 + (bn : Nat)) l i).1.jr.length = bb → shownX (runX (1 + (pn : Nat)) (1 + (bn : Nat)) l i).1 = shownX Y) := fun e => by
            obtain ⟨q, hq⟩ := runX_prefix (1 + (pn : Nat)) (1 + (bn : Nat)) l i (l.length - i)
            rw [show i + (l.length - i) = l.length by omega, ← HX.out] at hq
            have e2 : (runX (1 + (pn : Nat)) (1 + (bn : Nat)) l i).1.jr = X.1.jr.take bb := by
              rw [hq, ← e, List.take_left]
            have e3 := shown_last (RK.out i).las
            rw [e2, HB4.out] at e3
            exact e3.symm
          obtain ⟨Xi, hXi⟩ : ∃ Xi, Xi = (runX (1 + (pn : Nat)) (1 + (bn : Nat)) l i).1 := ⟨_, rfl⟩
          rw [← hXi] at ci ti SQ
          clear hXi gi
          by_cases q1 : Xi.jr.length = bb
          · have qb1 : ((Xi.jr.length : Int) == (bb : Int)) = true := beq_iff_eq.2 (by omega)
            have ES : Aside (shownX Xi = shownX Y) := SQ.out q1
            have okY : Ex.Ok Y := by rw [HY.out]; exact Ex.openJ_ok (Ex.open_ok (by omega) (by omega)) _
            have stY : Ex.Still Y 0 := by rw [HY.out]; exact still_open (Ex.open_ok (by omega) (by omega)) (by show (0 : Int) < 1 + (pn : Nat); omega) _
            have jY : Y.jr.length ≤ 1099511627776 := by rw [← HYJ.out]; omega
            have HSP : Aside (∀ n : Nat, _) := fun n : Nat => l2_shown1 (LB.out.up (Below.drewN (Below.refl _ wr) n)) okY stY jY
            have QI : Aside _ := q1
            clear q1 okY stY
            by_cases q2 : i = l.length
            · have qb2 : ((i : Int) + 1 == (l.length : Int) + 1) = true := beq_iff_eq.2 (by omega)
              clear q2
              go_wp2_with fail
              go_quiet (fail)
              go_wp2_with fail
              refine Calls.mono (f := 38) (HSP.out nq) ?_
              rintro e w6 ⟨rfl, A6, q6⟩
              have LB6 : Aside _ := q6
              have ts6 := q6.ts
              unfold TRow at ts6
              rw [LNS.out] at ts6
              have ct6 : w6.cell? ⟨gs, i, none⟩ = some (.string ⟨(shownX Y).toArray⟩) := by rw [← ES.out]; exact row_cell ts6 ti
              clear q6 ts6 HSP
              go_wp2
              go_roundg (l.length + 1 - (i + 1))
              case measure => omega
              case rel => exact ⟨i + 1, A6, by go_num, by omega, Nat.le_refl _, LB6⟩
            · have qb2 : ((i : Int) + 1 == (l.length : Int) + 1) = false := beq_eq_false_iff_ne.2 (by omega)
              have g2 : (ivs (lensTo (1 + (pn : Nat)) (1 + (bn : Nat)) l l.length))[i + 1]? = some (.int .i64 ((runX (1 + (pn : Nat)) (1 + (bn : Nat)) l (i + 1)).1.jr.length : Nat)) := by
                unfold ivs lensTo
                rw [List.map_map, List.getElem?_map, List.getElem?_range (by omega)]
                rfl
              have cn : wr.cell? ⟨gl, i + 1, none⟩ = some (.int .i64 ((runX (1 + (pn : Nat)) (1 + (bn : Nat)) l (i + 1)).1.jr.length : Nat)) := row_cell il g2
              obtain ⟨nx, hnx⟩ : ∃ n, n = (runX (1 + (pn : Nat)) (1 + (bn : Nat)) l (i + 1)).1.jr.length := ⟨_, rfl⟩
              rw [← hnx] at cn
              have hlz2 : (i : Int) + 1 < (l.length : Int) + 1 := by omega
              have wi : IntKind.i64.wrap ((i : Int) + 1) = (i : Int) + 1 := IntWalk.i64_in _ (by omega)
              have q2b : (i == l.length) = false := beq_eq_false_iff_ne.2 q2
              clear hnx g2 q2
              by_cases q3 : (Xi.jr.length : Int) < (nx : Int)
              · have dq : decide ((Xi.jr.length : Int) < (nx : Int)) = true := decide_eq_true q3
                have dq' : decide (Xi.jr.length < nx) = true := decide_eq_true (by omega)
                clear q3
                go_wp2_with fail
                go_quiet (fail)
                clear wi qb2 q2b hlz2 cn dq dq'
                go_wp2_with fail
                refine Calls.mono (f := 38) (HSP.out nq) ?_
                rintro e w6 ⟨rfl, A6, q6⟩
                have LB6 : Aside _ := q6
                have ts6 := q6.ts
                unfold TRow at ts6
                rw [LNS.out] at ts6
                have ct6 : w6.cell? ⟨gs, i, none⟩ = some (.string ⟨(shownX Y).toArray⟩) := by rw [← ES.out]; exact row_cell ts6 ti
                clear q6 ts6 HSP
                go_wp2
                go_roundg (l.length + 1 - (i + 1))
                case measure => omega
                case rel => exact ⟨i + 1, A6, by go_num, by omega, Nat.le_refl _, LB6⟩
              · have dq : decide ((Xi.jr.length : Int) < (nx : Int)) = false := decide_eq_false q3
                have dq' : decide (Xi.jr.length < nx) = false := decide_eq_false (by omega)
                clear q3
                go_wp2_with fail
                go_quiet (fail)
                clear wi qb2 q2b hlz2 cn dq dq' HSP
                go_wp2
                go_roundg (l.length + 1 - (i + 1))
                case measure => omega
                case rel => exact ⟨i + 1, A2, by go_num, by omega, Nat.le_refl _, LB.out.up (Below.drewN (Below.refl _ wr) _)⟩
          · have qb1 : ((Xi.jr.length : Int) == (bb : Int)) = false := beq_eq_false_iff_ne.2 (by omega)
            clear q1
            go_wp2_with fail
            go_quiet (fail)
            go_wp2
            go_roundg (l.length + 1 - (i + 1))
            case measure => omega
            case rel => exact ⟨i + 1, A2, by go_num, by omega, Nat.le_refl _, LB.out.up (Below.drewN (Below.refl _ wr) _)⟩
        · have hlz : ¬ (i : Int) < (l.length : Int) + 1 := by omega
          have ti : (tvs (shotsTo (1 + (pn : Nat)) (1 + (bn : Nat)) l l.length))[l.length]? = some (.string ⟨(shownX X.1).toArray⟩) := by
            rw [HX.out]
            unfold tvs shotsTo
            rw [List.map_map, List.getElem?_map, List.getElem?_range (by omega)]
            rfl
          have okZ : Ex.Ok Z := by rw [HZ.out]; exact Ex.openJ_ok (Ex.open_ok (by omega) (by omega)) _
          have stZ : Ex.Still Z 0 := by rw [HZ.out]; exact still_open (Ex.open_ok (by omega) (by omega)) (by show (0 : Int) < 1 + (pn : Nat); omega) _
          have ES : Aside (shownX Z = shownX X.1) := by rw [HZ.out]; exact shown_last r.las
          have jZ : Z.jr = X.1.jr := by rw [HZ.out]; exact r.las.jr
          have jZl : Z.jr.length ≤ 1099511627776 := by rw [jZ]; omega
          have HS6 : Aside _ := l2_shown2 LB.out okZ stZ (by decide) (by decide) jZl
          have RN : Aside _ := runOk_step r mK mW mN
          have RR : Aside _ := r
          have SM : Aside _ := ok_sums r.ok
          have NB : Aside _ := mvNow_bd X.2 mK mN
          have DS : Aside (Ex.doX Z (mvNow X.2 mK mN) (mvReq mK mW mN) = Ex.doX X.1 (mvNow X.2 mK mN) (mvReq mK mW mN)) := by
            have t1 := r.time
            have t2 := r.las.max
            have t3 : Z.time ≤ X.1.time := by rw [HZ.out]; exact r.las.time
            have t4 := NB.out
            refine do_same (by rw [HZ.out]; exact r.las.same) _ ?_ ?_ _
            · split <;> omega
            · split <;> omega
          have OKZ : Aside _ := okZ
          have JZL : Aside _ := jZl
          have x20 : 0 ≤ X.2 := r.now0
          have x21 : X.2 ≤ 62914560 := by have := r.now1; omega
          clear okZ stZ jZ jZl r LB LL2
          go_wp2_with fail
          refine Calls.mono (f := 38) HS6.out ?_
          rintro e w6 ⟨rfl, A6, q6⟩
          have ts6 := q6.ts
          unfold TRow at ts6
          rw [LNS.out] at ts6
          have ct6 : w6.cell? ⟨gs, l.length, none⟩ = some (.string ⟨(shownX Z).toArray⟩) := by rw [ES.out]; exact row_cell ts6 ti
          have f1c := q6.fl.cell1
          have w1c := q6.wh.cell1
          have w1f := q6.wh.fz 1
          obtain ⟨W7, hW7⟩ : ∃ W7, W7 = w6.setCell ⟨w2.heap.size + 1, 1, none⟩ (.int .i64 X.2) := ⟨_, rfl⟩
          have L7 : Aside (∃ A', L2 w A' f p X.2 (Ex.allCash X.1) (Ex.allUnits X.1) X.1 w2.heap.size p1 Y (w2.heap.size + 1) p2 X.2 0 0 Z (.slice (some ⟨gl, 0, none⟩) (l.length + 1) cl) (.slice (some ⟨gs, 0, none⟩) (l.length + 1) cs) (lensTo (1 + (pn : Nat)) (1 + (bn : Nat)) l l.length) (shotsTo (1 + (pn : Nat)) (1 + (bn : Nat)) l l.length) w.heap.size (.cells #[.int .i64 mK, .int .i64 mW, .int .i64 mN] 54 (0, 0)) W7) := by rw [hW7]; exact q6.s2 (q6.wh.set1 X.2).1 (q6.wh.set1 X.2).2
          obtain ⟨A7, q7⟩ := L7.out
          have m0 : W7.cell? ⟨w.heap.size, 0, none⟩ = some (.int .i64 mK) := blk_cell q7.mb 0
          have m1 : W7.cell? ⟨w.heap.size, 1, none⟩ = some (.int .i64 mW) := blk_cell q7.mb 1
          have m2 : W7.cell? ⟨w.heap.size, 2, none⟩ = some (.int .i64 mN) := blk_cell q7.mb 2
          have H8 : Aside _ := l2_moves0 q7 RR.out.ok x20 (by omega) (by omega) (by have := SM.out.1; omega) (by have := SM.out.2; omega) mK mW mN hmK hmW hmN
          rw [hW7] at m0 m1 m2
          clear q6 q7 ts6 ti HS6 L7
          go_wp2_with fail
          rw [← hW7]
          clear hW7 m0 m1 m2 w1f w1c f1c ct6
          refine Calls.mono (f := 27) H8.out ?_
          rintro e w8 ⟨rfl, A8, c8, u8, q8⟩
          have m0 : w8.cell? ⟨w.heap.size, 0, none⟩ = some (.int .i64 mK) := blk_cell q8.mb 0
          have m1 : w8.cell? ⟨w.heap.size, 1, none⟩ = some (.int .i64 mW) := blk_cell q8.mb 1
          have m2 : w8.cell? ⟨w.heap.size, 2, none⟩ = some (.int .i64 mN) := blk_cell q8.mb 2
          have h9 := l2_moves2 q8 OKZ.out x20 (by omega) JZL.out (by decide) (by decide) mK mW mN hmK hmW hmN
          rw [DS.out] at h9
          have H9 : Aside _ := h9
          clear h9 q8 H8
          obtain ⟨X', hX'⟩ : ∃ X', X' = Ex.doX X.1 (mvNow X.2 mK mN) (mvReq mK mW mN) := ⟨_, rfl⟩
          obtain ⟨n', hn'⟩ : ∃ n', n' = mvNow X.2 mK mN := ⟨_, rfl⟩
          rw [← hX'] at H9 RN ⊢
          rw [← hn'] at H9 RN NB
          clear hX' hn'
          go_wp2_with fail
          clear m0 m1 m2
          refine Calls.mono (f := 27) H9.out ?_
          rintro e w9 ⟨rfl, A9, c9, u9, q9⟩
          have JN : Aside (X'.1.jr.length ≤ 1099511627776) := by have := RN.out.jr; show _ ≤ _; omega
          have NN : Aside (n' ≤ 9223372036854775807) := by have := NB.out; show _ ≤ _; omega
          have H10 : Aside _ := l2_shown0 q9 RN.out.ok RN.out.st RN.out.now0 NN.out JN.out
          clear q9 H9
          go_wp2_with fail
          refine Calls.mono (f := 38) H10.out ?_
          rintro e w10 ⟨rfl, A10, q10⟩
          have H11 : Aside _ := l2_shown2 q10 RN.out.ok RN.out.st RN.out.now0 NN.out JN.out
          clear q10 H10
          go_wp2_with fail
          refine Calls.mono (f := 38) H11.out ?_
          rintro e w11 ⟨rfl, A11, q11⟩
          have B11 : Aside _ := q11.bel
          clear q11 H11
          go_wp2
          go_ret
          exact ⟨rfl, B11.out⟩
end Go.Proofs.Ytjfifaooimgbaaa
