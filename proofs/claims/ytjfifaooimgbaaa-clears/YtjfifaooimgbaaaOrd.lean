/- The walk of sealbidref.ordered. -/
import Derived.Test.YtjfifaooimgbaaaPick
import Derived.Test.YtjfifaooimgbaaaPrices
namespace Go.Proofs.Ytjfifaooimgbaaa
open Go.Shelf Go.RowKit Go.Lib Go.Sort

/-- 'append(out, p)' of a list of one's own. -/
theorem append_int (W : World) (base : Nat) (v : Value) (n : Nat) (xs : List Value) (p : Int) (ho : W.ownsRow base 3 1 v n xs) (hb : base ≤ W.heap.size) (hn : n ≤ 8796093022300) :
    ∃ v' W', (Builtin.append_ #[39, 39] 39 #[v, .slice (some ⟨W.heap.size, 0, none⟩) 1 1]).run Try.prog (W.alloc (.cells #[.int .i64 p] 3)) = .ok v' W' ∧ W'.ownsRow base 3 1 v' (n + 1) (xs ++ [.int .i64 p]) ∧ Below base W W' := by
  obtain ⟨i0, hi, hz0, hz1, hz2⟩ := info_parts Try.info3
  obtain ⟨v2, W2, r2, o2, g2, _⟩ := run_append_own (P := Try.prog) (W.alloc (.cells #[.int .i64 p] 3)) base 39 39 3 i0 (.int .i64 0) 1 8 Try.underlying39 hi hz0 hz1 hz2 rfl (by decide) v n xs (ho.alloc _) ⟨W.heap.size, 0, none⟩ 1 1 [.int .i64 p]
    rfl (fun t u hu => by
      match t, hu with
      | 0, hu => simp at hu; subst hu; simp [Addr.add]) (fun u hu => by simp at hu; subst hu; rfl) (by unfold maxLen; omega) (by omega) (by simp; omega)
  have b1 : Below base W (W.alloc (.cells #[.int .i64 p] 3)) := (Below.refl _ _).alloc hb _
  exact ⟨v2, W2, r2, o2, b1.grown g2 (Nat.le_trans hb b1.size) (fun k hk => (ho.lt k hk).1)⟩

set_option maxHeartbeats 400000 in
theorem rightR_any (x y : Int) (w : World) : Calls Try.prog 62 #[.agg #[.int .i64 x, .int .i64 y]] w fun e w' => e = .returned (.bool (rightB (x, y))) ∧ Gr w w' := by
  go_enter Try.func62, Try.ntmps62
  go_wp2
  all_goals
    go_ret
    refine ⟨ret_bool ?_, (Gr.refl w).alloc _⟩
    first | (simp [rightB, *]; done) | (simp [rightB, *]; omega)

theorem okB_right {side x1 x2 : Int} (h : rightB (x1, x2) = true) (hs : x1 = side) : Clr.okB side (x1, x2) = true := by
  simp only [rightB, Bool.and_eq_true, decide_eq_true_eq] at h
  subst hs
  simp [Clr.okB, h.1.2, h.2]
theorem okB_not {side x1 x2 : Int} (hss : side = 0 ∨ side = 1) (h : ¬ (rightB (x1, x2) = true ∧ x1 = side)) : Clr.okB side (x1, x2) = false := by
  cases hc : Clr.okB side (x1, x2) with
  | false => rfl
  | true =>
    exfalso
    apply h
    simp only [Clr.okB, Bool.and_eq_true, beq_iff_eq, decide_eq_true_eq] at hc
    refine ⟨?_, hc.1⟩
    rcases hss with rfl | rfl <;> simp [rightB, hc.1, hc.2.1, hc.2.2]

set_option maxHeartbeats 8000000 in
set_option maxRecDepth 100000 in
theorem ordered_any (side : Int) (hs : side = 0 ∨ side = 1) (l : List (Int × Int)) (a : Option Addr) (cap : Nat) (w : World) (hB : BidsAt w a l) (hl : l.length ≤ 8796093022208) :
    Calls Try.prog 42 #[.slice a l.length cap, .int .i64 side] w fun e w' => ∃ v, e = .returned v ∧ w'.ownsRow w.heap.size 3 1 v (lineOf side l).length ((lineOf side l).map (fun x => Value.int .i64 x.1)) ∧ Below w.heap.size w w' := by
  have mixed : Try.prog.follows .mixedOrders = true := by kernel_rfl
  have HB : Aside _ := hB
  clear hB
  have hll := line_le side hs l
  have hmk := make_bools l.length w hl
  obtain ⟨W0, hW0⟩ : ∃ W0, W0 = w.alloc (.cells ((List.replicate l.length false).map Value.bool).toArray 4) := ⟨_, rfl⟩
  rw [← hW0] at hmk
  have T0 : Aside (BoolsAt W0 w.heap.size (List.replicate l.length false)) := by
    show BoolsAt W0 w.heap.size (List.replicate l.length false)
    rw [hW0]; show (w.heap.push _)[w.heap.size]? = _
    simp
  have B0 : Aside (Below w.heap.size w W0) := by rw [hW0]; exact below_alloc w _
  have s0 : Aside (w.heap.size + 1 ≤ W0.heap.size) := by rw [hW0]; show _ ≤ _; simp
  clear hW0
  go_enter Try.func42, Try.ntmps42
  go_wp2_with fail
  clear hmk
  go_loopg [5] ((lineOf side l).length + 1) (fun kx s wr => ∃ (m : Nat) (tk : List Bool), m ≤ (lineOf side l).length ∧ (lineOf side l).length + 1 - m ≤ kx ∧ Aside (wr.ownsRow (w.heap.size + 1) 3 1 s m (((lineOf side l).take m).map (fun x => Value.int .i64 x.1))) ∧ Aside (BoolsAt wr w.heap.size tk) ∧ Aside (TakenIs side l m tk) ∧ Aside (Below w.heap.size w wr))
  case atStart => exact ⟨0, _, Nat.zero_le _, by omega, World.ownsRow_nil _ _ _ _, T0, TakenIs.start _ _, B0⟩
  case round =>
    obtain ⟨m, tk, hm, hkx, O1, T1, TK, B1⟩ := hrel
    obtain ⟨W1, rfl⟩ : ∃ W1, W1 = wr := ⟨_, rfl⟩
    have BB1 : Aside (BidsAt W1 a l) := BidsAt.up HB.out B1.out
    have htk := TK.out.1
    go_wp2_with fail
    go_loopg [7, 8] l.length (fun kx s t wq => ∃ (i : Nat) (b : Int), s = .int .i64 b ∧ t = .int .i64 i ∧ i ≤ l.length ∧ l.length - i ≤ kx ∧ Aside (BestIs side l tk i b) ∧ Aside (Gr W1 wq))
    case atStart => exact ⟨0, -1, rfl, rfl, Nat.zero_le _, by omega, BestIs.start _ _ _, Gr.refl _⟩
    case round =>
      obtain ⟨i, b, rfl, rfl, hi, hkx2, BI, G⟩ := hrel
      by_cases hlt : i < l.length
      · have hltz : (i : Int) < (l.length : Int) := by omega
        have BB2 : Aside (BidsAt wr a l) := BidsAt.up BB1.out G.out.below
        obtain ⟨g, o, rfl, hgl, hx1, hx2⟩ := BB2.out i hlt
        obtain ⟨x1, e1⟩ : ∃ x, (l.getD i (0, 0)).1 = x := ⟨_, rfl⟩
        obtain ⟨x2, e2⟩ : ∃ x, (l.getD i (0, 0)).2 = x := ⟨_, rfl⟩
        rw [e1] at hx1
        rw [e2] at hx2
        have E : Aside ((l.getD i (0, 0)).1 = x1 ∧ (l.getD i (0, 0)).2 = x2) := ⟨e1, e2⟩
        clear e1 e2
        go_wp2_with fail
        refine (rightR_any x1 x2 wr).mono ?_
        rintro e w2 ⟨rfl, G2a⟩
        have G2 : Aside (Gr W1 w2) := G.out.trans G2a
        have BB3 : Aside (BidsAt w2 (some ⟨g, o, none⟩) l) := BidsAt.up BB2.out G2a.below
        have T2 : Aside (BoolsAt w2 w.heap.size tk) := (G2.out.below.block _ T1.out.lt).trans T1.out
        have y1 := Gr.cell G2a hgl hx1
        have y2 := Gr.cell G2a hgl hx2
        have t1 := T2.out.cell (i := i) (by omega)
        obtain ⟨ti, eti⟩ : ∃ ti, tk.getD i false = ti := ⟨_, rfl⟩
        rw [eti] at t1
        have ETI : Aside (tk.getD i false = ti) := eti
        have EE : Aside (l.getD i (0, 0) = (x1, x2)) := Prod.ext E.out.1 E.out.2
        clear eti G2a hx1 hx2 BB2 G
        by_cases hr : rightB (x1, x2) = true
        · by_cases hsd : x1 = side
          · cases ti with
            | true =>
              rw [hr]
              go_wp2
              go_roundg (l.length - (i + 1))
              case measure => omega
              case rel => exact ⟨i + 1, b, rfl, by go_num, by omega, Nat.le_refl _, BI.out.miss (Or.inr ETI.out), G2⟩
            | false =>
              have OKI : Aside (Clr.okB side (l.getD i (0, 0)) = true) := by
                show _ = _
                rw [EE.out]; exact okB_right hr hsd
              subst hsd
              rw [hr]
              clear hr
              rcases BI.out with ⟨hb, _⟩ | ⟨n, hb, hn, _⟩
              · subst hb
                go_wp2_with fail
                go_quiet (fail)
                have GF : Aside (Gr W1 (w2.drewN nq)) := G2.out.drewN nq
                generalize w2.drewN nq = w3 at GF ⊢
                go_wp2
                go_roundg (l.length - (i + 1))
                case measure => omega
                case rel => exact ⟨i + 1, i, rfl, by go_num, by omega, Nat.le_refl _, BI.out.first OKI.out (by rw [ETI.out]), GF⟩
              · subst hb
                obtain ⟨g', o', eg, _, _, hn2⟩ := BB3.out n (by omega)
                injection eg with eg; injection eg with eg1 eg2; subst eg1; subst eg2
                obtain ⟨pn, epn⟩ : ∃ pn, (l.getD n (0, 0)).2 = pn := ⟨_, rfl⟩
                rw [epn] at hn2
                have EN : Aside ((l.getD n (0, 0)).2 = pn) := epn
                clear epn
                have z1 : ∀ q, (w2.drewN q).cell? ⟨g, o + i * 2 + 1, none⟩ = some (.int .i64 x2) := fun q => y2
                have zn : ∀ q, (w2.drewN q).cell? ⟨g, o + n * 2 + 1, none⟩ = some (.int .i64 pn) := fun q => hn2
                have hnl : (n : Int) < (l.length : Int) := by omega
                have hb0 : decide ((n : Int) < 0) = false := decide_eq_false (by omega)
                have hb1 : ¬ (n : Int) < 0 := by omega
                clear hn2
                rcases hs with rfl | rfl
                · by_cases hp : pn < x2
                  · have hd : decide (pn < x2) = true := decide_eq_true hp
                    go_wp2_with fail
                    go_quiet (fail)
                    have GF : Aside (Gr W1 (w2.drewN nq)) := G2.out.drewN nq
                    clear z1 zn
                    generalize w2.drewN nq = w3 at GF ⊢
                    go_wp2
                    go_roundg (l.length - (i + 1))
                    case measure => omega
                    case rel => exact ⟨i + 1, i, rfl, by go_num, by omega, Nat.le_refl _, BI.out.better OKI.out (by rw [ETI.out]) (by rw [E.out.2, EN.out]; simpa using hp), GF⟩
                  · have hd : decide (pn < x2) = false := decide_eq_false hp
                    go_wp2_with fail
                    go_quiet (fail)
                    have GF : Aside (Gr W1 (w2.drewN nq)) := G2.out.drewN nq
                    clear z1 zn
                    generalize w2.drewN nq = w3 at GF ⊢
                    go_wp2
                    go_roundg (l.length - (i + 1))
                    case measure => omega
                    case rel => exact ⟨i + 1, n, rfl, by go_num, by omega, Nat.le_refl _, BI.out.keep (by rw [E.out.2, EN.out]; simpa using hp), GF⟩
                · by_cases hp : x2 < pn
                  · have hd : decide (x2 < pn) = true := decide_eq_true hp
                    go_wp2_with fail
                    go_quiet (fail)
                    have GF : Aside (Gr W1 (w2.drewN nq)) := G2.out.drewN nq
                    clear z1 zn
                    generalize w2.drewN nq = w3 at GF ⊢
                    go_wp2
                    go_roundg (l.length - (i + 1))
                    case measure => omega
                    case rel => exact ⟨i + 1, i, rfl, by go_num, by omega, Nat.le_refl _, BI.out.better OKI.out (by rw [ETI.out]) (by rw [E.out.2, EN.out]; simpa using hp), GF⟩
                  · have hd : decide (x2 < pn) = false := decide_eq_false hp
                    go_wp2_with fail
                    go_quiet (fail)
                    have GF : Aside (Gr W1 (w2.drewN nq)) := G2.out.drewN nq
                    clear z1 zn
                    generalize w2.drewN nq = w3 at GF ⊢
                    go_wp2
                    go_roundg (l.length - (i + 1))
                    case measure => omega
                    case rel => exact ⟨i + 1, n, rfl, by go_num, by omega, Nat.le_refl _, BI.out.keep (by rw [E.out.2, EN.out]; simpa using hp), GF⟩
          · have hok : Aside (Clr.okB side (l.getD i (0, 0)) = false) := by
              show _ = _
              rw [EE.out]; exact okB_not hs (fun h => hsd h.2)
            have hsb : (x1 == side) = false := beq_eq_false_iff_ne.2 hsd
            rw [hr]
            cases ti with
            | true =>
              go_wp2
              go_roundg (l.length - (i + 1))
              case measure => omega
              case rel => exact ⟨i + 1, b, rfl, by go_num, by omega, Nat.le_refl _, BI.out.miss (Or.inl hok.out), G2⟩
            | false =>
              go_wp2
              go_roundg (l.length - (i + 1))
              case measure => omega
              case rel => exact ⟨i + 1, b, rfl, by go_num, by omega, Nat.le_refl _, BI.out.miss (Or.inl hok.out), G2⟩
        · have hr' : rightB (x1, x2) = false := by simpa using hr
          have hok : Aside (Clr.okB side (l.getD i (0, 0)) = false) := by
            show _ = _
            rw [EE.out]; exact okB_not hs (fun h => hr h.1)
          rw [hr']
          go_wp2
          go_roundg (l.length - (i + 1))
          case measure => omega
          case rel => exact ⟨i + 1, b, rfl, by go_num, by omega, Nat.le_refl _, BI.out.miss (Or.inl hok.out), G2⟩
      · have ei : i = l.length := by omega
        subst ei
        have T2 : Aside (BoolsAt wr w.heap.size tk) := (G.out.below.block _ T1.out.lt).trans T1.out
        have O2 : Aside (wr.ownsRow (w.heap.size + 1) 3 1 u5 m (((lineOf side l).take m).map (fun x => Value.int .i64 x.1))) := own_gr O1.out G.out
        have B2 : Aside (Below w.heap.size w wr) := B1.out.trans (G.out.below.mono B1.out.size)
        have BN : Aside _ := best_next hs hm TK.out BI.out
        clear O1 T1 B1 BB1 G BI
        rcases BN.out with ⟨rfl, em⟩ | ⟨n, rfl, hn, hmlt, en⟩
        · have EM : Aside (m = (lineOf side l).length) := em
          clear em BN
          go_wp2
          go_ret
          refine ⟨_, rfl, ?_, B2.out⟩
          have := O2.out
          rw [EM.out, List.take_length] at this
          exact own_base this (by omega)
        · have EN : Aside (((lineOf side l).getD m (-1, 0)).1 = (n : Int)) := en
          clear en BN
          have fz := T2.out.frozen n
          have cz := T2.out.cell (i := n) (by omega)
          have hnz : (n : Int) < (l.length : Int) := by omega
          have hb0 : ¬ (n : Int) < 0 := by omega
          obtain ⟨W3, hW3⟩ : ∃ W3, W3 = wr.setCell ⟨w.heap.size, n, none⟩ (.bool true) := ⟨_, rfl⟩
          have T3 : Aside (BoolsAt W3 w.heap.size (tk.set n true)) := by rw [hW3]; exact T2.out.set n true
          have g3 : wr.grownBy W3 (some w.heap.size) := by rw [hW3]; exact gb_set (gb_refl wr _) n _
          have O3 : Aside (W3.ownsRow (w.heap.size + 1) 3 1 u5 m (((lineOf side l).take m).map (fun x => Value.int .i64 x.1))) := World.ownsRow.kept O2.out g3 (by
            cases hc : Value.ownBlock u5 with
            | none => exact Or.inl rfl
            | some k => refine Or.inr (fun e => ?_); have := (World.ownsRow.lt O2.out k hc).1; injection e with e; omega)
          have B3 : Aside (Below w.heap.size w W3) := by rw [hW3]; exact B2.out.setCell (p := ⟨w.heap.size, n, none⟩) (Nat.le_refl _) _
          have TK3 : Aside (TakenIs side l (m + 1) (tk.set n true)) := TK.out.next hn EN.out
          obtain ⟨v2, W4, q2, O4, B4⟩ := append_int W3 (w.heap.size + 1) _ m _ n O3.out (by have := B3.out.size; have := T3.out.lt; omega) (by omega)
          have T4 : Aside (BoolsAt W4 w.heap.size (tk.set n true)) := (B4.block _ (by omega)).trans T3.out
          have hsz : W3.heap.size = wr.heap.size := by rw [hW3]; simp
          rw [hsz, hW3] at q2
          have Q2 : Aside _ := q2
          have BF : Aside (Below w.heap.size w W4) := B3.out.trans (B4.mono (by omega))
          have OF : Aside (W4.ownsRow (w.heap.size + 1) 3 1 v2 (m + 1) (((lineOf side l).take (m + 1)).map (fun x => Value.int .i64 x.1))) := by
            have e := congrArg (List.map (Value.int .i64)) (take_next hmlt EN.out)
            rw [List.map_map, List.map_append, List.map_map] at e
            have e' : ((lineOf side l).take (m + 1)).map (fun x => Value.int .i64 x.1) = ((lineOf side l).take m).map (fun x => Value.int .i64 x.1) ++ [Value.int .i64 (n : Int)] := e
            show W4.ownsRow _ _ _ _ _ _
            rw [e']; exact O4
          clear q2 T2 O2 B2 g3 hW3 hsz O4 B4 T3 O3 B3
          go_wp2_with (at_builtin; refine wpList_append_by rfl (.tmp 84) (.tmp 86) 39 rfl u5 (.slice (some ⟨wr.heap.size, 0, none⟩) 1 1) rfl rfl v2 W4 Q2.out ?_; refine Halted.out ?_)
          refine Halted.mk ?_
          go_wp2
          go_roundg ((lineOf side l).length + 1 - (m + 1))
          case measure => omega
          case rel => exact ⟨m + 1, _, by omega, Nat.le_refl _, OF, T4, TK3, BF⟩
#print axioms ordered_any
end Go.Proofs.Ytjfifaooimgbaaa
