import Derived.Test.YtjfifaooimgbaaaPick
import Derived.Test.YtjfifaooimgbaaaShare
/- The walk of sealbidref.ordered. -/
namespace Go.Proofs.Ytjfifaooimgbaaa
open Go.Shelf Go.RowKit Go.Lib Go.Sort

/-- 'append(out, p)' of a list of one's own. -/
theorem append_int (W : World) (base : Nat) (v : Value) (n : Nat) (xs : List Value) (p : Int) (ho : W.ownsRow base 3 1 v n xs) (hb : base ≤ W.heap.size) (hn : n ≤ 8796093022300) :
    ∃ v' W', (Builtin.append_ #[39, 39] 39 #[v, .slice (some ⟨W.heap.size, 0, none⟩) 1 1]).run Try.prog (W.alloc (.cells #[.int .i64 p] 3)) = .ok v' W' ∧ W'.ownsRow base 3 1 v' (n + 1) (xs ++ [.int .i64 p]) ∧ Below base W W' := by
  obtain ⟨i0, hi, hz0, hz1, hz2⟩ := info_parts Try.info3
  obtain ⟨v2, W2, r2, o2, g2, _⟩ := run_append_own (P := Try.prog) (W.alloc (.cells #[.int .i64 p] 3)) base 39 39 3 i0 (.int .i64 0) 1 8 Try.underlying39 hi hz0 hz1 hz2 rfl (by decide) v n xs (ho.alloc _) ⟨W.heap.size, 0, none⟩ 1 1 [.int .i64 p]
    rfl (fun t u hu => by
      match t, hu with
      | 0, hu => simp at hu; subst hu; simp [Addr.add]) (fun u hu => by simp at hu; subst hu; rfl) (by unfold maxLen; omega) (by omega) (by simp; omega)
  have b1 : Below base W (W.alloc (.cells #[.int .i64 p] 3)) := (Below.refl _ _).alloc hb _
  exact ⟨v2, W2, r2, o2, b1.grown g2 (Nat.le_trans hb b1.size) (fun k hk => (ho.lt k hk).1)⟩

set_option maxHeartbeats 400000 in
theorem rightR_any (x y : Int) (w : World) : Calls Try.prog 62 #[.agg #[.int .i64 x, .int .i64 y]] w fun e w' => e = .returned (.bool (rightB (x, y))) ∧ Gr w w' := by
  go_enter Try.func62, Try.ntmps62
  go_wp2
  all_goals
    go_ret
    refine ⟨ret_bool ?_, (Gr.refl w).alloc _⟩
    first | (simp [rightB, *]; done) | (simp [rightB, *]; omega)

theorem okB_right {side x1 x2 : Int} (h : rightB (x1, x2) = true) (hs : x1 = side) : Clr.okB side (x1, x2) = true := by
  simp only [rightB, Bool.and_eq_true, decide_eq_true_eq] at h
  subst hs
  simp [Clr.okB, h.1.2, h.2]
theorem okB_not {side x1 x2 : Int} (hss : side = 0 ∨ side = 1) (h : ¬ (rightB (x1, x2) = true ∧ x1 = side)) : Clr.okB side (x1, x2) = false := by
  cases hc : Clr.okB side (x1, x2) with
  | false => rfl
  | true =>
    exfalso
    apply h
    simp only [Clr.okB, Bool.and_eq_true, beq_iff_eq, decide_eq_true_eq] at hc
    refine ⟨?_, hc.1⟩
    rcases hss with rfl | rfl <;> simp [rightB, hc.1, hc.2.1, hc.2.2]

set_option maxHeartbeats 8000000 in
set_option maxRecDepth 100000 in
theorem ordered_any (side : Int) (hs : side = 0 ∨ side = 1) (l : List (Int × Int)) (a : Option Addr) (cap : Nat) (w : World) (hB : BidsAt w a l) (hl : l.length ≤ 8796093022208) :
    Calls Try.prog 42 #[.slice a l.length cap, .int .i64 side] w fun e w' => ∃ v, e = .returned v ∧ w'.ownsRow w.heap.size 3 1 v (lineOf side l).length ((lineOf side l).map (fun x => Value.int .i64 x.1)) ∧ Below w.heap.size w w' := by
  have mixed : Try.prog.follows .mixedOrders = true := by kernel_rfl
  have HB : Aside _ := hB
  clear hB
  have hll := line_le side hs l
  have hmk := make_bools l.length w hl
  obtain ⟨W0, hW0⟩ : ∃ W0, W0 = w.alloc (.cells ((List.replicate l.length false).map Value.bool).toArray 4) := ⟨_, rfl⟩
  rw [← hW0] at hmk
  have T0 : Aside (BoolsAt W0 w.heap.size (List.replicate l.length false)) := by
    show BoolsAt W0 w.heap.size (List.replicate l.length false)
    rw [hW0]; show (w.heap.push _)[w.heap.size]? = _
    simp
  have B0 : Aside (Below w.heap.size w W0) := by rw [hW0]; exact below_alloc w _
  have s0 : Aside (w.heap.size + 1 ≤ W0.heap.size) := by rw [hW0]; show _ ≤ _; simp
  clear hW0
  go_enter Try.func42, Try.ntmps42
  go_wp2_with fail
  clear hmk
  go_loopg [5] ((lineOf side l).length + 1) (fun kx s wr => ∃ (m : Nat) (tk : List Bool), m ≤ (lineOf side l).length ∧ (lineOf side l).length + 1 - m ≤ kx ∧ Aside (wr.ownsRow (w.heap.size + 1) 3 1 s m (((lineOf side l).take m).map (fun x => Value.int .i64 x.1))) ∧ Aside (BoolsAt wr w.heap.size tk) ∧ Aside (TakenIs side l m tk) ∧ Aside (Below w.heap.size w wr))
  case atStart => exact ⟨0, _, Nat.zero_le _, by omega, World.ownsRow_nil _ _ _ _, T0, TakenIs.start _ _, B0⟩
  case round =>
    obtain ⟨m, tk, hm, hkx, O1, T1, TK, B1⟩ := hrel
    obtain ⟨W1, rfl⟩ : ∃ W1, W1 = wr := ⟨_, rfl⟩
    have BB1 : Aside (BidsAt W1 a l) := BidsAt.up HB.out B1.out
    have htk := TK.out.1
    go_wp2_with fail
    go_loopg [7, 8] l.length (fun kx s t wq => ∃ (i : Nat) (b : Int), s = .int .i64 b ∧ t = .int .i64 i ∧ i ≤ l.length ∧ l.length - i ≤ kx ∧ Aside (BestIs side l tk i b) ∧ Aside (Gr W1 wq))
    case atStart => exact ⟨0, -1, rfl, rfl, Nat.zero_le _, by omega, BestIs.start _ _ _, Gr.refl _⟩
    case round =>
      obtain ⟨i, b, rfl, rfl, hi, hkx2, BI, G⟩ := hrel
      by_cases hlt : i < l.length
      · have hltz : (i : Int) < (l.length : Int) := by omega
        have BB2 : Aside (BidsAt wr a l) := BidsAt.up BB1.out G.out.below
        obtain ⟨g, o, rfl, hgl, hx1, hx2⟩ := BB2.out i hlt
        obtain ⟨x1, e1⟩ : ∃ x, (l.getD i (0, 0)).1 = x := ⟨_, rfl⟩
        obtain ⟨x2, e2⟩ : ∃ x, (l.getD i (0, 0)).2 = x := ⟨_, rfl⟩
        rw [e1] at hx1
        rw [e2] at hx2
        have E : Aside ((l.getD i (0, 0)).1 = x1 ∧ (l.getD i (0, 0)).2 = x2) := ⟨e1, e2⟩
        clear e1 e2
        go_wp2_with fail
        refine (rightR_any x1 x2 wr).mono ?_
        rintro e w2 ⟨rfl, G2a⟩
        have G2 : Aside (Gr W1 w2) := G.out.trans G2a
        have BB3 : Aside (BidsAt w2 (some ⟨g, o, none⟩) l) := BidsAt.up BB2.out G2a.below
        have T2 : Aside (BoolsAt w2 w.heap.size tk) := (G2.out.below.block _ T1.out.lt).trans T1.out
        have y1 := Gr.cell G2a hgl hx1
        have y2 := Gr.cell G2a hgl hx2
        have t1 := T2.out.cell (i := i) (by omega)
        obtain ⟨ti, eti⟩ : ∃ ti, tk.getD i false = ti := ⟨_, rfl⟩
        rw [eti] at t1
        have ETI : Aside (tk.getD i false = ti) := eti
        have EE : Aside (l.getD i (0, 0) = (x1, x2)) := Prod.ext E.out.1 E.out.2
        clear eti G2a hx1 hx2 BB2 G
        by_cases hr : rightB (x1, x2) = true
        · by_cases hsd : x1 = side
          · cases ti with
            | true =>
              rw [hr]
              go_wp2
              go_roundg (l.length - (i + 1))
              case measure => omega
              case rel => exact ⟨i + 1, b, rfl, by go_num, by omega, Nat.le_refl _, BI.out.miss (Or.inr ETI.out), G2⟩
            | false =>
              have OKI : Aside (Clr.okB side (l.getD i (0, 0)) = true) := by
                show _ = _
                rw [EE.out]; exact okB_right hr hsd
              subst hsd
              rw [hr]
              clear hr
              rcases BI.out with ⟨hb, _⟩ | ⟨n, hb, hn, _⟩
              · subst hb
                go_wp2_with fail
                go_quiet (fail)
                have GF : Aside (Gr W1 (w2.drewN nq)) := G2.out.drewN nq
                generalize w2.drewN nq = w3 at GF ⊢
                go_wp2
                go_roundg (l.length - (i + 1))
                case measure => omega
                case rel => exact ⟨i + 1, i, rfl, by go_num, by omega, Nat.le_refl _, BI.out.first OKI.out (by rw [ETI.out]), GF⟩
              · subst hb
                obtain ⟨g', o', eg, _, _, hn2⟩ := BB3.out n (by omega)
                injection eg with eg; injection eg with eg1 eg2; subst eg1; subst eg2
                obtain ⟨pn, epn⟩ : ∃ pn, (l.getD n (0, 0)).2 = pn := ⟨_, rfl⟩
                rw [epn] at hn2
                have EN : Aside ((l.getD n (0, 0)).2 = pn) := epn
                clear epn
                have z1 : ∀ q, (w2.drewN q).cell? ⟨g, o + i * 2 + 1, none⟩ = some (.int .i64 x2) := fun q => y2
                have zn : ∀ q, (w2.drewN q).cell? ⟨g, o + n * 2 + 1, none⟩ = some (.int .i64 pn) := fun q => hn2
                have hnl : (n : Int) < (l.length : Int) := by omega
                have hb0 : decide ((n : Int) < 0) = false := decide_eq_false (by omega)
                have hb1 : ¬ (n : Int) < 0 := by omega
                clear hn2
                rcases hs with rfl | rfl
                · by_cases hp : pn < x2
                  · have hd : decide (pn < x2) = true := decide_eq_true hp
                    go_wp2_with fail
                    go_quiet (fail)
                    have GF : Aside (Gr W1 (w2.drewN nq)) := G2.out.drewN nq
                    clear z1 zn
                    generalize w2.drewN nq = w3 at GF ⊢
                    go_wp2
                    go_roundg (l.length - (i + 1))
                    case measure => omega
                    case rel => exact ⟨i + 1, i, rfl, by go_num, by omega, Nat.le_refl _, BI.out.better OKI.out (by rw [ETI.out]) (by rw [E.out.2, EN.out]; simpa using hp), GF⟩
                  · have hd : decide (pn < x2) = false := decide_eq_false hp
                    go_wp2_with fail
                    go_quiet (fail)
                    have GF : Aside (Gr W1 (w2.drewN nq)) := G2.out.drewN nq
                    clear z1 zn
                    generalize w2.drewN nq = w3 at GF ⊢
                    go_wp2
                    go_roundg (l.length - (i + 1))
                    case measure => omega
                    case rel => exact ⟨i + 1, n, rfl, by go_num, by omega, Nat.le_refl _, BI.out.keep (by rw [E.out.2, EN.out]; simpa using hp), GF⟩
                · by_cases hp : x2 < pn
                  · have hd : decide (x2 < pn) = true := decide_eq_true hp
                    go_wp2_with fail
                    go_quiet (fail)
                    have GF : Aside (Gr W1 (w2.drewN nq)) := G2.out.drewN nq
                    clear z1 zn
                    generalize w2.drewN nq = w3 at GF ⊢
                    go_wp2
                    go_roundg (l.length - (i + 1))
                    case measure => omega
                    case rel => exact ⟨i + 1, i, rfl, by go_num, by omega, Nat.le_refl _, BI.out.better OKI.out (by rw [ETI.out]) (by rw [E.out.2, EN.out]; simpa using hp), GF⟩
                  · have hd : decide (x2 < pn) = false := decide_eq_false hp
                    go_wp2_with fail
                    go_quiet (fail)
                    have GF : Aside (Gr W1 (w2.drewN nq)) := G2.out.drewN nq
                    clear z1 zn
                    generalize w2.drewN nq = w3 at GF ⊢
                    go_wp2
                    go_roundg (l.length - (i + 1))
                    case measure => omega
                    case rel => exact ⟨i + 1, n, rfl, by go_num, by omega, Nat.le_refl _, BI.out.keep (by rw [E.out.2, EN.out]; simpa using hp), GF⟩
          · have hok : Aside (Clr.okB side (l.getD i (0, 0)) = false) := by
              show _ = _
              rw [EE.out]; exact okB_not hs (fun h => hsd h.2)
            have hsb : (x1 == side) = false := beq_eq_false_iff_ne.2 hsd
            rw [hr]
            cases ti with
            | true =>
              go_wp2
              go_roundg (l.length - (i + 1))
              case measure => omega
              case rel => exact ⟨i + 1, b, rfl, by go_num, by omega, Nat.le_refl _, BI.out.miss (Or.inl hok.out), G2⟩
            | false =>
              go_wp2
              go_roundg (l.length - (i + 1))
              case measure => omega
              case rel => exact ⟨i + 1, b, rfl, by go_num, by omega, Nat.le_refl _, BI.out.miss (Or.inl hok.out), G2⟩
        · have hr' : rightB (x1, x2) = false := by simpa using hr
          have hok : Aside (Clr.okB side (l.getD i (0, 0)) = false) := by
            show _ = _
            rw [EE.out]; exact okB_not hs (fun h => hr h.1)
          rw [hr']
          go_wp2
          go_roundg (l.length - (i + 1))
          case measure => omega
          case rel => exact ⟨i + 1, b, rfl, by go_num, by omega, Nat.le_refl _, BI.out.miss (Or.inl hok.out), G2⟩
      · have ei : i = l.length := by omega
        subst ei
        have T2 : Aside (BoolsAt wr w.heap.size tk) := (G.out.below.block _ T1.out.lt).trans T1.out
        have O2 : Aside (wr.ownsRow (w.heap.size + 1) 3 1 u5 m (((lineOf side l).take m).map (fun x => Value.int .i64 x.1))) := own_gr O1.out G.out
        have B2 : Aside (Below w.heap.size w wr) := B1.out.trans (G.out.below.mono B1.out.size)
        have BN : Aside _ := best_next hs hm TK.out BI.out
        clear O1 T1 B1 BB1 G BI
        rcases BN.out with ⟨rfl, em⟩ | ⟨n, rfl, hn, hmlt, en⟩
        · have EM : Aside (m = (lineOf side l).length) := em
          clear em BN
          go_wp2
          go_ret
          refine ⟨_, rfl, ?_, B2.out⟩
          have := O2.out
          rw [EM.out, List.take_length] at this
          exact own_base this (by omega)
        · have EN : Aside (((lineOf side l).getD m (-1, 0)).1 = (n : Int)) := en
          clear en BN
          have fz := T2.out.frozen n
          have cz := T2.out.cell (i := n) (by omega)
          have hnz : (n : Int) < (l.length : Int) := by omega
          have hb0 : ¬ (n : Int) < 0 := by omega
          obtain ⟨W3, hW3⟩ : ∃ W3, W3 = wr.setCell ⟨w.heap.size, n, none⟩ (.bool true) := ⟨_, rfl⟩
          have T3 : Aside (BoolsAt W3 w.heap.size (tk.set n true)) := by rw [hW3]; exact T2.out.set n true
          have g3 : wr.grownBy W3 (some w.heap.size) := by rw [hW3]; exact gb_set (gb_refl wr _) n _
          have O3 : Aside (W3.ownsRow (w.heap.size + 1) 3 1 u5 m (((lineOf side l).take m).map (fun x => Value.int .i64 x.1))) := World.ownsRow.kept O2.out g3 (by
            cases hc : Value.ownBlock u5 with
            | none => exact Or.inl rfl
            | some k => refine Or.inr (fun e => ?_); have := (World.ownsRow.lt O2.out k hc).1; injection e with e; omega)
          have B3 : Aside (Below w.heap.size w W3) := by rw [hW3]; exact B2.out.setCell (p := ⟨w.heap.size, n, none⟩) (Nat.le_refl _) _
          have TK3 : Aside (TakenIs side l (m + 1) (tk.set n true)) := TK.out.next hn EN.out
          obtain ⟨v2, W4, q2, O4, B4⟩ := append_int W3 (w.heap.size + 1) _ m _ n O3.out (by have := B3.out.size; have := T3.out.lt; omega) (by omega)
          have T4 : Aside (BoolsAt W4 w.heap.size (tk.set n true)) := (B4.block _ (by omega)).trans T3.out
          have hsz : W3.heap.size = wr.heap.size := by rw [hW3]; simp
          rw [hsz, hW3] at q2
          have Q2 : Aside _ := q2
          have BF : Aside (Below w.heap.size w W4) := B3.out.trans (B4.mono (by omega))
          have OF : Aside (W4.ownsRow (w.heap.size + 1) 3 1 v2 (m + 1) (((lineOf side l).take (m + 1)).map (fun x => Value.int .i64 x.1))) := by
            have e := congrArg (List.map (Value.int .i64)) (take_next hmlt EN.out)
            rw [List.map_map, List.map_append, List.map_map] at e
            have e' : ((lineOf side l).take (m + 1)).map (fun x => Value.int .i64 x.1) = ((lineOf side l).take m).map (fun x => Value.int .i64 x.1) ++ [Value.int .i64 (n : Int)] := e
            show W4.ownsRow _ _ _ _ _ _
            rw [e']; exact O4
          clear q2 T2 O2 B2 g3 hW3 hsz O4 B4 T3 O3 B3
          go_wp2_with (at_builtin; refine wpList_append_by rfl (.tmp 84) (.tmp 86) 39 rfl u5 (.slice (some ⟨wr.heap.size, 0, none⟩) 1 1) rfl rfl v2 W4 Q2.out ?_; refine Halted.out ?_)
          refine Halted.mk ?_
          go_wp2
          go_roundg ((lineOf side l).length + 1 - (m + 1))
          case measure => omega
          case rel => exact ⟨m + 1, _, by omega, Nat.le_refl _, OF, T4, TK3, BF⟩
end Go.Proofs.Ytjfifaooimgbaaa
/- A share, divided bit by bit: no program in this text. -/
namespace Go.Proofs.Ytjfifaooimgbaaa.Flt
open Ieee

/-- N / b, to the nearest whole number; between two, to the even one. -/
def halfEven (N b : Nat) : Nat := N / b + (decide (b < 2 * (N % b)) || (b == 2 * (N % b) && N / b % 2 == 1)).toNat

theorem nearest_cut (mag L drop : Nat) (place : Int) (h0 : 0 < mag) (hL : mag.log2 = L) (hd : L = 52 + drop) (hp : -1000 ≤ place) (hp2 : place + (L : Int) ≤ 100) (hm : mag < 9007199254740992 * 2 ^ drop) :
    double.nearest false mag place = (place + (drop : Int) + 1074).toNat * 4503599627370496 + Toward.even.cut false mag drop := by
  have hk : mag / 2 ^ drop ≤ 9007199254740991 := by
    have := div_lt_of (Nat.pow_pos (n := drop) (show 0 < 2 by omega)) hm
    omega
  have hc := cut_le mag drop 9007199254740991 (by omega) hk
  unfold Format.nearest
  rw [if_neg (by omega), d_frac, d_least, d_binade, d_inf, hL]
  have e1 : max (place + (L : Int) - ((52 : Nat) : Int)) (-1074) = place + (drop : Int) := by omega
  have e2 : (place - (place + (drop : Int))).toNat = 0 := by omega
  have e3 : (place + (drop : Int) - place).toNat = drop := by omega
  have e4 : (place + (drop : Int) - -1074).toNat = (place + (drop : Int) + 1074).toNat := by omega
  simp only [e1, e2, e3, e4, Nat.shiftLeft_zero]
  rw [Nat.min_eq_left (by have := hc.1; omega)]
  rfl

theorem cut_even (n drop : Nat) (hk : drop ≤ n.log2 + 2) : Toward.even.cut false n drop = n / 2 ^ drop + (decide (2 ^ drop < 2 * (n % 2 ^ drop)) || (2 ^ drop == 2 * (n % 2 ^ drop) && n / 2 ^ drop % 2 == 1)).toNat := by
  unfold Toward.cut
  rw [Nat.min_eq_left hk, Nat.shiftLeft_eq, Nat.one_mul]

theorem scaled (N b d : Nat) (hb : 0 < b) : N * d / b = N / b * d + (N % b) * d / b ∧ N * d % b = (N % b) * d % b := by
  have e : N * d = b * (N / b * d) + (N % b) * d := by
    conv => lhs; rw [← Nat.div_add_mod N b]
    rw [Nat.add_mul, Nat.mul_assoc]
  rw [e]
  exact ⟨Nat.mul_add_div hb _ _, Nat.mul_add_mod _ _ _⟩

theorem round3 (N b : Nat) (hb : 0 < b) (hk : 3 ≤ (2 * (N * 4 / b) + (N * 4 % b != 0).toNat).log2 + 2) : Toward.even.cut false (2 * (N * 4 / b) + (N * 4 % b != 0).toNat) 3 = halfEven N b := by
  rw [cut_even _ _ hk]
  obtain ⟨s1, s2⟩ := scaled N b 4 hb
  rw [s1, s2]
  have hr : N % b < b := Nat.mod_lt _ hb
  unfold halfEven
  generalize N / b = q
  generalize N % b = r at hr
  have h4 := Nat.div_add_mod (r * 4) b
  have hm : r * 4 % b < b := Nat.mod_lt _ hb
  have hd : r * 4 / b < 4 := div_lt_of hb (by omega)
  generalize r * 4 % b = m at h4 hm
  generalize r * 4 / b = t at h4 hd
  have e3 : (2 : Nat) ^ 3 = 8 := rfl
  rw [e3]
  have hst : (m != 0).toNat = 0 ∧ m = 0 ∨ (m != 0).toNat = 1 ∧ 0 < m := by
    by_cases h : m = 0
    · left; subst h; exact ⟨rfl, rfl⟩
    · right; exact ⟨by simp [h], by omega⟩
  generalize (m != 0).toNat = st at hst
  have ed : (2 * (q * 4 + t) + st) / 8 = q := by omega
  have em : (2 * (q * 4 + t) + st) % 8 = 2 * t + st := by omega
  rw [ed, em]
  congr 2
  have ht : t = 0 ∨ t = 1 ∨ t = 2 ∨ t = 3 := by omega
  have c1 : decide (8 < 2 * (2 * t + st)) = decide (b < 2 * r) := by
    apply decide_eq_decide.2
    rcases ht with rfl | rfl | rfl | rfl <;> rcases hst with ⟨rfl, h⟩ | ⟨rfl, h⟩ <;> omega
  have c2 : (8 == 2 * (2 * t + st)) = (b == 2 * r) := by
    rw [Bool.eq_iff_iff, beq_iff_eq, beq_iff_eq]
    rcases ht with rfl | rfl | rfl | rfl <;> rcases hst with ⟨rfl, h⟩ | ⟨rfl, h⟩ <;> omega
  rw [c1, c2]

theorem round2 (N b : Nat) (hb : 0 < b) (hk : 2 ≤ (2 * (N * 2 / b) + (N * 2 % b != 0).toNat).log2 + 2) : Toward.even.cut false (2 * (N * 2 / b) + (N * 2 % b != 0).toNat) 2 = halfEven N b := by
  rw [cut_even _ _ hk]
  obtain ⟨s1, s2⟩ := scaled N b 2 hb
  rw [s1, s2]
  have hr : N % b < b := Nat.mod_lt _ hb
  unfold halfEven
  generalize N / b = q
  generalize N % b = r at hr
  have h4 := Nat.div_add_mod (r * 2) b
  have hm : r * 2 % b < b := Nat.mod_lt _ hb
  have hd : r * 2 / b < 2 := div_lt_of hb (by omega)
  generalize r * 2 % b = m at h4 hm
  generalize r * 2 / b = t at h4 hd
  have e3 : (2 : Nat) ^ 2 = 4 := rfl
  rw [e3]
  have hst : (m != 0).toNat = 0 ∧ m = 0 ∨ (m != 0).toNat = 1 ∧ 0 < m := by
    by_cases h : m = 0
    · left; subst h; exact ⟨rfl, rfl⟩
    · right; exact ⟨by simp [h], by omega⟩
  generalize (m != 0).toNat = st at hst
  have ed : (2 * (q * 2 + t) + st) / 4 = q := by omega
  have em : (2 * (q * 2 + t) + st) % 4 = 2 * t + st := by omega
  rw [ed, em]
  congr 2
  have ht : t = 0 ∨ t = 1 := by omega
  have c1 : decide (4 < 2 * (2 * t + st)) = decide (b < 2 * r) := by
    apply decide_eq_decide.2
    rcases ht with rfl | rfl <;> rcases hst with ⟨rfl, h⟩ | ⟨rfl, h⟩ <;> omega
  have c2 : (4 == 2 * (2 * t + st)) = (b == 2 * r) := by
    rw [Bool.eq_iff_iff, beq_iff_eq, beq_iff_eq]
    rcases ht with rfl | rfl <;> rcases hst with ⟨rfl, h⟩ | ⟨rfl, h⟩ <;> omega
  rw [c1, c2]

theorem e_unique {a b e e' : Nat} (h1 : b ≤ a * 2 ^ e) (h2' : a * 2 ^ e' < 2 * b) : e' ≤ e := by
  rcases Nat.lt_or_ge e e' with h | h
  · exfalso
    have : a * 2 ^ (e + 1) ≤ a * 2 ^ e' := Nat.mul_le_mul_left _ (Nat.pow_le_pow_right (by omega) h)
    rw [Nat.pow_succ, ← Nat.mul_assoc] at this
    omega
  · exact h

theorem quoMag_scaled (A b t D : Nat) (ht : 0 < t) (m : Nat) (hm : m * 18014398509481984 = A * D * t) : quoMag m (b * t) = 2 * (A * D / b) + (A * D % b != 0).toNat := by
  unfold quoMag
  rw [hm, Nat.mul_div_mul_right _ _ ht, Nat.mul_mod_mul_right]
  congr 2
  by_cases h : A * D % b = 0
  · rw [h]; simp
  · have : A * D % b * t ≠ 0 := Nat.mul_ne_zero h (by omega)
    rw [bne_iff_ne.2 h, bne_iff_ne.2 this]

theorem share_bits (a b e : Nat) (ha : 0 < a) (hab : a ≤ b) (hb : b < 9007199254740992) (h1 : b ≤ a * 2 ^ e) (h2 : a * 2 ^ e < 2 * b) :
    double.div (floatOfInt .f64 (a : Int)) (floatOfInt .f64 (b : Int)) = some ((1022 - e) * 4503599627370496 + halfEven (a * 2 ^ e * 4503599627370496) b) := by
  rw [div_whole a b ha (by omega) (by omega) hb]
  congr 1
  have ma := sig_bd a ha (by omega)
  have mb := sig_bd b (by omega) hb
  have la := log2_lt a ha (by omega)
  have lb := log2_lt b (by omega) hb
  have hlog : a.log2 ≤ b.log2 := by
    have h1 := log2_bd a ha
    have h2 := log2_bd b (by omega)
    rcases Nat.lt_or_ge b.log2 a.log2 with h | h
    · exfalso
      have : 2 ^ (b.log2 + 1) ≤ 2 ^ a.log2 := Nat.pow_le_pow_right (by omega) h
      omega
    · exact h
  obtain ⟨t, ht⟩ : ∃ t, t = 2 ^ (52 - b.log2) := ⟨_, rfl⟩
  have ht0 : 0 < t := by rw [ht]; exact Nat.pow_pos (by omega)
  have sb : sig b = b * t := by rw [ht]; rfl
  have sa : sig a = a * 2 ^ (b.log2 - a.log2) * t := by
    unfold sig
    rw [ht, Nat.mul_assoc, ← Nat.pow_add, show b.log2 - a.log2 + (52 - b.log2) = 52 - a.log2 by omega]
  by_cases hs : sig b ≤ sig a
  · have g1 : b ≤ a * 2 ^ (b.log2 - a.log2) := by
      rw [sa, sb] at hs; exact Nat.le_of_mul_le_mul_right hs ht0
    have g2 : a * 2 ^ (b.log2 - a.log2) < 2 * b := by
      have : a * 2 ^ (b.log2 - a.log2) * t < (2 * b) * t := by rw [← sa, Nat.mul_assoc, ← sb]; omega
      exact Nat.lt_of_mul_lt_mul_right this
    have ee : e = b.log2 - a.log2 := Nat.le_antisymm (e_unique g1 h2) (e_unique h1 g2)
    rw [← ee] at sa
    generalize hA : a * 2 ^ e = A at *
    have hq : quoMag (sig a) (sig b) = 2 * (A * 18014398509481984 / b) + (A * 18014398509481984 % b != 0).toNat := by
      rw [sb]; exact quoMag_scaled A b t 18014398509481984 ht0 (sig a) (by rw [sa, Nat.mul_right_comm])
    have hN : A * 18014398509481984 = A * 4503599627370496 * 4 := by omega
    have q1 : 18014398509481984 ≤ A * 18014398509481984 / b := le_div_of (by omega) (by rw [Nat.mul_comm]; exact Nat.mul_le_mul_right _ h1)
    have q2 : A * 18014398509481984 / b < 36028797018963968 := div_lt_of (by omega) (by omega)
    have hst : (A * 18014398509481984 % b != 0).toNat ≤ 1 := by cases (A * 18014398509481984 % b != 0) <;> simp
    rw [hq]
    have hL : (2 * (A * 18014398509481984 / b) + (A * 18014398509481984 % b != 0).toNat).log2 = 55 := log2_of (by omega) (by omega)
    rw [nearest_cut _ 55 3 _ (by omega) hL rfl (by omega) (by omega) (by omega)]
    rw [hN] at hL ⊢
    rw [round3 _ b (by omega) (by omega)]
    congr 2
    omega
  · have g1 : b ≤ a * 2 ^ (b.log2 - a.log2 + 1) := by
      have : b * t ≤ a * 2 ^ (b.log2 - a.log2 + 1) * t := by
        rw [← sb, Nat.pow_succ, ← Nat.mul_assoc, Nat.mul_right_comm, ← sa]; omega
      exact Nat.le_of_mul_le_mul_right this ht0
    have g2 : a * 2 ^ (b.log2 - a.log2 + 1) < 2 * b := by
      have : a * 2 ^ (b.log2 - a.log2 + 1) * t < (2 * b) * t := by
        rw [Nat.pow_succ, ← Nat.mul_assoc, Nat.mul_right_comm, ← sa, Nat.mul_assoc, ← sb]; omega
      exact Nat.lt_of_mul_lt_mul_right this
    have ee : e = b.log2 - a.log2 + 1 := Nat.le_antisymm (e_unique g1 h2) (e_unique h1 g2)
    have sa2 : sig a * 2 = a * 2 ^ e * t := by
      rw [ee, Nat.pow_succ, ← Nat.mul_assoc, Nat.mul_right_comm _ 2 t, ← sa]
    generalize hA : a * 2 ^ e = A at *
    have hq : quoMag (sig a) (sig b) = 2 * (A * 9007199254740992 / b) + (A * 9007199254740992 % b != 0).toNat := by
      rw [sb]; exact quoMag_scaled A b t 9007199254740992 ht0 (sig a) (by rw [Nat.mul_right_comm A, ← sa2]; omega)
    have hN : A * 9007199254740992 = A * 4503599627370496 * 2 := by omega
    have q1 : 9007199254740992 ≤ A * 9007199254740992 / b := le_div_of (by omega) (by rw [Nat.mul_comm]; exact Nat.mul_le_mul_right _ h1)
    have q2 : A * 9007199254740992 / b < 18014398509481984 := div_lt_of (by omega) (by omega)
    have hst : (A * 9007199254740992 % b != 0).toNat ≤ 1 := by cases (A * 9007199254740992 % b != 0) <;> simp
    rw [hq]
    have hL : (2 * (A * 9007199254740992 / b) + (A * 9007199254740992 % b != 0).toNat).log2 = 54 := log2_of (by omega) (by omega)
    rw [nearest_cut _ 54 2 _ (by omega) hL rfl (by omega) (by omega) (by omega)]
    rw [hN] at hL ⊢
    rw [round2 _ b (by omega) (by omega)]
    congr 2
    omega
end Go.Proofs.Ytjfifaooimgbaaa.Flt
/- The walk of sealbidref.share. -/
namespace Go.Proofs.Ytjfifaooimgbaaa
open Go.Shelf Go.RowKit Go.Lib Go.Sort

theorem vint {k : IntKind} {a b : Int} (h : a = b) : Value.int k a = Value.int k b := by rw [h]
theorem half_of (A b q r C : Nat) (hb : 0 < b) (hr : r < 2 * b) (h : A * (C * 2) = 2 * b * q + r) : Flt.halfEven (A * C) b = q + (decide (b < r) || (b == r && q % 2 == 1)).toNat := by
  have h2 : A * C * 2 = 2 * (b * q) + r := by rw [← Nat.mul_assoc, Nat.mul_assoc 2 b q] at h; exact h
  obtain ⟨r2, hr2⟩ : ∃ r2, r = 2 * r2 := ⟨r / 2, by omega⟩
  have h3 : A * C = b * q + r2 := by omega
  have hd : A * C / b = q := by rw [h3, Nat.mul_add_div hb, Nat.div_eq_of_lt (show r2 < b by omega), Nat.add_zero]
  have hm : A * C % b = r2 := by rw [h3, Nat.mul_add_mod, Nat.mod_eq_of_lt (show r2 < b by omega)]
  unfold Flt.halfEven
  rw [hd, hm, hr2]
theorem p53 : (2 : Nat) ^ 53 = 4503599627370496 * 2 := by decide
theorem e_small {a b e : Nat} (ha : 0 < a) (hb : b < 9007199254740992) (h : a * 2 ^ e < 2 * b) : e < 54 := by
  rcases Nat.lt_or_ge e 54 with h1 | h1
  · exact h1
  · exfalso
    have p : 2 ^ 54 ≤ 2 ^ e := Nat.pow_le_pow_right (by omega) h1
    have : 1 * 2 ^ e ≤ a * 2 ^ e := Nat.mul_le_mul_right _ ha
    omega

set_option maxHeartbeats 400000 in
set_option maxRecDepth 100000 in
theorem rshare_any (a b : Nat) (w : World) (ha : 0 < a) (hab : a ≤ b) (hb : b < 9007199254740992) :
    Calls Try.prog 43 #[.int .i64 a, .int .i64 b] w fun e w' => e = .returned (.int .u64 (shareB a b : Nat)) ∧ w' = w := by
  go_enter Try.func43, Try.ntmps43
  go_wp2_with fail
  go_loopg [0, 5] 54 (fun kx s t wq => ∃ e A : Nat, s = .int .i64 A ∧ t = .int .i64 (1023 - (e : Int)) ∧ A < 2 * b ∧ e ≤ 53 ∧ 54 - e ≤ kx ∧ wq = w ∧ Aside (A = a * 2 ^ e))
  case atStart => exact ⟨0, a, rfl, rfl, by omega, by omega, by omega, rfl, (by rw [Nat.pow_zero, Nat.mul_one] : a = a * 2 ^ 0)⟩
  case round =>
    obtain ⟨e, A, rfl, rfl, hA, he, hkx, rfl, EA⟩ := hrel
    by_cases hlt : A < b
    · have hltz : (A : Int) < (b : Int) := by omega
      go_wp2
      go_roundg (54 - (e + 1))
      case measure => omega
      case rel =>
        have e1 : 2 * A = a * 2 ^ (e + 1) := by rw [EA.out, Nat.pow_succ, Nat.mul_comm 2, Nat.mul_assoc]
        have := e_small (e := e + 1) ha hb (by rw [← e1]; omega)
        exact ⟨e + 1, 2 * A, vint (by omega), vint (by omega), by omega, by omega, Nat.le_refl _, rfl, e1⟩
    · have hltz : ¬ (A : Int) < (b : Int) := by omega
      have SB : Aside (shareB a b = (1022 - e) * 4503599627370496 + Flt.halfEven (A * 4503599627370496) b) := by
        have h := Flt.share_bits a b e ha hab hb (by rw [← EA.out]; omega) (by rw [← EA.out]; exact hA)
        rw [← EA.out] at h
        show shareB a b = _
        unfold shareB
        rw [if_neg (by omega), h, Option.getD_some]
      have hA1 : b ≤ A := by omega
      have hn : ((1023 : Int) - e - 1) = ((1022 - e : Nat) : Int) := by omega
      clear EA
      go_wp2_with fail
      go_loopg [0, 6, 7] 53 (fun kx s t u wq => ∃ i q r : Nat, s = .int .i64 r ∧ t = .int .i64 q ∧ u = .int .i64 i ∧ r < 2 * b ∧ i ≤ 53 ∧ 53 - i ≤ kx ∧ wq = wr ∧ Aside (A * 2 ^ i = 2 * b * q + r))
      case atStart => exact ⟨0, 0, A, rfl, rfl, rfl, hA, by omega, by omega, rfl, (by rw [Nat.pow_zero, Nat.mul_one, Nat.mul_zero, Nat.zero_add] : A * 2 ^ 0 = 2 * b * 0 + A)⟩
      case round =>
        obtain ⟨i, q, r, rfl, rfl, rfl, hr, hi, hkx2, rfl, IQ⟩ := hrel
        have hq : q ≤ 9007199254740992 := by
          have h1 : A * 2 ^ i ≤ (2 * b) * 2 ^ i := Nat.mul_le_mul_right _ (by omega)
          have h2 : 2 ^ i ≤ 2 ^ 53 := Nat.pow_le_pow_right (by omega) hi
          have h3 : (2 * b) * q ≤ (2 * b) * 2 ^ i := by rw [IQ.out] at h1; omega
          have h4 := Nat.le_of_mul_le_mul_left h3 (by omega)
          omega
        by_cases hi53 : i < 53
        · have hiz : (i : Int) < 53 := by omega
          have hq2 : q < 9007199254740992 / 2 + 1 := by
            have h1 : A * 2 ^ i ≤ (2 * b) * 2 ^ i := Nat.mul_le_mul_right _ (by omega)
            have h2 : 2 ^ i ≤ 2 ^ 52 := Nat.pow_le_pow_right (by omega) (by omega)
            have h3 : (2 * b) * q ≤ (2 * b) * 2 ^ i := by rw [IQ.out] at h1; omega
            have h4 := Nat.le_of_mul_le_mul_left h3 (by omega)
            omega
          by_cases hge : b ≤ r
          · have hgez : (b : Int) ≤ (r : Int) := by omega
            go_wp2
            go_roundg (53 - (i + 1))
            case measure => omega
            case rel =>
              refine ⟨i + 1, 2 * q + 1, 2 * (r - b), vint (by omega), vint (by omega), vint (by omega), by omega, by omega, Nat.le_refl _, rfl, ?_⟩
              show A * 2 ^ (i + 1) = 2 * b * (2 * q + 1) + 2 * (r - b)
              rw [Nat.pow_succ, ← Nat.mul_assoc, IQ.out]
              rw [Nat.mul_add, ← Nat.mul_assoc, Nat.mul_right_comm (2 * b) 2 q]
              omega
          · have hgez : ¬ (b : Int) ≤ (r : Int) := by omega
            go_wp2
            go_roundg (53 - (i + 1))
            case measure => omega
            case rel =>
              refine ⟨i + 1, 2 * q, 2 * r, vint (by omega), vint (by omega), vint (by omega), by omega, by omega, Nat.le_refl _, rfl, ?_⟩
              show A * 2 ^ (i + 1) = 2 * b * (2 * q) + 2 * r
              rw [Nat.pow_succ, ← Nat.mul_assoc, IQ.out]
              rw [← Nat.mul_assoc, Nat.mul_right_comm (2 * b) 2 q]
              omega
        · have ei : i = 53 := by omega
          subst ei
          have HE : Aside (Flt.halfEven (A * 4503599627370496) b = q + (decide (b < r) || (b == r && q % 2 == 1)).toNat) := by
            have h : A * (4503599627370496 * 2) = 2 * b * q + r := by rw [← p53]; exact IQ.out
            exact half_of A b q r _ (by omega) hr h
          have hq3 : q ≤ 9007199254740992 := hq
          have hi53z : ¬ ((53 : Nat) : Int) < 53 := by omega
          have hm : (q : Int).tmod 2 = ((q % 2 : Nat) : Int) := by rw [Int.tmod_eq_emod_of_nonneg (by omega)]; rfl
          by_cases h1 : b < r
          · have h1z : (b : Int) < (r : Int) := by omega
            have HV : Aside (shareB a b = (1022 - e) * 4503599627370496 + (q + 1)) := by
              show shareB a b = _
              rw [SB.out, HE.out, decide_eq_true h1]; rfl
            clear HE SB IQ
            go_wp2
            go_ret
            refine ⟨ret_int ?_, rfl⟩
            rw [HV.out]
            omega
          · have h1z : ¬ (b : Int) < (r : Int) := by omega
            by_cases h2 : r = b
            · have h2' : b = r := h2.symm
              clear h2
              subst h2'
              by_cases h3 : q % 2 = 1
              · have h3b : (q % 2 == 1) = true := by rw [h3]; rfl
                rw [h3] at hm
                have HV : Aside (shareB a b = (1022 - e) * 4503599627370496 + (q + 1)) := by
                  show shareB a b = _
                  rw [SB.out, HE.out, decide_eq_false h1, beq_self_eq_true, h3b]; rfl
                clear HE SB IQ
                go_wp2
                go_ret
                refine ⟨ret_int ?_, rfl⟩
                rw [HV.out]
                omega
              · have h3' : q % 2 = 0 := by omega
                have h3b : (q % 2 == 1) = false := by rw [h3']; rfl
                rw [h3'] at hm
                have HV : Aside (shareB a b = (1022 - e) * 4503599627370496 + q) := by
                  show shareB a b = _
                  rw [SB.out, HE.out, decide_eq_false h1, beq_self_eq_true, h3b]; rfl
                clear HE SB IQ
                go_wp2
                go_ret
                refine ⟨ret_int ?_, rfl⟩
                rw [HV.out]
                omega
            · have h2b : (b == r) = false := beq_eq_false_iff_ne.2 (fun h => h2 h.symm)
              have h2c : ((r : Int) == (b : Int)) = false := beq_eq_false_iff_ne.2 (by omega)
              have HV : Aside (shareB a b = (1022 - e) * 4503599627370496 + q) := by
                show shareB a b = _
                rw [SB.out, HE.out, decide_eq_false h1, h2b]; rfl
              clear HE SB IQ
              go_wp2
              go_ret
              refine ⟨ret_int ?_, rfl⟩
              rw [HV.out]
              omega
end Go.Proofs.Ytjfifaooimgbaaa
