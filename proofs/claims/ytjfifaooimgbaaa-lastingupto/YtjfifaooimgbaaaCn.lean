import Derived.Test.YtjfifaooimgbaaaPl
/- The walk of Conserved, of any exchange that keeps its contract. -/
namespace Go.Proofs.Ytjfifaooimgbaaa
open Go.Shelf Go.RowKit Go.Lib Go.Sort

variable {Rep : World → (Nat → Prop) → Nat → Ex.Xch → Prop}

def cashTo (x : Ex.Xch) (n : Nat) : Int := x.own + sumTo (fun i => (x.ps i).cash + (x.ps i).held) n
def unitsTo (x : Ex.Xch) (n : Nat) : Int := sumTo (fun i => (x.ps i).units + (x.ps i).hun) n
theorem sum_le (g : Nat → Int) (hg : ∀ i, 0 ≤ g i) : ∀ m n, n ≤ m → sumTo g n ≤ sumTo g m
  | 0, n, h => by
    have : n = 0 := by omega
    subst this; exact Int.le_refl _
  | m + 1, n, h => by
    by_cases e : n = m + 1
    · subst e; exact Int.le_refl _
    · have := sum_le g hg m n (by omega)
      have := hg m
      rw [sumTo]; omega
theorem Ex.Ok.bds {x : Ex.Xch} (h : Ex.Ok x) (t : Nat) (ht : t < 20) : (0 ≤ cashTo x t ∧ cashTo x t + (x.ps t).cash + (x.ps t).held ≤ 1125899906842624 ∧ 0 ≤ unitsTo x t ∧ unitsTo x t + (x.ps t).units + (x.ps t).hun ≤ 1125899906842624) ∧
    (0 ≤ (x.ps t).cash ∧ 0 ≤ (x.ps t).held ∧ 0 ≤ (x.ps t).units ∧ 0 ≤ (x.ps t).hun) := by
  have c := h.cash t
  have u := h.units t
  have q := h.heldNon t
  have gc : ∀ i, 0 ≤ (x.ps i).cash + (x.ps i).held := fun i => by have := h.cash i; have := (h.heldNon i).1; omega
  have gu : ∀ i, 0 ≤ (x.ps i).units + (x.ps i).hun := fun i => by have := h.units i; have := (h.heldNon i).2; omega
  have s1 := sum_le (fun i => (x.ps i).cash + (x.ps i).held) gc 20 (t + 1) (by omega)
  have s2 := sum_le (fun i => (x.ps i).units + (x.ps i).hun) gu 20 (t + 1) (by omega)
  have s3 := Ex.sum_nonneg (fun i => (x.ps i).cash + (x.ps i).held) t (fun i _ => gc i)
  have s4 := Ex.sum_nonneg (fun i => (x.ps i).units + (x.ps i).hun) t (fun i _ => gu i)
  have a1 := h.sumC
  have a2 := h.sumU
  have o := h.own
  unfold Ex.allCash at a1
  unfold Ex.allUnits at a2
  rw [sumTo] at s1 s2
  unfold cashTo unitsTo
  refine ⟨⟨by omega, by omega, by omega, by omega⟩, c, q.1, u, q.2⟩

set_option maxHeartbeats 4000000 in
set_option maxRecDepth 100000 in
theorem conserved_any (E : Exch Rep) (period batch : Int) (hp : I64 period) (hb : I64 batch) (l : List (Int × Int × Int)) (a : Option Addr) (cap : Nat) (w : World) (hM : MovesAt w a l) (hw : ∀ i, i < l.length → I64 (l.getD i (0, 0, 0)).1 ∧ I64 (l.getD i (0, 0, 0)).2.1 ∧ I64 (l.getD i (0, 0, 0)).2.2) (hl : l.length ≤ 1048576) :
    Calls Try.prog 7 #[.int .i64 period, .int .i64 batch, .slice a l.length cap] w fun e w' => e = .returned (.bool true) ∧ Below w.heap.size w w' := by
  have mixed : Try.prog.follows .mixedOrders = true := by kernel_rfl
  have HM : Aside (MovesAt w a l) := hM
  clear hM
  go_enter Try.func7, Try.ntmps7
  go_wp2_with fail
  refine (opened_any E period batch hp hb w).mono ?_
  rintro e w0 ⟨f, p, S0, rfl, F0, R0, nS0, hfw, s0, B0⟩
  have l1 := pickN_lt period 100 (by decide)
  have l2 := pickN_lt batch 20 (by decide)
  obtain ⟨okb, stb⟩ := begun_ok (period := 1 + (pickN period 100 : Nat)) (cap := 1 + (pickN batch 20 : Nat)) (by omega) (by omega)
  have cb : Ex.allCash (begunX (1 + (pickN period 100 : Nat)) (1 + (pickN batch 20 : Nat))) = 1000 := rfl
  have ub : Ex.allUnits (begunX (1 + (pickN period 100 : Nat)) (1 + (pickN batch 20 : Nat))) = 0 := rfl
  have jb : (begunX (1 + (pickN period 100 : Nat)) (1 + (pickN batch 20 : Nat))).jr.length ≤ 30 := by
    show (Ex.record 0 (1 :: 0 :: bytesOf 1000 8)).length ≤ 30
    rw [Ex.record_length]; simp [bytesOf_length]
  have ob : (0 : Int) ≤ (begunX (1 + (pickN period 100 : Nat)) (1 + (pickN batch 20 : Nat))).own := Int.le_refl _
  generalize begunX (1 + (pickN period 100 : Nat)) (1 + (pickN batch 20 : Nat)) = xb at *
  have FF0 : Aside (FloorAt w0 f p 0 1000 0) := F0
  have RR0 : Aside (Rep w0 S0 p xb) := R0
  have BB0 : Aside (Below w.heap.size w w0) := B0
  have OK0 : Aside (Ex.Ok xb) := okb
  clear F0 R0 B0 okb stb l1 l2
  go_wp2_with fail
  go_loopg [8, 9] l.length (fun kx s t wq => ∃ (i : Nat) (b now : Int) (S : Nat → Prop) (x : Ex.Xch), s = .int .i64 b ∧ t = .int .i64 i ∧ i ≤ l.length ∧ l.length - i ≤ kx ∧ b ≤ x.own ∧ 0 ≤ now ∧ now ≤ 60 * i ∧ Aside (FloorAt wq f p now (Ex.allCash x) (Ex.allUnits x)) ∧ Aside (Rep wq S p x) ∧ Aside (Ex.Ok x) ∧ Aside (¬ S f) ∧ Aside (∀ k, S k → w.heap.size ≤ k) ∧ x.jr.length ≤ 30 + 1000 * i ∧ Aside (Below w.heap.size w wq))
  case atStart => exact ⟨0, 0, 0, S0, xb, rfl, rfl, Nat.zero_le _, by omega, ob, by omega, by omega, by rw [cb, ub]; exact FF0, RR0, OK0, nS0, s0, by omega, BB0⟩
  case round =>
    obtain ⟨i, b, now, S, x, rfl, rfl, hi, hkx, hbo, hn0, hn1, FA, RA, OA, NA, SA, JA, BA⟩ := hrel
    obtain ⟨U0, rfl⟩ : ∃ U0, U0 = wr := ⟨_, rfl⟩
    by_cases hlt : i < l.length
    · have hltz : (i : Int) < (l.length : Int) := by omega
      obtain ⟨g, o, rfl, hg, c1, c2, c3⟩ := (HM.out.up BA.out) i hlt
      obtain ⟨i1, i2, i3⟩ := hw i hlt
      generalize (l.getD i (0, 0, 0)).1 = K at *
      generalize (l.getD i (0, 0, 0)).2.1 = Wh at *
      generalize (l.getD i (0, 0, 0)).2.2 = N at *
      have okx := OA.out
      have aC := okx.sumC
      have aU := okx.sumU
      have hcn : 0 ≤ Ex.allCash x := by
        have := Ex.sum_nonneg (fun i => (x.ps i).cash + (x.ps i).held) 20 (fun i _ => by have := okx.cash i; have := (okx.heldNon i).1; omega)
        have := okx.own
        unfold Ex.allCash; omega
      have hun : 0 ≤ Ex.allUnits x := Ex.sum_nonneg (fun i => (x.ps i).units + (x.ps i).hun) 20 (fun i _ => by have := okx.units i; have := (okx.heldNon i).2; omega)
      have hmv := moves_any E RA.out okx f now (Ex.allCash x) (Ex.allUnits x) FA.out NA.out K Wh N i1 i2 i3 hn0 (by omega) (by omega) (by omega) (by omega)
      go_wp2_with fail
      refine hmv.mono ?_
      rintro e w1 ⟨S1, s1, x1, ex, rfl, F1, R1, t1, O1⟩
      injection ex with ex1 ex2
      obtain ⟨now1, hnow1⟩ : ∃ n, mvNow now K N = n := ⟨_, rfl⟩
      have hnb : 0 ≤ now1 ∧ now1 ≤ 60 * ((i : Int) + 1) := by
        rw [← hnow1]
        unfold mvNow
        have := pickN_lt N 60 (by decide)
        split <;> omega
      have dk := Ex.do_ok okx (mvNow now K N) (mvReq K Wh N)
      have ds := Ex.do_still okx (mvNow now K N) (mvReq K Wh N)
      have dj := Ex.do_jr x (mvNow now K N) (mvReq K Wh N)
      have rl := req_len K Wh N
      rw [← ex1, ← ex2] at dk
      rw [← ex1] at ds dj
      rw [← (put_move K Wh N s1).1, ← (put_move K Wh N s1).2] at dk
      rw [← dk.2.2.1, ← dk.2.2.2] at F1
      rw [hnow1] at F1 ds
      have hfU : f < U0.heap.size := FA.out.lt
      have nS1 : ¬ S1 f := fun hs => by
        rcases t1 f hs with h | h
        · exact NA.out h
        · omega
      have s1w : ∀ k, S1 k → w.heap.size ≤ k := fun k hk => by
        rcases t1 k hk with h | h
        · exact SA.out k h
        · have := BA.out.size; omega
      have B1 : Aside (Below w.heap.size w w1) := BA.out.trans (O1.below (fun k hk => by
        rcases hk with h | h
        · exact SA.out k h
        · omega) BA.out.size)
      have hj1 : x1.jr.length ≤ 60 + 1000 * i := by omega
      have ok1 := dk.1
      have hbo1 : b ≤ x1.own := by have := dk.2.1; omega
      have hown := ownF_any E R1 ok1 f now1 (Ex.allCash x1) (Ex.allUnits x1) F1 hnb.1 (by omega) (by omega) ds
      have F1' : Aside (FloorAt w1 f p now1 (Ex.allCash x1) (Ex.allUnits x1)) := F1
      have ST : Aside (Ex.Still x1 now1) := ds
      have OK1 : Aside (Ex.Ok x1) := ok1
      clear ex1 ex2 dk ds dj rl F1 R1 t1 O1 hnow1 hmv FA RA OA NA SA BA okx aC aU hcn hun c1 c2 c3 ok1
      unfold txt
      go_wp2_with fail
      refine hown.mono ?_
      rintro e w2 ⟨S2, rfl, R2, t2, O2⟩
      have F2 : Aside (FloorAt w2 f p now1 (Ex.allCash x1) (Ex.allUnits x1)) := F1'.out.only O2 nS1
      have nS2 : ¬ S2 f := fun hs => by
        rcases t2 f hs with h | h
        · exact nS1 h
        · have := F1'.out.lt; omega
      have s2w : ∀ k, S2 k → w.heap.size ≤ k := fun k hk => by
        rcases t2 k hk with h | h
        · exact s1w k h
        · have := B1.out.size; omega
      have B2 : Aside (Below w.heap.size w w2) := B1.out.trans (O2.below s1w B1.out.size)
      have R2' : Aside (Rep w2 S2 p x1) := R2
      have ol := OK1.out.ownLt
      have on := OK1.out.own
      have hbo2 : ¬ x1.own < b := by omega
      clear hown R2 t2 O2 F1' B1 nS1 s1w
      go_wp2_with fail
      go_loopg [10, 11, 12] 20 (fun kx s t u wq => ∃ (t0 : Nat) (S : Nat → Prop), s = .int .i64 (cashTo x1 t0) ∧ t = .int .i64 (unitsTo x1 t0) ∧ u = .int .i64 t0 ∧ t0 ≤ 20 ∧ 20 - t0 ≤ kx ∧ Aside (FloorAt wq f p now1 (Ex.allCash x1) (Ex.allUnits x1)) ∧ Aside (Rep wq S p x1) ∧ Aside (¬ S f) ∧ Aside (∀ k, S k → w.heap.size ≤ k) ∧ Aside (Below w.heap.size w wq))
      case atStart => exact ⟨0, S2, by unfold cashTo; rw [sumTo, Int.add_zero], rfl, rfl, Nat.zero_le _, by omega, F2, R2', nS2, s2w, B2⟩
      case round =>
        obtain ⟨t0, S, rfl, rfl, rfl, ht, hkt, FT, RT, NT, ST', BT⟩ := hrel
        obtain ⟨U2, rfl⟩ : ∃ U2, U2 = wr := ⟨_, rfl⟩
        by_cases ht20 : t0 < 20
        · have htz : (t0 : Int) < 20 := by omega
          go_wp2_with fail
          refine (bytesK_any t0 1 U2 (by decide)).mono ?_
          rintro e w3 ⟨rfl, hw3⟩
          have hb1 : bytesOf t0 1 = [UInt8.ofNat t0] := by
            show [UInt8.ofNat (t0 / 256 ^ 0)] = _
            rw [Nat.pow_zero, Nat.div_one]
          have B3 : Below U2.heap.size U2 w3 := by rw [hw3]; unfold rowed; exact (Below.refl _ _).alloc (Nat.le_refl _) _
          have F3 : FloorAt w3 f p now1 (Ex.allCash x1) (Ex.allUnits x1) := (B3.block f FT.out.lt).trans FT.out
          have R3 : Rep w3 S p x1 := E.keep RT.out (fun k hk => B3.block k (E.low RT.out k hk)) B3.size
          have BW3 : Aside (Below w.heap.size w w3) := BT.out.trans (B3.mono BT.out.size)
          have tl := Ex.tell ST.out (k := 7) (by decide) t0 ht20 [7, UInt8.ofNat t0] rfl
          have ha := asks_any E R3 OK1.out f now1 (Ex.allCash x1) (Ex.allUnits x1) F3 [7, UInt8.ofNat t0] hnb.1 (by omega) (by omega) (by simp)
          obtain ⟨lt, elt, len, lt0, x9, x17, x25, x33⟩ := tells7 x1 t0
          have et : Ex.tellsX x1 (UInt8.toNat 7) (if Ex.longOf (UInt8.toNat 7) = 1 then 0 else t0) = lt := elt
          rw [et] at tl
          rw [tl] at ha
          have e0 : ({ data := lt.toArray } : ByteArray)[0]'(by show 0 < lt.toArray.size; simp [len]) = 0 := by
            have : lt[0]? = some (lt[0]'(by omega)) := List.getElem?_eq_getElem (by omega)
            rw [this] at lt0
            injection lt0
          have cat1 : ({ data := #[7] } : ByteArray) ++ { data := [UInt8.ofNat t0].toArray } = { data := [7, UInt8.ofNat t0].toArray } := cat_txt [7] [UInt8.ofNat t0]
          have bd := OK1.out.bds t0 ht20
          have F3' : Aside (FloorAt w3 f p now1 (Ex.allCash x1) (Ex.allUnits x1)) := F3
          have HA : Aside _ := ha
          rw [hb1]
          clear hw3 hb1 B3 F3 R3 tl ha elt et lt0 FT RT BT
          unfold txt at *
          go_wp2_with fail
          refine Calls.mono (f := 29) HA.out ?_
          rintro e w4 ⟨S4, rfl, R4, t4, O4⟩
          have F4 : Aside (FloorAt w4 f p now1 (Ex.allCash x1) (Ex.allUnits x1)) := F3'.out.only O4 NT.out
          have nS4 : Aside (¬ S4 f) := fun hs => by
            rcases t4 f hs with h | h
            · exact NT.out h
            · have := F3'.out.lt; omega
          have s4w : Aside (∀ k, S4 k → w.heap.size ≤ k) := fun k hk => by
            rcases t4 k hk with h | h
            · exact ST'.out k h
            · have := BW3.out.size; omega
          have B4 : Aside (Below w.heap.size w w4) := BW3.out.trans (O4.below ST'.out BW3.out.size)
          have R4' : Aside (Rep w4 S4 p x1) := R4
          clear R4 t4 O4 HA F3' BW3 cat1 NT ST'
          go_wp2_with fail
          obtain ⟨c0, hc0⟩ : ∃ c, cashTo x1 t0 = c := ⟨_, rfl⟩
          obtain ⟨n0, hn0'⟩ : ∃ c, unitsTo x1 t0 = c := ⟨_, rfl⟩
          have nx : cashTo x1 (t0 + 1) = c0 + (x1.ps t0).cash + (x1.ps t0).held ∧ unitsTo x1 (t0 + 1) = n0 + (x1.ps t0).units + (x1.ps t0).hun := by
            rw [← hc0, ← hn0']
            unfold cashTo unitsTo
            rw [sumTo, sumTo]
            constructor <;> omega
          have NX : Aside _ := nx
          rw [hc0, hn0'] at bd ⊢
          have y9 := ext_txt lt 1 9
          have y17 := ext_txt lt 9 17
          have y25 := ext_txt lt 17 25
          have y33 := ext_txt lt 25 33
          rw [x9] at y9
          rw [x17] at y17
          rw [x25] at y25
          rw [x33] at y33
          clear x9 x17 x25 x33 hc0 hn0' nx
          generalize (x1.ps t0).cash = v0 at *
          generalize (x1.ps t0).held = v1 at *
          generalize (x1.ps t0).units = v2 at *
          generalize (x1.ps t0).hun = v3 at *
          have HNUM : Aside (∀ (v : Int) W, 0 ≤ v → v ≤ 1125899906842624 → Calls Try.prog 31 #[.string ⟨(bytesOf v.toNat 8).toArray⟩] W fun e w' => e = .returned (.int .i64 v) ∧ w' = W) := fun v W q1 q2 => by
            have e : numOf (bytesOf v.toNat 8) = v.toNat := num_bytes _ _ (by omega)
            have := numberK_any (bytesOf v.toNat 8) W (by rw [bytesOf_length]; decide) (by rw [e]; omega)
            rw [e, show ((v.toNat : Nat) : Int) = v by omega] at this
            exact this
          obtain ⟨⟨bd1, bd2, bd3, bd4⟩, bd5, bd6, bd7, bd8⟩ := bd
          go_loopg [10, 11, 14] 4 (fun kx s t u wq => ∃ (k : Nat), s = .int .i64 (c0 + (if 0 < k then v0 else 0) + (if 1 < k then v1 else 0)) ∧ t = .int .i64 (n0 + (if 2 < k then v2 else 0) + (if 3 < k then v3 else 0)) ∧ u = .int .i64 k ∧ k ≤ 4 ∧ 4 - k ≤ kx ∧ wq = w4)
          case atStart => exact ⟨0, by simp, by simp, rfl, by omega, by omega, rfl⟩
          case round =>
            obtain ⟨k, rfl, rfl, rfl, hk4, hkk, hwq⟩ := hrel
            rw [hwq]
            clear hwq wr
            obtain rfl | rfl | rfl | rfl | rfl : k = 0 ∨ k = 1 ∨ k = 2 ∨ k = 3 ∨ k = 4 := by omega
            · have e1 : (c0 + (if 0 < 0 then v0 else 0) + (if 1 < 0 then v1 else 0)) = c0 := by simp
              have e2 : (n0 + (if 2 < 0 then v2 else 0) + (if 3 < 0 then v3 else 0)) = n0 := by simp
              rw [e1, e2]
              clear e1 e2
              have q0 : ¬ v0 < 0 := by omega
              go_wp2_with fail
              refine Calls.mono (f := 31) (HNUM.out v0 _ bd5 (by omega)) ?_
              rintro e w5 ⟨rfl, rfl⟩
              go_wp2
              go_roundg 3
              case measure => omega
              case rel => exact ⟨1, by simp, by simp, rfl, by omega, by omega, rfl⟩
            · have e1 : (c0 + (if 0 < 1 then v0 else 0) + (if 1 < 1 then v1 else 0)) = c0 + v0 := by simp
              have e2 : (n0 + (if 2 < 1 then v2 else 0) + (if 3 < 1 then v3 else 0)) = n0 := by simp
              rw [e1, e2]
              clear e1 e2
              have q0 : ¬ v1 < 0 := by omega
              go_wp2_with fail
              refine Calls.mono (f := 31) (HNUM.out v1 _ bd6 (by omega)) ?_
              rintro e w5 ⟨rfl, rfl⟩
              go_wp2
              go_roundg 2
              case measure => omega
              case rel => exact ⟨2, by simp, by simp, rfl, by omega, by omega, rfl⟩
            · have e1 : (c0 + (if 0 < 2 then v0 else 0) + (if 1 < 2 then v1 else 0)) = c0 + v0 + v1 := by simp
              have e2 : (n0 + (if 2 < 2 then v2 else 0) + (if 3 < 2 then v3 else 0)) = n0 := by simp
              rw [e1, e2]
              clear e1 e2
              have q0 : ¬ v2 < 0 := by omega
              go_wp2_with fail
              refine Calls.mono (f := 31) (HNUM.out v2 _ bd7 (by omega)) ?_
              rintro e w5 ⟨rfl, rfl⟩
              go_wp2
              go_roundg 1
              case measure => omega
              case rel => exact ⟨3, by simp, by simp, rfl, by omega, by omega, rfl⟩
            · have e1 : (c0 + (if 0 < 3 then v0 else 0) + (if 1 < 3 then v1 else 0)) = c0 + v0 + v1 := by simp
              have e2 : (n0 + (if 2 < 3 then v2 else 0) + (if 3 < 3 then v3 else 0)) = n0 + v2 := by simp
              rw [e1, e2]
              clear e1 e2
              have q0 : ¬ v3 < 0 := by omega
              go_wp2_with fail
              refine Calls.mono (f := 31) (HNUM.out v3 _ bd8 (by omega)) ?_
              rintro e w5 ⟨rfl, rfl⟩
              go_wp2
              go_roundg 0
              case measure => omega
              case rel => exact ⟨4, by simp, by simp, rfl, by omega, by omega, rfl⟩
            · have e1 : (c0 + (if 0 < 4 then v0 else 0) + (if 1 < 4 then v1 else 0)) = c0 + v0 + v1 := by simp
              have e2 : (n0 + (if 2 < 4 then v2 else 0) + (if 3 < 4 then v3 else 0)) = n0 + v2 + v3 := by simp
              rw [e1, e2]
              clear e1 e2
              go_wp2
              go_roundg (20 - (t0 + 1))
              case measure => omega
              case rel => exact ⟨t0 + 1, S4, by rw [NX.out.1], by rw [NX.out.2], by go_num, by omega, Nat.le_refl _, F4, R4', nS4, s4w, B4⟩
        · have htz : ¬ (t0 : Int) < 20 := by omega
          have et : t0 = 20 := by omega
          subst et
          have e1 : cashTo x1 20 = Ex.allCash x1 := rfl
          have e2 : unitsTo x1 20 = Ex.allUnits x1 := rfl
          rw [e1, e2]
          have y2 := blk_cell FT.out 2
          have y3 := blk_cell FT.out 3
          clear e1 e2
          go_wp2
          go_roundg (l.length - (i + 1))
          case measure => omega
          case rel => exact ⟨i + 1, x1.own, now1, S, x1, rfl, by go_num, by omega, Nat.le_refl _, Int.le_refl _, hnb.1, by omega, FT, RT, OK1, NT, ST', by omega, BT⟩
    · have hltz : ¬ (i : Int) < (l.length : Int) := by omega
      go_wp2
      go_ret
      exact ⟨rfl, BA.out⟩
#print axioms conserved_any
end Go.Proofs.Ytjfifaooimgbaaa
