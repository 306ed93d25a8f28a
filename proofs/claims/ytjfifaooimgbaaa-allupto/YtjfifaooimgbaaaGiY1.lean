import Derived.Test.YtjfifaooimgbaaaGi6
import Derived.Test.YtjfifaooimgbaaaBt3
import Derived.Test.YtjfifaooimgbaaaGiS
import Derived.Deep.Cut
/- An order is given: it is in the batch. -/
namespace Go.Proofs.Ytjfifaooimgbaaa
open Go.Shelf Go.RowKit Go.Lib Go.Sort

set_option maxHeartbeats 4000000 in
set_option maxRecDepth 100000 in
theorem give_y_1 (w : World) (m X k t a pr : Nat) (s : MkS) (q : Nat → A4) (os : List Ex.Ord) (hX : BoxM w X m) (hM : MkAt w m s) (hA : AccF w s.ba q) (hO : ORow w s.ov os) (hq : Tame q) (ht : t < 20) (hl : os.length ≤ 1000) (hpr : pr < 65536) (hp : 1 ≤ pr ∧ pr < 1000) (hn : placeX os t < 0) (hc : (os.length : Int) < s.cap) (hs : 1 ≤ (q t).u) :
    Calls Try.prog 119 #[reqV k t a 1 pr, .pointer (some ⟨X, 0, none⟩)] w fun e w' => ∃ v u, e = .returned (.tuple #[.int .u8 0, u]) ∧ BRow w' u (bytesOf (os.length + 1) 1) ∧ (∀ k, u.ownBlock = some k → w.heap.size ≤ k) ∧ MkAt w' m { s with ov := v } ∧ AccF w' s.ba (updA q t (chg 1 (-1) 1 (q t))) ∧ ORow w' v (os ++ [⟨t, 1, pr⟩]) ∧ Onl (fun k => k = m ∨ k = s.ba ∨ s.ov.ownBlock = some k) w w' ∧ Lies w s.ov v := by
  have mixed : Try.prog.follows .mixedOrders = true := by kernel_rfl
  obtain ⟨W, hW⟩ : ∃ W, W = (w.alloc (.cells #[.int .i64 (k : Int), .int .i64 (t : Int), .int .u64 (a : Int), .int .i64 1, .int .i64 (pr : Int)] 157)).alloc (.cells #[.int .i64 (t : Int), .int .i64 1, .int .i64 (pr : Int)] 171) := ⟨_, rfl⟩
  have hsz : W.heap.size = w.heap.size + 1 + 1 := by rw [hW]; simp
  have bk : ∀ j, j < w.heap.size → W.heap[j]? = w.heap[j]? := fun j hj => by rw [hW]; exact (Below.heap_alloc _ _ j (by simp; omega)).trans (Below.heap_alloc w _ j hj)
  have F : Aside (∀ w1 : World, (∀ j, j < W.heap.size → j ≠ s.ba → w1.heap[j]? = W.heap[j]?) → w1.cell? ⟨X, 0, none⟩ = some (.pointer (some ⟨m, 0, none⟩)) ∧ MkAt w1 m s ∧ w1.cell? ⟨w.heap.size, 1, none⟩ = some (.int .i64 (t : Int)) ∧ w1.cell? ⟨w.heap.size, 3, none⟩ = some (.int .i64 1) ∧ w1.cell? ⟨w.heap.size, 4, none⟩ = some (.int .i64 (pr : Int)) ∧ w1.cell? ⟨w.heap.size + 1, 0, none⟩ = some (.int .i64 (t : Int)) ∧ w1.cell? ⟨w.heap.size + 1, 1, none⟩ = some (.int .i64 1) ∧ w1.cell? ⟨w.heap.size + 1, 2, none⟩ = some (.int .i64 (pr : Int)) ∧ ORow w1 s.ov os) := fun w1 h => by
    obtain ⟨es, ec, hb⟩ := hA.block
    have nX : X ≠ s.ba := fun e => by rw [← e] at hb; have := hX; unfold BoxM at this; rw [this] at hb; cases hb
    have nM : m ≠ s.ba := fun e => by rw [← e] at hb; have := hM; unfold MkAt at this; rw [this] at hb; cases hb
    have al := hA.lt
    have b0 : W.heap[w.heap.size]? = some (.cells #[.int .i64 (k : Int), .int .i64 (t : Int), .int .u64 (a : Int), .int .i64 1, .int .i64 (pr : Int)] 157) := by rw [hW]; exact (Below.heap_alloc _ _ _ (by simp)).trans (heap_alloc_new w _)
    have b1 : W.heap[w.heap.size + 1]? = some (.cells #[.int .i64 (t : Int), .int .i64 1, .int .i64 (pr : Int)] 171) := by rw [hW]; exact next_new w _ _
    have e0 := (h w.heap.size (by omega) (by omega)).trans b0
    have e1 := (h (w.heap.size + 1) (by omega) (by omega)).trans b1
    have M1 : MkAt w1 m s := hM.kept ((h m (by have := hM.lt; omega) nM).trans (bk m hM.lt))
    refine ⟨(hX.kept ((h X (by have := hX.lt; omega) nX).trans (bk X hX.lt))).cell, M1, ?_, ?_, ?_, ?_, ?_, ?_, hO.kept (fun j hj => ?_)⟩
    · simp [World.cell?, e0]
    · simp [World.cell?, e0]
    · simp [World.cell?, e0]
    · simp [World.cell?, e1]
    · simp [World.cell?, e1]
    · simp [World.cell?, e1]
    · have jl := hO.lt hj
      exact (h j (by omega) (fun e => by obtain ⟨cur, hc⟩ := row_block hO hj; rw [e, hb] at hc; cases hc)).trans (bk j jl)
  have AW : Aside (AccF W s.ba q) := hA.kept (bk _ hA.lt)
  have HOW : Aside (Onl (fun _ => False) w W) := by show Onl _ _ _; rw [hW]; exact ((Onl.refl _ w).alloc _).alloc _
  have HS : Aside (Calls Try.prog 107 #[.agg #[.int .i64 (t : Int), .int .i64 1, .int .i64 (pr : Int)]] W fun e w' => e = .returned (.tuple #[.int .i64 1, .int .i64 1]) ∧ Below W.heap.size W w') := stake_any ⟨t, 1, pr⟩ W
  have hqt := hq t (by omega)
  unfold reqV
  have p1 : decide ((pr : Int) < 1) = false := decide_eq_false (by omega)
  have p2 : decide ((1000 : Int) ≤ (pr : Int)) = false := decide_eq_false (by omega)
  have hpl : decide (0 ≤ placeX os t) = false := decide_eq_false (by omega)
  have hcp : decide (s.cap ≤ (os.length : Int)) = false := decide_eq_false (by omega)
  have hsh : decide ((q t).u < 1) = false := decide_eq_false (by omega)
  have TAME : Aside (Tame q) := hq
  have NE : Aside (∀ w5 : World, W.heap.size ≤ w5.heap.size → w5.heap.size ≤ w5.heap.size → X < w5.heap.size ∧ m < w5.heap.size ∧ s.ov.ownBlock ≠ some X ∧ s.ov.ownBlock ≠ some m ∧ X ≠ m ∧ s.ov.ownBlock ≠ some s.ba ∧ s.ba < w5.heap.size) := fun w5 h _ => by
    have h1 := hX.lt
    have h2 := hM.lt
    have h3 := hA.lt
    obtain ⟨es, ec, hb⟩ := hA.block
    refine ⟨by omega, by omega, fun e => ?_, fun e => ?_, fun e => ?_, fun e => ?_, by omega⟩
    · obtain ⟨cur, hc⟩ := row_block hO e
      have := hX
      unfold BoxM at this
      rw [this] at hc; injection hc with hc; injection hc with _ hc; revert hc; decide
    · obtain ⟨cur, hc⟩ := row_block hO e
      have := hM
      unfold MkAt at this
      rw [this] at hc; injection hc with hc; injection hc with _ hc; revert hc; decide
    · have h4 := hX
      have h5 := hM
      unfold BoxM at h4
      unfold MkAt at h5
      rw [e, h5] at h4; injection h4 with h4; injection h4 with _ h4; revert h4; decide
    · obtain ⟨cur, hc⟩ := row_block hO e
      rw [hb] at hc; cases hc
  clear hX hM hA hO hq bk
  go_enter Try.func119, Try.ntmps119
  go_wp2_with fail
  rw [← hW]
  clear hW
  refine Calls.mono (f := 107) HS.out ?_
  rintro e w1 ⟨rfl, B1⟩
  obtain ⟨x1, M1, r1, r3, r4, o0, o1, o2, OR1⟩ := F.out w1 (fun j hj _ => B1.block j hj)
  have A1 : Aside (AccF w1 s.ba q) := AW.out.kept (B1.block _ AW.out.lt)
  have HO1 : Aside (Onl (fun _ => False) w w1) := HOW.out.below B1
  have BB1 : Aside (Below W.heap.size W w1) := B1
  have hsz1 : W.heap.size ≤ w1.heap.size := B1.size
  have HM1 : Aside (MkAt w1 m s) := M1
  have HOR1 : Aside (ORow w1 s.ov os) := OR1
  clear HS B1 M1 OR1
  have m4 := HM1.out.all.c4
  have m5 := HM1.out.all.c5
  have m6 := HM1.out.all.c6
  have HPL : Aside _ := place_any os s.ov s.num s.fin t w1.drew (HOR1.out.kept (fun _ _ => rfl)) hl
  go_wp2_with fail
  go_still_tail 6, mixed
  go_wp2_with fail
  refine Calls.mono (f := 120) HPL.out ?_
  rintro e w2 ⟨rfl, B2⟩
  have B12 : Below W.heap.size W w2 := BB1.out.trans ⟨B2.os, B2.tape, B2.output, B2.size, fun j hj => B2.block j (by show j < w1.heap.size; omega)⟩
  clear x1 r1 r3 r4 o0 o1 o2 m4 m5 m6 A1 HO1 HM1 HOR1 HPL BB1
  obtain ⟨x1, M2, r1, r3, r4, o0, o1, o2, OR2⟩ := F.out w2 (fun j hj _ => B12.block j hj)
  have A2 : Aside (AccF w2 s.ba q) := AW.out.kept (B12.block _ AW.out.lt)
  have HO2 : Aside (Onl (fun _ => False) w w2) := HOW.out.below B12
  have BB2 : Aside (Below W.heap.size W w2) := B12
  have hsz2 : W.heap.size ≤ w2.heap.size := B12.size
  have HM2 : Aside (MkAt w2 m s) := M2
  have HOR2 : Aside (ORow w2 s.ov os) := OR2
  clear B2 B12 M2 OR2
  obtain ⟨oa, ocp, hov, _⟩ := HOR2.out.ords
  have m6 := HM2.out.all.c6
  rw [hov] at m6
  have m1 := HM2.out.all.c1
  have HOV : Aside (s.ov = .slice oa os.length ocp) := hov
  clear hov
  obtain ⟨W3, hW3⟩ : ∃ W3 : World, W3 = { heap := w2.heap, tape := w2.tape, drawn := w2.drawn + 1, os := w2.os, output := w2.output } := ⟨_, rfl⟩
  have hsame : W3.heap = w2.heap := by rw [hW3]
  have BW3 : Aside (Below W.heap.size W W3) := by show Below _ _ _; rw [hW3]; exact ⟨BB2.out.os, BB2.out.tape, BB2.out.output, BB2.out.size, BB2.out.block⟩
  go_wp2_with fail
  go_still_tail 12, mixed
  go_wp2_with fail
  rw [← hW3]
  clear x1 r1 r3 r4 o0 o1 o2 m6 m1 hW3 hsame A2 HO2 BB2 HM2 HOR2
  obtain ⟨x1, M3, r1, r3, r4, o0, o1, o2, OR3⟩ := F.out W3 (fun j hj _ => BW3.out.block j hj)
  have A3 : AccF W3 s.ba q := AW.out.kept (BW3.out.block _ AW.out.lt)
  have HO3 : Aside (Onl (fun _ => False) w W3) := HOW.out.below BW3.out
  have lk : (Instr.lookup 121 (.map (some s.ba)) (.int .i64 (t : Int)) false).run Try.prog W3.drew = .ok (.agg #[.int .i64 (q t).c, .int .i64 (q t).h, .int .i64 (q t).u, .int .i64 (q t).k]) W3.drew := (A3.kept (w' := W3.drew) rfl).look (by omega)
  have m3 := M3.all.c3
  clear A3 M3 OR3
  have fx := fld0 (.int .i64 (q t).u) (.int .i64 (q t).k)
  have ix := idx1 (.int .i64 (q t).c) (.int .i64 (q t).h) (.int .i64 (q t).u) (.int .i64 (q t).k)
  obtain ⟨W4, hW4⟩ : ∃ W4 : World, W4 = { heap := W3.heap, tape := W3.tape, drawn := W3.drawn + 1, os := W3.os, output := W3.output } := ⟨_, rfl⟩
  have BW4 : Aside (Below W.heap.size W W4) := by show Below _ _ _; rw [hW4]; exact ⟨BW3.out.os, BW3.out.tape, BW3.out.output, BW3.out.size, BW3.out.block⟩
  go_still_tail 12, mixed
  go_wp2_with fail
  rw [← hW4]
  clear x1 r1 r3 r4 o0 o1 o2 m3 lk fx ix hW4 HO3
  obtain ⟨x1, M4, r1, r3, r4, o0, o1, o2, OR4⟩ := F.out W4 (fun j hj _ => BW4.out.block j hj)
  have m3 := M4.all.c3
  have A4' : Aside (AccF W4.drew s.ba q) := AW.out.kept (BW4.out.block _ AW.out.lt)
  have hsz4 : W.heap.size ≤ W4.heap.size := BW4.out.size
  have HH : Aside _ := hold_any W4.drew s.ba q t 1 1 A4'.out (by omega) (by decide) (TAME.out.ok (by omega)) ⟨by omega, by omega⟩
  go_still_tail 8, mixed
  go_wp2_with fail
  refine Calls.mono (f := 121) HH.out ?_
  rintro e w5 ⟨rfl, A5, O5⟩
  have F5 : ∀ j, j < W.heap.size → j ≠ s.ba → w5.heap[j]? = W.heap[j]? := fun j hj hne => (O5.block j (by show j < W4.heap.size; omega) hne).trans (BW4.out.block j hj)
  clear x1 r1 r3 r4 o0 o1 o2 m3 M4 OR4 HH
  obtain ⟨x1, M5, r1, r3, r4, o0, o1, o2, OR5⟩ := F.out w5 F5
  have hsz5 : W.heap.size ≤ w5.heap.size := Nat.le_trans hsz4 O5.size
  have O05 : Aside (Onl (· = s.ba) w w5) := (((HOW.out.mono (fun i h => absurd h (fun x => x))).below BW4.out).drew).trans O5 (fun i hi => Or.inl hi)
  have HA5 : Aside (AccF w5 s.ba (updA q t (chg 1 (-1) 1 (q t)))) := A5
  have HM5 : Aside (MkAt w5 m s) := M5
  have HOR5 : Aside (ORow w5 s.ov os) := OR5
  have m6 := M5.all.c6
  rw [HOV.out] at m6
  have HXN : Aside (X < w5.heap.size ∧ m < w5.heap.size ∧ s.ov.ownBlock ≠ some X ∧ s.ov.ownBlock ≠ some m ∧ X ≠ m ∧ s.ov.ownBlock ≠ some s.ba ∧ s.ba < w5.heap.size) := NE.out w5 hsz5 (Nat.le_refl _)
  clear A5 O5 M5 OR5 F5 BW3 BW4 A4' AW HOW
  obtain ⟨W6, hW6⟩ : ∃ W6, W6 = (w5.alloc (.cells #[.int .i64 (t : Int), .int .i64 1, .int .i64 (pr : Int)] 171)).drew := ⟨_, rfl⟩
  have HW6 : Aside (W6 = (w5.alloc (.cells #[.int .i64 (t : Int), .int .i64 1, .int .i64 (pr : Int)] 171)).drew) := hW6
  have OR6 : Aside (ORow (w5.alloc (.cells #[.int .i64 (t : Int), .int .i64 1, .int .i64 (pr : Int)] 171)).drew (.slice oa os.length ocp) os) := by
    have := HOR5.out
    rw [HOV.out] at this
    exact World.ownsRow.alloc this _
  have HQ : Aside (∀ w6 : World, (w5.alloc (.cells #[.int .i64 (t : Int), .int .i64 1, .int .i64 (pr : Int)] 171)).drew.grownBy w6 (Value.slice oa os.length ocp).ownBlock → w6.cell? ⟨X, 0, none⟩ = some (.pointer (some ⟨m, 0, none⟩)) ∧ MkAt w6 m s ∧ w6.cell? ⟨m, 6, none⟩ = some (.slice oa os.length ocp) ∧ w6.frozen? ⟨m, 6, none⟩ = false) := fun w6 g => by
    rw [← HOV.out] at g ⊢
    have hb : ∀ j, j < w5.heap.size → s.ov.ownBlock ≠ some j → w6.heap[j]? = w5.heap[j]? := fun j hj hne => (g.block j (by show j < (w5.alloc _).heap.size; simp; omega) (fun e => hne e.symm)).trans (Below.heap_alloc w5 _ j hj)
    have M6 : MkAt w6 m s := HM5.out.kept (hb m HXN.out.2.1 HXN.out.2.2.2.1)
    exact ⟨(World.cell?_of_block (a := ⟨X, 0, none⟩) (hb X HXN.out.1 HXN.out.2.2.1)).trans x1, M6, M6.all.c6, M6.all.fr 6⟩
  have hx6 : (w5.alloc (.cells #[.int .i64 (t : Int), .int .i64 1, .int .i64 (pr : Int)] 171)).drew.cell? ⟨X, 0, none⟩ = some (.pointer (some ⟨m, 0, none⟩)) := (World.cell?_of_block (a := ⟨X, 0, none⟩) (Below.heap_alloc w5 _ X HXN.out.1)).trans x1
  have hm6 : (w5.alloc (.cells #[.int .i64 (t : Int), .int .i64 1, .int .i64 (pr : Int)] 171)).drew.cell? ⟨m, 6, none⟩ = some (.slice oa os.length ocp) := (World.cell?_of_block (a := ⟨m, 6, none⟩) (Below.heap_alloc w5 _ m HXN.out.2.1)).trans m6
  have NC : Aside (∀ j u, (oc ⟨t, 1, pr⟩)[j]? = some u → (w5.alloc (.cells #[.int .i64 (t : Int), .int .i64 1, .int .i64 (pr : Int)] 171)).drew.cell? ((⟨w5.heap.size, 0, none⟩ : Addr).add j) = some u) := fun j u hj => by
    have := heap_alloc_new w5 (.cells #[.int .i64 (t : Int), .int .i64 1, .int .i64 (pr : Int)] 171)
    rw [Addr.add_lit]
    simp only [World.cell?, World.drew, this]
    simpa [oc] using hj
  clear hW6
  go_wp2_with fail
  go_cut [] from 5 (fun w7 => ∃ (w6 : World) (va : Option Addr) (vn vc : Nat), w7 = w6.setCell ⟨m, 6, none⟩ (.slice va vn vc) ∧ vn = os.length + 1 ∧ Aside (ORow w6 (.slice va vn vc) (os ++ [⟨t, 1, pr⟩]) ∧ (w5.alloc (.cells #[.int .i64 (t : Int), .int .i64 1, .int .i64 (pr : Int)] 171)).drew.grownBy w6 (Value.slice oa os.length ocp).ownBlock ∧ ((Value.slice va vn vc).ownBlock = (Value.slice oa os.length ocp).ownBlock ∨ (Value.slice va vn vc).ownBlock = some (w5.alloc (.cells #[.int .i64 (t : Int), .int .i64 1, .int .i64 (pr : Int)] 171)).drew.heap.size)))
  case first =>
    go_region_law (refine step_append_ord rfl _ _ rfl (.slice oa os.length ocp) os (by simp [Act.eval]) OR6.out ⟨t, 1, pr⟩ ⟨w5.heap.size, 0, none⟩ (by simp [Act.eval]) NC.out hl ?_; intro v6 w6 g1 g2 g3; obtain ⟨y1, y2, y3, y4⟩ := HQ.out w6 g2; obtain ⟨va, vn, vc, rfl, hvn⟩ := (ORow.sl g1); have HV : Aside (vn = os.length + 1) := (by show vn = _; rw [hvn]; simp); clear hvn)
    all_goals (
      go_wp2_with fail
      go_meet
      exact ⟨w6, va, vn, vc, rfl, HV.out, g1, g2, g3⟩)
  case rest =>
    obtain ⟨w6, va, vn, vc, hw7, hvn, HG⟩ := hcut
    obtain ⟨y1, M6, _, _⟩ := HQ.out w6 HG.out.2.1
    have M7 : MkAt wc m { s with ov := .slice va vn vc } := by rw [hw7]; exact M6.setOv _
    have x7 : wc.cell? ⟨X, 0, none⟩ = some (.pointer (some ⟨m, 0, none⟩)) := by
      rw [hw7]
      exact (World.cell?_of_block (a := ⟨X, 0, none⟩) (Below.heap_setCell w6 _ _ X HXN.out.2.2.2.2.1)).trans y1
    have m67 : wc.cell? ⟨m, 6, none⟩ = some (.slice va vn vc) := M7.all.c6
    have HM7 : Aside (MkAt wc m { s with ov := .slice va vn vc }) := M7
    have HW7 : Aside (wc = w6.setCell ⟨m, 6, none⟩ (.slice va vn vc)) := hw7
    have HVN : Aside (vn = os.length + 1) := hvn
    have hvl : (vn : Int) < 9223372036854775808 := by omega
    clear y1 M6 M7 hw7 hvn x1 r1 r3 r4 o0 o1 o2 m6 hx6 hm6 HQ NC OR6
    go_wp2_with fail
    refine Calls.mono (f := 122) (tell_one wc (.slice none 0 0) [] 1 (BRow.nil _) (by decide) (by decide) (by decide) (vn : Int) ⟨by omega, hvl⟩) ?_
    rintro e w8 ⟨u, rfl, q1, q2, q3⟩
    obtain ⟨ua, un, uc, rfl⟩ := q1.sl
    go_wp2
    go_ret2
    have sz6 : w5.heap.size + 1 ≤ w6.heap.size := by
      have := HG.out.2.1.size
      have e : (w5.alloc (.cells #[.int .i64 (t : Int), .int .i64 1, .int .i64 (pr : Int)] 171)).drew.heap.size = w5.heap.size + 1 := by show (w5.alloc _).heap.size = _; simp
      omega
    have sz7 : wc.heap.size = w6.heap.size := by rw [HW7.out]; simp [World.setCell]
    have b8 : ∀ j, j < wc.heap.size → w8.heap[j]? = wc.heap[j]? := fun j hj => q2.block j hj (by simp [Value.ownBlock])
    have b7 : ∀ j, j ≠ m → wc.heap[j]? = w6.heap[j]? := fun j hj => by rw [HW7.out]; exact Below.heap_setCell w6 _ _ j hj
    have b6 : ∀ j, j < w5.heap.size → s.ov.ownBlock ≠ some j → w6.heap[j]? = w5.heap[j]? := fun j hj hne => (HG.out.2.1.block j (by show j < (w5.alloc _).heap.size; simp; omega) (fun e => hne (by rw [HOV.out]; exact e.symm))).trans (Below.heap_alloc w5 _ j hj)
    have loc : (Value.slice va vn vc).ownBlock = s.ov.ownBlock ∨ (Value.slice va vn vc).ownBlock = some (w5.heap.size + 1) := by
      have e : (w5.alloc (.cells #[.int .i64 (t : Int), .int .i64 1, .int .i64 (pr : Int)] 171)).drew.heap.size = w5.heap.size + 1 := by show (w5.alloc _).heap.size = _; simp
      have := HG.out.2.2
      rw [e, ← HOV.out] at this
      exact this
    have hw5 : w.heap.size ≤ w5.heap.size := O05.out.size
    refine ⟨_, _, rfl, ?_, ?_, HM7.out.kept (b8 m HM7.out.lt), ?_, ?_, ?_, ?_⟩
    · have := q1
      rw [List.nil_append, Int.toNat_natCast, HVN.out] at this
      exact this
    · intro j hj
      rcases q3.own j hj with h | h
      · simp [Value.ownBlock] at h
      · omega
    · exact HA5.out.kept ((b8 _ (by have := HXN.out.2.2.2.2.2.2; omega)).trans ((b7 _ (fun e => by
        obtain ⟨es, ec, hb⟩ := HA5.out.block
        have h5 := HM5.out
        unfold MkAt at h5
        rw [← e, hb] at h5; cases h5)).trans (b6 _ HXN.out.2.2.2.2.2.2 HXN.out.2.2.2.2.2.1)))
    · refine HG.out.1.kept (fun j hj => (b8 j (by have := HG.out.1.lt hj; omega)).trans (b7 j (fun e => ?_)))
      subst e
      rcases loc with h | h
      · exact HXN.out.2.2.2.1 (by rw [← h]; exact hj)
      · rw [h] at hj
        injection hj with hj
        have := HXN.out.2.1
        omega
    · have o5 : Onl (fun k => k = m ∨ k = s.ba ∨ s.ov.ownBlock = some k) w w5 := O05.out.mono (fun i hi => Or.inr (Or.inl hi))
      have o6 : Onl (fun k => k = m ∨ k = s.ba ∨ s.ov.ownBlock = some k) w w6 := (o5.alloc _).drew.grownV (u := .slice oa os.length ocp) HG.out.2.1 (fun k hk => Or.inl (Or.inr (Or.inr (by rw [HOV.out]; exact hk))))
      have o7 : Onl (fun k => k = m ∨ k = s.ba ∨ s.ov.ownBlock = some k) w wc := by rw [HW7.out]; exact o6.set _ _ (Or.inl (Or.inl rfl))
      exact o7.trans q2 (fun i hi => by simp [Value.ownBlock] at hi)
    · rcases loc with h | h
      · exact Or.inl h
      · exact Or.inr ⟨_, h, by omega⟩

end Go.Proofs.Ytjfifaooimgbaaa
