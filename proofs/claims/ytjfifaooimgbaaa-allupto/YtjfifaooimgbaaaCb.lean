import Derived.Test.YtjfifaooimgbaaaCa
import Derived.Deep.Cut
/- An order is cancelled: it is gone. -/
namespace Go.Proofs.Ytjfifaooimgbaaa
open Go.Shelf Go.RowKit Go.Lib Go.Sort

theorem wrap_i (x : Int) (h0 : 0 ≤ x) (h1 : x < 9223372036854775808) : IntKind.i64.wrap x = x := by
  have hm : x % (2 ^ 64 : Int) = x := Int.emod_eq_of_lt h0 (by omega)
  have hc : (IntKind.i64.signed && decide (x % (2 ^ IntKind.i64.bits : Int) ≥ (2 ^ (IntKind.i64.bits - 1) : Int))) = false := by
    have : ¬ (x % (2 ^ 64 : Int) ≥ (2 ^ 63 : Int)) := by rw [hm]; omega
    exact decide_eq_false this
  show (if (IntKind.i64.signed && decide (x % (2 ^ IntKind.i64.bits : Int) ≥ (2 ^ (IntKind.i64.bits - 1) : Int))) = true then x % (2 ^ IntKind.i64.bits : Int) - (2 ^ IntKind.i64.bits : Int) else x % (2 ^ IntKind.i64.bits : Int)) = x
  rw [if_neg (by rw [hc]; decide)]
  exact hm

set_option maxHeartbeats 8000000 in
set_option maxRecDepth 100000 in
theorem cancel_yes (w : World) (m X k t a sd pr i : Nat) (s : MkS) (q : Nat → A4) (os : List Ex.Ord) (hX : BoxM w X m) (hM : MkAt w m s) (hA : AccF w s.ba q) (hO : ORow w s.ov os) (hq : Tame q) (ht : t < 20) (hl : os.length ≤ 1000) (hi : i < os.length) (hp : placeX os t = i) (hpr : sml (stakeOf (os.getD i ⟨0, 0, 0⟩))) :
    Calls Try.prog 123 #[reqV k t a sd pr, .pointer (some ⟨X, 0, none⟩)] w fun e w' => ∃ v, e = .returned (.tuple #[.int .u8 0, .slice none 0 0]) ∧ MkAt w' m { s with ov := v } ∧ AccF w' s.ba (updA q t (chg (goodOf (os.getD i ⟨0, 0, 0⟩).side) (stakeOf (os.getD i ⟨0, 0, 0⟩)) (-(stakeOf (os.getD i ⟨0, 0, 0⟩))) (q t))) ∧ ORow w' v (os.eraseIdx i) ∧ Onl (fun k => k = m ∨ k = s.ba ∨ s.ov.ownBlock = some k) w w' ∧ Lies w s.ov v := by
  have mixed : Try.prog.follows .mixedOrders = true := by kernel_rfl
  unfold reqV
  obtain ⟨oa, ocp, hov, hords, _⟩ := hO.ords
  obtain ⟨g, rfl, _⟩ := hords i hi
  obtain ⟨N, hN⟩ : ∃ N, os.length = N + 1 := ⟨os.length - 1, by omega⟩
  obtain ⟨W, hW⟩ : ∃ W, W = w.alloc (.cells #[.int .i64 (k : Int), .int .i64 (t : Int), .int .u64 (a : Int), .int .i64 (sd : Int), .int .i64 (pr : Int)] 157) := ⟨_, rfl⟩
  have hsz : W.heap.size = w.heap.size + 1 := by rw [hW]; simp
  have bk : ∀ j, j < w.heap.size → W.heap[j]? = w.heap[j]? := fun j hj => by rw [hW]; exact Below.heap_alloc w _ j hj
  have gl : g < w.heap.size := hO.lt (by rw [hov]; rfl)
  have F : Aside (∀ w1 : World, (∀ j, j < W.heap.size → j ≠ s.ba → w1.heap[j]? = W.heap[j]?) → w1.cell? ⟨X, 0, none⟩ = some (.pointer (some ⟨m, 0, none⟩)) ∧ MkAt w1 m s ∧ w1.cell? ⟨w.heap.size, 1, none⟩ = some (.int .i64 (t : Int)) ∧ ORow w1 s.ov os) := fun w1 h => by
    obtain ⟨es, ec, hb⟩ := hA.block
    have nX : X ≠ s.ba := fun e => by rw [← e] at hb; have := hX; unfold BoxM at this; rw [this] at hb; cases hb
    have nM : m ≠ s.ba := fun e => by rw [← e] at hb; have := hM; unfold MkAt at this; rw [this] at hb; cases hb
    have al := hA.lt
    have b0 : W.heap[w.heap.size]? = some (.cells #[.int .i64 (k : Int), .int .i64 (t : Int), .int .u64 (a : Int), .int .i64 (sd : Int), .int .i64 (pr : Int)] 157) := by rw [hW]; exact heap_alloc_new w _
    have e0 := (h w.heap.size (by omega) (by omega)).trans b0
    have M1 : MkAt w1 m s := hM.kept ((h m (by have := hM.lt; omega) nM).trans (bk m hM.lt))
    refine ⟨(hX.kept ((h X (by have := hX.lt; omega) nX).trans (bk X hX.lt))).cell, M1, ?_, hO.kept (fun j hj => ?_)⟩
    · simp [World.cell?, e0]
    · have jl := hO.lt hj
      exact (h j (by omega) (fun e => by obtain ⟨cur, hc⟩ := row_block hO hj; rw [e, hb] at hc; cases hc)).trans (bk j jl)
  have NE : Aside (m < w.heap.size ∧ g ≠ m ∧ X ≠ m ∧ g ≠ s.ba ∧ s.ba < w.heap.size ∧ X ≠ g ∧ m ≠ s.ba ∧ X < w.heap.size) := by
    obtain ⟨cur, hc⟩ := row_block hO (k := g) (by rw [hov]; rfl)
    obtain ⟨es, ec, hb⟩ := hA.block
    have h4 := hX
    have h5 := hM
    unfold BoxM at h4
    unfold MkAt at h5
    refine ⟨hM.lt, fun e => ?_, fun e => ?_, fun e => ?_, hA.lt, fun e => ?_, fun e => ?_, hX.lt⟩
    · rw [e, h5] at hc; injection hc with hc; injection hc with _ hc; revert hc; decide
    · rw [e, h5] at h4; injection h4 with h4; injection h4 with _ h4; revert h4; decide
    · rw [e, hb] at hc; cases hc
    · rw [e, hc] at h4; injection h4 with h4; injection h4 with _ h4; revert h4; decide
    · rw [e, hb] at h5; cases h5
  have AW : Aside (AccF W s.ba q) := hA.kept (bk _ hA.lt)
  have HOW : Aside (Onl (fun _ => False) w W) := by show Onl _ _ _; rw [hW]; exact (Onl.refl _ w).alloc _
  obtain ⟨x1, MW, r1, OW⟩ := F.out W (fun _ _ _ => rfl)
  have m4 := MW.all.c4
  have m5 := MW.all.c5
  have m6 := MW.all.c6
  have HPL : Aside _ := place_any os s.ov s.num s.fin t W.drew (OW.kept (fun _ _ => rfl)) hl
  rw [hp] at HPL
  have TAME : Aside (Tame q) := hq
  have HOV : Aside (s.ov = .slice (some ⟨g, 0, none⟩) (N + 1) ocp) := by show _ = _; rw [hov, hN]
  have hiN : i < N + 1 := by omega
  have hNl : N + 1 ≤ 1000 := by omega
  have HI : Aside (i < os.length) := hi
  have HN : Aside (os.length = N + 1) := hN
  have HSM : Aside (sml (stakeOf (os.getD i ⟨0, 0, 0⟩))) := hpr
  clear hX hM hA hO hq bk MW OW hov hp hN hi hl hpr
  go_enter Try.func123, Try.ntmps123
  go_wp2_with fail
  rw [← hW]
  clear hW
  go_still_tail 6, mixed
  go_wp2_with fail
  refine Calls.mono (f := 120) HPL.out ?_
  rintro e w2 ⟨rfl, B2⟩
  have B12 : Aside (Below W.heap.size W w2) := ⟨B2.os, B2.tape, B2.output, B2.size, B2.block⟩
  have hsz2 : W.heap.size ≤ w2.heap.size := B2.size
  clear x1 r1 m4 m5 m6 HPL B2
  obtain ⟨x1, M2, r1, OR2⟩ := F.out w2 (fun j hj _ => B12.out.block j hj)
  have m6 := M2.all.c6
  rw [HOV.out] at m6
  obtain ⟨g', eg, _, o0, o1, o2⟩ : ∃ g', some (⟨g, 0, none⟩ : Addr) = some ⟨g', 0, none⟩ ∧ g' < w2.heap.size ∧ w2.cell? ⟨g', i * 3, none⟩ = some (.int .i64 ((os.getD i ⟨0, 0, 0⟩).who : Int)) ∧ w2.cell? ⟨g', i * 3 + 1, none⟩ = some (.int .i64 (os.getD i ⟨0, 0, 0⟩).side) ∧ w2.cell? ⟨g', i * 3 + 2, none⟩ = some (.int .i64 (os.getD i ⟨0, 0, 0⟩).price) := by
    obtain ⟨oa', ocp', hov', hords', _⟩ := OR2.ords
    rw [HOV.out] at hov'
    injection hov' with h1 _ _
    rw [h1]
    exact hords' i HI.out
  injection eg with eg
  injection eg with eg _ _
  subst eg
  obtain ⟨o, ho⟩ : ∃ o, o = os.getD i ⟨0, 0, 0⟩ := ⟨_, rfl⟩
  rw [← ho] at o0 o1 o2 HSM
  have HOE : Aside (o = os.getD i ⟨0, 0, 0⟩) := ho
  clear ho
  have HS : Aside (Calls Try.prog 107 #[.agg #[.int .i64 (o.who : Int), .int .i64 o.side, .int .i64 o.price]] w2 fun e w' => e = .returned (.tuple #[.int .i64 (goodOf o.side : Nat), .int .i64 (stakeOf o)]) ∧ Below w2.heap.size w2 w') := stake_any o w2
  have hlt : (i : Int) < (N : Int) + 1 := by omega
  have hge : ¬ (i : Int) < 0 := by omega
  have gd : goodOf o.side < 2 := by unfold goodOf; split <;> decide
  clear M2 OR2
  go_wp2_with fail
  refine Calls.mono (f := 107) HS.out ?_
  rintro e w3 ⟨rfl, B3⟩
  have B13 : Aside (Below W.heap.size W w3) := B12.out.trans (B3.mono hsz2)
  have hsz3 : W.heap.size ≤ w3.heap.size := B13.out.size
  clear x1 r1 m6 o0 o1 o2 B3 HS B12
  obtain ⟨x1, M3, r1, OR3⟩ := F.out w3 (fun j hj _ => B13.out.block j hj)
  have m3 := M3.all.c3
  have HR : Aside _ := release_any w3.drew s.ba q t (goodOf o.side) (stakeOf o) ((AW.out.kept (B13.out.block _ AW.out.lt)).kept (w' := w3.drew) rfl) (by omega) gd (TAME.out.ok (by omega)) HSM.out
  clear M3 OR3
  go_wp2_with fail
  go_still_tail 8, mixed
  go_wp2_with fail
  refine Calls.mono (f := 108) HR.out ?_
  rintro e w4 ⟨rfl, A4', O4⟩
  have hsz4 : W.heap.size ≤ w4.heap.size := Nat.le_trans hsz3 O4.size
  have F4 : ∀ j, j < W.heap.size → j ≠ s.ba → w4.heap[j]? = W.heap[j]? := fun j hj hne => (O4.block j (by show j < w3.heap.size; omega) hne).trans (B13.out.block j hj)
  clear x1 r1 m3 HR
  obtain ⟨x1, M4, r1, OR4⟩ := F.out w4 F4
  have O04 : Aside (Onl (· = s.ba) w w4) := (((HOW.out.mono (fun i h => absurd h (fun x => x))).below B13.out).drew).trans O4 (fun i hi => Or.inl hi)
  have HA4 : Aside (AccF w4 s.ba (updA q t (chg (goodOf o.side) (stakeOf o) (-stakeOf o) (q t)))) := A4'
  have HM4 : Aside (MkAt w4 m s) := M4
  have m6 := M4.all.c6
  rw [HOV.out] at m6
  have HD : Aside (Calls Try.prog 124 #[.slice (some ⟨g, 0, none⟩) (N + 1) ocp, .int .i64 (i : Int), .int .i64 ((i : Int) + 1)] w4.drew fun e w' => e = .returned (.slice (some ⟨g, 0, none⟩) N ocp) ∧ ORow w' (.slice (some ⟨g, 0, none⟩) N ocp) (os.eraseIdx i) ∧ w4.drew.grownBy w' (some g)) := delete_any w4.drew g ocp i N os (by
    have := OR4
    rw [HOV.out] at this
    exact this.kept (fun _ _ => rfl)) HN.out hiN hNl
  have HQ : Aside (∀ w5 : World, w4.drew.grownBy w5 (some g) → w5.cell? ⟨X, 0, none⟩ = some (.pointer (some ⟨m, 0, none⟩)) ∧ MkAt w5 m s ∧ w5.cell? ⟨m, 6, none⟩ = some (.slice (some ⟨g, 0, none⟩) (N + 1) ocp) ∧ w5.frozen? ⟨m, 6, none⟩ = false) := fun w5 gg => by
    obtain ⟨n1, n2, n3, n4, n5, n6, n7, n8⟩ := NE.out
    have hb : ∀ j, j < w.heap.size → j ≠ g → w5.heap[j]? = w4.heap[j]? := fun j hj hne => gg.block j (by show j < w4.heap.size; omega) (fun e => hne (by injection e))
    have M5 : MkAt w5 m s := HM4.out.kept (hb m n1 (fun e => n2 e.symm))
    refine ⟨(World.cell?_of_block (a := ⟨X, 0, none⟩) (hb X n8 n6)).trans x1, M5, ?_, M5.all.fr 6⟩
    rw [M5.all.c6, HOV.out]
  have hwr : IntKind.i64.wrap ((i : Int) + 1) = (i : Int) + 1 := wrap_i _ (by omega) (by omega)
  clear A4' O4 M4 OR4 F4 B13 AW HOW
  go_wp2_with fail
  go_cut [] from 5 (fun w7 => ∃ (w6 : World), w7 = w6.setCell ⟨m, 6, none⟩ (.slice (some ⟨g, 0, none⟩) N ocp) ∧ Aside (ORow w6 (.slice (some ⟨g, 0, none⟩) N ocp) (os.eraseIdx i) ∧ w4.drew.grownBy w6 (some g)))
  case first =>
    go_region_with (go_at_call 124; refine Calls.mono (f := 124) HD.out ?_; rintro e w6 ⟨rfl, g1, g2⟩; obtain ⟨y1, y2, y3, y4⟩ := HQ.out w6 g2)
    all_goals (
      go_wp2_with fail
      go_meet
      exact ⟨w6, rfl, g1, g2⟩)
  case rest =>
    obtain ⟨w6, hw7, HG⟩ := hcut
    have HW7 : Aside (wc = w6.setCell ⟨m, 6, none⟩ (.slice (some ⟨g, 0, none⟩) N ocp)) := hw7
    clear hw7
    go_wp2
    go_ret2
    obtain ⟨n1, n2, n3, n4, n5, n6, n7, n8⟩ := NE.out
    obtain ⟨y1, M6, _, _⟩ := HQ.out w6 HG.out.2
    refine ⟨.slice (some ⟨g, 0, none⟩) N ocp, rfl, by rw [HW7.out]; exact M6.setOv _, ?_, ?_, ?_, ?_⟩
    · rw [HW7.out, ← HOE.out]
      refine HA4.out.kept ((Below.heap_setCell w6 ⟨m, 6, none⟩ _ s.ba (fun e => n7 e.symm)).trans (HG.out.2.block _ (by show s.ba < w4.heap.size; omega) (fun e => n4 (by injection e with e; exact e.symm))))
    · rw [HW7.out]
      refine HG.out.1.kept (fun j hj => Below.heap_setCell w6 _ _ j (fun e => ?_))
      have : j = g := by injection hj with hj; exact hj.symm
      exact n2 (this.symm.trans e)
    · have o4 : Onl (fun k => k = m ∨ k = s.ba ∨ s.ov.ownBlock = some k) w w4 := O04.out.mono (fun i hi => Or.inr (Or.inl hi))
      have o6 : Onl (fun k => k = m ∨ k = s.ba ∨ s.ov.ownBlock = some k) w w6 := o4.drew.grown HG.out.2 (Or.inl (Or.inr (Or.inr (by rw [HOV.out]; rfl))))
      rw [HW7.out]
      exact o6.set _ _ (Or.inl (Or.inl rfl))
    · exact Or.inl (by rw [HOV.out]; rfl)

theorem without_erase : ∀ (os : List Ex.Ord) (t i : Nat), os.Pairwise (fun o q => o.who ≠ q.who) → os.findIdx? (fun o => o.who == t) = some i → Ex.without os t = os.eraseIdx i
  | [], t, i, _, h => by simp at h
  | o :: r, t, i, hp, h => by
    obtain ⟨h1, h2⟩ := List.pairwise_cons.1 hp
    rw [List.findIdx?_cons] at h
    unfold Ex.without
    by_cases e : (o.who == t) = true
    · rw [if_pos e] at h
      injection h with h
      subst h
      have e' : o.who = t := by simpa using e
      rw [List.eraseIdx_zero, List.tail_cons, List.filter_cons_of_neg (by simp [e'])]
      exact List.filter_eq_self.2 (fun q hq => by simpa [← e'] using (h1 q hq).symm)
    · rw [if_neg e] at h
      obtain ⟨j, hj, rfl⟩ := Option.map_eq_some_iff.1 h
      have e' : ¬ o.who = t := by simpa using e
      rw [List.eraseIdx_cons_succ, List.filter_cons_of_pos (by simpa using e')]
      congr 1
      exact without_erase r t j h2 hj
theorem find_idx (os : List Ex.Ord) (t : Nat) : (os.findIdx? (fun o => o.who == t) = none ∧ os.find? (fun o => o.who == t) = none) ∨ ∃ i, i < os.length ∧ os.findIdx? (fun o => o.who == t) = some i ∧ os.find? (fun o => o.who == t) = some (os.getD i ⟨0, 0, 0⟩) ∧ (os.getD i ⟨0, 0, 0⟩).who = t := by
  cases h : os.findIdx? (fun o => o.who == t) with
  | none =>
    refine Or.inl ⟨rfl, List.find?_eq_none.2 fun o ho => ?_⟩
    rw [List.findIdx?_eq_none_iff] at h
    rw [h o ho]; decide
  | some i =>
    have h0 := h
    rw [List.findIdx?_eq_some_iff_getElem] at h
    obtain ⟨hi, h2, h3⟩ := h
    have eg : os.getD i ⟨0, 0, 0⟩ = os[i] := by rw [List.getD_eq_getElem?_getD, List.getElem?_eq_getElem hi]; rfl
    refine Or.inr ⟨i, hi, rfl, ?_, by rw [eg]; simpa using h2⟩
    rw [eg, List.find?_eq_some_iff_getElem]
    exact ⟨h2, i, hi, rfl, fun j hj => by simpa using h3 j hj⟩
end Go.Proofs.Ytjfifaooimgbaaa
