import Derived.Test.YtjfifaooimgbaaaGiS
import Derived.Deep.Cut
import Derived.Test.YtjfifaooimgbaaaGi6
/- slices.Delete of one order. -/
namespace Go.Proofs.Ytjfifaooimgbaaa
open Go.Shelf Go.RowKit Go.Lib Go.Sort

theorem wpList_append_in (w : World) {ops : Array Oper} {rest : List Oper} {o : Oper} {a : Act} {Q : Exit → Act → World → Prop}
    (hg : o.guard = none) (s x : Operand) (hop : o.op = Op.call { callee := Callee.builtin Builtin.append, args := #[s, x], argTypes := #[122, 122] })
    (g n cap : Nat) (hs : a.eval s = .slice (some ⟨g, 0, none⟩) n cap) (xv : Value) (hx : a.eval x = xv) (m k : Nat) (hk : n + m = k) (news : List Value) (hsrc : Src Try.prog 3 122 xv m news w) (hroom : n + m ≤ cap)
    (hc : ∀ j, j < news.length → (w.cell? ⟨g, 0 + n * 3 + j, none⟩).isSome = true) (hf : ∀ j, j < news.length → w.frozen? ⟨g, 0 + n * 3 + j, none⟩ = false)
    (hK : ∀ w', w' = w.setCells g (0 + n * 3) news → wpList Try.prog ops Q rest (a.put o.dst (.slice (some ⟨g, 0, none⟩) k cap)) w') : wpList Try.prog ops Q (o :: rest) a w := by
  subst hk
  refine wpList_plain hg fun K hK' => ?_
  obtain ⟨i0, hi, hz0, hz1, hz2⟩ := info_parts Try.info171
  have hr := run_append_room_src (P := Try.prog) w 122 122 o.type 171 i0 Try.underlying122 hi g 0 n cap xv m news (by rw [hz1]; exact hsrc) hroom (by rw [hz1]; exact hc) (by rw [hz1]; exact hf)
  rw [hz1] at hr
  unfold Oper.wp execOp
  simp only [hop, resolve, invoke, builtin, Sem.run_bind, Sem.run_pure, Result.andThen_ok, List.map_toArray, List.map_cons, List.map_nil, hs, hx, hr]
  exact hK' _ _ (hK _ rfl)

theorem run_clear (w : World) (ty : TypeId) (g o c : Nat) (v0 v1 v2 : Value) (c0 : w.cell? ⟨g, o, none⟩ = some v0) (c1 : w.cell? ⟨g, o + 1, none⟩ = some v1) (c2 : w.cell? ⟨g, o + 2, none⟩ = some v2) (fr : ∀ j, w.frozen? ⟨g, j, none⟩ = false) :
    (Builtin.clear_ #[122] ty #[.slice (some ⟨g, o, none⟩) 1 c]).run Try.prog w = .ok (.tuple #[]) (((w.setCell ⟨g, o, none⟩ (.int .i64 0)).setCell ⟨g, o + 1, none⟩ (.int .i64 0)).setCell ⟨g, o + 2, none⟩ (.int .i64 0)) := by
  have z : ∀ w, (zeroValue 171).run Try.prog w = .ok (.agg #[.int .i64 0, .int .i64 0, .int .i64 0]) w := fun w => by kernel_rfl
  have zc : (Builtin.zeroCells #[.int .i64 0, .int .i64 0, .int .i64 0] 1).toList = [.int .i64 0, .int .i64 0, .int .i64 0] := by kernel_rfl
  have hst := run_storeCells_cells (P := Try.prog) g o [.int .i64 0, .int .i64 0, .int .i64 0] 0 w (fun j hj => by
    match j, hj with
    | 0, _ => simp [c0]
    | 1, _ => simp [c1]
    | 2, _ => simp [c2]) (fun j _ => fr _) (fun u hu => by simp at hu; subst hu; rfl)
  simp only [Nat.add_zero] at hst
  simp [Builtin.clear_, run_underlying Try.underlying122, z, Value.cells, zc, hst]
  rfl

theorem ocs_drop : ∀ (os : List Ex.Ord) (i : Nat), ocs (os.drop i) = (ocs os).drop (i * 3)
  | [], i => by simp [ocs]
  | o :: r, 0 => by simp
  | o :: r, i + 1 => by
    rw [List.drop_succ_cons, ocs_drop r i]
    show _ = ((oc o) ++ ocs r).drop ((i + 1) * 3)
    rw [List.drop_append, List.drop_eq_nil_of_le (show (oc o).length ≤ (i + 1) * 3 by show 3 ≤ _; omega), List.nil_append]
    congr 1
    show i * 3 = (i + 1) * 3 - 3
    omega
theorem ocs_take : ∀ (os : List Ex.Ord) (i : Nat), ocs (os.take i) = (ocs os).take (i * 3)
  | [], i => by simp [ocs]
  | o :: r, 0 => by simp [ocs]
  | o :: r, i + 1 => by
    rw [List.take_succ_cons]
    show (oc o) ++ ocs (r.take i) = ((oc o) ++ ocs r).take ((i + 1) * 3)
    rw [ocs_take r i, List.take_append, List.take_of_length_le (show (oc o).length ≤ (i + 1) * 3 by show 3 ≤ _; omega)]
    congr 2
    show i * 3 = (i + 1) * 3 - 3
    omega

set_option maxHeartbeats 2000000 in
set_option maxRecDepth 100000 in
theorem delete_any (w : World) (g cap i N : Nat) (os : List Ex.Ord) (hO : ORow w (.slice (some ⟨g, 0, none⟩) (N + 1) cap) os) (hN : os.length = N + 1) (hi : i < N + 1) (hl : N + 1 ≤ 1000) :
    Calls Try.prog 124 #[.slice (some ⟨g, 0, none⟩) (N + 1) cap, .int .i64 (i : Int), .int .i64 ((i : Int) + 1)] w fun e w' => e = .returned (.slice (some ⟨g, 0, none⟩) N cap) ∧ ORow w' (.slice (some ⟨g, 0, none⟩) N cap) (os.eraseIdx i) ∧ w.grownBy w' (some g) := by
  have mixed : Try.prog.follows .mixedOrders = true := by kernel_rfl
  obtain ⟨h1, h2⟩ := hO
  rcases h2 with ⟨h2, _⟩ | ⟨g', cap', cur, hv, _, hb, hnc, hcm, hcs, htk⟩
  · cases h2
  injection hv with hv1 hv2 hv3
  injection hv1 with hv1
  injection hv1 with hv1 _ _
  subst hv1 hv3
  have e1 : (os.eraseIdx i).length = N := by rw [List.length_eraseIdx, if_pos (by omega)]; omega
  have e2 : ocs (os.eraseIdx i) = (ocs os).take (i * 3) ++ (ocs os).drop ((i + 1) * 3) := by rw [List.eraseIdx_eq_take_drop_succ, ocs_append, ocs_take, ocs_drop]
  have hlen : (ocs os).length = (N + 1) * 3 := by rw [ocs_length, hN]
  have hnl : ((ocs os).drop ((i + 1) * 3)).length = (N - i) * 3 := by rw [List.length_drop, hlen]; omega
  rw [hN] at hnc htk
  obtain ⟨Wd, hWd⟩ : ∃ Wd : World, Wd = { heap := w.heap, tape := w.tape, drawn := w.drawn + 1, os := w.os, output := w.output } := ⟨_, rfl⟩
  have hbd : Wd.heap[g]? = some (.cells cur 171 (0, 0)) := by rw [hWd]; exact hb
  obtain ⟨cur', k1, k2, k3, k4, k5⟩ := setCells_heap g 171 ((ocs os).drop ((i + 1) * 3)) (0 + i * 3) Wd cur hbd (by rw [hnl, hcs]; omega)
  have FIN : Aside (∀ w', w' = ((((Wd.setCells g (0 + i * 3) ((ocs os).drop ((i + 1) * 3))).setCell ⟨g, N * 3, none⟩ (.int .i64 0)).setCell ⟨g, N * 3 + 1, none⟩ (.int .i64 0)).setCell ⟨g, N * 3 + 2, none⟩ (.int .i64 0)) → ORow w' (.slice (some ⟨g, 0, none⟩) N cap) (os.eraseIdx i) ∧ w.grownBy w' (some g)) := fun w' hw' => by
    have j1 := setCell_heap (setCell_heap (setCell_heap k1 (N * 3) (.int .i64 0)) (N * 3 + 1) (.int .i64 0)) (N * 3 + 2) (.int .i64 0)
    rw [← hw'] at j1
    refine ⟨⟨by rw [ocs_length], Or.inr ⟨g, cap, _, by rw [e1], Nat.zero_le _, j1, by rw [e1]; omega, hcm, by simp [k2, hcs], ?_⟩⟩, ?_⟩
    · rw [e1]
      simp only [Array.toList_setIfInBounds]
      rw [List.take_set_of_le (by omega), List.take_set_of_le (by omega), List.take_set_of_le (by omega)]
      rw [hnl, show 0 + i * 3 + (N - i) * 3 = N * 3 by omega] at k3
      rw [k3, e2, ← htk, List.take_take]
      congr 1
      rw [Nat.zero_add, Nat.min_eq_left (by omega)]
    · have s1 : w.grownBy Wd (some g) := by rw [hWd]; exact ⟨rfl, rfl, rfl, Nat.le_refl _, fun _ _ _ => rfl⟩
      have st : ∀ (a : World) (o : Nat) (v : Value), w.grownBy a (some g) → w.grownBy (a.setCell ⟨g, o, none⟩ v) (some g) := fun a o v h => gb_set h o v
      rw [hw']
      exact st _ _ _ (st _ _ _ (st _ _ _ (gb_trans s1 k4)))
  have SRC : Aside (∀ A c, (N - i = 0 ∨ A = ⟨g, (i + 1) * 3, none⟩) → Src Try.prog 3 122 (.slice (some A) (N - i) c) (N - i) ((ocs os).drop ((i + 1) * 3)) Wd) := fun A c hA => by
    refine Src.ofSlice Wd Try.underlying122 A (N - i) c _ hnl (fun j u hj => ?_) (fun u hu => ?_)
    · have hjl : j < ((ocs os).drop ((i + 1) * 3)).length := (List.getElem?_eq_some_iff.1 hj).1
      rcases hA with h | rfl
      · rw [hnl, h] at hjl; omega
      · rw [List.getElem?_drop, ← htk, List.getElem?_take_of_lt (by rw [hnl] at hjl; omega)] at hj
        rw [Addr.add_lit]
        simp only [World.cell?, hbd]
        simpa using hj
    · obtain ⟨o, _, hu⟩ := List.mem_flatMap.1 (List.mem_of_mem_drop hu)
      exact one_oc o u hu
  have ROOM : Aside ((∀ j, j < ((ocs os).drop ((i + 1) * 3)).length → (Wd.cell? ⟨g, 0 + i * 3 + j, none⟩).isSome = true) ∧ (∀ j, j < ((ocs os).drop ((i + 1) * 3)).length → Wd.frozen? ⟨g, 0 + i * 3 + j, none⟩ = false)) := ⟨fun j hj => by
      rw [hnl] at hj
      simp only [World.cell?, hbd]
      simp
      omega, fun j hj => by simp [World.frozen?, hbd]⟩
  have CL : Aside (∀ w', w' = Wd.setCells g (0 + i * 3) ((ocs os).drop ((i + 1) * 3)) → (∀ j, j < 3 → ∃ v, w'.cell? ⟨g, N * 3 + j, none⟩ = some v) ∧ ∀ j, w'.frozen? ⟨g, j, none⟩ = false) := fun w' hw' => by
    rw [hw']
    refine ⟨fun j hj => ?_, fun j => by simp only [World.frozen?, k1]; simp⟩
    have hlt : N * 3 + j < cur'.size := by rw [k2, hcs]; omega
    exact ⟨cur'[N * 3 + j], by simp only [World.cell?, k1]; simp [hlt]⟩
  clear k1 k2 k3 k4 k5 e1 e2 hnl hlen htk hcs hb hbd h1 hv2 hN
  have hin1 : (i : Int) + 1 ≤ (N : Int) + 1 := by omega
  have hin0 : (i : Int) ≤ (N : Int) + 1 := by omega
  have hic : (i : Int) ≤ (cap : Int) := by omega
  have hlc : (N : Int) + 1 ≤ (cap : Int) := by omega
  have hnc' : (N : Int) ≤ (cap : Int) := by omega
  have hne : ((i : Int) == (i : Int) + 1) = false := beq_eq_false_iff_ne.2 (by omega)
  have hi1 : (0 : Int) ≤ (i : Int) + 1 := by omega
  have hic1 : (i : Int) + 1 ≤ (cap : Int) := by omega
  have hcn : ¬ cap = N := by omega
  by_cases hcap : cap = i + 1
  · obtain rfl : i = N := by omega
    subst hcap
    have SRC0 : Aside (∀ A c, Src Try.prog 3 122 (.slice (some A) 0 c) 0 ((ocs os).drop ((i + 1) * 3)) Wd) := fun A c => by
      have := SRC.out A c (Or.inl (Nat.sub_self i))
      rwa [Nat.sub_self] at this
    have hii : (i : Int) ≤ (i : Int) + 1 := by omega
    clear hin1 hin0 hic hlc hnc' hi1 hic1 hcn hi hnc
    have hz0 : (0 : Int) ≤ (i : Int) := by omega
    have hz1 : (0 : Int) ≤ (i : Int) + 1 := by omega
    go_enter Try.func124, Try.ntmps124
    go_wp2_with fail
    go_still_tail 6, mixed
    rw [← hWd]
    clear hWd
    go_wp2_with (first | (at_builtin; refine wpList_append_in _ rfl _ _ rfl g i (i + 1) rfl _ rfl 0 i (by omega) _ (SRC0.out _ _) (by omega) ROOM.out.1 ROOM.out.2 ?_; intro w6 hw6; obtain ⟨CC, fr⟩ := CL.out w6 hw6; obtain ⟨v0, c0⟩ := CC 0 (by decide); obtain ⟨v1, c1⟩ := CC 1 (by decide); obtain ⟨v2, c2⟩ := CC 2 (by decide); have HW6 : Aside (w6 = Wd.setCells g (0 + i * 3) ((ocs os).drop ((i + 1) * 3))) := hw6; clear hw6 CC; have hcl := fun ty => run_clear w6 ty g (i * 3) 1 v0 v1 v2 c0 c1 c2 fr; clear fr c0 c1 c2) | fail)
    go_ret
    refine ⟨rfl, FIN.out _ ?_⟩
    rw [HW6.out]
  · go_enter Try.func124, Try.ntmps124
    go_wp2_with fail
    go_still_tail 6, mixed
    rw [← hWd]
    clear hWd
    go_wp2_with (first | (at_builtin; refine wpList_append_in _ rfl _ _ rfl g i cap rfl _ rfl (N - i) N (by omega) _ (SRC.out _ _ (Or.inr rfl)) (by omega) ROOM.out.1 ROOM.out.2 ?_; intro w6 hw6; obtain ⟨CC, fr⟩ := CL.out w6 hw6; obtain ⟨v0, c0⟩ := CC 0 (by decide); obtain ⟨v1, c1⟩ := CC 1 (by decide); obtain ⟨v2, c2⟩ := CC 2 (by decide); have HW6 : Aside (w6 = Wd.setCells g (0 + i * 3) ((ocs os).drop ((i + 1) * 3))) := hw6; clear hw6 CC; have hcl := fun ty => run_clear w6 ty g (N * 3) (cap - N) v0 v1 v2 c0 c1 c2 fr; clear fr c0 c1 c2) | fail)
    go_ret
    refine ⟨rfl, FIN.out _ ?_⟩
    rw [HW6.out]
end Go.Proofs.Ytjfifaooimgbaaa
/- An order is cancelled. -/
namespace Go.Proofs.Ytjfifaooimgbaaa
open Go.Shelf Go.RowKit Go.Lib Go.Sort

set_option maxHeartbeats 2000000 in
set_option maxRecDepth 100000 in
theorem cancel_no (w : World) (m X k t a sd pr : Nat) (s : MkS) (os : List Ex.Ord) (hX : BoxM w X m) (hM : MkAt w m s) (hO : ORow w s.ov os) (hl : os.length ≤ 1000) (hn : placeX os t < 0) :
    Calls Try.prog 123 #[reqV k t a sd pr, .pointer (some ⟨X, 0, none⟩)] w fun e w' => e = .returned (.tuple #[.int .u8 10, .slice none 0 0]) ∧ Below w.heap.size w w' := by
  have mixed : Try.prog.follows .mixedOrders = true := by kernel_rfl
  unfold reqV
  obtain ⟨W, hW⟩ : ∃ W, W = w.alloc (.cells #[.int .i64 (k : Int), .int .i64 (t : Int), .int .u64 (a : Int), .int .i64 (sd : Int), .int .i64 (pr : Int)] 157) := ⟨_, rfl⟩
  have hsz : W.heap.size = w.heap.size + 1 := by rw [hW]; simp
  have bk : ∀ j, j < w.heap.size → W.heap[j]? = w.heap[j]? := fun j hj => by rw [hW]; exact Below.heap_alloc w _ j hj
  have x1 := (hX.kept (bk X hX.lt)).cell
  have C := (hM.kept (bk m hM.lt)).all
  have m4 := C.c4
  have m5 := C.c5
  have m6 := C.c6
  have r1 : W.cell? ⟨w.heap.size, 1, none⟩ = some (.int .i64 (t : Int)) := by rw [hW]; simp
  have HOW : Aside (Onl (fun _ => False) w W) := by show Onl _ _ _; rw [hW]; exact (Onl.refl _ w).alloc _
  have HPL : Aside _ := place_any os s.ov s.num s.fin t W.drew ((hO.kept (fun j hj => bk j (hO.lt hj))).kept (fun _ _ => rfl)) hl
  clear hX hM hO C bk
  go_enter Try.func123, Try.ntmps123
  go_wp2_with fail
  rw [← hW]
  clear hW
  go_still_tail 6, mixed
  go_wp2_with fail
  refine Calls.mono (f := 120) HPL.out ?_
  rintro e w2 ⟨rfl, B2⟩
  have O2 : Aside (Onl (fun _ => False) w w2) := HOW.out.drew.below B2
  clear B2 HPL
  go_wp2
  go_ret2
  exact ⟨rfl, O2.out.toBelow⟩
end Go.Proofs.Ytjfifaooimgbaaa
