import Derived.Test.YtjfifaooimgbaaaRshare
import Derived.Test.YtjfifaooimgbaaaShare
import Derived.BigRegion
/- The walk of sealbidref.Clear. -/
namespace Go.Proofs.Ytjfifaooimgbaaa
open Go.Shelf Go.RowKit Go.Lib Go.Sort

/-- the numbers of a line. -/
def idxOf (s : List (Int × Int)) : List Int := s.map (fun x => x.1)
theorem ints_line {side : Int} {l : List (Int × Int)} {W : World} {B : Nat} {v : Value} (h : W.ownsRow B 3 1 v (lineOf side l).length ((lineOf side l).map (fun x => Value.int .i64 x.1))) :
    ∃ av capv, v = .slice av (lineOf side l).length capv ∧ IntsAt W av (idxOf (lineOf side l)) := by
  have e : ((lineOf side l).map (fun x => Value.int .i64 x.1)) = (idxOf (lineOf side l)).map (Value.int .i64) := by unfold idxOf; rw [List.map_map]; rfl
  have el : (lineOf side l).length = (idxOf (lineOf side l)).length := by unfold idxOf; rw [List.length_map]
  rw [e, el] at h
  obtain ⟨av, capv, h1, _, _, h2, _⟩ := ints_of_own h
  rw [← el] at h1
  exact ⟨av, capv, h1, h2⟩

theorem IntsAt.up {w w' : World} {av : Option Addr} {out : List Int} (h : IntsAt w av out) (b : Below w.heap.size w w') : IntsAt w' av out := fun j hj => by
  obtain ⟨g, ha, hg, hc⟩ := h j hj
  exact ⟨g, ha, Nat.lt_of_lt_of_le hg b.size, (b.cell (p := ⟨g, j, none⟩) hg).trans hc⟩

/-- who stands at t in a line, and the price that they said. -/
theorem line_cell (side : Int) (hs : side = 0 ∨ side = 1) {l : List (Int × Int)} {W : World} {a av : Option Addr} (hB : BidsAt W a l) (hI : IntsAt W av (idxOf (lineOf side l))) (no : Int) (t : Nat) (ht : t < (lineOf side l).length) :
    ∃ (gi j g o : Nat), av = some ⟨gi, 0, none⟩ ∧ a = some ⟨g, o, none⟩ ∧ gi < W.heap.size ∧ g < W.heap.size ∧ j < l.length ∧ ((lineOf side l).getD t (0, 0)).1.toNat = j ∧ W.cell? ⟨gi, t, none⟩ = some (.int .i64 (j : Int)) ∧ W.cell? ⟨g, o + j * 2 + 1, none⟩ = some (.int .i64 (priceAt no (lineOf side l) t)) := by
  obtain ⟨j, hj, ej, hok⟩ := line_place side hs l t ht
  obtain ⟨gi, rfl, hgi, hci⟩ := hI t (by unfold idxOf; rw [List.length_map]; exact ht)
  obtain ⟨g, o, rfl, hg, _, hc2⟩ := hB j hj
  refine ⟨gi, j, g, o, rfl, rfl, hgi, hg, hj, ?_, ?_, ?_⟩
  · rw [List.getD_eq_getElem?_getD, List.getElem?_eq_getElem ht]
    show ((lineOf side l)[t]).1.toNat = j
    rw [ej]; rfl
  · rw [hci]
    unfold idxOf
    rw [List.getD_eq_getElem?_getD, List.getElem?_map, List.getElem?_eq_getElem ht, ej]
    rfl
  · rw [hc2]
    unfold priceAt
    have e : (lineOf side l).getD t (0, 0) = (lineOf side l)[t] := by rw [List.getD_eq_getElem?_getD, List.getElem?_eq_getElem ht]; rfl
    rw [if_pos ht, e, ej]
    rfl

/-- both lines are marked side by side. -/
def pairF (B S : List (Int × Int)) (fl : List Bool) : Nat → List Bool
  | 0 => fl
  | k + 1 => ((pairF B S fl k).set (B.getD k (0, 0)).1.toNat true).set (S.getD k (0, 0)).1.toNat true
theorem set_swap (l : List Bool) (i j : Nat) : (l.set i true).set j true = (l.set j true).set i true := by
  by_cases h : i = j
  · rw [h]
  · exact List.set_comm _ _ h
theorem markF_set (S : List (Int × Int)) (fl : List Bool) (i : Nat) : ∀ k, markF S (fl.set i true) k = (markF S fl k).set i true
  | 0 => rfl
  | k + 1 => by rw [markF, markF, markF_set S fl i k, set_swap]
theorem pairF_eq (B S : List (Int × Int)) (fl : List Bool) : ∀ k, pairF B S fl k = markF S (markF B fl k) k
  | 0 => rfl
  | k + 1 => by rw [pairF, pairF_eq B S fl k, markF, markF, markF_set]
theorem pairF_length (B S : List (Int × Int)) (fl : List Bool) : ∀ k, (pairF B S fl k).length = fl.length
  | 0 => rfl
  | k + 1 => by rw [pairF, List.length_set, List.length_set]; exact pairF_length B S fl k

theorem settle_yes (l : List (Int × Int)) (h0 : kL l ≠ 0) (h1 : priceAt 1000 (sellersOf l) (kL l - 1) ≤ midF (buyersOf l) (sellersOf l) (kL l)) (h2 : midF (buyersOf l) (sellersOf l) (kL l) ≤ priceAt 0 (buyersOf l) (kL l - 1)) :
    setL l = (kL l, midF (buyersOf l) (sellersOf l) (kL l), midF (buyersOf l) (sellersOf l) (kL l)) := by
  unfold setL settleF; rw [if_neg h0, if_pos ⟨h1, h2⟩]
theorem settle_no (l : List (Int × Int)) (h0 : kL l ≠ 0) (h : ¬ (priceAt 1000 (sellersOf l) (kL l - 1) ≤ midF (buyersOf l) (sellersOf l) (kL l) ∧ midF (buyersOf l) (sellersOf l) (kL l) ≤ priceAt 0 (buyersOf l) (kL l - 1))) :
    (setL l).1 = kL l - 1 ∧ ((setL l).1 ≠ 0 → priceAt 0 (buyersOf l) (kL l - 1) = (setL l).2.1 ∧ priceAt 1000 (sellersOf l) (kL l - 1) = (setL l).2.2) := by
  unfold setL settleF; rw [if_neg h0, if_neg h]
  by_cases h1 : kL l = 1
  · rw [if_pos h1]; exact ⟨by omega, fun h => absurd rfl h⟩
  · rw [if_neg h1]; exact ⟨rfl, fun _ => ⟨rfl, rfl⟩⟩
theorem settle_zero (l : List (Int × Int)) (h : (setL l).1 = 0) : (setL l).2.1 = 0 ∧ (setL l).2.2 = 0 := by
  rcases set_cases l with h' | h' | h'
  · exact ⟨h'.2.1, h'.2.2.1⟩
  · omega
  · omega

/-- the outcome under way. -/
def RefIn (W5 W : World) (l : List (Int × Int)) (X : Nat) (p g : Int) : Prop :=
  W.cell? ⟨X, 0, none⟩ = some (.int .i64 (kL l)) ∧ W.cell? ⟨X, 1, none⟩ = some (.int .i64 (setL l).1) ∧ W.cell? ⟨X, 2, none⟩ = some (.int .i64 p) ∧ W.cell? ⟨X, 3, none⟩ = some (.int .i64 g) ∧
  W.cell? ⟨X, 4, none⟩ = some (.slice (some ⟨W5.heap.size, 0, none⟩) l.length l.length) ∧ W.cell? ⟨X, 5, none⟩ = some (.int .u64 0) ∧ (∀ j, W.frozen? ⟨X, j, none⟩ = false) ∧ X < W.heap.size ∧ X = W5.heap.size + 1 ∧ Below W5.heap.size W5 W
theorem RefIn.other {W5 W W' : World} {l : List (Int × Int)} {X : Nat} {p g : Int} (h : RefIn W5 W l X p g) (hx : W'.heap[X]? = W.heap[X]?) (hs : X < W'.heap.size) (hb : Below W5.heap.size W5 W') : RefIn W5 W' l X p g :=
  ⟨(World.cell?_of_block (a := ⟨X, 0, none⟩) hx).trans h.1, (World.cell?_of_block (a := ⟨X, 1, none⟩) hx).trans h.2.1, (World.cell?_of_block (a := ⟨X, 2, none⟩) hx).trans h.2.2.1, (World.cell?_of_block (a := ⟨X, 3, none⟩) hx).trans h.2.2.2.1,
   (World.cell?_of_block (a := ⟨X, 4, none⟩) hx).trans h.2.2.2.2.1, (World.cell?_of_block (a := ⟨X, 5, none⟩) hx).trans h.2.2.2.2.2.1, fun j => (World.frozen?_of_block (a := ⟨X, j, none⟩) hx).trans (h.2.2.2.2.2.2.1 j), hs, h.2.2.2.2.2.2.2.2.1, hb⟩

/-- stores into the outcome. -/
theorem cell_ne (w : World) {X j k : Nat} (v : Value) (h : j ≠ k) : (w.setCell ⟨X, j, none⟩ v).cell? ⟨X, k, none⟩ = w.cell? ⟨X, k, none⟩ := by
  apply World.cell?_setCell_other
  intro e; injection e; omega
theorem cell_eq (w : World) {X j : Nat} (v : Value) {old : Value} (h : w.cell? ⟨X, j, none⟩ = some old) : (w.setCell ⟨X, j, none⟩ v).cell? ⟨X, j, none⟩ = some v := by
  apply World.cell?_setCell_same
  exact h
def BoxV (W : World) (X : Nat) (v0 v1 v2 v3 v4 v5 : Value) : Prop := W.cell? ⟨X, 0, none⟩ = some v0 ∧ W.cell? ⟨X, 1, none⟩ = some v1 ∧ W.cell? ⟨X, 2, none⟩ = some v2 ∧ W.cell? ⟨X, 3, none⟩ = some v3 ∧ W.cell? ⟨X, 4, none⟩ = some v4 ∧ W.cell? ⟨X, 5, none⟩ = some v5 ∧ (∀ j, W.frozen? ⟨X, j, none⟩ = false) ∧ X < W.heap.size
theorem BoxV.set1 {W : World} {X : Nat} {v0 v1 v2 v3 v4 v5 : Value} (h : BoxV W X v0 v1 v2 v3 v4 v5) (v : Value) : BoxV (W.setCell ⟨X, 1, none⟩ v) X v0 v v2 v3 v4 v5 :=
  ⟨(cell_ne W v (by decide)).trans h.1, cell_eq W v h.2.1, (cell_ne W v (by decide)).trans h.2.2.1, (cell_ne W v (by decide)).trans h.2.2.2.1, (cell_ne W v (by decide)).trans h.2.2.2.2.1, (cell_ne W v (by decide)).trans h.2.2.2.2.2.1, fun j => by rw [World.frozen?_setCell]; exact h.2.2.2.2.2.2.1 j, by have := h.2.2.2.2.2.2.2; simpa using this⟩
theorem BoxV.set2 {W : World} {X : Nat} {v0 v1 v2 v3 v4 v5 : Value} (h : BoxV W X v0 v1 v2 v3 v4 v5) (v : Value) : BoxV (W.setCell ⟨X, 2, none⟩ v) X v0 v1 v v3 v4 v5 :=
  ⟨(cell_ne W v (by decide)).trans h.1, (cell_ne W v (by decide)).trans h.2.1, cell_eq W v h.2.2.1, (cell_ne W v (by decide)).trans h.2.2.2.1, (cell_ne W v (by decide)).trans h.2.2.2.2.1, (cell_ne W v (by decide)).trans h.2.2.2.2.2.1, fun j => by rw [World.frozen?_setCell]; exact h.2.2.2.2.2.2.1 j, by have := h.2.2.2.2.2.2.2; simpa using this⟩
theorem BoxV.set3 {W : World} {X : Nat} {v0 v1 v2 v3 v4 v5 : Value} (h : BoxV W X v0 v1 v2 v3 v4 v5) (v : Value) : BoxV (W.setCell ⟨X, 3, none⟩ v) X v0 v1 v2 v v4 v5 :=
  ⟨(cell_ne W v (by decide)).trans h.1, (cell_ne W v (by decide)).trans h.2.1, (cell_ne W v (by decide)).trans h.2.2.1, cell_eq W v h.2.2.2.1, (cell_ne W v (by decide)).trans h.2.2.2.2.1, (cell_ne W v (by decide)).trans h.2.2.2.2.2.1, fun j => by rw [World.frozen?_setCell]; exact h.2.2.2.2.2.2.1 j, by have := h.2.2.2.2.2.2.2; simpa using this⟩
def Box7 (W5 W7 : World) (l : List (Int × Int)) (X : Nat) : Prop := W7.cell? ⟨X, 0, none⟩ = some (.int .i64 (kL l)) ∧ W7.cell? ⟨X, 1, none⟩ = some (.int .i64 0) ∧ W7.cell? ⟨X, 2, none⟩ = some (.int .i64 0) ∧ W7.cell? ⟨X, 3, none⟩ = some (.int .i64 0) ∧ W7.cell? ⟨X, 4, none⟩ = some (.slice (some ⟨W5.heap.size, 0, none⟩) l.length l.length) ∧ W7.cell? ⟨X, 5, none⟩ = some (.int .u64 0) ∧ (∀ j, W7.frozen? ⟨X, j, none⟩ = false) ∧ X < W7.heap.size ∧ X = W5.heap.size + 1
theorem ref_store3 {W5 W7 : World} {l : List (Int × Int)} {X : Nat} (c : Box7 W5 W7 l X) (hb : Below W5.heap.size W5 W7) (v1 : Value) (p g : Int) (hv : v1 = .int .i64 (setL l).1) :
    RefIn W5 (((W7.setCell ⟨X, 1, none⟩ v1).setCell ⟨X, 2, none⟩ (.int .i64 p)).setCell ⟨X, 3, none⟩ (.int .i64 g)) l X p g := by
  obtain ⟨c0, c1, c2, c3, c4, c5, cf, cl, cx⟩ := c
  subst hv
  have b : BoxV W7 X _ _ _ _ _ _ := ⟨c0, c1, c2, c3, c4, c5, cf, cl⟩
  obtain ⟨a0, a1, a2, a3, a4, a5, af, al⟩ := ((b.set1 (.int .i64 (setL l).1)).set2 (.int .i64 p)).set3 (.int .i64 g)
  refine ⟨a0, a1, a2, a3, a4, a5, af, al, cx, ?_⟩
  exact ((hb.setCell (p := ⟨X, 1, none⟩) (by show _ ≤ X; omega) _).setCell (p := ⟨X, 2, none⟩) (by show _ ≤ X; omega) _).setCell (p := ⟨X, 3, none⟩) (by show _ ≤ X; omega) _
theorem ref_store6 {W5 W7 : World} {l : List (Int × Int)} {X : Nat} (c : Box7 W5 W7 l X) (hb : Below W5.heap.size W5 W7) (u1 u2 u3 v1 : Value) (p g : Int) (hv : v1 = .int .i64 (setL l).1) :
    RefIn W5 ((((((W7.setCell ⟨X, 1, none⟩ u1).setCell ⟨X, 2, none⟩ u2).setCell ⟨X, 3, none⟩ u3).setCell ⟨X, 1, none⟩ v1).setCell ⟨X, 2, none⟩ (.int .i64 p)).setCell ⟨X, 3, none⟩ (.int .i64 g)) l X p g := by
  obtain ⟨c0, c1, c2, c3, c4, c5, cf, cl, cx⟩ := c
  subst hv
  have b : BoxV W7 X _ _ _ _ _ _ := ⟨c0, c1, c2, c3, c4, c5, cf, cl⟩
  obtain ⟨a0, a1, a2, a3, a4, a5, af, al⟩ := (((((b.set1 u1).set2 u2).set3 u3).set1 (.int .i64 (setL l).1)).set2 (.int .i64 p)).set3 (.int .i64 g)
  refine ⟨a0, a1, a2, a3, a4, a5, af, al, cx, ?_⟩
  exact (((((hb.setCell (p := ⟨X, 1, none⟩) (by show _ ≤ X; omega) _).setCell (p := ⟨X, 2, none⟩) (by show _ ≤ X; omega) _).setCell (p := ⟨X, 3, none⟩) (by show _ ≤ X; omega) _).setCell (p := ⟨X, 1, none⟩) (by show _ ≤ X; omega) _).setCell (p := ⟨X, 2, none⟩) (by show _ ≤ X; omega) _).setCell (p := ⟨X, 3, none⟩) (by show _ ≤ X; omega) _
theorem bools_st {W : World} {F X j : Nat} {fl : List Bool} (h : BoolsAt W F fl) (hne : F ≠ X) (v : Value) : BoolsAt (W.setCell ⟨X, j, none⟩ v) F fl := (Below.heap_setCell W ⟨X, j, none⟩ v F hne).trans h
theorem bools_store3 {W : World} {F X : Nat} {fl : List Bool} (h : BoolsAt W F fl) (hne : F ≠ X) (v1 v2 v3 : Value) : BoolsAt (((W.setCell ⟨X, 1, none⟩ v1).setCell ⟨X, 2, none⟩ v2).setCell ⟨X, 3, none⟩ v3) F fl := bools_st (bools_st (bools_st h hne v1) hne v2) hne v3
theorem bools_store6 {W : World} {F X : Nat} {fl : List Bool} (h : BoolsAt W F fl) (hne : F ≠ X) (v1 v2 v3 v4 v5 v6 : Value) : BoolsAt ((((((W.setCell ⟨X, 1, none⟩ v1).setCell ⟨X, 2, none⟩ v2).setCell ⟨X, 3, none⟩ v3).setCell ⟨X, 1, none⟩ v4).setCell ⟨X, 2, none⟩ v5).setCell ⟨X, 3, none⟩ v6) F fl := bools_store3 (bools_store3 h hne v1 v2 v3) hne v4 v5 v6

theorem RefIn.drew {W5 W : World} {l : List (Int × Int)} {X : Nat} {p g : Int} (h : RefIn W5 W l X p g) : RefIn W5 W.drew l X p g :=
  ⟨h.1, h.2.1, h.2.2.1, h.2.2.2.1, h.2.2.2.2.1, h.2.2.2.2.2.1, h.2.2.2.2.2.2.1, h.2.2.2.2.2.2.2.1, h.2.2.2.2.2.2.2.2.1, h.2.2.2.2.2.2.2.2.2.drew⟩
theorem RefIn.setF {W5 W : World} {l : List (Int × Int)} {X : Nat} {p g : Int} (h : RefIn W5 W l X p g) (j : Nat) (v : Value) : RefIn W5 (W.setCell ⟨W5.heap.size, j, none⟩ v) l X p g :=
  h.other (Below.heap_setCell W ⟨W5.heap.size, j, none⟩ v X (by have := h.2.2.2.2.2.2.2.2.1; show X ≠ W5.heap.size; omega)) (by have := h.2.2.2.2.2.2.2.1; simpa using this) (h.2.2.2.2.2.2.2.2.2.setCell (p := ⟨W5.heap.size, j, none⟩) (Nat.le_refl _) _)
theorem ref_drewN {W5 W : World} {l : List (Int × Int)} {X : Nat} {p g : Int} (h : RefIn W5 W l X p g) (n : Nat) : RefIn W5 (W.drewN n) l X p g :=
  ⟨h.1, h.2.1, h.2.2.1, h.2.2.2.1, h.2.2.2.2.1, h.2.2.2.2.2.1, h.2.2.2.2.2.2.1, h.2.2.2.2.2.2.2.1, h.2.2.2.2.2.2.2.2.1, below_drewN h.2.2.2.2.2.2.2.2.2 n⟩
theorem RefIn.below {W5 W : World} {l : List (Int × Int)} {X : Nat} {p g : Int} (h : RefIn W5 W l X p g) : Below W5.heap.size W5 W := h.2.2.2.2.2.2.2.2.2

theorem share_one : shareB ((1 : Nat) : Int) ((1 : Nat) : Int) = 4607182418800017408 := by
  unfold shareB
  rw [if_neg (by decide), Flt.share_eq 1 (by decide) (by decide)]
  rfl
theorem share_can0 {l : List (Int × Int)} (h : canL l = 0) : shareL l = 4607182418800017408 := by
  unfold shareL shareB; rw [if_pos h]
theorem share_gain0 {l : List (Int × Int)} (hl : l.length ≤ 8796093022208) (h : gainedL l = 0) (hc : 0 < canL l) : shareL l = 0 := by
  have hb := gain_bd l
  unfold shareL shareB
  rw [if_neg (by omega), h]
  obtain ⟨b, hbb⟩ := Int.eq_ofNat_of_zero_le (show 0 ≤ canL l by omega)
  rw [hbb, Flt.div_zero b (by omega) (by omega)]
  rfl
/-- the box of the answer. -/
def ResAt (W : World) (R : Nat) : Prop := W.cell? ⟨R, 0, none⟩ = some (.int .i64 0) ∧ W.cell? ⟨R, 1, none⟩ = some (.int .i64 0) ∧ W.cell? ⟨R, 2, none⟩ = some (.int .i64 0) ∧ W.cell? ⟨R, 3, none⟩ = some (.int .i64 0) ∧ W.cell? ⟨R, 4, none⟩ = some (.slice none 0 0) ∧ W.cell? ⟨R, 5, none⟩ = some (.int .u64 0) ∧ ∀ j, W.frozen? ⟨R, j, none⟩ = false

set_option maxHeartbeats 400000 in
theorem rshare_zero (b : Int) (w : World) : Calls Try.prog 43 #[.int .i64 0, .int .i64 b] w fun e w' => e = .returned (.int .u64 ((0 : Nat) : Int)) ∧ w' = w := by
  have mixed : Try.prog.follows .mixedOrders = true := by kernel_rfl
  go_enter Try.func43, Try.ntmps43
  go_wp2
  go_ret
  exact ⟨ret_int rfl, rfl⟩

theorem rshare_l (l : List (Int × Int)) (hl : l.length ≤ 8796093022208) (W : World) (hc : 0 < canL l) : Calls Try.prog 43 #[.int .i64 (gainedL l), .int .i64 (canL l)] W fun e w' => e = .returned (.int .u64 (shareL l)) ∧ w' = W := by
  have gb := gain_bd l
  by_cases hg : gainedL l = 0
  · rw [share_gain0 hl hg hc, hg]; exact rshare_zero _ W
  · obtain ⟨ga, ega⟩ := Int.eq_ofNat_of_zero_le gb.1
    obtain ⟨ca, eca⟩ := Int.eq_ofNat_of_zero_le (show 0 ≤ canL l by omega)
    have e : shareL l = shareB (ga : Int) (ca : Int) := by unfold shareL; rw [ega, eca]
    rw [ega, eca] at gb
    rw [ega] at hg
    rw [eca] at hc
    rw [e, ega, eca]
    exact rshare_any ga ca W (by omega) (by omega) (by omega)
theorem ref_zero {W5 W : World} {l : List (Int × Int)} {X : Nat} {p g : Int} (h : RefIn W5 W l X p g) (hz : (setL l).1 = 0) : RefIn W5 ((W.setCell ⟨X, 2, none⟩ (.int .i64 0)).setCell ⟨X, 3, none⟩ (.int .i64 0)) l X (setL l).2.1 (setL l).2.2 := by
  obtain ⟨z1, z2⟩ := settle_zero l hz
  rw [z1, z2]
  obtain ⟨c0, c1, c2, c3, c4, c5, cf, cl, cx, hb⟩ := h
  have b : BoxV W X _ _ _ _ _ _ := ⟨c0, c1, c2, c3, c4, c5, cf, cl⟩
  obtain ⟨a0, a1, a2, a3, a4, a5, af, al⟩ := (b.set2 (.int .i64 0)).set3 (.int .i64 0)
  refine ⟨a0, a1, a2, a3, a4, a5, af, al, cx, ?_⟩
  exact (hb.setCell (p := ⟨X, 2, none⟩) (by show _ ≤ X; omega) _).setCell (p := ⟨X, 3, none⟩) (by show _ ≤ X; omega) _

set_option maxHeartbeats 4000000 in
set_option maxRecDepth 100000 in
theorem rclear_any (l : List (Int × Int)) (a : Option Addr) (cap : Nat) (w : World) (hB : BidsAt w a l) (hl : l.length ≤ 8796093022208) :
    Calls Try.prog 15 #[.slice a l.length cap] w fun e w' => ∃ F, e = .returned (.agg #[.int .i64 (kL l), .int .i64 (setL l).1, .int .i64 (setL l).2.1, .int .i64 (setL l).2.2, .slice (some ⟨F, 0, none⟩) l.length l.length, .int .u64 (shareL l)]) ∧ BoolsAt w' F (filledL l) ∧ w.heap.size ≤ F ∧ Below w.heap.size w w' := by
  have mixed : Try.prog.follows .mixedOrders = true := by kernel_rfl
  have HB : Aside (BidsAt w a l) := hB
  clear hB
  go_enter Try.func15, Try.ntmps15
  go_wp2_with fail
  obtain ⟨W0, hW0⟩ : ∃ W0, W0 = w.alloc (Obj.cells #[Value.int IntKind.i64 0, Value.int IntKind.i64 0, Value.int IntKind.i64 0, Value.int IntKind.i64 0, Value.slice none 0 0, Value.int IntKind.u64 0] 26) := ⟨_, rfl⟩
  have Z0 : Aside (W0.heap.size = w.heap.size + 1 ∧ Below w.heap.size w W0 ∧ W0.cell? ⟨w.heap.size, 0, none⟩ = some (.int .i64 0) ∧ W0.cell? ⟨w.heap.size, 1, none⟩ = some (.int .i64 0) ∧ W0.cell? ⟨w.heap.size, 2, none⟩ = some (.int .i64 0) ∧ W0.cell? ⟨w.heap.size, 3, none⟩ = some (.int .i64 0) ∧ W0.cell? ⟨w.heap.size, 4, none⟩ = some (.slice none 0 0) ∧ W0.cell? ⟨w.heap.size, 5, none⟩ = some (.int .u64 0) ∧ ∀ j, W0.frozen? ⟨w.heap.size, j, none⟩ = false) := by
    rw [hW0]
    exact ⟨by simp, (Below.refl _ _).alloc (Nat.le_refl _) _, by simp, by simp, by simp, by simp, by simp, by simp, fun j => by simp⟩
  rw [← hW0]
  clear hW0
  have HB0 : Aside (BidsAt W0 a l) := BidsAt.up HB.out Z0.out.2.1
  clear HB
  refine (ordered_any 0 (Or.inl rfl) l a cap W0 HB0.out hl).mono ?_
  rintro e w1 ⟨v, rfl, O1a, B1a⟩
  obtain ⟨ab, cb, rfl, I1a⟩ := ints_line O1a
  have BI1 : Aside (IntsAt w1 ab (idxOf (buyersOf l))) := I1a
  have B1 : Aside (Below W0.heap.size W0 w1) := B1a
  have HB1 : Aside (BidsAt w1 a l) := BidsAt.up HB0.out B1.out
  clear O1a I1a B1a HB0
  have el0 : (lineOf 0 l).length = (buyersOf l).length := rfl
  rw [el0]
  clear el0
  go_wp2_with fail
  refine (ordered_any 1 (Or.inr rfl) l a cap w1 HB1.out hl).mono ?_
  rintro e w2 ⟨v, rfl, O1a, B1a⟩
  obtain ⟨az, cz, rfl, I1a⟩ := ints_line O1a
  have SI2 : Aside (IntsAt w2 az (idxOf (sellersOf l))) := I1a
  have BI2 : Aside (IntsAt w2 ab (idxOf (buyersOf l))) := BI1.out.up B1a
  have B2 : Aside (Below W0.heap.size W0 w2) := B1.out.trans (B1a.mono B1.out.size)
  have HB2 : Aside (BidsAt w2 a l) := BidsAt.up HB1.out B1a
  clear O1a I1a B1a HB1 BI1 B1
  have el1 : (lineOf 1 l).length = (sellersOf l).length := rfl
  rw [el1]
  clear el1
  have hbl := buyers_le l
  have hsl := sellers_le l
  go_wp2_with fail
  rename_i K hK
  have TAIL : ∀ (mm : Nat) (x17 x18 x19 x20 x21 x22 x23 x24 x25 x26 x27 x28 x29 x30 x31 x32 x33 x34 x35 x36 x37 x38 x39 x40 x41 x42 x43 x44 x45 x46 x47 x48 x49 x50 x51 x52 x53 x54 x55 x56 x57 x58 x59 x60 x61 x62 x63 x64 x65 x66 : Value), K { tmps := #[Value.slice a l.length cap, undef, Value.pointer (some ⟨w.heap.size, 0, none⟩), Value.slice ab (buyersOf l).length cb, Value.slice az (sellersOf l).length cz, Value.int IntKind.i64 (kL l), Value.int IntKind.i64 (canL l), undef, undef, undef, undef, undef, undef, Value.slice a l.length cap, Value.slice ab (buyersOf l).length cb, Value.slice a l.length cap, Value.slice az (sellersOf l).length cz, x17, x18, x19, x20, x21, x22, x23, x24, x25, x26, x27, x28, x29, x30, x31, x32, x33, x34, x35, x36, x37, x38, x39, x40, x41, x42, x43, x44, x45, x46, x47, x48, x49, x50, x51, x52, x53, x54, x55, x56, x57, x58, x59, x60, x61, x62, x63, x64, x65, x66, undef, undef, undef, undef, undef, undef, undef, undef, undef, undef, undef, undef, undef, undef, undef, undef, undef, undef, undef, undef, undef, undef, undef, undef, undef, undef, undef, undef, undef, undef, undef, undef, undef, undef, undef, undef, undef, undef, undef, undef, undef, undef, undef, undef, undef, undef, undef, undef, undef, undef, undef, undef, undef, undef, undef, undef, undef, undef, undef, undef, undef, undef, undef, undef, undef, undef, undef, undef, undef, undef, undef, undef, undef, undef, undef, undef, undef, undef, undef, undef, undef, undef, undef, undef, undef, undef, undef, undef, undef, undef, undef, undef, undef, undef, undef, undef, undef, undef, undef, undef, undef, undef, undef, undef, undef, undef, undef, undef, undef, undef, undef, undef, undef, undef, undef, undef, undef, undef, undef, undef, undef, undef, undef, undef, undef, undef, undef], defers := [] } (w2.drewN mm) := by
    intro mm x17 x18 x19 x20 x21 x22 x23 x24 x25 x26 x27 x28 x29 x30 x31 x32 x33 x34 x35 x36 x37 x38 x39 x40 x41 x42 x43 x44 x45 x46 x47 x48 x49 x50 x51 x52 x53 x54 x55 x56 x57 x58 x59 x60 x61 x62 x63 x64 x65 x66
    refine hK _ _ ?_
    clear hK
    have HB5 : Aside (BidsAt (w2.drewN mm) a l) := HB2.out
    have BI5 : Aside (IntsAt (w2.drewN mm) ab (idxOf (buyersOf l))) := BI2.out
    have SI5 : Aside (IntsAt (w2.drewN mm) az (idxOf (sellersOf l))) := SI2.out
    have B5 : Aside (Below W0.heap.size W0 (w2.drewN mm)) := below_drewN B2.out mm
    clear HB2 BI2 SI2 B2
    generalize w2.drewN mm = W5 at HB5 BI5 SI5 B5 ⊢
    have hmk := make_bools l.length W5 hl
    obtain ⟨W6, hW6⟩ : ∃ W6, W6 = W5.alloc (.cells ((List.replicate l.length false).map Value.bool).toArray 4) := ⟨_, rfl⟩
    rw [← hW6] at hmk
    have FL6 : Aside (BoolsAt W6 W5.heap.size (List.replicate l.length false)) := by
      rw [hW6]; show (W5.heap.push _)[W5.heap.size]? = _
      simp
    have z6 : W6.heap.size = W5.heap.size + 1 := by rw [hW6]; simp
    have B6 : Aside (Below W5.heap.size W5 W6) := by rw [hW6]; exact below_alloc W5 _
    clear hW6
    have Z6 : Aside (W6.heap.size = W5.heap.size + 1) := z6
    clear z6
    refine wp_seq_k fun Ka hKa => ?_
    have HKa : Aside _ := hKa
    clear hKa
    go_wp2_with fail
    clear hmk
    obtain ⟨W7, hW7⟩ : ∃ W7, W7 = W6.alloc (Obj.cells #[Value.int IntKind.i64 (kL l), Value.int IntKind.i64 0, Value.int IntKind.i64 0, Value.int IntKind.i64 0, Value.slice (some ⟨W5.heap.size, 0, none⟩) l.length l.length, Value.int IntKind.u64 0] 26) := ⟨_, rfl⟩
    have FL7 : Aside (BoolsAt W7 W5.heap.size (List.replicate l.length false)) := by
      rw [hW7]; exact (Below.heap_alloc W6 _ _ FL6.out.lt).trans FL6.out
    have B7 : Aside (Below W5.heap.size W5 W7) := by rw [hW7]; exact B6.out.alloc B6.out.size _
    obtain ⟨X, hX⟩ : ∃ X, X = W6.heap.size := ⟨_, rfl⟩
    have cX : Aside (W7.cell? ⟨X, 0, none⟩ = some (.int .i64 (kL l)) ∧ W7.cell? ⟨X, 1, none⟩ = some (.int .i64 0) ∧ W7.cell? ⟨X, 2, none⟩ = some (.int .i64 0) ∧ W7.cell? ⟨X, 3, none⟩ = some (.int .i64 0) ∧ W7.cell? ⟨X, 4, none⟩ = some (.slice (some ⟨W5.heap.size, 0, none⟩) l.length l.length) ∧ W7.cell? ⟨X, 5, none⟩ = some (.int .u64 0) ∧ (∀ j, W7.frozen? ⟨X, j, none⟩ = false) ∧ X < W7.heap.size ∧ X = W5.heap.size + 1) := by
      rw [hW7, hX]
      exact ⟨by simp, by simp, by simp, by simp, by simp, by simp, fun j => by simp, by simp, Z6.out⟩
    rw [← hW7]
    refine HKa.out _ _ ?_
    clear HKa
    rw [← hX]
    clear hW7 hX FL6 B6 Z6
    refine wp_seq_k fun K2 hK2 => ?_
    have TAIL2 : ∀ (W8 : World) (p g : Int) (x8 x9 x10 x72 x73 x74 x75 x76 x77 x78 x79 x80 x81 x82 x83 x84 x85 x86 x87 x88 x89 x90 x91 x92 x93 x94 x95 x96 x97 x98 x99 x100 x101 x102 x103 x104 x105 x106 x107 x108 x109 x110 x111 x112 x113 x114 x115 x116 x117 x118 x119 x120 x121 x122 x123 x124 x125 x126 x127 x128 x129 x130 x131 x132 x133 x134 x135 x136 x137 x138 x139 x140 : Value), RefIn W5 W8 l X p g → BoolsAt W8 W5.heap.size (List.replicate l.length false) → ((setL l).1 ≠ 0 → p = (setL l).2.1 ∧ g = (setL l).2.2) → K2 { tmps := #[Value.slice a l.length cap, undef, Value.pointer (some ⟨w.heap.size, 0, none⟩), Value.slice ab (buyersOf l).length cb, Value.slice az (sellersOf l).length cz, Value.int IntKind.i64 (kL l), Value.int IntKind.i64 (canL l), Value.pointer (some ⟨X, 0, none⟩), x8, x9, x10, undef, undef, Value.slice a l.length cap, Value.slice ab (buyersOf l).length cb, Value.slice a l.length cap, Value.slice az (sellersOf l).length cz, x17, x18, x19, x20, x21, x22, x23, x24, x25, x26, x27, x28, x29, x30, x31, x32, x33, x34, x35, x36, x37, x38, x39, x40, x41, x42, x43, x44, x45, x46, x47, x48, x49, x50, x51, x52, x53, x54, x55, x56, x57, x58, x59, x60, x61, x62, x63, x64, x65, x66, Value.int IntKind.i64 (kL l), Value.slice a l.length cap, Value.int IntKind.i64 l.length, Value.slice (some ⟨W5.heap.size, 0, none⟩) l.length l.length, Value.agg #[Value.int IntKind.i64 (kL l), Value.int IntKind.i64 0, Value.int IntKind.i64 0, Value.int IntKind.i64 0, Value.slice (some ⟨W5.heap.size, 0, none⟩) l.length l.length, Value.int IntKind.u64 0], x72, x73, x74, x75, x76, x77, x78, x79, x80, x81, x82, x83, x84, x85, x86, x87, x88, x89, x90, x91, x92, x93, x94, x95, x96, x97, x98, x99, x100, x101, x102, x103, x104, x105, x106, x107, x108, x109, x110, x111, x112, x113, x114, x115, x116, x117, x118, x119, x120, x121, x122, x123, x124, x125, x126, x127, x128, x129, x130, x131, x132, x133, x134, x135, x136, x137, x138, x139, x140, undef, undef, undef, undef, undef, undef, undef, undef, undef, undef, undef, undef, undef, undef, undef, undef, undef, undef, undef, undef, undef, undef, undef, undef, undef, undef, undef, undef, undef, undef, undef, undef, undef, undef, undef, undef, undef, undef, undef, undef, undef, undef, undef, undef, undef, undef, undef, undef, undef, undef, undef, undef, undef], defers := [] } W8 := by
      intro W8 p g x8 x9 x10 x72 x73 x74 x75 x76 x77 x78 x79 x80 x81 x82 x83 x84 x85 x86 x87 x88 x89 x90 x91 x92 x93 x94 x95 x96 x97 x98 x99 x100 x101 x102 x103 x104 x105 x106 x107 x108 x109 x110 x111 x112 x113 x114 x115 x116 x117 x118 x119 x120 x121 x122 x123 x124 x125 x126 x127 x128 x129 x130 x131 x132 x133 x134 x135 x136 x137 x138 x139 x140 RA FA hpg
      have R8 : Aside _ := RA
      have F8 : Aside _ := FA
      have PG : Aside _ := hpg
      clear RA FA hpg
      refine hK2 _ _ ?_
      clear hK2
      have fle : (setL l).1 ≤ (buyersOf l).length ∧ (setL l).1 ≤ (sellersOf l).length := by have := setL_le l; have := kL_le l; omega
      have hfb : (((setL l).1 : Nat) : Int) ≤ 8796093022208 := by omega
      go_wp2_with fail
      go_loopg [11, 12] (setL l).1 (fun kx s t wq => ∃ i : Nat, s = .int .i64 (gainF (buyersOf l) (sellersOf l) i) ∧ t = .int .i64 i ∧ i ≤ (setL l).1 ∧ (setL l).1 - i ≤ kx ∧ Aside (RefIn W5 wq l X p g) ∧ Aside (BoolsAt wq W5.heap.size (pairF (buyersOf l) (sellersOf l) (List.replicate l.length false) i)))
      case atStart => exact ⟨0, rfl, rfl, Nat.zero_le _, by omega, R8, F8⟩
      case round =>
        obtain ⟨i, rfl, rfl, hi, hkx2, R, FB⟩ := hrel
        have c1 := R.out.2.1
        have gbd := gainF_bd (buyers_priced l) (sellers_priced l) i
        by_cases hlt : i < (setL l).1
        · have hltz : (i : Int) < (((setL l).1 : Nat) : Int) := by omega
          have hib : (i : Int) < ((buyersOf l).length : Int) := by omega
          have his : (i : Int) < ((sellersOf l).length : Int) := by omega
          have pbb := (buyers_priced l).bd 0 (by omega) i
          have psb := (sellers_priced l).bd 1000 (by omega) i
          obtain ⟨g1, j1, gg, o, rfl, rfl, hg1, hgg, hj1, ej1, b1, b2⟩ := line_cell 0 (Or.inl rfl) HB5.out BI5.out 0 i (show i < (buyersOf l).length by omega)
          obtain ⟨g2, j2, g', o', rfl, eg, hg2, _, hj2, ej2, s1, s2⟩ := line_cell 1 (Or.inr rfl) HB5.out SI5.out 1000 i (show i < (sellersOf l).length by omega)
          injection eg with eg; injection eg with eg1 eg2; subst eg1; subst eg2
          have hj1z : (j1 : Int) < (l.length : Int) := by omega
          have hj2z : (j2 : Int) < (l.length : Int) := by omega
          have CE : Aside (∀ W, Below W5.heap.size W5 W → W.cell? ⟨g1, i, none⟩ = some (.int .i64 j1) ∧ W.cell? ⟨gg, o + j1 * 2 + 1, none⟩ = some (.int .i64 (priceAt 0 (buyersOf l) i)) ∧ W.cell? ⟨g2, i, none⟩ = some (.int .i64 j2) ∧ W.cell? ⟨gg, o + j2 * 2 + 1, none⟩ = some (.int .i64 (priceAt 1000 (sellersOf l) i))) := fun W hb =>
            ⟨(hb.cell (p := ⟨g1, i, none⟩) hg1).trans b1, (hb.cell (p := ⟨gg, o + j1 * 2 + 1, none⟩) hgg).trans b2, (hb.cell (p := ⟨g2, i, none⟩) hg2).trans s1, (hb.cell (p := ⟨gg, o + j2 * 2 + 1, none⟩) hgg).trans s2⟩
          have EB : Aside (pairF (buyersOf l) (sellersOf l) (List.replicate l.length false) (i + 1) = ((pairF (buyersOf l) (sellersOf l) (List.replicate l.length false) i).set j1 true).set j2 true) := by
            show _ = _
            rw [pairF]
            have e1 : ((buyersOf l).getD i (0, 0)).1.toNat = j1 := ej1
            have e2 : ((sellersOf l).getD i (0, 0)).1.toNat = j2 := ej2
            rw [e1, e2]
          have ST : Aside (gainF (buyersOf l) (sellersOf l) (i + 1) = gainF (buyersOf l) (sellersOf l) i + (priceAt 0 (buyersOf l) i - priceAt 1000 (sellersOf l) i)) := rfl
          have LP : Aside (∀ n, (pairF (buyersOf l) (sellersOf l) (List.replicate l.length false) n).length = l.length) := fun n => by rw [pairF_length]; simp
          generalize priceAt 0 (buyersOf l) i = y1 at CE ST pbb
          generalize priceAt 1000 (sellersOf l) i = y2 at CE ST psb
          generalize gainF (buyersOf l) (sellersOf l) i = r0 at ST gbd ⊢
          have lp := LP.out i
          generalize pairF (buyersOf l) (sellersOf l) (List.replicate l.length false) i = fl at FB EB lp
          clear b1 b2 s1 s2 ej1 ej2 LP
          have c4 := R.out.2.2.2.2.1
          have k1 := (CE.out wr R.out.below).1
          have q1 := FB.out.cell (i := j1) (by omega)
          have f1 := FB.out.frozen j1
          go_wp2_with fail
          go_region
          have RA : Aside (RefIn W5 (wr.setCell ⟨W5.heap.size, j1, none⟩ (.bool true)).drew l X p g) := (R.out.setF j1 _).drew
          have FA : Aside (BoolsAt (wr.setCell ⟨W5.heap.size, j1, none⟩ (.bool true)).drew W5.heap.size (fl.set j1 true)) := FB.out.set j1 true
          clear c1 c4 k1 q1 f1 R FB
          generalize (wr.setCell ⟨W5.heap.size, j1, none⟩ (.bool true)).drew = wa at RA FA ⊢
          have c4 := RA.out.2.2.2.2.1
          have k1 := (CE.out wa RA.out.below).2.2.1
          have q1 := FA.out.cell (i := j2) (by rw [List.length_set]; omega)
          have f1 := FA.out.frozen j2
          go_wp2_with fail
          go_region
          have RC : Aside (RefIn W5 (wa.setCell ⟨W5.heap.size, j2, none⟩ (.bool true)).drew l X p g) := (RA.out.setF j2 _).drew
          have FC : Aside (BoolsAt (wa.setCell ⟨W5.heap.size, j2, none⟩ (.bool true)).drew W5.heap.size ((fl.set j1 true).set j2 true)) := FA.out.set j2 true
          clear c4 k1 q1 f1 RA FA
          generalize (wa.setCell ⟨W5.heap.size, j2, none⟩ (.bool true)).drew = wb at RC FC ⊢
          have z1 : ∀ n, (wb.drewN n).cell? ⟨g1, i, none⟩ = some (.int .i64 j1) := fun n => (CE.out wb RC.out.below).1
          have z2 : ∀ n, (wb.drewN n).cell? ⟨gg, o + j1 * 2 + 1, none⟩ = some (.int .i64 y1) := fun n => (CE.out wb RC.out.below).2.1
          have z3 : ∀ n, (wb.drewN n).cell? ⟨g2, i, none⟩ = some (.int .i64 j2) := fun n => (CE.out wb RC.out.below).2.2.1
          have z4 : ∀ n, (wb.drewN n).cell? ⟨gg, o + j2 * 2 + 1, none⟩ = some (.int .i64 y2) := fun n => (CE.out wb RC.out.below).2.2.2
          have wr1 : IntKind.i64.wrap (r0 + y1) = r0 + y1 := by rw [IntKind.wrap_i64]; omega
          have wr2 : IntKind.i64.wrap (r0 + y1 - y2) = r0 + y1 - y2 := by rw [IntKind.wrap_i64]; omega
          go_wp2_with fail
          go_quiet (fail)
          have RD : Aside (RefIn W5 (wb.drewN nq) l X p g) := ref_drewN RC.out nq
          have FD : Aside (BoolsAt (wb.drewN nq) W5.heap.size ((fl.set j1 true).set j2 true)) := FC.out
          clear z1 z2 z3 z4 RC FC
          generalize wb.drewN nq = wc at RD FD ⊢
          go_wp2
          go_roundg ((setL l).1 - (i + 1))
          case measure => omega
          case rel => exact ⟨i + 1, by rw [ST.out]; exact vint (by omega), by go_num, by omega, Nat.le_refl _, RD, by rw [EB.out]; exact FD⟩
        · have ei : i = (setL l).1 := by omega
          subst ei
          have egl : gainF (buyersOf l) (sellersOf l) (setL l).1 = gainedL l := rfl
          have hltz : ¬ (((setL l).1 : Nat) : Int) < (((setL l).1 : Nat) : Int) := by omega
          rw [egl]
          clear egl
          have FF : Aside (BoolsAt wr W5.heap.size (filledL l)) := by
            have := FB.out
            rw [pairF_eq] at this
            exact this
          have gb := gain_bd l
          have hx5 : w.heap.size < W5.heap.size ∧ X = W5.heap.size + 1 := by
            have h1 := Z0.out.1
            have h2 := B5.out.size
            exact ⟨by omega, R.out.2.2.2.2.2.2.2.2.1⟩
          have hFX : W5.heap.size ≠ X := by omega
          have hFR : W5.heap.size ≠ w.heap.size := by omega
          have hRX : w.heap.size ≤ X := by omega
          have nXR : X ≠ w.heap.size := by omega
          have nRX : w.heap.size ≠ X := by omega
          have hle5 : w.heap.size ≤ W5.heap.size := by omega
          clear hx5
          clear FB hi hkx2 hlt R8 F8 BI5 SI5 HB5
          by_cases hf0 : (setL l).1 = 0
          · have RN : Aside (RefIn W5 ((wr.setCell ⟨X, 2, none⟩ (.int .i64 0)).setCell ⟨X, 3, none⟩ (.int .i64 0)) l X (setL l).2.1 (setL l).2.2) := ref_zero R.out hf0
            have FN : Aside (BoolsAt ((wr.setCell ⟨X, 2, none⟩ (.int .i64 0)).setCell ⟨X, 3, none⟩ (.int .i64 0)) W5.heap.size (filledL l)) := bools_st (bools_st FF.out hFX _) hFX _
            have hfb0 : ((((setL l).1 : Nat) : Int) == 0) = true := beq_iff_eq.2 (by omega)
            have e2 := R.out.2.2.1
            have e3 := R.out.2.2.2.1
            have m2 := R.out.2.2.2.2.2.2.1 2
            have m3 := R.out.2.2.2.2.2.2.1 3
            clear PG hf0
            go_wp2_with fail
            clear e2 e3 m2 m3 R FF c1
            generalize (wr.setCell ⟨X, 2, none⟩ (.int .i64 0)).setCell ⟨X, 3, none⟩ (.int .i64 0) = WN at RN FN ⊢
            have BN : Aside (Below W0.heap.size W0 WN) := B5.out.trans (RN.out.below.mono B5.out.size)
            refine (rshare_any 1 1 WN (by decide) (by decide) (by decide)).mono ?_
            rintro e w9 ⟨rfl, h9⟩
            rw [h9]
            clear h9 w9
            rw [share_one]
            have c0 := RN.out.1
            have c1' := RN.out.2.1
            have c2 := RN.out.2.2.1
            have c3 := RN.out.2.2.2.1
            have c4 := RN.out.2.2.2.2.1
            have c5 := RN.out.2.2.2.2.2.1
            have f5 := RN.out.2.2.2.2.2.2.1 5
            have r0 : w.heap.size < W0.heap.size := by have := Z0.out.1; omega
            have d0 := (BN.out.cell (p := ⟨w.heap.size, 0, none⟩) r0).trans Z0.out.2.2.1
            have d1 := (BN.out.cell (p := ⟨w.heap.size, 1, none⟩) r0).trans Z0.out.2.2.2.1
            have d2 := (BN.out.cell (p := ⟨w.heap.size, 2, none⟩) r0).trans Z0.out.2.2.2.2.1
            have d3 := (BN.out.cell (p := ⟨w.heap.size, 3, none⟩) r0).trans Z0.out.2.2.2.2.2.1
            have d4 := (BN.out.cell (p := ⟨w.heap.size, 4, none⟩) r0).trans Z0.out.2.2.2.2.2.2.1
            have d5 := (BN.out.cell (p := ⟨w.heap.size, 5, none⟩) r0).trans Z0.out.2.2.2.2.2.2.2.1
            have q0 := (BN.out.frozen (p := ⟨w.heap.size, 0, none⟩) r0).trans (Z0.out.2.2.2.2.2.2.2.2 0)
            have q1 := (BN.out.frozen (p := ⟨w.heap.size, 1, none⟩) r0).trans (Z0.out.2.2.2.2.2.2.2.2 1)
            have q2 := (BN.out.frozen (p := ⟨w.heap.size, 2, none⟩) r0).trans (Z0.out.2.2.2.2.2.2.2.2 2)
            have q3 := (BN.out.frozen (p := ⟨w.heap.size, 3, none⟩) r0).trans (Z0.out.2.2.2.2.2.2.2.2 3)
            have q4 := (BN.out.frozen (p := ⟨w.heap.size, 4, none⟩) r0).trans (Z0.out.2.2.2.2.2.2.2.2 4)
            have q5 := (BN.out.frozen (p := ⟨w.heap.size, 5, none⟩) r0).trans (Z0.out.2.2.2.2.2.2.2.2 5)
            clear r0
            by_cases hcan : canL l = 0
            · have hcz : ¬ 0 < canL l := by omega
              have hcd : decide (0 < canL l) = false := decide_eq_false hcz
              have HC : Aside (canL l = 0) := hcan
              clear hcan
              go_wp2
              refine bodyPost_ret (v := .agg #[.int .i64 (kL l), .int .i64 (setL l).1, .int .i64 (setL l).2.1, .int .i64 (setL l).2.2, .slice (some ⟨W5.heap.size, 0, none⟩) l.length l.length, .int .u64 4607182418800017408]) (by simp [results, Try.results15, go_sem, d0, d1, d2, d3, d4, d5]) rfl ?_
              refine ⟨W5.heap.size, by rw [share_can0 HC.out]; rfl, ?_, by omega, ?_⟩
              · exact bools_st (bools_st (bools_st (bools_st (bools_st (bools_st (bools_st FN.out hFX _) hFR _) hFR _) hFR _) hFR _) hFR _) hFR _
              · have bz : Below w.heap.size w WN := Z0.out.2.1.trans (BN.out.mono (by have := Z0.out.1; omega))
                exact ((((((bz.setCell (p := ⟨X, 5, none⟩) hRX _).setCell (Nat.le_refl _) _).setCell (Nat.le_refl _) _).setCell (Nat.le_refl _) _).setCell (Nat.le_refl _) _).setCell (Nat.le_refl _) _).setCell (Nat.le_refl _) _
            · have hcz : 0 < canL l := by omega
              clear hcan
              go_wp2_with fail
              refine (rshare_l l hl _ hcz).mono ?_
              rintro e w9 ⟨rfl, h9⟩
              rw [h9]
              clear h9 w9
              go_wp2
              refine bodyPost_ret (v := .agg #[.int .i64 (kL l), .int .i64 (setL l).1, .int .i64 (setL l).2.1, .int .i64 (setL l).2.2, .slice (some ⟨W5.heap.size, 0, none⟩) l.length l.length, .int .u64 (shareL l)]) (by simp [results, Try.results15, go_sem, d0, d1, d2, d3, d4, d5]) rfl ?_
              refine ⟨W5.heap.size, rfl, ?_, by omega, ?_⟩
              · exact bools_st (bools_st (bools_st (bools_st (bools_st (bools_st (bools_st (bools_st FN.out hFX _) hFX _) hFR _) hFR _) hFR _) hFR _) hFR _) hFR _
              · have bz : Below w.heap.size w WN := Z0.out.2.1.trans (BN.out.mono (by have := Z0.out.1; omega))
                exact (((((((bz.setCell (p := ⟨X, 5, none⟩) hRX _).setCell (p := ⟨X, 5, none⟩) hRX _).setCell (Nat.le_refl _) _).setCell (Nat.le_refl _) _).setCell (Nat.le_refl _) _).setCell (Nat.le_refl _) _).setCell (Nat.le_refl _) _).setCell (Nat.le_refl _) _
          · have hpg := PG.out hf0
            obtain ⟨rfl, rfl⟩ := hpg
            have hfz : (((setL l).1 : Nat) : Int) ≠ 0 := by omega
            have hfb0 : ((((setL l).1 : Nat) : Int) == 0) = false := beq_eq_false_iff_ne.2 hfz
            clear PG hf0
            go_wp2_with fail
            have RN : Aside _ := R
            have FN : Aside _ := FF
            clear R FF c1
            generalize wr = WN at RN FN ⊢
            have RN : Aside (RefIn W5 WN l X (setL l).2.1 (setL l).2.2) := RN
            have FN : Aside (BoolsAt WN W5.heap.size (filledL l)) := FN
            have BN : Aside (Below W0.heap.size W0 WN) := B5.out.trans (RN.out.below.mono B5.out.size)
            refine (rshare_any 1 1 WN (by decide) (by decide) (by decide)).mono ?_
            rintro e w9 ⟨rfl, h9⟩
            rw [h9]
            clear h9 w9
            rw [share_one]
            have c0 := RN.out.1
            have c1' := RN.out.2.1
            have c2 := RN.out.2.2.1
            have c3 := RN.out.2.2.2.1
            have c4 := RN.out.2.2.2.2.1
            have c5 := RN.out.2.2.2.2.2.1
            have f5 := RN.out.2.2.2.2.2.2.1 5
            have r0 : w.heap.size < W0.heap.size := by have := Z0.out.1; omega
            have d0 := (BN.out.cell (p := ⟨w.heap.size, 0, none⟩) r0).trans Z0.out.2.2.1
            have d1 := (BN.out.cell (p := ⟨w.heap.size, 1, none⟩) r0).trans Z0.out.2.2.2.1
            have d2 := (BN.out.cell (p := ⟨w.heap.size, 2, none⟩) r0).trans Z0.out.2.2.2.2.1
            have d3 := (BN.out.cell (p := ⟨w.heap.size, 3, none⟩) r0).trans Z0.out.2.2.2.2.2.1
            have d4 := (BN.out.cell (p := ⟨w.heap.size, 4, none⟩) r0).trans Z0.out.2.2.2.2.2.2.1
            have d5 := (BN.out.cell (p := ⟨w.heap.size, 5, none⟩) r0).trans Z0.out.2.2.2.2.2.2.2.1
            have q0 := (BN.out.frozen (p := ⟨w.heap.size, 0, none⟩) r0).trans (Z0.out.2.2.2.2.2.2.2.2 0)
            have q1 := (BN.out.frozen (p := ⟨w.heap.size, 1, none⟩) r0).trans (Z0.out.2.2.2.2.2.2.2.2 1)
            have q2 := (BN.out.frozen (p := ⟨w.heap.size, 2, none⟩) r0).trans (Z0.out.2.2.2.2.2.2.2.2 2)
            have q3 := (BN.out.frozen (p := ⟨w.heap.size, 3, none⟩) r0).trans (Z0.out.2.2.2.2.2.2.2.2 3)
            have q4 := (BN.out.frozen (p := ⟨w.heap.size, 4, none⟩) r0).trans (Z0.out.2.2.2.2.2.2.2.2 4)
            have q5 := (BN.out.frozen (p := ⟨w.heap.size, 5, none⟩) r0).trans (Z0.out.2.2.2.2.2.2.2.2 5)
            clear r0
            by_cases hcan : canL l = 0
            · have hcz : ¬ 0 < canL l := by omega
              have hcd : decide (0 < canL l) = false := decide_eq_false hcz
              have HC : Aside (canL l = 0) := hcan
              clear hcan
              go_wp2
              refine bodyPost_ret (v := .agg #[.int .i64 (kL l), .int .i64 (setL l).1, .int .i64 (setL l).2.1, .int .i64 (setL l).2.2, .slice (some ⟨W5.heap.size, 0, none⟩) l.length l.length, .int .u64 4607182418800017408]) (by simp [results, Try.results15, go_sem, d0, d1, d2, d3, d4, d5]) rfl ?_
              refine ⟨W5.heap.size, by rw [share_can0 HC.out]; rfl, ?_, by omega, ?_⟩
              · exact bools_st (bools_st (bools_st (bools_st (bools_st (bools_st (bools_st FN.out hFX _) hFR _) hFR _) hFR _) hFR _) hFR _) hFR _
              · have bz : Below w.heap.size w WN := Z0.out.2.1.trans (BN.out.mono (by have := Z0.out.1; omega))
                exact ((((((bz.setCell (p := ⟨X, 5, none⟩) hRX _).setCell (Nat.le_refl _) _).setCell (Nat.le_refl _) _).setCell (Nat.le_refl _) _).setCell (Nat.le_refl _) _).setCell (Nat.le_refl _) _).setCell (Nat.le_refl _) _
            · have hcz : 0 < canL l := by omega
              clear hcan
              go_wp2_with fail
              refine (rshare_l l hl _ hcz).mono ?_
              rintro e w9 ⟨rfl, h9⟩
              rw [h9]
              clear h9 w9
              go_wp2
              refine bodyPost_ret (v := .agg #[.int .i64 (kL l), .int .i64 (setL l).1, .int .i64 (setL l).2.1, .int .i64 (setL l).2.2, .slice (some ⟨W5.heap.size, 0, none⟩) l.length l.length, .int .u64 (shareL l)]) (by simp [results, Try.results15, go_sem, d0, d1, d2, d3, d4, d5]) rfl ?_
              refine ⟨W5.heap.size, rfl, ?_, by omega, ?_⟩
              · exact bools_st (bools_st (bools_st (bools_st (bools_st (bools_st (bools_st (bools_st FN.out hFX _) hFX _) hFR _) hFR _) hFR _) hFR _) hFR _) hFR _
              · have bz : Below w.heap.size w WN := Z0.out.2.1.trans (BN.out.mono (by have := Z0.out.1; omega))
                exact (((((((bz.setCell (p := ⟨X, 5, none⟩) hRX _).setCell (p := ⟨X, 5, none⟩) hRX _).setCell (Nat.le_refl _) _).setCell (Nat.le_refl _) _).setCell (Nat.le_refl _) _).setCell (Nat.le_refl _) _).setCell (Nat.le_refl _) _).setCell (Nat.le_refl _) _
    clear hK2
    have TAIL2A : Aside _ := TAIL2
    clear TAIL2 Z0

    have hbb := kL_le l
    by_cases hk0 : kL l = 0
    · have cc := cX.out
      have hdz : decide (0 < ((kL l : Nat) : Int)) = false := decide_eq_false (by omega)
      have hdz2 : ¬ (0 < ((kL l : Nat) : Int)) := by omega
      have hs0 : setL l = (0, 0, 0) := by unfold setL settleF; rw [if_pos hk0]
      have RF : Aside (RefIn W5 W7 l X 0 0) := by
        show RefIn W5 W7 l X 0 0
        refine ⟨cc.1, ?_, cc.2.2.1, cc.2.2.2.1, cc.2.2.2.2.1, cc.2.2.2.2.2.1, cc.2.2.2.2.2.2.1, cc.2.2.2.2.2.2.2.1, cc.2.2.2.2.2.2.2.2, B7.out⟩
        rw [hs0]; exact cc.2.1
      have PZ : Aside ((setL l).1 ≠ 0 → (0 : Int) = (setL l).2.1 ∧ (0 : Int) = (setL l).2.2) := fun h => absurd (by rw [hs0]) h
      clear cc hs0 hk0
      go_wp2_with fail
      exact TAIL2A.out _ _ _ _ _ _ _ _ _ _ _ _ _ _ _ _ _ _ _ _ _ _ _ _ _ _ _ _ _ _ _ _ _ _ _ _ _ _ _ _ _ _ _ _ _ _ _ _ _ _ _ _ _ _ _ _ _ _ _ _ _ _ _ _ _ _ _ _ _ _ _ _ _ _ _ RF.out FL7.out PZ.out
    · obtain ⟨k1, hk1⟩ : ∃ k1, kL l = k1 + 1 := ⟨kL l - 1, by omega⟩
      have HK : Aside (kL l = k1 + 1) := hk1
      have hkz : ((kL l : Nat) : Int) - 1 = (k1 : Int) := by omega
      have hdz : (0 : Int) < ((kL l : Nat) : Int) := by omega
      have hk1b : (k1 : Int) < ((buyersOf l).length : Int) := by omega
      have hk1s : (k1 : Int) < ((sellersOf l).length : Int) := by omega
      have hkb : ((kL l : Nat) : Int) ≤ 8796093022208 := by omega
      have HB7 : Aside (BidsAt W7 a l) := BidsAt.up HB5.out B7.out
      have BI7 : Aside (IntsAt W7 ab (idxOf (buyersOf l))) := BI5.out.up B7.out
      have SI7 : Aside (IntsAt W7 az (idxOf (sellersOf l))) := SI5.out.up B7.out
      obtain ⟨g1, j1, g, o, rfl, rfl, _, _, hj1, _, b1, b2⟩ := line_cell 0 (Or.inl rfl) HB7.out BI7.out 0 k1 (show k1 < (buyersOf l).length by omega)
      obtain ⟨g2, j2, g', o', rfl, eg, _, _, hj2, _, s1, s2⟩ := line_cell 1 (Or.inr rfl) HB7.out SI7.out 1000 k1 (show k1 < (sellersOf l).length by omega)
      injection eg with eg; injection eg with eg1 eg2; subst eg1; subst eg2
      have hj1z : (j1 : Int) < (l.length : Int) := by omega
      have hj2z : (j2 : Int) < (l.length : Int) := by omega
      obtain ⟨pb, epb⟩ : ∃ pb, priceAt 0 (buyersOf l) (kL l - 1) = pb := ⟨_, rfl⟩
      obtain ⟨ps, eps⟩ : ∃ ps, priceAt 1000 (sellersOf l) (kL l - 1) = ps := ⟨_, rfl⟩
      have b2' : W7.cell? ⟨g, o + j1 * 2 + 1, none⟩ = some (.int .i64 pb) := by rw [← epb, show kL l - 1 = k1 by omega]; exact b2
      have s2' : W7.cell? ⟨g, o + j2 * 2 + 1, none⟩ = some (.int .i64 ps) := by rw [← eps, show kL l - 1 = k1 by omega]; exact s2
      clear b2 s2
      have lob := (buyers_priced l).bd 0 (by omega) (kL l)
      have hib := (sellers_priced l).bd 1000 (by omega) (kL l)
      obtain ⟨lo, elo⟩ : ∃ lo, priceAt 0 (buyersOf l) (kL l) = lo := ⟨_, rfl⟩
      obtain ⟨hi, ehi⟩ : ∃ hi, priceAt 1000 (sellersOf l) (kL l) = hi := ⟨_, rfl⟩
      rw [elo] at lob
      rw [ehi] at hib
      obtain ⟨md, emd⟩ : ∃ md, midF (buyersOf l) (sellersOf l) (kL l) = md := ⟨_, rfl⟩
      have hmid : (lo + hi).tdiv 2 = md := by
        rw [← emd]; unfold midF; rw [elo, ehi, Int.tdiv_eq_ediv_of_nonneg (by omega)]
      have E : Aside (priceAt 0 (buyersOf l) (kL l - 1) = pb ∧ priceAt 1000 (sellersOf l) (kL l - 1) = ps ∧ midF (buyersOf l) (sellersOf l) (kL l) = md ∧ priceAt 0 (buyersOf l) (kL l) = lo ∧ priceAt 1000 (sellersOf l) (kL l) = hi) := ⟨epb, eps, emd, elo, ehi⟩
      have c0 := cX.out.1
      have c1 := cX.out.2.1
      have c2 := cX.out.2.2.1
      have c3 := cX.out.2.2.2.1
      have f1 := cX.out.2.2.2.2.2.2.1 1
      have f2 := cX.out.2.2.2.2.2.2.1 2
      have f3 := cX.out.2.2.2.2.2.2.1 3
      have mdb : 0 ≤ md ∧ md ≤ 1000 := by rw [← hmid, Int.tdiv_eq_ediv_of_nonneg (by omega)]; omega
      have GX : Aside (g1 ≠ X ∧ g2 ≠ X ∧ g ≠ X) := by
        have hx := cX.out.2.2.2.2.2.2.2.2
        obtain ⟨q1, e1, l1, _⟩ := BI5.out k1 (by unfold idxOf; rw [List.length_map]; omega)
        obtain ⟨q2, e2, l2, _⟩ := SI5.out k1 (by unfold idxOf; rw [List.length_map]; omega)
        obtain ⟨q3, o3, e3, l3, _⟩ := HB5.out j1 hj1
        injection e1 with e1; injection e1 with e1
        injection e2 with e2; injection e2 with e2
        injection e3 with e3; injection e3 with e3
        refine ⟨?_, ?_, ?_⟩ <;> omega
      have gx1 := GX.out.1
      have gx2 := GX.out.2.1
      have gx3 := GX.out.2.2
      clear epb eps emd elo ehi hk1 hk0
      by_cases h1 : kL l < (buyersOf l).length
      · by_cases h2 : kL l < (sellersOf l).length
        · have h1z : ((kL l : Nat) : Int) < ((buyersOf l).length : Int) := by omega
          obtain ⟨g1', j3, g', o', eg1, eg, _, _, hj3, _, b3, b4⟩ := line_cell 0 (Or.inl rfl) HB7.out BI7.out 0 (kL l) h1
          injection eg with eg; injection eg with e1 e2; subst e1; subst e2
          injection eg1 with eg1; injection eg1 with e1; subst e1
          have hj3z : (j3 : Int) < (l.length : Int) := by omega
          have b4' : W7.cell? ⟨g, o + j3 * 2 + 1, none⟩ = some (.int .i64 lo) := by rw [← E.out.2.2.2.1]; exact b4
          clear b4
          have h2z : ((kL l : Nat) : Int) < ((sellersOf l).length : Int) := by omega
          obtain ⟨g2', j4, g', o', eg2, eg, _, _, hj4, _, s3, s4⟩ := line_cell 1 (Or.inr rfl) HB7.out SI7.out 1000 (kL l) h2
          injection eg with eg; injection eg with e1 e2; subst e1; subst e2
          injection eg2 with eg2; injection eg2 with e1; subst e1
          have hj4z : (j4 : Int) < (l.length : Int) := by omega
          have s4' : W7.cell? ⟨g, o + j4 * 2 + 1, none⟩ = some (.int .i64 hi) := by rw [← E.out.2.2.2.2]; exact s4
          clear s4
          by_cases m1 : ps ≤ md
          · by_cases m2 : md ≤ pb
            · have d1 : decide (ps ≤ md) = true := decide_eq_true m1
              have d2 : decide (md ≤ pb) = true := decide_eq_true m2
              have HS : Aside _ := settle_yes l (by have := HK.out; omega) (by rw [E.out.2.1, E.out.2.2.1]; exact m1) (by rw [E.out.1, E.out.2.2.1]; exact m2)
              go_wp2_with fail
              refine TAIL2A.out _ md md _ _ _ _ _ _ _ _ _ _ _ _ _ _ _ _ _ _ _ _ _ _ _ _ _ _ _ _ _ _ _ _ _ _ _ _ _ _ _ _ _ _ _ _ _ _ _ _ _ _ _ _ _ _ _ _ _ _ _ _ _ _ _ _ _ _ _ _ _ _ _ _ ?_ ?_ ?_
              · have hs1 : (setL l).1 = kL l := by rw [HS.out]
                exact ref_store6 cX.out B7.out _ _ _ _ _ _ (by rw [hs1])
              · exact bools_store6 FL7.out (by have := cX.out.2.2.2.2.2.2.2.2; omega) _ _ _ _ _ _
              · intro _; rw [HS.out]; exact ⟨E.out.2.2.1.symm, E.out.2.2.1.symm⟩
            · have d1 : decide (ps ≤ md) = true := decide_eq_true m1
              have d2 : decide (md ≤ pb) = false := decide_eq_false m2
              have HS : Aside _ := settle_no l (by have := HK.out; omega) (by rw [E.out.1, E.out.2.1, E.out.2.2.1]; exact fun h => m2 h.2)
              go_wp2_with fail
              refine TAIL2A.out _ pb ps _ _ _ _ _ _ _ _ _ _ _ _ _ _ _ _ _ _ _ _ _ _ _ _ _ _ _ _ _ _ _ _ _ _ _ _ _ _ _ _ _ _ _ _ _ _ _ _ _ _ _ _ _ _ _ _ _ _ _ _ _ _ _ _ _ _ _ _ _ _ _ _ ?_ ?_ ?_
              · exact ref_store3 cX.out B7.out _ _ _ (by have := HS.out.1; have := HK.out; exact vint (by omega))
              · exact bools_store3 FL7.out (by have := cX.out.2.2.2.2.2.2.2.2; omega) _ _ _
              · intro h; rw [← E.out.1, ← E.out.2.1]; exact HS.out.2 h
          · have d1 : decide (ps ≤ md) = false := decide_eq_false m1
            have HS : Aside _ := settle_no l (by have := HK.out; omega) (by rw [E.out.1, E.out.2.1, E.out.2.2.1]; exact fun h => m1 h.1)
            go_wp2_with fail
            refine TAIL2A.out _ pb ps _ _ _ _ _ _ _ _ _ _ _ _ _ _ _ _ _ _ _ _ _ _ _ _ _ _ _ _ _ _ _ _ _ _ _ _ _ _ _ _ _ _ _ _ _ _ _ _ _ _ _ _ _ _ _ _ _ _ _ _ _ _ _ _ _ _ _ _ _ _ _ _ ?_ ?_ ?_
            · exact ref_store3 cX.out B7.out _ _ _ (by have := HS.out.1; have := HK.out; exact vint (by omega))
            · exact bools_store3 FL7.out (by have := cX.out.2.2.2.2.2.2.2.2; omega) _ _ _
            · intro h; rw [← E.out.1, ← E.out.2.1]; exact HS.out.2 h
        · have h1z : ((kL l : Nat) : Int) < ((buyersOf l).length : Int) := by omega
          obtain ⟨g1', j3, g', o', eg1, eg, _, _, hj3, _, b3, b4⟩ := line_cell 0 (Or.inl rfl) HB7.out BI7.out 0 (kL l) h1
          injection eg with eg; injection eg with e1 e2; subst e1; subst e2
          injection eg1 with eg1; injection eg1 with e1; subst e1
          have hj3z : (j3 : Int) < (l.length : Int) := by omega
          have b4' : W7.cell? ⟨g, o + j3 * 2 + 1, none⟩ = some (.int .i64 lo) := by rw [← E.out.2.2.2.1]; exact b4
          clear b4
          have h2z : ¬ ((kL l : Nat) : Int) < ((sellersOf l).length : Int) := by omega
          have ehi0 : hi = 1000 := by rw [← E.out.2.2.2.2, priceAt_ge (by omega)]
          rw [ehi0] at hmid
          clear hib
          have hib : True := trivial
          subst ehi0
          by_cases m1 : ps ≤ md
          · by_cases m2 : md ≤ pb
            · have d1 : decide (ps ≤ md) = true := decide_eq_true m1
              have d2 : decide (md ≤ pb) = true := decide_eq_true m2
              have HS : Aside _ := settle_yes l (by have := HK.out; omega) (by rw [E.out.2.1, E.out.2.2.1]; exact m1) (by rw [E.out.1, E.out.2.2.1]; exact m2)
              go_wp2_with fail
              refine TAIL2A.out _ md md _ _ _ _ _ _ _ _ _ _ _ _ _ _ _ _ _ _ _ _ _ _ _ _ _ _ _ _ _ _ _ _ _ _ _ _ _ _ _ _ _ _ _ _ _ _ _ _ _ _ _ _ _ _ _ _ _ _ _ _ _ _ _ _ _ _ _ _ _ _ _ _ ?_ ?_ ?_
              · have hs1 : (setL l).1 = kL l := by rw [HS.out]
                exact ref_store6 cX.out B7.out _ _ _ _ _ _ (by rw [hs1])
              · exact bools_store6 FL7.out (by have := cX.out.2.2.2.2.2.2.2.2; omega) _ _ _ _ _ _
              · intro _; rw [HS.out]; exact ⟨E.out.2.2.1.symm, E.out.2.2.1.symm⟩
            · have d1 : decide (ps ≤ md) = true := decide_eq_true m1
              have d2 : decide (md ≤ pb) = false := decide_eq_false m2
              have HS : Aside _ := settle_no l (by have := HK.out; omega) (by rw [E.out.1, E.out.2.1, E.out.2.2.1]; exact fun h => m2 h.2)
              go_wp2_with fail
              refine TAIL2A.out _ pb ps _ _ _ _ _ _ _ _ _ _ _ _ _ _ _ _ _ _ _ _ _ _ _ _ _ _ _ _ _ _ _ _ _ _ _ _ _ _ _ _ _ _ _ _ _ _ _ _ _ _ _ _ _ _ _ _ _ _ _ _ _ _ _ _ _ _ _ _ _ _ _ _ ?_ ?_ ?_
              · exact ref_store3 cX.out B7.out _ _ _ (by have := HS.out.1; have := HK.out; exact vint (by omega))
              · exact bools_store3 FL7.out (by have := cX.out.2.2.2.2.2.2.2.2; omega) _ _ _
              · intro h; rw [← E.out.1, ← E.out.2.1]; exact HS.out.2 h
          · have d1 : decide (ps ≤ md) = false := decide_eq_false m1
            have HS : Aside _ := settle_no l (by have := HK.out; omega) (by rw [E.out.1, E.out.2.1, E.out.2.2.1]; exact fun h => m1 h.1)
            go_wp2_with fail
            refine TAIL2A.out _ pb ps _ _ _ _ _ _ _ _ _ _ _ _ _ _ _ _ _ _ _ _ _ _ _ _ _ _ _ _ _ _ _ _ _ _ _ _ _ _ _ _ _ _ _ _ _ _ _ _ _ _ _ _ _ _ _ _ _ _ _ _ _ _ _ _ _ _ _ _ _ _ _ _ ?_ ?_ ?_
            · exact ref_store3 cX.out B7.out _ _ _ (by have := HS.out.1; have := HK.out; exact vint (by omega))
            · exact bools_store3 FL7.out (by have := cX.out.2.2.2.2.2.2.2.2; omega) _ _ _
            · intro h; rw [← E.out.1, ← E.out.2.1]; exact HS.out.2 h
      · by_cases h2 : kL l < (sellersOf l).length
        · have h1z : ¬ ((kL l : Nat) : Int) < ((buyersOf l).length : Int) := by omega
          have elo0 : lo = 0 := by rw [← E.out.2.2.2.1, priceAt_ge (by omega)]
          have h2z : ((kL l : Nat) : Int) < ((sellersOf l).length : Int) := by omega
          obtain ⟨g2', j4, g', o', eg2, eg, _, _, hj4, _, s3, s4⟩ := line_cell 1 (Or.inr rfl) HB7.out SI7.out 1000 (kL l) h2
          injection eg with eg; injection eg with e1 e2; subst e1; subst e2
          injection eg2 with eg2; injection eg2 with e1; subst e1
          have hj4z : (j4 : Int) < (l.length : Int) := by omega
          have s4' : W7.cell? ⟨g, o + j4 * 2 + 1, none⟩ = some (.int .i64 hi) := by rw [← E.out.2.2.2.2]; exact s4
          clear s4
          have hmid' : hi.tdiv 2 = md := by rw [← hmid, elo0, Int.zero_add]
          clear hmid
          subst elo0
          by_cases m1 : ps ≤ md
          · by_cases m2 : md ≤ pb
            · have d1 : decide (ps ≤ md) = true := decide_eq_true m1
              have d2 : decide (md ≤ pb) = true := decide_eq_true m2
              have HS : Aside _ := settle_yes l (by have := HK.out; omega) (by rw [E.out.2.1, E.out.2.2.1]; exact m1) (by rw [E.out.1, E.out.2.2.1]; exact m2)
              go_wp2_with fail
              refine TAIL2A.out _ md md _ _ _ _ _ _ _ _ _ _ _ _ _ _ _ _ _ _ _ _ _ _ _ _ _ _ _ _ _ _ _ _ _ _ _ _ _ _ _ _ _ _ _ _ _ _ _ _ _ _ _ _ _ _ _ _ _ _ _ _ _ _ _ _ _ _ _ _ _ _ _ _ ?_ ?_ ?_
              · have hs1 : (setL l).1 = kL l := by rw [HS.out]
                exact ref_store6 cX.out B7.out _ _ _ _ _ _ (by rw [hs1])
              · exact bools_store6 FL7.out (by have := cX.out.2.2.2.2.2.2.2.2; omega) _ _ _ _ _ _
              · intro _; rw [HS.out]; exact ⟨E.out.2.2.1.symm, E.out.2.2.1.symm⟩
            · have d1 : decide (ps ≤ md) = true := decide_eq_true m1
              have d2 : decide (md ≤ pb) = false := decide_eq_false m2
              have HS : Aside _ := settle_no l (by have := HK.out; omega) (by rw [E.out.1, E.out.2.1, E.out.2.2.1]; exact fun h => m2 h.2)
              go_wp2_with fail
              refine TAIL2A.out _ pb ps _ _ _ _ _ _ _ _ _ _ _ _ _ _ _ _ _ _ _ _ _ _ _ _ _ _ _ _ _ _ _ _ _ _ _ _ _ _ _ _ _ _ _ _ _ _ _ _ _ _ _ _ _ _ _ _ _ _ _ _ _ _ _ _ _ _ _ _ _ _ _ _ ?_ ?_ ?_
              · exact ref_store3 cX.out B7.out _ _ _ (by have := HS.out.1; have := HK.out; exact vint (by omega))
              · exact bools_store3 FL7.out (by have := cX.out.2.2.2.2.2.2.2.2; omega) _ _ _
              · intro h; rw [← E.out.1, ← E.out.2.1]; exact HS.out.2 h
          · have d1 : decide (ps ≤ md) = false := decide_eq_false m1
            have HS : Aside _ := settle_no l (by have := HK.out; omega) (by rw [E.out.1, E.out.2.1, E.out.2.2.1]; exact fun h => m1 h.1)
            go_wp2_with fail
            refine TAIL2A.out _ pb ps _ _ _ _ _ _ _ _ _ _ _ _ _ _ _ _ _ _ _ _ _ _ _ _ _ _ _ _ _ _ _ _ _ _ _ _ _ _ _ _ _ _ _ _ _ _ _ _ _ _ _ _ _ _ _ _ _ _ _ _ _ _ _ _ _ _ _ _ _ _ _ _ ?_ ?_ ?_
            · exact ref_store3 cX.out B7.out _ _ _ (by have := HS.out.1; have := HK.out; exact vint (by omega))
            · exact bools_store3 FL7.out (by have := cX.out.2.2.2.2.2.2.2.2; omega) _ _ _
            · intro h; rw [← E.out.1, ← E.out.2.1]; exact HS.out.2 h
        · have h1z : ¬ ((kL l : Nat) : Int) < ((buyersOf l).length : Int) := by omega
          have elo0 : lo = 0 := by rw [← E.out.2.2.2.1, priceAt_ge (by omega)]
          have h2z : ¬ ((kL l : Nat) : Int) < ((sellersOf l).length : Int) := by omega
          have ehi0 : hi = 1000 := by rw [← E.out.2.2.2.2, priceAt_ge (by omega)]
          have emd5 : md = 500 := by rw [← hmid, elo0, ehi0]; rfl
          clear hmid
          subst elo0
          subst ehi0
          subst emd5
          by_cases m1 : ps ≤ 500
          · by_cases m2 : 500 ≤ pb
            · have d1 : decide (ps ≤ 500) = true := decide_eq_true m1
              have d2 : decide (500 ≤ pb) = true := decide_eq_true m2
              have HS : Aside _ := settle_yes l (by have := HK.out; omega) (by rw [E.out.2.1, E.out.2.2.1]; exact m1) (by rw [E.out.1, E.out.2.2.1]; exact m2)
              go_wp2_with fail
              refine TAIL2A.out _ 500 500 _ _ _ _ _ _ _ _ _ _ _ _ _ _ _ _ _ _ _ _ _ _ _ _ _ _ _ _ _ _ _ _ _ _ _ _ _ _ _ _ _ _ _ _ _ _ _ _ _ _ _ _ _ _ _ _ _ _ _ _ _ _ _ _ _ _ _ _ _ _ _ _ ?_ ?_ ?_
              · have hs1 : (setL l).1 = kL l := by rw [HS.out]
                exact ref_store6 cX.out B7.out _ _ _ _ _ _ (by rw [hs1])
              · exact bools_store6 FL7.out (by have := cX.out.2.2.2.2.2.2.2.2; omega) _ _ _ _ _ _
              · intro _; rw [HS.out]; exact ⟨E.out.2.2.1.symm, E.out.2.2.1.symm⟩
            · have d1 : decide (ps ≤ 500) = true := decide_eq_true m1
              have d2 : decide (500 ≤ pb) = false := decide_eq_false m2
              have HS : Aside _ := settle_no l (by have := HK.out; omega) (by rw [E.out.1, E.out.2.1, E.out.2.2.1]; exact fun h => m2 h.2)
              go_wp2_with fail
              refine TAIL2A.out _ pb ps _ _ _ _ _ _ _ _ _ _ _ _ _ _ _ _ _ _ _ _ _ _ _ _ _ _ _ _ _ _ _ _ _ _ _ _ _ _ _ _ _ _ _ _ _ _ _ _ _ _ _ _ _ _ _ _ _ _ _ _ _ _ _ _ _ _ _ _ _ _ _ _ ?_ ?_ ?_
              · exact ref_store3 cX.out B7.out _ _ _ (by have := HS.out.1; have := HK.out; exact vint (by omega))
              · exact bools_store3 FL7.out (by have := cX.out.2.2.2.2.2.2.2.2; omega) _ _ _
              · intro h; rw [← E.out.1, ← E.out.2.1]; exact HS.out.2 h
          · have d1 : decide (ps ≤ 500) = false := decide_eq_false m1
            have HS : Aside _ := settle_no l (by have := HK.out; omega) (by rw [E.out.1, E.out.2.1, E.out.2.2.1]; exact fun h => m1 h.1)
            go_wp2_with fail
            refine TAIL2A.out _ pb ps _ _ _ _ _ _ _ _ _ _ _ _ _ _ _ _ _ _ _ _ _ _ _ _ _ _ _ _ _ _ _ _ _ _ _ _ _ _ _ _ _ _ _ _ _ _ _ _ _ _ _ _ _ _ _ _ _ _ _ _ _ _ _ _ _ _ _ _ _ _ _ _ ?_ ?_ ?_
            · exact ref_store3 cX.out B7.out _ _ _ (by have := HS.out.1; have := HK.out; exact vint (by omega))
            · exact bools_store3 FL7.out (by have := cX.out.2.2.2.2.2.2.2.2; omega) _ _ _
            · intro h; rw [← E.out.1, ← E.out.2.1]; exact HS.out.2 h
  clear hK
  have TAILA : Aside _ := TAIL
  clear TAIL Z0
  go_loopg [5, 6] ((buyersOf l).length + 1) (fun kx s t wq => ∃ k m : Nat, s = .int .i64 k ∧ t = .int .i64 (gainF (buyersOf l) (sellersOf l) k) ∧ k ≤ (buyersOf l).length ∧ k ≤ (sellersOf l).length ∧ (buyersOf l).length + 1 - k ≤ kx ∧ wq = w2.drewN m ∧ Aside (∀ i, i < k → priceAt 1000 (sellersOf l) i ≤ priceAt 0 (buyersOf l) i))
  case atStart => exact ⟨0, 0, rfl, rfl, Nat.zero_le _, Nat.zero_le _, by omega, rfl, (fun i hi => absurd hi (Nat.not_lt_zero _) : ∀ i, i < 0 → priceAt 1000 (sellersOf l) i ≤ priceAt 0 (buyersOf l) i)⟩
  case round =>
    obtain ⟨k, m, rfl, rfl, hk1, hk2, hkx, rfl, I⟩ := hrel
    have gbd := gainF_bd (buyers_priced l) (sellers_priced l) k
    have DR : Aside (∀ n, (w2.drewN m).drewN n = w2.drewN (m + n)) := fun n => World.drewN_drewN ..
    have FIN : Aside (priceAt 0 (buyersOf l) k < priceAt 1000 (sellersOf l) k → k = kL l ∧ gainF (buyersOf l) (sellersOf l) k = canL l) := fun h => by
      have e : k = kL l := IsK.unique ⟨I.out, h⟩ (kL_is l)
      exact ⟨e, by rw [e]; rfl⟩
    have ST : Aside (gainF (buyersOf l) (sellersOf l) (k + 1) = gainF (buyersOf l) (sellersOf l) k + (priceAt 0 (buyersOf l) k - priceAt 1000 (sellersOf l) k)) := rfl
    have pb := (buyers_priced l).bd 0 (by omega) k
    have ps := (sellers_priced l).bd 1000 (by omega) k
    by_cases h1 : k < (buyersOf l).length
    · have h1z : (k : Int) < ((buyersOf l).length : Int) := by omega
      by_cases h2 : k < (sellersOf l).length
      · have h2z : (k : Int) < ((sellersOf l).length : Int) := by omega
        obtain ⟨g1, j1, g, o, rfl, rfl, hg1, hg, hj1, _, c1, c3⟩ := line_cell 0 (Or.inl rfl) HB2.out BI2.out 0 k h1
        obtain ⟨g2, j2, g', o', rfl, eg, hg2, _, hj2, _, c2, c4⟩ := line_cell 1 (Or.inr rfl) HB2.out SI2.out 1000 k h2
        injection eg with eg; injection eg with eg1 eg2; subst eg1; subst eg2
        have NX : Aside (priceAt 1000 (sellersOf l) k ≤ priceAt 0 (buyersOf l) k → ∀ i, i < k + 1 → priceAt 1000 (sellersOf l) i ≤ priceAt 0 (buyersOf l) i) := fun h i hi => by
          by_cases e : i = k
          · rw [e]; exact h
          · exact I.out i (by omega)
        have z1 : ∀ n, ((w2.drewN m).drewN n).cell? ⟨g1, k, none⟩ = some (.int .i64 j1) := fun n => c1
        have z2 : ∀ n, ((w2.drewN m).drewN n).cell? ⟨g2, k, none⟩ = some (.int .i64 j2) := fun n => c2
        have z3 : ∀ n, ((w2.drewN m).drewN n).cell? ⟨g, o + j1 * 2 + 1, none⟩ = some (.int .i64 (priceAt 0 (buyersOf l) k)) := fun n => c3
        have z4 : ∀ n, ((w2.drewN m).drewN n).cell? ⟨g, o + j2 * 2 + 1, none⟩ = some (.int .i64 (priceAt 1000 (sellersOf l) k)) := fun n => c4
        have hj1z : (j1 : Int) < (l.length : Int) := by omega
        have hj2z : (j2 : Int) < (l.length : Int) := by omega
        generalize priceAt 0 (buyersOf l) k = x1 at z3 FIN ST pb NX
        generalize priceAt 1000 (sellersOf l) k = x2 at z4 FIN ST ps NX
        generalize hwq : w2.drewN m = wq at z1 z2 z3 z4 DR ⊢
        clear hwq c1 c2 c3 c4
        by_cases hle : x2 ≤ x1
        · have hd : decide (x2 ≤ x1) = true := decide_eq_true hle
          have EW : Aside (gainF (buyersOf l) (sellersOf l) (k + 1) = gainF (buyersOf l) (sellersOf l) k + x1 - x2) := by show _ = _; rw [ST.out]; omega
          clear ST FIN
          generalize gainF (buyersOf l) (sellersOf l) k = r0 at EW gbd ⊢
          have wr1 : IntKind.i64.wrap (r0 + x1) = r0 + x1 := by rw [IntKind.wrap_i64]; omega
          have wr2 : IntKind.i64.wrap (r0 + x1 - x2) = r0 + x1 - x2 := by rw [IntKind.wrap_i64]; omega
          go_wp2_with fail
          go_quiet (fail)
          have y1 : ∀ n, ((wq.drewN nq).drewN n).cell? ⟨g1, k, none⟩ = some (.int .i64 j1) := fun n => by rw [World.drewN_drewN]; exact z1 _
          have y2 : ∀ n, ((wq.drewN nq).drewN n).cell? ⟨g2, k, none⟩ = some (.int .i64 j2) := fun n => by rw [World.drewN_drewN]; exact z2 _
          have y3 : ∀ n, ((wq.drewN nq).drewN n).cell? ⟨g, o + j1 * 2 + 1, none⟩ = some (.int .i64 x1) := fun n => by rw [World.drewN_drewN]; exact z3 _
          have y4 : ∀ n, ((wq.drewN nq).drewN n).cell? ⟨g, o + j2 * 2 + 1, none⟩ = some (.int .i64 x2) := fun n => by rw [World.drewN_drewN]; exact z4 _
          obtain ⟨m1, hm1⟩ : ∃ m1, m1 = nq := ⟨_, rfl⟩
          have DR2 : Aside (∀ n, (wq.drewN nq).drewN n = w2.drewN (m + (m1 + n))) := fun n => by rw [World.drewN_drewN, hm1]; exact DR.out _
          clear hm1 z1 z2 z3 z4 DR
          generalize wq.drewN nq = wq2 at y1 y2 y3 y4 DR2 ⊢
          clear nq
          go_wp2_with fail
          go_quiet (fail)
          go_wp2
          go_roundg ((buyersOf l).length + 1 - (k + 1))
          case measure => omega
          case rel => exact ⟨k + 1, _, by go_num, by rw [EW.out], by omega, by omega, Nat.le_refl _, DR2.out nq, NX.out hle⟩
        · have hd : decide (x2 ≤ x1) = false := decide_eq_false hle
          have fk := FIN.out (by omega)
          obtain ⟨rfl, ec⟩ := fk
          rw [ec]
          clear ST FIN I NX
          go_wp2_with fail
          go_quiet (fail)
          have hd2 := DR.out nq
          rw [hd2]
          clear hd2 DR z1 z2 z3 z4
          generalize m + nq = mm
          go_wp2_with fail
          exact TAILA.out _ _ _ _ _ _ _ _ _ _ _ _ _ _ _ _ _ _ _ _ _ _ _ _ _ _ _ _ _ _ _ _ _ _ _ _ _ _ _ _ _ _ _ _ _ _ _ _ _ _ _
      · have h2z : ¬ (k : Int) < ((sellersOf l).length : Int) := by omega
        have h2d : decide ((k : Int) < ((sellersOf l).length : Int)) = false := decide_eq_false h2z
        have fk := FIN.out (by
          rw [priceAt_lt h1, priceAt_ge (show (sellersOf l).length ≤ k by omega)]
          have := (buyers_priced l) _ (List.getElem_mem h1)
          omega)
        obtain ⟨rfl, ec⟩ := fk
        rw [ec]
        clear ST FIN I
        generalize hwq : w2.drewN m = wq at DR ⊢
        clear hwq
        go_wp2_with fail
        go_quiet (fail)
        have hd2 := DR.out nq
        rw [hd2]
        clear hd2 DR
        generalize m + nq = mm
        go_wp2_with fail
        exact TAILA.out _ _ _ _ _ _ _ _ _ _ _ _ _ _ _ _ _ _ _ _ _ _ _ _ _ _ _ _ _ _ _ _ _ _ _ _ _ _ _ _ _ _ _ _ _ _ _ _ _ _ _
    · have h1z : ¬ (k : Int) < ((buyersOf l).length : Int) := by omega
      have h1d : decide ((k : Int) < ((buyersOf l).length : Int)) = false := decide_eq_false h1z
      have fk := FIN.out (by
        rw [priceAt_ge (show (buyersOf l).length ≤ k by omega)]
        by_cases hs : k < (sellersOf l).length
        · rw [priceAt_lt hs]; have := (sellers_priced l) _ (List.getElem_mem hs); omega
        · rw [priceAt_ge (by omega)]; omega)
      obtain ⟨rfl, ec⟩ := fk
      rw [ec]
      clear ST FIN I
      generalize hwq : w2.drewN m = wq at DR ⊢
      clear hwq
      go_wp2_with fail
      go_quiet (fail)
      have hd2 := DR.out nq
      rw [hd2]
      clear hd2 DR
      generalize m + nq = mm
      go_wp2_with fail
      exact TAILA.out _ _ _ _ _ _ _ _ _ _ _ _ _ _ _ _ _ _ _ _ _ _ _ _ _ _ _ _ _ _ _ _ _ _ _ _ _ _ _ _ _ _ _ _ _ _ _ _ _ _ _
end Go.Proofs.Ytjfifaooimgbaaa
