/- What the walk of Clears needs besides. -/
import Derived.Test.YtjfifaooimgbaaaOwn
import Derived.Test.YtjfifaooimgbaaaTlaw
namespace Go.Proofs.Ytjfifaooimgbaaa
open Go.Shelf Go.RowKit Go.Lib Go.Sort
set_option maxRecDepth 100000

def l1 : List (Int × Int) := [(0, 9), (0, 8), (1, 3), (1, 7)]
theorem l1_buyers : buyersOf l1 = [(0, 9), (1, 8)] := by
  have h : (buyersOf l1).Perm [(0, 9), (1, 8)] := buyers_perm l1
  exact List.Perm.eq_of_pairwise (le := fun x y => bLt y x = false) (fun x y _ _ h1 h2 => Prod.ext (by have := (bLt_no y x).1 h1; have := (bLt_no x y).1 h2; omega) (by have := (bLt_no y x).1 h1; have := (bLt_no x y).1 h2; omega))
    (by have := List.pairwise_mergeSort (le := fun x y => !bLt y x) (fun a b c h1 h2 => by
          simp only [Bool.not_eq_true'] at h1 h2 ⊢
          exact swo_bLt.ntrans c b a h2 h1) (fun a b => by
          cases h : bLt b a with
          | false => simp
          | true => simp [swo_bLt.asymmA h]) (Clr.cand 0 l1)
        simpa [buyersOf] using this) (by decide) h
theorem l1_sellers : sellersOf l1 = [(2, 3), (3, 7)] := by
  have h : (sellersOf l1).Perm [(2, 3), (3, 7)] := sellers_perm l1
  exact List.Perm.eq_of_pairwise (le := fun x y => sLt y x = false) (fun x y _ _ h1 h2 => Prod.ext (by have := (sLt_no y x).1 h1; have := (sLt_no x y).1 h2; omega) (by have := (sLt_no y x).1 h1; have := (sLt_no x y).1 h2; omega))
    (by have := List.pairwise_mergeSort (le := fun x y => !sLt y x) (fun a b c h1 h2 => by
          simp only [Bool.not_eq_true'] at h1 h2 ⊢
          exact swo_sLt.ntrans c b a h2 h1) (fun a b => by
          cases h : sLt b a with
          | false => simp
          | true => simp [swo_sLt.asymmA h]) (Clr.cand 1 l1)
        simpa [sellersOf] using this) (by decide) h
theorem l1_k : kL l1 = 2 := by unfold kL; rw [l1_buyers, l1_sellers]; decide
theorem l1_set : setL l1 = (1, 8, 7) := by unfold setL; rw [l1_k, l1_buyers, l1_sellers]; decide
theorem l1_filled : filledL l1 = [true, false, true, false] := by unfold filledL; rw [l1_set, l1_buyers, l1_sellers]; decide
theorem l1_share : shareL l1 = 4605895676049340123 := by
  unfold shareL gainedL canL; rw [l1_set, l1_k, l1_buyers, l1_sellers]; kernel_rfl

theorem BsAt.of {w : World} {F : Nat} {fl : List Bool} (h : BoolsAt w F fl) : BsAt w (some ⟨F, 0, none⟩) fl := fun _ hi => ⟨F, rfl, h.lt, h.cell hi⟩

/-- a row of orders, by what stands at each place. -/
def RowF (w : World) (g n : Nat) (f : Nat → Int × Int) : Prop := ∃ cs, w.heap[g]? = some (.cells cs 29 (0, 0)) ∧ cs.size = n * 2 ∧ ∀ j, j < n → cs[j * 2]? = some (.int .i64 (f j).1) ∧ cs[j * 2 + 1]? = some (.int .i64 (f j).2)
theorem RowF.lt {w : World} {g n : Nat} {f : Nat → Int × Int} (h : RowF w g n f) : g < w.heap.size := by
  obtain ⟨cs, h, _⟩ := h
  exact (Array.getElem?_eq_some_iff.1 h).1
theorem RowF.frozen {w : World} {g n : Nat} {f : Nat → Int × Int} (h : RowF w g n f) (j : Nat) : w.frozen? ⟨g, j, none⟩ = false := by
  obtain ⟨cs, h, _⟩ := h
  exact box_frozen h j
theorem RowF.at1 {w : World} {g n : Nat} {f : Nat → Int × Int} (h : RowF w g n f) {j : Nat} (hj : j < n) : w.cell? ⟨g, j * 2, none⟩ = some (.int .i64 (f j).1) := by
  obtain ⟨cs, h, _, h2⟩ := h
  rw [box_cell h]
  exact (h2 j hj).1
theorem RowF.at2 {w : World} {g n : Nat} {f : Nat → Int × Int} (h : RowF w g n f) {j : Nat} (hj : j < n) : w.cell? ⟨g, j * 2 + 1, none⟩ = some (.int .i64 (f j).2) := by
  obtain ⟨cs, h, _, h2⟩ := h
  rw [box_cell h]
  exact (h2 j hj).2
theorem RowF.set {w : World} {g n : Nat} {f : Nat → Int × Int} (h : RowF w g n f) {k : Nat} (x y : Int) : RowF ((w.setCell ⟨g, k * 2, none⟩ (.int .i64 x)).setCell ⟨g, k * 2 + 1, none⟩ (.int .i64 y)) g n (fun j => if j = k then (x, y) else f j) := by
  obtain ⟨cs, h, h1, h2⟩ := h
  refine ⟨_, setCell_heap (setCell_heap h _ _) _ _, by simp [h1], fun j hj => ?_⟩
  obtain ⟨q1, q2⟩ := h2 j hj
  have hs1 : j * 2 < cs.size := by omega
  have hs2 : j * 2 + 1 < cs.size := by omega
  dsimp only
  by_cases hjk : j = k
  · subst hjk
    rw [if_pos rfl]
    constructor
    · rw [Array.getElem?_setIfInBounds_ne (by omega), Array.getElem?_setIfInBounds_self_of_lt hs1]
    · rw [Array.getElem?_setIfInBounds_self_of_lt (by simpa using hs2)]
  · rw [if_neg hjk]
    constructor
    · rw [Array.getElem?_setIfInBounds_ne (by omega), Array.getElem?_setIfInBounds_ne (by omega)]; exact q1
    · rw [Array.getElem?_setIfInBounds_ne (by omega), Array.getElem?_setIfInBounds_ne (by omega)]; exact q2
theorem RowF.to {w w' : World} {g n : Nat} {f : Nat → Int × Int} (h : RowF w g n f) (e : w'.heap[g]? = w.heap[g]?) : RowF w' g n f := by
  obtain ⟨cs, h, h1⟩ := h
  exact ⟨cs, e.trans h, h1⟩
theorem RowF.bids {w : World} {g n : Nat} {f : Nat → Int × Int} {l : List (Int × Int)} (h : RowF w g n f) (hn : l.length ≤ n) (hf : ∀ j, j < l.length → f j = l.getD j (0, 0)) : BidsAt w (some ⟨g, 0, none⟩) l := fun i hi => by
  refine ⟨g, 0, rfl, h.lt, ?_, ?_⟩
  · rw [Nat.zero_add, h.at1 (by omega), hf i hi]
  · rw [Nat.zero_add, h.at2 (by omega), hf i hi]

/-- in := make(.., len(l)+8); copy(in, l). -/
theorem made_in (W : World) (a : Option Addr) (cap n8 : Nat) (l : List (Int × Int)) (hB : BidsAt W a l) (hl : l.length ≤ 8796093022208) (hn : n8 = l.length + 8) :
    ∃ W1 W2 f, (Instr.makeSlice 22 (.int .i64 ((l.length : Int) + 8)) (.int .i64 ((l.length : Int) + 8))).run Try.prog W = .ok (.slice (some ⟨W.heap.size, 0, none⟩) n8 n8) W1 ∧
      (∀ ty, (Builtin.copy_ #[22, 22] ty #[.slice (some ⟨W.heap.size, 0, none⟩) n8 n8, .slice a l.length cap]).run Try.prog W1 = .ok (goInt l.length) W2) ∧ RowF W2 W.heap.size n8 f ∧ (∀ j, j < l.length → f j = l.getD j (0, 0)) ∧ Below W.heap.size W W2 := by
  have hmk := make_bids n8 W (by omega)
  have e8 : (n8 : Int) = (l.length : Int) + 8 := by omega
  rw [e8] at hmk
  obtain ⟨cur, hcur⟩ : ∃ cur, cur = madeCells #[.int .i64 0, .int .i64 0] (n8 * 2) := ⟨_, rfl⟩
  have hM : (W.alloc (.cells cur 29)).heap[W.heap.size]? = some (.cells cur 29 (0, 0)) := by
    show (W.heap.push _)[W.heap.size]? = _
    simp
  have hsz : cur.size = n8 * 2 := by rw [hcur]; exact size_madeCells _ _
  rw [← hcur] at hmk
  have hz : ∀ j, j < n8 → cur[j * 2]? = some (.int .i64 0) ∧ cur[j * 2 + 1]? = some (.int .i64 0) := fun j hj => by
    rw [hcur]
    have h1 : j * 2 < n8 * 2 := by omega
    have h2 : j * 2 + 1 < n8 * 2 := by omega
    have e2 : (j * 2 + 1) % 2 = 1 := by omega
    constructor
    · simp [madeCells, h1]
    · simp [madeCells, h2, e2]
  clear hcur
  refine ⟨_, _, fun j => if j < l.length then l.getD j (0, 0) else (0, 0), hmk, fun ty => run_copy_bids _ ty W.heap.size n8 n8 a cap _ 29 l (BidsAt.up hB (below_alloc W _)) hM (by omega) (by omega), ?_, ?_, ?_⟩
  · refine ⟨_, setRow_heap _ _ _ _ _ _ hM, by simp [flatO_length, hsz]; omega, fun j hj => ?_⟩
    simp only [List.getElem?_toArray]
    by_cases hjl : j < l.length
    · rw [if_pos hjl, List.getElem?_append_left (by rw [flatO_length]; omega), List.getElem?_append_left (by rw [flatO_length]; omega)]
      exact flatO_at l j hjl
    · rw [if_neg hjl, List.getElem?_append_right (by rw [flatO_length]; omega), List.getElem?_append_right (by rw [flatO_length]; omega), List.getElem?_drop, List.getElem?_drop, flatO_length,
        show l.length * 2 + (j * 2 - l.length * 2) = j * 2 by omega, show l.length * 2 + (j * 2 + 1 - l.length * 2) = j * 2 + 1 by omega]
      obtain ⟨q1, q2⟩ := hz j hj
      rw [Array.getElem?_toList, Array.getElem?_toList]
      exact ⟨q1, q2⟩
  · intro j hj
    simp only []
    rw [if_pos hj]
  · exact (below_alloc W _).trans ⟨rfl, rfl, rfl, by simp, fun k hk => setRow_other _ _ _ _ (by omega)⟩

theorem book_start (W : World) : BookOk (W.alloc (.cells #[.slice none 0 0, .slice none 0 0, .int .i64 0] 34)) W.heap.size W.heap.size (.slice none 0 0) (.slice none 0 0) [] 0 :=
  ⟨by show (W.heap.push _)[W.heap.size]? = _; simp, Nat.le_refl _, World.ownsRow_nil _ _ _ _, World.ownsRow_nil _ _ _ _, by simp [Value.ownBlock], by simp [Value.ownBlock], by simp [Value.ownBlock], by simp, by simp, by simp, by simp⟩

/-- all but one block stays. -/
theorem OutAt.gb {w w' : World} {X : Nat} {l : List (Int × Int)} {F g : Nat} (h : OutAt w X l F) (k : w.grownBy w' (some g)) (h1 : X ≠ g) (h2 : F ≠ g) : OutAt w' X l F := by
  have e : w'.heap[X]? = w.heap[X]? := k.block X h.1 (fun e => h1 (by injection e))
  have c : ∀ j, w'.cell? ⟨X, j, none⟩ = w.cell? ⟨X, j, none⟩ := fun j => World.cell?_of_block (a := ⟨X, j, none⟩) e
  exact ⟨Nat.lt_of_lt_of_le h.1 k.size, (c 0).trans h.2.1, (c 1).trans h.2.2.1, (c 2).trans h.2.2.2.1, (c 3).trans h.2.2.2.2.1, (c 4).trans h.2.2.2.2.2.1, (c 5).trans h.2.2.2.2.2.2.1, (k.block F h.2.2.2.2.2.2.2.lt (fun e => h2 (by injection e))).trans h.2.2.2.2.2.2.2⟩
theorem OutAt.low {w w' : World} {X : Nat} {l : List (Int × Int)} {F B : Nat} (h : OutAt w X l F) (b : Below B w w') (h1 : X < B) (h2 : F < B) : OutAt w' X l F :=
  ⟨Nat.lt_of_lt_of_le h.1 b.size, (b.cell (p := ⟨X, 0, none⟩) h1).trans h.2.1, (b.cell (p := ⟨X, 1, none⟩) h1).trans h.2.2.1, (b.cell (p := ⟨X, 2, none⟩) h1).trans h.2.2.2.1, (b.cell (p := ⟨X, 3, none⟩) h1).trans h.2.2.2.2.1, (b.cell (p := ⟨X, 4, none⟩) h1).trans h.2.2.2.2.2.1, (b.cell (p := ⟨X, 5, none⟩) h1).trans h.2.2.2.2.2.2.1, (b.block F h2).trans h.2.2.2.2.2.2.2⟩
theorem BookOk.far {w : World} {X B : Nat} {vL vW : Value} {es : List Ent} {kk : Int} (h : BookOk w X B vL vW es kk) {F : Nat} (hF : w.heap.size ≤ F) : F ≠ X ∧ vL.ownBlock ≠ some F ∧ vW.ownBlock ≠ some F ∧ (∀ e ∈ es, e.l.ownBlock ≠ some F ∧ e.k.ownBlock ≠ some F) := by
  have := h.lt
  refine ⟨by omega, fun e => ?_, fun e => ?_, fun e he => ⟨fun e' => ?_, fun e' => ?_⟩⟩
  · have := (h.oL.lt _ e).2; omega
  · have := (h.oW.lt _ e).2; omega
  · have := (h.ap e he _ (Or.inl e')).1; omega
  · have := (h.ap e he _ (Or.inr e')).1; omega
end Go.Proofs.Ytjfifaooimgbaaa
