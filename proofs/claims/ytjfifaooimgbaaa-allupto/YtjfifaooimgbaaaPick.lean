import Derived.Test.YtjfifaooimgbaaaTruth
import Derived.Test.YtjfifaooimgbaaaShare
/- Fairness: plain mathematics of a clearing's outcome. -/
namespace Go.Proofs.Ytjfifaooimgbaaa
open Go.Sort

/-! ### sums over all orders -/
def sumTo (h : Nat → Int) : Nat → Int
  | 0 => 0
  | n + 1 => sumTo h n + h n
theorem sumTo_congr {h h' : Nat → Int} : ∀ n, (∀ i, i < n → h i = h' i) → sumTo h n = sumTo h' n
  | 0, _ => rfl
  | n + 1, e => by rw [sumTo, sumTo, sumTo_congr n (fun i hi => e i (by omega)), e n (by omega)]
theorem sumTo_add (h h' : Nat → Int) : ∀ n, sumTo (fun i => h i + h' i) n = sumTo h n + sumTo h' n
  | 0 => rfl
  | n + 1 => by rw [sumTo, sumTo, sumTo, sumTo_add h h' n]; omega
theorem sumTo_zero : ∀ n, sumTo (fun _ => 0) n = 0
  | 0 => rfl
  | n + 1 => by rw [sumTo, sumTo_zero n]; omega
theorem sumTo_single (p : Nat) (v : Int) : ∀ n, sumTo (fun i => if i = p then v else 0) n = if p < n then v else 0
  | 0 => rfl
  | n + 1 => by
    rw [sumTo, sumTo_single p v n]
    by_cases h1 : p < n
    · rw [if_pos h1, if_neg (by omega), if_pos (by omega)]; omega
    · rw [if_neg h1]
      by_cases h2 : n = p
      · rw [if_pos h2, if_pos (by omega)]; omega
      · rw [if_neg h2, if_neg (by omega)]; omega
def hasPlace (s : List (Int × Int)) (i : Nat) : Bool := s.any (fun x => x.1.toNat == i)
theorem hasPlace_iff (s : List (Int × Int)) (i : Nat) : hasPlace s i = true ↔ ∃ x ∈ s, x.1.toNat = i := by simp [hasPlace]
theorem sumTo_places (val : Nat → Int) (n : Nat) : ∀ s : List (Int × Int), s.Pairwise (fun x y => x.1.toNat ≠ y.1.toNat) → (∀ x ∈ s, x.1.toNat < n) →
    sumTo (fun i => if hasPlace s i = true then val i else 0) n = (s.map (fun x => val x.1.toNat)).sum
  | [], _, _ => by simp [hasPlace, sumTo_zero]
  | x :: r, hp, hl => by
    have ih := sumTo_places val n r (List.pairwise_cons.1 hp).2 (fun y hy => hl y (List.mem_cons_of_mem _ hy))
    have e : sumTo (fun i => if hasPlace (x :: r) i = true then val i else 0) n = sumTo (fun i => (if i = x.1.toNat then val x.1.toNat else 0) + (if hasPlace r i = true then val i else 0)) n :=
      sumTo_congr n fun i _ => by
        by_cases h1 : i = x.1.toNat
        · have h2 : ¬ hasPlace r i = true := fun h => by
            obtain ⟨y, hy, hyi⟩ := (hasPlace_iff r i).1 h
            exact (List.pairwise_cons.1 hp).1 y hy (by omega)
          rw [if_pos ((hasPlace_iff _ _).2 ⟨x, List.mem_cons_self, h1.symm⟩), if_pos h1, if_neg h2, h1]; omega
        · rw [if_neg h1]
          by_cases h2 : hasPlace r i = true
          · obtain ⟨y, hy, hyi⟩ := (hasPlace_iff r i).1 h2
            rw [if_pos h2, if_pos ((hasPlace_iff _ _).2 ⟨y, List.mem_cons_of_mem _ hy, hyi⟩)]; omega
          · have h3 : ¬ hasPlace (x :: r) i = true := fun h => by
              obtain ⟨y, hy, hyi⟩ := (hasPlace_iff _ _).1 h
              rcases List.mem_cons.1 hy with rfl | hy
              · exact h1 hyi.symm
              · exact h2 ((hasPlace_iff _ _).2 ⟨y, hy, hyi⟩)
            rw [if_neg h2, if_neg h3]; omega
    rw [e, sumTo_add, ih, sumTo_single, if_pos (hl x List.mem_cons_self), List.map_cons, List.sum_cons]

theorem places_ne {s c : List (Int × Int)} (hp : s.Perm c) (hc : c.Pairwise (fun x y => x.1 < y.1)) (h0 : ∀ x ∈ c, 0 ≤ x.1) : s.Pairwise (fun x y => x.1.toNat ≠ y.1.toNat) := by
  have h1 : c.Pairwise (fun x y => x.1.toNat ≠ y.1.toNat) := by
    refine List.Pairwise.imp_of_mem ?_ hc
    intro a b ha hb hab
    have := h0 a ha; have := h0 b hb; omega
  exact (hp.pairwise_iff (fun {x y} h => fun e => h e.symm)).2 h1
theorem buyers_ne (l : List (Int × Int)) : (buyersOf l).Pairwise (fun x y => x.1.toNat ≠ y.1.toNat) := places_ne (buyers_perm l) (Clr.candTo_sorted 0 l l.length) (fun x hx => (Clr.candTo_place 0 l l.length x hx).1)
theorem sellers_ne (l : List (Int × Int)) : (sellersOf l).Pairwise (fun x y => x.1.toNat ≠ y.1.toNat) := places_ne (sellers_perm l) (Clr.candTo_sorted 1 l l.length) (fun x hx => (Clr.candTo_place 1 l l.length x hx).1)

/-- who is filled, by side. -/
theorem filled_side (l : List (Int × Int)) (i : Nat) (hi : i < l.length) :
    (((filledL l).getD i false = true ∧ (l.getD i (0, 0)).1 = 0) ↔ hasPlace ((buyersOf l).take (setL l).1) i = true) ∧
    (((filledL l).getD i false = true ∧ (l.getD i (0, 0)).1 ≠ 0) ↔ hasPlace ((sellersOf l).take (setL l).1) i = true) := by
  have hf := fills_le l
  have tk : ∀ (s : List (Int × Int)), (setL l).1 ≤ s.length → (hasPlace (s.take (setL l).1) i = true ↔ ∃ t, t < (setL l).1 ∧ (s.getD t (0, 0)).1.toNat = i) := fun s hs => by
    rw [hasPlace_iff]
    constructor
    · rintro ⟨x, hx, e⟩
      obtain ⟨t, ht, rfl⟩ := List.getElem_of_mem hx
      have ht' : t < (setL l).1 := by simp at ht; omega
      rw [List.getElem_take] at e
      exact ⟨t, ht', by rw [getD_lt (by omega)]; exact e⟩
    · rintro ⟨t, ht, e⟩
      rw [getD_lt (by omega)] at e
      exact ⟨s[t], by rw [← List.getElem_take (j := (setL l).1) (h := by simp; omega)]; exact List.getElem_mem _, e⟩
  rw [tk _ hf.1, tk _ hf.2, filledL_true l i hi]
  constructor
  · constructor
    · rintro ⟨⟨t, ht, h | h⟩, hs⟩
      · exact ⟨t, ht, h⟩
      · have := seller_ok l t (by omega); rw [h] at this
        have := okB_side this hs; omega
    · rintro ⟨t, ht, h⟩
      have := buyer_ok l t (by omega); rw [h] at this
      exact ⟨⟨t, ht, Or.inl h⟩, (okB_side this rfl).symm⟩
  · constructor
    · rintro ⟨⟨t, ht, h | h⟩, hs⟩
      · have := buyer_ok l t (by omega); rw [h] at this
        exact absurd (okB_side this rfl).symm hs
      · exact ⟨t, ht, h⟩
    · rintro ⟨t, ht, h⟩
      have := seller_ok l t (by omega); rw [h] at this
      have := okB_side this rfl
      exact ⟨⟨t, ht, Or.inr h⟩, by omega⟩

def isB (l : List (Int × Int)) (i : Nat) : Prop := (filledL l).getD i false = true ∧ (l.getD i (0, 0)).1 = 0
def isS (l : List (Int × Int)) (i : Nat) : Prop := (filledL l).getD i false = true ∧ (l.getD i (0, 0)).1 ≠ 0
def boughtTo (l : List (Int × Int)) (n : Nat) : Int := sumTo (fun i => if (filledL l).getD i false = true ∧ (l.getD i (0, 0)).1 = 0 then 1 else 0) n
def soldTo (l : List (Int × Int)) (n : Nat) : Int := sumTo (fun i => if (filledL l).getD i false = true ∧ (l.getD i (0, 0)).1 ≠ 0 then 1 else 0) n
def gainedTo (l : List (Int × Int)) (n : Nat) : Int := sumTo (fun i => (if (filledL l).getD i false = true ∧ (l.getD i (0, 0)).1 = 0 then (l.getD i (0, 0)).2 else 0) + (if (filledL l).getD i false = true ∧ (l.getD i (0, 0)).1 ≠ 0 then -(l.getD i (0, 0)).2 else 0)) n

theorem sum_take (val : Int × Int → Int) (s : List (Int × Int)) : ∀ f, f ≤ s.length → ((s.take f).map val).sum = sumTo (fun t => val (s.getD t (0, 0))) f
  | 0, _ => by simp [sumTo]
  | f + 1, h => by
    rw [List.take_succ_eq_append_getElem (by omega), List.map_append, List.sum_append, sum_take val s f (by omega), sumTo, getD_lt (by omega)]
    simp
theorem sumTo_one : ∀ f : Nat, sumTo (fun _ => 1) f = (f : Int)
  | 0 => rfl
  | f + 1 => by rw [sumTo, sumTo_one f]; omega
theorem bought_all (l : List (Int × Int)) : boughtTo l l.length = ((setL l).1 : Int) := by
  have hf := fills_le l
  unfold boughtTo
  rw [sumTo_congr l.length (h' := fun i => if hasPlace ((buyersOf l).take (setL l).1) i = true then 1 else 0) (fun i hi => by
    have := (filled_side l i hi).1
    by_cases h : (filledL l).getD i false = true ∧ (l.getD i (0, 0)).1 = 0
    · rw [if_pos h, if_pos (this.1 h)]
    · rw [if_neg h, if_neg (fun h' => h (this.2 h'))]),
    sumTo_places (fun _ => 1) l.length _ ((buyers_ne l).sublist (List.take_sublist _ _)) (fun x hx => by have := buyers_place l x (List.mem_of_mem_take hx); omega),
    sum_take (fun _ => 1) _ _ hf.1, sumTo_one]
theorem sold_all (l : List (Int × Int)) : soldTo l l.length = ((setL l).1 : Int) := by
  have hf := fills_le l
  unfold soldTo
  rw [sumTo_congr l.length (h' := fun i => if hasPlace ((sellersOf l).take (setL l).1) i = true then 1 else 0) (fun i hi => by
    have := (filled_side l i hi).2
    by_cases h : (filledL l).getD i false = true ∧ (l.getD i (0, 0)).1 ≠ 0
    · rw [if_pos h, if_pos (this.1 h)]
    · rw [if_neg h, if_neg (fun h' => h (this.2 h'))]),
    sumTo_places (fun _ => 1) l.length _ ((sellers_ne l).sublist (List.take_sublist _ _)) (fun x hx => by have := sellers_place l x (List.mem_of_mem_take hx); omega),
    sum_take (fun _ => 1) _ _ hf.2, sumTo_one]
end Go.Proofs.Ytjfifaooimgbaaa
/- Fairness: what each trader pays, nobody passed over, next to nothing lost. -/
namespace Go.Proofs.Ytjfifaooimgbaaa
open Go.Sort

theorem rightB_of {b : Int × Int} (h : b.1 = 0 ∨ b.1 = 1) (h1 : 1 ≤ b.2) (h2 : b.2 < 1000) : rightB b = true := by
  unfold rightB
  rw [decide_eq_true h1, decide_eq_true h2]
  rcases h with h | h <;> rw [h] <;> rfl
theorem set_cases (l : List (Int × Int)) : ((setL l).1 = 0 ∧ (setL l).2.1 = 0 ∧ (setL l).2.2 = 0 ∧ kL l ≤ 1) ∨
    ((setL l).1 = kL l ∧ 1 ≤ kL l ∧ (setL l).2.1 = (setL l).2.2 ∧ (setL l).2.1 ≤ priceAt 0 (buyersOf l) (kL l - 1) ∧ priceAt 1000 (sellersOf l) (kL l - 1) ≤ (setL l).2.2) ∨
    ((setL l).1 = kL l - 1 ∧ 2 ≤ kL l ∧ (setL l).2.1 = priceAt 0 (buyersOf l) (kL l - 1) ∧ (setL l).2.2 = priceAt 1000 (sellersOf l) (kL l - 1)) := by
  unfold setL settleF
  by_cases h0 : kL l = 0
  · left; rw [if_pos h0]; exact ⟨rfl, rfl, rfl, by omega⟩
  · rw [if_neg h0]
    by_cases hc : priceAt 1000 (sellersOf l) (kL l - 1) ≤ midF (buyersOf l) (sellersOf l) (kL l) ∧ midF (buyersOf l) (sellersOf l) (kL l) ≤ priceAt 0 (buyersOf l) (kL l - 1)
    · right; left; rw [if_pos hc]; exact ⟨rfl, by omega, rfl, hc.2, hc.1⟩
    · rw [if_neg hc]
      by_cases h1 : kL l = 1
      · left; rw [if_pos h1]; exact ⟨rfl, rfl, rfl, by omega⟩
      · right; right; rw [if_neg h1]; exact ⟨rfl, by omega, rfl, rfl⟩

/-- nobody pays more, or gets less, than they said. -/
theorem filled_ok (l : List (Int × Int)) (i : Nat) (hi : i < l.length) (hf : (filledL l).getD i false = true) :
    rightB (l.getD i (0, 0)) = true ∧ ((l.getD i (0, 0)).1 = 0 → (setL l).2.1 ≤ (l.getD i (0, 0)).2) ∧ ((l.getD i (0, 0)).1 = 1 → (l.getD i (0, 0)).2 ≤ (setL l).2.2) := by
  have hle := fills_le l
  have sc := set_cases l
  obtain ⟨t, ht, h | h⟩ := (filledL_true l i hi).1 hf
  · have hok := buyer_ok l t (by omega)
    rw [h] at hok
    have hpr : (l.getD i (0, 0)).2 = priceAt 0 (buyersOf l) t := by
      rw [← h, priceAt_lt (by omega), getD_lt (show t < (buyersOf l).length by omega)]
      exact ((Clr.candTo_place 0 l l.length _ ((buyers_perm l).mem_iff.1 (List.getElem_mem _))).2.2.2.2.1).symm
    have hok' := hok
    simp only [Clr.okB, Bool.and_eq_true, beq_iff_eq, decide_eq_true_eq] at hok'
    refine ⟨rightB_of (Or.inl hok'.1) hok'.2.1 hok'.2.2, fun _ => ?_, fun hs => by omega⟩
    rw [hpr]
    have hm := buyers_mono l t (kL l - 1) (by omega)
    rcases sc with sc | sc | sc <;> omega
  · have hok := seller_ok l t (by omega)
    rw [h] at hok
    have hpr : (l.getD i (0, 0)).2 = priceAt 1000 (sellersOf l) t := by
      rw [← h, priceAt_lt (by omega), getD_lt (show t < (sellersOf l).length by omega)]
      exact ((Clr.candTo_place 1 l l.length _ ((sellers_perm l).mem_iff.1 (List.getElem_mem _))).2.2.2.2.1).symm
    have hok' := hok
    simp only [Clr.okB, Bool.and_eq_true, beq_iff_eq, decide_eq_true_eq] at hok'
    refine ⟨rightB_of (Or.inr hok'.1) hok'.2.1 hok'.2.2, fun hs => by omega, fun _ => ?_⟩
    rw [hpr]
    have hm := sellers_mono l t (kL l - 1) (by omega)
    rcases sc with sc | sc | sc <;> omega

/-- an order that may be stands in its line. -/
theorem in_buyers (l : List (Int × Int)) (i : Nat) (hi : i < l.length) (h : Clr.okB 0 (l.getD i (0, 0)) = true) : ∃ t, ∃ ht : t < (buyersOf l).length, (buyersOf l)[t] = ((i : Int), (l.getD i (0, 0)).2) := by
  have key : ∀ k, i < k → ((i : Int), (l.getD i (0, 0)).2) ∈ Clr.candTo 0 l k := by
    intro k
    induction k with
    | zero => intro hk; omega
    | succ k ih =>
      intro hk
      by_cases e : i = k
      · subst e; rw [Clr.candTo_hit h]; exact List.mem_append_right _ List.mem_cons_self
      · have := ih (by omega)
        rw [Clr.candTo]; split
        · exact List.mem_append_left _ this
        · exact this
  obtain ⟨t, ht, e⟩ := List.getElem_of_mem ((buyers_perm l).mem_iff.2 (key l.length hi))
  exact ⟨t, ht, e⟩
theorem in_sellers (l : List (Int × Int)) (i : Nat) (hi : i < l.length) (h : Clr.okB 1 (l.getD i (0, 0)) = true) : ∃ t, ∃ ht : t < (sellersOf l).length, (sellersOf l)[t] = ((i : Int), (l.getD i (0, 0)).2) := by
  have key : ∀ k, i < k → ((i : Int), (l.getD i (0, 0)).2) ∈ Clr.candTo 1 l k := by
    intro k
    induction k with
    | zero => intro hk; omega
    | succ k ih =>
      intro hk
      by_cases e : i = k
      · subst e; rw [Clr.candTo_hit h]; exact List.mem_append_right _ List.mem_cons_self
      · have := ih (by omega)
        rw [Clr.candTo]; split
        · exact List.mem_append_left _ this
        · exact this
  obtain ⟨t, ht, e⟩ := List.getElem_of_mem ((sellers_perm l).mem_iff.2 (key l.length hi))
  exact ⟨t, ht, e⟩

theorem pay_get (l : List (Int × Int)) : (setL l).2.2 ≤ (setL l).2.1 := by
  rcases set_cases l with h | h | h
  · omega
  · omega
  · have := (kL_is l).yes (kL l - 1) (by omega)
    omega
theorem share_says (l : List (Int × Int)) (hl : l.length ≤ 8796093022208) : (shareL l = 4607182418800017408 ↔ gainedL l = canL l) ∧ (shareL l = 0 ↔ (gainedL l = 0 ∧ 0 < canL l)) ∧ shareL l ≤ 4607182418800017408 := by
  have hb := gain_bd l
  unfold shareL shareB
  by_cases h0 : canL l = 0
  · rw [if_pos h0]; refine ⟨⟨fun _ => by omega, fun _ => rfl⟩, ⟨fun h => absurd h (by decide), fun h => by omega⟩, Nat.le_refl _⟩
  · rw [if_neg h0]
    obtain ⟨a, ha⟩ := Int.eq_ofNat_of_zero_le hb.1
    obtain ⟨b, hbb⟩ := Int.eq_ofNat_of_zero_le (show 0 ≤ canL l by omega)
    rw [ha, hbb] at hb ⊢
    rw [hbb] at h0
    by_cases ha0 : a = 0
    · subst ha0
      have := Flt.div_zero b (by omega) (by omega)
      rw [show ((0 : Nat) : Int) = 0 from rfl, this]
      refine ⟨⟨fun h => absurd h (by decide), fun h => by omega⟩, ⟨fun _ => ⟨rfl, by omega⟩, fun _ => rfl⟩, by decide⟩
    · by_cases hab : a = b
      · subst hab
        rw [Flt.share_eq a (by omega) (by omega)]
        exact ⟨⟨fun _ => rfl, fun _ => rfl⟩, ⟨fun h => absurd h (by decide), fun h => by omega⟩, Nat.le_refl _⟩
      · obtain ⟨r, hr, h1, h2⟩ := Flt.share_lt a b (by omega) (by omega) (by omega)
        rw [hr]
        show ((r = _) ↔ _) ∧ ((r = 0) ↔ _) ∧ r ≤ _
        exact ⟨⟨fun h => by omega, fun h => by omega⟩, ⟨fun h => by omega, fun h => by omega⟩, by omega⟩
end Go.Proofs.Ytjfifaooimgbaaa
/- The best are picked out again and again: no program in this text. -/
namespace Go.Proofs.Ytjfifaooimgbaaa
open Go.Shelf Go.RowKit Go.Lib Go.Sort

/-- the line of a side. -/
def lineOf (side : Int) (l : List (Int × Int)) : List (Int × Int) := if side = 0 then buyersOf l else sellersOf l
/-- is x ahead of y? -/
def ahead (side : Int) (x y : Int × Int) : Prop := if side = 0 then (y.2 < x.2 ∨ (x.2 = y.2 ∧ x.1 < y.1)) else (x.2 < y.2 ∨ (x.2 = y.2 ∧ x.1 < y.1))
def at2 (l : List (Int × Int)) (i : Nat) : Int × Int := ((i : Int), (l.getD i (0, 0)).2)

theorem ahead_trans {side : Int} {x y z : Int × Int} (h1 : ahead side x y) (h2 : ahead side y z) : ahead side x z := by
  unfold ahead at *
  split <;> rename_i hs
  · rw [if_pos hs] at h1 h2; omega
  · rw [if_neg hs] at h1 h2; omega
/-- b is the best of the first i that are not taken. -/
def BestIs (side : Int) (l : List (Int × Int)) (tk : List Bool) (i : Nat) (b : Int) : Prop :=
  (b = -1 ∧ ∀ j, j < i → Clr.okB side (l.getD j (0, 0)) = true → tk.getD j false = true) ∨
  (∃ n : Nat, b = (n : Int) ∧ n < i ∧ Clr.okB side (l.getD n (0, 0)) = true ∧ tk.getD n false = false ∧
    ∀ j, j < i → Clr.okB side (l.getD j (0, 0)) = true → tk.getD j false = false → j ≠ n → ahead side (at2 l n) (at2 l j))

theorem BestIs.start (side : Int) (l : List (Int × Int)) (tk : List Bool) : BestIs side l tk 0 (-1) := Or.inl ⟨rfl, fun _ hj => absurd hj (Nat.not_lt_zero _)⟩
theorem BestIs.miss {side : Int} {l : List (Int × Int)} {tk : List Bool} {i : Nat} {b : Int} (h : BestIs side l tk i b) (hm : Clr.okB side (l.getD i (0, 0)) = false ∨ tk.getD i false = true) : BestIs side l tk (i + 1) b := by
  rcases h with ⟨hb, h⟩ | ⟨n, hb, h1, h2, h3, h4⟩
  · refine Or.inl ⟨hb, fun j hj hok => ?_⟩
    by_cases e : j = i
    · subst e; rcases hm with hm | hm
      · rw [hm] at hok; cases hok
      · exact hm
    · exact h j (by omega) hok
  · refine Or.inr ⟨n, hb, by omega, h2, h3, fun j hj hok ht hne => ?_⟩
    by_cases e : j = i
    · subst e; rcases hm with hm | hm
      · rw [hm] at hok; cases hok
      · rw [hm] at ht; cases ht
    · exact h4 j (by omega) hok ht hne
theorem BestIs.first {side : Int} {l : List (Int × Int)} {tk : List Bool} {i : Nat} (h : BestIs side l tk i (-1)) (hok : Clr.okB side (l.getD i (0, 0)) = true) (ht : tk.getD i false = false) : BestIs side l tk (i + 1) (i : Int) := by
  rcases h with ⟨_, h⟩ | ⟨n, hb, _⟩
  · refine Or.inr ⟨i, rfl, by omega, hok, ht, fun j hj hokj htj hne => ?_⟩
    have := h j (by omega) hokj
    rw [this] at htj; cases htj
  · omega
theorem BestIs.better {side : Int} {l : List (Int × Int)} {tk : List Bool} {i n : Nat} (h : BestIs side l tk i (n : Int)) (hok : Clr.okB side (l.getD i (0, 0)) = true) (ht : tk.getD i false = false)
    (hp : if side = 0 then (l.getD n (0, 0)).2 < (l.getD i (0, 0)).2 else (l.getD i (0, 0)).2 < (l.getD n (0, 0)).2) : BestIs side l tk (i + 1) (i : Int) := by
  rcases h with ⟨hb, _⟩ | ⟨m, hb, h1, h2, h3, h4⟩
  · omega
  · obtain rfl : n = m := by omega
    have hin : ahead side (at2 l i) (at2 l n) := by
      unfold ahead at2
      split <;> rename_i hs
      · rw [if_pos hs] at hp; exact Or.inl hp
      · rw [if_neg hs] at hp; exact Or.inl hp
    refine Or.inr ⟨i, rfl, by omega, hok, ht, fun j hj hokj htj hne => ?_⟩
    by_cases e : j = n
    · subst e; exact hin
    · exact ahead_trans hin (h4 j (by omega) hokj htj e)
theorem BestIs.keep {side : Int} {l : List (Int × Int)} {tk : List Bool} {i n : Nat} (h : BestIs side l tk i (n : Int))
    (hp : ¬ (if side = 0 then (l.getD n (0, 0)).2 < (l.getD i (0, 0)).2 else (l.getD i (0, 0)).2 < (l.getD n (0, 0)).2)) : BestIs side l tk (i + 1) (n : Int) := by
  rcases h with ⟨hb, _⟩ | ⟨m, hb, h1, h2, h3, h4⟩
  · omega
  · obtain rfl : n = m := by omega
    refine Or.inr ⟨n, rfl, by omega, h2, h3, fun j hj hokj htj hne => ?_⟩
    by_cases e : j = i
    · subst e
      unfold ahead at2
      split <;> rename_i hs
      · rw [if_pos hs] at hp; simp only; omega
      · rw [if_neg hs] at hp; simp only; omega
    · exact h4 j (by omega) hokj htj hne

/-- the first m of the line are taken, and no other. -/
def TakenIs (side : Int) (l : List (Int × Int)) (m : Nat) (tk : List Bool) : Prop :=
  tk.length = l.length ∧ ∀ j, j < l.length → (tk.getD j false = true ↔ ∃ t, t < m ∧ ((lineOf side l).getD t (-1, 0)).1 = (j : Int))

theorem line_in (side : Int) (hs : side = 0 ∨ side = 1) (l : List (Int × Int)) (j : Nat) (hj : j < l.length) (hok : Clr.okB side (l.getD j (0, 0)) = true) : ∃ t, ∃ ht : t < (lineOf side l).length, (lineOf side l)[t] = at2 l j := by
  rcases hs with rfl | rfl
  · exact in_buyers l j hj hok
  · exact in_sellers l j hj hok
theorem line_place (side : Int) (hs : side = 0 ∨ side = 1) (l : List (Int × Int)) (t : Nat) (ht : t < (lineOf side l).length) : ∃ j : Nat, j < l.length ∧ (lineOf side l)[t] = at2 l j ∧ Clr.okB side (l.getD j (0, 0)) = true := by
  rcases hs with rfl | rfl
  · have ht' : t < (buyersOf l).length := ht
    have h := Clr.candTo_place 0 l l.length _ ((buyers_perm l).mem_iff.1 (List.getElem_mem ht'))
    refine ⟨((buyersOf l)[t]).1.toNat, by omega, ?_, h.2.2.2.2.2⟩
    show (buyersOf l)[t] = _
    refine Prod.ext ?_ h.2.2.2.2.1
    show _ = ((((buyersOf l)[t]).1.toNat : Nat) : Int)
    omega
  · have ht' : t < (sellersOf l).length := ht
    have h := Clr.candTo_place 1 l l.length _ ((sellers_perm l).mem_iff.1 (List.getElem_mem ht'))
    refine ⟨((sellersOf l)[t]).1.toNat, by omega, ?_, h.2.2.2.2.2⟩
    show (sellersOf l)[t] = _
    refine Prod.ext ?_ h.2.2.2.2.1
    show _ = ((((sellersOf l)[t]).1.toNat : Nat) : Int)
    omega
theorem line_ne (side : Int) (hs : side = 0 ∨ side = 1) (l : List (Int × Int)) (t u : Nat) (ht : t < (lineOf side l).length) (hu : u < (lineOf side l).length) (h : ((lineOf side l)[t]).1 = ((lineOf side l)[u]).1) : t = u := by
  have key : ∀ s : List (Int × Int), s.Pairwise (fun x y => x.1.toNat ≠ y.1.toNat) → ∀ (ht : t < s.length) (hu : u < s.length), (s[t]).1 = (s[u]).1 → t = u := fun s hp ht hu h => by
    rcases Nat.lt_trichotomy t u with h1 | h1 | h1
    · exact absurd (by rw [h]) (List.pairwise_iff_getElem.1 hp t u ht hu h1)
    · exact h1
    · exact absurd (by rw [h]) (List.pairwise_iff_getElem.1 hp u t hu ht h1)
  rcases hs with rfl | rfl
  · exact key _ (buyers_ne l) ht hu h
  · exact key _ (sellers_ne l) ht hu h
theorem line_sorted (side : Int) (hs : side = 0 ∨ side = 1) (l : List (Int × Int)) (t u : Nat) (hu : u < (lineOf side l).length) (h : t < u) : ¬ ahead side (lineOf side l)[u] (lineOf side l)[t] := by
  rcases hs with rfl | rfl
  · exact (bLt_no _ _).1 (List.pairwise_iff_getElem.1 (buyers_sorted l) t u (by have : u < (buyersOf l).length := hu; omega) hu h)
  · exact (sLt_no _ _).1 (List.pairwise_iff_getElem.1 (sellers_sorted l) t u (by have : u < (sellersOf l).length := hu; omega) hu h)

theorem line_getD {side : Int} {l : List (Int × Int)} {t : Nat} (ht : t < (lineOf side l).length) : (lineOf side l).getD t (-1, 0) = (lineOf side l)[t] := by
  rw [List.getD_eq_getElem?_getD, List.getElem?_eq_getElem ht]; rfl

/-- where the best is looked for among all: it is the next of the line, or there is none. -/
theorem best_next {side : Int} (hs : side = 0 ∨ side = 1) {l : List (Int × Int)} {tk : List Bool} {m : Nat} {b : Int} (hm : m ≤ (lineOf side l).length) (hT : TakenIs side l m tk) (h : BestIs side l tk l.length b) :
    (b = -1 ∧ m = (lineOf side l).length) ∨ (∃ n : Nat, b = (n : Int) ∧ n < l.length ∧ m < (lineOf side l).length ∧ ((lineOf side l).getD m (-1, 0)).1 = (n : Int)) := by
  by_cases hlt : m < (lineOf side l).length
  · right
    obtain ⟨j, hj, ej, hokj⟩ := line_place side hs l m hlt
    have htj : tk.getD j false = false := by
      cases hc : tk.getD j false with
      | false => rfl
      | true =>
        exfalso
        obtain ⟨t, ht, et⟩ := (hT.2 j hj).1 hc
        have ht' : t < (lineOf side l).length := by omega
        rw [line_getD ht'] at et
        have := line_ne side hs l t m ht' hlt (by rw [et, ej]; rfl)
        omega
    rcases h with ⟨_, h⟩ | ⟨n, hb, h1, h2, h3, h4⟩
    · have := h j hj hokj; rw [this] at htj; cases htj
    · refine ⟨n, hb, h1, hlt, ?_⟩
      rw [line_getD hlt, ej]
      show (j : Int) = (n : Int)
      by_cases e : j = n
      · rw [e]
      · exfalso
        have ha := h4 j hj hokj htj e
        obtain ⟨u, hu, eu⟩ := line_in side hs l n h1 h2
        have hum : ¬ u < m := fun hc => by
          have := (hT.2 n h1).2 ⟨u, hc, by rw [line_getD hu, eu]; rfl⟩
          rw [this] at h3; cases h3
        rcases Nat.lt_or_ge m u with hc | hc
        · have := line_sorted side hs l m u hu hc
          rw [eu, ej] at this
          exact this ha
        · obtain rfl : u = m := by omega
          rw [eu] at ej
          have : ((n : Nat) : Int) = (j : Int) := congrArg Prod.fst ej
          omega
  · left
    obtain rfl : m = (lineOf side l).length := by omega
    rcases h with ⟨hb, _⟩ | ⟨n, hb, h1, h2, h3, h4⟩
    · exact ⟨hb, rfl⟩
    · exfalso
      obtain ⟨u, hu, eu⟩ := line_in side hs l n h1 h2
      have := (hT.2 n h1).2 ⟨u, hu, by rw [line_getD hu, eu]; rfl⟩
      rw [this] at h3; cases h3

theorem TakenIs.start (side : Int) (l : List (Int × Int)) : TakenIs side l 0 (List.replicate l.length false) := by
  refine ⟨by simp, fun j hj => ⟨fun h => ?_, fun ⟨t, ht, _⟩ => absurd ht (Nat.not_lt_zero _)⟩⟩
  rw [List.getD_eq_getElem?_getD, List.getElem?_replicate] at h
  split at h <;> simp at h
theorem TakenIs.next {side : Int} {l : List (Int × Int)} {m : Nat} {tk : List Bool} (h : TakenIs side l m tk) {n : Nat} (hn : n < l.length) (e : ((lineOf side l).getD m (-1, 0)).1 = (n : Int)) : TakenIs side l (m + 1) (tk.set n true) := by
  refine ⟨by rw [List.length_set]; exact h.1, fun j hj => ?_⟩
  by_cases ej : j = n
  · subst ej
    rw [List.getD_eq_getElem?_getD, List.getElem?_set_self (by rw [h.1]; exact hn)]
    exact ⟨fun _ => ⟨m, by omega, e⟩, fun _ => rfl⟩
  · rw [List.getD_eq_getElem?_getD, List.getElem?_set_ne (fun hc => ej hc.symm), ← List.getD_eq_getElem?_getD, h.2 j hj]
    constructor
    · rintro ⟨t, ht, et⟩; exact ⟨t, by omega, et⟩
    · rintro ⟨t, ht, et⟩
      by_cases e2 : t = m
      · subst e2; rw [e] at et; omega
      · exact ⟨t, by omega, et⟩
theorem take_next {side : Int} {l : List (Int × Int)} {m : Nat} {n : Nat} (hm : m < (lineOf side l).length) (e : ((lineOf side l).getD m (-1, 0)).1 = (n : Int)) : ((lineOf side l).take (m + 1)).map (fun x => x.1) = ((lineOf side l).take m).map (fun x => x.1) ++ [(n : Int)] := by
  rw [List.take_add_one, List.getElem?_eq_getElem hm, List.map_append]
  rw [line_getD hm] at e
  simp [e]
theorem line_le (side : Int) (hs : side = 0 ∨ side = 1) (l : List (Int × Int)) : (lineOf side l).length ≤ l.length := by
  rcases hs with rfl | rfl
  · exact buyers_le l
  · exact sellers_le l
end Go.Proofs.Ytjfifaooimgbaaa
