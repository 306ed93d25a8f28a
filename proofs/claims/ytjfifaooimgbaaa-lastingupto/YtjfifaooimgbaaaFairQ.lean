import Derived.Test.YtjfifaooimgbaaaTruth
import Derived.Test.YtjfifaooimgbaaaPrices
import Derived.Test.YtjfifaooimgbaaaShare
/- Fairness: plain mathematics of a clearing's outcome. -/
namespace Go.Proofs.Ytjfifaooimgbaaa
open Go.Sort

theorem price_buy_eq {l : List (Int × Int)} {out : List Int} (h : PriceL 0 l l.length out) : out = (buyersOf l).map (fun x => x.2) := by
  refine List.Perm.eq_of_pairwise (le := fun x y => noWorse 0 x y = true) (fun x y _ _ h1 h2 => ?_) h.sort ?_ (h.perm.trans ((buyers_perm l).map _).symm)
  · simp only [noWorse, if_true, decide_eq_true_eq] at h1 h2; omega
  · rw [List.pairwise_map]
    exact (buyers_sorted l).imp (fun {x y} hxy => by have := (bLt_no y x).1 hxy; simp only [noWorse, if_true, decide_eq_true_eq]; omega)
theorem price_sell_eq {l : List (Int × Int)} {out : List Int} (h : PriceL 1 l l.length out) : out = (sellersOf l).map (fun x => x.2) := by
  refine List.Perm.eq_of_pairwise (le := fun x y => noWorse 1 x y = true) (fun x y _ _ h1 h2 => ?_) h.sort ?_ (h.perm.trans ((sellers_perm l).map _).symm)
  · simp [noWorse] at h1 h2; omega
  · rw [List.pairwise_map]
    exact (sellers_sorted l).imp (fun {x y} hxy => by have := (sLt_no y x).1 hxy; simp [noWorse]; omega)
theorem getD_map2 (s : List (Int × Int)) (no : Int) (j : Nat) (hj : j < s.length) : (s.map (fun x => x.2)).getD j 0 = priceAt no s j := by
  rw [priceAt_lt hj, List.getD_eq_getElem?_getD, List.getElem?_map, List.getElem?_eq_getElem hj]; rfl

/-! ### sums over all orders -/
def sumTo (h : Nat → Int) : Nat → Int
  | 0 => 0
  | n + 1 => sumTo h n + h n
theorem sumTo_congr {h h' : Nat → Int} : ∀ n, (∀ i, i < n → h i = h' i) → sumTo h n = sumTo h' n
  | 0, _ => rfl
  | n + 1, e => by rw [sumTo, sumTo, sumTo_congr n (fun i hi => e i (by omega)), e n (by omega)]
theorem sumTo_add (h h' : Nat → Int) : ∀ n, sumTo (fun i => h i + h' i) n = sumTo h n + sumTo h' n
  | 0 => rfl
  | n + 1 => by rw [sumTo, sumTo, sumTo, sumTo_add h h' n]; omega
theorem sumTo_zero : ∀ n, sumTo (fun _ => 0) n = 0
  | 0 => rfl
  | n + 1 => by rw [sumTo, sumTo_zero n]; omega
theorem sumTo_single (p : Nat) (v : Int) : ∀ n, sumTo (fun i => if i = p then v else 0) n = if p < n then v else 0
  | 0 => rfl
  | n + 1 => by
    rw [sumTo, sumTo_single p v n]
    by_cases h1 : p < n
    · rw [if_pos h1, if_neg (by omega), if_pos (by omega)]; omega
    · rw [if_neg h1]
      by_cases h2 : n = p
      · rw [if_pos h2, if_pos (by omega)]; omega
      · rw [if_neg h2, if_neg (by omega)]; omega
def hasPlace (s : List (Int × Int)) (i : Nat) : Bool := s.any (fun x => x.1.toNat == i)
theorem hasPlace_iff (s : List (Int × Int)) (i : Nat) : hasPlace s i = true ↔ ∃ x ∈ s, x.1.toNat = i := by simp [hasPlace]
theorem sumTo_places (val : Nat → Int) (n : Nat) : ∀ s : List (Int × Int), s.Pairwise (fun x y => x.1.toNat ≠ y.1.toNat) → (∀ x ∈ s, x.1.toNat < n) →
    sumTo (fun i => if hasPlace s i = true then val i else 0) n = (s.map (fun x => val x.1.toNat)).sum
  | [], _, _ => by simp [hasPlace, sumTo_zero]
  | x :: r, hp, hl => by
    have ih := sumTo_places val n r (List.pairwise_cons.1 hp).2 (fun y hy => hl y (List.mem_cons_of_mem _ hy))
    have e : sumTo (fun i => if hasPlace (x :: r) i = true then val i else 0) n = sumTo (fun i => (if i = x.1.toNat then val x.1.toNat else 0) + (if hasPlace r i = true then val i else 0)) n :=
      sumTo_congr n fun i _ => by
        by_cases h1 : i = x.1.toNat
        · have h2 : ¬ hasPlace r i = true := fun h => by
            obtain ⟨y, hy, hyi⟩ := (hasPlace_iff r i).1 h
            exact (List.pairwise_cons.1 hp).1 y hy (by omega)
          rw [if_pos ((hasPlace_iff _ _).2 ⟨x, List.mem_cons_self, h1.symm⟩), if_pos h1, if_neg h2, h1]; omega
        · rw [if_neg h1]
          by_cases h2 : hasPlace r i = true
          · obtain ⟨y, hy, hyi⟩ := (hasPlace_iff r i).1 h2
            rw [if_pos h2, if_pos ((hasPlace_iff _ _).2 ⟨y, List.mem_cons_of_mem _ hy, hyi⟩)]; omega
          · have h3 : ¬ hasPlace (x :: r) i = true := fun h => by
              obtain ⟨y, hy, hyi⟩ := (hasPlace_iff _ _).1 h
              rcases List.mem_cons.1 hy with rfl | hy
              · exact h1 hyi.symm
              · exact h2 ((hasPlace_iff _ _).2 ⟨y, hy, hyi⟩)
            rw [if_neg h2, if_neg h3]; omega
    rw [e, sumTo_add, ih, sumTo_single, if_pos (hl x List.mem_cons_self), List.map_cons, List.sum_cons]

theorem places_ne {s c : List (Int × Int)} (hp : s.Perm c) (hc : c.Pairwise (fun x y => x.1 < y.1)) (h0 : ∀ x ∈ c, 0 ≤ x.1) : s.Pairwise (fun x y => x.1.toNat ≠ y.1.toNat) := by
  have h1 : c.Pairwise (fun x y => x.1.toNat ≠ y.1.toNat) := by
    refine List.Pairwise.imp_of_mem ?_ hc
    intro a b ha hb hab
    have := h0 a ha; have := h0 b hb; omega
  exact (hp.pairwise_iff (fun {x y} h => fun e => h e.symm)).2 h1
theorem buyers_ne (l : List (Int × Int)) : (buyersOf l).Pairwise (fun x y => x.1.toNat ≠ y.1.toNat) := places_ne (buyers_perm l) (Clr.candTo_sorted 0 l l.length) (fun x hx => (Clr.candTo_place 0 l l.length x hx).1)
theorem sellers_ne (l : List (Int × Int)) : (sellersOf l).Pairwise (fun x y => x.1.toNat ≠ y.1.toNat) := places_ne (sellers_perm l) (Clr.candTo_sorted 1 l l.length) (fun x hx => (Clr.candTo_place 1 l l.length x hx).1)

/-- who is filled, by side. -/
theorem filled_side (l : List (Int × Int)) (i : Nat) (hi : i < l.length) :
    (((filledL l).getD i false = true ∧ (l.getD i (0, 0)).1 = 0) ↔ hasPlace ((buyersOf l).take (setL l).1) i = true) ∧
    (((filledL l).getD i false = true ∧ (l.getD i (0, 0)).1 ≠ 0) ↔ hasPlace ((sellersOf l).take (setL l).1) i = true) := by
  have hf := fills_le l
  have tk : ∀ (s : List (Int × Int)), (setL l).1 ≤ s.length → (hasPlace (s.take (setL l).1) i = true ↔ ∃ t, t < (setL l).1 ∧ (s.getD t (0, 0)).1.toNat = i) := fun s hs => by
    rw [hasPlace_iff]
    constructor
    · rintro ⟨x, hx, e⟩
      obtain ⟨t, ht, rfl⟩ := List.getElem_of_mem hx
      have ht' : t < (setL l).1 := by simp at ht; omega
      rw [List.getElem_take] at e
      exact ⟨t, ht', by rw [getD_lt (by omega)]; exact e⟩
    · rintro ⟨t, ht, e⟩
      rw [getD_lt (by omega)] at e
      exact ⟨s[t], by rw [← List.getElem_take (j := (setL l).1) (h := by simp; omega)]; exact List.getElem_mem _, e⟩
  rw [tk _ hf.1, tk _ hf.2, filledL_true l i hi]
  constructor
  · constructor
    · rintro ⟨⟨t, ht, h | h⟩, hs⟩
      · exact ⟨t, ht, h⟩
      · have := seller_ok l t (by omega); rw [h] at this
        have := okB_side this hs; omega
    · rintro ⟨t, ht, h⟩
      have := buyer_ok l t (by omega); rw [h] at this
      exact ⟨⟨t, ht, Or.inl h⟩, (okB_side this rfl).symm⟩
  · constructor
    · rintro ⟨⟨t, ht, h | h⟩, hs⟩
      · have := buyer_ok l t (by omega); rw [h] at this
        exact absurd (okB_side this rfl).symm hs
      · exact ⟨t, ht, h⟩
    · rintro ⟨t, ht, h⟩
      have := seller_ok l t (by omega); rw [h] at this
      have := okB_side this rfl
      exact ⟨⟨t, ht, Or.inr h⟩, by omega⟩

def isB (l : List (Int × Int)) (i : Nat) : Prop := (filledL l).getD i false = true ∧ (l.getD i (0, 0)).1 = 0
def isS (l : List (Int × Int)) (i : Nat) : Prop := (filledL l).getD i false = true ∧ (l.getD i (0, 0)).1 ≠ 0
def boughtTo (l : List (Int × Int)) (n : Nat) : Int := sumTo (fun i => if (filledL l).getD i false = true ∧ (l.getD i (0, 0)).1 = 0 then 1 else 0) n
def soldTo (l : List (Int × Int)) (n : Nat) : Int := sumTo (fun i => if (filledL l).getD i false = true ∧ (l.getD i (0, 0)).1 ≠ 0 then 1 else 0) n
def gainedTo (l : List (Int × Int)) (n : Nat) : Int := sumTo (fun i => (if (filledL l).getD i false = true ∧ (l.getD i (0, 0)).1 = 0 then (l.getD i (0, 0)).2 else 0) + (if (filledL l).getD i false = true ∧ (l.getD i (0, 0)).1 ≠ 0 then -(l.getD i (0, 0)).2 else 0)) n

theorem sum_take (val : Int × Int → Int) (s : List (Int × Int)) : ∀ f, f ≤ s.length → ((s.take f).map val).sum = sumTo (fun t => val (s.getD t (0, 0))) f
  | 0, _ => by simp [sumTo]
  | f + 1, h => by
    rw [List.take_succ_eq_append_getElem (by omega), List.map_append, List.sum_append, sum_take val s f (by omega), sumTo, getD_lt (by omega)]
    simp
theorem sumTo_one : ∀ f : Nat, sumTo (fun _ => 1) f = (f : Int)
  | 0 => rfl
  | f + 1 => by rw [sumTo, sumTo_one f]; omega
theorem gain_sum (B S : List (Int × Int)) : ∀ f, f ≤ B.length → f ≤ S.length → gainF B S f = sumTo (fun t => (B.getD t (0, 0)).2) f - sumTo (fun t => (S.getD t (0, 0)).2) f
  | 0, _, _ => rfl
  | f + 1, h1, h2 => by
    rw [gainF, gain_sum B S f (by omega) (by omega), sumTo, sumTo, priceAt_lt (by omega), priceAt_lt (by omega), getD_lt (by omega), getD_lt (by omega)]
    omega
theorem sumTo_neg (h : Nat → Int) : ∀ n, sumTo (fun i => -h i) n = -sumTo h n
  | 0 => rfl
  | n + 1 => by rw [sumTo, sumTo, sumTo_neg h n]; omega

theorem bought_all (l : List (Int × Int)) : boughtTo l l.length = ((setL l).1 : Int) := by
  have hf := fills_le l
  unfold boughtTo
  rw [sumTo_congr l.length (h' := fun i => if hasPlace ((buyersOf l).take (setL l).1) i = true then 1 else 0) (fun i hi => by
    have := (filled_side l i hi).1
    by_cases h : (filledL l).getD i false = true ∧ (l.getD i (0, 0)).1 = 0
    · rw [if_pos h, if_pos (this.1 h)]
    · rw [if_neg h, if_neg (fun h' => h (this.2 h'))]),
    sumTo_places (fun _ => 1) l.length _ ((buyers_ne l).sublist (List.take_sublist _ _)) (fun x hx => by have := buyers_place l x (List.mem_of_mem_take hx); omega),
    sum_take (fun _ => 1) _ _ hf.1, sumTo_one]
theorem sold_all (l : List (Int × Int)) : soldTo l l.length = ((setL l).1 : Int) := by
  have hf := fills_le l
  unfold soldTo
  rw [sumTo_congr l.length (h' := fun i => if hasPlace ((sellersOf l).take (setL l).1) i = true then 1 else 0) (fun i hi => by
    have := (filled_side l i hi).2
    by_cases h : (filledL l).getD i false = true ∧ (l.getD i (0, 0)).1 ≠ 0
    · rw [if_pos h, if_pos (this.1 h)]
    · rw [if_neg h, if_neg (fun h' => h (this.2 h'))]),
    sumTo_places (fun _ => 1) l.length _ ((sellers_ne l).sublist (List.take_sublist _ _)) (fun x hx => by have := sellers_place l x (List.mem_of_mem_take hx); omega),
    sum_take (fun _ => 1) _ _ hf.2, sumTo_one]
theorem gained_all (l : List (Int × Int)) : gainedTo l l.length = gainedL l := by
  have hf := fills_le l
  unfold gainedTo gainedL
  rw [sumTo_add,
    sumTo_congr l.length (h := fun i => if (filledL l).getD i false = true ∧ (l.getD i (0, 0)).1 = 0 then (l.getD i (0, 0)).2 else 0) (h' := fun i => if hasPlace ((buyersOf l).take (setL l).1) i = true then (l.getD i (0, 0)).2 else 0) (fun i hi => by
      have := (filled_side l i hi).1
      by_cases h : (filledL l).getD i false = true ∧ (l.getD i (0, 0)).1 = 0
      · rw [if_pos h, if_pos (this.1 h)]
      · rw [if_neg h, if_neg (fun h' => h (this.2 h'))]),
    sumTo_congr l.length (h := fun i => if (filledL l).getD i false = true ∧ (l.getD i (0, 0)).1 ≠ 0 then -(l.getD i (0, 0)).2 else 0) (h' := fun i => if hasPlace ((sellersOf l).take (setL l).1) i = true then -(l.getD i (0, 0)).2 else 0) (fun i hi => by
      have := (filled_side l i hi).2
      by_cases h : (filledL l).getD i false = true ∧ (l.getD i (0, 0)).1 ≠ 0
      · rw [if_pos h, if_pos (this.1 h)]
      · rw [if_neg h, if_neg (fun h' => h (this.2 h'))]),
    sumTo_places (fun i => (l.getD i (0, 0)).2) l.length _ ((buyers_ne l).sublist (List.take_sublist _ _)) (fun x hx => by have := buyers_place l x (List.mem_of_mem_take hx); omega),
    sumTo_places (fun i => -(l.getD i (0, 0)).2) l.length _ ((sellers_ne l).sublist (List.take_sublist _ _)) (fun x hx => by have := sellers_place l x (List.mem_of_mem_take hx); omega),
    sum_take (fun x => (l.getD x.1.toNat (0, 0)).2) _ _ hf.1, sum_take (fun x => -(l.getD x.1.toNat (0, 0)).2) _ _ hf.2, sumTo_neg, gain_sum _ _ _ hf.1 hf.2]
  have e1 : sumTo (fun t => (l.getD ((buyersOf l).getD t (0, 0)).1.toNat (0, 0)).2) (setL l).1 = sumTo (fun t => ((buyersOf l).getD t (0, 0)).2) (setL l).1 := sumTo_congr _ fun t ht => by
    rw [getD_lt (show t < (buyersOf l).length by omega)]
    exact ((Clr.candTo_place 0 l l.length _ ((buyers_perm l).mem_iff.1 (List.getElem_mem _))).2.2.2.2.1).symm
  have e2 : sumTo (fun t => (l.getD ((sellersOf l).getD t (0, 0)).1.toNat (0, 0)).2) (setL l).1 = sumTo (fun t => ((sellersOf l).getD t (0, 0)).2) (setL l).1 := sumTo_congr _ fun t ht => by
    rw [getD_lt (show t < (sellersOf l).length by omega)]
    exact ((Clr.candTo_place 1 l l.length _ ((sellers_perm l).mem_iff.1 (List.getElem_mem _))).2.2.2.2.1).symm
  rw [e1, e2]; omega
#print axioms gained_all
end Go.Proofs.Ytjfifaooimgbaaa
/- Fairness: what each trader pays, nobody passed over, next to nothing lost. -/
namespace Go.Proofs.Ytjfifaooimgbaaa
open Go.Sort

theorem rightB_of {b : Int × Int} (h : b.1 = 0 ∨ b.1 = 1) (h1 : 1 ≤ b.2) (h2 : b.2 < 1000) : rightB b = true := by
  unfold rightB
  rw [decide_eq_true h1, decide_eq_true h2]
  rcases h with h | h <;> rw [h] <;> rfl
theorem okB_of {side : Int} {b : Int × Int} (h : b.1 = side) (h1 : 1 ≤ b.2) (h2 : b.2 < 1000) : Clr.okB side b = true := by
  unfold Clr.okB
  rw [decide_eq_true h1, decide_eq_true h2, h]; simp
theorem set_cases (l : List (Int × Int)) : ((setL l).1 = 0 ∧ (setL l).2.1 = 0 ∧ (setL l).2.2 = 0 ∧ kL l ≤ 1) ∨
    ((setL l).1 = kL l ∧ 1 ≤ kL l ∧ (setL l).2.1 = (setL l).2.2 ∧ (setL l).2.1 ≤ priceAt 0 (buyersOf l) (kL l - 1) ∧ priceAt 1000 (sellersOf l) (kL l - 1) ≤ (setL l).2.2) ∨
    ((setL l).1 = kL l - 1 ∧ 2 ≤ kL l ∧ (setL l).2.1 = priceAt 0 (buyersOf l) (kL l - 1) ∧ (setL l).2.2 = priceAt 1000 (sellersOf l) (kL l - 1)) := by
  unfold setL settleF
  by_cases h0 : kL l = 0
  · left; rw [if_pos h0]; exact ⟨rfl, rfl, rfl, by omega⟩
  · rw [if_neg h0]
    by_cases hc : priceAt 1000 (sellersOf l) (kL l - 1) ≤ midF (buyersOf l) (sellersOf l) (kL l) ∧ midF (buyersOf l) (sellersOf l) (kL l) ≤ priceAt 0 (buyersOf l) (kL l - 1)
    · right; left; rw [if_pos hc]; exact ⟨rfl, by omega, rfl, hc.2, hc.1⟩
    · rw [if_neg hc]
      by_cases h1 : kL l = 1
      · left; rw [if_pos h1]; exact ⟨rfl, rfl, rfl, by omega⟩
      · right; right; rw [if_neg h1]; exact ⟨rfl, by omega, rfl, rfl⟩

/-- nobody pays more, or gets less, than they said. -/
theorem filled_ok (l : List (Int × Int)) (i : Nat) (hi : i < l.length) (hf : (filledL l).getD i false = true) :
    rightB (l.getD i (0, 0)) = true ∧ ((l.getD i (0, 0)).1 = 0 → (setL l).2.1 ≤ (l.getD i (0, 0)).2) ∧ ((l.getD i (0, 0)).1 = 1 → (l.getD i (0, 0)).2 ≤ (setL l).2.2) := by
  have hle := fills_le l
  have sc := set_cases l
  obtain ⟨t, ht, h | h⟩ := (filledL_true l i hi).1 hf
  · have hok := buyer_ok l t (by omega)
    rw [h] at hok
    have hpr : (l.getD i (0, 0)).2 = priceAt 0 (buyersOf l) t := by
      rw [← h, priceAt_lt (by omega), getD_lt (show t < (buyersOf l).length by omega)]
      exact ((Clr.candTo_place 0 l l.length _ ((buyers_perm l).mem_iff.1 (List.getElem_mem _))).2.2.2.2.1).symm
    have hok' := hok
    simp only [Clr.okB, Bool.and_eq_true, beq_iff_eq, decide_eq_true_eq] at hok'
    refine ⟨rightB_of (Or.inl hok'.1) hok'.2.1 hok'.2.2, fun _ => ?_, fun hs => by omega⟩
    rw [hpr]
    have hm := buyers_mono l t (kL l - 1) (by omega)
    rcases sc with sc | sc | sc <;> omega
  · have hok := seller_ok l t (by omega)
    rw [h] at hok
    have hpr : (l.getD i (0, 0)).2 = priceAt 1000 (sellersOf l) t := by
      rw [← h, priceAt_lt (by omega), getD_lt (show t < (sellersOf l).length by omega)]
      exact ((Clr.candTo_place 1 l l.length _ ((sellers_perm l).mem_iff.1 (List.getElem_mem _))).2.2.2.2.1).symm
    have hok' := hok
    simp only [Clr.okB, Bool.and_eq_true, beq_iff_eq, decide_eq_true_eq] at hok'
    refine ⟨rightB_of (Or.inr hok'.1) hok'.2.1 hok'.2.2, fun hs => by omega, fun _ => ?_⟩
    rw [hpr]
    have hm := sellers_mono l t (kL l - 1) (by omega)
    rcases sc with sc | sc | sc <;> omega

/-- an order that may be stands in its line. -/
theorem in_buyers (l : List (Int × Int)) (i : Nat) (hi : i < l.length) (h : Clr.okB 0 (l.getD i (0, 0)) = true) : ∃ t, ∃ ht : t < (buyersOf l).length, (buyersOf l)[t] = ((i : Int), (l.getD i (0, 0)).2) := by
  have key : ∀ k, i < k → ((i : Int), (l.getD i (0, 0)).2) ∈ Clr.candTo 0 l k := by
    intro k
    induction k with
    | zero => intro hk; omega
    | succ k ih =>
      intro hk
      by_cases e : i = k
      · subst e; rw [Clr.candTo_hit h]; exact List.mem_append_right _ List.mem_cons_self
      · have := ih (by omega)
        rw [Clr.candTo]; split
        · exact List.mem_append_left _ this
        · exact this
  obtain ⟨t, ht, e⟩ := List.getElem_of_mem ((buyers_perm l).mem_iff.2 (key l.length hi))
  exact ⟨t, ht, e⟩
theorem in_sellers (l : List (Int × Int)) (i : Nat) (hi : i < l.length) (h : Clr.okB 1 (l.getD i (0, 0)) = true) : ∃ t, ∃ ht : t < (sellersOf l).length, (sellersOf l)[t] = ((i : Int), (l.getD i (0, 0)).2) := by
  have key : ∀ k, i < k → ((i : Int), (l.getD i (0, 0)).2) ∈ Clr.candTo 1 l k := by
    intro k
    induction k with
    | zero => intro hk; omega
    | succ k ih =>
      intro hk
      by_cases e : i = k
      · subst e; rw [Clr.candTo_hit h]; exact List.mem_append_right _ List.mem_cons_self
      · have := ih (by omega)
        rw [Clr.candTo]; split
        · exact List.mem_append_left _ this
        · exact this
  obtain ⟨t, ht, e⟩ := List.getElem_of_mem ((sellers_perm l).mem_iff.2 (key l.length hi))
  exact ⟨t, ht, e⟩

theorem not_passed (l : List (Int × Int)) (i k : Nat) (hi : i < l.length) (hk : k < l.length) : ¬ passed l (filledL l) i k := by
  rintro ⟨hr, hfi, hfk, hs, hw⟩
  have hle := fills_le l
  simp only [rightB, Bool.and_eq_true, Bool.or_eq_true, beq_iff_eq, decide_eq_true_eq] at hr
  obtain ⟨⟨hside, hp1⟩, hp2⟩ := hr
  rcases hside with h0 | h1
  · obtain ⟨t, ht, et⟩ := in_buyers l i hi (okB_of h0 hp1 hp2)
    have htf : ¬ t < (setL l).1 := fun h => by
      have := (filledL_true l i hi).2 ⟨t, h, Or.inl (by rw [getD_lt ht, et]; simp)⟩
      rw [this] at hfi; cases hfi
    obtain ⟨u, hu, h | h⟩ := (filledL_true l k hk).1 hfk
    · rw [getD_lt (show u < (buyersOf l).length by omega)] at h
      have hsrt := (bLt_no _ _).1 (List.pairwise_iff_getElem.1 (buyers_sorted l) u t (by omega) ht (by omega))
      have hpl := buyers_place l _ (List.getElem_mem (show u < (buyersOf l).length by omega))
      have hpu := (Clr.candTo_place 0 l l.length _ ((buyers_perm l).mem_iff.1 (List.getElem_mem (show u < (buyersOf l).length by omega)))).2.2.2.2.1
      rw [h] at hpu
      rw [et] at hsrt
      simp only [] at hsrt
      omega
    · have := seller_ok l u (by omega); rw [h] at this
      have := okB_side this rfl
      omega
  · obtain ⟨t, ht, et⟩ := in_sellers l i hi (okB_of h1 hp1 hp2)
    have htf : ¬ t < (setL l).1 := fun h => by
      have := (filledL_true l i hi).2 ⟨t, h, Or.inr (by rw [getD_lt ht, et]; simp)⟩
      rw [this] at hfi; cases hfi
    obtain ⟨u, hu, h | h⟩ := (filledL_true l k hk).1 hfk
    · have := buyer_ok l u (by omega); rw [h] at this
      have := okB_side this rfl
      omega
    · rw [getD_lt (show u < (sellersOf l).length by omega)] at h
      have hsrt := (sLt_no _ _).1 (List.pairwise_iff_getElem.1 (sellers_sorted l) u t (by omega) ht (by omega))
      have hpl := sellers_place l _ (List.getElem_mem (show u < (sellersOf l).length by omega))
      have hpu := (Clr.candTo_place 1 l l.length _ ((sellers_perm l).mem_iff.1 (List.getElem_mem (show u < (sellersOf l).length by omega)))).2.2.2.2.1
      rw [h] at hpu
      rw [et] at hsrt
      simp only [] at hsrt
      omega

theorem pay_get (l : List (Int × Int)) : (setL l).2.2 ≤ (setL l).2.1 := by
  rcases set_cases l with h | h | h
  · omega
  · omega
  · have := (kL_is l).yes (kL l - 1) (by omega)
    omega
theorem fills_bd (l : List (Int × Int)) : (setL l).1 ≤ kL l ∧ kL l ≤ (setL l).1 + 1 := by
  rcases set_cases l with h | h | h <;> omega

theorem gain_each (l : List (Int × Int)) (k : Nat) : ∀ n, n ≤ k → (n : Int) * (priceAt 0 (buyersOf l) k - priceAt 1000 (sellersOf l) k) ≤ gainF (buyersOf l) (sellersOf l) n
  | 0, _ => by simp [gainF]
  | n + 1, h => by
    have ih := gain_each l k n (by omega)
    have h1 := buyers_mono l n k (by omega)
    have h2 := sellers_mono l n k (by omega)
    rw [gainF, show ((n + 1 : Nat) : Int) = (n : Int) + 1 by omega, Int.add_mul]
    omega
theorem little_lost (l : List (Int × Int)) : ((kL l : Int) - 1) * canL l ≤ (kL l : Int) * gainedL l := by
  have hb := gain_bd l
  have e : (kL l : Int) * gainedL l = ((kL l : Int) - 1) * gainedL l + gainedL l := by rw [Int.sub_mul]; omega
  rcases set_cases l with h | h | h
  · -- at most one pair
    have hg : gainedL l = 0 := by unfold gainedL; rw [h.1]; rfl
    by_cases h0 : kL l = 0
    · have hc : canL l = 0 := by unfold canL; rw [h0]; rfl
      rw [hg, hc]; simp
    · rw [hg, show (kL l : Int) - 1 = 0 by omega]; simp
  · have : gainedL l = canL l := by unfold gainedL canL; rw [h.1]
    rw [e, this]; omega
  · obtain ⟨n, hn⟩ : ∃ n, kL l = n + 1 := ⟨kL l - 1, by omega⟩
    have hg : gainedL l = gainF (buyersOf l) (sellersOf l) n := by unfold gainedL; rw [h.1, hn]; rfl
    have hc : canL l = gainF (buyersOf l) (sellersOf l) n + (priceAt 0 (buyersOf l) n - priceAt 1000 (sellersOf l) n) := by unfold canL; rw [hn]; rfl
    have he := gain_each l n n (Nat.le_refl _)
    rw [e, hc, hg, show (kL l : Int) - 1 = (n : Int) by omega, Int.mul_add]
    omega

theorem share_says (l : List (Int × Int)) (hl : l.length ≤ 8796093022208) : (shareL l = 4607182418800017408 ↔ gainedL l = canL l) ∧ (shareL l = 0 ↔ (gainedL l = 0 ∧ 0 < canL l)) ∧ shareL l ≤ 4607182418800017408 := by
  have hb := gain_bd l
  unfold shareL shareB
  by_cases h0 : canL l = 0
  · rw [if_pos h0]; refine ⟨⟨fun _ => by omega, fun _ => rfl⟩, ⟨fun h => absurd h (by decide), fun h => by omega⟩, Nat.le_refl _⟩
  · rw [if_neg h0]
    obtain ⟨a, ha⟩ := Int.eq_ofNat_of_zero_le hb.1
    obtain ⟨b, hbb⟩ := Int.eq_ofNat_of_zero_le (show 0 ≤ canL l by omega)
    rw [ha, hbb] at hb ⊢
    rw [hbb] at h0
    by_cases ha0 : a = 0
    · subst ha0
      have := Flt.div_zero b (by omega) (by omega)
      rw [show ((0 : Nat) : Int) = 0 from rfl, this]
      refine ⟨⟨fun h => absurd h (by decide), fun h => by omega⟩, ⟨fun _ => ⟨rfl, by omega⟩, fun _ => rfl⟩, by decide⟩
    · by_cases hab : a = b
      · subst hab
        rw [Flt.share_eq a (by omega) (by omega)]
        exact ⟨⟨fun _ => rfl, fun _ => rfl⟩, ⟨fun h => absurd h (by decide), fun h => by omega⟩, Nat.le_refl _⟩
      · obtain ⟨r, hr, h1, h2⟩ := Flt.share_lt a b (by omega) (by omega) (by omega)
        rw [hr]
        show ((r = _) ↔ _) ∧ ((r = 0) ↔ _) ∧ r ≤ _
        exact ⟨⟨fun h => by omega, fun h => by omega⟩, ⟨fun h => by omega, fun h => by omega⟩, by omega⟩
#print axioms share_says
#print axioms little_lost
#print axioms not_passed
end Go.Proofs.Ytjfifaooimgbaaa
