/- What a clearing comes to, as a plain function of the orders. -/
import Derived.Test.YtjfifaooimgbaaaMark
import Derived.Test.YtjfifaooimgbaaaFlt
namespace Go.Proofs.Ytjfifaooimgbaaa
open Go.Shelf Go.RowKit Go.Lib Go.Sort

def bLt (x y : Int × Int) : Bool := decide (y.2 < x.2 ∨ (x.2 = y.2 ∧ x.1 < y.1))
def sLt (x y : Int × Int) : Bool := decide (x.2 < y.2 ∨ (x.2 = y.2 ∧ x.1 < y.1))
def buyersOf (l : List (Int × Int)) : List (Int × Int) := (Clr.cand 0 l).mergeSort (fun x y => !bLt y x)
def sellersOf (l : List (Int × Int)) : List (Int × Int) := (Clr.cand 1 l).mergeSort (fun x y => !sLt y x)

theorem bLt_iff (x y : Int × Int) : bLt x y = true ↔ (y.2 < x.2 ∨ (x.2 = y.2 ∧ x.1 < y.1)) := decide_eq_true_iff
theorem bLt_no (x y : Int × Int) : bLt x y = false ↔ ¬ (y.2 < x.2 ∨ (x.2 = y.2 ∧ x.1 < y.1)) := decide_eq_false_iff_not
theorem sLt_iff (x y : Int × Int) : sLt x y = true ↔ (x.2 < y.2 ∨ (x.2 = y.2 ∧ x.1 < y.1)) := decide_eq_true_iff
theorem sLt_no (x y : Int × Int) : sLt x y = false ↔ ¬ (x.2 < y.2 ∨ (x.2 = y.2 ∧ x.1 < y.1)) := decide_eq_false_iff_not
theorem swo_bLt : SWO bLt where
  irrefl x := (bLt_no x x).2 (by omega)
  trans x y z h1 h2 := (bLt_iff x z).2 (by have := (bLt_iff x y).1 h1; have := (bLt_iff y z).1 h2; omega)
  ntrans x y z h1 h2 := (bLt_no x z).2 (by have := (bLt_no x y).1 h1; have := (bLt_no y z).1 h2; omega)
theorem swo_sLt : SWO sLt where
  irrefl x := (sLt_no x x).2 (by omega)
  trans x y z h1 h2 := (sLt_iff x z).2 (by have := (sLt_iff x y).1 h1; have := (sLt_iff y z).1 h2; omega)
  ntrans x y z h1 h2 := (sLt_no x z).2 (by have := (sLt_no x y).1 h1; have := (sLt_no y z).1 h2; omega)

theorem toList_size (s : List (Int × Int)) : s.toArray.size = s.length := by simp
theorem buyers_eq {l s : List (Int × Int)} (h : Stab.Post (ltOf (cfO fun x y => cmpI y x)) (fun x : Int × Int => x.1) 0 (Clr.cand 0 l).length (Clr.cand 0 l).toArray s.toArray) : s = buyersOf l := by
  have hs : SortedIn bLt 0 (Clr.cand 0 l).toArray.size s.toArray := fun i j h1 h2 h3 => by
    have := h.sort i j h1 h2 (by simpa using h3)
    unfold Stab.Ls at this
    rw [ltOf_buy, ltOf_buy, decide_eq_true_eq, decide_eq_false_iff_not] at this
    simp only [] at this
    exact (bLt_no _ _).2 (by omega)
  have := sorted_unique_holds (lt := bLt) swo_bLt (fun x y h1 h2 => Prod.ext (by have := (bLt_no x y).1 h1; have := (bLt_no y x).1 h2; omega) (by have := (bLt_no x y).1 h1; have := (bLt_no y x).1 h2; omega)) (Clr.cand 0 l).toArray s.toArray (by rw [toList_size]; exact h.perm) hs
  simpa [buyersOf] using this
theorem sellers_eq {l s : List (Int × Int)} (h : Stab.Post (ltOf (cfO cmpI)) (fun x : Int × Int => x.1) 0 (Clr.cand 1 l).length (Clr.cand 1 l).toArray s.toArray) : s = sellersOf l := by
  have hs : SortedIn sLt 0 (Clr.cand 1 l).toArray.size s.toArray := fun i j h1 h2 h3 => by
    have := h.sort i j h1 h2 (by simpa using h3)
    unfold Stab.Ls at this
    rw [ltOf_sell, ltOf_sell, decide_eq_true_eq, decide_eq_false_iff_not] at this
    simp only [] at this
    exact (sLt_no _ _).2 (by omega)
  have := sorted_unique_holds (lt := sLt) swo_sLt (fun x y h1 h2 => Prod.ext (by have := (sLt_no x y).1 h1; have := (sLt_no y x).1 h2; omega) (by have := (sLt_no x y).1 h1; have := (sLt_no y x).1 h2; omega)) (Clr.cand 1 l).toArray s.toArray (by rw [toList_size]; exact h.perm) hs
  simpa [sellersOf] using this

theorem buyers_perm (l : List (Int × Int)) : (buyersOf l).Perm (Clr.cand 0 l) := List.mergeSort_perm _ _
theorem sellers_perm (l : List (Int × Int)) : (sellersOf l).Perm (Clr.cand 1 l) := List.mergeSort_perm _ _
theorem buyers_priced (l : List (Int × Int)) : Priced (buyersOf l) := fun x hx => by
  have := Clr.candTo_place 0 l l.length x ((buyers_perm l).mem_iff.1 hx)
  exact ⟨this.2.2.1, this.2.2.2.1⟩
theorem sellers_priced (l : List (Int × Int)) : Priced (sellersOf l) := fun x hx => by
  have := Clr.candTo_place 1 l l.length x ((sellers_perm l).mem_iff.1 hx)
  exact ⟨this.2.2.1, this.2.2.2.1⟩
theorem buyers_place (l : List (Int × Int)) : ∀ x ∈ buyersOf l, 0 ≤ x.1 ∧ x.1 < (l.length : Int) := fun x hx => by
  have := Clr.candTo_place 0 l l.length x ((buyers_perm l).mem_iff.1 hx)
  exact ⟨this.1, this.2.1⟩
theorem sellers_place (l : List (Int × Int)) : ∀ x ∈ sellersOf l, 0 ≤ x.1 ∧ x.1 < (l.length : Int) := fun x hx => by
  have := Clr.candTo_place 1 l l.length x ((sellers_perm l).mem_iff.1 hx)
  exact ⟨this.1, this.2.1⟩
theorem buyers_le (l : List (Int × Int)) : (buyersOf l).length ≤ l.length := by rw [(buyers_perm l).length_eq]; exact Clr.candTo_le 0 l l.length
theorem sellers_le (l : List (Int × Int)) : (sellersOf l).length ≤ l.length := by rw [(sellers_perm l).length_eq]; exact Clr.candTo_le 1 l l.length

def kFrom (B S : List (Int × Int)) : Nat → Nat → Nat
  | 0, k => k
  | f + 1, k => if priceAt 1000 S k ≤ priceAt 0 B k then kFrom B S f (k + 1) else k
def kOf (B S : List (Int × Int)) : Nat := kFrom B S (B.length + 1) 0

theorem kFrom_is {B S : List (Int × Int)} (hB : Priced B) (hS : Priced S) : ∀ (f k : Nat), B.length + 1 ≤ k + f → (∀ i, i < k → priceAt 1000 S i ≤ priceAt 0 B i) → IsK B S (kFrom B S f k)
  | 0, k, h, hy => by
    have := (pair_in hB hS (hy (k - 1) (by omega))).1
    omega
  | f + 1, k, h, hy => by
    rw [kFrom]
    split
    · rename_i hc
      exact kFrom_is hB hS f (k + 1) (by omega) (fun i hi => by
        by_cases e : i = k
        · rw [e]; exact hc
        · exact hy i (by omega))
    · rename_i hc
      exact ⟨hy, by omega⟩
theorem kOf_is {B S : List (Int × Int)} (hB : Priced B) (hS : Priced S) : IsK B S (kOf B S) := kFrom_is hB hS _ _ (by omega) (fun i hi => by omega)
theorem IsK.unique {B S : List (Int × Int)} {k k' : Nat} (h : IsK B S k) (h' : IsK B S k') : k = k' := by
  rcases Nat.lt_trichotomy k k' with hl | he | hg
  · have := h'.yes k hl; have := h.no; omega
  · exact he
  · have := h.yes k' hg; have := h'.no; omega
theorem kOf_le {B S : List (Int × Int)} (hB : Priced B) (hS : Priced S) : kOf B S ≤ B.length ∧ kOf B S ≤ S.length := by
  have h := kOf_is hB hS
  by_cases h0 : kOf B S = 0
  · rw [h0]; omega
  · have := pair_in hB hS (h.yes (kOf B S - 1) (by omega)); omega
theorem settle_le (B S : List (Int × Int)) (k : Nat) : (settleF B S k).1 ≤ k := by
  unfold settleF
  split
  · omega
  · split
    · exact Nat.le_refl _
    · split
      · exact Nat.zero_le _
      · exact Nat.sub_le _ _

def kL (l : List (Int × Int)) : Nat := kOf (buyersOf l) (sellersOf l)
def setL (l : List (Int × Int)) : Nat × Int × Int := settleF (buyersOf l) (sellersOf l) (kL l)
def filledL (l : List (Int × Int)) : List Bool := markF (sellersOf l) (markF (buyersOf l) (List.replicate l.length false) (setL l).1) (setL l).1
def gainedL (l : List (Int × Int)) : Int := gainF (buyersOf l) (sellersOf l) (setL l).1
def canL (l : List (Int × Int)) : Int := gainF (buyersOf l) (sellersOf l) (kL l)
def shareL (l : List (Int × Int)) : Nat := shareB (gainedL l) (canL l)
theorem filledL_length (l : List (Int × Int)) : (filledL l).length = l.length := by
  unfold filledL; rw [markF_length, markF_length, List.length_replicate]
theorem setL_le (l : List (Int × Int)) : (setL l).1 ≤ kL l := settle_le _ _ _

theorem gainF_nonneg {B S : List (Int × Int)} {k : Nat} (h : ∀ i, i < k → priceAt 1000 S i ≤ priceAt 0 B i) : ∀ n, n ≤ k → 0 ≤ gainF B S n
  | 0, _ => by simp [gainF]
  | n + 1, hn => by
    have := gainF_nonneg h n (by omega)
    have := h n (by omega)
    rw [gainF]; omega
theorem gainF_mono {B S : List (Int × Int)} {k : Nat} (h : ∀ i, i < k → priceAt 1000 S i ≤ priceAt 0 B i) (n : Nat) : ∀ m, n ≤ m → m ≤ k → gainF B S n ≤ gainF B S m
  | 0, hn, _ => by rw [show n = 0 by omega]; omega
  | m + 1, hn, hm => by
    by_cases e : n = m + 1
    · rw [e]; omega
    · have := gainF_mono h n m (by omega) (by omega)
      have := h m (by omega)
      rw [gainF]; omega
theorem kL_is (l : List (Int × Int)) : IsK (buyersOf l) (sellersOf l) (kL l) := kOf_is (buyers_priced l) (sellers_priced l)
theorem kL_le (l : List (Int × Int)) : kL l ≤ (buyersOf l).length ∧ kL l ≤ (sellersOf l).length := kOf_le (buyers_priced l) (sellers_priced l)
theorem gain_bd (l : List (Int × Int)) : 0 ≤ gainedL l ∧ gainedL l ≤ canL l ∧ canL l ≤ 1000 * (l.length : Int) := by
  have h := (kL_is l).yes
  have h1 := setL_le l
  have h2 := (gainF_bd (buyers_priced l) (sellers_priced l) (kL l)).2
  have h3 := (kL_le l).1
  have h4 := buyers_le l
  exact ⟨gainF_nonneg h _ h1, gainF_mono h _ _ h1 (Nat.le_refl _), by unfold canL; omega⟩
theorem div_some (a b : Int) (h0 : 0 ≤ a) (h1 : a < 9007199254740992) (h2 : 0 < b) (h3 : b < 9007199254740992) : ∃ r, Ieee.double.div (floatOfInt .f64 a) (floatOfInt .f64 b) = some r := by
  obtain ⟨n, rfl⟩ := Int.eq_ofNat_of_zero_le h0
  obtain ⟨m, rfl⟩ := Int.eq_ofNat_of_zero_le (show 0 ≤ b by omega)
  by_cases e : n = 0
  · subst e; exact ⟨_, Flt.div_zero m (by omega) (by omega)⟩
  · exact ⟨_, Flt.div_whole n m (by omega) (by omega) (by omega) (by omega)⟩
theorem share_some (l : List (Int × Int)) (hl : l.length ≤ 8796093022208) : ∃ r, canL l ≠ 0 → Ieee.double.div (floatOfInt .f64 (gainedL l)) (floatOfInt .f64 (canL l)) = some r := by
  have h := gain_bd l
  by_cases e : canL l = 0
  · exact ⟨0, fun h => absurd e h⟩
  · obtain ⟨r, hr⟩ := div_some (gainedL l) (canL l) h.1 (by omega) (by omega) (by omega)
    exact ⟨r, fun _ => hr⟩
end Go.Proofs.Ytjfifaooimgbaaa
