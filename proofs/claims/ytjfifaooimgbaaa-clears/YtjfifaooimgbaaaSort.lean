/- The stable sort called on a row of one's own. -/
import Derived.Test.YtjfifaooimgbaaaLine0
namespace Go.Proofs.Ytjfifaooimgbaaa
open Go.Shelf Go.RowKit Go.Lib Go.Sort

theorem flatO_get : ∀ (s : List (Int × Int)) (j : Nat), j < s.length * 2 → (flatO s)[j]? = some ((encO (s.getD (j / 2) default))[j % 2]!)
  | [], j, h => by simp at h
  | x :: r, 0, _ => by simp [flatO, encO]
  | x :: r, 1, _ => by simp [flatO, encO]
  | x :: r, j + 2, h => by
    have ih := flatO_get r j (by simp at h; omega)
    have e1 : (j + 2) / 2 = j / 2 + 1 := by omega
    have e2 : (j + 2) % 2 = j % 2 := by omega
    rw [e1, e2, List.getD_cons_succ, ← ih]
    simp [flatO, encO]

theorem getD_eq_get (s : List (Int × Int)) (j : Nat) : s.toArray[j]! = s.getD j default := by
  simp [getElem!_def, List.getD_eq_getElem?_getD]
  cases h : s[j]? <;> simp

theorem holdsO_of_block {w : World} {g : Nat} {cur : Array Value} {e : TypeId} {s : List (Int × Int)} (hb : w.heap[g]? = some (.cells cur e (0, 0))) (ht : cur.toList.take (s.length * 2) = flatO s) : HoldsK encO 2 w g 0 s.toArray := by
  intro j hj
  have hj' : j < s.length * 2 := by simpa using hj
  refine ⟨?_, by simp [World.frozen?, hb]⟩
  have h1 : (cur.toList.take (s.length * 2))[j]? = (flatO s)[j]? := by rw [ht]
  rw [List.getElem?_take_of_lt hj', flatO_get s j hj'] at h1
  simp only [World.cell?, hb, Nat.zero_add]
  simp only [Option.isSome_none, Bool.false_eq_true, if_false]
  rw [← Array.getElem?_toList, h1, get_flatK encO 2 s.toArray j (by simpa using hj'), getD_eq_get]
  rfl

/-- the slice v holds s in w. -/
def LineAt (w : World) (v : Value) (s : List (Int × Int)) : Prop := ∃ a cap, v = .slice a s.length cap ∧ s.length ≤ cap ∧ BidsAt w a s

theorem BidsAt.below {w w' : World} {a : Option Addr} {s : List (Int × Int)} (h : BidsAt w a s) {B : Nat} (hb : Below B w w') (hlt : ∀ b o, a = some ⟨b, o, none⟩ → b < B) : BidsAt w' a s := fun i hi => by
  obtain ⟨b, o, ha, h1, h2, h3⟩ := h i hi
  exact ⟨b, o, ha, Nat.lt_of_lt_of_le h1 hb.size, (hb.cell (p := ⟨b, o + i * 2, none⟩) (hlt b o ha)).trans h2, (hb.cell (p := ⟨b, o + i * 2 + 1, none⟩) (hlt b o ha)).trans h3⟩

theorem BidsAt.setCell {w : World} {a : Option Addr} {s : List (Int × Int)} (h : BidsAt w a s) (p : Addr) (u : Value) (hne : ∀ b o, a = some ⟨b, o, none⟩ → b ≠ p.block) : BidsAt (w.setCell p u) a s := fun i hi => by
  obtain ⟨b, o, ha, h1, h2, h3⟩ := h i hi
  have e : (w.setCell p u).heap[b]? = w.heap[b]? := Below.heap_setCell w p u b (hne b o ha)
  exact ⟨b, o, ha, by simpa [World.setCell] using h1, (World.cell?_of_block (a := ⟨b, o + i * 2, none⟩) e).trans h2, (World.cell?_of_block (a := ⟨b, o + i * 2 + 1, none⟩) e).trans h3⟩

theorem below_sortWorldK (w : World) (g m : Nat) (dk : Array (Int × Int)) (os : Array Obj) (B : Nat) (hB : B ≤ g) (hB2 : B ≤ w.heap.size) : Below B w (sortWorldK encO 2 w g 0 m dk os) := by
  refine ⟨rfl, rfl, rfl, size_sortWorldK_c encO 2 w g 0 m dk os, fun k hk => ?_⟩
  unfold sortWorldK
  rw [heap_grow_old _ _ (by rw [size_putRowK]; show k < w.heap.size; omega)]
  have : g ≠ k := by omega
  simp [putRowK, putRow, mapBlock, Sort.ahead, Array.getElem?_modify, this]

theorem below_grow (w : World) (q : Nat) (os : Array Obj) : Below w.heap.size w (grow (w.drewN q) os) :=
  ⟨rfl, rfl, rfl, by rw [size_grow]; show w.heap.size ≤ w.heap.size + _; omega, fun k hk => by rw [heap_grow_old _ _ (by show k < w.heap.size; exact hk)]; rfl⟩

/-- the two orders that are met. -/
def cfO (c : Int → Int → Int) (x y : Int × Int) : Int := c x.2 y.2
theorem cmpI_neg (x y : Int) : cmpI x y < 0 ↔ x < y := by
  unfold cmpI
  by_cases h : x < y
  · rw [if_pos h]; omega
  · rw [if_neg h]
    by_cases h2 : y < x
    · rw [if_pos h2]; omega
    · rw [if_neg h2]; omega
theorem ltOf_sell (x y : Int × Int) : ltOf (cfO cmpI) x y = decide (x.2 < y.2) := decide_eq_decide.2 (cmpI_neg x.2 y.2)
theorem ltOf_buy (x y : Int × Int) : ltOf (cfO fun x y => cmpI y x) x y = decide (y.2 < x.2) := decide_eq_decide.2 (cmpI_neg y.2 x.2)
theorem swo_cmpI : SWO (ltOf (cfO cmpI)) where
  irrefl x := by rw [ltOf_sell]; exact decide_eq_false (by omega)
  trans x y z := by rw [ltOf_sell, ltOf_sell, ltOf_sell]; intro h1 h2; exact decide_eq_true (by have := of_decide_eq_true h1; have := of_decide_eq_true h2; omega)
  ntrans x y z := by rw [ltOf_sell, ltOf_sell, ltOf_sell]; intro h1 h2; exact decide_eq_false (by have := of_decide_eq_false h1; have := of_decide_eq_false h2; omega)
theorem swo_cmpI' : SWO (ltOf (cfO fun x y => cmpI y x)) where
  irrefl x := by rw [ltOf_buy]; exact decide_eq_false (by omega)
  trans x y z := by rw [ltOf_buy, ltOf_buy, ltOf_buy]; intro h1 h2; exact decide_eq_true (by have := of_decide_eq_true h1; have := of_decide_eq_true h2; omega)
  ntrans x y z := by rw [ltOf_buy, ltOf_buy, ltOf_buy]; intro h1 h2; exact decide_eq_false (by have := of_decide_eq_false h1; have := of_decide_eq_false h2; omega)

theorem sort_call (g : Nat) (c : Int → Int → Int) (hb : BetterAt g c) (hO : SWO (ltOf (cfO c))) (s : List (Int × Int)) (v : Value) (base B : Nat) (w : World)
    (own : w.ownsRow base 139 2 v s.length (flatO s)) (hB : B < base) (hB2 : base ≤ w.heap.size) (hc : w.cell? ⟨B, 0, none⟩ = some (.func (.func g) #[] #[])) (ht : s.Pairwise (fun x y => x.1 < y.1)) (hl : s.length ≤ 8796093022208) :
    Calls Try.prog 72 #[v, .func (.func 73) #[] #[.pointer (some ⟨B, 0, none⟩)]] w fun e w' => e = .returned (.tuple #[]) ∧ ∃ s', s'.length = s.length ∧ Stab.Post (ltOf (cfO c)) (fun x : Int × Int => x.1) 0 s.length s.toArray s'.toArray ∧ LineAt w' v s' ∧ Below base w w' := by
  rcases own.2 with ⟨hv, hn⟩ | ⟨gb, cap, cur, hv, hbase, hblk, h1, h2, h3, h4⟩
  · subst hv
    have hs : s = [] := List.length_eq_zero_iff.1 hn
    subst hs
    refine (sortNone_any _ w).mono ?_
    rintro e w' ⟨rfl, q, os, rfl⟩
    exact ⟨rfl, [], rfl, ⟨permIn_refl _ _ _, fun i j _ _ h => by simp at h⟩, ⟨none, 0, rfl, Nat.le_refl _, fun i hi => by simp at hi⟩, (below_grow w q os).mono hB2⟩
  · subst hv
    have hgl : gb < w.heap.size := (Array.getElem?_eq_some_iff.1 hblk).1
    have hH : HoldsK encO 2 w gb 0 s.toArray := holdsO_of_block hblk h4
    have R : RowK encO 2 w gb 0 s.toArray := ⟨fun _ => rfl, fun x v hv => by simp [encO] at hv; rcases hv with rfl | rfl <;> rfl, hH, hgl⟩
    have hcmp : CmpLays Try.prog 73 #[.pointer (some ⟨B, 0, none⟩)] encO 2 (cfO c) gb 0 s.toArray.size w := cmpLays_of g c hb B gb 0 _ w (by omega) (by omega) hc
    have hcon := sortStable_any (P := Try.prog) Try.func72 stLays encO (cfO c) (fun x : Int × Int => x.1) hO 73 #[.pointer (some ⟨B, 0, none⟩)] gb 0 cap s.toArray w e35 hcmp R w (SWK.start hH)
      (fun x y hxy hy => by
        have hy' : y < s.length := by simpa using hy
        rw [getElem!_pos _ x (by simpa using (by omega : x < s.length)), getElem!_pos _ y hy]
        exact List.pairwise_iff_getElem.1 ht x y (by omega) hy' hxy) (by simp; omega)
    rw [show s.toArray.size = s.length by simp] at hcon
    refine hcon.mono ?_
    rintro e w' ⟨rfl, d', S, P⟩
    have hz : d'.size = s.length := by have := P.perm.1; simpa using this
    have hHd := S.holds hgl hH (by simpa using hz)
    obtain ⟨m, os, rfl⟩ := S
    refine ⟨rfl, d'.toList, by simpa using hz, P, ⟨some ⟨gb, 0, none⟩, cap, by simp [hz], by simp [hz]; exact h1, fun i hi => ?_⟩, below_sortWorldK w gb m d' os base hbase hB2⟩
    have hi' : i < d'.size := by simpa using hi
    refine ⟨gb, 0, rfl, Nat.lt_of_lt_of_le hgl (size_sortWorldK_c encO 2 w gb 0 m d' os), ?_, ?_⟩
    · have := (hHd.cell hi' (show 0 < 2 by omega)).1
      rw [Nat.add_zero] at this
      rw [this]
      simp [encO, List.getD_eq_getElem?_getD, hi']
    · have := (hHd.cell hi' (show 1 < 2 by omega)).1
      rw [this]
      simp [encO, List.getD_eq_getElem?_getD, hi']
#print axioms sort_call
end Go.Proofs.Ytjfifaooimgbaaa
