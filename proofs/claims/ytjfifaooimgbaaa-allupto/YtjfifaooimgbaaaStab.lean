import Derived.Sort.LotA
/- Plain mathematics of the stable sort (insertion in blocks, symmetric merge): no program in this text. -/
namespace Go.Proofs.Ytjfifaooimgbaaa.Stab
open Go.Sort

/-- ahead of: better, or as good and came sooner. -/
def Ls {α : Type} (lt : α → α → Bool) (tag : α → Int) (x y : α) : Prop := lt x y = true ∨ (lt y x = false ∧ tag x < tag y)

section
variable {α : Type} {lt : α → α → Bool} {tag : α → Int}

theorem Ls.trans (hS : SWO lt) {x y z : α} (h1 : Ls lt tag x y) (h2 : Ls lt tag y z) : Ls lt tag x z := by
  rcases h1 with h1 | ⟨h1, t1⟩
  · rcases h2 with h2 | ⟨h2, t2⟩
    · exact Or.inl (hS.trans x y z h1 h2)
    · left
      cases h : lt x z with
      | true => rfl
      | false => have := hS.ntrans x z y h h2; rw [this] at h1; cases h1
  · rcases h2 with h2 | ⟨h2, t2⟩
    · left
      cases h : lt x z with
      | true => rfl
      | false => have := hS.ntrans y x z h1 h; rw [this] at h2; cases h2
    · exact Or.inr ⟨hS.ntrans z y x h2 h1, by omega⟩

theorem Ls.irrefl (hS : SWO lt) {x : α} (h : Ls lt tag x x) : False := by
  rcases h with h | ⟨_, h⟩
  · rw [hS.irrefl] at h; cases h
  · omega

theorem Ls.le_lt (hS : SWO lt) {x y z : α} (h1 : x = y ∨ Ls lt tag x y) (h2 : Ls lt tag y z) : Ls lt tag x z := by
  rcases h1 with rfl | h1
  · exact h2
  · exact h1.trans hS h2
theorem Ls.lt_le (hS : SWO lt) {x y z : α} (h1 : Ls lt tag x y) (h2 : y = z ∨ Ls lt tag y z) : Ls lt tag x z := by
  rcases h2 with rfl | h2
  · exact h1
  · exact h1.trans hS h2

end

section
variable {α : Type} [Inhabited α] (lt : α → α → Bool) (tag : α → Int)
/-- [a, b) stands in order. -/
def SortL (a b : Nat) (d : Array α) : Prop := ∀ i j, a ≤ i → i < j → j < b → Ls lt tag d[i]! d[j]!
/-- who stands in [a, m) came ahead of whoever stands in [m, b). -/
def Tags (a m b : Nat) (d : Array α) : Prop := ∀ i j, a ≤ i → i < m → m ≤ j → j < b → tag d[i]! < tag d[j]!
structure Pre (a m b : Nat) (d : Array α) : Prop where
  left : SortL lt tag a m d
  right : SortL lt tag m b d
  tags : Tags tag a m b d
structure Post (a b : Nat) (d d' : Array α) : Prop where
  perm : PermIn a b d d'
  sort : SortL lt tag a b d'
end

section
variable {α : Type} [Inhabited α]
/-- where what comes to x by turning [a, m) and [m, b) about stood. -/
def rotI (a m b x : Nat) : Nat := if a ≤ x ∧ x < b then (if x < a + (b - m) then x + (m - a) else x - (b - m)) else x

/-- an exchange of one neighbour after another: swapRange's loop. -/
structure SwR (d : Array α) (a b n i : Nat) (dk : Array α) : Prop where
  size : dk.size = d.size
  perm : PermIn a (b + n) d dk
  get : ∀ x, dk[x]! = if a ≤ x ∧ x < a + i then d[x - a + b]! else if b ≤ x ∧ x < b + i then d[x - b + a]! else d[x]!

theorem SwR.start (d : Array α) (a b n : Nat) : SwR d a b n 0 d :=
  ⟨rfl, permIn_refl _ _ _, fun x => by rw [if_neg (by omega), if_neg (by omega)]⟩

theorem SwR.step {d : Array α} {a b n i : Nat} {dk : Array α} (h : SwR d a b n i dk) (hab : a + n ≤ b) (hb : b + n ≤ d.size) (hi : i < n) : SwR d a b n (i + 1) (swp dk (a + i) (b + i)) := by
  have hs := h.size
  refine ⟨by rw [size_swp]; exact hs, permIn_trans _ _ _ _ _ h.perm (swp_permIn _ _ _ _ _ (by omega) (by omega) (by omega) (by omega) (by omega)), fun x => ?_⟩
  rw [swp_get dk (by omega) (by omega), h.get (a + i), h.get (b + i), h.get x]
  by_cases h1 : x = b + i
  · subst h1
    rw [if_pos rfl, if_neg (by omega), if_neg (by omega), if_neg (by omega), if_pos (by omega)]
    exact congrArg (fun z => d[z]!) (by omega)
  · rw [if_neg h1]
    by_cases h2 : x = a + i
    · subst h2
      rw [if_pos rfl, if_neg (by omega), if_neg (by omega), if_pos (by omega)]
      exact congrArg (fun z => d[z]!) (by omega)
    · rw [if_neg h2]
      by_cases h3 : a ≤ x ∧ x < a + i
      · rw [if_pos h3, if_pos (by omega)]
      · rw [if_neg h3]
        by_cases h4 : b ≤ x ∧ x < b + i
        · rw [if_pos h4, if_neg (by omega), if_pos (by omega)]
        · rw [if_neg h4, if_neg (by omega), if_neg (by omega)]

/-- rotate's loop: i to the left of m and j to the right are still to be turned about. -/
structure RotR (d : Array α) (a m b i j : Nat) (dk : Array α) : Prop where
  size : dk.size = d.size
  perm : PermIn a b d dk
  i0 : 0 < i
  j0 : 0 < j
  im : a + i ≤ m
  jm : m + j ≤ b
  get : ∀ x, dk[rotI (m - i) m (m + j) x]! = d[rotI a m b x]!

theorem RotR.start (d : Array α) (a m b : Nat) (h1 : a < m) (h2 : m < b) : RotR d a m b (m - a) (b - m) d :=
  ⟨rfl, permIn_refl _ _ _, by omega, by omega, by omega, by omega, fun x => by rw [show m - (m - a) = a by omega, show m + (b - m) = b by omega]⟩

theorem rotI_spec (a m b x : Nat) : ∃ y, rotI a m b x = y ∧ ((a ≤ x ∧ x < b ∧ x < a + (b - m) ∧ y = x + (m - a)) ∨ (a ≤ x ∧ x < b ∧ a + (b - m) ≤ x ∧ y = x - (b - m)) ∨ ((x < a ∨ b ≤ x) ∧ y = x)) := by
  unfold rotI
  by_cases h1 : a ≤ x ∧ x < b
  · rw [if_pos h1]
    by_cases h2 : x < a + (b - m)
    · rw [if_pos h2]; exact ⟨_, rfl, Or.inl ⟨h1.1, h1.2, h2, rfl⟩⟩
    · rw [if_neg h2]; exact ⟨_, rfl, Or.inr (Or.inl ⟨h1.1, h1.2, by omega, rfl⟩)⟩
  · rw [if_neg h1]; exact ⟨_, rfl, Or.inr (Or.inr ⟨by omega, rfl⟩)⟩

theorem at_eq (d : Array α) {x y : Nat} (h : x = y) : d[x]! = d[y]! := by rw [h]

theorem RotR.big {d : Array α} {a m b i j : Nat} {dk dk' : Array α} (h : RotR d a m b i j dk) (hb : b ≤ d.size) (hij : j < i) (hw : SwR dk (m - i) m j j dk') : RotR d a m b (i - j) j dk' := by
  have e1 := h.im; have e2 := h.jm; have e3 := h.i0; have e4 := h.j0; have e5 := h.size
  refine ⟨hw.size.trans h.size, permIn_trans _ _ _ _ _ h.perm (permIn_mono _ _ _ _ _ _ (by omega) (by omega) (by omega) hw.perm), by omega, h.j0, by omega, h.jm, fun x => ?_⟩
  rw [← h.get x, hw.get]
  obtain ⟨y, hy, c⟩ := rotI_spec (m - (i - j)) m (m + j) x
  obtain ⟨z, hz, c'⟩ := rotI_spec (m - i) m (m + j) x
  rw [hy, hz]
  split
  · exact at_eq dk (by omega)
  · split
    · exact at_eq dk (by omega)
    · exact at_eq dk (by omega)

theorem RotR.small {d : Array α} {a m b i j : Nat} {dk dk' : Array α} (h : RotR d a m b i j dk) (hb : b ≤ d.size) (hij : i < j) (hw : SwR dk (m - i) (m + j - i) i i dk') : RotR d a m b i (j - i) dk' := by
  have e1 := h.im; have e2 := h.jm; have e3 := h.i0; have e4 := h.j0; have e5 := h.size
  refine ⟨hw.size.trans h.size, permIn_trans _ _ _ _ _ h.perm (permIn_mono _ _ _ _ _ _ (by omega) (by omega) (by omega) hw.perm), h.i0, by omega, h.im, by omega, fun x => ?_⟩
  rw [← h.get x, hw.get]
  obtain ⟨y, hy, c⟩ := rotI_spec (m - i) m (m + (j - i)) x
  obtain ⟨z, hz, c'⟩ := rotI_spec (m - i) m (m + j) x
  rw [hy, hz]
  split
  · exact at_eq dk (by omega)
  · split
    · exact at_eq dk (by omega)
    · exact at_eq dk (by omega)

/-- d' is d with [a, m) and [m, b) turned about. -/
structure Rot (d : Array α) (a m b : Nat) (d' : Array α) : Prop where
  size : d'.size = d.size
  perm : PermIn a b d d'
  get : ∀ x, d'[x]! = d[rotI a m b x]!

theorem RotR.done {d : Array α} {a m b i : Nat} {dk dk' : Array α} (h : RotR d a m b i i dk) (hb : b ≤ d.size) (hw : SwR dk (m - i) m i i dk') : Rot d a m b dk' := by
  have e1 := h.im; have e2 := h.jm; have e3 := h.i0; have e4 := h.j0; have e5 := h.size
  refine ⟨hw.size.trans h.size, permIn_trans _ _ _ _ _ h.perm (permIn_mono _ _ _ _ _ _ (by omega) (by omega) (by omega) hw.perm), fun x => ?_⟩
  rw [← h.get x, hw.get]
  obtain ⟨z, hz, c'⟩ := rotI_spec (m - i) m (m + i) x
  rw [hz]
  split
  · exact at_eq dk (by omega)
  · split
    · exact at_eq dk (by omega)
    · exact at_eq dk (by omega)

theorem Rot.idle (d : Array α) (a m b : Nat) (h : a = m ∨ m = b) (_hab : a ≤ m) (_hmb : m ≤ b) : Rot d a m b d :=
  ⟨rfl, permIn_refl _ _ _, fun x => by
    obtain ⟨z, hz, c'⟩ := rotI_spec a m b x
    rw [hz]; exact at_eq d (by omega)⟩

/-- the left one moves to the right, a step at a time. -/
theorem Rot.right_start (d : Array α) (a : Nat) : Rot d a (a + 1) (a + 1) d := Rot.idle d a (a + 1) (a + 1) (Or.inr rfl) (by omega) (by omega)
theorem Rot.right_step {d dk : Array α} {a k : Nat} (h : Rot d a (a + 1) (k + 1) dk) (hak : a ≤ k) (hk : k + 1 < d.size) : Rot d a (a + 1) (k + 2) (swp dk k (k + 1)) := by
  have hs := h.size
  refine ⟨by rw [size_swp]; exact hs, permIn_trans _ _ _ _ _ (permIn_mono _ _ _ _ _ _ (Nat.le_refl _) (by omega) (by omega) h.perm) (swp_permIn _ _ _ _ _ (by omega) (by omega) (by omega) (by omega) (by omega)), fun x => ?_⟩
  rw [swp_get dk (by omega) (by omega), h.get, h.get, h.get]
  obtain ⟨y, hy, c⟩ := rotI_spec a (a + 1) (k + 1) x
  obtain ⟨z, hz, c'⟩ := rotI_spec a (a + 1) (k + 2) x
  obtain ⟨u, hu, c2⟩ := rotI_spec a (a + 1) (k + 1) k
  obtain ⟨v, hv, c3⟩ := rotI_spec a (a + 1) (k + 1) (k + 1)
  rw [hy, hz, hu, hv]
  split
  · exact at_eq d (by omega)
  · split
    · exact at_eq d (by omega)
    · exact at_eq d (by omega)

/-- the right one moves to the left. -/
theorem Rot.left_start (d : Array α) (m : Nat) : Rot d m m (m + 1) d := Rot.idle d m m (m + 1) (Or.inl rfl) (by omega) (by omega)
theorem Rot.left_step {d dk : Array α} {m k : Nat} (h : Rot d (k + 1) m (m + 1) dk) (hkm : k + 1 ≤ m) (hm : m < d.size) : Rot d k m (m + 1) (swp dk (k + 1) k) := by
  have hs := h.size
  refine ⟨by rw [size_swp]; exact hs, permIn_trans _ _ _ _ _ (permIn_mono _ _ _ _ _ _ (by omega) (Nat.le_refl _) (by omega) h.perm) (swp_permIn _ _ _ _ _ (by omega) (by omega) (by omega) (by omega) (by omega)), fun x => ?_⟩
  rw [swp_get dk (by omega) (by omega), h.get, h.get, h.get]
  obtain ⟨y, hy, c⟩ := rotI_spec (k + 1) m (m + 1) x
  obtain ⟨z, hz, c'⟩ := rotI_spec k m (m + 1) x
  obtain ⟨u, hu, c2⟩ := rotI_spec (k + 1) m (m + 1) (k + 1)
  obtain ⟨v, hv, c3⟩ := rotI_spec (k + 1) m (m + 1) k
  rw [hy, hz, hu, hv]
  split
  · exact at_eq d (by omega)
  · split
    · exact at_eq d (by omega)
    · exact at_eq d (by omega)

variable {lt : α → α → Bool} {tag : α → Int}

theorem SortL.le {a b : Nat} {d : Array α} (h : SortL lt tag a b d) {i j : Nat} (ha : a ≤ i) (hij : i ≤ j) (hj : j < b) : d[i]! = d[j]! ∨ Ls lt tag d[i]! d[j]! := by
  by_cases e : i = j
  · exact Or.inl (by rw [e])
  · exact Or.inr (h i j ha (by omega) hj)

/-- what a turn about (s, m, e) makes of two rows that stand in order. -/
structure Split (a mid b : Nat) (s e : Nat) (d1 : Array α) : Prop where
  one : Pre lt tag a s mid d1
  two : Pre lt tag mid e b d1
  cross : ∀ i j, a ≤ i → i < mid → mid ≤ j → j < b → Ls lt tag d1[i]! d1[j]!

theorem split_of (hS : SWO lt) {a m b mid s e : Nat} {d d1 : Array α} (h : Pre lt tag a m b d) (hR : Rot d s m e d1)
    (has : a ≤ s) (hsm : s ≤ m) (hme : m ≤ e) (heb : e ≤ b) (hse : s + e = mid + m)
    (hlo : s = a ∨ e = b ∨ lt d[e]! d[s - 1]! = false) (hhi : s = m ∨ e = m ∨ lt d[e - 1]! d[s]! = true) : Split (lt := lt) (tag := tag) a mid b s e d1 := by
  -- left, left; right, right; left with right; right with left
  have lr : ∀ i j, a ≤ i → i < s → e ≤ j → j < b → Ls lt tag d[i]! d[j]! := fun i j h1 h2 h3 h4 => by
    have hx : Ls lt tag d[s - 1]! d[e]! := by
      rcases hlo with hlo | hlo | hlo
      · omega
      · omega
      · exact Or.inr ⟨hlo, h.tags _ _ (by omega) (by omega) (by omega) (by omega)⟩
    exact Ls.le_lt hS (h.left.le h1 (by omega) (by omega)) (Ls.lt_le hS hx (h.right.le (by omega) h3 h4))
  have rl : ∀ i j, m ≤ i → i < e → s ≤ j → j < m → Ls lt tag d[i]! d[j]! := fun i j h1 h2 h3 h4 => by
    have hx : Ls lt tag d[e - 1]! d[s]! := by
      rcases hhi with hhi | hhi | hhi
      · omega
      · omega
      · exact Or.inl hhi
    exact Ls.le_lt hS (h.right.le h1 (by omega) (by omega)) (Ls.lt_le hS hx (h.left.le (by omega) h3 h4))
  have g := hR.get
  refine ⟨⟨?_, ?_, ?_⟩, ⟨?_, ?_, ?_⟩, ?_⟩
  · intro i j h1 h2 h3
    rw [g, g]
    obtain ⟨y, hy, c⟩ := rotI_spec s m e i
    obtain ⟨z, hz, c'⟩ := rotI_spec s m e j
    rw [hy, hz]
    exact h.left _ _ (by omega) (by omega) (by omega)
  · intro i j h1 h2 h3
    rw [g, g]
    obtain ⟨y, hy, c⟩ := rotI_spec s m e i
    obtain ⟨z, hz, c'⟩ := rotI_spec s m e j
    rw [hy, hz]
    exact h.right _ _ (by omega) (by omega) (by omega)
  · intro i j h1 h2 h3 h4
    rw [g, g]
    obtain ⟨y, hy, c⟩ := rotI_spec s m e i
    obtain ⟨z, hz, c'⟩ := rotI_spec s m e j
    rw [hy, hz]
    exact h.tags _ _ (by omega) (by omega) (by omega) (by omega)
  · intro i j h1 h2 h3
    rw [g, g]
    obtain ⟨y, hy, c⟩ := rotI_spec s m e i
    obtain ⟨z, hz, c'⟩ := rotI_spec s m e j
    rw [hy, hz]
    exact h.left _ _ (by omega) (by omega) (by omega)
  · intro i j h1 h2 h3
    rw [g, g]
    obtain ⟨y, hy, c⟩ := rotI_spec s m e i
    obtain ⟨z, hz, c'⟩ := rotI_spec s m e j
    rw [hy, hz]
    exact h.right _ _ (by omega) (by omega) (by omega)
  · intro i j h1 h2 h3 h4
    rw [g, g]
    obtain ⟨y, hy, c⟩ := rotI_spec s m e i
    obtain ⟨z, hz, c'⟩ := rotI_spec s m e j
    rw [hy, hz]
    exact h.tags _ _ (by omega) (by omega) (by omega) (by omega)
  · intro i j h1 h2 h3 h4
    rw [g, g]
    obtain ⟨y, hy, c⟩ := rotI_spec s m e i
    obtain ⟨z, hz, c'⟩ := rotI_spec s m e j
    rw [hy, hz]
    by_cases hi : i < s
    · by_cases hj : j < e
      · exact h.left _ _ (by omega) (by omega) (by omega)
      · exact lr _ _ (by omega) (by omega) (by omega) (by omega)
    · by_cases hj : j < e
      · exact rl _ _ (by omega) (by omega) (by omega) (by omega)
      · exact h.right _ _ (by omega) (by omega) (by omega)

/-- a row of which one part is empty stands in order already. -/
theorem Pre.idle {a m b : Nat} {d : Array α} (h : Pre lt tag a m b d) (hm : m ≤ a ∨ b ≤ m) (ham : a ≤ m) (hmb : m ≤ b) : SortL lt tag a b d := by
  intro i j h1 h2 h3
  rcases hm with hm | hm
  · exact h.right i j (by omega) h2 h3
  · exact h.left i j h1 h2 (by omega)

theorem Pre.outside {a m b : Nat} {d d' : Array α} (h : Pre lt tag a m b d) (he : ∀ i, a ≤ i → i < b → d'[i]! = d[i]!) (ham : a ≤ m) (hmb : m ≤ b) : Pre lt tag a m b d' :=
  ⟨fun i j h1 h2 h3 => by rw [he i h1 (by omega), he j (by omega) (by omega)]; exact h.left i j h1 h2 h3,
   fun i j h1 h2 h3 => by rw [he i (by omega) (by omega), he j (by omega) (by omega)]; exact h.right i j h1 h2 h3,
   fun i j h1 h2 h3 h4 => by rw [he i h1 (by omega), he j (by omega) (by omega)]; exact h.tags i j h1 h2 h3 h4⟩

theorem Pre.two_after {a mid e b : Nat} {d d' : Array α} (h : Pre lt tag mid e b d) (hp : PermIn a mid d d') (h1 : mid ≤ e) (h2 : e ≤ b) : Pre lt tag mid e b d' :=
  h.outside (fun i hi _ => hp.2.1 i (Or.inr hi)) h1 h2

/-- the two halves, each in order, together. -/
theorem join_of {a m b mid s e : Nat} {d d1 d2 d3 : Array α} (hR : Rot d s m e d1) (hb : b ≤ d.size) (has : a ≤ s) (heb : e ≤ b)
    (hmid1 : a ≤ mid) (hmid2 : mid ≤ b) (C : Split (lt := lt) (tag := tag) a mid b s e d1) (p1 : Post lt tag a mid d1 d2) (p2 : Post lt tag mid b d2 d3) : Post lt tag a b d d3 := by
  have z1 := hR.size
  have z2 := p1.perm.1
  have q1 : PermIn a b d d1 := permIn_mono _ _ _ _ _ _ has heb hb hR.perm
  have q2 : PermIn a b d1 d2 := permIn_mono _ _ _ _ _ _ (Nat.le_refl _) hmid2 (by omega) p1.perm
  have q3 : PermIn a b d2 d3 := permIn_mono _ _ _ _ _ _ hmid1 (Nat.le_refl _) (by omega) p2.perm
  refine ⟨permIn_trans _ _ _ _ _ q1 (permIn_trans _ _ _ _ _ q2 q3), fun i j h1 h2 h3 => ?_⟩
  have lo : ∀ i, i < mid → d3[i]! = d2[i]! := fun i hi => p2.perm.2.1 i (Or.inl hi)
  by_cases hj : j < mid
  · rw [lo i (by omega), lo j hj]; exact p1.sort i j h1 h2 hj
  · by_cases hi : i < mid
    · rw [lo i hi]
      -- first what came to j, then what came to i
      have hall : ∀ y, mid ≤ y → y < b → Ls lt tag d2[i]! d2[y]! := fun y hy1 hy2 => by
        rw [p1.perm.2.1 y (Or.inr hy1)]
        exact permIn_all d1 d2 a mid (fun v => Ls lt tag v d1[y]!) (by omega) p1.perm (fun x hx1 hx2 => C.cross x y hx1 hx2 hy1 hy2) i h1 hi
      exact permIn_all d2 d3 mid b (fun v => Ls lt tag d2[i]! v) (by omega) p2.perm hall j (by omega) h3
    · exact p2.sort i j (by omega) h2 h3

/-- one on the left. -/
theorem one_left (hS : SWO lt) {a b i : Nat} {d d' : Array α} (h : Pre lt tag a (a + 1) b d) (hb : b ≤ d.size) (hi1 : a + 1 ≤ i) (hi2 : i ≤ b)
    (hlo : i = a + 1 ∨ lt d[i - 1]! d[a]! = true) (hhi : i = b ∨ lt d[i]! d[a]! = false) (hR : Rot d a (a + 1) i d') : Post lt tag a b d d' := by
  refine ⟨permIn_mono _ _ _ _ _ _ (Nat.le_refl _) hi2 hb hR.perm, fun x y h1 h2 h3 => ?_⟩
  have g := hR.get
  rw [g, g]
  obtain ⟨u, hu, c⟩ := rotI_spec a (a + 1) i x
  obtain ⟨v, hv, c'⟩ := rotI_spec a (a + 1) i y
  rw [hu, hv]
  by_cases hx : x = i - 1
  · have : u = a := by omega
    subst this
    have hx2 : Ls lt tag d[u]! d[i]! := by
      rcases hhi with hhi | hhi
      · omega
      · exact Or.inr ⟨hhi, h.tags _ _ (by omega) (by omega) (by omega) (by omega)⟩
    exact Ls.lt_le hS hx2 (h.right.le (by omega) (by omega) (by omega))
  · by_cases hy : y = i - 1
    · have : v = a := by omega
      subst this
      have hx2 : Ls lt tag d[i - 1]! d[v]! := by
        rcases hlo with hlo | hlo
        · omega
        · exact Or.inl hlo
      exact Ls.le_lt hS (h.right.le (by omega) (by omega) (by omega)) hx2
    · exact h.right _ _ (by omega) (by omega) (by omega)

/-- one on the right. -/
theorem one_right (hS : SWO lt) {a m i : Nat} {d d' : Array α} (h : Pre lt tag a m (m + 1) d) (hb : m + 1 ≤ d.size) (hi1 : a ≤ i) (hi2 : i ≤ m)
    (hlo : i = a ∨ lt d[m]! d[i - 1]! = false) (hhi : i = m ∨ lt d[m]! d[i]! = true) (hR : Rot d i m (m + 1) d') : Post lt tag a (m + 1) d d' := by
  refine ⟨permIn_mono _ _ _ _ _ _ hi1 (Nat.le_refl _) hb hR.perm, fun x y h1 h2 h3 => ?_⟩
  have g := hR.get
  rw [g, g]
  obtain ⟨u, hu, c⟩ := rotI_spec i m (m + 1) x
  obtain ⟨v, hv, c'⟩ := rotI_spec i m (m + 1) y
  rw [hu, hv]
  by_cases hx : x = i
  · have : u = m := by omega
    subst this
    have hx2 : Ls lt tag d[u]! d[i]! := by
      rcases hhi with hhi | hhi
      · omega
      · exact Or.inl hhi
    exact Ls.lt_le hS hx2 (h.left.le (by omega) (by omega) (by omega))
  · by_cases hy : y = i
    · have : v = m := by omega
      subst this
      have hx2 : Ls lt tag d[i - 1]! d[v]! := by
        rcases hlo with hlo | hlo
        · omega
        · exact Or.inr ⟨hlo, h.tags _ _ (by omega) (by omega) (by omega) (by omega)⟩
      exact Ls.le_lt hS (h.left.le (by omega) (by omega) (by omega)) hx2
    · exact h.left _ _ (by omega) (by omega) (by omega)

/-! ### insertion -/
/-- the inner loop: what stood at i stands at j now. -/
structure InsL (lt : α → α → Bool) (tag : α → Int) (d : Array α) (a b i j : Nat) (dk : Array α) : Prop where
  size : dk.size = d.size
  perm : PermIn a b d dk
  rest : ∀ x y, a ≤ x → x < y → y ≤ i → x ≠ j → y ≠ j → Ls lt tag dk[x]! dk[y]!
  right : ∀ y, j < y → y ≤ i → Ls lt tag dk[j]! dk[y]!
  tags : ∀ x, a ≤ x → x ≤ i → x ≠ j → tag dk[x]! < tag dk[j]!
  later : ∀ x, i < x → dk[x]! = d[x]!
/-- the outer loop: [a, i) stands in order. -/
structure InsO (lt : α → α → Bool) (tag : α → Int) (d : Array α) (a b i : Nat) (dk : Array α) : Prop where
  size : dk.size = d.size
  perm : PermIn a b d dk
  perm1 : PermIn a i d dk
  sort : SortL lt tag a i dk
  later : ∀ x, i ≤ x → dk[x]! = d[x]!

theorem InsO.start (d : Array α) (a b : Nat) : InsO lt tag d a b (a + 1) d :=
  ⟨rfl, permIn_refl _ _ _, permIn_refl _ _ _, fun i j h1 h2 h3 => by omega, fun _ _ => rfl⟩

theorem InsO.inner {d dk : Array α} {a b i : Nat} (h : InsO lt tag d a b i dk) (ht : ∀ x y, a ≤ x → x < y → y < b → tag d[x]! < tag d[y]!) (hib : i < b) (hb : b ≤ d.size) : InsL lt tag d a b i i dk :=
  ⟨h.size, h.perm, fun x y h1 h2 h3 _ h5 => h.sort x y h1 h2 (by omega), fun y h1 h2 => by omega,
   fun x h1 h2 h3 => by
    rw [h.later i (Nat.le_refl _)]
    exact permIn_all d dk a i (fun v => tag v < tag d[i]!) (by omega) h.perm1 (fun z hz1 hz2 => ht z i hz1 hz2 hib) x h1 (by omega),
   fun x hx => h.later x (by omega)⟩

theorem InsL.step {d dk : Array α} {a b i j : Nat} (h : InsL lt tag d a b i (j + 1) dk) (haj : a ≤ j) (hji : j + 1 ≤ i) (hib : i < b) (hb : b ≤ d.size) (hl : lt dk[j + 1]! dk[j]! = true) : InsL lt tag d a b i j (swp dk (j + 1) j) := by
  have hs := h.size
  have g := swp_get dk (i := j + 1) (j := j) (by omega) (by omega)
  refine ⟨by rw [size_swp]; exact hs, permIn_trans _ _ _ _ _ h.perm (swp_permIn _ _ _ _ _ (by omega) (by omega) (by omega) (by omega) (by omega)), ?_, ?_, ?_, ?_⟩
  · intro x y h1 h2 h3 h4 h5
    rw [g, g, if_neg h4, if_neg h5]
    by_cases hx : x = j + 1
    · rw [if_pos hx, if_neg (by omega)]
      exact h.rest j y (by omega) (by omega) h3 (by omega) (by omega)
    · rw [if_neg hx]
      by_cases hy : y = j + 1
      · rw [if_pos hy]; exact h.rest x j h1 (by omega) (by omega) hx (by omega)
      · rw [if_neg hy]; exact h.rest x y h1 h2 h3 hx hy
  · intro y h1 h2
    rw [g, g, if_pos rfl, if_neg (by omega)]
    by_cases hy : y = j + 1
    · rw [if_pos hy]; exact Or.inl hl
    · rw [if_neg hy]; exact h.right y (by omega) h2
  · intro x h1 h2 h3
    rw [g, g, if_pos rfl, if_neg h3]
    by_cases hx : x = j + 1
    · rw [if_pos hx]; exact h.tags j (by omega) (by omega) (by omega)
    · rw [if_neg hx]; exact h.tags x h1 h2 hx
  · intro x hx
    rw [g, if_neg (by omega), if_neg (by omega)]; exact h.later x hx

theorem InsL.stop (hS : SWO lt) {d dk : Array α} {a b i j : Nat} (h : InsL lt tag d a b i j dk) (haj : a ≤ j) (hji : j ≤ i) (hib : i < b) (hb : b ≤ d.size) (hs : j ≤ a ∨ lt dk[j]! dk[j - 1]! = false) : InsO lt tag d a b (i + 1) dk := by
  have hz := h.size
  refine ⟨h.size, h.perm, ⟨h.size, fun x hx => ?_, ?_⟩, ?_, fun x hx => h.later x (by omega)⟩
  · rcases hx with hx | hx
    · exact h.perm.2.1 x (Or.inl hx)
    · exact h.later x (by omega)
  · have hp := h.perm.2.2
    rw [extract_toList dk a b (by omega), extract_toList d a b hb] at hp
    rw [extract_toList dk a (i + 1) (by omega), extract_toList d a (i + 1) (by omega)]
    have e : List.range' a (b - a) = List.range' a (i + 1 - a) ++ List.range' (i + 1) (b - (i + 1)) := by
      rw [show b - a = (i + 1 - a) + (b - (i + 1)) by omega, ← List.range'_append]
      congr 2; omega
    rw [e, List.map_append, List.map_append] at hp
    have e2 : (List.range' (i + 1) (b - (i + 1))).map (fun x => dk[x]!) = (List.range' (i + 1) (b - (i + 1))).map (fun x => d[x]!) :=
      List.map_congr_left fun x hx => h.later x (by have := (List.mem_range'_1.1 hx).1; omega)
    rw [e2] at hp
    exact (List.perm_append_right_iff _).1 hp
  · intro x y h1 h2 h3
    by_cases hy : y = j
    · subst hy
      rcases hs with hs | hs
      · omega
      · have hc : Ls lt tag dk[y - 1]! dk[y]! := Or.inr ⟨hs, h.tags (y - 1) (by omega) (by omega) (by omega)⟩
        by_cases hx : x = y - 1
        · rw [hx]; exact hc
        · exact (h.rest x (y - 1) h1 (by omega) (by omega) (by omega) (by omega)).trans hS hc
    · by_cases hx : x = j
      · subst hx; exact h.right y h2 (by omega)
      · exact h.rest x y h1 h2 (by omega) hx hy

theorem InsO.done {d dk : Array α} {a b i : Nat} (h : InsO lt tag d a b i dk) (hi : b ≤ i) : Post lt tag a b d dk :=
  ⟨h.perm, fun x y h1 h2 h3 => h.sort x y h1 h2 (by omega)⟩

/-! ### blocks -/
/-- [lo, hi) holds what it held in d0, in order. -/
structure Seg (lt : α → α → Bool) (tag : α → Int) (d0 : Array α) (lo hi : Nat) (dk : Array α) : Prop where
  sort : SortL lt tag lo hi dk
  same : ∀ p : α → Prop, (∀ i, lo ≤ i → i < hi → p d0[i]!) → ∀ i, lo ≤ i → i < hi → p dk[i]!
  
theorem Seg.of_post {d0 d dk : Array α} {lo hi : Nat} (hp : Post lt tag lo hi d dk) (hd : ∀ i, lo ≤ i → i < hi → d[i]! = d0[i]!) (hh : hi ≤ d.size) : Seg lt tag d0 lo hi dk :=
  ⟨hp.sort, fun p h i h1 h2 => permIn_all d dk lo hi p hh hp.perm (fun x hx1 hx2 => by rw [hd x hx1 hx2]; exact h x hx1 hx2) i h1 h2⟩

theorem Seg.outside {d0 d dk : Array α} {lo hi : Nat} (h : Seg lt tag d0 lo hi d) (he : ∀ i, lo ≤ i → i < hi → dk[i]! = d[i]!) : Seg lt tag d0 lo hi dk :=
  ⟨fun i j h1 h2 h3 => by rw [he i h1 (by omega), he j (by omega) h3]; exact h.sort i j h1 h2 h3, fun p hp i h1 h2 => by rw [he i h1 h2]; exact h.same p hp i h1 h2⟩

theorem Seg.pre {d0 d : Array α} {a m b : Nat} (h1 : Seg lt tag d0 a m d) (h2 : Seg lt tag d0 m b d) (ht : ∀ x y, x < y → y < b → tag d0[x]! < tag d0[y]!) : Pre lt tag a m b d :=
  ⟨h1.sort, h2.sort, fun i j q1 q2 q3 q4 =>
    h1.same (fun v => tag v < tag d[j]!) (fun x hx1 hx2 => h2.same (fun v => tag d0[x]! < tag v) (fun y hy1 hy2 => ht x y (by omega) hy2) j q3 q4) i q1 q2⟩

theorem Seg.join {d0 d dk : Array α} {a m b : Nat} (h1 : Seg lt tag d0 a m d) (h2 : Seg lt tag d0 m b d) (hp : Post lt tag a b d dk) (hb : b ≤ d.size) (ham : a ≤ m) (hmb : m ≤ b) : Seg lt tag d0 a b dk :=
  ⟨hp.sort, fun p h => permIn_all d dk a b p hb hp.perm fun i q1 q2 => by
    by_cases hi : i < m
    · exact h1.same p (fun x hx1 hx2 => by
        by_cases hx : x < b
        · exact h x hx1 hx
        · omega) i q1 hi
    · exact h2.same p (fun x hx1 hx2 => by
        by_cases hx : a ≤ x
        · exact h x hx hx2
        · omega) i (by omega) q2⟩

end
end Go.Proofs.Ytjfifaooimgbaaa.Stab
