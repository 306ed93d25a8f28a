import Derived.Test.YtjfifaooimgbaaaLine0
/- The stable sort called on a row of one's own. -/
namespace Go.Proofs.Ytjfifaooimgbaaa
open Go.Shelf Go.RowKit Go.Lib Go.Sort

theorem flatO_get : ∀ (s : List (Int × Int)) (j : Nat), j < s.length * 2 → (flatO s)[j]? = some ((encO (s.getD (j / 2) default))[j % 2]!)
  | [], j, h => by simp at h
  | x :: r, 0, _ => by simp [flatO, encO]
  | x :: r, 1, _ => by simp [flatO, encO]
  | x :: r, j + 2, h => by
    have ih := flatO_get r j (by simp at h; omega)
    have e1 : (j + 2) / 2 = j / 2 + 1 := by omega
    have e2 : (j + 2) % 2 = j % 2 := by omega
    rw [e1, e2, List.getD_cons_succ, ← ih]
    simp [flatO, encO]

theorem getD_eq_get (s : List (Int × Int)) (j : Nat) : s.toArray[j]! = s.getD j default := by
  simp [getElem!_def, List.getD_eq_getElem?_getD]
  cases h : s[j]? <;> simp

theorem holdsO_of_block {w : World} {g : Nat} {cur : Array Value} {e : TypeId} {s : List (Int × Int)} (hb : w.heap[g]? = some (.cells cur e (0, 0))) (ht : cur.toList.take (s.length * 2) = flatO s) : HoldsK encO 2 w g 0 s.toArray := by
  intro j hj
  have hj' : j < s.length * 2 := by simpa using hj
  refine ⟨?_, by simp [World.frozen?, hb]⟩
  have h1 : (cur.toList.take (s.length * 2))[j]? = (flatO s)[j]? := by rw [ht]
  rw [List.getElem?_take_of_lt hj', flatO_get s j hj'] at h1
  simp only [World.cell?, hb, Nat.zero_add]
  simp only [Option.isSome_none, Bool.false_eq_true, if_false]
  rw [← Array.getElem?_toList, h1, get_flatK encO 2 s.toArray j (by simpa using hj'), getD_eq_get]
  rfl

/-- the slice v holds s in w. -/
def LineAt (w : World) (v : Value) (s : List (Int × Int)) : Prop := ∃ a cap, v = .slice a s.length cap ∧ s.length ≤ cap ∧ BidsAt w a s

theorem BidsAt.below {w w' : World} {a : Option Addr} {s : List (Int × Int)} (h : BidsAt w a s) {B : Nat} (hb : Below B w w') (hlt : ∀ b o, a = some ⟨b, o, none⟩ → b < B) : BidsAt w' a s := fun i hi => by
  obtain ⟨b, o, ha, h1, h2, h3⟩ := h i hi
  exact ⟨b, o, ha, Nat.lt_of_lt_of_le h1 hb.size, (hb.cell (p := ⟨b, o + i * 2, none⟩) (hlt b o ha)).trans h2, (hb.cell (p := ⟨b, o + i * 2 + 1, none⟩) (hlt b o ha)).trans h3⟩

theorem BidsAt.setCell {w : World} {a : Option Addr} {s : List (Int × Int)} (h : BidsAt w a s) (p : Addr) (u : Value) (hne : ∀ b o, a = some ⟨b, o, none⟩ → b ≠ p.block) : BidsAt (w.setCell p u) a s := fun i hi => by
  obtain ⟨b, o, ha, h1, h2, h3⟩ := h i hi
  have e : (w.setCell p u).heap[b]? = w.heap[b]? := Below.heap_setCell w p u b (hne b o ha)
  exact ⟨b, o, ha, by simpa [World.setCell] using h1, (World.cell?_of_block (a := ⟨b, o + i * 2, none⟩) e).trans h2, (World.cell?_of_block (a := ⟨b, o + i * 2 + 1, none⟩) e).trans h3⟩

theorem below_sortWorldK (w : World) (g m : Nat) (dk : Array (Int × Int)) (os : Array Obj) (B : Nat) (hB : B ≤ g) (hB2 : B ≤ w.heap.size) : Below B w (sortWorldK encO 2 w g 0 m dk os) := by
  refine ⟨rfl, rfl, rfl, size_sortWorldK_c encO 2 w g 0 m dk os, fun k hk => ?_⟩
  unfold sortWorldK
  rw [heap_grow_old _ _ (by rw [size_putRowK]; show k < w.heap.size; omega)]
  have : g ≠ k := by omega
  simp [putRowK, putRow, mapBlock, Sort.ahead, Array.getElem?_modify, this]

theorem below_grow (w : World) (q : Nat) (os : Array Obj) : Below w.heap.size w (grow (w.drewN q) os) :=
  ⟨rfl, rfl, rfl, by rw [size_grow]; show w.heap.size ≤ w.heap.size + _; omega, fun k hk => by rw [heap_grow_old _ _ (by show k < w.heap.size; exact hk)]; rfl⟩

/-- the two orders that are met. -/
def cfO (c : Int → Int → Int) (x y : Int × Int) : Int := c x.2 y.2
theorem cmpI_neg (x y : Int) : cmpI x y < 0 ↔ x < y := by
  unfold cmpI
  by_cases h : x < y
  · rw [if_pos h]; omega
  · rw [if_neg h]
    by_cases h2 : y < x
    · rw [if_pos h2]; omega
    · rw [if_neg h2]; omega
theorem ltOf_sell (x y : Int × Int) : ltOf (cfO cmpI) x y = decide (x.2 < y.2) := decide_eq_decide.2 (cmpI_neg x.2 y.2)
theorem ltOf_buy (x y : Int × Int) : ltOf (cfO fun x y => cmpI y x) x y = decide (y.2 < x.2) := decide_eq_decide.2 (cmpI_neg y.2 x.2)
theorem swo_cmpI : SWO (ltOf (cfO cmpI)) where
  irrefl x := by rw [ltOf_sell]; exact decide_eq_false (by omega)
  trans x y z := by rw [ltOf_sell, ltOf_sell, ltOf_sell]; intro h1 h2; exact decide_eq_true (by have := of_decide_eq_true h1; have := of_decide_eq_true h2; omega)
  ntrans x y z := by rw [ltOf_sell, ltOf_sell, ltOf_sell]; intro h1 h2; exact decide_eq_false (by have := of_decide_eq_false h1; have := of_decide_eq_false h2; omega)
theorem swo_cmpI' : SWO (ltOf (cfO fun x y => cmpI y x)) where
  irrefl x := by rw [ltOf_buy]; exact decide_eq_false (by omega)
  trans x y z := by rw [ltOf_buy, ltOf_buy, ltOf_buy]; intro h1 h2; exact decide_eq_true (by have := of_decide_eq_true h1; have := of_decide_eq_true h2; omega)
  ntrans x y z := by rw [ltOf_buy, ltOf_buy, ltOf_buy]; intro h1 h2; exact decide_eq_false (by have := of_decide_eq_false h1; have := of_decide_eq_false h2; omega)

theorem sort_call (g : Nat) (c : Int → Int → Int) (hb : BetterAt g c) (hO : SWO (ltOf (cfO c))) (s : List (Int × Int)) (v : Value) (base B : Nat) (w : World)
    (own : w.ownsRow base 139 2 v s.length (flatO s)) (hB : B < base) (hB2 : base ≤ w.heap.size) (hc : w.cell? ⟨B, 0, none⟩ = some (.func (.func g) #[] #[])) (ht : s.Pairwise (fun x y => x.1 < y.1)) (hl : s.length ≤ 8796093022208) :
    Calls Try.prog 72 #[v, .func (.func 73) #[] #[.pointer (some ⟨B, 0, none⟩)]] w fun e w' => e = .returned (.tuple #[]) ∧ ∃ s', s'.length = s.length ∧ Stab.Post (ltOf (cfO c)) (fun x : Int × Int => x.1) 0 s.length s.toArray s'.toArray ∧ LineAt w' v s' ∧ Below base w w' := by
  rcases own.2 with ⟨hv, hn⟩ | ⟨gb, cap, cur, hv, hbase, hblk, h1, h2, h3, h4⟩
  · subst hv
    have hs : s = [] := List.length_eq_zero_iff.1 hn
    subst hs
    refine (sortNone_any _ w).mono ?_
    rintro e w' ⟨rfl, q, os, rfl⟩
    exact ⟨rfl, [], rfl, ⟨permIn_refl _ _ _, fun i j _ _ h => by simp at h⟩, ⟨none, 0, rfl, Nat.le_refl _, fun i hi => by simp at hi⟩, (below_grow w q os).mono hB2⟩
  · subst hv
    have hgl : gb < w.heap.size := (Array.getElem?_eq_some_iff.1 hblk).1
    have hH : HoldsK encO 2 w gb 0 s.toArray := holdsO_of_block hblk h4
    have R : RowK encO 2 w gb 0 s.toArray := ⟨fun _ => rfl, fun x v hv => by simp [encO] at hv; rcases hv with rfl | rfl <;> rfl, hH, hgl⟩
    have hcmp : CmpLays Try.prog 73 #[.pointer (some ⟨B, 0, none⟩)] encO 2 (cfO c) gb 0 s.toArray.size w := cmpLays_of g c hb B gb 0 _ w (by omega) (by omega) hc
    have hcon := sortStable_any (P := Try.prog) Try.func72 stLays encO (cfO c) (fun x : Int × Int => x.1) hO 73 #[.pointer (some ⟨B, 0, none⟩)] gb 0 cap s.toArray w e35 hcmp R w (SWK.start hH)
      (fun x y hxy hy => by
        have hy' : y < s.length := by simpa using hy
        rw [getElem!_pos _ x (by simpa using (by omega : x < s.length)), getElem!_pos _ y hy]
        exact List.pairwise_iff_getElem.1 ht x y (by omega) hy' hxy) (by simp; omega)
    rw [show s.toArray.size = s.length by simp] at hcon
    refine hcon.mono ?_
    rintro e w' ⟨rfl, d', S, P⟩
    have hz : d'.size = s.length := by have := P.perm.1; simpa using this
    have hHd := S.holds hgl hH (by simpa using hz)
    obtain ⟨m, os, rfl⟩ := S
    refine ⟨rfl, d'.toList, by simpa using hz, P, ⟨some ⟨gb, 0, none⟩, cap, by simp [hz], by simp [hz]; exact h1, fun i hi => ?_⟩, below_sortWorldK w gb m d' os base hbase hB2⟩
    have hi' : i < d'.size := by simpa using hi
    refine ⟨gb, 0, rfl, Nat.lt_of_lt_of_le hgl (size_sortWorldK_c encO 2 w gb 0 m d' os), ?_, ?_⟩
    · have := (hHd.cell hi' (show 0 < 2 by omega)).1
      rw [Nat.add_zero] at this
      rw [this]
      simp [encO, List.getD_eq_getElem?_getD, hi']
    · have := (hHd.cell hi' (show 1 < 2 by omega)).1
      rw [this]
      simp [encO, List.getD_eq_getElem?_getD, hi']
#print axioms sort_call
end Go.Proofs.Ytjfifaooimgbaaa
/- The walk of lineUp. -/
namespace Go.Proofs.Ytjfifaooimgbaaa
open Go.Shelf Go.RowKit Go.Lib Go.Sort

set_option maxHeartbeats 1000000 in
theorem lineUp_any (g : Nat) (c : Int → Int → Int) (hb : BetterAt g c) (hO : SWO (ltOf (cfO c))) (side no : Int) (l : List (Int × Int)) (a : Option Addr) (cap : Nat) (w : World) (hB : BidsAt w a l) (hl : l.length ≤ 8796093022208) :
    Calls Try.prog 52 #[.slice a l.length cap, .int .i64 side, .int .i64 no, .func (.func g) #[] #[]] w fun e w' => ∃ v s, e = .returned (.agg #[v, .int .i64 no]) ∧ s.length = (Clr.cand side l).length ∧ Stab.Post (ltOf (cfO c)) (fun x : Int × Int => x.1) 0 (Clr.cand side l).length (Clr.cand side l).toArray s.toArray ∧ LineAt w' v s ∧ Below w.heap.size w w' := by
  obtain ⟨i0, hi, hz0, hz1, hz2⟩ := info_parts Try.info139
  have HB : Aside (BidsAt w a l) := hB
  have HG : Aside _ := hb
  clear hB hb
  go_enter Try.func52, Try.ntmps52
  go_wp2
  obtain ⟨W0, hW0⟩ : ∃ W0, W0 = (w.alloc (Obj.cells #[Value.func (Fn.func g) #[] #[]] 35)).alloc (Obj.cells #[Value.slice none 0 0, Value.int IntKind.i64 0] 109) := ⟨_, rfl⟩
  have z0 : W0.heap.size = w.heap.size + 2 := by rw [hW0]; simp
  have c0 : W0.cell? ⟨w.heap.size, 0, none⟩ = some (.func (.func g) #[] #[]) := by rw [hW0]; simp
  have c1 : W0.cell? ⟨w.heap.size + 1, 0, none⟩ = some (.slice none 0 0) := by rw [hW0]; simp
  have c2 : W0.cell? ⟨w.heap.size + 1, 1, none⟩ = some (.int .i64 0) := by rw [hW0]; simp
  have f1 : W0.frozen? ⟨w.heap.size + 1, 0, none⟩ = false := by rw [hW0]; simp
  have f2 : W0.frozen? ⟨w.heap.size + 1, 1, none⟩ = false := by rw [hW0]; simp
  have b0 : Below w.heap.size w W0 := by rw [hW0]; exact ((Below.refl _ _).alloc (Nat.le_refl _) _).alloc (by simp) _
  have F0 : Aside (W0.heap.size = w.heap.size + 2 ∧ W0.cell? ⟨w.heap.size, 0, none⟩ = some (.func (.func g) #[] #[]) ∧ W0.cell? ⟨w.heap.size + 1, 0, none⟩ = some (.slice none 0 0) ∧ W0.cell? ⟨w.heap.size + 1, 1, none⟩ = some (.int .i64 0) ∧ W0.frozen? ⟨w.heap.size + 1, 0, none⟩ = false ∧ W0.frozen? ⟨w.heap.size + 1, 1, none⟩ = false ∧ Below w.heap.size w W0) := ⟨z0, c0, c1, c2, f1, f2, b0⟩
  rw [← hW0]
  clear z0 c0 c1 c2 f1 f2 b0 hW0
  go_loopg [9, 14] l.length (fun kx v i wr => ∃ k : Nat, i = .int .i64 k ∧ k ≤ l.length ∧ l.length - k ≤ kx ∧ Aside (wr.ownsRow (w.heap.size + 2) 139 2 v (Clr.candTo side l k).length (flatO (Clr.candTo side l k))) ∧ Aside (Below (w.heap.size + 2) W0 wr))
  case atStart => exact ⟨0, rfl, Nat.zero_le _, by omega, World.ownsRow_nil _ _ _ _, Below.refl _ _⟩
  case round =>
    obtain ⟨k, rfl, hk, hkx, O1, B1⟩ := hrel
    by_cases hlt : k < l.length
    · have hltz : (k : Int) < (l.length : Int) := by omega
      obtain ⟨b, o, rfl, hbl, hc1, hc2⟩ := HB.out k hlt
      have hx1 := (B1.out.cell (p := ⟨b, o + k * 2, none⟩) (by show b < _; omega)).trans ((F0.out.2.2.2.2.2.2.cell (p := ⟨b, o + k * 2, none⟩) hbl).trans hc1)
      have hx2 := (B1.out.cell (p := ⟨b, o + k * 2 + 1, none⟩) (by show b < _; omega)).trans ((F0.out.2.2.2.2.2.2.cell (p := ⟨b, o + k * 2 + 1, none⟩) hbl).trans hc2)
      clear hc1 hc2
      obtain ⟨x1, e1⟩ : ∃ x, (l.getD k (0, 0)).1 = x := ⟨_, rfl⟩
      obtain ⟨x2, e2⟩ : ∃ x, (l.getD k (0, 0)).2 = x := ⟨_, rfl⟩
      rw [e1] at hx1
      rw [e2] at hx2
      have E : Aside ((l.getD k (0, 0)).1 = x1 ∧ (l.getD k (0, 0)).2 = x2) := ⟨e1, e2⟩
      clear e1 e2
      have z1 : w.heap.size + 2 ≤ wr.heap.size := by have := B1.out.size; rw [F0.out.1] at this; exact this
      by_cases hs : (x1 == side) = true
      · by_cases ha : 1 ≤ x2 ∧ x2 < 1000
        · have hok : Aside (Clr.okB side (l.getD k (0, 0)) = true) := by
            show Clr.okB side (l.getD k (0, 0)) = true
            unfold Clr.okB
            rw [E.out.1, E.out.2, hs, decide_eq_true ha.1, decide_eq_true ha.2]; rfl
          have hcl := Clr.candTo_le side l k
          go_wp2_with fail
          refine (allowed_yes x2 _ ha.1 ha.2).mono ?_
          rintro e w' ⟨rfl, rfl⟩
          go_wp2_with (first | (at_builtin; (refine wpList_append_own _ rfl _ _ 107 rfl (w.heap.size + 2) 139 i0 (.agg #[.int .i64 0, .int .i64 0]) 2 16 Try.underlying107 hi hz0 hz1 hz2 rfl (by decide) _ _ _ rfl ((O1.out.alloc _).alloc _) ⟨wr.heap.size + 1, 0, none⟩ 1 1 [.int .i64 (k : Int), .int .i64 x2] rfl rfl (cell_two_next _ _ _ _ _) (fun x hx => by simp at hx; rcases hx with rfl | rfl <;> rfl) (by unfold maxLen; omega) (by omega) (by simp; omega) ?_; intro v' w3 hown' hgrow3 hnil3)))
          have hcl' : w.heap.size + 2 ≤ (((wr.alloc (Obj.cells #[Value.int IntKind.i64 x1, Value.int IntKind.i64 x2] 29)).alloc (Obj.cells #[Value.int IntKind.i64 (k : Int), Value.int IntKind.i64 x2] 139))).heap.size := by simp; omega
          have B2 : Aside (Below (w.heap.size + 2) W0 w3) := Below.grown ((B1.out.alloc (by omega) _).alloc (by simp; omega) _) hgrow3 hcl' (fun j hj => (O1.out.lt _ hj).1)
          have O2 : Aside (w3.ownsRow (w.heap.size + 2) 139 2 v' (Clr.candTo side l (k + 1)).length (flatO (Clr.candTo side l (k + 1)))) := by
            show w3.ownsRow _ _ _ _ _ _
            rw [Clr.candTo_hit hok.out, flatO_append, List.length_append, E.out.2]; exact hown'
          clear hown' hgrow3 hnil3 hcl' O1 B1
          go_wp2
          go_roundg (l.length - (k + 1))
          case measure => omega
          case rel => exact ⟨k + 1, by go_num, by omega, Nat.le_refl _, O2, B2⟩
        · have hno : Aside (Clr.okB side (l.getD k (0, 0)) = false) := by
            show Clr.okB side (l.getD k (0, 0)) = false
            unfold Clr.okB
            rw [E.out.1, E.out.2]
            rcases (show x2 < 1 ∨ 1000 ≤ x2 by omega) with h | h
            · rw [decide_eq_false (show ¬ 1 ≤ x2 by omega)]; simp
            · rw [decide_eq_false (show ¬ x2 < 1000 by omega)]; simp
          go_wp2_with fail
          refine (allowed_no x2 _ (by omega)).mono ?_
          rintro e w' ⟨rfl, rfl⟩
          go_wp2
          go_roundg (l.length - (k + 1))
          case measure => omega
          case rel => exact ⟨k + 1, by go_num, by omega, Nat.le_refl _, by rw [Clr.candTo_miss hno.out]; exact O1.out.alloc _, B1.out.alloc (by omega) _⟩
      · have hs' : (x1 == side) = false := by simpa using hs
        have hno : Aside (Clr.okB side (l.getD k (0, 0)) = false) := by
          show Clr.okB side (l.getD k (0, 0)) = false
          unfold Clr.okB
          rw [E.out.1, hs']; rfl
        go_wp2
        go_roundg (l.length - (k + 1))
        case measure => omega
        case rel => exact ⟨k + 1, by go_num, by omega, Nat.le_refl _, by rw [Clr.candTo_miss hno.out]; exact O1.out.alloc _, B1.out.alloc (by omega) _⟩
    · have ek : k = l.length := by omega
      subst ek
      have hcl := Clr.candTo_le side l l.length
      have z1 : w.heap.size + 2 ≤ wr.heap.size := by have := B1.out.size; rw [F0.out.1] at this; exact this
      have cc := sort_call g c HG.out hO (Clr.candTo side l l.length) u9 (w.heap.size + 2) w.heap.size wr O1.out (by omega) z1 ((B1.out.cell (p := ⟨w.heap.size, 0, none⟩) (by show w.heap.size < _; omega)).trans F0.out.2.1) (Clr.candTo_sorted side l l.length) (by omega)
      go_wp2_with fail
      refine cc.mono ?_
      clear cc
      rintro e w' ⟨rfl, s, hsl, P, La, B2⟩
      have B3 : Aside (Below (w.heap.size + 2) W0 w') := B1.out.trans B2
      have OB : Aside (∀ k, u9.ownBlock = some k → w.heap.size + 2 ≤ k) := fun k hk => (O1.out.lt k hk).1
      clear O1
      obtain ⟨ao, cp, rfl, hcp, hbd⟩ := La
      have X : Aside (s.length = (Clr.cand side l).length ∧ Stab.Post (ltOf (cfO c)) (fun x : Int × Int => x.1) 0 (Clr.cand side l).length (Clr.cand side l).toArray s.toArray ∧ BidsAt w' ao s) := ⟨hsl, P, hbd⟩
      clear hsl P hbd B2 B1
      have c1 := (B3.out.cell (p := ⟨w.heap.size + 1, 0, none⟩) (by show w.heap.size + 1 < _; omega)).trans F0.out.2.2.1
      have c2 := (B3.out.cell (p := ⟨w.heap.size + 1, 1, none⟩) (by show w.heap.size + 1 < _; omega)).trans F0.out.2.2.2.1
      have f1 := (B3.out.frozen (p := ⟨w.heap.size + 1, 0, none⟩) (by show w.heap.size + 1 < _; omega)).trans F0.out.2.2.2.2.1
      have f2 := (B3.out.frozen (p := ⟨w.heap.size + 1, 1, none⟩) (by show w.heap.size + 1 < _; omega)).trans F0.out.2.2.2.2.2.1
      go_wp2
      refine bodyPost_ret (v := .agg #[.slice ao s.length cp, .int .i64 no]) (by simp [results, Try.results52, go_sem, c1, c2]) rfl ?_
      have B4 := ((F0.out.2.2.2.2.2.2.trans (B3.out.mono (by omega))).setCell (p := ⟨w.heap.size + 1, 0, none⟩) (by show w.heap.size ≤ w.heap.size + 1; omega) (.slice ao s.length cp)).setCell (p := ⟨w.heap.size + 1, 1, none⟩) (by show w.heap.size ≤ w.heap.size + 1; omega) (.int .i64 no)
      have hne : ∀ b o, ao = some ⟨b, o, none⟩ → b ≠ w.heap.size + 1 := fun b o hb => by
        subst hb
        have := OB.out b rfl
        omega
      exact ⟨_, s, rfl, X.out.1, X.out.2.1, ⟨ao, cp, rfl, hcp, (X.out.2.2.setCell ⟨w.heap.size + 1, 0, none⟩ _ hne).setCell ⟨w.heap.size + 1, 1, none⟩ _ hne⟩, B4⟩
#print axioms lineUp_any
end Go.Proofs.Ytjfifaooimgbaaa
