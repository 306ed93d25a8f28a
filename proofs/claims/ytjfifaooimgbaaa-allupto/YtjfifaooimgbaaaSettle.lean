import Derived.Test.YtjfifaooimgbaaaLine0
import Derived.Deep.QuietTactic
import Derived.BigQuiet
/- The stable sort called on a row of one's own. -/
namespace Go.Proofs.Ytjfifaooimgbaaa
open Go.Shelf Go.RowKit Go.Lib Go.Sort

theorem flatO_get : ∀ (s : List (Int × Int)) (j : Nat), j < s.length * 2 → (flatO s)[j]? = some ((encO (s.getD (j / 2) default))[j % 2]!)
  | [], j, h => by simp at h
  | x :: r, 0, _ => by simp [flatO, encO]
  | x :: r, 1, _ => by simp [flatO, encO]
  | x :: r, j + 2, h => by
    have ih := flatO_get r j (by simp at h; omega)
    have e1 : (j + 2) / 2 = j / 2 + 1 := by omega
    have e2 : (j + 2) % 2 = j % 2 := by omega
    rw [e1, e2, List.getD_cons_succ, ← ih]
    simp [flatO, encO]

theorem getD_eq_get (s : List (Int × Int)) (j : Nat) : s.toArray[j]! = s.getD j default := by
  simp [getElem!_def, List.getD_eq_getElem?_getD]
  cases h : s[j]? <;> simp

theorem holdsO_of_block {w : World} {g : Nat} {cur : Array Value} {e : TypeId} {s : List (Int × Int)} (hb : w.heap[g]? = some (.cells cur e (0, 0))) (ht : cur.toList.take (s.length * 2) = flatO s) : HoldsK encO 2 w g 0 s.toArray := by
  intro j hj
  have hj' : j < s.length * 2 := by simpa using hj
  refine ⟨?_, by simp [World.frozen?, hb]⟩
  have h1 : (cur.toList.take (s.length * 2))[j]? = (flatO s)[j]? := by rw [ht]
  rw [List.getElem?_take_of_lt hj', flatO_get s j hj'] at h1
  simp only [World.cell?, hb, Nat.zero_add]
  simp only [Option.isSome_none, Bool.false_eq_true, if_false]
  rw [← Array.getElem?_toList, h1, get_flatK encO 2 s.toArray j (by simpa using hj'), getD_eq_get]
  rfl

/-- the slice v holds s in w. -/
def LineAt (w : World) (v : Value) (s : List (Int × Int)) : Prop := ∃ a cap, v = .slice a s.length cap ∧ s.length ≤ cap ∧ BidsAt w a s

theorem BidsAt.below {w w' : World} {a : Option Addr} {s : List (Int × Int)} (h : BidsAt w a s) {B : Nat} (hb : Below B w w') (hlt : ∀ b o, a = some ⟨b, o, none⟩ → b < B) : BidsAt w' a s := fun i hi => by
  obtain ⟨b, o, ha, h1, h2, h3⟩ := h i hi
  exact ⟨b, o, ha, Nat.lt_of_lt_of_le h1 hb.size, (hb.cell (p := ⟨b, o + i * 2, none⟩) (hlt b o ha)).trans h2, (hb.cell (p := ⟨b, o + i * 2 + 1, none⟩) (hlt b o ha)).trans h3⟩

theorem BidsAt.setCell {w : World} {a : Option Addr} {s : List (Int × Int)} (h : BidsAt w a s) (p : Addr) (u : Value) (hne : ∀ b o, a = some ⟨b, o, none⟩ → b ≠ p.block) : BidsAt (w.setCell p u) a s := fun i hi => by
  obtain ⟨b, o, ha, h1, h2, h3⟩ := h i hi
  have e : (w.setCell p u).heap[b]? = w.heap[b]? := Below.heap_setCell w p u b (hne b o ha)
  exact ⟨b, o, ha, by simpa [World.setCell] using h1, (World.cell?_of_block (a := ⟨b, o + i * 2, none⟩) e).trans h2, (World.cell?_of_block (a := ⟨b, o + i * 2 + 1, none⟩) e).trans h3⟩

theorem below_sortWorldK (w : World) (g m : Nat) (dk : Array (Int × Int)) (os : Array Obj) (B : Nat) (hB : B ≤ g) (hB2 : B ≤ w.heap.size) : Below B w (sortWorldK encO 2 w g 0 m dk os) := by
  refine ⟨rfl, rfl, rfl, size_sortWorldK_c encO 2 w g 0 m dk os, fun k hk => ?_⟩
  unfold sortWorldK
  rw [heap_grow_old _ _ (by rw [size_putRowK]; show k < w.heap.size; omega)]
  have : g ≠ k := by omega
  simp [putRowK, putRow, mapBlock, Sort.ahead, Array.getElem?_modify, this]

theorem below_grow (w : World) (q : Nat) (os : Array Obj) : Below w.heap.size w (grow (w.drewN q) os) :=
  ⟨rfl, rfl, rfl, by rw [size_grow]; show w.heap.size ≤ w.heap.size + _; omega, fun k hk => by rw [heap_grow_old _ _ (by show k < w.heap.size; exact hk)]; rfl⟩

/-- the two orders that are met. -/
def cfO (c : Int → Int → Int) (x y : Int × Int) : Int := c x.2 y.2
theorem cmpI_neg (x y : Int) : cmpI x y < 0 ↔ x < y := by
  unfold cmpI
  by_cases h : x < y
  · rw [if_pos h]; omega
  · rw [if_neg h]
    by_cases h2 : y < x
    · rw [if_pos h2]; omega
    · rw [if_neg h2]; omega
theorem ltOf_sell (x y : Int × Int) : ltOf (cfO cmpI) x y = decide (x.2 < y.2) := decide_eq_decide.2 (cmpI_neg x.2 y.2)
theorem ltOf_buy (x y : Int × Int) : ltOf (cfO fun x y => cmpI y x) x y = decide (y.2 < x.2) := decide_eq_decide.2 (cmpI_neg y.2 x.2)
theorem swo_cmpI : SWO (ltOf (cfO cmpI)) where
  irrefl x := by rw [ltOf_sell]; exact decide_eq_false (by omega)
  trans x y z := by rw [ltOf_sell, ltOf_sell, ltOf_sell]; intro h1 h2; exact decide_eq_true (by have := of_decide_eq_true h1; have := of_decide_eq_true h2; omega)
  ntrans x y z := by rw [ltOf_sell, ltOf_sell, ltOf_sell]; intro h1 h2; exact decide_eq_false (by have := of_decide_eq_false h1; have := of_decide_eq_false h2; omega)
theorem swo_cmpI' : SWO (ltOf (cfO fun x y => cmpI y x)) where
  irrefl x := by rw [ltOf_buy]; exact decide_eq_false (by omega)
  trans x y z := by rw [ltOf_buy, ltOf_buy, ltOf_buy]; intro h1 h2; exact decide_eq_true (by have := of_decide_eq_true h1; have := of_decide_eq_true h2; omega)
  ntrans x y z := by rw [ltOf_buy, ltOf_buy, ltOf_buy]; intro h1 h2; exact decide_eq_false (by have := of_decide_eq_false h1; have := of_decide_eq_false h2; omega)

theorem sort_call (g : Nat) (c : Int → Int → Int) (hb : BetterAt g c) (hO : SWO (ltOf (cfO c))) (s : List (Int × Int)) (v : Value) (base B : Nat) (w : World)
    (own : w.ownsRow base 139 2 v s.length (flatO s)) (hB : B < base) (hB2 : base ≤ w.heap.size) (hc : w.cell? ⟨B, 0, none⟩ = some (.func (.func g) #[] #[])) (ht : s.Pairwise (fun x y => x.1 < y.1)) (hl : s.length ≤ 8796093022208) :
    Calls Try.prog 72 #[v, .func (.func 73) #[] #[.pointer (some ⟨B, 0, none⟩)]] w fun e w' => e = .returned (.tuple #[]) ∧ ∃ s', s'.length = s.length ∧ Stab.Post (ltOf (cfO c)) (fun x : Int × Int => x.1) 0 s.length s.toArray s'.toArray ∧ LineAt w' v s' ∧ Below base w w' := by
  rcases own.2 with ⟨hv, hn⟩ | ⟨gb, cap, cur, hv, hbase, hblk, h1, h2, h3, h4⟩
  · subst hv
    have hs : s = [] := List.length_eq_zero_iff.1 hn
    subst hs
    refine (sortNone_any _ w).mono ?_
    rintro e w' ⟨rfl, q, os, rfl⟩
    exact ⟨rfl, [], rfl, ⟨permIn_refl _ _ _, fun i j _ _ h => by simp at h⟩, ⟨none, 0, rfl, Nat.le_refl _, fun i hi => by simp at hi⟩, (below_grow w q os).mono hB2⟩
  · subst hv
    have hgl : gb < w.heap.size := (Array.getElem?_eq_some_iff.1 hblk).1
    have hH : HoldsK encO 2 w gb 0 s.toArray := holdsO_of_block hblk h4
    have R : RowK encO 2 w gb 0 s.toArray := ⟨fun _ => rfl, fun x v hv => by simp [encO] at hv; rcases hv with rfl | rfl <;> rfl, hH, hgl⟩
    have hcmp : CmpLays Try.prog 73 #[.pointer (some ⟨B, 0, none⟩)] encO 2 (cfO c) gb 0 s.toArray.size w := cmpLays_of g c hb B gb 0 _ w (by omega) (by omega) hc
    have hcon := sortStable_any (P := Try.prog) Try.func72 stLays encO (cfO c) (fun x : Int × Int => x.1) hO 73 #[.pointer (some ⟨B, 0, none⟩)] gb 0 cap s.toArray w e35 hcmp R w (SWK.start hH)
      (fun x y hxy hy => by
        have hy' : y < s.length := by simpa using hy
        rw [getElem!_pos _ x (by simpa using (by omega : x < s.length)), getElem!_pos _ y hy]
        exact List.pairwise_iff_getElem.1 ht x y (by omega) hy' hxy) (by simp; omega)
    rw [show s.toArray.size = s.length by simp] at hcon
    refine hcon.mono ?_
    rintro e w' ⟨rfl, d', S, P⟩
    have hz : d'.size = s.length := by have := P.perm.1; simpa using this
    have hHd := S.holds hgl hH (by simpa using hz)
    obtain ⟨m, os, rfl⟩ := S
    refine ⟨rfl, d'.toList, by simpa using hz, P, ⟨some ⟨gb, 0, none⟩, cap, by simp [hz], by simp [hz]; exact h1, fun i hi => ?_⟩, below_sortWorldK w gb m d' os base hbase hB2⟩
    have hi' : i < d'.size := by simpa using hi
    refine ⟨gb, 0, rfl, Nat.lt_of_lt_of_le hgl (size_sortWorldK_c encO 2 w gb 0 m d' os), ?_, ?_⟩
    · have := (hHd.cell hi' (show 0 < 2 by omega)).1
      rw [Nat.add_zero] at this
      rw [this]
      simp [encO, List.getD_eq_getElem?_getD, hi']
    · have := (hHd.cell hi' (show 1 < 2 by omega)).1
      rw [this]
      simp [encO, List.getD_eq_getElem?_getD, hi']
end Go.Proofs.Ytjfifaooimgbaaa
/- The walk of lineUp. -/
namespace Go.Proofs.Ytjfifaooimgbaaa
open Go.Shelf Go.RowKit Go.Lib Go.Sort

set_option maxHeartbeats 1000000 in
theorem lineUp_any (g : Nat) (c : Int → Int → Int) (hb : BetterAt g c) (hO : SWO (ltOf (cfO c))) (side no : Int) (l : List (Int × Int)) (a : Option Addr) (cap : Nat) (w : World) (hB : BidsAt w a l) (hl : l.length ≤ 8796093022208) :
    Calls Try.prog 52 #[.slice a l.length cap, .int .i64 side, .int .i64 no, .func (.func g) #[] #[]] w fun e w' => ∃ v s, e = .returned (.agg #[v, .int .i64 no]) ∧ s.length = (Clr.cand side l).length ∧ Stab.Post (ltOf (cfO c)) (fun x : Int × Int => x.1) 0 (Clr.cand side l).length (Clr.cand side l).toArray s.toArray ∧ LineAt w' v s ∧ Below w.heap.size w w' := by
  obtain ⟨i0, hi, hz0, hz1, hz2⟩ := info_parts Try.info139
  have HB : Aside (BidsAt w a l) := hB
  have HG : Aside _ := hb
  clear hB hb
  go_enter Try.func52, Try.ntmps52
  go_wp2
  obtain ⟨W0, hW0⟩ : ∃ W0, W0 = (w.alloc (Obj.cells #[Value.func (Fn.func g) #[] #[]] 35)).alloc (Obj.cells #[Value.slice none 0 0, Value.int IntKind.i64 0] 109) := ⟨_, rfl⟩
  have z0 : W0.heap.size = w.heap.size + 2 := by rw [hW0]; simp
  have c0 : W0.cell? ⟨w.heap.size, 0, none⟩ = some (.func (.func g) #[] #[]) := by rw [hW0]; simp
  have c1 : W0.cell? ⟨w.heap.size + 1, 0, none⟩ = some (.slice none 0 0) := by rw [hW0]; simp
  have c2 : W0.cell? ⟨w.heap.size + 1, 1, none⟩ = some (.int .i64 0) := by rw [hW0]; simp
  have f1 : W0.frozen? ⟨w.heap.size + 1, 0, none⟩ = false := by rw [hW0]; simp
  have f2 : W0.frozen? ⟨w.heap.size + 1, 1, none⟩ = false := by rw [hW0]; simp
  have b0 : Below w.heap.size w W0 := by rw [hW0]; exact ((Below.refl _ _).alloc (Nat.le_refl _) _).alloc (by simp) _
  have F0 : Aside (W0.heap.size = w.heap.size + 2 ∧ W0.cell? ⟨w.heap.size, 0, none⟩ = some (.func (.func g) #[] #[]) ∧ W0.cell? ⟨w.heap.size + 1, 0, none⟩ = some (.slice none 0 0) ∧ W0.cell? ⟨w.heap.size + 1, 1, none⟩ = some (.int .i64 0) ∧ W0.frozen? ⟨w.heap.size + 1, 0, none⟩ = false ∧ W0.frozen? ⟨w.heap.size + 1, 1, none⟩ = false ∧ Below w.heap.size w W0) := ⟨z0, c0, c1, c2, f1, f2, b0⟩
  rw [← hW0]
  clear z0 c0 c1 c2 f1 f2 b0 hW0
  go_loopg [9, 14] l.length (fun kx v i wr => ∃ k : Nat, i = .int .i64 k ∧ k ≤ l.length ∧ l.length - k ≤ kx ∧ Aside (wr.ownsRow (w.heap.size + 2) 139 2 v (Clr.candTo side l k).length (flatO (Clr.candTo side l k))) ∧ Aside (Below (w.heap.size + 2) W0 wr))
  case atStart => exact ⟨0, rfl, Nat.zero_le _, by omega, World.ownsRow_nil _ _ _ _, Below.refl _ _⟩
  case round =>
    obtain ⟨k, rfl, hk, hkx, O1, B1⟩ := hrel
    by_cases hlt : k < l.length
    · have hltz : (k : Int) < (l.length : Int) := by omega
      obtain ⟨b, o, rfl, hbl, hc1, hc2⟩ := HB.out k hlt
      have hx1 := (B1.out.cell (p := ⟨b, o + k * 2, none⟩) (by show b < _; omega)).trans ((F0.out.2.2.2.2.2.2.cell (p := ⟨b, o + k * 2, none⟩) hbl).trans hc1)
      have hx2 := (B1.out.cell (p := ⟨b, o + k * 2 + 1, none⟩) (by show b < _; omega)).trans ((F0.out.2.2.2.2.2.2.cell (p := ⟨b, o + k * 2 + 1, none⟩) hbl).trans hc2)
      clear hc1 hc2
      obtain ⟨x1, e1⟩ : ∃ x, (l.getD k (0, 0)).1 = x := ⟨_, rfl⟩
      obtain ⟨x2, e2⟩ : ∃ x, (l.getD k (0, 0)).2 = x := ⟨_, rfl⟩
      rw [e1] at hx1
      rw [e2] at hx2
      have E : Aside ((l.getD k (0, 0)).1 = x1 ∧ (l.getD k (0, 0)).2 = x2) := ⟨e1, e2⟩
      clear e1 e2
      have z1 : w.heap.size + 2 ≤ wr.heap.size := by have := B1.out.size; rw [F0.out.1] at this; exact this
      by_cases hs : (x1 == side) = true
      · by_cases ha : 1 ≤ x2 ∧ x2 < 1000
        · have hok : Aside (Clr.okB side (l.getD k (0, 0)) = true) := by
            show Clr.okB side (l.getD k (0, 0)) = true
            unfold Clr.okB
            rw [E.out.1, E.out.2, hs, decide_eq_true ha.1, decide_eq_true ha.2]; rfl
          have hcl := Clr.candTo_le side l k
          go_wp2_with fail
          refine (allowed_yes x2 _ ha.1 ha.2).mono ?_
          rintro e w' ⟨rfl, rfl⟩
          go_wp2_with (first | (at_builtin; (refine wpList_append_own _ rfl _ _ 107 rfl (w.heap.size + 2) 139 i0 (.agg #[.int .i64 0, .int .i64 0]) 2 16 Try.underlying107 hi hz0 hz1 hz2 rfl (by decide) _ _ _ rfl ((O1.out.alloc _).alloc _) ⟨wr.heap.size + 1, 0, none⟩ 1 1 [.int .i64 (k : Int), .int .i64 x2] rfl rfl (cell_two_next _ _ _ _ _) (fun x hx => by simp at hx; rcases hx with rfl | rfl <;> rfl) (by unfold maxLen; omega) (by omega) (by simp; omega) ?_; intro v' w3 hown' hgrow3 hnil3)))
          have hcl' : w.heap.size + 2 ≤ (((wr.alloc (Obj.cells #[Value.int IntKind.i64 x1, Value.int IntKind.i64 x2] 29)).alloc (Obj.cells #[Value.int IntKind.i64 (k : Int), Value.int IntKind.i64 x2] 139))).heap.size := by simp; omega
          have B2 : Aside (Below (w.heap.size + 2) W0 w3) := Below.grown ((B1.out.alloc (by omega) _).alloc (by simp; omega) _) hgrow3 hcl' (fun j hj => (O1.out.lt _ hj).1)
          have O2 : Aside (w3.ownsRow (w.heap.size + 2) 139 2 v' (Clr.candTo side l (k + 1)).length (flatO (Clr.candTo side l (k + 1)))) := by
            show w3.ownsRow _ _ _ _ _ _
            rw [Clr.candTo_hit hok.out, flatO_append, List.length_append, E.out.2]; exact hown'
          clear hown' hgrow3 hnil3 hcl' O1 B1
          go_wp2
          go_roundg (l.length - (k + 1))
          case measure => omega
          case rel => exact ⟨k + 1, by go_num, by omega, Nat.le_refl _, O2, B2⟩
        · have hno : Aside (Clr.okB side (l.getD k (0, 0)) = false) := by
            show Clr.okB side (l.getD k (0, 0)) = false
            unfold Clr.okB
            rw [E.out.1, E.out.2]
            rcases (show x2 < 1 ∨ 1000 ≤ x2 by omega) with h | h
            · rw [decide_eq_false (show ¬ 1 ≤ x2 by omega)]; simp
            · rw [decide_eq_false (show ¬ x2 < 1000 by omega)]; simp
          go_wp2_with fail
          refine (allowed_no x2 _ (by omega)).mono ?_
          rintro e w' ⟨rfl, rfl⟩
          go_wp2
          go_roundg (l.length - (k + 1))
          case measure => omega
          case rel => exact ⟨k + 1, by go_num, by omega, Nat.le_refl _, by rw [Clr.candTo_miss hno.out]; exact O1.out.alloc _, B1.out.alloc (by omega) _⟩
      · have hs' : (x1 == side) = false := by simpa using hs
        have hno : Aside (Clr.okB side (l.getD k (0, 0)) = false) := by
          show Clr.okB side (l.getD k (0, 0)) = false
          unfold Clr.okB
          rw [E.out.1, hs']; rfl
        go_wp2
        go_roundg (l.length - (k + 1))
        case measure => omega
        case rel => exact ⟨k + 1, by go_num, by omega, Nat.le_refl _, by rw [Clr.candTo_miss hno.out]; exact O1.out.alloc _, B1.out.alloc (by omega) _⟩
    · have ek : k = l.length := by omega
      subst ek
      have hcl := Clr.candTo_le side l l.length
      have z1 : w.heap.size + 2 ≤ wr.heap.size := by have := B1.out.size; rw [F0.out.1] at this; exact this
      have cc := sort_call g c HG.out hO (Clr.candTo side l l.length) u9 (w.heap.size + 2) w.heap.size wr O1.out (by omega) z1 ((B1.out.cell (p := ⟨w.heap.size, 0, none⟩) (by show w.heap.size < _; omega)).trans F0.out.2.1) (Clr.candTo_sorted side l l.length) (by omega)
      go_wp2_with fail
      refine cc.mono ?_
      clear cc
      rintro e w' ⟨rfl, s, hsl, P, La, B2⟩
      have B3 : Aside (Below (w.heap.size + 2) W0 w') := B1.out.trans B2
      have OB : Aside (∀ k, u9.ownBlock = some k → w.heap.size + 2 ≤ k) := fun k hk => (O1.out.lt k hk).1
      clear O1
      obtain ⟨ao, cp, rfl, hcp, hbd⟩ := La
      have X : Aside (s.length = (Clr.cand side l).length ∧ Stab.Post (ltOf (cfO c)) (fun x : Int × Int => x.1) 0 (Clr.cand side l).length (Clr.cand side l).toArray s.toArray ∧ BidsAt w' ao s) := ⟨hsl, P, hbd⟩
      clear hsl P hbd B2 B1
      have c1 := (B3.out.cell (p := ⟨w.heap.size + 1, 0, none⟩) (by show w.heap.size + 1 < _; omega)).trans F0.out.2.2.1
      have c2 := (B3.out.cell (p := ⟨w.heap.size + 1, 1, none⟩) (by show w.heap.size + 1 < _; omega)).trans F0.out.2.2.2.1
      have f1 := (B3.out.frozen (p := ⟨w.heap.size + 1, 0, none⟩) (by show w.heap.size + 1 < _; omega)).trans F0.out.2.2.2.2.1
      have f2 := (B3.out.frozen (p := ⟨w.heap.size + 1, 1, none⟩) (by show w.heap.size + 1 < _; omega)).trans F0.out.2.2.2.2.2.1
      go_wp2
      refine bodyPost_ret (v := .agg #[.slice ao s.length cp, .int .i64 no]) (by simp [results, Try.results52, go_sem, c1, c2]) rfl ?_
      have B4 := ((F0.out.2.2.2.2.2.2.trans (B3.out.mono (by omega))).setCell (p := ⟨w.heap.size + 1, 0, none⟩) (by show w.heap.size ≤ w.heap.size + 1; omega) (.slice ao s.length cp)).setCell (p := ⟨w.heap.size + 1, 1, none⟩) (by show w.heap.size ≤ w.heap.size + 1; omega) (.int .i64 no)
      have hne : ∀ b o, ao = some ⟨b, o, none⟩ → b ≠ w.heap.size + 1 := fun b o hb => by
        subst hb
        have := OB.out b rfl
        omega
      exact ⟨_, s, rfl, X.out.1, X.out.2.1, ⟨ao, cp, rfl, hcp, (X.out.2.2.setCell ⟨w.heap.size + 1, 0, none⟩ _ hne).setCell ⟨w.heap.size + 1, 1, none⟩ _ hne⟩, B4⟩
end Go.Proofs.Ytjfifaooimgbaaa
/- The walks of those that only read the lines. -/
namespace Go.Proofs.Ytjfifaooimgbaaa
open Go.Shelf Go.RowKit Go.Lib Go.Sort

/-- nothing has turned; there may be new blocks. -/
def Gr (w w' : World) : Prop := ∃ q os, w' = grow (w.drewN q) os
theorem Gr.refl (w : World) : Gr w w := ⟨0, #[], by rw [grow_empty]; rfl⟩
theorem Gr.trans {a b c : World} (h : Gr a b) (k : Gr b c) : Gr a c := by
  obtain ⟨q, os, rfl⟩ := h
  obtain ⟨q', os', rfl⟩ := k
  exact ⟨q + q', os ++ os', by show grow (grow ((a.drewN q).drewN q') os) os' = _; rw [grow_grow, World.drewN_drewN]⟩
theorem Gr.alloc {a b : World} (h : Gr a b) (o : Obj) : Gr a (b.alloc o) := h.trans ⟨0, #[o], by rw [alloc_eq_grow]; rfl⟩
theorem Gr.drew {a b : World} (h : Gr a b) : Gr a b.drew := h.trans ⟨1, #[], by rw [grow_empty]; rfl⟩
theorem Gr.drewN {a b : World} (h : Gr a b) (n : Nat) : Gr a (b.drewN n) := h.trans ⟨n, #[], by rw [grow_empty]⟩
theorem Gr.below {w w' : World} (h : Gr w w') : Below w.heap.size w w' := by
  obtain ⟨q, os, rfl⟩ := h
  exact below_grow w q os
theorem BidsAt.gr {w w' : World} {a : Option Addr} {s : List (Int × Int)} (h : BidsAt w a s) (g : Gr w w') : BidsAt w' a s := fun i hi => by
  obtain ⟨b, o, ha, h1, h2, h3⟩ := h i hi
  exact ⟨b, o, ha, Nat.lt_of_lt_of_le h1 g.below.size, (g.below.cell (p := ⟨b, o + i * 2, none⟩) h1).trans h2, (g.below.cell (p := ⟨b, o + i * 2 + 1, none⟩) h1).trans h3⟩

def priceAt (no : Int) (s : List (Int × Int)) (i : Nat) : Int := if i < s.length then (s.getD i (0, 0)).2 else no

set_option maxHeartbeats 400000 in
theorem price_any (a : Option Addr) (cap : Nat) (no : Int) (s : List (Int × Int)) (i : Nat) (w : World) (hB : BidsAt w a s) :
    Calls Try.prog 75 #[.agg #[.slice a s.length cap, .int .i64 no], .int .i64 i] w fun e w' => e = .returned (.int .i64 (priceAt no s i)) ∧ Gr w w' := by
  by_cases h : i < s.length
  · obtain ⟨b, o, rfl, h1, h2, h3⟩ := hB i h
    have e : priceAt no s i = (s.getD i (0, 0)).2 := by unfold priceAt; rw [if_pos h]
    rw [e]
    generalize (s.getD i (0, 0)).2 = p at h3 ⊢
    clear hB e h2
    have hz : (i : Int) < (s.length : Int) := by omega
    have hb2 : b < (w.alloc (Obj.cells #[Value.slice (some ⟨b, o, none⟩) s.length cap, Value.int IntKind.i64 no] 109)).heap.size := by simp; omega
    go_enter Try.func75, Try.ntmps75
    go_wp2
    go_ret
    exact ⟨rfl, (Gr.refl _).alloc _⟩
  · have e : priceAt no s i = no := by unfold priceAt; rw [if_neg h]
    rw [e]
    have hz : ¬ (i : Int) < (s.length : Int) := by omega
    go_enter Try.func75, Try.ntmps75
    go_wp2
    go_ret
    exact ⟨rfl, (Gr.refl _).alloc _⟩

/-- how many pairs: the first k of both agree in price, the next ones don't. -/
structure IsK (B S : List (Int × Int)) (k : Nat) : Prop where
  yes : ∀ i, i < k → priceAt 1000 S i ≤ priceAt 0 B i
  no : priceAt 0 B k < priceAt 1000 S k
/-- every price is one that may be. -/
def Priced (s : List (Int × Int)) : Prop := ∀ x ∈ s, 1 ≤ x.2 ∧ x.2 < 1000
theorem Priced.at {s : List (Int × Int)} (h : Priced s) {i : Nat} (hi : i < s.length) : 1 ≤ (s.getD i (0, 0)).2 ∧ (s.getD i (0, 0)).2 < 1000 := by
  have := h (s[i]) (List.getElem_mem hi)
  rw [List.getD_eq_getElem?_getD, List.getElem?_eq_getElem hi]; exact this
theorem pair_in {B S : List (Int × Int)} (hB : Priced B) (hS : Priced S) {i : Nat} (h : priceAt 1000 S i ≤ priceAt 0 B i) : i < B.length ∧ i < S.length := by
  unfold priceAt at h
  by_cases h1 : i < S.length
  · by_cases h2 : i < B.length
    · exact ⟨h2, h1⟩
    · rw [if_pos h1, if_neg h2] at h; have := hS.at h1; omega
  · by_cases h2 : i < B.length
    · rw [if_neg h1, if_pos h2] at h; have := hB.at h2; omega
    · rw [if_neg h1, if_neg h2] at h; omega

theorem Gr.cell {w w' : World} (h : Gr w w') {b o : Nat} {v : Value} (hb : b < w.heap.size) (hc : w.cell? ⟨b, o, none⟩ = some v) : w'.cell? ⟨b, o, none⟩ = some v := (h.below.cell (p := ⟨b, o, none⟩) hb).trans hc

/-- the boxes in which two lines were handed over. -/
def Boxes (w : World) (x : Nat) (v v' : Value) : Prop := x + 1 < w.heap.size ∧ w.cell? ⟨x, 0, none⟩ = some v ∧ w.cell? ⟨x, 1, none⟩ = some (.int .i64 0) ∧ w.cell? ⟨x + 1, 0, none⟩ = some v' ∧ w.cell? ⟨x + 1, 1, none⟩ = some (.int .i64 1000)
theorem Boxes.gr {w w' : World} {x : Nat} {v v' : Value} (h : Boxes w x v v') (g : Gr w w') : Boxes w' x v v' :=
  ⟨Nat.lt_of_lt_of_le h.1 g.below.size, g.cell (by have := h.1; omega) h.2.1, g.cell (by have := h.1; omega) h.2.2.1, g.cell h.1 h.2.2.2.1, g.cell h.1 h.2.2.2.2⟩
theorem boxes_made (w : World) (v v' : Value) : Boxes ((w.alloc (Obj.cells #[v, Value.int IntKind.i64 0] 109)).alloc (Obj.cells #[v', Value.int IntKind.i64 1000] 109)) w.heap.size v v' := by
  refine ⟨by simp, by simp, by simp, by simp, by simp⟩

set_option maxHeartbeats 1000000 in
theorem countPairs_any (a a' : Option Addr) (cap cap' : Nat) (B S : List (Int × Int)) (w : World) (hB : BidsAt w a B) (hS : BidsAt w a' S) (pB : Priced B) (pS : Priced S) (hb : B.length ≤ 8796093022208) (hs : S.length ≤ 8796093022208) :
    Calls Try.prog 56 #[.agg #[.slice a B.length cap, .int .i64 0], .agg #[.slice a' S.length cap', .int .i64 1000]] w fun e w' => ∃ k : Nat, e = .returned (.int .i64 k) ∧ IsK B S k ∧ k ≤ B.length ∧ k ≤ S.length ∧ Gr w w' := by
  have HB : Aside _ := hB
  have HS : Aside _ := hS
  have PB : Aside _ := pB
  have PS : Aside _ := pS
  clear hB hS pB pS
  have mixed : Try.prog.follows .mixedOrders = true := by kernel_rfl
  go_enter Try.func56, Try.ntmps56
  go_wp2
  have BX := boxes_made w (Value.slice a B.length cap) (Value.slice a' S.length cap')
  have G0 : Gr w ((w.alloc (Obj.cells #[Value.slice a B.length cap, Value.int IntKind.i64 0] 109)).alloc (Obj.cells #[Value.slice a' S.length cap', Value.int IntKind.i64 1000] 109)) := ((Gr.refl w).alloc _).alloc _
  generalize (w.alloc (Obj.cells #[Value.slice a B.length cap, Value.int IntKind.i64 0] 109)).alloc (Obj.cells #[Value.slice a' S.length cap', Value.int IntKind.i64 1000] 109) = W0 at BX G0 ⊢
  have BX0 : Aside _ := BX
  have G00 : Aside _ := G0
  clear BX G0
  go_loopg [5] (B.length + 1) (fun kx s wr => ∃ k : Nat, s = .int .i64 k ∧ k ≤ B.length ∧ k ≤ S.length ∧ B.length + 1 - k ≤ kx ∧ Aside (∀ i, i < k → priceAt 1000 S i ≤ priceAt 0 B i) ∧ Aside (Boxes wr w.heap.size (Value.slice a B.length cap) (Value.slice a' S.length cap')) ∧ Aside (Gr w wr))
  case atStart => exact ⟨0, rfl, by omega, by omega, by omega, (fun i hi => by omega : ∀ i, i < 0 → priceAt 1000 S i ≤ priceAt 0 B i), BX0, G00⟩
  case round =>
    clear BX0 G00
    obtain ⟨k, rfl, hk1, hk2, hkx, I, BX, G⟩ := hrel
    have c0 : ∀ n os, (grow (wr.drewN n) os).cell? ⟨w.heap.size, 0, none⟩ = some (Value.slice a B.length cap) := fun n os => (BX.out.gr ⟨n, os, rfl⟩).2.1
    have c1 : ∀ n os, (grow (wr.drewN n) os).cell? ⟨w.heap.size, 1, none⟩ = some (.int .i64 0) := fun n os => (BX.out.gr ⟨n, os, rfl⟩).2.2.1
    have c2 : ∀ n os, (grow (wr.drewN n) os).cell? ⟨w.heap.size + 1, 0, none⟩ = some (Value.slice a' S.length cap') := fun n os => (BX.out.gr ⟨n, os, rfl⟩).2.2.2.1
    have c3 : ∀ n os, (grow (wr.drewN n) os).cell? ⟨w.heap.size + 1, 1, none⟩ = some (.int .i64 1000) := fun n os => (BX.out.gr ⟨n, os, rfl⟩).2.2.2.2
    have p1 : ∀ n os, Calls Try.prog 75 #[.agg #[.slice a B.length cap, .int .i64 0], .int .i64 k] (grow (wr.drewN n) os) fun e w' => e = .returned (.int .i64 (priceAt 0 B k)) ∧ ∃ q os', w' = grow ((grow (wr.drewN n) os).drewN q) os' := fun n os => price_any a cap 0 B k _ (BidsAt.gr HB.out (G.out.trans ⟨n, os, rfl⟩))
    have p2 : ∀ n os, Calls Try.prog 75 #[.agg #[.slice a' S.length cap', .int .i64 1000], .int .i64 k] (grow (wr.drewN n) os) fun e w' => e = .returned (.int .i64 (priceAt 1000 S k)) ∧ ∃ q os', w' = grow ((grow (wr.drewN n) os).drewN q) os' := fun n os => price_any a' cap' 1000 S k _ (BidsAt.gr HS.out (G.out.trans ⟨n, os, rfl⟩))
    have PP : Aside (priceAt 1000 S k ≤ priceAt 0 B k → k < B.length ∧ k < S.length) := fun h => pair_in PB.out PS.out h
    have I' : Aside ((∀ i, i < k → priceAt 1000 S i ≤ priceAt 0 B i) ∧ (priceAt 1000 S k ≤ priceAt 0 B k → ∀ i, i < k + 1 → priceAt 1000 S i ≤ priceAt 0 B i) ∧ (priceAt 0 B k < priceAt 1000 S k → IsK B S k)) :=
      ⟨I.out, fun h i hi => by
        by_cases e : i = k
        · rw [e]; exact h
        · exact I.out i (by omega), fun h => ⟨I.out, h⟩⟩
    clear I
    generalize priceAt 0 B k = pb at p1 PP I'
    generalize priceAt 1000 S k = ps at p2 PP I'
    by_cases hle : ps ≤ pb
    · have hlt := PP.out hle
      have hd : decide (ps ≤ pb) = true := decide_eq_true hle
      go_wp2_with fail
      go_quiet_grown (first | (go_at_call_of 75 (Value.int IntKind.i64 1000); refine Calls.grown_of (p2 _ _)) | (go_at_call 75; refine Calls.grown_of (p1 _ _)))
      go_wp2
      go_roundg (B.length + 1 - (k + 1))
      case measure => omega
      case rel => exact ⟨k + 1, by go_num, by omega, by omega, Nat.le_refl _, I'.out.2.1 hle, BX.out.gr ⟨nq, osq, rfl⟩, G.out.trans ⟨nq, osq, rfl⟩⟩
    · have hd : decide (ps ≤ pb) = false := decide_eq_false hle
      go_wp2_with fail
      go_quiet_grown (first | (go_at_call_of 75 (Value.int IntKind.i64 1000); refine Calls.grown_of (p2 _ _)) | (go_at_call 75; refine Calls.grown_of (p1 _ _)))
      go_wp2
      go_ret
      exact ⟨k, rfl, I'.out.2.2 (by omega), hk1, hk2, G.out.trans ⟨nq, osq, rfl⟩⟩
end Go.Proofs.Ytjfifaooimgbaaa
/- The walks of settle and gain. -/
namespace Go.Proofs.Ytjfifaooimgbaaa
open Go.Shelf Go.RowKit Go.Lib Go.Sort

theorem Priced.bd {s : List (Int × Int)} (h : Priced s) (no : Int) (hno : 0 ≤ no ∧ no ≤ 1000) (i : Nat) : 0 ≤ priceAt no s i ∧ priceAt no s i ≤ 1000 := by
  unfold priceAt
  by_cases hi : i < s.length
  · rw [if_pos hi]; have := h.at hi; omega
  · rw [if_neg hi]; exact hno

def midF (B S : List (Int × Int)) (k : Nat) : Int := (priceAt 0 B k + priceAt 1000 S k) / 2
/-- who trades, what is paid, what is got. -/
def settleF (B S : List (Int × Int)) (k : Nat) : Nat × Int × Int :=
  if k = 0 then (0, 0, 0) else
  if priceAt 1000 S (k - 1) ≤ midF B S k ∧ midF B S k ≤ priceAt 0 B (k - 1) then (k, midF B S k, midF B S k) else
  if k = 1 then (0, 0, 0) else (k - 1, priceAt 0 B (k - 1), priceAt 1000 S (k - 1))
def gainF (B S : List (Int × Int)) : Nat → Int
  | 0 => 0
  | n + 1 => gainF B S n + (priceAt 0 B n - priceAt 1000 S n)
theorem gainF_bd {B S : List (Int × Int)} (hB : Priced B) (hS : Priced S) : ∀ n : Nat, -(1000 * (n : Int)) ≤ gainF B S n ∧ gainF B S n ≤ 1000 * (n : Int)
  | 0 => by simp [gainF]
  | n + 1 => by
    have ih := gainF_bd hB hS n
    have h1 := hB.bd 0 (by omega) n
    have h2 := hS.bd 1000 (by omega) n
    rw [gainF]; omega

set_option maxHeartbeats 1000000 in
theorem settle_any (a a' : Option Addr) (cap cap' : Nat) (B S : List (Int × Int)) (k : Nat) (w : World) (hB : BidsAt w a B) (hS : BidsAt w a' S) (pB : Priced B) (pS : Priced S) (hk : k ≤ 8796093022208) :
    Calls Try.prog 57 #[.agg #[.slice a B.length cap, .int .i64 0], .agg #[.slice a' S.length cap', .int .i64 1000], .int .i64 k] w fun e w' =>
      e = .returned (.tuple #[.int .i64 (settleF B S k).1, .int .i64 (settleF B S k).2.1, .int .i64 (settleF B S k).2.2]) ∧ Gr w w' := by
  have mixed : Try.prog.follows .mixedOrders = true := by kernel_rfl
  have HB : Aside _ := hB
  have HS : Aside _ := hS
  by_cases h0 : k = 0
  · subst h0
    clear hB hS pB pS
    go_enter Try.func57, Try.ntmps57
    go_wp2
    go_ret3
    exact ⟨rfl, ((Gr.refl w).alloc _).alloc _⟩
  · have b1 := pB.bd 0 (by omega) (k - 1)
    have b2 := pS.bd 1000 (by omega) (k - 1)
    have b3 := pB.bd 0 (by omega) k
    have b4 := pS.bd 1000 (by omega) k
    clear hB hS pB pS
    have h0z : ((k : Int) == 0) = false := beq_eq_false_iff_ne.2 (by omega)
    obtain ⟨kp, hkp⟩ : ∃ kp, k = kp + 1 := ⟨k - 1, by omega⟩
    have hkz : (k : Int) - 1 = (kp : Int) := by omega
    have FIN : Aside (settleF B S k = if priceAt 1000 S kp ≤ midF B S k ∧ midF B S k ≤ priceAt 0 B kp then (k, midF B S k, midF B S k) else if k = 1 then (0, 0, 0) else (kp, priceAt 0 B kp, priceAt 1000 S kp)) := by
      show settleF B S k = _
      unfold settleF; rw [if_neg h0, show k - 1 = kp by omega]
    rw [show k - 1 = kp by omega] at b1 b2
    have hk2 : kp + 1 ≤ k := by omega
    have hk3 : k ≤ kp + 1 := by omega
    clear hkp
    generalize settleF B S k = fin at FIN ⊢
    unfold midF at FIN
    have q1 : ∀ W, Gr w W → Calls Try.prog 75 #[.agg #[.slice a B.length cap, .int .i64 0], .int .i64 kp] W fun e w' => e = .returned (.int .i64 (priceAt 0 B kp)) ∧ ∃ q os', w' = grow (W.drewN q) os' := fun W hW => price_any a cap 0 B kp _ (BidsAt.gr HB.out hW)
    have q2 : ∀ W, Gr w W → Calls Try.prog 75 #[.agg #[.slice a' S.length cap', .int .i64 1000], .int .i64 kp] W fun e w' => e = .returned (.int .i64 (priceAt 1000 S kp)) ∧ ∃ q os', w' = grow (W.drewN q) os' := fun W hW => price_any a' cap' 1000 S kp _ (BidsAt.gr HS.out hW)
    have q3 : ∀ W, Gr w W → Calls Try.prog 75 #[.agg #[.slice a B.length cap, .int .i64 0], .int .i64 k] W fun e w' => e = .returned (.int .i64 (priceAt 0 B k)) ∧ ∃ q os', w' = grow (W.drewN q) os' := fun W hW => price_any a cap 0 B k _ (BidsAt.gr HB.out hW)
    have q4 : ∀ W, Gr w W → Calls Try.prog 75 #[.agg #[.slice a' S.length cap', .int .i64 1000], .int .i64 k] W fun e w' => e = .returned (.int .i64 (priceAt 1000 S k)) ∧ ∃ q os', w' = grow (W.drewN q) os' := fun W hW => price_any a' cap' 1000 S k _ (BidsAt.gr HS.out hW)
    generalize priceAt 0 B kp = x1 at q1 FIN b1
    generalize priceAt 1000 S kp = x2 at q2 FIN b2
    generalize priceAt 0 B k = x3 at q3 FIN b3
    generalize priceAt 1000 S k = x4 at q4 FIN b4
    have Q1 : Aside _ := q1
    have Q2 : Aside _ := q2
    have Q3 : Aside _ := q3
    have Q4 : Aside _ := q4
    clear q1 q2 q3 q4
    have hwk : IntKind.i64.wrap (kp : Int) = (kp : Int) := by rw [IntKind.wrap_i64]; omega
    have hws : IntKind.i64.wrap (x3 + x4) = x3 + x4 := by rw [IntKind.wrap_i64]; omega
    have hwd : IntKind.i64.wrap ((x3 + x4) / 2) = (x3 + x4) / 2 := by rw [IntKind.wrap_i64]; omega
    have hwt : (x3 + x4).tdiv 2 = (x3 + x4) / 2 := Int.tdiv_eq_ediv_of_nonneg (by omega)
    go_enter Try.func57, Try.ntmps57
    go_wp2
    have BX := boxes_made w (Value.slice a B.length cap) (Value.slice a' S.length cap')
    have G0 : Gr w ((w.alloc (Obj.cells #[Value.slice a B.length cap, Value.int IntKind.i64 0] 109)).alloc (Obj.cells #[Value.slice a' S.length cap', Value.int IntKind.i64 1000] 109)) := ((Gr.refl w).alloc _).alloc _
    generalize (w.alloc (Obj.cells #[Value.slice a B.length cap, Value.int IntKind.i64 0] 109)).alloc (Obj.cells #[Value.slice a' S.length cap', Value.int IntKind.i64 1000] 109) = W0 at BX G0 ⊢
    have BX0 : Aside _ := BX
    have G00 : Aside _ := G0
    clear BX G0
    have c0 : ∀ n os, (grow (W0.drewN n) os).cell? ⟨w.heap.size, 0, none⟩ = some (Value.slice a B.length cap) := fun n os => (Boxes.gr BX0.out ⟨n, os, rfl⟩).2.1
    have c1 : ∀ n os, (grow (W0.drewN n) os).cell? ⟨w.heap.size, 1, none⟩ = some (.int .i64 0) := fun n os => (Boxes.gr BX0.out ⟨n, os, rfl⟩).2.2.1
    have c2 : ∀ n os, (grow (W0.drewN n) os).cell? ⟨w.heap.size + 1, 0, none⟩ = some (Value.slice a' S.length cap') := fun n os => (Boxes.gr BX0.out ⟨n, os, rfl⟩).2.2.2.1
    have c3 : ∀ n os, (grow (W0.drewN n) os).cell? ⟨w.heap.size + 1, 1, none⟩ = some (.int .i64 1000) := fun n os => (Boxes.gr BX0.out ⟨n, os, rfl⟩).2.2.2.2
    have p1 := fun n os => Q1.out (grow (W0.drewN n) os) (Gr.trans G00.out ⟨n, os, rfl⟩)
    have p2 := fun n os => Q2.out (grow (W0.drewN n) os) (Gr.trans G00.out ⟨n, os, rfl⟩)
    go_quiet_grown (first | (go_at_call_of 75 (Value.int IntKind.i64 1000); refine Calls.grown_of (p2 _ _)) | (go_at_call 75; refine Calls.grown_of (p1 _ _)))
    clear p1 p2
    have BX1 : Aside _ := Boxes.gr BX0.out ⟨nq, osq, rfl⟩
    have G1 : Aside _ := Gr.trans G00.out ⟨nq, osq, rfl⟩
    clear c0 c1 c2 c3 BX0 G00
    generalize grow (W0.drewN nq) osq = W1 at BX1 G1 ⊢
    have c0 : ∀ n os, (grow (W1.drewN n) os).cell? ⟨w.heap.size, 0, none⟩ = some (Value.slice a B.length cap) := fun n os => (Boxes.gr BX1.out ⟨n, os, rfl⟩).2.1
    have c1 : ∀ n os, (grow (W1.drewN n) os).cell? ⟨w.heap.size, 1, none⟩ = some (.int .i64 0) := fun n os => (Boxes.gr BX1.out ⟨n, os, rfl⟩).2.2.1
    have c2 : ∀ n os, (grow (W1.drewN n) os).cell? ⟨w.heap.size + 1, 0, none⟩ = some (Value.slice a' S.length cap') := fun n os => (Boxes.gr BX1.out ⟨n, os, rfl⟩).2.2.2.1
    have c3 : ∀ n os, (grow (W1.drewN n) os).cell? ⟨w.heap.size + 1, 1, none⟩ = some (.int .i64 1000) := fun n os => (Boxes.gr BX1.out ⟨n, os, rfl⟩).2.2.2.2
    go_wp2_with fail
    have p1 := fun n os => Q3.out (grow (W1.drewN n) os) (Gr.trans G1.out ⟨n, os, rfl⟩)
    have p2 := fun n os => Q4.out (grow (W1.drewN n) os) (Gr.trans G1.out ⟨n, os, rfl⟩)
    go_quiet_grown (first | (go_at_call_of 75 (Value.int IntKind.i64 1000); refine Calls.grown_of (p2 _ _)) | (go_at_call 75; refine Calls.grown_of (p1 _ _)))
    clear p1 p2
    have G2 : Aside _ := Gr.trans G1.out ⟨nq, osq, rfl⟩
    clear c0 c1 c2 c3 BX1 G1
    generalize grow (W1.drewN nq) osq = W2 at G2 ⊢
    by_cases hA : x2 ≤ (x3 + x4) / 2
    · by_cases hC : (x3 + x4) / 2 ≤ x1
      · go_wp2
        go_ret3
        rw [FIN.out, if_pos ⟨hA, hC⟩]
        exact ⟨rfl, G2.out⟩
      · by_cases h1 : k = 1
        · have h1z : ((k : Int) == 1) = true := beq_iff_eq.2 (by omega)
          go_wp2
          go_ret3
          rw [FIN.out, if_neg (by omega), if_pos h1]
          exact ⟨rfl, G2.out⟩
        · have h1z : ((k : Int) == 1) = false := beq_eq_false_iff_ne.2 (by omega)
          go_wp2
          go_ret3
          rw [FIN.out, if_neg (by omega), if_neg h1]
          exact ⟨rfl, G2.out⟩
    · by_cases h1 : k = 1
      · have h1z : ((k : Int) == 1) = true := beq_iff_eq.2 (by omega)
        go_wp2
        go_ret3
        rw [FIN.out, if_neg (by omega), if_pos h1]
        exact ⟨rfl, G2.out⟩
      · have h1z : ((k : Int) == 1) = false := beq_eq_false_iff_ne.2 (by omega)
        go_wp2
        go_ret3
        rw [FIN.out, if_neg (by omega), if_neg h1]
        exact ⟨rfl, G2.out⟩

set_option maxHeartbeats 1000000 in
theorem gain_any (a a' : Option Addr) (cap cap' : Nat) (B S : List (Int × Int)) (n : Nat) (w : World) (hB : BidsAt w a B) (hS : BidsAt w a' S) (pB : Priced B) (pS : Priced S) (hn : n ≤ 8796093022208) :
    Calls Try.prog 60 #[.agg #[.slice a B.length cap, .int .i64 0], .agg #[.slice a' S.length cap', .int .i64 1000], .int .i64 n] w fun e w' => e = .returned (.int .i64 (gainF B S n)) ∧ Gr w w' := by
  have mixed : Try.prog.follows .mixedOrders = true := by kernel_rfl
  have HB : Aside _ := hB
  have HS : Aside _ := hS
  have PB : Aside _ := pB
  have PS : Aside _ := pS
  clear hB hS pB pS
  go_enter Try.func60, Try.ntmps60
  go_wp2
  have BX := boxes_made w (Value.slice a B.length cap) (Value.slice a' S.length cap')
  have G0 : Gr w ((w.alloc (Obj.cells #[Value.slice a B.length cap, Value.int IntKind.i64 0] 109)).alloc (Obj.cells #[Value.slice a' S.length cap', Value.int IntKind.i64 1000] 109)) := ((Gr.refl w).alloc _).alloc _
  generalize (w.alloc (Obj.cells #[Value.slice a B.length cap, Value.int IntKind.i64 0] 109)).alloc (Obj.cells #[Value.slice a' S.length cap', Value.int IntKind.i64 1000] 109) = W0 at BX G0 ⊢
  have BX0 : Aside _ := BX
  have G00 : Aside _ := G0
  clear BX G0
  go_loopg [7, 10] n (fun kx s t wr => ∃ k : Nat, s = .int .i64 (gainF B S k) ∧ t = .int .i64 k ∧ k ≤ n ∧ n - k ≤ kx ∧ Aside (Boxes wr w.heap.size (Value.slice a B.length cap) (Value.slice a' S.length cap')) ∧ Aside (Gr w wr))
  case atStart => exact ⟨0, rfl, rfl, by omega, by omega, BX0, G00⟩
  case round =>
    clear BX0 G00
    obtain ⟨k, rfl, rfl, hk, hkx, BX, G⟩ := hrel
    by_cases hlt : k < n
    · have hltz : (k : Int) < (n : Int) := by omega
      have c0 : ∀ n os, (grow (wr.drewN n) os).cell? ⟨w.heap.size, 0, none⟩ = some (Value.slice a B.length cap) := fun n os => (BX.out.gr ⟨n, os, rfl⟩).2.1
      have c1 : ∀ n os, (grow (wr.drewN n) os).cell? ⟨w.heap.size, 1, none⟩ = some (.int .i64 0) := fun n os => (BX.out.gr ⟨n, os, rfl⟩).2.2.1
      have c2 : ∀ n os, (grow (wr.drewN n) os).cell? ⟨w.heap.size + 1, 0, none⟩ = some (Value.slice a' S.length cap') := fun n os => (BX.out.gr ⟨n, os, rfl⟩).2.2.2.1
      have c3 : ∀ n os, (grow (wr.drewN n) os).cell? ⟨w.heap.size + 1, 1, none⟩ = some (.int .i64 1000) := fun n os => (BX.out.gr ⟨n, os, rfl⟩).2.2.2.2
      have p1 : ∀ n os, Calls Try.prog 75 #[.agg #[.slice a B.length cap, .int .i64 0], .int .i64 k] (grow (wr.drewN n) os) fun e w' => e = .returned (.int .i64 (priceAt 0 B k)) ∧ ∃ q os', w' = grow ((grow (wr.drewN n) os).drewN q) os' := fun n os => price_any a cap 0 B k _ (BidsAt.gr HB.out (G.out.trans ⟨n, os, rfl⟩))
      have p2 : ∀ n os, Calls Try.prog 75 #[.agg #[.slice a' S.length cap', .int .i64 1000], .int .i64 k] (grow (wr.drewN n) os) fun e w' => e = .returned (.int .i64 (priceAt 1000 S k)) ∧ ∃ q os', w' = grow ((grow (wr.drewN n) os).drewN q) os' := fun n os => price_any a' cap' 1000 S k _ (BidsAt.gr HS.out (G.out.trans ⟨n, os, rfl⟩))
      have b1 := Priced.bd PB.out 0 (by omega) k
      have b2 := Priced.bd PS.out 1000 (by omega) k
      have b3 := gainF_bd PB.out PS.out k
      have E : Aside (gainF B S (k + 1) = gainF B S k + (priceAt 0 B k - priceAt 1000 S k)) := rfl
      generalize gainF B S k = s0 at b3 E ⊢
      generalize priceAt 0 B k = x1 at p1 b1 E
      generalize priceAt 1000 S k = x2 at p2 b2 E
      have w1 : IntKind.i64.wrap (x1 - x2) = x1 - x2 := by rw [IntKind.wrap_i64]; omega
      have w2 : IntKind.i64.wrap (s0 + (x1 - x2)) = s0 + (x1 - x2) := by rw [IntKind.wrap_i64]; omega
      go_wp2_with fail
      go_quiet_grown (first | (go_at_call_of 75 (Value.int IntKind.i64 1000); refine Calls.grown_of (p2 _ _)) | (go_at_call 75; refine Calls.grown_of (p1 _ _)))
      go_wp2
      go_roundg (n - (k + 1))
      case measure => omega
      case rel => exact ⟨k + 1, by have := E.out; rw [this], by go_num, by omega, Nat.le_refl _, BX.out.gr ⟨nq, osq, rfl⟩, G.out.trans ⟨nq, osq, rfl⟩⟩
    · have e : k = n := by omega
      subst e
      have hltz : ¬ (k : Int) < (k : Int) := by omega
      go_wp2
      go_ret
      exact ⟨rfl, G.out⟩
end Go.Proofs.Ytjfifaooimgbaaa
