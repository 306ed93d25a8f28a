/- The walk of lineUp. -/
import Derived.Test.YtjfifaooimgbaaaSort
namespace Go.Proofs.Ytjfifaooimgbaaa
open Go.Shelf Go.RowKit Go.Lib Go.Sort

set_option maxHeartbeats 1000000 in
theorem lineUp_any (g : Nat) (c : Int → Int → Int) (hb : BetterAt g c) (hO : SWO (ltOf (cfO c))) (side no : Int) (l : List (Int × Int)) (a : Option Addr) (cap : Nat) (w : World) (hB : BidsAt w a l) (hl : l.length ≤ 8796093022208) :
    Calls Try.prog 52 #[.slice a l.length cap, .int .i64 side, .int .i64 no, .func (.func g) #[] #[]] w fun e w' => ∃ v s, e = .returned (.agg #[v, .int .i64 no]) ∧ s.length = (Clr.cand side l).length ∧ Stab.Post (ltOf (cfO c)) (fun x : Int × Int => x.1) 0 (Clr.cand side l).length (Clr.cand side l).toArray s.toArray ∧ LineAt w' v s ∧ Below w.heap.size w w' := by
  obtain ⟨i0, hi, hz0, hz1, hz2⟩ := info_parts Try.info139
  have HB : Aside (BidsAt w a l) := hB
  have HG : Aside _ := hb
  clear hB hb
  go_enter Try.func52, Try.ntmps52
  go_wp2
  obtain ⟨W0, hW0⟩ : ∃ W0, W0 = (w.alloc (Obj.cells #[Value.func (Fn.func g) #[] #[]] 35)).alloc (Obj.cells #[Value.slice none 0 0, Value.int IntKind.i64 0] 109) := ⟨_, rfl⟩
  have z0 : W0.heap.size = w.heap.size + 2 := by rw [hW0]; simp
  have c0 : W0.cell? ⟨w.heap.size, 0, none⟩ = some (.func (.func g) #[] #[]) := by rw [hW0]; simp
  have c1 : W0.cell? ⟨w.heap.size + 1, 0, none⟩ = some (.slice none 0 0) := by rw [hW0]; simp
  have c2 : W0.cell? ⟨w.heap.size + 1, 1, none⟩ = some (.int .i64 0) := by rw [hW0]; simp
  have f1 : W0.frozen? ⟨w.heap.size + 1, 0, none⟩ = false := by rw [hW0]; simp
  have f2 : W0.frozen? ⟨w.heap.size + 1, 1, none⟩ = false := by rw [hW0]; simp
  have b0 : Below w.heap.size w W0 := by rw [hW0]; exact ((Below.refl _ _).alloc (Nat.le_refl _) _).alloc (by simp) _
  have F0 : Aside (W0.heap.size = w.heap.size + 2 ∧ W0.cell? ⟨w.heap.size, 0, none⟩ = some (.func (.func g) #[] #[]) ∧ W0.cell? ⟨w.heap.size + 1, 0, none⟩ = some (.slice none 0 0) ∧ W0.cell? ⟨w.heap.size + 1, 1, none⟩ = some (.int .i64 0) ∧ W0.frozen? ⟨w.heap.size + 1, 0, none⟩ = false ∧ W0.frozen? ⟨w.heap.size + 1, 1, none⟩ = false ∧ Below w.heap.size w W0) := ⟨z0, c0, c1, c2, f1, f2, b0⟩
  rw [← hW0]
  clear z0 c0 c1 c2 f1 f2 b0 hW0
  go_loopg [9, 14] l.length (fun kx v i wr => ∃ k : Nat, i = .int .i64 k ∧ k ≤ l.length ∧ l.length - k ≤ kx ∧ Aside (wr.ownsRow (w.heap.size + 2) 139 2 v (Clr.candTo side l k).length (flatO (Clr.candTo side l k))) ∧ Aside (Below (w.heap.size + 2) W0 wr))
  case atStart => exact ⟨0, rfl, Nat.zero_le _, by omega, World.ownsRow_nil _ _ _ _, Below.refl _ _⟩
  case round =>
    obtain ⟨k, rfl, hk, hkx, O1, B1⟩ := hrel
    by_cases hlt : k < l.length
    · have hltz : (k : Int) < (l.length : Int) := by omega
      obtain ⟨b, o, rfl, hbl, hc1, hc2⟩ := HB.out k hlt
      have hx1 := (B1.out.cell (p := ⟨b, o + k * 2, none⟩) (by show b < _; omega)).trans ((F0.out.2.2.2.2.2.2.cell (p := ⟨b, o + k * 2, none⟩) hbl).trans hc1)
      have hx2 := (B1.out.cell (p := ⟨b, o + k * 2 + 1, none⟩) (by show b < _; omega)).trans ((F0.out.2.2.2.2.2.2.cell (p := ⟨b, o + k * 2 + 1, none⟩) hbl).trans hc2)
      clear hc1 hc2
      obtain ⟨x1, e1⟩ : ∃ x, (l.getD k (0, 0)).1 = x := ⟨_, rfl⟩
      obtain ⟨x2, e2⟩ : ∃ x, (l.getD k (0, 0)).2 = x := ⟨_, rfl⟩
      rw [e1] at hx1
      rw [e2] at hx2
      have E : Aside ((l.getD k (0, 0)).1 = x1 ∧ (l.getD k (0, 0)).2 = x2) := ⟨e1, e2⟩
      clear e1 e2
      have z1 : w.heap.size + 2 ≤ wr.heap.size := by have := B1.out.size; rw [F0.out.1] at this; exact this
      by_cases hs : (x1 == side) = true
      · by_cases ha : 1 ≤ x2 ∧ x2 < 1000
        · have hok : Aside (Clr.okB side (l.getD k (0, 0)) = true) := by
            show Clr.okB side (l.getD k (0, 0)) = true
            unfold Clr.okB
            rw [E.out.1, E.out.2, hs, decide_eq_true ha.1, decide_eq_true ha.2]; rfl
          have hcl := Clr.candTo_le side l k
          go_wp2_with fail
          refine (allowed_yes x2 _ ha.1 ha.2).mono ?_
          rintro e w' ⟨rfl, rfl⟩
          go_wp2_with (first | (at_builtin; (refine wpList_append_own _ rfl _ _ 107 rfl (w.heap.size + 2) 139 i0 (.agg #[.int .i64 0, .int .i64 0]) 2 16 Try.underlying107 hi hz0 hz1 hz2 rfl (by decide) _ _ _ rfl ((O1.out.alloc _).alloc _) ⟨wr.heap.size + 1, 0, none⟩ 1 1 [.int .i64 (k : Int), .int .i64 x2] rfl rfl (cell_two_next _ _ _ _ _) (fun x hx => by simp at hx; rcases hx with rfl | rfl <;> rfl) (by unfold maxLen; omega) (by omega) (by simp; omega) ?_; intro v' w3 hown' hgrow3 hnil3)))
          have hcl' : w.heap.size + 2 ≤ (((wr.alloc (Obj.cells #[Value.int IntKind.i64 x1, Value.int IntKind.i64 x2] 29)).alloc (Obj.cells #[Value.int IntKind.i64 (k : Int), Value.int IntKind.i64 x2] 139))).heap.size := by simp; omega
          have B2 : Aside (Below (w.heap.size + 2) W0 w3) := Below.grown ((B1.out.alloc (by omega) _).alloc (by simp; omega) _) hgrow3 hcl' (fun j hj => (O1.out.lt _ hj).1)
          have O2 : Aside (w3.ownsRow (w.heap.size + 2) 139 2 v' (Clr.candTo side l (k + 1)).length (flatO (Clr.candTo side l (k + 1)))) := by
            show w3.ownsRow _ _ _ _ _ _
            rw [Clr.candTo_hit hok.out, flatO_append, List.length_append, E.out.2]; exact hown'
          clear hown' hgrow3 hnil3 hcl' O1 B1
          go_wp2
          go_roundg (l.length - (k + 1))
          case measure => omega
          case rel => exact ⟨k + 1, by go_num, by omega, Nat.le_refl _, O2, B2⟩
        · have hno : Aside (Clr.okB side (l.getD k (0, 0)) = false) := by
            show Clr.okB side (l.getD k (0, 0)) = false
            unfold Clr.okB
            rw [E.out.1, E.out.2]
            rcases (show x2 < 1 ∨ 1000 ≤ x2 by omega) with h | h
            · rw [decide_eq_false (show ¬ 1 ≤ x2 by omega)]; simp
            · rw [decide_eq_false (show ¬ x2 < 1000 by omega)]; simp
          go_wp2_with fail
          refine (allowed_no x2 _ (by omega)).mono ?_
          rintro e w' ⟨rfl, rfl⟩
          go_wp2
          go_roundg (l.length - (k + 1))
          case measure => omega
          case rel => exact ⟨k + 1, by go_num, by omega, Nat.le_refl _, by rw [Clr.candTo_miss hno.out]; exact O1.out.alloc _, B1.out.alloc (by omega) _⟩
      · have hs' : (x1 == side) = false := by simpa using hs
        have hno : Aside (Clr.okB side (l.getD k (0, 0)) = false) := by
          show Clr.okB side (l.getD k (0, 0)) = false
          unfold Clr.okB
          rw [E.out.1, hs']; rfl
        go_wp2
        go_roundg (l.length - (k + 1))
        case measure => omega
        case rel => exact ⟨k + 1, by go_num, by omega, Nat.le_refl _, by rw [Clr.candTo_miss hno.out]; exact O1.out.alloc _, B1.out.alloc (by omega) _⟩
    · have ek : k = l.length := by omega
      subst ek
      have hcl := Clr.candTo_le side l l.length
      have z1 : w.heap.size + 2 ≤ wr.heap.size := by have := B1.out.size; rw [F0.out.1] at this; exact this
      have cc := sort_call g c HG.out hO (Clr.candTo side l l.length) u9 (w.heap.size + 2) w.heap.size wr O1.out (by omega) z1 ((B1.out.cell (p := ⟨w.heap.size, 0, none⟩) (by show w.heap.size < _; omega)).trans F0.out.2.1) (Clr.candTo_sorted side l l.length) (by omega)
      go_wp2_with fail
      refine cc.mono ?_
      clear cc
      rintro e w' ⟨rfl, s, hsl, P, La, B2⟩
      have B3 : Aside (Below (w.heap.size + 2) W0 w') := B1.out.trans B2
      have OB : Aside (∀ k, u9.ownBlock = some k → w.heap.size + 2 ≤ k) := fun k hk => (O1.out.lt k hk).1
      clear O1
      obtain ⟨ao, cp, rfl, hcp, hbd⟩ := La
      have X : Aside (s.length = (Clr.cand side l).length ∧ Stab.Post (ltOf (cfO c)) (fun x : Int × Int => x.1) 0 (Clr.cand side l).length (Clr.cand side l).toArray s.toArray ∧ BidsAt w' ao s) := ⟨hsl, P, hbd⟩
      clear hsl P hbd B2 B1
      have c1 := (B3.out.cell (p := ⟨w.heap.size + 1, 0, none⟩) (by show w.heap.size + 1 < _; omega)).trans F0.out.2.2.1
      have c2 := (B3.out.cell (p := ⟨w.heap.size + 1, 1, none⟩) (by show w.heap.size + 1 < _; omega)).trans F0.out.2.2.2.1
      have f1 := (B3.out.frozen (p := ⟨w.heap.size + 1, 0, none⟩) (by show w.heap.size + 1 < _; omega)).trans F0.out.2.2.2.2.1
      have f2 := (B3.out.frozen (p := ⟨w.heap.size + 1, 1, none⟩) (by show w.heap.size + 1 < _; omega)).trans F0.out.2.2.2.2.2.1
      go_wp2
      refine bodyPost_ret (v := .agg #[.slice ao s.length cp, .int .i64 no]) (by simp [results, Try.results52, go_sem, c1, c2]) rfl ?_
      have B4 := ((F0.out.2.2.2.2.2.2.trans (B3.out.mono (by omega))).setCell (p := ⟨w.heap.size + 1, 0, none⟩) (by show w.heap.size ≤ w.heap.size + 1; omega) (.slice ao s.length cp)).setCell (p := ⟨w.heap.size + 1, 1, none⟩) (by show w.heap.size ≤ w.heap.size + 1; omega) (.int .i64 no)
      have hne : ∀ b o, ao = some ⟨b, o, none⟩ → b ≠ w.heap.size + 1 := fun b o hb => by
        subst hb
        have := OB.out b rfl
        omega
      exact ⟨_, s, rfl, X.out.1, X.out.2.1, ⟨ao, cp, rfl, hcp, (X.out.2.2.setCell ⟨w.heap.size + 1, 0, none⟩ _ hne).setCell ⟨w.heap.size + 1, 1, none⟩ _ hne⟩, B4⟩
#print axioms lineUp_any
end Go.Proofs.Ytjfifaooimgbaaa
