import Derived.Test.YtjfifaooimgbaaaKeep
import Derived.Laws.OwnMore
/- The walk of prices. -/
namespace Go.Proofs.Ytjfifaooimgbaaa
open Go.Shelf Go.RowKit Go.Lib Go.Sort

theorem Try.info3 : (Try.prog.info? 3).map (fun i => (i.zero, i.size, i.bytes)) = some (some (.int .i64 0), 1, 8) := by kernel_rfl

/-- is x no worse than p, on this side? -/
def noWorse (side : Int) (x p : Int) : Bool := if side = 0 then decide (p ≤ x) else decide (x ≤ p)

/-- the prices of the orders among the first k, the best first. -/
structure PriceL (side : Int) (l : List (Int × Int)) (k : Nat) (out : List Int) : Prop where
  perm : out.Perm ((Clr.candTo side l k).map (fun x => x.2))
  sort : out.Pairwise (fun x y => noWorse side x y = true)

theorem PriceL.start (side : Int) (l : List (Int × Int)) : PriceL side l 0 [] := ⟨List.Perm.refl _, List.Pairwise.nil⟩
theorem PriceL.miss {side : Int} {l : List (Int × Int)} {k : Nat} {out : List Int} (h : PriceL side l k out) (hm : Clr.okB side (l.getD k (0, 0)) = false) : PriceL side l (k + 1) out := by
  refine ⟨?_, h.sort⟩
  rw [Clr.candTo_miss hm]; exact h.perm
theorem noWorse_trans {side x y z : Int} (h1 : noWorse side x y = true) (h2 : noWorse side y z = true) : noWorse side x z = true := by
  unfold noWorse at *
  split <;> rename_i hs
  · rw [if_pos hs] at h1 h2; simp only [decide_eq_true_eq] at *; omega
  · rw [if_neg hs] at h1 h2; simp only [decide_eq_true_eq] at *; omega
theorem noWorse_total {side x y : Int} (h1 : noWorse side x y = false) : noWorse side y x = true := by
  unfold noWorse at *
  split <;> rename_i hs
  · rw [if_pos hs] at h1; simp only [decide_eq_true_eq, decide_eq_false_iff_not] at *; omega
  · rw [if_neg hs] at h1; simp only [decide_eq_true_eq, decide_eq_false_iff_not] at *; omega
theorem PriceL.hit {side : Int} {l : List (Int × Int)} {k : Nat} {out : List Int} (h : PriceL side l k out) (hm : Clr.okB side (l.getD k (0, 0)) = true) (at0 : Nat)
    (hlo : ∀ j, j < at0 → noWorse side (out.getD j 0) (l.getD k (0, 0)).2 = true) (hhi : at0 = out.length ∨ noWorse side (out.getD at0 0) (l.getD k (0, 0)).2 = false) (hle : at0 ≤ out.length) :
    PriceL side l (k + 1) (out.take at0 ++ (l.getD k (0, 0)).2 :: out.drop at0) := by
  obtain ⟨p, hp⟩ : ∃ p, (l.getD k (0, 0)).2 = p := ⟨_, rfl⟩
  rw [hp] at hlo hhi
  refine ⟨?_, ?_⟩
  · rw [Clr.candTo_hit hm, List.map_append, hp]
    refine List.perm_middle.trans ?_
    rw [List.take_append_drop]
    exact (h.perm.cons p).trans (List.perm_append_singleton _ _).symm
  · have hs := h.sort
    rw [← List.take_append_drop at0 out, List.pairwise_append] at hs
    have hd : ∀ y ∈ out.drop at0, noWorse side p y = true := fun y hy => by
      obtain ⟨j, hj, rfl⟩ := List.getElem_of_mem hy
      have hj' : at0 + j < out.length := by simp at hj; omega
      rcases hhi with hhi | hhi
      · simp at hj; omega
      · have h1 := noWorse_total hhi
        rw [List.getElem_drop]
        have e0 : out.getD at0 0 = out[at0] := by rw [List.getD_eq_getElem?_getD, List.getElem?_eq_getElem (show at0 < out.length by omega)]; rfl
        rw [e0] at h1
        by_cases hj0 : j = 0
        · subst hj0; simpa using h1
        · exact noWorse_trans h1 (List.pairwise_iff_getElem.1 h.sort at0 (at0 + j) (by omega) hj' (by omega))
    have ht : ∀ x ∈ out.take at0, noWorse side x p = true := fun x hx => by
      obtain ⟨j, hj, rfl⟩ := List.getElem_of_mem hx
      have hj' : j < at0 ∧ j < out.length := by simp at hj; omega
      have := hlo j hj'.1
      rw [List.getElem_take]
      rwa [List.getD_eq_getElem?_getD, List.getElem?_eq_getElem hj'.2] at this
    rw [hp, List.pairwise_append]
    refine ⟨hs.1, List.pairwise_cons.2 ⟨hd, hs.2.1⟩, fun x hx y hy => ?_⟩
    rcases List.mem_cons.1 hy with rfl | hy
    · exact ht x hx
    · exact noWorse_trans (ht x hx) (hd y hy)
theorem PriceL.le {side : Int} {l : List (Int × Int)} {k : Nat} {out : List Int} (h : PriceL side l k out) : out.length ≤ k := by
  rw [h.perm.length_eq, List.length_map]; exact Clr.candTo_le side l k

/-- a list of numbers that a call of one's own made lies in w. -/
def IntsAt (w : World) (av : Option Addr) (out : List Int) : Prop := ∀ j, j < out.length → ∃ g, av = some ⟨g, 0, none⟩ ∧ g < w.heap.size ∧ w.cell? ⟨g, j, none⟩ = some (.int .i64 (out.getD j 0))
theorem ints_of_own {w : World} {base : Nat} {v : Value} {out : List Int} (h : w.ownsRow base 3 1 v out.length (out.map (Value.int .i64))) :
    ∃ av capv, v = .slice av out.length capv ∧ out.length ≤ capv ∧ capv ≤ maxLen ∧ IntsAt w av out ∧ ((av = none ∧ out = [] ∧ capv = 0) ∨ ∃ g, av = some ⟨g, 0, none⟩ ∧ base ≤ g ∧ g < w.heap.size) := by
  rcases h.2 with ⟨rfl, hn⟩ | ⟨g, cap, cur, rfl, hb, hg, h1, h2, h3, h4⟩
  · have : out = [] := List.length_eq_zero_iff.1 hn
    subst this
    exact ⟨none, 0, rfl, Nat.le_refl _, by simp [maxLen], fun j hj => by simp at hj, Or.inl ⟨rfl, rfl, rfl⟩⟩
  · have hlt := (Array.getElem?_eq_some_iff.1 hg).1
    refine ⟨some ⟨g, 0, none⟩, cap, rfl, h1, h2, fun j hj => ⟨g, rfl, hlt, ?_⟩, Or.inr ⟨g, rfl, hb, hlt⟩⟩
    have := h.cells (g := g) rfl j (.int .i64 (out.getD j 0)) (by rw [List.getElem?_map, List.getElem?_eq_getElem hj, List.getD_eq_getElem?_getD, List.getElem?_eq_getElem hj]; rfl)
    rwa [Addr.add_lit, Nat.zero_add] at this
theorem own_gr {w w' : World} {base : Nat} {v : Value} {n : Nat} {xs : List Value} (h : w.ownsRow base 3 1 v n xs) (g : Gr w w') : w'.ownsRow base 3 1 v n xs :=
  h.kept (gb_gr g none) (by cases v.ownBlock with
    | none => exact Or.inl rfl
    | some k => exact Or.inr (by simp))

theorem own_base {w : World} {base base' : Nat} {v : Value} {n : Nat} {xs : List Value} (h : w.ownsRow base' 3 1 v n xs) (hb : base ≤ base') : w.ownsRow base 3 1 v n xs := by
  refine ⟨h.1, ?_⟩
  rcases h.2 with h2 | ⟨g, cap, cur, e1, e2, e3⟩
  · exact Or.inl h2
  · exact Or.inr ⟨g, cap, cur, e1, Nat.le_trans hb e2, e3⟩
theorem ints_one (l : List Int) : ∀ u ∈ l.map (Value.int .i64), u.oneCell' = true := by
  intro u hu
  obtain ⟨x, _, rfl⟩ := List.mem_map.1 hu
  rfl

set_option maxRecDepth 100000 in
/-- 'next = append(next, out[:j]...)', 'append(next, p)', 'append(next, out[j:]...)'. -/
theorem three_appends (W : World) (g cap j t0 : Nat) (p : Int) (out : List Int) (ht0 : t0 = j ∨ out.length = j) (hI : IntsAt W (some ⟨g, 0, none⟩) out) (hg : g < W.heap.size) (hj : j ≤ out.length) (hn : out.length ≤ 1048576) :
    ∃ v1 W1 v2 W2 v3 W3, (Builtin.append_ #[39, 39] 39 #[.slice none 0 0, .slice (some ⟨g, 0, none⟩) j cap]).run Try.prog W = .ok v1 W1 ∧
      (Builtin.append_ #[39, 39] 39 #[v1, .slice (some ⟨W1.heap.size, 0, none⟩) 1 1]).run Try.prog (W1.alloc (.cells #[.int .i64 p] 3)) = .ok v2 W2 ∧
      (Builtin.append_ #[39, 39] 39 #[v2, .slice (some ⟨g, t0, none⟩) (out.length - j) (cap - j)]).run Try.prog W2 = .ok v3 W3 ∧
      W3.ownsRow W.heap.size 3 1 v3 (out.take j ++ p :: out.drop j).length ((out.take j ++ p :: out.drop j).map (Value.int .i64)) ∧ Below W.heap.size W W1 ∧ Below W.heap.size W W3 := by
  obtain ⟨i0, hi, hz0, hz1, hz2⟩ := info_parts Try.info3
  have hcell : ∀ W', Below W.heap.size W W' → ∀ t, t < out.length → W'.cell? ⟨g, t, none⟩ = some (.int .i64 (out.getD t 0)) := fun W' hb t ht => by
    obtain ⟨g', hg', _, hc⟩ := hI t ht
    injection hg' with hg'; injection hg' with e1; subst e1
    exact (hb.cell (p := ⟨g, t, none⟩) hg).trans hc
  obtain ⟨v1, W1, r1, o1, g1, _⟩ := run_append_own (P := Try.prog) W W.heap.size 39 39 3 i0 (.int .i64 0) 1 8 Try.underlying39 hi hz0 hz1 hz2 rfl (by decide) (.slice none 0 0) 0 [] (World.ownsRow_nil _ _ _ _) ⟨g, 0, none⟩ j cap ((out.take j).map (Value.int .i64))
    (by simp; omega) (fun t u hu => by
      have ht : t < j ∧ t < out.length := by have := (List.getElem?_eq_some_iff.1 hu).1; simp at this; omega
      rw [Addr.add_lit, Nat.zero_add, hcell W (Below.refl _ _) t ht.2]
      rw [List.getElem?_map, List.getElem?_take_of_lt ht.1, List.getElem?_eq_getElem ht.2] at hu
      rw [List.getD_eq_getElem?_getD, List.getElem?_eq_getElem ht.2]
      simpa using hu) (ints_one _) (by unfold maxLen; omega) (by omega) (Nat.le_refl _)
  have b1 : Below W.heap.size W W1 := (Below.refl _ _).grown g1 (Nat.le_refl _) (fun k hk => by cases hk)
  obtain ⟨v2, W2, r2, o2, g2, _⟩ := run_append_own (P := Try.prog) (W1.alloc (.cells #[.int .i64 p] 3)) W.heap.size 39 39 3 i0 (.int .i64 0) 1 8 Try.underlying39 hi hz0 hz1 hz2 rfl (by decide) v1 (0 + j) _ (o1.alloc _) ⟨W1.heap.size, 0, none⟩ 1 1 [.int .i64 p]
    rfl (fun t u hu => by
      match t, hu with
      | 0, hu => simp at hu; subst hu; simp [Addr.add]) (fun u hu => by simp at hu; subst hu; rfl) (by unfold maxLen; omega) (by omega) (by have := b1.size; simp; omega)
  have b1' : Below W.heap.size W (W1.alloc (.cells #[.int .i64 p] 3)) := b1.alloc b1.size _
  have b2 : Below W.heap.size W W2 := b1'.grown g2 b1'.size (fun k hk => (o1.lt k hk).1)
  obtain ⟨v3, W3, r3, o3, g3, _⟩ := run_append_own (P := Try.prog) W2 W.heap.size 39 39 3 i0 (.int .i64 0) 1 8 Try.underlying39 hi hz0 hz1 hz2 rfl (by decide) v2 (0 + j + 1) _ o2 ⟨g, t0, none⟩ (out.length - j) (cap - j) ((out.drop j).map (Value.int .i64))
    (by simp) (fun t u hu => by
      have ht : j + t < out.length := by have := (List.getElem?_eq_some_iff.1 hu).1; simp at this; omega
      obtain rfl : t0 = j := by omega
      rw [Addr.add_lit, hcell W2 b2 (t0 + t) ht]
      rw [List.getElem?_map, List.getElem?_drop, List.getElem?_eq_getElem ht] at hu
      rw [List.getD_eq_getElem?_getD, List.getElem?_eq_getElem ht]
      simpa using hu) (ints_one _) (by unfold maxLen; omega) (by omega) b2.size
  have b3 : Below W.heap.size W W3 := b2.grown g3 b2.size (fun k hk => (o2.lt k hk).1)
  refine ⟨v1, W1, v2, W2, v3, W3, r1, r2, r3, ?_, b1, b3⟩
  have e1 : 0 + j + 1 + (out.length - j) = (out.take j ++ p :: out.drop j).length := by simp; omega
  have e2 : ([] ++ (out.take j).map (Value.int .i64) ++ [Value.int .i64 p] ++ (out.drop j).map (Value.int .i64)) = (out.take j ++ p :: out.drop j).map (Value.int .i64) := by simp
  rw [e1, e2] at o3
  exact o3

set_option maxRecDepth 100000 in
theorem one_append (W : World) (p : Int) :
    ∃ v2 W2, (Builtin.append_ #[39, 39] 39 #[.slice none 0 0, .slice none 0 0]).run Try.prog W = .ok (.slice none 0 0) W ∧
      (Builtin.append_ #[39, 39] 39 #[.slice none 0 0, .slice (some ⟨W.heap.size, 0, none⟩) 1 1]).run Try.prog (W.alloc (.cells #[.int .i64 p] 3)) = .ok v2 W2 ∧
      (Builtin.append_ #[39, 39] 39 #[v2, .slice none 0 0]).run Try.prog W2 = .ok v2 W2 ∧ W2.ownsRow W.heap.size 3 1 v2 1 [Value.int .i64 p] ∧ Below W.heap.size W W2 := by
  obtain ⟨i0, hi, hz0, hz1, hz2⟩ := info_parts Try.info3
  obtain ⟨v2, W2, r2, o2, g2, _⟩ := run_append_own (P := Try.prog) (W.alloc (.cells #[.int .i64 p] 3)) W.heap.size 39 39 3 i0 (.int .i64 0) 1 8 Try.underlying39 hi hz0 hz1 hz2 rfl (by decide) (.slice none 0 0) 0 [] (World.ownsRow_nil _ _ _ _) ⟨W.heap.size, 0, none⟩ 1 1 [.int .i64 p]
    rfl (fun t u hu => by
      match t, hu with
      | 0, hu => simp at hu; subst hu; simp [Addr.add]) (fun u hu => by simp at hu; subst hu; rfl) (by unfold maxLen; omega) (by omega) (by simp)
  refine ⟨v2, W2, run_append_owned_none (P := Try.prog) (w := W) W.heap.size 39 39 3 i0 1 Try.underlying39 hi _ 0 [] (World.ownsRow_nil _ _ _ _), r2, run_append_owned_none (P := Try.prog) (w := W2) W.heap.size 39 39 3 i0 1 Try.underlying39 hi _ _ _ o2, o2, ?_⟩
  exact (below_alloc W _).grown g2 (by simp) (fun k hk => by cases hk)

/-- a goal at which the walk stands still. -/
def Halted (p : Prop) : Prop := p
theorem Halted.out {p : Prop} (h : Halted p) : p := h
theorem Halted.mk {p : Prop} (h : p) : Halted p := h
/-- an append whose run is known. -/
theorem wpList_append_by {P : Program} {w : World} {ops : Array Oper} {rest : List Oper} {o : Oper} {a : Act} {Q : Exit → Act → World → Prop} (hgd : o.guard = none) (s x : Operand) (t : TypeId)
    (ho : o.op = .call { callee := .builtin .append, args := #[s, x], argTypes := #[t, t] }) (v xv : Value) (hs : a.eval s = v) (hx : a.eval x = xv) (v' : Value) (w' : World)
    (hr : (Builtin.append_ #[t, t] o.type #[v, xv]).run P w = .ok v' w') (h : wpList P ops Q rest (a.put o.dst v') w') : wpList P ops Q (o :: rest) a w := by
  refine wpList_plain hgd fun K hK => ?_
  unfold Oper.wp
  simp [execOp, ho, resolve, invoke, builtin, hs, hx, hr, Result.andThen]
  exact hK _ _ h

set_option maxHeartbeats 1000000 in
set_option maxRecDepth 100000 in
theorem prices_buy (l : List (Int × Int)) (a : Option Addr) (cap : Nat) (w : World) (hB : BidsAt w a l) (hl : l.length ≤ 1048576) :
    Calls Try.prog 20 #[.slice a l.length cap, .int .i64 0] w fun e w' => ∃ v out, e = .returned v ∧ w'.ownsRow w.heap.size 3 1 v out.length (out.map (Value.int .i64)) ∧ PriceL 0 l l.length out ∧ Below w.heap.size w w' := by
  have mixed : Try.prog.follows .mixedOrders = true := by kernel_rfl
  obtain ⟨i0, hi, hz0, hz1, hz2⟩ := info_parts Try.info3
  have HB : Aside _ := hB
  clear hB
  go_enter Try.func20, Try.ntmps20
  go_wp2
  go_loopg [5, 6] l.length (fun kx s t wr => ∃ (k : Nat) (out : List Int), t = .int .i64 k ∧ k ≤ l.length ∧ l.length - k ≤ kx ∧ Aside (wr.ownsRow w.heap.size 3 1 s out.length (out.map (Value.int .i64))) ∧ Aside (PriceL 0 l k out) ∧ Aside (Below w.heap.size w wr))
  case atStart => exact ⟨0, [], rfl, Nat.zero_le _, by omega, World.ownsRow_nil _ _ _ _, PriceL.start _ _, Below.refl _ _⟩
  case round =>
    obtain ⟨k, out, rfl, hk, hkx, O1, P1, B1⟩ := hrel
    by_cases hlt : k < l.length
    · have hltz : (k : Int) < (l.length : Int) := by omega
      have BB1 : Aside _ := BidsAt.up HB.out B1.out
      obtain ⟨b, o, rfl, hbl, hx1, hx2⟩ := BB1.out k hlt
      obtain ⟨x1, e1⟩ : ∃ x, (l.getD k (0, 0)).1 = x := ⟨_, rfl⟩
      obtain ⟨x2, e2⟩ : ∃ x, (l.getD k (0, 0)).2 = x := ⟨_, rfl⟩
      rw [e1] at hx1
      rw [e2] at hx2
      have E : Aside ((l.getD k (0, 0)).1 = x1 ∧ (l.getD k (0, 0)).2 = x2) := ⟨e1, e2⟩
      clear e1 e2
      go_wp2_with fail
      refine (right_any x1 x2 wr).mono ?_
      rintro e w2 ⟨rfl, G2a⟩
      have O2 : Aside _ := own_gr O1.out G2a
      have B2 : Aside (Below w.heap.size w w2) := B1.out.trans ((Gr.below G2a).mono B1.out.size)
      have y1 := Gr.cell G2a hbl hx1
      have y2 := Gr.cell G2a hbl hx2
      have hbl2 : b < w2.heap.size := Nat.lt_of_lt_of_le hbl (Gr.below G2a).size
      clear G2a hx1 hx2 O1 B1 BB1 hbl
      by_cases hok : rightB (x1, x2) = true ∧ x1 = 0
      · obtain ⟨hr, rfl⟩ := hok
        have hokB : Aside (Clr.okB 0 (l.getD k (0, 0)) = true) := by
          show Clr.okB 0 (l.getD k (0, 0)) = true
          have : l.getD k (0, 0) = (0, x2) := Prod.ext E.out.1 E.out.2
          rw [this]
          simp only [rightB, Bool.and_eq_true, decide_eq_true_eq] at hr
          simp [Clr.okB, hr.1.2, hr.2]
        rw [hr]
        clear hr
        obtain ⟨av, capv, rfl, hcv, hcm, IA, hsh⟩ := ints_of_own O2.out
        have IA' : Aside _ := IA
        have SH : Aside _ := hsh
        have hol := P1.out.le
        clear IA hsh
        go_wp2_with fail
        go_loopg [8] (out.length) (fun kx s wq => ∃ (j m : Nat), s = .int .i64 j ∧ j ≤ out.length ∧ out.length - j ≤ kx ∧ wq = w2.drewN m ∧ Aside (∀ t, t < j → noWorse 0 (out.getD t 0) x2 = true))
        case atStart => exact ⟨0, 0, rfl, Nat.zero_le _, by omega, rfl, (fun t ht => absurd ht (Nat.not_lt_zero _) : ∀ t, t < 0 → noWorse 0 (out.getD t 0) x2 = true)⟩
        case round =>
          obtain ⟨j, m, rfl, hj, hkx2, rfl, I⟩ := hrel
          by_cases hjl : j < out.length
          · have hjz : (j : Int) < (out.length : Int) := by omega
            obtain ⟨g, rfl, hgl, hcj⟩ := Aside.out IA' j hjl
            obtain ⟨x, hx⟩ : ∃ x, out.getD j 0 = x := ⟨_, rfl⟩
            rw [hx] at hcj
            have X : Aside (out.getD j 0 = x) := hx
            clear hx
            have z1 : ∀ n, ((w2.drewN m).drewN n).cell? ⟨g, j, none⟩ = some (.int .i64 x) := fun n => hcj
            have z2 : ∀ n, ((w2.drewN m).drewN n).cell? ⟨b, o + k * 2 + 1, none⟩ = some (.int .i64 x2) := fun n => y2
            have z3 : ∀ n, ((w2.drewN m).drewN n).cell? ⟨b, o + k * 2, none⟩ = some (.int .i64 0) := fun n => y1
            have DR : Aside (∀ n, (w2.drewN m).drewN n = w2.drewN (m + n)) := fun n => World.drewN_drewN ..
            generalize hwq : w2.drewN m = wq at z1 z2 z3 DR ⊢
            clear hwq
            by_cases hle : x2 ≤ x
            · have hd : decide (x2 ≤ x) = true := decide_eq_true hle
              go_wp2_with fail
              go_quiet (fail)
              go_wp2
              go_roundg (out.length - (j + 1))
              case measure => omega
              case rel =>
                have I2 : Aside (∀ t, t < j + 1 → noWorse 0 (out.getD t 0) x2 = true) := fun t ht => by
                  by_cases e : t = j
                  · rw [e, X.out]; exact decide_eq_true hle
                  · exact I.out t (by omega)
                exact ⟨j + 1, m + nq, by go_num, by omega, Nat.le_refl _, DR.out nq, I2⟩
            · have hd : decide (x2 ≤ x) = false := decide_eq_false hle
              go_wp2_with fail
              go_quiet (fail)
              have hd2 := DR.out nq
              have Z : Aside (∃ W, W = wq.drewN nq) := ⟨_, rfl⟩
              have IAW : Aside (IntsAt (wq.drewN nq) (some ⟨g, 0, none⟩) out) := by rw [hd2]; exact IA'.out
              have BW : Aside (Below w.heap.size w (wq.drewN nq)) := by rw [hd2]; exact below_drewN B2.out _
              have yW2 : (wq.drewN nq).cell? ⟨b, o + k * 2 + 1, none⟩ = some (.int .i64 x2) := z2 nq
              have hbW : b < (wq.drewN nq).heap.size := by rw [hd2]; exact hbl2
              have hgW : g < (wq.drewN nq).heap.size := by rw [hd2]; exact hgl
              clear z1 z2 z3 hd2 DR
              obtain ⟨W, hW⟩ := Z.out
              rw [← hW] at IAW BW yW2 hbW hgW ⊢
              clear hW Z
              obtain ⟨v1, Wa, v2, Wb, v3, Wc, q1, q2, q3, ON, BA, BN⟩ := three_appends W g capv j j x2 out (Or.inl rfl) IAW.out hgW hj (by omega)
              have yWa := (BA.cell (p := ⟨b, o + k * 2 + 1, none⟩) hbW).trans yW2
              have BF : Aside (Below w.heap.size w Wc) := BW.out.trans (BN.mono BW.out.size)
              have OF : Aside (Wc.ownsRow w.heap.size 3 1 v3 (out.take j ++ x2 :: out.drop j).length ((out.take j ++ x2 :: out.drop j).map (Value.int .i64))) := own_base ON BW.out.size
              have PF : Aside (PriceL 0 l (k + 1) (out.take j ++ x2 :: out.drop j)) := by
                have := P1.out.hit hokB.out j (fun t ht => by rw [E.out.2]; exact I.out t ht) (by rw [E.out.2]; exact Or.inr (by rw [X.out]; exact decide_eq_false (by omega))) hj
                rw [E.out.2] at this; exact this
              have hjc : (j : Int) ≤ (capv : Int) := by omega
              have Q1 : Aside _ := q1
              have Q2 : Aside _ := q2
              have Q3 : Aside _ := q3
              clear ON BN BA q1 q2 q3
              go_wp2_with (at_builtin; refine wpList_append_by rfl (.tmp 70) (.tmp 73) 39 rfl (.slice none 0 0) (.slice (some ⟨g, 0, none⟩) j capv) rfl rfl v1 Wa Q1.out ?_; refine Halted.out ?_)
              refine Halted.mk ?_
              go_wp2_with (at_builtin; refine wpList_append_by rfl (.tmp 75) (.tmp 81) 39 rfl v1 (.slice (some ⟨Wa.heap.size, 0, none⟩) 1 1) rfl rfl v2 Wb Q2.out ?_; refine Halted.out ?_)
              refine Halted.mk ?_
              go_wp2_with (at_builtin; refine wpList_append_by rfl (.tmp 83) (.tmp 86) 39 rfl v2 (.slice (some ⟨g, j, none⟩) (out.length - j) (capv - j)) rfl rfl v3 Wc Q3.out ?_; refine Halted.out ?_)
              refine Halted.mk ?_
              go_wp2
              go_roundg (l.length - (k + 1))
              case measure => omega
              case rel => exact ⟨k + 1, _, by go_num, by omega, Nat.le_refl _, OF, PF, BF⟩
          · have hjz : ¬ (j : Int) < (out.length : Int) := by omega
            have hjd : decide ((j : Int) < (out.length : Int)) = false := decide_eq_false hjz
            have EJ : Aside (j = out.length) := by show _ = _; omega
            have DR : Aside (∀ n, (w2.drewN m).drewN n = w2.drewN (m + n)) := fun n => World.drewN_drewN ..
            generalize hwq : w2.drewN m = wq at DR ⊢
            clear hwq
            go_wp2_with fail
            go_quiet (fail)
            have hd2 := DR.out nq
            have Z : Aside (∃ W, W = wq.drewN nq) := ⟨_, rfl⟩
            have IAW : Aside (IntsAt (wq.drewN nq) av out) := by rw [hd2]; exact IA'.out
            have BW : Aside (Below w.heap.size w (wq.drewN nq)) := by rw [hd2]; exact below_drewN B2.out _
            have yW2 : (wq.drewN nq).cell? ⟨b, o + k * 2 + 1, none⟩ = some (.int .i64 x2) := by rw [hd2]; exact y2
            have hbW : b < (wq.drewN nq).heap.size := by rw [hd2]; exact hbl2
            have hsW : Aside ((wq.drewN nq).heap.size = w2.heap.size) := by show _ = _; rw [hd2]; rfl
            clear hd2 DR
            obtain ⟨W, hW⟩ := Z.out
            rw [← hW] at IAW BW yW2 hbW hsW ⊢
            clear hW Z
            rcases SH.out with ⟨rfl, rfl, rfl⟩ | ⟨g, rfl, hg1, hg2⟩
            · obtain rfl : j = 0 := by simpa using hj
              obtain ⟨v2, Wb, q1, q2, q3, ON, BN⟩ := one_append W x2
              have yW3 : (W.alloc (.cells #[.int .i64 x2] 3)).cell? ⟨b, o + k * 2 + 1, none⟩ = some (.int .i64 x2) := ((below_alloc W _).cell (p := ⟨b, o + k * 2 + 1, none⟩) hbW).trans yW2
              have BF : Aside (Below w.heap.size w Wb) := BW.out.trans (BN.mono BW.out.size)
              have OF : Aside (Wb.ownsRow w.heap.size 3 1 v2 1 [Value.int .i64 x2]) := own_base ON BW.out.size
              have PF : Aside (PriceL 0 l (k + 1) [x2]) := by
                have := P1.out.hit hokB.out 0 (fun t ht => absurd ht (Nat.not_lt_zero _)) (Or.inl rfl) (Nat.le_refl _)
                rw [E.out.2] at this; exact this
              have Q1 : Aside _ := q1
              have Q2 : Aside _ := q2
              have Q3 : Aside _ := q3
              simp only [List.length_nil] at *
              clear ON BN q1 q2 q3 hjz hjd hj hkx2 hol hcv hcm
              go_wp2_with (at_builtin; refine wpList_append_by rfl (.tmp 70) (.tmp 73) 39 rfl (.slice none 0 0) (.slice none 0 0) rfl rfl (.slice none 0 0) W Q1.out ?_; refine Halted.out ?_)
              refine Halted.mk ?_
              go_wp2_with (at_builtin; refine wpList_append_by rfl (.tmp 75) (.tmp 81) 39 rfl (.slice none 0 0) (.slice (some ⟨W.heap.size, 0, none⟩) 1 1) rfl rfl v2 Wb Q2.out ?_; refine Halted.out ?_)
              refine Halted.mk ?_
              go_wp2_with (at_builtin; refine wpList_append_by rfl (.tmp 83) (.tmp 86) 39 rfl v2 (.slice none 0 0) rfl rfl v2 Wb Q3.out ?_; refine Halted.out ?_)
              refine Halted.mk ?_
              go_wp2
              go_roundg (l.length - (k + 1))
              case measure => omega
              case rel => exact ⟨k + 1, [x2], by go_num, by omega, Nat.le_refl _, OF, PF, BF⟩
            · have ej := EJ.out
              subst ej
              by_cases hcj : capv = out.length
              · subst hcj
                obtain ⟨v1, Wa, v2, Wb, v3, Wc, q1, q2, q3, ON, BA, BN⟩ := three_appends W g out.length out.length 0 x2 out (Or.inr rfl) IAW.out (by have := hsW.out; omega) (Nat.le_refl _) (by omega)
                have yWa := (BA.cell (p := ⟨b, o + k * 2 + 1, none⟩) hbW).trans yW2
                have BF : Aside (Below w.heap.size w Wc) := BW.out.trans (BN.mono BW.out.size)
                have OF : Aside (Wc.ownsRow w.heap.size 3 1 v3 (out.take out.length ++ x2 :: out.drop out.length).length ((out.take out.length ++ x2 :: out.drop out.length).map (Value.int .i64))) := own_base ON BW.out.size
                have PF : Aside (PriceL 0 l (k + 1) (out.take out.length ++ x2 :: out.drop out.length)) := by
                  have := P1.out.hit hokB.out out.length (fun t ht => by rw [E.out.2]; exact I.out t ht) (by rw [E.out.2]; exact Or.inl rfl) (Nat.le_refl _)
                  rw [E.out.2] at this; exact this
                rw [Nat.sub_self] at q3
                have Q1 : Aside _ := q1
                have Q2 : Aside _ := q2
                have Q3 : Aside _ := q3
                clear ON BN BA q1 q2 q3 hjz hjd hjl hj hkx2 hol
                go_wp2_with (at_builtin; refine wpList_append_by rfl (.tmp 70) (.tmp 73) 39 rfl (.slice none 0 0) (.slice (some ⟨g, 0, none⟩) out.length out.length) rfl rfl v1 Wa Q1.out ?_; refine Halted.out ?_)
                refine Halted.mk ?_
                go_wp2_with (at_builtin; refine wpList_append_by rfl (.tmp 75) (.tmp 81) 39 rfl v1 (.slice (some ⟨Wa.heap.size, 0, none⟩) 1 1) rfl rfl v2 Wb Q2.out ?_; refine Halted.out ?_)
                refine Halted.mk ?_
                go_wp2_with (at_builtin; refine wpList_append_by rfl (.tmp 83) (.tmp 86) 39 rfl v2 (.slice (some ⟨g, 0, none⟩) 0 0) rfl rfl v3 Wc Q3.out ?_; refine Halted.out ?_)
                refine Halted.mk ?_
                go_wp2
                go_roundg (l.length - (k + 1))
                case measure => omega
                case rel => exact ⟨k + 1, _, by go_num, by omega, Nat.le_refl _, OF, PF, BF⟩
              · obtain ⟨v1, Wa, v2, Wb, v3, Wc, q1, q2, q3, ON, BA, BN⟩ := three_appends W g capv out.length out.length x2 out (Or.inr rfl) IAW.out (by have := hsW.out; omega) (Nat.le_refl _) (by omega)
                have yWa := (BA.cell (p := ⟨b, o + k * 2 + 1, none⟩) hbW).trans yW2
                have BF : Aside (Below w.heap.size w Wc) := BW.out.trans (BN.mono BW.out.size)
                have OF : Aside (Wc.ownsRow w.heap.size 3 1 v3 (out.take out.length ++ x2 :: out.drop out.length).length ((out.take out.length ++ x2 :: out.drop out.length).map (Value.int .i64))) := own_base ON BW.out.size
                have PF : Aside (PriceL 0 l (k + 1) (out.take out.length ++ x2 :: out.drop out.length)) := by
                  have := P1.out.hit hokB.out out.length (fun t ht => by rw [E.out.2]; exact I.out t ht) (by rw [E.out.2]; exact Or.inl rfl) (Nat.le_refl _)
                  rw [E.out.2] at this; exact this
                rw [Nat.sub_self] at q3
                have Q1 : Aside _ := q1
                have Q2 : Aside _ := q2
                have Q3 : Aside _ := q3
                clear ON BN BA q1 q2 q3 hjz hjd hjl hj hkx2 hol
                go_wp2_with (at_builtin; refine wpList_append_by rfl (.tmp 70) (.tmp 73) 39 rfl (.slice none 0 0) (.slice (some ⟨g, 0, none⟩) out.length capv) rfl rfl v1 Wa Q1.out ?_; refine Halted.out ?_)
                refine Halted.mk ?_
                go_wp2_with (at_builtin; refine wpList_append_by rfl (.tmp 75) (.tmp 81) 39 rfl v1 (.slice (some ⟨Wa.heap.size, 0, none⟩) 1 1) rfl rfl v2 Wb Q2.out ?_; refine Halted.out ?_)
                refine Halted.mk ?_
                go_wp2_with (at_builtin; refine wpList_append_by rfl (.tmp 83) (.tmp 86) 39 rfl v2 (.slice (some ⟨g, out.length, none⟩) 0 (capv - out.length)) rfl rfl v3 Wc Q3.out ?_; refine Halted.out ?_)
                refine Halted.mk ?_
                go_wp2
                go_roundg (l.length - (k + 1))
                case measure => omega
                case rel => exact ⟨k + 1, _, by go_num, by omega, Nat.le_refl _, OF, PF, BF⟩
      · have hokB : Aside (Clr.okB 0 (l.getD k (0, 0)) = false) := by
          show Clr.okB 0 (l.getD k (0, 0)) = false
          have : l.getD k (0, 0) = (x1, x2) := Prod.ext E.out.1 E.out.2
          rw [this]
          cases hc : Clr.okB 0 (x1, x2) with
          | false => rfl
          | true =>
            exfalso
            apply hok
            simp only [Clr.okB, Bool.and_eq_true, beq_iff_eq, decide_eq_true_eq] at hc
            exact ⟨by simp [rightB, hc.1, hc.2.1, hc.2.2], hc.1⟩
        by_cases hr : rightB (x1, x2) = true
        · have hx : x1 ≠ 0 := fun e => hok ⟨hr, e⟩
          have hxb : (x1 == 0) = false := beq_eq_false_iff_ne.2 hx
          rw [hr]
          go_wp2
          go_roundg (l.length - (k + 1))
          case measure => omega
          case rel => exact ⟨k + 1, out, by go_num, by omega, Nat.le_refl _, O2, P1.out.miss hokB.out, B2⟩
        · have hr' : rightB (x1, x2) = false := by simpa using hr
          rw [hr']
          go_wp2
          go_roundg (l.length - (k + 1))
          case measure => omega
          case rel => exact ⟨k + 1, out, by go_num, by omega, Nat.le_refl _, O2, P1.out.miss hokB.out, B2⟩
    · have ek : k = l.length := by omega
      subst ek
      go_wp2
      go_ret
      exact ⟨_, out, rfl, O1.out, P1.out, B1.out⟩
#print axioms prices_buy

set_option maxHeartbeats 1000000 in
set_option maxRecDepth 100000 in
theorem prices_sell (l : List (Int × Int)) (a : Option Addr) (cap : Nat) (w : World) (hB : BidsAt w a l) (hl : l.length ≤ 1048576) :
    Calls Try.prog 20 #[.slice a l.length cap, .int .i64 1] w fun e w' => ∃ v out, e = .returned v ∧ w'.ownsRow w.heap.size 3 1 v out.length (out.map (Value.int .i64)) ∧ PriceL 1 l l.length out ∧ Below w.heap.size w w' := by
  have mixed : Try.prog.follows .mixedOrders = true := by kernel_rfl
  obtain ⟨i0, hi, hz0, hz1, hz2⟩ := info_parts Try.info3
  have HB : Aside _ := hB
  clear hB
  go_enter Try.func20, Try.ntmps20
  go_wp2
  go_loopg [5, 6] l.length (fun kx s t wr => ∃ (k : Nat) (out : List Int), t = .int .i64 k ∧ k ≤ l.length ∧ l.length - k ≤ kx ∧ Aside (wr.ownsRow w.heap.size 3 1 s out.length (out.map (Value.int .i64))) ∧ Aside (PriceL 1 l k out) ∧ Aside (Below w.heap.size w wr))
  case atStart => exact ⟨0, [], rfl, Nat.zero_le _, by omega, World.ownsRow_nil _ _ _ _, PriceL.start _ _, Below.refl _ _⟩
  case round =>
    obtain ⟨k, out, rfl, hk, hkx, O1, P1, B1⟩ := hrel
    by_cases hlt : k < l.length
    · have hltz : (k : Int) < (l.length : Int) := by omega
      have BB1 : Aside _ := BidsAt.up HB.out B1.out
      obtain ⟨b, o, rfl, hbl, hx1, hx2⟩ := BB1.out k hlt
      obtain ⟨x1, e1⟩ : ∃ x, (l.getD k (0, 0)).1 = x := ⟨_, rfl⟩
      obtain ⟨x2, e2⟩ : ∃ x, (l.getD k (0, 0)).2 = x := ⟨_, rfl⟩
      rw [e1] at hx1
      rw [e2] at hx2
      have E : Aside ((l.getD k (0, 0)).1 = x1 ∧ (l.getD k (0, 0)).2 = x2) := ⟨e1, e2⟩
      clear e1 e2
      go_wp2_with fail
      refine (right_any x1 x2 wr).mono ?_
      rintro e w2 ⟨rfl, G2a⟩
      have O2 : Aside _ := own_gr O1.out G2a
      have B2 : Aside (Below w.heap.size w w2) := B1.out.trans ((Gr.below G2a).mono B1.out.size)
      have y1 := Gr.cell G2a hbl hx1
      have y2 := Gr.cell G2a hbl hx2
      have hbl2 : b < w2.heap.size := Nat.lt_of_lt_of_le hbl (Gr.below G2a).size
      clear G2a hx1 hx2 O1 B1 BB1 hbl
      by_cases hok : rightB (x1, x2) = true ∧ x1 = 1
      · obtain ⟨hr, rfl⟩ := hok
        have hokB : Aside (Clr.okB 1 (l.getD k (0, 0)) = true) := by
          show Clr.okB 1 (l.getD k (0, 0)) = true
          have : l.getD k (0, 0) = (1, x2) := Prod.ext E.out.1 E.out.2
          rw [this]
          simp only [rightB, Bool.and_eq_true, decide_eq_true_eq] at hr
          simp [Clr.okB, hr.1.2, hr.2]
        rw [hr]
        clear hr
        obtain ⟨av, capv, rfl, hcv, hcm, IA, hsh⟩ := ints_of_own O2.out
        have IA' : Aside _ := IA
        have SH : Aside _ := hsh
        have hol := P1.out.le
        clear IA hsh
        go_wp2_with fail
        go_loopg [8] (out.length) (fun kx s wq => ∃ (j m : Nat), s = .int .i64 j ∧ j ≤ out.length ∧ out.length - j ≤ kx ∧ wq = w2.drewN m ∧ Aside (∀ t, t < j → noWorse 1 (out.getD t 0) x2 = true))
        case atStart => exact ⟨0, 0, rfl, Nat.zero_le _, by omega, rfl, (fun t ht => absurd ht (Nat.not_lt_zero _) : ∀ t, t < 0 → noWorse 1 (out.getD t 0) x2 = true)⟩
        case round =>
          obtain ⟨j, m, rfl, hj, hkx2, rfl, I⟩ := hrel
          by_cases hjl : j < out.length
          · have hjz : (j : Int) < (out.length : Int) := by omega
            obtain ⟨g, rfl, hgl, hcj⟩ := Aside.out IA' j hjl
            obtain ⟨x, hx⟩ : ∃ x, out.getD j 0 = x := ⟨_, rfl⟩
            rw [hx] at hcj
            have X : Aside (out.getD j 0 = x) := hx
            clear hx
            have z1 : ∀ n, ((w2.drewN m).drewN n).cell? ⟨g, j, none⟩ = some (.int .i64 x) := fun n => hcj
            have z2 : ∀ n, ((w2.drewN m).drewN n).cell? ⟨b, o + k * 2 + 1, none⟩ = some (.int .i64 x2) := fun n => y2
            have z3 : ∀ n, ((w2.drewN m).drewN n).cell? ⟨b, o + k * 2, none⟩ = some (.int .i64 1) := fun n => y1
            have DR : Aside (∀ n, (w2.drewN m).drewN n = w2.drewN (m + n)) := fun n => World.drewN_drewN ..
            generalize hwq : w2.drewN m = wq at z1 z2 z3 DR ⊢
            clear hwq
            by_cases hle : x ≤ x2
            · have hd : decide (x ≤ x2) = true := decide_eq_true hle
              go_wp2_with fail
              go_quiet (fail)
              go_wp2
              go_roundg (out.length - (j + 1))
              case measure => omega
              case rel =>
                have I2 : Aside (∀ t, t < j + 1 → noWorse 1 (out.getD t 0) x2 = true) := fun t ht => by
                  by_cases e : t = j
                  · rw [e, X.out]; exact decide_eq_true hle
                  · exact I.out t (by omega)
                exact ⟨j + 1, m + nq, by go_num, by omega, Nat.le_refl _, DR.out nq, I2⟩
            · have hd : decide (x ≤ x2) = false := decide_eq_false hle
              go_wp2_with fail
              go_quiet (fail)
              have hd2 := DR.out nq
              have Z : Aside (∃ W, W = wq.drewN nq) := ⟨_, rfl⟩
              have IAW : Aside (IntsAt (wq.drewN nq) (some ⟨g, 0, none⟩) out) := by rw [hd2]; exact IA'.out
              have BW : Aside (Below w.heap.size w (wq.drewN nq)) := by rw [hd2]; exact below_drewN B2.out _
              have yW2 : (wq.drewN nq).cell? ⟨b, o + k * 2 + 1, none⟩ = some (.int .i64 x2) := z2 nq
              have hbW : b < (wq.drewN nq).heap.size := by rw [hd2]; exact hbl2
              have hgW : g < (wq.drewN nq).heap.size := by rw [hd2]; exact hgl
              clear z1 z2 z3 hd2 DR
              obtain ⟨W, hW⟩ := Z.out
              rw [← hW] at IAW BW yW2 hbW hgW ⊢
              clear hW Z
              obtain ⟨v1, Wa, v2, Wb, v3, Wc, q1, q2, q3, ON, BA, BN⟩ := three_appends W g capv j j x2 out (Or.inl rfl) IAW.out hgW hj (by omega)
              have yWa := (BA.cell (p := ⟨b, o + k * 2 + 1, none⟩) hbW).trans yW2
              have BF : Aside (Below w.heap.size w Wc) := BW.out.trans (BN.mono BW.out.size)
              have OF : Aside (Wc.ownsRow w.heap.size 3 1 v3 (out.take j ++ x2 :: out.drop j).length ((out.take j ++ x2 :: out.drop j).map (Value.int .i64))) := own_base ON BW.out.size
              have PF : Aside (PriceL 1 l (k + 1) (out.take j ++ x2 :: out.drop j)) := by
                have := P1.out.hit hokB.out j (fun t ht => by rw [E.out.2]; exact I.out t ht) (by rw [E.out.2]; exact Or.inr (by rw [X.out]; exact decide_eq_false (by omega))) hj
                rw [E.out.2] at this; exact this
              have hjc : (j : Int) ≤ (capv : Int) := by omega
              have Q1 : Aside _ := q1
              have Q2 : Aside _ := q2
              have Q3 : Aside _ := q3
              clear ON BN BA q1 q2 q3
              go_wp2_with (at_builtin; refine wpList_append_by rfl (.tmp 70) (.tmp 73) 39 rfl (.slice none 0 0) (.slice (some ⟨g, 0, none⟩) j capv) rfl rfl v1 Wa Q1.out ?_; refine Halted.out ?_)
              refine Halted.mk ?_
              go_wp2_with (at_builtin; refine wpList_append_by rfl (.tmp 75) (.tmp 81) 39 rfl v1 (.slice (some ⟨Wa.heap.size, 0, none⟩) 1 1) rfl rfl v2 Wb Q2.out ?_; refine Halted.out ?_)
              refine Halted.mk ?_
              go_wp2_with (at_builtin; refine wpList_append_by rfl (.tmp 83) (.tmp 86) 39 rfl v2 (.slice (some ⟨g, j, none⟩) (out.length - j) (capv - j)) rfl rfl v3 Wc Q3.out ?_; refine Halted.out ?_)
              refine Halted.mk ?_
              go_wp2
              go_roundg (l.length - (k + 1))
              case measure => omega
              case rel => exact ⟨k + 1, _, by go_num, by omega, Nat.le_refl _, OF, PF, BF⟩
          · have hjz : ¬ (j : Int) < (out.length : Int) := by omega
            have hjd : decide ((j : Int) < (out.length : Int)) = false := decide_eq_false hjz
            have EJ : Aside (j = out.length) := by show _ = _; omega
            have DR : Aside (∀ n, (w2.drewN m).drewN n = w2.drewN (m + n)) := fun n => World.drewN_drewN ..
            generalize hwq : w2.drewN m = wq at DR ⊢
            clear hwq
            go_wp2_with fail
            go_quiet (fail)
            have hd2 := DR.out nq
            have Z : Aside (∃ W, W = wq.drewN nq) := ⟨_, rfl⟩
            have IAW : Aside (IntsAt (wq.drewN nq) av out) := by rw [hd2]; exact IA'.out
            have BW : Aside (Below w.heap.size w (wq.drewN nq)) := by rw [hd2]; exact below_drewN B2.out _
            have yW2 : (wq.drewN nq).cell? ⟨b, o + k * 2 + 1, none⟩ = some (.int .i64 x2) := by rw [hd2]; exact y2
            have hbW : b < (wq.drewN nq).heap.size := by rw [hd2]; exact hbl2
            have hsW : Aside ((wq.drewN nq).heap.size = w2.heap.size) := by show _ = _; rw [hd2]; rfl
            clear hd2 DR
            obtain ⟨W, hW⟩ := Z.out
            rw [← hW] at IAW BW yW2 hbW hsW ⊢
            clear hW Z
            rcases SH.out with ⟨rfl, rfl, rfl⟩ | ⟨g, rfl, hg1, hg2⟩
            · obtain rfl : j = 0 := by simpa using hj
              obtain ⟨v2, Wb, q1, q2, q3, ON, BN⟩ := one_append W x2
              have yW3 : (W.alloc (.cells #[.int .i64 x2] 3)).cell? ⟨b, o + k * 2 + 1, none⟩ = some (.int .i64 x2) := ((below_alloc W _).cell (p := ⟨b, o + k * 2 + 1, none⟩) hbW).trans yW2
              have BF : Aside (Below w.heap.size w Wb) := BW.out.trans (BN.mono BW.out.size)
              have OF : Aside (Wb.ownsRow w.heap.size 3 1 v2 1 [Value.int .i64 x2]) := own_base ON BW.out.size
              have PF : Aside (PriceL 1 l (k + 1) [x2]) := by
                have := P1.out.hit hokB.out 0 (fun t ht => absurd ht (Nat.not_lt_zero _)) (Or.inl rfl) (Nat.le_refl _)
                rw [E.out.2] at this; exact this
              have Q1 : Aside _ := q1
              have Q2 : Aside _ := q2
              have Q3 : Aside _ := q3
              simp only [List.length_nil] at *
              clear ON BN q1 q2 q3 hjz hjd hj hkx2 hol hcv hcm
              go_wp2_with (at_builtin; refine wpList_append_by rfl (.tmp 70) (.tmp 73) 39 rfl (.slice none 0 0) (.slice none 0 0) rfl rfl (.slice none 0 0) W Q1.out ?_; refine Halted.out ?_)
              refine Halted.mk ?_
              go_wp2_with (at_builtin; refine wpList_append_by rfl (.tmp 75) (.tmp 81) 39 rfl (.slice none 0 0) (.slice (some ⟨W.heap.size, 0, none⟩) 1 1) rfl rfl v2 Wb Q2.out ?_; refine Halted.out ?_)
              refine Halted.mk ?_
              go_wp2_with (at_builtin; refine wpList_append_by rfl (.tmp 83) (.tmp 86) 39 rfl v2 (.slice none 0 0) rfl rfl v2 Wb Q3.out ?_; refine Halted.out ?_)
              refine Halted.mk ?_
              go_wp2
              go_roundg (l.length - (k + 1))
              case measure => omega
              case rel => exact ⟨k + 1, [x2], by go_num, by omega, Nat.le_refl _, OF, PF, BF⟩
            · have ej := EJ.out
              subst ej
              by_cases hcj : capv = out.length
              · subst hcj
                obtain ⟨v1, Wa, v2, Wb, v3, Wc, q1, q2, q3, ON, BA, BN⟩ := three_appends W g out.length out.length 0 x2 out (Or.inr rfl) IAW.out (by have := hsW.out; omega) (Nat.le_refl _) (by omega)
                have yWa := (BA.cell (p := ⟨b, o + k * 2 + 1, none⟩) hbW).trans yW2
                have BF : Aside (Below w.heap.size w Wc) := BW.out.trans (BN.mono BW.out.size)
                have OF : Aside (Wc.ownsRow w.heap.size 3 1 v3 (out.take out.length ++ x2 :: out.drop out.length).length ((out.take out.length ++ x2 :: out.drop out.length).map (Value.int .i64))) := own_base ON BW.out.size
                have PF : Aside (PriceL 1 l (k + 1) (out.take out.length ++ x2 :: out.drop out.length)) := by
                  have := P1.out.hit hokB.out out.length (fun t ht => by rw [E.out.2]; exact I.out t ht) (by rw [E.out.2]; exact Or.inl rfl) (Nat.le_refl _)
                  rw [E.out.2] at this; exact this
                rw [Nat.sub_self] at q3
                have Q1 : Aside _ := q1
                have Q2 : Aside _ := q2
                have Q3 : Aside _ := q3
                clear ON BN BA q1 q2 q3 hjz hjd hjl hj hkx2 hol
                go_wp2_with (at_builtin; refine wpList_append_by rfl (.tmp 70) (.tmp 73) 39 rfl (.slice none 0 0) (.slice (some ⟨g, 0, none⟩) out.length out.length) rfl rfl v1 Wa Q1.out ?_; refine Halted.out ?_)
                refine Halted.mk ?_
                go_wp2_with (at_builtin; refine wpList_append_by rfl (.tmp 75) (.tmp 81) 39 rfl v1 (.slice (some ⟨Wa.heap.size, 0, none⟩) 1 1) rfl rfl v2 Wb Q2.out ?_; refine Halted.out ?_)
                refine Halted.mk ?_
                go_wp2_with (at_builtin; refine wpList_append_by rfl (.tmp 83) (.tmp 86) 39 rfl v2 (.slice (some ⟨g, 0, none⟩) 0 0) rfl rfl v3 Wc Q3.out ?_; refine Halted.out ?_)
                refine Halted.mk ?_
                go_wp2
                go_roundg (l.length - (k + 1))
                case measure => omega
                case rel => exact ⟨k + 1, _, by go_num, by omega, Nat.le_refl _, OF, PF, BF⟩
              · obtain ⟨v1, Wa, v2, Wb, v3, Wc, q1, q2, q3, ON, BA, BN⟩ := three_appends W g capv out.length out.length x2 out (Or.inr rfl) IAW.out (by have := hsW.out; omega) (Nat.le_refl _) (by omega)
                have yWa := (BA.cell (p := ⟨b, o + k * 2 + 1, none⟩) hbW).trans yW2
                have BF : Aside (Below w.heap.size w Wc) := BW.out.trans (BN.mono BW.out.size)
                have OF : Aside (Wc.ownsRow w.heap.size 3 1 v3 (out.take out.length ++ x2 :: out.drop out.length).length ((out.take out.length ++ x2 :: out.drop out.length).map (Value.int .i64))) := own_base ON BW.out.size
                have PF : Aside (PriceL 1 l (k + 1) (out.take out.length ++ x2 :: out.drop out.length)) := by
                  have := P1.out.hit hokB.out out.length (fun t ht => by rw [E.out.2]; exact I.out t ht) (by rw [E.out.2]; exact Or.inl rfl) (Nat.le_refl _)
                  rw [E.out.2] at this; exact this
                rw [Nat.sub_self] at q3
                have Q1 : Aside _ := q1
                have Q2 : Aside _ := q2
                have Q3 : Aside _ := q3
                clear ON BN BA q1 q2 q3 hjz hjd hjl hj hkx2 hol
                go_wp2_with (at_builtin; refine wpList_append_by rfl (.tmp 70) (.tmp 73) 39 rfl (.slice none 0 0) (.slice (some ⟨g, 0, none⟩) out.length capv) rfl rfl v1 Wa Q1.out ?_; refine Halted.out ?_)
                refine Halted.mk ?_
                go_wp2_with (at_builtin; refine wpList_append_by rfl (.tmp 75) (.tmp 81) 39 rfl v1 (.slice (some ⟨Wa.heap.size, 0, none⟩) 1 1) rfl rfl v2 Wb Q2.out ?_; refine Halted.out ?_)
                refine Halted.mk ?_
                go_wp2_with (at_builtin; refine wpList_append_by rfl (.tmp 83) (.tmp 86) 39 rfl v2 (.slice (some ⟨g, out.length, none⟩) 0 (capv - out.length)) rfl rfl v3 Wc Q3.out ?_; refine Halted.out ?_)
                refine Halted.mk ?_
                go_wp2
                go_roundg (l.length - (k + 1))
                case measure => omega
                case rel => exact ⟨k + 1, _, by go_num, by omega, Nat.le_refl _, OF, PF, BF⟩
      · have hokB : Aside (Clr.okB 1 (l.getD k (0, 0)) = false) := by
          show Clr.okB 1 (l.getD k (0, 0)) = false
          have : l.getD k (0, 0) = (x1, x2) := Prod.ext E.out.1 E.out.2
          rw [this]
          cases hc : Clr.okB 1 (x1, x2) with
          | false => rfl
          | true =>
            exfalso
            apply hok
            simp only [Clr.okB, Bool.and_eq_true, beq_iff_eq, decide_eq_true_eq] at hc
            exact ⟨by simp [rightB, hc.1, hc.2.1, hc.2.2], hc.1⟩
        by_cases hr : rightB (x1, x2) = true
        · have hx : x1 ≠ 1 := fun e => hok ⟨hr, e⟩
          have hxb : (x1 == 1) = false := beq_eq_false_iff_ne.2 hx
          rw [hr]
          go_wp2
          go_roundg (l.length - (k + 1))
          case measure => omega
          case rel => exact ⟨k + 1, out, by go_num, by omega, Nat.le_refl _, O2, P1.out.miss hokB.out, B2⟩
        · have hr' : rightB (x1, x2) = false := by simpa using hr
          rw [hr']
          go_wp2
          go_roundg (l.length - (k + 1))
          case measure => omega
          case rel => exact ⟨k + 1, out, by go_num, by omega, Nat.le_refl _, O2, P1.out.miss hokB.out, B2⟩
    · have ek : k = l.length := by omega
      subst ek
      go_wp2
      go_ret
      exact ⟨_, out, rfl, O1.out, P1.out, B1.out⟩
#print axioms prices_sell
end Go.Proofs.Ytjfifaooimgbaaa
