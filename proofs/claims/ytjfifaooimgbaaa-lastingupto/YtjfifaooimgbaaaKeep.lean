import Derived.Test.YtjfifaooimgbaaaClear
import Derived.Laws.CopyRow
/- The walks of the small functions of sealbidkeep. -/
namespace Go.Proofs.Ytjfifaooimgbaaa
open Go.Shelf Go.RowKit Go.Lib Go.Sort

def l0 : List (Int × Int) := [(0, 9), (0, 5), (1, 3), (1, 6)]
theorem l0_buyers : buyersOf l0 = [(0, 9), (1, 5)] := by
  have h : (buyersOf l0).Perm [(0, 9), (1, 5)] := buyers_perm l0
  exact List.Perm.eq_of_pairwise (le := fun x y => bLt y x = false) (fun x y _ _ h1 h2 => Prod.ext (by have := (bLt_no y x).1 h1; have := (bLt_no x y).1 h2; omega) (by have := (bLt_no y x).1 h1; have := (bLt_no x y).1 h2; omega))
    (by have := List.pairwise_mergeSort (le := fun x y => !bLt y x) (fun a b c h1 h2 => by
          simp only [Bool.not_eq_true'] at h1 h2 ⊢
          exact swo_bLt.ntrans c b a h2 h1) (fun a b => by
          cases h : bLt b a with
          | false => simp
          | true => simp [swo_bLt.asymmA h]) (Clr.cand 0 l0)
        simpa [buyersOf] using this) (by decide) h
theorem l0_sellers : sellersOf l0 = [(2, 3), (3, 6)] := by
  have h : (sellersOf l0).Perm [(2, 3), (3, 6)] := sellers_perm l0
  exact List.Perm.eq_of_pairwise (le := fun x y => sLt y x = false) (fun x y _ _ h1 h2 => Prod.ext (by have := (sLt_no y x).1 h1; have := (sLt_no x y).1 h2; omega) (by have := (sLt_no y x).1 h1; have := (sLt_no x y).1 h2; omega))
    (by have := List.pairwise_mergeSort (le := fun x y => !sLt y x) (fun a b c h1 h2 => by
          simp only [Bool.not_eq_true'] at h1 h2 ⊢
          exact swo_sLt.ntrans c b a h2 h1) (fun a b => by
          cases h : sLt b a with
          | false => simp
          | true => simp [swo_sLt.asymmA h]) (Clr.cand 1 l0)
        simpa [sellersOf] using this) (by decide) h
theorem l0_k : kL l0 = 1 := by unfold kL; rw [l0_buyers, l0_sellers]; decide
theorem l0_set : setL l0 = (1, 5, 5) := by unfold setL; rw [l0_k, l0_buyers, l0_sellers]; decide
theorem l0_filled : filledL l0 = [true, false, true, false] := by unfold filledL; rw [l0_set, l0_buyers, l0_sellers]; decide
theorem l0_share : shareL l0 = 4607182418800017408 := by
  unfold shareL gainedL canL; rw [l0_set, l0_k, l0_buyers, l0_sellers]; kernel_rfl

set_option maxHeartbeats 1000000 in
theorem begun_any (w : World) : Calls Try.prog 19 #[] w fun e w' => e = .returned (.bool true) ∧ Below w.heap.size w w' := by
  have mixed : Try.prog.follows .mixedOrders = true := by kernel_rfl
  go_enter Try.func19, Try.ntmps19
  go_wp2_with fail
  obtain ⟨W0, hW0⟩ : ∃ W0, W0 = w.alloc (Obj.cells #[Value.int IntKind.i64 0, Value.int IntKind.i64 9, Value.int IntKind.i64 0, Value.int IntKind.i64 5, Value.int IntKind.i64 1, Value.int IntKind.i64 3, Value.int IntKind.i64 1, Value.int IntKind.i64 6] 29) := ⟨_, rfl⟩
  have hb : BidsAt W0 (some ⟨w.heap.size, 0, none⟩) l0 := by
    intro i hi
    have hi' : i < 4 := hi
    refine ⟨w.heap.size, 0, rfl, by rw [hW0]; simp, ?_, ?_⟩
    · rw [hW0]
      match i, hi' with
      | 0, _ => simp [l0]
      | 1, _ => simp [l0]
      | 2, _ => simp [l0]
      | 3, _ => simp [l0]
    · rw [hW0]
      match i, hi' with
      | 0, _ => simp [l0]
      | 1, _ => simp [l0]
      | 2, _ => simp [l0]
      | 3, _ => simp [l0]
  have B0 : Aside (Below w.heap.size w W0) := by rw [hW0]; exact below_alloc _ _
  rw [← hW0]
  clear hW0
  have hc := clear_any l0 (some ⟨w.heap.size, 0, none⟩) 4 W0 hb (by decide)
  rw [l0_k, l0_set, l0_share, l0_filled, show l0.length = 4 from rfl] at hc
  refine hc.mono ?_
  clear hc hb
  rintro e w1 ⟨F, rfl, FL, hF, B1⟩
  have hlt := FL.lt
  have g0 : ∀ o, (w1.alloc o).cell? ⟨F, 0, none⟩ = some (.bool true) := fun o => (World.cell?_of_block (a := ⟨F, 0, none⟩) (Below.heap_alloc w1 o F hlt)).trans (FL.cell (i := 0) (by decide))
  have g1 : ∀ o, (w1.alloc o).cell? ⟨F, 1, none⟩ = some (.bool false) := fun o => (World.cell?_of_block (a := ⟨F, 1, none⟩) (Below.heap_alloc w1 o F hlt)).trans (FL.cell (i := 1) (by decide))
  have g2 : ∀ o, (w1.alloc o).cell? ⟨F, 2, none⟩ = some (.bool true) := fun o => (World.cell?_of_block (a := ⟨F, 2, none⟩) (Below.heap_alloc w1 o F hlt)).trans (FL.cell (i := 2) (by decide))
  have g3 : ∀ o, (w1.alloc o).cell? ⟨F, 3, none⟩ = some (.bool false) := fun o => (World.cell?_of_block (a := ⟨F, 3, none⟩) (Below.heap_alloc w1 o F hlt)).trans (FL.cell (i := 3) (by decide))
  have BB : Aside (∀ o, Below w.heap.size w (w1.alloc o)) := fun o => (B0.out.trans (B1.mono B0.out.size)).alloc (by have := B0.out.size; have := B1.size; omega) o
  clear B0 B1 FL
  go_wp2
  go_ret
  exact ⟨rfl, BB.out _⟩
#print axioms begun_any
end Go.Proofs.Ytjfifaooimgbaaa
/- The walks of pick, right, gain; what make and copy of a list of orders do. -/
namespace Go.Proofs.Ytjfifaooimgbaaa
open Go.Shelf Go.RowKit Go.Lib Go.Sort

theorem ret_int {k : IntKind} {a b : Int} (h : a = b) : Ending.returned (.int k a) = .returned (.int k b) := by rw [h]
theorem ret_bool {a b : Bool} (h : a = b) : Ending.returned (.bool a) = .returned (.bool b) := by rw [h]
def pickN (c : Int) (n : Nat) : Nat := ((if c < 0 then -(c + 1) else c) % (n : Int)).toNat
theorem pickN_lt (c : Int) (n : Nat) (hn : 0 < n) : pickN c n < n := by
  unfold pickN
  have h1 := Int.emod_nonneg (if c < 0 then -(c + 1) else c) (show (n : Int) ≠ 0 by omega)
  have h2 := Int.emod_lt_of_pos (if c < 0 then -(c + 1) else c) (show (0 : Int) < n by omega)
  omega

set_option maxHeartbeats 400000 in
theorem pick_any (c : Int) (n : Nat) (w : World) (hn : 0 < n) (hn2 : n ≤ 9007199254740992) (h1 : -9223372036854775808 ≤ c) (h2 : c ≤ 9223372036854775807) :
    Calls Try.prog 23 #[.int .i64 c, .int .i64 n] w fun e w' => e = .returned (.int .i64 (pickN c n : Nat)) ∧ w' = w := by
  have hz : ((n : Int) == 0) = false := beq_eq_false_iff_ne.2 (by omega)
  have hz' : ¬ (n : Int) = 0 := by omega
  have p1 := Int.emod_nonneg (if c < 0 then -(c + 1) else c) (show (n : Int) ≠ 0 by omega)
  by_cases hc : c < 0
  · have e : ((pickN c n : Nat) : Int) = (-(c + 1)) % (n : Int) := by
      unfold pickN; rw [if_pos hc] at p1 ⊢; omega
    rw [e]
    have hm : (-(c + 1)).tmod (n : Int) = (-(c + 1)) % (n : Int) := Int.tmod_eq_emod_of_nonneg (by omega)
    go_enter Try.func23, Try.ntmps23
    go_wp2
    go_ret
    exact ⟨ret_int rfl, rfl⟩
  · have e : ((pickN c n : Nat) : Int) = c % (n : Int) := by
      unfold pickN; rw [if_neg hc] at p1 ⊢; omega
    rw [e]
    have hm : c.tmod (n : Int) = c % (n : Int) := Int.tmod_eq_emod_of_nonneg (by omega)
    go_enter Try.func23, Try.ntmps23
    go_wp2
    go_ret
    exact ⟨ret_int rfl, rfl⟩

/-- may the order be? -/
def rightB (b : Int × Int) : Bool := (b.1 == 0 || b.1 == 1) && decide (1 ≤ b.2) && decide (b.2 < 1000)

set_option maxHeartbeats 400000 in
theorem right_any (x y : Int) (w : World) : Calls Try.prog 21 #[.agg #[.int .i64 x, .int .i64 y]] w fun e w' => e = .returned (.bool (rightB (x, y))) ∧ Gr w w' := by
  go_enter Try.func21, Try.ntmps21
  go_wp2
  all_goals
    go_ret
    refine ⟨ret_bool ?_, (Gr.refl w).alloc _⟩
    first | (simp [rightB, *]; done) | (simp [rightB, *]; omega)

/-- what an order comes to. -/
def gainR (f : Bool) (side v pay get : Int) : Int := if f = true then (if side = 0 then v - pay else get - v) else 0

set_option maxHeartbeats 1000000 in
theorem gainK_any (k f sh : Int) (pay get side v : Int) (F n cap i : Nat) (fl : List Bool) (w : World) (hF : BoolsAt w F fl) (hn : fl.length = n) (hi : i < n) (hp : 0 ≤ pay ∧ pay ≤ 1000) (hg : 0 ≤ get ∧ get ≤ 1000) (hv : 0 ≤ v ∧ v ≤ 1000) :
    Calls Try.prog 24 #[.agg #[.int .i64 k, .int .i64 f, .int .i64 pay, .int .i64 get, .slice (some ⟨F, 0, none⟩) n cap, .int .u64 sh], .int .i64 i, .int .i64 side, .int .i64 v] w fun e w' => e = .returned (.int .i64 (gainR (fl.getD i false) side v pay get)) ∧ Gr w w' := by
  have hlt := hF.lt
  have g0 : ∀ o, (w.alloc o).cell? ⟨F, i, none⟩ = some (.bool (fl.getD i false)) := fun o => (World.cell?_of_block (a := ⟨F, i, none⟩) (Below.heap_alloc w o F hlt)).trans (hF.cell (by omega))
  have hiz : (i : Int) < (n : Int) := by omega
  generalize fl.getD i false = b at g0 ⊢
  clear hF hn
  cases b with
  | false =>
    go_enter Try.func24, Try.ntmps24
    go_wp2
    go_ret
    exact ⟨ret_int rfl, (Gr.refl w).alloc _⟩
  | true =>
    by_cases hs : side = 0
    · subst hs
      go_enter Try.func24, Try.ntmps24
      go_wp2
      go_ret
      exact ⟨ret_int rfl, (Gr.refl w).alloc _⟩
    · have hs' : (side == 0) = false := beq_eq_false_iff_ne.2 hs
      have e : gainR true side v pay get = get - v := by unfold gainR; rw [if_pos rfl, if_neg hs]
      rw [e]
      go_enter Try.func24, Try.ntmps24
      go_wp2
      go_ret
      exact ⟨ret_int rfl, (Gr.refl w).alloc _⟩
#print axioms gainK_any

/-! ### make and copy of orders -/
theorem Try.info29 : (Try.prog.info? 29).map (fun i => (i.zero, i.size, i.bytes)) = some (some (.agg #[.int .i64 0, .int .i64 0]), 2, 16) := by kernel_rfl
theorem make_bids (n : Nat) (w : World) (hn : n ≤ 8796093022300) : (Instr.makeSlice 22 (.int .i64 (n : Int)) (.int .i64 (n : Int))).run Try.prog w = .ok (.slice (some ⟨w.heap.size, 0, none⟩) n n) (w.alloc (.cells (madeCells #[.int .i64 0, .int .i64 0] (n * 2)) 29)) := by
  obtain ⟨i0, hi, hz0, hz1, hz2⟩ := info_parts Try.info29
  have h := run_make (P := Try.prog) w 22 29 i0 (.agg #[.int .i64 0, .int .i64 0]) Try.underlying22 hi hz0 .i64 .i64 (n : Int) (n : Int) (by omega) (Int.le_refl _) (by rw [hz2]; omega) (by omega)
  rw [hz1, Int.toNat_natCast] at h
  exact h

theorem bids_flat {w : World} {b o : Nat} {l : List (Int × Int)} (h : BidsAt w (some ⟨b, o, none⟩) l) : ∀ j v, (flatO l)[j]? = some v → w.cell? ((⟨b, o, none⟩ : Addr).add j) = some v := by
  intro j v hv
  have hj : j < l.length * 2 := by
    have := (List.getElem?_eq_some_iff.1 hv).1
    rwa [flatO_length] at this
  rw [flatO_get l j hj] at hv
  injection hv with hv
  obtain ⟨b', o', ha, _, h1, h2⟩ := h (j / 2) (by omega)
  injection ha with ha; injection ha with e1 e2
  subst e1; subst e2
  rw [Addr.add_lit]
  have hd : l.getD (j / 2) default = l.getD (j / 2) (0, 0) := by
    rw [List.getD_eq_getElem?_getD, List.getD_eq_getElem?_getD, List.getElem?_eq_getElem (show j / 2 < l.length by omega)]; rfl
  rw [hd] at hv
  rcases Nat.mod_two_eq_zero_or_one j with hm | hm
  · rw [hm] at hv
    rw [show b = b from rfl, show o + j = o + j / 2 * 2 by omega, h1, ← hv]
    rfl
  · rw [hm] at hv
    rw [show o + j = o + j / 2 * 2 + 1 by omega, h2, ← hv]
    rfl

theorem flatO_one (l : List (Int × Int)) : ∀ v ∈ flatO l, v.oneCell' = true := by
  intro v hv
  simp only [flatO, List.mem_flatMap, encO, List.mem_cons, List.not_mem_nil, or_false] at hv
  obtain ⟨x, _, rfl | rfl⟩ := hv <;> rfl

/-- 'copy(m, l)' into a row of one's own that is no shorter. -/
theorem run_copy_bids (w : World) (ty : TypeId) (g dLen dCap : Nat) (a : Option Addr) (cap : Nat) (cur : Array Value) (t : TypeId) (l : List (Int × Int)) (hB : BidsAt w a l)
    (hg : w.heap[g]? = some (.cells cur t (0, 0))) (hn : l.length ≤ dLen) (hfit : l.length * 2 ≤ cur.size) :
    (Builtin.copy_ #[22, 22] ty #[.slice (some ⟨g, 0, none⟩) dLen dCap, .slice a l.length cap]).run Try.prog w = .ok (goInt l.length) (w.setRow g (flatO l ++ cur.toList.drop (l.length * 2)).toArray) := by
  obtain ⟨i0, hi, hz0, hz1, hz2⟩ := info_parts Try.info29
  have hst := run_storeCells_at Try.prog g 0 t (flatO l) 0 cur w hg (by rw [flatO_length]; omega) (flatO_one l)
  rw [flatO_length] at hst
  have hm : Nat.min l.length dLen = l.length := Nat.min_eq_left hn
  by_cases h0 : l.length = 0
  · have hl : l = [] := List.length_eq_zero_iff.1 h0
    subst hl
    have hst' := run_storeCells_at Try.prog g 0 t ([] : List Value) 0 cur w hg (by simp) (by simp)
    cases a with
    | none => simp [Builtin.copy_, run_underlying Try.underlying22, Builtin.lenOf, Builtin.firstCells, sizeOf, typeInfo, hi, flatO, storeCells, setRow_self w g cur t (0, 0) hg]
    | some a => simp [Builtin.copy_, run_underlying Try.underlying22, Builtin.lenOf, Builtin.firstCells, sizeOf, typeInfo, hi, flatO, storeCells, loadCells, loadCellsFrom, setRow_self w g cur t (0, 0) hg]
  · obtain ⟨b, o, rfl, _⟩ := hB 0 (by omega)
    have hl := run_loadCells_list (P := Try.prog) w ⟨b, o, none⟩ (flatO l) (bids_flat hB)
    rw [flatO_length] at hl
    simp only [Nat.zero_add, List.take_zero, List.nil_append] at hst
    simp [Builtin.copy_, run_underlying Try.underlying22, Builtin.lenOf, Builtin.firstCells, sizeOf, typeInfo, hi, hz1, hm, hl, hst]
#print axioms run_copy_bids

theorem flatO_set : ∀ (l : List (Int × Int)) (i : Nat) (q : Int), i < l.length → flatO (l.set i ((l.getD i (0, 0)).1, q)) = (flatO l).set (i * 2 + 1) (.int .i64 q)
  | [], i, q, h => by simp at h
  | x :: r, 0, q, _ => by simp [flatO, encO]
  | x :: r, i + 1, q, h => by
    have ih := flatO_set r i q (by simpa using h)
    rw [List.getD_cons_succ, List.set_cons_succ]
    simp only [flatO, List.flatMap_cons] at ih ⊢
    rw [ih, show (i + 1) * 2 + 1 = (encO x).length + (i * 2 + 1) by simp [encO]; omega, List.set_append_right _ _ (by omega)]
    simp

/-- the block M holds these orders, and nothing else. -/
def BidsIn (w : World) (M : Nat) (l : List (Int × Int)) : Prop := w.heap[M]? = some (.cells (flatO l).toArray 29 (0, 0))
theorem BidsIn.lt {w : World} {M : Nat} {l : List (Int × Int)} (h : BidsIn w M l) : M < w.heap.size := (Array.getElem?_eq_some_iff.1 h).1
theorem BidsIn.cell {w : World} {M : Nat} {l : List (Int × Int)} (h : BidsIn w M l) {j : Nat} {v : Value} (hv : (flatO l)[j]? = some v) : w.cell? ⟨M, j, none⟩ = some v := by
  unfold BidsIn at h
  simp only [World.cell?, h]
  simpa using hv
theorem BidsIn.frozen {w : World} {M : Nat} {l : List (Int × Int)} (h : BidsIn w M l) (j : Nat) : w.frozen? ⟨M, j, none⟩ = false := by
  unfold BidsIn at h
  simp [World.frozen?, h]
theorem flatO_at (l : List (Int × Int)) (i : Nat) (hi : i < l.length) : (flatO l)[i * 2]? = some (.int .i64 (l.getD i (0, 0)).1) ∧ (flatO l)[i * 2 + 1]? = some (.int .i64 (l.getD i (0, 0)).2) := by
  have hd : l.getD i default = l.getD i (0, 0) := by
    rw [List.getD_eq_getElem?_getD, List.getD_eq_getElem?_getD, List.getElem?_eq_getElem hi]; rfl
  constructor
  · rw [flatO_get l (i * 2) (by omega), show i * 2 / 2 = i by omega, show i * 2 % 2 = 0 by omega, hd]; rfl
  · rw [flatO_get l (i * 2 + 1) (by omega), show (i * 2 + 1) / 2 = i by omega, show (i * 2 + 1) % 2 = 1 by omega, hd]; rfl
theorem BidsIn.bids {w : World} {M : Nat} {l : List (Int × Int)} (h : BidsIn w M l) : BidsAt w (some ⟨M, 0, none⟩) l := fun i hi =>
  ⟨M, 0, rfl, h.lt, by rw [Nat.zero_add]; exact h.cell (flatO_at l i hi).1, by rw [Nat.zero_add]; exact h.cell (flatO_at l i hi).2⟩
theorem BidsIn.set {w : World} {M : Nat} {l : List (Int × Int)} (h : BidsIn w M l) (i : Nat) (q : Int) (hi : i < l.length) : BidsIn (w.setCell ⟨M, i * 2 + 1, none⟩ (.int .i64 q)) M (l.set i ((l.getD i (0, 0)).1, q)) := by
  unfold BidsIn at h ⊢
  rw [flatO_set l i q hi]
  simp [World.setCell, Array.getElem?_modify, h]
theorem bids_of_block {w : World} {M : Nat} (cur : Array Value) {l : List (Int × Int)} (h : w.heap[M]? = some (.cells cur 29 (0, 0))) (hs : cur.size = l.length * 2) : BidsIn (w.setRow M (flatO l ++ cur.toList.drop (l.length * 2)).toArray) M l := by
  have e : cur.toList.drop (l.length * 2) = [] := by simp [hs]
  unfold BidsIn
  rw [e, List.append_nil]
  have hlt := (Array.getElem?_eq_some_iff.1 h).1
  simp [World.setRow, Array.getElem?_modify, h]
theorem below_setRow' (w : World) (M B : Nat) (cs : Array Value) (hB : B ≤ M) : Below B w (w.setRow M cs) :=
  ⟨rfl, rfl, rfl, by simp [World.setRow], fun k hk => by
    have : M ≠ k := by omega
    simp [World.setRow, Array.getElem?_modify, this]⟩
end Go.Proofs.Ytjfifaooimgbaaa
