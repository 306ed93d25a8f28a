import Derived.Test.YtjfifaooimgbaaaBt3
import Derived.Deep.RegionHeld3
import Derived.Test.YtjfifaooimgbaaaLk
import Derived.Test.YtjfifaooimgbaaaSym
import Derived.Deep.RegionWith
import Derived.Laws.Closers25
/- The document's exchange in memory: a block of 135 cells. -/
namespace Go.Proofs.Ytjfifaooimgbaaa
open Go.Shelf Go.RowKit Go.Lib Go.Sort

/-- block p has the cells f 0, f 1 .. -/
def FAt (w : World) (p n : Nat) (ty : TypeId) (f : Nat → Value) : Prop := ∃ cs : Array Value, w.heap[p]? = some (.cells cs ty (0, 0)) ∧ cs.size = n ∧ ∀ j, j < n → cs[j]? = some (f j)
section
variable {w w' : World} {p n : Nat} {ty : TypeId} {f : Nat → Value}
theorem FAt.lt (h : FAt w p n ty f) : p < w.heap.size := let ⟨_, h1, _⟩ := h; (Array.getElem?_eq_some_iff.1 h1).1
theorem FAt.kept (h : FAt w p n ty f) (e : w'.heap[p]? = w.heap[p]?) : FAt w' p n ty f := let ⟨cs, h1, h2⟩ := h; ⟨cs, e.trans h1, h2⟩
theorem FAt.cell (h : FAt w p n ty f) {j : Nat} (hj : j < n) : w.cell? ⟨p, j, none⟩ = some (f j) := by
  obtain ⟨cs, h1, h2, h3⟩ := h
  have := h3 j hj
  simp [World.cell?, h1, this]
theorem FAt.frozen (h : FAt w p n ty f) (j : Nat) : w.frozen? ⟨p, j, none⟩ = false := by
  obtain ⟨cs, h1, h2, h3⟩ := h
  simp [World.frozen?, h1]
theorem FAt.set (h : FAt w p n ty f) (j : Nat) (v : Value) : FAt (w.setCell ⟨p, j, none⟩ v) p n ty (fun i => if i = j then v else f i) := by
  obtain ⟨cs, h1, h2, h3⟩ := h
  refine ⟨cs.setIfInBounds j v, setCell_heap h1 j v, by simp [h2], fun i hi => ?_⟩
  rw [Array.getElem?_setIfInBounds]
  by_cases e : j = i
  · subst e
    rw [if_pos rfl, if_pos (by omega)]
    exact congrArg some (if_pos rfl).symm
  · rw [if_neg e]
    exact (h3 i hi).trans (congrArg some (if_neg (fun q => e (Eq.symm q))).symm)
theorem FAt.congr {g : Nat → Value} (h : FAt w p n ty f) (e : ∀ j, j < n → f j = g j) : FAt w p n ty g :=
  let ⟨cs, h1, h2, h3⟩ := h; ⟨cs, h1, h2, fun j hj => (h3 j hj).trans (congrArg some (e j hj))⟩
end

def pcell (p : Ex.Purse) (c : Nat) : Value := .int .i64 (if c = 0 then p.cash else if c = 1 then p.held else if c = 2 then p.units else p.hun)
def headR (x : Ex.Xch) : Nat → Value
  | 0 => .int .i64 x.period
  | 1 => .int .i64 x.cap
  | 2 => .string ⟨x.jr.toArray⟩
  | 3 => .int .i64 x.time
  | 4 => .int .i64 x.batch
  | _ => .int .i64 x.fin
/-- the share's cell: nothing there before the first clearing. -/
def shareC (x : Ex.Xch) : Nat := if x.last = 0 then 0 else shareL x.lastL
/-- a list: whatever else stands there is none. -/
def slOf : Value → Value
  | .slice a n c => .slice a n c
  | _ => .slice none 0 0
def midR (x : Ex.Xch) (ov fv : Value) : Nat → Value
  | 0 => .int .i64 x.own
  | 1 => ov
  | 2 => .int .i64 x.last
  | 3 => .int .i64 (kL x.lastL)
  | 4 => .int .i64 (setL x.lastL).1
  | 5 => .int .i64 (setL x.lastL).2.1
  | 6 => .int .i64 (setL x.lastL).2.2
  | 7 => slOf fv
  | _ => .int .u64 (shareC x)
def cellR (x : Ex.Xch) (ov fv : Value) (i : Nat) : Value :=
  if i < 6 then headR x i
  else if i < 86 then pcell (x.ps ((i - 6) / 4)) ((i - 6) % 4)
  else if i < 95 then midR x ov fv (i - 86)
  else if i < 115 then .int .i64 (x.paid (i - 95))
  else .bool (x.traded (i - 115))
/-- the document's exchange lies in the block p. -/
def RefAt (w : World) (p : Nat) (x : Ex.Xch) (ov fv : Value) : Prop := FAt w p 135 96 (cellR x ov fv)

section
variable {w : World} {p : Nat} {x : Ex.Xch} {ov fv : Value}
theorem RefAt.head (h : RefAt w p x ov fv) (j : Nat) (hj : j < 6) : w.cell? ⟨p, j, none⟩ = some (headR x j) := by
  have := FAt.cell h (j := j) (by omega)
  rw [this]
  unfold cellR
  rw [if_pos hj]
theorem RefAt.mid (h : RefAt w p x ov fv) (j : Nat) (hj : j < 9) : w.cell? ⟨p, 86 + j, none⟩ = some (midR x ov fv j) := by
  have := FAt.cell h (j := 86 + j) (by omega)
  rw [this]
  unfold cellR
  rw [if_neg (by omega), if_neg (by omega), if_pos (by omega), Nat.add_sub_cancel_left]
theorem RefAt.purse (h : RefAt w p x ov fv) (t c : Nat) (ht : t < 20) (hc : c < 4) : w.cell? ⟨p, 6 + t * 4 + c, none⟩ = some (pcell (x.ps t) c) := by
  have := FAt.cell h (j := 6 + t * 4 + c) (by omega)
  rw [this]
  unfold cellR
  rw [if_neg (by omega), if_pos (by omega), show (6 + t * 4 + c - 6) / 4 = t by omega, show (6 + t * 4 + c - 6) % 4 = c by omega]
theorem RefAt.paid (h : RefAt w p x ov fv) (t : Nat) (ht : t < 20) : w.cell? ⟨p, 95 + t, none⟩ = some (.int .i64 (x.paid t)) := by
  have := FAt.cell h (j := 95 + t) (by omega)
  rw [this]
  unfold cellR
  rw [if_neg (by omega), if_neg (by omega), if_neg (by omega), if_pos (by omega), Nat.add_sub_cancel_left]
theorem RefAt.traded (h : RefAt w p x ov fv) (t : Nat) (ht : t < 20) : w.cell? ⟨p, 115 + t, none⟩ = some (.bool (x.traded t)) := by
  have := FAt.cell h (j := 115 + t) (by omega)
  rw [this]
  unfold cellR
  rw [if_neg (by omega), if_neg (by omega), if_neg (by omega), if_neg (by omega), Nat.add_sub_cancel_left]

theorem RefAt.set (h : RefAt w p x ov fv) (j : Nat) (v : Value) {x' : Ex.Xch} {ov' fv' : Value} (e : ∀ i, i < 135 → (if i = j then v else cellR x ov fv i) = cellR x' ov' fv' i) : RefAt (w.setCell ⟨p, j, none⟩ v) p x' ov' fv' :=
  (FAt.set h j v).congr e

/-- what is left of 'set', where one region alone is another. -/
theorem cell_head (x x' : Ex.Xch) (ov fv : Value) (v : Value) (j : Nat) (hj : j < 6) (e1 : v = headR x' j) (e2 : ∀ i, i < 6 → i ≠ j → headR x i = headR x' i)
    (hp : x'.ps = x.ps) (hm : ∀ i, i < 9 → midR x ov fv i = midR x' ov fv i) (ha : x'.paid = x.paid) (ht : x'.traded = x.traded) : ∀ i, i < 135 → (if i = j then v else cellR x ov fv i) = cellR x' ov fv i := fun i hi => by
  by_cases e : i = j
  · subst e
    rw [if_pos rfl]
    unfold cellR
    rw [if_pos hj, e1]
  · rw [if_neg e]
    unfold cellR
    rw [hp, ha, ht]
    by_cases h1 : i < 6
    · rw [if_pos h1, if_pos h1]; exact e2 i h1 e
    · rw [if_neg h1, if_neg h1]
      by_cases h2 : i < 86
      · rw [if_pos h2, if_pos h2]
      · rw [if_neg h2, if_neg h2]
        by_cases h3 : i < 95
        · rw [if_pos h3, if_pos h3]; exact hm _ (by omega)
        · rw [if_neg h3, if_neg h3]
theorem cell_mid (x x' : Ex.Xch) (ov fv ov' fv' : Value) (v : Value) (j : Nat) (hj : j < 9) (e1 : v = midR x' ov' fv' j) (e2 : ∀ i, i < 9 → i ≠ j → midR x ov fv i = midR x' ov' fv' i)
    (hp : x'.ps = x.ps) (hh : ∀ i, i < 6 → headR x i = headR x' i) (ha : x'.paid = x.paid) (ht : x'.traded = x.traded) : ∀ i, i < 135 → (if i = 86 + j then v else cellR x ov fv i) = cellR x' ov' fv' i := fun i hi => by
  by_cases e : i = 86 + j
  · subst e
    rw [if_pos rfl]
    unfold cellR
    rw [if_neg (by omega), if_neg (by omega), if_pos (by omega), Nat.add_sub_cancel_left, e1]
  · rw [if_neg e]
    unfold cellR
    rw [hp, ha, ht]
    by_cases h1 : i < 6
    · rw [if_pos h1, if_pos h1]; exact hh i h1
    · rw [if_neg h1, if_neg h1]
      by_cases h2 : i < 86
      · rw [if_pos h2, if_pos h2]
      · rw [if_neg h2, if_neg h2]
        by_cases h3 : i < 95
        · rw [if_pos h3, if_pos h3]; exact e2 _ (by omega) (by omega)
        · rw [if_neg h3, if_neg h3]

theorem RefAt.setJr (h : RefAt w p x ov fv) (l : List UInt8) : RefAt (w.setCell ⟨p, 2, none⟩ (.string ⟨l.toArray⟩)) p { x with jr := l } ov fv :=
  h.set 2 _ (cell_head x { x with jr := l } ov fv _ 2 (by decide) rfl (fun i hi e => by match i, e with | 0, _ => rfl | 1, _ => rfl | 3, _ => rfl | 4, _ => rfl | n + 5, _ => rfl) rfl (fun _ _ => rfl) rfl rfl)
theorem RefAt.setTime (h : RefAt w p x ov fv) (v : Int) : RefAt (w.setCell ⟨p, 3, none⟩ (.int .i64 v)) p { x with time := v } ov fv :=
  h.set 3 _ (cell_head x { x with time := v } ov fv _ 3 (by decide) rfl (fun i hi e => by match i, e with | 0, _ => rfl | 1, _ => rfl | 2, _ => rfl | 4, _ => rfl | n + 5, _ => rfl) rfl (fun _ _ => rfl) rfl rfl)
theorem RefAt.setBatch (h : RefAt w p x ov fv) (v : Int) : RefAt (w.setCell ⟨p, 4, none⟩ (.int .i64 v)) p { x with batch := v } ov fv :=
  h.set 4 _ (cell_head x { x with batch := v } ov fv _ 4 (by decide) rfl (fun i hi e => by match i, e with | 0, _ => rfl | 1, _ => rfl | 2, _ => rfl | 3, _ => rfl | n + 5, _ => rfl) rfl (fun _ _ => rfl) rfl rfl)
theorem RefAt.setFin (h : RefAt w p x ov fv) (v : Int) : RefAt (w.setCell ⟨p, 5, none⟩ (.int .i64 v)) p { x with fin := v } ov fv :=
  h.set 5 _ (cell_head x { x with fin := v } ov fv _ 5 (by decide) rfl (fun i hi e => by match i, hi, e with | 0, _, _ => rfl | 1, _, _ => rfl | 2, _, _ => rfl | 3, _, _ => rfl | 4, _, _ => rfl | n + 6, hi, _ => omega) rfl (fun _ _ => rfl) rfl rfl)
theorem RefAt.setOwn (h : RefAt w p x ov fv) (v : Int) : RefAt (w.setCell ⟨p, 86, none⟩ (.int .i64 v)) p { x with own := v } ov fv :=
  h.set 86 _ (cell_mid x { x with own := v } ov fv ov fv _ 0 (by decide) rfl (fun i hi e => by match i, e with | 1, _ => rfl | 2, _ => rfl | 3, _ => rfl | 4, _ => rfl | 5, _ => rfl | 6, _ => rfl | 7, _ => rfl | n + 8, _ => rfl) rfl (fun _ _ => rfl) rfl rfl)
theorem RefAt.setOv (h : RefAt w p x ov fv) (v : Value) (os : List Ex.Ord) : RefAt (w.setCell ⟨p, 87, none⟩ v) p { x with ords := os } v fv :=
  h.set 87 _ (cell_mid x { x with ords := os } ov fv v fv _ 1 (by decide) rfl (fun i hi e => by match i, e with | 0, _ => rfl | 2, _ => rfl | 3, _ => rfl | 4, _ => rfl | 5, _ => rfl | 6, _ => rfl | 7, _ => rfl | n + 8, _ => rfl) rfl (fun _ _ => rfl) rfl rfl)

theorem RefAt.setPurse (h : RefAt w p x ov fv) (t c : Nat) (ht : t < 20) (hc : c < 4) (v : Int) (q : Ex.Purse) (hq : ∀ d, d < 4 → pcell q d = if d = c then .int .i64 v else pcell (x.ps t) d) : RefAt (w.setCell ⟨p, 6 + t * 4 + c, none⟩ (.int .i64 v)) p { x with ps := Ex.upd x.ps t q } ov fv :=
  h.set _ _ fun i hi => by
    unfold cellR
    by_cases h1 : i < 6
    · rw [if_pos h1, if_pos h1, if_neg (by omega)]; rfl
    · rw [if_neg h1, if_neg h1]
      by_cases h2 : i < 86
      · rw [if_pos h2, if_pos h2]
        show _ = pcell (Ex.upd x.ps t q ((i - 6) / 4)) ((i - 6) % 4)
        by_cases e : (i - 6) / 4 = t
        · rw [e, Ex.upd_same, hq _ (Nat.mod_lt _ (by decide))]
          by_cases e2 : (i - 6) % 4 = c
          · rw [if_pos (by omega), if_pos e2]
          · rw [if_neg (by omega), if_neg e2]
        · rw [Ex.upd_ne _ _ e, if_neg (by omega)]
      · rw [if_neg h2, if_neg h2, if_neg (by omega)]; rfl
theorem RefAt.setPaid (h : RefAt w p x ov fv) (t : Nat) (ht : t < 20) (v : Int) : RefAt (w.setCell ⟨p, 95 + t, none⟩ (.int .i64 v)) p { x with paid := Ex.upd x.paid t v } ov fv :=
  h.set _ _ fun i hi => by
    unfold cellR
    by_cases h1 : i < 6
    · rw [if_pos h1, if_pos h1, if_neg (by omega)]; rfl
    · rw [if_neg h1, if_neg h1]
      by_cases h2 : i < 86
      · rw [if_pos h2, if_pos h2, if_neg (by omega)]
      · rw [if_neg h2, if_neg h2]
        by_cases h3 : i < 95
        · rw [if_pos h3, if_pos h3, if_neg (by omega)]; rfl
        · rw [if_neg h3, if_neg h3]
          by_cases h4 : i < 115
          · rw [if_pos h4, if_pos h4]
            show _ = Value.int .i64 (Ex.upd x.paid t v (i - 95))
            by_cases e : i - 95 = t
            · rw [e, Ex.upd_same, if_pos (by omega)]
            · rw [Ex.upd_ne _ _ e, if_neg (by omega)]
          · rw [if_neg h4, if_neg h4, if_neg (by omega)]
theorem RefAt.setTraded (h : RefAt w p x ov fv) (t : Nat) (ht : t < 20) (v : Bool) : RefAt (w.setCell ⟨p, 115 + t, none⟩ (.bool v)) p { x with traded := Ex.upd x.traded t v } ov fv :=
  h.set _ _ fun i hi => by
    unfold cellR
    by_cases h1 : i < 6
    · rw [if_pos h1, if_pos h1, if_neg (by omega)]; rfl
    · rw [if_neg h1, if_neg h1]
      by_cases h2 : i < 86
      · rw [if_pos h2, if_pos h2, if_neg (by omega)]
      · rw [if_neg h2, if_neg h2]
        by_cases h3 : i < 95
        · rw [if_pos h3, if_pos h3, if_neg (by omega)]; rfl
        · rw [if_neg h3, if_neg h3]
          by_cases h4 : i < 115
          · rw [if_pos h4, if_pos h4, if_neg (by omega)]
          · rw [if_neg h4, if_neg h4]
            show _ = Value.bool (Ex.upd x.traded t v (i - 115))
            by_cases e : i - 115 = t
            · rw [e, Ex.upd_same, if_pos (by omega)]
            · rw [Ex.upd_ne _ _ e, if_neg (by omega)]
end

/-- the slice v has these orders, and a row of its own. -/
def LRow (w : World) (v : Value) (os : List Ex.Ord) : Prop := w.ownsRow 0 147 3 v os.length (ocs os)
theorem LRow.nil (w : World) : LRow w (.slice none 0 0) [] := World.ownsRow_nil w 0 147 3
theorem LRow.lt {w : World} {v : Value} {os : List Ex.Ord} (h : LRow w v os) {k : Nat} (e : v.ownBlock = some k) : k < w.heap.size := (World.ownsRow.lt h k e).2
theorem LRow.kept {w w' : World} {v : Value} {os : List Ex.Ord} (h : LRow w v os) (hb : ∀ k, v.ownBlock = some k → w'.heap[k]? = w.heap[k]?) : LRow w' v os := by
  obtain ⟨h1, h2⟩ := h
  refine ⟨h1, ?_⟩
  rcases h2 with h2 | ⟨g, cap, cur, rfl, a1, a2, a3⟩
  · exact Or.inl h2
  · exact Or.inr ⟨g, cap, cur, rfl, a1, (hb g rfl).trans a2, a3⟩
theorem LRow.ords {w : World} {v : Value} {os : List Ex.Ord} (h : LRow w v os) : ∃ a cap, v = .slice a os.length cap ∧ OrdsAt w a os ∧ os.length ≤ cap := by
  rcases h.2 with ⟨rfl, h2⟩ | ⟨g, cap, cur, rfl, a1, a2, a3, a4⟩
  · refine ⟨none, 0, by rw [h2], fun i hi => by omega, by omega⟩
  · refine ⟨_, cap, rfl, fun i hi => ⟨g, rfl, (Array.getElem?_eq_some_iff.1 a2).1, ?_, ?_, ?_⟩, a3⟩
    · have := World.ownsRow.cells h (g := g) rfl (i * 3 + 0) _ ((ocs_at os i hi 0 (by omega)).trans rfl)
      rw [Addr.add_lit] at this
      simpa using this
    · have := World.ownsRow.cells h (g := g) rfl (i * 3 + 1) _ ((ocs_at os i hi 1 (by omega)).trans rfl)
      rw [Addr.add_lit] at this
      simpa using this
    · have := World.ownsRow.cells h (g := g) rfl (i * 3 + 2) _ ((ocs_at os i hi 2 (by omega)).trans rfl)
      rw [Addr.add_lit] at this
      simpa using this
end Go.Proofs.Ytjfifaooimgbaaa
/- The document's exchange: all, live, frees, Journal. -/
namespace Go.Proofs.Ytjfifaooimgbaaa
open Go.Shelf Go.RowKit Go.Lib Go.Sort

def cashR (x : Ex.Xch) (n : Nat) : Int := x.own + sumTo (fun i => (x.ps i).cash + (x.ps i).held) n
def unitsR (x : Ex.Xch) (n : Nat) : Int := sumTo (fun i => (x.ps i).units + (x.ps i).hun) n
theorem sumR_le (g : Nat → Int) (hg : ∀ i, 0 ≤ g i) : ∀ m n, n ≤ m → sumTo g n ≤ sumTo g m
  | 0, n, h => by
    have : n = 0 := by omega
    subst this; exact Int.le_refl _
  | m + 1, n, h => by
    by_cases e : n = m + 1
    · subst e; exact Int.le_refl _
    · have := sumR_le g hg m n (by omega)
      have := hg m
      rw [sumTo]; omega
theorem Ex.Ok.bdsR {x : Ex.Xch} (h : Ex.Ok x) (t : Nat) (ht : t < 20) : (0 ≤ cashR x t ∧ cashR x t + (x.ps t).cash + (x.ps t).held ≤ 1125899906842624 ∧ 0 ≤ unitsR x t ∧ unitsR x t + (x.ps t).units + (x.ps t).hun ≤ 1125899906842624) ∧
    (0 ≤ (x.ps t).cash ∧ 0 ≤ (x.ps t).held ∧ 0 ≤ (x.ps t).units ∧ 0 ≤ (x.ps t).hun) := by
  have c := h.cash t
  have u := h.units t
  have q := h.heldNon t
  have gc : ∀ i, 0 ≤ (x.ps i).cash + (x.ps i).held := fun i => by have := h.cash i; have := (h.heldNon i).1; omega
  have gu : ∀ i, 0 ≤ (x.ps i).units + (x.ps i).hun := fun i => by have := h.units i; have := (h.heldNon i).2; omega
  have s1 := sumR_le (fun i => (x.ps i).cash + (x.ps i).held) gc 20 (t + 1) (by omega)
  have s2 := sumR_le (fun i => (x.ps i).units + (x.ps i).hun) gu 20 (t + 1) (by omega)
  have s3 := Ex.sum_nonneg (fun i => (x.ps i).cash + (x.ps i).held) t (fun i _ => gc i)
  have s4 := Ex.sum_nonneg (fun i => (x.ps i).units + (x.ps i).hun) t (fun i _ => gu i)
  have a1 := h.sumC
  have a2 := h.sumU
  have o := h.own
  unfold Ex.allCash at a1
  unfold Ex.allUnits at a2
  rw [sumTo] at s1 s2
  unfold cashR unitsR
  refine ⟨⟨by omega, by omega, by omega, by omega⟩, c, q.1, u, q.2⟩

theorem RefAt.kept {w w' : World} {p : Nat} {x : Ex.Xch} {ov fv : Value} (h : RefAt w p x ov fv) (e : w'.heap[p]? = w.heap[p]?) : RefAt w' p x ov fv := FAt.kept h e
theorem RefAt.lt {w : World} {p : Nat} {x : Ex.Xch} {ov fv : Value} (h : RefAt w p x ov fv) : p < w.heap.size := FAt.lt h

set_option maxHeartbeats 1000000 in
set_option maxRecDepth 100000 in
theorem allR_any (w : World) (p : Nat) (x : Ex.Xch) (ov fv : Value) (h : RefAt w p x ov fv) (ok : Ex.Ok x) :
    Calls Try.prog 96 #[.pointer (some ⟨p, 0, none⟩)] w fun e w' => e = .returned (.tuple #[.int .i64 (Ex.allCash x), .int .i64 (Ex.allUnits x)]) ∧ Below w.heap.size w w' := by
  have mixed : Try.prog.follows .mixedOrders = true := by kernel_rfl
  have c86 : w.cell? ⟨p, 86, none⟩ = some (.int .i64 x.own) := h.mid 0 (by decide)
  have HR : Aside (RefAt w p x ov fv) := h
  have OK : Aside (Ex.Ok x) := ok
  have hpl := h.lt
  clear h ok
  go_enter Try.func96, Try.ntmps96
  go_wp2_with fail
  go_loopg [4, 5, 6] 20 (fun kx s t u wq => ∃ (i : Nat), s = .int .i64 (cashR x i) ∧ t = .int .i64 (unitsR x i) ∧ u = .int .i64 i ∧ i ≤ 20 ∧ 20 - i ≤ kx ∧ Aside (Below w.heap.size w wq))
  case atStart => exact ⟨0, congrArg (Value.int .i64) (by unfold cashR; rw [sumTo]; omega), rfl, rfl, Nat.zero_le _, by omega, Below.refl _ _⟩
  case round =>
    obtain ⟨i, rfl, rfl, rfl, hi, hkx, BE⟩ := hrel
    by_cases hlt : i < 20
    · have hltz : (i : Int) < 20 := by omega
      have R : Aside (RefAt wr p x ov fv) := HR.out.kept (BE.out.block p hpl)
      have x0 : wr.cell? ⟨p, 6 + i * 4, none⟩ = some (.int .i64 (x.ps i).cash) := R.out.purse i 0 hlt (by decide)
      have x1 : wr.cell? ⟨p, 6 + i * 4 + 1, none⟩ = some (.int .i64 (x.ps i).held) := R.out.purse i 1 hlt (by decide)
      have x2 : wr.cell? ⟨p, 6 + i * 4 + 2, none⟩ = some (.int .i64 (x.ps i).units) := R.out.purse i 2 hlt (by decide)
      have x3 : wr.cell? ⟨p, 6 + i * 4 + 3, none⟩ = some (.int .i64 (x.ps i).hun) := R.out.purse i 3 hlt (by decide)
      obtain ⟨⟨b1, b2, b3, b4⟩, b5, b6, b7, b8⟩ := OK.out.bdsR i hlt
      have E1 : Aside (cashR x (i + 1) = cashR x i + (x.ps i).cash + (x.ps i).held) := by show _ = _; unfold cashR; rw [sumTo]; omega
      have E2 : Aside (unitsR x (i + 1) = unitsR x i + (x.ps i).units + (x.ps i).hun) := by show _ = _; unfold unitsR; rw [sumTo]; omega
      have hsz := BE.out.size
      generalize x.ps i = q at *
      go_wp2
      go_roundg (20 - (i + 1))
      case measure => omega
      case rel => exact ⟨i + 1, by rw [E1.out], by rw [E2.out], by go_num, by omega, Nat.le_refl _, BE.out.alloc hsz _⟩
    · have hltz : ¬ (i : Int) < 20 := by omega
      obtain rfl : i = 20 := by omega
      go_wp2
      go_ret2
      exact ⟨rfl, BE.out⟩

set_option maxHeartbeats 1000000 in
set_option maxRecDepth 100000 in
theorem journalR_any (w : World) (p : Nat) (x : Ex.Xch) (ov fv : Value) (h : RefAt w p x ov fv) :
    Calls Try.prog 44 #[.pointer (some ⟨p, 0, none⟩)] w fun e w' => e = .returned (.tuple #[.string ⟨x.jr.toArray⟩, .int .i64 0]) ∧ w' = w := by
  have c2 : w.cell? ⟨p, 2, none⟩ = some (.string ⟨x.jr.toArray⟩) := h.head 2 (by decide)
  clear h
  go_enter Try.func44, Try.ntmps44
  go_wp2
  go_ret2
  exact ⟨rfl, rfl⟩

def placeR (os : List Ex.Ord) (t : Nat) : Int := match os.findIdx? (fun o => o.who == t) with | some i => (i : Int) | none => -1

set_option maxHeartbeats 1000000 in
set_option maxRecDepth 100000 in
theorem liveR_any (w : World) (p t : Nat) (x : Ex.Xch) (ov fv : Value) (h : RefAt w p x ov fv) (hO : LRow w ov x.ords) (hl : x.ords.length ≤ 20) :
    Calls Try.prog 97 #[.pointer (some ⟨p, 0, none⟩), .int .i64 t] w fun e w' => e = .returned (.int .i64 (placeR x.ords t)) ∧ w' = w := by
  obtain ⟨a, cap, rfl, h1, h2⟩ := hO.ords
  have c87 : w.cell? ⟨p, 87, none⟩ = some (.slice a x.ords.length cap) := h.mid 1 (by decide)
  have HO : Aside (OrdsAt w a x.ords) := h1
  clear h h1 hO
  go_enter Try.func97, Try.ntmps97
  go_wp2_with fail
  go_loopg [5] x.ords.length (fun kx s wq => ∃ (i : Nat), s = .int .i64 i ∧ i ≤ x.ords.length ∧ x.ords.length - i ≤ kx ∧ Aside (∀ j, j < i → (x.ords.getD j ⟨0, 0, 0⟩).who ≠ t) ∧ wq = w)
  case atStart => exact ⟨0, rfl, Nat.zero_le _, by omega, fun j hj => absurd hj (by omega), rfl⟩
  case round =>
    obtain ⟨i, rfl, hi, hkx, NO, rfl⟩ := hrel
    by_cases hlt : i < x.ords.length
    · have hltz : (i : Int) < (x.ords.length : Int) := by omega
      obtain ⟨g, rfl, q1, q2, q3, q4⟩ := HO.out i hlt
      have HW : Aside ((x.ords.getD i ⟨0, 0, 0⟩).who = (x.ords.getD i ⟨0, 0, 0⟩).who) := rfl
      obtain ⟨o, ho⟩ : ∃ o, x.ords.getD i ⟨0, 0, 0⟩ = o := ⟨_, rfl⟩
      have HE : Aside (x.ords.getD i ⟨0, 0, 0⟩ = o) := ho
      rw [ho] at q2 q3 q4
      clear ho HW
      by_cases hw : o.who = t
      · have hwz : ((o.who : Int) == (t : Int)) = true := by rw [hw]; simp
        have EP : Aside (placeR x.ords t = (i : Int)) := by
          show _ = _
          unfold placeR
          rw [place_hit hlt (by rw [HE.out]; exact hw) NO.out]
        go_wp2
        go_ret
        exact ⟨by rw [EP.out]; rfl, rfl⟩
      · have hwz : ((o.who : Int) == (t : Int)) = false := beq_eq_false_iff_ne.2 (by omega)
        have NO2 : Aside (∀ j, j < i + 1 → (x.ords.getD j ⟨0, 0, 0⟩).who ≠ t) := fun j hj => by
          by_cases e : j = i
          · subst e; rw [HE.out]; exact hw
          · exact NO.out j (by omega)
        go_wp2
        go_roundg (x.ords.length - (i + 1))
        case measure => omega
        case rel => exact ⟨i + 1, by go_num, by omega, Nat.le_refl _, NO2, rfl⟩
    · have hltz : ¬ (i : Int) < (x.ords.length : Int) := by omega
      obtain rfl : i = x.ords.length := by omega
      have EP : Aside (placeR x.ords t = -1) := by
        show _ = _
        unfold placeR
        rw [place_miss NO.out]
      go_wp2
      go_ret
      exact ⟨by rw [EP.out]; rfl, rfl⟩
end Go.Proofs.Ytjfifaooimgbaaa
/- The small functions of the document's answer. -/
namespace Go.Proofs.Ytjfifaooimgbaaa
open Go.Shelf Go.RowKit Go.Lib Go.Sort

theorem cat_str (a b : List UInt8) : (⟨a.toArray⟩ : ByteArray) ++ ⟨b.toArray⟩ = ⟨(a ++ b).toArray⟩ := by
  apply ByteArray.ext
  simp

set_option maxHeartbeats 1000000 in
set_option maxRecDepth 100000 in
theorem bytesR_any (n many : Nat) (w : World) (hm : many ≤ 1000) :
    Calls Try.prog 79 #[.int .i64 n, .int .i64 many] w fun e w' => e = .returned (txt (bytesOf n many)) ∧ w' = rowed w (bytesOf n many) := by
  have mixed : Try.prog.follows .mixedOrders = true := by kernel_rfl
  have hmk := make_bytes many w hm
  obtain ⟨W0, hW0⟩ : ∃ W0, W0 = w.alloc (.cells ((List.replicate many (0 : UInt8)).map (fun b => Value.int .u8 b.toNat)).toArray 5) := ⟨_, rfl⟩
  rw [← hW0] at hmk
  have T0 : Aside (W0 = rowed w (List.replicate many 0)) := hW0
  clear hW0
  go_enter Try.func79, Try.ntmps79
  go_wp2_with fail
  clear hmk
  go_loopg [0, 6] many (fun kx s t wq => ∃ (k : Nat) (cs : List UInt8), k ≤ many ∧ s = .int .i64 ((n / 256 ^ (many - k) : Nat) : Int) ∧ t = .int .i64 ((k : Int) - 1) ∧ k ≤ kx ∧ Aside (wq = rowed w cs) ∧ Aside (cs.length = many) ∧ Aside (∀ j, k ≤ j → j < many → cs[j]? = some (UInt8.ofNat (n / 256 ^ (many - 1 - j)))))
  case atStart => exact ⟨many, _, Nat.le_refl _, by simp, rfl, by omega, T0, by show List.length _ = _; simp, fun j q1 q2 => absurd q1 (by omega)⟩
  case round =>
    obtain ⟨k, cs, hk, rfl, ht, hkx, RW, LC, DJ⟩ := hrel
    have BA : Aside (BytesAt wr w.heap.size cs) := by
      show BytesAt _ _ _
      rw [RW.out]; exact rowed_at w cs
    cases k with
    | zero =>
      subst ht
      have hz : ¬ (0 : Int) ≤ ((0 : Nat) : Int) - 1 := by omega
      have ecs : cs = bytesOf n many := bytesOf_eq n many cs LC.out (fun j hj => DJ.out j (Nat.zero_le _) hj)
      have hcv := run_convert_bytes_back (P := Try.prog) wr 98 9 5 ⟨w.heap.size, 0, none⟩ many cs Try.underlying98 Try.underlying5 Try.underlying9 (fun j hj => by rw [Addr.add_lit, Nat.zero_add]; exact BA.out.cell hj)
      rw [LC.out] at hcv
      have ECS : Aside (cs = bytesOf n many) := ecs
      clear ecs
      go_wp2
      go_ret
      refine ⟨?_, ?_⟩
      · rw [ECS.out]; rfl
      · rw [RW.out, ECS.out]
    | succ m =>
      have e : ((m + 1 : Nat) : Int) - 1 = (m : Int) := by omega
      rw [e] at ht
      subst ht
      have hz : (0 : Int) ≤ (m : Int) := by omega
      have hml : (m : Int) < (many : Int) := by omega
      have hc := BA.out.cell (i := m) (by rw [LC.out]; omega)
      have hf := BA.out.frozen m
      obtain ⟨q, hq⟩ : ∃ q, n / 256 ^ (many - (m + 1)) = q := ⟨_, rfl⟩
      rw [hq]
      have HQ : Aside (n / 256 ^ (many - (m + 1)) = q) := hq
      have HQ2 : Aside (n / 256 ^ (many - m) = q / 256) := by
        show _ = _
        rw [← hq, Nat.div_div_eq_div_mul, ← Nat.pow_succ, show many - m = (many - (m + 1)).succ by omega]
      have hq1 : q ≤ n := by rw [← hq]; exact Nat.div_le_self _ _
      have BS : Aside (wr.setCell ⟨w.heap.size, m, none⟩ (.int .u8 ((q : Int) % 256)) = rowed w (cs.set m (UInt8.ofNat q))) := by
        show _ = _
        rw [RW.out, ← rowed_set, UInt8.toNat_ofNat', show ((q % 2 ^ 8 : Nat) : Int) = (q : Int) % 256 by omega]
      clear hq
      go_wp2
      go_roundg m
      case measure => omega
      case rel =>
        refine ⟨m, cs.set m (UInt8.ofNat q), by omega, ?_, rfl, Nat.le_refl _, BS, ?_, fun j q1 q2 => ?_⟩
        · rw [HQ2.out]; exact congrArg (Value.int .i64) (by omega)
        · show List.length _ = _
          rw [List.length_set]; exact LC.out
        · by_cases hjm : j = m
          · subst hjm
            rw [List.getElem?_set_self (by rw [LC.out]; omega), show many - 1 - j = many - (j + 1) by omega, HQ.out]
          · rw [List.getElem?_set_ne (by omega)]
            exact DJ.out j (by omega) q2

set_option maxHeartbeats 400000 in
set_option maxRecDepth 100000 in
theorem oneR_any (c : Nat) (w : World) : Calls Try.prog 80 #[.int .i64 c] w fun e w' => e = .returned (.string ⟨(bytesOf c 1).toArray⟩) ∧ w' = rowed w (bytesOf c 1) := by
  have hb := bytesR_any c 1 w (by decide)
  unfold txt at hb
  go_enter Try.func80, Try.ntmps80
  go_wp2_with fail
  refine hb.mono ?_
  rintro e w1 ⟨rfl, hw1⟩
  have HW : Aside _ := hw1
  clear hw1 hb
  go_wp2
  go_ret
  exact ⟨rfl, HW.out⟩

set_option maxHeartbeats 400000 in
set_option maxRecDepth 100000 in
theorem longR_any (k : Nat) (w : World) : Calls Try.prog 81 #[.int .i64 k] w fun e w' => e = .returned (.int .i64 (Ex.longOf k : Nat)) ∧ w' = w := by
  obtain ⟨n, hn⟩ : ∃ n, Ex.longOf k = n := ⟨_, rfl⟩
  rw [hn]
  unfold Ex.longOf at hn
  by_cases h1 : 1 ≤ k ∧ k ≤ 4
  · rw [if_pos h1] at hn
    subst hn
    obtain rfl | rfl | rfl | rfl : k = 1 ∨ k = 2 ∨ k = 3 ∨ k = 4 := by omega
    all_goals
      go_enter Try.func81, Try.ntmps81
      go_wp2
      go_ret
      exact ⟨rfl, rfl⟩
  · rw [if_neg h1] at hn
    have d1 : ((k : Int) == 1) = false := beq_eq_false_iff_ne.2 (by omega)
    have d2 : ((k : Int) == 2) = false := beq_eq_false_iff_ne.2 (by omega)
    have d3 : ((k : Int) == 3) = false := beq_eq_false_iff_ne.2 (by omega)
    have d4 : ((k : Int) == 4) = false := beq_eq_false_iff_ne.2 (by omega)
    by_cases h5 : k = 5
    · rw [if_pos h5] at hn
      subst hn h5
      go_enter Try.func81, Try.ntmps81
      go_wp2
      go_ret
      exact ⟨rfl, rfl⟩
    · rw [if_neg h5] at hn
      have d5 : ((k : Int) == 5) = false := beq_eq_false_iff_ne.2 (by omega)
      by_cases h6 : k = 6 ∨ k = 7 ∨ k = 9
      · rw [if_pos h6] at hn
        subst hn
        rcases h6 with rfl | rfl | rfl
        all_goals
          go_enter Try.func81, Try.ntmps81
          go_wp2
          go_ret
          exact ⟨rfl, rfl⟩
      · rw [if_neg h6] at hn
        have d6 : ((k : Int) == 6) = false := beq_eq_false_iff_ne.2 (by omega)
        have d7 : ((k : Int) == 7) = false := beq_eq_false_iff_ne.2 (by omega)
        have d9 : ((k : Int) == 9) = false := beq_eq_false_iff_ne.2 (by omega)
        by_cases h8 : k = 8 ∨ k = 10
        · rw [if_pos h8] at hn
          subst hn
          rcases h8 with rfl | rfl
          all_goals
            go_enter Try.func81, Try.ntmps81
            go_wp2
            go_ret
            exact ⟨rfl, rfl⟩
        · rw [if_neg h8] at hn
          subst hn
          have d8 : ((k : Int) == 8) = false := beq_eq_false_iff_ne.2 (by omega)
          have d10 : ((k : Int) == 10) = false := beq_eq_false_iff_ne.2 (by omega)
          go_enter Try.func81, Try.ntmps81
          go_wp2
          go_ret
          exact ⟨rfl, rfl⟩
set_option maxHeartbeats 400000 in
set_option maxRecDepth 100000 in
theorem recordR_any (time : Nat) (r : List UInt8) (hr : r.length ≤ 1000) (w : World) :
    Calls Try.prog 66 #[.int .i64 time, .string ⟨r.toArray⟩] w fun e w' => e = .returned (.string ⟨(Ex.record time r).toArray⟩) ∧ Below w.heap.size w w' := by
  have HB : Aside (∀ (n m : Nat) W, m ≤ 1000 → Calls Try.prog 79 #[.int .i64 n, .int .i64 m] W fun e w' => e = .returned (.string ⟨(bytesOf n m).toArray⟩) ∧ w' = rowed W (bytesOf n m)) := fun n m W hm => bytesR_any n m W hm
  have l1 : (bytesOf r.length 1).length = 1 := bytesOf_length _ _
  have l2 : (bytesOf time 8).length = 8 := bytesOf_length _ _
  have er : Ex.record time r = bytesOf r.length 1 ++ bytesOf time 8 ++ r ++ [165] := by
    unfold Ex.record
    rw [Int.toNat_natCast]
  have ER : Aside _ := er
  clear er
  have B1 := HB.out r.length 1
  have B8 := HB.out time 8
  generalize bytesOf r.length 1 = b1 at *
  generalize bytesOf time 8 = b8 at *
  have HB1 : Aside _ := B1
  have HB8 : Aside _ := B8
  clear B1 B8 HB
  have c1 : ({ data := b1.toArray } : ByteArray) ++ { data := b8.toArray } = { data := (b1 ++ b8).toArray } := cat_str _ _
  have c2 : ({ data := (b1 ++ b8).toArray } : ByteArray) ++ { data := r.toArray } = { data := (b1 ++ b8 ++ r).toArray } := cat_str _ _
  have c3 : ({ data := (b1 ++ b8 ++ r).toArray } : ByteArray) ++ { data := #[165] } = { data := (b1 ++ b8 ++ r ++ [165]).toArray } := cat_str _ [165]
  go_enter Try.func66, Try.ntmps66
  go_wp2_with fail
  refine Calls.mono (f := 79) (HB1.out _ (by decide)) ?_
  rintro e w1 ⟨rfl, hw1⟩
  have W1 : Aside _ := hw1
  clear hw1
  go_wp2_with fail
  refine Calls.mono (f := 79) (HB8.out _ (by decide)) ?_
  rintro e w2 ⟨rfl, hw2⟩
  have W2 : Aside _ := hw2
  clear hw2
  go_wp2
  go_ret
  refine ⟨?_, ?_⟩
  · rw [ER.out]
    exact congrArg Ending.returned (congrArg Value.string ((cat_str (b1 ++ (b8 ++ r)) [165]).trans (by simp)))
  · rw [W2.out, W1.out]
    unfold rowed
    exact ((Below.refl _ _).alloc (Nat.le_refl _) _).alloc (by simp) _

/-- the number, as far as it matters. -/
def numCap (l : List UInt8) : Nat := if 18014398509481984 ≤ numOf (l.take (l.length - 1)) then 4611686018427387904 else numOf l
theorem num_mono (l : List UInt8) {i j : Nat} (h : i ≤ j) : numOf (l.take i) ≤ numOf (l.take j) := by
  have := num_take (l.take j) i
  rwa [List.take_take, Nat.min_eq_left h] at this

set_option maxHeartbeats 1000000 in
set_option maxRecDepth 100000 in
theorem numberR_any (l : List UInt8) (w : World) (hl : l.length ≤ 1000) :
    Calls Try.prog 64 #[.string ⟨l.toArray⟩] w fun e w' => e = .returned (.int .i64 (numCap l : Nat)) ∧ w' = w := by
  have mixed : Try.prog.follows .mixedOrders = true := by kernel_rfl
  go_enter Try.func64, Try.ntmps64
  go_wp2_with fail
  go_loopg [3, 4] l.length (fun kx s t wq => ∃ (i : Nat), s = .int .i64 (numOf (l.take i) : Nat) ∧ t = .int .i64 i ∧ i ≤ l.length ∧ l.length - i ≤ kx ∧ wq = w ∧ Aside (∀ j, j < i → numOf (l.take j) < 18014398509481984))
  case atStart => exact ⟨0, rfl, rfl, Nat.zero_le _, by omega, rfl, fun j hj => absurd hj (by omega)⟩
  case round =>
    obtain ⟨i, rfl, rfl, hi, hkx, rfl, LO⟩ := hrel
    by_cases hlt : i < l.length
    · have hltz : (i : Int) < (l.length : Int) := by omega
      have nx := num_next l i hlt
      have NX : Aside _ := nx
      obtain ⟨q, hq⟩ : ∃ q, numOf (l.take i) = q := ⟨_, rfl⟩
      rw [hq] at nx ⊢
      have HQ : Aside (numOf (l.take i) = q) := hq
      have hb : (l[i]).toNat < 256 := UInt8.toNat_lt _
      clear hq
      by_cases hbig : 18014398509481984 ≤ q
      · have hbz : (18014398509481984 : Int) ≤ (q : Int) := by omega
        have ec : numCap l = 4611686018427387904 := by
          unfold numCap
          rw [if_pos]
          have := num_mono l (i := i) (j := l.length - 1) (by omega)
          rw [HQ.out] at this
          omega
        have EC : Aside _ := ec
        clear ec
        go_wp2
        go_ret
        exact ⟨by rw [EC.out]; rfl, rfl⟩
      · have hbz : ¬ (18014398509481984 : Int) ≤ (q : Int) := by omega
        have eb : ({ data := l.toArray } : ByteArray)[i] = l[i] := rfl
        obtain ⟨b, hbq⟩ : ∃ b, (l[i]).toNat = b := ⟨_, rfl⟩
        rw [hbq] at nx hb
        have HB : Aside ((l[i]).toNat = b) := hbq
        have hw : wrap64 (b : Int) = (b : Int) := by unfold wrap64; omega
        have LO2 : Aside (∀ j, j < i + 1 → numOf (l.take j) < 18014398509481984) := fun j hj => by
          by_cases hji : j < i
          · exact LO.out j hji
          · obtain rfl : j = i := by omega
            rw [HQ.out]; omega
        go_wp2
        go_roundg (l.length - (i + 1))
        case measure => omega
        case rel => exact ⟨i + 1, congrArg (Value.int .i64) (by rw [NX.out, HQ.out, HB.out]; omega), by go_num, by omega, Nat.le_refl _, rfl, LO2⟩
    · have hltz : ¬ (i : Int) < (l.length : Int) := by omega
      obtain rfl : i = l.length := by omega
      have ec : numCap l = numOf (l.take l.length) := by
        unfold numCap
        rw [List.take_length]
        by_cases h0 : l.length = 0
        · have : l = [] := List.length_eq_zero_iff.1 h0
          subst this
          rfl
        · have := LO.out (l.length - 1) (by omega)
          rw [if_neg (by omega)]
      have EC : Aside _ := ec
      clear ec
      go_wp2
      go_ret
      exact ⟨by rw [EC.out, List.take_length]; rfl, rfl⟩
end Go.Proofs.Ytjfifaooimgbaaa
