/- The walks of those that only read the lines. -/
import Derived.Test.YtjfifaooimgbaaaLine
import Derived.Deep.QuietTactic
import Derived.BigQuiet
namespace Go.Proofs.Ytjfifaooimgbaaa
open Go.Shelf Go.RowKit Go.Lib Go.Sort

/-- nothing has turned; there may be new blocks. -/
def Gr (w w' : World) : Prop := ∃ q os, w' = grow (w.drewN q) os
theorem Gr.refl (w : World) : Gr w w := ⟨0, #[], by rw [grow_empty]; rfl⟩
theorem Gr.trans {a b c : World} (h : Gr a b) (k : Gr b c) : Gr a c := by
  obtain ⟨q, os, rfl⟩ := h
  obtain ⟨q', os', rfl⟩ := k
  exact ⟨q + q', os ++ os', by show grow (grow ((a.drewN q).drewN q') os) os' = _; rw [grow_grow, World.drewN_drewN]⟩
theorem Gr.alloc {a b : World} (h : Gr a b) (o : Obj) : Gr a (b.alloc o) := h.trans ⟨0, #[o], by rw [alloc_eq_grow]; rfl⟩
theorem Gr.drew {a b : World} (h : Gr a b) : Gr a b.drew := h.trans ⟨1, #[], by rw [grow_empty]; rfl⟩
theorem Gr.drewN {a b : World} (h : Gr a b) (n : Nat) : Gr a (b.drewN n) := h.trans ⟨n, #[], by rw [grow_empty]⟩
theorem Gr.below {w w' : World} (h : Gr w w') : Below w.heap.size w w' := by
  obtain ⟨q, os, rfl⟩ := h
  exact below_grow w q os
theorem BidsAt.gr {w w' : World} {a : Option Addr} {s : List (Int × Int)} (h : BidsAt w a s) (g : Gr w w') : BidsAt w' a s := fun i hi => by
  obtain ⟨b, o, ha, h1, h2, h3⟩ := h i hi
  exact ⟨b, o, ha, Nat.lt_of_lt_of_le h1 g.below.size, (g.below.cell (p := ⟨b, o + i * 2, none⟩) h1).trans h2, (g.below.cell (p := ⟨b, o + i * 2 + 1, none⟩) h1).trans h3⟩

def priceAt (no : Int) (s : List (Int × Int)) (i : Nat) : Int := if i < s.length then (s.getD i (0, 0)).2 else no

set_option maxHeartbeats 400000 in
theorem price_any (a : Option Addr) (cap : Nat) (no : Int) (s : List (Int × Int)) (i : Nat) (w : World) (hB : BidsAt w a s) :
    Calls Try.prog 75 #[.agg #[.slice a s.length cap, .int .i64 no], .int .i64 i] w fun e w' => e = .returned (.int .i64 (priceAt no s i)) ∧ Gr w w' := by
  by_cases h : i < s.length
  · obtain ⟨b, o, rfl, h1, h2, h3⟩ := hB i h
    have e : priceAt no s i = (s.getD i (0, 0)).2 := by unfold priceAt; rw [if_pos h]
    rw [e]
    generalize (s.getD i (0, 0)).2 = p at h3 ⊢
    clear hB e h2
    have hz : (i : Int) < (s.length : Int) := by omega
    have hb2 : b < (w.alloc (Obj.cells #[Value.slice (some ⟨b, o, none⟩) s.length cap, Value.int IntKind.i64 no] 109)).heap.size := by simp; omega
    go_enter Try.func75, Try.ntmps75
    go_wp2
    go_ret
    exact ⟨rfl, (Gr.refl _).alloc _⟩
  · have e : priceAt no s i = no := by unfold priceAt; rw [if_neg h]
    rw [e]
    have hz : ¬ (i : Int) < (s.length : Int) := by omega
    go_enter Try.func75, Try.ntmps75
    go_wp2
    go_ret
    exact ⟨rfl, (Gr.refl _).alloc _⟩

/-- how many pairs: the first k of both agree in price, the next ones don't. -/
structure IsK (B S : List (Int × Int)) (k : Nat) : Prop where
  yes : ∀ i, i < k → priceAt 1000 S i ≤ priceAt 0 B i
  no : priceAt 0 B k < priceAt 1000 S k
/-- every price is one that may be. -/
def Priced (s : List (Int × Int)) : Prop := ∀ x ∈ s, 1 ≤ x.2 ∧ x.2 < 1000
theorem Priced.at {s : List (Int × Int)} (h : Priced s) {i : Nat} (hi : i < s.length) : 1 ≤ (s.getD i (0, 0)).2 ∧ (s.getD i (0, 0)).2 < 1000 := by
  have := h (s[i]) (List.getElem_mem hi)
  rw [List.getD_eq_getElem?_getD, List.getElem?_eq_getElem hi]; exact this
theorem pair_in {B S : List (Int × Int)} (hB : Priced B) (hS : Priced S) {i : Nat} (h : priceAt 1000 S i ≤ priceAt 0 B i) : i < B.length ∧ i < S.length := by
  unfold priceAt at h
  by_cases h1 : i < S.length
  · by_cases h2 : i < B.length
    · exact ⟨h2, h1⟩
    · rw [if_pos h1, if_neg h2] at h; have := hS.at h1; omega
  · by_cases h2 : i < B.length
    · rw [if_neg h1, if_pos h2] at h; have := hB.at h2; omega
    · rw [if_neg h1, if_neg h2] at h; omega

theorem Gr.cell {w w' : World} (h : Gr w w') {b o : Nat} {v : Value} (hb : b < w.heap.size) (hc : w.cell? ⟨b, o, none⟩ = some v) : w'.cell? ⟨b, o, none⟩ = some v := (h.below.cell (p := ⟨b, o, none⟩) hb).trans hc

/-- the boxes in which two lines were handed over. -/
def Boxes (w : World) (x : Nat) (v v' : Value) : Prop := x + 1 < w.heap.size ∧ w.cell? ⟨x, 0, none⟩ = some v ∧ w.cell? ⟨x, 1, none⟩ = some (.int .i64 0) ∧ w.cell? ⟨x + 1, 0, none⟩ = some v' ∧ w.cell? ⟨x + 1, 1, none⟩ = some (.int .i64 1000)
theorem Boxes.gr {w w' : World} {x : Nat} {v v' : Value} (h : Boxes w x v v') (g : Gr w w') : Boxes w' x v v' :=
  ⟨Nat.lt_of_lt_of_le h.1 g.below.size, g.cell (by have := h.1; omega) h.2.1, g.cell (by have := h.1; omega) h.2.2.1, g.cell h.1 h.2.2.2.1, g.cell h.1 h.2.2.2.2⟩
theorem boxes_made (w : World) (v v' : Value) : Boxes ((w.alloc (Obj.cells #[v, Value.int IntKind.i64 0] 109)).alloc (Obj.cells #[v', Value.int IntKind.i64 1000] 109)) w.heap.size v v' := by
  refine ⟨by simp, by simp, by simp, by simp, by simp⟩

set_option maxHeartbeats 1000000 in
theorem countPairs_any (a a' : Option Addr) (cap cap' : Nat) (B S : List (Int × Int)) (w : World) (hB : BidsAt w a B) (hS : BidsAt w a' S) (pB : Priced B) (pS : Priced S) (hb : B.length ≤ 8796093022208) (hs : S.length ≤ 8796093022208) :
    Calls Try.prog 56 #[.agg #[.slice a B.length cap, .int .i64 0], .agg #[.slice a' S.length cap', .int .i64 1000]] w fun e w' => ∃ k : Nat, e = .returned (.int .i64 k) ∧ IsK B S k ∧ k ≤ B.length ∧ k ≤ S.length ∧ Gr w w' := by
  have HB : Aside _ := hB
  have HS : Aside _ := hS
  have PB : Aside _ := pB
  have PS : Aside _ := pS
  clear hB hS pB pS
  have mixed : Try.prog.follows .mixedOrders = true := by kernel_rfl
  go_enter Try.func56, Try.ntmps56
  go_wp2
  have BX := boxes_made w (Value.slice a B.length cap) (Value.slice a' S.length cap')
  have G0 : Gr w ((w.alloc (Obj.cells #[Value.slice a B.length cap, Value.int IntKind.i64 0] 109)).alloc (Obj.cells #[Value.slice a' S.length cap', Value.int IntKind.i64 1000] 109)) := ((Gr.refl w).alloc _).alloc _
  generalize (w.alloc (Obj.cells #[Value.slice a B.length cap, Value.int IntKind.i64 0] 109)).alloc (Obj.cells #[Value.slice a' S.length cap', Value.int IntKind.i64 1000] 109) = W0 at BX G0 ⊢
  have BX0 : Aside _ := BX
  have G00 : Aside _ := G0
  clear BX G0
  go_loopg [5] (B.length + 1) (fun kx s wr => ∃ k : Nat, s = .int .i64 k ∧ k ≤ B.length ∧ k ≤ S.length ∧ B.length + 1 - k ≤ kx ∧ Aside (∀ i, i < k → priceAt 1000 S i ≤ priceAt 0 B i) ∧ Aside (Boxes wr w.heap.size (Value.slice a B.length cap) (Value.slice a' S.length cap')) ∧ Aside (Gr w wr))
  case atStart => exact ⟨0, rfl, by omega, by omega, by omega, (fun i hi => by omega : ∀ i, i < 0 → priceAt 1000 S i ≤ priceAt 0 B i), BX0, G00⟩
  case round =>
    clear BX0 G00
    obtain ⟨k, rfl, hk1, hk2, hkx, I, BX, G⟩ := hrel
    have c0 : ∀ n os, (grow (wr.drewN n) os).cell? ⟨w.heap.size, 0, none⟩ = some (Value.slice a B.length cap) := fun n os => (BX.out.gr ⟨n, os, rfl⟩).2.1
    have c1 : ∀ n os, (grow (wr.drewN n) os).cell? ⟨w.heap.size, 1, none⟩ = some (.int .i64 0) := fun n os => (BX.out.gr ⟨n, os, rfl⟩).2.2.1
    have c2 : ∀ n os, (grow (wr.drewN n) os).cell? ⟨w.heap.size + 1, 0, none⟩ = some (Value.slice a' S.length cap') := fun n os => (BX.out.gr ⟨n, os, rfl⟩).2.2.2.1
    have c3 : ∀ n os, (grow (wr.drewN n) os).cell? ⟨w.heap.size + 1, 1, none⟩ = some (.int .i64 1000) := fun n os => (BX.out.gr ⟨n, os, rfl⟩).2.2.2.2
    have p1 : ∀ n os, Calls Try.prog 75 #[.agg #[.slice a B.length cap, .int .i64 0], .int .i64 k] (grow (wr.drewN n) os) fun e w' => e = .returned (.int .i64 (priceAt 0 B k)) ∧ ∃ q os', w' = grow ((grow (wr.drewN n) os).drewN q) os' := fun n os => price_any a cap 0 B k _ (BidsAt.gr HB.out (G.out.trans ⟨n, os, rfl⟩))
    have p2 : ∀ n os, Calls Try.prog 75 #[.agg #[.slice a' S.length cap', .int .i64 1000], .int .i64 k] (grow (wr.drewN n) os) fun e w' => e = .returned (.int .i64 (priceAt 1000 S k)) ∧ ∃ q os', w' = grow ((grow (wr.drewN n) os).drewN q) os' := fun n os => price_any a' cap' 1000 S k _ (BidsAt.gr HS.out (G.out.trans ⟨n, os, rfl⟩))
    have PP : Aside (priceAt 1000 S k ≤ priceAt 0 B k → k < B.length ∧ k < S.length) := fun h => pair_in PB.out PS.out h
    have I' : Aside ((∀ i, i < k → priceAt 1000 S i ≤ priceAt 0 B i) ∧ (priceAt 1000 S k ≤ priceAt 0 B k → ∀ i, i < k + 1 → priceAt 1000 S i ≤ priceAt 0 B i) ∧ (priceAt 0 B k < priceAt 1000 S k → IsK B S k)) :=
      ⟨I.out, fun h i hi => by
        by_cases e : i = k
        · rw [e]; exact h
        · exact I.out i (by omega), fun h => ⟨I.out, h⟩⟩
    clear I
    generalize priceAt 0 B k = pb at p1 PP I'
    generalize priceAt 1000 S k = ps at p2 PP I'
    by_cases hle : ps ≤ pb
    · have hlt := PP.out hle
      have hd : decide (ps ≤ pb) = true := decide_eq_true hle
      go_wp2_with fail
      go_quiet_grown (first | (go_at_call_of 75 (Value.int IntKind.i64 1000); refine Calls.grown_of (p2 _ _)) | (go_at_call 75; refine Calls.grown_of (p1 _ _)))
      go_wp2
      go_roundg (B.length + 1 - (k + 1))
      case measure => omega
      case rel => exact ⟨k + 1, by go_num, by omega, by omega, Nat.le_refl _, I'.out.2.1 hle, BX.out.gr ⟨nq, osq, rfl⟩, G.out.trans ⟨nq, osq, rfl⟩⟩
    · have hd : decide (ps ≤ pb) = false := decide_eq_false hle
      go_wp2_with fail
      go_quiet_grown (first | (go_at_call_of 75 (Value.int IntKind.i64 1000); refine Calls.grown_of (p2 _ _)) | (go_at_call 75; refine Calls.grown_of (p1 _ _)))
      go_wp2
      go_ret
      exact ⟨k, rfl, I'.out.2.2 (by omega), hk1, hk2, G.out.trans ⟨nq, osq, rfl⟩⟩
#print axioms countPairs_any
end Go.Proofs.Ytjfifaooimgbaaa
