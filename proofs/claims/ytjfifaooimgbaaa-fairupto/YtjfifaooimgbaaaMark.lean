/- The walks of mark and shareOf. -/
import Derived.Test.YtjfifaooimgbaaaSettle
import Derived.Laws.FloatArith
namespace Go.Proofs.Ytjfifaooimgbaaa
open Go.Shelf Go.RowKit Go.Lib Go.Sort

theorem gb_refl (w : World) (r : Option Nat) : w.grownBy w r := ⟨rfl, rfl, rfl, Nat.le_refl _, fun _ _ _ => rfl⟩
theorem gb_trans {a b c : World} {r : Option Nat} (h : a.grownBy b r) (k : b.grownBy c r) : a.grownBy c r :=
  ⟨k.os.trans h.os, k.tape.trans h.tape, k.output.trans h.output, Nat.le_trans h.size k.size, fun i hi hr => (k.block i (Nat.lt_of_lt_of_le hi h.size) hr).trans (h.block i hi hr)⟩
theorem gb_alloc {a b : World} {r : Option Nat} (h : a.grownBy b r) (o : Obj) : a.grownBy (b.alloc o) r := gb_trans h (World.grownBy_alloc b o r)
theorem gb_drew {a b : World} {r : Option Nat} (h : a.grownBy b r) : a.grownBy b.drew r := ⟨h.os, h.tape, h.output, h.size, h.block⟩
theorem gb_set {a b : World} {F : Nat} (h : a.grownBy b (some F)) (o : Nat) (v : Value) : a.grownBy (b.setCell ⟨F, o, none⟩ v) (some F) :=
  gb_trans h ⟨rfl, rfl, rfl, by simp [World.setCell], fun k _ hne => Below.heap_setCell b ⟨F, o, none⟩ v k (fun e => hne (by rw [e]))⟩
theorem gb_gr {w w' : World} (h : Gr w w') (r : Option Nat) : w.grownBy w' r := ⟨h.below.os, h.below.tape, h.below.output, h.below.size, fun k hk _ => h.below.block k hk⟩

/-- the block F holds these bools, and nothing else. -/
def BoolsAt (w : World) (F : Nat) (fl : List Bool) : Prop := w.heap[F]? = some (.cells (fl.map Value.bool).toArray 4 (0, 0))
theorem BoolsAt.cell {w : World} {F : Nat} {fl : List Bool} (h : BoolsAt w F fl) {i : Nat} (hi : i < fl.length) : w.cell? ⟨F, i, none⟩ = some (.bool (fl.getD i false)) := by
  unfold BoolsAt at h
  simp only [World.cell?, h]
  simp [hi, List.getD_eq_getElem?_getD]
theorem BoolsAt.frozen {w : World} {F : Nat} {fl : List Bool} (h : BoolsAt w F fl) (i : Nat) : w.frozen? ⟨F, i, none⟩ = false := by
  unfold BoolsAt at h
  simp [World.frozen?, h]
theorem BoolsAt.set {w : World} {F : Nat} {fl : List Bool} (h : BoolsAt w F fl) (i : Nat) (b : Bool) : BoolsAt (w.setCell ⟨F, i, none⟩ (.bool b)) F (fl.set i b) := by
  have h' := h
  unfold BoolsAt at h ⊢
  simp [World.setCell, Array.getElem?_modify, h, List.map_set]
theorem BoolsAt.lt {w : World} {F : Nat} {fl : List Bool} (h : BoolsAt w F fl) : F < w.heap.size := (Array.getElem?_eq_some_iff.1 h).1
theorem BoolsAt.kept {w w' : World} {F G : Nat} {fl : List Bool} (h : BoolsAt w F fl) (g : w.grownBy w' (some G)) (hne : F ≠ G) : BoolsAt w' F fl := (g.block F h.lt (fun e => hne (by injection e))).trans h
theorem BidsAt.gb {w w' : World} {a : Option Addr} {s : List (Int × Int)} {F : Nat} (h : BidsAt w a s) (g : w.grownBy w' (some F)) (hne : ∀ b o, a = some ⟨b, o, none⟩ → 0 < s.length → b ≠ F) : BidsAt w' a s := fun i hi => by
  obtain ⟨b, o, ha, h1, h2, h3⟩ := h i hi
  have e := g.block b h1 (fun e => hne b o ha (by omega) (by injection e))
  exact ⟨b, o, ha, Nat.lt_of_lt_of_le h1 g.size, (World.cell?_of_block (a := ⟨b, o + i * 2, none⟩) e).trans h2, (World.cell?_of_block (a := ⟨b, o + i * 2 + 1, none⟩) e).trans h3⟩

/-- the places of the first k are set. -/
def markF (s : List (Int × Int)) (fl : List Bool) : Nat → List Bool
  | 0 => fl
  | k + 1 => (markF s fl k).set (s.getD k (0, 0)).1.toNat true
theorem markF_length (s : List (Int × Int)) (fl : List Bool) : ∀ k, (markF s fl k).length = fl.length
  | 0 => rfl
  | k + 1 => by rw [markF, List.length_set]; exact markF_length s fl k

set_option maxHeartbeats 1000000 in
theorem mark_any (a : Option Addr) (cap capF F : Nat) (no : Int) (s : List (Int × Int)) (n : Nat) (fl : List Bool) (w : World) (hB : BidsAt w a s) (hF : BoolsAt w F fl) (hne : ∀ b o, a = some ⟨b, o, none⟩ → 0 < s.length → b ≠ F)
    (hp : ∀ x ∈ s, 0 ≤ x.1 ∧ x.1 < (fl.length : Int)) (hn : n ≤ s.length) (hc : s.length ≤ cap) (hs : s.length ≤ 8796093022208) :
    Calls Try.prog 58 #[.agg #[.slice a s.length cap, .int .i64 no], .slice (some ⟨F, 0, none⟩) fl.length capF, .int .i64 n] w fun e w' => e = .returned (.tuple #[]) ∧ BoolsAt w' F (markF s fl n) ∧ w.grownBy w' (some F) := by
  have HB : Aside _ := hB
  have HF : Aside _ := hF
  have HN : Aside _ := hne
  have HP : Aside _ := hp
  clear hB hF hne hp
  go_enter Try.func58, Try.ntmps58
  go_wp2
  obtain ⟨W0, hW0⟩ : ∃ W0, W0 = w.alloc (Obj.cells #[Value.slice a s.length cap, Value.int IntKind.i64 no] 109) := ⟨_, rfl⟩
  have g0 : w.grownBy W0 (some F) := by rw [hW0]; exact gb_alloc (gb_refl w _) _
  have f0 : BoolsAt W0 F fl := by
    rw [hW0]
    exact (Below.heap_alloc w _ F (BoolsAt.lt HF.out)).trans HF.out
  rw [← hW0]
  clear hW0
  have G0 : Aside _ := g0
  have F0 : Aside _ := f0
  clear g0 f0
  go_loopg [13] n (fun kx t wr => ∃ k : Nat, t = .int .i64 k ∧ k ≤ n ∧ n - k ≤ kx ∧ Aside (BoolsAt wr F (markF s fl k)) ∧ Aside (w.grownBy wr (some F)))
  case atStart => exact ⟨0, rfl, by omega, by omega, F0, G0⟩
  case round =>
    clear F0 G0
    obtain ⟨k, rfl, hk, hkx, BO, G⟩ := hrel
    by_cases hlt : k < n
    · have hltz : (k : Int) < (n : Int) := by omega
      obtain ⟨b, o, rfl, h1, h2, h3⟩ := (BidsAt.gb HB.out G.out HN.out) k (by omega)
      have hbF : b ≠ F := HN.out b o rfl (by omega)
      have hpl := HP.out (s.getD k (0, 0)) (by rw [List.getD_eq_getElem?_getD, List.getElem?_eq_getElem (show k < s.length by omega)]; exact List.getElem_mem _)
      have EM : Aside (markF s fl (k + 1) = (markF s fl k).set (s.getD k (0, 0)).1.toNat true) := rfl
      generalize (s.getD k (0, 0)).2 = x2 at h3
      generalize (s.getD k (0, 0)).1 = x1 at h2 hpl EM
      obtain ⟨pn, rfl⟩ := Int.eq_ofNat_of_zero_le hpl.1
      rw [Int.toNat_natCast] at EM
      have hpn : pn < fl.length := by omega
      have hpz : (pn : Int) < (fl.length : Int) := by omega
      have hcF : (wr.alloc (Obj.cells #[Value.int IntKind.i64 (pn : Int), Value.int IntKind.i64 x2] 139)).cell? ⟨F, pn, none⟩ = some (.bool ((markF s fl k).getD pn false)) := by
        rw [World.cell?_of_block (Below.heap_alloc wr _ F BO.out.lt)]
        exact BO.out.cell (by rw [markF_length]; exact hpn)
      have hfF : (wr.alloc (Obj.cells #[Value.int IntKind.i64 (pn : Int), Value.int IntKind.i64 x2] 139)).frozen? ⟨F, pn, none⟩ = false := by
        rw [World.frozen?_of_block (Below.heap_alloc wr _ F BO.out.lt)]
        exact BO.out.frozen pn
      have BO2 : Aside (BoolsAt ((wr.alloc (Obj.cells #[Value.int IntKind.i64 (pn : Int), Value.int IntKind.i64 x2] 139)).setCell ⟨F, pn, none⟩ (.bool true)) F (markF s fl (k + 1))) := by
        show BoolsAt _ _ _
        rw [EM.out]
        exact BoolsAt.set ((Below.heap_alloc wr _ F BO.out.lt).trans BO.out) pn true
      have G2 : Aside (w.grownBy ((wr.alloc (Obj.cells #[Value.int IntKind.i64 (pn : Int), Value.int IntKind.i64 x2] 139)).setCell ⟨F, pn, none⟩ (.bool true)) (some F)) := gb_set (gb_alloc G.out _) pn _
      clear BO G EM hpl
      go_wp2
      go_roundg (n - (k + 1))
      case measure => omega
      case rel => exact ⟨k + 1, by go_num, by omega, Nat.le_refl _, BO2, G2⟩
    · have e : k = n := by omega
      subst e
      have hltz : ¬ (k : Int) < (k : Int) := by omega
      go_wp2
      go_end0
      exact ⟨rfl, BO.out, G.out⟩

/-- the share's bits. -/
def shareB (a b : Int) : Nat := if b = 0 then 4607182418800017408 else (Ieee.double.div (floatOfInt .f64 a) (floatOfInt .f64 b)).getD 0

set_option maxHeartbeats 1000000 in
theorem shareOf_any (a b : Int) (w : World) (r : Nat) (hr : b ≠ 0 → Ieee.double.div (floatOfInt .f64 a) (floatOfInt .f64 b) = some r) : Calls Try.prog 59 #[.int .i64 a, .int .i64 b] w fun e w' => e = .returned (.float .f64 (shareB a b)) ∧ w' = w := by
  by_cases h : b = 0
  · subst h
    go_enter Try.func59, Try.ntmps59
    go_wp2
    go_ret
    exact ⟨rfl, rfl⟩
  · have e : shareB a b = r := by unfold shareB; rw [if_neg h, hr h]; rfl
    have hq : ∀ w, Sem.run Try.prog (binOp .quo 115 (.float .f64 (floatOfInt .f64 a)) (.float .f64 (floatOfInt .f64 b))) w = .ok (.float .f64 r) w := fun w => run_float_arith w .quo 115 .f64 _ _ r (hr h)
    have hz : (b == 0) = false := beq_eq_false_iff_ne.2 h
    rw [e]
    clear hr e h
    go_enter Try.func59, Try.ntmps59
    go_wp2
    go_ret
    exact ⟨rfl, rfl⟩
#print axioms mark_any
#print axioms shareOf_any
end Go.Proofs.Ytjfifaooimgbaaa
