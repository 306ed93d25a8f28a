import Derived.Test.YtjfifaooimgbaaaLine0
import Derived.ProofKit
import Derived.OpenShut
import Derived.SizedLaws
import Derived.Deep.SlicePairs
/- A list of orders that came in, opened. -/
namespace Go.Proofs.Ytjfifaooimgbaaa
open Go.ChangeShapes Go.WideShapes Go.ChangeAt Go.RowKit Go.Deep

theorem own : ownKnob Try.prog.godebug = none := by kernel_rfl
theorem laidOut : laidOutB Try.prog = true := by kernel_rfl
theorem cells29 : Try.prog.cellsOf 29 = 2 := by kernel_rfl
theorem cells3 : Try.prog.cellsOf 3 = 1 := by kernel_rfl
theorem bytes29 : Try.prog.bytesOf 29 = 16 := by kernel_rfl

theorem addr_none {w : World} {x : Addr} {v : Value} (h : w.cell? (x.add (0 * 2)) = some v) : ∃ b o, x = ⟨b, o, none⟩ := by
  obtain ⟨b, o, sp⟩ := x
  have hs := World.cell?_spot h
  simp [Addr.add] at hs
  subst hs; exact ⟨b, o, rfl⟩

theorem open_bids {H : Type} {enc : TypeId × Value → H} {W : World} {a : Option Addr} {len cap : Nat} {d : DataW H} {p : List MemPlace}
    (h : DataW.Trod enc Try.prog W 0 (fun _ => true) true 22 (.slice a len cap) d p) :
    ∃ l : List (Int × Int), l.length = len ∧ BidsAt W a l ∧ (len = 0 ∨ ∃ elems spare, d = .slice elems spare ∧ elems.length = len) := by
  obtain ⟨fuel, hf⟩ := h
  have lt0 := DataW.trod_lt fuel _ _ _ hf
  rcases open_slice_pairs Try.underlying22 Try.underlying29 cells29 rfl rfl cells3 cells3 hf with ⟨hcs, _⟩ | ⟨x, len', cap', m, n, V0, V1, D0, D1, P0, P1, hcs, _, hl, _, hm, hx, hcell⟩
  · simp [Value.cells] at hcs
    obtain ⟨rfl, rfl, rfl⟩ := hcs
    exact ⟨[], rfl, fun i hi => by simp at hi, Or.inl rfl⟩
  · simp [Value.cells] at hcs
    obtain ⟨rfl, rfl, rfl⟩ := hcs
    simp only [if_true] at hm
    subst hm
    simp only [Prod.mk.injEq] at hx
    have each : ∀ i, i < len → ∃ q : Int × Int, W.cell? (x.add (i * 2)) = some (.int .i64 q.1) ∧ W.cell? (x.add (i * 2 + 1)) = some (.int .i64 q.2) := fun i hi => by
      obtain ⟨h1, h2, h3, h4⟩ := hcell i (by omega)
      obtain ⟨n0, e0, _, _⟩ := DataW.trod_int Try.underlying3 h3
      obtain ⟨n1, e1, _, _⟩ := DataW.trod_int Try.underlying3 h4
      simp only [List.cons.injEq, and_true] at e0 e1
      exact ⟨(n0, n1), by rw [h1, e0], by rw [h2, e1]⟩
    obtain ⟨f, hff⟩ := choose_lt each
    refine ⟨(List.range len).map f, by simp, fun i hi => ?_, Or.inr ⟨_, _, hx.1, by simp⟩⟩
    have hi' : i < len := by simpa using hi
    obtain ⟨h1, h2⟩ := hff i hi'
    obtain ⟨b, o, rfl⟩ := addr_none (hff 0 (by omega)).1
    rw [Addr.add_lit] at h1 h2
    have hg : ((List.range len).map f).getD i (0, 0) = f i := by
      rw [List.getD_eq_getElem?_getD]; simp [hi']
    refine ⟨b, o, rfl, ?_, by rw [hg]; exact h1, by rw [hg, Nat.add_assoc]; exact h2⟩
    have : (W.cell? ⟨b, o + i * 2, none⟩).isSome = true := by rw [h1]; rfl
    by_cases hb : b < W.heap.size
    · exact hb
    · exfalso
      have hn : W.heap[b]? = none := Array.getElem?_eq_none (by omega)
      simp [World.cell?, hn] at h1
#print axioms open_bids
end Go.Proofs.Ytjfifaooimgbaaa
