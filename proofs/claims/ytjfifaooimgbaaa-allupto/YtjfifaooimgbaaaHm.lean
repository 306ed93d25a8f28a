import Derived.Test.YtjfifaooimgbaaaHl
/- The law's walk: holds, up to Journal. -/
namespace Go.Proofs.Ytjfifaooimgbaaa
open Go.Shelf Go.RowKit Go.Lib Go.Sort

/-- a script lies at a. -/
def ScrAt (w : World) (a : Option Addr) (l : List OpS) : Prop := ∀ i, i < l.length → ∃ b o, a = some ⟨b, o, none⟩ ∧ b < w.heap.size ∧
  (w.cell? ⟨b, o + i * 7, none⟩ = some (.int .i64 (l.getD i ⟨0, 0, 0, false, [], 0, 0⟩).kind) ∧ w.cell? ⟨b, o + i * 7 + 1, none⟩ = some (.int .i64 (l.getD i ⟨0, 0, 0, false, [], 0, 0⟩).X) ∧
   w.cell? ⟨b, o + i * 7 + 2, none⟩ = some (.int .i64 (l.getD i ⟨0, 0, 0, false, [], 0, 0⟩).now) ∧ w.cell? ⟨b, o + i * 7 + 3, none⟩ = some (.bool (l.getD i ⟨0, 0, 0, false, [], 0, 0⟩).raw) ∧
   w.cell? ⟨b, o + i * 7 + 4, none⟩ = some (.string ⟨(l.getD i ⟨0, 0, 0, false, [], 0, 0⟩).s.toArray⟩) ∧ w.cell? ⟨b, o + i * 7 + 5, none⟩ = some (.int .i64 (l.getD i ⟨0, 0, 0, false, [], 0, 0⟩).per) ∧
   w.cell? ⟨b, o + i * 7 + 6, none⟩ = some (.int .i64 (l.getD i ⟨0, 0, 0, false, [], 0, 0⟩).cap))

theorem blw_grown {w b c : World} {row : Option Nat} (h : Below w.heap.size w b) (g : b.grownBy c row) (hr : ∀ k, row = some k → w.heap.size ≤ k) : Below w.heap.size w c :=
  ⟨g.os.trans h.os, g.tape.trans h.tape, g.output.trans h.output, Nat.le_trans h.size g.size, fun k hk => (g.block k (Nat.lt_of_lt_of_le hk h.size) (fun e => by have := hr k e.symm; omega)).trans (h.block k hk)⟩

theorem Pairs.same {B n : Nat} {w V : World} {v : Value} {L : List (Option TwR)} (h : Pairs B n w v L) (hV : V.heap = w.heap) : Pairs B n V v L :=
  ⟨rowT_kept h.row (fun k _ => by rw [hV]), h.vb, fun i t e => let ⟨a, c, d⟩ := h.tw i t e; ⟨a.keep (fun k _ => by rw [hV]), c, d⟩, h.apart⟩
theorem blw_onl {w b c : World} {S : Nat → Prop} (h : Below w.heap.size w b) (o : Onl S b c) (hS : ∀ k, S k → w.heap.size ≤ k) : Below w.heap.size w c :=
  ⟨o.os.trans h.os, o.tape.trans h.tape, o.output.trans h.output, Nat.le_trans h.size o.size, fun k hk => (o.block k (Nat.lt_of_lt_of_le hk h.size) (fun q => by have := hS k q; omega)).trans (h.block k hk)⟩
end Go.Proofs.Ytjfifaooimgbaaa
