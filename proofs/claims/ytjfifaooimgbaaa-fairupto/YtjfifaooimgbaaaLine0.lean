/- Small things on orders in memory. -/
import Derived.Test.YtjfifaooimgbaaaCl
import Derived.Test.YtjfifaooimgbaaaPure
namespace Go.Proofs.Ytjfifaooimgbaaa
open Go.Shelf Go.RowKit Go.Lib Go.Sort

theorem allowed_yes (p : Int) (w : World) (h1 : 1 ≤ p) (h2 : p < 1000) : Calls Try.prog 71 #[.int .i64 p] w fun e w' => e = .returned (.bool true) ∧ w' = w := by
  go_enter Try.func71, Try.ntmps71
  go_wp2
  go_ret
  exact ⟨rfl, rfl⟩
theorem allowed_no (p : Int) (w : World) (h : p < 1 ∨ 1000 ≤ p) : Calls Try.prog 71 #[.int .i64 p] w fun e w' => e = .returned (.bool false) ∧ w' = w := by
  rcases h with h | h
  · go_enter Try.func71, Try.ntmps71
    go_wp2
    go_ret
    exact ⟨rfl, rfl⟩
  · have h' : 1 ≤ p := by omega
    have h2 : decide (p < 1000) = false := decide_eq_false (by omega)
    go_enter Try.func71, Try.ntmps71
    go_wp2
    go_ret
    exact ⟨by rw [← h2]; rfl, rfl⟩

/-- the orders l lie in w, at a (which may be nil, if there is none). -/
def BidsAt (w : World) (a : Option Addr) (l : List (Int × Int)) : Prop := ∀ i, i < l.length → ∃ b o, a = some ⟨b, o, none⟩ ∧ b < w.heap.size ∧ w.cell? ⟨b, o + i * 2, none⟩ = some (.int .i64 (l.getD i (0, 0)).1) ∧ w.cell? ⟨b, o + i * 2 + 1, none⟩ = some (.int .i64 (l.getD i (0, 0)).2)

def flatO (s : List (Int × Int)) : List Value := s.flatMap encO
theorem flatO_append (s t : List (Int × Int)) : flatO (s ++ t) = flatO s ++ flatO t := List.flatMap_append
theorem flatO_length : ∀ s : List (Int × Int), (flatO s).length = s.length * 2
  | [] => rfl
  | x :: r => by
    have := flatO_length r
    simp only [flatO, List.flatMap_cons, List.length_append, encO, List.length_cons, List.length_nil] at this ⊢
    omega

theorem cell_two_next (w : World) (o : Obj) (x y : Value) (t : TypeId) : ∀ j u, [x, y][j]? = some u → ((w.alloc o).alloc (.cells #[x, y] t)).cell? ((⟨w.heap.size + 1, 0, none⟩ : Addr).add j) = some u := by
  intro j u hj
  match j, hj with
  | 0, hj => simp at hj; subst hj; simp [Addr.add]
  | 1, hj => simp at hj; subst hj; simp [Addr.add]
theorem Try.info139 : (Try.prog.info? 139).map (fun i => (i.zero, i.size, i.bytes)) = some (some (.agg #[.int .i64 0, .int .i64 0]), 2, 16) := by kernel_rfl

end Go.Proofs.Ytjfifaooimgbaaa
