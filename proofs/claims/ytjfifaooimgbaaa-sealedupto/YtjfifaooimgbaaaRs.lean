import Derived.Test.YtjfifaooimgbaaaRo
import Derived.Test.YtjfifaooimgbaaaSg
/- Sealed: the given statement up to its bulk, of any exchange that keeps its contract. -/
namespace Go.Proofs.Ytjfifaooimgbaaa
open Go.ChangeShapes Go.WideShapes Go.ChangeAt Go.RowKit Go.Deep

set_option maxRecDepth 100000 in
theorem open_nums {H : Type} {enc : TypeId × Value → H} {W : World} {a : Option Addr} {len cap : Nat} {d : DataW H} {p : List MemPlace}
    (h : DataW.Trod enc Try.prog W 0 (fun _ => true) true 39 (.slice a len cap) d p) :
    ∃ l : List Int, l.length = len ∧ NumsHere W a l ∧ (∀ i, i < l.length → I64 (l.getD i 0)) ∧ (len = 0 ∨ ∃ elems spare, d = .slice elems spare ∧ elems.length = len) := by
  obtain ⟨fuel, hf⟩ := h
  rcases open_ints Try.underlying39 Try.underlying3 cells3 hf with ⟨hcs, _⟩ | ⟨x, len', cap', zs, hcs, _, hl, _, hm, hx, hcell, hwf⟩
  · simp [Value.cells] at hcs
    obtain ⟨rfl, rfl, rfl⟩ := hcs
    exact ⟨[], rfl, fun i hi => by simp at hi, fun i hi => by simp at hi, Or.inl rfl⟩
  · simp [Value.cells] at hcs
    obtain ⟨rfl, rfl, rfl⟩ := hcs
    simp only [if_true] at hm
    simp only [Prod.mk.injEq] at hx
    have hlz : len ≤ zs.length := by omega
    have hlt : (zs.take len).length = len := by simp; omega
    have hg : ∀ i, i < len → (zs.take len).getD i 0 = zs.getD i 0 := fun i hi => by
      rw [List.getD_eq_getElem?_getD, List.getElem?_take_of_lt hi, List.getD_eq_getElem?_getD]
    refine ⟨zs.take len, hlt, fun i hi => ?_, fun i hi => ?_, Or.inr ⟨_, _, hx.1, by simp [lits]; omega⟩⟩
    · rw [hlt] at hi
      have h1 := hcell i (by omega)
      have h0 := hcell 0 (by omega)
      obtain ⟨b, o, rfl⟩ : ∃ b o, x = ⟨b, o, none⟩ := by
        obtain ⟨b, o, sp⟩ := x
        have hs := World.cell?_spot h0
        simp [Addr.add] at hs
        subst hs; exact ⟨b, o, rfl⟩
      rw [Addr.add_lit] at h1
      refine ⟨b, o, rfl, ?_, by rw [hg i hi]; exact h1⟩
      by_cases hb : b < W.heap.size
      · exact hb
      · exfalso
        have hn : W.heap[b]? = none := Array.getElem?_eq_none (by omega)
        simp [World.cell?, hn] at h1
    · rw [hlt] at hi
      rw [hg i hi, List.getD_eq_getElem?_getD, List.getElem?_eq_getElem (by omega)]
      exact bounds_i64 (hwf _ (List.getElem_mem _))

variable {Rep : World → (Nat → Prop) → Nat → Ex.Xch → Prop}

set_option maxRecDepth 100000 in
theorem sealed_lifted (E : Exch Rep) (os : Os) (started : os.Started) (H : Type) (enc : TypeId × Value → H) (F : Stop.Interp) :
    ReturnsInHanded {} Try.checked os 8 .any ((Rows.OpenSpec.upto Rows.sealedSpec).pre6 enc Try.prog Try.f8 Rows.sealedUptoRow.domain false) (((Rows.OpenSpec.upto Rows.sealedSpec).at F).post enc Try.prog Try.f8 false true false false) := by
  refine returnsInHanded_of_cond (C := Try.checked) (s := Rows.OpenSpec.upto Rows.sealedSpec) (k := Rows.uptoSmall) rfl own started (by kernel_rfl) Try.func8
    (OpenSpec.witness (enc := enc) (C := Try.checked) (s := Rows.OpenSpec.upto Rows.sealedSpec) (k := Rows.uptoSmall) rfl false ⟨#[], #[.slice none 0 0, .slice none 0 0], []⟩ 8 (by kernel_rfl) (by kernel_rfl) (by kernel_rfl)
      (x := ([.nil, .nil], [], [])) (by kernel_rfl) rfl (by kernel_rfl)) ?_
  intro W base args ds gs before hval0 hW _ hk _
  have hval : ∀ (j : Nat) t v, Try.f8.params[j]? = some t → args[j]? = some v → Value.okWide Try.prog W .any base t v := hval0
  have hW' := hW
  obtain ⟨p, q, hA0, hV, rfl, hfz, hnd⟩ := hW
  have hA : DataW.TrodAll enc Try.prog W 0 (fun _ => true) true Try.f8.params.toList args.toList ds p := hA0
  rw [Try.params8] at hA hval
  obtain ⟨v0, vs0, d0, ds0, p0, q0, hargs, rfl, rfl, h0, r0⟩ := trodAll_cons hA
  obtain ⟨v1, vs1, d1, ds1, p1, q1, rfl, rfl, rfl, h1, r1⟩ := trodAll_cons r0
  obtain ⟨rfl, rfl, rfl⟩ := trodAll_nil r1
  obtain rfl : args = #[v0, v1] := by cases args; simp_all
  obtain ⟨rfl, rfl⟩ := trodVars_none hV
  obtain ⟨a0, len0, cap0, rfl⟩ := okWide_slice Try.underlying49 (hval 0 49 v0 rfl rfl)
  obtain ⟨a1, len1, cap1, rfl⟩ := okWide_slice Try.underlying39 (hval 1 39 v1 rfl rfl)
  have k0 := h0
  have k1 := h1
  have lt0 : ∀ x ∈ p0, x.block < W.heap.size := by obtain ⟨m, hm⟩ := k0; exact DataW.trod_lt m _ _ _ hm
  have lt1 : ∀ x ∈ p1, x.block < W.heap.size := by obtain ⟨m, hm⟩ := k1; exact DataW.trod_lt m _ _ _ hm
  obtain ⟨l0, hl0, hb0, hwf0, hd0⟩ := open_moves h0
  obtain ⟨l1, hl1, hb1, hwf1, hd1⟩ := open_nums h1
  have hlen0 : l0.length ≤ 1048576 := by
    rcases hd0 with hd | ⟨elems, spare, hd, he⟩
    · omega
    · have := bulk_at (elems := elems) (spare := spare) hk (by rw [hd]; simp)
      omega
  have hlen1 : l1.length ≤ 1048576 := by
    rcases hd1 with hd | ⟨elems, spare, hd, he⟩
    · omega
    · have := bulk_at (elems := elems) (spare := spare) hk (by rw [hd]; simp)
      omega
  clear hA0 hval0
  subst hl0
  subst hl1
  refine (sealed_any E l0 l1 a0 a1 cap0 cap1 W hb0 hb1 hwf0 hwf1 hlen0 hlen1).mono fun e W' ⟨he, bel⟩ => ?_
  subst he
  exact ⟨_, rfl, _, _, _, [], _, [], hW', trodAll_mk1 (shut_bool Try.underlying4 _), (trodAll_cons_mk (Below.trod laidOut (by kernel_rfl) (of_decide_eq_true (by kernel_rfl)) k0 bel lt0) (trodAll_cons_mk (Below.trod laidOut (by kernel_rfl) (of_decide_eq_true (by kernel_rfl)) k1 bel lt1) trodAll_mk0)), rfl, bel.frame _, fun h => by cases h⟩

theorem sealed_of (E : Exch Rep) : Rows.SealedUptoSaid :=
  OpenClaim.holds_of_cond 8 Try.f8 rfl rfl rfl rfl rfl rfl rfl ⟨rfl, rfl, rfl, rfl, rfl⟩ rfl rfl rfl rfl rfl (by kernel_rfl) Try.func8 (by kernel_rfl)
    (of_decide_eq_true (by kernel_rfl)) (by unfold Func.isWrapper; first | (rw [if_pos (by decide +kernel)]; kernel_rfl) | (rw [if_neg (by decide +kernel)]; exact ⟨rfl, rfl⟩))
    (fun os started H enc _ F => sealed_lifted E os started H enc F)
#print axioms sealed_of
end Go.Proofs.Ytjfifaooimgbaaa
