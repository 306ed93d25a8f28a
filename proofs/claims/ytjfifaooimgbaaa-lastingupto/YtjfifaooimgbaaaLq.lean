import Derived.Test.YtjfifaooimgbaaaLa
/- Lasting: the given statement up to its bulk. -/
namespace Go.Proofs.Ytjfifaooimgbaaa
open Go.ChangeShapes Go.WideShapes Go.ChangeAt Go.RowKit Go.Deep

theorem three_of {α : Type} : ∀ {l : List α}, l.length = 3 → ∃ a b c, l = [a, b, c]
  | [a, b, c], _ => ⟨a, b, c, rfl⟩
set_option maxRecDepth 100000 in
theorem open_more {H : Type} {enc : TypeId × Value → H} {W : World} {cs : Array Value} {d : DataW H} {p : List MemPlace}
    (h0 : DataW.Trod enc Try.prog W 0 (fun _ => true) true 54 (.agg cs) d p) (hsz : cs.size = Try.prog.cellsOf 54) : ∃ K Wh N, Value.agg cs = .agg #[.int .i64 K, .int .i64 Wh, .int .i64 N] ∧ I64 K ∧ I64 Wh ∧ I64 N := by
  obtain ⟨fuel, hf⟩ := h0
  obtain ⟨xs, k, _, _, _, hxl, hfl⟩ := DataW.trod_struct Try.underlying54 hf
  rw [cells54] at hsz
  obtain ⟨cl⟩ := cs
  clear hf
  obtain ⟨a0, a1, a2, rfl⟩ : ∃ a0 a1 a2, cl = [a0, a1, a2] := three_of hsz
  obtain ⟨z0, z1, z2, rfl⟩ : ∃ a0 a1 a2, xs = [a0, a1, a2] := three_of hxl
  have f0 := hfl 0 _ rfl
  have f1 := hfl 1 _ rfl
  have f2 := hfl 2 _ rfl
  clear hfl hsz
  simp [cells3, Value.cells] at f0 f1 f2
  obtain ⟨n5, e5, _, w5⟩ := DataW.trod_int Try.underlying3 f0
  obtain ⟨n6, e6, _, w6⟩ := DataW.trod_int Try.underlying3 f1
  obtain ⟨n7, e7, _, w7⟩ := DataW.trod_int Try.underlying3 f2
  simp only [List.cons.injEq, and_true] at e5 e6 e7
  subst e5 e6 e7
  exact ⟨n5, n6, n7, rfl, bounds_i64 w5, bounds_i64 w6, bounds_i64 w7⟩

set_option maxHeartbeats 4000000 in
set_option maxRecDepth 100000 in
theorem lasting_lifted (os : Os) (started : os.Started) (H : Type) (enc : TypeId × Value → H) (F : Stop.Interp) :
    ReturnsInHanded {} Try.checked os 12 .any ((Rows.OpenSpec.upto Rows.lastingSpec).pre6 enc Try.prog Try.f12 Rows.lastingUptoRow.domain false) (((Rows.OpenSpec.upto Rows.lastingSpec).at F).post enc Try.prog Try.f12 false true false false) := by
  refine returnsInHanded_of_cond (C := Try.checked) (s := Rows.OpenSpec.upto Rows.lastingSpec) (k := Rows.uptoSmall) rfl own started (by kernel_rfl) Try.func12
    (OpenSpec.witness (enc := enc) (C := Try.checked) (s := Rows.OpenSpec.upto Rows.lastingSpec) (k := Rows.uptoSmall) rfl false ⟨#[], #[.int .i64 0, .int .i64 0, .slice none 0 0, .int .i64 0, .agg #[.int .i64 0, .int .i64 0, .int .i64 0]], []⟩ 8 (by kernel_rfl) (by kernel_rfl) (by kernel_rfl)
      (x := ([.lit (.int .i64 0), .lit (.int .i64 0), .nil, .lit (.int .i64 0), .agg [.lit (.int .i64 0), .lit (.int .i64 0), .lit (.int .i64 0)]], [], [])) (by kernel_rfl) rfl (by kernel_rfl)) ?_
  intro W base args ds gs before hval0 hW _ hk _
  have hval : ∀ (j : Nat) t v, Try.f12.params[j]? = some t → args[j]? = some v → Value.okWide Try.prog W .any base t v := hval0
  have hW' := hW
  obtain ⟨p, q, hA0, hV, rfl, hfz, hnd⟩ := hW
  have hA : DataW.TrodAll enc Try.prog W 0 (fun _ => true) true Try.f12.params.toList args.toList ds p := hA0
  rw [Try.params12] at hA hval
  obtain ⟨v0, vs0, d0, ds0, p0, q0, hargs, rfl, rfl, h0, r0⟩ := trodAll_cons hA
  obtain ⟨v1, vs1, d1, ds1, p1, q1, rfl, rfl, rfl, h1, r1⟩ := trodAll_cons r0
  obtain ⟨v2, vs2, d2, ds2, p2, q2, rfl, rfl, rfl, h2, r2⟩ := trodAll_cons r1
  obtain ⟨v3, vs3, d3, ds3, p3, q3, rfl, rfl, rfl, h3, r3⟩ := trodAll_cons r2
  obtain ⟨v4, vs4, d4, ds4, p4, q4, rfl, rfl, rfl, h4, r4⟩ := trodAll_cons r3
  obtain ⟨rfl, rfl, rfl⟩ := trodAll_nil r4
  obtain rfl : args = #[v0, v1, v2, v3, v4] := by cases args; simp_all
  obtain ⟨rfl, rfl⟩ := trodVars_none hV
  obtain ⟨period, rfl, rfl, rfl, w0⟩ := open_int Try.underlying3 (hval 0 3 v0 rfl rfl) h0
  obtain ⟨batch, rfl, rfl, rfl, w1⟩ := open_int Try.underlying3 (hval 1 3 v1 rfl rfl) h1
  obtain ⟨a0, len0, cap0, rfl⟩ := okWide_slice Try.underlying49 (hval 2 49 v2 rfl rfl)
  obtain ⟨cut, rfl, rfl, rfl, w3⟩ := open_int Try.underlying3 (hval 3 3 v3 rfl rfl) h3
  obtain ⟨cs, rfl, hsz⟩ := okWide_struct Try.underlying54 (hval 4 54 v4 rfl rfl)
  have k2 := h2
  have lt2 : ∀ x ∈ p2, x.block < W.heap.size := by obtain ⟨m, hm⟩ := k2; exact DataW.trod_lt m _ _ _ hm
  have lt4 : ∀ x ∈ p4, x.block < W.heap.size := by obtain ⟨m, hm⟩ := h4; exact DataW.trod_lt m _ _ _ hm
  obtain ⟨K, Wh, N, hcs, hK, hWh, hN⟩ := open_more h4 hsz
  obtain ⟨l, hll, hb, hwf, hd⟩ := open_moves h2
  have hlen : l.length ≤ 1048576 := by
    rcases hd with hd | ⟨elems, spare, hd, he⟩
    · omega
    · have := bulk_at (elems := elems) (spare := spare) hk (by rw [hd]; simp)
      omega
  clear hA0 hval0
  subst hll
  have HC := lasting_any period batch cut K Wh N (bounds_i64 w0) (bounds_i64 w1) (bounds_i64 w3) hK hWh hN l a0 cap0 W hb hwf hlen
  rw [← hcs] at HC
  refine HC.mono fun e W' ⟨he, bel⟩ => ?_
  subst he
  exact ⟨_, rfl, _, _, _, [], _, [], hW', trodAll_mk1 (shut_bool Try.underlying4 _), (trodAll_cons_mk (shut_int Try.underlying3 w0) (trodAll_cons_mk (shut_int Try.underlying3 w1) (trodAll_cons_mk (Below.trod laidOut (by kernel_rfl) (of_decide_eq_true (by kernel_rfl)) k2 bel lt2) (trodAll_cons_mk (shut_int Try.underlying3 w3) (trodAll_cons_mk (Below.trod laidOut (by kernel_rfl) (of_decide_eq_true (by kernel_rfl)) h4 bel lt4) trodAll_mk0))))), rfl, bel.frame _, fun h => by cases h⟩

set_option maxRecDepth 100000 in
theorem lasting_holds : Rows.LastingUptoSaid :=
  OpenClaim.holds_of_cond 12 Try.f12 rfl rfl rfl rfl rfl rfl rfl ⟨rfl, rfl, rfl, rfl, rfl⟩ rfl rfl rfl rfl rfl (by kernel_rfl) Try.func12 (by kernel_rfl)
    (of_decide_eq_true (by kernel_rfl)) (by unfold Func.isWrapper; first | (rw [if_pos (by decide +kernel)]; kernel_rfl) | (rw [if_neg (by decide +kernel)]; exact ⟨rfl, rfl⟩))
    (fun os started H enc _ F => lasting_lifted os started H enc F)
#print axioms lasting_holds
end Go.Proofs.Ytjfifaooimgbaaa
