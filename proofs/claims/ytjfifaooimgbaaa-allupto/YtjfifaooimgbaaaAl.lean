import Derived.Test.YtjfifaooimgbaaaHn
import Derived.Test.YtjfifaooimgbaaaAns
/- All: the given statement up to its bulk. -/
namespace Go.Proofs.Ytjfifaooimgbaaa
open Go.ChangeShapes Go.WideShapes Go.ChangeAt Go.RowKit Go.Deep

theorem bulk_mem1 {H : Type} {d : DataW H} : ∀ {l : List (DataW H)}, d ∈ l → Rows.uptoBulk d ≤ Rows.uptoBulkAll l
  | [], h => by cases h
  | x :: r, h => by
    simp only [Rows.uptoBulkAll]
    rcases List.mem_cons.1 h with h | h
    · subst h
      omega
    · have := bulk_mem1 h
      omega
theorem bulk_elems {H : Type} (elems spare : List (DataW H)) : Rows.uptoBulkAll elems ≤ Rows.uptoBulk (DataW.slice elems spare) := by
  simp only [Rows.uptoBulk]
  omega
set_option maxHeartbeats 2000000 in
set_option maxRecDepth 100000 in
theorem all_walk (l : List OpS) (a : Option Addr) (cap : Nat) (w : World) (hS : ScrAt w a l) (hf : ∀ i, i < l.length → (l.getD i ⟨0, 0, 0, false, [], 0, 0⟩).fine) (hS8 : ∀ i, i < l.length → (l.getD i ⟨0, 0, 0, false, [], 0, 0⟩).s.length ≤ 1048576) (hl : l.length ≤ 1048576) :
    Calls Try.prog 11 #[.slice a l.length cap] w fun e w' => e = .returned (.bool true) ∧ Below w.heap.size w w' := by
  have HH : Aside _ := holdsJ_any l a cap w hS hf hS8 hl
  clear hS hf hS8
  go_enter Try.func11, Try.ntmps11
  go_wp2_with fail
  refine Calls.mono (f := 25) HH.out ?_
  rintro e w1 ⟨rfl, hb⟩
  have B1 : Aside _ := hb
  clear hb
  go_wp2
  go_ret
  exact ⟨rfl, B1.out⟩

set_option maxRecDepth 100000 in
theorem open_opsJ {H : Type} {enc : TypeId × Value → H} {W : World} {a : Option Addr} {len cap : Nat} {d : DataW H} {p : List MemPlace}
    (h : DataW.Trod enc Try.prog W 0 (fun _ => true) true 46 (.slice a len cap) d p) :
    ∃ l : List OpS, l.length = len ∧ ScrAt W a l ∧ (∀ i, i < l.length → (l.getD i ⟨0, 0, 0, false, [], 0, 0⟩).fine) ∧ (len = 0 ∨ ∃ elems spare, d = .slice elems spare ∧ elems.length = len ∧ ∀ i, i < l.length → (l.getD i ⟨0, 0, 0, false, [], 0, 0⟩).s.length ≤ Rows.uptoBulkAll elems) := by
  obtain ⟨fuel, hf⟩ := h
  rcases open_slice Try.underlying46 hf with ⟨hcs, _⟩ | ⟨x, len', cap', m, n, D, Pl, hcs, _, hl, _, hm, hx, hcell⟩
  · simp [Value.cells] at hcs
    obtain ⟨rfl, rfl, rfl⟩ := hcs
    exact ⟨[], rfl, fun i hi => by simp at hi, fun i hi => by simp at hi, Or.inl rfl⟩
  · simp [Value.cells] at hcs
    obtain ⟨rfl, rfl, rfl⟩ := hcs
    simp only [if_true] at hm
    subst hm
    simp only [Prod.mk.injEq] at hx
    have each : ∀ i, i < len → ∃ q : OpS, (W.cell? (x.add (i * 7)) = some (.int .i64 q.kind) ∧ W.cell? (x.add (i * 7 + 1)) = some (.int .i64 q.X) ∧ W.cell? (x.add (i * 7 + 2)) = some (.int .i64 q.now) ∧ W.cell? (x.add (i * 7 + 3)) = some (.bool q.raw) ∧ W.cell? (x.add (i * 7 + 4)) = some (.string ⟨q.s.toArray⟩) ∧ W.cell? (x.add (i * 7 + 5)) = some (.int .i64 q.per) ∧ W.cell? (x.add (i * 7 + 6)) = some (.int .i64 q.cap)) ∧ q.fine ∧ q.s.length ≤ Rows.uptoBulk (D i) := fun i hi => by
      obtain ⟨cs', h1, h2⟩ := hcell i (by omega)
      rw [cells76] at h1
      obtain ⟨_, hlen, hce⟩ := World.cells?_some h1
      obtain ⟨xs, k, _, hd0, _, hxl, hfl⟩ := DataW.trod_struct Try.underlying76 h2
      have hd1 : D i = .agg (xs.map (·.1)) := congrArg Prod.fst hd0
      clear hd0
      match xs, hxl, cs', hlen, hd1 with
      | [y0, y1, y2, y3, y4, y5], _, [v0, v1, v2, v3, v4, v5, v6], _, hd1 =>
        have g0 := hfl 0 _ rfl
        have g1 := hfl 1 _ rfl
        have g2 := hfl 2 _ rfl
        have g3 := hfl 3 _ rfl
        have g4 := hfl 4 _ rfl
        have g5 := hfl 5 _ rfl
        simp [cells3, cells4, cells9, cells68] at g0 g1 g2 g3 g4 g5
        obtain ⟨n0, e0, _, w0⟩ := DataW.trod_int Try.underlying3 g0
        obtain ⟨n1, e1, _, w1⟩ := DataW.trod_int Try.underlying3 g1
        obtain ⟨n2, e2, _, w2⟩ := DataW.trod_int Try.underlying3 g2
        obtain ⟨n3, e3, _⟩ := DataW.trod_bool Try.underlying4 g3
        obtain ⟨n4, e4, hy4, _⟩ := DataW.trod_string Try.underlying9 g4
        obtain ⟨xs5, k5, _, _, _, hxl5, hfl5⟩ := DataW.trod_struct Try.underlying68 g5
        match xs5, hxl5 with
        | [z0, z1], _ =>
          have f0 := hfl5 0 _ rfl
          have f1 := hfl5 1 _ rfl
          simp [cells3] at f0 f1
          obtain ⟨n5, e5, _, w5⟩ := DataW.trod_int Try.underlying3 f0
          obtain ⟨n6, e6, _, w6⟩ := DataW.trod_int Try.underlying3 f1
          simp only [List.cons.injEq, and_true] at e0 e1 e2 e3 e4 e5 e6
          have c0 := hce 0 (by omega)
          have c1 := hce 1 (by omega)
          have c2 := hce 2 (by omega)
          have c3 := hce 3 (by omega)
          have c4 := hce 4 (by omega)
          have c5 := hce 5 (by omega)
          have c6 := hce 6 (by omega)
          rw [add_add] at c0 c1 c2 c3 c4 c5 c6
          refine ⟨⟨n0, n1, n2, n3, n4.data.toList, n5, n6⟩, ⟨?_, ?_, ?_, ?_, ?_, ?_, ?_⟩, ⟨bounds_i64 w2, bounds_i64 w1⟩, ?_⟩
          · rw [← e0]; simpa using c0
          · rw [← e1]; simpa using c1
          · rw [← e2]; simpa using c2
          · rw [← e3]; simpa using c3
          · have e4' : v4 = .string ⟨n4.data.toList.toArray⟩ := by rw [e4]
            rw [← e4']; simpa using c4
          · rw [← e5]; simpa using c5
          · rw [← e6]; simpa using c6
          · rw [hd1, hy4]
            simp only [List.map_cons, List.map_nil, Rows.uptoBulk, Rows.uptoBulkAll]
            omega
    have inh : Inhabited OpS := ⟨⟨0, 0, 0, false, [], 0, 0⟩⟩
    obtain ⟨f, hff⟩ := choose_lt each
    have hg : ∀ i, i < len → ((List.range len).map f).getD i ⟨0, 0, 0, false, [], 0, 0⟩ = f i := fun i hi => by
      rw [List.getD_eq_getElem?_getD]; simp [hi]
    refine ⟨(List.range len).map f, by simp, fun i hi => ?_, fun i hi => ?_, Or.inr ⟨_, _, hx.1, by simp, fun i hi => ?_⟩⟩
    · have hi' : i < len := by simpa using hi
      obtain ⟨⟨h1, h2, h3, h4, h5, h6, h7⟩, _⟩ := hff i hi'
      have h0 := (hff 0 (by omega)).1.1
      obtain ⟨b, o, rfl⟩ : ∃ b o, x = ⟨b, o, none⟩ := by
        obtain ⟨b, o, sp⟩ := x
        have hs := World.cell?_spot h0
        simp [Addr.add] at hs
        subst hs; exact ⟨b, o, rfl⟩
      rw [Addr.add_lit] at h1 h2 h3 h4 h5 h6 h7
      refine ⟨b, o, rfl, ?_, by rw [hg i hi']; exact h1, by rw [hg i hi', Nat.add_assoc]; exact h2, by rw [hg i hi', Nat.add_assoc]; exact h3, by rw [hg i hi', Nat.add_assoc]; exact h4, by rw [hg i hi', Nat.add_assoc]; exact h5, by rw [hg i hi', Nat.add_assoc]; exact h6, by rw [hg i hi', Nat.add_assoc]; exact h7⟩
      by_cases hb : b < W.heap.size
      · exact hb
      · exfalso
        have hn : W.heap[b]? = none := Array.getElem?_eq_none (by omega)
        simp [World.cell?, hn] at h1
    · have hi' : i < len := by simpa using hi
      rw [hg i hi']
      exact (hff i hi').2.1
    · have hi' : i < len := by simpa using hi
      rw [hg i hi']
      exact Nat.le_trans (hff i hi').2.2 (bulk_mem1 (List.mem_map.2 ⟨i, List.mem_range.2 hi', rfl⟩))

set_option maxRecDepth 100000 in
theorem all_lifted (os : Os) (started : os.Started) (H : Type) (enc : TypeId × Value → H) (F : Stop.Interp) :
    ReturnsInHanded {} Try.checked os 11 .any ((Rows.OpenSpec.upto Rows.allSpec).pre6 enc Try.prog Try.f11 Rows.allUptoRow.domain false) (((Rows.OpenSpec.upto Rows.allSpec).at F).post enc Try.prog Try.f11 false true false false) := by
  refine returnsInHanded_of_cond (C := Try.checked) (s := Rows.OpenSpec.upto Rows.allSpec) (k := Rows.uptoSmall) rfl own started (by kernel_rfl) Try.func11
    (OpenSpec.witness (enc := enc) (C := Try.checked) (s := Rows.OpenSpec.upto Rows.allSpec) (k := Rows.uptoSmall) rfl false ⟨#[], #[.slice none 0 0], []⟩ 8 (by kernel_rfl) (by kernel_rfl) (by kernel_rfl)
      (x := ([.nil], [], [])) (by kernel_rfl) rfl (by kernel_rfl)) ?_
  intro W base args ds gs before hval0 hW _ hk _
  have hval : ∀ (j : Nat) t v, Try.f11.params[j]? = some t → args[j]? = some v → Value.okWide Try.prog W .any base t v := hval0
  have hW' := hW
  obtain ⟨p, q, hA0, hV, rfl, hfz, hnd⟩ := hW
  have hA : DataW.TrodAll enc Try.prog W 0 (fun _ => true) true Try.f11.params.toList args.toList ds p := hA0
  rw [Try.params11] at hA hval
  obtain ⟨v0, vs0, d0, ds0, p0, q0, hargs, rfl, rfl, h0, r0⟩ := trodAll_cons hA
  obtain ⟨rfl, rfl, rfl⟩ := trodAll_nil r0
  obtain rfl : args = #[v0] := by cases args; simp_all
  obtain ⟨rfl, rfl⟩ := trodVars_none hV
  obtain ⟨a0, len0, cap0, rfl⟩ := okWide_slice Try.underlying46 (hval 0 46 v0 rfl rfl)
  have k2 := h0
  have lt2 : ∀ x ∈ p0, x.block < W.heap.size := by obtain ⟨m, hm⟩ := k2; exact DataW.trod_lt m _ _ _ hm
  obtain ⟨l, hll, hb, hwf, hd⟩ := open_opsJ h0
  have hlen : l.length ≤ 1048576 ∧ ∀ i, i < l.length → (l.getD i ⟨0, 0, 0, false, [], 0, 0⟩).s.length ≤ 1048576 := by
    rcases hd with hd | ⟨elems, spare, hd, he, hs⟩
    · exact ⟨by omega, fun i hi => by omega⟩
    · have hm : DataW.slice elems spare ∈ [d0] := by rw [hd]; simp
      have h1 := bulk_at (elems := elems) (spare := spare) hk hm
      have h2 : Rows.uptoBulkAll elems ≤ 1048576 := Nat.le_trans (Nat.le_trans (bulk_elems elems spare) (bulk_mem1 hm)) (of_decide_eq_true hk)
      exact ⟨by omega, fun i hi => Nat.le_trans (hs i hi) h2⟩
  clear hA0 hval0
  subst hll
  refine (all_walk l a0 cap0 W hb hwf hlen.2 hlen.1).mono fun e W' ⟨he, bel⟩ => ?_
  subst he
  exact ⟨_, rfl, _, _, _, [], _, [], hW', trodAll_mk1 (shut_bool Try.underlying4 _), (trodAll_cons_mk (Below.trod laidOut (by kernel_rfl) (of_decide_eq_true (by kernel_rfl)) k2 bel lt2) trodAll_mk0), rfl, bel.frame _, fun h => by cases h⟩

set_option maxRecDepth 100000 in
theorem all_holds : Rows.AllUptoSaid :=
  OpenClaim.holds_of_cond 11 Try.f11 rfl rfl rfl rfl rfl rfl rfl ⟨rfl, rfl, rfl, rfl, rfl⟩ rfl rfl rfl rfl rfl (by kernel_rfl) Try.func11 (by kernel_rfl)
    (of_decide_eq_true (by kernel_rfl)) (by unfold Func.isWrapper; first | (rw [if_pos (by decide +kernel)]; kernel_rfl) | (rw [if_neg (by decide +kernel)]; exact ⟨rfl, rfl⟩))
    (fun os started H enc _ F => all_lifted os started H enc F)
end Go.Proofs.Ytjfifaooimgbaaa
