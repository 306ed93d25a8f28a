import Derived.Test.YtjfifaooimgbaaaDq
import Derived.Test.YtjfifaooimgbaaaOpen
import Derived.JoinedCond
/- Opens: the walk. -/
namespace Go.Proofs.Ytjfifaooimgbaaa
open Go.Shelf Go.RowKit Go.Lib Go.Sort

/-- a pair, and its box beside it. -/
structure PBx (w : World) (S : Nat → Prop) (p q B : Nat) (x : Ex.Xch) (wq : World) : Prop where
  tw : Twin wq S p q x
  box : wq.heap[B]? = some (.cells #[.pointer (some ⟨p, 0, none⟩), .pointer (some ⟨q, 0, none⟩)] 71 (0, 0))
  no : ¬ S B
  low : ∀ k, S k → w.heap.size ≤ k
  bel : Below w.heap.size w wq
theorem PBx.up {w wq w' : World} {S : Nat → Prop} {p q B : Nat} {x : Ex.Xch} (h : PBx w S p q B x wq) (b : Below wq.heap.size wq w') : PBx w S p q B x w' :=
  ⟨h.tw.keep (fun k hk => b.block k (h.tw.low k hk)), (b.block B (Array.getElem?_eq_some_iff.1 h.box).1).trans h.box, h.no, h.low, blw_trans h.bel b⟩
theorem PBx.step {w wq w' : World} {S : Nat → Prop} {p q B : Nat} {x : Ex.Xch} (h : PBx w S p q B x wq) (T : TwSt wq S p q x w') : ∃ S' x', x'.jr.length ≤ x.jr.length + 40 ∧ PBx w S' p q B x' w' := by
  obtain ⟨S', x', g1, g2, g3, g4⟩ := T
  have hB := (Array.getElem?_eq_some_iff.1 h.box).1
  refine ⟨S', x', g2, g1, (g4.block B hB h.no).trans h.box, fun hs => ?_, fun k hk => ?_, blw_onl h.bel g4 h.low⟩
  · rcases g3 B hs with e | e
    · exact h.no e
    · omega
  · rcases g3 k hk with e | e
    · exact h.low k e
    · exact Nat.le_trans h.bel.size e
theorem PBx.cell {w wq : World} {S : Nat → Prop} {p q B : Nat} {x : Ex.Xch} (h : PBx w S p q B x wq) : wq.cell? ⟨B, 0, none⟩ = some (.pointer (some ⟨p, 0, none⟩)) ∧ wq.cell? ⟨B, 1, none⟩ = some (.pointer (some ⟨q, 0, none⟩)) := by
  have := h.box
  constructor <;> simp [World.cell?, this]
/-- one question. -/
theorem bx_journal {w wq : World} {S : Nat → Prop} {p q B : Nat} {x : Ex.Xch} (h : PBx w S p q B x wq) : Calls Try.prog 36 #[.agg #[.pointer (some ⟨p, 0, none⟩), .pointer (some ⟨q, 0, none⟩)], .agg #[.int .i64 4, .int .i64 0, .int .i64 0, .bool false, .string ⟨#[]⟩, .int .i64 0, .int .i64 0]] wq fun e w' => e = .returned (.bool true) ∧ ∃ S' x', x'.jr.length ≤ x.jr.length + 40 ∧ PBx w S' p q B x' w' := by
  refine (does_journal wq S p q x h.tw ⟨4, 0, 0, false, [], 0, 0⟩ rfl).mono ?_
  rintro e w' ⟨rfl, T⟩
  exact ⟨rfl, h.step T⟩
theorem bx_do {w wq : World} {S : Nat → Prop} {p q B : Nat} {x : Ex.Xch} (h : PBx w S p q B x wq) (now : Int) (hn : -9223372036854775808 ≤ now ∧ now ≤ 9223372036854775807) (r : List UInt8) (hj : x.jr.length ≤ 1099511627776) : Calls Try.prog 36 #[.agg #[.pointer (some ⟨p, 0, none⟩), .pointer (some ⟨q, 0, none⟩)], .agg #[.int .i64 3, .int .i64 0, .int .i64 now, .bool true, .string ⟨r.toArray⟩, .int .i64 0, .int .i64 0]] wq fun e w' => e = .returned (.bool true) ∧ ∃ S' x', x'.jr.length ≤ x.jr.length + 40 ∧ PBx w S' p q B x' w' := by
  refine (does_do1 wq S p q x h.tw ⟨3, 0, now, true, r, 0, 0⟩ rfl ⟨hn, (by show (-9223372036854775808 : Int) ≤ 0 ∧ (0 : Int) ≤ 9223372036854775807; decide)⟩ rfl hj).mono ?_
  rintro e w' ⟨rfl, T⟩
  exact ⟨rfl, h.step T⟩

set_option maxHeartbeats 4000000 in
set_option maxRecDepth 100000 in
theorem opens_walk (w : World) (per cap now : Int) (hn : -9223372036854775808 ≤ now ∧ now ≤ 9223372036854775807) (j r : List UInt8) (hj : j.length ≤ 1048576) :
    Calls Try.prog 10 #[.agg #[.int .i64 per, .int .i64 cap], .string ⟨j.toArray⟩, .int .i64 now, .string ⟨r.toArray⟩] w fun e w' => e = .returned (.bool true) ∧ Below w.heap.size w w' := by
  have mixed : Try.prog.follows .mixedOrders = true := by kernel_rfl
  obtain ⟨W0, hW0⟩ : ∃ W0, W0 = w.alloc (.cells #[.int .i64 per, .int .i64 cap] 68) := ⟨_, rfl⟩
  have B0 : Aside (Below w.heap.size w W0) := by rw [hW0]; exact blw_al (Below.refl _ w) _
  have z0 : W0.cell? ⟨w.heap.size, 0, none⟩ = some (.int .i64 per) := by rw [hW0]; simp
  have z1 : W0.cell? ⟨w.heap.size, 1, none⟩ = some (.int .i64 cap) := by rw [hW0]; simp
  have hs0 : w.heap.size < W0.heap.size := by rw [hW0]; simp
  go_enter Try.func10, Try.ntmps10
  go_wp2_with fail
  rw [← hW0]
  clear hW0
  refine (begunL_any W0).mono ?_
  rintro e w1 ⟨rfl, hb1⟩
  have c0 : w1.cell? ⟨w.heap.size, 0, none⟩ = some (.int .i64 per) := (hb1.cell (p := ⟨w.heap.size, 0, none⟩) hs0).trans z0
  have c1 : w1.cell? ⟨w.heap.size, 1, none⟩ = some (.int .i64 cap) := (hb1.cell (p := ⟨w.heap.size, 1, none⟩) hs0).trans z1
  have B1 : Aside (Below w.heap.size w w1) := blw_trans B0.out hb1
  clear hb1 z0 z1 hs0 B0
  by_cases bad : BadC per cap
  · have HO : Aside _ := opened_badJ w1 per cap bad j
    clear bad
    go_wp2_with fail
    refine Calls.mono (f := 35) HO.out ?_
    rintro e w2 ⟨rfl, hb2⟩
    have B2 : Aside (Below w.heap.size w w2) := blw_trans B1.out hb2
    clear hb2 HO
    go_wp2
    go_ret
    exact ⟨rfl, blw_al B2.out _⟩
  · have h1 : 1 ≤ per ∧ per ≤ 1125899906842624 ∧ 1 ≤ cap ∧ cap ≤ 20 := by unfold BadC at bad; omega
    have HO : Aside _ := opened_okJ w1 per cap h1.1 h1.2.1 h1.2.2.1 h1.2.2.2 j (by omega)
    have JL : Aside _ := openJ_len per cap j
    obtain ⟨x0, hx0⟩ : ∃ x, x = Ex.openJ (Ex.openX per cap) j := ⟨_, rfl⟩
    rw [← hx0] at HO JL
    clear bad h1 hx0
    go_wp2_with fail
    refine Calls.mono (f := 35) HO.out ?_
    rintro e w2 ⟨S, p, q, rfl, T2, n2, b2⟩
    obtain ⟨W3, hW3⟩ : ∃ W3, W3 = w2.alloc (.cells #[.pointer (some ⟨p, 0, none⟩), .pointer (some ⟨q, 0, none⟩)] 71) := ⟨_, rfl⟩
    have X3 : Aside (PBx w S p q w2.heap.size x0 W3) := by
      have ba : Below w2.heap.size w2 W3 := by rw [hW3]; exact blw_al (Below.refl _ w2) _
      refine ⟨T2.keep (fun k hk => ba.block k (T2.low k hk)), by rw [hW3]; exact heap_alloc_new w2 _, fun hs => ?_, fun k hk => Nat.le_trans B1.out.size (n2 k hk), blw_trans (blw_trans B1.out b2) ba⟩
      have := T2.low _ hs
      omega
    have e0 := X3.out.cell.1
    have e1 := X3.out.cell.2
    have H3 : Aside _ := bx_journal X3.out
    rw [hW3] at e0 e1
    clear T2 n2 b2 HO c0 c1
    go_wp2_with fail
    rw [← hW3]
    clear hW3 e0 e1
    refine Calls.mono (f := 36) H3.out ?_
    rintro e w4 ⟨rfl, S4, x4, j4, X4⟩
    have e0 := X4.cell.1
    have e1 := X4.cell.2
    have H4 : Aside _ := bx_do X4 now hn r (by have := JL.out; omega)
    have J4 : Aside (x4.jr.length ≤ 1048576 + 40) := by have := JL.out; show _ ≤ _; omega
    clear X4 j4 H3 X3
    go_wp2_with fail
    refine Calls.mono (f := 36) H4.out ?_
    rintro e w5 ⟨rfl, S5, x5, j5, X5⟩
    have e0 := X5.cell.1
    have e1 := X5.cell.2
    have J5 : Aside (x5.jr.length ≤ 1048576 + 80) := by have := J4.out; show _ ≤ _; omega
    have H5 : Aside _ := bx_do X5 now hn [8] (by have := J5.out; omega)
    clear X5 j5 H4
    go_wp2_with fail
    refine Calls.mono (f := 36) H5.out ?_
    rintro e w6 ⟨rfl, S6, x6, j6, X6⟩
    have e0 := X6.cell.1
    have e1 := X6.cell.2
    have J6 : Aside (x6.jr.length ≤ 1048576 + 120) := by have := J5.out; show _ ≤ _; omega
    have H6 : Aside _ := bx_do X6 now hn [10] (by have := J6.out; omega)
    clear X6 j6 H5
    go_wp2_with fail
    refine Calls.mono (f := 36) H6.out ?_
    rintro e w7 ⟨rfl, S7, x7, j7, X7⟩
    have e0 := X7.cell.1
    have e1 := X7.cell.2
    have H7 : Aside _ := bx_journal X7
    clear X7 j7 H6
    go_wp2_with fail
    refine Calls.mono (f := 36) H7.out ?_
    rintro e w8 ⟨rfl, S8, x8, j8, X8⟩
    have B8 : Aside _ := X8.bel
    clear X8 j8 H7
    go_wp2
    go_ret
    exact ⟨rfl, B8.out⟩
end Go.Proofs.Ytjfifaooimgbaaa
/- Opens: the given statement up to its bulk. -/
namespace Go.Proofs.Ytjfifaooimgbaaa
open Go.ChangeShapes Go.WideShapes Go.ChangeAt Go.RowKit Go.Deep

theorem cells68 : Try.prog.cellsOf 68 = 2 := by kernel_rfl
theorem bulk_mem2 {H : Type} {d : DataW H} : ∀ {l : List (DataW H)}, d ∈ l → Rows.uptoBulk d ≤ Rows.uptoBulkAll l
  | [], h => by cases h
  | x :: r, h => by
    simp only [Rows.uptoBulkAll]
    rcases List.mem_cons.1 h with h | h
    · subst h
      omega
    · have := bulk_mem2 h
      omega
theorem two_of {α : Type} : ∀ {l : List α}, l.length = 2 → ∃ a b, l = [a, b]
  | [a, b], _ => ⟨a, b, rfl⟩
set_option maxRecDepth 100000 in
theorem open_conf {H : Type} {enc : TypeId × Value → H} {W : World} {cs : Array Value} {d : DataW H} {p : List MemPlace}
    (h0 : DataW.Trod enc Try.prog W 0 (fun _ => true) true 68 (.agg cs) d p) (hsz : cs.size = Try.prog.cellsOf 68) : ∃ per cap, Value.agg cs = .agg #[.int .i64 per, .int .i64 cap] := by
  obtain ⟨fuel, hf⟩ := h0
  obtain ⟨xs, k, _, _, _, hxl, hfl⟩ := DataW.trod_struct Try.underlying68 hf
  rw [cells68] at hsz
  obtain ⟨cl⟩ := cs
  clear hf
  obtain ⟨a0, a1, rfl⟩ : ∃ a0 a1, cl = [a0, a1] := two_of hsz
  obtain ⟨z0, z1, rfl⟩ : ∃ a0 a1, xs = [a0, a1] := two_of hxl
  have f0 := hfl 0 _ rfl
  have f1 := hfl 1 _ rfl
  clear hfl hsz
  simp [cells3, Value.cells] at f0 f1
  obtain ⟨n5, e5, _, w5⟩ := DataW.trod_int Try.underlying3 f0
  obtain ⟨n6, e6, _, w6⟩ := DataW.trod_int Try.underlying3 f1
  simp only [List.cons.injEq, and_true] at e5 e6
  subst e5 e6
  exact ⟨n5, n6, rfl⟩
theorem open_text {H : Type} {enc : TypeId × Value → H} {W : World} {s : ByteArray} {d : DataW H} {p : List MemPlace}
    (h1 : DataW.Trod enc Try.prog W 0 (fun _ => true) true 9 (.string s) d p) : s.data.toList.length ≤ Rows.uptoBulk d := by
  obtain ⟨fuel, hf⟩ := h1
  obtain ⟨n4, e4, hy4, _⟩ := DataW.trod_string Try.underlying9 hf
  simp only [Value.cells, List.cons.injEq, and_true, Value.string.injEq] at e4
  subst e4
  have hd : d = .lit (.string s.data.toList) := congrArg Prod.fst hy4
  rw [hd]
  simp only [Rows.uptoBulk]
  omega
set_option maxHeartbeats 4000000 in
set_option maxRecDepth 100000 in
theorem opens_lifted (os : Os) (started : os.Started) (H : Type) (enc : TypeId × Value → H) (F : Stop.Interp) :
    ReturnsInHanded {} Try.checked os 10 .any ((Rows.OpenSpec.upto Rows.opensSpec).pre6 enc Try.prog Try.f10 Rows.opensUptoRow.domain false) (((Rows.OpenSpec.upto Rows.opensSpec).at F).post enc Try.prog Try.f10 false true false false) := by
  refine returnsInHanded_of_cond (C := Try.checked) (s := Rows.OpenSpec.upto Rows.opensSpec) (k := Rows.uptoSmall) rfl own started (by kernel_rfl) Try.func10
    (OpenSpec.witness (enc := enc) (C := Try.checked) (s := Rows.OpenSpec.upto Rows.opensSpec) (k := Rows.uptoSmall) rfl false ⟨#[], #[.agg #[.int .i64 0, .int .i64 0], .string ⟨#[]⟩, .int .i64 0, .string ⟨#[]⟩], []⟩ 8 (by kernel_rfl) (by kernel_rfl) (by kernel_rfl)
      (x := ([.agg [.lit (.int .i64 0), .lit (.int .i64 0)], .lit (.string []), .lit (.int .i64 0), .lit (.string [])], [], [])) (by kernel_rfl) rfl (by kernel_rfl)) ?_
  intro W base args ds gs before hval0 hW _ hk _
  have hval : ∀ (j : Nat) t v, Try.f10.params[j]? = some t → args[j]? = some v → Value.okWide Try.prog W .any base t v := hval0
  have hW' := hW
  obtain ⟨p, q, hA0, hV, rfl, hfz, hnd⟩ := hW
  have hA : DataW.TrodAll enc Try.prog W 0 (fun _ => true) true Try.f10.params.toList args.toList ds p := hA0
  rw [Try.params10] at hA hval
  obtain ⟨v0, vs0, d0, ds0, p0, q0, hargs, rfl, rfl, h0, r0⟩ := trodAll_cons hA
  obtain ⟨v1, vs1, d1, ds1, p1, q1, rfl, rfl, rfl, h1, r1⟩ := trodAll_cons r0
  obtain ⟨v2, vs2, d2, ds2, p2, q2, rfl, rfl, rfl, h2, r2⟩ := trodAll_cons r1
  obtain ⟨v3, vs3, d3, ds3, p3, q3, rfl, rfl, rfl, h3, r3⟩ := trodAll_cons r2
  obtain ⟨rfl, rfl, rfl⟩ := trodAll_nil r3
  obtain rfl : args = #[v0, v1, v2, v3] := by cases args; simp_all
  obtain ⟨rfl, rfl⟩ := trodVars_none hV
  obtain ⟨cs, rfl, hsz⟩ := okWide_struct Try.underlying68 (hval 0 68 v0 rfl rfl)
  obtain ⟨s1, rfl⟩ := okWide_string Try.underlying9 (hval 1 9 v1 rfl rfl)
  obtain ⟨now, rfl, rfl, rfl, w2⟩ := open_int Try.underlying3 (hval 2 3 v2 rfl rfl) h2
  obtain ⟨s3, rfl⟩ := okWide_string Try.underlying9 (hval 3 9 v3 rfl rfl)
  have lt0 : ∀ x ∈ p0, x.block < W.heap.size := by obtain ⟨m, hm⟩ := h0; exact DataW.trod_lt m _ _ _ hm
  have lt1 : ∀ x ∈ p1, x.block < W.heap.size := by obtain ⟨m, hm⟩ := h1; exact DataW.trod_lt m _ _ _ hm
  have lt3 : ∀ x ∈ p3, x.block < W.heap.size := by obtain ⟨m, hm⟩ := h3; exact DataW.trod_lt m _ _ _ hm
  obtain ⟨per, cap, hcs⟩ := open_conf h0 hsz
  have hl1 : s1.data.toList.length ≤ 1048576 := Nat.le_trans (open_text h1) (Nat.le_trans (bulk_mem2 (l := [d0, d1, .lit (.int .i64 now), d3]) (by simp)) (of_decide_eq_true hk))
  have es1 : Value.string s1 = .string ⟨s1.data.toList.toArray⟩ := by simp
  have es3 : Value.string s3 = .string ⟨s3.data.toList.toArray⟩ := by simp
  clear hA0 hval0
  have HC := opens_walk W per cap now (bounds_i64 w2) s1.data.toList s3.data.toList hl1
  rw [← hcs, ← es1, ← es3] at HC
  refine HC.mono fun e W' ⟨he, bel⟩ => ?_
  subst he
  exact ⟨_, rfl, _, _, _, [], _, [], hW', trodAll_mk1 (shut_bool Try.underlying4 _), (trodAll_cons_mk (Below.trod laidOut (by kernel_rfl) (of_decide_eq_true (by kernel_rfl)) h0 bel lt0) (trodAll_cons_mk (Below.trod laidOut (by kernel_rfl) (of_decide_eq_true (by kernel_rfl)) h1 bel lt1) (trodAll_cons_mk (shut_int Try.underlying3 w2) (trodAll_cons_mk (Below.trod laidOut (by kernel_rfl) (of_decide_eq_true (by kernel_rfl)) h3 bel lt3) trodAll_mk0)))), rfl, bel.frame _, fun h => by cases h⟩

set_option maxRecDepth 100000 in
theorem opens_holds : Rows.OpensUptoSaid :=
  OpenClaim.holds_of_cond 10 Try.f10 rfl rfl rfl rfl rfl rfl rfl ⟨rfl, rfl, rfl, rfl, rfl⟩ rfl rfl rfl rfl rfl (by kernel_rfl) Try.func10 (by kernel_rfl)
    (of_decide_eq_true (by kernel_rfl)) (by unfold Func.isWrapper; first | (rw [if_pos (by decide +kernel)]; kernel_rfl) | (rw [if_neg (by decide +kernel)]; exact ⟨rfl, rfl⟩))
    (fun os started H enc _ F => opens_lifted os started H enc F)
#print axioms opens_holds
end Go.Proofs.Ytjfifaooimgbaaa
