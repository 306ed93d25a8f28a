import Derived.Test.YtjfifaooimgbaaaHm
import Derived.Test.YtjfifaooimgbaaaDq
/- The law's walk: holds, all steps. -/
namespace Go.Proofs.Ytjfifaooimgbaaa
open Go.Shelf Go.RowKit Go.Lib Go.Sort

theorem jb_of {n i : Nat} (h : n ≤ 40 * (i + 1 + 1048576)) (hi : i ≤ 1048576) : n ≤ 125829160 := Nat.le_trans h (Nat.le_trans (Nat.mul_le_mul_left 40 (Nat.add_le_add_right (Nat.succ_le_succ hi) 1048576)) (by decide))
theorem wrap_len {n : Nat} (h : n ≤ 125829160) : IntKind.i64.wrap ((n : Int) + 1) = (n : Int) + 1 := IntWalk.i64_in _ (by omega)
theorem take_len (l : List UInt8) (k : Nat) {n : Nat} (h : l.length ≤ n) : (l.take k).length ≤ n := by rw [List.length_take]; omega
/-- a pair was opened beside the others. -/
structure Reopened (w wr W' w7 W8 : World) (v : Value) (L : List (Option TwR)) (n p q : Nat) (x : Ex.Xch) (S : Nat → Prop) : Prop where
  prs : Pairs w.heap.size n W8 v L
  tw : Twin W8 S p q x
  jr : x.jr.length ≤ 40 * n
  low : ∀ k, S k → W'.heap.size ≤ k
  old : W'.heap.size ≤ W8.heap.size
  vlt : ∀ k, v.ownBlock = some k → k < W'.heap.size
  llt : ∀ (i : Nat) (u : TwR), L[i]? = some (some u) → ∀ k, u.S k → k < W'.heap.size
  wlt : w.heap.size ≤ W'.heap.size
  bel : Below w.heap.size w W8
theorem reopened {w wr W' w7 W8 : World} {v : Value} {L : List (Option TwR)} {n p q : Nat} {x : Ex.Xch} {S : Nat → Prop} (P : Pairs w.heap.size n W' v L) (hw : w.heap.size ≤ wr.heap.size) (hl : wr.heap.size + 1 < W'.heap.size) (h8 : W8 = (w7.setCell ⟨wr.heap.size + 1, 0, none⟩ (.pointer (some ⟨p, 0, none⟩))).setCell ⟨wr.heap.size + 1, 1, none⟩ (.pointer (some ⟨q, 0, none⟩))) (T : Twin w7 S p q x) (ns : ∀ k, S k → W'.heap.size ≤ k) (b : Below W'.heap.size W' w7) (hj : x.jr.length ≤ 40 * n) (bw : Below w.heap.size w W')
    (hold : ∀ k, (v.ownBlock = some k ∨ ∃ (i : Nat) (u : TwR), L[i]? = some (some u) ∧ u.S k) → k < wr.heap.size) : Reopened w wr W' w7 W8 v L n p q x S := by
  have kb : ∀ k, k ≠ wr.heap.size + 1 → W8.heap[k]? = w7.heap[k]? := fun k hk => by
    rw [h8]
    exact (Below.heap_setCell _ _ _ k hk).trans (Below.heap_setCell _ _ _ k hk)
  have s8 : W8.heap.size = w7.heap.size := by rw [h8]; simp [World.setCell]
  have b8 : Below w.heap.size w W8 := by
    have h1 : Below w.heap.size w w7 := blw_trans bw b
    rw [h8]
    exact blw_set (blw_set h1 _ _ (by show w.heap.size ≤ wr.heap.size + 1; omega)) _ _ (by show w.heap.size ≤ wr.heap.size + 1; omega)
  have P7 : Pairs w.heap.size n w7 v L := P.below b
  refine ⟨⟨rowT_kept P7.row (fun k hk => kb k (by have := hold k (Or.inl hk); omega)), P7.vb, fun i t hi => ?_, P7.apart⟩, T.keep (fun k hk => kb k (by have := ns k hk; omega)), hj, ns, by rw [s8]; exact b.size, fun k hk => by have := hold k (Or.inl hk); omega, fun i u hu k hk => by have := hold k (Or.inr ⟨i, u, hu, hk⟩); omega, by omega, b8⟩
  obtain ⟨a1, a2, a3, a4⟩ := P7.tw i t hi
  exact ⟨a1.keep (fun k hk => kb k (by have := hold k (Or.inr ⟨i, t, hi, hk⟩); omega)), a2, a3, a4⟩
theorem Reopened.push {w wr W' w7 W8 w9 : World} {v v' : Value} {L : List (Option TwR)} {n p q : Nat} {x : Ex.Xch} {S : Nat → Prop} {o : Obj} (h : Reopened w wr W' w7 W8 v L n p q x S) (h1 : w9.ownsRow 0 71 2 v' (L.length + 1) (flatT L ++ tv (some ⟨p, q, x, S⟩))) (h2 : (W8.alloc o).grownBy w9 v.ownBlock) (h3 : v'.ownBlock = v.ownBlock ∨ v'.ownBlock = some (W8.alloc o).heap.size) : Pairs w.heap.size n w9 v' (L ++ [some ⟨p, q, x, S⟩]) := by
  have ba : Below W8.heap.size W8 (W8.alloc o) := blw_al (Below.refl _ _) _
  refine Pairs.push (h.prs.below ba) _ (Nat.le_trans h.bel.size ba.size) h1 h2 h3 (fun t e => ?_)
  injection e with e
  subst e
  refine ⟨h.tw.keep (fun k hk => ba.block k (h.tw.low k hk)), h.jr, fun k hk => Nat.le_trans h.wlt (h.low k hk), fun k hk hs => ?_, fun i u hu k hk hs => ?_⟩
  · have := h.vlt k hk
    have := h.low k hs
    omega
  · have := h.llt i u hu k hs
    have := h.low k hk
    omega
/-- one of the pairs is asked. -/
theorem does_pairJ {w wr : World} {v : Value} {L : List (Option TwR)} {i c : Nat} (P : Pairs w.heap.size i wr v L) (BE : Below w.heap.size w wr) (op : OpS) (hf : op.fine) (hk : op.kind = 3 ∨ op.kind = 4) (hc : c < L.length) (hi : i ≤ 4194304) :
    ∀ V : World, (V.heap = (wr.alloc (.cells op.cells 76)).heap ∧ V.os = (wr.alloc (.cells op.cells 76)).os ∧ V.tape = (wr.alloc (.cells op.cells 76)).tape ∧ V.output = (wr.alloc (.cells op.cells 76)).output) →
      Calls Try.prog 36 #[.agg (tv (L.getD c none)).toArray, .agg op.cells] V fun e w' => e = .returned (.bool true) ∧ ∃ L' : List (Option TwR), L'.length = L.length ∧ Pairs w.heap.size (i + 1) w' v L' ∧ Below w.heap.size w w' := fun V hV => by
  have PV : Pairs w.heap.size i V v L := (P.below (blw_al (Below.refl _ wr) (.cells op.cells 76))).same hV.1
  have BV0 := blw_al BE (.cells op.cells 76)
  have BV : Below w.heap.size w V := ⟨hV.2.1.trans BV0.os, hV.2.2.1.trans BV0.tape, hV.2.2.2.trans BV0.output, by rw [hV.1]; exact BV0.size, fun k hk => by rw [hV.1]; exact BV0.block k hk⟩
  have hg : L[c]? = some (L.getD c none) := by rw [List.getD_eq_getElem?_getD, List.getElem?_eq_getElem hc]; rfl
  cases hx : L.getD c none with
  | none =>
    refine Calls.mono (does_nil V op hk) ?_
    rintro e w' ⟨rfl, hb⟩
    exact ⟨rfl, L, rfl, (PV.below hb).more (by omega), blw_trans BV hb⟩
  | some t =>
    rw [hx] at hg
    obtain ⟨t1, t2, t3, t4⟩ := PV.tw c t hg
    have hj : t.x.jr.length ≤ 1099511627776 := by omega
    have key : Calls Try.prog 36 #[.agg #[.pointer (some ⟨t.p, 0, none⟩), .pointer (some ⟨t.q, 0, none⟩)], .agg op.cells] V fun e w' => e = .returned (.bool true) ∧ TwSt V t.S t.p t.q t.x w' := by
      rcases hk with h | h
      · cases hr : op.raw with
        | true => exact does_do1 V t.S t.p t.q t.x t1 op h hf hr hj
        | false => exact does_do2 V t.S t.p t.q t.x t1 op h hf hr hj
      · exact does_journal V t.S t.p t.q t.x t1 op h
    refine Calls.mono key ?_
    rintro e w' ⟨rfl, T⟩
    obtain ⟨u, _, _, P'⟩ := PV.step hg BV.size T
    obtain ⟨S', x', g1, g2, g3, g4⟩ := T
    exact ⟨rfl, _, List.length_set, P', blw_onl BV g4 t3⟩

set_option maxHeartbeats 8000000 in
set_option maxRecDepth 100000 in
theorem holdsJ_any (l : List OpS) (a : Option Addr) (cap : Nat) (w : World) (hS : ScrAt w a l) (hf : ∀ i, i < l.length → (l.getD i ⟨0, 0, 0, false, [], 0, 0⟩).fine) (hS8 : ∀ i, i < l.length → (l.getD i ⟨0, 0, 0, false, [], 0, 0⟩).s.length ≤ 1048576) (hl : l.length ≤ 1048576) :
    Calls Try.prog 25 #[.slice a l.length cap, .int .i64 5] w fun e w' => e = .returned (.bool true) ∧ Below w.heap.size w w' := by
  have mixed : Try.prog.follows .mixedOrders = true := by kernel_rfl
  have HS : Aside (ScrAt w a l) := hS
  have HF : Aside (∀ i, i < l.length → (l.getD i ⟨0, 0, 0, false, [], 0, 0⟩).fine) := hf
  have HS8 : Aside (∀ i, i < l.length → (l.getD i ⟨0, 0, 0, false, [], 0, 0⟩).s.length ≤ 1048576) := hS8
  clear hS hf hS8
  go_enter Try.func25, Try.ntmps25
  go_wp2_with fail
  refine (begunL_any w).mono ?_
  rintro e w1 ⟨rfl, hb1⟩
  have B1 : Aside (Below w.heap.size w w1) := hb1
  clear hb1
  go_wp2_with fail
  go_loopg [6, 7] l.length (fun kx s t wq => ∃ (i : Nat) (L : List (Option TwR)), t = .int .i64 i ∧ i ≤ l.length ∧ l.length - i ≤ kx ∧ L.length ≤ i ∧ Aside (Pairs w.heap.size (i + 1048576) wq s L) ∧ Aside (Below w.heap.size w wq))
  case atStart => exact ⟨0, [], rfl, Nat.zero_le _, by omega, Nat.le_refl _, Pairs.nil _ _ _, B1.out⟩
  case round =>
    obtain ⟨i, L, rfl, hi, hkx, hL, PP, BE⟩ := hrel
    by_cases hlt : i < l.length
    · have hltz : (i : Int) < (l.length : Int) := by omega
      obtain ⟨b, o, rfl, s0, s1, s2, s3, s4, s5, s6, s7⟩ := HS.out i hlt
      have fi := HF.out i hlt
      have s8 := HS8.out i hlt
      have kb := BE.out.block b s0
      generalize l.getD i ⟨0, 0, 0, false, [], 0, 0⟩ = op at *
      have t1 : wr.cell? ⟨b, o + i * 7, none⟩ = some (.int .i64 op.kind) := (World.cell?_of_block (a := ⟨b, o + i * 7, none⟩) kb).trans s1
      have t2 : wr.cell? ⟨b, o + i * 7 + 1, none⟩ = some (.int .i64 op.X) := (World.cell?_of_block (a := ⟨b, o + i * 7 + 1, none⟩) kb).trans s2
      have t3 : wr.cell? ⟨b, o + i * 7 + 2, none⟩ = some (.int .i64 op.now) := (World.cell?_of_block (a := ⟨b, o + i * 7 + 2, none⟩) kb).trans s3
      have t4 : wr.cell? ⟨b, o + i * 7 + 3, none⟩ = some (.bool op.raw) := (World.cell?_of_block (a := ⟨b, o + i * 7 + 3, none⟩) kb).trans s4
      have t5 : wr.cell? ⟨b, o + i * 7 + 4, none⟩ = some (.string ⟨op.s.toArray⟩) := (World.cell?_of_block (a := ⟨b, o + i * 7 + 4, none⟩) kb).trans s5
      have t6 : wr.cell? ⟨b, o + i * 7 + 5, none⟩ = some (.int .i64 op.per) := (World.cell?_of_block (a := ⟨b, o + i * 7 + 5, none⟩) kb).trans s6
      have t7 : wr.cell? ⟨b, o + i * 7 + 6, none⟩ = some (.int .i64 op.cap) := (World.cell?_of_block (a := ⟨b, o + i * 7 + 6, none⟩) kb).trans s7
      clear s1 s2 s3 s4 s5 s6 s7 kb
      obtain ⟨va, vc, hv, hvc⟩ : ∃ va vc, u6 = .slice va L.length vc ∧ L.length ≤ vc := by
        rcases PP.out.row.2 with ⟨h1, h2⟩ | ⟨g, c, cur, h1, _, _, h2, _⟩
        · exact ⟨none, 0, by rw [h1, h2], by omega⟩
        · exact ⟨_, c, h1, h2⟩
      subst hv
      have BX : Aside (Below wr.heap.size wr (wr.alloc (.cells op.cells 76))) := blw_al (Below.refl _ wr) _
      have PX : Aside (Pairs w.heap.size (i + 1 + 1048576) (wr.alloc (.cells op.cells 76)) (.slice va L.length vc) L) := (PP.out.below BX.out).more (by omega)
      unfold OpS.cells at BX PX
      by_cases k5 : 5 < op.kind
      · go_wp2
        go_roundg (l.length - (i + 1))
        case measure => omega
        case rel => exact ⟨i + 1, L, by go_num, by omega, Nat.le_refl _, by omega, PX.out, blw_trans BE.out BX.out⟩
      · by_cases k1 : op.kind = 1
        · rw [k1] at BX PX
          by_cases bad : BadC op.per op.cap
          · go_wp2_with fail
            refine (opened_badJ _ op.per op.cap bad op.s).mono ?_
            rintro e w2 ⟨rfl, hb2⟩
            have P2 : Aside (Pairs w.heap.size (i + 1 + 1048576) w2 (.slice va L.length vc) L) := PX.out.below hb2
            have B2 : Aside (Below w.heap.size w w2) := blw_trans (blw_trans BE.out BX.out) hb2
            clear hb2
            go_wp2_with (first | (at_builtin; refine wpList_append_tw _ rfl _ _ rfl (.slice va L.length vc) L rfl (P2.out.below (blw_al (blw_al (Below.refl _ _) _) _)).row _ rfl none (src_tw _ none (.pointer none) (.pointer none) rfl _ (by simp)) (by omega) ?_; intro v' w3 g1 g2 g3; have P3 : Aside (Pairs w.heap.size (i + 1 + 1048576) w3 v' (L ++ [none])) := Pairs.push (P2.out.below (blw_al (blw_al (Below.refl _ _) _) _)) none (Nat.le_trans B2.out.size (by simp; omega)) g1 g2 g3 (fun t h => by cases h); have B3 : Aside (Below w.heap.size w w3) := blw_grown (blw_al (blw_al B2.out _) _) g2 P2.out.vb; clear g1 g2 g3) | fail)
            go_roundg (l.length - (i + 1))
            case measure => omega
            case rel => exact ⟨i + 1, L ++ [none], by go_num, by omega, Nat.le_refl _, by rw [List.length_append]; simp; omega, P3.out, B3.out⟩
          · have h1 : 1 ≤ op.per ∧ op.per ≤ 1125899906842624 ∧ 1 ≤ op.cap ∧ op.cap ≤ 20 := by unfold BadC at bad; omega
            go_wp2_with fail
            refine (opened_okJ _ op.per op.cap h1.1 h1.2.1 h1.2.2.1 h1.2.2.2 op.s (by omega)).mono ?_
            rintro e w2 ⟨S, p, q, rfl, hT, hSn, hb2⟩
            have P2 : Aside (Pairs w.heap.size (i + 1 + 1048576) w2 (.slice va L.length vc) L) := PX.out.below hb2
            have B2 : Aside (Below w.heap.size w w2) := blw_trans (blw_trans BE.out BX.out) hb2
            have TT : Aside (Twin w2 S p q (Ex.openJ (Ex.openX op.per op.cap) op.s)) := hT
            have SN : Aside (∀ k, S k → wr.heap.size < k + 1) := fun k hk => by have := hSn k hk; simp at this; omega
            clear hb2 hT hSn
            go_wp2_with (first | (at_builtin; refine wpList_append_tw _ rfl _ _ rfl (.slice va L.length vc) L rfl (P2.out.below (blw_al (blw_al (Below.refl _ _) _) _)).row _ rfl (some ⟨p, q, Ex.openJ (Ex.openX op.per op.cap) op.s, S⟩) (src_tw _ _ (.pointer (some ⟨p, 0, none⟩)) (.pointer (some ⟨q, 0, none⟩)) rfl _ (by simp)) (by omega) ?_; intro v' w3 g1 g2 g3; have P3 : Aside (Pairs w.heap.size (i + 1 + 1048576) w3 v' (L ++ [some ⟨p, q, Ex.openJ (Ex.openX op.per op.cap) op.s, S⟩])) := Pairs.push (P2.out.below (blw_al (blw_al (Below.refl _ _) _) _)) _ (Nat.le_trans B2.out.size (by simp; omega)) g1 g2 g3 (fun t h => by injection h with h; subst h; exact ⟨TT.out.keep (fun k hk => (blw_al (blw_al (Below.refl _ w2) _) _).block k (TT.out.low k hk)), (by have := openJ_len op.per op.cap op.s; dsimp only; omega), fun k hk => by have h1 := SN.out k hk; have h2 := BE.out.size; omega, fun k hk hs => by have h1 := SN.out k hs; have h2 := (World.ownsRow.lt PP.out.row k hk).2; omega, fun i' u hu k hk hs => by have h1 := SN.out k hk; have h2 := (PP.out.tw i' u hu).1.low k hs; omega⟩); have B3 : Aside (Below w.heap.size w w3) := blw_grown (blw_al (blw_al B2.out _) _) g2 P2.out.vb; clear g1 g2 g3) | fail)
            go_roundg (l.length - (i + 1))
            case measure => omega
            case rel => exact ⟨i + 1, L ++ [some (TwR.mk p q (Ex.openJ (Ex.openX op.per op.cap) op.s) S)], by go_num, by omega, Nat.le_refl _, by rw [List.length_append]; simp; omega, P3.out, B3.out⟩
        · by_cases k2 : op.kind = 2
          · rw [k2] at BX PX
            go_wp2_with (first | (at_builtin; refine wpList_append_tw _ rfl _ _ rfl (.slice va L.length vc) L rfl (PX.out.below (blw_al (Below.refl _ _) _)).row _ rfl none (src_tw _ none (.pointer none) (.pointer none) rfl _ (by simp)) (by omega) ?_; intro v' w3 g1 g2 g3; have P3 : Aside (Pairs w.heap.size (i + 1 + 1048576) w3 v' (L ++ [none])) := Pairs.push (PX.out.below (blw_al (Below.refl _ _) _)) none (Nat.le_trans BE.out.size (by simp; omega)) g1 g2 g3 (fun t h => by cases h); have B3 : Aside (Below w.heap.size w w3) := blw_grown (blw_al (blw_trans BE.out BX.out) _) g2 PX.out.vb; clear g1 g2 g3) | fail)
            go_roundg (l.length - (i + 1))
            case measure => omega
            case rel => exact ⟨i + 1, L ++ [none], by go_num, by omega, Nat.le_refl _, by rw [List.length_append]; simp; omega, P3.out, B3.out⟩
          · have e1 : (op.kind == 1) = false := beq_eq_false_iff_ne.2 k1
            have e2 : (op.kind == 2) = false := beq_eq_false_iff_ne.2 k2
            by_cases k0 : L.length = 0
            · obtain rfl : L = [] := List.eq_nil_of_length_eq_zero k0
              clear k0
              go_wp2
              go_roundg (l.length - (i + 1))
              case measure => omega
              case rel => exact ⟨i + 1, [], by go_num, by omega, Nat.le_refl _, Nat.zero_le _, PX.out, blw_trans BE.out BX.out⟩
            · have e0 : ((L.length : Int) == 0) = false := beq_eq_false_iff_ne.2 (by omega)
              by_cases k34 : op.kind = 3 ∨ op.kind = 4
              · have hpk : pickN op.X L.length < L.length := pickN_lt _ _ (by omega)
                have HP : Aside (∀ V : World, Calls Try.prog 16 #[.int .i64 op.X, .int .i64 (L.length : Nat)] V fun e w' => e = .returned (.int .i64 (pickN op.X L.length : Nat)) ∧ w' = V) := fun V => pickL_any op.X L.length V (by omega) (by omega) fi.2.1 fi.2.2
                obtain ⟨c, hc⟩ : ∃ c, pickN op.X L.length = c := ⟨_, rfl⟩
                rw [hc] at hpk HP
                obtain ⟨g, hg⟩ : ∃ g, va = some ⟨g, 0, none⟩ := by
                  rcases PP.out.row.2 with ⟨h1, h2⟩ | ⟨g, c', cur, h1, _, _, h2, _⟩
                  · exact absurd h2 k0
                  · injection h1 with h1 _ _
                    exact ⟨g, h1⟩
                subst hg
                have ct : ∀ j v, j < 2 → (tv (L.getD c none))[j]? = some v → wr.cell? ⟨g, c * 2 + j, none⟩ = some v := fun j v hj2 hj => by
                  have := World.ownsRow.cells PP.out.row (g := g) rfl (c * 2 + j) v ((flatT_at L c hpk j hj2).trans hj)
                  rw [Addr.add_lit, Nat.zero_add] at this
                  exact this
                have gl : g < wr.heap.size := (World.ownsRow.lt PP.out.row g rfl).2
                have hpz : (c : Int) < (L.length : Int) := by omega
                have DD : Aside _ := does_pairJ (i := i + 1048576) (c := c) PP.out BE.out op fi k34 hpk (by omega)
                unfold OpS.cells at DD
                cases hx : L.getD c none with
                | none =>
                  rw [hx] at ct DD
                  have m0 : wr.cell? ⟨g, c * 2, none⟩ = some (.pointer none) := ct 0 _ (by decide) rfl
                  have m1 : wr.cell? ⟨g, c * 2 + 1, none⟩ = some (.pointer none) := ct 1 _ (by decide) rfl
                  clear ct hx hc
                  rcases k34 with k3 | k4
                  · have e3 : (op.kind == 3) = true := by rw [k3]; rfl
                    clear k3
                    go_wp2_with fail
                    go_region_with (first | (go_at_call 16; refine Calls.mono (f := 16) (HP.out _) ?_; rintro e w4 ⟨rfl, rfl⟩) | (go_at_call 36; refine Calls.mono (f := 36) (DD.out _ (by exact ⟨rfl, rfl, rfl, rfl⟩)) ?_; rintro e w5 ⟨rfl, L', hL', hP', hB'⟩; have P5 : Aside _ := hP'; have B5 : Aside _ := hB'; clear hP' hB'))
                    all_goals go_wp2
                    all_goals
                      go_roundg (l.length - (i + 1))
                      case measure => omega
                      case rel => exact ⟨i + 1, L', by go_num, by omega, Nat.le_refl _, by omega, P5.out, B5.out⟩
                  · have e3 : (op.kind == 3) = false := by rw [k4]; rfl
                    have e4 : (op.kind == 4) = true := by rw [k4]; rfl
                    clear k4
                    go_wp2_with fail
                    go_region_with (first | (go_at_call 16; refine Calls.mono (f := 16) (HP.out _) ?_; rintro e w4 ⟨rfl, rfl⟩) | (go_at_call 36; refine Calls.mono (f := 36) (DD.out _ (by exact ⟨rfl, rfl, rfl, rfl⟩)) ?_; rintro e w5 ⟨rfl, L', hL', hP', hB'⟩; have P5 : Aside _ := hP'; have B5 : Aside _ := hB'; clear hP' hB'))
                    all_goals go_wp2
                    all_goals
                      go_roundg (l.length - (i + 1))
                      case measure => omega
                      case rel => exact ⟨i + 1, L', by go_num, by omega, Nat.le_refl _, by omega, P5.out, B5.out⟩
                | some t =>
                  rw [hx] at ct DD
                  have m0 : wr.cell? ⟨g, c * 2, none⟩ = some (.pointer (some ⟨t.p, 0, none⟩)) := ct 0 _ (by decide) rfl
                  have m1 : wr.cell? ⟨g, c * 2 + 1, none⟩ = some (.pointer (some ⟨t.q, 0, none⟩)) := ct 1 _ (by decide) rfl
                  clear ct hx hc
                  rcases k34 with k3 | k4
                  · have e3 : (op.kind == 3) = true := by rw [k3]; rfl
                    clear k3
                    go_wp2_with fail
                    go_region_with (first | (go_at_call 16; refine Calls.mono (f := 16) (HP.out _) ?_; rintro e w4 ⟨rfl, rfl⟩) | (go_at_call 36; refine Calls.mono (f := 36) (DD.out _ (by exact ⟨rfl, rfl, rfl, rfl⟩)) ?_; rintro e w5 ⟨rfl, L', hL', hP', hB'⟩; have P5 : Aside _ := hP'; have B5 : Aside _ := hB'; clear hP' hB'))
                    all_goals go_wp2
                    all_goals
                      go_roundg (l.length - (i + 1))
                      case measure => omega
                      case rel => exact ⟨i + 1, L', by go_num, by omega, Nat.le_refl _, by omega, P5.out, B5.out⟩
                  · have e3 : (op.kind == 3) = false := by rw [k4]; rfl
                    have e4 : (op.kind == 4) = true := by rw [k4]; rfl
                    clear k4
                    go_wp2_with fail
                    go_region_with (first | (go_at_call 16; refine Calls.mono (f := 16) (HP.out _) ?_; rintro e w4 ⟨rfl, rfl⟩) | (go_at_call 36; refine Calls.mono (f := 36) (DD.out _ (by exact ⟨rfl, rfl, rfl, rfl⟩)) ?_; rintro e w5 ⟨rfl, L', hL', hP', hB'⟩; have P5 : Aside _ := hP'; have B5 : Aside _ := hB'; clear hP' hB'))
                    all_goals go_wp2
                    all_goals
                      go_roundg (l.length - (i + 1))
                      case measure => omega
                      case rel => exact ⟨i + 1, L', by go_num, by omega, Nat.le_refl _, by omega, P5.out, B5.out⟩
              · have e3 : (op.kind == 3) = false := beq_eq_false_iff_ne.2 (fun e => k34 (Or.inl e))
                have e4 : (op.kind == 4) = false := beq_eq_false_iff_ne.2 (fun e => k34 (Or.inr e))
                by_cases k55 : op.kind = 5
                · have e5 : (op.kind == 5) = true := beq_iff_eq.2 k55
                  clear k55 k34
                  have hpk : pickN op.X L.length < L.length := pickN_lt _ _ (by omega)
                  have HP : Aside (∀ V : World, Calls Try.prog 16 #[.int .i64 op.X, .int .i64 (L.length : Nat)] V fun e w' => e = .returned (.int .i64 (pickN op.X L.length : Nat)) ∧ w' = V) := fun V => pickL_any op.X L.length V (by omega) (by omega) fi.2.1 fi.2.2
                  obtain ⟨c, hc⟩ : ∃ c, pickN op.X L.length = c := ⟨_, rfl⟩
                  rw [hc] at hpk HP
                  obtain ⟨g, hg⟩ : ∃ g, va = some ⟨g, 0, none⟩ := by
                    rcases PP.out.row.2 with ⟨h1, h2⟩ | ⟨g, c', cur, h1, _, _, h2, _⟩
                    · exact absurd h2 k0
                    · injection h1 with h1 _ _
                      exact ⟨g, h1⟩
                  subst hg
                  have ct : ∀ j v, j < 2 → (tv (L.getD c none))[j]? = some v → wr.cell? ⟨g, c * 2 + j, none⟩ = some v := fun j v hj2 hj => by
                    have := World.ownsRow.cells PP.out.row (g := g) rfl (c * 2 + j) v ((flatT_at L c hpk j hj2).trans hj)
                    rw [Addr.add_lit, Nat.zero_add] at this
                    exact this
                  have gl : g < wr.heap.size := (World.ownsRow.lt PP.out.row g rfl).2
                  have hpz : (c : Int) < (L.length : Int) := by omega
                  cases hx : L.getD c none with
                  | none =>
                    rw [hx] at ct
                    have m0 : wr.cell? ⟨g, c * 2, none⟩ = some (.pointer none) := ct 0 _ (by decide) rfl
                    have m1 : wr.cell? ⟨g, c * 2 + 1, none⟩ = some (.pointer none) := ct 1 _ (by decide) rfl
                    clear ct hx hc
                    go_wp2_with fail
                    refine Calls.mono (f := 16) (HP.out _) ?_
                    rintro e w4 ⟨rfl, hw4⟩
                    rw [hw4]
                    clear hw4 w4
                    go_wp2_with fail
                    refine Calls.mono (f := 44) (journalR_nil _) ?_
                    rintro e w5 ⟨rfl, hw5⟩
                    rw [hw5]
                    clear hw5 w5
                    go_wp2
                    go_roundg (l.length - (i + 1))
                    case measure => omega
                    case rel => exact ⟨i + 1, L, by go_num, by omega, Nat.le_refl _, by omega, PX.out.below (blw_al (Below.refl _ _) _), blw_al (blw_trans BE.out BX.out) _⟩
                  | some t =>
                    rw [hx] at ct
                    have m0 : wr.cell? ⟨g, c * 2, none⟩ = some (.pointer (some ⟨t.p, 0, none⟩)) := ct 0 _ (by decide) rfl
                    have m1 : wr.cell? ⟨g, c * 2 + 1, none⟩ = some (.pointer (some ⟨t.q, 0, none⟩)) := ct 1 _ (by decide) rfl
                    have hgc : L[c]? = some (some t) := by rw [List.getElem?_eq_getElem hpk]; rw [List.getD_eq_getElem?_getD, List.getElem?_eq_getElem hpk] at hx; exact congrArg some hx
                    clear ct hx hc
                    obtain ⟨W', hW'⟩ : ∃ W', W' = (wr.alloc (.cells op.cells 76)).alloc (.cells #[.pointer (some ⟨t.p, 0, none⟩), .pointer (some ⟨t.q, 0, none⟩)] 71) := ⟨_, rfl⟩
                    have BW' : Aside (Below wr.heap.size wr W') := by rw [hW']; exact blw_al (blw_al (Below.refl _ wr) _) _
                    have PW' : Aside (Pairs w.heap.size (i + 1 + 1048576) W' (.slice (some ⟨g, 0, none⟩) L.length vc) L) := (PP.out.below BW'.out).more (by omega)
                    have bl0 : W'.heap[wr.heap.size]? = some (.cells op.cells 76 (0, 0)) := by rw [hW']; exact (Below.heap_alloc _ _ _ (by simp)).trans (heap_alloc_new wr _)
                    have bl1 : W'.heap[wr.heap.size + 1]? = some (.cells #[.pointer (some ⟨t.p, 0, none⟩), .pointer (some ⟨t.q, 0, none⟩)] 71 (0, 0)) := by rw [hW']; exact next_new wr _ _
                    unfold OpS.cells at hW' bl0
                    obtain ⟨T1, T2, T3, T4⟩ := PW'.out.tw c t hgc
                    obtain ⟨S1, S2, h1, h2, h3, h4, h5, h6⟩ := T1
                    obtain ⟨ov, fv, g1, g2, g3, g4⟩ := h2
                    have q0 : W'.cell? ⟨t.q, 0, none⟩ = some (.int .i64 t.x.period) := g1.head 0 (by decide)
                    have q1 : W'.cell? ⟨t.q, 1, none⟩ = some (.int .i64 t.x.cap) := g1.head 1 (by decide)
                    have y2 : W'.cell? ⟨wr.heap.size, 2, none⟩ = some (.int .i64 op.now) := by simp [World.cell?, bl0]
                    have z1 : W'.cell? ⟨wr.heap.size + 1, 1, none⟩ = some (.pointer (some ⟨t.q, 0, none⟩)) := by simp [World.cell?, bl1]
                    have z0 : W'.cell? ⟨wr.heap.size + 1, 0, none⟩ = some (.pointer (some ⟨t.p, 0, none⟩)) := by simp [World.cell?, bl1]
                    have zf : ∀ j, W'.frozen? ⟨wr.heap.size + 1, j, none⟩ = false := fun j => by simp [World.frozen?, bl1]
                    have ltq : t.q < W'.heap.size := g1.lt
                    have lt1 : wr.heap.size + 1 < W'.heap.size := (Array.getElem?_eq_some_iff.1 bl1).1
                    have lt0 : wr.heap.size < W'.heap.size := (Array.getElem?_eq_some_iff.1 bl0).1
                    have ZF : Aside _ := zf
                    clear zf
                    have HJR : Aside _ := journalR_any W' t.q t.x ov fv g1
                    have jb0 : t.x.jr.length ≤ 40 * (i + 1 + 1048576) := T2
                    have jb : t.x.jr.length ≤ 125829160 := jb_of jb0 (Nat.le_trans (Nat.le_of_lt hlt) hl)
                    obtain ⟨p1, p2⟩ := h5.per
                    obtain ⟨p3, p4⟩ := h5.cap
                    clear T2 T3 T4 h1 h3 h4 h5 h6 g1 g2 g3 g4
                    obtain ⟨kk, hkk⟩ : ∃ k, pickN op.now (t.x.jr.length + 1) = k := ⟨_, rfl⟩
                    have hkl := pickN_lt op.now (t.x.jr.length + 1) (Nat.succ_pos _)
                    rw [hkk] at hkl
                    have HPN : Aside (∀ V : World, Calls Try.prog 16 #[.int .i64 op.now, .int .i64 ((t.x.jr.length : Int) + 1)] V fun e w' => e = .returned (.int .i64 (kk : Nat)) ∧ w' = V) := fun V => by
                      have := pickL_any op.now (t.x.jr.length + 1) V (Nat.succ_pos _) (Nat.le_trans (Nat.succ_le_succ jb) (by decide)) fi.1.1 fi.1.2
                      rw [hkk] at this
                      exact this
                    clear hkk
                    have kz : (kk : Int) ≤ (t.x.jr.length : Int) := Int.ofNat_le.2 (Nat.le_of_lt_succ hkl)
                    have xk : ({ data := t.x.jr.toArray } : ByteArray).extract 0 kk = ⟨(t.x.jr.take kk).toArray⟩ := by rw [ext_mid]; rfl
                    have lk : (t.x.jr.take kk).length ≤ 125829160 := take_len _ _ jb
                    have lk2 : Aside ((t.x.jr.take kk).length ≤ 40 * (i + 1 + 1048576)) := take_len _ _ jb0
                    have HOP : Aside (∀ V : World, Calls Try.prog 35 #[.agg #[.int .i64 t.x.period, .int .i64 t.x.cap], .string ⟨(t.x.jr.take kk).toArray⟩] V fun e w' => ∃ S p q, e = .returned (.tuple #[.agg #[.pointer (some ⟨p, 0, none⟩), .pointer (some ⟨q, 0, none⟩)], .bool true]) ∧ Twin w' S p q (Ex.openJ (Ex.openX t.x.period t.x.cap) (t.x.jr.take kk)) ∧ (∀ k, S k → V.heap.size ≤ k) ∧ Below V.heap.size V w') := fun V => opened_okJ V _ _ p1 p2 p3 p4 _ (Nat.le_trans lk (by decide))
                    have OL : Aside _ := openJ_len t.x.period t.x.cap (t.x.jr.take kk)
                    obtain ⟨NX, hNX⟩ : ∃ NX, NX = Ex.openJ (Ex.openX t.x.period t.x.cap) (t.x.jr.take kk) := ⟨_, rfl⟩
                    rw [← hNX] at HOP OL
                    clear hNX
                    go_wp2_with fail
                    refine Calls.mono (f := 16) (HP.out _) ?_
                    rintro e w4 ⟨rfl, hw4⟩
                    rw [hw4]
                    clear hw4 w4
                    go_wp2_with fail
                    rw [← hW']
                    clear hW'
                    refine Calls.mono (f := 44) HJR.out ?_
                    rintro e w5 ⟨rfl, hw5⟩
                    rw [hw5]
                    clear hw5 w5 HJR
                    have wj : IntKind.i64.wrap ((t.x.jr.length : Int) + 1) = (t.x.jr.length : Int) + 1 := wrap_len jb
                    go_wp2_with fail
                    clear bl0 bl1
                    go_region_with (first | (go_at_call 16; refine Calls.mono (f := 16) (HPN.out _) ?_; rintro e w6 ⟨rfl, rfl⟩) | (go_at_call 35; refine Calls.mono (f := 35) (HOP.out _) ?_; rintro e w7 ⟨S7, p7, q7, rfl, T7, n7, b7⟩; have r1 : w7.cell? ⟨wr.heap.size + 1, 1, none⟩ = some (.pointer (some ⟨t.q, 0, none⟩)) := (b7.cell (p := ⟨wr.heap.size + 1, 1, none⟩) lt1).trans z1; have r0 : w7.cell? ⟨wr.heap.size + 1, 0, none⟩ = some (.pointer (some ⟨t.p, 0, none⟩)) := (b7.cell (p := ⟨wr.heap.size + 1, 0, none⟩) lt1).trans z0; have rf0 : w7.frozen? ⟨wr.heap.size + 1, 0, none⟩ = false := (b7.frozen (p := ⟨wr.heap.size + 1, 0, none⟩) lt1).trans (ZF.out 0); have rf1 : w7.frozen? ⟨wr.heap.size + 1, 1, none⟩ = false := (b7.frozen (p := ⟨wr.heap.size + 1, 1, none⟩) lt1).trans (ZF.out 1); have T7' : Aside _ := T7; have n7' : Aside _ := n7; have b7' : Aside _ := b7; clear T7 n7 b7))
                    all_goals (
                      obtain ⟨W8, hW8⟩ : ∃ W8, W8 = (w7.setCell ⟨wr.heap.size + 1, 0, none⟩ (.pointer (some ⟨p7, 0, none⟩))).setCell ⟨wr.heap.size + 1, 1, none⟩ (.pointer (some ⟨q7, 0, none⟩)) := ⟨_, rfl⟩
                      have RB : Aside (Reopened w wr W' w7 W8 (.slice (some ⟨g, 0, none⟩) L.length vc) L (i + 1 + 1048576) p7 q7 NX S7) := reopened PW'.out BE.out.size lt1 hW8 T7'.out n7'.out ⟨b7'.out.os, b7'.out.tape, b7'.out.output, b7'.out.size, b7'.out.block⟩ (Nat.le_trans OL.out lk2.out) (blw_trans BE.out BW'.out) (fun k hk => by
                        rcases hk with e | ⟨i', u, hu, hs⟩
                        · exact (World.ownsRow.lt PP.out.row k e).2
                        · exact (PP.out.tw i' u hu).1.low k hs)
                      have c80 : W8.cell? ⟨wr.heap.size + 1, 0, none⟩ = some (.pointer (some ⟨p7, 0, none⟩)) := by rw [hW8]; exact (cell_ne _ _ (by decide)).trans (cell_eq _ _ r0)
                      have c81 : W8.cell? ⟨wr.heap.size + 1, 1, none⟩ = some (.pointer (some ⟨q7, 0, none⟩)) := by rw [hW8]; exact cell_eq _ _ ((cell_ne _ _ (by decide)).trans r1)
                      rw [← hW8]
                      clear hW8 T7' n7' b7' r0 r1 rf0 rf1
                      go_wp2_with (first | (at_builtin; refine wpList_append_tw _ rfl _ _ rfl (.slice (some ⟨g, 0, none⟩) L.length vc) L rfl (RB.out.prs.below (blw_al (Below.refl _ _) _)).row _ rfl (some ⟨p7, q7, NX, S7⟩) (src_tw _ _ (.pointer (some ⟨p7, 0, none⟩)) (.pointer (some ⟨q7, 0, none⟩)) rfl _ (by simp)) (by omega) ?_; intro v' w9 h1 h2 h3; have P9 : Aside (Pairs w.heap.size (i + 1 + 1048576) w9 v' (L ++ [some ⟨p7, q7, NX, S7⟩])) := RB.out.push h1 h2 h3; have B9 : Aside (Below w.heap.size w w9) := blw_grown (blw_al RB.out.bel _) h2 RB.out.prs.vb; clear h1 h2 h3) | fail)
                      go_roundg (l.length - (i + 1))
                      case measure => omega
                      case rel => exact ⟨i + 1, L ++ [some (TwR.mk p7 q7 NX S7)], by go_num, by omega, Nat.le_refl _, by rw [List.length_append]; simp; omega, P9.out, B9.out⟩)
                · have e5 : (op.kind == 5) = false := beq_eq_false_iff_ne.2 k55
                  go_wp2
                  go_roundg (l.length - (i + 1))
                  case measure => omega
                  case rel => exact ⟨i + 1, L, by go_num, by omega, Nat.le_refl _, by omega, PX.out, blw_trans BE.out BX.out⟩
    · have hltz : ¬ (i : Int) < (l.length : Int) := by omega
      go_wp2
      go_ret
      exact ⟨rfl, BE.out⟩
end Go.Proofs.Ytjfifaooimgbaaa
