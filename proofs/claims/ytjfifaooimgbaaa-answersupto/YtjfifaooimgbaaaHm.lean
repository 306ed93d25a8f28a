import Derived.Test.YtjfifaooimgbaaaHl
/- The law's walk: holds, up to Journal. -/
namespace Go.Proofs.Ytjfifaooimgbaaa
open Go.Shelf Go.RowKit Go.Lib Go.Sort

/-- a script lies at a. -/
def ScrAt (w : World) (a : Option Addr) (l : List OpS) : Prop := ∀ i, i < l.length → ∃ b o, a = some ⟨b, o, none⟩ ∧ b < w.heap.size ∧
  (w.cell? ⟨b, o + i * 7, none⟩ = some (.int .i64 (l.getD i ⟨0, 0, 0, false, [], 0, 0⟩).kind) ∧ w.cell? ⟨b, o + i * 7 + 1, none⟩ = some (.int .i64 (l.getD i ⟨0, 0, 0, false, [], 0, 0⟩).X) ∧
   w.cell? ⟨b, o + i * 7 + 2, none⟩ = some (.int .i64 (l.getD i ⟨0, 0, 0, false, [], 0, 0⟩).now) ∧ w.cell? ⟨b, o + i * 7 + 3, none⟩ = some (.bool (l.getD i ⟨0, 0, 0, false, [], 0, 0⟩).raw) ∧
   w.cell? ⟨b, o + i * 7 + 4, none⟩ = some (.string ⟨(l.getD i ⟨0, 0, 0, false, [], 0, 0⟩).s.toArray⟩) ∧ w.cell? ⟨b, o + i * 7 + 5, none⟩ = some (.int .i64 (l.getD i ⟨0, 0, 0, false, [], 0, 0⟩).per) ∧
   w.cell? ⟨b, o + i * 7 + 6, none⟩ = some (.int .i64 (l.getD i ⟨0, 0, 0, false, [], 0, 0⟩).cap))

theorem blw_grown {w b c : World} {row : Option Nat} (h : Below w.heap.size w b) (g : b.grownBy c row) (hr : ∀ k, row = some k → w.heap.size ≤ k) : Below w.heap.size w c :=
  ⟨g.os.trans h.os, g.tape.trans h.tape, g.output.trans h.output, Nat.le_trans h.size g.size, fun k hk => (g.block k (Nat.lt_of_lt_of_le hk h.size) (fun e => by have := hr k e.symm; omega)).trans (h.block k hk)⟩

theorem Pairs.same {B n : Nat} {w V : World} {v : Value} {L : List (Option TwR)} (h : Pairs B n w v L) (hV : V.heap = w.heap) : Pairs B n V v L :=
  ⟨rowT_kept h.row (fun k _ => by rw [hV]), h.vb, fun i t e => let ⟨a, c, d⟩ := h.tw i t e; ⟨a.keep (fun k _ => by rw [hV]), c, d⟩, h.apart⟩
theorem blw_onl {w b c : World} {S : Nat → Prop} (h : Below w.heap.size w b) (o : Onl S b c) (hS : ∀ k, S k → w.heap.size ≤ k) : Below w.heap.size w c :=
  ⟨o.os.trans h.os, o.tape.trans h.tape, o.output.trans h.output, Nat.le_trans h.size o.size, fun k hk => (o.block k (Nat.lt_of_lt_of_le hk h.size) (fun q => by have := hS k q; omega)).trans (h.block k hk)⟩
/-- one of the pairs is asked. -/
theorem does_pair {w wr : World} {v : Value} {L : List (Option TwR)} {i c : Nat} (P : Pairs w.heap.size i wr v L) (BE : Below w.heap.size w wr) (op : OpS) (hf : op.fine) (hk : op.kind = 3 ∨ op.kind = 4) (hc : c < L.length) (hi : i ≤ 1048576) :
    ∀ V : World, (V.heap = (wr.alloc (.cells op.cells 76)).heap ∧ V.os = (wr.alloc (.cells op.cells 76)).os ∧ V.tape = (wr.alloc (.cells op.cells 76)).tape ∧ V.output = (wr.alloc (.cells op.cells 76)).output) →
      Calls Try.prog 36 #[.agg (tv (L.getD c none)).toArray, .agg op.cells] V fun e w' => e = .returned (.bool true) ∧ ∃ L' : List (Option TwR), L'.length = L.length ∧ Pairs w.heap.size (i + 1) w' v L' ∧ Below w.heap.size w w' := fun V hV => by
  have PV : Pairs w.heap.size i V v L := (P.below (blw_al (Below.refl _ wr) (.cells op.cells 76))).same hV.1
  have BV0 := blw_al BE (.cells op.cells 76)
  have BV : Below w.heap.size w V := ⟨hV.2.1.trans BV0.os, hV.2.2.1.trans BV0.tape, hV.2.2.2.trans BV0.output, by rw [hV.1]; exact BV0.size, fun k hk => by rw [hV.1]; exact BV0.block k hk⟩
  have hg : L[c]? = some (L.getD c none) := by rw [List.getD_eq_getElem?_getD, List.getElem?_eq_getElem hc]; rfl
  cases hx : L.getD c none with
  | none =>
    refine Calls.mono (does_nil V op hk) ?_
    rintro e w' ⟨rfl, hb⟩
    exact ⟨rfl, L, rfl, (PV.below hb).more (by omega), blw_trans BV hb⟩
  | some t =>
    rw [hx] at hg
    obtain ⟨t1, t2, t3, t4⟩ := PV.tw c t hg
    have hj : t.x.jr.length ≤ 1099511627776 := by omega
    have key : Calls Try.prog 36 #[.agg #[.pointer (some ⟨t.p, 0, none⟩), .pointer (some ⟨t.q, 0, none⟩)], .agg op.cells] V fun e w' => e = .returned (.bool true) ∧ TwSt V t.S t.p t.q t.x w' := by
      rcases hk with h | h
      · cases hr : op.raw with
        | true => exact does_do1 V t.S t.p t.q t.x t1 op h hf hr hj
        | false => exact does_do2 V t.S t.p t.q t.x t1 op h hf hr hj
      · exact does_journal V t.S t.p t.q t.x t1 op h
    refine Calls.mono key ?_
    rintro e w' ⟨rfl, T⟩
    obtain ⟨u, _, _, P'⟩ := PV.step hg BV.size T
    obtain ⟨S', x', g1, g2, g3, g4⟩ := T
    exact ⟨rfl, _, List.length_set, P', blw_onl BV g4 t3⟩

set_option maxHeartbeats 8000000 in
set_option maxRecDepth 100000 in
theorem holds_any (l : List OpS) (a : Option Addr) (cap : Nat) (w : World) (hS : ScrAt w a l) (hf : ∀ i, i < l.length → (l.getD i ⟨0, 0, 0, false, [], 0, 0⟩).fine) (hl : l.length ≤ 1048576) :
    Calls Try.prog 25 #[.slice a l.length cap, .int .i64 4] w fun e w' => e = .returned (.bool true) ∧ Below w.heap.size w w' := by
  have mixed : Try.prog.follows .mixedOrders = true := by kernel_rfl
  have HS : Aside (ScrAt w a l) := hS
  have HF : Aside (∀ i, i < l.length → (l.getD i ⟨0, 0, 0, false, [], 0, 0⟩).fine) := hf
  clear hS hf
  go_enter Try.func25, Try.ntmps25
  go_wp2_with fail
  refine (begunL_any w).mono ?_
  rintro e w1 ⟨rfl, hb1⟩
  have B1 : Aside (Below w.heap.size w w1) := hb1
  clear hb1
  go_wp2_with fail
  go_loopg [6, 7] l.length (fun kx s t wq => ∃ (i : Nat) (L : List (Option TwR)), t = .int .i64 i ∧ i ≤ l.length ∧ l.length - i ≤ kx ∧ L.length ≤ i ∧ Aside (Pairs w.heap.size i wq s L) ∧ Aside (Below w.heap.size w wq))
  case atStart => exact ⟨0, [], rfl, Nat.zero_le _, by omega, Nat.le_refl _, Pairs.nil _ _ _, B1.out⟩
  case round =>
    obtain ⟨i, L, rfl, hi, hkx, hL, PP, BE⟩ := hrel
    by_cases hlt : i < l.length
    · have hltz : (i : Int) < (l.length : Int) := by omega
      obtain ⟨b, o, rfl, s0, s1, s2, s3, s4, s5, s6, s7⟩ := HS.out i hlt
      have fi := HF.out i hlt
      have kb := BE.out.block b s0
      generalize l.getD i ⟨0, 0, 0, false, [], 0, 0⟩ = op at *
      have t1 : wr.cell? ⟨b, o + i * 7, none⟩ = some (.int .i64 op.kind) := (World.cell?_of_block (a := ⟨b, o + i * 7, none⟩) kb).trans s1
      have t2 : wr.cell? ⟨b, o + i * 7 + 1, none⟩ = some (.int .i64 op.X) := (World.cell?_of_block (a := ⟨b, o + i * 7 + 1, none⟩) kb).trans s2
      have t3 : wr.cell? ⟨b, o + i * 7 + 2, none⟩ = some (.int .i64 op.now) := (World.cell?_of_block (a := ⟨b, o + i * 7 + 2, none⟩) kb).trans s3
      have t4 : wr.cell? ⟨b, o + i * 7 + 3, none⟩ = some (.bool op.raw) := (World.cell?_of_block (a := ⟨b, o + i * 7 + 3, none⟩) kb).trans s4
      have t5 : wr.cell? ⟨b, o + i * 7 + 4, none⟩ = some (.string ⟨op.s.toArray⟩) := (World.cell?_of_block (a := ⟨b, o + i * 7 + 4, none⟩) kb).trans s5
      have t6 : wr.cell? ⟨b, o + i * 7 + 5, none⟩ = some (.int .i64 op.per) := (World.cell?_of_block (a := ⟨b, o + i * 7 + 5, none⟩) kb).trans s6
      have t7 : wr.cell? ⟨b, o + i * 7 + 6, none⟩ = some (.int .i64 op.cap) := (World.cell?_of_block (a := ⟨b, o + i * 7 + 6, none⟩) kb).trans s7
      clear s1 s2 s3 s4 s5 s6 s7 kb
      obtain ⟨va, vc, hv, hvc⟩ : ∃ va vc, u6 = .slice va L.length vc ∧ L.length ≤ vc := by
        rcases PP.out.row.2 with ⟨h1, h2⟩ | ⟨g, c, cur, h1, _, _, h2, _⟩
        · exact ⟨none, 0, by rw [h1, h2], by omega⟩
        · exact ⟨_, c, h1, h2⟩
      subst hv
      have BX : Aside (Below wr.heap.size wr (wr.alloc (.cells op.cells 76))) := blw_al (Below.refl _ wr) _
      have PX : Aside (Pairs w.heap.size (i + 1) (wr.alloc (.cells op.cells 76)) (.slice va L.length vc) L) := (PP.out.below BX.out).more (by omega)
      unfold OpS.cells at BX PX
      by_cases k5 : 4 < op.kind
      · go_wp2
        go_roundg (l.length - (i + 1))
        case measure => omega
        case rel => exact ⟨i + 1, L, by go_num, by omega, Nat.le_refl _, by omega, PX.out, blw_trans BE.out BX.out⟩
      · by_cases k1 : op.kind = 1
        · rw [k1] at BX PX
          by_cases bad : BadC op.per op.cap
          · go_wp2_with fail
            refine (opened_bad _ op.per op.cap bad).mono ?_
            rintro e w2 ⟨rfl, hb2⟩
            have P2 : Aside (Pairs w.heap.size (i + 1) w2 (.slice va L.length vc) L) := PX.out.below hb2
            have B2 : Aside (Below w.heap.size w w2) := blw_trans (blw_trans BE.out BX.out) hb2
            clear hb2
            go_wp2_with (first | (at_builtin; refine wpList_append_tw _ rfl _ _ rfl (.slice va L.length vc) L rfl (P2.out.below (blw_al (blw_al (Below.refl _ _) _) _)).row _ rfl none (src_tw _ none (.pointer none) (.pointer none) rfl _ (by simp)) (by omega) ?_; intro v' w3 g1 g2 g3; have P3 : Aside (Pairs w.heap.size (i + 1) w3 v' (L ++ [none])) := Pairs.push (P2.out.below (blw_al (blw_al (Below.refl _ _) _) _)) none (Nat.le_trans B2.out.size (by simp; omega)) g1 g2 g3 (fun t h => by cases h); have B3 : Aside (Below w.heap.size w w3) := blw_grown (blw_al (blw_al B2.out _) _) g2 P2.out.vb; clear g1 g2 g3) | fail)
            go_roundg (l.length - (i + 1))
            case measure => omega
            case rel => exact ⟨i + 1, L ++ [none], by go_num, by omega, Nat.le_refl _, by rw [List.length_append]; simp; omega, P3.out, B3.out⟩
          · have h1 : 1 ≤ op.per ∧ op.per ≤ 1125899906842624 ∧ 1 ≤ op.cap ∧ op.cap ≤ 20 := by unfold BadC at bad; omega
            go_wp2_with fail
            refine (opened_ok _ op.per op.cap h1.1 h1.2.1 h1.2.2.1 h1.2.2.2).mono ?_
            rintro e w2 ⟨S, p, q, rfl, hT, hSn, hb2⟩
            have P2 : Aside (Pairs w.heap.size (i + 1) w2 (.slice va L.length vc) L) := PX.out.below hb2
            have B2 : Aside (Below w.heap.size w w2) := blw_trans (blw_trans BE.out BX.out) hb2
            have TT : Aside (Twin w2 S p q (Ex.openX op.per op.cap)) := hT
            have SN : Aside (∀ k, S k → wr.heap.size < k + 1) := fun k hk => by have := hSn k hk; simp at this; omega
            clear hb2 hT hSn
            go_wp2_with (first | (at_builtin; refine wpList_append_tw _ rfl _ _ rfl (.slice va L.length vc) L rfl (P2.out.below (blw_al (blw_al (Below.refl _ _) _) _)).row _ rfl (some ⟨p, q, Ex.openX op.per op.cap, S⟩) (src_tw _ _ (.pointer (some ⟨p, 0, none⟩)) (.pointer (some ⟨q, 0, none⟩)) rfl _ (by simp)) (by omega) ?_; intro v' w3 g1 g2 g3; have P3 : Aside (Pairs w.heap.size (i + 1) w3 v' (L ++ [some ⟨p, q, Ex.openX op.per op.cap, S⟩])) := Pairs.push (P2.out.below (blw_al (blw_al (Below.refl _ _) _) _)) _ (Nat.le_trans B2.out.size (by simp; omega)) g1 g2 g3 (fun t h => by injection h with h; subst h; exact ⟨TT.out.keep (fun k hk => (blw_al (blw_al (Below.refl _ w2) _) _).block k (TT.out.low k hk)), Nat.zero_le _, fun k hk => by have h1 := SN.out k hk; have h2 := BE.out.size; omega, fun k hk hs => by have h1 := SN.out k hs; have h2 := (World.ownsRow.lt PP.out.row k hk).2; omega, fun i' u hu k hk hs => by have h1 := SN.out k hk; have h2 := (PP.out.tw i' u hu).1.low k hs; omega⟩); have B3 : Aside (Below w.heap.size w w3) := blw_grown (blw_al (blw_al B2.out _) _) g2 P2.out.vb; clear g1 g2 g3) | fail)
            go_roundg (l.length - (i + 1))
            case measure => omega
            case rel => exact ⟨i + 1, L ++ [some (TwR.mk p q (Ex.openX op.per op.cap) S)], by go_num, by omega, Nat.le_refl _, by rw [List.length_append]; simp; omega, P3.out, B3.out⟩
        · by_cases k2 : op.kind = 2
          · rw [k2] at BX PX
            go_wp2_with (first | (at_builtin; refine wpList_append_tw _ rfl _ _ rfl (.slice va L.length vc) L rfl (PX.out.below (blw_al (Below.refl _ _) _)).row _ rfl none (src_tw _ none (.pointer none) (.pointer none) rfl _ (by simp)) (by omega) ?_; intro v' w3 g1 g2 g3; have P3 : Aside (Pairs w.heap.size (i + 1) w3 v' (L ++ [none])) := Pairs.push (PX.out.below (blw_al (Below.refl _ _) _)) none (Nat.le_trans BE.out.size (by simp; omega)) g1 g2 g3 (fun t h => by cases h); have B3 : Aside (Below w.heap.size w w3) := blw_grown (blw_al (blw_trans BE.out BX.out) _) g2 PX.out.vb; clear g1 g2 g3) | fail)
            go_roundg (l.length - (i + 1))
            case measure => omega
            case rel => exact ⟨i + 1, L ++ [none], by go_num, by omega, Nat.le_refl _, by rw [List.length_append]; simp; omega, P3.out, B3.out⟩
          · have e1 : (op.kind == 1) = false := beq_eq_false_iff_ne.2 k1
            have e2 : (op.kind == 2) = false := beq_eq_false_iff_ne.2 k2
            by_cases k0 : L.length = 0
            · obtain rfl : L = [] := List.eq_nil_of_length_eq_zero k0
              clear k0
              go_wp2
              go_roundg (l.length - (i + 1))
              case measure => omega
              case rel => exact ⟨i + 1, [], by go_num, by omega, Nat.le_refl _, Nat.zero_le _, PX.out, blw_trans BE.out BX.out⟩
            · have e0 : ((L.length : Int) == 0) = false := beq_eq_false_iff_ne.2 (by omega)
              by_cases k34 : op.kind = 3 ∨ op.kind = 4
              · have hpk : pickN op.X L.length < L.length := pickN_lt _ _ (by omega)
                have HP : Aside (∀ V : World, Calls Try.prog 16 #[.int .i64 op.X, .int .i64 (L.length : Nat)] V fun e w' => e = .returned (.int .i64 (pickN op.X L.length : Nat)) ∧ w' = V) := fun V => pickL_any op.X L.length V (by omega) (by omega) fi.2.1 fi.2.2
                obtain ⟨c, hc⟩ : ∃ c, pickN op.X L.length = c := ⟨_, rfl⟩
                rw [hc] at hpk HP
                obtain ⟨g, hg⟩ : ∃ g, va = some ⟨g, 0, none⟩ := by
                  rcases PP.out.row.2 with ⟨h1, h2⟩ | ⟨g, c', cur, h1, _, _, h2, _⟩
                  · exact absurd h2 k0
                  · injection h1 with h1 _ _
                    exact ⟨g, h1⟩
                subst hg
                have ct : ∀ j v, j < 2 → (tv (L.getD c none))[j]? = some v → wr.cell? ⟨g, c * 2 + j, none⟩ = some v := fun j v hj2 hj => by
                  have := World.ownsRow.cells PP.out.row (g := g) rfl (c * 2 + j) v ((flatT_at L c hpk j hj2).trans hj)
                  rw [Addr.add_lit, Nat.zero_add] at this
                  exact this
                have gl : g < wr.heap.size := (World.ownsRow.lt PP.out.row g rfl).2
                have hpz : (c : Int) < (L.length : Int) := by omega
                have DD : Aside _ := does_pair (i := i) (c := c) PP.out BE.out op fi k34 hpk (by omega)
                unfold OpS.cells at DD
                cases hx : L.getD c none with
                | none =>
                  rw [hx] at ct DD
                  have m0 : wr.cell? ⟨g, c * 2, none⟩ = some (.pointer none) := ct 0 _ (by decide) rfl
                  have m1 : wr.cell? ⟨g, c * 2 + 1, none⟩ = some (.pointer none) := ct 1 _ (by decide) rfl
                  clear ct hx hc
                  rcases k34 with k3 | k4
                  · have e3 : (op.kind == 3) = true := by rw [k3]; rfl
                    clear k3
                    go_wp2_with fail
                    go_region_with (first | (go_at_call 16; refine Calls.mono (f := 16) (HP.out _) ?_; rintro e w4 ⟨rfl, rfl⟩) | (go_at_call 36; refine Calls.mono (f := 36) (DD.out _ (by exact ⟨rfl, rfl, rfl, rfl⟩)) ?_; rintro e w5 ⟨rfl, L', hL', hP', hB'⟩; have P5 : Aside _ := hP'; have B5 : Aside _ := hB'; clear hP' hB'))
                    all_goals go_wp2
                    all_goals
                      go_roundg (l.length - (i + 1))
                      case measure => omega
                      case rel => exact ⟨i + 1, L', by go_num, by omega, Nat.le_refl _, by omega, P5.out, B5.out⟩
                  · have e3 : (op.kind == 3) = false := by rw [k4]; rfl
                    have e4 : (op.kind == 4) = true := by rw [k4]; rfl
                    clear k4
                    go_wp2_with fail
                    go_region_with (first | (go_at_call 16; refine Calls.mono (f := 16) (HP.out _) ?_; rintro e w4 ⟨rfl, rfl⟩) | (go_at_call 36; refine Calls.mono (f := 36) (DD.out _ (by exact ⟨rfl, rfl, rfl, rfl⟩)) ?_; rintro e w5 ⟨rfl, L', hL', hP', hB'⟩; have P5 : Aside _ := hP'; have B5 : Aside _ := hB'; clear hP' hB'))
                    all_goals go_wp2
                    all_goals
                      go_roundg (l.length - (i + 1))
                      case measure => omega
                      case rel => exact ⟨i + 1, L', by go_num, by omega, Nat.le_refl _, by omega, P5.out, B5.out⟩
                | some t =>
                  rw [hx] at ct DD
                  have m0 : wr.cell? ⟨g, c * 2, none⟩ = some (.pointer (some ⟨t.p, 0, none⟩)) := ct 0 _ (by decide) rfl
                  have m1 : wr.cell? ⟨g, c * 2 + 1, none⟩ = some (.pointer (some ⟨t.q, 0, none⟩)) := ct 1 _ (by decide) rfl
                  clear ct hx hc
                  rcases k34 with k3 | k4
                  · have e3 : (op.kind == 3) = true := by rw [k3]; rfl
                    clear k3
                    go_wp2_with fail
                    go_region_with (first | (go_at_call 16; refine Calls.mono (f := 16) (HP.out _) ?_; rintro e w4 ⟨rfl, rfl⟩) | (go_at_call 36; refine Calls.mono (f := 36) (DD.out _ (by exact ⟨rfl, rfl, rfl, rfl⟩)) ?_; rintro e w5 ⟨rfl, L', hL', hP', hB'⟩; have P5 : Aside _ := hP'; have B5 : Aside _ := hB'; clear hP' hB'))
                    all_goals go_wp2
                    all_goals
                      go_roundg (l.length - (i + 1))
                      case measure => omega
                      case rel => exact ⟨i + 1, L', by go_num, by omega, Nat.le_refl _, by omega, P5.out, B5.out⟩
                  · have e3 : (op.kind == 3) = false := by rw [k4]; rfl
                    have e4 : (op.kind == 4) = true := by rw [k4]; rfl
                    clear k4
                    go_wp2_with fail
                    go_region_with (first | (go_at_call 16; refine Calls.mono (f := 16) (HP.out _) ?_; rintro e w4 ⟨rfl, rfl⟩) | (go_at_call 36; refine Calls.mono (f := 36) (DD.out _ (by exact ⟨rfl, rfl, rfl, rfl⟩)) ?_; rintro e w5 ⟨rfl, L', hL', hP', hB'⟩; have P5 : Aside _ := hP'; have B5 : Aside _ := hB'; clear hP' hB'))
                    all_goals go_wp2
                    all_goals
                      go_roundg (l.length - (i + 1))
                      case measure => omega
                      case rel => exact ⟨i + 1, L', by go_num, by omega, Nat.le_refl _, by omega, P5.out, B5.out⟩
              · have e3 : (op.kind == 3) = false := beq_eq_false_iff_ne.2 (fun e => k34 (Or.inl e))
                have e4 : (op.kind == 4) = false := beq_eq_false_iff_ne.2 (fun e => k34 (Or.inr e))
                have e5 : (op.kind == 5) = false := beq_eq_false_iff_ne.2 (fun e => k5 (by omega))
                go_wp2
                go_roundg (l.length - (i + 1))
                case measure => omega
                case rel => exact ⟨i + 1, L, by go_num, by omega, Nat.le_refl _, by omega, PX.out, blw_trans BE.out BX.out⟩
    · have hltz : ¬ (i : Int) < (l.length : Int) := by omega
      go_wp2
      go_ret
      exact ⟨rfl, BE.out⟩
end Go.Proofs.Ytjfifaooimgbaaa
