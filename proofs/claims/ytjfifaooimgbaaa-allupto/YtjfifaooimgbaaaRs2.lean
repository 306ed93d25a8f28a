import Derived.Test.YtjfifaooimgbaaaDz
import Derived.Test.YtjfifaooimgbaaaOj
/- The document's exchange: Open of any journal. -/
namespace Go.Proofs.Ytjfifaooimgbaaa
open Go.Shelf Go.RowKit Go.Lib Go.Sort

theorem cap_time (l : List UInt8) (h : l.length = 8) : ((numOf l : Int) ≤ 1125899906842624 → numCap l = numOf l) ∧ (1125899906842624 < (numOf l : Int) → 1125899906842624 < (numCap l : Int)) ∧ numCap l ≤ 4611686018427387904 := by
  have h7 := num_next l 7 (by omega)
  rw [show l.take (7 + 1) = l by rw [List.take_of_length_le (by omega)]] at h7
  unfold numCap
  rw [h, show 8 - 1 = 7 from rfl]
  have hb := (l[7]'(by omega)).toNat_lt
  by_cases hc : 18014398509481984 ≤ numOf (l.take 7)
  · rw [if_pos hc]
    exact ⟨fun q => by omega, fun _ => by omega, by omega⟩
  · rw [if_neg hc]
    exact ⟨fun _ => rfl, fun q => q, by omega⟩

/-- the reading under way. -/
structure RdR (w : World) (x0 : Ex.Xch) (j : List UInt8) (x : Ex.Xch) (t : List UInt8) (p : Nat) (ov fv : Value) (wq : World) : Prop where
  ref : RefAt wq p x ov fv
  row : LRow wq ov x.ords
  last : x.last = 0 → x.lastL = []
  low : w.heap.size ≤ p
  own : ∀ k, ov.ownBlock = some k → w.heap.size ≤ k
  ok : Ex.Ok x
  num : x.batch ≤ x.jr.length + 1
  same : Ex.openJ x t = Ex.openJ x0 j
  split : x.jr ++ t = j
  bel : Below w.heap.size w wq
theorem RdR.out {w : World} {x0 : Ex.Xch} {j : List UInt8} {x : Ex.Xch} {t : List UInt8} {p : Nat} {ov fv : Value} {wq w' : World} (R : RdR w x0 j x t p ov fv wq) (b : Below wq.heap.size wq w') (h : Ex.readJ x t = none) : ∃ S p', (Value.pointer (some ⟨p, 0, none⟩) = Value.pointer (some ⟨p', 0, none⟩)) ∧ RepR w' S p' (Ex.openJ x0 j) ∧ (∀ k, S k → w.heap.size ≤ k) ∧ Below w.heap.size w w' := by
  refine ⟨fun k => k = p ∨ ov.ownBlock = some k, p, rfl, ?_, ?_, blw_tr R.bel b⟩
  · rw [← R.same, Ex.openJ_none h]
    exact ⟨ov, fv, R.ref.kept (b.block p R.ref.lt), R.row.kept (fun k hk => b.block k (R.row.lt hk)), R.last, rfl⟩
  · rintro k (rfl | hk)
    · exact R.low
    · exact R.own k hk

theorem cell_one {x : Ex.Xch} {ov fv : Value} {a : Option Addr} {n c : Nat} (h : ov = .slice a n c) (i : Nat) : (cellR x ov fv i).oneCell' = true := by
  have hf : (slOf fv).oneCell' = true := by unfold slOf; split <;> rfl
  subst h
  unfold cellR
  split
  · unfold headR
    split <;> rfl
  · split
    · rfl
    · split
      · unfold midR
        split
        all_goals first | rfl | exact hf
      · split <;> rfl
theorem cells_below {w w3 : World} {CS : List Value} (h : w3 = (w.alloc (Obj.cells Try.zeroCells96 96)).setCells w.heap.size 0 CS) : Below w.heap.size w w3 := by
  obtain ⟨h1, h2, h3, h4⟩ := setCells_rest w.heap.size CS 0 (w.alloc (Obj.cells Try.zeroCells96 96))
  rw [h]
  exact ⟨h1, h2, h3, by rw [h4]; simp, fun k hk => (setCells_block _ CS 0 _ k (by omega)).trans (Below.heap_alloc w _ k hk)⟩
theorem cells_size {w w3 : World} {CS : List Value} (h : w3 = (w.alloc (Obj.cells Try.zeroCells96 96)).setCells w.heap.size 0 CS) : w3.heap.size = w.heap.size + 1 := by
  obtain ⟨h1, h2, h3, h4⟩ := setCells_rest w.heap.size CS 0 (w.alloc (Obj.cells Try.zeroCells96 96))
  rw [h, h4]
  simp
theorem copy_ref {w w3 : World} {CS : List Value} {x : Ex.Xch} {ov fv : Value} (h : w3 = (w.alloc (Obj.cells Try.zeroCells96 96)).setCells w.heap.size 0 CS) (hz : FAt (w.alloc (Obj.cells Try.zeroCells96 96)) w.heap.size 135 96 zc) (hl : CS.length = 135) (hc : ∀ i, i < 135 → CS.getD i undef = cellR x ov fv i) : RefAt w3 w.heap.size x ov fv := by
  rw [h]
  refine (FAt.setCells CS 0 _ _ hz).congr (fun i hi => ?_)
  rw [if_pos (by omega), Nat.sub_zero]
  exact hc i hi
theorem src_all {w : World} {a : Option Addr} {n c : Nat} {os : List Ex.Ord} (h : LRow w (.slice a n c) os) : Src Try.prog 3 92 (.slice a n c) os.length (ocs os) w := by
  obtain ⟨a', c', e, h1, _⟩ := h.ords
  injection e with e1 e2 e3
  subst e1 e2 e3
  cases os with
  | nil =>
    cases a with
    | none => exact Src.ofNil _ Try.underlying92 _
    | some b => exact Src.ofSlice _ Try.underlying92 _ 0 _ [] rfl (fun j u hj => by simp at hj) (fun u hu => by simp at hu)
  | cons o r =>
    obtain ⟨g, hg, _⟩ := h1 0 (by simp)
    subst hg
    have := part_nil (c := c) h1 (Nat.le_refl _)
    rwa [List.take_length] at this

theorem lrow_empty (w : World) : LRow (w.alloc (Obj.cells #[] 147)) (.slice (some ⟨w.heap.size, 0, none⟩) 0 0) [] :=
  ⟨rfl, Or.inr ⟨w.heap.size, 0, #[], rfl, Nat.zero_le _, heap_alloc_new w _, Nat.le_refl _, Nat.zero_le _, rfl, rfl⟩⟩
theorem copyF {wr w3 w4 : World} {x : Ex.Xch} {ov fv : Value} (S3 : w3.heap.size = wr.heap.size + 1) (F3 : RefAt w3 wr.heap.size x ov fv) (g2 : (w3.alloc (Obj.cells #[] 147)).grownBy w4 (Value.slice (some ⟨w3.heap.size, 0, none⟩) 0 0).ownBlock) : RefAt w4 wr.heap.size x ov fv :=
  (F3.al _).kept (g2.block _ (by simp; omega) (fun e => by
    have : some wr.heap.size = some w3.heap.size := e
    injection this with this
    omega))
theorem copy87 {wr w3 w4 : World} {x : Ex.Xch} {ov fv : Value} (S3 : w3.heap.size = wr.heap.size + 1) (F3 : RefAt w3 wr.heap.size x ov fv) (g2 : (w3.alloc (Obj.cells #[] 147)).grownBy w4 (Value.slice (some ⟨w3.heap.size, 0, none⟩) 0 0).ownBlock) : w4.cell? ⟨wr.heap.size, 87, none⟩ = some ov := (copyF S3 F3 g2).mid 1 (by decide)
theorem copyfz {wr w3 w4 : World} {x : Ex.Xch} {ov fv : Value} (S3 : w3.heap.size = wr.heap.size + 1) (F3 : RefAt w3 wr.heap.size x ov fv) (g2 : (w3.alloc (Obj.cells #[] 147)).grownBy w4 (Value.slice (some ⟨w3.heap.size, 0, none⟩) 0 0).ownBlock) : w4.frozen? ⟨wr.heap.size, 87, none⟩ = false := FAt.frozen (copyF S3 F3 g2) _
/-- a copy, with orders of its own. -/
theorem copied {wr w3 w4 : World} {x : Ex.Xch} {ov fv v4 : Value} (B3 : Below wr.heap.size wr w3) (S3 : w3.heap.size = wr.heap.size + 1) (F3 : RefAt w3 wr.heap.size x ov fv) (g1 : LRow w4 v4 ([] ++ x.ords)) (g2 : (w3.alloc (Obj.cells #[] 147)).grownBy w4 (Value.slice (some ⟨w3.heap.size, 0, none⟩) 0 0).ownBlock) (g3 : v4.ownBlock = (Value.slice (some ⟨w3.heap.size, 0, none⟩) 0 0).ownBlock ∨ v4.ownBlock = some (w3.alloc (Obj.cells #[] 147)).heap.size) (hl : x.last = 0 → x.lastL = []) :
    RepR (w4.setCell ⟨wr.heap.size, 87, none⟩ v4) (fun k => k = wr.heap.size ∨ v4.ownBlock = some k) wr.heap.size x ∧ Below wr.heap.size wr (w4.setCell ⟨wr.heap.size, 87, none⟩ v4) ∧ ∀ k, v4.ownBlock = some k → wr.heap.size < k := by
  have sz : (w3.alloc (Obj.cells #[] 147)).heap.size = w3.heap.size + 1 := by simp
  have hk : ∀ k, v4.ownBlock = some k → wr.heap.size < k := fun k hk => by
    rcases g3 with e | e
    · rw [e] at hk
      have : some w3.heap.size = some k := hk
      injection this with this
      omega
    · rw [e] at hk
      injection hk with hk
      omega
  have F4 : RefAt w4 wr.heap.size x ov fv := (F3.al _).kept (g2.block _ (by rw [sz]; omega) (fun e => by
    have : some wr.heap.size = some w3.heap.size := e
    injection this with this
    omega))
  have B4 : Below wr.heap.size wr w4 := ⟨g2.os.trans B3.os, g2.tape.trans B3.tape, g2.output.trans B3.output, by have := g2.size; rw [sz] at this; omega, fun k hk => (g2.block k (by rw [sz]; omega) (fun e => by
    have : some k = some w3.heap.size := e
    injection this with this
    omega)).trans ((Below.heap_alloc w3 _ k (by omega)).trans (B3.block k hk))⟩
  have ne : v4.ownBlock ≠ some wr.heap.size := fun e => by have := hk _ e; omega
  refine ⟨⟨v4, fv, F4.setOv v4 x.ords, g1.setp ne _ _, hl, rfl⟩, ⟨B4.os, B4.tape, B4.output, by simp [World.setCell]; exact B4.size, fun k hk => (Below.heap_setCell w4 _ _ k (by show k ≠ wr.heap.size; omega)).trans (B4.block k hk)⟩, hk⟩

set_option maxHeartbeats 8000000 in
set_option maxRecDepth 100000 in
theorem openR_any (w : World) (period cap : Int) (h1 : 1 ≤ period) (h2 : period ≤ 1125899906842624) (h3 : 1 ≤ cap) (h4 : cap ≤ 20) (j : List UInt8) (hj : j.length ≤ 1099511627776) :
    Calls Try.prog 48 #[.agg #[.int .i64 period, .int .i64 cap], .string ⟨j.toArray⟩] w fun e w' => ∃ S p, e = .returned (.tuple #[.pointer (some ⟨p, 0, none⟩), .int .i64 0]) ∧ RepR w' S p (Ex.openJ (Ex.openX period cap) j) ∧ (∀ k, S k → w.heap.size ≤ k) ∧ Below w.heap.size w w' := by
  have mixed : Try.prog.follows .mixedOrders = true := by kernel_rfl
  have z1 : ¬ period < 1 := by omega
  have z2 : ¬ 1125899906842624 < period := by omega
  have z3 : ¬ cap < 1 := by omega
  have z4 : ¬ 20 < cap := by omega
  go_enter Try.func48, Try.ntmps48
  go_wp2_with fail
  obtain ⟨W, hW⟩ : ∃ W, W = (w.alloc (Obj.cells #[Value.int IntKind.i64 period, Value.int IntKind.i64 cap] 68)).alloc (Obj.cells ((((Try.zeroCells96.setIfInBounds 0 (Value.int IntKind.i64 period)).setIfInBounds 1 (Value.int IntKind.i64 cap)).setIfInBounds 4 (Value.int IntKind.i64 1)).setIfInBounds 5 (Value.int IntKind.i64 period)) 96) := ⟨_, rfl⟩
  have FW : Aside (RefAt W (w.heap.size + 1) (Ex.openX period cap) (.slice none 0 0) (.slice none 0 0)) := by
    have hk : kL [] = 0 := by
      have h1 := (kL_le []).1
      have h2 : (buyersOf []).length = 0 := by unfold buyersOf; rw [List.length_mergeSort]; rfl
      omega
    have hs : setL [] = (0, 0, 0) := by
      rcases set_cases [] with ⟨a1, a2, a3, _⟩ | h
      · exact Prod.ext a1 (Prod.ext a2 a3)
      · exfalso
        rcases h with h | h <;> omega
    rw [hW]
    exact ⟨_, by rw [show w.heap.size + 1 = (w.alloc (Obj.cells #[Value.int IntKind.i64 period, Value.int IntKind.i64 cap] 68)).heap.size from (Array.size_push _).symm]; exact Array.getElem?_push_size, by simp, cells0_at period cap hk hs⟩
  have BW : Aside (Below w.heap.size w W) := by rw [hW]; exact blw_al (blw_al (Below.refl _ w) _) _
  rw [← hW]
  clear hW
  have R0 : Aside (RdR w (Ex.openX period cap) j (Ex.openX period cap) j (w.heap.size + 1) (.slice none 0 0) (.slice none 0 0) W) := ⟨FW.out, LRow.nil _, fun _ => rfl, by omega, fun k hk => by simp [Value.ownBlock] at hk, Ex.open_ok ⟨h1, h2⟩ ⟨h3, h4⟩, Int.le_refl _, rfl, rfl, BW.out⟩
  clear FW
  go_loopg [6] j.length (fun kx s wq => ∃ (x : Ex.Xch) (t : List UInt8) (p : Nat) (ov fv : Value), s = .pointer (some ⟨p, 0, none⟩) ∧ t.length ≤ kx ∧ Aside (RdR w (Ex.openX period cap) j x t p ov fv wq))
  case atStart => exact ⟨_, j, _, _, _, rfl, Nat.le_refl _, R0⟩
  case round =>
    obtain ⟨x, t, p, ov, fv, rfl, hkx, RR⟩ := hrel
    have R := RR.out
    have c2 : wr.cell? ⟨p, 2, none⟩ = some (.string ⟨x.jr.toArray⟩) := R.ref.head 2 (by decide)
    have c3 : wr.cell? ⟨p, 3, none⟩ = some (.int .i64 x.time) := R.ref.head 3 (by decide)
    have c5 : wr.cell? ⟨p, 5, none⟩ = some (.int .i64 x.fin) := R.ref.head 5 (by decide)
    have hl : x.jr.length + t.length = j.length := by rw [← R.split, List.length_append]
    have e1 : ({ data := j.toArray } : ByteArray).extract x.jr.length j.length = ⟨t.toArray⟩ := by
      have := ext2 j x.jr.length
      rw [this, ← R.split, List.drop_left]
    have k1 : (x.jr.length : Int) ≤ (j.length : Int) := by omega
    cases t with
    | nil =>
      have NR : Aside (Ex.readJ x [] = none) := Ex.readJ_not (fun h => by have := h.1.1; simp at this)
      go_wp2
      go_ret2
      obtain ⟨S, p', ep, g⟩ := R.out (Below.refl _ wr) NR.out
      injection ep with ep
      injection ep with ep
      injection ep with ep
      subst ep
      exact ⟨S, p, rfl, g⟩
    | cons c l =>
      have hb : c.toNat < 256 := UInt8.toNat_lt c
      have ll : (c :: l).length = l.length + 1 := rfl
      have e0 : ({ data := (c :: l : List UInt8).toArray } : ByteArray)[0]'(by show 0 < (c :: l).toArray.size; simp) = c := rfl
      by_cases s1 : (l.length : Int) + 1 < 10
      · have NR : Aside (Ex.readJ x (c :: l) = none) := Ex.readJ_not (fun h => by have := h.1.1; rw [ll] at this; omega)
        go_wp2
        go_ret2
        obtain ⟨S, p', ep, g⟩ := R.out (Below.refl _ wr) NR.out
        injection ep with ep
        injection ep with ep
        injection ep with ep
        subst ep
        exact ⟨S, p, rfl, g⟩
      · by_cases s2 : (l.length : Int) + 1 < 10 + (c.toNat : Int)
        · have NR : Aside (Ex.readJ x (c :: l) = none) := Ex.readJ_not (fun h => by have h1 : 10 + c.toNat ≤ (c :: l).length := h.1.1; rw [ll] at h1; omega)
          go_wp2
          go_ret2
          obtain ⟨S, p', ep, g⟩ := R.out (Below.refl _ wr) NR.out
          injection ep with ep
          injection ep with ep
          injection ep with ep
          subst ep
          exact ⟨S, p, rfl, g⟩
        · have l8 : (((c :: l).drop 1).take 8).length = 8 := by rw [List.length_take, List.length_drop, ll]; omega
          have x1 : ({ data := (c :: l : List UInt8).toArray } : ByteArray).extract 1 9 = ⟨(((c :: l).drop 1).take 8).toArray⟩ := ext_mid _ _ _
          have x2 : ({ data := (c :: l : List UInt8).toArray } : ByteArray).extract 9 (9 + c.toNat) = ⟨(Ex.rreq (c :: l)).toArray⟩ := by rw [ext_mid]; congr 2; unfold Ex.rreq Ex.rlen; congr 1; show 9 + c.toNat - 9 = c.toNat; omega
          have ct := cap_time _ l8
          have HN : Aside (∀ w, Calls Try.prog 64 #[.string ⟨(((c :: l).drop 1).take 8).toArray⟩] w fun e w' => e = .returned (.int .i64 (numCap (((c :: l).drop 1).take 8) : Nat)) ∧ w' = w) := fun w => numberR_any _ w (by omega)
          have ET : Aside (Ex.rtime (c :: l) = numOf (((c :: l).drop 1).take 8)) := rfl
          generalize ((c :: l).drop 1).take 8 = b8 at *
          obtain ⟨T, hT⟩ : ∃ T, numCap b8 = T := ⟨_, rfl⟩
          rw [hT] at ct HN
          obtain ⟨rq, hrq⟩ : ∃ rq, Ex.rreq (c :: l) = rq := ⟨_, rfl⟩
          rw [hrq] at x2
          have HRQ : Aside _ := hrq
          clear hT hrq
          have k2 : IntKind.i64.wrap (9 + (c.toNat : Int)) = 9 + (c.toNat : Int) := IntWalk.i64_in _ (by omega)
          have k3 : (9 : Int) ≤ 9 + (c.toNat : Int) := by omega
          have k4 : 9 + (c.toNat : Int) ≤ (l.length : Int) + 1 := by omega
          have k5 : (9 + (c.toNat : Int)).toNat = 9 + c.toNat := by omega
          have k6 : 9 + (c.toNat : Int) < (l.length : Int) + 1 := by omega
          go_wp2_with fail
          refine Calls.mono (f := 64) (HN.out _) ?_
          rintro e w1 ⟨rfl, hw1⟩
          rw [hw1]
          clear hw1
          have hbi : 9 + c.toNat < (c :: l).length := by rw [ll]; omega
          have e9 : ({ data := (c :: l : List UInt8).toArray } : ByteArray)[9 + c.toNat]'(by show 9 + c.toNat < (c :: l).toArray.size; simpa using hbi) = (c :: l)[9 + c.toNat] := rfl
          have g9 : (c :: l).getD (9 + c.toNat) 0 = (c :: l)[9 + c.toNat] := by rw [List.getD_eq_getElem?_getD, List.getElem?_eq_getElem hbi]; rfl
          by_cases a1 : (c :: l)[9 + c.toNat] = 165
          · have hA : (((c :: l)[9 + c.toNat].toNat : Int) != 165) = false := by rw [a1]; rfl
            have HW : Aside (Ex.Whole (c :: l)) := ⟨by show 10 + c.toNat ≤ _; omega, by show (c :: l).getD (9 + c.toNat) 0 = 165; rw [g9]; exact a1⟩
            rw [← e9] at hA
            clear a1 e9 g9
            by_cases a2 : (T : Int) < x.time
            · have NR : Aside (Ex.readJ x (c :: l) = none) := Ex.readJ_not (fun h => by
                have q1 := h.2.1.1
                have q2 := h.2.1.2.1
                rw [ET.out] at q1 q2
                have := ct.1 q2
                omega)
              go_wp2
              go_ret2
              obtain ⟨S, p', ep, g⟩ := R.out (Below.refl _ wr) NR.out
              injection ep with ep
              injection ep with ep
              injection ep with ep
              subst ep
              exact ⟨S, p, rfl, g⟩
            · by_cases a3 : 1125899906842624 < (T : Int)
              · have NR : Aside (Ex.readJ x (c :: l) = none) := Ex.readJ_not (fun h => by
                  have q2 := h.2.1.2.1
                  rw [ET.out] at q2
                  have := ct.1 q2
                  omega)
                go_wp2
                go_ret2
                obtain ⟨S, p', ep, g⟩ := R.out (Below.refl _ wr) NR.out
                injection ep with ep
                injection ep with ep
                injection ep with ep
                subst ep
                exact ⟨S, p, rfl, g⟩
              · have et : T = Ex.rtime (c :: l) := by
                  rw [ET.out]
                  by_cases q : 1125899906842624 < (numOf b8 : Int)
                  · have := ct.2.1 q
                    omega
                  · exact ct.1 (by omega)
                have HT : Aside (T = Ex.rtime (c :: l)) := et
                clear et
                by_cases z : c.toNat = 0
                · have hz : ((c.toNat : Int) == 0) = true := beq_iff_eq.2 (by omega)
                  have Z : Aside (c.toNat = 0) := z
                  clear z
                  by_cases f : x.fin ≤ (T : Int)
                  · have hf : decide (x.fin ≤ (T : Int)) = true := decide_eq_true f
                    have HC : Aside (Ex.Comes x (c :: l)) := ⟨by rw [← HT.out]; omega, by rw [← HT.out]; omega, ⟨fun _ => by rw [← HT.out]; exact f, fun _ => Z.out⟩⟩
                    obtain ⟨cs, hcs1, hcs2, hcs3⟩ := R.ref
                    obtain ⟨CS, hCS⟩ : ∃ CS, CS = cs.toList := ⟨_, rfl⟩
                    have l135 : CS.length = 135 := by rw [hCS, Array.length_toList]; exact hcs2
                    have RNG : Aside (wr.rangeAt p 0 CS) := fun i v hv => by
                      rw [Nat.zero_add]
                      rw [hCS, Array.getElem?_toList] at hv
                      simp [World.cell?, hcs1, hv]
                    have HCS : Aside (∀ i, i < 135 → CS.getD i undef = cellR x ov fv i) := fun i hi => by
                      rw [List.getD_eq_getElem?_getD, hCS, Array.getElem?_toList, hcs3 i hi]
                      rfl
                    obtain ⟨oa, ocap, hov, hoc⟩ := row_slice_le R.row
                    have ONE : Aside (∀ v ∈ CS, v.oneCell' = true) := fun v hv => by
                      obtain ⟨i, hi, rfl⟩ := List.getElem_of_mem hv
                      have h1 := HCS.out i (by omega)
                      rw [List.getD_eq_getElem?_getD, List.getElem?_eq_getElem hi] at h1
                      have h2 : CS[i] = cellR x ov fv i := h1
                      rw [h2]
                      exact cell_one hov i
                    have INF : Aside ((Try.prog.info? 96).map (·.size) = some CS.length) := by
                      show _ = _
                      rw [l135]
                      kernel_rfl
                    have Z0 : Aside (FAt (wr.alloc (Obj.cells Try.zeroCells96 96)) wr.heap.size 135 96 zc) := ⟨_, heap_alloc_new wr _, zc_size, zc_at⟩
                    have c87 : wr.cell? ⟨p, 87, none⟩ = some (.slice oa x.ords.length ocap) := by rw [← hov]; exact R.ref.mid 1 (by decide)
                    have hpw : p < wr.heap.size := R.ref.lt
                    have o20 : x.ords.length ≤ 20 := by have := R.ok.len; have := R.ok.cap; omega
                    clear hcs1 hcs2 hcs3 hCS
                    have HL : Aside (LRow wr (.slice oa x.ords.length ocap) x.ords) := by rw [← hov]; exact R.row
                    have HLA : Aside (x.last = 0 → x.lastL = []) := R.last
                    go_wp2_with (first | (refine wpList_load_mid rfl 96 _ rfl p 0 rfl CS _ RNG.out Try.underlying96 rfl INF.out ?_) | (refine wpList_store_row rfl 96 _ _ rfl wr.heap.size 0 CS rfl rfl (FAt.there Z0.out 0 CS.length (by omega)) INF.out ONE.out ?_; intro w3 hw3; have B3 : Aside (Below wr.heap.size wr w3) := cells_below hw3; have F3 : Aside (RefAt w3 wr.heap.size x (.slice oa x.ords.length ocap) fv) := copy_ref hw3 Z0.out l135 (by rw [← hov]; exact HCS.out); have S3 : Aside (w3.heap.size = wr.heap.size + 1) := cells_size hw3; clear hw3; have d87 : (w3.alloc (Obj.cells #[] 147)).cell? ⟨p, 87, none⟩ = some (.slice oa x.ords.length ocap) := ((blw_al B3.out _).cell (p := ⟨p, 87, none⟩) hpw).trans c87; have HL3 : Aside (LRow (w3.alloc (Obj.cells #[] 147)) (.slice oa x.ords.length ocap) x.ords) := HL.out.kept (fun k hk => (blw_al B3.out _).block k (HL.out.lt hk))) | (at_builtin; refine wpList_append_live _ rfl _ _ rfl (.slice (some ⟨w3.heap.size, 0, none⟩) 0 0) [] rfl (lrow_empty _) _ rfl x.ords (src_all HL3.out) (by simp; omega) ?_; intro v4 w4 g1 g2 g3; obtain ⟨a4, c4, hv4, _⟩ := row_slice_le g1; obtain ⟨n4, hn4⟩ : ∃ n, n = ([] ++ x.ords).length := ⟨_, rfl⟩; rw [← hn4] at hv4; clear hn4; subst hv4; have G4 : Aside _ := copied B3.out S3.out F3.out g1 g2 g3 HLA.out; have y87 : w4.cell? ⟨wr.heap.size, 87, none⟩ = some (.slice oa x.ords.length ocap) := copy87 S3.out F3.out g2; have f87 : w4.frozen? ⟨wr.heap.size, 87, none⟩ = false := copyfz S3.out F3.out g2; clear g1 g2 g3) | fail)
                    obtain ⟨W5, hW5⟩ : ∃ W5, W5 = w4.setCell ⟨wr.heap.size, 87, none⟩ (.slice a4 n4 c4) := ⟨_, rfl⟩
                    rw [← hW5]
                    rw [← hW5] at G4
                    clear hW5 y87 f87 d87
                    obtain ⟨D, hDD⟩ : ∃ D, D = Ex.doX x (T : Int) rq := ⟨_, rfl⟩
                    have HD : Aside (Calls Try.prog 49 #[.pointer (some ⟨wr.heap.size, 0, none⟩), .int .i64 (T : Int), .string ⟨rq.toArray⟩] W5 fun e w' => ∃ S', e = .returned (.tuple #[.string ⟨D.2.toArray⟩, .int .i64 0]) ∧ RepR w' S' wr.heap.size D.1 ∧ (∀ k, S' k → (k = wr.heap.size ∨ (Value.slice a4 n4 c4).ownBlock = some k) ∨ W5.heap.size ≤ k) ∧ Onl (fun k => k = wr.heap.size ∨ (Value.slice a4 n4 c4).ownBlock = some k) W5 w') := by
                      rw [hDD]
                      exact repR_do W5 _ wr.heap.size x (T : Int) rq G4.out.1 R.ok ⟨by omega, by omega⟩ (by omega) R.num
                    have EDD : Aside (D = Ex.doX x (T : Int) rq) := hDD
                    clear hDD
                    refine Calls.mono (f := 49) HD.out ?_
                    rintro e w6 ⟨S6, rfl, r6, s6, o6⟩
                    have y2 : w6.cell? ⟨wr.heap.size, 2, none⟩ = some (.string ⟨D.1.jr.toArray⟩) := by
                      obtain ⟨ov6, fv6, q1, _⟩ := r6
                      exact q1.head 2 (by decide)
                    have hy6 : Below wr.heap.size wr w6 := blw_onl' G4.out.2.1 o6 (fun k hk => by
                      rcases hk with e | e
                      · omega
                      · have := G4.out.2.2 k e
                        omega)
                    have p2 : w6.cell? ⟨p, 2, none⟩ = some (.string ⟨x.jr.toArray⟩) := (hy6.cell (p := ⟨p, 2, none⟩) hpw).trans c2
                    have R6 : Aside (RepR w6 S6 wr.heap.size D.1) := r6
                    have N6 : Aside (∀ k, S6 k → wr.heap.size ≤ k) := fun k hk => by
                      rcases s6 k hk with (e | e) | e
                      · omega
                      · have := G4.out.2.2 k e
                        omega
                      · exact Nat.le_trans G4.out.2.1.size e
                    have B6 : Aside (Below wr.heap.size wr w6) := hy6
                    clear r6 s6 o6 hy6 HD G4 c2 c3 c5 c87
                    have k7 : IntKind.i64.wrap (10 + (c.toNat : Int)) = 10 + (c.toNat : Int) := IntWalk.i64_in _ (by omega)
                    have k8 : 0 ≤ 10 + (c.toNat : Int) := by omega
                    have k9 : (10 + (c.toNat : Int)).toNat = 10 + c.toNat := by omega
                    have x3 : ({ data := (c :: l : List UInt8).toArray } : ByteArray).extract 0 (10 + c.toNat) = ⟨((c :: l).take (10 + c.toNat)).toArray⟩ := by rw [ext_mid]; rfl
                    have x4 : ({ data := x.jr.toArray } : ByteArray) ++ ⟨((c :: l).take (10 + c.toNat)).toArray⟩ = ⟨(x.jr ++ (c :: l).take (10 + c.toNat)).toArray⟩ := cat_str _ _
                    obtain ⟨JJ, hJJ⟩ : ∃ JJ, JJ = x.jr ++ (c :: l).take (10 + c.toNat) := ⟨_, rfl⟩
                    rw [← hJJ] at x4
                    have HJJ : Aside _ := hJJ
                    clear hJJ
                    have RD : Aside (D.1.jr = JJ → Ex.readJ x (c :: l) = some D.1) := fun ej => by
                      have := Ex.readJ_of HW.out HC.out (by rw [← HT.out, HRQ.out, ← EDD.out, ej, HJJ.out]; rfl)
                      rw [← HT.out, HRQ.out, ← EDD.out] at this
                      exact this
                    have RN : Aside (¬ D.1.jr = JJ → Ex.readJ x (c :: l) = none) := fun ej => Ex.readJ_not (fun h => ej (by
                      have h3 := h.2.2
                      rw [← HT.out, HRQ.out, ← EDD.out] at h3
                      rw [h3, HJJ.out]
                      rfl))
                    by_cases ej : D.1.jr = JJ
                    · have EJ : Aside (D.1.jr = JJ) := ej
                      go_wp2_with fail
                      go_quiet (fail)
                      go_wp2
                      have RX : Aside (∃ ov' fv', RdR w (Ex.openX period cap) j D.1 ((c :: l).drop (10 + c.toNat)) wr.heap.size ov' fv' (w6.drewN nq)) := by
                        obtain ⟨ov6, fv6, q1, q2, q3, q4⟩ := R6.out
                        have hr := RD.out EJ.out
                        refine ⟨ov6, fv6, q1.kept rfl, q2.kept (fun _ _ => rfl), q3, R.bel.size, fun k hk => Nat.le_trans R.bel.size (N6.out k (by rw [q4]; exact Or.inr hk)), by rw [EDD.out]; exact (Ex.do_ok R.ok _ _).1, by rw [EDD.out]; exact (inv_do ⟨R.num⟩ _ _).num, by rw [← R.same, Ex.openJ_some hr]; rfl, ?_, Below.drewN (blw_tr R.bel B6.out) _⟩
                        rw [EJ.out, HJJ.out, List.append_assoc, List.take_append_drop]
                        exact R.split
                      obtain ⟨ov', fv', RX'⟩ := RX.out
                      go_roundg ((c :: l).drop (10 + c.toNat)).length
                      case measure => rw [List.length_drop]; omega
                      case rel => exact ⟨D.1, _, _, ov', fv', rfl, Nat.le_refl _, RX'⟩
                    · have NR : Aside (Ex.readJ x (c :: l) = none) := RN.out ej
                      have ejb : (D.1.jr == JJ) = false := beq_eq_false_iff_ne.2 ej
                      clear ej
                      go_wp2_with fail
                      go_quiet (fail)
                      go_wp2
                      go_ret2
                      obtain ⟨S, p', ep, g⟩ := R.out (Below.drewN B6.out _) NR.out
                      injection ep with ep
                      injection ep with ep
                      injection ep with ep
                      subst ep
                      exact ⟨S, p, rfl, g⟩

                  · have hf : decide (x.fin ≤ (T : Int)) = false := decide_eq_false f
                    have NR : Aside (Ex.readJ x (c :: l) = none) := Ex.readJ_not (fun h => by
                      have q4 : (c.toNat = 0 ↔ x.fin ≤ (T : Int)) := by rw [HT.out]; exact h.2.1.2.2
                      have := Z.out
                      omega)
                    go_wp2
                    go_ret2
                    obtain ⟨S, p', ep, g⟩ := R.out (Below.refl _ wr) NR.out
                    injection ep with ep
                    injection ep with ep
                    injection ep with ep
                    subst ep
                    exact ⟨S, p, rfl, g⟩
                · have hz : ((c.toNat : Int) == 0) = false := beq_eq_false_iff_ne.2 (by omega)
                  by_cases f : x.fin ≤ (T : Int)
                  · have hf : decide (x.fin ≤ (T : Int)) = true := decide_eq_true f
                    have NR : Aside (Ex.readJ x (c :: l) = none) := Ex.readJ_not (fun h => by
                      have q4 : (c.toNat = 0 ↔ x.fin ≤ (T : Int)) := by rw [HT.out]; exact h.2.1.2.2
                      omega)
                    go_wp2
                    go_ret2
                    obtain ⟨S, p', ep, g⟩ := R.out (Below.refl _ wr) NR.out
                    injection ep with ep
                    injection ep with ep
                    injection ep with ep
                    subst ep
                    exact ⟨S, p, rfl, g⟩
                  · have hf : decide (x.fin ≤ (T : Int)) = false := decide_eq_false f
                    have HC : Aside (Ex.Comes x (c :: l)) := ⟨by rw [← HT.out]; omega, by rw [← HT.out]; omega, ⟨fun q => absurd q z, fun q => absurd (by rw [HT.out]; exact q) f⟩⟩
                    obtain ⟨cs, hcs1, hcs2, hcs3⟩ := R.ref
                    obtain ⟨CS, hCS⟩ : ∃ CS, CS = cs.toList := ⟨_, rfl⟩
                    have l135 : CS.length = 135 := by rw [hCS, Array.length_toList]; exact hcs2
                    have RNG : Aside (wr.rangeAt p 0 CS) := fun i v hv => by
                      rw [Nat.zero_add]
                      rw [hCS, Array.getElem?_toList] at hv
                      simp [World.cell?, hcs1, hv]
                    have HCS : Aside (∀ i, i < 135 → CS.getD i undef = cellR x ov fv i) := fun i hi => by
                      rw [List.getD_eq_getElem?_getD, hCS, Array.getElem?_toList, hcs3 i hi]
                      rfl
                    obtain ⟨oa, ocap, hov, hoc⟩ := row_slice_le R.row
                    have ONE : Aside (∀ v ∈ CS, v.oneCell' = true) := fun v hv => by
                      obtain ⟨i, hi, rfl⟩ := List.getElem_of_mem hv
                      have h1 := HCS.out i (by omega)
                      rw [List.getD_eq_getElem?_getD, List.getElem?_eq_getElem hi] at h1
                      have h2 : CS[i] = cellR x ov fv i := h1
                      rw [h2]
                      exact cell_one hov i
                    have INF : Aside ((Try.prog.info? 96).map (·.size) = some CS.length) := by
                      show _ = _
                      rw [l135]
                      kernel_rfl
                    have Z0 : Aside (FAt (wr.alloc (Obj.cells Try.zeroCells96 96)) wr.heap.size 135 96 zc) := ⟨_, heap_alloc_new wr _, zc_size, zc_at⟩
                    have c87 : wr.cell? ⟨p, 87, none⟩ = some (.slice oa x.ords.length ocap) := by rw [← hov]; exact R.ref.mid 1 (by decide)
                    have hpw : p < wr.heap.size := R.ref.lt
                    have o20 : x.ords.length ≤ 20 := by have := R.ok.len; have := R.ok.cap; omega
                    clear hcs1 hcs2 hcs3 hCS
                    have HL : Aside (LRow wr (.slice oa x.ords.length ocap) x.ords) := by rw [← hov]; exact R.row
                    have HLA : Aside (x.last = 0 → x.lastL = []) := R.last
                    go_wp2_with (first | (refine wpList_load_mid rfl 96 _ rfl p 0 rfl CS _ RNG.out Try.underlying96 rfl INF.out ?_) | (refine wpList_store_row rfl 96 _ _ rfl wr.heap.size 0 CS rfl rfl (FAt.there Z0.out 0 CS.length (by omega)) INF.out ONE.out ?_; intro w3 hw3; have B3 : Aside (Below wr.heap.size wr w3) := cells_below hw3; have F3 : Aside (RefAt w3 wr.heap.size x (.slice oa x.ords.length ocap) fv) := copy_ref hw3 Z0.out l135 (by rw [← hov]; exact HCS.out); have S3 : Aside (w3.heap.size = wr.heap.size + 1) := cells_size hw3; clear hw3; have d87 : (w3.alloc (Obj.cells #[] 147)).cell? ⟨p, 87, none⟩ = some (.slice oa x.ords.length ocap) := ((blw_al B3.out _).cell (p := ⟨p, 87, none⟩) hpw).trans c87; have HL3 : Aside (LRow (w3.alloc (Obj.cells #[] 147)) (.slice oa x.ords.length ocap) x.ords) := HL.out.kept (fun k hk => (blw_al B3.out _).block k (HL.out.lt hk))) | (at_builtin; refine wpList_append_live _ rfl _ _ rfl (.slice (some ⟨w3.heap.size, 0, none⟩) 0 0) [] rfl (lrow_empty _) _ rfl x.ords (src_all HL3.out) (by simp; omega) ?_; intro v4 w4 g1 g2 g3; obtain ⟨a4, c4, hv4, _⟩ := row_slice_le g1; obtain ⟨n4, hn4⟩ : ∃ n, n = ([] ++ x.ords).length := ⟨_, rfl⟩; rw [← hn4] at hv4; clear hn4; subst hv4; have G4 : Aside _ := copied B3.out S3.out F3.out g1 g2 g3 HLA.out; have y87 : w4.cell? ⟨wr.heap.size, 87, none⟩ = some (.slice oa x.ords.length ocap) := copy87 S3.out F3.out g2; have f87 : w4.frozen? ⟨wr.heap.size, 87, none⟩ = false := copyfz S3.out F3.out g2; clear g1 g2 g3) | fail)
                    obtain ⟨W5, hW5⟩ : ∃ W5, W5 = w4.setCell ⟨wr.heap.size, 87, none⟩ (.slice a4 n4 c4) := ⟨_, rfl⟩
                    rw [← hW5]
                    rw [← hW5] at G4
                    clear hW5 y87 f87 d87
                    obtain ⟨D, hDD⟩ : ∃ D, D = Ex.doX x (T : Int) rq := ⟨_, rfl⟩
                    have HD : Aside (Calls Try.prog 49 #[.pointer (some ⟨wr.heap.size, 0, none⟩), .int .i64 (T : Int), .string ⟨rq.toArray⟩] W5 fun e w' => ∃ S', e = .returned (.tuple #[.string ⟨D.2.toArray⟩, .int .i64 0]) ∧ RepR w' S' wr.heap.size D.1 ∧ (∀ k, S' k → (k = wr.heap.size ∨ (Value.slice a4 n4 c4).ownBlock = some k) ∨ W5.heap.size ≤ k) ∧ Onl (fun k => k = wr.heap.size ∨ (Value.slice a4 n4 c4).ownBlock = some k) W5 w') := by
                      rw [hDD]
                      exact repR_do W5 _ wr.heap.size x (T : Int) rq G4.out.1 R.ok ⟨by omega, by omega⟩ (by omega) R.num
                    have EDD : Aside (D = Ex.doX x (T : Int) rq) := hDD
                    clear hDD
                    refine Calls.mono (f := 49) HD.out ?_
                    rintro e w6 ⟨S6, rfl, r6, s6, o6⟩
                    have y2 : w6.cell? ⟨wr.heap.size, 2, none⟩ = some (.string ⟨D.1.jr.toArray⟩) := by
                      obtain ⟨ov6, fv6, q1, _⟩ := r6
                      exact q1.head 2 (by decide)
                    have hy6 : Below wr.heap.size wr w6 := blw_onl' G4.out.2.1 o6 (fun k hk => by
                      rcases hk with e | e
                      · omega
                      · have := G4.out.2.2 k e
                        omega)
                    have p2 : w6.cell? ⟨p, 2, none⟩ = some (.string ⟨x.jr.toArray⟩) := (hy6.cell (p := ⟨p, 2, none⟩) hpw).trans c2
                    have R6 : Aside (RepR w6 S6 wr.heap.size D.1) := r6
                    have N6 : Aside (∀ k, S6 k → wr.heap.size ≤ k) := fun k hk => by
                      rcases s6 k hk with (e | e) | e
                      · omega
                      · have := G4.out.2.2 k e
                        omega
                      · exact Nat.le_trans G4.out.2.1.size e
                    have B6 : Aside (Below wr.heap.size wr w6) := hy6
                    clear r6 s6 o6 hy6 HD G4 c2 c3 c5 c87
                    have k7 : IntKind.i64.wrap (10 + (c.toNat : Int)) = 10 + (c.toNat : Int) := IntWalk.i64_in _ (by omega)
                    have k8 : 0 ≤ 10 + (c.toNat : Int) := by omega
                    have k9 : (10 + (c.toNat : Int)).toNat = 10 + c.toNat := by omega
                    have x3 : ({ data := (c :: l : List UInt8).toArray } : ByteArray).extract 0 (10 + c.toNat) = ⟨((c :: l).take (10 + c.toNat)).toArray⟩ := by rw [ext_mid]; rfl
                    have x4 : ({ data := x.jr.toArray } : ByteArray) ++ ⟨((c :: l).take (10 + c.toNat)).toArray⟩ = ⟨(x.jr ++ (c :: l).take (10 + c.toNat)).toArray⟩ := cat_str _ _
                    obtain ⟨JJ, hJJ⟩ : ∃ JJ, JJ = x.jr ++ (c :: l).take (10 + c.toNat) := ⟨_, rfl⟩
                    rw [← hJJ] at x4
                    have HJJ : Aside _ := hJJ
                    clear hJJ
                    have RD : Aside (D.1.jr = JJ → Ex.readJ x (c :: l) = some D.1) := fun ej => by
                      have := Ex.readJ_of HW.out HC.out (by rw [← HT.out, HRQ.out, ← EDD.out, ej, HJJ.out]; rfl)
                      rw [← HT.out, HRQ.out, ← EDD.out] at this
                      exact this
                    have RN : Aside (¬ D.1.jr = JJ → Ex.readJ x (c :: l) = none) := fun ej => Ex.readJ_not (fun h => ej (by
                      have h3 := h.2.2
                      rw [← HT.out, HRQ.out, ← EDD.out] at h3
                      rw [h3, HJJ.out]
                      rfl))
                    by_cases ej : D.1.jr = JJ
                    · have EJ : Aside (D.1.jr = JJ) := ej
                      go_wp2_with fail
                      go_quiet (fail)
                      go_wp2
                      have RX : Aside (∃ ov' fv', RdR w (Ex.openX period cap) j D.1 ((c :: l).drop (10 + c.toNat)) wr.heap.size ov' fv' (w6.drewN nq)) := by
                        obtain ⟨ov6, fv6, q1, q2, q3, q4⟩ := R6.out
                        have hr := RD.out EJ.out
                        refine ⟨ov6, fv6, q1.kept rfl, q2.kept (fun _ _ => rfl), q3, R.bel.size, fun k hk => Nat.le_trans R.bel.size (N6.out k (by rw [q4]; exact Or.inr hk)), by rw [EDD.out]; exact (Ex.do_ok R.ok _ _).1, by rw [EDD.out]; exact (inv_do ⟨R.num⟩ _ _).num, by rw [← R.same, Ex.openJ_some hr]; rfl, ?_, Below.drewN (blw_tr R.bel B6.out) _⟩
                        rw [EJ.out, HJJ.out, List.append_assoc, List.take_append_drop]
                        exact R.split
                      obtain ⟨ov', fv', RX'⟩ := RX.out
                      go_roundg ((c :: l).drop (10 + c.toNat)).length
                      case measure => rw [List.length_drop]; omega
                      case rel => exact ⟨D.1, _, _, ov', fv', rfl, Nat.le_refl _, RX'⟩
                    · have NR : Aside (Ex.readJ x (c :: l) = none) := RN.out ej
                      have ejb : (D.1.jr == JJ) = false := beq_eq_false_iff_ne.2 ej
                      clear ej
                      go_wp2_with fail
                      go_quiet (fail)
                      go_wp2
                      go_ret2
                      obtain ⟨S, p', ep, g⟩ := R.out (Below.drewN B6.out _) NR.out
                      injection ep with ep
                      injection ep with ep
                      injection ep with ep
                      subst ep
                      exact ⟨S, p, rfl, g⟩

          · have hA : (((c :: l)[9 + c.toNat].toNat : Int) != 165) = true := bne_iff_ne.2 (fun e => a1 (UInt8.toNat_inj.1 (by show _ = 165; omega)))
            have NR : Aside (Ex.readJ x (c :: l) = none) := Ex.readJ_not (fun h => a1 (by
              have : (c :: l).getD (9 + c.toNat) 0 = 165 := h.1.2
              rw [g9] at this
              exact this))
            rw [← e9] at hA
            clear a1 e9 g9
            go_wp2
            go_ret2
            obtain ⟨S, p', ep, g⟩ := R.out (Below.refl _ wr) NR.out
            injection ep with ep
            injection ep with ep
            injection ep with ep
            subst ep
            exact ⟨S, p, rfl, g⟩
end Go.Proofs.Ytjfifaooimgbaaa
