import Derived.Test.YtjfifaooimgbaaaDz
/- The law's walk: a nil pair; opened. -/
namespace Go.Proofs.Ytjfifaooimgbaaa
open Go.Shelf Go.RowKit Go.Lib Go.Sort

theorem blw_set {w b : World} (h : Below w.heap.size w b) (a : Addr) (v : Value) (ha : w.heap.size ≤ a.block) : Below w.heap.size w (b.setCell a v) :=
  ⟨h.os, h.tape, h.output, Nat.le_trans h.size (by simp [World.setCell]), fun k hk => (Below.heap_setCell b a v k (by omega)).trans (h.block k hk)⟩
theorem blw_trans {a b c : World} (h : Below a.heap.size a b) (g : Below b.heap.size b c) : Below a.heap.size a c :=
  ⟨g.os.trans h.os, g.tape.trans h.tape, g.output.trans h.output, Nat.le_trans h.size g.size, fun k hk => (g.block k (Nat.lt_of_lt_of_le hk h.size)).trans (h.block k hk)⟩

set_option maxHeartbeats 2000000 in
set_option maxRecDepth 100000 in
theorem does_nil (w : World) (o : OpS) (hk : o.kind = 3 ∨ o.kind = 4) :
    Calls Try.prog 36 #[.agg #[.pointer none, .pointer none], .agg o.cells] w fun e w' => e = .returned (.bool true) ∧ Below w.heap.size w w' := by
  have mixed : Try.prog.follows .mixedOrders = true := by kernel_rfl
  unfold OpS.cells
  have BW : Aside (∀ k : Int, Below w.heap.size w ((w.alloc (.cells #[.pointer none, .pointer none] 71)).alloc (.cells #[.int .i64 k, .int .i64 o.X, .int .i64 o.now, .bool o.raw, .string ⟨o.s.toArray⟩, .int .i64 o.per, .int .i64 o.cap] 76))) := fun k => blw_al (blw_al (Below.refl _ w) _) _
  rcases hk with hk | hk
  · rw [hk]
    cases hr : o.raw with
    | true =>
      have BW3 : Aside _ := BW.out 3
      rw [hr] at BW3
      go_enter Try.func36, Try.ntmps36
      go_wp2_with fail
      refine (doX_nil _ o.now o.s).mono ?_
      rintro e w1 ⟨rfl, hw1⟩
      rw [hw1]
      clear hw1
      go_wp2_with fail
      refine (doR_nil _ o.now o.s).mono ?_
      rintro e w1 ⟨rfl, hw1⟩
      rw [hw1]
      clear hw1
      go_wp2
      go_ret
      exact ⟨rfl, BW3.out⟩
    | false =>
      have BW3 : Aside _ := BW.out 3
      rw [hr] at BW3
      go_enter Try.func36, Try.ntmps36
      go_wp2_with fail
      refine (doX_nil _ o.now o.s).mono ?_
      rintro e w1 ⟨rfl, hw1⟩
      rw [hw1]
      clear hw1
      go_wp2_with fail
      refine (doR_nil _ o.now o.s).mono ?_
      rintro e w1 ⟨rfl, hw1⟩
      rw [hw1]
      clear hw1
      go_wp2
      go_ret
      exact ⟨rfl, BW3.out⟩
  · rw [hk]
    have BW4 : Aside _ := BW.out 4
    go_enter Try.func36, Try.ntmps36
    go_wp2_with fail
    refine (journalX_nil _).mono ?_
    rintro e w1 ⟨rfl, hw1⟩
    rw [hw1]
    clear hw1
    go_wp2_with fail
    refine (journalR_nil _).mono ?_
    rintro e w1 ⟨rfl, hw1⟩
    rw [hw1]
    clear hw1
    go_wp2
    go_ret
    exact ⟨rfl, BW4.out⟩

end Go.Proofs.Ytjfifaooimgbaaa
/- The law's walk: begun. -/
namespace Go.Proofs.Ytjfifaooimgbaaa
open Go.Shelf Go.RowKit Go.Lib Go.Sort

theorem blw_only {w b c : World} {S : Nat → Prop} (h : Below w.heap.size w b) (o : Only S b c) (hS : ∀ k, S k → w.heap.size ≤ k) : Below w.heap.size w c :=
  ⟨o.os.trans h.os, o.tape.trans h.tape, o.output.trans h.output, Nat.le_trans h.size o.size, fun k hk => (o.block k (Nat.lt_of_lt_of_le hk h.size) (fun q => by have := hS k q; omega)).trans (h.block k hk)⟩
def rq1 : List UInt8 := [1, 0, 0, 0, 0, 0, 0, 0, 3, 232]
def rq2 : List UInt8 := [5, 0, 0, 0, 9]
def xb1 : Ex.Xch := (Ex.doX (Ex.openX 10 5) 0 rq1).1
def xb2 : Ex.Xch := (Ex.doX xb1 1 rq2).1
set_option maxRecDepth 100000 in
theorem ans1 : (Ex.doX (Ex.openX 10 5) 0 rq1).2 = [0] := by kernel_rfl
set_option maxRecDepth 100000 in
theorem ans2 : (Ex.doX xb1 1 rq2).2 = [0, 1] := by kernel_rfl
set_option maxRecDepth 100000 in
theorem ans3 : (Ex.doX xb2 9 [8]).2 = [0, 0, 0, 0, 1, 0, 0, 0, 0, 0, 0, 0, 10, 1] := by kernel_rfl

set_option maxHeartbeats 2000000 in
set_option maxRecDepth 100000 in
theorem begunL_any (w : World) : Calls Try.prog 34 #[] w fun e w' => e = .returned (.bool true) ∧ Below w.heap.size w w' := by
  have mixed : Try.prog.follows .mixedOrders = true := by kernel_rfl
  have HX : Aside (∀ V : World, Calls Try.prog 39 #[.agg #[.int .i64 10, .int .i64 5], .string ⟨#[]⟩] V fun e w' => ∃ S p, e = .returned (.tuple #[.pointer (some ⟨p, 0, none⟩), .int .i64 0]) ∧ RepX w' S p (Ex.openX 10 5) ∧ (∀ k, S k → V.heap.size ≤ k) ∧ Below V.heap.size V w') := fun V => exch.open_ V 10 5 (by decide) (by decide) (by decide) (by decide)
  have ok0 : Ex.Ok (Ex.openX 10 5) := Ex.open_ok ⟨by decide, by decide⟩ ⟨by decide, by decide⟩
  have ok1 : Ex.Ok xb1 := (Ex.do_ok ok0 0 rq1).1
  have ok2 : Ex.Ok xb2 := (Ex.do_ok ok1 1 rq2).1
  have j0 : (Ex.openX 10 5).jr.length = 0 := rfl
  have j1 : xb1.jr.length ≤ 40 := by have := do_jr2 (x := Ex.openX 10 5) 0 rq1; rw [j0] at this; exact this
  have j2 : xb2.jr.length ≤ 80 := by have := do_jr2 (x := xb1) 1 rq2; exact Nat.le_trans this (by omega)
  have D1 : Aside (∀ (V : World) S p, RepX V S p (Ex.openX 10 5) → Calls Try.prog 46 #[.pointer (some ⟨p, 0, none⟩), .int .i64 0, .string ⟨#[1, 0, 0, 0, 0, 0, 0, 0, 3, 232]⟩] V fun e w' => ∃ S', e = .returned (.tuple #[.string ⟨#[0]⟩, .int .i64 0]) ∧ RepX w' S' p xb1 ∧ (∀ k, S' k → S k ∨ V.heap.size ≤ k) ∧ Only S V w') := fun V S p h => by
    have := rep_do V S p (Ex.openX 10 5) 0 rq1 h ok0 (by decide) (by decide) (by rw [j0]; decide)
    rw [ans1] at this
    exact this
  have D2 : Aside (∀ (V : World) S p, RepX V S p xb1 → Calls Try.prog 46 #[.pointer (some ⟨p, 0, none⟩), .int .i64 1, .string ⟨#[5, 0, 0, 0, 9]⟩] V fun e w' => ∃ S', e = .returned (.tuple #[.string ⟨#[0, 1]⟩, .int .i64 0]) ∧ RepX w' S' p xb2 ∧ (∀ k, S' k → S k ∨ V.heap.size ≤ k) ∧ Only S V w') := fun V S p h => by
    have := rep_do V S p xb1 1 rq2 h ok1 (by decide) (by decide) (by omega)
    rw [ans2] at this
    exact this
  have D3 : Aside (∀ (V : World) S p, RepX V S p xb2 → Calls Try.prog 46 #[.pointer (some ⟨p, 0, none⟩), .int .i64 9, .string ⟨#[8]⟩] V fun e w' => ∃ S', e = .returned (.tuple #[.string ⟨#[0, 0, 0, 0, 1, 0, 0, 0, 0, 0, 0, 0, 10, 1]⟩, .int .i64 0]) ∧ RepX w' S' p (Ex.doX xb2 9 [8]).1 ∧ (∀ k, S' k → S k ∨ V.heap.size ≤ k) ∧ Only S V w') := fun V S p h => by
    have := rep_do V S p xb2 9 [8] h ok2 (by decide) (by decide) (by omega)
    rw [ans3] at this
    exact this
  clear ok0 ok1 ok2 j0 j1 j2
  generalize xb1 = y1 at *
  generalize xb2 = y2 at *
  generalize Ex.openX 10 5 = y0 at *
  go_enter Try.func34, Try.ntmps34
  go_wp2_with fail
  refine Calls.mono (f := 39) (HX.out _) ?_
  rintro e w1 ⟨S1, p, rfl, r1, s1, b1⟩
  have R1 : Aside _ := r1
  have N1 : Aside _ := s1
  have B1 : Aside (Below w.heap.size w w1) := b1
  clear r1 s1 b1
  go_wp2_with fail
  refine Calls.mono (f := 46) (D1.out _ S1 p R1.out) ?_
  rintro e w2 ⟨S2, rfl, r2, s2, o2⟩
  have R2 : Aside _ := r2
  have N2 : Aside (∀ k, S2 k → w.heap.size ≤ k) := fun k hk => by
    rcases s2 k hk with e | e
    · exact N1.out k e
    · exact Nat.le_trans B1.out.size e
  have B2 : Aside (Below w.heap.size w w2) := blw_only B1.out o2 N1.out
  clear r2 s2 o2
  go_wp2_with fail
  refine Calls.mono (f := 46) (D2.out _ S2 p R2.out) ?_
  rintro e w3 ⟨S3, rfl, r3, s3, o3⟩
  have R3 : Aside _ := r3
  have N3 : Aside (∀ k, S3 k → w.heap.size ≤ k) := fun k hk => by
    rcases s3 k hk with e | e
    · exact N2.out k e
    · exact Nat.le_trans B2.out.size e
  have B3 : Aside (Below w.heap.size w w3) := blw_only B2.out o3 N2.out
  clear r3 s3 o3
  go_wp2_with fail
  refine Calls.mono (f := 46) (D3.out _ S3 p R3.out) ?_
  rintro e w4 ⟨S4, rfl, r4, s4, o4⟩
  have B4 : Aside (Below w.heap.size w w4) := blw_only B3.out o4 N3.out
  clear r4 s4 o4
  go_wp2
  go_ret
  exact ⟨rfl, B4.out⟩
end Go.Proofs.Ytjfifaooimgbaaa
/- The law's walk: holds. -/
namespace Go.Proofs.Ytjfifaooimgbaaa
open Go.Shelf Go.RowKit Go.Lib Go.Sort

/-- a pair, in memory. -/
structure TwR where
  p : Nat
  q : Nat
  x : Ex.Xch
  S : Nat → Prop
def tv : Option TwR → List Value
  | none => [.pointer none, .pointer none]
  | some t => [.pointer (some ⟨t.p, 0, none⟩), .pointer (some ⟨t.q, 0, none⟩)]
def flatT (L : List (Option TwR)) : List Value := L.flatMap tv
theorem flatT_append (a b : List (Option TwR)) : flatT (a ++ b) = flatT a ++ flatT b := List.flatMap_append
theorem tv_len (t : Option TwR) : (tv t).length = 2 := by cases t <;> rfl
theorem flatT_at : ∀ (L : List (Option TwR)) (i : Nat), i < L.length → ∀ j, j < 2 → (flatT L)[i * 2 + j]? = (tv (L.getD i none))[j]?
  | [], i, h, _, _ => by simp at h
  | t :: r, 0, _, j, hj => by
    unfold flatT
    rw [List.flatMap_cons, Nat.zero_mul, Nat.zero_add, List.getElem?_append_left (by rw [tv_len]; exact hj)]
    rfl
  | t :: r, i + 1, h, j, hj => by
    have := flatT_at r i (by simpa using h) j hj
    unfold flatT at this ⊢
    rw [List.flatMap_cons, List.getElem?_append_right (by rw [tv_len]; omega), show (i + 1) * 2 + j - (tv t).length = i * 2 + j by rw [tv_len]; omega, this]
    rfl

/-- the pairs that there are, and their row. -/
structure Pairs (B n : Nat) (w : World) (v : Value) (L : List (Option TwR)) : Prop where
  row : w.ownsRow 0 71 2 v L.length (flatT L)
  vb : ∀ k, v.ownBlock = some k → B ≤ k
  tw : ∀ (i : Nat) (t : TwR), L[i]? = some (some t) → Twin w t.S t.p t.q t.x ∧ t.x.jr.length ≤ 40 * n ∧ (∀ k, t.S k → B ≤ k) ∧ (∀ k, v.ownBlock = some k → ¬ t.S k)
  apart : ∀ (i j : Nat) (t u : TwR), i ≠ j → L[i]? = some (some t) → L[j]? = some (some u) → ∀ k, t.S k → ¬ u.S k

theorem Pairs.nil (B n : Nat) (w : World) : Pairs B n w (.slice none 0 0) [] :=
  ⟨World.ownsRow_nil w 0 71 2, fun k hk => by simp [Value.ownBlock] at hk, fun i t h => by simp at h, fun i j t u _ h => by simp at h⟩
theorem Pairs.more {B n m : Nat} {w : World} {v : Value} {L : List (Option TwR)} (h : Pairs B n w v L) (hm : n ≤ m) : Pairs B m w v L :=
  ⟨h.row, h.vb, fun i t e => let ⟨a, b, c⟩ := h.tw i t e; ⟨a, by omega, c⟩, h.apart⟩
theorem Pairs.below {B n : Nat} {w w' : World} {v : Value} {L : List (Option TwR)} (h : Pairs B n w v L) (b : Below w.heap.size w w') : Pairs B n w' v L :=
  ⟨World.ownsRow.kept (row := none) h.row ⟨b.os, b.tape, b.output, b.size, fun k hk _ => b.block k hk⟩ (by cases hv : v.ownBlock with | none => exact Or.inl rfl | some k => exact Or.inr (by simp)), h.vb, fun i t e => let ⟨a, c, d⟩ := h.tw i t e; ⟨a.keep (fun k hk => b.block k (a.low k hk)), c, d⟩, h.apart⟩
theorem rowT_kept {w w' : World} {v : Value} {n : Nat} {xs : List Value} (h : w.ownsRow 0 71 2 v n xs) (hb : ∀ k, v.ownBlock = some k → w'.heap[k]? = w.heap[k]?) : w'.ownsRow 0 71 2 v n xs := by
  obtain ⟨h1, h2⟩ := h
  refine ⟨h1, ?_⟩
  rcases h2 with h2 | ⟨g, cap, cur, rfl, a1, a2, a3⟩
  · exact Or.inl h2
  · exact Or.inr ⟨g, cap, cur, rfl, a1, (hb g rfl).trans a2, a3⟩
theorem flatT_set : ∀ (L : List (Option TwR)) (i : Nat) (t u : TwR), L[i]? = some (some t) → u.p = t.p → u.q = t.q → flatT (L.set i (some u)) = flatT L
  | [], i, t, u, h, _, _ => by simp at h
  | a :: r, 0, t, u, h, h1, h2 => by
    simp at h
    subst h
    have e : tv (some u) = tv (some t) := by
      show [Value.pointer (some ⟨u.p, 0, none⟩), Value.pointer (some ⟨u.q, 0, none⟩)] = [Value.pointer (some ⟨t.p, 0, none⟩), Value.pointer (some ⟨t.q, 0, none⟩)]
      rw [h1, h2]
    unfold flatT
    rw [List.set_cons_zero, List.flatMap_cons, List.flatMap_cons, e]
  | a :: r, i + 1, t, u, h, h1, h2 => by
    have := flatT_set r i t u (by simpa using h) h1 h2
    unfold flatT at this ⊢
    rw [List.set_cons_succ, List.flatMap_cons, List.flatMap_cons, this]
/-- one pair has done something. -/
theorem Pairs.step {B n : Nat} {w w' : World} {v : Value} {L : List (Option TwR)} (h : Pairs B n w v L) {i : Nat} {t : TwR} (hi : L[i]? = some (some t)) (hB : B ≤ w.heap.size) (T : TwSt w t.S t.p t.q t.x w') :
    ∃ u : TwR, u.p = t.p ∧ u.q = t.q ∧ Pairs B (n + 1) w' v (L.set i (some u)) := by
  obtain ⟨S', x', g1, g2, g3, g4⟩ := T
  obtain ⟨t1, t2, t3, t4⟩ := h.tw i t hi
  have hil : i < L.length := (List.getElem?_eq_some_iff.1 hi).1
  have vlt : ∀ k, v.ownBlock = some k → k < w.heap.size := fun k hk => (World.ownsRow.lt h.row k hk).2
  refine ⟨⟨t.p, t.q, x', S'⟩, rfl, rfl, ?_, h.vb, ?_, ?_⟩
  · rw [flatT_set L i t ⟨t.p, t.q, x', S'⟩ hi rfl rfl, List.length_set]
    exact rowT_kept h.row (fun k hk => g4.block k (vlt k hk) (t4 k hk))
  · intro j u hj
    by_cases e : i = j
    · subst e
      rw [List.getElem?_set_self hil] at hj
      injection hj with hj
      injection hj with hj
      subst hj
      refine ⟨g1, by dsimp only; omega, fun k hk => ?_, fun k hk hs => ?_⟩
      · rcases g3 k hk with q | q
        · exact t3 k q
        · exact Nat.le_trans hB q
      · rcases g3 k hs with q | q
        · exact t4 k hk q
        · have := vlt k hk
          omega
    · rw [List.getElem?_set_ne e] at hj
      obtain ⟨u1, u2, u3, u4⟩ := h.tw j u hj
      exact ⟨u1.keep (fun k hk => g4.block k (u1.low k hk) (fun q => h.apart i j t u e hi hj k q hk)), by omega, u3, u4⟩
  · intro a b y z hab ha hb k hy hz
    by_cases ea : i = a
    · subst ea
      rw [List.getElem?_set_self hil] at ha
      injection ha with ha
      injection ha with ha
      subst ha
      rw [List.getElem?_set_ne hab] at hb
      rcases g3 k hy with q | q
      · exact h.apart i b t z hab hi hb k q hz
      · have := (h.tw b z hb).1.low k hz
        omega
    · rw [List.getElem?_set_ne ea] at ha
      by_cases eb : i = b
      · subst eb
        rw [List.getElem?_set_self hil] at hb
        injection hb with hb
        injection hb with hb
        subst hb
        rcases g3 k hz with q | q
        · exact h.apart a i y t hab ha hi k hy q
        · have := (h.tw a y ha).1.low k hy
          omega
      · rw [List.getElem?_set_ne eb] at hb
        exact h.apart a b y z hab ha hb k hy hz
/-- one pair more, or a nil one. -/
theorem Pairs.push {B n : Nat} {w w' : World} {v v' : Value} {L : List (Option TwR)} (h : Pairs B n w v L) (o : Option TwR) (hB : B ≤ w.heap.size)
    (hr : w'.ownsRow 0 71 2 v' (L.length + 1) (flatT L ++ tv o)) (hg : w.grownBy w' v.ownBlock) (hv : v'.ownBlock = v.ownBlock ∨ v'.ownBlock = some w.heap.size)
    (ho : ∀ t, o = some t → Twin w t.S t.p t.q t.x ∧ t.x.jr.length ≤ 40 * n ∧ (∀ k, t.S k → B ≤ k) ∧ (∀ k, v.ownBlock = some k → ¬ t.S k) ∧ (∀ (i : Nat) (u : TwR), L[i]? = some (some u) → ∀ k, t.S k → ¬ u.S k)) :
    Pairs B n w' v' (L ++ [o]) := by
  have nk : ∀ t : TwR, (Twin w t.S t.p t.q t.x) → (∀ k, v.ownBlock = some k → ¬ t.S k) → Twin w' t.S t.p t.q t.x ∧ (∀ k, v'.ownBlock = some k → ¬ t.S k) := fun t ht hn =>
    ⟨ht.keep (fun k hk => hg.block k (ht.low k hk) (fun e => hn k e.symm hk)), fun k hk hs => by
      rcases hv with e | e
      · exact hn k (e ▸ hk) hs
      · rw [e] at hk
        injection hk with hk
        have := ht.low k hs
        omega⟩
  refine ⟨by rw [List.length_append, flatT_append]; simpa [flatT] using hr, fun k hk => ?_, fun i t hi => ?_, fun i j t u hij hi hj k ht hu => ?_⟩
  · rcases hv with e | e
    · exact h.vb k (e ▸ hk)
    · rw [e] at hk
      injection hk with hk
      omega
  · by_cases hl : i < L.length
    · rw [List.getElem?_append_left hl] at hi
      obtain ⟨a, b, c, d⟩ := h.tw i t hi
      obtain ⟨a', d'⟩ := nk t a d
      exact ⟨a', b, c, d'⟩
    · rw [List.getElem?_append_right (by omega)] at hi
      have e0 : i - L.length = 0 := by
        have := (List.getElem?_eq_some_iff.1 hi).1
        simp at this
        omega
      rw [e0] at hi
      simp at hi
      obtain ⟨a, b, c, d, _⟩ := ho t hi
      obtain ⟨a', d'⟩ := nk t a d
      exact ⟨a', b, c, d'⟩
  · have old : ∀ (i : Nat) (t : TwR), (L ++ [o])[i]? = some (some t) → L[i]? = some (some t) ∨ (L.length ≤ i ∧ o = some t) := fun i t hi => by
      by_cases hl : i < L.length
      · rw [List.getElem?_append_left hl] at hi
        exact Or.inl hi
      · rw [List.getElem?_append_right (by omega)] at hi
        have e0 : i - L.length = 0 := by
          have := (List.getElem?_eq_some_iff.1 hi).1
          simp at this
          omega
        rw [e0] at hi
        simp at hi
        exact Or.inr ⟨by omega, hi⟩
    rcases old i t hi with e1 | ⟨g1, e1⟩
    · rcases old j u hj with e2 | ⟨g2, e2⟩
      · exact h.apart i j t u hij e1 e2 k ht hu
      · exact (ho u e2).2.2.2.2 i t e1 k hu ht
    · rcases old j u hj with e2 | ⟨g2, e2⟩
      · exact (ho t e1).2.2.2.2 j u e2 k ht hu
      · exfalso
        have h1 := (List.getElem?_eq_some_iff.1 hi).1
        have h2 := (List.getElem?_eq_some_iff.1 hj).1
        simp at h1 h2
        omega
theorem Try.info71' : (Try.prog.info? 71).map (fun i => (i.zero, i.size, i.bytes)) = some (some (.agg #[.pointer none, .pointer none]), 2, 16) := by kernel_rfl
theorem tv_one (o : Option TwR) : ∀ u ∈ tv o, u.oneCell' = true := fun u hu => by
  cases o with
  | none => simp [tv] at hu; subst hu; rfl
  | some t => simp [tv] at hu; rcases hu with rfl | rfl <;> rfl
theorem wpList_append_tw (w : World) {ops : Array Oper} {rest : List Oper} {o : Oper} {a : Act} {Q : Exit → Act → World → Prop} (hgd : o.guard = none) (s x : Operand)
    (ho : o.op = .call { callee := .builtin .append, args := #[s, x], argTypes := #[88, 88] }) (v : Value) (L : List (Option TwR)) (hs : a.eval s = v) (hown : w.ownsRow 0 71 2 v L.length (flatT L)) (xv : Value) (hx : a.eval x = xv) (t : Option TwR) (hsrc : Src Try.prog 2 88 xv 1 (tv t) w)
    (hb : L.length ≤ 2000000)
    (h : ∀ v' w', w'.ownsRow 0 71 2 v' (L.length + 1) (flatT L ++ tv t) → w.grownBy w' v.ownBlock → (v'.ownBlock = v.ownBlock ∨ v'.ownBlock = some w.heap.size) → wpList Try.prog ops Q rest (a.put o.dst v') w') : wpList Try.prog ops Q (o :: rest) a w := by
  refine wpList_plain hgd fun K hK => ?_
  obtain ⟨i0, hi, hz0, hz1, hz2⟩ := info_parts Try.info71'
  obtain ⟨v', w', hr, h2, h3, h4⟩ := append_own_src (P := Try.prog) w 88 88 o.type 71 i0 (.agg #[.pointer none, .pointer none]) 2 16 Try.underlying88 hi hz0 hz1 hz2 rfl v L.length (flatT L) hown xv 1 (tv t) hsrc (by unfold maxLen; omega) (by omega) (by omega)
  unfold Oper.wp execOp
  simp only [ho, resolve, invoke, builtin, Sem.run_bind, Sem.run_pure, Result.andThen_ok, List.map_toArray, List.map_cons, List.map_nil, hs, hx, hr]
  exact hK _ _ (h v' w' h2 h3 h4)
theorem src_tw (W : World) (t : Option TwR) (x y : Value) (h : tv t = [x, y]) (b : Nat) (hb : b = W.heap.size) : Src Try.prog 2 88 (.slice (some ⟨b, 0, none⟩) 1 1) 1 (tv t) (W.alloc (.cells #[x, y] 71)) := by
  subst hb
  rw [h]
  refine Src.ofSlice _ Try.underlying88 _ 1 1 _ rfl (cell_two_new W x y 71) (fun u hu => ?_)
  rw [← h] at hu
  exact tv_one t u hu
end Go.Proofs.Ytjfifaooimgbaaa
