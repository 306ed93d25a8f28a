import Derived.Test.YtjfifaooimgbaaaBt3
import Derived.Test.YtjfifaooimgbaaaRd
import Derived.StillTailTactics
import Derived.Test.YtjfifaooimgbaaaEx
/- The market in memory. -/
namespace Go.Proofs.Ytjfifaooimgbaaa
open Go.Shelf Go.RowKit Go.Lib Go.Sort

structure MkS where
  per : Int
  cap : Int
  time : Int
  ba : Nat
  num : Int
  fin : Int
  ov : Value
  prs : Nat
  fls : Nat
  pay : Int
  get : Int
  share : Nat
  bp : Nat
  jv : Value
  bd : Nat
def MkS.cells (s : MkS) : Array Value := #[.int .i64 s.per, .int .i64 s.cap, .int .i64 s.time, .map (some s.ba), .int .i64 s.num, .int .i64 s.fin, s.ov, .int .i64 s.prs, .int .i64 s.fls, .int .i64 s.pay, .int .i64 s.get, .int .u64 s.share, .map (some s.bp), s.jv, .map (some s.bd)]
def MkAt (w : World) (m : Nat) (s : MkS) : Prop := w.heap[m]? = some (.cells s.cells 130 (0, 0))
theorem MkAt.lt {w : World} {m : Nat} {s : MkS} (h : MkAt w m s) : m < w.heap.size := (Array.getElem?_eq_some_iff.1 h).1
theorem MkAt.kept {w w' : World} {m : Nat} {s : MkS} (h : MkAt w m s) (e : w'.heap[m]? = w.heap[m]?) : MkAt w' m s := e.trans h
/-- all the market's cells. -/
structure MkC (w : World) (m : Nat) (s : MkS) : Prop where
  c0 : w.cell? ⟨m, 0, none⟩ = some (.int .i64 s.per)
  c1 : w.cell? ⟨m, 1, none⟩ = some (.int .i64 s.cap)
  c2 : w.cell? ⟨m, 2, none⟩ = some (.int .i64 s.time)
  c3 : w.cell? ⟨m, 3, none⟩ = some (.map (some s.ba))
  c4 : w.cell? ⟨m, 4, none⟩ = some (.int .i64 s.num)
  c5 : w.cell? ⟨m, 5, none⟩ = some (.int .i64 s.fin)
  c6 : w.cell? ⟨m, 6, none⟩ = some s.ov
  c7 : w.cell? ⟨m, 7, none⟩ = some (.int .i64 s.prs)
  c8 : w.cell? ⟨m, 8, none⟩ = some (.int .i64 s.fls)
  c9 : w.cell? ⟨m, 9, none⟩ = some (.int .i64 s.pay)
  c10 : w.cell? ⟨m, 10, none⟩ = some (.int .i64 s.get)
  c11 : w.cell? ⟨m, 11, none⟩ = some (.int .u64 s.share)
  c12 : w.cell? ⟨m, 12, none⟩ = some (.map (some s.bp))
  c13 : w.cell? ⟨m, 13, none⟩ = some s.jv
  c14 : w.cell? ⟨m, 14, none⟩ = some (.map (some s.bd))
  fr : ∀ j, w.frozen? ⟨m, j, none⟩ = false
theorem MkAt.all {w : World} {m : Nat} {s : MkS} (h : MkAt w m s) : MkC w m s := by
  unfold MkAt at h
  constructor <;> simp [World.cell?, World.frozen?, h, MkS.cells]
theorem MkAt.setTime {w : World} {m : Nat} {s : MkS} (h : MkAt w m s) (v : Int) : MkAt (w.setCell ⟨m, 2, none⟩ (.int .i64 v)) m { s with time := v } := by
  unfold MkAt at *
  rw [setCell_heap h]; rfl
theorem MkAt.setOv {w : World} {m : Nat} {s : MkS} (h : MkAt w m s) (v : Value) : MkAt (w.setCell ⟨m, 6, none⟩ v) m { s with ov := v } := by
  unfold MkAt at *
  rw [setCell_heap h]; rfl
theorem MkAt.setJv {w : World} {m : Nat} {s : MkS} (h : MkAt w m s) (v : Value) : MkAt (w.setCell ⟨m, 13, none⟩ v) m { s with jv := v } := by
  unfold MkAt at *
  rw [setCell_heap h]; rfl
/-- the blocks of it that are written. -/
def Foot (m : Nat) (s : MkS) (k : Nat) : Prop := k = m ∨ k = s.ba ∨ k = s.bp ∨ s.ov.ownBlock = some k ∨ s.jv.ownBlock = some k

/-- what each has, the exchange the last. -/
def qOf (x : Ex.Xch) (i : Nat) : A4 := if i < 20 then ⟨(x.ps i).cash, (x.ps i).held, (x.ps i).units, (x.ps i).hun⟩ else ⟨x.own, 0, 0, 0⟩
/-- what those who traded paid, or got. -/
def prOf (x : Ex.Xch) (t : Nat) : Option Value := if x.traded t = true then some (.int .i64 (x.paid t)) else none

structure Mkt (w : World) (m : Nat) (s : MkS) (x : Ex.Xch) : Prop where
  at_ : MkAt w m s
  acc : AccF w s.ba (qOf x)
  ord : ORow w s.ov x.ords
  prc : MapF Try.prog 3 w s.bp 20 (prOf x)
  jrn : BRow w s.jv x.jr
  nap : s.ba ≠ s.bp
  per : s.per = x.period
  cap : s.cap = x.cap
  time : s.time = x.time
  num : s.num = x.batch
  fin : s.fin = x.fin
  last : x.last = x.batch - 1
  prs : s.prs = kL x.lastL
  fls : s.fls = (setL x.lastL).1
  pay : s.pay = (setL x.lastL).2.1
  get : s.get = (setL x.lastL).2.2
  share : s.share = shareL x.lastL

theorem row_block {w : World} {e size : Nat} {v : Value} {n : Nat} {xs : List Value} (h : w.ownsRow 0 e size v n xs) {k : Nat} (hk : v.ownBlock = some k) : ∃ cur, w.heap[k]? = some (.cells cur e (0, 0)) := by
  rcases h.2 with ⟨rfl, _⟩ | ⟨g, cap, cur, rfl, _, a2, _⟩
  · simp [Value.ownBlock] at hk
  · simp [Value.ownBlock] at hk
    subst hk
    exact ⟨cur, a2⟩
theorem MapF.block {k : TypeId} {w : World} {b N : Nat} {f : Nat → Option Value} (h : MapF Try.prog k w b N f) : ∃ es c, w.heap[b]? = some (.map es c) := by
  obtain ⟨D, ⟨es, c, h1, _⟩, _⟩ := h
  exact ⟨es, c, h1⟩
theorem AccF.block {w : World} {b : Nat} {q : Nat → A4} (h : AccF w b q) : ∃ es c, w.heap[b]? = some (.map es c) := let ⟨_, h1, _⟩ := h; h1.block

/-- none of its blocks is another. -/
structure Apart (m : Nat) (s : MkS) : Prop where
  ma : m ≠ s.ba
  mp : m ≠ s.bp
  ap : s.ba ≠ s.bp
  om : s.ov.ownBlock ≠ some m
  oa : s.ov.ownBlock ≠ some s.ba
  op : s.ov.ownBlock ≠ some s.bp
  jm : s.jv.ownBlock ≠ some m
  ja : s.jv.ownBlock ≠ some s.ba
  jp : s.jv.ownBlock ≠ some s.bp
  oj : ∀ k, s.ov.ownBlock = some k → s.jv.ownBlock ≠ some k
theorem apart_of {w : World} {m : Nat} {s : MkS} {q : Nat → A4} {f : Nat → Option Value} {os : List Ex.Ord} {jr : List UInt8} (h1 : MkAt w m s) (h2 : AccF w s.ba q) (h3 : ORow w s.ov os) (h4 : MapF Try.prog 3 w s.bp 20 f) (h5 : BRow w s.jv jr) (h6 : s.ba ≠ s.bp) : Apart m s := by
  obtain ⟨e1, c1, a1⟩ := h2.block
  obtain ⟨e2, c2, a2⟩ := h4.block
  have hm : w.heap[m]? = _ := h1
  refine ⟨fun e => ?_, fun e => ?_, h6, fun e => ?_, fun e => ?_, fun e => ?_, fun e => ?_, fun e => ?_, fun e => ?_, fun k e e' => ?_⟩
  · rw [e, a1] at hm; cases hm
  · rw [e, a2] at hm; cases hm
  · obtain ⟨cur, a3⟩ := row_block h3 e
    rw [a3] at hm; injection hm with hm; injection hm with _ hm; revert hm; decide
  · obtain ⟨cur, a3⟩ := row_block h3 e
    rw [a1] at a3; cases a3
  · obtain ⟨cur, a3⟩ := row_block h3 e
    rw [a2] at a3; cases a3
  · obtain ⟨cur, a3⟩ := row_block h5 e
    rw [a3] at hm; injection hm with hm; injection hm with _ hm; revert hm; decide
  · obtain ⟨cur, a3⟩ := row_block h5 e
    rw [a1] at a3; cases a3
  · obtain ⟨cur, a3⟩ := row_block h5 e
    rw [a2] at a3; cases a3
  · obtain ⟨cur, a3⟩ := row_block h3 e
    obtain ⟨cur', a4⟩ := row_block h5 e'
    rw [a3] at a4; injection a4 with a4; injection a4 with _ a4; revert a4; decide
theorem Mkt.apart {w : World} {m : Nat} {s : MkS} {x : Ex.Xch} (h : Mkt w m s x) : Apart m s := apart_of h.at_ h.acc h.ord h.prc h.jrn h.nap
theorem Mkt.foot_lt {w : World} {m : Nat} {s : MkS} {x : Ex.Xch} (h : Mkt w m s x) : ∀ k, Foot m s k → k < w.heap.size := fun k hk => by
  rcases hk with rfl | rfl | rfl | e | e
  · exact h.at_.lt
  · exact h.acc.lt
  · exact h.prc.lt
  · exact h.ord.lt e
  · exact h.jrn.lt e
theorem Mkt.kept {w w' : World} {m : Nat} {s : MkS} {x : Ex.Xch} (h : Mkt w m s x) (e : ∀ k, Foot m s k → w'.heap[k]? = w.heap[k]?) : Mkt w' m s x :=
  { h with
    at_ := h.at_.kept (e m (Or.inl rfl))
    acc := h.acc.kept (e _ (Or.inr (Or.inl rfl)))
    ord := h.ord.kept (fun k hk => e k (Or.inr (Or.inr (Or.inr (Or.inl hk)))))
    prc := h.prc.kept (e _ (Or.inr (Or.inr (Or.inl rfl))))
    jrn := h.jrn.kept (fun k hk => e k (Or.inr (Or.inr (Or.inr (Or.inr hk))))) }
theorem Mkt.below {w w' : World} {m : Nat} {s : MkS} {x : Ex.Xch} (h : Mkt w m s x) (b : Below w.heap.size w w') : Mkt w' m s x := h.kept fun k hk => b.block k (h.foot_lt k hk)
/-- its accounts alone are written. -/
theorem Mkt.onAcc {w w' : World} {m : Nat} {s : MkS} {x x' : Ex.Xch} (h : Mkt w m s x) (o : Onl (· = s.ba) w w') (ha : AccF w' s.ba (qOf x')) (hx : { x with ps := x'.ps, own := x'.own } = x') : Mkt w' m s x' := by
  have A := h.apart
  rw [← hx] at ha ⊢
  exact { at_ := h.at_.kept (o.block m h.at_.lt A.ma)
          acc := ha
          ord := h.ord.kept (fun k hk => o.block k (h.ord.lt hk) (fun e => A.oa (by rw [hk, e])))
          prc := h.prc.kept (o.block _ h.prc.lt (fun e => A.ap e.symm))
          jrn := h.jrn.kept (fun k hk => o.block k (h.jrn.lt hk) (fun e => A.ja (by rw [hk, e])))
          nap := h.nap, per := h.per, cap := h.cap, time := h.time, num := h.num, fin := h.fin, last := h.last, prs := h.prs, fls := h.fls, pay := h.pay, get := h.get, share := h.share }

/-- from w to w': nothing is turned but what is written, and what is new. -/
structure Step (m : Nat) (s : MkS) (w : World) (s' : MkS) (w' : World) : Prop where
  onl : Onl (Foot m s) w w'
  foot : ∀ k, Foot m s' k → Foot m s k ∨ w.heap.size ≤ k
  bd : s'.bd = s.bd
theorem Step.refl (m : Nat) (s : MkS) (w : World) : Step m s w s w := ⟨Onl.refl _ _, fun _ h => Or.inl h, rfl⟩
theorem Step.trans {m : Nat} {s s1 s2 : MkS} {w w1 w2 : World} (h : Step m s w s1 w1) (k : Step m s1 w1 s2 w2) : Step m s w s2 w2 :=
  ⟨h.onl.trans k.onl h.foot, fun i hi => by
    rcases k.foot i hi with h1 | h1
    · exact h.foot i h1
    · exact Or.inr (Nat.le_trans h.onl.size h1), k.bd.trans h.bd⟩
theorem Step.below {m : Nat} {s s1 : MkS} {w w1 w2 : World} (h : Step m s w s1 w1) (b : Below w1.heap.size w1 w2) : Step m s w s1 w2 := ⟨h.onl.below b, h.foot, h.bd⟩
theorem Step.onAcc {m : Nat} {s s1 : MkS} {w w1 w2 : World} (h : Step m s w s1 w1) (o : Onl (· = s1.ba) w1 w2) : Step m s w s1 w2 := ⟨h.onl.trans o (fun i e => by subst e; exact h.foot _ (Or.inr (Or.inl rfl))), h.foot, h.bd⟩
end Go.Proofs.Ytjfifaooimgbaaa
/- What is put in, and taken out. -/
namespace Go.Proofs.Ytjfifaooimgbaaa
open Go.Shelf Go.RowKit Go.Lib Go.Sort

/-- a closure's box: the market. -/
def BoxM (w : World) (X m : Nat) : Prop := w.heap[X]? = some (.cells #[.pointer (some ⟨m, 0, none⟩)] 103 (0, 0))
def BoxG (w : World) (X g : Nat) : Prop := w.heap[X]? = some (.cells #[.int .i64 (g : Int)] 167 (0, 0))
theorem BoxM.lt {w : World} {X m : Nat} (h : BoxM w X m) : X < w.heap.size := (Array.getElem?_eq_some_iff.1 h).1
theorem BoxG.lt {w : World} {X g : Nat} (h : BoxG w X g) : X < w.heap.size := (Array.getElem?_eq_some_iff.1 h).1
theorem BoxM.cell {w : World} {X m : Nat} (h : BoxM w X m) : w.cell? ⟨X, 0, none⟩ = some (.pointer (some ⟨m, 0, none⟩)) := by
  unfold BoxM at h
  simp [World.cell?, h]
theorem BoxG.cell {w : World} {X g : Nat} (h : BoxG w X g) : w.cell? ⟨X, 0, none⟩ = some (.int .i64 (g : Int)) := by
  unfold BoxG at h
  simp [World.cell?, h]
theorem BoxM.kept {w w' : World} {X m : Nat} (h : BoxM w X m) (e : w'.heap[X]? = w.heap[X]?) : BoxM w' X m := e.trans h
theorem BoxG.kept {w w' : World} {X m : Nat} (h : BoxG w X m) (e : w'.heap[X]? = w.heap[X]?) : BoxG w' X m := e.trans h

/-- small enough to be summed up. -/
def Tame (q : Nat → A4) : Prop := ∀ i, i < 21 → (0 ≤ (q i).c ∧ (q i).c ≤ 1125899906842624 ∧ 0 ≤ (q i).h ∧ (q i).h ≤ 1125899906842624) ∧ (0 ≤ (q i).u ∧ (q i).u ≤ 1125899906842624 ∧ 0 ≤ (q i).k ∧ (q i).k ≤ 1125899906842624)
theorem Tame.ok {q : Nat → A4} (h : Tame q) {i : Nat} (hi : i < 21) : (q i).ok := by
  have := h i hi
  exact ⟨⟨by omega, by omega⟩, ⟨by omega, by omega⟩, ⟨by omega, by omega⟩, ⟨by omega, by omega⟩⟩

theorem wrap_u (x : Int) (h0 : 0 ≤ x) (h1 : x < 18446744073709551616) : IntKind.u64.wrap x = x := by
  show (if (IntKind.u64.signed && decide (x % (2 ^ IntKind.u64.bits : Int) ≥ (2 ^ (IntKind.u64.bits - 1) : Int))) = true then x % (2 ^ IntKind.u64.bits : Int) - (2 ^ IntKind.u64.bits : Int) else x % (2 ^ IntKind.u64.bits : Int)) = x
  rw [if_neg (by simp [IntKind.signed])]
  exact Int.emod_eq_of_lt h0 h1

def totalOf (g : Nat) (q : Nat → A4) : Int := smTo (fun i => part g (q i)) 21

/-- what putting in answers, and what all have then. -/
def putCode (a : Nat) (tot : Int) : Int := if a = 0 then 3 else if 1125899906842624 - tot < a then 9 else 0
def putQ (a : Nat) (tot : Int) (q : Nat → A4) (t g : Nat) : Nat → A4 := if a = 0 then q else if 1125899906842624 - tot < a then q else updA q t (chg g a 0 (q t))

set_option maxHeartbeats 2000000 in
set_option maxRecDepth 100000 in
theorem put_deed (w : World) (m X Y g k t a sd pr : Nat) (s : MkS) (q : Nat → A4) (hX : BoxM w X m) (hY : BoxG w Y g) (hM : MkAt w m s) (hA : AccF w s.ba q) (hq : Tame q) (hg : g < 2) (ht : t < 20) (ha : a < 18446744073709551616) (htot : totalOf g q ≤ 1125899906842624) :
    Calls Try.prog 115 #[reqV k t a sd pr, .pointer (some ⟨X, 0, none⟩), .pointer (some ⟨Y, 0, none⟩)] w fun e w' =>
      e = .returned (.tuple #[.int .u8 (putCode a (totalOf g q)), .slice none 0 0]) ∧ AccF w' s.ba (putQ a (totalOf g q) q t g) ∧ Onl (· = s.ba) w w' := by
  have mixed : Try.prog.follows .mixedOrders = true := by kernel_rfl
  have h0 : 0 ≤ totalOf g q := by
    refine (smTo_bd 2251799813685248 21 fun i hi => ?_).1
    have := hq i hi
    unfold part
    split <;> omega
  unfold reqV
  obtain ⟨W, hW⟩ : ∃ W, W = w.alloc (.cells #[.int .i64 (k : Int), .int .i64 (t : Int), .int .u64 (a : Int), .int .i64 (sd : Int), .int .i64 (pr : Int)] 157) := ⟨_, rfl⟩
  have hsz : W.heap.size = w.heap.size + 1 := by rw [hW]; simp
  have bk : ∀ j, j < w.heap.size → W.heap[j]? = w.heap[j]? := fun j hj => by rw [hW]; exact Below.heap_alloc w _ j hj
  have x1 := (hX.kept (bk X hX.lt)).cell
  have y1 := (hY.kept (bk Y hY.lt)).cell
  have m3 := (hM.kept (bk m hM.lt)).all.c3
  have AW : AccF W s.ba q := hA.kept (bk _ hA.lt)
  have r1 : W.cell? ⟨w.heap.size, 1, none⟩ = some (.int .i64 (t : Int)) := by rw [hW]; simp
  have r2 : W.cell? ⟨w.heap.size, 2, none⟩ = some (.int .u64 (a : Int)) := by rw [hW]; simp
  have OW : Onl (· = s.ba) w W := by rw [hW]; exact (Onl.refl _ w).alloc _
  have HT : Aside _ := total_any W.drew s.ba q g AW hg hq
  have HP : Aside (∀ w1, AccF w1 s.ba q → sml a → Calls Try.prog 110 #[.map (some s.ba), .int .i64 t, .int .i64 g, .int .i64 a] w1 fun e w' => e = .returned (.tuple #[]) ∧ AccF w' s.ba (updA q t (chg g a 0 (q t))) ∧ Onl (· = s.ba) w1 w') := fun w1 h1 h2 => put_any w1 s.ba q t g a h1 (by omega) hg (hq.ok (by omega)) h2
  have HAW : Aside (AccF W s.ba q) := AW
  have HOW : Aside (Onl (· = s.ba) w W) := OW
  have BL : Aside (X < W.heap.size ∧ Y < W.heap.size ∧ m < W.heap.size) := ⟨by have := hX.lt; omega, by have := hY.lt; omega, by have := hM.lt; omega⟩
  unfold totalOf at *
  generalize smTo (fun i => part g (q i)) 21 = tot at *
  have hw1 : wrap64 (1125899906842624 - tot) = 1125899906842624 - tot := by unfold wrap64; omega
  have hw2 : IntKind.u64.wrap (1125899906842624 - tot) = 1125899906842624 - tot := wrap_u _ (by omega) (by omega)
  have HC0 : Aside (a = 0 → putCode a tot = 3 ∧ putQ a tot q t g = q) := fun h => by unfold putCode putQ; rw [if_pos h, if_pos h]; exact ⟨rfl, rfl⟩
  have HC1 : Aside (a ≠ 0 → 1125899906842624 - tot < a → putCode a tot = 9 ∧ putQ a tot q t g = q) := fun h h' => by unfold putCode putQ; rw [if_neg h, if_neg h, if_pos h', if_pos h']; exact ⟨rfl, rfl⟩
  have HC2 : Aside (a ≠ 0 → ¬ 1125899906842624 - tot < a → putCode a tot = 0 ∧ putQ a tot q t g = updA q t (chg g a 0 (q t))) := fun h h' => by unfold putCode putQ; rw [if_neg h, if_neg h, if_neg h', if_neg h']; exact ⟨rfl, rfl⟩
  generalize putCode a tot = pc at *
  generalize putQ a tot q t g = pq at *
  clear hX hY hM hA hq AW OW bk
  go_enter Try.func115, Try.ntmps115
  go_wp2_with fail
  rw [← hW]
  clear hW
  go_still_tail 5, mixed
  go_wp2_with fail
  refine Calls.mono (f := 116) HT.out ?_
  rintro e wc ⟨rfl, B1⟩
  have B2 : Aside (Below W.heap.size W wc) := ⟨B1.os, B1.tape, B1.output, B1.size, B1.block⟩
  clear B1
  have x2 := (B2.out.cell (p := ⟨X, 0, none⟩) BL.out.1).trans x1
  have y2 := (B2.out.cell (p := ⟨Y, 0, none⟩) BL.out.2.1).trans y1
  have m4 := (B2.out.cell (p := ⟨m, 3, none⟩) BL.out.2.2).trans m3
  have r3 := (B2.out.cell (p := ⟨w.heap.size, 1, none⟩) (by show w.heap.size < W.heap.size; omega)).trans r1
  have r4 := (B2.out.cell (p := ⟨w.heap.size, 2, none⟩) (by show w.heap.size < W.heap.size; omega)).trans r2
  have HA1 : Aside (AccF wc s.ba q) := AccF.kept HAW.out (B2.out.block _ (AccF.lt HAW.out))
  have HO1 : Aside (Onl (· = s.ba) w wc) := HOW.out.below B2.out
  clear B2 HT x1 y1 m3 r1 r2 HAW HOW BL
  by_cases a0 : a = 0
  · obtain ⟨rfl, rfl⟩ := HC0.out a0
    subst a0
    clear HP HC0 HC1 HC2
    go_wp2
    go_ret2
    exact ⟨rfl, HA1.out, HO1.out⟩
  · have hz : ((a : Int) == 0) = false := beq_eq_false_iff_ne.2 (by omega)
    by_cases hs : 1125899906842624 - tot < a
    · obtain ⟨rfl, rfl⟩ := HC1.out a0 hs
      clear HP HC0 HC1 HC2
      go_wp2
      go_ret2
      exact ⟨rfl, HA1.out, HO1.out⟩
    · obtain ⟨rfl, rfl⟩ := HC2.out a0 (by omega)
      have HP1 : Aside _ := HP.out wc.drew (AccF.kept HA1.out rfl) ⟨by omega, by omega⟩
      clear HP HC0 HC1 HC2
      go_wp2_with fail
      go_still_tail 10, mixed
      go_wp2_with fail
      refine Calls.mono (f := 110) HP1.out ?_
      rintro e w2 ⟨rfl, A2, O2⟩
      go_wp2
      go_ret2
      exact ⟨rfl, A2, HO1.out.drew.trans O2 (fun i hi => Or.inl hi)⟩
end Go.Proofs.Ytjfifaooimgbaaa
/- What is taken out. -/
namespace Go.Proofs.Ytjfifaooimgbaaa
open Go.Shelf Go.RowKit Go.Lib Go.Sort

theorem AccF.look {w : World} {b : Nat} {q : Nat → A4} (h : AccF w b q) {i : Nat} (hi : i < 21) : (Instr.lookup 121 (.map (some b)) (.int .i64 (i : Int)) false).run Try.prog w = .ok (.agg #[.int .i64 (q i).c, .int .i64 (q i).h, .int .i64 (q i).u, .int .i64 (q i).k]) w := by
  obtain ⟨f, h1, h2⟩ := h
  rw [h1.look K3 Try.underlying121 (z166 w) hi (key3 i (by omega)), h2 i hi]
  rfl
theorem idx0 (a b c d : Value) (w : World) : (Instr.index 184 (.agg #[a, b, c, d]) (.int .i64 0)).run Try.prog w = .ok (.agg #[a, b]) w := by
  simp [Instr.index, go_sem]
theorem idx1 (a b c d : Value) (w : World) : (Instr.index 184 (.agg #[a, b, c, d]) (.int .i64 1)).run Try.prog w = .ok (.agg #[c, d]) w := by
  simp [Instr.index, go_sem]
theorem fld0 (a b : Value) (w : World) : (Instr.field 182 (.agg #[a, b]) 0).run Try.prog w = .ok a w := by
  simp [Instr.field, go_sem, asAgg]
def freeOf (g : Nat) (a : A4) : Int := if g = 0 then a.c else a.u
def takeCode (a : Nat) (fr : Int) : Int := if a = 0 then 3 else if fr < a then 8 else 0
def takeQ (a : Nat) (fr : Int) (q : Nat → A4) (t g : Nat) : Nat → A4 := if a = 0 then q else if fr < a then q else updA q t (chg g (-(a : Int)) 0 (q t))

set_option maxHeartbeats 2000000 in
set_option maxRecDepth 100000 in
theorem take_deed (w : World) (m X Y g k t a sd pr : Nat) (s : MkS) (q : Nat → A4) (hX : BoxM w X m) (hY : BoxG w Y g) (hM : MkAt w m s) (hA : AccF w s.ba q) (hq : Tame q) (hg : g < 2) (ht : t < 20) (ha : a < 18446744073709551616) :
    Calls Try.prog 117 #[reqV k t a sd pr, .pointer (some ⟨X, 0, none⟩), .pointer (some ⟨Y, 0, none⟩)] w fun e w' =>
      e = .returned (.tuple #[.int .u8 (takeCode a (freeOf g (q t))), .slice none 0 0]) ∧ AccF w' s.ba (takeQ a (freeOf g (q t)) q t g) ∧ Onl (· = s.ba) w w' := by
  have mixed : Try.prog.follows .mixedOrders = true := by kernel_rfl
  unfold reqV
  obtain ⟨W, hW⟩ : ∃ W, W = w.alloc (.cells #[.int .i64 (k : Int), .int .i64 (t : Int), .int .u64 (a : Int), .int .i64 (sd : Int), .int .i64 (pr : Int)] 157) := ⟨_, rfl⟩
  have hsz : W.heap.size = w.heap.size + 1 := by rw [hW]; simp
  have bk : ∀ j, j < w.heap.size → W.heap[j]? = w.heap[j]? := fun j hj => by rw [hW]; exact Below.heap_alloc w _ j hj
  have x1 := (hX.kept (bk X hX.lt)).cell
  have y1 := (hY.kept (bk Y hY.lt)).cell
  have m3 := (hM.kept (bk m hM.lt)).all.c3
  have AW : AccF W s.ba q := hA.kept (bk _ hA.lt)
  have r1 : W.cell? ⟨w.heap.size, 1, none⟩ = some (.int .i64 (t : Int)) := by rw [hW]; simp
  have r2 : W.cell? ⟨w.heap.size, 2, none⟩ = some (.int .u64 (a : Int)) := by rw [hW]; simp
  have OW : Onl (· = s.ba) w W := by rw [hW]; exact (Onl.refl _ w).alloc _
  have HP : Aside (∀ w1, AccF w1 s.ba q → sml a → Calls Try.prog 118 #[.map (some s.ba), .int .i64 t, .int .i64 g, .int .i64 a] w1 fun e w' => e = .returned (.tuple #[]) ∧ AccF w' s.ba (updA q t (chg g (-(a : Int)) 0 (q t))) ∧ Onl (· = s.ba) w1 w') := fun w1 h1 h2 => take_any w1 s.ba q t g a h1 (by omega) hg (hq.ok (by omega)) h2
  have lk : (Instr.lookup 121 (.map (some s.ba)) (.int .i64 (t : Int)) false).run Try.prog W.drew = .ok (.agg #[.int .i64 (q t).c, .int .i64 (q t).h, .int .i64 (q t).u, .int .i64 (q t).k]) W.drew := (AW.kept (w' := W.drew) rfl).look (by omega)
  have HAW : Aside (AccF W s.ba q) := AW
  have HOW : Aside (Onl (· = s.ba) w W) := OW
  have hqt := hq t (by omega)
  have HC0 : Aside (a = 0 → takeCode a (freeOf g (q t)) = 3 ∧ takeQ a (freeOf g (q t)) q t g = q) := fun h => by unfold takeCode takeQ; rw [if_pos h, if_pos h]; exact ⟨rfl, rfl⟩
  have HC1 : Aside (a ≠ 0 → freeOf g (q t) < a → takeCode a (freeOf g (q t)) = 8 ∧ takeQ a (freeOf g (q t)) q t g = q) := fun h h' => by unfold takeCode takeQ; rw [if_neg h, if_neg h, if_pos h', if_pos h']; exact ⟨rfl, rfl⟩
  have HC2 : Aside (a ≠ 0 → ¬ freeOf g (q t) < a → takeCode a (freeOf g (q t)) = 0 ∧ takeQ a (freeOf g (q t)) q t g = updA q t (chg g (-(a : Int)) 0 (q t))) := fun h h' => by unfold takeCode takeQ; rw [if_neg h, if_neg h, if_neg h', if_neg h']; exact ⟨rfl, rfl⟩
  generalize takeCode a (freeOf g (q t)) = pc at *
  generalize takeQ a (freeOf g (q t)) q t g = pq at *
  have hwc : IntKind.u64.wrap (q t).c = (q t).c := wrap_u _ (by omega) (by omega)
  have hwu : IntKind.u64.wrap (q t).u = (q t).u := wrap_u _ (by omega) (by omega)
  clear hX hY hM hA hq AW OW bk
  by_cases a0 : a = 0
  · obtain ⟨rfl, rfl⟩ := HC0.out a0
    have hz : ((a : Int) == 0) = true := by rw [a0]; rfl
    clear HP HC0 HC1 HC2 lk hqt hwc hwu a0
    go_enter Try.func117, Try.ntmps117
    go_wp2
    go_ret2
    exact ⟨rfl, by rw [← hW]; exact HAW.out, by rw [← hW]; exact HOW.out⟩
  · have hz : ((a : Int) == 0) = false := beq_eq_false_iff_ne.2 (by omega)
    have hf : freeOf g (q t) = if g = 0 then (q t).c else (q t).u := rfl
    rcases (show g = 0 ∨ g = 1 by omega) with rfl | rfl
    · rw [if_pos rfl] at hf
      rw [hf] at HC1 HC2
      have y0 : W.cell? ⟨Y, 0, none⟩ = some (.int .i64 0) := y1
      clear y1 hf
      have fx := fld0 (.int .i64 (q t).c) (.int .i64 (q t).h)
      have ix := idx0 (.int .i64 (q t).c) (.int .i64 (q t).h) (.int .i64 (q t).u) (.int .i64 (q t).k)
      by_cases hs : (q t).c < a
      · obtain ⟨rfl, rfl⟩ := HC1.out a0 hs
        clear HP HC0 HC1 HC2
        go_enter Try.func117, Try.ntmps117
        go_wp2_with fail
        rw [← hW]
        clear hW
        go_still_tail 14, mixed
        go_wp2_with fail
        go_wp2
        go_ret2
        exact ⟨rfl, HAW.out.kept rfl, HOW.out.drew⟩
      · obtain ⟨rfl, rfl⟩ := HC2.out a0 hs
        have hal : (a : Int) ≤ 1125899906842624 := by omega
        obtain ⟨W2, hW2⟩ : ∃ W2 : World, W2 = { heap := W.heap, tape := W.tape, drawn := W.drawn + 1, os := W.os, output := W.output } := ⟨_, rfl⟩
        have x2 : W2.cell? ⟨X, 0, none⟩ = some (.pointer (some ⟨m, 0, none⟩)) := by rw [hW2]; exact x1
        have y2 : W2.cell? ⟨Y, 0, none⟩ = some (.int .i64 0) := by rw [hW2]; exact y0
        have m4 : W2.cell? ⟨m, 3, none⟩ = some (.map (some s.ba)) := by rw [hW2]; exact m3
        have r3 : W2.cell? ⟨w.heap.size, 1, none⟩ = some (.int .i64 (t : Int)) := by rw [hW2]; exact r1
        have r4 : W2.cell? ⟨w.heap.size, 2, none⟩ = some (.int .u64 (a : Int)) := by rw [hW2]; exact r2
        have HA2 : Aside (AccF W2 s.ba q) := by show AccF _ _ _; rw [hW2]; exact HAW.out
        have HO2 : Aside (Onl (· = s.ba) w W2) := by show Onl _ _ _; rw [hW2]; exact HOW.out.drew
        have HP1 : Aside _ := HP.out W2.drew (AccF.kept HA2.out rfl) ⟨by omega, by omega⟩
        clear HP HC0 HC1 HC2
        go_enter Try.func117, Try.ntmps117
        go_wp2_with fail
        rw [← hW]
        clear hW
        go_still_tail 14, mixed
        go_wp2_with fail
        rw [← hW2]
        clear hW2 x1 y0 m3 r1 r2 lk
        go_still_tail 10, mixed
        go_wp2_with fail
        refine Calls.mono (f := 118) HP1.out ?_
        rintro e w2 ⟨rfl, A2, O2⟩
        go_wp2
        go_ret2
        exact ⟨rfl, A2, HO2.out.drew.trans O2 (fun i hi => Or.inl hi)⟩
    · rw [if_neg (by decide)] at hf
      rw [hf] at HC1 HC2
      have y0 : W.cell? ⟨Y, 0, none⟩ = some (.int .i64 1) := y1
      clear y1 hf
      have fx := fld0 (.int .i64 (q t).u) (.int .i64 (q t).k)
      have ix := idx1 (.int .i64 (q t).c) (.int .i64 (q t).h) (.int .i64 (q t).u) (.int .i64 (q t).k)
      by_cases hs : (q t).u < a
      · obtain ⟨rfl, rfl⟩ := HC1.out a0 hs
        clear HP HC0 HC1 HC2
        go_enter Try.func117, Try.ntmps117
        go_wp2_with fail
        rw [← hW]
        clear hW
        go_still_tail 14, mixed
        go_wp2_with fail
        go_wp2
        go_ret2
        exact ⟨rfl, HAW.out.kept rfl, HOW.out.drew⟩
      · obtain ⟨rfl, rfl⟩ := HC2.out a0 hs
        have hal : (a : Int) ≤ 1125899906842624 := by omega
        obtain ⟨W2, hW2⟩ : ∃ W2 : World, W2 = { heap := W.heap, tape := W.tape, drawn := W.drawn + 1, os := W.os, output := W.output } := ⟨_, rfl⟩
        have x2 : W2.cell? ⟨X, 0, none⟩ = some (.pointer (some ⟨m, 0, none⟩)) := by rw [hW2]; exact x1
        have y2 : W2.cell? ⟨Y, 0, none⟩ = some (.int .i64 1) := by rw [hW2]; exact y0
        have m4 : W2.cell? ⟨m, 3, none⟩ = some (.map (some s.ba)) := by rw [hW2]; exact m3
        have r3 : W2.cell? ⟨w.heap.size, 1, none⟩ = some (.int .i64 (t : Int)) := by rw [hW2]; exact r1
        have r4 : W2.cell? ⟨w.heap.size, 2, none⟩ = some (.int .u64 (a : Int)) := by rw [hW2]; exact r2
        have HA2 : Aside (AccF W2 s.ba q) := by show AccF _ _ _; rw [hW2]; exact HAW.out
        have HO2 : Aside (Onl (· = s.ba) w W2) := by show Onl _ _ _; rw [hW2]; exact HOW.out.drew
        have HP1 : Aside _ := HP.out W2.drew (AccF.kept HA2.out rfl) ⟨by omega, by omega⟩
        clear HP HC0 HC1 HC2
        go_enter Try.func117, Try.ntmps117
        go_wp2_with fail
        rw [← hW]
        clear hW
        go_still_tail 14, mixed
        go_wp2_with fail
        rw [← hW2]
        clear hW2 x1 y0 m3 r1 r2 lk
        go_still_tail 10, mixed
        go_wp2_with fail
        refine Calls.mono (f := 118) HP1.out ?_
        rintro e w2 ⟨rfl, A2, O2⟩
        go_wp2
        go_ret2
        exact ⟨rfl, A2, HO2.out.drew.trans O2 (fun i hi => Or.inl hi)⟩
end Go.Proofs.Ytjfifaooimgbaaa
/- The exchange without a program: what is told, while time stands still. -/
namespace Go.Proofs.Ytjfifaooimgbaaa
namespace Ex

/-- a reading of the clock that turns nothing. -/
structure Still (x : Xch) (now : Int) : Prop where
  fin : x.time < x.fin
  now : (if 1125899906842624 < now then 1125899906842624 else now) ≤ x.time

theorem Still.timed {x : Xch} {now : Int} (h : Still x now) : Ex.timed x now = x := by
  have hn := h.now
  unfold Ex.timed
  dsimp only
  generalize (if 1125899906842624 < now then 1125899906842624 else now) = n at hn ⊢
  rw [if_neg (by omega)]
theorem Still.cleared {x : Xch} {now : Int} (h : Still x now) : Ex.cleared x = x := by
  unfold Ex.cleared
  have := h.fin
  rw [if_neg (by omega)]
theorem Still.do_ {x : Xch} {now : Int} (h : Still x now) (r : List UInt8) : doX x now r = (written (answerX x r).1 r (answerX x r).2, (answerX x r).2) := by
  unfold doX
  rw [h.timed, h.cleared]

theorem moves_time (x : Xch) (k t n : Nat) : (movesX x k t n).1.time = x.time ∧ (movesX x k t n).1.fin = x.fin ∧ (movesX x k t n).1.jr = x.jr := by
  unfold movesX
  dsimp only
  split
  · exact ⟨rfl, rfl, rfl⟩
  · split
    · exact ⟨rfl, rfl, rfl⟩
    · split <;> exact ⟨rfl, rfl, rfl⟩
theorem orders_time (x : Xch) (t s p : Nat) : (ordersX x t s p).1.time = x.time ∧ (ordersX x t s p).1.fin = x.fin ∧ (ordersX x t s p).1.jr = x.jr := by
  unfold ordersX
  dsimp only
  split
  · exact ⟨rfl, rfl, rfl⟩
  · split
    · exact ⟨rfl, rfl, rfl⟩
    · split
      · exact ⟨rfl, rfl, rfl⟩
      · split
        · exact ⟨rfl, rfl, rfl⟩
        · split <;> exact ⟨rfl, rfl, rfl⟩
theorem cancel_time (x : Xch) (t : Nat) : (cancelX x t).1.time = x.time ∧ (cancelX x t).1.fin = x.fin ∧ (cancelX x t).1.jr = x.jr := by
  unfold cancelX
  split <;> exact ⟨rfl, rfl, rfl⟩
theorem answer_time (x : Xch) (r : List UInt8) : (answerX x r).1.time = x.time ∧ (answerX x r).1.fin = x.fin ∧ (answerX x r).1.jr = x.jr := by
  unfold answerX
  dsimp only
  split
  · exact ⟨rfl, rfl, rfl⟩
  · generalize (if longOf (r.getD 0 0).toNat = 1 then 0 else (r.getD 1 0).toNat) = t
    split
    · exact ⟨rfl, rfl, rfl⟩
    · split
      · exact moves_time _ _ _ _
      · split
        · exact orders_time _ _ _ _
        · split
          · exact cancel_time _ _
          · exact ⟨rfl, rfl, rfl⟩
theorem record_length (t : Int) (r : List UInt8) : (record t r).length = r.length + 10 := by
  unfold record
  simp only [List.length_append, bytesOf_length, List.length_singleton]
  omega
theorem written_jr (x : Xch) (r s : List UInt8) : (written x r s).jr.length ≤ x.jr.length + r.length + 10 := by
  unfold written
  split
  · show (x.jr ++ record x.time r).length ≤ _
    rw [List.length_append, record_length]; omega
  · omega
theorem cleared_jr (x : Xch) : (cleared x).jr.length ≤ x.jr.length + 10 := by
  unfold cleared
  split
  · show (x.jr ++ record x.time []).length ≤ _
    rw [List.length_append, record_length]; simp
  · omega
theorem do_jr (x : Xch) (now : Int) (r : List UInt8) : (doX x now r).1.jr.length ≤ x.jr.length + r.length + 20 := by
  have h1 := written_jr (answerX (cleared (timed x now)) r).1 r (answerX (cleared (timed x now)) r).2
  have h2 := cleared_jr (timed x now)
  have h3 := (answer_time (cleared (timed x now)) r).2.2
  have h4 : (timed x now).jr = x.jr := rfl
  rw [h3] at h1
  rw [h4] at h2
  show (written _ _ _).jr.length ≤ _
  omega

/-- what is only asked turns nothing. -/
theorem tell {x : Xch} {now : Int} (h : Still x now) {k : UInt8} (hk : 7 ≤ k.toNat ∧ k.toNat ≤ 10) (t : Nat) (ht : t < 20) (r : List UInt8) (hr : r = if longOf k.toNat = 1 then [k] else [k, UInt8.ofNat t]) :
    doX x now r = (x, tellsX x k.toNat (if longOf k.toNat = 1 then 0 else t)) := by
  rw [h.do_]
  have g0 : (r.getD 0 0) = k := by rw [hr]; split <;> rfl
  have hl : longOf k.toNat = 1 ∨ longOf k.toNat = 2 := by
    unfold longOf
    rw [if_neg (by omega), if_neg (by omega)]
    split
    · exact Or.inr rfl
    · rw [if_pos (by omega)]; exact Or.inl rfl
  have len : r.length = longOf k.toNat := by
    rw [hr]
    rcases hl with hl | hl
    · rw [if_pos hl, hl]; rfl
    · rw [if_neg (by omega), hl]; rfl
  have g1 : longOf k.toNat = 2 → (r.getD 1 0).toNat = t := fun h2 => by
    rw [hr, if_neg (by omega)]
    show (UInt8.ofNat t).toNat = t
    rw [UInt8.toNat_ofNat']
    omega
  have e : answerX x r = (x, tellsX x k.toNat (if longOf k.toNat = 1 then 0 else t)) := by
    unfold answerX
    dsimp only
    rw [g0]
    have et : (if longOf k.toNat = 1 then 0 else (r.getD 1 0).toNat) = (if longOf k.toNat = 1 then 0 else t) := by
      rcases hl with hl | hl
      · rw [if_pos hl, if_pos hl]
      · rw [if_neg (by omega), if_neg (by omega), g1 hl]
    rw [et, if_neg (by omega)]
    have h20 : (if longOf k.toNat = 1 then 0 else t) < 20 := by split <;> omega
    rw [if_neg (by omega), if_neg (by omega), if_neg (by omega), if_neg (by omega)]
  rw [e]
  have : written x r (tellsX x k.toNat (if longOf k.toNat = 1 then 0 else t)) = x := by
    unfold written
    rw [g0, if_neg (by omega)]
  rw [this]
end Ex
end Go.Proofs.Ytjfifaooimgbaaa
/- The market's state against the exchange's. -/
namespace Go.Proofs.Ytjfifaooimgbaaa
open Go.Shelf Go.RowKit Go.Lib Go.Sort

theorem smTo_sum (h : Nat → Int) : ∀ n, smTo h n = sumTo h n
  | 0 => rfl
  | n + 1 => by rw [smTo, sumTo, smTo_sum h n]
theorem total_cash (x : Ex.Xch) : totalOf 0 (qOf x) = Ex.allCash x := by
  have h20 : part 0 (qOf x 20) = x.own := by
    unfold part
    rw [if_pos rfl]
    unfold qOf
    rw [if_neg (by decide)]
    dsimp only
    omega
  have hs : sumTo (fun i => part 0 (qOf x i)) 20 = sumTo (fun i => (x.ps i).cash + (x.ps i).held) 20 := sumTo_congr 20 fun i hi => by
    unfold part
    rw [if_pos rfl]
    unfold qOf
    rw [if_pos hi]
  unfold totalOf Ex.allCash
  rw [smTo, smTo_sum, h20, hs, Int.add_comm]
theorem total_units (x : Ex.Xch) : totalOf 1 (qOf x) = Ex.allUnits x := by
  unfold totalOf Ex.allUnits
  rw [smTo, smTo_sum]
  have : part 1 (qOf x 20) = 0 := by
    unfold part
    rw [if_neg (by decide)]
    unfold qOf
    rw [if_neg (by decide)]
    rfl
  rw [this, Int.add_zero]
  refine sumTo_congr 20 fun i hi => ?_
  unfold part
  rw [if_neg (by decide)]
  unfold qOf
  rw [if_pos hi]
theorem one_le_sum (h : Nat → Int) (n : Nat) (h0 : ∀ i, i < n → 0 ≤ h i) {i : Nat} (hi : i < n) : h i ≤ sumTo h n := by
  induction n with
  | zero => omega
  | succ n ih =>
    rw [sumTo]
    have hn := h0 n (by omega)
    by_cases e : i = n
    · subst e
      have := Ex.sum_nonneg h i (fun j hj => h0 j (by omega))
      omega
    · have := ih (fun j hj => h0 j (by omega)) (by omega)
      omega
theorem tame_of {x : Ex.Xch} (ok : Ex.Ok x) : Tame (qOf x) := fun i hi => by
  have hc := ok.sumC
  have hu := ok.sumU
  have own := ok.own
  unfold Ex.allCash at hc
  unfold Ex.allUnits at hu
  have n1 : ∀ j, j < 20 → 0 ≤ (x.ps j).cash + (x.ps j).held := fun j _ => by have := ok.cash j; have := (ok.heldNon j).1; omega
  have n2 : ∀ j, j < 20 → 0 ≤ (x.ps j).units + (x.ps j).hun := fun j _ => by have := ok.units j; have := (ok.heldNon j).2; omega
  unfold qOf
  by_cases h : i < 20
  · rw [if_pos h]
    have a1 := one_le_sum _ 20 n1 h
    have a2 := one_le_sum _ 20 n2 h
    have := ok.cash i
    have := ok.units i
    have := ok.heldNon i
    dsimp only at *
    omega
  · rw [if_neg h]
    have := Ex.sum_nonneg _ 20 n1
    dsimp only
    omega
theorem qOf_upd (x : Ex.Xch) (t : Nat) (ht : t < 20) (p : Ex.Purse) : qOf { x with ps := Ex.upd x.ps t p } = updA (qOf x) t ⟨p.cash, p.held, p.units, p.hun⟩ := by
  funext i
  by_cases e : i = t
  · subst e
    simp only [qOf, updA, if_pos ht, if_true, Ex.upd_same]
  · by_cases h : i < 20
    · simp only [qOf, updA, if_pos h, if_neg e, Ex.upd_ne _ _ e]
    · simp only [qOf, updA, if_neg h, if_neg e]
theorem qOf_at (x : Ex.Xch) (t : Nat) (ht : t < 20) : qOf x t = ⟨(x.ps t).cash, (x.ps t).held, (x.ps t).units, (x.ps t).hun⟩ := if_pos ht
end Go.Proofs.Ytjfifaooimgbaaa
