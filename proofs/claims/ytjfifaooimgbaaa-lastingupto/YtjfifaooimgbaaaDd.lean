import Derived.Test.YtjfifaooimgbaaaBt3
import Derived.Test.YtjfifaooimgbaaaRd
import Derived.StillTailTactics
/- The market in memory. -/
namespace Go.Proofs.Ytjfifaooimgbaaa
open Go.Shelf Go.RowKit Go.Lib Go.Sort

structure MkS where
  per : Int
  cap : Int
  time : Int
  ba : Nat
  num : Int
  fin : Int
  ov : Value
  prs : Nat
  fls : Nat
  pay : Int
  get : Int
  share : Nat
  bp : Nat
  jv : Value
  bd : Nat
def MkS.cells (s : MkS) : Array Value := #[.int .i64 s.per, .int .i64 s.cap, .int .i64 s.time, .map (some s.ba), .int .i64 s.num, .int .i64 s.fin, s.ov, .int .i64 s.prs, .int .i64 s.fls, .int .i64 s.pay, .int .i64 s.get, .int .u64 s.share, .map (some s.bp), s.jv, .map (some s.bd)]
def MkAt (w : World) (m : Nat) (s : MkS) : Prop := w.heap[m]? = some (.cells s.cells 130 (0, 0))
theorem MkAt.lt {w : World} {m : Nat} {s : MkS} (h : MkAt w m s) : m < w.heap.size := (Array.getElem?_eq_some_iff.1 h).1
theorem MkAt.kept {w w' : World} {m : Nat} {s : MkS} (h : MkAt w m s) (e : w'.heap[m]? = w.heap[m]?) : MkAt w' m s := e.trans h
/-- all the market's cells. -/
structure MkC (w : World) (m : Nat) (s : MkS) : Prop where
  c0 : w.cell? ⟨m, 0, none⟩ = some (.int .i64 s.per)
  c1 : w.cell? ⟨m, 1, none⟩ = some (.int .i64 s.cap)
  c2 : w.cell? ⟨m, 2, none⟩ = some (.int .i64 s.time)
  c3 : w.cell? ⟨m, 3, none⟩ = some (.map (some s.ba))
  c4 : w.cell? ⟨m, 4, none⟩ = some (.int .i64 s.num)
  c5 : w.cell? ⟨m, 5, none⟩ = some (.int .i64 s.fin)
  c6 : w.cell? ⟨m, 6, none⟩ = some s.ov
  c7 : w.cell? ⟨m, 7, none⟩ = some (.int .i64 s.prs)
  c8 : w.cell? ⟨m, 8, none⟩ = some (.int .i64 s.fls)
  c9 : w.cell? ⟨m, 9, none⟩ = some (.int .i64 s.pay)
  c10 : w.cell? ⟨m, 10, none⟩ = some (.int .i64 s.get)
  c11 : w.cell? ⟨m, 11, none⟩ = some (.int .u64 s.share)
  c12 : w.cell? ⟨m, 12, none⟩ = some (.map (some s.bp))
  c13 : w.cell? ⟨m, 13, none⟩ = some s.jv
  c14 : w.cell? ⟨m, 14, none⟩ = some (.map (some s.bd))
  fr : ∀ j, w.frozen? ⟨m, j, none⟩ = false
theorem MkAt.all {w : World} {m : Nat} {s : MkS} (h : MkAt w m s) : MkC w m s := by
  unfold MkAt at h
  constructor <;> simp [World.cell?, World.frozen?, h, MkS.cells]
theorem MkAt.setTime {w : World} {m : Nat} {s : MkS} (h : MkAt w m s) (v : Int) : MkAt (w.setCell ⟨m, 2, none⟩ (.int .i64 v)) m { s with time := v } := by
  unfold MkAt at *
  rw [setCell_heap h]; rfl
theorem MkAt.setOv {w : World} {m : Nat} {s : MkS} (h : MkAt w m s) (v : Value) : MkAt (w.setCell ⟨m, 6, none⟩ v) m { s with ov := v } := by
  unfold MkAt at *
  rw [setCell_heap h]; rfl
theorem MkAt.setJv {w : World} {m : Nat} {s : MkS} (h : MkAt w m s) (v : Value) : MkAt (w.setCell ⟨m, 13, none⟩ v) m { s with jv := v } := by
  unfold MkAt at *
  rw [setCell_heap h]; rfl
theorem MkAt.setBd {w : World} {m : Nat} {s : MkS} (h : MkAt w m s) (v : Nat) : MkAt (w.setCell ⟨m, 14, none⟩ (.map (some v))) m { s with bd := v } := by
  unfold MkAt at *
  rw [setCell_heap h]; rfl

/-- the blocks of it that are written. -/
def Foot (m : Nat) (s : MkS) (k : Nat) : Prop := k = m ∨ k = s.ba ∨ k = s.bp ∨ s.ov.ownBlock = some k ∨ s.jv.ownBlock = some k

/-- what each has, the exchange the last. -/
def qOf (x : Ex.Xch) (i : Nat) : A4 := if i < 20 then ⟨(x.ps i).cash, (x.ps i).held, (x.ps i).units, (x.ps i).hun⟩ else ⟨x.own, 0, 0, 0⟩
/-- what those who traded paid, or got. -/
def prOf (x : Ex.Xch) (t : Nat) : Option Value := if x.traded t = true then some (.int .i64 (x.paid t)) else none

structure Mkt (w : World) (m : Nat) (s : MkS) (x : Ex.Xch) : Prop where
  at_ : MkAt w m s
  acc : AccF w s.ba (qOf x)
  ord : ORow w s.ov x.ords
  prc : MapF Try.prog 3 w s.bp 20 (prOf x)
  jrn : BRow w s.jv x.jr
  nap : s.ba ≠ s.bp
  per : s.per = x.period
  cap : s.cap = x.cap
  time : s.time = x.time
  num : s.num = x.batch
  fin : s.fin = x.fin
  last : x.last = x.batch - 1
  prs : s.prs = kL x.lastL
  fls : s.fls = (setL x.lastL).1
  pay : s.pay = (setL x.lastL).2.1
  get : s.get = (setL x.lastL).2.2
  share : s.share = shareL x.lastL

theorem row_block {w : World} {e size : Nat} {v : Value} {n : Nat} {xs : List Value} (h : w.ownsRow 0 e size v n xs) {k : Nat} (hk : v.ownBlock = some k) : ∃ cur, w.heap[k]? = some (.cells cur e (0, 0)) := by
  rcases h.2 with ⟨rfl, _⟩ | ⟨g, cap, cur, rfl, _, a2, _⟩
  · simp [Value.ownBlock] at hk
  · simp [Value.ownBlock] at hk
    subst hk
    exact ⟨cur, a2⟩
theorem MapF.block {k : TypeId} {w : World} {b N : Nat} {f : Nat → Option Value} (h : MapF Try.prog k w b N f) : ∃ es c, w.heap[b]? = some (.map es c) := by
  obtain ⟨D, ⟨es, c, h1, _⟩, _⟩ := h
  exact ⟨es, c, h1⟩
theorem AccF.block {w : World} {b : Nat} {q : Nat → A4} (h : AccF w b q) : ∃ es c, w.heap[b]? = some (.map es c) := let ⟨_, h1, _⟩ := h; h1.block

/-- none of its blocks is another. -/
structure Apart (m : Nat) (s : MkS) : Prop where
  ma : m ≠ s.ba
  mp : m ≠ s.bp
  ap : s.ba ≠ s.bp
  om : s.ov.ownBlock ≠ some m
  oa : s.ov.ownBlock ≠ some s.ba
  op : s.ov.ownBlock ≠ some s.bp
  jm : s.jv.ownBlock ≠ some m
  ja : s.jv.ownBlock ≠ some s.ba
  jp : s.jv.ownBlock ≠ some s.bp
  oj : ∀ k, s.ov.ownBlock = some k → s.jv.ownBlock ≠ some k
theorem apart_of {w : World} {m : Nat} {s : MkS} {q : Nat → A4} {f : Nat → Option Value} {os : List Ex.Ord} {jr : List UInt8} (h1 : MkAt w m s) (h2 : AccF w s.ba q) (h3 : ORow w s.ov os) (h4 : MapF Try.prog 3 w s.bp 20 f) (h5 : BRow w s.jv jr) (h6 : s.ba ≠ s.bp) : Apart m s := by
  obtain ⟨e1, c1, a1⟩ := h2.block
  obtain ⟨e2, c2, a2⟩ := h4.block
  have hm : w.heap[m]? = _ := h1
  refine ⟨fun e => ?_, fun e => ?_, h6, fun e => ?_, fun e => ?_, fun e => ?_, fun e => ?_, fun e => ?_, fun e => ?_, fun k e e' => ?_⟩
  · rw [e, a1] at hm; cases hm
  · rw [e, a2] at hm; cases hm
  · obtain ⟨cur, a3⟩ := row_block h3 e
    rw [a3] at hm; injection hm with hm; injection hm with _ hm; revert hm; decide
  · obtain ⟨cur, a3⟩ := row_block h3 e
    rw [a1] at a3; cases a3
  · obtain ⟨cur, a3⟩ := row_block h3 e
    rw [a2] at a3; cases a3
  · obtain ⟨cur, a3⟩ := row_block h5 e
    rw [a3] at hm; injection hm with hm; injection hm with _ hm; revert hm; decide
  · obtain ⟨cur, a3⟩ := row_block h5 e
    rw [a1] at a3; cases a3
  · obtain ⟨cur, a3⟩ := row_block h5 e
    rw [a2] at a3; cases a3
  · obtain ⟨cur, a3⟩ := row_block h3 e
    obtain ⟨cur', a4⟩ := row_block h5 e'
    rw [a3] at a4; injection a4 with a4; injection a4 with _ a4; revert a4; decide
theorem Mkt.apart {w : World} {m : Nat} {s : MkS} {x : Ex.Xch} (h : Mkt w m s x) : Apart m s := apart_of h.at_ h.acc h.ord h.prc h.jrn h.nap
theorem Mkt.foot_lt {w : World} {m : Nat} {s : MkS} {x : Ex.Xch} (h : Mkt w m s x) : ∀ k, Foot m s k → k < w.heap.size := fun k hk => by
  rcases hk with rfl | rfl | rfl | e | e
  · exact h.at_.lt
  · exact h.acc.lt
  · exact h.prc.lt
  · exact h.ord.lt e
  · exact h.jrn.lt e
theorem Mkt.kept {w w' : World} {m : Nat} {s : MkS} {x : Ex.Xch} (h : Mkt w m s x) (e : ∀ k, Foot m s k → w'.heap[k]? = w.heap[k]?) : Mkt w' m s x :=
  { h with
    at_ := h.at_.kept (e m (Or.inl rfl))
    acc := h.acc.kept (e _ (Or.inr (Or.inl rfl)))
    ord := h.ord.kept (fun k hk => e k (Or.inr (Or.inr (Or.inr (Or.inl hk)))))
    prc := h.prc.kept (e _ (Or.inr (Or.inr (Or.inl rfl))))
    jrn := h.jrn.kept (fun k hk => e k (Or.inr (Or.inr (Or.inr (Or.inr hk))))) }
theorem Mkt.below {w w' : World} {m : Nat} {s : MkS} {x : Ex.Xch} (h : Mkt w m s x) (b : Below w.heap.size w w') : Mkt w' m s x := h.kept fun k hk => b.block k (h.foot_lt k hk)
/-- its accounts alone are written. -/
theorem Mkt.onAcc {w w' : World} {m : Nat} {s : MkS} {x x' : Ex.Xch} (h : Mkt w m s x) (o : Onl (· = s.ba) w w') (ha : AccF w' s.ba (qOf x')) (hx : { x with ps := x'.ps, own := x'.own } = x') : Mkt w' m s x' := by
  have A := h.apart
  rw [← hx] at ha ⊢
  exact { at_ := h.at_.kept (o.block m h.at_.lt A.ma)
          acc := ha
          ord := h.ord.kept (fun k hk => o.block k (h.ord.lt hk) (fun e => A.oa (by rw [hk, e])))
          prc := h.prc.kept (o.block _ h.prc.lt (fun e => A.ap e.symm))
          jrn := h.jrn.kept (fun k hk => o.block k (h.jrn.lt hk) (fun e => A.ja (by rw [hk, e])))
          nap := h.nap, per := h.per, cap := h.cap, time := h.time, num := h.num, fin := h.fin, last := h.last, prs := h.prs, fls := h.fls, pay := h.pay, get := h.get, share := h.share }

/-- from w to w': nothing is turned but what is written, and what is new. -/
structure Step (m : Nat) (s : MkS) (w : World) (s' : MkS) (w' : World) : Prop where
  onl : Onl (Foot m s) w w'
  foot : ∀ k, Foot m s' k → Foot m s k ∨ w.heap.size ≤ k
  bd : s'.bd = s.bd
theorem Step.refl (m : Nat) (s : MkS) (w : World) : Step m s w s w := ⟨Onl.refl _ _, fun _ h => Or.inl h, rfl⟩
theorem Step.trans {m : Nat} {s s1 s2 : MkS} {w w1 w2 : World} (h : Step m s w s1 w1) (k : Step m s1 w1 s2 w2) : Step m s w s2 w2 :=
  ⟨h.onl.trans k.onl h.foot, fun i hi => by
    rcases k.foot i hi with h1 | h1
    · exact h.foot i h1
    · exact Or.inr (Nat.le_trans h.onl.size h1), k.bd.trans h.bd⟩
theorem Step.below {m : Nat} {s s1 : MkS} {w w1 w2 : World} (h : Step m s w s1 w1) (b : Below w1.heap.size w1 w2) : Step m s w s1 w2 := ⟨h.onl.below b, h.foot, h.bd⟩
theorem Step.onAcc {m : Nat} {s s1 : MkS} {w w1 w2 : World} (h : Step m s w s1 w1) (o : Onl (· = s1.ba) w1 w2) : Step m s w s1 w2 := ⟨h.onl.trans o (fun i e => by subst e; exact h.foot _ (Or.inr (Or.inl rfl))), h.foot, h.bd⟩
end Go.Proofs.Ytjfifaooimgbaaa
/- What is put in, and taken out. -/
namespace Go.Proofs.Ytjfifaooimgbaaa
open Go.Shelf Go.RowKit Go.Lib Go.Sort

/-- a closure's box: the market. -/
def BoxM (w : World) (X m : Nat) : Prop := w.heap[X]? = some (.cells #[.pointer (some ⟨m, 0, none⟩)] 103 (0, 0))
def BoxG (w : World) (X g : Nat) : Prop := w.heap[X]? = some (.cells #[.int .i64 (g : Int)] 167 (0, 0))
theorem BoxM.lt {w : World} {X m : Nat} (h : BoxM w X m) : X < w.heap.size := (Array.getElem?_eq_some_iff.1 h).1
theorem BoxG.lt {w : World} {X g : Nat} (h : BoxG w X g) : X < w.heap.size := (Array.getElem?_eq_some_iff.1 h).1
theorem BoxM.cell {w : World} {X m : Nat} (h : BoxM w X m) : w.cell? ⟨X, 0, none⟩ = some (.pointer (some ⟨m, 0, none⟩)) := by
  unfold BoxM at h
  simp [World.cell?, h]
theorem BoxG.cell {w : World} {X g : Nat} (h : BoxG w X g) : w.cell? ⟨X, 0, none⟩ = some (.int .i64 (g : Int)) := by
  unfold BoxG at h
  simp [World.cell?, h]
theorem BoxM.kept {w w' : World} {X m : Nat} (h : BoxM w X m) (e : w'.heap[X]? = w.heap[X]?) : BoxM w' X m := e.trans h
theorem BoxG.kept {w w' : World} {X m : Nat} (h : BoxG w X m) (e : w'.heap[X]? = w.heap[X]?) : BoxG w' X m := e.trans h

/-- small enough to be summed up. -/
def Tame (q : Nat → A4) : Prop := ∀ i, i < 21 → (0 ≤ (q i).c ∧ (q i).c ≤ 1125899906842624 ∧ 0 ≤ (q i).h ∧ (q i).h ≤ 1125899906842624) ∧ (0 ≤ (q i).u ∧ (q i).u ≤ 1125899906842624 ∧ 0 ≤ (q i).k ∧ (q i).k ≤ 1125899906842624)
theorem Tame.ok {q : Nat → A4} (h : Tame q) {i : Nat} (hi : i < 21) : (q i).ok := by
  have := h i hi
  exact ⟨⟨by omega, by omega⟩, ⟨by omega, by omega⟩, ⟨by omega, by omega⟩, ⟨by omega, by omega⟩⟩

theorem wrap_u (x : Int) (h0 : 0 ≤ x) (h1 : x < 18446744073709551616) : IntKind.u64.wrap x = x := by
  show (if (IntKind.u64.signed && decide (x % (2 ^ IntKind.u64.bits : Int) ≥ (2 ^ (IntKind.u64.bits - 1) : Int))) = true then x % (2 ^ IntKind.u64.bits : Int) - (2 ^ IntKind.u64.bits : Int) else x % (2 ^ IntKind.u64.bits : Int)) = x
  rw [if_neg (by simp [IntKind.signed])]
  exact Int.emod_eq_of_lt h0 h1

def totalOf (g : Nat) (q : Nat → A4) : Int := smTo (fun i => part g (q i)) 21

/-- what putting in answers, and what all have then. -/
def putCode (a : Nat) (tot : Int) : Int := if a = 0 then 3 else if 1125899906842624 - tot < a then 9 else 0
def putQ (a : Nat) (tot : Int) (q : Nat → A4) (t g : Nat) : Nat → A4 := if a = 0 then q else if 1125899906842624 - tot < a then q else updA q t (chg g a 0 (q t))

set_option maxHeartbeats 2000000 in
set_option maxRecDepth 100000 in
theorem put_deed (w : World) (m X Y g k t a sd pr : Nat) (s : MkS) (q : Nat → A4) (hX : BoxM w X m) (hY : BoxG w Y g) (hM : MkAt w m s) (hA : AccF w s.ba q) (hq : Tame q) (hg : g < 2) (ht : t < 20) (ha : a < 18446744073709551616) (htot : totalOf g q ≤ 1125899906842624) :
    Calls Try.prog 115 #[reqV k t a sd pr, .pointer (some ⟨X, 0, none⟩), .pointer (some ⟨Y, 0, none⟩)] w fun e w' =>
      e = .returned (.tuple #[.int .u8 (putCode a (totalOf g q)), .slice none 0 0]) ∧ AccF w' s.ba (putQ a (totalOf g q) q t g) ∧ Onl (· = s.ba) w w' := by
  have mixed : Try.prog.follows .mixedOrders = true := by kernel_rfl
  have h0 : 0 ≤ totalOf g q := by
    refine (smTo_bd 2251799813685248 21 fun i hi => ?_).1
    have := hq i hi
    unfold part
    split <;> omega
  unfold reqV
  obtain ⟨W, hW⟩ : ∃ W, W = w.alloc (.cells #[.int .i64 (k : Int), .int .i64 (t : Int), .int .u64 (a : Int), .int .i64 (sd : Int), .int .i64 (pr : Int)] 157) := ⟨_, rfl⟩
  have hsz : W.heap.size = w.heap.size + 1 := by rw [hW]; simp
  have bk : ∀ j, j < w.heap.size → W.heap[j]? = w.heap[j]? := fun j hj => by rw [hW]; exact Below.heap_alloc w _ j hj
  have x1 := (hX.kept (bk X hX.lt)).cell
  have y1 := (hY.kept (bk Y hY.lt)).cell
  have m3 := (hM.kept (bk m hM.lt)).all.c3
  have AW : AccF W s.ba q := hA.kept (bk _ hA.lt)
  have r1 : W.cell? ⟨w.heap.size, 1, none⟩ = some (.int .i64 (t : Int)) := by rw [hW]; simp
  have r2 : W.cell? ⟨w.heap.size, 2, none⟩ = some (.int .u64 (a : Int)) := by rw [hW]; simp
  have OW : Onl (· = s.ba) w W := by rw [hW]; exact (Onl.refl _ w).alloc _
  have HT : Aside _ := total_any W.drew s.ba q g AW hg hq
  have HP : Aside (∀ w1, AccF w1 s.ba q → sml a → Calls Try.prog 110 #[.map (some s.ba), .int .i64 t, .int .i64 g, .int .i64 a] w1 fun e w' => e = .returned (.tuple #[]) ∧ AccF w' s.ba (updA q t (chg g a 0 (q t))) ∧ Onl (· = s.ba) w1 w') := fun w1 h1 h2 => put_any w1 s.ba q t g a h1 (by omega) hg (hq.ok (by omega)) h2
  have HAW : Aside (AccF W s.ba q) := AW
  have HOW : Aside (Onl (· = s.ba) w W) := OW
  have BL : Aside (X < W.heap.size ∧ Y < W.heap.size ∧ m < W.heap.size) := ⟨by have := hX.lt; omega, by have := hY.lt; omega, by have := hM.lt; omega⟩
  unfold totalOf at *
  generalize smTo (fun i => part g (q i)) 21 = tot at *
  have hw1 : wrap64 (1125899906842624 - tot) = 1125899906842624 - tot := by unfold wrap64; omega
  have hw2 : IntKind.u64.wrap (1125899906842624 - tot) = 1125899906842624 - tot := wrap_u _ (by omega) (by omega)
  have HC0 : Aside (a = 0 → putCode a tot = 3 ∧ putQ a tot q t g = q) := fun h => by unfold putCode putQ; rw [if_pos h, if_pos h]; exact ⟨rfl, rfl⟩
  have HC1 : Aside (a ≠ 0 → 1125899906842624 - tot < a → putCode a tot = 9 ∧ putQ a tot q t g = q) := fun h h' => by unfold putCode putQ; rw [if_neg h, if_neg h, if_pos h', if_pos h']; exact ⟨rfl, rfl⟩
  have HC2 : Aside (a ≠ 0 → ¬ 1125899906842624 - tot < a → putCode a tot = 0 ∧ putQ a tot q t g = updA q t (chg g a 0 (q t))) := fun h h' => by unfold putCode putQ; rw [if_neg h, if_neg h, if_neg h', if_neg h']; exact ⟨rfl, rfl⟩
  generalize putCode a tot = pc at *
  generalize putQ a tot q t g = pq at *
  clear hX hY hM hA hq AW OW bk
  go_enter Try.func115, Try.ntmps115
  go_wp2_with fail
  rw [← hW]
  clear hW
  go_still_tail 5, mixed
  go_wp2_with fail
  refine Calls.mono (f := 116) HT.out ?_
  rintro e wc ⟨rfl, B1⟩
  have B2 : Aside (Below W.heap.size W wc) := ⟨B1.os, B1.tape, B1.output, B1.size, B1.block⟩
  clear B1
  have x2 := (B2.out.cell (p := ⟨X, 0, none⟩) BL.out.1).trans x1
  have y2 := (B2.out.cell (p := ⟨Y, 0, none⟩) BL.out.2.1).trans y1
  have m4 := (B2.out.cell (p := ⟨m, 3, none⟩) BL.out.2.2).trans m3
  have r3 := (B2.out.cell (p := ⟨w.heap.size, 1, none⟩) (by show w.heap.size < W.heap.size; omega)).trans r1
  have r4 := (B2.out.cell (p := ⟨w.heap.size, 2, none⟩) (by show w.heap.size < W.heap.size; omega)).trans r2
  have HA1 : Aside (AccF wc s.ba q) := AccF.kept HAW.out (B2.out.block _ (AccF.lt HAW.out))
  have HO1 : Aside (Onl (· = s.ba) w wc) := HOW.out.below B2.out
  clear B2 HT x1 y1 m3 r1 r2 HAW HOW BL
  by_cases a0 : a = 0
  · obtain ⟨rfl, rfl⟩ := HC0.out a0
    subst a0
    clear HP HC0 HC1 HC2
    go_wp2
    go_ret2
    exact ⟨rfl, HA1.out, HO1.out⟩
  · have hz : ((a : Int) == 0) = false := beq_eq_false_iff_ne.2 (by omega)
    by_cases hs : 1125899906842624 - tot < a
    · obtain ⟨rfl, rfl⟩ := HC1.out a0 hs
      clear HP HC0 HC1 HC2
      go_wp2
      go_ret2
      exact ⟨rfl, HA1.out, HO1.out⟩
    · obtain ⟨rfl, rfl⟩ := HC2.out a0 (by omega)
      have HP1 : Aside _ := HP.out wc.drew (AccF.kept HA1.out rfl) ⟨by omega, by omega⟩
      clear HP HC0 HC1 HC2
      go_wp2_with fail
      go_still_tail 10, mixed
      go_wp2_with fail
      refine Calls.mono (f := 110) HP1.out ?_
      rintro e w2 ⟨rfl, A2, O2⟩
      go_wp2
      go_ret2
      exact ⟨rfl, A2, HO1.out.drew.trans O2 (fun i hi => Or.inl hi)⟩
end Go.Proofs.Ytjfifaooimgbaaa
