import Derived.Test.YteeplklhbhaicaaBy
import Derived.Test.YteeplklhbhaicaaEx
import Derived.Deep.RegionWith
import Derived.Test.YteeplklhbhaicaaNw
import Derived.Test.YteeplklhbhaicaaNo2
import Derived.Test.YteeplklhbhaicaaFairQ
/- The floor: what sealbidkeep's small functions do, of any exchange that keeps its contract. -/
namespace Go.Proofs.Yteeplklhbhaicaa
open Go.Shelf Go.RowKit Go.Lib Go.Sort

/-- nothing is turned but S's blocks, and what is new. -/
structure Only (S : Nat → Prop) (w w' : World) : Prop where
  os : w'.os = w.os
  tape : w'.tape = w.tape
  output : w'.output = w.output
  size : w.heap.size ≤ w'.heap.size
  block : ∀ k, k < w.heap.size → ¬ S k → w'.heap[k]? = w.heap[k]?

/-- what an exchange is to keep: Rep w S p x: at p lies one in the state x; it has the blocks S. -/
structure Exch (Rep : World → (Nat → Prop) → Nat → Ex.Xch → Prop) : Prop where
  low : ∀ {w S p x}, Rep w S p x → ∀ k, S k → k < w.heap.size
  keep : ∀ {w w' S p x}, Rep w S p x → (∀ k, S k → w'.heap[k]? = w.heap[k]?) → w.heap.size ≤ w'.heap.size → Rep w' S p x
  open_ : ∀ (w : World) (period cap : Int), 1 ≤ period → period ≤ 1125899906842624 → 1 ≤ cap → cap ≤ 20 → Calls Try.prog 41 #[.agg #[.int .i64 period, .int .i64 cap], txt []] w fun e w' => ∃ S p, e = .returned (.tuple #[.pointer (some ⟨p, 0, none⟩), .int .i64 0]) ∧ Rep w' S p (Ex.openX period cap) ∧ (∀ k, S k → w.heap.size ≤ k) ∧ Below w.heap.size w w'
  do_ : ∀ (w : World) (S : Nat → Prop) (p : Nat) (x : Ex.Xch) (now : Int) (r : List UInt8), Rep w S p x → Ex.Ok x → 0 ≤ now → now ≤ 9223372036854775807 → x.jr.length ≤ 1099511627776 → r.length ≤ 1000 →
    Calls Try.prog 43 #[.pointer (some ⟨p, 0, none⟩), .int .i64 now, txt r] w fun e w' => ∃ S', e = .returned (.tuple #[txt (Ex.doX x now r).2, .int .i64 0]) ∧ Rep w' S' p (Ex.doX x now r).1 ∧ (∀ k, S' k → S k ∨ w.heap.size ≤ k) ∧ Only S w w'

variable {Rep : World → (Nat → Prop) → Nat → Ex.Xch → Prop}

/-- a floor lies in the block f. -/
def FloorAt (w : World) (f p : Nat) (now cash units : Int) : Prop := w.heap[f]? = some (.cells #[.pointer (some ⟨p, 0, none⟩), .int .i64 now, .int .i64 cash, .int .i64 units] 61 (0, 0))

theorem blk_cell {w : World} {X : Nat} {cs : Array Value} {t : TypeId} {f : Nat × Nat} (h : w.heap[X]? = some (.cells cs t f)) (j : Nat) : w.cell? ⟨X, j, none⟩ = cs[j]? := by
  simp [World.cell?, h]

set_option maxHeartbeats 1000000 in
set_option maxRecDepth 100000 in
theorem asks_any (E : Exch Rep) {w : World} {S : Nat → Prop} {p : Nat} {x : Ex.Xch} (hR : Rep w S p x) (ok : Ex.Ok x) (f : Nat) (now cash units : Int) (hf : FloorAt w f p now cash units) (r : List UInt8) (h0 : 0 ≤ now) (h1 : now ≤ 9223372036854775807) (hj : x.jr.length ≤ 1099511627776) (hr : r.length ≤ 1000) :
    Calls Try.prog 28 #[.pointer (some ⟨f, 0, none⟩), txt r] w fun e w' => ∃ S', e = .returned (txt (Ex.doX x now r).2) ∧ Rep w' S' p (Ex.doX x now r).1 ∧ (∀ k, S' k → S k ∨ w.heap.size ≤ k) ∧ Only S w w' := by
  have mixed : Try.prog.follows .mixedOrders = true := by kernel_rfl
  have hc : Calls Try.prog 43 #[.pointer (some ⟨p, 0, none⟩), .int .i64 now, txt r] w.drew fun e w' => ∃ S', e = .returned (.tuple #[txt (Ex.doX x now r).2, .int .i64 0]) ∧ Rep w' S' p (Ex.doX x now r).1 ∧ (∀ k, S' k → S k ∨ w.heap.size ≤ k) ∧ Only S w w'   := by
    refine (E.do_ w.drew S p x now r (E.keep hR (fun _ _ => rfl) (Nat.le_refl _)) ok h0 h1 hj hr).mono ?_
    rintro e w' ⟨S', q1, q2, q3, q4⟩
    exact ⟨S', q1, q2, q3, ⟨q4.os, q4.tape, q4.output, q4.size, q4.block⟩⟩
  have c0 := blk_cell hf 0
  have c1 := blk_cell hf 1
  have x0 : w.cell? ⟨f, 0, none⟩ = some (.pointer (some ⟨p, 0, none⟩)) := c0
  have x1 : w.cell? ⟨f, 1, none⟩ = some (.int .i64 now) := c1
  clear hR hf c0 c1
  unfold txt at *
  go_enter Try.func28, Try.ntmps28
  go_wp2_with fail
  go_region_with (go_at_call 43; refine hc.mono ?_; rintro e w' ⟨S', rfl, q2, q3, q4⟩)
  all_goals go_wp2
  all_goals go_ret
  all_goals exact ⟨S', rfl, q2, q3, q4⟩
#print axioms asks_any
end Go.Proofs.Yteeplklhbhaicaa
/- The contract of an exchange: Do. -/
namespace Go.Proofs.Yteeplklhbhaicaa
open Go.Shelf Go.RowKit Go.Lib Go.Sort

/-- at p lies an exchange in the state x; it has the blocks S. -/
def RepX (w : World) (S : Nat → Prop) (p : Nat) (x : Ex.Xch) : Prop :=
  ∃ m s bx gx, w.heap[p]? = some (.cells #[.pointer (some ⟨m, 0, none⟩)] 115 (0, 0)) ∧ Mkt w m s x ∧ Bxs w s.bd m bx gx ∧ (s.bd ≠ s.ba ∧ s.bd ≠ s.bp) ∧ Inv x ∧ S = (fun k => k = p ∨ Foot m s k ∨ BFoot s.bd bx gx k)

theorem rep_low {w : World} {S : Nat → Prop} {p : Nat} {x : Ex.Xch} (h : RepX w S p x) : ∀ k, S k → k < w.heap.size := by
  obtain ⟨m, s, bx, gx, h1, h2, h3, _, _, rfl⟩ := h
  rintro k (rfl | hk | hk)
  · exact (Array.getElem?_eq_some_iff.1 h1).1
  · exact h2.foot_lt k hk
  · exact h3.lt k hk
theorem rep_keep {w w' : World} {S : Nat → Prop} {p : Nat} {x : Ex.Xch} (h : RepX w S p x) (e : ∀ k, S k → w'.heap[k]? = w.heap[k]?) : RepX w' S p x := by
  obtain ⟨m, s, bx, gx, h1, h2, h3, h4, h5, rfl⟩ := h
  exact ⟨m, s, bx, gx, (e p (Or.inl rfl)).trans h1, h2.kept (fun k hk => e k (Or.inr (Or.inl hk))), h3.kept (fun k hk => e k (Or.inr (Or.inr hk))), h4, h5, rfl⟩
theorem foot_not115 {w : World} {m : Nat} {s : MkS} {x : Ex.Xch} (hK : Mkt w m s x) {p : Nat} {c : Array Value} (hp : w.heap[p]? = some (.cells c 115 (0, 0))) : ¬ Foot m s p := fun hf => by
  have hm : w.heap[m]? = _ := hK.at_
  rcases hf with e | e | e | e | e
  · rw [e, hm] at hp; injection hp with hp; injection hp with _ hp; revert hp; decide
  · obtain ⟨es, ec, h⟩ := hK.acc.block
    rw [e, h] at hp; cases hp
  · obtain ⟨es, ec, h⟩ := hK.prc.block
    rw [e, h] at hp; cases hp
  · obtain ⟨cur, h⟩ := row_block hK.ord e
    rw [h] at hp; injection hp with hp; injection hp with _ hp; revert hp; decide
  · obtain ⟨cur, h⟩ := row_block hK.jrn e
    rw [h] at hp; injection hp with hp; injection hp with _ hp; revert hp; decide

/-- whatever is asked, however long. -/
theorem answer_all {w : World} {m : Nat} {s : MkS} {x : Ex.Xch} {bx gx : Nat → Nat} (hK : Mkt w m s x) (ok : Ex.Ok x) (hB : Bxs w s.bd m bx gx) (hb : x.batch < 1152921504606846976) (hj : x.jr.length ≤ 17592186044416) (r : List UInt8) :
    Calls Try.prog 74 #[.pointer (some ⟨m, 0, none⟩), .string ⟨r.toArray⟩] w (Ans m s w (Ex.written (Ex.answerX x r).1 r (Ex.answerX x r).2, (Ex.answerX x r).2)) := by
  by_cases hr : r.length ≤ 1000
  · exact answer_any cancel_ok hK ok hB hb hj r hr
  · cases r with
    | nil => simp at hr
    | cons k rest =>
      have hl : Ex.longOf k.toNat ≤ 10 := by
        unfold Ex.longOf
        repeat' split
        all_goals omega
      have e : Ex.answerX x (k :: rest) = (x, [1]) := by
        unfold Ex.answerX
        exact if_pos (Or.inr (by show (k :: rest).length ≠ Ex.longOf k.toNat; omega))
      rw [e]
      exact ans_no hK _ 1 (by decide) 0 0 0 0 0 (read_len k rest w (by rw [List.length_cons] at hr; omega))
theorem rep_do (w : World) (S : Nat → Prop) (p : Nat) (x : Ex.Xch) (now : Int) (r : List UInt8) (hR : RepX w S p x) (ok : Ex.Ok x) (h0 : -9223372036854775808 ≤ now) (h1 : now ≤ 9223372036854775807) (hj : x.jr.length ≤ 1099511627776) :
    Calls Try.prog 43 #[.pointer (some ⟨p, 0, none⟩), .int .i64 now, txt r] w fun e w' => ∃ S', e = .returned (.tuple #[txt (Ex.doX x now r).2, .int .i64 0]) ∧ RepX w' S' p (Ex.doX x now r).1 ∧ (∀ k, S' k → S k ∨ w.heap.size ≤ k) ∧ Only S w w' := by
  obtain ⟨m, s, bx, gx, hp, hK, hB, nb, inv, rfl⟩ := hR
  have hbt : x.batch < 1152921504606846976 := by have := inv.num; omega
  have hb2 : x.batch ≤ 1099511627777 := by have := inv.num; omega
  have ap := hB.apart hK nb
  have np := foot_not115 hK hp
  have hpl : p < w.heap.size := (Array.getElem?_eq_some_iff.1 hp).1
  have cj := cleared_jr x now
  have okc := (Ex.cleared_ok (Ex.timed_ok ok now)).1
  have hD := marketDo_any w m s x now r hK ok ⟨h0, h1⟩ hbt (by omega) (fun w1 s1 k1 st => by
    have hB1 : Bxs w1 s1.bd m bx gx := by
      rw [st.bd]
      exact hB.kept (fun j hjj => st.onl.block j (hB.lt j hjj) (ap j hjj))
    exact answer_all k1 okc hB1 (by omega) (by omega) r) (by
      have : (Ex.doX x now r).2 = (Ex.answerX (Ex.cleared (Ex.timed x now)) r).2 := rfl
      rw [this]
      have := answer_len (Ex.cleared (Ex.timed x now)) r
      omega)
  have hE := exchangeDo_any w p m now r (fun l w' => l = (Ex.doX x now r).2 ∧ ∃ s', Mkt w' m s' (Ex.doX x now r).1 ∧ Step m s w s' w') hp (hD.mono (by
    rintro e w' ⟨s', rfl, q1, q2⟩
    exact ⟨_, rfl, rfl, s', q1, q2⟩))
  refine Calls.mono hE ?_
  rintro e w' ⟨l, rfl, rfl, s', k', st⟩
  have hB' : Bxs w' s'.bd m bx gx := by
    rw [st.bd]
    exact hB.kept (fun j hjj => st.onl.block j (hB.lt j hjj) (ap j hjj))
  have nf : ∀ j, BFoot s.bd bx gx j → ¬ Foot m s' j := fun j hjj hf => by
    rcases st.foot j hf with h | h
    · exact ap j hjj h
    · have := hB.lt j hjj
      omega
  have nbd := nf s.bd (Or.inl rfl)
  refine ⟨fun k => k = p ∨ Foot m s' k ∨ BFoot s'.bd bx gx k, rfl, ⟨m, s', bx, gx, (st.onl.block p hpl np).trans hp, k', hB', ⟨fun e => nbd (Or.inr (Or.inl (by rw [← st.bd]; exact e))), fun e => nbd (Or.inr (Or.inr (Or.inl (by rw [← st.bd]; exact e))))⟩, inv_do inv now r, rfl⟩, ?_, ?_⟩
  · rintro k (rfl | hk | hk)
    · exact Or.inl (Or.inl rfl)
    · rcases st.foot k hk with h | h
      · exact Or.inl (Or.inr (Or.inl h))
      · exact Or.inr h
    · rw [st.bd] at hk
      exact Or.inl (Or.inr (Or.inr hk))
  · exact ⟨st.onl.os, st.onl.tape, st.onl.output, st.onl.size, fun k hk hs => st.onl.block k hk (fun h => hs (Or.inr (Or.inl h)))⟩
#print axioms rep_do
end Go.Proofs.Yteeplklhbhaicaa
/- Open, over a new market. -/
namespace Go.Proofs.Yteeplklhbhaicaa
open Go.Shelf Go.RowKit Go.Lib Go.Sort

/-- a market that has done nothing. -/
def mk0' (per cap : Int) (A P M : Nat) : MkS := ⟨per, cap, 0, A, 1, per, .slice none 0 0, kL [], (setL []).1, (setL []).2.1, (setL []).2.2, shareL [], P, .slice none 0 0, M⟩
/-- what New is to do. -/
def NewOk : Prop := ∀ (w : World) (per cap : Int), Calls Try.prog 59 #[.agg #[.int .i64 per, .int .i64 cap]] w fun e w' => ∃ m A P M bx gx, e = .returned (.pointer (some ⟨m, 0, none⟩)) ∧ MkAt w' m (mk0' per cap A P M) ∧ MapF Try.prog 3 w' A 21 (fun _ => none) ∧ MapF Try.prog 3 w' P 20 (fun _ => none) ∧ Bxs w' M m bx gx ∧ (A ≠ P ∧ M ≠ A ∧ M ≠ P) ∧ (w.heap.size ≤ m ∧ w.heap.size ≤ A ∧ w.heap.size ≤ P ∧ ∀ j, BFoot M bx gx j → w.heap.size ≤ j) ∧ Below w.heap.size w w'

set_option maxHeartbeats 4000000 in
set_option maxRecDepth 100000 in
theorem rep_open (NO : NewOk) (w : World) (per cap : Int) (h1 : 1 ≤ per) (h2 : per ≤ 1125899906842624) (h3 : 1 ≤ cap) (h4 : cap ≤ 20) : Calls Try.prog 41 #[.agg #[.int .i64 per, .int .i64 cap], txt []] w fun e w' => ∃ S p, e = .returned (.tuple #[.pointer (some ⟨p, 0, none⟩), .int .i64 0]) ∧ RepX w' S p (Ex.openX per cap) ∧ (∀ k, S k → w.heap.size ≤ k) ∧ Below w.heap.size w w' := by
  have mixed : Try.prog.follows .mixedOrders = true := by kernel_rfl
  have HN : Aside (∀ w1, _) := fun w1 => NO w1 per cap
  have d1 : decide (per < 1) = false := decide_eq_false (by omega)
  have d2 : decide (1125899906842624 < per) = false := decide_eq_false (by omega)
  have d3 : decide (cap < 1) = false := decide_eq_false (by omega)
  have d4 : decide (20 < cap) = false := decide_eq_false (by omega)
  have B0 : Aside (Below w.heap.size w (w.alloc (.cells #[.int .i64 per, .int .i64 cap] 68))) := (Below.refl _ w).alloc (Nat.le_refl _) _
  unfold txt
  clear NO
  go_enter Try.func41, Try.ntmps41
  go_wp2_with fail
  refine Calls.mono (f := 59) (HN.out _) ?_
  rintro e w1 ⟨m, A, P, M, bx, gx, rfl, q1, q2, q3, q4, q5, q6, q7⟩
  have HQ : Aside _ := And.intro q1 (And.intro q2 (And.intro q3 (And.intro q4 (And.intro q5 (And.intro q6 q7)))))
  clear q1 q2 q3 q4 q5 q6 q7
  go_wp2
  go_ret2
  obtain ⟨q1, q2, q3, q4, q5, q6, q7⟩ := HQ.out
  have sz : w.heap.size + 1 ≤ w1.heap.size := by have := q7.size; simp at this; omega
  have nn : ∀ j, j < w1.heap.size → (w1.alloc (.cells #[.pointer (some ⟨m, 0, none⟩)] 115)).heap[j]? = w1.heap[j]? := fun j hj => Below.heap_alloc w1 _ j hj
  have bw : Below w.heap.size w w1 := B0.out.trans ⟨q7.os, q7.tape, q7.output, q7.size, fun k hk => q7.block k (by simp; omega)⟩
  have K : Mkt w1 m (mk0' per cap A P M) (Ex.openX per cap) := by
    refine { at_ := q1, acc := ⟨_, q2, fun i hi => ?_⟩, ord := ORow.nil _, prc := ?_, jrn := BRow.nil _, nap := q5.1, per := rfl, cap := rfl, time := rfl, num := rfl, fin := rfl, last := rfl, prs := rfl, fls := rfl, pay := rfl, get := rfl, share := rfl }
    · unfold qOf
      split <;> rfl
    · have e : prOf (Ex.openX per cap) = fun _ => none := rfl
      rw [e]; exact q3
  refine ⟨_, w1.heap.size, rfl, ⟨m, mk0' per cap A P M, bx, gx, heap_alloc_new w1 _, K.kept (fun k hk => nn k (K.foot_lt k hk)), q4.kept (fun j hj => nn j (q4.lt j hj)), ⟨q5.2.1, q5.2.2⟩, ⟨by show (1 : Int) ≤ _; simp [Ex.openX]⟩, rfl⟩, ?_, ?_⟩
  · have s0 : (w.alloc (.cells #[.int .i64 per, .int .i64 cap] 68)).heap.size = w.heap.size + 1 := by simp
    rw [s0] at q6
    rintro k (rfl | hk | hk)
    · omega
    · rcases hk with rfl | rfl | rfl | hk | hk
      · omega
      · exact Nat.le_trans (Nat.le_succ _) q6.2.1
      · exact Nat.le_trans (Nat.le_succ _) q6.2.2.1
      · exact absurd hk (by simp [mk0', Value.ownBlock])
      · exact absurd hk (by simp [mk0', Value.ownBlock])
    · have := q6.2.2.2 k hk
      omega
  · exact bw.alloc (by have := bw.size; omega) _
end Go.Proofs.Yteeplklhbhaicaa
/- The landed exchange keeps the contract. -/
namespace Go.Proofs.Yteeplklhbhaicaa
open Go.Shelf Go.RowKit Go.Lib Go.Sort
theorem exch : Exch RepX where
  low := rep_low
  keep := fun h e _ => rep_keep h e
  open_ := rep_open new_any
  do_ := fun w S p x now r hR ok h0 h1 hj _ => rep_do w S p x now r hR ok (by omega) h1 hj
end Go.Proofs.Yteeplklhbhaicaa
/- The best are picked out again and again: no program in this text. -/
namespace Go.Proofs.Yteeplklhbhaicaa
open Go.Shelf Go.RowKit Go.Lib Go.Sort

/-- the line of a side. -/
def lineOf (side : Int) (l : List (Int × Int)) : List (Int × Int) := if side = 0 then buyersOf l else sellersOf l
/-- is x ahead of y? -/
def ahead (side : Int) (x y : Int × Int) : Prop := if side = 0 then (y.2 < x.2 ∨ (x.2 = y.2 ∧ x.1 < y.1)) else (x.2 < y.2 ∨ (x.2 = y.2 ∧ x.1 < y.1))
def at2 (l : List (Int × Int)) (i : Nat) : Int × Int := ((i : Int), (l.getD i (0, 0)).2)

theorem ahead_trans {side : Int} {x y z : Int × Int} (h1 : ahead side x y) (h2 : ahead side y z) : ahead side x z := by
  unfold ahead at *
  split <;> rename_i hs
  · rw [if_pos hs] at h1 h2; omega
  · rw [if_neg hs] at h1 h2; omega
theorem ahead_irrefl {side : Int} {x y : Int × Int} (h1 : ahead side x y) (h2 : ahead side y x) : False := by
  unfold ahead at *
  split at h1 <;> rename_i hs
  · rw [if_pos hs] at h2; omega
  · rw [if_neg hs] at h2; omega

/-- b is the best of the first i that are not taken. -/
def BestIs (side : Int) (l : List (Int × Int)) (tk : List Bool) (i : Nat) (b : Int) : Prop :=
  (b = -1 ∧ ∀ j, j < i → Clr.okB side (l.getD j (0, 0)) = true → tk.getD j false = true) ∨
  (∃ n : Nat, b = (n : Int) ∧ n < i ∧ Clr.okB side (l.getD n (0, 0)) = true ∧ tk.getD n false = false ∧
    ∀ j, j < i → Clr.okB side (l.getD j (0, 0)) = true → tk.getD j false = false → j ≠ n → ahead side (at2 l n) (at2 l j))

theorem BestIs.start (side : Int) (l : List (Int × Int)) (tk : List Bool) : BestIs side l tk 0 (-1) := Or.inl ⟨rfl, fun _ hj => absurd hj (Nat.not_lt_zero _)⟩
theorem BestIs.miss {side : Int} {l : List (Int × Int)} {tk : List Bool} {i : Nat} {b : Int} (h : BestIs side l tk i b) (hm : Clr.okB side (l.getD i (0, 0)) = false ∨ tk.getD i false = true) : BestIs side l tk (i + 1) b := by
  rcases h with ⟨hb, h⟩ | ⟨n, hb, h1, h2, h3, h4⟩
  · refine Or.inl ⟨hb, fun j hj hok => ?_⟩
    by_cases e : j = i
    · subst e; rcases hm with hm | hm
      · rw [hm] at hok; cases hok
      · exact hm
    · exact h j (by omega) hok
  · refine Or.inr ⟨n, hb, by omega, h2, h3, fun j hj hok ht hne => ?_⟩
    by_cases e : j = i
    · subst e; rcases hm with hm | hm
      · rw [hm] at hok; cases hok
      · rw [hm] at ht; cases ht
    · exact h4 j (by omega) hok ht hne
theorem BestIs.first {side : Int} {l : List (Int × Int)} {tk : List Bool} {i : Nat} (h : BestIs side l tk i (-1)) (hok : Clr.okB side (l.getD i (0, 0)) = true) (ht : tk.getD i false = false) : BestIs side l tk (i + 1) (i : Int) := by
  rcases h with ⟨_, h⟩ | ⟨n, hb, _⟩
  · refine Or.inr ⟨i, rfl, by omega, hok, ht, fun j hj hokj htj hne => ?_⟩
    have := h j (by omega) hokj
    rw [this] at htj; cases htj
  · omega
theorem BestIs.better {side : Int} {l : List (Int × Int)} {tk : List Bool} {i n : Nat} (h : BestIs side l tk i (n : Int)) (hok : Clr.okB side (l.getD i (0, 0)) = true) (ht : tk.getD i false = false)
    (hp : if side = 0 then (l.getD n (0, 0)).2 < (l.getD i (0, 0)).2 else (l.getD i (0, 0)).2 < (l.getD n (0, 0)).2) : BestIs side l tk (i + 1) (i : Int) := by
  rcases h with ⟨hb, _⟩ | ⟨m, hb, h1, h2, h3, h4⟩
  · omega
  · obtain rfl : n = m := by omega
    have hin : ahead side (at2 l i) (at2 l n) := by
      unfold ahead at2
      split <;> rename_i hs
      · rw [if_pos hs] at hp; exact Or.inl hp
      · rw [if_neg hs] at hp; exact Or.inl hp
    refine Or.inr ⟨i, rfl, by omega, hok, ht, fun j hj hokj htj hne => ?_⟩
    by_cases e : j = n
    · subst e; exact hin
    · exact ahead_trans hin (h4 j (by omega) hokj htj e)
theorem BestIs.keep {side : Int} {l : List (Int × Int)} {tk : List Bool} {i n : Nat} (h : BestIs side l tk i (n : Int))
    (hp : ¬ (if side = 0 then (l.getD n (0, 0)).2 < (l.getD i (0, 0)).2 else (l.getD i (0, 0)).2 < (l.getD n (0, 0)).2)) : BestIs side l tk (i + 1) (n : Int) := by
  rcases h with ⟨hb, _⟩ | ⟨m, hb, h1, h2, h3, h4⟩
  · omega
  · obtain rfl : n = m := by omega
    refine Or.inr ⟨n, rfl, by omega, h2, h3, fun j hj hokj htj hne => ?_⟩
    by_cases e : j = i
    · subst e
      unfold ahead at2
      split <;> rename_i hs
      · rw [if_pos hs] at hp; simp only; omega
      · rw [if_neg hs] at hp; simp only; omega
    · exact h4 j (by omega) hokj htj hne

/-- the first m of the line are taken, and no other. -/
def TakenIs (side : Int) (l : List (Int × Int)) (m : Nat) (tk : List Bool) : Prop :=
  tk.length = l.length ∧ ∀ j, j < l.length → (tk.getD j false = true ↔ ∃ t, t < m ∧ ((lineOf side l).getD t (-1, 0)).1 = (j : Int))

theorem line_in (side : Int) (hs : side = 0 ∨ side = 1) (l : List (Int × Int)) (j : Nat) (hj : j < l.length) (hok : Clr.okB side (l.getD j (0, 0)) = true) : ∃ t, ∃ ht : t < (lineOf side l).length, (lineOf side l)[t] = at2 l j := by
  rcases hs with rfl | rfl
  · exact in_buyers l j hj hok
  · exact in_sellers l j hj hok
theorem line_place (side : Int) (hs : side = 0 ∨ side = 1) (l : List (Int × Int)) (t : Nat) (ht : t < (lineOf side l).length) : ∃ j : Nat, j < l.length ∧ (lineOf side l)[t] = at2 l j ∧ Clr.okB side (l.getD j (0, 0)) = true := by
  rcases hs with rfl | rfl
  · have ht' : t < (buyersOf l).length := ht
    have h := Clr.candTo_place 0 l l.length _ ((buyers_perm l).mem_iff.1 (List.getElem_mem ht'))
    refine ⟨((buyersOf l)[t]).1.toNat, by omega, ?_, h.2.2.2.2.2⟩
    show (buyersOf l)[t] = _
    refine Prod.ext ?_ h.2.2.2.2.1
    show _ = ((((buyersOf l)[t]).1.toNat : Nat) : Int)
    omega
  · have ht' : t < (sellersOf l).length := ht
    have h := Clr.candTo_place 1 l l.length _ ((sellers_perm l).mem_iff.1 (List.getElem_mem ht'))
    refine ⟨((sellersOf l)[t]).1.toNat, by omega, ?_, h.2.2.2.2.2⟩
    show (sellersOf l)[t] = _
    refine Prod.ext ?_ h.2.2.2.2.1
    show _ = ((((sellersOf l)[t]).1.toNat : Nat) : Int)
    omega
theorem line_ne (side : Int) (hs : side = 0 ∨ side = 1) (l : List (Int × Int)) (t u : Nat) (ht : t < (lineOf side l).length) (hu : u < (lineOf side l).length) (h : ((lineOf side l)[t]).1 = ((lineOf side l)[u]).1) : t = u := by
  have key : ∀ s : List (Int × Int), s.Pairwise (fun x y => x.1.toNat ≠ y.1.toNat) → ∀ (ht : t < s.length) (hu : u < s.length), (s[t]).1 = (s[u]).1 → t = u := fun s hp ht hu h => by
    rcases Nat.lt_trichotomy t u with h1 | h1 | h1
    · exact absurd (by rw [h]) (List.pairwise_iff_getElem.1 hp t u ht hu h1)
    · exact h1
    · exact absurd (by rw [h]) (List.pairwise_iff_getElem.1 hp u t hu ht h1)
  rcases hs with rfl | rfl
  · exact key _ (buyers_ne l) ht hu h
  · exact key _ (sellers_ne l) ht hu h
theorem line_sorted (side : Int) (hs : side = 0 ∨ side = 1) (l : List (Int × Int)) (t u : Nat) (hu : u < (lineOf side l).length) (h : t < u) : ¬ ahead side (lineOf side l)[u] (lineOf side l)[t] := by
  rcases hs with rfl | rfl
  · exact (bLt_no _ _).1 (List.pairwise_iff_getElem.1 (buyers_sorted l) t u (by have : u < (buyersOf l).length := hu; omega) hu h)
  · exact (sLt_no _ _).1 (List.pairwise_iff_getElem.1 (sellers_sorted l) t u (by have : u < (sellersOf l).length := hu; omega) hu h)

theorem line_getD {side : Int} {l : List (Int × Int)} {t : Nat} (ht : t < (lineOf side l).length) : (lineOf side l).getD t (-1, 0) = (lineOf side l)[t] := by
  rw [List.getD_eq_getElem?_getD, List.getElem?_eq_getElem ht]; rfl

/-- where the best is looked for among all: it is the next of the line, or there is none. -/
theorem best_next {side : Int} (hs : side = 0 ∨ side = 1) {l : List (Int × Int)} {tk : List Bool} {m : Nat} {b : Int} (hm : m ≤ (lineOf side l).length) (hT : TakenIs side l m tk) (h : BestIs side l tk l.length b) :
    (b = -1 ∧ m = (lineOf side l).length) ∨ (∃ n : Nat, b = (n : Int) ∧ n < l.length ∧ m < (lineOf side l).length ∧ ((lineOf side l).getD m (-1, 0)).1 = (n : Int)) := by
  by_cases hlt : m < (lineOf side l).length
  · right
    obtain ⟨j, hj, ej, hokj⟩ := line_place side hs l m hlt
    have htj : tk.getD j false = false := by
      cases hc : tk.getD j false with
      | false => rfl
      | true =>
        exfalso
        obtain ⟨t, ht, et⟩ := (hT.2 j hj).1 hc
        have ht' : t < (lineOf side l).length := by omega
        rw [line_getD ht'] at et
        have := line_ne side hs l t m ht' hlt (by rw [et, ej]; rfl)
        omega
    rcases h with ⟨_, h⟩ | ⟨n, hb, h1, h2, h3, h4⟩
    · have := h j hj hokj; rw [this] at htj; cases htj
    · refine ⟨n, hb, h1, hlt, ?_⟩
      rw [line_getD hlt, ej]
      show (j : Int) = (n : Int)
      by_cases e : j = n
      · rw [e]
      · exfalso
        have ha := h4 j hj hokj htj e
        obtain ⟨u, hu, eu⟩ := line_in side hs l n h1 h2
        have hum : ¬ u < m := fun hc => by
          have := (hT.2 n h1).2 ⟨u, hc, by rw [line_getD hu, eu]; rfl⟩
          rw [this] at h3; cases h3
        rcases Nat.lt_or_ge m u with hc | hc
        · have := line_sorted side hs l m u hu hc
          rw [eu, ej] at this
          exact this ha
        · obtain rfl : u = m := by omega
          rw [eu] at ej
          have : ((n : Nat) : Int) = (j : Int) := congrArg Prod.fst ej
          omega
  · left
    obtain rfl : m = (lineOf side l).length := by omega
    rcases h with ⟨hb, _⟩ | ⟨n, hb, h1, h2, h3, h4⟩
    · exact ⟨hb, rfl⟩
    · exfalso
      obtain ⟨u, hu, eu⟩ := line_in side hs l n h1 h2
      have := (hT.2 n h1).2 ⟨u, hu, by rw [line_getD hu, eu]; rfl⟩
      rw [this] at h3; cases h3

theorem TakenIs.start (side : Int) (l : List (Int × Int)) : TakenIs side l 0 (List.replicate l.length false) := by
  refine ⟨by simp, fun j hj => ⟨fun h => ?_, fun ⟨t, ht, _⟩ => absurd ht (Nat.not_lt_zero _)⟩⟩
  rw [List.getD_eq_getElem?_getD, List.getElem?_replicate] at h
  split at h <;> simp at h
theorem TakenIs.next {side : Int} {l : List (Int × Int)} {m : Nat} {tk : List Bool} (h : TakenIs side l m tk) {n : Nat} (hn : n < l.length) (e : ((lineOf side l).getD m (-1, 0)).1 = (n : Int)) : TakenIs side l (m + 1) (tk.set n true) := by
  refine ⟨by rw [List.length_set]; exact h.1, fun j hj => ?_⟩
  by_cases ej : j = n
  · subst ej
    rw [List.getD_eq_getElem?_getD, List.getElem?_set_self (by rw [h.1]; exact hn)]
    exact ⟨fun _ => ⟨m, by omega, e⟩, fun _ => rfl⟩
  · rw [List.getD_eq_getElem?_getD, List.getElem?_set_ne (fun hc => ej hc.symm), ← List.getD_eq_getElem?_getD, h.2 j hj]
    constructor
    · rintro ⟨t, ht, et⟩; exact ⟨t, by omega, et⟩
    · rintro ⟨t, ht, et⟩
      by_cases e2 : t = m
      · subst e2; rw [e] at et; omega
      · exact ⟨t, by omega, et⟩
theorem take_next {side : Int} {l : List (Int × Int)} {m : Nat} {n : Nat} (hm : m < (lineOf side l).length) (e : ((lineOf side l).getD m (-1, 0)).1 = (n : Int)) : ((lineOf side l).take (m + 1)).map (fun x => x.1) = ((lineOf side l).take m).map (fun x => x.1) ++ [(n : Int)] := by
  rw [List.take_add_one, List.getElem?_eq_getElem hm, List.map_append]
  rw [line_getD hm] at e
  simp [e]
theorem line_le (side : Int) (hs : side = 0 ∨ side = 1) (l : List (Int × Int)) : (lineOf side l).length ≤ l.length := by
  rcases hs with rfl | rfl
  · exact buyers_le l
  · exact sellers_le l
end Go.Proofs.Yteeplklhbhaicaa
