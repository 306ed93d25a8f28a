import Derived.Test.YtjfifaooimgbaaaCb
import Derived.Test.YtjfifaooimgbaaaNw
import Derived.Test.YtjfifaooimgbaaaSym
import Derived.Test.YtjfifaooimgbaaaEx
import Derived.Deep.RegionWith
import Derived.Test.YtjfifaooimgbaaaNb3
/- Cancelling, against the exchange without a program. -/
namespace Go.Proofs.Ytjfifaooimgbaaa
open Go.Shelf Go.RowKit Go.Lib Go.Sort

theorem cancel_ok : CancelOk := fun w m X t s x hX hK ok ht => by
  have len : x.ords.length ≤ 20 := by have := ok.len; have := ok.cap; omega
  unfold Ex.cancelX
  rcases find_idx x.ords t with ⟨h1, h2⟩ | ⟨i, hi, h1, h2, h3⟩
  · rw [h2]
    refine (cancel_no w m X 6 t 0 0 0 s x.ords hX hK.at_ hK.ord (by omega) (by unfold placeX; rw [h1]; decide)).mono ?_
    rintro e w' ⟨rfl, B⟩
    exact deed_below hK 10 B
  · rw [h2]
    dsimp only
    have OO := ok.ord _ (Ex.getD_mem x.ords hi)
    have hsm : sml (stakeOf (x.ords.getD i ⟨0, 0, 0⟩)) := by
      unfold stakeOf
      split
      · exact ⟨by omega, by omega⟩
      · exact ⟨by decide, by decide⟩
    refine (cancel_yes w m X 6 t 0 0 0 i s (qOf x) x.ords hX hK.at_ hK.acc hK.ord (tame_of ok) ht (by omega) hi (by unfold placeX; rw [h1]) hsm).mono ?_
    rintro e w' ⟨v, rfl, b1, b2, b3, b4, b5⟩
    refine ⟨{ s with ov := v }, .slice none 0 0, 0, [], rfl, rfl, BRow.nil _, fun j hj => by simp [Value.ownBlock] at hj, hK.onOrd v _ _ b1 b4 ?_ (by rw [without_erase x.ords t i ok.ones h1]; exact b3), Step.onOrd v b4 b5, rfl⟩
    have e : qOf { x with ps := Ex.upd x.ps t (Ex.freed (x.ps t) (x.ords.getD i ⟨0, 0, 0⟩)), ords := Ex.without x.ords t } = updA (qOf x) t (chg (goodOf (x.ords.getD i ⟨0, 0, 0⟩).side) (stakeOf (x.ords.getD i ⟨0, 0, 0⟩)) (-(stakeOf (x.ords.getD i ⟨0, 0, 0⟩))) (qOf x t)) := by
      have e1 := qOf_upd x t ht (Ex.freed (x.ps t) (x.ords.getD i ⟨0, 0, 0⟩))
      have e2 : qOf { x with ps := Ex.upd x.ps t (Ex.freed (x.ps t) (x.ords.getD i ⟨0, 0, 0⟩)), ords := Ex.without x.ords t } = qOf { x with ps := Ex.upd x.ps t (Ex.freed (x.ps t) (x.ords.getD i ⟨0, 0, 0⟩)) } := rfl
      rw [e2, e1, qOf_at x t ht]
      congr 1
      unfold chg goodOf stakeOf Ex.freed
      by_cases hs : (x.ords.getD i ⟨0, 0, 0⟩).side = 0
      · simp only [hs, if_true]
        congr 1
      · simp only [hs, if_false, show ¬ ((1 : Nat) = 0) by decide]
        congr 1
    rw [e]
    exact b2

/-- what stays, beside Ok: the number of the last batch; the journal counts the batches. -/
structure Inv (x : Ex.Xch) : Prop where
  num : x.batch ≤ x.jr.length + 1
theorem record_len (t : Int) (r : List UInt8) : (Ex.record t r).length = r.length + 10 := by
  unfold Ex.record
  simp [bytesOf_length]
  omega
theorem inv_do {x : Ex.Xch} (h : Inv x) (now : Int) (r : List UInt8) : Inv (Ex.doX x now r).1 := by
  have h1 : Inv (Ex.cleared (Ex.timed x now)) := by
    unfold Ex.cleared
    split
    · refine ⟨?_⟩
      show x.batch + 1 ≤ ((x.jr ++ Ex.record _ []).length : Int) + 1
      rw [List.length_append, record_len]
      have := h.num
      push_cast
      omega
    · exact ⟨h.num⟩
  have h2 : ∀ y : Ex.Xch, Inv y → Inv (Ex.answerX y r).1 := fun y hy => by
    unfold Ex.answerX
    dsimp only
    generalize (if Ex.longOf (r.getD 0 0).toNat = 1 then 0 else (r.getD 1 0).toNat) = tt
    split
    · exact hy
    · split
      · exact hy
      · split
        · unfold Ex.movesX
          dsimp only
          split
          · exact hy
          · split
            · exact hy
            · split
              · exact hy
              · exact ⟨hy.num⟩
        · split
          · unfold Ex.ordersX
            dsimp only
            split
            · exact hy
            · split
              · exact hy
              · split
                · exact hy
                · split
                  · exact hy
                  · split
                    · exact hy
                    · exact ⟨hy.num⟩
          · split
            · unfold Ex.cancelX
              split
              · exact hy
              · exact ⟨hy.num⟩
            · exact hy
  have h3 := h2 _ h1
  show Inv (Ex.written _ _ _)
  unfold Ex.written
  split
  · refine ⟨?_⟩
    show (Ex.answerX _ r).1.batch ≤ (((Ex.answerX _ r).1.jr ++ Ex.record _ r).length : Int) + 1
    rw [List.length_append]
    have := h3.num
    push_cast
    omega
  · exact h3
theorem cleared_jr (x : Ex.Xch) (now : Int) : (Ex.cleared (Ex.timed x now)).jr.length ≤ x.jr.length + 10 ∧ (Ex.cleared (Ex.timed x now)).batch ≤ x.batch + 1 := by
  unfold Ex.cleared
  split
  · refine ⟨?_, ?_⟩
    · show (x.jr ++ Ex.record _ []).length ≤ _
      rw [List.length_append, record_len]
      simp
    · show x.batch + 1 ≤ x.batch + 1
      omega
  · exact ⟨by show x.jr.length ≤ _; omega, by show x.batch ≤ _; omega⟩
theorem tells_len (x : Ex.Xch) (k t : Nat) : (Ex.tellsX x k t).length ≤ 40 := by
  unfold Ex.tellsX
  split
  · simp [bytesOf_length]
  · split
    · simp [bytesOf_length]
    · split
      · split
        · simp [bytesOf_length]
        · simp
      · simp [bytesOf_length]
theorem answer_len (x : Ex.Xch) (r : List UInt8) : (Ex.answerX x r).2.length ≤ 40 := by
  unfold Ex.answerX
  dsimp only
  generalize (if Ex.longOf (r.getD 0 0).toNat = 1 then 0 else (r.getD 1 0).toNat) = tt
  split
  · simp
  · split
    · simp
    · split
      · unfold Ex.movesX
        dsimp only
        split
        · simp
        · split
          · simp
          · split <;> simp
      · split
        · unfold Ex.ordersX
          dsimp only
          split
          · simp
          · split
            · simp
            · split
              · simp
              · split
                · simp
                · split
                  · simp
                  · simp [bytesOf_length]
        · split
          · unfold Ex.cancelX
            split <;> simp
          · exact tells_len _ _ _
end Go.Proofs.Ytjfifaooimgbaaa
/- The floor: what sealbidkeep's small functions do, of any exchange that keeps its contract. -/
namespace Go.Proofs.Ytjfifaooimgbaaa
open Go.Shelf Go.RowKit Go.Lib Go.Sort

/-- nothing is turned but S's blocks, and what is new. -/
structure Only (S : Nat → Prop) (w w' : World) : Prop where
  os : w'.os = w.os
  tape : w'.tape = w.tape
  output : w'.output = w.output
  size : w.heap.size ≤ w'.heap.size
  block : ∀ k, k < w.heap.size → ¬ S k → w'.heap[k]? = w.heap[k]?

/-- what an exchange is to keep: Rep w S p x: at p lies one in the state x; it has the blocks S. -/
structure Exch (Rep : World → (Nat → Prop) → Nat → Ex.Xch → Prop) : Prop where
  low : ∀ {w S p x}, Rep w S p x → ∀ k, S k → k < w.heap.size
  keep : ∀ {w w' S p x}, Rep w S p x → (∀ k, S k → w'.heap[k]? = w.heap[k]?) → w.heap.size ≤ w'.heap.size → Rep w' S p x
  open_ : ∀ (w : World) (period cap : Int), 1 ≤ period → period ≤ 1125899906842624 → 1 ≤ cap → cap ≤ 20 → Calls Try.prog 39 #[.agg #[.int .i64 period, .int .i64 cap], txt []] w fun e w' => ∃ S p, e = .returned (.tuple #[.pointer (some ⟨p, 0, none⟩), .int .i64 0]) ∧ Rep w' S p (Ex.openX period cap) ∧ (∀ k, S k → w.heap.size ≤ k) ∧ Below w.heap.size w w'
  do_ : ∀ (w : World) (S : Nat → Prop) (p : Nat) (x : Ex.Xch) (now : Int) (r : List UInt8), Rep w S p x → Ex.Ok x → 0 ≤ now → now ≤ 9223372036854775807 → x.jr.length ≤ 1099511627776 → r.length ≤ 1000 →
    Calls Try.prog 46 #[.pointer (some ⟨p, 0, none⟩), .int .i64 now, txt r] w fun e w' => ∃ S', e = .returned (.tuple #[txt (Ex.doX x now r).2, .int .i64 0]) ∧ Rep w' S' p (Ex.doX x now r).1 ∧ (∀ k, S' k → S k ∨ w.heap.size ≤ k) ∧ Only S w w'

variable {Rep : World → (Nat → Prop) → Nat → Ex.Xch → Prop}

/-- a floor lies in the block f. -/
def FloorAt (w : World) (f p : Nat) (now cash units : Int) : Prop := w.heap[f]? = some (.cells #[.pointer (some ⟨p, 0, none⟩), .int .i64 now, .int .i64 cash, .int .i64 units] 61 (0, 0))

end Go.Proofs.Ytjfifaooimgbaaa
/- The contract of an exchange: Do. -/
namespace Go.Proofs.Ytjfifaooimgbaaa
open Go.Shelf Go.RowKit Go.Lib Go.Sort

/-- at p lies an exchange in the state x; it has the blocks S. -/
def RepX (w : World) (S : Nat → Prop) (p : Nat) (x : Ex.Xch) : Prop :=
  ∃ m s bx gx, w.heap[p]? = some (.cells #[.pointer (some ⟨m, 0, none⟩)] 105 (0, 0)) ∧ Mkt w m s x ∧ Bxs w s.bd m bx gx ∧ (s.bd ≠ s.ba ∧ s.bd ≠ s.bp) ∧ Inv x ∧ S = (fun k => k = p ∨ Foot m s k ∨ BFoot s.bd bx gx k)

theorem rep_low {w : World} {S : Nat → Prop} {p : Nat} {x : Ex.Xch} (h : RepX w S p x) : ∀ k, S k → k < w.heap.size := by
  obtain ⟨m, s, bx, gx, h1, h2, h3, _, _, rfl⟩ := h
  rintro k (rfl | hk | hk)
  · exact (Array.getElem?_eq_some_iff.1 h1).1
  · exact h2.foot_lt k hk
  · exact h3.lt k hk
theorem rep_keep {w w' : World} {S : Nat → Prop} {p : Nat} {x : Ex.Xch} (h : RepX w S p x) (e : ∀ k, S k → w'.heap[k]? = w.heap[k]?) : RepX w' S p x := by
  obtain ⟨m, s, bx, gx, h1, h2, h3, h4, h5, rfl⟩ := h
  exact ⟨m, s, bx, gx, (e p (Or.inl rfl)).trans h1, h2.kept (fun k hk => e k (Or.inr (Or.inl hk))), h3.kept (fun k hk => e k (Or.inr (Or.inr hk))), h4, h5, rfl⟩
theorem foot_not115 {w : World} {m : Nat} {s : MkS} {x : Ex.Xch} (hK : Mkt w m s x) {p : Nat} {c : Array Value} (hp : w.heap[p]? = some (.cells c 105 (0, 0))) : ¬ Foot m s p := fun hf => by
  have hm : w.heap[m]? = _ := hK.at_
  rcases hf with e | e | e | e | e
  · rw [e, hm] at hp; injection hp with hp; injection hp with _ hp; revert hp; decide
  · obtain ⟨es, ec, h⟩ := hK.acc.block
    rw [e, h] at hp; cases hp
  · obtain ⟨es, ec, h⟩ := hK.prc.block
    rw [e, h] at hp; cases hp
  · obtain ⟨cur, h⟩ := row_block hK.ord e
    rw [h] at hp; injection hp with hp; injection hp with _ hp; revert hp; decide
  · obtain ⟨cur, h⟩ := row_block hK.jrn e
    rw [h] at hp; injection hp with hp; injection hp with _ hp; revert hp; decide

/-- whatever is asked, however long. -/
theorem answer_all {w : World} {m : Nat} {s : MkS} {x : Ex.Xch} {bx gx : Nat → Nat} (hK : Mkt w m s x) (ok : Ex.Ok x) (hB : Bxs w s.bd m bx gx) (hb : x.batch < 1152921504606846976) (hj : x.jr.length ≤ 17592186044416) (r : List UInt8) :
    Calls Try.prog 77 #[.pointer (some ⟨m, 0, none⟩), .string ⟨r.toArray⟩] w (Ans m s w (Ex.written (Ex.answerX x r).1 r (Ex.answerX x r).2, (Ex.answerX x r).2)) := by
  by_cases hr : r.length ≤ 1000
  · exact answer_any cancel_ok hK ok hB hb hj r hr
  · cases r with
    | nil => simp at hr
    | cons k rest =>
      have hl : Ex.longOf k.toNat ≤ 10 := by
        unfold Ex.longOf
        repeat' split
        all_goals omega
      have e : Ex.answerX x (k :: rest) = (x, [1]) := by
        unfold Ex.answerX
        exact if_pos (Or.inr (by show (k :: rest).length ≠ Ex.longOf k.toNat; omega))
      rw [e]
      exact ans_no hK _ 1 (by decide) 0 0 0 0 0 (read_len k rest w (by rw [List.length_cons] at hr; omega))
theorem rep_do (w : World) (S : Nat → Prop) (p : Nat) (x : Ex.Xch) (now : Int) (r : List UInt8) (hR : RepX w S p x) (ok : Ex.Ok x) (h0 : -9223372036854775808 ≤ now) (h1 : now ≤ 9223372036854775807) (hj : x.jr.length ≤ 1099511627776) :
    Calls Try.prog 46 #[.pointer (some ⟨p, 0, none⟩), .int .i64 now, txt r] w fun e w' => ∃ S', e = .returned (.tuple #[txt (Ex.doX x now r).2, .int .i64 0]) ∧ RepX w' S' p (Ex.doX x now r).1 ∧ (∀ k, S' k → S k ∨ w.heap.size ≤ k) ∧ Only S w w' := by
  obtain ⟨m, s, bx, gx, hp, hK, hB, nb, inv, rfl⟩ := hR
  have hbt : x.batch < 1152921504606846976 := by have := inv.num; omega
  have hb2 : x.batch ≤ 1099511627777 := by have := inv.num; omega
  have ap := hB.apart hK nb
  have np := foot_not115 hK hp
  have hpl : p < w.heap.size := (Array.getElem?_eq_some_iff.1 hp).1
  have cj := cleared_jr x now
  have okc := (Ex.cleared_ok (Ex.timed_ok ok now)).1
  have hD := marketDo_any w m s x now r hK ok ⟨h0, h1⟩ hbt (by omega) (fun w1 s1 k1 st => by
    have hB1 : Bxs w1 s1.bd m bx gx := by
      rw [st.bd]
      exact hB.kept (fun j hjj => st.onl.block j (hB.lt j hjj) (ap j hjj))
    exact answer_all k1 okc hB1 (by omega) (by omega) r) (by
      have : (Ex.doX x now r).2 = (Ex.answerX (Ex.cleared (Ex.timed x now)) r).2 := rfl
      rw [this]
      have := answer_len (Ex.cleared (Ex.timed x now)) r
      omega)
  have hE := exchangeDo_any w p m now r (fun l w' => l = (Ex.doX x now r).2 ∧ ∃ s', Mkt w' m s' (Ex.doX x now r).1 ∧ Step m s w s' w') hp (hD.mono (by
    rintro e w' ⟨s', rfl, q1, q2⟩
    exact ⟨_, rfl, rfl, s', q1, q2⟩))
  refine Calls.mono hE ?_
  rintro e w' ⟨l, rfl, rfl, s', k', st⟩
  have hB' : Bxs w' s'.bd m bx gx := by
    rw [st.bd]
    exact hB.kept (fun j hjj => st.onl.block j (hB.lt j hjj) (ap j hjj))
  have nf : ∀ j, BFoot s.bd bx gx j → ¬ Foot m s' j := fun j hjj hf => by
    rcases st.foot j hf with h | h
    · exact ap j hjj h
    · have := hB.lt j hjj
      omega
  have nbd := nf s.bd (Or.inl rfl)
  refine ⟨fun k => k = p ∨ Foot m s' k ∨ BFoot s'.bd bx gx k, rfl, ⟨m, s', bx, gx, (st.onl.block p hpl np).trans hp, k', hB', ⟨fun e => nbd (Or.inr (Or.inl (by rw [← st.bd]; exact e))), fun e => nbd (Or.inr (Or.inr (Or.inl (by rw [← st.bd]; exact e))))⟩, inv_do inv now r, rfl⟩, ?_, ?_⟩
  · rintro k (rfl | hk | hk)
    · exact Or.inl (Or.inl rfl)
    · rcases st.foot k hk with h | h
      · exact Or.inl (Or.inr (Or.inl h))
      · exact Or.inr h
    · rw [st.bd] at hk
      exact Or.inl (Or.inr (Or.inr hk))
  · exact ⟨st.onl.os, st.onl.tape, st.onl.output, st.onl.size, fun k hk hs => st.onl.block k hk (fun h => hs (Or.inr (Or.inl h)))⟩
end Go.Proofs.Ytjfifaooimgbaaa
/- A record at the front of a journal. -/
namespace Go.Proofs.Ytjfifaooimgbaaa
namespace Ex

/-- of the record at the front of s: how many bytes its request has, its time, its request. -/
def rlen (s : List UInt8) : Nat := (s.getD 0 0).toNat
def rtime (s : List UInt8) : Nat := numOf ((s.drop 1).take 8)
def rreq (s : List UInt8) : List UInt8 := (s.drop 9).take (rlen s)

def Whole (s : List UInt8) : Prop := 10 + rlen s ≤ s.length ∧ s.getD (9 + rlen s) 0 = 165
instance (s : List UInt8) : Decidable (Whole s) := inferInstanceAs (Decidable (_ ∧ _))
end Ex
end Go.Proofs.Ytjfifaooimgbaaa
/- journal.Next. -/
namespace Go.Proofs.Ytjfifaooimgbaaa
open Go.Shelf Go.RowKit Go.Lib Go.Sort

theorem ext_mid (l : List UInt8) (i j : Nat) : (⟨l.toArray⟩ : ByteArray).extract i j = ⟨((l.drop i).take (j - i)).toArray⟩ := by
  apply ByteArray.ext
  simp [ByteArray.data_extract, List.extract_eq_take_drop]

theorem num_lt8 (l : List UInt8) (h : l.length = 8) : numOf l < 18446744073709551616 := by
  have key : ∀ (l : List UInt8) (a : Nat), numFrom a l < (a + 1) * 256 ^ l.length := by
    intro l
    induction l with
    | nil => intro a; simp [numFrom]
    | cons b r ih =>
      intro a
      rw [numFrom, List.length_cons, Nat.pow_succ]
      have := ih (256 * a + b.toNat)
      have hb := b.toNat_lt
      have : (256 * a + b.toNat + 1) * 256 ^ r.length ≤ (256 * (a + 1)) * 256 ^ r.length := Nat.mul_le_mul_right _ (by omega)
      have e : (a + 1) * (256 ^ r.length * 256) = (256 * (a + 1)) * 256 ^ r.length := by
        rw [Nat.mul_comm (256 ^ r.length) 256, ← Nat.mul_assoc, Nat.mul_comm (a + 1) 256]
      omega
  have := key l 0
  rw [h] at this
  unfold numOf
  omega

def nextNo : Value := .tuple #[.agg #[.int .u64 0, .string ⟨#[]⟩], .string ⟨#[]⟩, .bool false]
set_option maxHeartbeats 1000000 in
set_option maxRecDepth 100000 in
theorem next_nil (w : World) : Calls Try.prog 69 #[.string ⟨#[]⟩] w fun e w' => e = .returned nextNo ∧ Below w.heap.size w w' := by
  have mixed : Try.prog.follows .mixedOrders = true := by kernel_rfl
  unfold nextNo
  go_enter Try.func69, Try.ntmps69
  go_wp2
  try simp only [Exit.inBlock, Exit.then]
  refine bodyPost_ret (v := .tuple #[.agg #[.int .u64 0, .string ⟨#[]⟩], .string ⟨#[]⟩, .bool false]) (by simp [results, Try.results69, go_sem]) rfl ?_
  exact ⟨rfl, (Below.refl _ w).alloc (Nat.le_refl _) _⟩
set_option maxHeartbeats 1000000 in
set_option maxRecDepth 100000 in
theorem next_short (w : World) (c : UInt8) (l : List UInt8) (h : (c :: l).length ≤ 9 + c.toNat) : Calls Try.prog 69 #[.string ⟨(c :: l).toArray⟩] w fun e w' => e = .returned nextNo ∧ Below w.heap.size w w' := by
  have mixed : Try.prog.follows .mixedOrders = true := by kernel_rfl
  unfold nextNo
  have hb : c.toNat < 256 := UInt8.toNat_lt c
  have e0 : ({ data := (c :: l : List UInt8).toArray } : ByteArray)[0]'(by show 0 < (c :: l).toArray.size; simp) = c := rfl
  have hlz : ¬ 9 + (c.toNat : Int) < (l.length : Int) + 1 := by rw [List.length_cons] at h; omega
  clear h
  go_enter Try.func69, Try.ntmps69
  go_wp2
  try simp only [Exit.inBlock, Exit.then]
  refine bodyPost_ret (v := .tuple #[.agg #[.int .u64 0, .string ⟨#[]⟩], .string ⟨#[]⟩, .bool false]) (by simp [results, Try.results69, go_sem]) rfl ?_
  exact ⟨rfl, (Below.refl _ w).alloc (Nat.le_refl _) _⟩
set_option maxHeartbeats 1000000 in
set_option maxRecDepth 100000 in
theorem next_end (w : World) (c : UInt8) (l : List UInt8) (h : 9 + c.toNat < (c :: l).length) (h2 : (c :: l)[9 + c.toNat] ≠ 165) : Calls Try.prog 69 #[.string ⟨(c :: l).toArray⟩] w fun e w' => e = .returned nextNo ∧ Below w.heap.size w w' := by
  have mixed : Try.prog.follows .mixedOrders = true := by kernel_rfl
  unfold nextNo
  have hb : c.toNat < 256 := UInt8.toNat_lt c
  have e0 : ({ data := (c :: l : List UInt8).toArray } : ByteArray)[0]'(by show 0 < (c :: l).toArray.size; simp) = c := rfl
  have hlz : 9 + (c.toNat : Int) < (l.length : Int) + 1 := by rw [List.length_cons] at h; omega
  have h0 : 0 ≤ 9 + (c.toNat : Int) := by omega
  have e1 : ({ data := (c :: l : List UInt8).toArray } : ByteArray)[9 + c.toNat]'(by show 9 + c.toNat < (c :: l).toArray.size; simpa using h) = (c :: l)[9 + c.toNat] := rfl
  have h3 : (((c :: l)[9 + c.toNat].toNat : Int) != 165) = true := bne_iff_ne.2 (fun e => h2 (UInt8.toNat_inj.1 (by show _ = 165; omega)))
  rw [← e1] at h3
  clear h2 e1
  go_enter Try.func69, Try.ntmps69
  go_wp2
  try simp only [Exit.inBlock, Exit.then]
  refine bodyPost_ret (v := .tuple #[.agg #[.int .u64 0, .string ⟨#[]⟩], .string ⟨#[]⟩, .bool false]) (by simp [results, Try.results69, go_sem]) rfl ?_
  exact ⟨rfl, (Below.refl _ w).alloc (Nat.le_refl _) _⟩
set_option maxHeartbeats 2000000 in
set_option maxRecDepth 100000 in
theorem next_yes (w : World) (c : UInt8) (l : List UInt8) (h : 9 + c.toNat < (c :: l).length) (h2 : (c :: l)[9 + c.toNat] = 165) (hmx : (c :: l).length ≤ 1152921504606846976) : Calls Try.prog 69 #[.string ⟨(c :: l).toArray⟩] w fun e w' => e = .returned (.tuple #[.agg #[.int .u64 (Ex.rtime (c :: l) : Nat), .string ⟨(Ex.rreq (c :: l)).toArray⟩], .string ⟨((c :: l).drop (10 + c.toNat)).toArray⟩, .bool true]) ∧ Below w.heap.size w w' := by
  have mixed : Try.prog.follows .mixedOrders = true := by kernel_rfl
  have hb : c.toNat < 256 := UInt8.toNat_lt c
  have e0 : ({ data := (c :: l : List UInt8).toArray } : ByteArray)[0]'(by show 0 < (c :: l).toArray.size; simp) = c := rfl
  have hlz : 9 + (c.toNat : Int) < (l.length : Int) + 1 := by rw [List.length_cons] at h; omega
  have h0 : 0 ≤ 9 + (c.toNat : Int) := by omega
  have e1 : ({ data := (c :: l : List UInt8).toArray } : ByteArray)[9 + c.toNat]'(by show 9 + c.toNat < (c :: l).toArray.size; simpa using h) = (c :: l)[9 + c.toNat] := rfl
  have h3 : (((c :: l)[9 + c.toNat].toNat : Int) != 165) = false := by rw [h2]; rfl
  rw [← e1] at h3
  clear h2 e1
  have l8 : (((c :: l).drop 1).take 8).length = 8 := by rw [List.length_take, List.length_drop, List.length_cons]; rw [List.length_cons] at h; omega
  have hn8 : numOf (((c :: l).drop 1).take 8) < 18446744073709551616 := num_lt8 _ l8
  have x1 : ({ data := (c :: l : List UInt8).toArray } : ByteArray).extract 1 9 = ⟨(((c :: l).drop 1).take 8).toArray⟩ := ext_mid _ _ _
  have x2 : ({ data := (c :: l : List UInt8).toArray } : ByteArray).extract 9 (9 + c.toNat) = ⟨(Ex.rreq (c :: l)).toArray⟩ := by rw [ext_mid]; congr 2; unfold Ex.rreq Ex.rlen; congr 1; show 9 + c.toNat - 9 = c.toNat; omega
  have x3 : ({ data := (c :: l : List UInt8).toArray } : ByteArray).extract (9 + c.toNat + 1) (l.length + 1) = ⟨((c :: l).drop (10 + c.toNat)).toArray⟩ := by
    rw [ext_mid, show 9 + c.toNat + 1 = 10 + c.toNat by omega, List.take_of_length_le (by rw [List.length_drop, List.length_cons]; omega)]
  have HN : Aside (∀ w, Calls Try.prog 88 #[.string ⟨(((c :: l).drop 1).take 8).toArray⟩] w fun e w' => e = .returned (.int .u64 (Ex.rtime (c :: l) : Nat)) ∧ w' = w) := fun w => readN_any _ w (by omega) hn8
  have hmx' := hmx
  have k1 : IntKind.i64.wrap (9 + (c.toNat : Int) + 1) = 9 + (c.toNat : Int) + 1 := IntWalk.i64_in _ (by omega)
  have k2 : 9 + (c.toNat : Int) + 1 ≤ (l.length : Int) + 1 := by omega
  have k3 : 0 ≤ 9 + (c.toNat : Int) + 1 := by omega
  have k4 : (9 + (c.toNat : Int) + 1).toNat = 9 + c.toNat + 1 := by omega
  have k5 : (9 + (c.toNat : Int)).toNat = 9 + c.toNat := by omega
  have k6 : (9 : Int) ≤ 9 + (c.toNat : Int) := by omega
  have k7 : 9 + (c.toNat : Int) ≤ (l.length : Int) + 1 := by omega
  generalize ((c :: l).drop 1).take 8 = b8 at *
  generalize Ex.rreq (c :: l) = rq at *
  generalize (c :: l).drop (10 + c.toNat) = rs at *
  generalize Ex.rtime (c :: l) = tm at *
  go_enter Try.func69, Try.ntmps69
  go_wp2_with fail
  go_region_with (go_at_call 88; refine Calls.mono (f := 88) (HN.out _) ?_; rintro e w' ⟨rfl, rfl⟩)
  all_goals go_wp2
  all_goals try simp only [Exit.inBlock, Exit.then]
  all_goals refine bodyPost_ret (v := .tuple #[.agg #[.int .u64 (tm : Nat), .string ⟨rq.toArray⟩], .string ⟨rs.toArray⟩, .bool true]) (by simp [results, Try.results69, go_sem]) rfl ?_
  all_goals exact ⟨rfl, Below.drew ((Below.refl _ w).alloc (Nat.le_refl _) _)⟩

theorem next_whole (w : World) (s : List UInt8) (h : Ex.Whole s) (hmax : s.length ≤ 1152921504606846976) : Calls Try.prog 69 #[.string ⟨s.toArray⟩] w fun e w' => e = .returned (.tuple #[.agg #[.int .u64 (Ex.rtime s : Nat), .string ⟨(Ex.rreq s).toArray⟩], .string ⟨(s.drop (10 + Ex.rlen s)).toArray⟩, .bool true]) ∧ Below w.heap.size w w' := by
  obtain ⟨h1, h2⟩ := h
  cases s with
  | nil => simp at h1
  | cons c l =>
    have h1' : 9 + c.toNat < (c :: l).length := by show 9 + Ex.rlen (c :: l) < _; omega
    refine next_yes w c l h1' ?_ hmax
    have h2' : (c :: l).getD (9 + c.toNat) 0 = 165 := h2
    rw [List.getD_eq_getElem?_getD, List.getElem?_eq_getElem h1'] at h2'
    exact h2'
theorem next_not (w : World) (s : List UInt8) (h : ¬ Ex.Whole s) : Calls Try.prog 69 #[.string ⟨s.toArray⟩] w fun e w' => e = .returned nextNo ∧ Below w.heap.size w w' := by
  cases s with
  | nil => exact next_nil w
  | cons c l =>
    by_cases h1 : 9 + c.toNat < (c :: l).length
    · refine next_end w c l h1 (fun e => h ⟨by show 10 + c.toNat ≤ _; omega, ?_⟩)
      show (c :: l).getD (9 + c.toNat) 0 = 165
      rw [List.getD_eq_getElem?_getD, List.getElem?_eq_getElem h1]
      exact e
    · exact next_short w c l (by omega)

set_option maxHeartbeats 1000000 in
set_option maxRecDepth 100000 in
theorem isClearing_any (w : World) (t : Nat) (r : List UInt8) : Calls Try.prog 89 #[.agg #[.int .u64 t, .string ⟨r.toArray⟩]] w fun e w' => e = .returned (.bool (decide (r = []))) ∧ Below w.heap.size w w' := by
  cases r with
  | nil =>
    go_enter Try.func89, Try.ntmps89
    go_wp2
    go_ret
    exact ⟨rfl, (Below.refl _ w).alloc (Nat.le_refl _) _⟩
  | cons c q =>
    go_enter Try.func89, Try.ntmps89
    go_wp2
    go_ret
    exact ⟨rfl, (Below.refl _ w).alloc (Nat.le_refl _) _⟩
end Go.Proofs.Ytjfifaooimgbaaa
