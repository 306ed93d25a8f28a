import Derived.Test.YtjfifaooimgbaaaLk
import Derived.StillTailTactics
import Derived.Deep.Cut
import Derived.BigRegion
/- What is put in and taken out: against the exchange without a program. -/
namespace Go.Proofs.Ytjfifaooimgbaaa
open Go.Shelf Go.RowKit Go.Lib Go.Sort

/-- a deed is done: R: what the exchange without a program comes to, and answers. -/
def Deed (m : Nat) (s : MkS) (w : World) (R : Ex.Xch × List UInt8) (e : Ending) (w' : World) : Prop :=
  ∃ s' u c told, R.2 = c :: told ∧ e = .returned (.tuple #[.int .u8 ((c : UInt8).toNat : Int), u]) ∧ BRow w' u told ∧ (∀ j, u.ownBlock = some j → w.heap.size ≤ j) ∧ Mkt w' m s' R.1 ∧ Step m s w s' w' ∧ s'.jv = s.jv

theorem deed_same {m : Nat} {s : MkS} {w w' : World} {x : Ex.Xch} (hK : Mkt w m s x) (c : UInt8) (b : Onl (· = s.ba) w w') (ha : AccF w' s.ba (qOf x)) : Deed m s w (x, [c]) (.returned (.tuple #[.int .u8 (c.toNat : Int), .slice none 0 0])) w' :=
  ⟨s, .slice none 0 0, c, [], rfl, rfl, BRow.nil _, fun j hj => by simp [Value.ownBlock] at hj, hK.onAcc b ha rfl, (Step.refl m s w).onAcc b, rfl⟩

section
variable (w : World) (m X Y t n : Nat) (s : MkS) (x : Ex.Xch) (hX : BoxM w X m) (hK : Mkt w m s x) (ok : Ex.Ok x) (ht : t < 20) (hn : n < 18446744073709551616)
include hX hK ok ht hn
theorem deed_put (k g : Nat) (hk : (k = 1 ∧ g = 0) ∨ (k = 3 ∧ g = 1)) (hY : BoxG w Y g) : Calls Try.prog 115 #[reqV k t n 0 0, .pointer (some ⟨X, 0, none⟩), .pointer (some ⟨Y, 0, none⟩)] w (Deed m s w (Ex.movesX x k t n)) := by
  have hg : g < 2 := by omega
  have htot : totalOf g (qOf x) ≤ 1125899906842624 := by
    rcases hk with ⟨_, rfl⟩ | ⟨_, rfl⟩
    · rw [total_cash]; exact ok.sumC
    · rw [total_units]; exact ok.sumU
  have hcond : ((k = 1 ∧ 1125899906842624 - Ex.allCash x < n) ∨ (k = 3 ∧ 1125899906842624 - Ex.allUnits x < n)) ↔ 1125899906842624 - totalOf g (qOf x) < n := by
    rcases hk with ⟨rfl, rfl⟩ | ⟨rfl, rfl⟩
    · rw [total_cash]; omega
    · rw [total_units]; omega
  refine (put_deed w m X Y g k t n 0 0 s (qOf x) hX hY hK.at_ hK.acc (tame_of ok) hg ht hn htot).mono ?_
  rintro e w' ⟨rfl, A, O⟩
  unfold putCode putQ at *
  unfold Ex.movesX
  dsimp only
  by_cases h0 : n = 0
  · rw [if_pos h0] at A ⊢
    rw [if_pos h0]
    exact deed_same hK 3 O A
  · rw [if_neg h0] at A ⊢
    rw [if_neg h0]
    by_cases h1 : 1125899906842624 - totalOf g (qOf x) < n
    · rw [if_pos h1] at A ⊢
      rw [if_pos (hcond.2 h1)]
      exact deed_same hK 9 O A
    · rw [if_neg h1] at A ⊢
      rw [if_neg (fun h => h1 (hcond.1 h)), if_neg (by omega)]
      refine ⟨s, .slice none 0 0, 0, [], rfl, rfl, BRow.nil _, fun j hj => by simp [Value.ownBlock] at hj, hK.onAcc O ?_ rfl, (Step.refl m s w).onAcc O, rfl⟩
      rw [qOf_upd x t ht]
      rw [qOf_at x t ht] at A
      rcases hk with ⟨rfl, rfl⟩ | ⟨rfl, rfl⟩
      · have e : chg 0 (n : Int) 0 ⟨(x.ps t).cash, (x.ps t).held, (x.ps t).units, (x.ps t).hun⟩ = ⟨(x.ps t).cash + n, (x.ps t).held, (x.ps t).units, (x.ps t).hun⟩ := by
          simp only [chg, if_true, Int.add_zero]
        rw [e] at A
        exact A
      · have e : chg 1 (n : Int) 0 ⟨(x.ps t).cash, (x.ps t).held, (x.ps t).units, (x.ps t).hun⟩ = ⟨(x.ps t).cash, (x.ps t).held, (x.ps t).units + n, (x.ps t).hun⟩ := by
          simp only [chg, show ¬ ((1 : Nat) = 0) by decide, if_false, Int.add_zero]
        rw [e] at A
        exact A
theorem deed_take (k g : Nat) (hk : (k = 2 ∧ g = 0) ∨ (k = 4 ∧ g = 1)) (hY : BoxG w Y g) : Calls Try.prog 117 #[reqV k t n 0 0, .pointer (some ⟨X, 0, none⟩), .pointer (some ⟨Y, 0, none⟩)] w (Deed m s w (Ex.movesX x k t n)) := by
  have hg : g < 2 := by omega
  have hfree : freeOf g (qOf x t) = if k = 2 then (x.ps t).cash else (x.ps t).units := by
    rw [qOf_at x t ht]
    unfold freeOf
    rcases hk with ⟨rfl, rfl⟩ | ⟨rfl, rfl⟩ <;> rfl
  have hcond : ((k = 2 ∧ (x.ps t).cash < n) ∨ (k = 4 ∧ (x.ps t).units < n)) ↔ freeOf g (qOf x t) < n := by
    rw [hfree]
    rcases hk with ⟨rfl, rfl⟩ | ⟨rfl, rfl⟩
    · rw [if_pos rfl]; omega
    · rw [if_neg (by decide)]; omega
  refine (take_deed w m X Y g k t n 0 0 s (qOf x) hX hY hK.at_ hK.acc (tame_of ok) hg ht hn).mono ?_
  rintro e w' ⟨rfl, A, O⟩
  unfold takeCode takeQ at *
  unfold Ex.movesX
  dsimp only
  by_cases h0 : n = 0
  · rw [if_pos h0] at A ⊢
    rw [if_pos h0]
    exact deed_same hK 3 O A
  · rw [if_neg h0] at A ⊢
    rw [if_neg h0, if_neg (by omega)]
    by_cases h1 : freeOf g (qOf x t) < n
    · rw [if_pos h1] at A ⊢
      rw [if_pos (hcond.2 h1)]
      exact deed_same hK 8 O A
    · rw [if_neg h1] at A ⊢
      rw [if_neg (fun h => h1 (hcond.1 h))]
      refine ⟨s, .slice none 0 0, 0, [], rfl, rfl, BRow.nil _, fun j hj => by simp [Value.ownBlock] at hj, hK.onAcc O ?_ rfl, (Step.refl m s w).onAcc O, rfl⟩
      rw [qOf_upd x t ht]
      rw [qOf_at x t ht] at A
      rcases hk with ⟨rfl, rfl⟩ | ⟨rfl, rfl⟩
      · have e : chg 0 (-(n : Int)) 0 ⟨(x.ps t).cash, (x.ps t).held, (x.ps t).units, (x.ps t).hun⟩ = ⟨(x.ps t).cash - n, (x.ps t).held, (x.ps t).units, (x.ps t).hun⟩ := by
          simp only [chg, if_true, Int.add_zero, Int.sub_eq_add_neg]
        rw [e] at A
        exact A
      · have e : chg 1 (-(n : Int)) 0 ⟨(x.ps t).cash, (x.ps t).held, (x.ps t).units, (x.ps t).hun⟩ = ⟨(x.ps t).cash, (x.ps t).held, (x.ps t).units - n, (x.ps t).hun⟩ := by
          simp only [chg, show ¬ ((1 : Nat) = 0) by decide, if_false, Int.add_zero, Int.sub_eq_add_neg]
        rw [e] at A
        exact A
end
end Go.Proofs.Ytjfifaooimgbaaa
/- The journal is written. -/
namespace Go.Proofs.Ytjfifaooimgbaaa
open Go.Shelf Go.RowKit Go.Lib Go.Sort

theorem BRow.sl {w : World} {v : Value} {l : List UInt8} (h : BRow w v l) : ∃ a n cap, v = .slice a n cap := by
  rcases h.2 with ⟨rfl, h2⟩ | ⟨g, cap, cur, rfl, _⟩
  · exact ⟨none, 0, 0, rfl⟩
  · exact ⟨_, _, cap, rfl⟩

set_option maxHeartbeats 2000000 in
set_option maxRecDepth 100000 in
theorem write_any (w : World) (m : Nat) (s : MkS) (jr r : List UInt8) (t : Nat) (hM : MkAt w m s) (hJ : BRow w s.jv jr) (hne : s.jv.ownBlock ≠ some m) (ht : s.time = (t : Int)) (htb : t < 9223372036854775808) (hr : r.length ≤ 1000) (hl : jr.length ≤ 17592186044416) :
    Calls Try.prog 95 #[.pointer (some ⟨m, 0, none⟩), .string ⟨r.toArray⟩] w fun e w' => ∃ v, e = .returned (.tuple #[]) ∧ MkAt w' m { s with jv := v } ∧ BRow w' v (jr ++ recB t r) ∧ Onl (fun k => k = m ∨ s.jv.ownBlock = some k) w w' ∧ Lies w s.jv v := by
  have mixed : Try.prog.follows .mixedOrders = true := by kernel_rfl
  have HR : Aside (Calls Try.prog 114 #[s.jv, .int .i64 t, .string ⟨r.toArray⟩] w.drew fun e w' => ∃ v', e = .returned v' ∧ BRow w' v' (jr ++ recB t r) ∧ OnlV s.jv w.drew w' ∧ Lies w.drew s.jv v') := record_any s.jv jr r t w.drew (hJ.kept (fun _ _ => rfl)) htb hr hl
  have C := hM.all
  have c2 := C.c2
  have c13 := C.c13
  rw [ht] at c2
  have HM : Aside (MkAt w m s) := hM
  have HN : Aside (s.jv.ownBlock ≠ some m) := hne
  have hml := hM.lt
  have HQ : Aside (∀ (w' : World) (v : Value), OnlV s.jv w.drew w' → w'.cell? ⟨m, 13, none⟩ = some s.jv ∧ w'.frozen? ⟨m, 13, none⟩ = false) := fun w' _ o => by
    have := (HM.out.kept (o.block m hml HN.out)).all
    exact ⟨this.c13, this.fr 13⟩
  clear hM hJ hne C
  go_enter Try.func95, Try.ntmps95
  go_wp2_with fail
  go_region_with (go_at_call 114; refine Calls.mono (f := 114) HR.out ?_; rintro e w1 ⟨v', rfl, q1, q2, q3⟩; obtain ⟨d1, d2⟩ := HQ.out _ v' q2; obtain ⟨va, vn, vc, rfl⟩ := q1.sl)
  all_goals go_wp2
  all_goals go_end0
  all_goals (
    have M1 : MkAt w1 m s := HM.out.kept (q2.block m hml HN.out)
    have nv : ∀ k, (Value.slice va vn vc).ownBlock = some k → k ≠ m := fun k hk e => by
      subst e
      rcases q3.own k hk with h | h
      · exact HN.out h
      · have h' : w.heap.size ≤ k := h
        omega
    refine ⟨_, rfl, M1.setJv _, q1.kept (fun k hk => Below.heap_setCell _ _ _ _ (nv k hk)), ?_, q3⟩
    exact (((Onl.refl (fun k => k = m ∨ s.jv.ownBlock = some k) w).drew).trans q2 (fun i hi => Or.inl (Or.inr hi))).set _ _ (Or.inl (Or.inl rfl)))
end Go.Proofs.Ytjfifaooimgbaaa
/- Small functions of the market. -/
namespace Go.Proofs.Ytjfifaooimgbaaa
open Go.Shelf Go.RowKit Go.Lib Go.Sort

theorem Onl.toBelow' {a b : World} (h : Onl (fun _ => False) a b) : Below a.heap.size a b := ⟨h.os, h.tape, h.output, h.size, fun k hk => h.block k hk (fun x => x)⟩

set_option maxHeartbeats 2000000 in
set_option maxRecDepth 100000 in
theorem resultOf_any (w : World) (a b c d : Int) (fv : Value) (fa : Option Addr) (fn fc : Nat) (hfv : fv = .slice fa fn fc) (sh : Nat) :
    Calls Try.prog 86 #[.agg #[.int .i64 a, .int .i64 b, .int .i64 c, .int .i64 d, fv, .int .u64 sh]] w fun e w' => ∃ P, e = .returned (.agg #[.int .i64 a, .int .i64 b, .int .i64 c, .int .i64 d, .int .u64 sh, .map (some P)]) ∧ MapF Try.prog 3 w' P 20 (fun _ => none) ∧ w.heap.size ≤ P ∧ Below w.heap.size w w' := by
  have mixed : Try.prog.follows .mixedOrders = true := by kernel_rfl
  subst hfv
  have hmm := @run_makeMap Try.prog
  go_enter Try.func86, Try.ntmps86
  go_wp2
  refine bodyPost_ret (v := .agg #[.int .i64 a, .int .i64 b, .int .i64 c, .int .i64 d, .int .u64 sh, .map (some (w.heap.size + 1 + 1))]) (by simp [results, Try.results86, go_sem]) rfl ?_
  refine ⟨_, rfl, ?_, by omega, ((((Onl.refl (fun _ => False) w).alloc _).alloc _).alloc _).toBelow'⟩
  have h := fun A B => MapF.made Try.prog 3 ((w.alloc A).alloc B) 20
  have e : ∀ A B, ((w.alloc A).alloc B).heap.size = w.heap.size + 1 + 1 := fun A B => by simp
  simp only [e] at h
  exact h _ _
set_option maxHeartbeats 2000000 in
set_option maxRecDepth 100000 in
theorem changes_any (w : World) (k : Nat) : Calls Try.prog 94 #[.int .i64 k] w fun e w' => e = .returned (.bool (decide (1 ≤ k ∧ k ≤ 6))) ∧ w' = w := by
  have mixed : Try.prog.follows .mixedOrders = true := by kernel_rfl
  by_cases h : 1 ≤ k
  · have h1 : (1 : Int) ≤ (k : Int) := by omega
    have E : Aside (decide ((k : Int) ≤ 6) = decide (1 ≤ k ∧ k ≤ 6)) := by
      show _ = _
      by_cases h6 : k ≤ 6
      · rw [decide_eq_true (by omega), decide_eq_true (by omega)]
      · rw [decide_eq_false (by omega), decide_eq_false (by omega)]
    go_enter Try.func94, Try.ntmps94
    go_wp2
    go_ret
    refine ⟨?_, rfl⟩
    show Ending.returned (Value.bool (decide ((k : Int) ≤ 6))) = _
    rw [E.out]
  · have h1 : decide ((1 : Int) ≤ (k : Int)) = false := decide_eq_false (by omega)
    have e : decide (1 ≤ k ∧ k ≤ 6) = false := decide_eq_false (by omega)
    rw [e]
    go_enter Try.func94, Try.ntmps94
    go_wp2
    go_ret
    exact ⟨rfl, rfl⟩
end Go.Proofs.Ytjfifaooimgbaaa
/- answer. -/
namespace Go.Proofs.Ytjfifaooimgbaaa
open Go.Shelf Go.RowKit Go.Lib Go.Sort

/-- an answer is given. -/
def Ans (m : Nat) (s : MkS) (w : World) (R : Ex.Xch × List UInt8) (e : Ending) (w' : World) : Prop :=
  ∃ s' u c told, R.2 = c :: told ∧ e = .returned (.tuple #[.int .u8 ((c : UInt8).toNat : Int), u]) ∧ BRow w' u told ∧ (∀ j, u.ownBlock = some j → w.heap.size ≤ j) ∧ Mkt w' m s' R.1 ∧ Step m s w s' w'
theorem Mkt.onJr {w w' : World} {m : Nat} {s : MkS} {x : Ex.Xch} (h : Mkt w m s x) (v : Value) (j : List UInt8) (hM : MkAt w' m { s with jv := v }) (o : Onl (fun k => k = m ∨ s.jv.ownBlock = some k) w w') (hJ : BRow w' v j) : Mkt w' m { s with jv := v } { x with jr := j } := by
  have A := h.apart
  exact { at_ := hM
          acc := h.acc.kept (o.block _ h.acc.lt (fun e => by
            rcases e with e | e
            · exact A.ma e.symm
            · exact A.ja e))
          ord := h.ord.kept (fun k hk => o.block k (h.ord.lt hk) (fun e => by
            rcases e with e | e
            · exact A.om (by rw [hk, e])
            · exact A.oj k hk e))
          prc := h.prc.kept (o.block _ h.prc.lt (fun e => by
            rcases e with e | e
            · exact A.mp e.symm
            · exact A.jp e))
          jrn := hJ
          nap := h.nap, per := h.per, cap := h.cap, time := h.time, num := h.num, fin := h.fin, last := h.last, prs := h.prs, fls := h.fls, pay := h.pay, get := h.get, share := h.share }
theorem Step.onJr {w w' : World} {m : Nat} {s : MkS} (v : Value) (o : Onl (fun k => k = m ∨ s.jv.ownBlock = some k) w w') (l : Lies w s.jv v) : Step m s w { s with jv := v } w' :=
  ⟨o.mono (fun i hi => by
    rcases hi with h | h
    · exact Or.inl h
    · exact Or.inr (Or.inr (Or.inr (Or.inr h)))), fun k hk => by
    rcases hk with h | h | h | h | h
    · exact Or.inl (Or.inl h)
    · exact Or.inl (Or.inr (Or.inl h))
    · exact Or.inl (Or.inr (Or.inr (Or.inl h)))
    · exact Or.inl (Or.inr (Or.inr (Or.inr (Or.inl h))))
    · rcases l.own k h with h | h
      · exact Or.inl (Or.inr (Or.inr (Or.inr (Or.inr h))))
      · exact Or.inr h, rfl⟩
theorem z147 (w : World) : (zeroValue 161).run Try.prog w = .ok .nilFunc w := by kernel_rfl

set_option maxHeartbeats 4000000 in
set_option maxRecDepth 100000 in
theorem answer_no (w : World) (m : Nat) (r : List UInt8) (k t a sd pr c : Nat) (hc : c ≠ 0) (hRead : Calls Try.prog 93 #[.string ⟨r.toArray⟩] w fun e w' => e = .returned (.tuple #[reqV k t a sd pr, .int .u8 c]) ∧ Below w.heap.size w w') :
    Calls Try.prog 77 #[.pointer (some ⟨m, 0, none⟩), .string ⟨r.toArray⟩] w fun e w' => e = .returned (.tuple #[.int .u8 c, .slice none 0 0]) ∧ Below w.heap.size w w' := by
  have mixed : Try.prog.follows .mixedOrders = true := by kernel_rfl
  unfold reqV at hRead
  have HR : Aside _ := hRead
  have hb : ((c : Int) == 0) = false := beq_eq_false_iff_ne.2 (by omega)
  clear hRead hc
  go_enter Try.func77, Try.ntmps77
  go_wp2_with fail
  refine Calls.mono (f := 93) HR.out ?_
  rintro e w1 ⟨rfl, B1⟩
  go_wp2
  go_ret2
  refine ⟨rfl, B1.alloc ?_ _⟩
  exact B1.size

set_option maxHeartbeats 4000000 in
set_option maxRecDepth 100000 in
theorem answer_go (w : World) (m : Nat) (s : MkS) (x : Ex.Xch) (r : List UInt8) (k t a sd pr fn : Nat) (caps : Array Value) (R : Ex.Xch × List UInt8) (Fd : Nat → Option Value)
    (hRead : Calls Try.prog 93 #[.string ⟨r.toArray⟩] w fun e w' => e = .returned (.tuple #[reqV k t a sd pr, .int .u8 0]) ∧ Below w.heap.size w w') (hK : Mkt w m s x)
    (hB : MapF Try.prog 3 w s.bd 11 Fd) (hF : Fd k = some (.func (.func fn) #[] caps)) (hk : 1 ≤ k ∧ k ≤ 10) (hr0 : (r.getD 0 0).toNat = k) (hrl : r.length ≤ 1000) (hRj : R.1.jr.length ≤ 17592186044416) (hRt : 0 ≤ R.1.time ∧ R.1.time ≤ 1125899906842624)
    (hCF : ∀ w, (callFunc fn (#[.agg #[.int .i64 (k : Int), .int .i64 (t : Int), .int .u64 (a : Int), .int .i64 (sd : Int), .int .i64 (pr : Int)]] ++ caps)).run Try.prog w = .ok (.enter fn (#[.agg #[.int .i64 (k : Int), .int .i64 (t : Int), .int .u64 (a : Int), .int .i64 (sd : Int), .int .i64 (pr : Int)]] ++ caps)) w)
    (hD : ∀ w0, Below w.heap.size w w0 → Calls Try.prog fn (#[reqV k t a sd pr] ++ caps) w0 (Deed m s w0 R)) :
    Calls Try.prog 77 #[.pointer (some ⟨m, 0, none⟩), .string ⟨r.toArray⟩] w (Ans m s w (Ex.written R.1 r R.2, R.2)) := by
  have mixed : Try.prog.follows .mixedOrders = true := by kernel_rfl
  unfold reqV at hRead hD
  have HR : Aside _ := hRead
  clear hRead
  go_enter Try.func77, Try.ntmps77
  go_wp2_with fail
  refine Calls.mono (f := 93) HR.out ?_
  rintro e w1 ⟨rfl, B1⟩
  obtain ⟨W, hW⟩ : ∃ W, W = w1.alloc (.cells #[.int .i64 (k : Int), .int .i64 (t : Int), .int .u64 (a : Int), .int .i64 (sd : Int), .int .i64 (pr : Int)] 157) := ⟨_, rfl⟩
  have BW : Below w.heap.size w W := by rw [hW]; exact B1.alloc B1.size _
  have szW : W.heap.size = w1.heap.size + 1 := by rw [hW]; simp
  have rb : W.heap[w1.heap.size]? = some (.cells #[.int .i64 (k : Int), .int .i64 (t : Int), .int .u64 (a : Int), .int .i64 (sd : Int), .int .i64 (pr : Int)] 157) := by rw [hW]; exact heap_alloc_new w1 _
  have r0 : W.cell? ⟨w1.heap.size, 0, none⟩ = some (.int .i64 (k : Int)) := by simp [World.cell?, rb]
  have r1 : W.cell? ⟨w1.heap.size, 1, none⟩ = some (.int .i64 (t : Int)) := by simp [World.cell?, rb]
  have r2 : W.cell? ⟨w1.heap.size, 2, none⟩ = some (.int .u64 (a : Int)) := by simp [World.cell?, rb]
  have r3 : W.cell? ⟨w1.heap.size, 3, none⟩ = some (.int .i64 (sd : Int)) := by simp [World.cell?, rb]
  have r4 : W.cell? ⟨w1.heap.size, 4, none⟩ = some (.int .i64 (pr : Int)) := by simp [World.cell?, rb]
  have m14 := (hK.below BW).at_.all.c14
  have lk : (Instr.lookup 128 (.map (some s.bd)) (.int .i64 (k : Int)) false).run Try.prog W.drew = .ok (.func (.func fn) #[] caps) W.drew := by
    have h1 : MapF Try.prog 3 W.drew s.bd 11 Fd := hB.kept (BW.block _ hB.lt)
    have := h1.look K3 Try.underlying128 (z147 W.drew) (i := k) (by omega) (key3 k (by omega))
    rw [hF] at this
    exact this
  have HD : Aside (Calls Try.prog fn (#[.agg #[.int .i64 (k : Int), .int .i64 (t : Int), .int .u64 (a : Int), .int .i64 (sd : Int), .int .i64 (pr : Int)]] ++ caps) W.drew (Deed m s W.drew R)) := hD W.drew ⟨BW.os, BW.tape, BW.output, BW.size, BW.block⟩
  go_wp2_with fail
  rw [← hW]
  clear hW
  clear hD
  have fl := hK.foot_lt
  have HFL : Aside (∀ j, Foot m s j → j < w.heap.size) := fl
  have hjl : Aside (∀ j, s.jv.ownBlock = some j → j < w.heap.size) := fun j hj => hK.jrn.lt hj
  have szw : w.heap.size ≤ w1.heap.size := B1.size
  have HMX : Aside (m < w.heap.size) := hK.at_.lt
  have HBW : Aside (Below w.heap.size w W) := BW
  have HRB : Aside _ := rb
  clear hK hB hF B1 BW rb HR
  go_cut [4, 5] from 7 (fun vc vu w3 => ∃ c : UInt8, vc = .int .u8 (c.toNat : Int) ∧ Aside (Deed m s W.drew R (.returned (.tuple #[.int .u8 (c.toNat : Int), vu])) w3))
  case first =>
    go_region_with (go_at_fn fn; refine Calls.mono (f := fn) HD.out ?_; rintro e w3 ⟨s', u, c, told, d1, rfl, d2, d3, d4, d5, d6⟩)
    all_goals (
      go_wp2_with fail
      go_meet
      exact ⟨c, rfl, s', u, c, told, d1, rfl, d2, d3, d4, d5, d6⟩)
  case rest =>
    obtain ⟨c, rfl, DD⟩ := hcut
    obtain ⟨s', u, c', told, d1, d0, d2, d3, d4, d5, d6⟩ := DD.out
    injection d0 with d0
    injection d0 with d0
    have e1 : c' = c := by
      have := congrArg (fun l : Array Value => l[0]?) d0
      simp at this
      exact UInt8.toNat_inj.1 (by omega)
    have e2 : u5 = u := by
      have := congrArg (fun l : Array Value => l[1]?) d0
      simpa using this
    subst e1
    subst e2
    obtain ⟨va, vn, vc, rfl⟩ := d2.sl
    have szW3 : W.heap.size ≤ wc.heap.size := d5.onl.size
    have r0' : wc.cell? ⟨w1.heap.size, 0, none⟩ = some (.int .i64 (k : Int)) := (World.cell?_of_block (a := ⟨w1.heap.size, 0, none⟩) (d5.onl.block _ (by show w1.heap.size < W.heap.size; omega) (fun h => by have h' : w1.heap.size < w.heap.size := HFL.out _ h; omega))).trans r0
    have ST : Aside (Step m s w s' wc) := Step.trans (s1 := s) (w1 := W.drew) ⟨((Onl.refl _ w).below (show Below w.heap.size w W.drew from ⟨HBW.out.os, HBW.out.tape, HBW.out.output, HBW.out.size, HBW.out.block⟩)), fun _ h => Or.inl h, rfl⟩ d5
    have UN : Aside (∀ j, (Value.slice va vn vc).ownBlock = some j → w.heap.size ≤ j) := fun j hj => by have := d3 j hj; have : W.heap.size ≤ j := this; omega
    have HK3 : Aside (Mkt wc m s' R.1) := d4
    have HB3 : Aside (BRow wc (.slice va vn vc) told) := d2
    have HD1 : Aside (R.2 = c' :: told) := d1
    have HJ : Aside (s'.jv = s.jv) := d6
    clear d0 d1 d2 d3 d4 d5 d6 DD HD r0 r1 r2 r3 r4 m14 lk hCF
    by_cases hc : c' = 0
    · subst hc
      by_cases hk6 : k ≤ 6
      · have HCh : Aside (∀ w, Calls Try.prog 94 #[.int .i64 (k : Int)] w fun e w' => e = .returned (.bool true) ∧ w' = w) := fun w => by
          have := changes_any w k
          rw [decide_eq_true (by omega)] at this
          exact this
        obtain ⟨tn, htn⟩ := Int.eq_ofNat_of_zero_le hRt.1
        have HWr : Aside _ := write_any wc m s' R.1.jr r tn HK3.out.at_ HK3.out.jrn HK3.out.apart.jm (by rw [HK3.out.time]; exact htn) (by omega) hrl hRj
        have EW : Aside (Ex.written R.1 r R.2 = { R.1 with jr := R.1.jr ++ recB tn r }) := by
          show _ = _
          unfold Ex.written
          rw [if_pos ⟨by rw [HD1.out]; rfl, by omega⟩]
          have hrec : Ex.record R.1.time r = recB tn r := by
            unfold Ex.record recB
            rw [htn]
            rfl
          rw [hrec]
        clear htn hRt
        go_wp2_with fail
        refine Calls.mono (f := 94) (HCh.out _) ?_
        rintro e w4 ⟨rfl, rfl⟩
        go_wp2_with fail
        refine Calls.mono (f := 95) HWr.out ?_
        rintro e w5 ⟨v, rfl, M5, J5, O5, L5⟩
        go_wp2
        go_ret2
        refine ⟨{ s' with jv := v }, _, 0, told, HD1.out, rfl, ?_, UN.out, ?_, ?_⟩
        · refine HB3.out.kept (fun j hj => O5.block j (HB3.out.lt hj) (fun h => ?_))
          have un := UN.out j hj
          rcases h with rfl | h
          · have := HMX.out
            omega
          · rw [HJ.out] at h
            have := hjl.out j h
            omega
        · show Mkt _ _ _ (Ex.written R.1 r R.2)
          rw [EW.out]
          exact HK3.out.onJr v _ M5 O5 J5
        · exact ST.out.trans (Step.onJr v O5 L5)
      · have HCh : Aside (∀ w, Calls Try.prog 94 #[.int .i64 (k : Int)] w fun e w' => e = .returned (.bool false) ∧ w' = w) := fun w => by
          have := changes_any w k
          rw [decide_eq_false (by omega)] at this
          exact this
        have EW : Aside (Ex.written R.1 r R.2 = R.1) := by
          show _ = _
          unfold Ex.written
          rw [if_neg (by omega)]
        go_wp2_with fail
        refine Calls.mono (f := 94) (HCh.out _) ?_
        rintro e w4 ⟨rfl, rfl⟩
        go_wp2
        go_ret2
        refine ⟨s', _, 0, told, HD1.out, rfl, HB3.out, UN.out, ?_, ST.out⟩
        show Mkt _ _ _ (Ex.written R.1 r R.2)
        rw [EW.out]
        exact HK3.out
    · have hcn : ((c'.toNat : Int) == 0) = false := beq_eq_false_iff_ne.2 (fun e => hc (UInt8.toNat_inj.1 (by show c'.toNat = 0; omega)))
      have EW : Aside (Ex.written R.1 r R.2 = R.1) := by
        show _ = _
        unfold Ex.written
        rw [if_neg (fun h => hc (by have := h.1; rw [HD1.out] at this; exact this))]
      clear hc
      go_wp2
      go_ret2
      refine ⟨s', _, c', told, HD1.out, rfl, HB3.out, UN.out, ?_, ST.out⟩
      show Mkt _ _ _ (Ex.written R.1 r R.2)
      rw [EW.out]
      exact HK3.out
end Go.Proofs.Ytjfifaooimgbaaa
