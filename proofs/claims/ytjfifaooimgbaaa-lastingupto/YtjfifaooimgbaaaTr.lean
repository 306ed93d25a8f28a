import Derived.Test.YtjfifaooimgbaaaRo2
import Derived.Deep.Cut
import Derived.BigRegion
/- answer. -/
namespace Go.Proofs.Ytjfifaooimgbaaa
open Go.Shelf Go.RowKit Go.Lib Go.Sort

/-- an answer is given. -/
def Ans (m : Nat) (s : MkS) (w : World) (R : Ex.Xch × List UInt8) (e : Ending) (w' : World) : Prop :=
  ∃ s' u c told, R.2 = c :: told ∧ e = .returned (.tuple #[.int .u8 ((c : UInt8).toNat : Int), u]) ∧ BRow w' u told ∧ (∀ j, u.ownBlock = some j → w.heap.size ≤ j) ∧ Mkt w' m s' R.1 ∧ Step m s w s' w'
theorem Mkt.onJr {w w' : World} {m : Nat} {s : MkS} {x : Ex.Xch} (h : Mkt w m s x) (v : Value) (j : List UInt8) (hM : MkAt w' m { s with jv := v }) (o : Onl (fun k => k = m ∨ s.jv.ownBlock = some k) w w') (hJ : BRow w' v j) : Mkt w' m { s with jv := v } { x with jr := j } := by
  have A := h.apart
  exact { at_ := hM
          acc := h.acc.kept (o.block _ h.acc.lt (fun e => by
            rcases e with e | e
            · exact A.ma e.symm
            · exact A.ja e))
          ord := h.ord.kept (fun k hk => o.block k (h.ord.lt hk) (fun e => by
            rcases e with e | e
            · exact A.om (by rw [hk, e])
            · exact A.oj k hk e))
          prc := h.prc.kept (o.block _ h.prc.lt (fun e => by
            rcases e with e | e
            · exact A.mp e.symm
            · exact A.jp e))
          jrn := hJ
          nap := h.nap, per := h.per, cap := h.cap, time := h.time, num := h.num, fin := h.fin, last := h.last, prs := h.prs, fls := h.fls, pay := h.pay, get := h.get, share := h.share }
theorem Step.onJr {w w' : World} {m : Nat} {s : MkS} (v : Value) (o : Onl (fun k => k = m ∨ s.jv.ownBlock = some k) w w') (l : Lies w s.jv v) : Step m s w { s with jv := v } w' :=
  ⟨o.mono (fun i hi => by
    rcases hi with h | h
    · exact Or.inl h
    · exact Or.inr (Or.inr (Or.inr (Or.inr h)))), fun k hk => by
    rcases hk with h | h | h | h | h
    · exact Or.inl (Or.inl h)
    · exact Or.inl (Or.inr (Or.inl h))
    · exact Or.inl (Or.inr (Or.inr (Or.inl h)))
    · exact Or.inl (Or.inr (Or.inr (Or.inr (Or.inl h))))
    · rcases l.own k h with h | h
      · exact Or.inl (Or.inr (Or.inr (Or.inr (Or.inr h))))
      · exact Or.inr h, rfl⟩
theorem z147 (w : World) : (zeroValue 161).run Try.prog w = .ok .nilFunc w := by kernel_rfl

set_option maxHeartbeats 4000000 in
set_option maxRecDepth 100000 in
theorem answer_no (w : World) (m : Nat) (r : List UInt8) (k t a sd pr c : Nat) (hc : c ≠ 0) (hRead : Calls Try.prog 93 #[.string ⟨r.toArray⟩] w fun e w' => e = .returned (.tuple #[reqV k t a sd pr, .int .u8 c]) ∧ Below w.heap.size w w') :
    Calls Try.prog 77 #[.pointer (some ⟨m, 0, none⟩), .string ⟨r.toArray⟩] w fun e w' => e = .returned (.tuple #[.int .u8 c, .slice none 0 0]) ∧ Below w.heap.size w w' := by
  have mixed : Try.prog.follows .mixedOrders = true := by kernel_rfl
  unfold reqV at hRead
  have HR : Aside _ := hRead
  have hb : ((c : Int) == 0) = false := beq_eq_false_iff_ne.2 (by omega)
  clear hRead hc
  go_enter Try.func77, Try.ntmps77
  go_wp2_with fail
  refine Calls.mono (f := 93) HR.out ?_
  rintro e w1 ⟨rfl, B1⟩
  go_wp2
  go_ret2
  refine ⟨rfl, B1.alloc ?_ _⟩
  exact B1.size

set_option maxHeartbeats 4000000 in
set_option maxRecDepth 100000 in
theorem answer_go (w : World) (m : Nat) (s : MkS) (x : Ex.Xch) (r : List UInt8) (k t a sd pr fn : Nat) (caps : Array Value) (R : Ex.Xch × List UInt8) (Fd : Nat → Option Value)
    (hRead : Calls Try.prog 93 #[.string ⟨r.toArray⟩] w fun e w' => e = .returned (.tuple #[reqV k t a sd pr, .int .u8 0]) ∧ Below w.heap.size w w') (hK : Mkt w m s x)
    (hB : MapF Try.prog 3 w s.bd 11 Fd) (hF : Fd k = some (.func (.func fn) #[] caps)) (hk : 1 ≤ k ∧ k ≤ 10) (hr0 : (r.getD 0 0).toNat = k) (hrl : r.length ≤ 1000) (hRj : R.1.jr.length ≤ 17592186044416) (hRt : 0 ≤ R.1.time ∧ R.1.time ≤ 1125899906842624)
    (hCF : ∀ w, (callFunc fn (#[.agg #[.int .i64 (k : Int), .int .i64 (t : Int), .int .u64 (a : Int), .int .i64 (sd : Int), .int .i64 (pr : Int)]] ++ caps)).run Try.prog w = .ok (.enter fn (#[.agg #[.int .i64 (k : Int), .int .i64 (t : Int), .int .u64 (a : Int), .int .i64 (sd : Int), .int .i64 (pr : Int)]] ++ caps)) w)
    (hD : ∀ w0, Below w.heap.size w w0 → Calls Try.prog fn (#[reqV k t a sd pr] ++ caps) w0 (Deed m s w0 R)) :
    Calls Try.prog 77 #[.pointer (some ⟨m, 0, none⟩), .string ⟨r.toArray⟩] w (Ans m s w (Ex.written R.1 r R.2, R.2)) := by
  have mixed : Try.prog.follows .mixedOrders = true := by kernel_rfl
  unfold reqV at hRead hD
  have HR : Aside _ := hRead
  clear hRead
  go_enter Try.func77, Try.ntmps77
  go_wp2_with fail
  refine Calls.mono (f := 93) HR.out ?_
  rintro e w1 ⟨rfl, B1⟩
  obtain ⟨W, hW⟩ : ∃ W, W = w1.alloc (.cells #[.int .i64 (k : Int), .int .i64 (t : Int), .int .u64 (a : Int), .int .i64 (sd : Int), .int .i64 (pr : Int)] 157) := ⟨_, rfl⟩
  have BW : Below w.heap.size w W := by rw [hW]; exact B1.alloc B1.size _
  have szW : W.heap.size = w1.heap.size + 1 := by rw [hW]; simp
  have rb : W.heap[w1.heap.size]? = some (.cells #[.int .i64 (k : Int), .int .i64 (t : Int), .int .u64 (a : Int), .int .i64 (sd : Int), .int .i64 (pr : Int)] 157) := by rw [hW]; exact heap_alloc_new w1 _
  have r0 : W.cell? ⟨w1.heap.size, 0, none⟩ = some (.int .i64 (k : Int)) := by simp [World.cell?, rb]
  have r1 : W.cell? ⟨w1.heap.size, 1, none⟩ = some (.int .i64 (t : Int)) := by simp [World.cell?, rb]
  have r2 : W.cell? ⟨w1.heap.size, 2, none⟩ = some (.int .u64 (a : Int)) := by simp [World.cell?, rb]
  have r3 : W.cell? ⟨w1.heap.size, 3, none⟩ = some (.int .i64 (sd : Int)) := by simp [World.cell?, rb]
  have r4 : W.cell? ⟨w1.heap.size, 4, none⟩ = some (.int .i64 (pr : Int)) := by simp [World.cell?, rb]
  have m14 := (hK.below BW).at_.all.c14
  have lk : (Instr.lookup 128 (.map (some s.bd)) (.int .i64 (k : Int)) false).run Try.prog W.drew = .ok (.func (.func fn) #[] caps) W.drew := by
    have h1 : MapF Try.prog 3 W.drew s.bd 11 Fd := hB.kept (BW.block _ hB.lt)
    have := h1.look K3 Try.underlying128 (z147 W.drew) (i := k) (by omega) (key3 k (by omega))
    rw [hF] at this
    exact this
  have HD : Aside (Calls Try.prog fn (#[.agg #[.int .i64 (k : Int), .int .i64 (t : Int), .int .u64 (a : Int), .int .i64 (sd : Int), .int .i64 (pr : Int)]] ++ caps) W.drew (Deed m s W.drew R)) := hD W.drew ⟨BW.os, BW.tape, BW.output, BW.size, BW.block⟩
  go_wp2_with fail
  rw [← hW]
  clear hW
  clear hD
  have fl := hK.foot_lt
  have HFL : Aside (∀ j, Foot m s j → j < w.heap.size) := fl
  have hjl : Aside (∀ j, s.jv.ownBlock = some j → j < w.heap.size) := fun j hj => hK.jrn.lt hj
  have szw : w.heap.size ≤ w1.heap.size := B1.size
  have HMX : Aside (m < w.heap.size) := hK.at_.lt
  have HBW : Aside (Below w.heap.size w W) := BW
  have HRB : Aside _ := rb
  clear hK hB hF B1 BW rb HR
  go_cut [4, 5] from 7 (fun vc vu w3 => ∃ c : UInt8, vc = .int .u8 (c.toNat : Int) ∧ Aside (Deed m s W.drew R (.returned (.tuple #[.int .u8 (c.toNat : Int), vu])) w3))
  case first =>
    go_region_with (go_at_fn fn; refine Calls.mono (f := fn) HD.out ?_; rintro e w3 ⟨s', u, c, told, d1, rfl, d2, d3, d4, d5, d6⟩)
    all_goals (
      go_wp2_with fail
      go_meet
      exact ⟨c, rfl, s', u, c, told, d1, rfl, d2, d3, d4, d5, d6⟩)
  case rest =>
    obtain ⟨c, rfl, DD⟩ := hcut
    obtain ⟨s', u, c', told, d1, d0, d2, d3, d4, d5, d6⟩ := DD.out
    injection d0 with d0
    injection d0 with d0
    have e1 : c' = c := by
      have := congrArg (fun l : Array Value => l[0]?) d0
      simp at this
      exact UInt8.toNat_inj.1 (by omega)
    have e2 : u5 = u := by
      have := congrArg (fun l : Array Value => l[1]?) d0
      simpa using this
    subst e1
    subst e2
    obtain ⟨va, vn, vc, rfl⟩ := d2.sl
    have szW3 : W.heap.size ≤ wc.heap.size := d5.onl.size
    have r0' : wc.cell? ⟨w1.heap.size, 0, none⟩ = some (.int .i64 (k : Int)) := (World.cell?_of_block (a := ⟨w1.heap.size, 0, none⟩) (d5.onl.block _ (by show w1.heap.size < W.heap.size; omega) (fun h => by have h' : w1.heap.size < w.heap.size := HFL.out _ h; omega))).trans r0
    have ST : Aside (Step m s w s' wc) := Step.trans (s1 := s) (w1 := W.drew) ⟨((Onl.refl _ w).below (show Below w.heap.size w W.drew from ⟨HBW.out.os, HBW.out.tape, HBW.out.output, HBW.out.size, HBW.out.block⟩)), fun _ h => Or.inl h, rfl⟩ d5
    have UN : Aside (∀ j, (Value.slice va vn vc).ownBlock = some j → w.heap.size ≤ j) := fun j hj => by have := d3 j hj; have : W.heap.size ≤ j := this; omega
    have HK3 : Aside (Mkt wc m s' R.1) := d4
    have HB3 : Aside (BRow wc (.slice va vn vc) told) := d2
    have HD1 : Aside (R.2 = c' :: told) := d1
    have HJ : Aside (s'.jv = s.jv) := d6
    clear d0 d1 d2 d3 d4 d5 d6 DD HD r0 r1 r2 r3 r4 m14 lk hCF
    by_cases hc : c' = 0
    · subst hc
      by_cases hk6 : k ≤ 6
      · have HCh : Aside (∀ w, Calls Try.prog 94 #[.int .i64 (k : Int)] w fun e w' => e = .returned (.bool true) ∧ w' = w) := fun w => by
          have := changes_any w k
          rw [decide_eq_true (by omega)] at this
          exact this
        obtain ⟨tn, htn⟩ := Int.eq_ofNat_of_zero_le hRt.1
        have HWr : Aside _ := write_any wc m s' R.1.jr r tn HK3.out.at_ HK3.out.jrn HK3.out.apart.jm (by rw [HK3.out.time]; exact htn) (by omega) hrl hRj
        have EW : Aside (Ex.written R.1 r R.2 = { R.1 with jr := R.1.jr ++ recB tn r }) := by
          show _ = _
          unfold Ex.written
          rw [if_pos ⟨by rw [HD1.out]; rfl, by omega⟩]
          have hrec : Ex.record R.1.time r = recB tn r := by
            unfold Ex.record recB
            rw [htn]
            rfl
          rw [hrec]
        clear htn hRt
        go_wp2_with fail
        refine Calls.mono (f := 94) (HCh.out _) ?_
        rintro e w4 ⟨rfl, rfl⟩
        go_wp2_with fail
        refine Calls.mono (f := 95) HWr.out ?_
        rintro e w5 ⟨v, rfl, M5, J5, O5, L5⟩
        go_wp2
        go_ret2
        refine ⟨{ s' with jv := v }, _, 0, told, HD1.out, rfl, ?_, UN.out, ?_, ?_⟩
        · refine HB3.out.kept (fun j hj => O5.block j (HB3.out.lt hj) (fun h => ?_))
          have un := UN.out j hj
          rcases h with rfl | h
          · have := HMX.out
            omega
          · rw [HJ.out] at h
            have := hjl.out j h
            omega
        · show Mkt _ _ _ (Ex.written R.1 r R.2)
          rw [EW.out]
          exact HK3.out.onJr v _ M5 O5 J5
        · exact ST.out.trans (Step.onJr v O5 L5)
      · have HCh : Aside (∀ w, Calls Try.prog 94 #[.int .i64 (k : Int)] w fun e w' => e = .returned (.bool false) ∧ w' = w) := fun w => by
          have := changes_any w k
          rw [decide_eq_false (by omega)] at this
          exact this
        have EW : Aside (Ex.written R.1 r R.2 = R.1) := by
          show _ = _
          unfold Ex.written
          rw [if_neg (by omega)]
        go_wp2_with fail
        refine Calls.mono (f := 94) (HCh.out _) ?_
        rintro e w4 ⟨rfl, rfl⟩
        go_wp2
        go_ret2
        refine ⟨s', _, 0, told, HD1.out, rfl, HB3.out, UN.out, ?_, ST.out⟩
        show Mkt _ _ _ (Ex.written R.1 r R.2)
        rw [EW.out]
        exact HK3.out
    · have hcn : ((c'.toNat : Int) == 0) = false := beq_eq_false_iff_ne.2 (fun e => hc (UInt8.toNat_inj.1 (by show c'.toNat = 0; omega)))
      have EW : Aside (Ex.written R.1 r R.2 = R.1) := by
        show _ = _
        unfold Ex.written
        rw [if_neg (fun h => hc (by have := h.1; rw [HD1.out] at this; exact this))]
      clear hc
      go_wp2
      go_ret2
      refine ⟨s', _, c', told, HD1.out, rfl, HB3.out, UN.out, ?_, ST.out⟩
      show Mkt _ _ _ (Ex.written R.1 r R.2)
      rw [EW.out]
      exact HK3.out
end Go.Proofs.Ytjfifaooimgbaaa
/- A filled order's trade. -/
namespace Go.Proofs.Ytjfifaooimgbaaa
open Go.Shelf Go.RowKit Go.Lib Go.Sort

/-- small enough. -/
def Calm (q : Nat → A4) : Prop := ∀ i, i < 21 → (-288230376151711744 ≤ (q i).c ∧ (q i).c ≤ 288230376151711744 ∧ -288230376151711744 ≤ (q i).h ∧ (q i).h ≤ 288230376151711744) ∧ (-288230376151711744 ≤ (q i).u ∧ (q i).u ≤ 288230376151711744 ∧ -288230376151711744 ≤ (q i).k ∧ (q i).k ≤ 288230376151711744)
theorem Calm.ok {q : Nat → A4} (h : Calm q) {i : Nat} (hi : i < 21) : (q i).ok := by
  have := h i hi
  exact ⟨⟨by omega, by omega⟩, ⟨by omega, by omega⟩, ⟨by omega, by omega⟩, ⟨by omega, by omega⟩⟩
/-- what a trade comes to. -/
def tradeQ (o : Ex.Ord) (pay get : Int) (q : Nat → A4) : Nat → A4 :=
  if o.side = 0 then let q1 := updA q o.who (chg 0 (-pay) 0 (q o.who)); updA q1 o.who (chg 1 1 0 (q1 o.who))
  else let q1 := updA q o.who (chg 1 (-1) 0 (q o.who)); updA q1 o.who (chg 0 get 0 (q1 o.who))

theorem updA_same (q : Nat → A4) (i : Nat) (v : A4) : updA q i v i = v := if_pos rfl
/-- only the accounts, and the prices, are written. -/
abbrev OnlAP (s : MkS) (w w' : World) : Prop := Onl (fun k => k = s.ba ∨ k = s.bp) w w'

set_option maxHeartbeats 2000000 in
set_option maxRecDepth 100000 in
theorem trade_buy (w : World) (m : Nat) (s : MkS) (q : Nat → A4) (f : Nat → Option Value) (who : Nat) (price : Int) (hM : MkAt w m s) (hA : AccF w s.ba q) (hP : MapF Try.prog 3 w s.bp 20 f) (hq : Calm q) (ho : who < 20) (hpay : 0 ≤ s.pay ∧ s.pay ≤ 1000) (hap : s.ba ≠ s.bp) :
    Calls Try.prog 109 #[.pointer (some ⟨m, 0, none⟩), ordV ⟨who, 0, price⟩] w fun e w' => e = .returned (.tuple #[]) ∧ AccF w' s.ba (tradeQ ⟨who, 0, price⟩ s.pay s.get q) ∧ MapF Try.prog 3 w' s.bp 20 (setF f who (.int .i64 s.pay)) ∧ OnlAP s w w' := by
  have mixed : Try.prog.follows .mixedOrders = true := by kernel_rfl
  have ok1 := hq.ok (i := who) (by omega)
  have hqt := hq who (by omega)
  obtain ⟨W, hW⟩ : ∃ W, W = w.alloc (.cells #[.int .i64 (who : Int), .int .i64 0, .int .i64 price] 171) := ⟨_, rfl⟩
  have hsz : W.heap.size = w.heap.size + 1 := by rw [hW]; simp
  have bk : ∀ j, j < w.heap.size → W.heap[j]? = w.heap[j]? := fun j hj => by rw [hW]; exact Below.heap_alloc w _ j hj
  have MW : MkAt W m s := hM.kept (bk m hM.lt)
  have AW : AccF W s.ba q := hA.kept (bk _ hA.lt)
  have PW : MapF Try.prog 3 W s.bp 20 f := hP.kept (bk _ hP.lt)
  have r0 : W.heap[w.heap.size]? = some (.cells #[.int .i64 (who : Int), .int .i64 0, .int .i64 price] 171 (0, 0)) := by rw [hW]; exact heap_alloc_new w _
  have OW : Aside (OnlAP s w W) := by show Onl _ _ _; rw [hW]; exact (Onl.refl _ w).alloc _
  have nma : m ≠ s.ba := fun e => by
    obtain ⟨es, c, h1⟩ := AW.block
    have h2 : W.heap[m]? = _ := MW
    rw [e, h1] at h2; cases h2
  have nwa : w.heap.size ≠ s.ba := fun e => by
    have := hA.lt
    omega
  have hml : m < W.heap.size := MW.lt
  unfold ordV
  have HT : Aside _ := take_any W.drew s.ba q who 0 s.pay (AW.kept rfl) (by omega) (by decide) ok1 ⟨by omega, by omega⟩
  have HP : Aside (∀ w1, AccF w1 s.ba (updA q who (chg 0 (-s.pay) 0 (q who))) → Calls Try.prog 110 #[.map (some s.ba), .int .i64 (who : Int), .int .i64 1, .int .i64 1] w1 fun e w' => e = .returned (.tuple #[]) ∧ AccF w' s.ba (updA (updA q who (chg 0 (-s.pay) 0 (q who))) who (chg 1 1 0 (updA q who (chg 0 (-s.pay) 0 (q who)) who))) ∧ Onl (· = s.ba) w1 w') := fun w1 h1 => put_any w1 s.ba _ who 1 1 h1 (by omega) (by decide) (by
    rw [updA_same]
    unfold chg
    rw [if_pos rfl]
    refine ⟨⟨?_, ?_⟩, ⟨?_, ?_⟩, ok1.u, ok1.k⟩ <;> dsimp only <;> omega) ⟨by decide, by decide⟩
  have EQ : Aside (tradeQ ⟨who, 0, price⟩ s.pay s.get q = updA (updA q who (chg 0 (-s.pay) 0 (q who))) who (chg 1 1 0 (updA q who (chg 0 (-s.pay) 0 (q who)) who))) := by
    show _ = _
    unfold tradeQ; rw [if_pos rfl]
  generalize tradeQ ⟨who, 0, price⟩ s.pay s.get q = qq at *
  have C := MW.all
  have m3 := C.c3
  have m9 := C.c9
  have rc0 : W.cell? ⟨w.heap.size, 0, none⟩ = some (.int .i64 (who : Int)) := by simp [World.cell?, r0]
  have HM : Aside (MkAt W m s) := MW
  have HPW : Aside (MapF Try.prog 3 W s.bp 20 f) := PW
  have HR0 : Aside (W.heap[w.heap.size]? = some (.cells #[.int .i64 (who : Int), .int .i64 0, .int .i64 price] 171 (0, 0))) := r0
  clear hM hA hP hq AW PW MW bk C r0 ok1 hqt
  go_enter Try.func109, Try.ntmps109
  go_wp2_with fail
  rw [← hW]
  clear hW
  go_still_tail 11, mixed
  go_wp2_with fail
  refine Calls.mono (f := 118) HT.out ?_
  rintro e w1 ⟨rfl, A1, O1⟩
  have M1 : MkAt w1 m s := HM.out.kept (O1.block m hml nma)
  have R1 : w1.heap[w.heap.size]? = some (.cells #[.int .i64 (who : Int), .int .i64 0, .int .i64 price] 171 (0, 0)) := (O1.block w.heap.size (by show w.heap.size < W.heap.size; omega) nwa).trans HR0.out
  have P1 : MapF Try.prog 3 w1 s.bp 20 f := HPW.out.kept (O1.block _ HPW.out.lt (fun e => hap e.symm))
  have m3 := M1.all.c3
  have rc0 : w1.cell? ⟨w.heap.size, 0, none⟩ = some (.int .i64 (who : Int)) := by simp [World.cell?, R1]
  have HA1 : Aside _ := A1
  have HO1 : Aside (OnlAP s w w1) := OW.out.drew.trans O1 (fun i hi => Or.inl (Or.inl hi))
  have HM1 : Aside (MkAt w1 m s) := M1
  have HR1 : Aside (w1.heap[w.heap.size]? = some (.cells #[.int .i64 (who : Int), .int .i64 0, .int .i64 price] 171 (0, 0))) := R1
  have HP1 : Aside (MapF Try.prog 3 w1 s.bp 20 f) := P1
  have hs1 : W.heap.size ≤ w1.heap.size := O1.size
  clear HT A1 O1 M1 R1 P1 HM HPW HR0
  go_wp2_with fail
  go_still_tail 6, mixed
  go_wp2_with fail
  refine Calls.mono (f := 110) (HP.out w1.drew (AccF.kept HA1.out rfl)) ?_
  rintro e w2 ⟨rfl, A2, O2⟩
  have M2 : MkAt w2 m s := HM1.out.kept (O2.block m (by show m < w1.heap.size; omega) nma)
  have R2 : w2.heap[w.heap.size]? = some (.cells #[.int .i64 (who : Int), .int .i64 0, .int .i64 price] 171 (0, 0)) := (O2.block w.heap.size (by show w.heap.size < w1.heap.size; omega) nwa).trans HR1.out
  have P2 : MapF Try.prog 3 w2 s.bp 20 f := HP1.out.kept (O2.block _ HP1.out.lt (fun e => hap e.symm))
  have m12 := M2.all.c12
  have m9 := M2.all.c9
  have rc0 : w2.cell? ⟨w.heap.size, 0, none⟩ = some (.int .i64 (who : Int)) := by simp [World.cell?, R2]
  have HO2 : Aside (OnlAP s w w2) := HO1.out.drew.trans O2 (fun i hi => Or.inl (Or.inl hi))
  have HA2 : Aside (AccF w2 s.ba qq) := by show AccF _ _ _; rw [EQ.out]; exact A2
  have HP2 : Aside (MapF Try.prog 3 w2.drew s.bp 20 f) := P2.kept rfl
  clear A2 O2 M2 R2 P2 HM1 HR1 HP1 HO1 HP HA1
  go_wp2_with fail
  go_still_tail 12, mixed
  go_wp2_with (first | (at_mapUpdate; refine wpList_store_mapf _ rfl _ _ _ 125 rfl 3 3 K3 Try.underlying125 s.bp 20 f (by decide) rfl HP2.out who ho _ _ rfl rfl (key3 _ (by omega)) ?_; intro w3 g1 g2 g3) | fail)
  try simp only [Exit.inBlock, Exit.then]
  refine bodyPost_ret (results_none rfl _ _ _) rfl ?_
  refine ⟨rfl, HA2.out.kept (g2.block _ HA2.out.lt (fun e => hap (by injection e))), g1, ?_⟩
  exact HO2.out.drew.grown g2 (Or.inl (Or.inr rfl))

set_option maxHeartbeats 2000000 in
set_option maxRecDepth 100000 in
theorem trade_sell (w : World) (m : Nat) (s : MkS) (q : Nat → A4) (f : Nat → Option Value) (who : Nat) (side price : Int) (hs : side ≠ 0) (hM : MkAt w m s) (hA : AccF w s.ba q) (hP : MapF Try.prog 3 w s.bp 20 f) (hq : Calm q) (ho : who < 20) (hget : 0 ≤ s.get ∧ s.get ≤ 1000) (hap : s.ba ≠ s.bp) :
    Calls Try.prog 109 #[.pointer (some ⟨m, 0, none⟩), ordV ⟨who, side, price⟩] w fun e w' => e = .returned (.tuple #[]) ∧ AccF w' s.ba (tradeQ ⟨who, side, price⟩ s.pay s.get q) ∧ MapF Try.prog 3 w' s.bp 20 (setF f who (.int .i64 s.get)) ∧ OnlAP s w w' := by
  have mixed : Try.prog.follows .mixedOrders = true := by kernel_rfl
  have ok1 := hq.ok (i := who) (by omega)
  have hqt := hq who (by omega)
  obtain ⟨W, hW⟩ : ∃ W, W = w.alloc (.cells #[.int .i64 (who : Int), .int .i64 side, .int .i64 price] 171) := ⟨_, rfl⟩
  have hsz : W.heap.size = w.heap.size + 1 := by rw [hW]; simp
  have bk : ∀ j, j < w.heap.size → W.heap[j]? = w.heap[j]? := fun j hj => by rw [hW]; exact Below.heap_alloc w _ j hj
  have MW : MkAt W m s := hM.kept (bk m hM.lt)
  have AW : AccF W s.ba q := hA.kept (bk _ hA.lt)
  have PW : MapF Try.prog 3 W s.bp 20 f := hP.kept (bk _ hP.lt)
  have r0 : W.heap[w.heap.size]? = some (.cells #[.int .i64 (who : Int), .int .i64 side, .int .i64 price] 171 (0, 0)) := by rw [hW]; exact heap_alloc_new w _
  have OW : Aside (OnlAP s w W) := by show Onl _ _ _; rw [hW]; exact (Onl.refl _ w).alloc _
  have nma : m ≠ s.ba := fun e => by
    obtain ⟨es, c, h1⟩ := AW.block
    have h2 : W.heap[m]? = _ := MW
    rw [e, h1] at h2; cases h2
  have nwa : w.heap.size ≠ s.ba := fun e => by
    have := hA.lt
    omega
  have hml : m < W.heap.size := MW.lt
  unfold ordV
  have hb : (side == 0) = false := beq_eq_false_iff_ne.2 hs
  have HT : Aside _ := take_any W.drew s.ba q who 1 1 (AW.kept rfl) (by omega) (by decide) ok1 ⟨by decide, by decide⟩
  have HP : Aside (∀ w1, AccF w1 s.ba (updA q who (chg 1 (-1) 0 (q who))) → Calls Try.prog 110 #[.map (some s.ba), .int .i64 (who : Int), .int .i64 0, .int .i64 s.get] w1 fun e w' => e = .returned (.tuple #[]) ∧ AccF w' s.ba (updA (updA q who (chg 1 (-1) 0 (q who))) who (chg 0 s.get 0 (updA q who (chg 1 (-1) 0 (q who)) who))) ∧ Onl (· = s.ba) w1 w') := fun w1 h1 => put_any w1 s.ba _ who 0 s.get h1 (by omega) (by decide) (by
    rw [updA_same]
    unfold chg
    rw [if_neg (by decide)]
    refine ⟨ok1.c, ok1.h, ⟨?_, ?_⟩, ⟨?_, ?_⟩⟩ <;> dsimp only <;> omega) ⟨by omega, by omega⟩
  have EQ : Aside (tradeQ ⟨who, side, price⟩ s.pay s.get q = updA (updA q who (chg 1 (-1) 0 (q who))) who (chg 0 s.get 0 (updA q who (chg 1 (-1) 0 (q who)) who))) := by
    show _ = _
    unfold tradeQ; rw [if_neg hs]
  generalize tradeQ ⟨who, side, price⟩ s.pay s.get q = qq at *
  have C := MW.all
  have m3 := C.c3
  have rc0 : W.cell? ⟨w.heap.size, 0, none⟩ = some (.int .i64 (who : Int)) := by simp [World.cell?, r0]
  have HM : Aside (MkAt W m s) := MW
  have HPW : Aside (MapF Try.prog 3 W s.bp 20 f) := PW
  have HR0 : Aside (W.heap[w.heap.size]? = some (.cells #[.int .i64 (who : Int), .int .i64 side, .int .i64 price] 171 (0, 0))) := r0
  clear hs hM hA hP hq AW PW MW bk C r0 ok1 hqt
  go_enter Try.func109, Try.ntmps109
  go_wp2_with fail
  rw [← hW]
  clear hW
  go_still_tail 6, mixed
  go_wp2_with fail
  refine Calls.mono (f := 118) HT.out ?_
  rintro e w1 ⟨rfl, A1, O1⟩
  have M1 : MkAt w1 m s := HM.out.kept (O1.block m hml nma)
  have R1 : w1.heap[w.heap.size]? = some (.cells #[.int .i64 (who : Int), .int .i64 side, .int .i64 price] 171 (0, 0)) := (O1.block w.heap.size (by show w.heap.size < W.heap.size; omega) nwa).trans HR0.out
  have P1 : MapF Try.prog 3 w1 s.bp 20 f := HPW.out.kept (O1.block _ HPW.out.lt (fun e => hap e.symm))
  have m3 := M1.all.c3
  have m10 := M1.all.c10
  have rc0 : w1.cell? ⟨w.heap.size, 0, none⟩ = some (.int .i64 (who : Int)) := by simp [World.cell?, R1]
  have HA1 : Aside _ := A1
  have HO1 : Aside (OnlAP s w w1) := OW.out.drew.trans O1 (fun i hi => Or.inl (Or.inl hi))
  have HM1 : Aside (MkAt w1 m s) := M1
  have HR1 : Aside (w1.heap[w.heap.size]? = some (.cells #[.int .i64 (who : Int), .int .i64 side, .int .i64 price] 171 (0, 0))) := R1
  have HP1 : Aside (MapF Try.prog 3 w1 s.bp 20 f) := P1
  have hs1 : W.heap.size ≤ w1.heap.size := O1.size
  clear HT A1 O1 M1 R1 P1 HM HPW HR0
  go_wp2_with fail
  go_still_tail 11, mixed
  go_wp2_with fail
  refine Calls.mono (f := 110) (HP.out w1.drew (AccF.kept HA1.out rfl)) ?_
  rintro e w2 ⟨rfl, A2, O2⟩
  have M2 : MkAt w2 m s := HM1.out.kept (O2.block m (by show m < w1.heap.size; omega) nma)
  have R2 : w2.heap[w.heap.size]? = some (.cells #[.int .i64 (who : Int), .int .i64 side, .int .i64 price] 171 (0, 0)) := (O2.block w.heap.size (by show w.heap.size < w1.heap.size; omega) nwa).trans HR1.out
  have P2 : MapF Try.prog 3 w2 s.bp 20 f := HP1.out.kept (O2.block _ HP1.out.lt (fun e => hap e.symm))
  have m12 := M2.all.c12
  have m10 := M2.all.c10
  have rc0 : w2.cell? ⟨w.heap.size, 0, none⟩ = some (.int .i64 (who : Int)) := by simp [World.cell?, R2]
  have HO2 : Aside (OnlAP s w w2) := HO1.out.drew.trans O2 (fun i hi => Or.inl (Or.inl hi))
  have HA2 : Aside (AccF w2 s.ba qq) := by show AccF _ _ _; rw [EQ.out]; exact A2
  have HP2 : Aside (MapF Try.prog 3 w2.drew s.bp 20 f) := P2.kept rfl
  clear A2 O2 M2 R2 P2 HM1 HR1 HP1 HO1 HP HA1
  go_wp2_with fail
  go_still_tail 12, mixed
  go_wp2_with (first | (at_mapUpdate; refine wpList_store_mapf _ rfl _ _ _ 125 rfl 3 3 K3 Try.underlying125 s.bp 20 f (by decide) rfl HP2.out who ho _ _ rfl rfl (key3 _ (by omega)) ?_; intro w3 g1 g2 g3) | fail)
  go_end0
  refine ⟨rfl, HA2.out.kept (g2.block _ HA2.out.lt (fun e => hap (by injection e))), g1, ?_⟩
  exact HO2.out.drew.grown g2 (Or.inl (Or.inr rfl))
end Go.Proofs.Ytjfifaooimgbaaa
