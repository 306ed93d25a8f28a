import Derived.Test.YteeplklhbhaicaaFu
/- The floor: others. -/
namespace Go.Proofs.Yteeplklhbhaicaa
open Go.Shelf Go.RowKit Go.Lib Go.Sort

variable {Rep : World → (Nat → Prop) → Nat → Ex.Xch → Prop}

/-- the moves of the traders but 0; time stands still. -/
def isOth (m : Int × Int × Int) : Prop := 0 < pickN m.2.1 20 ∧ pickN m.1 10 ≠ 8
instance (m : Int × Int × Int) : Decidable (isOth m) := by unfold isOth; exact inferInstance
def othTo (x : Ex.Xch) (now : Int) (l : List (Int × Int × Int)) : Nat → Ex.Xch
  | 0 => x
  | n + 1 => if isOth (l.getD n (0, 0, 0)) then (Ex.doX (othTo x now l n) now (reqOf (l.getD n (0, 0, 0)).1 (l.getD n (0, 0, 0)).2.1 (l.getD n (0, 0, 0)).2.2)).1 else othTo x now l n

theorem oth_ok {x : Ex.Xch} (h : Ex.Ok x) (now : Int) (l : List (Int × Int × Int)) : ∀ n, Ex.Ok (othTo x now l n) ∧ (othTo x now l n).jr.length ≤ x.jr.length + 40 * n
  | 0 => ⟨h, by show x.jr.length ≤ _; omega⟩
  | n + 1 => by
    obtain ⟨q1, q2⟩ := oth_ok h now l n
    rw [othTo]
    split
    · rename_i ho
      have a := Ex.do_ok q1 now (reqOf (l.getD n (0, 0, 0)).1 (l.getD n (0, 0, 0)).2.1 (l.getD n (0, 0, 0)).2.2)
      have b := Ex.do_jr (othTo x now l n) now (reqOf (l.getD n (0, 0, 0)).1 (l.getD n (0, 0, 0)).2.1 (l.getD n (0, 0, 0)).2.2)
      have c := req_len (l.getD n (0, 0, 0)).1 (l.getD n (0, 0, 0)).2.1 (l.getD n (0, 0, 0)).2.2
      unfold mvReq at c
      rw [if_neg ho.2] at c
      exact ⟨a.1, by omega⟩
    · exact ⟨q1, by omega⟩

theorem Gone.with {S S' : Nat → Prop} {w w' : World} (f : Nat) (g : Gone S S' w w') : Gone (fun k => S k ∨ k = f) (fun k => S' k ∨ k = f) w w' :=
  ⟨⟨g.only.os, g.only.tape, g.only.output, g.only.size, fun k hk hn => g.only.block k hk (fun hs => hn (Or.inl hs))⟩, fun k hk => by
    rcases hk with hk | hk
    · rcases g.sub k hk with h | h
      · exact Or.inl (Or.inl h)
      · exact Or.inr h
    · exact Or.inl (Or.inr hk)⟩

theorem mv_small (K N : Int) (s : List UInt8) : -3000 ≤ mvCash K N s ∧ mvCash K N s ≤ 3000 ∧ -3000 ≤ mvUnits K N s ∧ mvUnits K N s ≤ 3000 := by
  have := pickN_lt N 3000 (by decide)
  unfold mvCash mvUnits
  refine ⟨?_, ?_, ?_, ?_⟩
  · split
    · split
      · omega
      · split <;> omega
    · omega
  · split
    · split
      · omega
      · split <;> omega
    · omega
  · split
    · split
      · omega
      · split <;> omega
    · omega
  · split
    · split
      · omega
      · split <;> omega
    · omega

set_option maxHeartbeats 2000000 in
set_option maxRecDepth 100000 in
theorem others_any (E : Exch Rep) {w : World} {S : Nat → Prop} {f p : Nat} {now cash units : Int} {x : Ex.Xch} (h : Fl Rep w S f p now cash units x) (ok : Ex.Ok x) (h0 : 0 ≤ now) (h1 : now ≤ 1152921504606846976) (hj : x.jr.length ≤ 1099011627776)
    (hc : -1000000000000 ≤ cash ∧ cash ≤ 1000000000000) (hu : -1000000000000 ≤ units ∧ units ≤ 1000000000000) (l : List (Int × Int × Int)) (a : Option Addr) (cap : Nat) (hM : MovesAt w a l) (hap : 0 < l.length → ∀ b o, a = some ⟨b, o, none⟩ → ¬ S b ∧ b ≠ f) (hw : ∀ i, i < l.length → I64 (l.getD i (0, 0, 0)).1 ∧ I64 (l.getD i (0, 0, 0)).2.1 ∧ I64 (l.getD i (0, 0, 0)).2.2) (hl : l.length ≤ 1048576) :
    Calls Try.prog 44 #[.pointer (some ⟨f, 0, none⟩), .slice a l.length cap] w fun e w' => ∃ S' cash' units', e = .returned (.tuple #[]) ∧ Fl Rep w' S' f p now cash' units' (othTo x now l l.length) ∧ Gone (fun k => S k ∨ k = f) (fun k => S' k ∨ k = f) w w' ∧ (-5000000000 + cash ≤ cash' ∧ cash' ≤ 5000000000 + cash) ∧ (-5000000000 + units ≤ units' ∧ units' ≤ 5000000000 + units) := by
  have mixed : Try.prog.follows .mixedOrders = true := by kernel_rfl
  have HP : Aside (∀ (c : Int) (n : Nat) (W : World), 0 < n → n ≤ 9007199254740992 → I64 c → Calls Try.prog 22 #[.int .i64 c, .int .i64 n] W fun e w' => e = .returned (.int .i64 (pickN c n : Nat)) ∧ w' = W) := fun c n W h1 h2 h3 => pick_any c n W h1 h2 h3.1 h3.2
  have H : Aside (Fl Rep w S f p now cash units x) := h
  have HM : Aside (MovesAt w a l) := hM
  clear h hM
  go_enter Try.func44, Try.ntmps44
  go_wp2_with fail
  go_loopg [4] l.length (fun kx s wq => ∃ (i : Nat) (S1 : Nat → Prop) (c1 u1 : Int), s = .int .i64 i ∧ i ≤ l.length ∧ l.length - i ≤ kx ∧ Aside (Fl Rep wq S1 f p now c1 u1 (othTo x now l i)) ∧ Aside (Gone (fun k => S k ∨ k = f) (fun k => S1 k ∨ k = f) w wq) ∧ (-(3000 * (i : Int)) + cash ≤ c1 ∧ c1 ≤ 3000 * i + cash) ∧ (-(3000 * (i : Int)) + units ≤ u1 ∧ u1 ≤ 3000 * i + units))
  case atStart => exact ⟨0, S, cash, units, rfl, Nat.zero_le _, by omega, H, Gone.refl _ _, by omega, by omega⟩
  case round =>
    obtain ⟨i, S1, cc, uu, rfl, hi, hkx, FA, GA, b1, b2⟩ := hrel
    obtain ⟨U0, rfl⟩ : ∃ U0, U0 = wr := ⟨_, rfl⟩
    by_cases hlt : i < l.length
    · have hltz : (i : Int) < (l.length : Int) := by omega
      obtain ⟨okn, jn⟩ := oth_ok ok now l i
      obtain ⟨i1, i2, i3⟩ := hw i hlt
      obtain ⟨g, o, rfl, hg, q1, q2, q3⟩ := HM.out i hlt
      obtain ⟨n1, n2⟩ := hap (by omega) g o rfl
      have eg : U0.heap[g]? = w.heap[g]? := GA.out.only.block g hg (fun hs => by
        rcases hs with h | h
        · exact n1 h
        · exact n2 h)
      have c1 : U0.cell? ⟨g, o + i * 3, none⟩ = _ := (World.cell?_of_block (a := ⟨g, o + i * 3, none⟩) eg).trans q1
      have c2 : U0.cell? ⟨g, o + i * 3 + 1, none⟩ = _ := (World.cell?_of_block (a := ⟨g, o + i * 3 + 1, none⟩) eg).trans q2
      have c3 : U0.cell? ⟨g, o + i * 3 + 2, none⟩ = _ := (World.cell?_of_block (a := ⟨g, o + i * 3 + 2, none⟩) eg).trans q3
      have enx1 : 0 < pickN (l.getD i (0, 0, 0)).2.1 20 ∧ pickN (l.getD i (0, 0, 0)).1 10 ≠ 8 → othTo x now l (i + 1) = (Ex.doX (othTo x now l i) now (reqOf (l.getD i (0, 0, 0)).1 (l.getD i (0, 0, 0)).2.1 (l.getD i (0, 0, 0)).2.2)).1 := fun hc => by
        rw [othTo, if_pos (show isOth (l.getD i (0, 0, 0)) from hc)]
      have enx2 : ¬ (0 < pickN (l.getD i (0, 0, 0)).2.1 20 ∧ pickN (l.getD i (0, 0, 0)).1 10 ≠ 8) → othTo x now l (i + 1) = othTo x now l i := fun hc => by
        rw [othTo, if_neg (show ¬ isOth (l.getD i (0, 0, 0)) from hc)]
      generalize (l.getD i (0, 0, 0)).1 = K at *
      generalize (l.getD i (0, 0, 0)).2.1 = Wh at *
      generalize (l.getD i (0, 0, 0)).2.2 = N at *
      clear q1 q2 q3 eg
      obtain ⟨kw, hkw⟩ : ∃ k, pickN Wh 20 = k := ⟨_, rfl⟩
      obtain ⟨kk, hkk⟩ : ∃ k, pickN K 10 = k := ⟨_, rfl⟩
      have HPW : Aside (∀ W, Calls Try.prog 22 #[.int .i64 Wh, .int .i64 20] W fun e w' => e = .returned (.int .i64 (kw : Nat)) ∧ w' = W) := fun W => by
        have := HP.out Wh 20 W (by decide) (by decide) i2
        rw [hkw] at this
        exact this
      have HPKk : Aside (∀ W, Calls Try.prog 22 #[.int .i64 K, .int .i64 10] W fun e w' => e = .returned (.int .i64 (kk : Nat)) ∧ w' = W) := fun W => by
        have := HP.out K 10 W (by decide) (by decide) i1
        rw [hkk] at this
        exact this
      have HKK : Aside (pickN K 10 = kk) := hkk
      rw [hkw, hkk] at enx1 enx2
      have E1 : Aside _ := enx1
      have E2 : Aside _ := enx2
      clear enx1 enx2 hkw hkk
      go_wp2_with fail
      refine Calls.mono (f := 22) (HPW.out _) ?_
      rintro e w1 ⟨rfl, hw1⟩
      rw [hw1]
      clear hw1 w1
      by_cases hkw0 : 0 < kw
      · have d1 : (0 : Int) < (kw : Int) := by omega
        go_wp2_with fail
        refine Calls.mono (f := 22) (HPKk.out _) ?_
        rintro e w1 ⟨rfl, hw1⟩
        rw [hw1]
        clear hw1 w1
        by_cases hk8 : kk = 8
        · have d2 : ((kk : Int) == 8) = true := by rw [hk8]; rfl
          have e2 := E2.out (fun hc => hc.2 hk8)
          have EE : Aside _ := e2
          clear e2 E1 E2
          go_wp2
          go_roundg (l.length - (i + 1))
          case measure => omega
          case rel => exact ⟨i + 1, S1, cc, uu, by go_num, by omega, Nat.le_refl _, by rw [EE.out]; exact FA, GA, by omega, by omega⟩
        · have d2 : ((kk : Int) == 8) = false := beq_eq_false_iff_ne.2 (by omega)
          have e1 := E1.out ⟨hkw0, hk8⟩
          have EE : Aside _ := e1
          have hmv := moves_any E FA.out.rep okn f now cc uu FA.out.fl FA.out.no K Wh N i1 i2 i3 h0 h1 (by omega) (by omega) (by omega)
          have em : mvNow now K N = now := by unfold mvNow; rw [HKK.out, if_neg hk8]
          have er : mvReq K Wh N = reqOf K Wh N := by unfold mvReq; rw [HKK.out, if_neg hk8]
          rw [em, er, ← e1] at hmv
          have HMV : Aside _ := hmv
          have hfU := FA.out.fl.lt
          have nof := FA.out.no
          clear e1 E1 E2 em er hmv
          go_wp2_with fail
          refine Calls.mono (f := 26) HMV.out ?_
          rintro e w2 ⟨S2, s2, x2, ex, rfl, F2, R2, t2, O2⟩
          injection ex with ex1 ex2
          have sm := mv_small K N s2
          have FF : Aside (Fl Rep w2 S2 f p now (cc + mvCash K N s2) (uu + mvUnits K N s2) (othTo x now l (i + 1))) := ⟨F2, by rw [← ex1]; exact R2, fun hs => by
            rcases t2 f hs with h | h
            · exact nof h
            · omega⟩
          have G2 : Aside (Gone (fun k => S k ∨ k = f) (fun k => S2 k ∨ k = f) w w2) := GA.out.trans ⟨O2, fun k hk => by
            rcases hk with hk | hk
            · rcases t2 k hk with h | h
              · exact Or.inl (Or.inl h)
              · exact Or.inr h
            · exact Or.inl (Or.inr hk)⟩
          clear ex1 ex2 F2 R2 t2 O2 HMV FA GA
          unfold txt
          go_wp2
          go_roundg (l.length - (i + 1))
          case measure => omega
          case rel => exact ⟨i + 1, S2, _, _, by go_num, by omega, Nat.le_refl _, FF, G2, by omega, by omega⟩
      · have d1 : ¬ (0 : Int) < (kw : Int) := by omega
        have e2 := E2.out (fun hc => hkw0 hc.1)
        have EE : Aside _ := e2
        clear e2 E1 E2
        go_wp2
        go_roundg (l.length - (i + 1))
        case measure => omega
        case rel => exact ⟨i + 1, S1, cc, uu, by go_num, by omega, Nat.le_refl _, by rw [EE.out]; exact FA, GA, by omega, by omega⟩
    · have hltz : ¬ (i : Int) < (l.length : Int) := by omega
      obtain rfl : i = l.length := by omega
      go_wp2
      go_end0
      exact ⟨rfl, S1, cc, uu, FA.out, GA.out, by omega, by omega⟩
#print axioms others_any
end Go.Proofs.Yteeplklhbhaicaa
/- The floor: plays. -/
namespace Go.Proofs.Yteeplklhbhaicaa
open Go.Shelf Go.RowKit Go.Lib Go.Sort

variable {Rep : World → (Nat → Prop) → Nat → Ex.Xch → Prop}

def begun0 : Ex.Xch := begunX 100 20
def fund0 : Ex.Xch := fundX begun0 0
theorem begun0_ok : Ex.Ok begun0 ∧ Ex.Still begun0 0 := begun_ok (by decide) (by decide)
theorem fund_resp : (∀ n, n < 19 → (Ex.doX (fundTo begun0 0 n) 0 (askC (n + 1))).2 = [0] ∧ (Ex.doX (Ex.doX (fundTo begun0 0 n) 0 (askC (n + 1))).1 0 (askU (n + 1))).2 = [0]) ∧ (Ex.doX (fundTo begun0 0 19) 0 (askU 0)).2 = [0] := by
  refine ⟨?_, by decide +kernel⟩
  have : ∀ n : Fin 19, (Ex.doX (fundTo begun0 0 n.1) 0 (askC (n.1 + 1))).2 = [0] ∧ (Ex.doX (Ex.doX (fundTo begun0 0 n.1) 0 (askC (n.1 + 1))).1 0 (askU (n.1 + 1))).2 = [0] := by decide +kernel
  exact fun n hn => this ⟨n, hn⟩
theorem fund0_ok : Ex.Ok fund0 ∧ fund0.jr.length ≤ 2000 := by
  obtain ⟨q1, q2⟩ := fundTo_ok begun0_ok.1 0 19
  have a := Ex.do_ok q1 0 (askU 0)
  have b := Ex.do_jr (fundTo begun0 0 19) 0 (askU 0)
  have c : begun0.jr.length ≤ 30 := by
    show (Ex.record 0 (1 :: 0 :: bytesOf 1000 8)).length ≤ 30
    rw [Ex.record_length]; simp [bytesOf_length]
  have l2 : (askU 0).length = 10 := by simp [askU, bytesOf_length]
  refine ⟨a.1, ?_⟩
  show (Ex.doX (fundTo begun0 0 19) 0 (askU 0)).1.jr.length ≤ _
  omega

/-- what the trader 0 asks for. -/
def askO (side price : Nat) : List UInt8 := 5 :: 0 :: (bytesOf side 1 ++ bytesOf price 2)
def playA (ahead : List (Int × Int × Int)) : Ex.Xch := othTo fund0 0 ahead ahead.length
def playB (ahead : List (Int × Int × Int)) (side price : Nat) : Ex.Xch := (Ex.doX (playA ahead) 0 (askO side price)).1
def playC (ahead behind : List (Int × Int × Int)) (side price : Nat) : Ex.Xch := othTo (playB ahead side price) 0 behind behind.length
def playD (ahead behind : List (Int × Int × Int)) (side price : Nat) : Ex.Xch := (Ex.doX (playC ahead behind side price) 1000 [8]).1
def playGain (ahead behind : List (Int × Int × Int)) (side price : Nat) (v : Int) : Int :=
  if (playD ahead behind side price).traded 0 = true then (if side = 1 then -(v - (playD ahead behind side price).paid 0) else v - (playD ahead behind side price).paid 0) else 0
def playTold (ahead : List (Int × Int × Int)) (side price : Nat) : Bool := (Ex.doX (playA ahead) 0 (askO side price)).2.getD 0 1 == 0

theorem answer_ne (x : Ex.Xch) (r : List UInt8) : ∃ c rest, (Ex.answerX x r).2 = c :: rest := by
  unfold Ex.answerX
  dsimp only
  split
  · exact ⟨_, _, rfl⟩
  · generalize (if Ex.longOf (r.getD 0 0).toNat = 1 then 0 else (r.getD 1 0).toNat) = t
    split
    · exact ⟨_, _, rfl⟩
    · split
      · unfold Ex.movesX
        dsimp only
        split
        · exact ⟨_, _, rfl⟩
        · split
          · exact ⟨_, _, rfl⟩
          · split <;> exact ⟨_, _, rfl⟩
      · split
        · unfold Ex.ordersX
          dsimp only
          split
          · exact ⟨_, _, rfl⟩
          · split
            · exact ⟨_, _, rfl⟩
            · split
              · exact ⟨_, _, rfl⟩
              · split
                · exact ⟨_, _, rfl⟩
                · split <;> exact ⟨_, _, rfl⟩
        · split
          · unfold Ex.cancelX
            split <;> exact ⟨_, _, rfl⟩
          · unfold Ex.tellsX
            split
            · exact ⟨_, _, rfl⟩
            · split
              · exact ⟨_, _, rfl⟩
              · split
                · split <;> exact ⟨_, _, rfl⟩
                · exact ⟨_, _, rfl⟩

theorem play_ok (ahead behind : List (Int × Int × Int)) (side price : Nat) (ha : ahead.length ≤ 1048576) (hb : behind.length ≤ 1048576) :
    (Ex.Ok (playA ahead) ∧ (playA ahead).jr.length ≤ 100000000) ∧ (Ex.Ok (playB ahead side price) ∧ (playB ahead side price).jr.length ≤ 100001000) ∧ (Ex.Ok (playC ahead behind side price) ∧ (playC ahead behind side price).jr.length ≤ 200001000) ∧ (Ex.Ok (playD ahead behind side price) ∧ (playD ahead behind side price).jr.length ≤ 200002000) := by
  obtain ⟨f1, f2⟩ := fund0_ok
  obtain ⟨a1, a2⟩ := oth_ok f1 0 ahead ahead.length
  have b1 := Ex.do_ok a1 0 (askO side price)
  have b2 := Ex.do_jr (othTo fund0 0 ahead ahead.length) 0 (askO side price)
  have l2 : (askO side price).length = 5 := by simp [askO, bytesOf_length]
  obtain ⟨c1, c2⟩ := oth_ok (x := playB ahead side price) b1.1 0 behind behind.length
  have d1 := Ex.do_ok c1 1000 [8]
  have d2 := Ex.do_jr (othTo (playB ahead side price) 0 behind behind.length) 1000 [8]
  have e1 : (playB ahead side price).jr.length ≤ (othTo fund0 0 ahead ahead.length).jr.length + 25 := by
    show (Ex.doX (othTo fund0 0 ahead ahead.length) 0 (askO side price)).1.jr.length ≤ _
    omega
  have e2 : (playD ahead behind side price).jr.length ≤ (othTo (playB ahead side price) 0 behind behind.length).jr.length + 21 := by
    show (Ex.doX (othTo (playB ahead side price) 0 behind behind.length) 1000 [8]).1.jr.length ≤ _
    simp only [List.length_singleton] at d2
    omega
  refine ⟨⟨a1, ?_⟩, ⟨b1.1, ?_⟩, ⟨c1, ?_⟩, ⟨d1.1, ?_⟩⟩
  · show (othTo fund0 0 ahead ahead.length).jr.length ≤ _
    omega
  · omega
  · show (othTo (playB ahead side price) 0 behind behind.length).jr.length ≤ _
    omega
  · omega
end Go.Proofs.Yteeplklhbhaicaa
