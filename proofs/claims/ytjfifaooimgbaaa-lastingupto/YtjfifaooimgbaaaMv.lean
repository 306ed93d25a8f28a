import Derived.Test.YtjfifaooimgbaaaMp
import Derived.Test.YtjfifaooimgbaaaRo2
import Derived.Test.YtjfifaooimgbaaaKeep
import Derived.Test.YtjfifaooimgbaaaRq
/- The floor: own, opened, moves. -/
namespace Go.Proofs.Ytjfifaooimgbaaa
open Go.Shelf Go.RowKit Go.Lib Go.Sort

variable {Rep : World → (Nat → Prop) → Nat → Ex.Xch → Prop}

theorem take_cut {α : Type} (a b c : List α) : ((a ++ b ++ c).drop a.length).take b.length = b := by
  rw [List.append_assoc, List.drop_left, List.take_left]
theorem ext_txt (l : List UInt8) (i j : Nat) : (⟨l.toArray⟩ : ByteArray).extract i j = ⟨((l.take j).drop i).toArray⟩ := by
  apply ByteArray.ext
  simp [ByteArray.data_extract, List.drop_take]

theorem tells10 (x : Ex.Xch) : ∃ l, Ex.tellsX x 10 0 = l ∧ l.length = 27 ∧ l[0]? = some 0 ∧ (l.take 19).drop 11 = bytesOf x.own.toNat 8 := by
  refine ⟨_, rfl, ?_, ?_, ?_⟩
  · unfold Ex.tellsX
    rw [if_neg (by decide), if_neg (by decide), if_neg (by decide)]
    simp [bytesOf_length]
  · unfold Ex.tellsX
    rw [if_neg (by decide), if_neg (by decide), if_neg (by decide)]
    rfl
  · unfold Ex.tellsX
    rw [if_neg (by decide), if_neg (by decide), if_neg (by decide), List.drop_take]
    have := take_cut (0 :: (bytesOf x.last.toNat 4 ++ bytesOf (kL x.lastL) 1 ++ bytesOf (setL x.lastL).1 1 ++ bytesOf (setL x.lastL).2.1.toNat 2 ++ bytesOf (setL x.lastL).2.2.toNat 2)) (bytesOf x.own.toNat 8) (bytesOf (shareL x.lastL) 8)
    simp only [List.length_cons, List.length_append, bytesOf_length] at this
    simpa using this

theorem Ex.Ok.ownLt {x : Ex.Xch} (h : Ex.Ok x) : x.own ≤ 1125899906842624 := by
  have h1 := h.sumC
  have h2 : 0 ≤ sumTo (fun i => (x.ps i).cash + (x.ps i).held) 20 := Ex.sum_nonneg _ 20 (fun i _ => by
    have := h.cash i
    have := (h.heldNon i).1
    omega)
  unfold Ex.allCash at h1
  omega

set_option maxHeartbeats 1000000 in
set_option maxRecDepth 100000 in
theorem ownF_any (E : Exch Rep) {w : World} {S : Nat → Prop} {p : Nat} {x : Ex.Xch} (hR : Rep w S p x) (ok : Ex.Ok x) (f : Nat) (now cash units : Int) (hf : FloorAt w f p now cash units) (h0 : 0 ≤ now) (h1 : now ≤ 9223372036854775807) (hj : x.jr.length ≤ 1099511627776) (st : Ex.Still x now) :
    Calls Try.prog 28 #[.pointer (some ⟨f, 0, none⟩)] w fun e w' => ∃ S', e = .returned (.int .i64 x.own) ∧ Rep w' S' p x ∧ (∀ k, S' k → S k ∨ w.heap.size ≤ k) ∧ Only S w w' := by
  have mixed : Try.prog.follows .mixedOrders = true := by kernel_rfl
  have ha := asks_any E hR ok f now cash units hf [10] h0 h1 hj (by decide)
  have tl := Ex.tell st (k := 10) (by decide) 0 (by decide) [10] rfl
  rw [tl] at ha
  have on := ok.own
  have ol := ok.ownLt
  obtain ⟨l, el, len, l0, lx⟩ := tells10 x
  have et : Ex.tellsX x (UInt8.toNat 10) (if Ex.longOf (UInt8.toNat 10) = 1 then 0 else 0) = l := el
  simp only [et] at ha
  have e0 : ({ data := l.toArray } : ByteArray)[0]'(by show 0 < l.toArray.size; simp [len]) = 0 := by
    have : l[0]? = some (l[0]'(by omega)) := List.getElem?_eq_getElem (by omega)
    rw [this] at l0
    injection l0
  have ex := ext_txt l 11 19
  rw [lx] at ex
  have hnum := numberK_any (bytesOf x.own.toNat 8) 
  have hno : numOf (bytesOf x.own.toNat 8) = x.own.toNat := num_bytes _ _ (by omega)
  clear tl el et lx l0
  unfold txt at *
  go_enter Try.func28, Try.ntmps28
  go_wp2_with fail
  refine ha.mono ?_
  rintro e w1 ⟨S1, rfl, R1, s1, o1⟩
  have R1' : Aside _ := R1
  have O1 : Aside _ := o1
  clear ha R1 o1
  go_wp2_with fail
  refine (hnum w1 (by rw [bytesOf_length]; decide) (by rw [hno]; omega)).mono ?_
  rintro e w2 ⟨rfl, rfl⟩
  have HNO : Aside (((numOf (bytesOf x.own.toNat 8) : Nat) : Int) = x.own) := by
    show _ = _
    rw [hno]; omega
  rw [HNO.out]
  clear hno hnum
  go_wp2
  go_ret
  exact ⟨S1, rfl, R1'.out, s1, O1.out⟩
#print axioms ownF_any

/-- an exchange in which the trader 0 has put 1000 in. -/
def begunX (period cap : Int) : Ex.Xch := { Ex.openX period cap with ps := Ex.upd (fun _ => ⟨0, 0, 0, 0⟩) 0 ⟨1000, 0, 0, 0⟩, jr := Ex.record 0 (1 :: 0 :: bytesOf 1000 8) }
theorem num1000 : numOf (bytesOf 1000 8) = 1000 := num_bytes _ _ (by decide)
theorem begun_do {period cap : Int} (h1 : 1 ≤ period) : Ex.doX (Ex.openX period cap) 0 (1 :: 0 :: bytesOf 1000 8) = (begunX period cap, [0]) := by
  have st : Ex.Still (Ex.openX period cap) 0 := ⟨by show 0 < period; omega, by show (if (1125899906842624 : Int) < 0 then 1125899906842624 else 0) ≤ (0 : Int); decide⟩
  rw [st.do_]
  have e : Ex.answerX (Ex.openX period cap) (1 :: 0 :: bytesOf 1000 8) = ({ Ex.openX period cap with ps := Ex.upd (fun _ => ⟨0, 0, 0, 0⟩) 0 ⟨1000, 0, 0, 0⟩ }, [0]) := by
    unfold Ex.answerX
    dsimp only
    have g0 : ((1 :: 0 :: bytesOf 1000 8).getD 0 0) = (1 : UInt8) := rfl
    have g1 : ((1 :: 0 :: bytesOf 1000 8).getD 1 0) = (0 : UInt8) := rfl
    have gl : (1 :: 0 :: bytesOf 1000 8 : List UInt8).length = 10 := by simp [bytesOf_length]
    have gd : (1 :: 0 :: bytesOf 1000 8 : List UInt8).drop 2 = bytesOf 1000 8 := rfl
    rw [g0, g1, gl, gd, num1000]
    have l1 : Ex.longOf (UInt8.toNat 1) = 10 := by decide
    rw [l1, if_neg (show ¬ ((10 : Nat) = 0 ∨ (10 : Nat) ≠ 10) by decide), if_neg (show ¬ 20 ≤ (if (10 : Nat) = 1 then 0 else UInt8.toNat 0) by decide), if_pos rfl]
    unfold Ex.movesX
    dsimp only
    have c0 : Ex.allCash (Ex.openX period cap) = 0 := rfl
    have k1 : UInt8.toNat 1 = 1 := rfl
    rw [if_neg (by decide), c0, k1, if_neg (by omega), if_neg (by omega)]
    rfl
  rw [e]
  unfold Ex.written
  rw [if_pos ⟨rfl, by decide⟩]
  rfl
theorem begun_ok {period cap : Int} (h1 : 1 ≤ period ∧ period ≤ 1125899906842624) (h2 : 1 ≤ cap ∧ cap ≤ 20) : Ex.Ok (begunX period cap) ∧ Ex.Still (begunX period cap) 0 := by
  have h := Ex.open_ok h1 h2
  have a := (Ex.do_ok h 0 (1 :: 0 :: bytesOf 1000 8)).1
  have b := Ex.do_still h 0 (1 :: 0 :: bytesOf 1000 8)
  rw [begun_do h1.1] at a b
  exact ⟨a, b⟩
theorem begun_tell (period cap : Int) : Ex.tellsX (begunX period cap) 7 0 = 0 :: (bytesOf 1000 8 ++ bytesOf 0 24) := by
  unfold Ex.tellsX
  rw [if_pos rfl]
  have e : (begunX period cap).ps 0 = ⟨1000, 0, 0, 0⟩ := rfl
  rw [e]
  rfl

theorem Only.of_below {S : Nat → Prop} {w w' : World} (h : Below w.heap.size w w') : Only S w w' := ⟨h.os, h.tape, h.output, h.size, fun k hk _ => h.block k hk⟩
theorem FloorAt.lt {w : World} {f p : Nat} {now cash units : Int} (h : FloorAt w f p now cash units) : f < w.heap.size := (Array.getElem?_eq_some_iff.1 h).1
theorem FloorAt.only {w w' : World} {f p : Nat} {now cash units : Int} {S : Nat → Prop} (h : FloorAt w f p now cash units) (o : Only S w w') (hf : ¬ S f) : FloorAt w' f p now cash units := (o.block f h.lt hf).trans h
theorem Only.below {S : Nat → Prop} {w w' : World} {B : Nat} (o : Only S w w') (hS : ∀ k, S k → B ≤ k) (hB : B ≤ w.heap.size) : Below B w w' :=
  ⟨o.os, o.tape, o.output, o.size, fun k hk => o.block k (by omega) (fun hs => by have := hS k hs; omega)⟩

set_option maxHeartbeats 2000000 in
set_option maxRecDepth 100000 in
theorem opened_any (E : Exch Rep) (period batch : Int) (hp : -9223372036854775808 ≤ period ∧ period ≤ 9223372036854775807) (hb : -9223372036854775808 ≤ batch ∧ batch ≤ 9223372036854775807) (w : World) :
    Calls Try.prog 26 #[.int .i64 period, .int .i64 batch] w fun e w' => ∃ f p S, e = .returned (.pointer (some ⟨f, 0, none⟩)) ∧ FloorAt w' f p 0 1000 0 ∧ Rep w' S p (begunX (1 + (pickN period 100 : Nat)) (1 + (pickN batch 20 : Nat))) ∧ ¬ S f ∧ w.heap.size ≤ f ∧ (∀ k, S k → w.heap.size ≤ k) ∧ Below w.heap.size w w' := by
  have mixed : Try.prog.follows .mixedOrders = true := by kernel_rfl
  have l1 := pickN_lt period 100 (by decide)
  have l2 := pickN_lt batch 20 (by decide)
  have hpk := fun W => pick_any period 100 W (by decide) (by decide) hp.1 hp.2
  have hpb := fun W => pick_any batch 20 W (by decide) (by decide) hb.1 hb.2
  generalize pickN period 100 = P at *
  generalize pickN batch 20 = C at *
  have HPK : Aside _ := hpk
  have HPB : Aside _ := hpb
  clear hpk hpb
  go_enter Try.func26, Try.ntmps26
  go_wp2_with fail
  refine (HPK.out w).mono ?_
  rintro e w1 ⟨rfl, hw1⟩
  rw [hw1]
  clear hw1 w1
  go_wp2_with fail
  refine (HPB.out w).mono ?_
  rintro e w1 ⟨rfl, hw1⟩
  rw [hw1]
  clear hw1 w1
  go_wp2_with fail
  refine (E.open_ w (1 + (P : Int)) (1 + (C : Int)) (by omega) (by omega) (by omega) (by omega)).mono ?_
  rintro e w1 ⟨S1, p, rfl, R1, s1, B1⟩
  have RR1 : Aside _ := R1
  have BB1 : Aside _ := B1
  clear R1 B1
  go_wp2_with fail
  obtain ⟨W1, hW1⟩ : ∃ W1, W1 = w1.alloc (Obj.cells #[Value.pointer (some ⟨p, 0, none⟩), Value.int IntKind.i64 0, Value.int IntKind.i64 0, Value.int IntKind.i64 0] 61) := ⟨_, rfl⟩
  obtain ⟨f, hf⟩ : ∃ f, f = w1.heap.size := ⟨_, rfl⟩
  rw [← hW1, ← hf]
  have F1 : FloorAt W1 f p 0 0 0 := by
    rw [hW1, hf]
    show (w1.heap.push _)[w1.heap.size]? = _
    simp
  have BW1 : Below w1.heap.size w1 W1 := by rw [hW1]; exact (Below.refl _ _).alloc (Nat.le_refl _) _
  have RW1 : Rep W1 S1 p (Ex.openX (1 + (P : Int)) (1 + (C : Int))) := E.keep RR1.out (fun k hk => BW1.block k (E.low RR1.out k hk)) BW1.size
  have nS1 : ¬ S1 f := fun hs => by have := E.low RR1.out f hs; omega
  have BWw : Below w.heap.size w W1 := BB1.out.trans (BW1.mono BB1.out.size)
  have hfw : w.heap.size ≤ f := by rw [hf]; exact BB1.out.size
  clear hW1 hf BW1 RR1 BB1
  refine (bytesK_any 1000 8 W1 (by decide)).mono ?_
  rintro e w2 ⟨rfl, hw2⟩
  have B2 : Below W1.heap.size W1 w2 := by rw [hw2]; unfold rowed; exact (Below.refl _ _).alloc (Nat.le_refl _) _
  have F2 : FloorAt w2 f p 0 0 0 := (B2.block f F1.lt).trans F1
  have R2 : Rep w2 S1 p (Ex.openX (1 + (P : Int)) (1 + (C : Int))) := E.keep RW1 (fun k hk => B2.block k (E.low RW1 k hk)) B2.size
  have BWw2 : Below w.heap.size w w2 := BWw.trans (B2.mono BWw.size)
  clear hw2 B2 F1 RW1 BWw
  have ok0 : Ex.Ok (Ex.openX (1 + (P : Int)) (1 + (C : Int))) := Ex.open_ok (by omega) (by omega)
  have hb1 := begun_do (period := 1 + (P : Int)) (cap := 1 + (C : Int)) (by omega)
  have okb := begun_ok (period := 1 + (P : Int)) (cap := 1 + (C : Int)) (by omega) (by omega)
  have ha := asks_any E R2 ok0 f 0 0 0 F2 (1 :: 0 :: bytesOf 1000 8) (by decide) (by decide) (by show 0 ≤ _; decide) (by simp [bytesOf_length])
  rw [hb1] at ha
  have F2' : Aside (FloorAt w2 f p 0 0 0) := F2
  have BW2' : Aside _ := BWw2
  have cat1 : ({ data := #[1, 0] } : ByteArray) ++ { data := (bytesOf 1000 8).toArray } = { data := (1 :: 0 :: bytesOf 1000 8).toArray } := cat_txt [1, 0] _
  have hbl : (bytesOf 1000 8).length = 8 := bytesOf_length _ _
  have OKB : Aside _ := okb
  have HA : Aside _ := ha
  clear R2 F2 BWw2 ok0 hb1 okb ha
  unfold txt at *
  generalize hb8 : bytesOf 1000 8 = b8 at *
  go_wp2_with fail
  refine Calls.mono (f := 29) HA.out ?_
  rintro e w3 ⟨S3, rfl, R3, s3, O3⟩
  have F3 : FloorAt w3 f p 0 0 0 := F2'.out.only O3 nS1
  have nS3 : ¬ S3 f := fun hs => by
    rcases s3 f hs with h | h
    · exact nS1 h
    · have := F2'.out.lt; omega
  have s3w : ∀ k, S3 k → w.heap.size ≤ k := fun k hk => by
    rcases s3 k hk with h | h
    · exact s1 k h
    · have := BW2'.out.size; omega
  have B3 : Below w.heap.size w w3 := BW2'.out.trans (O3.below s1 BW2'.out.size)
  have tl := Ex.tell OKB.out.2 (k := 7) (by decide) 0 (by decide) [7, 0] rfl
  have ha := asks_any E R3 OKB.out.1 f 0 0 0 F3 [7, 0] (by decide) (by decide) (by show (Ex.record 0 (1 :: 0 :: bytesOf 1000 8)).length ≤ _; rw [Ex.record_length]; simp [bytesOf_length]) (by decide)
  have et : Ex.tellsX (begunX (1 + (P : Int)) (1 + (C : Int))) (UInt8.toNat 7) (if Ex.longOf (UInt8.toNat 7) = 1 then 0 else 0) = 0 :: (b8 ++ bytesOf 0 24) := by rw [← hb8]; exact begun_tell _ _
  rw [et] at tl
  rw [tl] at ha
  unfold txt at ha
  have F3' : Aside (FloorAt w3 f p 0 0 0) := F3
  have B3' : Aside _ := B3
  have HA2 : Aside _ := ha
  clear R3 O3 F3 B3 tl et ha s3 HA F2' BW2' cat1
  go_wp2_with fail
  refine Calls.mono (f := 29) HA2.out ?_
  rintro e w4 ⟨S4, rfl, R4, s4, O4⟩
  have F4 : FloorAt w4 f p 0 0 0 := F3'.out.only O4 nS3
  have nS4 : ¬ S4 f := fun hs => by
    rcases s4 f hs with h | h
    · exact nS3 h
    · have := F3'.out.lt; omega
  have s4w : ∀ k, S4 k → w.heap.size ≤ k := fun k hk => by
    rcases s4 k hk with h | h
    · exact s3w k h
    · have := B3'.out.size; omega
  have B4 : Below w.heap.size w w4 := B3'.out.trans (O4.below s3w B3'.out.size)
  have HB : Aside (∀ W, Calls Try.prog 30 #[.int .i64 1000, .int .i64 8] W fun e w' => e = .returned (.string ⟨b8.toArray⟩) ∧ w' = rowed W b8) := fun W => by
    have := bytesK_any 1000 8 W (by decide)
    rw [hb8] at this
    exact this
  have HZ : Aside (∀ W, Calls Try.prog 30 #[.int .i64 0, .int .i64 24] W fun e w' => e = .returned (.string ⟨(bytesOf 0 24).toArray⟩) ∧ w' = rowed W (bytesOf 0 24)) := fun W => bytesK_any 0 24 W (by decide)
  have cat2 : ({ data := #[0] } : ByteArray) ++ { data := b8.toArray } = { data := (0 :: b8).toArray } := cat_txt [0] _
  have hz24 : (bytesOf 0 24).length = 24 := bytesOf_length _ _
  have cat3 : ({ data := (0 :: b8).toArray } : ByteArray) ++ { data := (bytesOf 0 24).toArray } = { data := (0 :: (b8 ++ bytesOf 0 24)).toArray } := cat_txt (0 :: b8) _
  obtain ⟨W5, hW5⟩ : ∃ W5, W5 = rowed (rowed w4 b8) (bytesOf 0 24) := ⟨_, rfl⟩
  have B5 : Below w4.heap.size w4 W5 := by rw [hW5]; unfold rowed; exact ((Below.refl _ _).alloc (Nat.le_refl _) _).alloc (by simp) _
  have F5 : FloorAt W5 f p 0 0 0 := (B5.block f F4.lt).trans F4
  have R5 : Rep W5 S4 p (begunX (1 + (P : Int)) (1 + (C : Int))) := E.keep R4 (fun k hk => B5.block k (E.low R4 k hk)) B5.size
  have BW5 : Below w.heap.size w W5 := B4.trans (B5.mono B4.size)
  have c2 := blk_cell F5 2
  have z2 : W5.frozen? ⟨f, 2, none⟩ = false := by
    have h := F5
    unfold FloorAt at h
    simp [World.frozen?, h]
  have F6 : Aside (FloorAt (W5.setCell ⟨f, 2, none⟩ (.int .i64 1000)) f p 0 1000 0) := by
    have h := F5
    unfold FloorAt at h
    show (W5.setCell _ _).heap[f]? = _
    have hlt := (Array.getElem?_eq_some_iff.1 h).1
    simp only [World.setCell, Array.getElem?_modify, h]
    simp
  have R6 : Aside (Rep (W5.setCell ⟨f, 2, none⟩ (.int .i64 1000)) S4 p (begunX (1 + (P : Int)) (1 + (C : Int)))) := E.keep R5 (fun k hk => Below.heap_setCell W5 ⟨f, 2, none⟩ _ k (fun e => nS4 (by have e' : k = f := e; rw [← e']; exact hk))) (by simp [World.setCell])
  have B6 : Aside (Below w.heap.size w (W5.setCell ⟨f, 2, none⟩ (.int .i64 1000))) := BW5.setCell (p := ⟨f, 2, none⟩) hfw _
  have HW5 : Aside _ := hW5
  clear R4 O4 s4 F4 B4 B5 F5 R5 BW5 hW5 HA2 F3' B3' OKB
  go_wp2_with fail
  refine Calls.mono (f := 30) (HB.out _) ?_
  rintro e w5 ⟨rfl, hw5⟩
  rw [hw5]
  clear hw5 w5
  go_wp2_with fail
  refine Calls.mono (f := 30) (HZ.out _) ?_
  rintro e w5 ⟨rfl, hw5⟩
  rw [hw5, ← HW5.out]
  clear hw5 w5
  go_wp2
  go_ret
  exact ⟨f, p, S4, rfl, F6.out, R6.out, nS4, hfw, s4w, B6.out⟩
#print axioms opened_any
end Go.Proofs.Ytjfifaooimgbaaa
/- The floor: moves. -/
namespace Go.Proofs.Ytjfifaooimgbaaa
open Go.Shelf Go.RowKit Go.Lib Go.Sort

variable {Rep : World → (Nat → Prop) → Nat → Ex.Xch → Prop}

/-- what a move asks, and when. -/
def mvNow (now K N : Int) : Int := if pickN K 10 = 8 then now + (pickN N 60 : Nat) else now
def mvReq (K W N : Int) : List UInt8 := if pickN K 10 = 8 then [8] else reqOf K W N
def mvCash (K N : Int) (s : List UInt8) : Int := if s = [0] then (if pickN K 10 = 0 then ((pickN N 3000 : Nat) : Int) else if pickN K 10 = 2 then -((pickN N 3000 : Nat) : Int) else 0) else 0
def mvUnits (K N : Int) (s : List UInt8) : Int := if s = [0] then (if pickN K 10 = 1 then ((pickN N 3000 : Nat) : Int) else if pickN K 10 = 3 then -((pickN N 3000 : Nat) : Int) else 0) else 0

theorem req_len (K W N : Int) : (mvReq K W N).length ≤ 10 := by
  unfold mvReq reqOf
  split
  · simp
  · split
    · simp [bytesOf_length]
    · split
      · simp [bytesOf_length]
      · split
        · simp [bytesOf_length]
        · split
          · simp [bytesOf_length]
          · split
            · simp [bytesOf_length]
            · split <;> simp [bytesOf_length]

theorem wrap_pos {x : Int} (h0 : 0 ≤ x) (h1 : x < 9223372036854775808) : IntKind.i64.wrap x = x := by
  have hm : x % (2 ^ 64 : Int) = x := Int.emod_eq_of_lt h0 (by omega)
  have hc : (IntKind.i64.signed && decide (x % (2 ^ IntKind.i64.bits : Int) ≥ (2 ^ (IntKind.i64.bits - 1) : Int))) = false := by
    have : ¬ (x % (2 ^ 64 : Int) ≥ (2 ^ 63 : Int)) := by rw [hm]; omega
    exact decide_eq_false this
  show (if (IntKind.i64.signed && decide (x % (2 ^ IntKind.i64.bits : Int) ≥ (2 ^ (IntKind.i64.bits - 1) : Int))) = true then x % (2 ^ IntKind.i64.bits : Int) - (2 ^ IntKind.i64.bits : Int) else x % (2 ^ IntKind.i64.bits : Int)) = x
  rw [if_neg (by rw [hc]; decide)]
  exact hm
theorem FloorAt.set1 {w : World} {f p : Nat} {now cash units : Int} (h : FloorAt w f p now cash units) (v : Int) : FloorAt (w.setCell ⟨f, 1, none⟩ (.int .i64 v)) f p v cash units := by
  unfold FloorAt at h
  show (w.setCell _ _).heap[f]? = _
  have hlt := (Array.getElem?_eq_some_iff.1 h).1
  simp only [World.setCell, Array.getElem?_modify, h]
  simp
theorem FloorAt.set2 {w : World} {f p : Nat} {now cash units : Int} (h : FloorAt w f p now cash units) (v : Int) : FloorAt (w.setCell ⟨f, 2, none⟩ (.int .i64 v)) f p now v units := by
  unfold FloorAt at h
  show (w.setCell _ _).heap[f]? = _
  have hlt := (Array.getElem?_eq_some_iff.1 h).1
  simp only [World.setCell, Array.getElem?_modify, h]
  simp
theorem FloorAt.set3 {w : World} {f p : Nat} {now cash units : Int} (h : FloorAt w f p now cash units) (v : Int) : FloorAt (w.setCell ⟨f, 3, none⟩ (.int .i64 v)) f p now cash v := by
  unfold FloorAt at h
  show (w.setCell _ _).heap[f]? = _
  have hlt := (Array.getElem?_eq_some_iff.1 h).1
  simp only [World.setCell, Array.getElem?_modify, h]
  simp
theorem FloorAt.frozen {w : World} {f p : Nat} {now cash units : Int} (h : FloorAt w f p now cash units) (j : Nat) : w.frozen? ⟨f, j, none⟩ = false := by
  unfold FloorAt at h
  simp [World.frozen?, h]
theorem Exch.set (E : Exch Rep) {w : World} {S : Nat → Prop} {p : Nat} {x : Ex.Xch} (h : Rep w S p x) {f : Nat} (hf : ¬ S f) (j : Nat) (v : Value) : Rep (w.setCell ⟨f, j, none⟩ v) S p x :=
  E.keep h (fun k hk => Below.heap_setCell w ⟨f, j, none⟩ v k (fun e => hf (by have e' : k = f := e; rw [← e']; exact hk))) (by simp [World.setCell])
theorem Only.set {S : Nat → Prop} {w w' : World} {f : Nat} (o : Only (fun k => S k ∨ k = f) w w') (j : Nat) (v : Value) : Only (fun k => S k ∨ k = f) w (w'.setCell ⟨f, j, none⟩ v) :=
  ⟨o.os, o.tape, o.output, Nat.le_trans o.size (by simp [World.setCell]), fun k hk hn => (Below.heap_setCell w' ⟨f, j, none⟩ v k (fun e => hn (Or.inr e))).trans (o.block k hk hn)⟩

set_option maxHeartbeats 4000000 in
set_option maxRecDepth 100000 in
theorem moves_any (E : Exch Rep) {w : World} {S : Nat → Prop} {p : Nat} {x : Ex.Xch} (hR : Rep w S p x) (ok : Ex.Ok x) (f : Nat) (now cash units : Int) (hf : FloorAt w f p now cash units) (hS : ¬ S f) (K W N : Int) (hK : I64 K) (hW : I64 W) (hN : I64 N)
    (h0 : 0 ≤ now) (h1 : now ≤ 1152921504606846976) (hj : x.jr.length ≤ 1099511627776) (hc : -1152921504606846976 ≤ cash ∧ cash ≤ 1152921504606846976) (hu : -1152921504606846976 ≤ units ∧ units ≤ 1152921504606846976) :
    Calls Try.prog 27 #[.pointer (some ⟨f, 0, none⟩), .agg #[.int .i64 K, .int .i64 W, .int .i64 N]] w fun e w' => ∃ S' s x', (x', s) = ((Ex.doX x (mvNow now K N) (mvReq K W N)).1, (Ex.doX x (mvNow now K N) (mvReq K W N)).2) ∧ e = .returned (txt s) ∧
      FloorAt w' f p (mvNow now K N) (cash + mvCash K N s) (units + mvUnits K N s) ∧ Rep w' S' p x' ∧ (∀ k, S' k → S k ∨ w.heap.size ≤ k) ∧ Only (fun k => S k ∨ k = f) w w' := by
  have mixed : Try.prog.follows .mixedOrders = true := by kernel_rfl
  have HP : Aside (∀ (c : Int) (n : Nat) (W : World), 0 < n → n ≤ 9007199254740992 → I64 c → Calls Try.prog 23 #[.int .i64 c, .int .i64 n] W fun e w' => e = .returned (.int .i64 (pickN c n : Nat)) ∧ w' = W) := fun c n W h1 h2 h3 => pick_any c n W h1 h2 h3.1 h3.2
  have HR : Aside (Rep w S p x) := hR
  have HF : Aside (FloorAt w f p now cash units) := hf
  have RL := req_len K W N
  clear hR hf
  go_enter Try.func27, Try.ntmps27
  go_wp2_with fail
  refine (HP.out K 10 _ (by decide) (by decide) hK).mono ?_
  rintro e w1 ⟨rfl, hw1⟩
  rw [hw1]
  clear hw1 w1
  obtain ⟨W0, hW0⟩ : ∃ W0, W0 = w.alloc (Obj.cells #[Value.int IntKind.i64 K, Value.int IntKind.i64 W, Value.int IntKind.i64 N] 54) := ⟨_, rfl⟩
  rw [← hW0]
  have c0 : W0.cell? ⟨w.heap.size, 0, none⟩ = some (.int .i64 K) := by rw [hW0]; simp
  have c1 : W0.cell? ⟨w.heap.size, 1, none⟩ = some (.int .i64 W) := by rw [hW0]; simp
  have c2 : W0.cell? ⟨w.heap.size, 2, none⟩ = some (.int .i64 N) := by rw [hW0]; simp
  have B0 : Below w.heap.size w W0 := by rw [hW0]; exact (Below.refl _ _).alloc (Nat.le_refl _) _
  have F0 : FloorAt W0 f p now cash units := (B0.block f HF.out.lt).trans HF.out
  have R0 : Rep W0 S p x := E.keep HR.out (fun k hk => B0.block k (E.low HR.out k hk)) B0.size
  have hfl := HF.out.lt
  have hsz : w.heap.size < W0.heap.size := by rw [hW0]; simp
  clear hW0
  obtain ⟨k, hkk⟩ : ∃ k, pickN K 10 = k := ⟨_, rfl⟩
  have HKK : Aside (pickN K 10 = k) := hkk
  rw [hkk]
  clear hkk
  by_cases k8 : k = 8
  · subst k8
    have hn := pickN_lt N 60 (by decide)
    obtain ⟨n, hnn⟩ : ∃ n, pickN N 60 = n := ⟨_, rfl⟩
    have HPN : Aside (∀ W, Calls Try.prog 23 #[.int .i64 N, .int .i64 60] W fun e w' => e = .returned (.int .i64 (n : Nat)) ∧ w' = W) := fun W => by
      have := HP.out N 60 W (by decide) (by decide) hN
      rw [hnn] at this
      exact this
    rw [hnn] at hn
    have em : mvNow now K N = now + n := by unfold mvNow; rw [HKK.out, if_pos rfl, hnn]
    have er : mvReq K W N = [8] := by unfold mvReq; rw [HKK.out, if_pos rfl]
    have mc : ∀ s, mvCash K N s = 0 := fun s => by unfold mvCash; rw [HKK.out]; simp
    have mu : ∀ s, mvUnits K N s = 0 := fun s => by unfold mvUnits; rw [HKK.out]; simp
    have EM : Aside _ := em
    have ER : Aside _ := er
    have MC : Aside _ := mc
    have MU : Aside _ := mu
    clear em er mc mu hnn RL
    have y1 := blk_cell F0 1
    have z1 := F0.frozen 1
    have F1 : Aside (FloorAt (W0.setCell ⟨f, 1, none⟩ (.int .i64 (now + n))) f p (now + n) cash units) := F0.set1 (now + n)
    have R1 : Aside (Rep (W0.setCell ⟨f, 1, none⟩ (.int .i64 (now + n))) S p x) := E.set R0 hS _ _
    have O1 : Aside (Only (fun k => S k ∨ k = f) w (W0.setCell ⟨f, 1, none⟩ (.int .i64 (now + n)))) := Only.set (Only.of_below B0) _ _
    have s1 : W0.heap.size ≤ (W0.setCell ⟨f, 1, none⟩ (.int .i64 (now + n))).heap.size := by simp [World.setCell]
    have S1 : Aside (w.heap.size < (W0.setCell ⟨f, 1, none⟩ (.int .i64 (now + n))).heap.size) := Nat.lt_of_lt_of_le hsz s1
    clear s1 F0 R0 B0
    have hwr : IntKind.i64.wrap (now + (n : Int)) = now + n := wrap_pos (by omega) (by omega)
    obtain ⟨W1, hW1⟩ : ∃ W1, W1 = (W0.setCell ⟨f, 1, none⟩ (.int .i64 (now + n))).drew := ⟨_, rfl⟩
    have F1' : FloorAt W1 f p (now + n) cash units := by rw [hW1]; exact F1.out
    have R1' : Rep W1 S p x := by rw [hW1]; exact E.keep R1.out (fun _ _ => rfl) (Nat.le_refl _)
    have ha := asks_any E R1' ok f (now + n) cash units F1' [8] (by omega) (by omega) hj (by decide)
    unfold txt at *
    have HA : Aside (∀ W, W = W1 → Calls Try.prog 29 #[.pointer (some ⟨f, 0, none⟩), .string ⟨#[8]⟩] W fun e w' => ∃ S', e = .returned (.string ⟨(Ex.doX x (now + n) [8]).2.toArray⟩) ∧ Rep w' S' p (Ex.doX x (now + n) [8]).1 ∧ (∀ k, S' k → S k ∨ W1.heap.size ≤ k) ∧ Only S W1 w') := fun W hW => by rw [hW]; exact ha
    have FIN : Aside (∀ (w2 : World) (S2 : Nat → Prop), Rep w2 S2 p (Ex.doX x (now + n) [8]).1 → (∀ k, S2 k → S k ∨ W1.heap.size ≤ k) → Only S W1 w2 → ∃ S' s x', (x', s) = ((Ex.doX x (mvNow now K N) (mvReq K W N)).1, (Ex.doX x (mvNow now K N) (mvReq K W N)).2) ∧ Ending.returned (Value.string ⟨(Ex.doX x (now + n) [8]).2.toArray⟩) = .returned (Value.string ⟨s.toArray⟩) ∧
        FloorAt w2 f p (mvNow now K N) (cash + mvCash K N s) (units + mvUnits K N s) ∧ Rep w2 S' p x' ∧ (∀ k, S' k → S k ∨ w.heap.size ≤ k) ∧ Only (fun k => S k ∨ k = f) w w2) := fun w2 S2 R2 s2 O2 => by
      have hs1 : w.heap.size < W1.heap.size := by rw [hW1]; exact S1.out
      have o1 : Only (fun k => S k ∨ k = f) w W1 := by rw [hW1]; exact ⟨O1.out.os, O1.out.tape, O1.out.output, O1.out.size, O1.out.block⟩
      rw [EM.out, ER.out]
      refine ⟨S2, _, _, rfl, rfl, ?_, R2, fun k hk => ?_, ?_⟩
      · rw [MC.out, MU.out, Int.add_zero, Int.add_zero]; exact F1'.only O2 hS
      · rcases s2 k hk with h | h
        · exact Or.inl h
        · right; omega
      · exact ⟨O2.os.trans o1.os, O2.tape.trans o1.tape, O2.output.trans o1.output, Nat.le_trans o1.size O2.size, fun k hk hn => (O2.block k (by have := o1.size; omega) (fun hs => hn (Or.inl hs))).trans (o1.block k hk hn)⟩
    have HW1 : Aside _ := hW1
    clear F1 R1 O1 S1 F1' R1' ha hW1
    go_wp2_with fail
    go_region_with (go_at_call 23; refine Calls.mono (f := 23) (HPN.out _) ?_; rintro e w' ⟨rfl, rfl⟩)
    all_goals
      go_wp2_with fail
      refine Calls.mono (f := 29) (HA.out _ HW1.out.symm) ?_
      rintro e w2 ⟨S2, rfl, R2, s2, O2⟩
      go_wp2
      go_ret
      exact FIN.out _ S2 R2 s2 O2
  · have k8b : ((k : Int) == 8) = false := beq_eq_false_iff_ne.2 (by omega)
    have em : mvNow now K N = now := by unfold mvNow; rw [HKK.out, if_neg k8]
    have er : mvReq K W N = reqOf K W N := by unfold mvReq; rw [HKK.out, if_neg k8]
    rw [er] at RL
    have EM : Aside _ := em
    have ER : Aside _ := er
    clear em er
    go_wp2_with fail
    refine (request_any K W N hK hW hN W0).mono ?_
    rintro e w2 ⟨rfl, B2⟩
    have F2 : Aside (FloorAt w2 f p now cash units) := (B2.block f F0.lt).trans F0
    have R2 : Aside (Rep w2 S p x) := E.keep R0 (fun k hk => B2.block k (E.low R0 k hk)) B2.size
    have d2 : w2.cell? ⟨w.heap.size, 2, none⟩ = some (.int .i64 N) := (B2.cell (p := ⟨w.heap.size, 2, none⟩) hsz).trans c2
    have hsz2 : w.heap.size < w2.heap.size := Nat.lt_of_lt_of_le hsz B2.size
    have BB2 : Aside (Below w.heap.size w w2) := B0.trans (B2.mono B0.size)
    clear F0 R0 B2 B0 c0 c1 c2
    have ha := asks_any E R2.out ok f now cash units F2.out (reqOf K W N) h0 (by omega) hj (by omega)
    obtain ⟨x', ex'⟩ : ∃ x', (Ex.doX x now (reqOf K W N)).1 = x' := ⟨_, rfl⟩
    obtain ⟨s, es⟩ : ∃ s, (Ex.doX x now (reqOf K W N)).2 = s := ⟨_, rfl⟩
    rw [ex', es] at ha
    have EX : Aside ((Ex.doX x now (reqOf K W N)).1 = x' ∧ (Ex.doX x now (reqOf K W N)).2 = s) := ⟨ex', es⟩
    clear ex' es
    unfold txt at *
    go_wp2_with fail
    refine ha.mono ?_
    rintro e w3 ⟨S3, rfl, R3, s3, O3⟩
    clear ha
    have d3 : w3.cell? ⟨w.heap.size, 2, none⟩ = some (.int .i64 N) := (World.cell?_of_block (a := ⟨w.heap.size, 2, none⟩) (O3.block w.heap.size hsz2 (fun hs => by have := E.low HR.out w.heap.size hs; omega))).trans d2
    have F3 : Aside (FloorAt w3 f p now cash units) := F2.out.only O3 hS
    have O3w : Aside (Only (fun k => S k ∨ k = f) w w3) := ⟨O3.os.trans BB2.out.os, O3.tape.trans BB2.out.tape, O3.output.trans BB2.out.output, Nat.le_trans BB2.out.size O3.size, fun k hk hn => (O3.block k (by have := BB2.out.size; omega) (fun hs => hn (Or.inl hs))).trans (BB2.out.block k hk)⟩
    have s3w : ∀ k, S3 k → S k ∨ w.heap.size ≤ k := fun k hk => by
      rcases s3 k hk with h | h
      · exact Or.inl h
      · right; have := BB2.out.size; omega
    have R3' : Aside (Rep w3 S3 p x') := R3
    clear R3 O3 s3 F2 R2 d2 BB2
    have nS3 : ¬ S3 f := fun hs => by
      rcases s3w f hs with h | h
      · exact hS h
      · omega
    by_cases hs : s = [0]
    · subst hs
      go_wp2_with fail
      refine (HP.out N 3000 _ (by decide) (by decide) hN).mono ?_
      rintro e w4 ⟨rfl, hw4⟩
      rw [hw4]
      clear hw4 w4
      have hn := pickN_lt N 3000 (by decide)
      obtain ⟨n, hnn⟩ : ∃ n, pickN N 3000 = n := ⟨_, rfl⟩
      have HNN : Aside (pickN N 3000 = n) := hnn
      rw [hnn] at hn ⊢
      clear hnn
      have y2 := blk_cell F3.out 2
      have y3 := blk_cell F3.out 3
      have z2 := F3.out.frozen 2
      have z3 := F3.out.frozen 3
      have fin : ∀ w', FloorAt w' f p now (cash + mvCash K N [0]) (units + mvUnits K N [0]) → Rep w' S3 p x' → Only (fun k => S k ∨ k = f) w w' → ∃ S' s x'', (x'', s) = ((Ex.doX x (mvNow now K N) (mvReq K W N)).1, (Ex.doX x (mvNow now K N) (mvReq K W N)).2) ∧ Ending.returned (Value.string { data := [0].toArray }) = .returned (Value.string { data := s.toArray }) ∧
          FloorAt w' f p (mvNow now K N) (cash + mvCash K N s) (units + mvUnits K N s) ∧ Rep w' S' p x'' ∧ (∀ k, S' k → S k ∨ w.heap.size ≤ k) ∧ Only (fun k => S k ∨ k = f) w w' := fun w' a1 a2 a3 => by
        rw [EM.out, ER.out, EX.out.1, EX.out.2]
        exact ⟨S3, [0], x', rfl, rfl, a1, a2, s3w, a3⟩
      have FIN : Aside _ := fin
      have mc : mvCash K N [0] = (if k = 0 then (n : Int) else if k = 2 then -(n : Int) else 0) := by unfold mvCash; rw [if_pos rfl, HKK.out, HNN.out]
      have mu : mvUnits K N [0] = (if k = 1 then (n : Int) else if k = 3 then -(n : Int) else 0) := by unfold mvUnits; rw [if_pos rfl, HKK.out, HNN.out]
      have MC : Aside _ := mc
      have MU : Aside _ := mu
      clear fin mc mu
      by_cases q0 : k = 0
      · subst q0
        go_wp2
        go_ret
        refine FIN.out _ ?_ (E.set R3'.out nS3 _ _) (O3w.out.set _ _)
        rw [MC.out, MU.out]
        have := F3.out.set2 (cash + n)
        simpa [Int.sub_eq_add_neg] using this
      by_cases q1 : k = 1
      · subst q1
        go_wp2
        go_ret
        refine FIN.out _ ?_ (E.set R3'.out nS3 _ _) (O3w.out.set _ _)
        rw [MC.out, MU.out]
        have := F3.out.set3 (units + n)
        simpa [Int.sub_eq_add_neg] using this
      by_cases q2 : k = 2
      · subst q2
        go_wp2
        go_ret
        refine FIN.out _ ?_ (E.set R3'.out nS3 _ _) (O3w.out.set _ _)
        rw [MC.out, MU.out]
        have := F3.out.set2 (cash - n)
        simpa [Int.sub_eq_add_neg] using this
      by_cases q3 : k = 3
      · subst q3
        go_wp2
        go_ret
        refine FIN.out _ ?_ (E.set R3'.out nS3 _ _) (O3w.out.set _ _)
        rw [MC.out, MU.out]
        have := F3.out.set3 (units - n)
        simpa [Int.sub_eq_add_neg] using this
      have d0 : ((k : Int) == 0) = false := beq_eq_false_iff_ne.2 (by omega)
      have d1 : ((k : Int) == 1) = false := beq_eq_false_iff_ne.2 (by omega)
      have d2 : ((k : Int) == 2) = false := beq_eq_false_iff_ne.2 (by omega)
      have d3 : ((k : Int) == 3) = false := beq_eq_false_iff_ne.2 (by omega)
      go_wp2
      go_ret
      refine FIN.out _ ?_ R3'.out O3w.out
      rw [MC.out, MU.out, if_neg q0, if_neg q2, if_neg q1, if_neg q3, Int.add_zero, Int.add_zero]
      exact F3.out
    · have hsb : (s == [0]) = false := by simpa using hs
      have mc : mvCash K N s = 0 := by unfold mvCash; rw [if_neg hs]
      have mu : mvUnits K N s = 0 := by unfold mvUnits; rw [if_neg hs]
      have MC : Aside _ := mc
      have MU : Aside _ := mu
      clear mc mu
      go_wp2
      go_ret
      refine ⟨S3, s, x', ?_, rfl, ?_, R3'.out, s3w, O3w.out⟩
      · rw [EM.out, ER.out, EX.out.1, EX.out.2]
      · rw [EM.out, MC.out, MU.out, Int.add_zero, Int.add_zero]; exact F3.out
#print axioms moves_any
end Go.Proofs.Ytjfifaooimgbaaa
