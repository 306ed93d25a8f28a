import Derived.Test.YteeplklhbhaicaaMp
import Derived.Test.YteeplklhbhaicaaRo2
import Derived.Test.YteeplklhbhaicaaKeep
import Derived.Test.YteeplklhbhaicaaRq
/- The floor: own, opened, moves. -/
namespace Go.Proofs.Yteeplklhbhaicaa
open Go.Shelf Go.RowKit Go.Lib Go.Sort

variable {Rep : World → (Nat → Prop) → Nat → Ex.Xch → Prop}

theorem take_cut {α : Type} (a b c : List α) : ((a ++ b ++ c).drop a.length).take b.length = b := by
  rw [List.append_assoc, List.drop_left, List.take_left]
theorem ext_txt (l : List UInt8) (i j : Nat) : (⟨l.toArray⟩ : ByteArray).extract i j = ⟨((l.take j).drop i).toArray⟩ := by
  apply ByteArray.ext
  simp [ByteArray.data_extract, List.drop_take]

theorem tells10 (x : Ex.Xch) : ∃ l, Ex.tellsX x 10 0 = l ∧ l.length = 27 ∧ l[0]? = some 0 ∧ (l.take 19).drop 11 = bytesOf x.own.toNat 8 := by
  refine ⟨_, rfl, ?_, ?_, ?_⟩
  · unfold Ex.tellsX
    rw [if_neg (by decide), if_neg (by decide), if_neg (by decide)]
    simp [bytesOf_length]
  · unfold Ex.tellsX
    rw [if_neg (by decide), if_neg (by decide), if_neg (by decide)]
    rfl
  · unfold Ex.tellsX
    rw [if_neg (by decide), if_neg (by decide), if_neg (by decide), List.drop_take]
    have := take_cut (0 :: (bytesOf x.last.toNat 4 ++ bytesOf (kL x.lastL) 1 ++ bytesOf (setL x.lastL).1 1 ++ bytesOf (setL x.lastL).2.1.toNat 2 ++ bytesOf (setL x.lastL).2.2.toNat 2)) (bytesOf x.own.toNat 8) (bytesOf (shareL x.lastL) 8)
    simp only [List.length_cons, List.length_append, bytesOf_length] at this
    simpa using this

theorem Ex.Ok.ownLt {x : Ex.Xch} (h : Ex.Ok x) : x.own ≤ 1125899906842624 := by
  have h1 := h.sumC
  have h2 : 0 ≤ sumTo (fun i => (x.ps i).cash + (x.ps i).held) 20 := Ex.sum_nonneg _ 20 (fun i _ => by
    have := h.cash i
    have := (h.heldNon i).1
    omega)
  unfold Ex.allCash at h1
  omega

set_option maxHeartbeats 1000000 in
set_option maxRecDepth 100000 in
theorem ownF_any (E : Exch Rep) {w : World} {S : Nat → Prop} {p : Nat} {x : Ex.Xch} (hR : Rep w S p x) (ok : Ex.Ok x) (f : Nat) (now cash units : Int) (hf : FloorAt w f p now cash units) (h0 : 0 ≤ now) (h1 : now ≤ 9223372036854775807) (hj : x.jr.length ≤ 1099511627776) (st : Ex.Still x now) :
    Calls Try.prog 27 #[.pointer (some ⟨f, 0, none⟩)] w fun e w' => ∃ S', e = .returned (.int .i64 x.own) ∧ Rep w' S' p x ∧ (∀ k, S' k → S k ∨ w.heap.size ≤ k) ∧ Only S w w' := by
  have mixed : Try.prog.follows .mixedOrders = true := by kernel_rfl
  have ha := asks_any E hR ok f now cash units hf [10] h0 h1 hj (by decide)
  have tl := Ex.tell st (k := 10) (by decide) 0 (by decide) [10] rfl
  rw [tl] at ha
  have on := ok.own
  have ol := ok.ownLt
  obtain ⟨l, el, len, l0, lx⟩ := tells10 x
  have et : Ex.tellsX x (UInt8.toNat 10) (if Ex.longOf (UInt8.toNat 10) = 1 then 0 else 0) = l := el
  simp only [et] at ha
  have e0 : ({ data := l.toArray } : ByteArray)[0]'(by show 0 < l.toArray.size; simp [len]) = 0 := by
    have : l[0]? = some (l[0]'(by omega)) := List.getElem?_eq_getElem (by omega)
    rw [this] at l0
    injection l0
  have ex := ext_txt l 11 19
  rw [lx] at ex
  have hnum := numberK_any (bytesOf x.own.toNat 8) 
  have hno : numOf (bytesOf x.own.toNat 8) = x.own.toNat := num_bytes _ _ (by omega)
  clear tl el et lx l0
  unfold txt at *
  go_enter Try.func27, Try.ntmps27
  go_wp2_with fail
  refine ha.mono ?_
  rintro e w1 ⟨S1, rfl, R1, s1, o1⟩
  have R1' : Aside _ := R1
  have O1 : Aside _ := o1
  clear ha R1 o1
  go_wp2_with fail
  refine (hnum w1 (by rw [bytesOf_length]; decide) (by rw [hno]; omega)).mono ?_
  rintro e w2 ⟨rfl, rfl⟩
  have HNO : Aside (((numOf (bytesOf x.own.toNat 8) : Nat) : Int) = x.own) := by
    show _ = _
    rw [hno]; omega
  rw [HNO.out]
  clear hno hnum
  go_wp2
  go_ret
  exact ⟨S1, rfl, R1'.out, s1, O1.out⟩
#print axioms ownF_any

/-- an exchange in which the trader 0 has put 1000 in. -/
def begunX (period cap : Int) : Ex.Xch := { Ex.openX period cap with ps := Ex.upd (fun _ => ⟨0, 0, 0, 0⟩) 0 ⟨1000, 0, 0, 0⟩, jr := Ex.record 0 (1 :: 0 :: bytesOf 1000 8) }
theorem num1000 : numOf (bytesOf 1000 8) = 1000 := num_bytes _ _ (by decide)
theorem begun_do {period cap : Int} (h1 : 1 ≤ period) : Ex.doX (Ex.openX period cap) 0 (1 :: 0 :: bytesOf 1000 8) = (begunX period cap, [0]) := by
  have st : Ex.Still (Ex.openX period cap) 0 := ⟨by show 0 < period; omega, by show (if (1125899906842624 : Int) < 0 then 1125899906842624 else 0) ≤ (0 : Int); decide⟩
  rw [st.do_]
  have e : Ex.answerX (Ex.openX period cap) (1 :: 0 :: bytesOf 1000 8) = ({ Ex.openX period cap with ps := Ex.upd (fun _ => ⟨0, 0, 0, 0⟩) 0 ⟨1000, 0, 0, 0⟩ }, [0]) := by
    unfold Ex.answerX
    dsimp only
    have g0 : ((1 :: 0 :: bytesOf 1000 8).getD 0 0) = (1 : UInt8) := rfl
    have g1 : ((1 :: 0 :: bytesOf 1000 8).getD 1 0) = (0 : UInt8) := rfl
    have gl : (1 :: 0 :: bytesOf 1000 8 : List UInt8).length = 10 := by simp [bytesOf_length]
    have gd : (1 :: 0 :: bytesOf 1000 8 : List UInt8).drop 2 = bytesOf 1000 8 := rfl
    rw [g0, g1, gl, gd, num1000]
    have l1 : Ex.longOf (UInt8.toNat 1) = 10 := by decide
    rw [l1, if_neg (show ¬ ((10 : Nat) = 0 ∨ (10 : Nat) ≠ 10) by decide), if_neg (show ¬ 20 ≤ (if (10 : Nat) = 1 then 0 else UInt8.toNat 0) by decide), if_pos rfl]
    unfold Ex.movesX
    dsimp only
    have c0 : Ex.allCash (Ex.openX period cap) = 0 := rfl
    have k1 : UInt8.toNat 1 = 1 := rfl
    rw [if_neg (by decide), c0, k1, if_neg (by omega), if_neg (by omega)]
    rfl
  rw [e]
  unfold Ex.written
  rw [if_pos ⟨rfl, by decide⟩]
  rfl
theorem begun_ok {period cap : Int} (h1 : 1 ≤ period ∧ period ≤ 1125899906842624) (h2 : 1 ≤ cap ∧ cap ≤ 20) : Ex.Ok (begunX period cap) ∧ Ex.Still (begunX period cap) 0 := by
  have h := Ex.open_ok h1 h2
  have a := (Ex.do_ok h 0 (1 :: 0 :: bytesOf 1000 8)).1
  have b := Ex.do_still h 0 (1 :: 0 :: bytesOf 1000 8)
  rw [begun_do h1.1] at a b
  exact ⟨a, b⟩
theorem begun_tell (period cap : Int) : Ex.tellsX (begunX period cap) 7 0 = 0 :: (bytesOf 1000 8 ++ bytesOf 0 24) := by
  unfold Ex.tellsX
  rw [if_pos rfl]
  have e : (begunX period cap).ps 0 = ⟨1000, 0, 0, 0⟩ := rfl
  rw [e]
  rfl

theorem Only.of_below {S : Nat → Prop} {w w' : World} (h : Below w.heap.size w w') : Only S w w' := ⟨h.os, h.tape, h.output, h.size, fun k hk _ => h.block k hk⟩
theorem FloorAt.lt {w : World} {f p : Nat} {now cash units : Int} (h : FloorAt w f p now cash units) : f < w.heap.size := (Array.getElem?_eq_some_iff.1 h).1
theorem FloorAt.only {w w' : World} {f p : Nat} {now cash units : Int} {S : Nat → Prop} (h : FloorAt w f p now cash units) (o : Only S w w') (hf : ¬ S f) : FloorAt w' f p now cash units := (o.block f h.lt hf).trans h
theorem Only.below {S : Nat → Prop} {w w' : World} {B : Nat} (o : Only S w w') (hS : ∀ k, S k → B ≤ k) (hB : B ≤ w.heap.size) : Below B w w' :=
  ⟨o.os, o.tape, o.output, o.size, fun k hk => o.block k (by omega) (fun hs => by have := hS k hs; omega)⟩

set_option maxHeartbeats 2000000 in
set_option maxRecDepth 100000 in
theorem opened_any (E : Exch Rep) (period batch : Int) (hp : -9223372036854775808 ≤ period ∧ period ≤ 9223372036854775807) (hb : -9223372036854775808 ≤ batch ∧ batch ≤ 9223372036854775807) (w : World) :
    Calls Try.prog 25 #[.int .i64 period, .int .i64 batch] w fun e w' => ∃ f p S, e = .returned (.pointer (some ⟨f, 0, none⟩)) ∧ FloorAt w' f p 0 1000 0 ∧ Rep w' S p (begunX (1 + (pickN period 100 : Nat)) (1 + (pickN batch 20 : Nat))) ∧ ¬ S f ∧ w.heap.size ≤ f ∧ (∀ k, S k → w.heap.size ≤ k) ∧ Below w.heap.size w w' := by
  have mixed : Try.prog.follows .mixedOrders = true := by kernel_rfl
  have l1 := pickN_lt period 100 (by decide)
  have l2 := pickN_lt batch 20 (by decide)
  have hpk := fun W => pick_any period 100 W (by decide) (by decide) hp.1 hp.2
  have hpb := fun W => pick_any batch 20 W (by decide) (by decide) hb.1 hb.2
  generalize pickN period 100 = P at *
  generalize pickN batch 20 = C at *
  have HPK : Aside _ := hpk
  have HPB : Aside _ := hpb
  clear hpk hpb
  go_enter Try.func25, Try.ntmps25
  go_wp2_with fail
  refine (HPK.out w).mono ?_
  rintro e w1 ⟨rfl, hw1⟩
  rw [hw1]
  clear hw1 w1
  go_wp2_with fail
  refine (HPB.out w).mono ?_
  rintro e w1 ⟨rfl, hw1⟩
  rw [hw1]
  clear hw1 w1
  go_wp2_with fail
  refine (E.open_ w (1 + (P : Int)) (1 + (C : Int)) (by omega) (by omega) (by omega) (by omega)).mono ?_
  rintro e w1 ⟨S1, p, rfl, R1, s1, B1⟩
  have RR1 : Aside _ := R1
  have BB1 : Aside _ := B1
  clear R1 B1
  go_wp2_with fail
  obtain ⟨W1, hW1⟩ : ∃ W1, W1 = w1.alloc (Obj.cells #[Value.pointer (some ⟨p, 0, none⟩), Value.int IntKind.i64 0, Value.int IntKind.i64 0, Value.int IntKind.i64 0] 61) := ⟨_, rfl⟩
  obtain ⟨f, hf⟩ : ∃ f, f = w1.heap.size := ⟨_, rfl⟩
  rw [← hW1, ← hf]
  have F1 : FloorAt W1 f p 0 0 0 := by
    rw [hW1, hf]
    show (w1.heap.push _)[w1.heap.size]? = _
    simp
  have BW1 : Below w1.heap.size w1 W1 := by rw [hW1]; exact (Below.refl _ _).alloc (Nat.le_refl _) _
  have RW1 : Rep W1 S1 p (Ex.openX (1 + (P : Int)) (1 + (C : Int))) := E.keep RR1.out (fun k hk => BW1.block k (E.low RR1.out k hk)) BW1.size
  have nS1 : ¬ S1 f := fun hs => by have := E.low RR1.out f hs; omega
  have BWw : Below w.heap.size w W1 := BB1.out.trans (BW1.mono BB1.out.size)
  have hfw : w.heap.size ≤ f := by rw [hf]; exact BB1.out.size
  clear hW1 hf BW1 RR1 BB1
  refine (bytesK_any 1000 8 W1 (by decide)).mono ?_
  rintro e w2 ⟨rfl, hw2⟩
  have B2 : Below W1.heap.size W1 w2 := by rw [hw2]; unfold rowed; exact (Below.refl _ _).alloc (Nat.le_refl _) _
  have F2 : FloorAt w2 f p 0 0 0 := (B2.block f F1.lt).trans F1
  have R2 : Rep w2 S1 p (Ex.openX (1 + (P : Int)) (1 + (C : Int))) := E.keep RW1 (fun k hk => B2.block k (E.low RW1 k hk)) B2.size
  have BWw2 : Below w.heap.size w w2 := BWw.trans (B2.mono BWw.size)
  clear hw2 B2 F1 RW1 BWw
  have ok0 : Ex.Ok (Ex.openX (1 + (P : Int)) (1 + (C : Int))) := Ex.open_ok (by omega) (by omega)
  have hb1 := begun_do (period := 1 + (P : Int)) (cap := 1 + (C : Int)) (by omega)
  have okb := begun_ok (period := 1 + (P : Int)) (cap := 1 + (C : Int)) (by omega) (by omega)
  have ha := asks_any E R2 ok0 f 0 0 0 F2 (1 :: 0 :: bytesOf 1000 8) (by decide) (by decide) (by show 0 ≤ _; decide) (by simp [bytesOf_length])
  rw [hb1] at ha
  have F2' : Aside (FloorAt w2 f p 0 0 0) := F2
  have BW2' : Aside _ := BWw2
  have cat1 : ({ data := #[1, 0] } : ByteArray) ++ { data := (bytesOf 1000 8).toArray } = { data := (1 :: 0 :: bytesOf 1000 8).toArray } := cat_txt [1, 0] _
  have hbl : (bytesOf 1000 8).length = 8 := bytesOf_length _ _
  have OKB : Aside _ := okb
  have HA : Aside _ := ha
  clear R2 F2 BWw2 ok0 hb1 okb ha
  unfold txt at *
  generalize hb8 : bytesOf 1000 8 = b8 at *
  go_wp2_with fail
  refine Calls.mono (f := 28) HA.out ?_
  rintro e w3 ⟨S3, rfl, R3, s3, O3⟩
  have F3 : FloorAt w3 f p 0 0 0 := F2'.out.only O3 nS1
  have nS3 : ¬ S3 f := fun hs => by
    rcases s3 f hs with h | h
    · exact nS1 h
    · have := F2'.out.lt; omega
  have s3w : ∀ k, S3 k → w.heap.size ≤ k := fun k hk => by
    rcases s3 k hk with h | h
    · exact s1 k h
    · have := BW2'.out.size; omega
  have B3 : Below w.heap.size w w3 := BW2'.out.trans (O3.below s1 BW2'.out.size)
  have tl := Ex.tell OKB.out.2 (k := 7) (by decide) 0 (by decide) [7, 0] rfl
  have ha := asks_any E R3 OKB.out.1 f 0 0 0 F3 [7, 0] (by decide) (by decide) (by show (Ex.record 0 (1 :: 0 :: bytesOf 1000 8)).length ≤ _; rw [Ex.record_length]; simp [bytesOf_length]) (by decide)
  have et : Ex.tellsX (begunX (1 + (P : Int)) (1 + (C : Int))) (UInt8.toNat 7) (if Ex.longOf (UInt8.toNat 7) = 1 then 0 else 0) = 0 :: (b8 ++ bytesOf 0 24) := by rw [← hb8]; exact begun_tell _ _
  rw [et] at tl
  rw [tl] at ha
  unfold txt at ha
  have F3' : Aside (FloorAt w3 f p 0 0 0) := F3
  have B3' : Aside _ := B3
  have HA2 : Aside _ := ha
  clear R3 O3 F3 B3 tl et ha s3 HA F2' BW2' cat1
  go_wp2_with fail
  refine Calls.mono (f := 28) HA2.out ?_
  rintro e w4 ⟨S4, rfl, R4, s4, O4⟩
  have F4 : FloorAt w4 f p 0 0 0 := F3'.out.only O4 nS3
  have nS4 : ¬ S4 f := fun hs => by
    rcases s4 f hs with h | h
    · exact nS3 h
    · have := F3'.out.lt; omega
  have s4w : ∀ k, S4 k → w.heap.size ≤ k := fun k hk => by
    rcases s4 k hk with h | h
    · exact s3w k h
    · have := B3'.out.size; omega
  have B4 : Below w.heap.size w w4 := B3'.out.trans (O4.below s3w B3'.out.size)
  have HB : Aside (∀ W, Calls Try.prog 29 #[.int .i64 1000, .int .i64 8] W fun e w' => e = .returned (.string ⟨b8.toArray⟩) ∧ w' = rowed W b8) := fun W => by
    have := bytesK_any 1000 8 W (by decide)
    rw [hb8] at this
    exact this
  have HZ : Aside (∀ W, Calls Try.prog 29 #[.int .i64 0, .int .i64 24] W fun e w' => e = .returned (.string ⟨(bytesOf 0 24).toArray⟩) ∧ w' = rowed W (bytesOf 0 24)) := fun W => bytesK_any 0 24 W (by decide)
  have cat2 : ({ data := #[0] } : ByteArray) ++ { data := b8.toArray } = { data := (0 :: b8).toArray } := cat_txt [0] _
  have hz24 : (bytesOf 0 24).length = 24 := bytesOf_length _ _
  have cat3 : ({ data := (0 :: b8).toArray } : ByteArray) ++ { data := (bytesOf 0 24).toArray } = { data := (0 :: (b8 ++ bytesOf 0 24)).toArray } := cat_txt (0 :: b8) _
  obtain ⟨W5, hW5⟩ : ∃ W5, W5 = rowed (rowed w4 b8) (bytesOf 0 24) := ⟨_, rfl⟩
  have B5 : Below w4.heap.size w4 W5 := by rw [hW5]; unfold rowed; exact ((Below.refl _ _).alloc (Nat.le_refl _) _).alloc (by simp) _
  have F5 : FloorAt W5 f p 0 0 0 := (B5.block f F4.lt).trans F4
  have R5 : Rep W5 S4 p (begunX (1 + (P : Int)) (1 + (C : Int))) := E.keep R4 (fun k hk => B5.block k (E.low R4 k hk)) B5.size
  have BW5 : Below w.heap.size w W5 := B4.trans (B5.mono B4.size)
  have c2 := blk_cell F5 2
  have z2 : W5.frozen? ⟨f, 2, none⟩ = false := by
    have h := F5
    unfold FloorAt at h
    simp [World.frozen?, h]
  have F6 : Aside (FloorAt (W5.setCell ⟨f, 2, none⟩ (.int .i64 1000)) f p 0 1000 0) := by
    have h := F5
    unfold FloorAt at h
    show (W5.setCell _ _).heap[f]? = _
    have hlt := (Array.getElem?_eq_some_iff.1 h).1
    simp only [World.setCell, Array.getElem?_modify, h]
    simp
  have R6 : Aside (Rep (W5.setCell ⟨f, 2, none⟩ (.int .i64 1000)) S4 p (begunX (1 + (P : Int)) (1 + (C : Int)))) := E.keep R5 (fun k hk => Below.heap_setCell W5 ⟨f, 2, none⟩ _ k (fun e => nS4 (by have e' : k = f := e; rw [← e']; exact hk))) (by simp [World.setCell])
  have B6 : Aside (Below w.heap.size w (W5.setCell ⟨f, 2, none⟩ (.int .i64 1000))) := BW5.setCell (p := ⟨f, 2, none⟩) hfw _
  have HW5 : Aside _ := hW5
  clear R4 O4 s4 F4 B4 B5 F5 R5 BW5 hW5 HA2 F3' B3' OKB
  go_wp2_with fail
  refine Calls.mono (f := 29) (HB.out _) ?_
  rintro e w5 ⟨rfl, hw5⟩
  rw [hw5]
  clear hw5 w5
  go_wp2_with fail
  refine Calls.mono (f := 29) (HZ.out _) ?_
  rintro e w5 ⟨rfl, hw5⟩
  rw [hw5, ← HW5.out]
  clear hw5 w5
  go_wp2
  go_ret
  exact ⟨f, p, S4, rfl, F6.out, R6.out, nS4, hfw, s4w, B6.out⟩
#print axioms opened_any
end Go.Proofs.Yteeplklhbhaicaa
