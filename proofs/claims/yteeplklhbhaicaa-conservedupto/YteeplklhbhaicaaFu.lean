import Derived.Test.YteeplklhbhaicaaMv
/- Conserved, of any exchange that keeps its contract. -/
namespace Go.Proofs.Yteeplklhbhaicaa
open Go.Shelf Go.RowKit Go.Lib Go.Sort

variable {Rep : World → (Nat → Prop) → Nat → Ex.Xch → Prop}

/-- a list of moves lies there. -/
def MovesAt (w : World) (a : Option Addr) (l : List (Int × Int × Int)) : Prop := ∀ i, i < l.length → ∃ b o, a = some ⟨b, o, none⟩ ∧ b < w.heap.size ∧ w.cell? ⟨b, o + i * 3, none⟩ = some (.int .i64 (l.getD i (0, 0, 0)).1) ∧ w.cell? ⟨b, o + i * 3 + 1, none⟩ = some (.int .i64 (l.getD i (0, 0, 0)).2.1) ∧ w.cell? ⟨b, o + i * 3 + 2, none⟩ = some (.int .i64 (l.getD i (0, 0, 0)).2.2)
theorem MovesAt.up {w w' : World} {a : Option Addr} {l : List (Int × Int × Int)} (h : MovesAt w a l) (hb : Below w.heap.size w w') : MovesAt w' a l := fun i hi => by
  obtain ⟨b, o, ha, h1, h2, h3, h4⟩ := h i hi
  exact ⟨b, o, ha, Nat.lt_of_lt_of_le h1 hb.size, (hb.cell (p := ⟨b, o + i * 3, none⟩) h1).trans h2, (hb.cell (p := ⟨b, o + i * 3 + 1, none⟩) h1).trans h3, (hb.cell (p := ⟨b, o + i * 3 + 2, none⟩) h1).trans h4⟩

theorem tells7 (x : Ex.Xch) (t : Nat) : ∃ l, Ex.tellsX x 7 t = l ∧ l.length = 33 ∧ l[0]? = some 0 ∧ (l.take 9).drop 1 = bytesOf (x.ps t).cash.toNat 8 ∧ (l.take 17).drop 9 = bytesOf (x.ps t).held.toNat 8 ∧ (l.take 25).drop 17 = bytesOf (x.ps t).units.toNat 8 ∧ (l.take 33).drop 25 = bytesOf (x.ps t).hun.toNat 8 := by
  have e : Ex.tellsX x 7 t = 0 :: (bytesOf (x.ps t).cash.toNat 8 ++ bytesOf (x.ps t).held.toNat 8 ++ bytesOf (x.ps t).units.toNat 8 ++ bytesOf (x.ps t).hun.toNat 8) := by
    unfold Ex.tellsX
    rw [if_pos rfl]
  rw [e]
  have l1 := bytesOf_length (x.ps t).cash.toNat 8
  have l2 := bytesOf_length (x.ps t).held.toNat 8
  have l3 := bytesOf_length (x.ps t).units.toNat 8
  have l4 := bytesOf_length (x.ps t).hun.toNat 8
  generalize bytesOf (x.ps t).cash.toNat 8 = a at *
  generalize bytesOf (x.ps t).held.toNat 8 = b at *
  generalize bytesOf (x.ps t).units.toNat 8 = c at *
  generalize bytesOf (x.ps t).hun.toNat 8 = d at *
  refine ⟨_, rfl, by simp [l1, l2, l3, l4], rfl, ?_, ?_, ?_, ?_⟩
  · have := take_cut [0] a (b ++ c ++ d)
    rw [List.drop_take]
    simp only [l1, List.length_singleton] at this
    simpa using this
  · have := take_cut (0 :: a) b (c ++ d)
    rw [List.drop_take]
    simp only [l1, l2, List.length_cons] at this
    simpa using this
  · have := take_cut (0 :: (a ++ b)) c d
    rw [List.drop_take]
    simp only [l1, l2, l3, List.length_cons, List.length_append] at this
    simpa using this
  · have := take_cut (0 :: (a ++ b ++ c)) d []
    rw [List.drop_take]
    simp only [l1, l2, l3, l4, List.length_cons, List.length_append] at this
    simpa using this

/-- what a move puts in is what the request does. -/
theorem put_move (K W N : Int) (s : List UInt8) : mvCash K N s = (if s = [0] then Ex.putBy Ex.putCash (mvReq K W N) else 0) ∧ mvUnits K N s = (if s = [0] then Ex.putBy Ex.putUnits (mvReq K W N) else 0) := by
  have hn := pickN_lt N 3000 (by decide)
  have n8 : numOf (bytesOf (pickN N 3000) 8) = pickN N 3000 := num_bytes _ _ (by omega)
  have hw := bytesOf_length (pickN W 20) 1
  unfold mvCash mvUnits
  by_cases hs : s = [0]
  · rw [if_pos hs, if_pos hs, if_pos hs, if_pos hs]
    unfold mvReq reqOf Ex.putBy
    obtain ⟨b, hb⟩ : ∃ b, bytesOf (pickN W 20) 1 = [b] := List.length_eq_one_iff.1 hw
    rw [hb]
    generalize pickN K 10 = k
    generalize bytesOf (pickN N 3000) 8 = bn at n8 ⊢
    by_cases h8 : k = 8
    · subst h8; exact ⟨rfl, rfl⟩
    · rw [if_neg h8]
      by_cases h0 : k = 0
      · subst h0
        have d : (1 :: ([b] ++ bn) : List UInt8).drop 2 = bn := rfl
        simp only [if_true]
        rw [d, n8]
        exact ⟨rfl, rfl⟩
      · by_cases h1 : k = 1
        · subst h1
          have d : (3 :: ([b] ++ bn) : List UInt8).drop 2 = bn := rfl
          simp only [if_true, h0, if_false]
          rw [d, n8]
          exact ⟨rfl, rfl⟩
        · by_cases h2 : k = 2
          · subst h2
            have d : (2 :: ([b] ++ bn) : List UInt8).drop 2 = bn := rfl
            simp only [if_true, h0, h1, if_false]
            rw [d, n8]
            exact ⟨rfl, rfl⟩
          · by_cases h3 : k = 3
            · subst h3
              have d : (4 :: ([b] ++ bn) : List UInt8).drop 2 = bn := rfl
              simp only [if_true, h0, h1, h2, if_false]
              rw [d, n8]
              exact ⟨rfl, rfl⟩
            · simp only [h0, h1, h2, h3, if_false]
              by_cases h7 : k < 7
              · rw [if_pos h7]; exact ⟨rfl, rfl⟩
              · rw [if_neg h7]
                by_cases h7e : k = 7
                · rw [if_pos h7e]; exact ⟨rfl, rfl⟩
                · rw [if_neg h7e]; exact ⟨rfl, rfl⟩
  · rw [if_neg hs, if_neg hs, if_neg hs, if_neg hs]; exact ⟨rfl, rfl⟩
end Go.Proofs.Yteeplklhbhaicaa
/- The floor: funded, others. -/
namespace Go.Proofs.Yteeplklhbhaicaa
open Go.Shelf Go.RowKit Go.Lib Go.Sort

variable {Rep : World → (Nat → Prop) → Nat → Ex.Xch → Prop}

def askC (t : Nat) : List UInt8 := 1 :: UInt8.ofNat t :: bytesOf 5000 8
def askU (t : Nat) : List UInt8 := 3 :: UInt8.ofNat t :: bytesOf 5 8
/-- the traders 1 to n have been funded. -/
def fundTo (x : Ex.Xch) (now : Int) : Nat → Ex.Xch
  | 0 => x
  | n + 1 => (Ex.doX (Ex.doX (fundTo x now n) now (askC (n + 1))).1 now (askU (n + 1))).1
def fundX (x : Ex.Xch) (now : Int) : Ex.Xch := (Ex.doX (fundTo x now 19) now (askU 0)).1

theorem fundTo_ok {x : Ex.Xch} (h : Ex.Ok x) (now : Int) : ∀ n, Ex.Ok (fundTo x now n) ∧ (fundTo x now n).jr.length ≤ x.jr.length + 60 * n
  | 0 => ⟨h, by show x.jr.length ≤ _; omega⟩
  | n + 1 => by
    obtain ⟨q1, q2⟩ := fundTo_ok h now n
    have a := Ex.do_ok q1 now (askC (n + 1))
    have b := Ex.do_ok a.1 now (askU (n + 1))
    have c := Ex.do_jr (fundTo x now n) now (askC (n + 1))
    have d := Ex.do_jr (Ex.doX (fundTo x now n) now (askC (n + 1))).1 now (askU (n + 1))
    have l1 : (askC (n + 1)).length = 10 := by simp [askC, bytesOf_length]
    have l2 : (askU (n + 1)).length = 10 := by simp [askU, bytesOf_length]
    refine ⟨b.1, ?_⟩
    show (Ex.doX (Ex.doX (fundTo x now n) now (askC (n + 1))).1 now (askU (n + 1))).1.jr.length ≤ _
    omega

/-- a floor and its exchange, behind what lay there. -/
structure Fl (Rep : World → (Nat → Prop) → Nat → Ex.Xch → Prop) (w : World) (S : Nat → Prop) (f p : Nat) (now cash units : Int) (x : Ex.Xch) : Prop where
  fl : FloorAt w f p now cash units
  rep : Rep w S p x
  no : ¬ S f

theorem Fl.up (E : Exch Rep) {w w' : World} {S : Nat → Prop} {f p : Nat} {now cash units : Int} {x : Ex.Xch} (h : Fl Rep w S f p now cash units x) (b : Below w.heap.size w w') : Fl Rep w' S f p now cash units x :=
  ⟨(b.block f h.fl.lt).trans h.fl, E.keep h.rep (fun k hk => b.block k (E.low h.rep k hk)) b.size, h.no⟩

/-- one request more. -/
theorem fl_asks (E : Exch Rep) {w : World} {S : Nat → Prop} {f p : Nat} {now cash units : Int} {x : Ex.Xch} (h : Fl Rep w S f p now cash units x) (ok : Ex.Ok x) (r : List UInt8) (h0 : 0 ≤ now) (h1 : now ≤ 9223372036854775807) (hj : x.jr.length ≤ 1099511627776) (hr : r.length ≤ 1000) :
    Calls Try.prog 28 #[.pointer (some ⟨f, 0, none⟩), .string ⟨r.toArray⟩] w fun e w' => ∃ S', e = .returned (.string ⟨(Ex.doX x now r).2.toArray⟩) ∧ Fl Rep w' S' f p now cash units (Ex.doX x now r).1 ∧ (∀ k, S' k → S k ∨ w.heap.size ≤ k) ∧ Only S w w' := by
  refine Calls.mono (f := 28) (asks_any E h.rep ok f now cash units h.fl r h0 h1 hj hr) ?_
  rintro e w' ⟨S', q1, q2, q3, q4⟩
  exact ⟨S', q1, ⟨h.fl.only q4 h.no, q2, fun hs => by
    rcases q3 f hs with h' | h'
    · exact h.no h'
    · have := h.fl.lt; omega⟩, q3, q4⟩

/-- S has grown, and nothing else was turned. -/
structure Gone (S S' : Nat → Prop) (w w' : World) : Prop where
  only : Only S w w'
  sub : ∀ k, S' k → S k ∨ w.heap.size ≤ k
theorem Gone.refl (S : Nat → Prop) (w : World) : Gone S S w w := ⟨⟨rfl, rfl, rfl, Nat.le_refl _, fun _ _ _ => rfl⟩, fun _ h => Or.inl h⟩
theorem Gone.trans {S S' S'' : Nat → Prop} {w w' w'' : World} (a : Gone S S' w w') (b : Gone S' S'' w' w'') : Gone S S'' w w'' :=
  ⟨⟨b.only.os.trans a.only.os, b.only.tape.trans a.only.tape, b.only.output.trans a.only.output, Nat.le_trans a.only.size b.only.size, fun k hk hn => (b.only.block k (Nat.lt_of_lt_of_le hk a.only.size) (fun hs => by
    rcases a.sub k hs with h | h
    · exact hn h
    · omega)).trans (a.only.block k hk hn)⟩, fun k hk => by
    rcases b.sub k hk with h | h
    · exact a.sub k h
    · right; have := a.only.size; omega⟩
theorem Gone.below {S : Nat → Prop} {w w' : World} (b : Below w.heap.size w w') : Gone S S w w' := ⟨Only.of_below b, fun _ h => Or.inl h⟩

set_option maxHeartbeats 2000000 in
set_option maxRecDepth 100000 in
theorem funded_any (E : Exch Rep) {w : World} {S : Nat → Prop} {f p : Nat} {now cash units : Int} {x : Ex.Xch} (h : Fl Rep w S f p now cash units x) (ok : Ex.Ok x) (h0 : 0 ≤ now) (h1 : now ≤ 9223372036854775807) (hj : x.jr.length ≤ 1099511000000)
    (hr : ∀ n, n < 19 → (Ex.doX (fundTo x now n) now (askC (n + 1))).2 = [0] ∧ (Ex.doX (Ex.doX (fundTo x now n) now (askC (n + 1))).1 now (askU (n + 1))).2 = [0]) (hz : (Ex.doX (fundTo x now 19) now (askU 0)).2 = [0]) :
    Calls Try.prog 31 #[.pointer (some ⟨f, 0, none⟩)] w fun e w' => ∃ S', e = .returned (.bool true) ∧ Fl Rep w' S' f p now cash units (fundX x now) ∧ Gone S S' w w' := by
  have mixed : Try.prog.follows .mixedOrders = true := by kernel_rfl
  have H : Aside (Fl Rep w S f p now cash units x) := h
  clear h
  have HB : Aside (∀ (n m : Nat) W, m ≤ 1000 → Calls Try.prog 29 #[.int .i64 n, .int .i64 m] W fun e w' => e = .returned (.string ⟨(bytesOf n m).toArray⟩) ∧ w' = rowed W (bytesOf n m)) := fun n m W hm => bytesK_any n m W hm
  have hl1 : (bytesOf 5000 8).length = 8 := bytesOf_length _ _
  have hl2 : (bytesOf 5 8).length = 8 := bytesOf_length _ _
  go_enter Try.func31, Try.ntmps31
  go_wp2_with fail
  go_loopg [3] 20 (fun kx s wq => ∃ (t : Nat) (S1 : Nat → Prop), s = .int .i64 t ∧ 1 ≤ t ∧ t ≤ 20 ∧ 20 - t ≤ kx ∧ Aside (Fl Rep wq S1 f p now cash units (fundTo x now (t - 1))) ∧ Aside (Gone S S1 w wq))
  case atStart => exact ⟨1, S, rfl, by omega, by omega, by omega, H, Gone.refl _ _⟩
  case round =>
    obtain ⟨t, S1, rfl, ht1, ht2, hkx, FA, GA⟩ := hrel
    obtain ⟨U0, rfl⟩ : ∃ U0, U0 = wr := ⟨_, rfl⟩
    obtain ⟨okn, jn⟩ := fundTo_ok ok now (t - 1)
    by_cases hlt : t < 20
    · have hltz : (t : Int) < 20 := by omega
      obtain ⟨r1, r2⟩ := hr (t - 1) (by omega)
      have enx : fundTo x now t = (Ex.doX (Ex.doX (fundTo x now (t - 1)) now (askC t)).1 now (askU t)).1 := by
        have : fundTo x now (t - 1 + 1) = (Ex.doX (Ex.doX (fundTo x now (t - 1)) now (askC (t - 1 + 1))).1 now (askU (t - 1 + 1))).1 := rfl
        rwa [show t - 1 + 1 = t by omega] at this
      rw [show t - 1 + 1 = t by omega] at r1 r2
      have ENX : Aside _ := enx
      have eb : bytesOf t 1 = [UInt8.ofNat t] := by
        show [UInt8.ofNat (t / 256 ^ 0)] = _
        rw [Nat.pow_zero, Nat.div_one]
      have hb1 := HB.out t 1
      rw [eb] at hb1
      have HB1 : Aside _ := hb1
      clear hb1 eb enx
      have cat1 : ({ data := #[1] } : ByteArray) ++ { data := [UInt8.ofNat t].toArray } = { data := [1, UInt8.ofNat t].toArray } := cat_txt [1] _
      have cat2 : ({ data := [1, UInt8.ofNat t].toArray } : ByteArray) ++ { data := (bytesOf 5000 8).toArray } = { data := (askC t).toArray } := cat_txt [1, UInt8.ofNat t] _
      have cat3 : ({ data := #[3] } : ByteArray) ++ { data := [UInt8.ofNat t].toArray } = { data := [3, UInt8.ofNat t].toArray } := cat_txt [3] _
      have cat4 : ({ data := [3, UInt8.ofNat t].toArray } : ByteArray) ++ { data := (bytesOf 5 8).toArray } = { data := (askU t).toArray } := cat_txt [3, UInt8.ofNat t] _
      have la1 : (askC t).length = 10 := by simp [askC, bytesOf_length]
      have la2 : (askU t).length = 10 := by simp [askU, bytesOf_length]
      obtain ⟨x0, hx0⟩ : ∃ x0, fundTo x now (t - 1) = x0 := ⟨_, rfl⟩
      rw [hx0] at FA okn jn r1 r2 ENX
      clear hx0
      have dk1 := Ex.do_ok okn now (askC t)
      have dj1 := Ex.do_jr x0 now (askC t)
      obtain ⟨x1, hx1⟩ : ∃ x1, (Ex.doX x0 now (askC t)).1 = x1 := ⟨_, rfl⟩
      rw [hx1] at dk1 dj1 r2 ENX
      have ok1 := dk1.1
      go_wp2_with fail
      refine Calls.mono (f := 29) (HB1.out U0 (by decide)) ?_
      rintro e w1 ⟨rfl, hw1⟩
      have HW1 : Aside _ := hw1
      clear hw1
      go_wp2_with fail
      refine Calls.mono (f := 29) (HB.out 5000 8 w1 (by decide)) ?_
      rintro e w2 ⟨rfl, hw2⟩
      have B2 : Below U0.heap.size U0 w2 := by rw [hw2, HW1.out]; unfold rowed; exact ((Below.refl _ _).alloc (Nat.le_refl _) _).alloc (by simp) _
      have F2 := FA.out.up E B2
      have G2 : Gone S S1 w w2 := GA.out.trans (Gone.below B2)
      have ha := fl_asks E F2 okn (askC t) h0 h1 (by omega) (by omega)
      rw [r1, hx1] at ha
      have HA : Aside _ := ha
      have GG2 : Aside _ := G2
      clear hw2 HW1 B2 F2 G2 ha FA GA
      go_wp2_with fail
      refine Calls.mono (f := 28) HA.out ?_
      rintro e w3 ⟨S3, rfl, F3, s3, O3⟩
      have G3 : Aside (Gone S S3 w w3) := Gone.trans GG2.out ⟨O3, s3⟩
      have FF3 : Aside (Fl Rep w3 S3 f p now cash units x1) := F3
      clear HA GG2 F3 s3 O3
      go_wp2_with fail
      refine Calls.mono (f := 29) (HB1.out w3 (by decide)) ?_
      rintro e w4 ⟨rfl, hw4⟩
      have HW4 : Aside _ := hw4
      clear hw4
      go_wp2_with fail
      refine Calls.mono (f := 29) (HB.out 5 8 w4 (by decide)) ?_
      rintro e w5 ⟨rfl, hw5⟩
      have B5 : Below w3.heap.size w3 w5 := by rw [hw5, HW4.out]; unfold rowed; exact ((Below.refl _ _).alloc (Nat.le_refl _) _).alloc (by simp) _
      have F5 := FF3.out.up E B5
      have G5 : Gone S S3 w w5 := G3.out.trans (Gone.below B5)
      have ha := fl_asks E F5 ok1 (askU t) h0 h1 (by omega) (by omega)
      rw [r2, ← ENX.out] at ha
      have HA : Aside _ := ha
      have GG5 : Aside _ := G5
      clear hw5 HW4 B5 F5 G5 ha FF3 G3
      go_wp2_with fail
      refine Calls.mono (f := 28) HA.out ?_
      rintro e w6 ⟨S6, rfl, F6, s6, O6⟩
      have G6 : Aside (Gone S S6 w w6) := Gone.trans GG5.out ⟨O6, s6⟩
      have FF6 : Aside (Fl Rep w6 S6 f p now cash units (fundTo x now t)) := F6
      clear HA GG5 F6 s6 O6 ENX
      go_wp2
      go_roundg (20 - (t + 1))
      case measure => omega
      case rel => exact ⟨t + 1, S6, by go_num, by omega, by omega, Nat.le_refl _, by rw [Nat.add_sub_cancel]; exact FF6, G6⟩
    · have hltz : ¬ (t : Int) < 20 := by omega
      have et : t = 20 := by omega
      subst et
      have cat1 : ({ data := #[3, 0] } : ByteArray) ++ { data := (bytesOf 5 8).toArray } = { data := (askU 0).toArray } := cat_txt [3, 0] _
      have la2 : (askU 0).length = 10 := by simp [askU, bytesOf_length]
      go_wp2_with fail
      refine Calls.mono (f := 29) (HB.out 5 8 U0 (by decide)) ?_
      rintro e w5 ⟨rfl, hw5⟩
      have B5 : Below U0.heap.size U0 w5 := by rw [hw5]; unfold rowed; exact (Below.refl _ _).alloc (Nat.le_refl _) _
      have F5 := FA.out.up E B5
      have G5 : Gone S S1 w w5 := GA.out.trans (Gone.below B5)
      have ha := fl_asks E F5 okn (askU 0) h0 h1 (by omega) (by omega)
      have hz' : (Ex.doX (fundTo x now (20 - 1)) now (askU 0)).2 = [0] := hz
      rw [hz'] at ha
      have HA : Aside _ := ha
      have GG5 : Aside _ := G5
      clear hw5 B5 F5 G5 ha FA GA hz hz'
      go_wp2_with fail
      refine Calls.mono (f := 28) HA.out ?_
      rintro e w6 ⟨S6, rfl, F6, s6, O6⟩
      have G6 : Aside (Gone S S6 w w6) := Gone.trans GG5.out ⟨O6, s6⟩
      have FF6 : Aside (Fl Rep w6 S6 f p now cash units (fundX x now)) := F6
      clear HA GG5 F6 s6 O6
      go_wp2
      go_ret
      exact ⟨S6, rfl, FF6.out, G6.out⟩
#print axioms funded_any
end Go.Proofs.Yteeplklhbhaicaa
