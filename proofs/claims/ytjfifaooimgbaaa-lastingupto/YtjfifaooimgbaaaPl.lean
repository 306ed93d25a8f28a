import Derived.Test.YtjfifaooimgbaaaMv
/- Conserved, of any exchange that keeps its contract. -/
namespace Go.Proofs.Ytjfifaooimgbaaa
open Go.Shelf Go.RowKit Go.Lib Go.Sort

variable {Rep : World → (Nat → Prop) → Nat → Ex.Xch → Prop}

/-- a list of moves lies there. -/
def MovesAt (w : World) (a : Option Addr) (l : List (Int × Int × Int)) : Prop := ∀ i, i < l.length → ∃ b o, a = some ⟨b, o, none⟩ ∧ b < w.heap.size ∧ w.cell? ⟨b, o + i * 3, none⟩ = some (.int .i64 (l.getD i (0, 0, 0)).1) ∧ w.cell? ⟨b, o + i * 3 + 1, none⟩ = some (.int .i64 (l.getD i (0, 0, 0)).2.1) ∧ w.cell? ⟨b, o + i * 3 + 2, none⟩ = some (.int .i64 (l.getD i (0, 0, 0)).2.2)
theorem MovesAt.up {w w' : World} {a : Option Addr} {l : List (Int × Int × Int)} (h : MovesAt w a l) (hb : Below w.heap.size w w') : MovesAt w' a l := fun i hi => by
  obtain ⟨b, o, ha, h1, h2, h3, h4⟩ := h i hi
  exact ⟨b, o, ha, Nat.lt_of_lt_of_le h1 hb.size, (hb.cell (p := ⟨b, o + i * 3, none⟩) h1).trans h2, (hb.cell (p := ⟨b, o + i * 3 + 1, none⟩) h1).trans h3, (hb.cell (p := ⟨b, o + i * 3 + 2, none⟩) h1).trans h4⟩

theorem tells7 (x : Ex.Xch) (t : Nat) : ∃ l, Ex.tellsX x 7 t = l ∧ l.length = 33 ∧ l[0]? = some 0 ∧ (l.take 9).drop 1 = bytesOf (x.ps t).cash.toNat 8 ∧ (l.take 17).drop 9 = bytesOf (x.ps t).held.toNat 8 ∧ (l.take 25).drop 17 = bytesOf (x.ps t).units.toNat 8 ∧ (l.take 33).drop 25 = bytesOf (x.ps t).hun.toNat 8 := by
  have e : Ex.tellsX x 7 t = 0 :: (bytesOf (x.ps t).cash.toNat 8 ++ bytesOf (x.ps t).held.toNat 8 ++ bytesOf (x.ps t).units.toNat 8 ++ bytesOf (x.ps t).hun.toNat 8) := by
    unfold Ex.tellsX
    rw [if_pos rfl]
  rw [e]
  have l1 := bytesOf_length (x.ps t).cash.toNat 8
  have l2 := bytesOf_length (x.ps t).held.toNat 8
  have l3 := bytesOf_length (x.ps t).units.toNat 8
  have l4 := bytesOf_length (x.ps t).hun.toNat 8
  generalize bytesOf (x.ps t).cash.toNat 8 = a at *
  generalize bytesOf (x.ps t).held.toNat 8 = b at *
  generalize bytesOf (x.ps t).units.toNat 8 = c at *
  generalize bytesOf (x.ps t).hun.toNat 8 = d at *
  refine ⟨_, rfl, by simp [l1, l2, l3, l4], rfl, ?_, ?_, ?_, ?_⟩
  · have := take_cut [0] a (b ++ c ++ d)
    rw [List.drop_take]
    simp only [l1, List.length_singleton] at this
    simpa using this
  · have := take_cut (0 :: a) b (c ++ d)
    rw [List.drop_take]
    simp only [l1, l2, List.length_cons] at this
    simpa using this
  · have := take_cut (0 :: (a ++ b)) c d
    rw [List.drop_take]
    simp only [l1, l2, l3, List.length_cons, List.length_append] at this
    simpa using this
  · have := take_cut (0 :: (a ++ b ++ c)) d []
    rw [List.drop_take]
    simp only [l1, l2, l3, l4, List.length_cons, List.length_append] at this
    simpa using this

/-- what a move puts in is what the request does. -/
theorem put_move (K W N : Int) (s : List UInt8) : mvCash K N s = (if s = [0] then Ex.putBy Ex.putCash (mvReq K W N) else 0) ∧ mvUnits K N s = (if s = [0] then Ex.putBy Ex.putUnits (mvReq K W N) else 0) := by
  have hn := pickN_lt N 3000 (by decide)
  have n8 : numOf (bytesOf (pickN N 3000) 8) = pickN N 3000 := num_bytes _ _ (by omega)
  have hw := bytesOf_length (pickN W 20) 1
  unfold mvCash mvUnits
  by_cases hs : s = [0]
  · rw [if_pos hs, if_pos hs, if_pos hs, if_pos hs]
    unfold mvReq reqOf Ex.putBy
    obtain ⟨b, hb⟩ : ∃ b, bytesOf (pickN W 20) 1 = [b] := List.length_eq_one_iff.1 hw
    rw [hb]
    generalize pickN K 10 = k
    generalize bytesOf (pickN N 3000) 8 = bn at n8 ⊢
    by_cases h8 : k = 8
    · subst h8; exact ⟨rfl, rfl⟩
    · rw [if_neg h8]
      by_cases h0 : k = 0
      · subst h0
        have d : (1 :: ([b] ++ bn) : List UInt8).drop 2 = bn := rfl
        simp only [if_true]
        rw [d, n8]
        exact ⟨rfl, rfl⟩
      · by_cases h1 : k = 1
        · subst h1
          have d : (3 :: ([b] ++ bn) : List UInt8).drop 2 = bn := rfl
          simp only [if_true, h0, if_false]
          rw [d, n8]
          exact ⟨rfl, rfl⟩
        · by_cases h2 : k = 2
          · subst h2
            have d : (2 :: ([b] ++ bn) : List UInt8).drop 2 = bn := rfl
            simp only [if_true, h0, h1, if_false]
            rw [d, n8]
            exact ⟨rfl, rfl⟩
          · by_cases h3 : k = 3
            · subst h3
              have d : (4 :: ([b] ++ bn) : List UInt8).drop 2 = bn := rfl
              simp only [if_true, h0, h1, h2, if_false]
              rw [d, n8]
              exact ⟨rfl, rfl⟩
            · simp only [h0, h1, h2, h3, if_false]
              by_cases h7 : k < 7
              · rw [if_pos h7]; exact ⟨rfl, rfl⟩
              · rw [if_neg h7]
                by_cases h7e : k = 7
                · rw [if_pos h7e]; exact ⟨rfl, rfl⟩
                · rw [if_neg h7e]; exact ⟨rfl, rfl⟩
  · rw [if_neg hs, if_neg hs, if_neg hs, if_neg hs]; exact ⟨rfl, rfl⟩
end Go.Proofs.Ytjfifaooimgbaaa
/- The floor: funded, others. -/
namespace Go.Proofs.Ytjfifaooimgbaaa
open Go.Shelf Go.RowKit Go.Lib Go.Sort

variable {Rep : World → (Nat → Prop) → Nat → Ex.Xch → Prop}

def askC (t : Nat) : List UInt8 := 1 :: UInt8.ofNat t :: bytesOf 5000 8
def askU (t : Nat) : List UInt8 := 3 :: UInt8.ofNat t :: bytesOf 5 8
/-- the traders 1 to n have been funded. -/
def fundTo (x : Ex.Xch) (now : Int) : Nat → Ex.Xch
  | 0 => x
  | n + 1 => (Ex.doX (Ex.doX (fundTo x now n) now (askC (n + 1))).1 now (askU (n + 1))).1
def fundX (x : Ex.Xch) (now : Int) : Ex.Xch := (Ex.doX (fundTo x now 19) now (askU 0)).1

theorem fundTo_ok {x : Ex.Xch} (h : Ex.Ok x) (now : Int) : ∀ n, Ex.Ok (fundTo x now n) ∧ (fundTo x now n).jr.length ≤ x.jr.length + 60 * n
  | 0 => ⟨h, by show x.jr.length ≤ _; omega⟩
  | n + 1 => by
    obtain ⟨q1, q2⟩ := fundTo_ok h now n
    have a := Ex.do_ok q1 now (askC (n + 1))
    have b := Ex.do_ok a.1 now (askU (n + 1))
    have c := Ex.do_jr (fundTo x now n) now (askC (n + 1))
    have d := Ex.do_jr (Ex.doX (fundTo x now n) now (askC (n + 1))).1 now (askU (n + 1))
    have l1 : (askC (n + 1)).length = 10 := by simp [askC, bytesOf_length]
    have l2 : (askU (n + 1)).length = 10 := by simp [askU, bytesOf_length]
    refine ⟨b.1, ?_⟩
    show (Ex.doX (Ex.doX (fundTo x now n) now (askC (n + 1))).1 now (askU (n + 1))).1.jr.length ≤ _
    omega

/-- a floor and its exchange, behind what lay there. -/
structure Fl (Rep : World → (Nat → Prop) → Nat → Ex.Xch → Prop) (w : World) (S : Nat → Prop) (f p : Nat) (now cash units : Int) (x : Ex.Xch) : Prop where
  fl : FloorAt w f p now cash units
  rep : Rep w S p x
  no : ¬ S f

theorem Fl.up (E : Exch Rep) {w w' : World} {S : Nat → Prop} {f p : Nat} {now cash units : Int} {x : Ex.Xch} (h : Fl Rep w S f p now cash units x) (b : Below w.heap.size w w') : Fl Rep w' S f p now cash units x :=
  ⟨(b.block f h.fl.lt).trans h.fl, E.keep h.rep (fun k hk => b.block k (E.low h.rep k hk)) b.size, h.no⟩

/-- one request more. -/
theorem fl_asks (E : Exch Rep) {w : World} {S : Nat → Prop} {f p : Nat} {now cash units : Int} {x : Ex.Xch} (h : Fl Rep w S f p now cash units x) (ok : Ex.Ok x) (r : List UInt8) (h0 : 0 ≤ now) (h1 : now ≤ 9223372036854775807) (hj : x.jr.length ≤ 1099511627776) (hr : r.length ≤ 1000) :
    Calls Try.prog 29 #[.pointer (some ⟨f, 0, none⟩), .string ⟨r.toArray⟩] w fun e w' => ∃ S', e = .returned (.string ⟨(Ex.doX x now r).2.toArray⟩) ∧ Fl Rep w' S' f p now cash units (Ex.doX x now r).1 ∧ (∀ k, S' k → S k ∨ w.heap.size ≤ k) ∧ Only S w w' := by
  refine Calls.mono (f := 29) (asks_any E h.rep ok f now cash units h.fl r h0 h1 hj hr) ?_
  rintro e w' ⟨S', q1, q2, q3, q4⟩
  exact ⟨S', q1, ⟨h.fl.only q4 h.no, q2, fun hs => by
    rcases q3 f hs with h' | h'
    · exact h.no h'
    · have := h.fl.lt; omega⟩, q3, q4⟩

/-- S has grown, and nothing else was turned. -/
structure Gone (S S' : Nat → Prop) (w w' : World) : Prop where
  only : Only S w w'
  sub : ∀ k, S' k → S k ∨ w.heap.size ≤ k
theorem Gone.refl (S : Nat → Prop) (w : World) : Gone S S w w := ⟨⟨rfl, rfl, rfl, Nat.le_refl _, fun _ _ _ => rfl⟩, fun _ h => Or.inl h⟩
theorem Gone.trans {S S' S'' : Nat → Prop} {w w' w'' : World} (a : Gone S S' w w') (b : Gone S' S'' w' w'') : Gone S S'' w w'' :=
  ⟨⟨b.only.os.trans a.only.os, b.only.tape.trans a.only.tape, b.only.output.trans a.only.output, Nat.le_trans a.only.size b.only.size, fun k hk hn => (b.only.block k (Nat.lt_of_lt_of_le hk a.only.size) (fun hs => by
    rcases a.sub k hs with h | h
    · exact hn h
    · omega)).trans (a.only.block k hk hn)⟩, fun k hk => by
    rcases b.sub k hk with h | h
    · exact a.sub k h
    · right; have := a.only.size; omega⟩
theorem Gone.below {S : Nat → Prop} {w w' : World} (b : Below w.heap.size w w') : Gone S S w w' := ⟨Only.of_below b, fun _ h => Or.inl h⟩

set_option maxHeartbeats 2000000 in
set_option maxRecDepth 100000 in
theorem funded_any (E : Exch Rep) {w : World} {S : Nat → Prop} {f p : Nat} {now cash units : Int} {x : Ex.Xch} (h : Fl Rep w S f p now cash units x) (ok : Ex.Ok x) (h0 : 0 ≤ now) (h1 : now ≤ 9223372036854775807) (hj : x.jr.length ≤ 1099511000000)
    (hr : ∀ n, n < 19 → (Ex.doX (fundTo x now n) now (askC (n + 1))).2 = [0] ∧ (Ex.doX (Ex.doX (fundTo x now n) now (askC (n + 1))).1 now (askU (n + 1))).2 = [0]) (hz : (Ex.doX (fundTo x now 19) now (askU 0)).2 = [0]) :
    Calls Try.prog 32 #[.pointer (some ⟨f, 0, none⟩)] w fun e w' => ∃ S', e = .returned (.bool true) ∧ Fl Rep w' S' f p now cash units (fundX x now) ∧ Gone S S' w w' := by
  have mixed : Try.prog.follows .mixedOrders = true := by kernel_rfl
  have H : Aside (Fl Rep w S f p now cash units x) := h
  clear h
  have HB : Aside (∀ (n m : Nat) W, m ≤ 1000 → Calls Try.prog 30 #[.int .i64 n, .int .i64 m] W fun e w' => e = .returned (.string ⟨(bytesOf n m).toArray⟩) ∧ w' = rowed W (bytesOf n m)) := fun n m W hm => bytesK_any n m W hm
  have hl1 : (bytesOf 5000 8).length = 8 := bytesOf_length _ _
  have hl2 : (bytesOf 5 8).length = 8 := bytesOf_length _ _
  go_enter Try.func32, Try.ntmps32
  go_wp2_with fail
  go_loopg [3] 20 (fun kx s wq => ∃ (t : Nat) (S1 : Nat → Prop), s = .int .i64 t ∧ 1 ≤ t ∧ t ≤ 20 ∧ 20 - t ≤ kx ∧ Aside (Fl Rep wq S1 f p now cash units (fundTo x now (t - 1))) ∧ Aside (Gone S S1 w wq))
  case atStart => exact ⟨1, S, rfl, by omega, by omega, by omega, H, Gone.refl _ _⟩
  case round =>
    obtain ⟨t, S1, rfl, ht1, ht2, hkx, FA, GA⟩ := hrel
    obtain ⟨U0, rfl⟩ : ∃ U0, U0 = wr := ⟨_, rfl⟩
    obtain ⟨okn, jn⟩ := fundTo_ok ok now (t - 1)
    by_cases hlt : t < 20
    · have hltz : (t : Int) < 20 := by omega
      obtain ⟨r1, r2⟩ := hr (t - 1) (by omega)
      have enx : fundTo x now t = (Ex.doX (Ex.doX (fundTo x now (t - 1)) now (askC t)).1 now (askU t)).1 := by
        have : fundTo x now (t - 1 + 1) = (Ex.doX (Ex.doX (fundTo x now (t - 1)) now (askC (t - 1 + 1))).1 now (askU (t - 1 + 1))).1 := rfl
        rwa [show t - 1 + 1 = t by omega] at this
      rw [show t - 1 + 1 = t by omega] at r1 r2
      have ENX : Aside _ := enx
      have eb : bytesOf t 1 = [UInt8.ofNat t] := by
        show [UInt8.ofNat (t / 256 ^ 0)] = _
        rw [Nat.pow_zero, Nat.div_one]
      have hb1 := HB.out t 1
      rw [eb] at hb1
      have HB1 : Aside _ := hb1
      clear hb1 eb enx
      have cat1 : ({ data := #[1] } : ByteArray) ++ { data := [UInt8.ofNat t].toArray } = { data := [1, UInt8.ofNat t].toArray } := cat_txt [1] _
      have cat2 : ({ data := [1, UInt8.ofNat t].toArray } : ByteArray) ++ { data := (bytesOf 5000 8).toArray } = { data := (askC t).toArray } := cat_txt [1, UInt8.ofNat t] _
      have cat3 : ({ data := #[3] } : ByteArray) ++ { data := [UInt8.ofNat t].toArray } = { data := [3, UInt8.ofNat t].toArray } := cat_txt [3] _
      have cat4 : ({ data := [3, UInt8.ofNat t].toArray } : ByteArray) ++ { data := (bytesOf 5 8).toArray } = { data := (askU t).toArray } := cat_txt [3, UInt8.ofNat t] _
      have la1 : (askC t).length = 10 := by simp [askC, bytesOf_length]
      have la2 : (askU t).length = 10 := by simp [askU, bytesOf_length]
      obtain ⟨x0, hx0⟩ : ∃ x0, fundTo x now (t - 1) = x0 := ⟨_, rfl⟩
      rw [hx0] at FA okn jn r1 r2 ENX
      clear hx0
      have dk1 := Ex.do_ok okn now (askC t)
      have dj1 := Ex.do_jr x0 now (askC t)
      obtain ⟨x1, hx1⟩ : ∃ x1, (Ex.doX x0 now (askC t)).1 = x1 := ⟨_, rfl⟩
      rw [hx1] at dk1 dj1 r2 ENX
      have ok1 := dk1.1
      go_wp2_with fail
      refine Calls.mono (f := 30) (HB1.out U0 (by decide)) ?_
      rintro e w1 ⟨rfl, hw1⟩
      have HW1 : Aside _ := hw1
      clear hw1
      go_wp2_with fail
      refine Calls.mono (f := 30) (HB.out 5000 8 w1 (by decide)) ?_
      rintro e w2 ⟨rfl, hw2⟩
      have B2 : Below U0.heap.size U0 w2 := by rw [hw2, HW1.out]; unfold rowed; exact ((Below.refl _ _).alloc (Nat.le_refl _) _).alloc (by simp) _
      have F2 := FA.out.up E B2
      have G2 : Gone S S1 w w2 := GA.out.trans (Gone.below B2)
      have ha := fl_asks E F2 okn (askC t) h0 h1 (by omega) (by omega)
      rw [r1, hx1] at ha
      have HA : Aside _ := ha
      have GG2 : Aside _ := G2
      clear hw2 HW1 B2 F2 G2 ha FA GA
      go_wp2_with fail
      refine Calls.mono (f := 29) HA.out ?_
      rintro e w3 ⟨S3, rfl, F3, s3, O3⟩
      have G3 : Aside (Gone S S3 w w3) := Gone.trans GG2.out ⟨O3, s3⟩
      have FF3 : Aside (Fl Rep w3 S3 f p now cash units x1) := F3
      clear HA GG2 F3 s3 O3
      go_wp2_with fail
      refine Calls.mono (f := 30) (HB1.out w3 (by decide)) ?_
      rintro e w4 ⟨rfl, hw4⟩
      have HW4 : Aside _ := hw4
      clear hw4
      go_wp2_with fail
      refine Calls.mono (f := 30) (HB.out 5 8 w4 (by decide)) ?_
      rintro e w5 ⟨rfl, hw5⟩
      have B5 : Below w3.heap.size w3 w5 := by rw [hw5, HW4.out]; unfold rowed; exact ((Below.refl _ _).alloc (Nat.le_refl _) _).alloc (by simp) _
      have F5 := FF3.out.up E B5
      have G5 : Gone S S3 w w5 := G3.out.trans (Gone.below B5)
      have ha := fl_asks E F5 ok1 (askU t) h0 h1 (by omega) (by omega)
      rw [r2, ← ENX.out] at ha
      have HA : Aside _ := ha
      have GG5 : Aside _ := G5
      clear hw5 HW4 B5 F5 G5 ha FF3 G3
      go_wp2_with fail
      refine Calls.mono (f := 29) HA.out ?_
      rintro e w6 ⟨S6, rfl, F6, s6, O6⟩
      have G6 : Aside (Gone S S6 w w6) := Gone.trans GG5.out ⟨O6, s6⟩
      have FF6 : Aside (Fl Rep w6 S6 f p now cash units (fundTo x now t)) := F6
      clear HA GG5 F6 s6 O6 ENX
      go_wp2
      go_roundg (20 - (t + 1))
      case measure => omega
      case rel => exact ⟨t + 1, S6, by go_num, by omega, by omega, Nat.le_refl _, by rw [Nat.add_sub_cancel]; exact FF6, G6⟩
    · have hltz : ¬ (t : Int) < 20 := by omega
      have et : t = 20 := by omega
      subst et
      have cat1 : ({ data := #[3, 0] } : ByteArray) ++ { data := (bytesOf 5 8).toArray } = { data := (askU 0).toArray } := cat_txt [3, 0] _
      have la2 : (askU 0).length = 10 := by simp [askU, bytesOf_length]
      go_wp2_with fail
      refine Calls.mono (f := 30) (HB.out 5 8 U0 (by decide)) ?_
      rintro e w5 ⟨rfl, hw5⟩
      have B5 : Below U0.heap.size U0 w5 := by rw [hw5]; unfold rowed; exact (Below.refl _ _).alloc (Nat.le_refl _) _
      have F5 := FA.out.up E B5
      have G5 : Gone S S1 w w5 := GA.out.trans (Gone.below B5)
      have ha := fl_asks E F5 okn (askU 0) h0 h1 (by omega) (by omega)
      have hz' : (Ex.doX (fundTo x now (20 - 1)) now (askU 0)).2 = [0] := hz
      rw [hz'] at ha
      have HA : Aside _ := ha
      have GG5 : Aside _ := G5
      clear hw5 B5 F5 G5 ha FA GA hz hz'
      go_wp2_with fail
      refine Calls.mono (f := 29) HA.out ?_
      rintro e w6 ⟨S6, rfl, F6, s6, O6⟩
      have G6 : Aside (Gone S S6 w w6) := Gone.trans GG5.out ⟨O6, s6⟩
      have FF6 : Aside (Fl Rep w6 S6 f p now cash units (fundX x now)) := F6
      clear HA GG5 F6 s6 O6
      go_wp2
      go_ret
      exact ⟨S6, rfl, FF6.out, G6.out⟩
#print axioms funded_any
end Go.Proofs.Ytjfifaooimgbaaa
/- The floor: others. -/
namespace Go.Proofs.Ytjfifaooimgbaaa
open Go.Shelf Go.RowKit Go.Lib Go.Sort

variable {Rep : World → (Nat → Prop) → Nat → Ex.Xch → Prop}

/-- the moves of the traders but 0; time stands still. -/
def isOth (m : Int × Int × Int) : Prop := 0 < pickN m.2.1 20 ∧ pickN m.1 10 ≠ 8
instance (m : Int × Int × Int) : Decidable (isOth m) := by unfold isOth; exact inferInstance
def othTo (x : Ex.Xch) (now : Int) (l : List (Int × Int × Int)) : Nat → Ex.Xch
  | 0 => x
  | n + 1 => if isOth (l.getD n (0, 0, 0)) then (Ex.doX (othTo x now l n) now (reqOf (l.getD n (0, 0, 0)).1 (l.getD n (0, 0, 0)).2.1 (l.getD n (0, 0, 0)).2.2)).1 else othTo x now l n

theorem oth_ok {x : Ex.Xch} (h : Ex.Ok x) (now : Int) (l : List (Int × Int × Int)) : ∀ n, Ex.Ok (othTo x now l n) ∧ (othTo x now l n).jr.length ≤ x.jr.length + 40 * n
  | 0 => ⟨h, by show x.jr.length ≤ _; omega⟩
  | n + 1 => by
    obtain ⟨q1, q2⟩ := oth_ok h now l n
    rw [othTo]
    split
    · rename_i ho
      have a := Ex.do_ok q1 now (reqOf (l.getD n (0, 0, 0)).1 (l.getD n (0, 0, 0)).2.1 (l.getD n (0, 0, 0)).2.2)
      have b := Ex.do_jr (othTo x now l n) now (reqOf (l.getD n (0, 0, 0)).1 (l.getD n (0, 0, 0)).2.1 (l.getD n (0, 0, 0)).2.2)
      have c := req_len (l.getD n (0, 0, 0)).1 (l.getD n (0, 0, 0)).2.1 (l.getD n (0, 0, 0)).2.2
      unfold mvReq at c
      rw [if_neg ho.2] at c
      exact ⟨a.1, by omega⟩
    · exact ⟨q1, by omega⟩

theorem Gone.with {S S' : Nat → Prop} {w w' : World} (f : Nat) (g : Gone S S' w w') : Gone (fun k => S k ∨ k = f) (fun k => S' k ∨ k = f) w w' :=
  ⟨⟨g.only.os, g.only.tape, g.only.output, g.only.size, fun k hk hn => g.only.block k hk (fun hs => hn (Or.inl hs))⟩, fun k hk => by
    rcases hk with hk | hk
    · rcases g.sub k hk with h | h
      · exact Or.inl (Or.inl h)
      · exact Or.inr h
    · exact Or.inl (Or.inr hk)⟩

theorem mv_small (K N : Int) (s : List UInt8) : -3000 ≤ mvCash K N s ∧ mvCash K N s ≤ 3000 ∧ -3000 ≤ mvUnits K N s ∧ mvUnits K N s ≤ 3000 := by
  have := pickN_lt N 3000 (by decide)
  unfold mvCash mvUnits
  refine ⟨?_, ?_, ?_, ?_⟩
  · split
    · split
      · omega
      · split <;> omega
    · omega
  · split
    · split
      · omega
      · split <;> omega
    · omega
  · split
    · split
      · omega
      · split <;> omega
    · omega
  · split
    · split
      · omega
      · split <;> omega
    · omega

set_option maxHeartbeats 2000000 in
set_option maxRecDepth 100000 in
theorem others_any (E : Exch Rep) {w : World} {S : Nat → Prop} {f p : Nat} {now cash units : Int} {x : Ex.Xch} (h : Fl Rep w S f p now cash units x) (ok : Ex.Ok x) (h0 : 0 ≤ now) (h1 : now ≤ 1152921504606846976) (hj : x.jr.length ≤ 1099011627776)
    (hc : -1000000000000 ≤ cash ∧ cash ≤ 1000000000000) (hu : -1000000000000 ≤ units ∧ units ≤ 1000000000000) (l : List (Int × Int × Int)) (a : Option Addr) (cap : Nat) (hM : MovesAt w a l) (hap : 0 < l.length → ∀ b o, a = some ⟨b, o, none⟩ → ¬ S b ∧ b ≠ f) (hw : ∀ i, i < l.length → I64 (l.getD i (0, 0, 0)).1 ∧ I64 (l.getD i (0, 0, 0)).2.1 ∧ I64 (l.getD i (0, 0, 0)).2.2) (hl : l.length ≤ 1048576) :
    Calls Try.prog 47 #[.pointer (some ⟨f, 0, none⟩), .slice a l.length cap] w fun e w' => ∃ S' cash' units', e = .returned (.tuple #[]) ∧ Fl Rep w' S' f p now cash' units' (othTo x now l l.length) ∧ Gone (fun k => S k ∨ k = f) (fun k => S' k ∨ k = f) w w' ∧ (-5000000000 + cash ≤ cash' ∧ cash' ≤ 5000000000 + cash) ∧ (-5000000000 + units ≤ units' ∧ units' ≤ 5000000000 + units) := by
  have mixed : Try.prog.follows .mixedOrders = true := by kernel_rfl
  have HP : Aside (∀ (c : Int) (n : Nat) (W : World), 0 < n → n ≤ 9007199254740992 → I64 c → Calls Try.prog 23 #[.int .i64 c, .int .i64 n] W fun e w' => e = .returned (.int .i64 (pickN c n : Nat)) ∧ w' = W) := fun c n W h1 h2 h3 => pick_any c n W h1 h2 h3.1 h3.2
  have H : Aside (Fl Rep w S f p now cash units x) := h
  have HM : Aside (MovesAt w a l) := hM
  clear h hM
  go_enter Try.func47, Try.ntmps47
  go_wp2_with fail
  go_loopg [4] l.length (fun kx s wq => ∃ (i : Nat) (S1 : Nat → Prop) (c1 u1 : Int), s = .int .i64 i ∧ i ≤ l.length ∧ l.length - i ≤ kx ∧ Aside (Fl Rep wq S1 f p now c1 u1 (othTo x now l i)) ∧ Aside (Gone (fun k => S k ∨ k = f) (fun k => S1 k ∨ k = f) w wq) ∧ (-(3000 * (i : Int)) + cash ≤ c1 ∧ c1 ≤ 3000 * i + cash) ∧ (-(3000 * (i : Int)) + units ≤ u1 ∧ u1 ≤ 3000 * i + units))
  case atStart => exact ⟨0, S, cash, units, rfl, Nat.zero_le _, by omega, H, Gone.refl _ _, by omega, by omega⟩
  case round =>
    obtain ⟨i, S1, cc, uu, rfl, hi, hkx, FA, GA, b1, b2⟩ := hrel
    obtain ⟨U0, rfl⟩ : ∃ U0, U0 = wr := ⟨_, rfl⟩
    by_cases hlt : i < l.length
    · have hltz : (i : Int) < (l.length : Int) := by omega
      obtain ⟨okn, jn⟩ := oth_ok ok now l i
      obtain ⟨i1, i2, i3⟩ := hw i hlt
      obtain ⟨g, o, rfl, hg, q1, q2, q3⟩ := HM.out i hlt
      obtain ⟨n1, n2⟩ := hap (by omega) g o rfl
      have eg : U0.heap[g]? = w.heap[g]? := GA.out.only.block g hg (fun hs => by
        rcases hs with h | h
        · exact n1 h
        · exact n2 h)
      have c1 : U0.cell? ⟨g, o + i * 3, none⟩ = _ := (World.cell?_of_block (a := ⟨g, o + i * 3, none⟩) eg).trans q1
      have c2 : U0.cell? ⟨g, o + i * 3 + 1, none⟩ = _ := (World.cell?_of_block (a := ⟨g, o + i * 3 + 1, none⟩) eg).trans q2
      have c3 : U0.cell? ⟨g, o + i * 3 + 2, none⟩ = _ := (World.cell?_of_block (a := ⟨g, o + i * 3 + 2, none⟩) eg).trans q3
      have enx1 : 0 < pickN (l.getD i (0, 0, 0)).2.1 20 ∧ pickN (l.getD i (0, 0, 0)).1 10 ≠ 8 → othTo x now l (i + 1) = (Ex.doX (othTo x now l i) now (reqOf (l.getD i (0, 0, 0)).1 (l.getD i (0, 0, 0)).2.1 (l.getD i (0, 0, 0)).2.2)).1 := fun hc => by
        rw [othTo, if_pos (show isOth (l.getD i (0, 0, 0)) from hc)]
      have enx2 : ¬ (0 < pickN (l.getD i (0, 0, 0)).2.1 20 ∧ pickN (l.getD i (0, 0, 0)).1 10 ≠ 8) → othTo x now l (i + 1) = othTo x now l i := fun hc => by
        rw [othTo, if_neg (show ¬ isOth (l.getD i (0, 0, 0)) from hc)]
      generalize (l.getD i (0, 0, 0)).1 = K at *
      generalize (l.getD i (0, 0, 0)).2.1 = Wh at *
      generalize (l.getD i (0, 0, 0)).2.2 = N at *
      clear q1 q2 q3 eg
      obtain ⟨kw, hkw⟩ : ∃ k, pickN Wh 20 = k := ⟨_, rfl⟩
      obtain ⟨kk, hkk⟩ : ∃ k, pickN K 10 = k := ⟨_, rfl⟩
      have HPW : Aside (∀ W, Calls Try.prog 23 #[.int .i64 Wh, .int .i64 20] W fun e w' => e = .returned (.int .i64 (kw : Nat)) ∧ w' = W) := fun W => by
        have := HP.out Wh 20 W (by decide) (by decide) i2
        rw [hkw] at this
        exact this
      have HPKk : Aside (∀ W, Calls Try.prog 23 #[.int .i64 K, .int .i64 10] W fun e w' => e = .returned (.int .i64 (kk : Nat)) ∧ w' = W) := fun W => by
        have := HP.out K 10 W (by decide) (by decide) i1
        rw [hkk] at this
        exact this
      have HKK : Aside (pickN K 10 = kk) := hkk
      rw [hkw, hkk] at enx1 enx2
      have E1 : Aside _ := enx1
      have E2 : Aside _ := enx2
      clear enx1 enx2 hkw hkk
      go_wp2_with fail
      refine Calls.mono (f := 23) (HPW.out _) ?_
      rintro e w1 ⟨rfl, hw1⟩
      rw [hw1]
      clear hw1 w1
      by_cases hkw0 : 0 < kw
      · have d1 : (0 : Int) < (kw : Int) := by omega
        go_wp2_with fail
        refine Calls.mono (f := 23) (HPKk.out _) ?_
        rintro e w1 ⟨rfl, hw1⟩
        rw [hw1]
        clear hw1 w1
        by_cases hk8 : kk = 8
        · have d2 : ((kk : Int) == 8) = true := by rw [hk8]; rfl
          have e2 := E2.out (fun hc => hc.2 hk8)
          have EE : Aside _ := e2
          clear e2 E1 E2
          go_wp2
          go_roundg (l.length - (i + 1))
          case measure => omega
          case rel => exact ⟨i + 1, S1, cc, uu, by go_num, by omega, Nat.le_refl _, by rw [EE.out]; exact FA, GA, by omega, by omega⟩
        · have d2 : ((kk : Int) == 8) = false := beq_eq_false_iff_ne.2 (by omega)
          have e1 := E1.out ⟨hkw0, hk8⟩
          have EE : Aside _ := e1
          have hmv := moves_any E FA.out.rep okn f now cc uu FA.out.fl FA.out.no K Wh N i1 i2 i3 h0 h1 (by omega) (by omega) (by omega)
          have em : mvNow now K N = now := by unfold mvNow; rw [HKK.out, if_neg hk8]
          have er : mvReq K Wh N = reqOf K Wh N := by unfold mvReq; rw [HKK.out, if_neg hk8]
          rw [em, er, ← e1] at hmv
          have HMV : Aside _ := hmv
          have hfU := FA.out.fl.lt
          have nof := FA.out.no
          clear e1 E1 E2 em er hmv
          go_wp2_with fail
          refine Calls.mono (f := 27) HMV.out ?_
          rintro e w2 ⟨S2, s2, x2, ex, rfl, F2, R2, t2, O2⟩
          injection ex with ex1 ex2
          have sm := mv_small K N s2
          have FF : Aside (Fl Rep w2 S2 f p now (cc + mvCash K N s2) (uu + mvUnits K N s2) (othTo x now l (i + 1))) := ⟨F2, by rw [← ex1]; exact R2, fun hs => by
            rcases t2 f hs with h | h
            · exact nof h
            · omega⟩
          have G2 : Aside (Gone (fun k => S k ∨ k = f) (fun k => S2 k ∨ k = f) w w2) := GA.out.trans ⟨O2, fun k hk => by
            rcases hk with hk | hk
            · rcases t2 k hk with h | h
              · exact Or.inl (Or.inl h)
              · exact Or.inr h
            · exact Or.inl (Or.inr hk)⟩
          clear ex1 ex2 F2 R2 t2 O2 HMV FA GA
          unfold txt
          go_wp2
          go_roundg (l.length - (i + 1))
          case measure => omega
          case rel => exact ⟨i + 1, S2, _, _, by go_num, by omega, Nat.le_refl _, FF, G2, by omega, by omega⟩
      · have d1 : ¬ (0 : Int) < (kw : Int) := by omega
        have e2 := E2.out (fun hc => hkw0 hc.1)
        have EE : Aside _ := e2
        clear e2 E1 E2
        go_wp2
        go_roundg (l.length - (i + 1))
        case measure => omega
        case rel => exact ⟨i + 1, S1, cc, uu, by go_num, by omega, Nat.le_refl _, by rw [EE.out]; exact FA, GA, by omega, by omega⟩
    · have hltz : ¬ (i : Int) < (l.length : Int) := by omega
      obtain rfl : i = l.length := by omega
      go_wp2
      go_end0
      exact ⟨rfl, S1, cc, uu, FA.out, GA.out, by omega, by omega⟩
#print axioms others_any
end Go.Proofs.Ytjfifaooimgbaaa
/- The floor: plays. -/
namespace Go.Proofs.Ytjfifaooimgbaaa
open Go.Shelf Go.RowKit Go.Lib Go.Sort

variable {Rep : World → (Nat → Prop) → Nat → Ex.Xch → Prop}

def begun0 : Ex.Xch := begunX 100 20
def fund0 : Ex.Xch := fundX begun0 0
theorem begun0_ok : Ex.Ok begun0 ∧ Ex.Still begun0 0 := begun_ok (by decide) (by decide)
theorem fund_resp : (∀ n, n < 19 → (Ex.doX (fundTo begun0 0 n) 0 (askC (n + 1))).2 = [0] ∧ (Ex.doX (Ex.doX (fundTo begun0 0 n) 0 (askC (n + 1))).1 0 (askU (n + 1))).2 = [0]) ∧ (Ex.doX (fundTo begun0 0 19) 0 (askU 0)).2 = [0] := by
  refine ⟨?_, by decide +kernel⟩
  have : ∀ n : Fin 19, (Ex.doX (fundTo begun0 0 n.1) 0 (askC (n.1 + 1))).2 = [0] ∧ (Ex.doX (Ex.doX (fundTo begun0 0 n.1) 0 (askC (n.1 + 1))).1 0 (askU (n.1 + 1))).2 = [0] := by decide +kernel
  exact fun n hn => this ⟨n, hn⟩
theorem fund0_ok : Ex.Ok fund0 ∧ fund0.jr.length ≤ 2000 := by
  obtain ⟨q1, q2⟩ := fundTo_ok begun0_ok.1 0 19
  have a := Ex.do_ok q1 0 (askU 0)
  have b := Ex.do_jr (fundTo begun0 0 19) 0 (askU 0)
  have c : begun0.jr.length ≤ 30 := by
    show (Ex.record 0 (1 :: 0 :: bytesOf 1000 8)).length ≤ 30
    rw [Ex.record_length]; simp [bytesOf_length]
  have l2 : (askU 0).length = 10 := by simp [askU, bytesOf_length]
  refine ⟨a.1, ?_⟩
  show (Ex.doX (fundTo begun0 0 19) 0 (askU 0)).1.jr.length ≤ _
  omega

/-- what the trader 0 asks for. -/
def askO (side price : Nat) : List UInt8 := 5 :: 0 :: (bytesOf side 1 ++ bytesOf price 2)
def playA (ahead : List (Int × Int × Int)) : Ex.Xch := othTo fund0 0 ahead ahead.length
def playB (ahead : List (Int × Int × Int)) (side price : Nat) : Ex.Xch := (Ex.doX (playA ahead) 0 (askO side price)).1
def playC (ahead behind : List (Int × Int × Int)) (side price : Nat) : Ex.Xch := othTo (playB ahead side price) 0 behind behind.length
def playD (ahead behind : List (Int × Int × Int)) (side price : Nat) : Ex.Xch := (Ex.doX (playC ahead behind side price) 1000 [8]).1
def playGain (ahead behind : List (Int × Int × Int)) (side price : Nat) (v : Int) : Int :=
  if (playD ahead behind side price).traded 0 = true then (if side = 1 then -(v - (playD ahead behind side price).paid 0) else v - (playD ahead behind side price).paid 0) else 0
def playTold (ahead : List (Int × Int × Int)) (side price : Nat) : Bool := (Ex.doX (playA ahead) 0 (askO side price)).2.getD 0 1 == 0

theorem answer_ne (x : Ex.Xch) (r : List UInt8) : ∃ c rest, (Ex.answerX x r).2 = c :: rest := by
  unfold Ex.answerX
  dsimp only
  split
  · exact ⟨_, _, rfl⟩
  · generalize (if Ex.longOf (r.getD 0 0).toNat = 1 then 0 else (r.getD 1 0).toNat) = t
    split
    · exact ⟨_, _, rfl⟩
    · split
      · unfold Ex.movesX
        dsimp only
        split
        · exact ⟨_, _, rfl⟩
        · split
          · exact ⟨_, _, rfl⟩
          · split <;> exact ⟨_, _, rfl⟩
      · split
        · unfold Ex.ordersX
          dsimp only
          split
          · exact ⟨_, _, rfl⟩
          · split
            · exact ⟨_, _, rfl⟩
            · split
              · exact ⟨_, _, rfl⟩
              · split
                · exact ⟨_, _, rfl⟩
                · split <;> exact ⟨_, _, rfl⟩
        · split
          · unfold Ex.cancelX
            split <;> exact ⟨_, _, rfl⟩
          · unfold Ex.tellsX
            split
            · exact ⟨_, _, rfl⟩
            · split
              · exact ⟨_, _, rfl⟩
              · split
                · split <;> exact ⟨_, _, rfl⟩
                · exact ⟨_, _, rfl⟩

theorem play_ok (ahead behind : List (Int × Int × Int)) (side price : Nat) (ha : ahead.length ≤ 1048576) (hb : behind.length ≤ 1048576) :
    (Ex.Ok (playA ahead) ∧ (playA ahead).jr.length ≤ 100000000) ∧ (Ex.Ok (playB ahead side price) ∧ (playB ahead side price).jr.length ≤ 100001000) ∧ (Ex.Ok (playC ahead behind side price) ∧ (playC ahead behind side price).jr.length ≤ 200001000) ∧ (Ex.Ok (playD ahead behind side price) ∧ (playD ahead behind side price).jr.length ≤ 200002000) := by
  obtain ⟨f1, f2⟩ := fund0_ok
  obtain ⟨a1, a2⟩ := oth_ok f1 0 ahead ahead.length
  have b1 := Ex.do_ok a1 0 (askO side price)
  have b2 := Ex.do_jr (othTo fund0 0 ahead ahead.length) 0 (askO side price)
  have l2 : (askO side price).length = 5 := by simp [askO, bytesOf_length]
  obtain ⟨c1, c2⟩ := oth_ok (x := playB ahead side price) b1.1 0 behind behind.length
  have d1 := Ex.do_ok c1 1000 [8]
  have d2 := Ex.do_jr (othTo (playB ahead side price) 0 behind behind.length) 1000 [8]
  have e1 : (playB ahead side price).jr.length ≤ (othTo fund0 0 ahead ahead.length).jr.length + 25 := by
    show (Ex.doX (othTo fund0 0 ahead ahead.length) 0 (askO side price)).1.jr.length ≤ _
    omega
  have e2 : (playD ahead behind side price).jr.length ≤ (othTo (playB ahead side price) 0 behind behind.length).jr.length + 21 := by
    show (Ex.doX (othTo (playB ahead side price) 0 behind behind.length) 1000 [8]).1.jr.length ≤ _
    simp only [List.length_singleton] at d2
    omega
  refine ⟨⟨a1, ?_⟩, ⟨b1.1, ?_⟩, ⟨c1, ?_⟩, ⟨d1.1, ?_⟩⟩
  · show (othTo fund0 0 ahead ahead.length).jr.length ≤ _
    omega
  · omega
  · show (othTo (playB ahead side price) 0 behind behind.length).jr.length ≤ _
    omega
  · omega
end Go.Proofs.Ytjfifaooimgbaaa
