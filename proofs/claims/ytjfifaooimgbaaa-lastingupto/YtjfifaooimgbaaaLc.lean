import Derived.Test.YtjfifaooimgbaaaRo
import Derived.Test.YtjfifaooimgbaaaXc
import Derived.Test.YtjfifaooimgbaaaOj
import Derived.Test.YtjfifaooimgbaaaAp
/- The program's journal. -/
namespace Go.Proofs.Ytjfifaooimgbaaa
open Go.Shelf Go.RowKit Go.Lib Go.Sort

set_option maxHeartbeats 1000000 in
set_option maxRecDepth 100000 in
theorem journalM_any (w : World) (m : Nat) (s : MkS) (x : Ex.Xch) (hK : Mkt w m s x) : Calls Try.prog 50 #[.pointer (some ⟨m, 0, none⟩)] w fun e w' => e = .returned (.string ⟨x.jr.toArray⟩) ∧ w' = w := by
  have c13 := hK.at_.all.c13
  have hj := hK.jrn
  clear hK
  rcases hj.2 with ⟨e, h2⟩ | ⟨g, cap, cur, e, a1, a2, a3, a4⟩
  · have ej : x.jr = [] := List.eq_nil_of_length_eq_zero h2
    rw [e] at c13
    rw [ej]
    have hcv : (convert 98 9 (.slice none 0 0)).run Try.prog w = .ok (.string ⟨#[]⟩) w := by
      rw [run_convert_bytes_string (P := Try.prog) w 98 9 5 none 0 0 Try.underlying98 Try.underlying5 Try.underlying9]
      rfl
    clear hj e h2 ej
    go_enter Try.func50, Try.ntmps50
    go_wp2
    go_ret
    exact ⟨rfl, rfl⟩
  · rw [e] at c13 hj
    have hcv := run_convert_bytes_back (P := Try.prog) w 98 9 5 ⟨g, 0, none⟩ cap x.jr Try.underlying98 Try.underlying5 Try.underlying9 (fun j hj' => by
      have := World.ownsRow.cells hj (g := g) rfl j (.int .u8 (x.jr[j]).toNat) (by unfold bcs; rw [List.getElem?_map, List.getElem?_eq_getElem hj']; rfl)
      exact this)
    clear hj e a1 a2 a3 a4
    go_enter Try.func50, Try.ntmps50
    go_wp2
    go_ret
    exact ⟨rfl, rfl⟩

set_option maxHeartbeats 1000000 in
set_option maxRecDepth 100000 in
theorem journalX_any (w : World) (S : Nat → Prop) (p : Nat) (x : Ex.Xch) (hR : RepX w S p x) : Calls Try.prog 37 #[.pointer (some ⟨p, 0, none⟩)] w fun e w' => e = .returned (.tuple #[.string ⟨x.jr.toArray⟩, .int .i64 0]) ∧ w' = w := by
  obtain ⟨m, s, bx, gx, hp, hK, _, _, _, _⟩ := hR
  have HM : Aside _ := journalM_any w m s x hK
  have c0 : w.cell? ⟨p, 0, none⟩ = some (.pointer (some ⟨m, 0, none⟩)) := by simp [World.cell?, hp]
  clear hp hK
  go_enter Try.func37, Try.ntmps37
  go_wp2_with fail
  refine Calls.mono (f := 50) HM.out ?_
  rintro e w1 ⟨rfl, hw1⟩
  rw [hw1]
  clear hw1
  go_wp2
  go_ret2
  exact ⟨rfl, rfl⟩
#print axioms journalX_any
end Go.Proofs.Ytjfifaooimgbaaa
/- All that is told of an exchange. -/
namespace Go.Proofs.Ytjfifaooimgbaaa
open Go.Shelf Go.RowKit Go.Lib Go.Sort
variable {Rep : World → (Nat → Prop) → Nat → Ex.Xch → Prop}

/-- what is shown of the first t traders. -/
def shownTo (x : Ex.Xch) : Nat → List UInt8
  | 0 => Ex.tellsX x 8 0 ++ Ex.tellsX x 10 0
  | t + 1 => shownTo x t ++ Ex.tellsX x 7 t ++ Ex.tellsX x 9 t
def shownX (x : Ex.Xch) : List UInt8 := shownTo x 20
theorem shown_at (x : Ex.Xch) (t : Int) : ∀ n, shownTo { x with time := t } n = shownTo x n
  | 0 => rfl
  | n + 1 => by rw [shownTo, shownTo, shown_at x t n]; rfl
theorem tells_lenS (x : Ex.Xch) (k t : Nat) : (Ex.tellsX x k t).length ≤ 40 := by
  unfold Ex.tellsX
  split
  · simp [bytesOf_length]
  · split
    · simp [bytesOf_length]
    · split
      · split <;> simp [bytesOf_length]
      · simp [bytesOf_length]
theorem shown_len (x : Ex.Xch) : ∀ n, (shownTo x n).length ≤ 80 + 80 * n
  | 0 => by
    have h1 := tells_lenS x 8 0
    have h2 := tells_lenS x 10 0
    rw [shownTo, List.length_append]; omega
  | n + 1 => by
    have h1 := tells_lenS x 7 n
    have h2 := tells_lenS x 9 n
    have h3 := shown_len x n
    rw [shownTo, List.length_append, List.length_append]; omega

/-- a question. -/
theorem fl_tell (E : Exch Rep) {w : World} {S : Nat → Prop} {f p : Nat} {now cash units : Int} {x : Ex.Xch} (h : Fl Rep w S f p now cash units x) (ok : Ex.Ok x) (st : Ex.Still x now) (h0 : 0 ≤ now) (h1 : now ≤ 9223372036854775807) (hj : x.jr.length ≤ 1099511627776) {k : UInt8} (hk : 7 ≤ k.toNat ∧ k.toNat ≤ 10) (t : Nat) (ht : t < 20) (r : List UInt8) (hr : r = if Ex.longOf k.toNat = 1 then [k] else [k, UInt8.ofNat t]) :
    Calls Try.prog 29 #[.pointer (some ⟨f, 0, none⟩), .string ⟨r.toArray⟩] w fun e w' => ∃ S', e = .returned (.string ⟨(Ex.tellsX x k.toNat (if Ex.longOf k.toNat = 1 then 0 else t)).toArray⟩) ∧ Fl Rep w' S' f p now cash units x ∧ Gone S S' w w' := by
  have tl := Ex.tell st hk t ht r hr
  have hl : r.length ≤ 1000 := by rw [hr]; split <;> simp
  refine Calls.mono (f := 29) (fl_asks E h ok r h0 h1 hj hl) ?_
  rintro e w' ⟨S', q1, q2, q3, q4⟩
  rw [tl] at q1 q2
  exact ⟨S', q1, q2, ⟨q4, q3⟩⟩

set_option maxHeartbeats 4000000 in
set_option maxRecDepth 100000 in
theorem shown_any (E : Exch Rep) {w : World} {S : Nat → Prop} {f p : Nat} {now cash units : Int} {x : Ex.Xch} (h : Fl Rep w S f p now cash units x) (ok : Ex.Ok x) (st : Ex.Still x now) (h0 : 0 ≤ now) (h1 : now ≤ 9223372036854775807) (hj : x.jr.length ≤ 1099511627776) :
    Calls Try.prog 38 #[.pointer (some ⟨f, 0, none⟩)] w fun e w' => ∃ S', e = .returned (.string ⟨(shownX x).toArray⟩) ∧ Fl Rep w' S' f p now cash units x ∧ Gone S S' w w' := by
  have mixed : Try.prog.follows .mixedOrders = true := by kernel_rfl
  have HB : Aside (∀ (n m : Nat) W, m ≤ 1000 → Calls Try.prog 30 #[.int .i64 n, .int .i64 m] W fun e w' => e = .returned (.string ⟨(bytesOf n m).toArray⟩) ∧ w' = rowed W (bytesOf n m)) := fun n m W hm => bytesK_any n m W hm
  have HT : Aside (∀ (W : World) (S : Nat → Prop), Fl Rep W S f p now cash units x → ∀ (k : UInt8), 7 ≤ k.toNat ∧ k.toNat ≤ 10 → ∀ (t : Nat), t < 20 → ∀ r, r = (if Ex.longOf k.toNat = 1 then [k] else [k, UInt8.ofNat t]) → Calls Try.prog 29 #[.pointer (some ⟨f, 0, none⟩), .string ⟨r.toArray⟩] W fun e w' => ∃ S', e = .returned (.string ⟨(Ex.tellsX x k.toNat (if Ex.longOf k.toNat = 1 then 0 else t)).toArray⟩) ∧ Fl Rep w' S' f p now cash units x ∧ Gone S S' W w') := fun W S h k hk t ht r hr => fl_tell E h ok st h0 h1 hj hk t ht r hr
  have H8 : Aside (Calls Try.prog 29 #[.pointer (some ⟨f, 0, none⟩), .string ⟨#[8]⟩] w fun e w' => ∃ S', e = .returned (.string ⟨(Ex.tellsX x 8 0).toArray⟩) ∧ Fl Rep w' S' f p now cash units x ∧ Gone S S' w w') := HT.out w S h 8 (by decide) 0 (by decide) [8] rfl
  clear h
  go_enter Try.func38, Try.ntmps38
  go_wp2_with fail
  refine Calls.mono (f := 29) H8.out ?_
  rintro e w1 ⟨S1, rfl, F1, G1⟩
  have H10 : Aside (Calls Try.prog 29 #[.pointer (some ⟨f, 0, none⟩), .string ⟨#[10]⟩] w1 fun e w' => ∃ S', e = .returned (.string ⟨(Ex.tellsX x 10 0).toArray⟩) ∧ Fl Rep w' S' f p now cash units x ∧ Gone S1 S' w1 w') := HT.out w1 S1 F1 10 (by decide) 0 (by decide) [10] rfl
  have GG1 : Aside _ := G1
  clear F1 G1 H8
  have l8 := tells_lenS x 8 0
  have l10 := tells_lenS x 10 0
  have c0 : ({ data := (Ex.tellsX x 8 0).toArray } : ByteArray) ++ { data := (Ex.tellsX x 10 0).toArray } = { data := (shownTo x 0).toArray } := cat_txt _ _
  go_wp2_with fail
  refine Calls.mono (f := 29) H10.out ?_
  rintro e w2 ⟨S2, rfl, F2, G2⟩
  have FF2 : Aside _ := F2
  have GG2 : Aside (Gone S S2 w w2) := Gone.trans GG1.out G2
  clear F2 G2 GG1 H10
  go_wp2_with fail
  go_loopg [3, 4] 20 (fun kx s u wq => ∃ (t : Nat) (S1 : Nat → Prop), s = .string ⟨(shownTo x t).toArray⟩ ∧ u = .int .i64 t ∧ t ≤ 20 ∧ 20 - t ≤ kx ∧ Aside (Fl Rep wq S1 f p now cash units x) ∧ Aside (Gone S S1 w wq))
  case atStart => exact ⟨0, S2, rfl, rfl, by omega, by omega, FF2, GG2⟩
  case round =>
    obtain ⟨t, S3, rfl, rfl, ht, hkx, FA, GA⟩ := hrel
    obtain ⟨U0, rfl⟩ : ∃ U0, U0 = wr := ⟨_, rfl⟩
    by_cases hlt : t < 20
    · have hltz : (t : Int) < 20 := by omega
      have eb : bytesOf t 1 = [UInt8.ofNat t] := by
        show [UInt8.ofNat (t / 256 ^ 0)] = _
        rw [Nat.pow_zero, Nat.div_one]
      have hb1 := HB.out t 1
      rw [eb] at hb1
      have HB1 : Aside _ := hb1
      clear hb1 eb
      have l7 := tells_lenS x 7 t
      have l9 := tells_lenS x 9 t
      have ls := shown_len x t
      have lst : (shownTo x t ++ Ex.tellsX x 7 t).length ≤ 3000 := by rw [List.length_append]; omega
      have cat1 : ({ data := #[7] } : ByteArray) ++ { data := [UInt8.ofNat t].toArray } = { data := [7, UInt8.ofNat t].toArray } := cat_txt [7] _
      have cat2 : ({ data := #[9] } : ByteArray) ++ { data := [UInt8.ofNat t].toArray } = { data := [9, UInt8.ofNat t].toArray } := cat_txt [9] _
      have cat3 : ({ data := (shownTo x t).toArray } : ByteArray) ++ { data := (Ex.tellsX x 7 t).toArray } = { data := (shownTo x t ++ Ex.tellsX x 7 t).toArray } := cat_txt _ _
      have cat4 : ({ data := (shownTo x t ++ Ex.tellsX x 7 t).toArray } : ByteArray) ++ { data := (Ex.tellsX x 9 t).toArray } = { data := (shownTo x (t + 1)).toArray } := cat_txt _ _
      go_wp2_with fail
      refine Calls.mono (f := 30) (HB1.out U0 (by decide)) ?_
      rintro e w3 ⟨rfl, hw3⟩
      have B3 : Below U0.heap.size U0 w3 := by rw [hw3]; unfold rowed; exact (Below.refl _ _).alloc (Nat.le_refl _) _
      have F3 : Fl Rep w3 S3 f p now cash units x := FA.out.up E B3
      have G3 : Aside (Gone S S3 w w3) := GA.out.trans (Gone.below B3)
      have H7 : Aside (Calls Try.prog 29 #[.pointer (some ⟨f, 0, none⟩), .string ⟨[7, UInt8.ofNat t].toArray⟩] w3 fun e w' => ∃ S', e = .returned (.string ⟨(Ex.tellsX x 7 t).toArray⟩) ∧ Fl Rep w' S' f p now cash units x ∧ Gone S3 S' w3 w') := HT.out w3 S3 F3 7 (by decide) t hlt [7, UInt8.ofNat t] rfl
      clear hw3 B3 F3 FA GA
      go_wp2_with fail
      refine Calls.mono (f := 29) H7.out ?_
      rintro e w4 ⟨S4, rfl, F4, g4⟩
      have FF4 : Aside _ := F4
      have G4 : Aside (Gone S S4 w w4) := Gone.trans G3.out g4
      clear F4 g4 G3 H7
      go_wp2_with fail
      refine Calls.mono (f := 30) (HB1.out w4 (by decide)) ?_
      rintro e w5 ⟨rfl, hw5⟩
      have B5 : Below w4.heap.size w4 w5 := by rw [hw5]; unfold rowed; exact (Below.refl _ _).alloc (Nat.le_refl _) _
      have F5 : Fl Rep w5 S4 f p now cash units x := FF4.out.up E B5
      have G5 : Aside (Gone S S4 w w5) := G4.out.trans (Gone.below B5)
      have H9 : Aside (Calls Try.prog 29 #[.pointer (some ⟨f, 0, none⟩), .string ⟨[9, UInt8.ofNat t].toArray⟩] w5 fun e w' => ∃ S', e = .returned (.string ⟨(Ex.tellsX x 9 t).toArray⟩) ∧ Fl Rep w' S' f p now cash units x ∧ Gone S4 S' w5 w') := HT.out w5 S4 F5 9 (by decide) t hlt [9, UInt8.ofNat t] rfl
      clear hw5 B5 F5 FF4 G4
      go_wp2_with fail
      refine Calls.mono (f := 29) H9.out ?_
      rintro e w6 ⟨S6, rfl, F6, g6⟩
      have FF6 : Aside _ := F6
      have G6 : Aside (Gone S S6 w w6) := Gone.trans G5.out g6
      clear F6 g6 G5 H9
      go_wp2
      go_roundg (20 - (t + 1))
      case measure => omega
      case rel => exact ⟨t + 1, S6, rfl, by go_num, by omega, Nat.le_refl _, FF6, G6⟩
    · have hltz : ¬ (t : Int) < 20 := by omega
      obtain rfl : t = 20 := by omega
      go_wp2
      go_ret
      first | exact ⟨S3, rfl, FA.out, GA.out⟩ | exact ⟨rfl, S3, FA.out, GA.out⟩
end Go.Proofs.Ytjfifaooimgbaaa
/- Lasting, without a program. -/
namespace Go.Proofs.Ytjfifaooimgbaaa
open Go.Shelf Go.RowKit Go.Lib Go.Sort

/-- what the moves come to: the exchange, and the time. -/
def runX (P C : Int) (l : List (Int × Int × Int)) : Nat → Ex.Xch × Int
  | 0 => (begunX P C, 0)
  | i + 1 => ((Ex.doX (runX P C l i).1 (mvNow (runX P C l i).2 (l.getD i (0, 0, 0)).1 (l.getD i (0, 0, 0)).2.2) (mvReq (l.getD i (0, 0, 0)).1 (l.getD i (0, 0, 0)).2.1 (l.getD i (0, 0, 0)).2.2)).1, mvNow (runX P C l i).2 (l.getD i (0, 0, 0)).1 (l.getD i (0, 0, 0)).2.2)

structure RunOk (P C : Int) (x : Ex.Xch) (now : Int) (i : Nat) : Prop where
  ok : Ex.Ok x
  las : Ex.Lasts (Ex.openX P C) x
  st : Ex.Still x now
  time : x.time ≤ now
  now0 : 0 ≤ now
  now1 : now ≤ 60 * i
  jr : x.jr.length ≤ 30 + 40 * i

theorem mvNow_bd (now K N : Int) : now ≤ mvNow now K N ∧ mvNow now K N ≤ now + 60 := by
  unfold mvNow
  have := pickN_lt N 60 (by decide)
  split <;> omega
theorem do_time {x : Ex.Xch} (now : Int) (r : List UInt8) (h : x.time ≤ now) : (Ex.doX x now r).1.time ≤ now := by
  have w := Ex.written_time (Ex.answerX (Ex.cleared (Ex.timed x now)) r).1 r (Ex.answerX (Ex.cleared (Ex.timed x now)) r).2
  have a := Ex.answer_time (Ex.cleared (Ex.timed x now)) r
  have c : (Ex.cleared (Ex.timed x now)).time = (Ex.timed x now).time := by
    unfold Ex.cleared
    split <;> rfl
  show (Ex.written _ _ _).time ≤ now
  rw [w.1, a.1, c]
  show (if x.time < (if 1125899906842624 < now then 1125899906842624 else now) then (if 1125899906842624 < now then 1125899906842624 else now) else x.time) ≤ now
  by_cases q : 1125899906842624 < now
  · rw [if_pos q]; split <;> omega
  · rw [if_neg q]; split <;> omega
theorem runOk_step {P C : Int} {x : Ex.Xch} {now : Int} {i : Nat} (h : RunOk P C x now i) (K W N : Int) : RunOk P C (Ex.doX x (mvNow now K N) (mvReq K W N)).1 (mvNow now K N) (i + 1) := by
  have b := mvNow_bd now K N
  have rl := req_len K W N
  have dj := Ex.do_jr x (mvNow now K N) (mvReq K W N)
  have j := h.jr
  have n1 := h.now1
  have n0 := h.now0
  exact ⟨(Ex.do_ok h.ok _ _).1, h.las.do_ h.ok rfl _ _, Ex.do_still h.ok _ _, do_time _ _ (by have := h.time; omega), by omega, by omega, by omega⟩
theorem begun_run {P C : Int} (h1 : 1 ≤ P ∧ P ≤ 1125899906842624) (h2 : 1 ≤ C ∧ C ≤ 20) : RunOk P C (begunX P C) 0 0 := by
  obtain ⟨ok, st⟩ := begun_ok h1 h2
  refine ⟨ok, ?_, st, Int.le_refl _, Int.le_refl _, Int.le_refl _, ?_⟩
  · have l0 : Ex.Lasts (Ex.openX P C) (Ex.openX P C) := Ex.Lasts.begin rfl (by show (0 : Int) < P; omega) (by show (0 : Int) ≤ _; decide)
    have := l0.do_ (Ex.open_ok h1 h2) rfl 0 (1 :: 0 :: bytesOf 1000 8)
    rw [begun_do h1.1] at this
    exact this
  · show (Ex.record 0 (1 :: 0 :: bytesOf 1000 8)).length ≤ 30 + 40 * 0
    rw [Ex.record_length]; simp [bytesOf_length]
theorem runX_ok {P C : Int} (h1 : 1 ≤ P ∧ P ≤ 1125899906842624) (h2 : 1 ≤ C ∧ C ≤ 20) (l : List (Int × Int × Int)) : ∀ i, RunOk P C (runX P C l i).1 (runX P C l i).2 i
  | 0 => begun_run h1 h2
  | i + 1 => runOk_step (runX_ok h1 h2 l i) _ _ _
/-- journals grow. -/
theorem runX_prefix (P C : Int) (l : List (Int × Int × Int)) (i : Nat) : ∀ d, ∃ q, (runX P C l (i + d)).1.jr = (runX P C l i).1.jr ++ q
  | 0 => ⟨[], (List.append_nil _).symm⟩
  | d + 1 => by
    obtain ⟨q, hq⟩ := runX_prefix P C l i d
    obtain ⟨q2, hq2⟩ := Ex.do_prefix (runX P C l (i + d)).1 (mvNow (runX P C l (i + d)).2 (l.getD (i + d) (0, 0, 0)).1 (l.getD (i + d) (0, 0, 0)).2.2) (mvReq (l.getD (i + d) (0, 0, 0)).1 (l.getD (i + d) (0, 0, 0)).2.1 (l.getD (i + d) (0, 0, 0)).2.2)
    refine ⟨q ++ q2, Eq.trans (show (runX P C l (i + d + 1)).1.jr = (runX P C l (i + d)).1.jr ++ q2 from hq2) ?_⟩
    rw [hq, List.append_assoc]

theorem openX_jr (P C : Int) : (Ex.openX P C).jr = [] := rfl
/-- of a journal that is cut: what is read, and how much is left out. -/
theorem cut_read {x0 x : Ex.Xch} (h0 : x0.jr = []) (L : Ex.Lasts x0 x) (k : Nat) (hk : k ≤ x.jr.length) :
    ∃ b, b ≤ k ∧ k < b + 20 ∧ (Ex.openJ x0 (x.jr.take k)).jr = x.jr.take b ∧ Ex.openJ x0 (x.jr.take b) = Ex.openJ x0 (x.jr.take k) := by
  obtain ⟨b, b1, b2, b3⟩ := Ex.openJ_cut _ x0 (x.jr.take k) (Nat.le_refl _)
  rw [List.length_take] at b1
  rw [h0, List.nil_append, List.take_take, Nat.min_eq_left (by omega)] at b2
  have e := b3 b (Nat.le_refl _)
  rw [List.take_take, Nat.min_eq_left (by omega)] at e
  have g := Ex.openJ_gap _ x0 x.jr (Nat.le_refl _) (by rw [h0, L.jr]; rfl) k hk
  rw [h0, b2, List.length_take] at g
  simp only [List.length_nil] at g
  exact ⟨b, by omega, by omega, b2, e⟩
/-- what is shown of an exchange that came of its journal. -/
theorem shown_last {x0 x : Ex.Xch} (L : Ex.Lasts x0 x) : shownX (Ex.openJ x0 x.jr) = shownX x := by
  have h := L.same
  have := shown_at (Ex.openJ x0 x.jr) x.time 20
  unfold shownX
  rw [← this, h]
theorem still_open {x0 : Ex.Xch} (ok : Ex.Ok x0) (h : x0.time < x0.fin) (s : List UInt8) : Ex.Still (Ex.openJ x0 s) 0 := by
  have k : Ex.Ok (Ex.openJ x0 s) := Ex.openJ_ok ok s
  refine ⟨?_, by have := k.time; rw [if_neg (by decide)]; omega⟩
  have key : ∀ (n : Nat) (x : Ex.Xch) (s : List UInt8), s.length ≤ n → Ex.Ok x → x.time < x.fin → (Ex.openJ x s).time < (Ex.openJ x s).fin := by
    intro n
    induction n with
    | zero =>
      intro x s hs _ hx
      have e : s = [] := List.eq_nil_of_length_eq_zero (by omega)
      subst e
      exact hx
    | succ n ih =>
      intro x s hs ok hx
      cases hr : Ex.readJ x s with
      | none => rw [Ex.openJ_none hr]; exact hx
      | some y =>
        obtain ⟨a, b, c, d⟩ := Ex.readJ_some hr
        rw [Ex.openJ_some hr]
        refine ih y _ (by rw [List.length_drop]; have := a.1; omega) (by rw [← c]; exact (Ex.do_ok ok _ _).1) ?_
        rw [← c]
        exact (Ex.do_still ok _ _).fin
  exact key _ x0 s (Nat.le_refl _) ok h
/-- two exchanges that differ in the time alone do the same at a later one. -/
theorem do_same {x y : Ex.Xch} (h : { y with time := x.time } = x) (now : Int) (hx : x.time ≤ (if 1125899906842624 < now then 1125899906842624 else now)) (hy : y.time ≤ (if 1125899906842624 < now then 1125899906842624 else now)) (r : List UInt8) : Ex.doX y now r = Ex.doX x now r := by
  have e : Ex.timed y now = Ex.timed x now := by
    unfold Ex.timed
    dsimp only
    generalize (if 1125899906842624 < now then 1125899906842624 else now) = n at hx hy ⊢
    have ey : (if y.time < n then n else y.time) = n := by split <;> omega
    have ex : (if x.time < n then n else x.time) = n := by split <;> omega
    rw [ey, ex, ← h]
  unfold Ex.doX
  rw [e]
end Go.Proofs.Ytjfifaooimgbaaa
/- Rows of numbers, and of texts. -/
namespace Go.Proofs.Ytjfifaooimgbaaa
open Go.Shelf Go.RowKit Go.Lib Go.Sort

def ivs (l : List Nat) : List Value := l.map (fun n => Value.int .i64 ((n : Nat) : Int))
def tvs (l : List (List UInt8)) : List Value := l.map (fun s => Value.string ⟨s.toArray⟩)
def IRow (w : World) (v : Value) (l : List Nat) : Prop := w.ownsRow 0 3 1 v l.length (ivs l)
def TRow (w : World) (v : Value) (l : List (List UInt8)) : Prop := w.ownsRow 0 9 1 v l.length (tvs l)
theorem row_kept {w w' : World} {v : Value} {e : TypeId} {n : Nat} {xs : List Value} (h : w.ownsRow 0 e 1 v n xs) (hb : ∀ k, v.ownBlock = some k → w'.heap[k]? = w.heap[k]?) : w'.ownsRow 0 e 1 v n xs := by
  obtain ⟨h1, h2⟩ := h
  refine ⟨h1, ?_⟩
  rcases h2 with h2 | ⟨g, cap, cur, rfl, a1, a2, a3⟩
  · exact Or.inl h2
  · exact Or.inr ⟨g, cap, cur, rfl, a1, (hb g rfl).trans a2, a3⟩
theorem row_lt {w : World} {v : Value} {e : TypeId} {n : Nat} {xs : List Value} (h : w.ownsRow 0 e 1 v n xs) {k : Nat} (hk : v.ownBlock = some k) : k < w.heap.size := (World.ownsRow.lt h k hk).2
theorem row_type {w : World} {v : Value} {e : TypeId} {n : Nat} {xs : List Value} (h : w.ownsRow 0 e 1 v n xs) {k : Nat} (hk : v.ownBlock = some k) : ∃ cur, w.heap[k]? = some (.cells cur e (0, 0)) := by
  rcases h.2 with ⟨rfl, _⟩ | ⟨g, cap, cur, rfl, a1, a2, a3⟩
  · simp [Value.ownBlock] at hk
  · have : some g = some k := hk
    injection this with this
    subst this
    exact ⟨cur, a2⟩
theorem row_slice {w : World} {v : Value} {e : TypeId} {n : Nat} {xs : List Value} (h : w.ownsRow 0 e 1 v n xs) (h0 : n ≠ 0) : ∃ g cap, v = .slice (some ⟨g, 0, none⟩) n cap ∧ n ≤ cap := by
  rcases h.2 with ⟨_, h2⟩ | ⟨g, cap, cur, h1, a1, a2, a3, _⟩
  · exact absurd h2 h0
  · exact ⟨g, cap, h1, a3⟩
theorem row_cell {w : World} {e : TypeId} {n g cap : Nat} {xs : List Value} (h : w.ownsRow 0 e 1 (.slice (some ⟨g, 0, none⟩) n cap) n xs) {i : Nat} {u : Value} (hu : xs[i]? = some u) : w.cell? ⟨g, i, none⟩ = some u := by
  have := World.ownsRow.cells h (g := g) rfl i u hu
  rw [Addr.add_lit, Nat.zero_add] at this
  exact this
theorem row_one (w : World) (e : TypeId) (u : Value) : (w.alloc (Obj.cells #[u] e)).ownsRow 0 e 1 (.slice (some ⟨w.heap.size, 0, none⟩) 1 1) 1 [u] :=
  ⟨rfl, Or.inr ⟨w.heap.size, 1, #[u], rfl, Nat.zero_le _, heap_alloc_new w _, Nat.le_refl _, by unfold maxLen; decide, rfl, rfl⟩⟩

theorem Try.info3L : (Try.prog.info? 3).map (fun i => (i.zero, i.size, i.bytes)) = some (some (.int .i64 0), 1, 8) := by kernel_rfl
theorem Try.info9L : (Try.prog.info? 9).map (fun i => (i.zero, i.size, i.bytes)) = some (some (.string ⟨#[]⟩), 1, 16) := by kernel_rfl
theorem src_cell (W : World) (ts e : TypeId) (hts : Try.prog.underlying ts = some (.slice e)) (u : Value) (hu : u.oneCell' = true) (b : Nat) (hb : b = W.heap.size) : Src Try.prog 1 ts (.slice (some ⟨b, 0, none⟩) 1 1) 1 [u] (W.alloc (.cells #[u] e)) := by
  subst hb
  refine Src.ofSlice _ hts _ 1 1 _ rfl (fun j v hj => ?_) (fun v hv => by simp at hv; subst hv; exact hu)
  have hj0 : j = 0 := by
    have := (List.getElem?_eq_some_iff.1 hj).1
    simp at this
    exact this
  subst hj0
  simp at hj
  subst hj
  simp [Addr.add]
theorem wpList_append_int (w : World) {ops : Array Oper} {rest : List Oper} {o : Oper} {a : Act} {Q : Exit → Act → World → Prop} (hgd : o.guard = none) (s x : Operand)
    (ho : o.op = .call { callee := .builtin .append, args := #[s, x], argTypes := #[39, 39] }) (v : Value) (L : List Nat) (hs : a.eval s = v) (hown : IRow w v L) (xv : Value) (hx : a.eval x = xv) (n : Nat) (hsrc : Src Try.prog 1 39 xv 1 [.int .i64 ((n : Nat) : Int)] w)
    (hb : L.length ≤ 2000000)
    (h : ∀ v' w', IRow w' v' (L ++ [n]) → w.grownBy w' v.ownBlock → (v'.ownBlock = v.ownBlock ∨ v'.ownBlock = some w.heap.size) → wpList Try.prog ops Q rest (a.put o.dst v') w') : wpList Try.prog ops Q (o :: rest) a w := by
  refine wpList_plain hgd fun K hK => ?_
  obtain ⟨i0, hi, hz0, hz1, hz2⟩ := info_parts Try.info3L
  obtain ⟨v', w', hr, h2, h3, h4⟩ := append_own_src (P := Try.prog) w 39 39 o.type 3 i0 (.int .i64 0) 1 8 Try.underlying39 hi hz0 hz1 hz2 rfl v L.length (ivs L) hown xv 1 [.int .i64 ((n : Nat) : Int)] hsrc (by unfold maxLen; omega) (by omega) (by omega)
  unfold Oper.wp execOp
  simp only [ho, resolve, invoke, builtin, Sem.run_bind, Sem.run_pure, Result.andThen_ok, List.map_toArray, List.map_cons, List.map_nil, hs, hx, hr]
  refine hK _ _ (h v' w' ?_ h3 h4)
  unfold IRow ivs
  rw [List.length_append, List.map_append]
  exact h2
theorem wpList_append_str (w : World) {ops : Array Oper} {rest : List Oper} {o : Oper} {a : Act} {Q : Exit → Act → World → Prop} (hgd : o.guard = none) (s x : Operand)
    (ho : o.op = .call { callee := .builtin .append, args := #[s, x], argTypes := #[82, 82] }) (v : Value) (L : List (List UInt8)) (hs : a.eval s = v) (hown : TRow w v L) (xv : Value) (hx : a.eval x = xv) (n : List UInt8) (hsrc : Src Try.prog 1 82 xv 1 [.string ⟨n.toArray⟩] w)
    (hb : L.length ≤ 2000000)
    (h : ∀ v' w', TRow w' v' (L ++ [n]) → w.grownBy w' v.ownBlock → (v'.ownBlock = v.ownBlock ∨ v'.ownBlock = some w.heap.size) → wpList Try.prog ops Q rest (a.put o.dst v') w') : wpList Try.prog ops Q (o :: rest) a w := by
  refine wpList_plain hgd fun K hK => ?_
  obtain ⟨i0, hi, hz0, hz1, hz2⟩ := info_parts Try.info9L
  obtain ⟨v', w', hr, h2, h3, h4⟩ := append_own_src (P := Try.prog) w 82 82 o.type 9 i0 (.string ⟨#[]⟩) 1 16 Try.underlying82 hi hz0 hz1 hz2 rfl v L.length (tvs L) hown xv 1 [.string ⟨n.toArray⟩] hsrc (by unfold maxLen; omega) (by omega) (by omega)
  unfold Oper.wp execOp
  simp only [ho, resolve, invoke, builtin, Sem.run_bind, Sem.run_pure, Result.andThen_ok, List.map_toArray, List.map_cons, List.map_nil, hs, hx, hr]
  refine hK _ _ (h v' w' ?_ h3 h4)
  unfold TRow tvs
  rw [List.length_append, List.map_append]
  exact h2
end Go.Proofs.Ytjfifaooimgbaaa
/- Several owners of blocks, side by side. -/
namespace Go.Proofs.Ytjfifaooimgbaaa
open Go.Shelf Go.RowKit Go.Lib Go.Sort

/-- owners: what one has no other has; all of it is there. -/
structure Dis (A : Nat → Nat → Prop) (w : World) : Prop where
  ap : ∀ i j, i ≠ j → ∀ k, A i k → ¬ A j k
  lt : ∀ i k, A i k → k < w.heap.size
theorem Dis.step {A : Nat → Nat → Prop} {w w' : World} (h : Dis A w) (i : Nat) {B : Nat → Prop} (g : Gone (A i) B w w') (hB : ∀ k, B k → k < w'.heap.size) : Dis (Ex.upd A i B) w' := by
  have nb : ∀ j k, j ≠ i → A j k → ¬ B k := fun j k hj ha hb => by
    rcases g.sub k hb with e | e
    · exact h.ap j i hj k ha e
    · have := h.lt j k ha
      omega
  refine ⟨fun a b hab k ha hb => ?_, fun a k ha => ?_⟩
  · by_cases ea : a = i
    · subst ea
      rw [Ex.upd_same] at ha
      rw [Ex.upd_ne _ _ (fun e => hab e.symm)] at hb
      exact nb b k (fun e => hab e.symm) hb ha
    · rw [Ex.upd_ne _ _ ea] at ha
      by_cases eb : b = i
      · subst eb
        rw [Ex.upd_same] at hb
        exact nb a k ea ha hb
      · rw [Ex.upd_ne _ _ eb] at hb
        exact h.ap a b hab k ha hb
  · by_cases ea : a = i
    · subst ea
      rw [Ex.upd_same] at ha
      exact hB k ha
    · rw [Ex.upd_ne _ _ ea] at ha
      exact Nat.lt_of_lt_of_le (h.lt a k ha) g.only.size
theorem Dis.off {A : Nat → Nat → Prop} {w w' : World} (h : Dis A w) {i : Nat} {B : Nat → Prop} (g : Gone (A i) B w w') {j : Nat} (hj : j ≠ i) : ∀ k, A j k → w'.heap[k]? = w.heap[k]? := fun k hk => g.only.block k (h.lt j k hk) (fun e => h.ap j i hj k hk e)
theorem Dis.up {A : Nat → Nat → Prop} {w w' : World} (h : Dis A w) (hs : w.heap.size ≤ w'.heap.size) : Dis A w' := ⟨h.ap, fun i k hk => Nat.lt_of_lt_of_le (h.lt i k hk) hs⟩

/-- a floor and its exchange, and all that they have. -/
def FlA (w : World) (A : Nat → Prop) (f p : Nat) (now cash units : Int) (x : Ex.Xch) : Prop := ∃ S, Fl RepX w S f p now cash units x ∧ ∀ k, A k ↔ S k ∨ k = f
theorem FlA.lt {w : World} {A : Nat → Prop} {f p : Nat} {now cash units : Int} {x : Ex.Xch} (h : FlA w A f p now cash units x) : ∀ k, A k → k < w.heap.size := fun k hk => by
  obtain ⟨S, h1, h2⟩ := h
  rcases (h2 k).1 hk with e | e
  · exact rep_low h1.rep k e
  · rw [e]; exact h1.fl.lt
theorem FlA.keep {w w' : World} {A : Nat → Prop} {f p : Nat} {now cash units : Int} {x : Ex.Xch} (h : FlA w A f p now cash units x) (e : ∀ k, A k → w'.heap[k]? = w.heap[k]?) : FlA w' A f p now cash units x := by
  obtain ⟨S, h1, h2⟩ := h
  exact ⟨S, ⟨(e f ((h2 f).2 (Or.inr rfl))).trans h1.fl, rep_keep h1.rep (fun k hk => e k ((h2 k).2 (Or.inl hk))), h1.no⟩, h2⟩
theorem FlA.cell0 {w : World} {A : Nat → Prop} {f p : Nat} {now cash units : Int} {x : Ex.Xch} (h : FlA w A f p now cash units x) : w.cell? ⟨f, 0, none⟩ = some (.pointer (some ⟨p, 0, none⟩)) := by
  obtain ⟨S, h1, _⟩ := h
  exact blk_cell h1.fl 0
theorem FlA.cell1 {w : World} {A : Nat → Prop} {f p : Nat} {now cash units : Int} {x : Ex.Xch} (h : FlA w A f p now cash units x) : w.cell? ⟨f, 1, none⟩ = some (.int .i64 now) := by
  obtain ⟨S, h1, _⟩ := h
  exact blk_cell h1.fl 1
theorem FlA.fz {w : World} {A : Nat → Prop} {f p : Nat} {now cash units : Int} {x : Ex.Xch} (h : FlA w A f p now cash units x) (j : Nat) : w.frozen? ⟨f, j, none⟩ = false := by
  obtain ⟨S, h1, _⟩ := h
  exact h1.fl.frozen j
theorem FlA.mem {w : World} {A : Nat → Prop} {f p : Nat} {now cash units : Int} {x : Ex.Xch} (h : FlA w A f p now cash units x) : A f := by
  obtain ⟨S, h1, h2⟩ := h
  exact (h2 f).2 (Or.inr rfl)
theorem FlA.set1 {w : World} {A : Nat → Prop} {f p : Nat} {now cash units : Int} {x : Ex.Xch} (h : FlA w A f p now cash units x) (v : Int) : FlA (w.setCell ⟨f, 1, none⟩ (.int .i64 v)) A f p v cash units x ∧ Gone A A w (w.setCell ⟨f, 1, none⟩ (.int .i64 v)) := by
  obtain ⟨S, h1, h2⟩ := h
  refine ⟨⟨S, ⟨h1.fl.set1 v, exch.set h1.rep h1.no _ _, h1.no⟩, h2⟩, ⟨⟨rfl, rfl, rfl, by simp [World.setCell], fun k hk hn => Below.heap_setCell w ⟨f, 1, none⟩ _ k (fun e => hn ((h2 k).2 (Or.inr e)))⟩, fun _ h => Or.inl h⟩⟩
theorem fla_shown {w : World} {A : Nat → Prop} {f p : Nat} {now cash units : Int} {x : Ex.Xch} (h : FlA w A f p now cash units x) (ok : Ex.Ok x) (st : Ex.Still x now) (h0 : 0 ≤ now) (h1 : now ≤ 9223372036854775807) (hj : x.jr.length ≤ 1099511627776) :
    Calls Try.prog 38 #[.pointer (some ⟨f, 0, none⟩)] w fun e w' => ∃ B, e = .returned (.string ⟨(shownX x).toArray⟩) ∧ FlA w' B f p now cash units x ∧ Gone A B w w' := by
  obtain ⟨S, h2, h3⟩ := h
  refine (shown_any exch h2 ok st h0 h1 hj).mono ?_
  rintro e w' ⟨S', rfl, F, G⟩
  have hfl := h2.fl.lt
  refine ⟨fun k => S' k ∨ k = f, rfl, ⟨S', F, fun k => Iff.rfl⟩, ⟨⟨G.only.os, G.only.tape, G.only.output, G.only.size, fun k hk hn => G.only.block k hk (fun hs => hn ((h3 k).2 (Or.inl hs)))⟩, ?_⟩⟩
  rintro k (hk | rfl)
  · rcases G.sub k hk with e | e
    · exact Or.inl ((h3 k).2 (Or.inl e))
    · exact Or.inr e
  · exact Or.inl ((h3 k).2 (Or.inr rfl))
theorem fla_moves {w : World} {A : Nat → Prop} {f p : Nat} {now cash units : Int} {x : Ex.Xch} (h : FlA w A f p now cash units x) (ok : Ex.Ok x) (K W N : Int) (hK : I64 K) (hW : I64 W) (hN : I64 N) (h0 : 0 ≤ now) (h1 : now ≤ 1152921504606846976) (hj : x.jr.length ≤ 1099511627776) (hc : -1152921504606846976 ≤ cash ∧ cash ≤ 1152921504606846976) (hu : -1152921504606846976 ≤ units ∧ units ≤ 1152921504606846976) :
    Calls Try.prog 27 #[.pointer (some ⟨f, 0, none⟩), .agg #[.int .i64 K, .int .i64 W, .int .i64 N]] w fun e w' => ∃ B, e = .returned (.string ⟨((Ex.doX x (mvNow now K N) (mvReq K W N)).2).toArray⟩) ∧ FlA w' B f p (mvNow now K N) (cash + mvCash K N (Ex.doX x (mvNow now K N) (mvReq K W N)).2) (units + mvUnits K N (Ex.doX x (mvNow now K N) (mvReq K W N)).2) (Ex.doX x (mvNow now K N) (mvReq K W N)).1 ∧ Gone A B w w' := by
  obtain ⟨S, h2, h3⟩ := h
  refine (moves_any exch h2.rep ok f now cash units h2.fl h2.no K W N hK hW hN h0 h1 hj hc hu).mono ?_
  rintro e w' ⟨S', s, x', ex, rfl, F, R, t, O⟩
  injection ex with ex1 ex2
  subst ex1 ex2
  have hfl := h2.fl.lt
  refine ⟨fun k => S' k ∨ k = f, rfl, ⟨S', ⟨F, R, fun hs => ?_⟩, fun k => Iff.rfl⟩, ⟨⟨O.os, O.tape, O.output, O.size, fun k hk hn => O.block k hk (fun hs => hn ((h3 k).2 hs))⟩, ?_⟩⟩
  · rcases t f hs with e | e
    · exact h2.no e
    · omega
  · rintro k (hk | rfl)
    · rcases t k hk with e | e
      · exact Or.inl ((h3 k).2 (Or.inl e))
      · exact Or.inr e
    · exact Or.inl ((h3 k).2 (Or.inr rfl))
theorem fla_journal {w : World} {A : Nat → Prop} {f p : Nat} {now cash units : Int} {x : Ex.Xch} (h : FlA w A f p now cash units x) : Calls Try.prog 37 #[.pointer (some ⟨p, 0, none⟩)] w fun e w' => e = .returned (.tuple #[.string ⟨x.jr.toArray⟩, .int .i64 0]) ∧ w' = w := by
  obtain ⟨S, h1, _⟩ := h
  exact journalX_any w S p x h1.rep

/-- the first loop's world: a floor (0), the lengths (3), the shots (4). -/
structure L1 (w : World) (A : Nat → Nat → Prop) (f p : Nat) (x : Ex.Xch) (now : Int) (vl vs : Value) (nl : List Nat) (ns : List (List UInt8)) (cB mB : Nat) (oc om : Obj) (wq : World) : Prop where
  dis : Dis A wq
  fl : FlA wq (A 0) f p now (Ex.allCash x) (Ex.allUnits x) x
  e1 : ∀ k, ¬ A 1 k
  e2 : ∀ k, ¬ A 2 k
  il : IRow wq vl nl
  ia : ∀ k, A 3 k ↔ vl.ownBlock = some k
  ts : TRow wq vs ns
  ta : ∀ k, A 4 k ↔ vs.ownBlock = some k
  cb : wq.heap[cB]? = some oc
  ca : ∀ k, A 5 k ↔ k = cB
  mb : wq.heap[mB]? = some om
  ma : ∀ k, A 6 k ↔ k = mB
  low : ∀ i k, A i k → w.heap.size ≤ k
  bel : Below w.heap.size w wq

theorem low_step {w wq : World} {A : Nat → Nat → Prop} (h : ∀ i k, A i k → w.heap.size ≤ k) (hs : w.heap.size ≤ wq.heap.size) {i : Nat} {B : Nat → Prop} {w' : World} (g : Gone (A i) B wq w') : ∀ j k, Ex.upd A i B j k → w.heap.size ≤ k := fun j k hk => by
  by_cases e : j = i
  · subst e
    rw [Ex.upd_same] at hk
    rcases g.sub k hk with q | q
    · exact h j k q
    · omega
  · rw [Ex.upd_ne _ _ e] at hk
    exact h j k hk
theorem bel_step {w wq w' : World} {A : Nat → Prop} {B : Nat → Prop} (b : Below w.heap.size w wq) (h : ∀ k, A k → w.heap.size ≤ k) (g : Gone A B wq w') : Below w.heap.size w w' :=
  ⟨g.only.os.trans b.os, g.only.tape.trans b.tape, g.only.output.trans b.output, Nat.le_trans b.size g.only.size, fun k hk => (g.only.block k (Nat.lt_of_lt_of_le hk b.size) (fun q => by have := h k q; omega)).trans (b.block k hk)⟩
theorem L1.up {w wq w' : World} {A : Nat → Nat → Prop} {f p : Nat} {x : Ex.Xch} {now : Int} {vl vs : Value} {nl : List Nat} {ns : List (List UInt8)} {cB mB : Nat} {oc om : Obj} (h : L1 w A f p x now vl vs nl ns cB mB oc om wq) (b : Below wq.heap.size wq w') : L1 w A f p x now vl vs nl ns cB mB oc om w' :=
  ⟨h.dis.up b.size, h.fl.keep (fun k hk => b.block k (h.dis.lt 0 k hk)), h.e1, h.e2, row_kept h.il (fun k hk => b.block k (row_lt h.il hk)), h.ia, row_kept h.ts (fun k hk => b.block k (row_lt h.ts hk)), h.ta, (b.block _ (h.dis.lt 5 _ ((h.ca _).2 rfl))).trans h.cb, h.ca, (b.block _ (h.dis.lt 6 _ ((h.ma _).2 rfl))).trans h.mb, h.ma, h.low, blw_tr h.bel b⟩
/-- the floor has done something. -/
theorem L1.floor {w wq w' : World} {A : Nat → Nat → Prop} {f p : Nat} {x y : Ex.Xch} {now now' : Int} {vl vs : Value} {nl : List Nat} {ns : List (List UInt8)} {cB mB : Nat} {oc om : Obj} (h : L1 w A f p x now vl vs nl ns cB mB oc om wq) {B : Nat → Prop} (hB : FlA w' B f p now' (Ex.allCash y) (Ex.allUnits y) y) (g : Gone (A 0) B wq w') : ∃ A', L1 w A' f p y now' vl vs nl ns cB mB oc om w' := by
  refine ⟨Ex.upd A 0 B, h.dis.step 0 g hB.lt, by rw [Ex.upd_same]; exact hB, fun k => by rw [Ex.upd_ne _ _ (by decide)]; exact h.e1 k, fun k => by rw [Ex.upd_ne _ _ (by decide)]; exact h.e2 k, ?_, fun k => by rw [Ex.upd_ne _ _ (by decide)]; exact h.ia k, ?_, fun k => by rw [Ex.upd_ne _ _ (by decide)]; exact h.ta k, (h.dis.off g (j := 5) (by decide) _ ((h.ca _).2 rfl)).trans h.cb, fun k => by rw [Ex.upd_ne _ _ (by decide)]; exact h.ca k, (h.dis.off g (j := 6) (by decide) _ ((h.ma _).2 rfl)).trans h.mb, fun k => by rw [Ex.upd_ne _ _ (by decide)]; exact h.ma k, low_step h.low h.bel.size g, bel_step h.bel (h.low 0) g⟩
  · exact row_kept h.il (fun k hk => h.dis.off g (j := 3) (by decide) k ((h.ia k).2 hk))
  · exact row_kept h.ts (fun k hk => h.dis.off g (j := 4) (by decide) k ((h.ta k).2 hk))
theorem gone_grown {wq w' : World} {A : Nat → Prop} {v v' : Value} (ha : ∀ k, A k ↔ v.ownBlock = some k) (g2 : wq.grownBy w' v.ownBlock) (g3 : v'.ownBlock = v.ownBlock ∨ v'.ownBlock = some wq.heap.size) : Gone A (fun k => v'.ownBlock = some k) wq w' :=
  ⟨⟨g2.os, g2.tape, g2.output, g2.size, fun k hk hn => g2.block k hk (fun e => hn ((ha k).2 e.symm))⟩, fun k hk => by
    rcases g3 with e | e
    · exact Or.inl ((ha k).2 (by rw [← e]; exact hk))
    · right
      rw [e] at hk
      injection hk with hk
      omega⟩
theorem L1.pushI {w wq w' : World} {A : Nat → Nat → Prop} {f p : Nat} {x : Ex.Xch} {now : Int} {vl vs v' : Value} {nl : List Nat} {ns : List (List UInt8)} {cB mB : Nat} {oc om : Obj} (h : L1 w A f p x now vl vs nl ns cB mB oc om wq) {n : Nat} (g1 : IRow w' v' (nl ++ [n])) (g2 : wq.grownBy w' vl.ownBlock) (g3 : v'.ownBlock = vl.ownBlock ∨ v'.ownBlock = some wq.heap.size) : ∃ A', L1 w A' f p x now v' vs (nl ++ [n]) ns cB mB oc om w' := by
  have g : Gone (A 3) (fun k => v'.ownBlock = some k) wq w' := gone_grown h.ia g2 g3
  refine ⟨Ex.upd A 3 (fun k => v'.ownBlock = some k), h.dis.step 3 g (fun k hk => row_lt g1 hk), by rw [Ex.upd_ne _ _ (by decide)]; exact h.fl.keep (h.dis.off g (by decide)), fun k => by rw [Ex.upd_ne _ _ (by decide)]; exact h.e1 k, fun k => by rw [Ex.upd_ne _ _ (by decide)]; exact h.e2 k, g1, fun k => by rw [Ex.upd_same], ?_, fun k => by rw [Ex.upd_ne _ _ (by decide)]; exact h.ta k, (h.dis.off g (j := 5) (by decide) _ ((h.ca _).2 rfl)).trans h.cb, fun k => by rw [Ex.upd_ne _ _ (by decide)]; exact h.ca k, (h.dis.off g (j := 6) (by decide) _ ((h.ma _).2 rfl)).trans h.mb, fun k => by rw [Ex.upd_ne _ _ (by decide)]; exact h.ma k, low_step h.low h.bel.size g, bel_step h.bel (h.low 3) g⟩
  exact row_kept h.ts (fun k hk => h.dis.off g (j := 4) (by decide) k ((h.ta k).2 hk))
theorem L1.pushT {w wq w' : World} {A : Nat → Nat → Prop} {f p : Nat} {x : Ex.Xch} {now : Int} {vl vs v' : Value} {nl : List Nat} {ns : List (List UInt8)} {cB mB : Nat} {oc om : Obj} (h : L1 w A f p x now vl vs nl ns cB mB oc om wq) {n : List UInt8} (g1 : TRow w' v' (ns ++ [n])) (g2 : wq.grownBy w' vs.ownBlock) (g3 : v'.ownBlock = vs.ownBlock ∨ v'.ownBlock = some wq.heap.size) : ∃ A', L1 w A' f p x now vl v' nl (ns ++ [n]) cB mB oc om w' := by
  have g : Gone (A 4) (fun k => v'.ownBlock = some k) wq w' := gone_grown h.ta g2 g3
  refine ⟨Ex.upd A 4 (fun k => v'.ownBlock = some k), h.dis.step 4 g (fun k hk => row_lt g1 hk), by rw [Ex.upd_ne _ _ (by decide)]; exact h.fl.keep (h.dis.off g (by decide)), fun k => by rw [Ex.upd_ne _ _ (by decide)]; exact h.e1 k, fun k => by rw [Ex.upd_ne _ _ (by decide)]; exact h.e2 k, ?_, fun k => by rw [Ex.upd_ne _ _ (by decide)]; exact h.ia k, g1, fun k => by rw [Ex.upd_same], (h.dis.off g (j := 5) (by decide) _ ((h.ca _).2 rfl)).trans h.cb, fun k => by rw [Ex.upd_ne _ _ (by decide)]; exact h.ca k, (h.dis.off g (j := 6) (by decide) _ ((h.ma _).2 rfl)).trans h.mb, fun k => by rw [Ex.upd_ne _ _ (by decide)]; exact h.ma k, low_step h.low h.bel.size g, bel_step h.bel (h.low 4) g⟩
  exact row_kept h.il (fun k hk => h.dis.off g (j := 3) (by decide) k ((h.ia k).2 hk))

theorem ok_sums {x : Ex.Xch} (ok : Ex.Ok x) : (0 ≤ Ex.allCash x ∧ Ex.allCash x ≤ 1125899906842624) ∧ (0 ≤ Ex.allUnits x ∧ Ex.allUnits x ≤ 1125899906842624) := by
  have h1 := Ex.sum_nonneg (fun i => (x.ps i).cash + (x.ps i).held) 20 (fun i _ => by have := ok.cash i; have := (ok.heldNon i).1; omega)
  have h2 := Ex.sum_nonneg (fun i => (x.ps i).units + (x.ps i).hun) 20 (fun i _ => by have := ok.units i; have := (ok.heldNon i).2; omega)
  have h3 := ok.own
  have h4 := ok.sumC
  have h5 := ok.sumU
  refine ⟨⟨?_, h4⟩, ⟨h2, h5⟩⟩
  unfold Ex.allCash
  omega
theorem l1_moves {w wq : World} {A : Nat → Nat → Prop} {f p : Nat} {x : Ex.Xch} {now : Int} {vl vs : Value} {nl : List Nat} {ns : List (List UInt8)} {cB mB : Nat} {oc om : Obj} (h : L1 w A f p x now vl vs nl ns cB mB oc om wq) (ok : Ex.Ok x) (h0 : 0 ≤ now) (h1 : now ≤ 1152921504606846976) (hj : x.jr.length ≤ 1099511627776) (K W N : Int) (hK : I64 K) (hW : I64 W) (hN : I64 N) :
    Calls Try.prog 27 #[.pointer (some ⟨f, 0, none⟩), .agg #[.int .i64 K, .int .i64 W, .int .i64 N]] wq fun e w' => e = .returned (.string ⟨((Ex.doX x (mvNow now K N) (mvReq K W N)).2).toArray⟩) ∧ ∃ A', L1 w A' f p (Ex.doX x (mvNow now K N) (mvReq K W N)).1 (mvNow now K N) vl vs nl ns cB mB oc om w' := by
  obtain ⟨⟨c1, c2⟩, u1, u2⟩ := ok_sums ok
  have dk := Ex.do_ok ok (mvNow now K N) (mvReq K W N)
  refine (fla_moves h.fl ok K W N hK hW hN h0 h1 hj (by omega) (by omega)).mono ?_
  rintro e w' ⟨B, rfl, F, G⟩
  rw [(put_move K W N (Ex.doX x (mvNow now K N) (mvReq K W N)).2).1, (put_move K W N (Ex.doX x (mvNow now K N) (mvReq K W N)).2).2, ← dk.2.2.1, ← dk.2.2.2] at F
  exact ⟨rfl, h.floor F G⟩
theorem l1_shown {w wq : World} {A : Nat → Nat → Prop} {f p : Nat} {x : Ex.Xch} {now : Int} {vl vs : Value} {nl : List Nat} {ns : List (List UInt8)} {cB mB : Nat} {oc om : Obj} (h : L1 w A f p x now vl vs nl ns cB mB oc om wq) (ok : Ex.Ok x) (st : Ex.Still x now) (h0 : 0 ≤ now) (h1 : now ≤ 9223372036854775807) (hj : x.jr.length ≤ 1099511627776) :
    Calls Try.prog 38 #[.pointer (some ⟨f, 0, none⟩)] wq fun e w' => e = .returned (.string ⟨(shownX x).toArray⟩) ∧ ∃ A', L1 w A' f p x now vl vs nl ns cB mB oc om w' := by
  refine (fla_shown h.fl ok st h0 h1 hj).mono ?_
  rintro e w' ⟨B, rfl, F, G⟩
  exact ⟨rfl, h.floor F G⟩

/-- the beginning. -/
theorem l1_init {w W2 W3 W4 : World} {n0 c0 i0 : Nat} {A0 B3 : Nat → Prop} {f p : Nat} {x : Ex.Xch} {nl : List Nat} {ns : List (List UInt8)} {oc om : Obj} (h1 : w.heap.size < n0) (hn0 : n0 ≤ c0) (hA : ∀ k, A0 k → n0 ≤ k ∧ k < c0) (hc : c0 < i0) (hi : i0 < W2.heap.size)
    (FB : FlA W3 B3 f p 0 (Ex.allCash x) (Ex.allUnits x) x) (G : Gone A0 B3 W2 W3) (I : IRow W2 (.slice (some ⟨i0, 0, none⟩) 1 1) nl) (T : TRow W4 (.slice (some ⟨W3.heap.size, 0, none⟩) 1 1) ns) (b4 : Below W3.heap.size W3 W4) (hs4 : W3.heap.size < W4.heap.size) (mc : W2.heap[c0]? = some oc) (mm : W2.heap[w.heap.size]? = some om) (b2 : Below w.heap.size w W2) :
    ∃ A, L1 w A f p x 0 (.slice (some ⟨i0, 0, none⟩) 1 1) (.slice (some ⟨W3.heap.size, 0, none⟩) 1 1) nl ns c0 w.heap.size oc om W4 := by
  have s23 := G.only.size
  have hB : ∀ k, B3 k → ((n0 ≤ k ∧ k < c0) ∨ W2.heap.size ≤ k) ∧ k < W3.heap.size := fun k hk => by
    refine ⟨?_, FB.lt k hk⟩
    rcases G.sub k hk with e | e
    · exact Or.inl (hA k e)
    · exact Or.inr e
  have keep : ∀ k, k < W2.heap.size → ¬ A0 k → W4.heap[k]? = W2.heap[k]? := fun k hk hn => (b4.block k (Nat.lt_of_lt_of_le hk s23)).trans (G.only.block k hk hn)
  have na : ∀ k, (k = i0 ∨ k = c0 ∨ k = w.heap.size) → ¬ A0 k := fun k hk q => by
    have := hA k q
    omega
  refine ⟨fun i k => (i = 0 ∧ B3 k) ∨ (i = 3 ∧ k = i0) ∨ (i = 4 ∧ k = W3.heap.size) ∨ (i = 5 ∧ k = c0) ∨ (i = 6 ∧ k = w.heap.size), ⟨fun i j hij k ha hb => ?_, fun i k ha => ?_⟩, ?_, fun k hk => by rcases hk with ⟨e, _⟩ | ⟨e, _⟩ | ⟨e, _⟩ | ⟨e, _⟩ | ⟨e, _⟩ <;> omega, fun k hk => by rcases hk with ⟨e, _⟩ | ⟨e, _⟩ | ⟨e, _⟩ | ⟨e, _⟩ | ⟨e, _⟩ <;> omega, ?_, fun k => ?_, T, fun k => ?_, ?_, fun k => ?_, ?_, fun k => ?_, fun i k ha => ?_, ?_⟩
  · rcases ha with ⟨e1, a1⟩ | ⟨e1, a1⟩ | ⟨e1, a1⟩ | ⟨e1, a1⟩ | ⟨e1, a1⟩ <;> rcases hb with ⟨e2, a2⟩ | ⟨e2, a2⟩ | ⟨e2, a2⟩ | ⟨e2, a2⟩ | ⟨e2, a2⟩
    all_goals first
      | exact hij (e1.trans e2.symm)
      | (have := hB k a1; omega)
      | (have := hB k a2; omega)
      | omega
  · rcases ha with ⟨e1, a1⟩ | ⟨e1, a1⟩ | ⟨e1, a1⟩ | ⟨e1, a1⟩ | ⟨e1, a1⟩
    · have := hB k a1
      omega
    all_goals omega
  · have : FlA W4 B3 f p 0 (Ex.allCash x) (Ex.allUnits x) x := FB.keep (fun k hk => b4.block k (FB.lt k hk))
    obtain ⟨S, q1, q2⟩ := this
    exact ⟨S, q1, fun k => ⟨fun h => by
      rcases h with ⟨_, a1⟩ | ⟨e1, _⟩ | ⟨e1, _⟩ | ⟨e1, _⟩ | ⟨e1, _⟩
      · exact (q2 k).1 a1
      all_goals omega, fun h => Or.inl ⟨rfl, (q2 k).2 h⟩⟩⟩
  · refine row_kept I (fun k hk => keep k (row_lt I hk) (na k (Or.inl ?_)))
    have : some i0 = some k := hk
    injection this with this
    exact this.symm
  · constructor
    · intro h
      rcases h with ⟨e1, _⟩ | ⟨e1, a1⟩ | ⟨e1, _⟩ | ⟨e1, _⟩ | ⟨e1, _⟩
      · omega
      · show some i0 = some k
        rw [a1]
      all_goals omega
    · intro h
      have : some i0 = some k := h
      injection this with this
      exact Or.inr (Or.inl ⟨rfl, this.symm⟩)
  · constructor
    · intro h
      rcases h with ⟨e1, _⟩ | ⟨e1, _⟩ | ⟨e1, a1⟩ | ⟨e1, _⟩ | ⟨e1, _⟩
      · omega
      · omega
      · show some W3.heap.size = some k
        rw [a1]
      all_goals omega
    · intro h
      have : some W3.heap.size = some k := h
      injection this with this
      exact Or.inr (Or.inr (Or.inl ⟨rfl, this.symm⟩))
  · exact (keep c0 (by omega) (na c0 (Or.inr (Or.inl rfl)))).trans mc
  · constructor
    · intro h
      rcases h with ⟨e1, _⟩ | ⟨e1, _⟩ | ⟨e1, _⟩ | ⟨e1, a1⟩ | ⟨e1, _⟩
      · omega
      · omega
      · omega
      · exact a1
      · omega
    · exact fun h => Or.inr (Or.inr (Or.inr (Or.inl ⟨rfl, h⟩)))
  · exact (keep w.heap.size (by omega) (na _ (Or.inr (Or.inr rfl)))).trans mm
  · constructor
    · intro h
      rcases h with ⟨e1, _⟩ | ⟨e1, _⟩ | ⟨e1, _⟩ | ⟨e1, _⟩ | ⟨e1, a1⟩
      · omega
      · omega
      · omega
      · omega
      · exact a1
    · exact fun h => Or.inr (Or.inr (Or.inr (Or.inr ⟨rfl, h⟩)))
  · rcases ha with ⟨e1, a1⟩ | ⟨e1, a1⟩ | ⟨e1, a1⟩ | ⟨e1, a1⟩ | ⟨e1, a1⟩
    · have := hB k a1
      omega
    all_goals omega
  · refine ⟨b4.os.trans (G.only.os.trans b2.os), b4.tape.trans (G.only.tape.trans b2.tape), b4.output.trans (G.only.output.trans b2.output), by have := b2.size; omega, fun k hk => (keep k (by omega) (fun q => by have := hA k q; omega)).trans (b2.block k hk)⟩
end Go.Proofs.Ytjfifaooimgbaaa
/- Three floors side by side. -/
namespace Go.Proofs.Ytjfifaooimgbaaa
open Go.Shelf Go.RowKit Go.Lib Go.Sort

/-- the floor (0), the one of a part (1), the one of the whole (2), the lengths (3), the shots (4), one move more (6). -/
structure L2 (w : World) (A : Nat → Nat → Prop) (f p : Nat) (now cash units : Int) (x : Ex.Xch) (f1 p1 : Nat) (y : Ex.Xch) (f2 p2 : Nat) (n2 c2 u2 : Int) (z : Ex.Xch) (vl vs : Value) (nl : List Nat) (ns : List (List UInt8)) (mB : Nat) (om : Obj) (wq : World) : Prop where
  dis : Dis A wq
  fl : FlA wq (A 0) f p now cash units x
  pa : FlA wq (A 1) f1 p1 0 0 0 y
  wh : FlA wq (A 2) f2 p2 n2 c2 u2 z
  il : IRow wq vl nl
  ia : ∀ k, A 3 k ↔ vl.ownBlock = some k
  ts : TRow wq vs ns
  ta : ∀ k, A 4 k ↔ vs.ownBlock = some k
  mb : wq.heap[mB]? = some om
  ma : ∀ k, A 6 k ↔ k = mB
  low : ∀ i k, A i k → w.heap.size ≤ k
  bel : Below w.heap.size w wq

section
variable {w wq w' : World} {A : Nat → Nat → Prop} {f p : Nat} {now cash units : Int} {x : Ex.Xch} {f1 p1 : Nat} {y : Ex.Xch} {f2 p2 : Nat} {n2 c2 u2 : Int} {z : Ex.Xch} {vl vs : Value} {nl : List Nat} {ns : List (List UInt8)} {mB : Nat} {om : Obj}
theorem L2.up (h : L2 w A f p now cash units x f1 p1 y f2 p2 n2 c2 u2 z vl vs nl ns mB om wq) (b : Below wq.heap.size wq w') : L2 w A f p now cash units x f1 p1 y f2 p2 n2 c2 u2 z vl vs nl ns mB om w' :=
  ⟨h.dis.up b.size, h.fl.keep (fun k hk => b.block k (h.dis.lt 0 k hk)), h.pa.keep (fun k hk => b.block k (h.dis.lt 1 k hk)), h.wh.keep (fun k hk => b.block k (h.dis.lt 2 k hk)), row_kept h.il (fun k hk => b.block k (row_lt h.il hk)), h.ia, row_kept h.ts (fun k hk => b.block k (row_lt h.ts hk)), h.ta, (b.block _ (h.dis.lt 6 _ ((h.ma _).2 rfl))).trans h.mb, h.ma, h.low, blw_tr h.bel b⟩
theorem L2.s0 (h : L2 w A f p now cash units x f1 p1 y f2 p2 n2 c2 u2 z vl vs nl ns mB om wq) {B : Nat → Prop} {now' cash' units' : Int} {x' : Ex.Xch} (hB : FlA w' B f p now' cash' units' x') (g : Gone (A 0) B wq w') : ∃ A', L2 w A' f p now' cash' units' x' f1 p1 y f2 p2 n2 c2 u2 z vl vs nl ns mB om w' := by
  refine ⟨Ex.upd A 0 B, h.dis.step 0 g hB.lt, by rw [Ex.upd_same]; exact hB, by rw [Ex.upd_ne _ _ (by decide)]; exact h.pa.keep (h.dis.off g (by decide)), by rw [Ex.upd_ne _ _ (by decide)]; exact h.wh.keep (h.dis.off g (by decide)), ?_, fun k => by rw [Ex.upd_ne _ _ (by decide)]; exact h.ia k, ?_, fun k => by rw [Ex.upd_ne _ _ (by decide)]; exact h.ta k, (h.dis.off g (j := 6) (by decide) _ ((h.ma _).2 rfl)).trans h.mb, fun k => by rw [Ex.upd_ne _ _ (by decide)]; exact h.ma k, low_step h.low h.bel.size g, bel_step h.bel (h.low 0) g⟩
  · exact row_kept h.il (fun k hk => h.dis.off g (j := 3) (by decide) k ((h.ia k).2 hk))
  · exact row_kept h.ts (fun k hk => h.dis.off g (j := 4) (by decide) k ((h.ta k).2 hk))
theorem L2.s1 (h : L2 w A f p now cash units x f1 p1 y f2 p2 n2 c2 u2 z vl vs nl ns mB om wq) {B : Nat → Prop} {y' : Ex.Xch} (hB : FlA w' B f1 p1 0 0 0 y') (g : Gone (A 1) B wq w') : ∃ A', L2 w A' f p now cash units x f1 p1 y' f2 p2 n2 c2 u2 z vl vs nl ns mB om w' := by
  refine ⟨Ex.upd A 1 B, h.dis.step 1 g hB.lt, by rw [Ex.upd_ne _ _ (by decide)]; exact h.fl.keep (h.dis.off g (by decide)), by rw [Ex.upd_same]; exact hB, by rw [Ex.upd_ne _ _ (by decide)]; exact h.wh.keep (h.dis.off g (by decide)), ?_, fun k => by rw [Ex.upd_ne _ _ (by decide)]; exact h.ia k, ?_, fun k => by rw [Ex.upd_ne _ _ (by decide)]; exact h.ta k, (h.dis.off g (j := 6) (by decide) _ ((h.ma _).2 rfl)).trans h.mb, fun k => by rw [Ex.upd_ne _ _ (by decide)]; exact h.ma k, low_step h.low h.bel.size g, bel_step h.bel (h.low 1) g⟩
  · exact row_kept h.il (fun k hk => h.dis.off g (j := 3) (by decide) k ((h.ia k).2 hk))
  · exact row_kept h.ts (fun k hk => h.dis.off g (j := 4) (by decide) k ((h.ta k).2 hk))
theorem L2.s2 (h : L2 w A f p now cash units x f1 p1 y f2 p2 n2 c2 u2 z vl vs nl ns mB om wq) {B : Nat → Prop} {now' cash' units' : Int} {z' : Ex.Xch} (hB : FlA w' B f2 p2 now' cash' units' z') (g : Gone (A 2) B wq w') : ∃ A', L2 w A' f p now cash units x f1 p1 y f2 p2 now' cash' units' z' vl vs nl ns mB om w' := by
  refine ⟨Ex.upd A 2 B, h.dis.step 2 g hB.lt, by rw [Ex.upd_ne _ _ (by decide)]; exact h.fl.keep (h.dis.off g (by decide)), by rw [Ex.upd_ne _ _ (by decide)]; exact h.pa.keep (h.dis.off g (by decide)), by rw [Ex.upd_same]; exact hB, ?_, fun k => by rw [Ex.upd_ne _ _ (by decide)]; exact h.ia k, ?_, fun k => by rw [Ex.upd_ne _ _ (by decide)]; exact h.ta k, (h.dis.off g (j := 6) (by decide) _ ((h.ma _).2 rfl)).trans h.mb, fun k => by rw [Ex.upd_ne _ _ (by decide)]; exact h.ma k, low_step h.low h.bel.size g, bel_step h.bel (h.low 2) g⟩
  · exact row_kept h.il (fun k hk => h.dis.off g (j := 3) (by decide) k ((h.ia k).2 hk))
  · exact row_kept h.ts (fun k hk => h.dis.off g (j := 4) (by decide) k ((h.ta k).2 hk))
theorem l2_shown0 (h : L2 w A f p now cash units x f1 p1 y f2 p2 n2 c2 u2 z vl vs nl ns mB om wq) (ok : Ex.Ok x) (st : Ex.Still x now) (h0 : 0 ≤ now) (h1 : now ≤ 9223372036854775807) (hj : x.jr.length ≤ 1099511627776) :
    Calls Try.prog 38 #[.pointer (some ⟨f, 0, none⟩)] wq fun e w' => e = .returned (.string ⟨(shownX x).toArray⟩) ∧ ∃ A', L2 w A' f p now cash units x f1 p1 y f2 p2 n2 c2 u2 z vl vs nl ns mB om w' := by
  refine (fla_shown h.fl ok st h0 h1 hj).mono ?_
  rintro e w' ⟨B, rfl, F, G⟩
  exact ⟨rfl, h.s0 F G⟩
theorem l2_shown1 (h : L2 w A f p now cash units x f1 p1 y f2 p2 n2 c2 u2 z vl vs nl ns mB om wq) (ok : Ex.Ok y) (st : Ex.Still y 0) (hj : y.jr.length ≤ 1099511627776) :
    Calls Try.prog 38 #[.pointer (some ⟨f1, 0, none⟩)] wq fun e w' => e = .returned (.string ⟨(shownX y).toArray⟩) ∧ ∃ A', L2 w A' f p now cash units x f1 p1 y f2 p2 n2 c2 u2 z vl vs nl ns mB om w' := by
  refine (fla_shown h.pa ok st (by decide) (by decide) hj).mono ?_
  rintro e w' ⟨B, rfl, F, G⟩
  exact ⟨rfl, h.s1 F G⟩
theorem l2_shown2 (h : L2 w A f p now cash units x f1 p1 y f2 p2 n2 c2 u2 z vl vs nl ns mB om wq) (ok : Ex.Ok z) (st : Ex.Still z n2) (h0 : 0 ≤ n2) (h1 : n2 ≤ 9223372036854775807) (hj : z.jr.length ≤ 1099511627776) :
    Calls Try.prog 38 #[.pointer (some ⟨f2, 0, none⟩)] wq fun e w' => e = .returned (.string ⟨(shownX z).toArray⟩) ∧ ∃ A', L2 w A' f p now cash units x f1 p1 y f2 p2 n2 c2 u2 z vl vs nl ns mB om w' := by
  refine (fla_shown h.wh ok st h0 h1 hj).mono ?_
  rintro e w' ⟨B, rfl, F, G⟩
  exact ⟨rfl, h.s2 F G⟩
theorem l2_moves0 (h : L2 w A f p now cash units x f1 p1 y f2 p2 n2 c2 u2 z vl vs nl ns mB om wq) (ok : Ex.Ok x) (h0 : 0 ≤ now) (h1 : now ≤ 1152921504606846976) (hj : x.jr.length ≤ 1099511627776) (hc : -1152921504606846976 ≤ cash ∧ cash ≤ 1152921504606846976) (hu : -1152921504606846976 ≤ units ∧ units ≤ 1152921504606846976) (K W N : Int) (hK : I64 K) (hW : I64 W) (hN : I64 N) :
    Calls Try.prog 27 #[.pointer (some ⟨f, 0, none⟩), .agg #[.int .i64 K, .int .i64 W, .int .i64 N]] wq fun e w' => e = .returned (.string ⟨((Ex.doX x (mvNow now K N) (mvReq K W N)).2).toArray⟩) ∧ ∃ A' c' u', L2 w A' f p (mvNow now K N) c' u' (Ex.doX x (mvNow now K N) (mvReq K W N)).1 f1 p1 y f2 p2 n2 c2 u2 z vl vs nl ns mB om w' := by
  refine (fla_moves h.fl ok K W N hK hW hN h0 h1 hj hc hu).mono ?_
  rintro e w' ⟨B, rfl, F, G⟩
  obtain ⟨A', q⟩ := h.s0 F G
  exact ⟨rfl, A', _, _, q⟩
theorem l2_moves2 (h : L2 w A f p now cash units x f1 p1 y f2 p2 n2 c2 u2 z vl vs nl ns mB om wq) (ok : Ex.Ok z) (h0 : 0 ≤ n2) (h1 : n2 ≤ 1152921504606846976) (hj : z.jr.length ≤ 1099511627776) (hc : -1152921504606846976 ≤ c2 ∧ c2 ≤ 1152921504606846976) (hu : -1152921504606846976 ≤ u2 ∧ u2 ≤ 1152921504606846976) (K W N : Int) (hK : I64 K) (hW : I64 W) (hN : I64 N) :
    Calls Try.prog 27 #[.pointer (some ⟨f2, 0, none⟩), .agg #[.int .i64 K, .int .i64 W, .int .i64 N]] wq fun e w' => e = .returned (.string ⟨((Ex.doX z (mvNow n2 K N) (mvReq K W N)).2).toArray⟩) ∧ ∃ A' c' u', L2 w A' f p now cash units x f1 p1 y f2 p2 (mvNow n2 K N) c' u' (Ex.doX z (mvNow n2 K N) (mvReq K W N)).1 vl vs nl ns mB om w' := by
  refine (fla_moves h.wh ok K W N hK hW hN h0 h1 hj hc hu).mono ?_
  rintro e w' ⟨B, rfl, F, G⟩
  obtain ⟨A', q⟩ := h.s2 F G
  exact ⟨rfl, A', _, _, q⟩
end
/-- a new floor over an exchange. -/
theorem fla_new {w : World} {S : Nat → Prop} {p : Nat} {x : Ex.Xch} (h : RepX w S p x) : FlA (w.alloc (.cells #[.pointer (some ⟨p, 0, none⟩), .int .i64 0, .int .i64 0, .int .i64 0] 61)) (fun k => S k ∨ k = w.heap.size) w.heap.size p 0 0 0 x := by
  refine ⟨S, ⟨heap_alloc_new w _, rep_keep h (fun k hk => Below.heap_alloc w _ k (rep_low h k hk)), fun hs => ?_⟩, fun k => Iff.rfl⟩
  have := rep_low h _ hs
  omega
/-- the two that were opened beside the first. -/
theorem l2_init {w wq w4 : World} {A : Nat → Nat → Prop} {f p : Nat} {x : Ex.Xch} {now : Int} {vl vs : Value} {nl : List Nat} {ns : List (List UInt8)} {cB mB : Nat} {oc om : Obj} (h : L1 w A f p x now vl vs nl ns cB mB oc om wq) (b : Below wq.heap.size wq w4) {B1 B2 : Nat → Prop} {f1 p1 f2 p2 : Nat} {y z : Ex.Xch} (h1 : FlA w4 B1 f1 p1 0 0 0 y) (h2 : FlA w4 B2 f2 p2 0 0 0 z) (n1 : ∀ k, B1 k → wq.heap.size ≤ k) (n2 : ∀ k, B2 k → wq.heap.size ≤ k) (ap : ∀ k, B1 k → ¬ B2 k) :
    ∃ A', L2 w A' f p now (Ex.allCash x) (Ex.allUnits x) x f1 p1 y f2 p2 0 0 0 z vl vs nl ns mB om w4 := by
  have q := h.up b
  have e : ∀ i, i ≠ 1 → i ≠ 2 → Ex.upd (Ex.upd A 1 B1) 2 B2 i = A i := fun i h1 h2 => by rw [Ex.upd_ne _ _ h2, Ex.upd_ne _ _ h1]
  have e1 : Ex.upd (Ex.upd A 1 B1) 2 B2 1 = B1 := by rw [Ex.upd_ne _ _ (by decide), Ex.upd_same]
  have e2 : Ex.upd (Ex.upd A 1 B1) 2 B2 2 = B2 := Ex.upd_same _ _ _
  have d1 : Dis (Ex.upd A 1 B1) w4 := by
    refine ⟨fun i j hij k ha hb => ?_, fun i k ha => ?_⟩
    · by_cases i1 : i = 1
      · subst i1
        rw [Ex.upd_same] at ha
        rw [Ex.upd_ne _ _ (fun e => hij e.symm)] at hb
        have := h.dis.lt j k hb
        have := n1 k ha
        omega
      · rw [Ex.upd_ne _ _ i1] at ha
        by_cases j1 : j = 1
        · subst j1
          rw [Ex.upd_same] at hb
          have := h.dis.lt i k ha
          have := n1 k hb
          omega
        · rw [Ex.upd_ne _ _ j1] at hb
          exact h.dis.ap i j hij k ha hb
    · by_cases i1 : i = 1
      · subst i1
        rw [Ex.upd_same] at ha
        exact h1.lt k ha
      · rw [Ex.upd_ne _ _ i1] at ha
        exact q.dis.lt i k ha
  have old : ∀ i k, i ≠ 2 → Ex.upd A 1 B1 i k → k < wq.heap.size ∨ B1 k := fun i k _ ha => by
    by_cases i1 : i = 1
    · subst i1
      rw [Ex.upd_same] at ha
      exact Or.inr ha
    · rw [Ex.upd_ne _ _ i1] at ha
      exact Or.inl (h.dis.lt i k ha)
  have d2 : Dis (Ex.upd (Ex.upd A 1 B1) 2 B2) w4 := by
    refine ⟨fun i j hij k ha hb => ?_, fun i k ha => ?_⟩
    · by_cases i1 : i = 2
      · subst i1
        rw [Ex.upd_same] at ha
        rw [Ex.upd_ne _ _ (fun e => hij e.symm)] at hb
        rcases old j k (fun e => hij e.symm) hb with e | e
        · have := n2 k ha
          omega
        · exact ap k e ha
      · rw [Ex.upd_ne _ _ i1] at ha
        by_cases j1 : j = 2
        · subst j1
          rw [Ex.upd_same] at hb
          rcases old i k i1 ha with e | e
          · have := n2 k hb
            omega
          · exact ap k e hb
        · rw [Ex.upd_ne _ _ j1] at hb
          exact d1.ap i j hij k ha hb
    · by_cases i1 : i = 2
      · subst i1
        rw [Ex.upd_same] at ha
        exact h2.lt k ha
      · rw [Ex.upd_ne _ _ i1] at ha
        exact d1.lt i k ha
  refine ⟨Ex.upd (Ex.upd A 1 B1) 2 B2, d2, by rw [e 0 (by decide) (by decide)]; exact q.fl, by rw [e1]; exact h1, by rw [e2]; exact h2, q.il, fun k => by rw [e 3 (by decide) (by decide)]; exact q.ia k, q.ts, fun k => by rw [e 4 (by decide) (by decide)]; exact q.ta k, q.mb, fun k => by rw [e 6 (by decide) (by decide)]; exact q.ma k, fun i k ha => ?_, q.bel⟩
  by_cases i2 : i = 2
  · subst i2
    rw [e2] at ha
    exact Nat.le_trans h.bel.size (n2 k ha)
  · by_cases i1 : i = 1
    · subst i1
      rw [e1] at ha
      exact Nat.le_trans h.bel.size (n1 k ha)
    · rw [e i i1 i2] at ha
      exact h.low i k ha

theorem fl_keep {w w' : World} {S : Nat → Prop} {f p : Nat} {x : Ex.Xch} (h : FlA w S f p 0 0 0 x) (b : Below w.heap.size w w') : FlA w' S f p 0 0 0 x := h.keep (fun k hk => b.block k (h.lt k hk))
theorem l2_two {w wq w1 w2 : World} {A : Nat → Nat → Prop} {f p : Nat} {x : Ex.Xch} {now : Int} {vl vs : Value} {nl : List Nat} {ns : List (List UInt8)} {cB mB : Nat} {oc om : Obj} (h : L1 w A f p x now vl vs nl ns cB mB oc om wq) (b1 : Below wq.heap.size wq w1) (b2 : Below w1.heap.size w1 w2) {S1 S2 : Nat → Prop} {p1 p2 : Nat} {y z : Ex.Xch} (r1 : RepX w2 S1 p1 y) (r2 : RepX w2 S2 p2 z) (n1 : ∀ k, S1 k → wq.heap.size ≤ k) (l1 : ∀ k, S1 k → k < w1.heap.size) (n2 : ∀ k, S2 k → w1.heap.size ≤ k) :
    ∃ A', L2 w A' f p now (Ex.allCash x) (Ex.allUnits x) x w2.heap.size p1 y (w2.heap.size + 1) p2 0 0 0 z vl vs nl ns mB om ((w2.alloc (.cells #[.pointer (some ⟨p1, 0, none⟩), .int .i64 0, .int .i64 0, .int .i64 0] 61)).alloc (.cells #[.pointer (some ⟨p2, 0, none⟩), .int .i64 0, .int .i64 0, .int .i64 0] 61)) := by
  obtain ⟨W3, hW3⟩ : ∃ W3, W3 = w2.alloc (.cells #[.pointer (some ⟨p1, 0, none⟩), .int .i64 0, .int .i64 0, .int .i64 0] 61) := ⟨_, rfl⟩
  have s3 : W3.heap.size = w2.heap.size + 1 := by rw [hW3]; simp
  have b3 : Below w2.heap.size w2 W3 := by rw [hW3]; exact (Below.refl _ w2).alloc (Nat.le_refl _) _
  have F1 : FlA W3 (fun k => S1 k ∨ k = w2.heap.size) w2.heap.size p1 0 0 0 y := by rw [hW3]; exact fla_new r1
  have r2' : RepX W3 S2 p2 z := rep_keep r2 (fun k hk => b3.block k (rep_low r2 k hk))
  have F2 := fla_new r2'
  rw [s3] at F2
  rw [← hW3]
  have b4 : Below W3.heap.size W3 (W3.alloc (.cells #[.pointer (some ⟨p2, 0, none⟩), .int .i64 0, .int .i64 0, .int .i64 0] 61)) := (Below.refl _ W3).alloc (Nat.le_refl _) _
  have z1 := b1.size
  have z2 := b2.size
  refine l2_init h (blw_tr (blw_tr (blw_tr b1 b2) b3) b4) (fl_keep F1 b4) F2 (fun k hk => ?_) (fun k hk => ?_) (fun k hk hk2 => ?_)
  · rcases hk with e | e
    · exact n1 k e
    · omega
  · rcases hk with e | e
    · have := n2 k e
      omega
    · omega
  · rcases hk with e | e
    · have q1 := l1 k e
      rcases hk2 with e2 | e2
      · have := n2 k e2
        omega
      · omega
    · rcases hk2 with e2 | e2
      · have := rep_low r2 k e2
        omega
      · omega
end Go.Proofs.Ytjfifaooimgbaaa
