import Derived.Test.YtjfifaooimgbaaaSettle
import Derived.Laws.FloatArith
/- The walks of mark and shareOf. -/
namespace Go.Proofs.Ytjfifaooimgbaaa
open Go.Shelf Go.RowKit Go.Lib Go.Sort

theorem gb_refl (w : World) (r : Option Nat) : w.grownBy w r := ⟨rfl, rfl, rfl, Nat.le_refl _, fun _ _ _ => rfl⟩
theorem gb_trans {a b c : World} {r : Option Nat} (h : a.grownBy b r) (k : b.grownBy c r) : a.grownBy c r :=
  ⟨k.os.trans h.os, k.tape.trans h.tape, k.output.trans h.output, Nat.le_trans h.size k.size, fun i hi hr => (k.block i (Nat.lt_of_lt_of_le hi h.size) hr).trans (h.block i hi hr)⟩
theorem gb_alloc {a b : World} {r : Option Nat} (h : a.grownBy b r) (o : Obj) : a.grownBy (b.alloc o) r := gb_trans h (World.grownBy_alloc b o r)
theorem gb_set {a b : World} {F : Nat} (h : a.grownBy b (some F)) (o : Nat) (v : Value) : a.grownBy (b.setCell ⟨F, o, none⟩ v) (some F) :=
  gb_trans h ⟨rfl, rfl, rfl, by simp [World.setCell], fun k _ hne => Below.heap_setCell b ⟨F, o, none⟩ v k (fun e => hne (by rw [e]))⟩
theorem gb_gr {w w' : World} (h : Gr w w') (r : Option Nat) : w.grownBy w' r := ⟨h.below.os, h.below.tape, h.below.output, h.below.size, fun k hk _ => h.below.block k hk⟩

/-- the block F holds these bools, and nothing else. -/
def BoolsAt (w : World) (F : Nat) (fl : List Bool) : Prop := w.heap[F]? = some (.cells (fl.map Value.bool).toArray 4 (0, 0))
theorem BoolsAt.cell {w : World} {F : Nat} {fl : List Bool} (h : BoolsAt w F fl) {i : Nat} (hi : i < fl.length) : w.cell? ⟨F, i, none⟩ = some (.bool (fl.getD i false)) := by
  unfold BoolsAt at h
  simp only [World.cell?, h]
  simp [hi, List.getD_eq_getElem?_getD]
theorem BoolsAt.frozen {w : World} {F : Nat} {fl : List Bool} (h : BoolsAt w F fl) (i : Nat) : w.frozen? ⟨F, i, none⟩ = false := by
  unfold BoolsAt at h
  simp [World.frozen?, h]
theorem BoolsAt.set {w : World} {F : Nat} {fl : List Bool} (h : BoolsAt w F fl) (i : Nat) (b : Bool) : BoolsAt (w.setCell ⟨F, i, none⟩ (.bool b)) F (fl.set i b) := by
  have h' := h
  unfold BoolsAt at h ⊢
  simp [World.setCell, Array.getElem?_modify, h, List.map_set]
theorem BoolsAt.lt {w : World} {F : Nat} {fl : List Bool} (h : BoolsAt w F fl) : F < w.heap.size := (Array.getElem?_eq_some_iff.1 h).1
theorem BoolsAt.kept {w w' : World} {F G : Nat} {fl : List Bool} (h : BoolsAt w F fl) (g : w.grownBy w' (some G)) (hne : F ≠ G) : BoolsAt w' F fl := (g.block F h.lt (fun e => hne (by injection e))).trans h
theorem BidsAt.gb {w w' : World} {a : Option Addr} {s : List (Int × Int)} {F : Nat} (h : BidsAt w a s) (g : w.grownBy w' (some F)) (hne : ∀ b o, a = some ⟨b, o, none⟩ → 0 < s.length → b ≠ F) : BidsAt w' a s := fun i hi => by
  obtain ⟨b, o, ha, h1, h2, h3⟩ := h i hi
  have e := g.block b h1 (fun e => hne b o ha (by omega) (by injection e))
  exact ⟨b, o, ha, Nat.lt_of_lt_of_le h1 g.size, (World.cell?_of_block (a := ⟨b, o + i * 2, none⟩) e).trans h2, (World.cell?_of_block (a := ⟨b, o + i * 2 + 1, none⟩) e).trans h3⟩

/-- the places of the first k are set. -/
def markF (s : List (Int × Int)) (fl : List Bool) : Nat → List Bool
  | 0 => fl
  | k + 1 => (markF s fl k).set (s.getD k (0, 0)).1.toNat true
theorem markF_length (s : List (Int × Int)) (fl : List Bool) : ∀ k, (markF s fl k).length = fl.length
  | 0 => rfl
  | k + 1 => by rw [markF, List.length_set]; exact markF_length s fl k

set_option maxHeartbeats 1000000 in
theorem mark_any (a : Option Addr) (cap capF F : Nat) (no : Int) (s : List (Int × Int)) (n : Nat) (fl : List Bool) (w : World) (hB : BidsAt w a s) (hF : BoolsAt w F fl) (hne : ∀ b o, a = some ⟨b, o, none⟩ → 0 < s.length → b ≠ F)
    (hp : ∀ x ∈ s, 0 ≤ x.1 ∧ x.1 < (fl.length : Int)) (hn : n ≤ s.length) (hc : s.length ≤ cap) (hs : s.length ≤ 8796093022208) :
    Calls Try.prog 58 #[.agg #[.slice a s.length cap, .int .i64 no], .slice (some ⟨F, 0, none⟩) fl.length capF, .int .i64 n] w fun e w' => e = .returned (.tuple #[]) ∧ BoolsAt w' F (markF s fl n) ∧ w.grownBy w' (some F) := by
  have HB : Aside _ := hB
  have HF : Aside _ := hF
  have HN : Aside _ := hne
  have HP : Aside _ := hp
  clear hB hF hne hp
  go_enter Try.func58, Try.ntmps58
  go_wp2
  obtain ⟨W0, hW0⟩ : ∃ W0, W0 = w.alloc (Obj.cells #[Value.slice a s.length cap, Value.int IntKind.i64 no] 109) := ⟨_, rfl⟩
  have g0 : w.grownBy W0 (some F) := by rw [hW0]; exact gb_alloc (gb_refl w _) _
  have f0 : BoolsAt W0 F fl := by
    rw [hW0]
    exact (Below.heap_alloc w _ F (BoolsAt.lt HF.out)).trans HF.out
  rw [← hW0]
  clear hW0
  have G0 : Aside _ := g0
  have F0 : Aside _ := f0
  clear g0 f0
  go_loopg [13] n (fun kx t wr => ∃ k : Nat, t = .int .i64 k ∧ k ≤ n ∧ n - k ≤ kx ∧ Aside (BoolsAt wr F (markF s fl k)) ∧ Aside (w.grownBy wr (some F)))
  case atStart => exact ⟨0, rfl, by omega, by omega, F0, G0⟩
  case round =>
    clear F0 G0
    obtain ⟨k, rfl, hk, hkx, BO, G⟩ := hrel
    by_cases hlt : k < n
    · have hltz : (k : Int) < (n : Int) := by omega
      obtain ⟨b, o, rfl, h1, h2, h3⟩ := (BidsAt.gb HB.out G.out HN.out) k (by omega)
      have hbF : b ≠ F := HN.out b o rfl (by omega)
      have hpl := HP.out (s.getD k (0, 0)) (by rw [List.getD_eq_getElem?_getD, List.getElem?_eq_getElem (show k < s.length by omega)]; exact List.getElem_mem _)
      have EM : Aside (markF s fl (k + 1) = (markF s fl k).set (s.getD k (0, 0)).1.toNat true) := rfl
      generalize (s.getD k (0, 0)).2 = x2 at h3
      generalize (s.getD k (0, 0)).1 = x1 at h2 hpl EM
      obtain ⟨pn, rfl⟩ := Int.eq_ofNat_of_zero_le hpl.1
      rw [Int.toNat_natCast] at EM
      have hpn : pn < fl.length := by omega
      have hpz : (pn : Int) < (fl.length : Int) := by omega
      have hcF : (wr.alloc (Obj.cells #[Value.int IntKind.i64 (pn : Int), Value.int IntKind.i64 x2] 139)).cell? ⟨F, pn, none⟩ = some (.bool ((markF s fl k).getD pn false)) := by
        rw [World.cell?_of_block (Below.heap_alloc wr _ F BO.out.lt)]
        exact BO.out.cell (by rw [markF_length]; exact hpn)
      have hfF : (wr.alloc (Obj.cells #[Value.int IntKind.i64 (pn : Int), Value.int IntKind.i64 x2] 139)).frozen? ⟨F, pn, none⟩ = false := by
        rw [World.frozen?_of_block (Below.heap_alloc wr _ F BO.out.lt)]
        exact BO.out.frozen pn
      have BO2 : Aside (BoolsAt ((wr.alloc (Obj.cells #[Value.int IntKind.i64 (pn : Int), Value.int IntKind.i64 x2] 139)).setCell ⟨F, pn, none⟩ (.bool true)) F (markF s fl (k + 1))) := by
        show BoolsAt _ _ _
        rw [EM.out]
        exact BoolsAt.set ((Below.heap_alloc wr _ F BO.out.lt).trans BO.out) pn true
      have G2 : Aside (w.grownBy ((wr.alloc (Obj.cells #[Value.int IntKind.i64 (pn : Int), Value.int IntKind.i64 x2] 139)).setCell ⟨F, pn, none⟩ (.bool true)) (some F)) := gb_set (gb_alloc G.out _) pn _
      clear BO G EM hpl
      go_wp2
      go_roundg (n - (k + 1))
      case measure => omega
      case rel => exact ⟨k + 1, by go_num, by omega, Nat.le_refl _, BO2, G2⟩
    · have e : k = n := by omega
      subst e
      have hltz : ¬ (k : Int) < (k : Int) := by omega
      go_wp2
      go_end0
      exact ⟨rfl, BO.out, G.out⟩

/-- the share's bits. -/
def shareB (a b : Int) : Nat := if b = 0 then 4607182418800017408 else (Ieee.double.div (floatOfInt .f64 a) (floatOfInt .f64 b)).getD 0

set_option maxHeartbeats 1000000 in
theorem shareOf_any (a b : Int) (w : World) (r : Nat) (hr : b ≠ 0 → Ieee.double.div (floatOfInt .f64 a) (floatOfInt .f64 b) = some r) : Calls Try.prog 59 #[.int .i64 a, .int .i64 b] w fun e w' => e = .returned (.float .f64 (shareB a b)) ∧ w' = w := by
  by_cases h : b = 0
  · subst h
    go_enter Try.func59, Try.ntmps59
    go_wp2
    go_ret
    exact ⟨rfl, rfl⟩
  · have e : shareB a b = r := by unfold shareB; rw [if_neg h, hr h]; rfl
    have hq : ∀ w, Sem.run Try.prog (binOp .quo 115 (.float .f64 (floatOfInt .f64 a)) (.float .f64 (floatOfInt .f64 b))) w = .ok (.float .f64 r) w := fun w => run_float_arith w .quo 115 .f64 _ _ r (hr h)
    have hz : (b == 0) = false := beq_eq_false_iff_ne.2 h
    rw [e]
    clear hr e h
    go_enter Try.func59, Try.ntmps59
    go_wp2
    go_ret
    exact ⟨rfl, rfl⟩
end Go.Proofs.Ytjfifaooimgbaaa
/- Whole numbers as float64, and their quotient: no program in this text. -/
namespace Go.Proofs.Ytjfifaooimgbaaa.Flt
open Ieee

theorem d_binade : double.binade = 4503599627370496 := rfl
theorem d_least : double.leastPlace = -1074 := rfl
theorem d_inf : double.infRung = 9218868437227405312 := rfl
theorem d_sign : double.signWeight = 9223372036854775808 := rfl
theorem d_frac : double.fractionBits = 52 := rfl

theorem log2_bd (n : Nat) (h0 : 0 < n) : 2 ^ n.log2 ≤ n ∧ n < 2 ^ (n.log2 + 1) := ⟨Nat.log2_self_le (by omega), Nat.lt_log2_self⟩
theorem log2_lt (n : Nat) (h0 : 0 < n) (h : n < 9007199254740992) : n.log2 ≤ 52 := by
  have := (Nat.log2_lt (n := n) (k := 53) (by omega)).2 (by simpa using h)
  omega

/-- the significand of n: 53 binary digits. -/
def sig (n : Nat) : Nat := n * 2 ^ (52 - n.log2)
theorem sig_bd (n : Nat) (h0 : 0 < n) (h : n < 9007199254740992) : 4503599627370496 ≤ sig n ∧ sig n < 9007199254740992 := by
  have hl := log2_lt n h0 h
  have hb := log2_bd n h0
  unfold sig
  have e1 : 2 ^ n.log2 * 2 ^ (52 - n.log2) = 4503599627370496 := by
    rw [← Nat.pow_add, show n.log2 + (52 - n.log2) = 52 by omega]
  have e2 : 2 ^ (n.log2 + 1) * 2 ^ (52 - n.log2) = 9007199254740992 := by
    rw [← Nat.pow_add, show n.log2 + 1 + (52 - n.log2) = 53 by omega]
  constructor
  · rw [← e1]; exact Nat.mul_le_mul_right _ hb.1
  · rw [← e2]; exact Nat.mul_lt_mul_of_pos_right hb.2 (Nat.pow_pos (by omega))

theorem cut_none (n : Nat) : Toward.even.cut false n 0 = n := by
  simp [Toward.cut, Nat.mod_one]

theorem nearest_whole (n : Nat) (h0 : 0 < n) (h : n < 9007199254740992) : double.nearest false n 0 = (1022 + n.log2) * 4503599627370496 + sig n := by
  have hl := log2_lt n h0 h
  have hs := sig_bd n h0 h
  unfold Format.nearest
  rw [if_neg (by omega), d_frac, d_least, d_binade, d_inf]
  have e1 : max ((0 : Int) + (n.log2 : Int) - ((52 : Nat) : Int)) (-1074) = (n.log2 : Int) - 52 := by omega
  have e2 : ((0 : Int) - ((n.log2 : Int) - 52)).toNat = 52 - n.log2 := by omega
  have e3 : ((n.log2 : Int) - 52 - 0).toNat = 0 := by omega
  have e4 : ((n.log2 : Int) - 52 - -1074).toNat = 1022 + n.log2 := by omega
  simp only [e1, e2, e3, e4, cut_none]
  have e5 : n <<< (52 - n.log2) = sig n := by rw [Nat.shiftLeft_eq]; rfl
  rw [e5]
  have e6 : (1022 + n.log2) * 4503599627370496 + sig n ≤ 9218868437227405312 := by omega
  rw [Nat.min_eq_left e6]
  rfl

theorem read_whole (n : Nat) (h0 : 0 < n) (h : n < 9007199254740992) : double.read ((1022 + n.log2) * 4503599627370496 + sig n) = .number false (sig n) ((n.log2 : Int) - 52) := by
  have hl := log2_lt n h0 h
  have hs := sig_bd n h0 h
  unfold Format.read
  rw [d_sign, d_binade, d_inf, d_least]
  have e1 : ((1022 + n.log2) * 4503599627370496 + sig n) / 9223372036854775808 = 0 := Nat.div_eq_of_lt (by omega)
  have e2 : ((1022 + n.log2) * 4503599627370496 + sig n) % 9223372036854775808 = (1022 + n.log2) * 4503599627370496 + sig n := Nat.mod_eq_of_lt (by omega)
  have e3 : ((1022 + n.log2) * 4503599627370496 + sig n) % 4503599627370496 = sig n - 4503599627370496 := by omega
  have e4 : ((1022 + n.log2) * 4503599627370496 + sig n) / 4503599627370496 = 1023 + n.log2 := by omega
  simp only [e1, e2, e3, e4]
  rw [if_neg (by omega), if_pos (by omega)]
  have e5 : 4503599627370496 + (sig n - 4503599627370496) = sig n := by omega
  have e6 : (-1074 : Int) + ((1023 + n.log2 - 1 : Nat) : Int) = (n.log2 : Int) - 52 := by omega
  rw [e5, e6]
  rfl

theorem ofInt_whole (n : Nat) (h0 : 0 < n) (h : n < 9007199254740992) : double.read (floatOfInt .f64 (n : Int)) = .number false (sig n) ((n.log2 : Int) - 52) := by
  have e : floatOfInt .f64 (n : Int) = double.nearest false n 0 := by
    show double.write (.number (decide ((n : Int) < 0)) (n : Int).natAbs 0) = _
    rw [decide_eq_false (by omega), Int.natAbs_natCast]; rfl
  rw [e, nearest_whole n h0 h, read_whole n h0 h]
theorem ofInt_zero : double.read (floatOfInt .f64 0) = .number false 0 (-1074) := by kernel_rfl

theorem log2_sig (n : Nat) (h0 : 0 < n) (h : n < 9007199254740992) : (sig n).log2 = 52 := by
  have hs := sig_bd n h0 h
  have h1 := (Nat.log2_lt (n := sig n) (k := 53) (by omega)).2 (by omega)
  have h2 : ¬ (sig n).log2 < 52 := fun hc => by
    have := (Nat.log2_lt (n := sig n) (k := 52) (by omega)).1 hc
    omega
  omega

/-- the quotient's digits: 2 q + (1 where anything is left over). -/
def quoMag (m n : Nat) : Nat := 2 * (m * 18014398509481984 / n) + (m * 18014398509481984 % n != 0).toNat

theorem div_whole (a b : Nat) (ha : 0 < a) (ha' : a < 9007199254740992) (hb : 0 < b) (hb' : b < 9007199254740992) :
    double.div (floatOfInt .f64 (a : Int)) (floatOfInt .f64 (b : Int)) = some (double.nearest false (quoMag (sig a) (sig b)) ((a.log2 : Int) - (b.log2 : Int) - 55)) := by
  unfold Format.div
  rw [ofInt_whole a ha ha', ofInt_whole b hb hb']
  have hs := sig_bd b hb hb'
  unfold Datum.quotient
  simp only []
  rw [if_neg (by omega), log2_sig a ha ha', log2_sig b hb hb', d_frac]
  have e1 : 52 + 2 + 52 - 52 = 54 := by omega
  simp only [e1, Nat.shiftLeft_eq]
  have e2 : (a.log2 : Int) - 52 - ((b.log2 : Int) - 52) - ((54 : Nat) : Int) - 1 = (a.log2 : Int) - (b.log2 : Int) - 55 := by omega
  simp only [Option.map_some, e2]
  rfl

theorem div_zero (b : Nat) (hb : 0 < b) (hb' : b < 9007199254740992) : double.div (floatOfInt .f64 0) (floatOfInt .f64 (b : Int)) = some 0 := by
  unfold Format.div
  rw [ofInt_zero, ofInt_whole b hb hb']
  have hs := sig_bd b hb hb'
  unfold Datum.quotient
  simp only []
  rw [if_neg (by omega)]
  simp [Format.write, Format.nearest, Format.word]
end Go.Proofs.Ytjfifaooimgbaaa.Flt
/- What a clearing comes to, as a plain function of the orders. -/
namespace Go.Proofs.Ytjfifaooimgbaaa
open Go.Shelf Go.RowKit Go.Lib Go.Sort

def bLt (x y : Int × Int) : Bool := decide (y.2 < x.2 ∨ (x.2 = y.2 ∧ x.1 < y.1))
def sLt (x y : Int × Int) : Bool := decide (x.2 < y.2 ∨ (x.2 = y.2 ∧ x.1 < y.1))
def buyersOf (l : List (Int × Int)) : List (Int × Int) := (Clr.cand 0 l).mergeSort (fun x y => !bLt y x)
def sellersOf (l : List (Int × Int)) : List (Int × Int) := (Clr.cand 1 l).mergeSort (fun x y => !sLt y x)

theorem bLt_iff (x y : Int × Int) : bLt x y = true ↔ (y.2 < x.2 ∨ (x.2 = y.2 ∧ x.1 < y.1)) := decide_eq_true_iff
theorem bLt_no (x y : Int × Int) : bLt x y = false ↔ ¬ (y.2 < x.2 ∨ (x.2 = y.2 ∧ x.1 < y.1)) := decide_eq_false_iff_not
theorem sLt_iff (x y : Int × Int) : sLt x y = true ↔ (x.2 < y.2 ∨ (x.2 = y.2 ∧ x.1 < y.1)) := decide_eq_true_iff
theorem sLt_no (x y : Int × Int) : sLt x y = false ↔ ¬ (x.2 < y.2 ∨ (x.2 = y.2 ∧ x.1 < y.1)) := decide_eq_false_iff_not
theorem swo_bLt : SWO bLt where
  irrefl x := (bLt_no x x).2 (by omega)
  trans x y z h1 h2 := (bLt_iff x z).2 (by have := (bLt_iff x y).1 h1; have := (bLt_iff y z).1 h2; omega)
  ntrans x y z h1 h2 := (bLt_no x z).2 (by have := (bLt_no x y).1 h1; have := (bLt_no y z).1 h2; omega)
theorem swo_sLt : SWO sLt where
  irrefl x := (sLt_no x x).2 (by omega)
  trans x y z h1 h2 := (sLt_iff x z).2 (by have := (sLt_iff x y).1 h1; have := (sLt_iff y z).1 h2; omega)
  ntrans x y z h1 h2 := (sLt_no x z).2 (by have := (sLt_no x y).1 h1; have := (sLt_no y z).1 h2; omega)

theorem toList_size (s : List (Int × Int)) : s.toArray.size = s.length := by simp
theorem buyers_eq {l s : List (Int × Int)} (h : Stab.Post (ltOf (cfO fun x y => cmpI y x)) (fun x : Int × Int => x.1) 0 (Clr.cand 0 l).length (Clr.cand 0 l).toArray s.toArray) : s = buyersOf l := by
  have hs : SortedIn bLt 0 (Clr.cand 0 l).toArray.size s.toArray := fun i j h1 h2 h3 => by
    have := h.sort i j h1 h2 (by simpa using h3)
    unfold Stab.Ls at this
    rw [ltOf_buy, ltOf_buy, decide_eq_true_eq, decide_eq_false_iff_not] at this
    simp only [] at this
    exact (bLt_no _ _).2 (by omega)
  have := sorted_unique_holds (lt := bLt) swo_bLt (fun x y h1 h2 => Prod.ext (by have := (bLt_no x y).1 h1; have := (bLt_no y x).1 h2; omega) (by have := (bLt_no x y).1 h1; have := (bLt_no y x).1 h2; omega)) (Clr.cand 0 l).toArray s.toArray (by rw [toList_size]; exact h.perm) hs
  simpa [buyersOf] using this
theorem sellers_eq {l s : List (Int × Int)} (h : Stab.Post (ltOf (cfO cmpI)) (fun x : Int × Int => x.1) 0 (Clr.cand 1 l).length (Clr.cand 1 l).toArray s.toArray) : s = sellersOf l := by
  have hs : SortedIn sLt 0 (Clr.cand 1 l).toArray.size s.toArray := fun i j h1 h2 h3 => by
    have := h.sort i j h1 h2 (by simpa using h3)
    unfold Stab.Ls at this
    rw [ltOf_sell, ltOf_sell, decide_eq_true_eq, decide_eq_false_iff_not] at this
    simp only [] at this
    exact (sLt_no _ _).2 (by omega)
  have := sorted_unique_holds (lt := sLt) swo_sLt (fun x y h1 h2 => Prod.ext (by have := (sLt_no x y).1 h1; have := (sLt_no y x).1 h2; omega) (by have := (sLt_no x y).1 h1; have := (sLt_no y x).1 h2; omega)) (Clr.cand 1 l).toArray s.toArray (by rw [toList_size]; exact h.perm) hs
  simpa [sellersOf] using this

theorem buyers_perm (l : List (Int × Int)) : (buyersOf l).Perm (Clr.cand 0 l) := List.mergeSort_perm _ _
theorem sellers_perm (l : List (Int × Int)) : (sellersOf l).Perm (Clr.cand 1 l) := List.mergeSort_perm _ _
theorem buyers_priced (l : List (Int × Int)) : Priced (buyersOf l) := fun x hx => by
  have := Clr.candTo_place 0 l l.length x ((buyers_perm l).mem_iff.1 hx)
  exact ⟨this.2.2.1, this.2.2.2.1⟩
theorem sellers_priced (l : List (Int × Int)) : Priced (sellersOf l) := fun x hx => by
  have := Clr.candTo_place 1 l l.length x ((sellers_perm l).mem_iff.1 hx)
  exact ⟨this.2.2.1, this.2.2.2.1⟩
theorem buyers_place (l : List (Int × Int)) : ∀ x ∈ buyersOf l, 0 ≤ x.1 ∧ x.1 < (l.length : Int) := fun x hx => by
  have := Clr.candTo_place 0 l l.length x ((buyers_perm l).mem_iff.1 hx)
  exact ⟨this.1, this.2.1⟩
theorem sellers_place (l : List (Int × Int)) : ∀ x ∈ sellersOf l, 0 ≤ x.1 ∧ x.1 < (l.length : Int) := fun x hx => by
  have := Clr.candTo_place 1 l l.length x ((sellers_perm l).mem_iff.1 hx)
  exact ⟨this.1, this.2.1⟩
theorem buyers_le (l : List (Int × Int)) : (buyersOf l).length ≤ l.length := by rw [(buyers_perm l).length_eq]; exact Clr.candTo_le 0 l l.length
theorem sellers_le (l : List (Int × Int)) : (sellersOf l).length ≤ l.length := by rw [(sellers_perm l).length_eq]; exact Clr.candTo_le 1 l l.length

def kFrom (B S : List (Int × Int)) : Nat → Nat → Nat
  | 0, k => k
  | f + 1, k => if priceAt 1000 S k ≤ priceAt 0 B k then kFrom B S f (k + 1) else k
def kOf (B S : List (Int × Int)) : Nat := kFrom B S (B.length + 1) 0

theorem kFrom_is {B S : List (Int × Int)} (hB : Priced B) (hS : Priced S) : ∀ (f k : Nat), B.length + 1 ≤ k + f → (∀ i, i < k → priceAt 1000 S i ≤ priceAt 0 B i) → IsK B S (kFrom B S f k)
  | 0, k, h, hy => by
    have := (pair_in hB hS (hy (k - 1) (by omega))).1
    omega
  | f + 1, k, h, hy => by
    rw [kFrom]
    split
    · rename_i hc
      exact kFrom_is hB hS f (k + 1) (by omega) (fun i hi => by
        by_cases e : i = k
        · rw [e]; exact hc
        · exact hy i (by omega))
    · rename_i hc
      exact ⟨hy, by omega⟩
theorem kOf_is {B S : List (Int × Int)} (hB : Priced B) (hS : Priced S) : IsK B S (kOf B S) := kFrom_is hB hS _ _ (by omega) (fun i hi => by omega)
theorem IsK.unique {B S : List (Int × Int)} {k k' : Nat} (h : IsK B S k) (h' : IsK B S k') : k = k' := by
  rcases Nat.lt_trichotomy k k' with hl | he | hg
  · have := h'.yes k hl; have := h.no; omega
  · exact he
  · have := h.yes k' hg; have := h'.no; omega
theorem kOf_le {B S : List (Int × Int)} (hB : Priced B) (hS : Priced S) : kOf B S ≤ B.length ∧ kOf B S ≤ S.length := by
  have h := kOf_is hB hS
  by_cases h0 : kOf B S = 0
  · rw [h0]; omega
  · have := pair_in hB hS (h.yes (kOf B S - 1) (by omega)); omega
theorem settle_le (B S : List (Int × Int)) (k : Nat) : (settleF B S k).1 ≤ k := by
  unfold settleF
  split
  · omega
  · split
    · exact Nat.le_refl _
    · split
      · exact Nat.zero_le _
      · exact Nat.sub_le _ _

def kL (l : List (Int × Int)) : Nat := kOf (buyersOf l) (sellersOf l)
def setL (l : List (Int × Int)) : Nat × Int × Int := settleF (buyersOf l) (sellersOf l) (kL l)
def filledL (l : List (Int × Int)) : List Bool := markF (sellersOf l) (markF (buyersOf l) (List.replicate l.length false) (setL l).1) (setL l).1
def gainedL (l : List (Int × Int)) : Int := gainF (buyersOf l) (sellersOf l) (setL l).1
def canL (l : List (Int × Int)) : Int := gainF (buyersOf l) (sellersOf l) (kL l)
def shareL (l : List (Int × Int)) : Nat := shareB (gainedL l) (canL l)
theorem filledL_length (l : List (Int × Int)) : (filledL l).length = l.length := by
  unfold filledL; rw [markF_length, markF_length, List.length_replicate]
theorem setL_le (l : List (Int × Int)) : (setL l).1 ≤ kL l := settle_le _ _ _

theorem gainF_nonneg {B S : List (Int × Int)} {k : Nat} (h : ∀ i, i < k → priceAt 1000 S i ≤ priceAt 0 B i) : ∀ n, n ≤ k → 0 ≤ gainF B S n
  | 0, _ => by simp [gainF]
  | n + 1, hn => by
    have := gainF_nonneg h n (by omega)
    have := h n (by omega)
    rw [gainF]; omega
theorem gainF_mono {B S : List (Int × Int)} {k : Nat} (h : ∀ i, i < k → priceAt 1000 S i ≤ priceAt 0 B i) (n : Nat) : ∀ m, n ≤ m → m ≤ k → gainF B S n ≤ gainF B S m
  | 0, hn, _ => by rw [show n = 0 by omega]; omega
  | m + 1, hn, hm => by
    by_cases e : n = m + 1
    · rw [e]; omega
    · have := gainF_mono h n m (by omega) (by omega)
      have := h m (by omega)
      rw [gainF]; omega
theorem kL_is (l : List (Int × Int)) : IsK (buyersOf l) (sellersOf l) (kL l) := kOf_is (buyers_priced l) (sellers_priced l)
theorem kL_le (l : List (Int × Int)) : kL l ≤ (buyersOf l).length ∧ kL l ≤ (sellersOf l).length := kOf_le (buyers_priced l) (sellers_priced l)
theorem gain_bd (l : List (Int × Int)) : 0 ≤ gainedL l ∧ gainedL l ≤ canL l ∧ canL l ≤ 1000 * (l.length : Int) := by
  have h := (kL_is l).yes
  have h1 := setL_le l
  have h2 := (gainF_bd (buyers_priced l) (sellers_priced l) (kL l)).2
  have h3 := (kL_le l).1
  have h4 := buyers_le l
  exact ⟨gainF_nonneg h _ h1, gainF_mono h _ _ h1 (Nat.le_refl _), by unfold canL; omega⟩
theorem div_some (a b : Int) (h0 : 0 ≤ a) (h1 : a < 9007199254740992) (h2 : 0 < b) (h3 : b < 9007199254740992) : ∃ r, Ieee.double.div (floatOfInt .f64 a) (floatOfInt .f64 b) = some r := by
  obtain ⟨n, rfl⟩ := Int.eq_ofNat_of_zero_le h0
  obtain ⟨m, rfl⟩ := Int.eq_ofNat_of_zero_le (show 0 ≤ b by omega)
  by_cases e : n = 0
  · subst e; exact ⟨_, Flt.div_zero m (by omega) (by omega)⟩
  · exact ⟨_, Flt.div_whole n m (by omega) (by omega) (by omega) (by omega)⟩
theorem share_some (l : List (Int × Int)) (hl : l.length ≤ 8796093022208) : ∃ r, canL l ≠ 0 → Ieee.double.div (floatOfInt .f64 (gainedL l)) (floatOfInt .f64 (canL l)) = some r := by
  have h := gain_bd l
  by_cases e : canL l = 0
  · exact ⟨0, fun h => absurd e h⟩
  · obtain ⟨r, hr⟩ := div_some (gainedL l) (canL l) h.1 (by omega) (by omega) (by omega)
    exact ⟨r, fun _ => hr⟩
end Go.Proofs.Ytjfifaooimgbaaa
/- Who tells the truth loses nothing: plain mathematics of a clearing's outcome. -/
namespace Go.Proofs.Ytjfifaooimgbaaa
open Go.Sort

theorem buyers_sorted (l : List (Int × Int)) : (buyersOf l).Pairwise (fun x y => bLt y x = false) := by
  have := List.pairwise_mergeSort (le := fun x y => !bLt y x) (fun a b c h1 h2 => by
    simp only [Bool.not_eq_true'] at h1 h2 ⊢
    exact swo_bLt.ntrans c b a h2 h1) (fun a b => by
    cases h : bLt b a with
    | false => simp
    | true => simp [swo_bLt.asymmA h]) (Clr.cand 0 l)
  simpa [buyersOf] using this
theorem sellers_sorted (l : List (Int × Int)) : (sellersOf l).Pairwise (fun x y => sLt y x = false) := by
  have := List.pairwise_mergeSort (le := fun x y => !sLt y x) (fun a b c h1 h2 => by
    simp only [Bool.not_eq_true'] at h1 h2 ⊢
    exact swo_sLt.ntrans c b a h2 h1) (fun a b => by
    cases h : sLt b a with
    | false => simp
    | true => simp [swo_sLt.asymmA h]) (Clr.cand 1 l)
  simpa [sellersOf] using this

theorem getD_lt {s : List (Int × Int)} {i : Nat} (h : i < s.length) : s.getD i (0, 0) = s[i] := by
  rw [List.getD_eq_getElem?_getD, List.getElem?_eq_getElem h]; rfl
theorem priceAt_lt {no : Int} {s : List (Int × Int)} {i : Nat} (h : i < s.length) : priceAt no s i = s[i].2 := by
  unfold priceAt; rw [if_pos h, getD_lt h]
theorem priceAt_ge {no : Int} {s : List (Int × Int)} {i : Nat} (h : s.length ≤ i) : priceAt no s i = no := by
  unfold priceAt; rw [if_neg (by omega)]

theorem buyers_mono (l : List (Int × Int)) (i j : Nat) (h : i ≤ j) : priceAt 0 (buyersOf l) j ≤ priceAt 0 (buyersOf l) i := by
  by_cases hj : j < (buyersOf l).length
  · rw [priceAt_lt hj, priceAt_lt (show i < _ by omega)]
    by_cases e : i = j
    · subst e; omega
    · have := List.pairwise_iff_getElem.1 (buyers_sorted l) i j (by omega) hj (by omega)
      have := (bLt_no _ _).1 this
      omega
  · rw [priceAt_ge (show _ ≤ j by omega)]
    exact ((buyers_priced l).bd 0 (by omega) i).1
theorem sellers_mono (l : List (Int × Int)) (i j : Nat) (h : i ≤ j) : priceAt 1000 (sellersOf l) i ≤ priceAt 1000 (sellersOf l) j := by
  by_cases hj : j < (sellersOf l).length
  · rw [priceAt_lt hj, priceAt_lt (show i < _ by omega)]
    by_cases e : i = j
    · subst e; omega
    · have := List.pairwise_iff_getElem.1 (sellers_sorted l) i j (by omega) hj (by omega)
      have := (sLt_no _ _).1 this
      omega
  · rw [priceAt_ge (show _ ≤ j by omega)]
    exact ((sellers_priced l).bd 1000 (by omega) i).2

/-! ### one order is given another price -/
section
variable (l : List (Int × Int)) (i : Nat) (side : Int)
end

/-- where one's own order stands among the others. -/
structure Stands (X O : List (Int × Int)) (i : Nat) (p : Int) (A C : List (Int × Int)) : Prop where
  own : X = A ++ ((i : Int), p) :: C
  others : O = A ++ C

theorem Stands.lo {X O A C : List (Int × Int)} {i : Nat} {p no : Int} (h : Stands X O i p A C) (j : Nat) (hj : j < A.length) : priceAt no X j = A[j].2 ∧ priceAt no O j = A[j].2 := by
  rw [h.own, h.others, priceAt_lt (by simp; omega), priceAt_lt (by simp; omega), List.getElem_append_left hj, List.getElem_append_left hj]
  exact ⟨rfl, rfl⟩
theorem Stands.at {X O A C : List (Int × Int)} {i : Nat} {p no : Int} (h : Stands X O i p A C) : priceAt no X A.length = p := by
  rw [h.own, priceAt_lt (by simp)]
  simp
theorem Stands.hi {X O A C : List (Int × Int)} {i : Nat} {p no : Int} (h : Stands X O i p A C) (j : Nat) (hj : A.length ≤ j) : priceAt no X (j + 1) = priceAt no O j ∧ (priceAt no O j = no ∨ ∃ x ∈ C, priceAt no O j = x.2) := by
  rw [h.own, h.others]
  by_cases hc : j - A.length < C.length
  · have e1 : priceAt no (A ++ ((i : Int), p) :: C) (j + 1) = C[j - A.length].2 := by
      rw [priceAt_lt (by simp; omega), List.getElem_append_right (by omega)]
      simp [show j + 1 - A.length = (j - A.length) + 1 by omega]
    have e2 : priceAt no (A ++ C) j = C[j - A.length].2 := by
      rw [priceAt_lt (by simp; omega), List.getElem_append_right (by omega)]
    rw [e1, e2]
    exact ⟨rfl, Or.inr ⟨C[j - A.length], List.getElem_mem _, rfl⟩⟩
  · rw [priceAt_ge (by simp; omega), priceAt_ge (by simp; omega)]
    exact ⟨rfl, Or.inl rfl⟩

/-! ### who is filled -/
theorem markF_true (s : List (Int × Int)) (fl : List Bool) (j : Nat) (hj : j < fl.length) : ∀ n, (markF s fl n).getD j false = true ↔ (fl.getD j false = true ∨ ∃ t, t < n ∧ (s.getD t (0, 0)).1.toNat = j)
  | 0 => by
    rw [markF]
    exact ⟨Or.inl, fun h => h.elim id fun ⟨t, ht, _⟩ => absurd ht (Nat.not_lt_zero _)⟩
  | n + 1 => by
    have ih := markF_true s fl j hj n
    rw [markF]
    by_cases e : (s.getD n (0, 0)).1.toNat = j
    · have : ((markF s fl n).set (s.getD n (0, 0)).1.toNat true).getD j false = true := by
        rw [e, List.getD_eq_getElem?_getD, List.getElem?_set]
        simp [markF_length, hj]
      exact ⟨fun _ => Or.inr ⟨n, by omega, e⟩, fun _ => this⟩
    · have : ((markF s fl n).set (s.getD n (0, 0)).1.toNat true).getD j false = (markF s fl n).getD j false := by
        rw [List.getD_eq_getElem?_getD, List.getElem?_set, if_neg e, ← List.getD_eq_getElem?_getD]
      rw [this, ih]
      constructor
      · rintro (h | ⟨t, ht, h⟩)
        · exact Or.inl h
        · exact Or.inr ⟨t, by omega, h⟩
      · rintro (h | ⟨t, ht, h⟩)
        · exact Or.inl h
        · by_cases e' : t = n
          · rw [e'] at h; exact absurd h e
          · exact Or.inr ⟨t, by omega, h⟩

theorem filledL_true (l : List (Int × Int)) (j : Nat) (hj : j < l.length) : (filledL l).getD j false = true ↔ ∃ t, t < (setL l).1 ∧ (((buyersOf l).getD t (0, 0)).1.toNat = j ∨ ((sellersOf l).getD t (0, 0)).1.toNat = j) := by
  unfold filledL
  rw [markF_true _ _ _ (by rw [markF_length, List.length_replicate]; exact hj), markF_true _ _ _ (by rw [List.length_replicate]; exact hj)]
  have h0 : ¬ (List.replicate l.length false).getD j false = true := by
    rw [List.getD_eq_getElem?_getD]; simp [hj]
  constructor
  · rintro ((h | ⟨t, ht, h⟩) | ⟨t, ht, h⟩)
    · exact absurd h h0
    · exact ⟨t, ht, Or.inl h⟩
    · exact ⟨t, ht, Or.inr h⟩
  · rintro ⟨t, ht, h | h⟩
    · exact Or.inl (Or.inr ⟨t, ht, h⟩)
    · exact Or.inr ⟨t, ht, h⟩

theorem buyer_ok (l : List (Int × Int)) (t : Nat) (ht : t < (buyersOf l).length) : Clr.okB 0 (l.getD ((buyersOf l).getD t (0, 0)).1.toNat (0, 0)) = true := by
  rw [getD_lt ht]
  exact (Clr.candTo_place 0 l l.length _ ((buyers_perm l).mem_iff.1 (List.getElem_mem ht))).2.2.2.2.2
theorem seller_ok (l : List (Int × Int)) (t : Nat) (ht : t < (sellersOf l).length) : Clr.okB 1 (l.getD ((sellersOf l).getD t (0, 0)).1.toNat (0, 0)) = true := by
  rw [getD_lt ht]
  exact (Clr.candTo_place 1 l l.length _ ((sellers_perm l).mem_iff.1 (List.getElem_mem ht))).2.2.2.2.2
theorem fills_le (l : List (Int × Int)) : (setL l).1 ≤ (buyersOf l).length ∧ (setL l).1 ≤ (sellersOf l).length := by
  have := setL_le l; have := kL_le l; omega

theorem okB_side {side side' : Int} {b : Int × Int} (h : Clr.okB side b = true) (hs : b.1 = side') : side = side' := by
  simp only [Clr.okB, Bool.and_eq_true, beq_iff_eq] at h
  omega

/-! ### the posted price -/
def midB (x y : Int) : Int := (x + y) / 2
def midS (x y : Int) : Int := 1000 - ((1000 - y) + (1000 - x)) / 2

/-- what an order comes to, for one to whom the unit is worth v. -/
def gainV (l : List (Int × Int)) (i : Nat) (side v : Int) : Int := if (filledL l).getD i false = true then (if side = 0 then v - (setL l).2.1 else (setL l).2.2 - v) else 0

end Go.Proofs.Ytjfifaooimgbaaa
