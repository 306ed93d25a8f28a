import Derived.Test.YteeplklhbhaicaaSettle
import Derived.Laws.FloatArith
/- The walks of mark and shareOf. -/
namespace Go.Proofs.Yteeplklhbhaicaa
open Go.Shelf Go.RowKit Go.Lib Go.Sort

theorem gb_refl (w : World) (r : Option Nat) : w.grownBy w r := ⟨rfl, rfl, rfl, Nat.le_refl _, fun _ _ _ => rfl⟩
theorem gb_trans {a b c : World} {r : Option Nat} (h : a.grownBy b r) (k : b.grownBy c r) : a.grownBy c r :=
  ⟨k.os.trans h.os, k.tape.trans h.tape, k.output.trans h.output, Nat.le_trans h.size k.size, fun i hi hr => (k.block i (Nat.lt_of_lt_of_le hi h.size) hr).trans (h.block i hi hr)⟩
theorem gb_alloc {a b : World} {r : Option Nat} (h : a.grownBy b r) (o : Obj) : a.grownBy (b.alloc o) r := gb_trans h (World.grownBy_alloc b o r)
theorem gb_drew {a b : World} {r : Option Nat} (h : a.grownBy b r) : a.grownBy b.drew r := ⟨h.os, h.tape, h.output, h.size, h.block⟩
theorem gb_set {a b : World} {F : Nat} (h : a.grownBy b (some F)) (o : Nat) (v : Value) : a.grownBy (b.setCell ⟨F, o, none⟩ v) (some F) :=
  gb_trans h ⟨rfl, rfl, rfl, by simp [World.setCell], fun k _ hne => Below.heap_setCell b ⟨F, o, none⟩ v k (fun e => hne (by rw [e]))⟩
theorem gb_gr {w w' : World} (h : Gr w w') (r : Option Nat) : w.grownBy w' r := ⟨h.below.os, h.below.tape, h.below.output, h.below.size, fun k hk _ => h.below.block k hk⟩

/-- the block F holds these bools, and nothing else. -/
def BoolsAt (w : World) (F : Nat) (fl : List Bool) : Prop := w.heap[F]? = some (.cells (fl.map Value.bool).toArray 4 (0, 0))
theorem BoolsAt.cell {w : World} {F : Nat} {fl : List Bool} (h : BoolsAt w F fl) {i : Nat} (hi : i < fl.length) : w.cell? ⟨F, i, none⟩ = some (.bool (fl.getD i false)) := by
  unfold BoolsAt at h
  simp only [World.cell?, h]
  simp [hi, List.getD_eq_getElem?_getD]
theorem BoolsAt.frozen {w : World} {F : Nat} {fl : List Bool} (h : BoolsAt w F fl) (i : Nat) : w.frozen? ⟨F, i, none⟩ = false := by
  unfold BoolsAt at h
  simp [World.frozen?, h]
theorem BoolsAt.set {w : World} {F : Nat} {fl : List Bool} (h : BoolsAt w F fl) (i : Nat) (b : Bool) : BoolsAt (w.setCell ⟨F, i, none⟩ (.bool b)) F (fl.set i b) := by
  have h' := h
  unfold BoolsAt at h ⊢
  simp [World.setCell, Array.getElem?_modify, h, List.map_set]
theorem BoolsAt.lt {w : World} {F : Nat} {fl : List Bool} (h : BoolsAt w F fl) : F < w.heap.size := (Array.getElem?_eq_some_iff.1 h).1
theorem BoolsAt.kept {w w' : World} {F G : Nat} {fl : List Bool} (h : BoolsAt w F fl) (g : w.grownBy w' (some G)) (hne : F ≠ G) : BoolsAt w' F fl := (g.block F h.lt (fun e => hne (by injection e))).trans h
theorem BidsAt.gb {w w' : World} {a : Option Addr} {s : List (Int × Int)} {F : Nat} (h : BidsAt w a s) (g : w.grownBy w' (some F)) (hne : ∀ b o, a = some ⟨b, o, none⟩ → 0 < s.length → b ≠ F) : BidsAt w' a s := fun i hi => by
  obtain ⟨b, o, ha, h1, h2, h3⟩ := h i hi
  have e := g.block b h1 (fun e => hne b o ha (by omega) (by injection e))
  exact ⟨b, o, ha, Nat.lt_of_lt_of_le h1 g.size, (World.cell?_of_block (a := ⟨b, o + i * 2, none⟩) e).trans h2, (World.cell?_of_block (a := ⟨b, o + i * 2 + 1, none⟩) e).trans h3⟩

/-- the places of the first k are set. -/
def markF (s : List (Int × Int)) (fl : List Bool) : Nat → List Bool
  | 0 => fl
  | k + 1 => (markF s fl k).set (s.getD k (0, 0)).1.toNat true
theorem markF_length (s : List (Int × Int)) (fl : List Bool) : ∀ k, (markF s fl k).length = fl.length
  | 0 => rfl
  | k + 1 => by rw [markF, List.length_set]; exact markF_length s fl k

set_option maxHeartbeats 1000000 in
theorem mark_any (a : Option Addr) (cap capF F : Nat) (no : Int) (s : List (Int × Int)) (n : Nat) (fl : List Bool) (w : World) (hB : BidsAt w a s) (hF : BoolsAt w F fl) (hne : ∀ b o, a = some ⟨b, o, none⟩ → 0 < s.length → b ≠ F)
    (hp : ∀ x ∈ s, 0 ≤ x.1 ∧ x.1 < (fl.length : Int)) (hn : n ≤ s.length) (hc : s.length ≤ cap) (hs : s.length ≤ 8796093022208) :
    Calls Try.prog 54 #[.agg #[.slice a s.length cap, .int .i64 no], .slice (some ⟨F, 0, none⟩) fl.length capF, .int .i64 n] w fun e w' => e = .returned (.tuple #[]) ∧ BoolsAt w' F (markF s fl n) ∧ w.grownBy w' (some F) := by
  have HB : Aside _ := hB
  have HF : Aside _ := hF
  have HN : Aside _ := hne
  have HP : Aside _ := hp
  clear hB hF hne hp
  go_enter Try.func54, Try.ntmps54
  go_wp2
  obtain ⟨W0, hW0⟩ : ∃ W0, W0 = w.alloc (Obj.cells #[Value.slice a s.length cap, Value.int IntKind.i64 no] 102) := ⟨_, rfl⟩
  have g0 : w.grownBy W0 (some F) := by rw [hW0]; exact gb_alloc (gb_refl w _) _
  have f0 : BoolsAt W0 F fl := by
    rw [hW0]
    exact (Below.heap_alloc w _ F (BoolsAt.lt HF.out)).trans HF.out
  rw [← hW0]
  clear hW0
  have G0 : Aside _ := g0
  have F0 : Aside _ := f0
  clear g0 f0
  go_loopg [13] n (fun kx t wr => ∃ k : Nat, t = .int .i64 k ∧ k ≤ n ∧ n - k ≤ kx ∧ Aside (BoolsAt wr F (markF s fl k)) ∧ Aside (w.grownBy wr (some F)))
  case atStart => exact ⟨0, rfl, by omega, by omega, F0, G0⟩
  case round =>
    clear F0 G0
    obtain ⟨k, rfl, hk, hkx, BO, G⟩ := hrel
    by_cases hlt : k < n
    · have hltz : (k : Int) < (n : Int) := by omega
      obtain ⟨b, o, rfl, h1, h2, h3⟩ := (BidsAt.gb HB.out G.out HN.out) k (by omega)
      have hbF : b ≠ F := HN.out b o rfl (by omega)
      have hpl := HP.out (s.getD k (0, 0)) (by rw [List.getD_eq_getElem?_getD, List.getElem?_eq_getElem (show k < s.length by omega)]; exact List.getElem_mem _)
      have EM : Aside (markF s fl (k + 1) = (markF s fl k).set (s.getD k (0, 0)).1.toNat true) := rfl
      generalize (s.getD k (0, 0)).2 = x2 at h3
      generalize (s.getD k (0, 0)).1 = x1 at h2 hpl EM
      obtain ⟨pn, rfl⟩ := Int.eq_ofNat_of_zero_le hpl.1
      rw [Int.toNat_natCast] at EM
      have hpn : pn < fl.length := by omega
      have hpz : (pn : Int) < (fl.length : Int) := by omega
      have hcF : (wr.alloc (Obj.cells #[Value.int IntKind.i64 (pn : Int), Value.int IntKind.i64 x2] 120)).cell? ⟨F, pn, none⟩ = some (.bool ((markF s fl k).getD pn false)) := by
        rw [World.cell?_of_block (Below.heap_alloc wr _ F BO.out.lt)]
        exact BO.out.cell (by rw [markF_length]; exact hpn)
      have hfF : (wr.alloc (Obj.cells #[Value.int IntKind.i64 (pn : Int), Value.int IntKind.i64 x2] 120)).frozen? ⟨F, pn, none⟩ = false := by
        rw [World.frozen?_of_block (Below.heap_alloc wr _ F BO.out.lt)]
        exact BO.out.frozen pn
      have BO2 : Aside (BoolsAt ((wr.alloc (Obj.cells #[Value.int IntKind.i64 (pn : Int), Value.int IntKind.i64 x2] 120)).setCell ⟨F, pn, none⟩ (.bool true)) F (markF s fl (k + 1))) := by
        show BoolsAt _ _ _
        rw [EM.out]
        exact BoolsAt.set ((Below.heap_alloc wr _ F BO.out.lt).trans BO.out) pn true
      have G2 : Aside (w.grownBy ((wr.alloc (Obj.cells #[Value.int IntKind.i64 (pn : Int), Value.int IntKind.i64 x2] 120)).setCell ⟨F, pn, none⟩ (.bool true)) (some F)) := gb_set (gb_alloc G.out _) pn _
      clear BO G EM hpl
      go_wp2
      go_roundg (n - (k + 1))
      case measure => omega
      case rel => exact ⟨k + 1, by go_num, by omega, Nat.le_refl _, BO2, G2⟩
    · have e : k = n := by omega
      subst e
      have hltz : ¬ (k : Int) < (k : Int) := by omega
      go_wp2
      go_end0
      exact ⟨rfl, BO.out, G.out⟩

/-- the share's bits. -/
def shareB (a b : Int) : Nat := if b = 0 then 4607182418800017408 else (Ieee.double.div (floatOfInt .f64 a) (floatOfInt .f64 b)).getD 0

set_option maxHeartbeats 1000000 in
theorem shareOf_any (a b : Int) (w : World) (r : Nat) (hr : b ≠ 0 → Ieee.double.div (floatOfInt .f64 a) (floatOfInt .f64 b) = some r) : Calls Try.prog 55 #[.int .i64 a, .int .i64 b] w fun e w' => e = .returned (.float .f64 (shareB a b)) ∧ w' = w := by
  by_cases h : b = 0
  · subst h
    go_enter Try.func55, Try.ntmps55
    go_wp2
    go_ret
    exact ⟨rfl, rfl⟩
  · have e : shareB a b = r := by unfold shareB; rw [if_neg h, hr h]; rfl
    have hq : ∀ w, Sem.run Try.prog (binOp .quo 108 (.float .f64 (floatOfInt .f64 a)) (.float .f64 (floatOfInt .f64 b))) w = .ok (.float .f64 r) w := fun w => run_float_arith w .quo 108 .f64 _ _ r (hr h)
    have hz : (b == 0) = false := beq_eq_false_iff_ne.2 h
    rw [e]
    clear hr e h
    go_enter Try.func55, Try.ntmps55
    go_wp2
    go_ret
    exact ⟨rfl, rfl⟩
#print axioms mark_any
#print axioms shareOf_any
end Go.Proofs.Yteeplklhbhaicaa
/- Whole numbers as float64, and their quotient: no program in this text. -/
namespace Go.Proofs.Yteeplklhbhaicaa.Flt
open Ieee

theorem d_binade : double.binade = 4503599627370496 := rfl
theorem d_least : double.leastPlace = -1074 := rfl
theorem d_inf : double.infRung = 9218868437227405312 := rfl
theorem d_sign : double.signWeight = 9223372036854775808 := rfl
theorem d_frac : double.fractionBits = 52 := rfl

theorem log2_bd (n : Nat) (h0 : 0 < n) : 2 ^ n.log2 ≤ n ∧ n < 2 ^ (n.log2 + 1) := ⟨Nat.log2_self_le (by omega), Nat.lt_log2_self⟩
theorem log2_lt (n : Nat) (h0 : 0 < n) (h : n < 9007199254740992) : n.log2 ≤ 52 := by
  have := (Nat.log2_lt (n := n) (k := 53) (by omega)).2 (by simpa using h)
  omega

/-- the significand of n: 53 binary digits. -/
def sig (n : Nat) : Nat := n * 2 ^ (52 - n.log2)
theorem sig_bd (n : Nat) (h0 : 0 < n) (h : n < 9007199254740992) : 4503599627370496 ≤ sig n ∧ sig n < 9007199254740992 := by
  have hl := log2_lt n h0 h
  have hb := log2_bd n h0
  unfold sig
  have e1 : 2 ^ n.log2 * 2 ^ (52 - n.log2) = 4503599627370496 := by
    rw [← Nat.pow_add, show n.log2 + (52 - n.log2) = 52 by omega]
  have e2 : 2 ^ (n.log2 + 1) * 2 ^ (52 - n.log2) = 9007199254740992 := by
    rw [← Nat.pow_add, show n.log2 + 1 + (52 - n.log2) = 53 by omega]
  constructor
  · rw [← e1]; exact Nat.mul_le_mul_right _ hb.1
  · rw [← e2]; exact Nat.mul_lt_mul_of_pos_right hb.2 (Nat.pow_pos (by omega))

theorem cut_none (n : Nat) : Toward.even.cut false n 0 = n := by
  simp [Toward.cut, Nat.mod_one]

theorem nearest_whole (n : Nat) (h0 : 0 < n) (h : n < 9007199254740992) : double.nearest false n 0 = (1022 + n.log2) * 4503599627370496 + sig n := by
  have hl := log2_lt n h0 h
  have hs := sig_bd n h0 h
  unfold Format.nearest
  rw [if_neg (by omega), d_frac, d_least, d_binade, d_inf]
  have e1 : max ((0 : Int) + (n.log2 : Int) - ((52 : Nat) : Int)) (-1074) = (n.log2 : Int) - 52 := by omega
  have e2 : ((0 : Int) - ((n.log2 : Int) - 52)).toNat = 52 - n.log2 := by omega
  have e3 : ((n.log2 : Int) - 52 - 0).toNat = 0 := by omega
  have e4 : ((n.log2 : Int) - 52 - -1074).toNat = 1022 + n.log2 := by omega
  simp only [e1, e2, e3, e4, cut_none]
  have e5 : n <<< (52 - n.log2) = sig n := by rw [Nat.shiftLeft_eq]; rfl
  rw [e5]
  have e6 : (1022 + n.log2) * 4503599627370496 + sig n ≤ 9218868437227405312 := by omega
  rw [Nat.min_eq_left e6]
  rfl

theorem read_whole (n : Nat) (h0 : 0 < n) (h : n < 9007199254740992) : double.read ((1022 + n.log2) * 4503599627370496 + sig n) = .number false (sig n) ((n.log2 : Int) - 52) := by
  have hl := log2_lt n h0 h
  have hs := sig_bd n h0 h
  unfold Format.read
  rw [d_sign, d_binade, d_inf, d_least]
  have e1 : ((1022 + n.log2) * 4503599627370496 + sig n) / 9223372036854775808 = 0 := Nat.div_eq_of_lt (by omega)
  have e2 : ((1022 + n.log2) * 4503599627370496 + sig n) % 9223372036854775808 = (1022 + n.log2) * 4503599627370496 + sig n := Nat.mod_eq_of_lt (by omega)
  have e3 : ((1022 + n.log2) * 4503599627370496 + sig n) % 4503599627370496 = sig n - 4503599627370496 := by omega
  have e4 : ((1022 + n.log2) * 4503599627370496 + sig n) / 4503599627370496 = 1023 + n.log2 := by omega
  simp only [e1, e2, e3, e4]
  rw [if_neg (by omega), if_pos (by omega)]
  have e5 : 4503599627370496 + (sig n - 4503599627370496) = sig n := by omega
  have e6 : (-1074 : Int) + ((1023 + n.log2 - 1 : Nat) : Int) = (n.log2 : Int) - 52 := by omega
  rw [e5, e6]
  rfl

theorem ofInt_whole (n : Nat) (h0 : 0 < n) (h : n < 9007199254740992) : double.read (floatOfInt .f64 (n : Int)) = .number false (sig n) ((n.log2 : Int) - 52) := by
  have e : floatOfInt .f64 (n : Int) = double.nearest false n 0 := by
    show double.write (.number (decide ((n : Int) < 0)) (n : Int).natAbs 0) = _
    rw [decide_eq_false (by omega), Int.natAbs_natCast]; rfl
  rw [e, nearest_whole n h0 h, read_whole n h0 h]
theorem ofInt_zero : double.read (floatOfInt .f64 0) = .number false 0 (-1074) := by kernel_rfl

theorem log2_sig (n : Nat) (h0 : 0 < n) (h : n < 9007199254740992) : (sig n).log2 = 52 := by
  have hs := sig_bd n h0 h
  have h1 := (Nat.log2_lt (n := sig n) (k := 53) (by omega)).2 (by omega)
  have h2 : ¬ (sig n).log2 < 52 := fun hc => by
    have := (Nat.log2_lt (n := sig n) (k := 52) (by omega)).1 hc
    omega
  omega

/-- the quotient's digits: 2 q + (1 where anything is left over). -/
def quoMag (m n : Nat) : Nat := 2 * (m * 18014398509481984 / n) + (m * 18014398509481984 % n != 0).toNat

theorem div_whole (a b : Nat) (ha : 0 < a) (ha' : a < 9007199254740992) (hb : 0 < b) (hb' : b < 9007199254740992) :
    double.div (floatOfInt .f64 (a : Int)) (floatOfInt .f64 (b : Int)) = some (double.nearest false (quoMag (sig a) (sig b)) ((a.log2 : Int) - (b.log2 : Int) - 55)) := by
  unfold Format.div
  rw [ofInt_whole a ha ha', ofInt_whole b hb hb']
  have hs := sig_bd b hb hb'
  unfold Datum.quotient
  simp only []
  rw [if_neg (by omega), log2_sig a ha ha', log2_sig b hb hb', d_frac]
  have e1 : 52 + 2 + 52 - 52 = 54 := by omega
  simp only [e1, Nat.shiftLeft_eq]
  have e2 : (a.log2 : Int) - 52 - ((b.log2 : Int) - 52) - ((54 : Nat) : Int) - 1 = (a.log2 : Int) - (b.log2 : Int) - 55 := by omega
  simp only [Option.map_some, e2]
  rfl

theorem div_zero (b : Nat) (hb : 0 < b) (hb' : b < 9007199254740992) : double.div (floatOfInt .f64 0) (floatOfInt .f64 (b : Int)) = some 0 := by
  unfold Format.div
  rw [ofInt_zero, ofInt_whole b hb hb']
  have hs := sig_bd b hb hb'
  unfold Datum.quotient
  simp only []
  rw [if_neg (by omega)]
  simp [Format.write, Format.nearest, Format.word]
end Go.Proofs.Yteeplklhbhaicaa.Flt
