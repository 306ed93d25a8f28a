import Derived.Test.YtjfifaooimgbaaaRt
import Derived.Test.YtjfifaooimgbaaaRclear
/- The document's exchange: tells of the last clearing. -/
namespace Go.Proofs.Ytjfifaooimgbaaa
open Go.Shelf Go.RowKit Go.Lib Go.Sort

theorem can_nil : canL [] = 0 := by
  have hk : kL [] = 0 := by
    have h1 := (kL_le []).1
    have h2 : (buyersOf []).length = 0 := by unfold buyersOf; rw [List.length_mergeSort]; rfl
    omega
  unfold canL
  rw [hk]
  rfl
theorem conv_oneR (w : World) (b : Nat) (c : UInt8) (h : w.cell? ⟨b, 0, none⟩ = some (.int .u8 (c.toNat : Int))) : (convert 98 9 (.slice (some ⟨b, 0, none⟩) 1 1)).run Try.prog w = .ok (.string ⟨#[c]⟩) w :=
  run_convert_bytes_back (P := Try.prog) w 98 9 5 ⟨b, 0, none⟩ 1 [c] Try.underlying98 Try.underlying5 Try.underlying9 (fun j hj => by
    have : j = 0 := by simp at hj; omega
    subst this
    rw [Addr.add_lit]
    exact h)
theorem conv_byte (V : World) (E : Int) (c : UInt8) (h : E = (c.toNat : Int)) : (convert 98 9 (.slice (some ⟨V.heap.size, 0, none⟩) 1 1)).run Try.prog (V.alloc (.cells #[.int .u8 E] 5)) = .ok (.string ⟨#[c]⟩) (V.alloc (.cells #[.int .u8 E] 5)) := by
  subst h
  exact conv_oneR _ _ c (by simp)
theorem take_next8 (N i : Nat) (hi : i < 8) : (bytesOf N 8).take (i + 1) = (bytesOf N 8).take i ++ [UInt8.ofNat (N / 256 ^ (7 - i))] := by
  rw [List.take_add_one, bytesOf_get N 8 i hi, show 8 - 1 - i = 7 - i by omega]
  rfl

set_option maxHeartbeats 4000000 in
set_option maxRecDepth 100000 in
theorem tells10_any (w : World) (p t : Nat) (x : Ex.Xch) (ov fv : Value) (h : RefAt w p x ov fv) (ok : Ex.Ok x) (hl0 : x.last = 0 → x.lastL = []) (hN : shareL x.lastL < 18446744073709551616) (hs : 0 ≤ (setL x.lastL).2.1 ∧ 0 ≤ (setL x.lastL).2.2) :
    Calls Try.prog 85 #[.pointer (some ⟨p, 0, none⟩), .int .i64 10, .int .i64 t] w fun e w' => e = .returned (.string ⟨(Ex.tellsX x 10 t).toArray⟩) ∧ Below w.heap.size w w' := by
  have mixed : Try.prog.follows .mixedOrders = true := by kernel_rfl
  have x0 : w.cell? ⟨p, 88, none⟩ = some (.int .i64 x.last) := h.mid 2 (by decide)
  have x1 : w.cell? ⟨p, 89, none⟩ = some (.int .i64 (kL x.lastL : Nat)) := h.mid 3 (by decide)
  have x2 : w.cell? ⟨p, 90, none⟩ = some (.int .i64 ((setL x.lastL).1 : Nat)) := h.mid 4 (by decide)
  have x3 : w.cell? ⟨p, 91, none⟩ = some (.int .i64 (setL x.lastL).2.1) := h.mid 5 (by decide)
  have x4 : w.cell? ⟨p, 92, none⟩ = some (.int .i64 (setL x.lastL).2.2) := h.mid 6 (by decide)
  have x5 : w.cell? ⟨p, 94, none⟩ = some (.int .u64 (shareC x : Nat)) := h.mid 8 (by decide)
  have x6 : w.cell? ⟨p, 86, none⟩ = some (.int .i64 x.own) := h.mid 0 (by decide)
  have hpl := h.lt
  have ER : Aside (Ex.tellsX x 10 t = 0 :: (bytesOf x.last.toNat 4 ++ bytesOf (kL x.lastL) 1 ++ bytesOf (setL x.lastL).1 1 ++ bytesOf (setL x.lastL).2.1.toNat 2 ++ bytesOf (setL x.lastL).2.2.toNat 2 ++ bytesOf x.own.toNat 8 ++ bytesOf (shareL x.lastL) 8)) := rfl
  have ES : shareL x.lastL = if 0 < x.last then shareC x else 4607182418800017408 := by
    unfold shareC
    have := ok.last
    by_cases e : x.last = 0
    · rw [if_neg (by omega), hl0 e]
      exact share_can0 can_nil
    · rw [if_pos (by omega), if_neg e]
  have q0 := ok.last
  have q1 := ok.own
  obtain ⟨h1, h2⟩ := hs
  obtain ⟨a, ha⟩ := Int.eq_ofNat_of_zero_le q0.1
  obtain ⟨d, hd⟩ := Int.eq_ofNat_of_zero_le h1
  obtain ⟨g, hg⟩ := Int.eq_ofNat_of_zero_le h2
  obtain ⟨o, ho⟩ := Int.eq_ofNat_of_zero_le q1
  rw [ha, hd, hg, ho, Int.toNat_natCast, Int.toNat_natCast, Int.toNat_natCast, Int.toNat_natCast] at ER
  rw [ha] at x0 ES
  rw [hd] at x3
  rw [hg] at x4
  rw [ho] at x6
  clear ha hd hg ho h ok q0 q1 h1 h2 hl0
  generalize kL x.lastL = b at *
  generalize (setL x.lastL).1 = c at *
  generalize shareL x.lastL = N at *
  generalize shareC x = M at *
  have HS : Aside _ := rshare_any 1 1 w (by decide) (by decide) (by decide)
  have hbl := bytesOf_length
  have HE : Aside _ := ES
  by_cases ha0 : 0 < a
  · have hz : (0 : Int) < (a : Int) := by omega
    have EN : N = M := by rw [HE.out, if_pos hz]
    clear ES
    subst EN
    go_enter Try.func85, Try.ntmps85
    go_wp2_with fail
    refine (code_any 0 0 rfl _).mono ?_
    rintro e w1 ⟨rfl, hw1⟩
    have B1 : Aside (Below w.heap.size w w1) := by rw [hw1]; exact (Below.refl _ w).alloc (Nat.le_refl _) _
    clear hw1
    go_wp2_with fail
    refine (rshare_any 1 1 _ (by decide) (by decide) (by decide)).mono ?_
    rintro e w2 ⟨rfl, hw2⟩
    rw [hw2]
    clear hw2
    have y0 := (World.cell?_of_block (a := ⟨p, 88, none⟩) (B1.out.block p hpl)).trans x0
    have y1 := (World.cell?_of_block (a := ⟨p, 89, none⟩) (B1.out.block p hpl)).trans x1
    have y2 := (World.cell?_of_block (a := ⟨p, 90, none⟩) (B1.out.block p hpl)).trans x2
    have y3 := (World.cell?_of_block (a := ⟨p, 91, none⟩) (B1.out.block p hpl)).trans x3
    have y4 := (World.cell?_of_block (a := ⟨p, 92, none⟩) (B1.out.block p hpl)).trans x4
    have y5 := (World.cell?_of_block (a := ⟨p, 94, none⟩) (B1.out.block p hpl)).trans x5
    have y6 := (World.cell?_of_block (a := ⟨p, 86, none⟩) (B1.out.block p hpl)).trans x6
    clear x0 x1 x2 x3 x4 x5 x6
    go_wp2_with fail
    go_region_held3 (fun V => V.cell? ⟨p, 88, none⟩ = some (.int .i64 (a : Int)) ∧ V.cell? ⟨p, 89, none⟩ = some (.int .i64 (b : Int)) ∧ V.cell? ⟨p, 90, none⟩ = some (.int .i64 (c : Int)) ∧ V.cell? ⟨p, 91, none⟩ = some (.int .i64 (d : Int)) ∧ V.cell? ⟨p, 92, none⟩ = some (.int .i64 (g : Int)) ∧ V.cell? ⟨p, 86, none⟩ = some (.int .i64 (o : Int))) (refine ⟨?_, ?_, ?_, ?_, ?_, ?_⟩ <;> repeat (first | assumption | refine cell_up ?_ _ | refine cell_dr ?_)) (first | (go_at_call 79; refine (bytesR_any _ _ _ ?_).mono ?_; (first | decide | skip); rintro e w' ⟨rfl, rfl⟩; unfold rowed txt))
    all_goals go_wp2_with fail
    obtain ⟨S0, hS0⟩ : ∃ S0 : List UInt8, S0 = 0 :: (bytesOf a 4 ++ bytesOf b 1 ++ bytesOf c 1 ++ bytesOf d 2 ++ bytesOf g 2 ++ bytesOf o 8) := ⟨_, rfl⟩
    have cs : ((((((⟨#[0]⟩ : ByteArray) ++ ⟨(bytesOf a 4).toArray⟩) ++ ⟨(bytesOf b 1).toArray⟩) ++ ⟨(bytesOf c 1).toArray⟩) ++ ⟨(bytesOf d 2).toArray⟩) ++ ⟨(bytesOf g 2).toArray⟩) ++ ⟨(bytesOf o 8).toArray⟩ = ⟨S0.toArray⟩ := by
      rw [hS0, b0, cat_str, cat_str, cat_str, cat_str, cat_str, cat_str]
      rfl
    rw [cs]
    have HS0 : Aside _ := hS0
    have hl0 : S0.length = 19 := by rw [hS0]; simp [hbl]
    clear cs hS0
    go_loopg [10, 11] 8 (fun kx s t wq => ∃ (i : Nat), s = .string ⟨(S0 ++ (bytesOf N 8).take i).toArray⟩ ∧ t = .int .i64 i ∧ i ≤ 8 ∧ 8 - i ≤ kx ∧ Aside (Below w.heap.size w wq))
    case atStart => exact ⟨0, by rw [List.take_zero, List.append_nil], rfl, Nat.zero_le _, by omega, by repeat (first | exact B1.out | refine blw_al ?_ _ | refine blw_dr ?_)⟩
    case round =>
      obtain ⟨i, rfl, rfl, hi, hkx, BE⟩ := hrel
      by_cases hlt : i < 8
      · have hltz : (i : Int) < 8 := by omega
        have TN : Aside _ := take_next8 N i hlt
        have hlt8 : ((bytesOf N 8).take i).length ≤ 8 := by rw [List.length_take]; omega
        generalize (bytesOf N 8).take i = T at *
        obtain rfl | rfl | rfl | rfl | rfl | rfl | rfl | rfl : i = 0 ∨ i = 1 ∨ i = 2 ∨ i = 3 ∨ i = 4 ∨ i = 5 ∨ i = 6 ∨ i = 7 := by omega
        · have hcv := fun (V : World) => conv_byte V ((N : Int) / 72057594037927936) (UInt8.ofNat (N / 256 ^ (7 - 0))) (by rw [UInt8.toNat_ofNat']; simp only [Nat.reducePow, Nat.reduceSub]; omega)
          go_wp2
          go_roundg (8 - (0 + 1))
          case measure => omega
          case rel => exact ⟨0 + 1, by rw [TN.out]; exact congrArg Value.string ((cat_str (S0 ++ T) _).trans (by rw [List.append_assoc])), rfl, by omega, Nat.le_refl _, blw_al BE.out _⟩
        · have hcv := fun (V : World) => conv_byte V ((N : Int) / 281474976710656 % 256) (UInt8.ofNat (N / 256 ^ (7 - 1))) (by rw [UInt8.toNat_ofNat']; simp only [Nat.reducePow, Nat.reduceSub]; omega)
          go_wp2
          go_roundg (8 - (1 + 1))
          case measure => omega
          case rel => exact ⟨1 + 1, by rw [TN.out]; exact congrArg Value.string ((cat_str (S0 ++ T) _).trans (by rw [List.append_assoc])), rfl, by omega, Nat.le_refl _, blw_al BE.out _⟩
        · have hcv := fun (V : World) => conv_byte V ((N : Int) / 1099511627776 % 256) (UInt8.ofNat (N / 256 ^ (7 - 2))) (by rw [UInt8.toNat_ofNat']; simp only [Nat.reducePow, Nat.reduceSub]; omega)
          go_wp2
          go_roundg (8 - (2 + 1))
          case measure => omega
          case rel => exact ⟨2 + 1, by rw [TN.out]; exact congrArg Value.string ((cat_str (S0 ++ T) _).trans (by rw [List.append_assoc])), rfl, by omega, Nat.le_refl _, blw_al BE.out _⟩
        · have hcv := fun (V : World) => conv_byte V ((N : Int) / 4294967296 % 256) (UInt8.ofNat (N / 256 ^ (7 - 3))) (by rw [UInt8.toNat_ofNat']; simp only [Nat.reducePow, Nat.reduceSub]; omega)
          go_wp2
          go_roundg (8 - (3 + 1))
          case measure => omega
          case rel => exact ⟨3 + 1, by rw [TN.out]; exact congrArg Value.string ((cat_str (S0 ++ T) _).trans (by rw [List.append_assoc])), rfl, by omega, Nat.le_refl _, blw_al BE.out _⟩
        · have hcv := fun (V : World) => conv_byte V ((N : Int) / 16777216 % 256) (UInt8.ofNat (N / 256 ^ (7 - 4))) (by rw [UInt8.toNat_ofNat']; simp only [Nat.reducePow, Nat.reduceSub]; omega)
          go_wp2
          go_roundg (8 - (4 + 1))
          case measure => omega
          case rel => exact ⟨4 + 1, by rw [TN.out]; exact congrArg Value.string ((cat_str (S0 ++ T) _).trans (by rw [List.append_assoc])), rfl, by omega, Nat.le_refl _, blw_al BE.out _⟩
        · have hcv := fun (V : World) => conv_byte V ((N : Int) / 65536 % 256) (UInt8.ofNat (N / 256 ^ (7 - 5))) (by rw [UInt8.toNat_ofNat']; simp only [Nat.reducePow, Nat.reduceSub]; omega)
          go_wp2
          go_roundg (8 - (5 + 1))
          case measure => omega
          case rel => exact ⟨5 + 1, by rw [TN.out]; exact congrArg Value.string ((cat_str (S0 ++ T) _).trans (by rw [List.append_assoc])), rfl, by omega, Nat.le_refl _, blw_al BE.out _⟩
        · have hcv := fun (V : World) => conv_byte V ((N : Int) / 256 % 256) (UInt8.ofNat (N / 256 ^ (7 - 6))) (by rw [UInt8.toNat_ofNat']; simp only [Nat.reducePow, Nat.reduceSub]; omega)
          go_wp2
          go_roundg (8 - (6 + 1))
          case measure => omega
          case rel => exact ⟨6 + 1, by rw [TN.out]; exact congrArg Value.string ((cat_str (S0 ++ T) _).trans (by rw [List.append_assoc])), rfl, by omega, Nat.le_refl _, blw_al BE.out _⟩
        · have hcv := fun (V : World) => conv_byte V ((N : Int) % 256) (UInt8.ofNat (N / 256 ^ (7 - 7))) (by rw [UInt8.toNat_ofNat']; simp only [Nat.reducePow, Nat.reduceSub]; omega)
          go_wp2
          go_roundg (8 - (7 + 1))
          case measure => omega
          case rel => exact ⟨7 + 1, by rw [TN.out]; exact congrArg Value.string ((cat_str (S0 ++ T) _).trans (by rw [List.append_assoc]; simp)), rfl, by omega, Nat.le_refl _, blw_al BE.out _⟩
      · have hltz : ¬ (i : Int) < 8 := by omega
        obtain rfl : i = 8 := by omega
        have e8 : (bytesOf N 8).take 8 = bytesOf N 8 := List.take_of_length_le (Nat.le_of_eq (bytesOf_length N 8))
        rw [e8]
        go_wp2
        go_ret
        rw [ER.out, HS0.out]
        refine ⟨congrArg Ending.returned (congrArg Value.string ?_), BE.out⟩
        rfl
  · have hz : ¬ (0 : Int) < (a : Int) := by omega
    have EN : N = 4607182418800017408 := by rw [HE.out, if_neg hz]
    have HS1 : Aside (∀ W : World, Calls Try.prog 43 #[.int .i64 ((1 : Nat) : Int), .int .i64 ((1 : Nat) : Int)] W fun e w' => e = .returned (.int .u64 (N : Int)) ∧ w' = W) := fun W => by
      have := rshare_any 1 1 W (by decide) (by decide) (by decide)
      rwa [share_one, ← EN] at this
    clear ES EN
    go_enter Try.func85, Try.ntmps85
    go_wp2_with fail
    refine (code_any 0 0 rfl _).mono ?_
    rintro e w1 ⟨rfl, hw1⟩
    have B1 : Aside (Below w.heap.size w w1) := by rw [hw1]; exact (Below.refl _ w).alloc (Nat.le_refl _) _
    clear hw1
    go_wp2_with fail
    refine (HS1.out _).mono ?_
    rintro e w2 ⟨rfl, hw2⟩
    rw [hw2]
    clear hw2
    have y0 := (World.cell?_of_block (a := ⟨p, 88, none⟩) (B1.out.block p hpl)).trans x0
    have y1 := (World.cell?_of_block (a := ⟨p, 89, none⟩) (B1.out.block p hpl)).trans x1
    have y2 := (World.cell?_of_block (a := ⟨p, 90, none⟩) (B1.out.block p hpl)).trans x2
    have y3 := (World.cell?_of_block (a := ⟨p, 91, none⟩) (B1.out.block p hpl)).trans x3
    have y4 := (World.cell?_of_block (a := ⟨p, 92, none⟩) (B1.out.block p hpl)).trans x4
    have y5 := (World.cell?_of_block (a := ⟨p, 94, none⟩) (B1.out.block p hpl)).trans x5
    have y6 := (World.cell?_of_block (a := ⟨p, 86, none⟩) (B1.out.block p hpl)).trans x6
    clear x0 x1 x2 x3 x4 x5 x6
    go_wp2_with fail
    go_region_held3 (fun V => V.cell? ⟨p, 88, none⟩ = some (.int .i64 (a : Int)) ∧ V.cell? ⟨p, 89, none⟩ = some (.int .i64 (b : Int)) ∧ V.cell? ⟨p, 90, none⟩ = some (.int .i64 (c : Int)) ∧ V.cell? ⟨p, 91, none⟩ = some (.int .i64 (d : Int)) ∧ V.cell? ⟨p, 92, none⟩ = some (.int .i64 (g : Int)) ∧ V.cell? ⟨p, 86, none⟩ = some (.int .i64 (o : Int))) (refine ⟨?_, ?_, ?_, ?_, ?_, ?_⟩ <;> repeat (first | assumption | refine cell_up ?_ _ | refine cell_dr ?_)) (first | (go_at_call 79; refine (bytesR_any _ _ _ ?_).mono ?_; (first | decide | skip); rintro e w' ⟨rfl, rfl⟩; unfold rowed txt))
    all_goals go_wp2_with fail
    obtain ⟨S0, hS0⟩ : ∃ S0 : List UInt8, S0 = 0 :: (bytesOf a 4 ++ bytesOf b 1 ++ bytesOf c 1 ++ bytesOf d 2 ++ bytesOf g 2 ++ bytesOf o 8) := ⟨_, rfl⟩
    have cs : ((((((⟨#[0]⟩ : ByteArray) ++ ⟨(bytesOf a 4).toArray⟩) ++ ⟨(bytesOf b 1).toArray⟩) ++ ⟨(bytesOf c 1).toArray⟩) ++ ⟨(bytesOf d 2).toArray⟩) ++ ⟨(bytesOf g 2).toArray⟩) ++ ⟨(bytesOf o 8).toArray⟩ = ⟨S0.toArray⟩ := by
      rw [hS0, b0, cat_str, cat_str, cat_str, cat_str, cat_str, cat_str]
      rfl
    rw [cs]
    have HS0 : Aside _ := hS0
    have hl0 : S0.length = 19 := by rw [hS0]; simp [hbl]
    clear cs hS0
    go_loopg [10, 11] 8 (fun kx s t wq => ∃ (i : Nat), s = .string ⟨(S0 ++ (bytesOf N 8).take i).toArray⟩ ∧ t = .int .i64 i ∧ i ≤ 8 ∧ 8 - i ≤ kx ∧ Aside (Below w.heap.size w wq))
    case atStart => exact ⟨0, by rw [List.take_zero, List.append_nil], rfl, Nat.zero_le _, by omega, by repeat (first | exact B1.out | refine blw_al ?_ _ | refine blw_dr ?_)⟩
    case round =>
      obtain ⟨i, rfl, rfl, hi, hkx, BE⟩ := hrel
      by_cases hlt : i < 8
      · have hltz : (i : Int) < 8 := by omega
        have TN : Aside _ := take_next8 N i hlt
        have hlt8 : ((bytesOf N 8).take i).length ≤ 8 := by rw [List.length_take]; omega
        generalize (bytesOf N 8).take i = T at *
        obtain rfl | rfl | rfl | rfl | rfl | rfl | rfl | rfl : i = 0 ∨ i = 1 ∨ i = 2 ∨ i = 3 ∨ i = 4 ∨ i = 5 ∨ i = 6 ∨ i = 7 := by omega
        · have hcv := fun (V : World) => conv_byte V ((N : Int) / 72057594037927936) (UInt8.ofNat (N / 256 ^ (7 - 0))) (by rw [UInt8.toNat_ofNat']; simp only [Nat.reducePow, Nat.reduceSub]; omega)
          go_wp2
          go_roundg (8 - (0 + 1))
          case measure => omega
          case rel => exact ⟨0 + 1, by rw [TN.out]; exact congrArg Value.string ((cat_str (S0 ++ T) _).trans (by rw [List.append_assoc])), rfl, by omega, Nat.le_refl _, blw_al BE.out _⟩
        · have hcv := fun (V : World) => conv_byte V ((N : Int) / 281474976710656 % 256) (UInt8.ofNat (N / 256 ^ (7 - 1))) (by rw [UInt8.toNat_ofNat']; simp only [Nat.reducePow, Nat.reduceSub]; omega)
          go_wp2
          go_roundg (8 - (1 + 1))
          case measure => omega
          case rel => exact ⟨1 + 1, by rw [TN.out]; exact congrArg Value.string ((cat_str (S0 ++ T) _).trans (by rw [List.append_assoc])), rfl, by omega, Nat.le_refl _, blw_al BE.out _⟩
        · have hcv := fun (V : World) => conv_byte V ((N : Int) / 1099511627776 % 256) (UInt8.ofNat (N / 256 ^ (7 - 2))) (by rw [UInt8.toNat_ofNat']; simp only [Nat.reducePow, Nat.reduceSub]; omega)
          go_wp2
          go_roundg (8 - (2 + 1))
          case measure => omega
          case rel => exact ⟨2 + 1, by rw [TN.out]; exact congrArg Value.string ((cat_str (S0 ++ T) _).trans (by rw [List.append_assoc])), rfl, by omega, Nat.le_refl _, blw_al BE.out _⟩
        · have hcv := fun (V : World) => conv_byte V ((N : Int) / 4294967296 % 256) (UInt8.ofNat (N / 256 ^ (7 - 3))) (by rw [UInt8.toNat_ofNat']; simp only [Nat.reducePow, Nat.reduceSub]; omega)
          go_wp2
          go_roundg (8 - (3 + 1))
          case measure => omega
          case rel => exact ⟨3 + 1, by rw [TN.out]; exact congrArg Value.string ((cat_str (S0 ++ T) _).trans (by rw [List.append_assoc])), rfl, by omega, Nat.le_refl _, blw_al BE.out _⟩
        · have hcv := fun (V : World) => conv_byte V ((N : Int) / 16777216 % 256) (UInt8.ofNat (N / 256 ^ (7 - 4))) (by rw [UInt8.toNat_ofNat']; simp only [Nat.reducePow, Nat.reduceSub]; omega)
          go_wp2
          go_roundg (8 - (4 + 1))
          case measure => omega
          case rel => exact ⟨4 + 1, by rw [TN.out]; exact congrArg Value.string ((cat_str (S0 ++ T) _).trans (by rw [List.append_assoc])), rfl, by omega, Nat.le_refl _, blw_al BE.out _⟩
        · have hcv := fun (V : World) => conv_byte V ((N : Int) / 65536 % 256) (UInt8.ofNat (N / 256 ^ (7 - 5))) (by rw [UInt8.toNat_ofNat']; simp only [Nat.reducePow, Nat.reduceSub]; omega)
          go_wp2
          go_roundg (8 - (5 + 1))
          case measure => omega
          case rel => exact ⟨5 + 1, by rw [TN.out]; exact congrArg Value.string ((cat_str (S0 ++ T) _).trans (by rw [List.append_assoc])), rfl, by omega, Nat.le_refl _, blw_al BE.out _⟩
        · have hcv := fun (V : World) => conv_byte V ((N : Int) / 256 % 256) (UInt8.ofNat (N / 256 ^ (7 - 6))) (by rw [UInt8.toNat_ofNat']; simp only [Nat.reducePow, Nat.reduceSub]; omega)
          go_wp2
          go_roundg (8 - (6 + 1))
          case measure => omega
          case rel => exact ⟨6 + 1, by rw [TN.out]; exact congrArg Value.string ((cat_str (S0 ++ T) _).trans (by rw [List.append_assoc])), rfl, by omega, Nat.le_refl _, blw_al BE.out _⟩
        · have hcv := fun (V : World) => conv_byte V ((N : Int) % 256) (UInt8.ofNat (N / 256 ^ (7 - 7))) (by rw [UInt8.toNat_ofNat']; simp only [Nat.reducePow, Nat.reduceSub]; omega)
          go_wp2
          go_roundg (8 - (7 + 1))
          case measure => omega
          case rel => exact ⟨7 + 1, by rw [TN.out]; exact congrArg Value.string ((cat_str (S0 ++ T) _).trans (by rw [List.append_assoc]; simp)), rfl, by omega, Nat.le_refl _, blw_al BE.out _⟩
      · have hltz : ¬ (i : Int) < 8 := by omega
        obtain rfl : i = 8 := by omega
        have e8 : (bytesOf N 8).take 8 = bytesOf N 8 := List.take_of_length_le (Nat.le_of_eq (bytesOf_length N 8))
        rw [e8]
        go_wp2
        go_ret
        rw [ER.out, HS0.out]
        refine ⟨congrArg Ending.returned (congrArg Value.string ?_), BE.out⟩
        rfl
end Go.Proofs.Ytjfifaooimgbaaa
