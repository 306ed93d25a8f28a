import Derived.Test.YtjfifaooimgbaaaSym
import Derived.Test.YtjfifaooimgbaaaKeep
import Derived.Deep.RegionWith
import Derived.Laws.Closers25
/- The walk of request. -/
namespace Go.Proofs.Ytjfifaooimgbaaa
open Go.Shelf Go.RowKit Go.Lib Go.Sort

def I64 (n : Int) : Prop := -9223372036854775808 ≤ n ∧ n ≤ 9223372036854775807

theorem half_bd {n : Int} (h : I64 n) : I64 (n.tdiv 2) := by
  obtain ⟨h1, h2⟩ := h
  by_cases h0 : 0 ≤ n
  · rw [Int.tdiv_eq_ediv_of_nonneg h0]
    constructor <;> omega
  · have e : n.tdiv 2 = -((-n).tdiv 2) := by rw [Int.neg_tdiv]; omega
    rw [e, Int.tdiv_eq_ediv_of_nonneg (by omega)]
    constructor <;> omega

/-- the bytes of a move. -/
def reqOf (K W N : Int) : List UInt8 :=
  if pickN K 10 = 0 then 1 :: (bytesOf (pickN W 20) 1 ++ bytesOf (pickN N 3000) 8)
  else if pickN K 10 = 1 then 3 :: (bytesOf (pickN W 20) 1 ++ bytesOf (pickN N 3000) 8)
  else if pickN K 10 = 2 then 2 :: (bytesOf (pickN W 20) 1 ++ bytesOf (pickN N 3000) 8)
  else if pickN K 10 = 3 then 4 :: (bytesOf (pickN W 20) 1 ++ bytesOf (pickN N 3000) 8)
  else if pickN K 10 < 7 then 5 :: (bytesOf (pickN W 20) 1 ++ bytesOf (pickN N 2) 1 ++ bytesOf (pickN (N.tdiv 2) 1002) 2)
  else if pickN K 10 = 7 then 6 :: bytesOf (pickN W 20) 1
  else 11 :: bytesOf (pickN W 20) 1

theorem cat_txt (a b : List UInt8) : (⟨a.toArray⟩ : ByteArray) ++ ⟨b.toArray⟩ = ⟨(a ++ b).toArray⟩ := by
  apply ByteArray.ext
  simp

/-- 'string([]byte{c})'. -/
theorem conv_one (w : World) (b : Nat) (c : UInt8) (h : w.cell? ⟨b, 0, none⟩ = some (.int .u8 (c.toNat : Int))) : (convert 98 9 (.slice (some ⟨b, 0, none⟩) 1 1)).run Try.prog w = .ok (.string ⟨#[c]⟩) w :=
  run_convert_bytes_back (P := Try.prog) w 98 9 5 ⟨b, 0, none⟩ 1 [c] Try.underlying98 Try.underlying5 Try.underlying9 (fun j hj => by
    have : j = 0 := by simp at hj; omega
    subst this
    rw [Addr.add_lit]
    exact h)

set_option maxHeartbeats 40000000 in
set_option maxRecDepth 100000 in
theorem request_any (K W N : Int) (hK : I64 K) (hW : I64 W) (hN : I64 N) (w : World) :
    Calls Try.prog 45 #[.agg #[.int .i64 K, .int .i64 W, .int .i64 N]] w fun e w' => e = .returned (txt (reqOf K W N)) ∧ Below w.heap.size w w' := by
  have mixed : Try.prog.follows .mixedOrders = true := by kernel_rfl
  have HP : Aside (∀ (c : Int) (n : Nat) (W : World), 0 < n → n ≤ 9007199254740992 → I64 c → Calls Try.prog 23 #[.int .i64 c, .int .i64 n] W fun e w' => e = .returned (.int .i64 (pickN c n : Nat)) ∧ w' = W) := fun c n W h1 h2 h3 => pick_any c n W h1 h2 h3.1 h3.2
  go_enter Try.func45, Try.ntmps45
  go_wp2_with fail
  refine (HP.out W 20 _ (by decide) (by decide) hW).mono ?_
  rintro e w1 ⟨rfl, rfl⟩
  go_wp2_with fail
  refine (bytesK_any (pickN W 20) 1 _ (by decide)).mono ?_
  rintro e w2 ⟨rfl, hw2⟩
  have hb2 : w.heap.size < w2.heap.size := by rw [hw2]; unfold rowed; simp; omega
  have c0 : w2.cell? ⟨w.heap.size, 0, none⟩ = some (.int .i64 K) := by rw [hw2]; unfold rowed; simp
  have c2 : w2.cell? ⟨w.heap.size, 2, none⟩ = some (.int .i64 N) := by rw [hw2]; unfold rowed; simp
  have B2 : Aside (Below w.heap.size w w2) := by
    show Below _ _ _
    rw [hw2]; unfold rowed; exact ((Below.refl _ _).alloc (Nat.le_refl _) _).alloc (by simp) _
  clear hw2
  unfold txt
  have hk := pickN_lt K 10 (by decide)
  obtain ⟨lw, hlw⟩ : ∃ lw, bytesOf (pickN W 20) 1 = lw := ⟨_, rfl⟩
  rw [hlw]
  have HLW : Aside (bytesOf (pickN W 20) 1 = lw) := hlw
  have hl1 : lw.length = 1 := by rw [← hlw]; exact bytesOf_length _ _
  have hbl := bytesOf_length
  clear hlw
  go_wp2_with fail
  refine (HP.out K 10 _ (by decide) (by decide) hK).mono ?_
  rintro e w3 ⟨rfl, hw3⟩
  rw [hw3]
  clear hw3
  obtain ⟨k, hkk⟩ : ∃ k, pickN K 10 = k := ⟨_, rfl⟩
  have HKK : Aside (pickN K 10 = k) := hkk
  rw [hkk] at hk ⊢
  clear hkk
  by_cases k4 : k < 4
  · obtain rfl | rfl | rfl | rfl : k = 0 ∨ k = 1 ∨ k = 2 ∨ k = 3 := by omega
    · have hr : Aside (reqOf K W N = 1 :: (lw ++ bytesOf (pickN N 3000) 8)) := by show _ = _; unfold reqOf; rw [HKK.out, HLW.out]; rfl
      have kc := fun (W : World) (b : Nat) => conv_one W b 1
      go_wp2_with fail
      go_region_with (first | (go_at_call 23; refine (HP.out N 3000 _ (by decide) (by decide) hN).mono ?_; rintro e w' ⟨rfl, rfl⟩) | (go_at_call 30; refine (bytesK_any _ 8 _ (by decide)).mono ?_; rintro e w' ⟨rfl, rfl⟩; unfold rowed txt))
      all_goals go_wp2
      all_goals go_ret
      all_goals refine ⟨?_, ?_⟩
      all_goals first | (rw [hr.out]; exact congrArg Ending.returned (congrArg Value.string (by rw [show (⟨#[1]⟩ : ByteArray) = ⟨[1].toArray⟩ from rfl, cat_txt, cat_txt]; rfl))) | (repeat (first | exact B2.out | refine Below.alloc ?_ (by first | omega | (simp; omega)) _ | refine Below.drew ?_))
    · have hr : Aside (reqOf K W N = 3 :: (lw ++ bytesOf (pickN N 3000) 8)) := by show _ = _; unfold reqOf; rw [HKK.out, HLW.out]; rfl
      have kc := fun (W : World) (b : Nat) => conv_one W b 3
      go_wp2_with fail
      go_region_with (first | (go_at_call 23; refine (HP.out N 3000 _ (by decide) (by decide) hN).mono ?_; rintro e w' ⟨rfl, rfl⟩) | (go_at_call 30; refine (bytesK_any _ 8 _ (by decide)).mono ?_; rintro e w' ⟨rfl, rfl⟩; unfold rowed txt))
      all_goals go_wp2
      all_goals go_ret
      all_goals refine ⟨?_, ?_⟩
      all_goals first | (rw [hr.out]; exact congrArg Ending.returned (congrArg Value.string (by rw [show (⟨#[3]⟩ : ByteArray) = ⟨[3].toArray⟩ from rfl, cat_txt, cat_txt]; rfl))) | (repeat (first | exact B2.out | refine Below.alloc ?_ (by first | omega | (simp; omega)) _ | refine Below.drew ?_))
    · have hr : Aside (reqOf K W N = 2 :: (lw ++ bytesOf (pickN N 3000) 8)) := by show _ = _; unfold reqOf; rw [HKK.out, HLW.out]; rfl
      have kc := fun (W : World) (b : Nat) => conv_one W b 2
      go_wp2_with fail
      go_region_with (first | (go_at_call 23; refine (HP.out N 3000 _ (by decide) (by decide) hN).mono ?_; rintro e w' ⟨rfl, rfl⟩) | (go_at_call 30; refine (bytesK_any _ 8 _ (by decide)).mono ?_; rintro e w' ⟨rfl, rfl⟩; unfold rowed txt))
      all_goals go_wp2
      all_goals go_ret
      all_goals refine ⟨?_, ?_⟩
      all_goals first | (rw [hr.out]; exact congrArg Ending.returned (congrArg Value.string (by rw [show (⟨#[2]⟩ : ByteArray) = ⟨[2].toArray⟩ from rfl, cat_txt, cat_txt]; rfl))) | (repeat (first | exact B2.out | refine Below.alloc ?_ (by first | omega | (simp; omega)) _ | refine Below.drew ?_))
    · have hr : Aside (reqOf K W N = 4 :: (lw ++ bytesOf (pickN N 3000) 8)) := by show _ = _; unfold reqOf; rw [HKK.out, HLW.out]; rfl
      have kc := fun (W : World) (b : Nat) => conv_one W b 4
      go_wp2_with fail
      go_region_with (first | (go_at_call 23; refine (HP.out N 3000 _ (by decide) (by decide) hN).mono ?_; rintro e w' ⟨rfl, rfl⟩) | (go_at_call 30; refine (bytesK_any _ 8 _ (by decide)).mono ?_; rintro e w' ⟨rfl, rfl⟩; unfold rowed txt))
      all_goals go_wp2
      all_goals go_ret
      all_goals refine ⟨?_, ?_⟩
      all_goals first | (rw [hr.out]; exact congrArg Ending.returned (congrArg Value.string (by rw [show (⟨#[4]⟩ : ByteArray) = ⟨[4].toArray⟩ from rfl, cat_txt, cat_txt]; rfl))) | (repeat (first | exact B2.out | refine Below.alloc ?_ (by first | omega | (simp; omega)) _ | refine Below.drew ?_))
  · by_cases k7 : k < 7
    · -- an order
      have hr : Aside (reqOf K W N = 5 :: (lw ++ bytesOf (pickN N 2) 1 ++ bytesOf (pickN (N.tdiv 2) 1002) 2)) := by
        show _ = _
        unfold reqOf
        rw [HKK.out, HLW.out, if_neg (by omega), if_neg (by omega), if_neg (by omega), if_neg (by omega), if_pos k7]
      have hN2 : I64 (N.tdiv 2) := half_bd hN
      have hwr : IntKind.i64.wrap (N.tdiv 2) = N.tdiv 2 := wrap_i64_tdiv N 2 hN.1 hN.2 (by decide)
      have x2 := fun n os => cell_grown (a := ⟨w.heap.size, 2, none⟩) hb2 c2 n os
      have p2 : ∀ (c : Int) (m : Nat) n os, 0 < m → m ≤ 9007199254740992 → I64 c → Calls Try.prog 23 #[.int .i64 c, .int .i64 m] (grow (w2.drewN n) os) fun e w' => e = .returned (.int .i64 (pickN c m : Nat)) ∧ ∃ q os', w' = grow ((grow (w2.drewN n) os).drewN q) os' := fun c m n os h1 h2 h3 => (HP.out c m _ h1 h2 h3).mono fun e w' ⟨q1, q2⟩ => ⟨q1, 0, #[], by rw [q2, grow_empty]; rfl⟩
      have p3 : ∀ (c m : Nat) n os, m ≤ 1000 → Calls Try.prog 30 #[.int .i64 c, .int .i64 m] (grow (w2.drewN n) os) fun e w' => e = .returned (.string ⟨(bytesOf c m).toArray⟩) ∧ ∃ q os', w' = grow ((grow (w2.drewN n) os).drewN q) os' := fun c m n os h1 => (bytesK_any c m _ h1).mono fun e w' ⟨q1, q2⟩ => ⟨q1, 0, #[Obj.cells ((bytesOf c m).map (fun b => Value.int .u8 b.toNat)).toArray 5], by rw [q2]; unfold rowed; rw [alloc_eq_grow]; rfl⟩
      have P2 : Aside _ := p2
      have P3 : Aside _ := p3
      clear p2 p3
      obtain rfl | rfl | rfl : k = 4 ∨ k = 5 ∨ k = 6 := by omega
      all_goals
        go_wp2_with fail
        go_quiet_grown (first | (go_at_call_of 23 (Value.int IntKind.i64 2); refine Calls.grown_of (P2.out N 2 _ _ (by decide) (by decide) hN)) | (go_at_call_of 23 (Value.int IntKind.i64 1002); refine Calls.grown_of (P2.out (N.tdiv 2) 1002 _ _ (by decide) (by decide) hN2)) | (go_at_call_of 30 (Value.int IntKind.i64 1); refine Calls.grown_of (P3.out (pickN N 2) 1 _ _ (by decide))) | (go_at_call_of 30 (Value.int IntKind.i64 2); refine Calls.grown_of (P3.out (pickN (N.tdiv 2) 1002) 2 _ _ (by decide))))
        go_wp2
        go_ret
        refine ⟨?_, B2.out.trans ((below_grow w2 nq osq).mono (Nat.le_of_lt hb2))⟩
        rw [hr.out]
        exact congrArg Ending.returned (congrArg Value.string (by rw [show (⟨#[5]⟩ : ByteArray) = ⟨[5].toArray⟩ from rfl, cat_txt, cat_txt, cat_txt]; rfl))
    · by_cases k8 : k = 7
      · subst k8
        have hr : Aside (reqOf K W N = 6 :: lw) := by
          show _ = _
          unfold reqOf
          rw [HKK.out, HLW.out]; rfl
        go_wp2
        go_ret
        refine ⟨?_, B2.out⟩
        rw [hr.out]
        exact congrArg Ending.returned (congrArg Value.string (cat_txt [6] lw))
      · have hr : Aside (reqOf K W N = 11 :: lw) := by
          show _ = _
          unfold reqOf
          rw [HKK.out, HLW.out, if_neg (by omega), if_neg (by omega), if_neg (by omega), if_neg (by omega), if_neg k7, if_neg k8]
        have d0 : ((k : Int) == 0) = false := beq_eq_false_iff_ne.2 (by omega)
        have d1 : ((k : Int) == 1) = false := beq_eq_false_iff_ne.2 (by omega)
        have d2 : ((k : Int) == 2) = false := beq_eq_false_iff_ne.2 (by omega)
        have d3 : ((k : Int) == 3) = false := beq_eq_false_iff_ne.2 (by omega)
        have d4 : ((k : Int) == 4) = false := beq_eq_false_iff_ne.2 (by omega)
        have d5 : ((k : Int) == 5) = false := beq_eq_false_iff_ne.2 (by omega)
        have d6 : ((k : Int) == 6) = false := beq_eq_false_iff_ne.2 (by omega)
        have d7 : ((k : Int) == 7) = false := beq_eq_false_iff_ne.2 (by omega)
        go_wp2
        go_ret
        refine ⟨?_, B2.out⟩
        rw [hr.out]
        exact congrArg Ending.returned (congrArg Value.string (cat_txt [11] lw))
end Go.Proofs.Ytjfifaooimgbaaa
