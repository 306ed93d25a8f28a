import Derived.Test.YtjfifaooimgbaaaGi6
import Derived.Deep.Cut
import Derived.Test.YtjfifaooimgbaaaAw
import Derived.Test.YtjfifaooimgbaaaGiS
import Derived.Test.YtjfifaooimgbaaaGiY0
import Derived.Test.YtjfifaooimgbaaaGiY1
/- What is told of the batch, of a result, of the last clearing. -/
namespace Go.Proofs.Ytjfifaooimgbaaa
open Go.Shelf Go.RowKit Go.Lib Go.Sort

theorem told_next {w V w1 : World} {v v' : Value} {l l' : List UInt8} (h : Told w V v l) (q1 : BRow w1 v' l') (q2 : OnlV v V w1) (q3 : Lies V v v') : Told w w1 v' l' := by
  obtain ⟨a1, a2, a3⟩ := h
  refine ⟨q1, ⟨q2.os.trans a2.os, q2.tape.trans a2.tape, q2.output.trans a2.output, Nat.le_trans a2.size q2.size, fun k hk => (q2.block k (Nat.lt_of_lt_of_le hk a2.size) (fun e => by have := a3 k e; omega)).trans (a2.block k hk)⟩, fun k hk => ?_⟩
  rcases q3.own k hk with e | e
  · exact a3 k e
  · exact Nat.le_trans a2.size e

set_option maxHeartbeats 2000000 in
set_option maxRecDepth 100000 in
theorem tellBatch_deed (w : World) (m X k t a sd pr : Nat) (s : MkS) (os : List Ex.Ord) (hX : BoxM w X m) (hM : MkAt w m s) (hO : ORow w s.ov os) (hn : n63 s.num) (hf : n63 s.fin) (hl : os.length ≤ 1000) :
    Calls Try.prog 126 #[reqV k t a sd pr, .pointer (some ⟨X, 0, none⟩)] w fun e w' => ∃ v, e = .returned (.tuple #[.int .u8 0, v]) ∧ Told w w' v (bytesOf s.num.toNat 4 ++ bytesOf s.fin.toNat 8 ++ bytesOf os.length 1) := by
  have mixed : Try.prog.follows .mixedOrders = true := by kernel_rfl
  unfold reqV
  obtain ⟨W, hW⟩ : ∃ W, W = w.alloc (.cells #[.int .i64 (k : Int), .int .i64 (t : Int), .int .u64 (a : Int), .int .i64 (sd : Int), .int .i64 (pr : Int)] 157) := ⟨_, rfl⟩
  have hsz : W.heap.size = w.heap.size + 1 := by rw [hW]; simp
  have bk : ∀ j, j < w.heap.size → W.heap[j]? = w.heap[j]? := fun j hj => by rw [hW]; exact Below.heap_alloc w _ j hj
  have x1 := (hX.kept (bk X hX.lt)).cell
  have C := (hM.kept (bk m hM.lt)).all
  have m4 := C.c4
  have HOW : Aside (Onl (fun _ => False) w W) := by show Onl _ _ _; rw [hW]; exact (Onl.refl _ w).alloc _
  obtain ⟨oa, ocp, hov, _⟩ := hO.ords
  have H1 : Aside (Calls Try.prog 122 #[.slice none 0 0, .int .i64 4, .slice (some ⟨w.heap.size + 1, 0, none⟩) 1 1] (W.alloc (.cells #[.int .i64 s.num] 3)) fun e w' => ∃ v, e = .returned v ∧ Told w w' v (bytesOf s.num.toNat 4)) := by
    have h := tell_one W (.slice none 0 0) [] 4 (BRow.nil _) (by decide) (by decide) (by decide) s.num hn
    rw [hsz] at h
    refine Calls.mono h ?_
    rintro e' w' ⟨v', rfl, q1, q2, q3⟩
    exact ⟨v', rfl, told_of HOW.out q1 q2 q3⟩
  have HX : Aside (BoxM w X m) := hX
  have HM : Aside (MkAt w m s) := hM
  have hxl := hX.lt
  have hml := hM.lt
  clear hX hM hO C bk
  subst hW
  go_enter Try.func126, Try.ntmps126
  go_wp2_with fail
  refine Calls.mono (f := 122) H1.out ?_
  rintro e w1 ⟨v1, rfl, T1⟩
  have C1 := (HM.out.kept (T1.2.1.block m hml)).all
  have x2 := (HX.out.kept (T1.2.1.block X hxl)).cell
  have p5 := C1.c5
  clear C1 x1 m4 H1
  have TT1 : Aside (Told w w1 v1 (bytesOf s.num.toNat 4)) := T1
  clear T1
  go_wp2_with fail
  refine Calls.mono (f := 122) (tell_one w1 v1 _ 8 TT1.out.1 (by decide) (by decide) (by rw [bytesOf_length]; decide) s.fin hf) ?_
  rintro e w2 ⟨v2, rfl, q1, q2, q3⟩
  have T2 := told_next TT1.out q1 q2 q3
  have C2 := (HM.out.kept (T2.2.1.block m hml)).all
  have x3 := (HX.out.kept (T2.2.1.block X hxl)).cell
  have p6 := C2.c6
  rw [hov] at p6
  have TT2 : Aside (Told w w2 v2 (bytesOf s.num.toNat 4 ++ bytesOf s.fin.toNat 8)) := T2
  clear C2 x2 p5 q1 q2 q3 T2 TT1
  go_wp2_with fail
  refine Calls.mono (f := 122) (tell_one w2 v2 _ 1 TT2.out.1 (by decide) (by decide) (by rw [List.length_append, bytesOf_length, bytesOf_length]; decide) (os.length : Int) ⟨by omega, by omega⟩) ?_
  rintro e w3 ⟨v3, rfl, q1, q2, q3⟩
  have TT3 : Aside (Told w w3 v3 (bytesOf s.num.toNat 4 ++ bytesOf s.fin.toNat 8 ++ bytesOf os.length 1)) := told_next TT2.out q1 q2 q3
  obtain ⟨va, vn, vc, rfl⟩ := q1.sl
  clear q1 q2 q3
  go_wp2
  go_ret2
  exact ⟨_, rfl, TT3.out⟩
end Go.Proofs.Ytjfifaooimgbaaa
/- What is told of a result, of the last clearing. -/
namespace Go.Proofs.Ytjfifaooimgbaaa
open Go.Shelf Go.RowKit Go.Lib Go.Sort

theorem brow_new (w : World) (l : List UInt8) (hl : l.length ≤ 1000 := by decide) : BRow (w.alloc (.cells (bcs l).toArray 5)) (.slice (some ⟨w.heap.size, 0, none⟩) l.length l.length) l := by
  refine ⟨by rw [bcs_length, Nat.mul_one], Or.inr ⟨w.heap.size, l.length, _, rfl, Nat.zero_le _, heap_alloc_new w _, Nat.le_refl _, by unfold maxLen; omega, by simp [bcs_length], ?_⟩⟩
  rw [Nat.mul_one, ← bcs_length l]
  simp
theorem z3 (w : World) : (zeroValue 3).run Try.prog w = .ok (.int .i64 0) w := by kernel_rfl

set_option maxHeartbeats 2000000 in
set_option maxRecDepth 100000 in
theorem tellResult_deed (w : World) (m X k t a sd pr : Nat) (s : MkS) (f : Nat → Option Int) (hX : BoxM w X m) (hM : MkAt w m s) (hP : MapF Try.prog 3 w s.bp 20 (fun i => (f i).map (Value.int .i64))) (ht : t < 20) (hb : ∀ n, f t = some n → n63 n) :
    Calls Try.prog 127 #[reqV k t a sd pr, .pointer (some ⟨X, 0, none⟩)] w fun e w' => ∃ v, e = .returned (.tuple #[.int .u8 0, v]) ∧ Told w w' v (match f t with | some n => 1 :: bytesOf n.toNat 2 | none => [0, 0, 0]) := by
  have mixed : Try.prog.follows .mixedOrders = true := by kernel_rfl
  unfold reqV
  obtain ⟨W, hW⟩ : ∃ W, W = w.alloc (.cells #[.int .i64 (k : Int), .int .i64 (t : Int), .int .u64 (a : Int), .int .i64 (sd : Int), .int .i64 (pr : Int)] 157) := ⟨_, rfl⟩
  have hsz : W.heap.size = w.heap.size + 1 := by rw [hW]; simp
  have bk : ∀ j, j < w.heap.size → W.heap[j]? = w.heap[j]? := fun j hj => by rw [hW]; exact Below.heap_alloc w _ j hj
  have x1 := (hX.kept (bk X hX.lt)).cell
  have m12 := (hM.kept (bk m hM.lt)).all.c12
  have r1 : W.cell? ⟨w.heap.size, 1, none⟩ = some (.int .i64 (t : Int)) := by rw [hW]; simp
  have HOW : Aside (Onl (fun _ => False) w W) := by show Onl _ _ _; rw [hW]; exact (Onl.refl _ w).alloc _
  have PW : MapF Try.prog 3 W s.bp 20 (fun i => (f i).map (Value.int .i64)) := hP.kept (bk _ hP.lt)
  have lk := (PW.kept (w' := W.drew) rfl).look_ok K3 Try.underlying125 (z3 W.drew) ht (key3 t (by omega))
  clear hX hM hP PW bk
  cases hft : f t with
  | none =>
    rw [hft] at lk
    have lk2 : (Instr.lookup 125 (.map (some s.bp)) (.int .i64 (t : Int)) true).run Try.prog W.drew = .ok (.tuple #[.int .i64 0, .bool false]) W.drew := lk
    clear lk
    have TN : Aside (Told w (W.alloc (.cells #[.int .u8 0, .int .u8 0, .int .u8 0] 5)).drew (.slice (some ⟨w.heap.size + 1, 0, none⟩) 3 3) [0, 0, 0]) := by
      have B := brow_new W.drew [0, 0, 0]
      rw [show W.drew.heap.size = w.heap.size + 1 from hsz] at B
      exact ⟨B, ((HOW.out.alloc _).drew).toBelow, fun k hk => by simp [Value.ownBlock] at hk; omega⟩
    go_enter Try.func127, Try.ntmps127
    go_wp2_with fail
    rw [← hW]
    clear hW
    go_region
    all_goals go_wp2
    all_goals go_ret2
    all_goals exact ⟨_, rfl, TN.out⟩
  | some n =>
    have hn := hb n hft
    rw [hft] at lk
    have lk2 : (Instr.lookup 125 (.map (some s.bp)) (.int .i64 (t : Int)) true).run Try.prog W.drew = .ok (.tuple #[.int .i64 n, .bool true]) W.drew := lk
    clear lk
    have HC : Aside (Calls Try.prog 122 #[.slice (some ⟨w.heap.size + 1, 0, none⟩) 1 1, .int .i64 2, .slice (some ⟨w.heap.size + 1 + 1, 0, none⟩) 1 1] ((W.alloc (.cells #[.int .u8 1] 5)).alloc (.cells #[.int .i64 n] 3)).drew fun e w' => ∃ v, e = .returned v ∧ Told w w' v (1 :: bytesOf n.toNat 2)) := by
      have B := brow_new W.drew [1]
      rw [show W.drew.heap.size = w.heap.size + 1 from hsz] at B
      have h := tell_one (W.alloc (.cells #[.int .u8 1] 5)).drew (.slice (some ⟨w.heap.size + 1, 0, none⟩) 1 1) [1] 2 B (by decide) (by decide) (by decide) n hn
      have e : (W.alloc (.cells #[.int .u8 1] 5)).drew.heap.size = w.heap.size + 1 + 1 := by simp [hsz]
      rw [e] at h
      refine Calls.mono h ?_
      rintro e' w' ⟨v', rfl, q1, q2, q3⟩
      exact ⟨v', rfl, told_next (l := [1]) ⟨B, ((HOW.out.alloc _).drew).toBelow, fun k hk => by simp [Value.ownBlock] at hk; omega⟩ q1 q2 q3⟩
    go_enter Try.func127, Try.ntmps127
    go_wp2_with fail
    rw [← hW]
    clear hW
    go_region
    all_goals go_wp2_with fail
    all_goals (
      refine Calls.mono (f := 122) HC.out ?_
      rintro e w' ⟨v', rfl, q1⟩
      obtain ⟨va, vn, vc, rfl⟩ := q1.1.sl
      go_wp2
      go_ret2
      exact ⟨_, rfl, q1⟩)
end Go.Proofs.Ytjfifaooimgbaaa
/- What is told of the last clearing. -/
namespace Go.Proofs.Ytjfifaooimgbaaa
open Go.Shelf Go.RowKit Go.Lib Go.Sort

/-- bytes of the last clearing. -/
def clearB (s : MkS) (own : Int) : List UInt8 := bytesOf (s.num - 1).toNat 4 ++ (bytesOf s.prs 1 ++ bytesOf s.fls 1) ++ (bytesOf s.pay.toNat 2 ++ bytesOf s.get.toNat 2) ++ bytesOf own.toNat 8 ++ bytesOf s.share 8

set_option maxHeartbeats 4000000 in
set_option maxRecDepth 100000 in
theorem tellClearing_deed (w : World) (m X k t a sd pr : Nat) (s : MkS) (q : Nat → A4) (hX : BoxM w X m) (hM : MkAt w m s) (hA : AccF w s.ba q) (hq : Tame q) (hn : 1 ≤ s.num ∧ s.num < 4611686018427387904) (h1 : s.prs ≤ 1000) (h2 : s.fls ≤ 1000) (h3 : 0 ≤ s.pay ∧ s.pay ≤ 1000) (h4 : 0 ≤ s.get ∧ s.get ≤ 1000) :
    Calls Try.prog 128 #[reqV k t a sd pr, .pointer (some ⟨X, 0, none⟩)] w fun e w' => ∃ v, e = .returned (.tuple #[.int .u8 0, v]) ∧ Told w w' v (clearB s (q 20).c) := by
  have mixed : Try.prog.follows .mixedOrders = true := by kernel_rfl
  unfold reqV
  obtain ⟨W, hW⟩ : ∃ W, W = w.alloc (.cells #[.int .i64 (k : Int), .int .i64 (t : Int), .int .u64 (a : Int), .int .i64 (sd : Int), .int .i64 (pr : Int)] 157) := ⟨_, rfl⟩
  have hsz : W.heap.size = w.heap.size + 1 := by rw [hW]; simp
  have bk : ∀ j, j < w.heap.size → W.heap[j]? = w.heap[j]? := fun j hj => by rw [hW]; exact Below.heap_alloc w _ j hj
  have x1 := (hX.kept (bk X hX.lt)).cell
  have m4 := (hM.kept (bk m hM.lt)).all.c4
  have HOW : Aside (Onl (fun _ => False) w W) := by show Onl _ _ _; rw [hW]; exact (Onl.refl _ w).alloc _
  have T1 : Aside (Calls Try.prog 122 #[.slice none 0 0, .int .i64 4, .slice (some ⟨w.heap.size + 1, 0, none⟩) 1 1] (W.alloc (.cells #[.int .i64 (s.num - 1)] 3)) fun e w' => ∃ v, e = .returned v ∧ Told w w' v (bytesOf (s.num - 1).toNat 4)) := by
    have h := tell_one W (.slice none 0 0) [] 4 (BRow.nil _) (by decide) (by decide) (by decide) (s.num - 1) ⟨by omega, by omega⟩
    rw [hsz] at h
    refine Calls.mono h ?_
    rintro e' w' ⟨v', rfl, q1, q2, q3⟩
    exact ⟨v', rfl, told_of HOW.out q1 q2 q3⟩
  have HX : Aside (BoxM w X m) := hX
  have HM : Aside (MkAt w m s) := hM
  have HA : Aside (AccF w s.ba q) := hA
  have hxl := hX.lt
  have hml := hM.lt
  have hal := hA.lt
  have hqt := hq 20 (by omega)
  obtain ⟨n1, n2⟩ := hn
  clear hX hM hA hq bk
  subst hW
  go_enter Try.func128, Try.ntmps128
  go_wp2_with fail
  refine Calls.mono (f := 122) T1.out ?_
  rintro e w1 ⟨v1, rfl, T1'⟩
  have C1 := (HM.out.kept (T1'.2.1.block m hml)).all
  have x2 := (HX.out.kept (T1'.2.1.block X hxl)).cell
  have p7 := C1.c7
  have p8 := C1.c8
  have TT1 : Aside (Told w w1 v1 (bytesOf (s.num - 1).toNat 4)) := T1'
  obtain ⟨va1, vn1, vc1, rfl⟩ := T1'.1.sl
  clear C1 x1 m4 T1 T1'
  have H2 : Aside (Calls Try.prog 122 #[.slice va1 vn1 vc1, .int .i64 1, .slice (some ⟨w1.heap.size, 0, none⟩) 2 2] (w1.alloc (.cells #[.int .i64 (s.prs : Int), .int .i64 (s.fls : Int)] 3)).drew fun e w' => ∃ v, e = .returned v ∧ Told w w' v (bytesOf (s.num - 1).toNat 4 ++ (bytesOf s.prs 1 ++ bytesOf s.fls 1))) := by
    have T := TT1.out
    have h := tell_two w1.drew (.slice va1 vn1 vc1) _ 1 (BRow.kept T.1 (fun _ _ => rfl)) (by decide) (by decide) (by rw [bytesOf_length]; decide) (s.prs : Int) (s.fls : Int) ⟨by omega, by omega⟩ ⟨by omega, by omega⟩
    refine Calls.mono h ?_
    rintro e' w' ⟨v', rfl, q1, q2, q3⟩
    exact ⟨v', rfl, told_next (V := w1.drew) (l := bytesOf (s.num - 1).toNat 4) ⟨BRow.kept T.1 (fun _ _ => rfl), ⟨T.2.1.os, T.2.1.tape, T.2.1.output, T.2.1.size, T.2.1.block⟩, T.2.2⟩ q1 q2 q3⟩
  go_wp2_with fail
  go_cut [5] from 6 (fun v w2 => Aside (Told w w2 v (bytesOf (s.num - 1).toNat 4 ++ (bytesOf s.prs 1 ++ bytesOf s.fls 1))))
  case first =>
    go_region_with (go_at_call 122; refine Calls.mono (f := 122) H2.out ?_; rintro e w2 ⟨v2, rfl, T2⟩)
    all_goals (
      go_wp2_with fail
      go_meet
      exact T2)
  case rest =>
    have T2 := hcut.out
    have C2 := (HM.out.kept (T2.2.1.block m hml)).all
    have x3 := (HX.out.kept (T2.2.1.block X hxl)).cell
    have p9 := C2.c9
    have p10 := C2.c10
    have TT2 : Aside (Told w wc u5 (bytesOf (s.num - 1).toNat 4 ++ (bytesOf s.prs 1 ++ bytesOf s.fls 1))) := T2
    obtain ⟨va2, vn2, vc2, rfl⟩ := T2.1.sl
    clear C2 x2 p7 p8 H2 T2 hcut TT1
    have H3 : Aside (Calls Try.prog 122 #[.slice va2 vn2 vc2, .int .i64 2, .slice (some ⟨wc.heap.size, 0, none⟩) 2 2] (wc.alloc (.cells #[.int .i64 s.pay, .int .i64 s.get] 3)).drew fun e w' => ∃ v, e = .returned v ∧ Told w w' v (bytesOf (s.num - 1).toNat 4 ++ (bytesOf s.prs 1 ++ bytesOf s.fls 1) ++ (bytesOf s.pay.toNat 2 ++ bytesOf s.get.toNat 2))) := by
      have T := TT2.out
      have h := tell_two wc.drew (.slice va2 vn2 vc2) _ 2 (BRow.kept T.1 (fun _ _ => rfl)) (by decide) (by decide) (by simp only [List.length_append, bytesOf_length]; decide) s.pay s.get ⟨by omega, by omega⟩ ⟨by omega, by omega⟩
      refine Calls.mono h ?_
      rintro e' w' ⟨v', rfl, q1, q2, q3⟩
      exact ⟨v', rfl, told_next (V := wc.drew) (l := bytesOf (s.num - 1).toNat 4 ++ (bytesOf s.prs 1 ++ bytesOf s.fls 1)) ⟨BRow.kept T.1 (fun _ _ => rfl), ⟨T.2.1.os, T.2.1.tape, T.2.1.output, T.2.1.size, T.2.1.block⟩, T.2.2⟩ q1 q2 q3⟩
    go_wp2_with fail
    go_cut [5] from 6 (fun v w3 => Aside (Told w w3 v (bytesOf (s.num - 1).toNat 4 ++ (bytesOf s.prs 1 ++ bytesOf s.fls 1) ++ (bytesOf s.pay.toNat 2 ++ bytesOf s.get.toNat 2))))
    case first =>
      go_region_with (go_at_call 122; refine Calls.mono (f := 122) H3.out ?_; rintro e w3 ⟨v3, rfl, T3⟩)
      all_goals (
        go_wp2_with fail
        go_meet
        exact T3)
    case rest =>
      have T3 := hcut.out
      clear x3 p9 p10 H3 TT2
      have C3 := (HM.out.kept (T3.2.1.block m hml)).all
      have x4 := (HX.out.kept (T3.2.1.block X hxl)).cell
      have p3 := C3.c3
      have A3 : AccF wc s.ba q := HA.out.kept (T3.2.1.block _ hal)
      have lk : (Instr.lookup 121 (.map (some s.ba)) (.int .i64 20) false).run Try.prog wc = .ok (.agg #[.int .i64 (q 20).c, .int .i64 (q 20).h, .int .i64 (q 20).u, .int .i64 (q 20).k]) wc := A3.look (i := 20) (by decide)
      have fx := fld0 (.int .i64 (q 20).c) (.int .i64 (q 20).h)
      have ix := idx0 (.int .i64 (q 20).c) (.int .i64 (q 20).h) (.int .i64 (q 20).u) (.int .i64 (q 20).k)
      have TT3 : Aside (Told w wc _ _) := T3
      clear C3 A3 T3
      go_wp2_with fail
      refine Calls.mono (f := 122) (tell_one wc _ _ 8 TT3.out.1 (by decide) (by decide) (by simp only [List.length_append, bytesOf_length]; decide) (q 20).c ⟨by omega, by omega⟩) ?_
      rintro e w4 ⟨v4, rfl, q1, q2, q3⟩
      have TT4 : Aside (Told w w4 v4 _) := told_next TT3.out q1 q2 q3
      have C4 := (HM.out.kept (TT4.out.2.1.block m hml)).all
      have x5 := (HX.out.kept (TT4.out.2.1.block X hxl)).cell
      have p11 := C4.c11
      clear q1 q2 q3 C4 x4 p3 lk fx ix
      go_wp2_with fail
      refine Calls.mono (f := 129) (append_num v4 _ s.share 8 w4 TT4.out.1 (by decide) (by decide) (by simp only [List.length_append, bytesOf_length]; decide)) ?_
      rintro e w5 ⟨v5, rfl, q1, q2, q3⟩
      have TT5 : Aside (Told w w5 v5 (clearB s (q 20).c)) := told_next TT4.out q1 q2 q3
      obtain ⟨va5, vn5, vc5, rfl⟩ := q1.sl
      clear q1 q2 q3
      go_wp2
      go_ret2
      exact ⟨_, rfl, TT5.out⟩
end Go.Proofs.Ytjfifaooimgbaaa
/- Orders, and what is told: against the exchange without a program. -/
namespace Go.Proofs.Ytjfifaooimgbaaa
open Go.Shelf Go.RowKit Go.Lib Go.Sort

theorem deed_below {m : Nat} {s : MkS} {w w' : World} {x : Ex.Xch} (hK : Mkt w m s x) (c : UInt8) (b : Below w.heap.size w w') : Deed m s w (x, [c]) (.returned (.tuple #[.int .u8 (c.toNat : Int), .slice none 0 0])) w' :=
  ⟨s, .slice none 0 0, c, [], rfl, rfl, BRow.nil _, fun j hj => by simp [Value.ownBlock] at hj, hK.below b, (Step.refl m s w).below b, rfl⟩
theorem deed_told {m : Nat} {s : MkS} {w w' : World} {x : Ex.Xch} (hK : Mkt w m s x) (v : Value) (l : List UInt8) (h : Told w w' v l) : Deed m s w (x, 0 :: l) (.returned (.tuple #[.int .u8 0, v])) w' :=
  ⟨s, v, 0, l, rfl, rfl, h.1, h.2.2, hK.below h.2.1, (Step.refl m s w).below h.2.1, rfl⟩
theorem Mkt.onOrd {w w' : World} {m : Nat} {s : MkS} {x : Ex.Xch} (h : Mkt w m s x) (v : Value) (ps : Nat → Ex.Purse) (os : List Ex.Ord) (hM : MkAt w' m { s with ov := v }) (o : Onl (fun k => k = m ∨ k = s.ba ∨ s.ov.ownBlock = some k) w w') (ha : AccF w' s.ba (qOf { x with ps := ps, ords := os })) (hO : ORow w' v os) : Mkt w' m { s with ov := v } { x with ps := ps, ords := os } := by
  have A := h.apart
  exact { at_ := hM, acc := ha, ord := hO
          prc := h.prc.kept (o.block _ h.prc.lt (fun e => by
            rcases e with e | e | e
            · exact A.mp e.symm
            · exact A.ap e.symm
            · exact A.op e))
          jrn := h.jrn.kept (fun k hk => o.block k (h.jrn.lt hk) (fun e => by
            rcases e with e | e | e
            · exact A.jm (by rw [hk, e])
            · exact A.ja (by rw [hk, e])
            · exact A.oj k e hk))
          nap := h.nap, per := h.per, cap := h.cap, time := h.time, num := h.num, fin := h.fin, last := h.last, prs := h.prs, fls := h.fls, pay := h.pay, get := h.get, share := h.share }
theorem Step.onOrd {w w' : World} {m : Nat} {s : MkS} (v : Value) (o : Onl (fun k => k = m ∨ k = s.ba ∨ s.ov.ownBlock = some k) w w') (l : Lies w s.ov v) : Step m s w { s with ov := v } w' :=
  ⟨o.mono (fun i hi => by
    rcases hi with h | h | h
    · exact Or.inl h
    · exact Or.inr (Or.inl h)
    · exact Or.inr (Or.inr (Or.inr (Or.inl h)))), fun k hk => by
    rcases hk with h | h | h | h | h
    · exact Or.inl (Or.inl h)
    · exact Or.inl (Or.inr (Or.inl h))
    · exact Or.inl (Or.inr (Or.inr (Or.inl h)))
    · rcases l.own k h with h | h
      · exact Or.inl (Or.inr (Or.inr (Or.inr (Or.inl h))))
      · exact Or.inr h
    · exact Or.inl (Or.inr (Or.inr (Or.inr (Or.inr h)))), rfl⟩
theorem place_live (os : List Ex.Ord) (t : Nat) : (0 ≤ placeX os t) ↔ Ex.liveAt os t = true := by
  unfold placeX Ex.liveAt
  cases h : os.findIdx? (fun o => o.who == t) with
  | none =>
    rw [List.findIdx?_eq_none_iff] at h
    simp only [List.any_eq_true]
    constructor
    · intro h'; exact absurd h' (by decide)
    · rintro ⟨o, ho, h2⟩
      rw [h o ho] at h2; cases h2
  | some i =>
    rw [List.findIdx?_eq_some_iff_getElem] at h
    obtain ⟨hi, h2, _⟩ := h
    simp only [List.any_eq_true]
    constructor
    · intro _; exact ⟨os[i], List.getElem_mem _, h2⟩
    · intro _; show (0 : Int) ≤ (i : Int); omega

theorem deed_order (w : World) (m X t sd pr : Nat) (s : MkS) (x : Ex.Xch) (hX : BoxM w X m) (hK : Mkt w m s x) (ok : Ex.Ok x) (ht : t < 20) (hp : pr < 65536) : Calls Try.prog 119 #[reqV 5 t 0 sd pr, .pointer (some ⟨X, 0, none⟩)] w (Deed m s w (Ex.ordersX x t sd pr)) := by
  have len : x.ords.length ≤ 20 := by have := ok.len; have := ok.cap; omega
  have hl : x.ords.length ≤ 1000 := by omega
  have T := tame_of ok
  have qt := qOf_at x t ht
  unfold Ex.ordersX
  dsimp only
  by_cases h1 : 1 < sd
  · rw [if_pos h1]
    refine (give_4 w m X 5 t 0 sd pr s (qOf x) x.ords hX hK.at_ hK.acc hK.ord T ht hl hp h1).mono ?_
    rintro e w' ⟨rfl, B⟩
    exact deed_below hK 4 B
  · rw [if_neg h1]
    by_cases h2 : pr < 1 ∨ 1000 ≤ pr
    · rw [if_pos h2]
      rcases (show sd = 0 ∨ sd = 1 by omega) with rfl | rfl
      · refine (give_5_0 w m X 5 t 0 pr s (qOf x) x.ords hX hK.at_ hK.acc hK.ord T ht hl hp h2).mono ?_
        rintro e w' ⟨rfl, B⟩
        exact deed_below hK 5 B
      · refine (give_5_1 w m X 5 t 0 pr s (qOf x) x.ords hX hK.at_ hK.acc hK.ord T ht hl hp h2).mono ?_
        rintro e w' ⟨rfl, B⟩
        exact deed_below hK 5 B
    · rw [if_neg h2]
      have hp2 : 1 ≤ pr ∧ pr < 1000 := by omega
      by_cases h3 : Ex.liveAt x.ords t = true
      · rw [if_pos h3]
        have h3' := (place_live x.ords t).2 h3
        rcases (show sd = 0 ∨ sd = 1 by omega) with rfl | rfl
        · refine (give_6_0 w m X 5 t 0 pr s (qOf x) x.ords hX hK.at_ hK.acc hK.ord T ht hl hp hp2 h3').mono ?_
          rintro e w' ⟨rfl, B⟩
          exact deed_below hK 6 B
        · refine (give_6_1 w m X 5 t 0 pr s (qOf x) x.ords hX hK.at_ hK.acc hK.ord T ht hl hp hp2 h3').mono ?_
          rintro e w' ⟨rfl, B⟩
          exact deed_below hK 6 B
      · rw [if_neg h3]
        have h3' : placeX x.ords t < 0 := by
          rcases Int.lt_or_le (placeX x.ords t) 0 with h | h
          · exact h
          · exact absurd ((place_live x.ords t).1 h) h3
        by_cases h4 : x.cap ≤ (x.ords.length : Int)
        · rw [if_pos h4]
          have h4' : s.cap ≤ (x.ords.length : Int) := by rw [hK.cap]; exact h4
          rcases (show sd = 0 ∨ sd = 1 by omega) with rfl | rfl
          · refine (give_7_0 w m X 5 t 0 pr s (qOf x) x.ords hX hK.at_ hK.acc hK.ord T ht hl hp hp2 h3' h4').mono ?_
            rintro e w' ⟨rfl, B⟩
            exact deed_below hK 7 B
          · refine (give_7_1 w m X 5 t 0 pr s (qOf x) x.ords hX hK.at_ hK.acc hK.ord T ht hl hp hp2 h3' h4').mono ?_
            rintro e w' ⟨rfl, B⟩
            exact deed_below hK 7 B
        · rw [if_neg h4]
          have h4' : (x.ords.length : Int) < s.cap := by rw [hK.cap]; omega
          rcases (show sd = 0 ∨ sd = 1 by omega) with rfl | rfl
          · by_cases h5 : (x.ps t).cash < pr
            · rw [if_pos (Or.inl ⟨rfl, h5⟩)]
              refine (give_8_0 w m X 5 t 0 pr s (qOf x) x.ords hX hK.at_ hK.acc hK.ord T ht hl hp hp2 h3' h4' (by rw [qt]; exact h5)).mono ?_
              rintro e w' ⟨rfl, B⟩
              exact deed_below hK 8 B
            · rw [if_neg (by omega)]
              refine (give_y_0 w m X 5 t 0 pr s (qOf x) x.ords hX hK.at_ hK.acc hK.ord T ht hl hp hp2 h3' h4' (by rw [qt]; dsimp only; omega)).mono ?_
              rintro e w' ⟨v, u, rfl, b1, b2, b3, b4, b5, b6, b7⟩
              refine ⟨_, u, 0, _, rfl, rfl, b1, b2, hK.onOrd v _ _ b3 b6 ?_ b5, Step.onOrd v b6 b7, rfl⟩
              have e : qOf { x with ps := Ex.upd x.ps t { x.ps t with cash := (x.ps t).cash - (pr : Int), held := (x.ps t).held + (pr : Int) }, ords := x.ords ++ [⟨t, ((0 : Nat) : Int), (pr : Int)⟩] } = updA (qOf x) t (chg 0 (-(pr : Int)) pr (qOf x t)) := by
                have := qOf_upd x t ht { x.ps t with cash := (x.ps t).cash - (pr : Int), held := (x.ps t).held + (pr : Int) }
                rw [qt]
                simp only [chg, if_true, ← Int.sub_eq_add_neg]
                exact this
              rw [if_pos rfl, e]
              exact b4
          · by_cases h5 : (x.ps t).units < 1
            · rw [if_pos (Or.inr ⟨rfl, h5⟩)]
              refine (give_8_1 w m X 5 t 0 pr s (qOf x) x.ords hX hK.at_ hK.acc hK.ord T ht hl hp hp2 h3' h4' (by rw [qt]; exact h5)).mono ?_
              rintro e w' ⟨rfl, B⟩
              exact deed_below hK 8 B
            · rw [if_neg (by omega)]
              refine (give_y_1 w m X 5 t 0 pr s (qOf x) x.ords hX hK.at_ hK.acc hK.ord T ht hl hp hp2 h3' h4' (by rw [qt]; dsimp only; omega)).mono ?_
              rintro e w' ⟨v, u, rfl, b1, b2, b3, b4, b5, b6, b7⟩
              refine ⟨_, u, 0, _, rfl, rfl, b1, b2, hK.onOrd v _ _ b3 b6 ?_ b5, Step.onOrd v b6 b7, rfl⟩
              have e : qOf { x with ps := Ex.upd x.ps t { x.ps t with units := (x.ps t).units - 1, hun := (x.ps t).hun + 1 }, ords := x.ords ++ [⟨t, ((1 : Nat) : Int), (pr : Int)⟩] } = updA (qOf x) t (chg 1 (-1) 1 (qOf x t)) := by
                have := qOf_upd x t ht { x.ps t with units := (x.ps t).units - 1, hun := (x.ps t).hun + 1 }
                rw [qt]
                simp only [chg, show ¬ ((1 : Nat) = 0) by decide, if_false, ← Int.sub_eq_add_neg]
                exact this
              rw [if_neg (by decide), e]
              exact b4

section
variable (w : World) (m X t : Nat) (s : MkS) (x : Ex.Xch) (hX : BoxM w X m) (hK : Mkt w m s x) (ok : Ex.Ok x) (ht : t < 20) (hb : x.batch < 1152921504606846976)
include hX hK ok
include ht in
theorem deed_account : Calls Try.prog 125 #[reqV 7 t 0 0 0, .pointer (some ⟨X, 0, none⟩)] w (Deed m s w (x, Ex.tellsX x 7 t)) := by
  refine (tellAccount_deed w m X 7 t 0 0 0 s (qOf x) hX hK.at_ hK.acc (tame_of ok) ht).mono ?_
  rintro e w' ⟨v, rfl, T⟩
  have e : Ex.tellsX x 7 t = 0 :: (bytesOf (x.ps t).cash.toNat 8 ++ (bytesOf (x.ps t).held.toNat 8 ++ (bytesOf (x.ps t).units.toNat 8 ++ bytesOf (x.ps t).hun.toNat 8))) := by
    unfold Ex.tellsX
    rw [if_pos rfl]
    simp [List.append_assoc]
  rw [e]
  rw [qOf_at x t ht] at T
  exact deed_told hK v _ T
include hb in
theorem deed_batch : Calls Try.prog 126 #[reqV 8 0 0 0 0, .pointer (some ⟨X, 0, none⟩)] w (Deed m s w (x, Ex.tellsX x 8 0)) := by
  have b1 := ok.batch
  have f1 := ok.fin
  have f2 := ok.time
  have f3 := ok.per
  have len : x.ords.length ≤ 20 := by have := ok.len; have := ok.cap; omega
  refine (tellBatch_deed w m X 8 0 0 0 0 s x.ords hX hK.at_ hK.ord (by rw [hK.num]; exact ⟨by omega, by omega⟩) (by rw [hK.fin]; exact ⟨by omega, by omega⟩) (by omega)).mono ?_
  rintro e w' ⟨v, rfl, T⟩
  have e : Ex.tellsX x 8 0 = 0 :: (bytesOf x.batch.toNat 4 ++ bytesOf x.fin.toNat 8 ++ bytesOf x.ords.length 1) := by
    unfold Ex.tellsX
    rw [if_neg (by decide), if_pos rfl]
  rw [e]
  rw [hK.num, hK.fin] at T
  exact deed_told hK v _ T
include ht in
theorem deed_result : Calls Try.prog 127 #[reqV 9 t 0 0 0, .pointer (some ⟨X, 0, none⟩)] w (Deed m s w (x, Ex.tellsX x 9 t)) := by
  have hp : MapF Try.prog 3 w s.bp 20 (fun i => (if x.traded i = true then some (x.paid i) else none).map (Value.int .i64)) := by
    have e : (fun i => (if x.traded i = true then some (x.paid i) else none).map (Value.int .i64)) = prOf x := by
      funext i
      unfold prOf
      split <;> rfl
    rw [e]; exact hK.prc
  refine (tellResult_deed w m X 9 t 0 0 0 s (fun i => if x.traded i = true then some (x.paid i) else none) hX hK.at_ hp ht (fun n hn => by
    have := ok.paid t
    split at hn
    · injection hn with hn
      subst hn
      exact ⟨by omega, by omega⟩
    · cases hn)).mono ?_
  rintro e w' ⟨v, rfl, T⟩
  unfold Ex.tellsX
  rw [if_neg (by decide), if_neg (by decide), if_pos rfl]
  by_cases h : x.traded t = true
  · rw [if_pos h] at T ⊢
    exact deed_told hK v _ T
  · rw [if_neg h] at T ⊢
    exact deed_told hK v _ T
include hb in
theorem deed_clearing : Calls Try.prog 128 #[reqV 10 0 0 0 0, .pointer (some ⟨X, 0, none⟩)] w (Deed m s w (x, Ex.tellsX x 10 0)) := by
  have b1 := ok.batch
  have sb := set_bd x.lastL
  have ll := ok.lastLen
  have k1 : kL x.lastL ≤ 1000 := by have := (kL_le x.lastL).1; have := buyers_le x.lastL; omega
  have k2 : (setL x.lastL).1 ≤ 1000 := by have := setL_le x.lastL; omega
  refine (tellClearing_deed w m X 10 0 0 0 0 s (qOf x) hX hK.at_ hK.acc (tame_of ok) (by rw [hK.num]; omega) (by rw [hK.prs]; exact k1) (by rw [hK.fls]; exact k2) (by rw [hK.pay]; exact sb.1) (by rw [hK.get]; exact sb.2)).mono ?_
  rintro e w' ⟨v, rfl, T⟩
  have hq : qOf x 20 = ⟨x.own, 0, 0, 0⟩ := if_neg (by decide)
  have e : Ex.tellsX x 10 0 = 0 :: clearB s (qOf x 20).c := by
    unfold Ex.tellsX clearB
    rw [if_neg (by decide), if_neg (by decide), if_neg (by decide), hq, hK.num, hK.prs, hK.fls, hK.pay, hK.get, hK.share, hK.last]
    simp [List.append_assoc]
  rw [e]
  exact deed_told hK v _ T
end
end Go.Proofs.Ytjfifaooimgbaaa
/- Do, over what answer answers. -/
namespace Go.Proofs.Ytjfifaooimgbaaa
open Go.Shelf Go.RowKit Go.Lib Go.Sort

theorem conv_row {w : World} {v : Value} {l : List UInt8} (h : BRow w v l) (hne : l ≠ []) : (convert 98 9 v).run Try.prog w = .ok (.string ⟨l.toArray⟩) w := by
  rcases h.2 with ⟨_, h2⟩ | ⟨g, cap, cur, rfl, a1, a2, a3⟩
  · exact absurd (List.length_eq_zero_iff.1 h2) hne
  · exact run_convert_bytes_back (P := Try.prog) w 98 9 5 ⟨g, 0, none⟩ cap l Try.underlying98 Try.underlying5 Try.underlying9 (fun j hj => World.ownsRow.cells h (g := g) rfl j _ (by
      unfold bcs
      rw [List.getElem?_map, List.getElem?_eq_getElem hj]
      rfl))
/-- a deed's boxes. -/
def deedF (bx gx : Nat → Nat) (k : Nat) : Option Value :=
  if k = 1 ∨ k = 3 then some (.func (.func 115) #[] #[.pointer (some ⟨bx k, 0, none⟩), .pointer (some ⟨gx k, 0, none⟩)])
  else if k = 2 ∨ k = 4 then some (.func (.func 117) #[] #[.pointer (some ⟨bx k, 0, none⟩), .pointer (some ⟨gx k, 0, none⟩)])
  else if k = 5 then some (.func (.func 119) #[] #[.pointer (some ⟨bx k, 0, none⟩)])
  else if k = 6 then some (.func (.func 123) #[] #[.pointer (some ⟨bx k, 0, none⟩)])
  else if k = 7 then some (.func (.func 125) #[] #[.pointer (some ⟨bx k, 0, none⟩)])
  else if k = 8 then some (.func (.func 126) #[] #[.pointer (some ⟨bx k, 0, none⟩)])
  else if k = 9 then some (.func (.func 127) #[] #[.pointer (some ⟨bx k, 0, none⟩)])
  else if k = 10 then some (.func (.func 128) #[] #[.pointer (some ⟨bx k, 0, none⟩)])
  else none
structure Bxs (w : World) (bd m : Nat) (bx gx : Nat → Nat) : Prop where
  map : MapF Try.prog 3 w bd 11 (deedF bx gx)
  box : ∀ k, 1 ≤ k → k ≤ 10 → BoxM w (bx k) m
  good : ∀ k, 1 ≤ k → k ≤ 4 → BoxG w (gx k) (if k ≤ 2 then 0 else 1)
/-- the blocks that are only read. -/
def BFoot (bd : Nat) (bx gx : Nat → Nat) (j : Nat) : Prop := j = bd ∨ (∃ k, 1 ≤ k ∧ k ≤ 10 ∧ j = bx k) ∨ (∃ k, 1 ≤ k ∧ k ≤ 4 ∧ j = gx k)
theorem Bxs.kept {w w' : World} {bd m : Nat} {bx gx : Nat → Nat} (h : Bxs w bd m bx gx) (e : ∀ j, BFoot bd bx gx j → w'.heap[j]? = w.heap[j]?) : Bxs w' bd m bx gx :=
  ⟨h.map.kept (e _ (Or.inl rfl)), fun k h1 h2 => (h.box k h1 h2).kept (e _ (Or.inr (Or.inl ⟨k, h1, h2, rfl⟩))), fun k h1 h2 => (h.good k h1 h2).kept (e _ (Or.inr (Or.inr ⟨k, h1, h2, rfl⟩)))⟩
theorem Bxs.lt {w : World} {bd m : Nat} {bx gx : Nat → Nat} (h : Bxs w bd m bx gx) : ∀ j, BFoot bd bx gx j → j < w.heap.size := fun j hj => by
  rcases hj with rfl | ⟨k, h1, h2, rfl⟩ | ⟨k, h1, h2, rfl⟩
  · exact h.map.lt
  · exact (h.box k h1 h2).lt
  · exact (h.good k h1 h2).lt
theorem Bxs.below {w w' : World} {bd m : Nat} {bx gx : Nat → Nat} (h : Bxs w bd m bx gx) (b : Below w.heap.size w w') : Bxs w' bd m bx gx := h.kept fun j hj => b.block j (h.lt j hj)
/-- what is only read is not what is written. -/
theorem Bxs.apart {w : World} {m : Nat} {s : MkS} {x : Ex.Xch} {bx gx : Nat → Nat} (h : Bxs w s.bd m bx gx) (hK : Mkt w m s x) (nbd : s.bd ≠ s.ba ∧ s.bd ≠ s.bp) : ∀ j, BFoot s.bd bx gx j → ¬ Foot m s j := fun j hj hf => by
  obtain ⟨e1, c1, a1⟩ := hK.acc.block
  obtain ⟨e2, c2, a2⟩ := hK.prc.block
  obtain ⟨e3, c3, a3⟩ := h.map.block
  have hm : w.heap[m]? = _ := hK.at_
  rcases hj with rfl | ⟨k, h1, h2, rfl⟩ | ⟨k, h1, h2, rfl⟩
  · rcases hf with e | e | e | e | e
    · rw [← e, a3] at hm; cases hm
    · exact nbd.1 e
    · exact nbd.2 e
    · obtain ⟨cur, hc⟩ := row_block hK.ord e
      rw [a3] at hc; cases hc
    · obtain ⟨cur, hc⟩ := row_block hK.jrn e
      rw [a3] at hc; cases hc
  · have hb := h.box k h1 h2
    unfold BoxM at hb
    rcases hf with e | e | e | e | e
    · rw [e, hm] at hb; injection hb with hb; injection hb with _ hb; revert hb; decide
    · rw [e, a1] at hb; cases hb
    · rw [e, a2] at hb; cases hb
    · obtain ⟨cur, hc⟩ := row_block hK.ord e
      rw [hb] at hc; injection hc with hc; injection hc with _ hc; revert hc; decide
    · obtain ⟨cur, hc⟩ := row_block hK.jrn e
      rw [hb] at hc; injection hc with hc; injection hc with _ hc; revert hc; decide
  · have hb := h.good k h1 h2
    unfold BoxG at hb
    rcases hf with e | e | e | e | e
    · rw [e, hm] at hb; injection hb with hb; injection hb with _ hb; revert hb; decide
    · rw [e, a1] at hb; cases hb
    · rw [e, a2] at hb; cases hb
    · obtain ⟨cur, hc⟩ := row_block hK.ord e
      rw [hb] at hc; injection hc with hc; injection hc with _ hc; revert hc; decide
    · obtain ⟨cur, hc⟩ := row_block hK.jrn e
      rw [hb] at hc; injection hc with hc; injection hc with _ hc; revert hc; decide

set_option maxHeartbeats 2000000 in
set_option maxRecDepth 100000 in
theorem marketDo_any (w : World) (m : Nat) (s : MkS) (x : Ex.Xch) (now : Int) (r : List UInt8) (hK : Mkt w m s x) (ok : Ex.Ok x) (h0 : -9223372036854775808 ≤ now ∧ now ≤ 9223372036854775807) (hn : x.batch < 1152921504606846976) (hj : x.jr.length ≤ 8796093022208)
    (hA : ∀ w1 s1, Mkt w1 m s1 (Ex.cleared (Ex.timed x now)) → Step m s w s1 w1 → Calls Try.prog 77 #[.pointer (some ⟨m, 0, none⟩), .string ⟨r.toArray⟩] w1 (Ans m s1 w1 (Ex.doX x now r))) (hl : (Ex.doX x now r).2.length ≤ 1000) :
    Calls Try.prog 63 #[.pointer (some ⟨m, 0, none⟩), .int .i64 now, .string ⟨r.toArray⟩] w fun e w' => ∃ s', e = .returned (.string ⟨(Ex.doX x now r).2.toArray⟩) ∧ Mkt w' m s' (Ex.doX x now r).1 ∧ Step m s w s' w' := by
  have mixed : Try.prog.follows .mixedOrders = true := by kernel_rfl
  have HS : Aside _ := setTime_any w m s x now hK ok h0 hn hj
  have HA : Aside _ := hA
  have HL : Aside ((Ex.doX x now r).2.length ≤ 1000) := hl
  clear hK ok hA hl hn hj
  go_enter Try.func63, Try.ntmps63
  go_wp2_with fail
  refine Calls.mono (f := 76) HS.out ?_
  rintro e w1 ⟨s1, rfl, K1, S1⟩
  have HA1 : Aside _ := HA.out w1 s1 K1 S1
  have HS1 : Aside (Step m s w s1 w1) := S1
  clear HS HA K1 S1
  go_wp2_with fail
  refine Calls.mono (f := 77) HA1.out ?_
  rintro e w2 ⟨s2, u, c, told, d1, rfl, d2, d3, d4, d5⟩
  obtain ⟨va, vn, vc, rfl⟩ := d2.sl
  have HD1 : Aside ((Ex.doX x now r).2 = c :: told) := d1
  have HB : Aside (BRow w2 (.slice va vn vc) told) := d2
  have HK2 : Aside (Mkt w2 m s2 (Ex.doX x now r).1) := d4
  have HST : Aside (Step m s w s2 w2) := HS1.out.trans d5
  have hlt : told.length ≤ 1000 := by
    have := HL.out
    rw [HD1.out] at this
    simp at this
    omega
  clear HA1 HS1 d1 d2 d3 d4 d5
  have BN : Aside (BRow (w2.alloc (.cells #[.int .u8 (c.toNat : Int)] 5)) (.slice (some ⟨w2.heap.size, 0, none⟩) 1 1) [c]) := brow_new w2 [c] (by simp)
  have B2 : Aside (BRow (w2.alloc (.cells #[.int .u8 (c.toNat : Int)] 5)) (.slice va vn vc) told) := World.ownsRow.alloc HB.out _
  go_wp2_with (first | (at_builtin; refine wpList_append_bytes _ rfl _ _ 98 rfl _ [c] rfl BN.out _ rfl told (src_row _ _ _ B2.out) (by simp only [List.length_singleton]; omega) (by simp only [List.length_singleton]; omega) ?_; intro v3 w3 r1 r2 r3; have hcv := conv_row r1 (by simp); obtain ⟨va3, vn3, vc3, rfl⟩ := r1.sl) | fail)
  go_ret
  refine ⟨s2, by rw [HD1.out]; rfl, ?_, ?_⟩
  · refine HK2.out.kept (fun k hk => (r2.block k (by have := HK2.out.foot_lt k hk; simp; omega) (fun e => ?_)).trans (Below.heap_alloc w2 _ k (HK2.out.foot_lt k hk)))
    have e' : some k = some w2.heap.size := e
    injection e' with e'
    have := HK2.out.foot_lt k hk
    omega
  · refine ⟨(HST.out.onl.alloc _).grown (j := w2.heap.size) r2 (Or.inr HST.out.onl.size), HST.out.foot, HST.out.bd⟩

set_option maxHeartbeats 2000000 in
set_option maxRecDepth 100000 in
theorem exchangeDo_any (w : World) (p m : Nat) (now : Int) (r : List UInt8) (Q : List UInt8 → World → Prop) (hp : w.heap[p]? = some (.cells #[.pointer (some ⟨m, 0, none⟩)] 105 (0, 0)))
    (hD : Calls Try.prog 63 #[.pointer (some ⟨m, 0, none⟩), .int .i64 now, .string ⟨r.toArray⟩] w fun e w' => ∃ l : List UInt8, e = .returned (.string ⟨l.toArray⟩) ∧ Q l w') :
    Calls Try.prog 46 #[.pointer (some ⟨p, 0, none⟩), .int .i64 now, .string ⟨r.toArray⟩] w fun e w' => ∃ l : List UInt8, e = .returned (.tuple #[.string ⟨l.toArray⟩, .int .i64 0]) ∧ Q l w' := by
  have mixed : Try.prog.follows .mixedOrders = true := by kernel_rfl
  have c0 : w.cell? ⟨p, 0, none⟩ = some (.pointer (some ⟨m, 0, none⟩)) := by simp [World.cell?, hp]
  have HD : Aside _ := hD
  clear hp hD
  go_enter Try.func46, Try.ntmps46
  go_wp2_with fail
  refine Calls.mono (f := 63) HD.out ?_
  rintro e w' ⟨l, rfl, q⟩
  go_wp2
  go_ret2
  exact ⟨l, rfl, q⟩
end Go.Proofs.Ytjfifaooimgbaaa
