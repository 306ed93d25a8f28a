import Derived.Test.YtjfifaooimgbaaaGi4
import Derived.Deep.Cut
/- What is told of the batch, of a result, of the last clearing. -/
namespace Go.Proofs.Ytjfifaooimgbaaa
open Go.Shelf Go.RowKit Go.Lib Go.Sort

theorem told_next {w V w1 : World} {v v' : Value} {l l' : List UInt8} (h : Told w V v l) (q1 : BRow w1 v' l') (q2 : OnlV v V w1) (q3 : Lies V v v') : Told w w1 v' l' := by
  obtain ⟨a1, a2, a3⟩ := h
  refine ⟨q1, ⟨q2.os.trans a2.os, q2.tape.trans a2.tape, q2.output.trans a2.output, Nat.le_trans a2.size q2.size, fun k hk => (q2.block k (Nat.lt_of_lt_of_le hk a2.size) (fun e => by have := a3 k e; omega)).trans (a2.block k hk)⟩, fun k hk => ?_⟩
  rcases q3.own k hk with e | e
  · exact a3 k e
  · exact Nat.le_trans a2.size e

set_option maxHeartbeats 2000000 in
set_option maxRecDepth 100000 in
theorem tellBatch_deed (w : World) (m X k t a sd pr : Nat) (s : MkS) (os : List Ex.Ord) (hX : BoxM w X m) (hM : MkAt w m s) (hO : ORow w s.ov os) (hn : n63 s.num) (hf : n63 s.fin) (hl : os.length ≤ 1000) :
    Calls Try.prog 126 #[reqV k t a sd pr, .pointer (some ⟨X, 0, none⟩)] w fun e w' => ∃ v, e = .returned (.tuple #[.int .u8 0, v]) ∧ Told w w' v (bytesOf s.num.toNat 4 ++ bytesOf s.fin.toNat 8 ++ bytesOf os.length 1) := by
  have mixed : Try.prog.follows .mixedOrders = true := by kernel_rfl
  unfold reqV
  obtain ⟨W, hW⟩ : ∃ W, W = w.alloc (.cells #[.int .i64 (k : Int), .int .i64 (t : Int), .int .u64 (a : Int), .int .i64 (sd : Int), .int .i64 (pr : Int)] 157) := ⟨_, rfl⟩
  have hsz : W.heap.size = w.heap.size + 1 := by rw [hW]; simp
  have bk : ∀ j, j < w.heap.size → W.heap[j]? = w.heap[j]? := fun j hj => by rw [hW]; exact Below.heap_alloc w _ j hj
  have x1 := (hX.kept (bk X hX.lt)).cell
  have C := (hM.kept (bk m hM.lt)).all
  have m4 := C.c4
  have HOW : Aside (Onl (fun _ => False) w W) := by show Onl _ _ _; rw [hW]; exact (Onl.refl _ w).alloc _
  obtain ⟨oa, ocp, hov, _⟩ := hO.ords
  have H1 : Aside (Calls Try.prog 122 #[.slice none 0 0, .int .i64 4, .slice (some ⟨w.heap.size + 1, 0, none⟩) 1 1] (W.alloc (.cells #[.int .i64 s.num] 3)) fun e w' => ∃ v, e = .returned v ∧ Told w w' v (bytesOf s.num.toNat 4)) := by
    have h := tell_one W (.slice none 0 0) [] 4 (BRow.nil _) (by decide) (by decide) (by decide) s.num hn
    rw [hsz] at h
    refine Calls.mono h ?_
    rintro e' w' ⟨v', rfl, q1, q2, q3⟩
    exact ⟨v', rfl, told_of HOW.out q1 q2 q3⟩
  have HX : Aside (BoxM w X m) := hX
  have HM : Aside (MkAt w m s) := hM
  have hxl := hX.lt
  have hml := hM.lt
  clear hX hM hO C bk
  subst hW
  go_enter Try.func126, Try.ntmps126
  go_wp2_with fail
  refine Calls.mono (f := 122) H1.out ?_
  rintro e w1 ⟨v1, rfl, T1⟩
  have C1 := (HM.out.kept (T1.2.1.block m hml)).all
  have x2 := (HX.out.kept (T1.2.1.block X hxl)).cell
  have p5 := C1.c5
  clear C1 x1 m4 H1
  have TT1 : Aside (Told w w1 v1 (bytesOf s.num.toNat 4)) := T1
  clear T1
  go_wp2_with fail
  refine Calls.mono (f := 122) (tell_one w1 v1 _ 8 TT1.out.1 (by decide) (by decide) (by rw [bytesOf_length]; decide) s.fin hf) ?_
  rintro e w2 ⟨v2, rfl, q1, q2, q3⟩
  have T2 := told_next TT1.out q1 q2 q3
  have C2 := (HM.out.kept (T2.2.1.block m hml)).all
  have x3 := (HX.out.kept (T2.2.1.block X hxl)).cell
  have p6 := C2.c6
  rw [hov] at p6
  have TT2 : Aside (Told w w2 v2 (bytesOf s.num.toNat 4 ++ bytesOf s.fin.toNat 8)) := T2
  clear C2 x2 p5 q1 q2 q3 T2 TT1
  go_wp2_with fail
  refine Calls.mono (f := 122) (tell_one w2 v2 _ 1 TT2.out.1 (by decide) (by decide) (by rw [List.length_append, bytesOf_length, bytesOf_length]; decide) (os.length : Int) ⟨by omega, by omega⟩) ?_
  rintro e w3 ⟨v3, rfl, q1, q2, q3⟩
  have TT3 : Aside (Told w w3 v3 (bytesOf s.num.toNat 4 ++ bytesOf s.fin.toNat 8 ++ bytesOf os.length 1)) := told_next TT2.out q1 q2 q3
  obtain ⟨va, vn, vc, rfl⟩ := q1.sl
  clear q1 q2 q3
  go_wp2
  go_ret2
  exact ⟨_, rfl, TT3.out⟩
end Go.Proofs.Ytjfifaooimgbaaa
/- What is told of a result, of the last clearing. -/
namespace Go.Proofs.Ytjfifaooimgbaaa
open Go.Shelf Go.RowKit Go.Lib Go.Sort

theorem brow_new (w : World) (l : List UInt8) (hl : l.length ≤ 1000 := by decide) : BRow (w.alloc (.cells (bcs l).toArray 5)) (.slice (some ⟨w.heap.size, 0, none⟩) l.length l.length) l := by
  refine ⟨by rw [bcs_length, Nat.mul_one], Or.inr ⟨w.heap.size, l.length, _, rfl, Nat.zero_le _, heap_alloc_new w _, Nat.le_refl _, by unfold maxLen; omega, by simp [bcs_length], ?_⟩⟩
  rw [Nat.mul_one, ← bcs_length l]
  simp
theorem z3 (w : World) : (zeroValue 3).run Try.prog w = .ok (.int .i64 0) w := by kernel_rfl

set_option maxHeartbeats 2000000 in
set_option maxRecDepth 100000 in
theorem tellResult_deed (w : World) (m X k t a sd pr : Nat) (s : MkS) (f : Nat → Option Int) (hX : BoxM w X m) (hM : MkAt w m s) (hP : MapF Try.prog 3 w s.bp 20 (fun i => (f i).map (Value.int .i64))) (ht : t < 20) (hb : ∀ n, f t = some n → n63 n) :
    Calls Try.prog 127 #[reqV k t a sd pr, .pointer (some ⟨X, 0, none⟩)] w fun e w' => ∃ v, e = .returned (.tuple #[.int .u8 0, v]) ∧ Told w w' v (match f t with | some n => 1 :: bytesOf n.toNat 2 | none => [0, 0, 0]) := by
  have mixed : Try.prog.follows .mixedOrders = true := by kernel_rfl
  unfold reqV
  obtain ⟨W, hW⟩ : ∃ W, W = w.alloc (.cells #[.int .i64 (k : Int), .int .i64 (t : Int), .int .u64 (a : Int), .int .i64 (sd : Int), .int .i64 (pr : Int)] 157) := ⟨_, rfl⟩
  have hsz : W.heap.size = w.heap.size + 1 := by rw [hW]; simp
  have bk : ∀ j, j < w.heap.size → W.heap[j]? = w.heap[j]? := fun j hj => by rw [hW]; exact Below.heap_alloc w _ j hj
  have x1 := (hX.kept (bk X hX.lt)).cell
  have m12 := (hM.kept (bk m hM.lt)).all.c12
  have r1 : W.cell? ⟨w.heap.size, 1, none⟩ = some (.int .i64 (t : Int)) := by rw [hW]; simp
  have HOW : Aside (Onl (fun _ => False) w W) := by show Onl _ _ _; rw [hW]; exact (Onl.refl _ w).alloc _
  have PW : MapF Try.prog 3 W s.bp 20 (fun i => (f i).map (Value.int .i64)) := hP.kept (bk _ hP.lt)
  have lk := (PW.kept (w' := W.drew) rfl).look_ok K3 Try.underlying125 (z3 W.drew) ht (key3 t (by omega))
  clear hX hM hP PW bk
  cases hft : f t with
  | none =>
    rw [hft] at lk
    have lk2 : (Instr.lookup 125 (.map (some s.bp)) (.int .i64 (t : Int)) true).run Try.prog W.drew = .ok (.tuple #[.int .i64 0, .bool false]) W.drew := lk
    clear lk
    have TN : Aside (Told w (W.alloc (.cells #[.int .u8 0, .int .u8 0, .int .u8 0] 5)).drew (.slice (some ⟨w.heap.size + 1, 0, none⟩) 3 3) [0, 0, 0]) := by
      have B := brow_new W.drew [0, 0, 0]
      rw [show W.drew.heap.size = w.heap.size + 1 from hsz] at B
      exact ⟨B, ((HOW.out.alloc _).drew).toBelow, fun k hk => by simp [Value.ownBlock] at hk; omega⟩
    go_enter Try.func127, Try.ntmps127
    go_wp2_with fail
    rw [← hW]
    clear hW
    go_region
    all_goals go_wp2
    all_goals go_ret2
    all_goals exact ⟨_, rfl, TN.out⟩
  | some n =>
    have hn := hb n hft
    rw [hft] at lk
    have lk2 : (Instr.lookup 125 (.map (some s.bp)) (.int .i64 (t : Int)) true).run Try.prog W.drew = .ok (.tuple #[.int .i64 n, .bool true]) W.drew := lk
    clear lk
    have HC : Aside (Calls Try.prog 122 #[.slice (some ⟨w.heap.size + 1, 0, none⟩) 1 1, .int .i64 2, .slice (some ⟨w.heap.size + 1 + 1, 0, none⟩) 1 1] ((W.alloc (.cells #[.int .u8 1] 5)).alloc (.cells #[.int .i64 n] 3)).drew fun e w' => ∃ v, e = .returned v ∧ Told w w' v (1 :: bytesOf n.toNat 2)) := by
      have B := brow_new W.drew [1]
      rw [show W.drew.heap.size = w.heap.size + 1 from hsz] at B
      have h := tell_one (W.alloc (.cells #[.int .u8 1] 5)).drew (.slice (some ⟨w.heap.size + 1, 0, none⟩) 1 1) [1] 2 B (by decide) (by decide) (by decide) n hn
      have e : (W.alloc (.cells #[.int .u8 1] 5)).drew.heap.size = w.heap.size + 1 + 1 := by simp [hsz]
      rw [e] at h
      refine Calls.mono h ?_
      rintro e' w' ⟨v', rfl, q1, q2, q3⟩
      exact ⟨v', rfl, told_next (l := [1]) ⟨B, ((HOW.out.alloc _).drew).toBelow, fun k hk => by simp [Value.ownBlock] at hk; omega⟩ q1 q2 q3⟩
    go_enter Try.func127, Try.ntmps127
    go_wp2_with fail
    rw [← hW]
    clear hW
    go_region
    all_goals go_wp2_with fail
    all_goals (
      refine Calls.mono (f := 122) HC.out ?_
      rintro e w' ⟨v', rfl, q1⟩
      obtain ⟨va, vn, vc, rfl⟩ := q1.1.sl
      go_wp2
      go_ret2
      exact ⟨_, rfl, q1⟩)
end Go.Proofs.Ytjfifaooimgbaaa
/- What is told of the last clearing. -/
namespace Go.Proofs.Ytjfifaooimgbaaa
open Go.Shelf Go.RowKit Go.Lib Go.Sort

/-- bytes of the last clearing. -/
def clearB (s : MkS) (own : Int) : List UInt8 := bytesOf (s.num - 1).toNat 4 ++ (bytesOf s.prs 1 ++ bytesOf s.fls 1) ++ (bytesOf s.pay.toNat 2 ++ bytesOf s.get.toNat 2) ++ bytesOf own.toNat 8 ++ bytesOf s.share 8

set_option maxHeartbeats 4000000 in
set_option maxRecDepth 100000 in
theorem tellClearing_deed (w : World) (m X k t a sd pr : Nat) (s : MkS) (q : Nat → A4) (hX : BoxM w X m) (hM : MkAt w m s) (hA : AccF w s.ba q) (hq : Tame q) (hn : 1 ≤ s.num ∧ s.num < 4611686018427387904) (h1 : s.prs ≤ 1000) (h2 : s.fls ≤ 1000) (h3 : 0 ≤ s.pay ∧ s.pay ≤ 1000) (h4 : 0 ≤ s.get ∧ s.get ≤ 1000) :
    Calls Try.prog 128 #[reqV k t a sd pr, .pointer (some ⟨X, 0, none⟩)] w fun e w' => ∃ v, e = .returned (.tuple #[.int .u8 0, v]) ∧ Told w w' v (clearB s (q 20).c) := by
  have mixed : Try.prog.follows .mixedOrders = true := by kernel_rfl
  unfold reqV
  obtain ⟨W, hW⟩ : ∃ W, W = w.alloc (.cells #[.int .i64 (k : Int), .int .i64 (t : Int), .int .u64 (a : Int), .int .i64 (sd : Int), .int .i64 (pr : Int)] 157) := ⟨_, rfl⟩
  have hsz : W.heap.size = w.heap.size + 1 := by rw [hW]; simp
  have bk : ∀ j, j < w.heap.size → W.heap[j]? = w.heap[j]? := fun j hj => by rw [hW]; exact Below.heap_alloc w _ j hj
  have x1 := (hX.kept (bk X hX.lt)).cell
  have m4 := (hM.kept (bk m hM.lt)).all.c4
  have HOW : Aside (Onl (fun _ => False) w W) := by show Onl _ _ _; rw [hW]; exact (Onl.refl _ w).alloc _
  have T1 : Aside (Calls Try.prog 122 #[.slice none 0 0, .int .i64 4, .slice (some ⟨w.heap.size + 1, 0, none⟩) 1 1] (W.alloc (.cells #[.int .i64 (s.num - 1)] 3)) fun e w' => ∃ v, e = .returned v ∧ Told w w' v (bytesOf (s.num - 1).toNat 4)) := by
    have h := tell_one W (.slice none 0 0) [] 4 (BRow.nil _) (by decide) (by decide) (by decide) (s.num - 1) ⟨by omega, by omega⟩
    rw [hsz] at h
    refine Calls.mono h ?_
    rintro e' w' ⟨v', rfl, q1, q2, q3⟩
    exact ⟨v', rfl, told_of HOW.out q1 q2 q3⟩
  have HX : Aside (BoxM w X m) := hX
  have HM : Aside (MkAt w m s) := hM
  have HA : Aside (AccF w s.ba q) := hA
  have hxl := hX.lt
  have hml := hM.lt
  have hal := hA.lt
  have hqt := hq 20 (by omega)
  obtain ⟨n1, n2⟩ := hn
  clear hX hM hA hq bk
  subst hW
  go_enter Try.func128, Try.ntmps128
  go_wp2_with fail
  refine Calls.mono (f := 122) T1.out ?_
  rintro e w1 ⟨v1, rfl, T1'⟩
  have C1 := (HM.out.kept (T1'.2.1.block m hml)).all
  have x2 := (HX.out.kept (T1'.2.1.block X hxl)).cell
  have p7 := C1.c7
  have p8 := C1.c8
  have TT1 : Aside (Told w w1 v1 (bytesOf (s.num - 1).toNat 4)) := T1'
  obtain ⟨va1, vn1, vc1, rfl⟩ := T1'.1.sl
  clear C1 x1 m4 T1 T1'
  have H2 : Aside (Calls Try.prog 122 #[.slice va1 vn1 vc1, .int .i64 1, .slice (some ⟨w1.heap.size, 0, none⟩) 2 2] (w1.alloc (.cells #[.int .i64 (s.prs : Int), .int .i64 (s.fls : Int)] 3)).drew fun e w' => ∃ v, e = .returned v ∧ Told w w' v (bytesOf (s.num - 1).toNat 4 ++ (bytesOf s.prs 1 ++ bytesOf s.fls 1))) := by
    have T := TT1.out
    have h := tell_two w1.drew (.slice va1 vn1 vc1) _ 1 (BRow.kept T.1 (fun _ _ => rfl)) (by decide) (by decide) (by rw [bytesOf_length]; decide) (s.prs : Int) (s.fls : Int) ⟨by omega, by omega⟩ ⟨by omega, by omega⟩
    refine Calls.mono h ?_
    rintro e' w' ⟨v', rfl, q1, q2, q3⟩
    exact ⟨v', rfl, told_next (V := w1.drew) (l := bytesOf (s.num - 1).toNat 4) ⟨BRow.kept T.1 (fun _ _ => rfl), ⟨T.2.1.os, T.2.1.tape, T.2.1.output, T.2.1.size, T.2.1.block⟩, T.2.2⟩ q1 q2 q3⟩
  go_wp2_with fail
  go_cut [5] from 6 (fun v w2 => Aside (Told w w2 v (bytesOf (s.num - 1).toNat 4 ++ (bytesOf s.prs 1 ++ bytesOf s.fls 1))))
  case first =>
    go_region_with (go_at_call 122; refine Calls.mono (f := 122) H2.out ?_; rintro e w2 ⟨v2, rfl, T2⟩)
    all_goals (
      go_wp2_with fail
      go_meet
      exact T2)
  case rest =>
    have T2 := hcut.out
    have C2 := (HM.out.kept (T2.2.1.block m hml)).all
    have x3 := (HX.out.kept (T2.2.1.block X hxl)).cell
    have p9 := C2.c9
    have p10 := C2.c10
    have TT2 : Aside (Told w wc u5 (bytesOf (s.num - 1).toNat 4 ++ (bytesOf s.prs 1 ++ bytesOf s.fls 1))) := T2
    obtain ⟨va2, vn2, vc2, rfl⟩ := T2.1.sl
    clear C2 x2 p7 p8 H2 T2 hcut TT1
    have H3 : Aside (Calls Try.prog 122 #[.slice va2 vn2 vc2, .int .i64 2, .slice (some ⟨wc.heap.size, 0, none⟩) 2 2] (wc.alloc (.cells #[.int .i64 s.pay, .int .i64 s.get] 3)).drew fun e w' => ∃ v, e = .returned v ∧ Told w w' v (bytesOf (s.num - 1).toNat 4 ++ (bytesOf s.prs 1 ++ bytesOf s.fls 1) ++ (bytesOf s.pay.toNat 2 ++ bytesOf s.get.toNat 2))) := by
      have T := TT2.out
      have h := tell_two wc.drew (.slice va2 vn2 vc2) _ 2 (BRow.kept T.1 (fun _ _ => rfl)) (by decide) (by decide) (by simp only [List.length_append, bytesOf_length]; decide) s.pay s.get ⟨by omega, by omega⟩ ⟨by omega, by omega⟩
      refine Calls.mono h ?_
      rintro e' w' ⟨v', rfl, q1, q2, q3⟩
      exact ⟨v', rfl, told_next (V := wc.drew) (l := bytesOf (s.num - 1).toNat 4 ++ (bytesOf s.prs 1 ++ bytesOf s.fls 1)) ⟨BRow.kept T.1 (fun _ _ => rfl), ⟨T.2.1.os, T.2.1.tape, T.2.1.output, T.2.1.size, T.2.1.block⟩, T.2.2⟩ q1 q2 q3⟩
    go_wp2_with fail
    go_cut [5] from 6 (fun v w3 => Aside (Told w w3 v (bytesOf (s.num - 1).toNat 4 ++ (bytesOf s.prs 1 ++ bytesOf s.fls 1) ++ (bytesOf s.pay.toNat 2 ++ bytesOf s.get.toNat 2))))
    case first =>
      go_region_with (go_at_call 122; refine Calls.mono (f := 122) H3.out ?_; rintro e w3 ⟨v3, rfl, T3⟩)
      all_goals (
        go_wp2_with fail
        go_meet
        exact T3)
    case rest =>
      have T3 := hcut.out
      clear x3 p9 p10 H3 TT2
      have C3 := (HM.out.kept (T3.2.1.block m hml)).all
      have x4 := (HX.out.kept (T3.2.1.block X hxl)).cell
      have p3 := C3.c3
      have A3 : AccF wc s.ba q := HA.out.kept (T3.2.1.block _ hal)
      have lk : (Instr.lookup 121 (.map (some s.ba)) (.int .i64 20) false).run Try.prog wc = .ok (.agg #[.int .i64 (q 20).c, .int .i64 (q 20).h, .int .i64 (q 20).u, .int .i64 (q 20).k]) wc := A3.look (i := 20) (by decide)
      have fx := fld0 (.int .i64 (q 20).c) (.int .i64 (q 20).h)
      have ix := idx0 (.int .i64 (q 20).c) (.int .i64 (q 20).h) (.int .i64 (q 20).u) (.int .i64 (q 20).k)
      have TT3 : Aside (Told w wc _ _) := T3
      clear C3 A3 T3
      go_wp2_with fail
      refine Calls.mono (f := 122) (tell_one wc _ _ 8 TT3.out.1 (by decide) (by decide) (by simp only [List.length_append, bytesOf_length]; decide) (q 20).c ⟨by omega, by omega⟩) ?_
      rintro e w4 ⟨v4, rfl, q1, q2, q3⟩
      have TT4 : Aside (Told w w4 v4 _) := told_next TT3.out q1 q2 q3
      have C4 := (HM.out.kept (TT4.out.2.1.block m hml)).all
      have x5 := (HX.out.kept (TT4.out.2.1.block X hxl)).cell
      have p11 := C4.c11
      clear q1 q2 q3 C4 x4 p3 lk fx ix
      go_wp2_with fail
      refine Calls.mono (f := 129) (append_num v4 _ s.share 8 w4 TT4.out.1 (by decide) (by decide) (by simp only [List.length_append, bytesOf_length]; decide)) ?_
      rintro e w5 ⟨v5, rfl, q1, q2, q3⟩
      have TT5 : Aside (Told w w5 v5 (clearB s (q 20).c)) := told_next TT4.out q1 q2 q3
      obtain ⟨va5, vn5, vc5, rfl⟩ := q1.sl
      clear q1 q2 q3
      go_wp2
      go_ret2
      exact ⟨_, rfl, TT5.out⟩
end Go.Proofs.Ytjfifaooimgbaaa
