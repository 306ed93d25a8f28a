import Derived.Test.YtjfifaooimgbaaaLk
import Derived.Test.YtjfifaooimgbaaaNx
import Derived.StillTailTactics
import Derived.Deep.RegionHeld3
import Derived.Test.YtjfifaooimgbaaaDj
import Derived.Test.YtjfifaooimgbaaaNw
/- Records that no exchange could have written here. -/
namespace Go.Proofs.Ytjfifaooimgbaaa
open Go.Shelf Go.RowKit Go.Lib Go.Sort

theorem blw_tr {a b c : World} (h : Below a.heap.size a b) (g : Below b.heap.size b c) : Below a.heap.size a c :=
  ⟨g.os.trans h.os, g.tape.trans h.tape, g.output.trans h.output, Nat.le_trans h.size g.size, fun k hk => (g.block k (Nat.lt_of_lt_of_le hk h.size)).trans (h.block k hk)⟩
section
variable (w : World) (m : Nat) (s : MkS) (hM : MkAt w m s) (T : Nat) (rq : List UInt8)
include hM
set_option maxHeartbeats 1000000 in
set_option maxRecDepth 100000 in
theorem repeat_low (h0 : 0 ≤ s.time ∧ s.time ≤ 1125899906842624) (h : (T : Int) < s.time) : Calls Try.prog 70 #[.pointer (some ⟨m, 0, none⟩), .agg #[.int .u64 (T : Int), .string ⟨rq.toArray⟩]] w fun e w' => e = .returned (.bool false) ∧ Below w.heap.size w w' := by
  have mixed : Try.prog.follows .mixedOrders = true := by kernel_rfl
  obtain ⟨W, hW⟩ : ∃ W, W = w.alloc (.cells #[.int .u64 (T : Int), .string ⟨rq.toArray⟩] 133) := ⟨_, rfl⟩
  have B : Aside (Below w.heap.size w W) := by rw [hW]; exact (Below.refl _ w).alloc (Nat.le_refl _) _
  have c2 : W.cell? ⟨m, 2, none⟩ = some (.int .i64 s.time) := (B.out.cell (p := ⟨m, 2, none⟩) hM.lt).trans hM.all.c2
  have q0 : W.cell? ⟨w.heap.size, 0, none⟩ = some (.int .u64 (T : Int)) := by rw [hW]; simp
  have hu : IntKind.u64.wrap s.time = s.time := IntWalk.u64_in _ (by omega)
  clear hM
  go_enter Try.func70, Try.ntmps70
  go_wp2_with fail
  rw [← hW]
  clear hW
  go_quiet (fail)
  go_wp2
  go_ret
  exact ⟨rfl, Below.drewN B.out _⟩
set_option maxHeartbeats 1000000 in
set_option maxRecDepth 100000 in
theorem repeat_high (h0 : 0 ≤ s.time ∧ s.time ≤ 1125899906842624) (h : 1125899906842624 < (T : Int)) : Calls Try.prog 70 #[.pointer (some ⟨m, 0, none⟩), .agg #[.int .u64 (T : Int), .string ⟨rq.toArray⟩]] w fun e w' => e = .returned (.bool false) ∧ Below w.heap.size w w' := by
  have mixed : Try.prog.follows .mixedOrders = true := by kernel_rfl
  obtain ⟨W, hW⟩ : ∃ W, W = w.alloc (.cells #[.int .u64 (T : Int), .string ⟨rq.toArray⟩] 133) := ⟨_, rfl⟩
  have B : Aside (Below w.heap.size w W) := by rw [hW]; exact (Below.refl _ w).alloc (Nat.le_refl _) _
  have c2 : W.cell? ⟨m, 2, none⟩ = some (.int .i64 s.time) := (B.out.cell (p := ⟨m, 2, none⟩) hM.lt).trans hM.all.c2
  have q0 : W.cell? ⟨w.heap.size, 0, none⟩ = some (.int .u64 (T : Int)) := by rw [hW]; simp
  have hu : IntKind.u64.wrap s.time = s.time := IntWalk.u64_in _ (by omega)
  have hlt : ¬ (T : Int) < s.time := by omega
  clear hM
  go_enter Try.func70, Try.ntmps70
  go_wp2_with fail
  rw [← hW]
  clear hW
  go_quiet (fail)
  go_wp2
  go_ret
  exact ⟨rfl, Below.drewN B.out _⟩
set_option maxHeartbeats 2000000 in
set_option maxRecDepth 100000 in
theorem repeat_early (h0 : 0 ≤ s.time ∧ s.time ≤ 1125899906842624) (h1 : s.time ≤ (T : Int)) (h2 : (T : Int) ≤ 1125899906842624) (hr : rq = []) (hf : (T : Int) < s.fin) : Calls Try.prog 70 #[.pointer (some ⟨m, 0, none⟩), .agg #[.int .u64 (T : Int), .string ⟨rq.toArray⟩]] w fun e w' => e = .returned (.bool false) ∧ Below w.heap.size w w' := by
  have mixed : Try.prog.follows .mixedOrders = true := by kernel_rfl
  have HC : Aside (∀ w, Calls Try.prog 89 #[.agg #[.int .u64 T, .string ⟨rq.toArray⟩]] w fun e w' => e = .returned (.bool true) ∧ Below w.heap.size w w') := fun w => by
    have := isClearing_any w T rq
    rw [decide_eq_true hr] at this
    exact this
  obtain ⟨W, hW⟩ : ∃ W, W = w.alloc (.cells #[.int .u64 (T : Int), .string ⟨rq.toArray⟩] 133) := ⟨_, rfl⟩
  have B : Aside (Below w.heap.size w W) := by rw [hW]; exact (Below.refl _ w).alloc (Nat.le_refl _) _
  have c2 : W.cell? ⟨m, 2, none⟩ = some (.int .i64 s.time) := (B.out.cell (p := ⟨m, 2, none⟩) hM.lt).trans hM.all.c2
  have c5 : W.cell? ⟨m, 5, none⟩ = some (.int .i64 s.fin) := (B.out.cell (p := ⟨m, 5, none⟩) hM.lt).trans hM.all.c5
  have q0 : W.cell? ⟨w.heap.size, 0, none⟩ = some (.int .u64 (T : Int)) := by rw [hW]; simp
  have q1 : W.cell? ⟨w.heap.size, 1, none⟩ = some (.string ⟨rq.toArray⟩) := by rw [hW]; simp
  have hwl : w.heap.size < W.heap.size := by rw [hW]; simp
  have hml : m < W.heap.size := Nat.lt_of_lt_of_le hM.lt B.out.size
  have hu : IntKind.u64.wrap s.time = s.time := IntWalk.u64_in _ (by omega)
  have hi : IntKind.i64.wrap (T : Int) = (T : Int) := IntWalk.i64_in _ (by omega)
  have hlt : ¬ (T : Int) < s.time := by omega
  have hgt : ¬ 1125899906842624 < (T : Int) := by omega
  have hff : decide (s.fin ≤ (T : Int)) = false := decide_eq_false (by omega)
  clear hM hr
  go_enter Try.func70, Try.ntmps70
  go_wp2_with fail
  rw [← hW]
  clear hW
  go_quiet (fail)
  obtain ⟨V, hV⟩ : ∃ V, V = W.drewN nq := ⟨_, rfl⟩
  rw [← hV]
  have d0 : V.cell? ⟨w.heap.size, 0, none⟩ = some (.int .u64 (T : Int)) := by rw [hV]; exact q0
  have d1 : V.cell? ⟨w.heap.size, 1, none⟩ = some (.string ⟨rq.toArray⟩) := by rw [hV]; exact q1
  have d5 : V.cell? ⟨m, 5, none⟩ = some (.int .i64 s.fin) := by rw [hV]; exact c5
  have BV : Aside (Below w.heap.size w V) := by rw [hV]; exact Below.drewN B.out _
  have lV : w.heap.size < V.heap.size := by rw [hV]; exact hwl
  have mV : m < V.heap.size := by rw [hV]; exact hml
  clear hV q0 q1 c5 c2 hwl hml
  go_wp2_with fail
  go_region_held3 (fun U => U.cell? ⟨w.heap.size, 0, none⟩ = some (.int .u64 (T : Int)) ∧ U.cell? ⟨w.heap.size, 1, none⟩ = some (.string ⟨rq.toArray⟩) ∧ U.cell? ⟨m, 5, none⟩ = some (.int .i64 s.fin)) (first | exact ⟨by assumption, by assumption, by assumption⟩ | go_keep) (first | (go_at_call 89; refine Calls.mono (f := 89) (HC.out _) ?_; rintro e w1 ⟨rfl, b1⟩; have y0 : w1.cell? ⟨w.heap.size, 0, none⟩ = some (.int .u64 (T : Int)) := (b1.cell (p := ⟨w.heap.size, 0, none⟩) (by assumption)).trans (by assumption); have y1 : w1.cell? ⟨w.heap.size, 1, none⟩ = some (.string ⟨rq.toArray⟩) := (b1.cell (p := ⟨w.heap.size, 1, none⟩) (by assumption)).trans (by assumption); have y5 : w1.cell? ⟨m, 5, none⟩ = some (.int .i64 s.fin) := (b1.cell (p := ⟨m, 5, none⟩) (by assumption)).trans (by assumption)))
  all_goals (
    go_wp2
    go_ret
    exact ⟨rfl, by first | exact blw_tr BV.out b1 | exact Below.drew (blw_tr BV.out b1) | exact blw_tr (Below.drew BV.out) b1 | exact Below.drew (blw_tr (Below.drew BV.out) b1)⟩)
set_option maxHeartbeats 2000000 in
set_option maxRecDepth 100000 in
theorem repeat_late (h0 : 0 ≤ s.time ∧ s.time ≤ 1125899906842624) (h1 : s.time ≤ (T : Int)) (h2 : (T : Int) ≤ 1125899906842624) (hr : ¬ rq = []) (hf : s.fin ≤ (T : Int)) : Calls Try.prog 70 #[.pointer (some ⟨m, 0, none⟩), .agg #[.int .u64 (T : Int), .string ⟨rq.toArray⟩]] w fun e w' => e = .returned (.bool false) ∧ Below w.heap.size w w' := by
  have mixed : Try.prog.follows .mixedOrders = true := by kernel_rfl
  have HC : Aside (∀ w, Calls Try.prog 89 #[.agg #[.int .u64 T, .string ⟨rq.toArray⟩]] w fun e w' => e = .returned (.bool false) ∧ Below w.heap.size w w') := fun w => by
    have := isClearing_any w T rq
    rw [decide_eq_false hr] at this
    exact this
  obtain ⟨W, hW⟩ : ∃ W, W = w.alloc (.cells #[.int .u64 (T : Int), .string ⟨rq.toArray⟩] 133) := ⟨_, rfl⟩
  have B : Aside (Below w.heap.size w W) := by rw [hW]; exact (Below.refl _ w).alloc (Nat.le_refl _) _
  have c2 : W.cell? ⟨m, 2, none⟩ = some (.int .i64 s.time) := (B.out.cell (p := ⟨m, 2, none⟩) hM.lt).trans hM.all.c2
  have c5 : W.cell? ⟨m, 5, none⟩ = some (.int .i64 s.fin) := (B.out.cell (p := ⟨m, 5, none⟩) hM.lt).trans hM.all.c5
  have q0 : W.cell? ⟨w.heap.size, 0, none⟩ = some (.int .u64 (T : Int)) := by rw [hW]; simp
  have q1 : W.cell? ⟨w.heap.size, 1, none⟩ = some (.string ⟨rq.toArray⟩) := by rw [hW]; simp
  have hwl : w.heap.size < W.heap.size := by rw [hW]; simp
  have hml : m < W.heap.size := Nat.lt_of_lt_of_le hM.lt B.out.size
  have hu : IntKind.u64.wrap s.time = s.time := IntWalk.u64_in _ (by omega)
  have hi : IntKind.i64.wrap (T : Int) = (T : Int) := IntWalk.i64_in _ (by omega)
  have hlt : ¬ (T : Int) < s.time := by omega
  have hgt : ¬ 1125899906842624 < (T : Int) := by omega
  have hff : decide (s.fin ≤ (T : Int)) = true := decide_eq_true hf
  clear hM hr
  go_enter Try.func70, Try.ntmps70
  go_wp2_with fail
  rw [← hW]
  clear hW
  go_quiet (fail)
  obtain ⟨V, hV⟩ : ∃ V, V = W.drewN nq := ⟨_, rfl⟩
  rw [← hV]
  have d0 : V.cell? ⟨w.heap.size, 0, none⟩ = some (.int .u64 (T : Int)) := by rw [hV]; exact q0
  have d1 : V.cell? ⟨w.heap.size, 1, none⟩ = some (.string ⟨rq.toArray⟩) := by rw [hV]; exact q1
  have d5 : V.cell? ⟨m, 5, none⟩ = some (.int .i64 s.fin) := by rw [hV]; exact c5
  have BV : Aside (Below w.heap.size w V) := by rw [hV]; exact Below.drewN B.out _
  have lV : w.heap.size < V.heap.size := by rw [hV]; exact hwl
  have mV : m < V.heap.size := by rw [hV]; exact hml
  clear hV q0 q1 c5 c2 hwl hml
  go_wp2_with fail
  go_region_held3 (fun U => U.cell? ⟨w.heap.size, 0, none⟩ = some (.int .u64 (T : Int)) ∧ U.cell? ⟨w.heap.size, 1, none⟩ = some (.string ⟨rq.toArray⟩) ∧ U.cell? ⟨m, 5, none⟩ = some (.int .i64 s.fin)) (first | exact ⟨by assumption, by assumption, by assumption⟩ | go_keep) (first | (go_at_call 89; refine Calls.mono (f := 89) (HC.out _) ?_; rintro e w1 ⟨rfl, b1⟩; have y0 : w1.cell? ⟨w.heap.size, 0, none⟩ = some (.int .u64 (T : Int)) := (b1.cell (p := ⟨w.heap.size, 0, none⟩) (by assumption)).trans (by assumption); have y1 : w1.cell? ⟨w.heap.size, 1, none⟩ = some (.string ⟨rq.toArray⟩) := (b1.cell (p := ⟨w.heap.size, 1, none⟩) (by assumption)).trans (by assumption); have y5 : w1.cell? ⟨m, 5, none⟩ = some (.int .i64 s.fin) := (b1.cell (p := ⟨m, 5, none⟩) (by assumption)).trans (by assumption)))
  all_goals (
    go_wp2
    go_ret
    exact ⟨rfl, by first | exact blw_tr BV.out b1 | exact Below.drew (blw_tr BV.out b1) | exact blw_tr (Below.drew BV.out) b1 | exact Below.drew (blw_tr (Below.drew BV.out) b1)⟩)
end
end Go.Proofs.Ytjfifaooimgbaaa
/- A record is done again. -/
namespace Go.Proofs.Ytjfifaooimgbaaa
open Go.Shelf Go.RowKit Go.Lib Go.Sort

set_option maxHeartbeats 4000000 in
set_option maxRecDepth 100000 in
theorem repeat_req (w : World) (m : Nat) (s : MkS) (x : Ex.Xch) (hM : MkAt w m s) (T : Nat) (rq : List UInt8) (o : Option Ex.Xch) (h0 : 0 ≤ s.time ∧ s.time ≤ 1125899906842624) (h1 : s.time ≤ (T : Int)) (h2 : (T : Int) ≤ 1125899906842624) (hr : ¬ rq = []) (hf : (T : Int) < s.fin)
    (HQ : ∀ V : World, Below w.heap.size w V → Calls Try.prog 90 #[.pointer (some ⟨m, 0, none⟩), .int .i64 (T : Int), .string ⟨rq.toArray⟩] V (Rpt m s V x o)) : Calls Try.prog 70 #[.pointer (some ⟨m, 0, none⟩), .agg #[.int .u64 (T : Int), .string ⟨rq.toArray⟩]] w (Rpt m s w x o) := by
  have mixed : Try.prog.follows .mixedOrders = true := by kernel_rfl
  have HC : Aside (∀ w, Calls Try.prog 89 #[.agg #[.int .u64 T, .string ⟨rq.toArray⟩]] w fun e w' => e = .returned (.bool false) ∧ Below w.heap.size w w') := fun w => by
    have := isClearing_any w T rq
    rw [decide_eq_false hr] at this
    exact this
  obtain ⟨W, hW⟩ : ∃ W, W = w.alloc (.cells #[.int .u64 (T : Int), .string ⟨rq.toArray⟩] 133) := ⟨_, rfl⟩
  have B : Aside (Below w.heap.size w W) := by rw [hW]; exact (Below.refl _ w).alloc (Nat.le_refl _) _
  have c2 : W.cell? ⟨m, 2, none⟩ = some (.int .i64 s.time) := (B.out.cell (p := ⟨m, 2, none⟩) hM.lt).trans hM.all.c2
  have c5 : W.cell? ⟨m, 5, none⟩ = some (.int .i64 s.fin) := (B.out.cell (p := ⟨m, 5, none⟩) hM.lt).trans hM.all.c5
  have q0 : W.cell? ⟨w.heap.size, 0, none⟩ = some (.int .u64 (T : Int)) := by rw [hW]; simp
  have q1 : W.cell? ⟨w.heap.size, 1, none⟩ = some (.string ⟨rq.toArray⟩) := by rw [hW]; simp
  have hwl : w.heap.size < W.heap.size := by rw [hW]; simp
  have hml : m < W.heap.size := Nat.lt_of_lt_of_le hM.lt B.out.size
  have hu : IntKind.u64.wrap s.time = s.time := IntWalk.u64_in _ (by omega)
  have hi : IntKind.i64.wrap (T : Int) = (T : Int) := IntWalk.i64_in _ (by omega)
  have hlt : ¬ (T : Int) < s.time := by omega
  have hgt : ¬ 1125899906842624 < (T : Int) := by omega
  have hff : decide (s.fin ≤ (T : Int)) = false := decide_eq_false (by omega)
  have HQA : Aside _ := HQ
  clear HQ
  clear hM hr
  go_enter Try.func70, Try.ntmps70
  go_wp2_with fail
  rw [← hW]
  clear hW
  go_quiet (fail)
  obtain ⟨V, hV⟩ : ∃ V, V = W.drewN nq := ⟨_, rfl⟩
  rw [← hV]
  have d0 : V.cell? ⟨w.heap.size, 0, none⟩ = some (.int .u64 (T : Int)) := by rw [hV]; exact q0
  have d1 : V.cell? ⟨w.heap.size, 1, none⟩ = some (.string ⟨rq.toArray⟩) := by rw [hV]; exact q1
  have d5 : V.cell? ⟨m, 5, none⟩ = some (.int .i64 s.fin) := by rw [hV]; exact c5
  have BV : Aside (Below w.heap.size w V) := by rw [hV]; exact Below.drewN B.out _
  have lV : w.heap.size < V.heap.size := by rw [hV]; exact hwl
  have mV : m < V.heap.size := by rw [hV]; exact hml
  clear hV q0 q1 c5 c2 hwl hml
  go_wp2_with fail
  go_region_held3 (fun U => U.cell? ⟨w.heap.size, 0, none⟩ = some (.int .u64 (T : Int)) ∧ U.cell? ⟨w.heap.size, 1, none⟩ = some (.string ⟨rq.toArray⟩) ∧ U.cell? ⟨m, 5, none⟩ = some (.int .i64 s.fin)) (first | exact ⟨by assumption, by assumption, by assumption⟩ | go_keep) (first | (go_at_call 89; refine Calls.mono (f := 89) (HC.out _) ?_; rintro e w1 ⟨rfl, b1⟩; have y0 : w1.cell? ⟨w.heap.size, 0, none⟩ = some (.int .u64 (T : Int)) := (b1.cell (p := ⟨w.heap.size, 0, none⟩) (by assumption)).trans (by assumption); have y1 : w1.cell? ⟨w.heap.size, 1, none⟩ = some (.string ⟨rq.toArray⟩) := (b1.cell (p := ⟨w.heap.size, 1, none⟩) (by assumption)).trans (by assumption); have y5 : w1.cell? ⟨m, 5, none⟩ = some (.int .i64 s.fin) := (b1.cell (p := ⟨m, 5, none⟩) (by assumption)).trans (by assumption)))
  all_goals (
    have BB : Aside (Below w.heap.size w w1) := by first | exact blw_tr BV.out b1 | exact Below.drew (blw_tr BV.out b1) | exact blw_tr (Below.drew BV.out) b1 | exact Below.drew (blw_tr (Below.drew BV.out) b1)
    have sz1 : w.heap.size < w1.heap.size := Nat.lt_of_lt_of_le lV b1.size
    clear b1
    go_wp2_with fail)
  all_goals (
    refine Calls.mono (f := 89) (HC.out _) ?_
    rintro e w2 ⟨rfl, b2⟩
    have BB2 : Aside (Below w.heap.size w w2) := blw_tr BB.out b2
    have z0 : w2.cell? ⟨w.heap.size, 0, none⟩ = some (.int .u64 (T : Int)) := (b2.cell (p := ⟨w.heap.size, 0, none⟩) sz1).trans y0
    have z1 : w2.cell? ⟨w.heap.size, 1, none⟩ = some (.string ⟨rq.toArray⟩) := (b2.cell (p := ⟨w.heap.size, 1, none⟩) sz1).trans y1
    clear b2 y0 y1 y5
    go_wp2_with fail)
  all_goals (
    refine Calls.mono (f := 90) (HQA.out w2 BB2.out) ?_
    rintro e w3 ⟨s', rfl, k3, st3⟩
    have K3' : Aside _ := k3
    have ST3 : Aside _ := st3
    clear k3 st3
    go_wp2
    go_ret
    exact ⟨s', rfl, K3'.out, Step.trans ((Step.refl m s w).below BB2.out) ST3.out⟩)
set_option maxHeartbeats 4000000 in
set_option maxRecDepth 100000 in
theorem repeat_clear (w : World) (m : Nat) (s : MkS) (x : Ex.Xch) (hK : Mkt w m s x) (ok : Ex.Ok x) (hn : x.batch < 1152921504606846976) (hj : x.jr.length ≤ 8796093022208) (T : Nat) (rq : List UInt8) (h0 : 0 ≤ s.time ∧ s.time ≤ 1125899906842624) (h1 : s.time ≤ (T : Int)) (h2 : (T : Int) ≤ 1125899906842624) (hr : rq = []) (hf : s.fin ≤ (T : Int)) : Calls Try.prog 70 #[.pointer (some ⟨m, 0, none⟩), .agg #[.int .u64 (T : Int), .string ⟨rq.toArray⟩]] w (Rpt m s w x (some { Ex.clearX { x with time := (T : Int) } with jr := x.jr ++ Ex.record (T : Int) [] })) := by
  have hM := hK.at_
  have mixed : Try.prog.follows .mixedOrders = true := by kernel_rfl
  have HC : Aside (∀ w, Calls Try.prog 89 #[.agg #[.int .u64 T, .string ⟨rq.toArray⟩]] w fun e w' => e = .returned (.bool true) ∧ Below w.heap.size w w') := fun w => by
    have := isClearing_any w T rq
    rw [decide_eq_true hr] at this
    exact this
  obtain ⟨W, hW⟩ : ∃ W, W = w.alloc (.cells #[.int .u64 (T : Int), .string ⟨rq.toArray⟩] 133) := ⟨_, rfl⟩
  have B : Aside (Below w.heap.size w W) := by rw [hW]; exact (Below.refl _ w).alloc (Nat.le_refl _) _
  have c2 : W.cell? ⟨m, 2, none⟩ = some (.int .i64 s.time) := (B.out.cell (p := ⟨m, 2, none⟩) hM.lt).trans hM.all.c2
  have c5 : W.cell? ⟨m, 5, none⟩ = some (.int .i64 s.fin) := (B.out.cell (p := ⟨m, 5, none⟩) hM.lt).trans hM.all.c5
  have q0 : W.cell? ⟨w.heap.size, 0, none⟩ = some (.int .u64 (T : Int)) := by rw [hW]; simp
  have q1 : W.cell? ⟨w.heap.size, 1, none⟩ = some (.string ⟨rq.toArray⟩) := by rw [hW]; simp
  have hwl : w.heap.size < W.heap.size := by rw [hW]; simp
  have hml : m < W.heap.size := Nat.lt_of_lt_of_le hM.lt B.out.size
  have hu : IntKind.u64.wrap s.time = s.time := IntWalk.u64_in _ (by omega)
  have hi : IntKind.i64.wrap (T : Int) = (T : Int) := IntWalk.i64_in _ (by omega)
  have hlt : ¬ (T : Int) < s.time := by omega
  have hgt : ¬ 1125899906842624 < (T : Int) := by omega
  have hff : decide (s.fin ≤ (T : Int)) = true := decide_eq_true hf
  have okT : Aside (Ex.Ok { x with time := (T : Int) }) := by
    have := Ex.timed_ok ok (T : Int)
    rw [Ex.timed_at (by rw [← hK.time]; exact h1) h2] at this
    exact this
  have HKA : Aside (Mkt w m s x) := hK
  clear hM hr hK ok
  go_enter Try.func70, Try.ntmps70
  go_wp2_with fail
  rw [← hW]
  clear hW
  go_quiet (fail)
  obtain ⟨V, hV⟩ : ∃ V, V = W.drewN nq := ⟨_, rfl⟩
  rw [← hV]
  have d0 : V.cell? ⟨w.heap.size, 0, none⟩ = some (.int .u64 (T : Int)) := by rw [hV]; exact q0
  have d1 : V.cell? ⟨w.heap.size, 1, none⟩ = some (.string ⟨rq.toArray⟩) := by rw [hV]; exact q1
  have d5 : V.cell? ⟨m, 5, none⟩ = some (.int .i64 s.fin) := by rw [hV]; exact c5
  have BV : Aside (Below w.heap.size w V) := by rw [hV]; exact Below.drewN B.out _
  have lV : w.heap.size < V.heap.size := by rw [hV]; exact hwl
  have mV : m < V.heap.size := by rw [hV]; exact hml
  clear hV q0 q1 c5 c2 hwl hml
  go_wp2_with fail
  go_region_held3 (fun U => U.cell? ⟨w.heap.size, 0, none⟩ = some (.int .u64 (T : Int)) ∧ U.cell? ⟨w.heap.size, 1, none⟩ = some (.string ⟨rq.toArray⟩) ∧ U.cell? ⟨m, 5, none⟩ = some (.int .i64 s.fin)) (first | exact ⟨by assumption, by assumption, by assumption⟩ | go_keep) (first | (go_at_call 89; refine Calls.mono (f := 89) (HC.out _) ?_; rintro e w1 ⟨rfl, b1⟩; have y0 : w1.cell? ⟨w.heap.size, 0, none⟩ = some (.int .u64 (T : Int)) := (b1.cell (p := ⟨w.heap.size, 0, none⟩) (by assumption)).trans (by assumption); have y1 : w1.cell? ⟨w.heap.size, 1, none⟩ = some (.string ⟨rq.toArray⟩) := (b1.cell (p := ⟨w.heap.size, 1, none⟩) (by assumption)).trans (by assumption); have y5 : w1.cell? ⟨m, 5, none⟩ = some (.int .i64 s.fin) := (b1.cell (p := ⟨m, 5, none⟩) (by assumption)).trans (by assumption)))
  all_goals (
    have BB : Aside (Below w.heap.size w w1) := by first | exact blw_tr BV.out b1 | exact Below.drew (blw_tr BV.out b1) | exact blw_tr (Below.drew BV.out) b1 | exact Below.drew (blw_tr (Below.drew BV.out) b1)
    have sz1 : w.heap.size < w1.heap.size := Nat.lt_of_lt_of_le lV b1.size
    clear b1
    go_wp2_with fail)
  all_goals (
    refine Calls.mono (f := 89) (HC.out _) ?_
    rintro e w2 ⟨rfl, b2⟩
    have BB2 : Aside (Below w.heap.size w w2) := blw_tr BB.out b2
    have z0 : w2.cell? ⟨w.heap.size, 0, none⟩ = some (.int .u64 (T : Int)) := (b2.cell (p := ⟨w.heap.size, 0, none⟩) sz1).trans y0
    have z1 : w2.cell? ⟨w.heap.size, 1, none⟩ = some (.string ⟨rq.toArray⟩) := (b2.cell (p := ⟨w.heap.size, 1, none⟩) sz1).trans y1
    clear b2 y0 y1 y5
    have M2 : MkAt w2 m s := HKA.out.at_.kept (BB2.out.block m HKA.out.at_.lt)
    have C := M2.all
    have c2 := C.c2
    have f2 := C.fr 2
    obtain ⟨W2, hW2⟩ : ∃ W2, W2 = w2.setCell ⟨m, 2, none⟩ (.int .i64 (T : Int)) := ⟨_, rfl⟩
    have M1 : MkAt W2 m { s with time := (T : Int) } := by rw [hW2]; exact M2.setTime _
    have O1 : Onl (· = m) w2 W2 := by rw [hW2]; exact (Onl.refl _ w2).set _ _ (Or.inl rfl)
    have K2 : Aside (Mkt W2 m { s with time := (T : Int) } { x with time := (T : Int) }) := (HKA.out.below BB2.out).onTime _ M1 O1
    have S2 : Aside (Step m s w { s with time := (T : Int) } W2) := Step.trans ((Step.refl m s w).below BB2.out) (Step.onTime _ O1)
    have HCB : Aside _ := clearBatch_any W2 m { s with time := (T : Int) } { x with time := (T : Int) } K2.out okT.out hn hj
    clear M2 C M1 O1
    go_wp2_with fail
    rw [← hW2]
    clear hW2
    refine Calls.mono (f := 91) HCB.out ?_
    rintro e w3 ⟨s', rfl, k3, st3⟩
    have K3' : Aside _ := k3
    have ST3 : Aside _ := st3
    clear k3 st3
    go_wp2
    go_ret
    exact ⟨s', rfl, K3'.out, Step.trans S2.out ST3.out⟩)
/-- A RECORD THAT IS WHOLE IS DONE AGAIN, OR LEFT: as the reading without a program says. -/
theorem repeat_any (w : World) (m : Nat) (s : MkS) (x : Ex.Xch) {bx gx : Nat → Nat} (hK : Mkt w m s x) (ok : Ex.Ok x) (hB : Bxs w s.bd m bx gx) (hn : x.batch < 1152921504606846976) (hj : x.jr.length ≤ 8796093022208) (j : List UInt8) (hW : Ex.Whole j) :
    Calls Try.prog 70 #[.pointer (some ⟨m, 0, none⟩), .agg #[.int .u64 (Ex.rtime j : Int), .string ⟨(Ex.rreq j).toArray⟩]] w (Rpt m s w x (Ex.readJ x j)) := by
  have h0 : 0 ≤ s.time ∧ s.time ≤ 1125899906842624 := by have := hK.time; have := ok.time; omega
  have et := hK.time
  have ef := hK.fin
  have lr : (Ex.rreq j).length = Ex.rlen j := by unfold Ex.rreq; rw [List.length_take, List.length_drop]; have := hW.1; omega
  have l255 : Ex.rlen j < 256 := UInt8.toNat_lt _
  have er : Ex.rreq j = [] ↔ Ex.rlen j = 0 := by rw [← lr]; exact List.length_eq_zero_iff.symm
  by_cases h1 : (Ex.rtime j : Int) < x.time
  · refine (repeat_low w m s hK.at_ _ _ h0 (by omega)).mono ?_
    rintro e w' ⟨rfl, B⟩
    exact rpt_none hK B (Ex.readJ_not (fun h => by have := h.2.1.1; omega))
  · by_cases h2 : 1125899906842624 < (Ex.rtime j : Int)
    · refine (repeat_high w m s hK.at_ _ _ h0 h2).mono ?_
      rintro e w' ⟨rfl, B⟩
      exact rpt_none hK B (Ex.readJ_not (fun h => by have := h.2.1.2.1; omega))
    · by_cases h3 : Ex.rlen j = 0
      · by_cases h4 : x.fin ≤ (Ex.rtime j : Int)
        · rw [Ex.readJ_clear hW (by omega) (by omega) h3 h4]
          exact repeat_clear w m s x hK ok hn hj _ _ h0 (by omega) (by omega) (er.2 h3) (by omega)
        · refine (repeat_early w m s hK.at_ _ _ h0 (by omega) (by omega) (er.2 h3) (by omega)).mono ?_
          rintro e w' ⟨rfl, B⟩
          exact rpt_none hK B (Ex.readJ_not (fun h => h4 (h.2.1.2.2.1 h3)))
      · by_cases h4 : x.fin ≤ (Ex.rtime j : Int)
        · refine (repeat_late w m s hK.at_ _ _ h0 (by omega) (by omega) (fun e => h3 (er.1 e)) (by omega)).mono ?_
          rintro e w' ⟨rfl, B⟩
          exact rpt_none hK B (Ex.readJ_not (fun h => h3 (h.2.1.2.2.2 h4)))
        · have eo : Ex.readJ x j = rptO (Ex.rtime j : Int) (Ex.rreq j) (Ex.answerX x (Ex.rreq j)) := by
            unfold rptO
            by_cases hd : (Ex.answerX x (Ex.rreq j)).2.getD 0 0 = 0 ∧ ((Ex.rreq j).getD 0 0).toNat ≤ 6
            · rw [if_pos hd, Ex.readJ_done hW (by omega) (by omega) h3 (by omega) hd.1 hd.2, (Ex.answer_time x (Ex.rreq j)).2.2]
            · rw [if_neg hd]
              refine Ex.readJ_undone hW (by omega) (by omega) (by omega) ?_
              by_cases q : (Ex.answerX x (Ex.rreq j)).2.getD 0 0 = 0
              · exact Or.inr (by have : ¬ ((Ex.rreq j).getD 0 0).toNat ≤ 6 := fun h => hd ⟨q, h⟩; omega)
              · exact Or.inl q
          rw [eo]
          exact repeat_req w m s x hK.at_ _ _ _ h0 (by omega) (by omega) (fun e => h3 (er.1 e)) (by omega) (fun V b => repeatRequest_any cancel_ok (hK.below b) ok (hB.below b) (by omega) _ ⟨by omega, by omega⟩ _ (by omega))
end Go.Proofs.Ytjfifaooimgbaaa
/- Open of any journal. -/
namespace Go.Proofs.Ytjfifaooimgbaaa
open Go.Shelf Go.RowKit Go.Lib Go.Sort

/-- a market that has done nothing. -/
def mk0' (per cap : Int) (A P M : Nat) : MkS := ⟨per, cap, 0, A, 1, per, .slice none 0 0, kL [], (setL []).1, (setL []).2.1, (setL []).2.2, shareL [], P, .slice none 0 0, M⟩
/-- what begin is to do. -/
def NewOk : Prop := ∀ (w : World) (per cap : Int), Calls Try.prog 68 #[.agg #[.int .i64 per, .int .i64 cap]] w fun e w' => ∃ m A P M bx gx, e = .returned (.pointer (some ⟨m, 0, none⟩)) ∧ MkAt w' m (mk0' per cap A P M) ∧ MapF Try.prog 3 w' A 21 (fun _ => none) ∧ MapF Try.prog 3 w' P 20 (fun _ => none) ∧ Bxs w' M m bx gx ∧ (A ≠ P ∧ M ≠ A ∧ M ≠ P) ∧ (w.heap.size ≤ m ∧ w.heap.size ≤ A ∧ w.heap.size ≤ P ∧ ∀ j, BFoot M bx gx j → w.heap.size ≤ j) ∧ Below w.heap.size w w'

/-- a market in the state x lies at m, in blocks from B on. -/
def MkRep (w : World) (m : Nat) (x : Ex.Xch) (B : Nat) : Prop := ∃ s bx gx, Mkt w m s x ∧ Bxs w s.bd m bx gx ∧ (s.bd ≠ s.ba ∧ s.bd ≠ s.bp) ∧ Inv x ∧ ∀ k, Foot m s k ∨ BFoot s.bd bx gx k → B ≤ k
theorem MkRep.below {w w' : World} {m : Nat} {x : Ex.Xch} {B : Nat} (h : MkRep w m x B) (b : Below w.heap.size w w') : MkRep w' m x B := by
  obtain ⟨s, bx, gx, h1, h2, h3, h4, h5⟩ := h
  exact ⟨s, bx, gx, h1.below b, h2.below b, h3, h4, h5⟩
theorem inv_read {x : Ex.Xch} (h : Inv x) (j : List UInt8) : Inv ((Ex.readJ x j).getD x) := by
  cases hr : Ex.readJ x j with
  | none => exact h
  | some y =>
    obtain ⟨_, _, c, _⟩ := Ex.readJ_some hr
    show Inv y
    rw [← c]
    exact inv_do h _ _
theorem mkrep_repeat {w : World} {m : Nat} {x : Ex.Xch} {B : Nat} (h : MkRep w m x B) (hB : B ≤ w.heap.size) (ok : Ex.Ok x) (hj : x.jr.length ≤ 1099511627776) (j : List UInt8) (hW : Ex.Whole j) :
    Calls Try.prog 70 #[.pointer (some ⟨m, 0, none⟩), .agg #[.int .u64 (Ex.rtime j : Int), .string ⟨(Ex.rreq j).toArray⟩]] w fun e w' => e = .returned (.bool (Ex.readJ x j).isSome) ∧ MkRep w' m ((Ex.readJ x j).getD x) B ∧ Onl (fun k => B ≤ k) w w' := by
  obtain ⟨s, bx, gx, hK, hX, nb, inv, lo⟩ := h
  have ap := hX.apart hK nb
  refine (repeat_any w m s x hK ok hX (by have := inv.num; omega) (by omega) j hW).mono ?_
  rintro e w' ⟨s', rfl, k', st⟩
  have hX' : Bxs w' s'.bd m bx gx := by
    rw [st.bd]
    exact hX.kept (fun i hi => st.onl.block i (hX.lt i hi) (ap i hi))
  have nf : ∀ i, BFoot s.bd bx gx i → ¬ Foot m s' i := fun i hi hf => by
    rcases st.foot i hf with q | q
    · exact ap i hi q
    · have := hX.lt i hi
      omega
  have nbd := nf s.bd (Or.inl rfl)
  refine ⟨rfl, ⟨s', bx, gx, k', hX', ⟨fun e => nbd (Or.inr (Or.inl (by rw [← st.bd]; exact e))), fun e => nbd (Or.inr (Or.inr (Or.inl (by rw [← st.bd]; exact e))))⟩, inv_read inv j, fun k hk => ?_⟩, st.onl.mono (fun k hk => lo k (Or.inl hk))⟩
  rcases hk with hk | hk
  · rcases st.foot k hk with q | q
    · exact lo k (Or.inl q)
    · exact Nat.le_trans hB q
  · rw [st.bd] at hk
    exact lo k (Or.inr hk)
theorem mkrep_new (NO : NewOk) (w : World) (per cap : Int) : Calls Try.prog 68 #[.agg #[.int .i64 per, .int .i64 cap]] w fun e w' => ∃ m, e = .returned (.pointer (some ⟨m, 0, none⟩)) ∧ MkRep w' m (Ex.openX per cap) w.heap.size ∧ Below w.heap.size w w' := by
  refine (NO w per cap).mono ?_
  rintro e w1 ⟨m, A, P, M, bx, gx, rfl, q1, q2, q3, q4, q5, q6, q7⟩
  refine ⟨m, rfl, ⟨mk0' per cap A P M, bx, gx, ?_, q4, ⟨q5.2.1, q5.2.2⟩, ⟨by show (1 : Int) ≤ _; simp [Ex.openX]⟩, fun k hk => ?_⟩, q7⟩
  · refine { at_ := q1, acc := ⟨_, q2, fun i hi => ?_⟩, ord := ORow.nil _, prc := ?_, jrn := BRow.nil _, nap := q5.1, per := rfl, cap := rfl, time := rfl, num := rfl, fin := rfl, last := rfl, prs := rfl, fls := rfl, pay := rfl, get := rfl, share := rfl }
    · unfold qOf
      split <;> rfl
    · have e : prOf (Ex.openX per cap) = fun _ => none := rfl
      rw [e]; exact q3
  · rcases hk with hk | hk
    · rcases hk with rfl | rfl | rfl | hk | hk
      · exact q6.1
      · exact q6.2.1
      · exact q6.2.2.1
      · exact absurd hk (by simp [mk0', Value.ownBlock])
      · exact absurd hk (by simp [mk0', Value.ownBlock])
    · exact q6.2.2.2 k hk
theorem blw_onl' {w b c : World} {S : Nat → Prop} (h : Below w.heap.size w b) (o : Onl S b c) (hS : ∀ k, S k → w.heap.size ≤ k) : Below w.heap.size w c :=
  ⟨o.os.trans h.os, o.tape.trans h.tape, o.output.trans h.output, Nat.le_trans h.size o.size, fun k hk => (o.block k (Nat.lt_of_lt_of_le hk h.size) (fun q => by have := hS k q; omega)).trans (h.block k hk)⟩

/-- the reading under way: x is what came of what is behind, t what is left. -/
structure Rdg (w : World) (m : Nat) (x0 : Ex.Xch) (j : List UInt8) (x : Ex.Xch) (t : List UInt8) (wq : World) : Prop where
  rep : MkRep wq m x w.heap.size
  ok : Ex.Ok x
  same : Ex.openJ x t = Ex.openJ x0 j
  len : x.jr.length + t.length ≤ j.length
  bel : Below w.heap.size w wq

set_option maxHeartbeats 4000000 in
set_option maxRecDepth 100000 in
theorem marketOpen_any (NO : NewOk) (w : World) (per cap : Int) (h1 : 1 ≤ per) (h2 : per ≤ 1125899906842624) (h3 : 1 ≤ cap) (h4 : cap ≤ 20) (j : List UInt8) (hj : j.length ≤ 1099511627776) :
    Calls Try.prog 51 #[.agg #[.int .i64 per, .int .i64 cap], .string ⟨j.toArray⟩] w fun e w' => ∃ m, e = .returned (.pointer (some ⟨m, 0, none⟩)) ∧ MkRep w' m (Ex.openJ (Ex.openX per cap) j) w.heap.size ∧ Below w.heap.size w w' := by
  have mixed : Try.prog.follows .mixedOrders = true := by kernel_rfl
  have HN : Aside (∀ w1, _) := fun w1 => mkrep_new NO w1 per cap
  have ok0 : Aside (Ex.Ok (Ex.openX per cap)) := Ex.open_ok ⟨h1, h2⟩ ⟨h3, h4⟩
  have B0 : Aside (Below w.heap.size w (w.alloc (.cells #[.int .i64 per, .int .i64 cap] 68))) := (Below.refl _ w).alloc (Nat.le_refl _) _
  clear NO
  go_enter Try.func51, Try.ntmps51
  go_wp2_with fail
  refine Calls.mono (f := 68) (HN.out _) ?_
  rintro e w1 ⟨m, rfl, q1, q2⟩
  have R0 : Aside (Rdg w m (Ex.openX per cap) j (Ex.openX per cap) j w1) := ⟨by
      obtain ⟨s, bx, gx, a1, a2, a3, a4, a5⟩ := q1
      exact ⟨s, bx, gx, a1, a2, a3, a4, fun k hk => by have := a5 k hk; simp at this; omega⟩, ok0.out, rfl, by show 0 + j.length ≤ _; omega, blw_tr B0.out q2⟩
  clear q1 q2 HN
  go_wp2_with fail
  go_loopg [1] j.length (fun kx s wq => ∃ (t : List UInt8) (x : Ex.Xch), s = .string ⟨t.toArray⟩ ∧ t.length ≤ kx ∧ Aside (Rdg w m (Ex.openX per cap) j x t wq))
  case atStart => exact ⟨j, _, rfl, Nat.le_refl _, R0⟩
  case round =>
    obtain ⟨t, x, rfl, hkx, RR⟩ := hrel
    have R := RR.out
    by_cases hW : Ex.Whole t
    · have HX : Aside _ := next_whole wr t hW (by have := R.len; omega)
      have hrl := hW.1
      go_wp2_with fail
      refine Calls.mono (f := 69) HX.out ?_
      rintro e w2 ⟨rfl, b2⟩
      obtain ⟨W, hWd⟩ : ∃ W, W = w2.alloc (.cells #[.int .u64 (Ex.rtime t : Int), .string ⟨(Ex.rreq t).toArray⟩] 133) := ⟨_, rfl⟩
      have bW : Below wr.heap.size wr W := by rw [hWd]; exact b2.alloc b2.size _
      have HB : Aside (Below w.heap.size w W) := blw_tr R.bel bW
      have HR : Aside _ := mkrep_repeat (R.rep.below bW) HB.out.size R.ok (by have := R.len; omega) t hW
      have c0 : W.cell? ⟨w2.heap.size, 0, none⟩ = some (.int .u64 (Ex.rtime t : Int)) := by rw [hWd]; simp
      have c1 : W.cell? ⟨w2.heap.size, 1, none⟩ = some (.string ⟨(Ex.rreq t).toArray⟩) := by rw [hWd]; simp
      clear HX b2
      go_wp2_with fail
      rw [← hWd]
      clear hWd
      refine Calls.mono (f := 70) HR.out ?_
      cases hr : Ex.readJ x t with
      | none =>
        rintro e w3 ⟨rfl, m3, o3⟩
        have FX : Aside (Ex.openJ x t = x) := Ex.openJ_none hr
        have R3 : Aside (MkRep w3 m x w.heap.size) := m3
        have B3 : Aside (Below w.heap.size w w3) := blw_onl' HB.out o3 (fun _ h => h)
        clear m3 o3 hr HR
        go_wp2
        go_ret
        refine ⟨m, rfl, ?_, B3.out⟩
        rw [← R.same, FX.out]
        exact R3.out
      | some y =>
        rintro e w3 ⟨rfl, m3, o3⟩
        have RY : Aside (Rdg w m (Ex.openX per cap) j y (t.drop (10 + Ex.rlen t)) w3) := by
          obtain ⟨a, b, c, d⟩ := Ex.readJ_some hr
          refine ⟨m3, ?_, by rw [← Ex.openJ_some hr]; exact R.same, ?_, blw_onl' HB.out o3 (fun _ h => h)⟩
          · rw [← c]
            exact (Ex.do_ok R.ok _ _).1
          · have := R.len
            rw [d, List.length_append, List.length_take, List.length_drop]
            omega
        clear m3 o3 hr HR
        go_wp2
        go_roundg (t.drop (10 + Ex.rlen t)).length
        case measure => rw [List.length_drop]; omega
        case rel => exact ⟨_, y, rfl, Nat.le_refl _, RY⟩
    · have HX : Aside _ := next_not wr t hW
      unfold nextNo at HX
      have FX : Aside (Ex.openJ x t = x) := Ex.openJ_none (Ex.readJ_not (fun h => hW h.1))
      go_wp2_with fail
      refine Calls.mono (f := 69) HX.out ?_
      rintro e w2 ⟨rfl, b2⟩
      have R2 : Aside (MkRep w2 m x w.heap.size) := R.rep.below b2
      have B2 : Aside (Below w.heap.size w w2) := blw_tr R.bel b2
      clear b2 HX
      go_wp2
      go_ret
      refine ⟨m, rfl, ?_, ?_⟩
      · rw [← R.same, FX.out]
        exact R2.out.below ((Below.refl _ w2).alloc (Nat.le_refl _) _)
      · exact B2.out.alloc B2.out.size _

set_option maxHeartbeats 4000000 in
set_option maxRecDepth 100000 in
/-- P4: OPEN OF ANY JOURNAL. -/
theorem rep_openJ (NO : NewOk) (w : World) (per cap : Int) (h1 : 1 ≤ per) (h2 : per ≤ 1125899906842624) (h3 : 1 ≤ cap) (h4 : cap ≤ 20) (j : List UInt8) (hj : j.length ≤ 1099511627776) : Calls Try.prog 39 #[.agg #[.int .i64 per, .int .i64 cap], txt j] w fun e w' => ∃ S p, e = .returned (.tuple #[.pointer (some ⟨p, 0, none⟩), .int .i64 0]) ∧ RepX w' S p (Ex.openJ (Ex.openX per cap) j) ∧ (∀ k, S k → w.heap.size ≤ k) ∧ Below w.heap.size w w' := by
  have mixed : Try.prog.follows .mixedOrders = true := by kernel_rfl
  have HN : Aside (∀ w1, _) := fun w1 => marketOpen_any NO w1 per cap h1 h2 h3 h4 j hj
  have d1 : decide (per < 1) = false := decide_eq_false (by omega)
  have d2 : decide (1125899906842624 < per) = false := decide_eq_false (by omega)
  have d3 : decide (cap < 1) = false := decide_eq_false (by omega)
  have d4 : decide (20 < cap) = false := decide_eq_false (by omega)
  have B0 : Aside (Below w.heap.size w (w.alloc (.cells #[.int .i64 per, .int .i64 cap] 68))) := (Below.refl _ w).alloc (Nat.le_refl _) _
  unfold txt
  clear NO
  go_enter Try.func39, Try.ntmps39
  go_wp2_with fail
  refine Calls.mono (f := 51) (HN.out _) ?_
  rintro e w1 ⟨m, rfl, q1, q2⟩
  have HQ : Aside _ := And.intro q1 q2
  clear q1 q2
  go_wp2
  go_ret2
  obtain ⟨⟨s, bx, gx, a1, a2, a3, a4, a5⟩, q2⟩ := HQ.out
  have s0 : (w.alloc (.cells #[.int .i64 per, .int .i64 cap] 68)).heap.size = w.heap.size + 1 := by simp
  rw [s0] at a5
  have sz : w.heap.size + 1 ≤ w1.heap.size := by have := q2.size; rw [s0] at this; exact this
  have nn : ∀ j, j < w1.heap.size → (w1.alloc (.cells #[.pointer (some ⟨m, 0, none⟩)] 105)).heap[j]? = w1.heap[j]? := fun j hj => Below.heap_alloc w1 _ j hj
  have bw : Below w.heap.size w w1 := blw_tr B0.out q2
  refine ⟨_, w1.heap.size, rfl, ⟨m, s, bx, gx, heap_alloc_new w1 _, a1.kept (fun k hk => nn k (a1.foot_lt k hk)), a2.kept (fun j hj => nn j (a2.lt j hj)), a3, a4, rfl⟩, ?_, ?_⟩
  · rintro k (rfl | hk | hk)
    · omega
    · have := a5 k (Or.inl hk)
      omega
    · have := a5 k (Or.inr hk)
      omega
  · exact bw.alloc (by have := bw.size; omega) _
theorem rep_open (NO : NewOk) (w : World) (per cap : Int) (h1 : 1 ≤ per) (h2 : per ≤ 1125899906842624) (h3 : 1 ≤ cap) (h4 : cap ≤ 20) : Calls Try.prog 39 #[.agg #[.int .i64 per, .int .i64 cap], txt []] w fun e w' => ∃ S p, e = .returned (.tuple #[.pointer (some ⟨p, 0, none⟩), .int .i64 0]) ∧ RepX w' S p (Ex.openX per cap) ∧ (∀ k, S k → w.heap.size ≤ k) ∧ Below w.heap.size w w' :=
  rep_openJ NO w per cap h1 h2 h3 h4 [] (by decide)
end Go.Proofs.Ytjfifaooimgbaaa
