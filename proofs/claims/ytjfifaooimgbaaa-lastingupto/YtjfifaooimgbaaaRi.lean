import Derived.Test.YtjfifaooimgbaaaDd
import Derived.Test.YtjfifaooimgbaaaNx
import Derived.StillTailTactics
import Derived.Deep.RegionHeld3
import Derived.Test.YtjfifaooimgbaaaDj
/- Records that no exchange could have written here. -/
namespace Go.Proofs.Ytjfifaooimgbaaa
open Go.Shelf Go.RowKit Go.Lib Go.Sort

theorem blw_tr {a b c : World} (h : Below a.heap.size a b) (g : Below b.heap.size b c) : Below a.heap.size a c :=
  ⟨g.os.trans h.os, g.tape.trans h.tape, g.output.trans h.output, Nat.le_trans h.size g.size, fun k hk => (g.block k (Nat.lt_of_lt_of_le hk h.size)).trans (h.block k hk)⟩
section
variable (w : World) (m : Nat) (s : MkS) (hM : MkAt w m s) (T : Nat) (rq : List UInt8)
include hM
set_option maxHeartbeats 1000000 in
set_option maxRecDepth 100000 in
theorem repeat_low (h0 : 0 ≤ s.time ∧ s.time ≤ 1125899906842624) (h : (T : Int) < s.time) : Calls Try.prog 70 #[.pointer (some ⟨m, 0, none⟩), .agg #[.int .u64 (T : Int), .string ⟨rq.toArray⟩]] w fun e w' => e = .returned (.bool false) ∧ Below w.heap.size w w' := by
  have mixed : Try.prog.follows .mixedOrders = true := by kernel_rfl
  obtain ⟨W, hW⟩ : ∃ W, W = w.alloc (.cells #[.int .u64 (T : Int), .string ⟨rq.toArray⟩] 133) := ⟨_, rfl⟩
  have B : Aside (Below w.heap.size w W) := by rw [hW]; exact (Below.refl _ w).alloc (Nat.le_refl _) _
  have c2 : W.cell? ⟨m, 2, none⟩ = some (.int .i64 s.time) := (B.out.cell (p := ⟨m, 2, none⟩) hM.lt).trans hM.all.c2
  have q0 : W.cell? ⟨w.heap.size, 0, none⟩ = some (.int .u64 (T : Int)) := by rw [hW]; simp
  have hu : IntKind.u64.wrap s.time = s.time := IntWalk.u64_in _ (by omega)
  clear hM
  go_enter Try.func70, Try.ntmps70
  go_wp2_with fail
  rw [← hW]
  clear hW
  go_quiet (fail)
  go_wp2
  go_ret
  exact ⟨rfl, Below.drewN B.out _⟩
set_option maxHeartbeats 1000000 in
set_option maxRecDepth 100000 in
theorem repeat_high (h0 : 0 ≤ s.time ∧ s.time ≤ 1125899906842624) (h : 1125899906842624 < (T : Int)) : Calls Try.prog 70 #[.pointer (some ⟨m, 0, none⟩), .agg #[.int .u64 (T : Int), .string ⟨rq.toArray⟩]] w fun e w' => e = .returned (.bool false) ∧ Below w.heap.size w w' := by
  have mixed : Try.prog.follows .mixedOrders = true := by kernel_rfl
  obtain ⟨W, hW⟩ : ∃ W, W = w.alloc (.cells #[.int .u64 (T : Int), .string ⟨rq.toArray⟩] 133) := ⟨_, rfl⟩
  have B : Aside (Below w.heap.size w W) := by rw [hW]; exact (Below.refl _ w).alloc (Nat.le_refl _) _
  have c2 : W.cell? ⟨m, 2, none⟩ = some (.int .i64 s.time) := (B.out.cell (p := ⟨m, 2, none⟩) hM.lt).trans hM.all.c2
  have q0 : W.cell? ⟨w.heap.size, 0, none⟩ = some (.int .u64 (T : Int)) := by rw [hW]; simp
  have hu : IntKind.u64.wrap s.time = s.time := IntWalk.u64_in _ (by omega)
  have hlt : ¬ (T : Int) < s.time := by omega
  clear hM
  go_enter Try.func70, Try.ntmps70
  go_wp2_with fail
  rw [← hW]
  clear hW
  go_quiet (fail)
  go_wp2
  go_ret
  exact ⟨rfl, Below.drewN B.out _⟩
set_option maxHeartbeats 2000000 in
set_option maxRecDepth 100000 in
theorem repeat_early (h0 : 0 ≤ s.time ∧ s.time ≤ 1125899906842624) (h1 : s.time ≤ (T : Int)) (h2 : (T : Int) ≤ 1125899906842624) (hr : rq = []) (hf : (T : Int) < s.fin) : Calls Try.prog 70 #[.pointer (some ⟨m, 0, none⟩), .agg #[.int .u64 (T : Int), .string ⟨rq.toArray⟩]] w fun e w' => e = .returned (.bool false) ∧ Below w.heap.size w w' := by
  have mixed : Try.prog.follows .mixedOrders = true := by kernel_rfl
  have HC : Aside (∀ w, Calls Try.prog 89 #[.agg #[.int .u64 T, .string ⟨rq.toArray⟩]] w fun e w' => e = .returned (.bool true) ∧ Below w.heap.size w w') := fun w => by
    have := isClearing_any w T rq
    rw [decide_eq_true hr] at this
    exact this
  obtain ⟨W, hW⟩ : ∃ W, W = w.alloc (.cells #[.int .u64 (T : Int), .string ⟨rq.toArray⟩] 133) := ⟨_, rfl⟩
  have B : Aside (Below w.heap.size w W) := by rw [hW]; exact (Below.refl _ w).alloc (Nat.le_refl _) _
  have c2 : W.cell? ⟨m, 2, none⟩ = some (.int .i64 s.time) := (B.out.cell (p := ⟨m, 2, none⟩) hM.lt).trans hM.all.c2
  have c5 : W.cell? ⟨m, 5, none⟩ = some (.int .i64 s.fin) := (B.out.cell (p := ⟨m, 5, none⟩) hM.lt).trans hM.all.c5
  have q0 : W.cell? ⟨w.heap.size, 0, none⟩ = some (.int .u64 (T : Int)) := by rw [hW]; simp
  have q1 : W.cell? ⟨w.heap.size, 1, none⟩ = some (.string ⟨rq.toArray⟩) := by rw [hW]; simp
  have hwl : w.heap.size < W.heap.size := by rw [hW]; simp
  have hml : m < W.heap.size := Nat.lt_of_lt_of_le hM.lt B.out.size
  have hu : IntKind.u64.wrap s.time = s.time := IntWalk.u64_in _ (by omega)
  have hi : IntKind.i64.wrap (T : Int) = (T : Int) := IntWalk.i64_in _ (by omega)
  have hlt : ¬ (T : Int) < s.time := by omega
  have hgt : ¬ 1125899906842624 < (T : Int) := by omega
  have hff : decide (s.fin ≤ (T : Int)) = false := decide_eq_false (by omega)
  clear hM hr
  go_enter Try.func70, Try.ntmps70
  go_wp2_with fail
  rw [← hW]
  clear hW
  go_quiet (fail)
  obtain ⟨V, hV⟩ : ∃ V, V = W.drewN nq := ⟨_, rfl⟩
  rw [← hV]
  have d0 : V.cell? ⟨w.heap.size, 0, none⟩ = some (.int .u64 (T : Int)) := by rw [hV]; exact q0
  have d1 : V.cell? ⟨w.heap.size, 1, none⟩ = some (.string ⟨rq.toArray⟩) := by rw [hV]; exact q1
  have d5 : V.cell? ⟨m, 5, none⟩ = some (.int .i64 s.fin) := by rw [hV]; exact c5
  have BV : Aside (Below w.heap.size w V) := by rw [hV]; exact Below.drewN B.out _
  have lV : w.heap.size < V.heap.size := by rw [hV]; exact hwl
  have mV : m < V.heap.size := by rw [hV]; exact hml
  clear hV q0 q1 c5 c2 hwl hml
  go_wp2_with fail
  go_region_held3 (fun U => U.cell? ⟨w.heap.size, 0, none⟩ = some (.int .u64 (T : Int)) ∧ U.cell? ⟨w.heap.size, 1, none⟩ = some (.string ⟨rq.toArray⟩) ∧ U.cell? ⟨m, 5, none⟩ = some (.int .i64 s.fin)) (first | exact ⟨by assumption, by assumption, by assumption⟩ | go_keep) (first | (go_at_call 89; refine Calls.mono (f := 89) (HC.out _) ?_; rintro e w1 ⟨rfl, b1⟩; have y0 : w1.cell? ⟨w.heap.size, 0, none⟩ = some (.int .u64 (T : Int)) := (b1.cell (p := ⟨w.heap.size, 0, none⟩) (by assumption)).trans (by assumption); have y1 : w1.cell? ⟨w.heap.size, 1, none⟩ = some (.string ⟨rq.toArray⟩) := (b1.cell (p := ⟨w.heap.size, 1, none⟩) (by assumption)).trans (by assumption); have y5 : w1.cell? ⟨m, 5, none⟩ = some (.int .i64 s.fin) := (b1.cell (p := ⟨m, 5, none⟩) (by assumption)).trans (by assumption)))
  all_goals (
    go_wp2
    go_ret
    exact ⟨rfl, by first | exact blw_tr BV.out b1 | exact Below.drew (blw_tr BV.out b1) | exact blw_tr (Below.drew BV.out) b1 | exact Below.drew (blw_tr (Below.drew BV.out) b1)⟩)
set_option maxHeartbeats 2000000 in
set_option maxRecDepth 100000 in
theorem repeat_late (h0 : 0 ≤ s.time ∧ s.time ≤ 1125899906842624) (h1 : s.time ≤ (T : Int)) (h2 : (T : Int) ≤ 1125899906842624) (hr : ¬ rq = []) (hf : s.fin ≤ (T : Int)) : Calls Try.prog 70 #[.pointer (some ⟨m, 0, none⟩), .agg #[.int .u64 (T : Int), .string ⟨rq.toArray⟩]] w fun e w' => e = .returned (.bool false) ∧ Below w.heap.size w w' := by
  have mixed : Try.prog.follows .mixedOrders = true := by kernel_rfl
  have HC : Aside (∀ w, Calls Try.prog 89 #[.agg #[.int .u64 T, .string ⟨rq.toArray⟩]] w fun e w' => e = .returned (.bool false) ∧ Below w.heap.size w w') := fun w => by
    have := isClearing_any w T rq
    rw [decide_eq_false hr] at this
    exact this
  obtain ⟨W, hW⟩ : ∃ W, W = w.alloc (.cells #[.int .u64 (T : Int), .string ⟨rq.toArray⟩] 133) := ⟨_, rfl⟩
  have B : Aside (Below w.heap.size w W) := by rw [hW]; exact (Below.refl _ w).alloc (Nat.le_refl _) _
  have c2 : W.cell? ⟨m, 2, none⟩ = some (.int .i64 s.time) := (B.out.cell (p := ⟨m, 2, none⟩) hM.lt).trans hM.all.c2
  have c5 : W.cell? ⟨m, 5, none⟩ = some (.int .i64 s.fin) := (B.out.cell (p := ⟨m, 5, none⟩) hM.lt).trans hM.all.c5
  have q0 : W.cell? ⟨w.heap.size, 0, none⟩ = some (.int .u64 (T : Int)) := by rw [hW]; simp
  have q1 : W.cell? ⟨w.heap.size, 1, none⟩ = some (.string ⟨rq.toArray⟩) := by rw [hW]; simp
  have hwl : w.heap.size < W.heap.size := by rw [hW]; simp
  have hml : m < W.heap.size := Nat.lt_of_lt_of_le hM.lt B.out.size
  have hu : IntKind.u64.wrap s.time = s.time := IntWalk.u64_in _ (by omega)
  have hi : IntKind.i64.wrap (T : Int) = (T : Int) := IntWalk.i64_in _ (by omega)
  have hlt : ¬ (T : Int) < s.time := by omega
  have hgt : ¬ 1125899906842624 < (T : Int) := by omega
  have hff : decide (s.fin ≤ (T : Int)) = true := decide_eq_true hf
  clear hM hr
  go_enter Try.func70, Try.ntmps70
  go_wp2_with fail
  rw [← hW]
  clear hW
  go_quiet (fail)
  obtain ⟨V, hV⟩ : ∃ V, V = W.drewN nq := ⟨_, rfl⟩
  rw [← hV]
  have d0 : V.cell? ⟨w.heap.size, 0, none⟩ = some (.int .u64 (T : Int)) := by rw [hV]; exact q0
  have d1 : V.cell? ⟨w.heap.size, 1, none⟩ = some (.string ⟨rq.toArray⟩) := by rw [hV]; exact q1
  have d5 : V.cell? ⟨m, 5, none⟩ = some (.int .i64 s.fin) := by rw [hV]; exact c5
  have BV : Aside (Below w.heap.size w V) := by rw [hV]; exact Below.drewN B.out _
  have lV : w.heap.size < V.heap.size := by rw [hV]; exact hwl
  have mV : m < V.heap.size := by rw [hV]; exact hml
  clear hV q0 q1 c5 c2 hwl hml
  go_wp2_with fail
  go_region_held3 (fun U => U.cell? ⟨w.heap.size, 0, none⟩ = some (.int .u64 (T : Int)) ∧ U.cell? ⟨w.heap.size, 1, none⟩ = some (.string ⟨rq.toArray⟩) ∧ U.cell? ⟨m, 5, none⟩ = some (.int .i64 s.fin)) (first | exact ⟨by assumption, by assumption, by assumption⟩ | go_keep) (first | (go_at_call 89; refine Calls.mono (f := 89) (HC.out _) ?_; rintro e w1 ⟨rfl, b1⟩; have y0 : w1.cell? ⟨w.heap.size, 0, none⟩ = some (.int .u64 (T : Int)) := (b1.cell (p := ⟨w.heap.size, 0, none⟩) (by assumption)).trans (by assumption); have y1 : w1.cell? ⟨w.heap.size, 1, none⟩ = some (.string ⟨rq.toArray⟩) := (b1.cell (p := ⟨w.heap.size, 1, none⟩) (by assumption)).trans (by assumption); have y5 : w1.cell? ⟨m, 5, none⟩ = some (.int .i64 s.fin) := (b1.cell (p := ⟨m, 5, none⟩) (by assumption)).trans (by assumption)))
  all_goals (
    go_wp2
    go_ret
    exact ⟨rfl, by first | exact blw_tr BV.out b1 | exact Below.drew (blw_tr BV.out b1) | exact blw_tr (Below.drew BV.out) b1 | exact Below.drew (blw_tr (Below.drew BV.out) b1)⟩)
end
end Go.Proofs.Ytjfifaooimgbaaa
/- A record is done again. -/
namespace Go.Proofs.Ytjfifaooimgbaaa
open Go.Shelf Go.RowKit Go.Lib Go.Sort

set_option maxHeartbeats 4000000 in
set_option maxRecDepth 100000 in
theorem repeat_req (w : World) (m : Nat) (s : MkS) (x : Ex.Xch) (hM : MkAt w m s) (T : Nat) (rq : List UInt8) (o : Option Ex.Xch) (h0 : 0 ≤ s.time ∧ s.time ≤ 1125899906842624) (h1 : s.time ≤ (T : Int)) (h2 : (T : Int) ≤ 1125899906842624) (hr : ¬ rq = []) (hf : (T : Int) < s.fin)
    (HQ : ∀ V : World, Below w.heap.size w V → Calls Try.prog 90 #[.pointer (some ⟨m, 0, none⟩), .int .i64 (T : Int), .string ⟨rq.toArray⟩] V (Rpt m s V x o)) : Calls Try.prog 70 #[.pointer (some ⟨m, 0, none⟩), .agg #[.int .u64 (T : Int), .string ⟨rq.toArray⟩]] w (Rpt m s w x o) := by
  have mixed : Try.prog.follows .mixedOrders = true := by kernel_rfl
  have HC : Aside (∀ w, Calls Try.prog 89 #[.agg #[.int .u64 T, .string ⟨rq.toArray⟩]] w fun e w' => e = .returned (.bool false) ∧ Below w.heap.size w w') := fun w => by
    have := isClearing_any w T rq
    rw [decide_eq_false hr] at this
    exact this
  obtain ⟨W, hW⟩ : ∃ W, W = w.alloc (.cells #[.int .u64 (T : Int), .string ⟨rq.toArray⟩] 133) := ⟨_, rfl⟩
  have B : Aside (Below w.heap.size w W) := by rw [hW]; exact (Below.refl _ w).alloc (Nat.le_refl _) _
  have c2 : W.cell? ⟨m, 2, none⟩ = some (.int .i64 s.time) := (B.out.cell (p := ⟨m, 2, none⟩) hM.lt).trans hM.all.c2
  have c5 : W.cell? ⟨m, 5, none⟩ = some (.int .i64 s.fin) := (B.out.cell (p := ⟨m, 5, none⟩) hM.lt).trans hM.all.c5
  have q0 : W.cell? ⟨w.heap.size, 0, none⟩ = some (.int .u64 (T : Int)) := by rw [hW]; simp
  have q1 : W.cell? ⟨w.heap.size, 1, none⟩ = some (.string ⟨rq.toArray⟩) := by rw [hW]; simp
  have hwl : w.heap.size < W.heap.size := by rw [hW]; simp
  have hml : m < W.heap.size := Nat.lt_of_lt_of_le hM.lt B.out.size
  have hu : IntKind.u64.wrap s.time = s.time := IntWalk.u64_in _ (by omega)
  have hi : IntKind.i64.wrap (T : Int) = (T : Int) := IntWalk.i64_in _ (by omega)
  have hlt : ¬ (T : Int) < s.time := by omega
  have hgt : ¬ 1125899906842624 < (T : Int) := by omega
  have hff : decide (s.fin ≤ (T : Int)) = false := decide_eq_false (by omega)
  have HQA : Aside _ := HQ
  clear HQ
  clear hM hr
  go_enter Try.func70, Try.ntmps70
  go_wp2_with fail
  rw [← hW]
  clear hW
  go_quiet (fail)
  obtain ⟨V, hV⟩ : ∃ V, V = W.drewN nq := ⟨_, rfl⟩
  rw [← hV]
  have d0 : V.cell? ⟨w.heap.size, 0, none⟩ = some (.int .u64 (T : Int)) := by rw [hV]; exact q0
  have d1 : V.cell? ⟨w.heap.size, 1, none⟩ = some (.string ⟨rq.toArray⟩) := by rw [hV]; exact q1
  have d5 : V.cell? ⟨m, 5, none⟩ = some (.int .i64 s.fin) := by rw [hV]; exact c5
  have BV : Aside (Below w.heap.size w V) := by rw [hV]; exact Below.drewN B.out _
  have lV : w.heap.size < V.heap.size := by rw [hV]; exact hwl
  have mV : m < V.heap.size := by rw [hV]; exact hml
  clear hV q0 q1 c5 c2 hwl hml
  go_wp2_with fail
  go_region_held3 (fun U => U.cell? ⟨w.heap.size, 0, none⟩ = some (.int .u64 (T : Int)) ∧ U.cell? ⟨w.heap.size, 1, none⟩ = some (.string ⟨rq.toArray⟩) ∧ U.cell? ⟨m, 5, none⟩ = some (.int .i64 s.fin)) (first | exact ⟨by assumption, by assumption, by assumption⟩ | go_keep) (first | (go_at_call 89; refine Calls.mono (f := 89) (HC.out _) ?_; rintro e w1 ⟨rfl, b1⟩; have y0 : w1.cell? ⟨w.heap.size, 0, none⟩ = some (.int .u64 (T : Int)) := (b1.cell (p := ⟨w.heap.size, 0, none⟩) (by assumption)).trans (by assumption); have y1 : w1.cell? ⟨w.heap.size, 1, none⟩ = some (.string ⟨rq.toArray⟩) := (b1.cell (p := ⟨w.heap.size, 1, none⟩) (by assumption)).trans (by assumption); have y5 : w1.cell? ⟨m, 5, none⟩ = some (.int .i64 s.fin) := (b1.cell (p := ⟨m, 5, none⟩) (by assumption)).trans (by assumption)))
  all_goals (
    have BB : Aside (Below w.heap.size w w1) := by first | exact blw_tr BV.out b1 | exact Below.drew (blw_tr BV.out b1) | exact blw_tr (Below.drew BV.out) b1 | exact Below.drew (blw_tr (Below.drew BV.out) b1)
    have sz1 : w.heap.size < w1.heap.size := Nat.lt_of_lt_of_le lV b1.size
    clear b1
    go_wp2_with fail)
  all_goals (
    refine Calls.mono (f := 89) (HC.out _) ?_
    rintro e w2 ⟨rfl, b2⟩
    have BB2 : Aside (Below w.heap.size w w2) := blw_tr BB.out b2
    have z0 : w2.cell? ⟨w.heap.size, 0, none⟩ = some (.int .u64 (T : Int)) := (b2.cell (p := ⟨w.heap.size, 0, none⟩) sz1).trans y0
    have z1 : w2.cell? ⟨w.heap.size, 1, none⟩ = some (.string ⟨rq.toArray⟩) := (b2.cell (p := ⟨w.heap.size, 1, none⟩) sz1).trans y1
    clear b2 y0 y1 y5
    go_wp2_with fail)
  all_goals (
    refine Calls.mono (f := 90) (HQA.out w2 BB2.out) ?_
    rintro e w3 ⟨s', rfl, k3, st3⟩
    have K3' : Aside _ := k3
    have ST3 : Aside _ := st3
    clear k3 st3
    go_wp2
    go_ret
    exact ⟨s', rfl, K3'.out, Step.trans ((Step.refl m s w).below BB2.out) ST3.out⟩)
set_option maxHeartbeats 4000000 in
set_option maxRecDepth 100000 in
theorem repeat_clear (w : World) (m : Nat) (s : MkS) (x : Ex.Xch) (hK : Mkt w m s x) (ok : Ex.Ok x) (hn : x.batch < 1152921504606846976) (hj : x.jr.length ≤ 8796093022208) (T : Nat) (rq : List UInt8) (h0 : 0 ≤ s.time ∧ s.time ≤ 1125899906842624) (h1 : s.time ≤ (T : Int)) (h2 : (T : Int) ≤ 1125899906842624) (hr : rq = []) (hf : s.fin ≤ (T : Int)) : Calls Try.prog 70 #[.pointer (some ⟨m, 0, none⟩), .agg #[.int .u64 (T : Int), .string ⟨rq.toArray⟩]] w (Rpt m s w x (some { Ex.clearX { x with time := (T : Int) } with jr := x.jr ++ Ex.record (T : Int) [] })) := by
  have hM := hK.at_
  have mixed : Try.prog.follows .mixedOrders = true := by kernel_rfl
  have HC : Aside (∀ w, Calls Try.prog 89 #[.agg #[.int .u64 T, .string ⟨rq.toArray⟩]] w fun e w' => e = .returned (.bool true) ∧ Below w.heap.size w w') := fun w => by
    have := isClearing_any w T rq
    rw [decide_eq_true hr] at this
    exact this
  obtain ⟨W, hW⟩ : ∃ W, W = w.alloc (.cells #[.int .u64 (T : Int), .string ⟨rq.toArray⟩] 133) := ⟨_, rfl⟩
  have B : Aside (Below w.heap.size w W) := by rw [hW]; exact (Below.refl _ w).alloc (Nat.le_refl _) _
  have c2 : W.cell? ⟨m, 2, none⟩ = some (.int .i64 s.time) := (B.out.cell (p := ⟨m, 2, none⟩) hM.lt).trans hM.all.c2
  have c5 : W.cell? ⟨m, 5, none⟩ = some (.int .i64 s.fin) := (B.out.cell (p := ⟨m, 5, none⟩) hM.lt).trans hM.all.c5
  have q0 : W.cell? ⟨w.heap.size, 0, none⟩ = some (.int .u64 (T : Int)) := by rw [hW]; simp
  have q1 : W.cell? ⟨w.heap.size, 1, none⟩ = some (.string ⟨rq.toArray⟩) := by rw [hW]; simp
  have hwl : w.heap.size < W.heap.size := by rw [hW]; simp
  have hml : m < W.heap.size := Nat.lt_of_lt_of_le hM.lt B.out.size
  have hu : IntKind.u64.wrap s.time = s.time := IntWalk.u64_in _ (by omega)
  have hi : IntKind.i64.wrap (T : Int) = (T : Int) := IntWalk.i64_in _ (by omega)
  have hlt : ¬ (T : Int) < s.time := by omega
  have hgt : ¬ 1125899906842624 < (T : Int) := by omega
  have hff : decide (s.fin ≤ (T : Int)) = true := decide_eq_true hf
  have okT : Aside (Ex.Ok { x with time := (T : Int) }) := by
    have := Ex.timed_ok ok (T : Int)
    rw [Ex.timed_at (by rw [← hK.time]; exact h1) h2] at this
    exact this
  have HKA : Aside (Mkt w m s x) := hK
  clear hM hr hK ok
  go_enter Try.func70, Try.ntmps70
  go_wp2_with fail
  rw [← hW]
  clear hW
  go_quiet (fail)
  obtain ⟨V, hV⟩ : ∃ V, V = W.drewN nq := ⟨_, rfl⟩
  rw [← hV]
  have d0 : V.cell? ⟨w.heap.size, 0, none⟩ = some (.int .u64 (T : Int)) := by rw [hV]; exact q0
  have d1 : V.cell? ⟨w.heap.size, 1, none⟩ = some (.string ⟨rq.toArray⟩) := by rw [hV]; exact q1
  have d5 : V.cell? ⟨m, 5, none⟩ = some (.int .i64 s.fin) := by rw [hV]; exact c5
  have BV : Aside (Below w.heap.size w V) := by rw [hV]; exact Below.drewN B.out _
  have lV : w.heap.size < V.heap.size := by rw [hV]; exact hwl
  have mV : m < V.heap.size := by rw [hV]; exact hml
  clear hV q0 q1 c5 c2 hwl hml
  go_wp2_with fail
  go_region_held3 (fun U => U.cell? ⟨w.heap.size, 0, none⟩ = some (.int .u64 (T : Int)) ∧ U.cell? ⟨w.heap.size, 1, none⟩ = some (.string ⟨rq.toArray⟩) ∧ U.cell? ⟨m, 5, none⟩ = some (.int .i64 s.fin)) (first | exact ⟨by assumption, by assumption, by assumption⟩ | go_keep) (first | (go_at_call 89; refine Calls.mono (f := 89) (HC.out _) ?_; rintro e w1 ⟨rfl, b1⟩; have y0 : w1.cell? ⟨w.heap.size, 0, none⟩ = some (.int .u64 (T : Int)) := (b1.cell (p := ⟨w.heap.size, 0, none⟩) (by assumption)).trans (by assumption); have y1 : w1.cell? ⟨w.heap.size, 1, none⟩ = some (.string ⟨rq.toArray⟩) := (b1.cell (p := ⟨w.heap.size, 1, none⟩) (by assumption)).trans (by assumption); have y5 : w1.cell? ⟨m, 5, none⟩ = some (.int .i64 s.fin) := (b1.cell (p := ⟨m, 5, none⟩) (by assumption)).trans (by assumption)))
  all_goals (
    have BB : Aside (Below w.heap.size w w1) := by first | exact blw_tr BV.out b1 | exact Below.drew (blw_tr BV.out b1) | exact blw_tr (Below.drew BV.out) b1 | exact Below.drew (blw_tr (Below.drew BV.out) b1)
    have sz1 : w.heap.size < w1.heap.size := Nat.lt_of_lt_of_le lV b1.size
    clear b1
    go_wp2_with fail)
  all_goals (
    refine Calls.mono (f := 89) (HC.out _) ?_
    rintro e w2 ⟨rfl, b2⟩
    have BB2 : Aside (Below w.heap.size w w2) := blw_tr BB.out b2
    have z0 : w2.cell? ⟨w.heap.size, 0, none⟩ = some (.int .u64 (T : Int)) := (b2.cell (p := ⟨w.heap.size, 0, none⟩) sz1).trans y0
    have z1 : w2.cell? ⟨w.heap.size, 1, none⟩ = some (.string ⟨rq.toArray⟩) := (b2.cell (p := ⟨w.heap.size, 1, none⟩) sz1).trans y1
    clear b2 y0 y1 y5
    have M2 : MkAt w2 m s := HKA.out.at_.kept (BB2.out.block m HKA.out.at_.lt)
    have C := M2.all
    have c2 := C.c2
    have f2 := C.fr 2
    obtain ⟨W2, hW2⟩ : ∃ W2, W2 = w2.setCell ⟨m, 2, none⟩ (.int .i64 (T : Int)) := ⟨_, rfl⟩
    have M1 : MkAt W2 m { s with time := (T : Int) } := by rw [hW2]; exact M2.setTime _
    have O1 : Onl (· = m) w2 W2 := by rw [hW2]; exact (Onl.refl _ w2).set _ _ (Or.inl rfl)
    have K2 : Aside (Mkt W2 m { s with time := (T : Int) } { x with time := (T : Int) }) := (HKA.out.below BB2.out).onTime _ M1 O1
    have S2 : Aside (Step m s w { s with time := (T : Int) } W2) := Step.trans ((Step.refl m s w).below BB2.out) (Step.onTime _ O1)
    have HCB : Aside _ := clearBatch_any W2 m { s with time := (T : Int) } { x with time := (T : Int) } K2.out okT.out hn hj
    clear M2 C M1 O1
    go_wp2_with fail
    rw [← hW2]
    clear hW2
    refine Calls.mono (f := 91) HCB.out ?_
    rintro e w3 ⟨s', rfl, k3, st3⟩
    have K3' : Aside _ := k3
    have ST3 : Aside _ := st3
    clear k3 st3
    go_wp2
    go_ret
    exact ⟨s', rfl, K3'.out, Step.trans S2.out ST3.out⟩)
/-- A RECORD THAT IS WHOLE IS DONE AGAIN, OR LEFT: as the reading without a program says. -/
theorem repeat_any (w : World) (m : Nat) (s : MkS) (x : Ex.Xch) {bx gx : Nat → Nat} (hK : Mkt w m s x) (ok : Ex.Ok x) (hB : Bxs w s.bd m bx gx) (hn : x.batch < 1152921504606846976) (hj : x.jr.length ≤ 8796093022208) (j : List UInt8) (hW : Ex.Whole j) :
    Calls Try.prog 70 #[.pointer (some ⟨m, 0, none⟩), .agg #[.int .u64 (Ex.rtime j : Int), .string ⟨(Ex.rreq j).toArray⟩]] w (Rpt m s w x (Ex.readJ x j)) := by
  have h0 : 0 ≤ s.time ∧ s.time ≤ 1125899906842624 := by have := hK.time; have := ok.time; omega
  have et := hK.time
  have ef := hK.fin
  have lr : (Ex.rreq j).length = Ex.rlen j := by unfold Ex.rreq; rw [List.length_take, List.length_drop]; have := hW.1; omega
  have l255 : Ex.rlen j < 256 := UInt8.toNat_lt _
  have er : Ex.rreq j = [] ↔ Ex.rlen j = 0 := by rw [← lr]; exact List.length_eq_zero_iff.symm
  by_cases h1 : (Ex.rtime j : Int) < x.time
  · refine (repeat_low w m s hK.at_ _ _ h0 (by omega)).mono ?_
    rintro e w' ⟨rfl, B⟩
    exact rpt_none hK B (Ex.readJ_not (fun h => by have := h.2.1.1; omega))
  · by_cases h2 : 1125899906842624 < (Ex.rtime j : Int)
    · refine (repeat_high w m s hK.at_ _ _ h0 h2).mono ?_
      rintro e w' ⟨rfl, B⟩
      exact rpt_none hK B (Ex.readJ_not (fun h => by have := h.2.1.2.1; omega))
    · by_cases h3 : Ex.rlen j = 0
      · by_cases h4 : x.fin ≤ (Ex.rtime j : Int)
        · rw [Ex.readJ_clear hW (by omega) (by omega) h3 h4]
          exact repeat_clear w m s x hK ok hn hj _ _ h0 (by omega) (by omega) (er.2 h3) (by omega)
        · refine (repeat_early w m s hK.at_ _ _ h0 (by omega) (by omega) (er.2 h3) (by omega)).mono ?_
          rintro e w' ⟨rfl, B⟩
          exact rpt_none hK B (Ex.readJ_not (fun h => h4 (h.2.1.2.2.1 h3)))
      · by_cases h4 : x.fin ≤ (Ex.rtime j : Int)
        · refine (repeat_late w m s hK.at_ _ _ h0 (by omega) (by omega) (fun e => h3 (er.1 e)) (by omega)).mono ?_
          rintro e w' ⟨rfl, B⟩
          exact rpt_none hK B (Ex.readJ_not (fun h => h3 (h.2.1.2.2.2 h4)))
        · have eo : Ex.readJ x j = rptO (Ex.rtime j : Int) (Ex.rreq j) (Ex.answerX x (Ex.rreq j)) := by
            unfold rptO
            by_cases hd : (Ex.answerX x (Ex.rreq j)).2.getD 0 0 = 0 ∧ ((Ex.rreq j).getD 0 0).toNat ≤ 6
            · rw [if_pos hd, Ex.readJ_done hW (by omega) (by omega) h3 (by omega) hd.1 hd.2, (Ex.answer_time x (Ex.rreq j)).2.2]
            · rw [if_neg hd]
              refine Ex.readJ_undone hW (by omega) (by omega) (by omega) ?_
              by_cases q : (Ex.answerX x (Ex.rreq j)).2.getD 0 0 = 0
              · exact Or.inr (by have : ¬ ((Ex.rreq j).getD 0 0).toNat ≤ 6 := fun h => hd ⟨q, h⟩; omega)
              · exact Or.inl q
          rw [eo]
          exact repeat_req w m s x hK.at_ _ _ _ h0 (by omega) (by omega) (fun e => h3 (er.1 e)) (by omega) (fun V b => repeatRequest_any cancel_ok (hK.below b) ok (hB.below b) (by omega) _ ⟨by omega, by omega⟩ _ (by omega))
end Go.Proofs.Ytjfifaooimgbaaa
