import Derived.Test.YtjfifaooimgbaaaCq
import Derived.Test.YtjfifaooimgbaaaNb3
import Derived.Test.YtjfifaooimgbaaaAp
import Derived.Test.YtjfifaooimgbaaaLk
import Derived.Test.YtjfifaooimgbaaaAw
import Derived.BigRegion
import Derived.Test.YtjfifaooimgbaaaBt3
/- Time goes on, and a batch may be cleared. -/
namespace Go.Proofs.Ytjfifaooimgbaaa
open Go.Shelf Go.RowKit Go.Lib Go.Sort

theorem Mkt.onTime {w w' : World} {m : Nat} {s : MkS} {x : Ex.Xch} (h : Mkt w m s x) (T : Int) (hM : MkAt w' m { s with time := T }) (o : Onl (· = m) w w') : Mkt w' m { s with time := T } { x with time := T } := by
  have A := h.apart
  exact { at_ := hM
          acc := h.acc.kept (o.block _ h.acc.lt (fun e => A.ma e.symm))
          ord := h.ord.kept (fun k hk => o.block k (h.ord.lt hk) (fun e => A.om (by rw [hk, e])))
          prc := h.prc.kept (o.block _ h.prc.lt (fun e => A.mp e.symm))
          jrn := h.jrn.kept (fun k hk => o.block k (h.jrn.lt hk) (fun e => A.jm (by rw [hk, e])))
          nap := h.nap, per := h.per, cap := h.cap, time := rfl, num := h.num, fin := h.fin, last := h.last, prs := h.prs, fls := h.fls, pay := h.pay, get := h.get, share := h.share }
theorem Step.onTime {w w' : World} {m : Nat} {s : MkS} (T : Int) (o : Onl (· = m) w w') : Step m s w { s with time := T } w' :=
  ⟨o.mono (fun _ hi => Or.inl hi), fun _ hk => Or.inl hk, rfl⟩
theorem timed_eq (x : Ex.Xch) (now : Int) : Ex.timed x now = { x with time := newTime x.time now } := rfl

set_option maxHeartbeats 2000000 in
set_option maxRecDepth 100000 in
theorem setTime_any (w : World) (m : Nat) (s : MkS) (x : Ex.Xch) (now : Int) (hK : Mkt w m s x) (ok : Ex.Ok x) (h0 : -9223372036854775808 ≤ now ∧ now ≤ 9223372036854775807) (hn : x.batch < 1152921504606846976) (hj : x.jr.length ≤ 8796093022208) :
    Calls Try.prog 76 #[.pointer (some ⟨m, 0, none⟩), .int .i64 now] w fun e w' => ∃ s', e = .returned (.tuple #[]) ∧ Mkt w' m s' (Ex.cleared (Ex.timed x now)) ∧ Step m s w s' w' := by
  have mixed : Try.prog.follows .mixedOrders = true := by kernel_rfl
  have okt := Ex.timed_ok ok now
  have ht : 0 ≤ s.time ∧ s.time ≤ 1125899906842624 := by have := hK.time; have := ok.time; omega
  rw [timed_eq] at okt ⊢
  have et : newTime s.time now = newTime x.time now := by rw [hK.time]
  by_cases hf : newTime x.time now < x.fin
  · have e : Ex.cleared { x with time := newTime x.time now } = { x with time := newTime x.time now } := by
      unfold Ex.cleared
      rw [if_neg (by show ¬ x.fin ≤ newTime x.time now; omega)]
    rw [e]
    refine (setTime_no w m s now hK.at_ ht h0 (by rw [et, hK.fin]; exact hf)).mono ?_
    rintro e' w' ⟨rfl, M1, O1⟩
    rw [et] at M1
    exact ⟨_, rfl, hK.onTime _ M1 O1, Step.onTime _ O1⟩
  · have e : Ex.cleared { x with time := newTime x.time now } = { Ex.clearX { x with time := newTime x.time now } with jr := x.jr ++ Ex.record (newTime x.time now) [] } := by
      unfold Ex.cleared
      rw [if_pos (by show x.fin ≤ newTime x.time now; omega)]
    rw [e]
    clear e
    have C := hK.at_.all
    have c2 := C.c2
    have f2 := C.fr 2
    have em : min (max now s.time) 1125899906842624 = newTime s.time now := by
      unfold newTime
      split <;> split <;> omega
    rw [et] at em
    obtain ⟨T, hT⟩ : ∃ T, T = newTime x.time now := ⟨_, rfl⟩
    rw [← hT] at em hf okt ⊢
    obtain ⟨W, hW⟩ : ∃ W, W = w.setCell ⟨m, 2, none⟩ (.int .i64 T) := ⟨_, rfl⟩
    have M1 : MkAt W m { s with time := T } := by rw [hW]; exact hK.at_.setTime T
    have O1 : Onl (· = m) w W := by rw [hW]; exact (Onl.refl _ w).set _ _ (Or.inl rfl)
    have d2 := M1.all.c2
    have d5 := M1.all.c5
    have hff : s.fin ≤ T := by have := hK.fin; omega
    have K1 : Mkt W.drew m { s with time := T } { x with time := T } := (hK.onTime T M1 O1).kept (fun _ _ => rfl)
    have HCB : Aside _ := clearBatch_any W.drew m { s with time := T } { x with time := T } K1 okt hn hj
    have HST : Aside (Step m s w { s with time := T } W.drew) := ⟨(Step.onTime T O1).onl.drew, (Step.onTime T O1).foot, rfl⟩
    clear C hK ok okt M1 O1 K1 hT et
    go_enter Try.func76, Try.ntmps76
    go_wp2_with fail
    rw [← hW]
    clear hW
    go_still_tail 9, mixed
    go_wp2_with fail
    refine Calls.mono (f := 91) HCB.out ?_
    rintro e w' ⟨s', rfl, q1, q2⟩
    go_wp2
    go_end0
    exact ⟨s', rfl, q1, HST.out.trans q2⟩
end Go.Proofs.Ytjfifaooimgbaaa
/- tell, of one number, of two, of four. -/
namespace Go.Proofs.Ytjfifaooimgbaaa
open Go.Shelf Go.RowKit Go.Lib Go.Sort

def n63 (a : Int) : Prop := 0 ≤ a ∧ a < 9223372036854775808
theorem tell_new (w : World) (v : Value) (l : List UInt8) (size : Nat) (az : List Int) (hR : BRow w v l) (hs : size ≤ 8) (h1 : 1 ≤ size) (hn : az.length ≤ 4) (hb : ∀ a ∈ az, n63 a) (hl : l.length ≤ 1000) :
    Calls Try.prog 122 #[v, .int .i64 size, .slice (some ⟨w.heap.size, 0, none⟩) az.length az.length] (w.alloc (.cells (az.map (Value.int .i64)).toArray 3)) fun e w' => ∃ v', e = .returned v' ∧ BRow w' v' (l ++ tellL size (az.map Int.toNat)) ∧ OnlV v w w' ∧ Lies w v v' := by
  have hlen : (az.map Int.toNat).length = az.length := List.length_map _
  have hg : ∀ i, i < az.length → ∃ a, az[i]? = some a ∧ (az.map Int.toNat).getD i 0 = a.toNat ∧ n63 a := fun i hi => by
    refine ⟨az[i], List.getElem?_eq_getElem hi, ?_, hb _ (List.getElem_mem _)⟩
    rw [List.getD_eq_getElem?_getD, List.getElem?_map, List.getElem?_eq_getElem hi]
    rfl
  have hN : NumsAt (w.alloc (.cells (az.map (Value.int .i64)).toArray 3)) w.heap.size (az.map Int.toNat) := by
    refine ⟨by simp, fun i hi => ?_⟩
    rw [hlen] at hi
    obtain ⟨a, e1, e2, e3⟩ := hg i hi
    rw [e2, Int.toNat_of_nonneg e3.1]
    have := heap_alloc_new w (.cells (az.map (Value.int .i64)).toArray 3)
    simp only [World.cell?, this]
    simp [e1]
  have h := tell_any v l size w.heap.size (az.map Int.toNat) (w.alloc (.cells (az.map (Value.int .i64)).toArray 3)) (World.ownsRow.alloc hR _) hN (fun e => by have := hR.lt e; omega) hs h1 (by omega) (fun i hi => by
    rw [hlen] at hi
    obtain ⟨a, e1, e2, e3⟩ := hg i hi
    rw [e2]
    have := e3.1
    have := e3.2
    omega) hl
  rw [hlen] at h
  refine h.mono ?_
  rintro e w' ⟨v', rfl, q1, q2, q3⟩
  refine ⟨v', rfl, q1, ((Onl.refl _ w).alloc _).trans q2 (fun i hi => Or.inl hi), ?_⟩
  rcases q3 with q3 | ⟨k, q3, q4⟩
  · exact Or.inl q3
  · exact Or.inr ⟨k, q3, by have : (w.alloc (.cells (az.map (Value.int .i64)).toArray 3)).heap.size = w.heap.size + 1 := by simp
                            omega⟩
section
variable (w : World) (v : Value) (l : List UInt8) (size : Nat) (hR : BRow w v l) (hs : size ≤ 8) (h1 : 1 ≤ size) (hl : l.length ≤ 1000)
include hR hs h1 hl
theorem tell_one (a : Int) (ha : n63 a) : Calls Try.prog 122 #[v, .int .i64 size, .slice (some ⟨w.heap.size, 0, none⟩) 1 1] (w.alloc (.cells #[.int .i64 a] 3)) fun e w' => ∃ v', e = .returned v' ∧ BRow w' v' (l ++ bytesOf a.toNat size) ∧ OnlV v w w' ∧ Lies w v v' := by
  have := tell_new w v l size [a] hR hs h1 (by simp) (fun x hx => by simp at hx; rw [hx]; exact ha) hl
  simpa [tellL] using this
theorem tell_two (a b : Int) (ha : n63 a) (hb : n63 b) : Calls Try.prog 122 #[v, .int .i64 size, .slice (some ⟨w.heap.size, 0, none⟩) 2 2] (w.alloc (.cells #[.int .i64 a, .int .i64 b] 3)) fun e w' => ∃ v', e = .returned v' ∧ BRow w' v' (l ++ (bytesOf a.toNat size ++ bytesOf b.toNat size)) ∧ OnlV v w w' ∧ Lies w v v' := by
  have := tell_new w v l size [a, b] hR hs h1 (by simp) (fun x hx => by simp at hx; rcases hx with rfl | rfl <;> assumption) hl
  simpa [tellL] using this
theorem tell_four (a b c d : Int) (ha : n63 a) (hb : n63 b) (hc : n63 c) (hd : n63 d) : Calls Try.prog 122 #[v, .int .i64 size, .slice (some ⟨w.heap.size, 0, none⟩) 4 4] (w.alloc (.cells #[.int .i64 a, .int .i64 b, .int .i64 c, .int .i64 d] 3)) fun e w' => ∃ v', e = .returned v' ∧ BRow w' v' (l ++ (bytesOf a.toNat size ++ (bytesOf b.toNat size ++ (bytesOf c.toNat size ++ bytesOf d.toNat size)))) ∧ OnlV v w w' ∧ Lies w v v' := by
  have := tell_new w v l size [a, b, c, d] hR hs h1 (by simp) (fun x hx => by simp at hx; rcases hx with rfl | rfl | rfl | rfl <;> assumption) hl
  simpa [tellL] using this
end
end Go.Proofs.Ytjfifaooimgbaaa
/- What is told. -/
namespace Go.Proofs.Ytjfifaooimgbaaa
open Go.Shelf Go.RowKit Go.Lib Go.Sort

theorem Onl.toBelow {a b : World} (h : Onl (fun _ => False) a b) : Below a.heap.size a b := ⟨h.os, h.tape, h.output, h.size, fun k hk => h.block k hk (fun x => x)⟩
/-- told: new bytes. -/
def Told (w w' : World) (v : Value) (l : List UInt8) : Prop := BRow w' v l ∧ Below w.heap.size w w' ∧ ∀ k, v.ownBlock = some k → w.heap.size ≤ k

theorem told_of {w V w' : World} {v : Value} {l : List UInt8} (h : Onl (fun _ => False) w V) (q1 : BRow w' v l) (q2 : OnlV (.slice none 0 0) V w') (q3 : Lies V (.slice none 0 0) v) : Told w w' v l := by
  refine ⟨q1, (h.trans q2 (fun i hi => by cases hi)).toBelow, fun k hk => ?_⟩
  rcases q3 with e | ⟨j, h1, h2⟩
  · rw [e] at hk; cases hk
  · rw [h1] at hk; injection hk with hk; subst hk
    exact Nat.le_trans h.size h2

set_option maxHeartbeats 2000000 in
set_option maxRecDepth 100000 in
theorem tellAccount_deed (w : World) (m X k t a sd pr : Nat) (s : MkS) (q : Nat → A4) (hX : BoxM w X m) (hM : MkAt w m s) (hA : AccF w s.ba q) (hq : Tame q) (ht : t < 20) :
    Calls Try.prog 125 #[reqV k t a sd pr, .pointer (some ⟨X, 0, none⟩)] w fun e w' => ∃ v, e = .returned (.tuple #[.int .u8 0, v]) ∧ Told w w' v (bytesOf (q t).c.toNat 8 ++ (bytesOf (q t).h.toNat 8 ++ (bytesOf (q t).u.toNat 8 ++ bytesOf (q t).k.toNat 8))) := by
  have mixed : Try.prog.follows .mixedOrders = true := by kernel_rfl
  unfold reqV
  obtain ⟨W, hW⟩ : ∃ W, W = w.alloc (.cells #[.int .i64 (k : Int), .int .i64 (t : Int), .int .u64 (a : Int), .int .i64 (sd : Int), .int .i64 (pr : Int)] 157) := ⟨_, rfl⟩
  have hsz : W.heap.size = w.heap.size + 1 := by rw [hW]; simp
  have bk : ∀ j, j < w.heap.size → W.heap[j]? = w.heap[j]? := fun j hj => by rw [hW]; exact Below.heap_alloc w _ j hj
  have x1 := (hX.kept (bk X hX.lt)).cell
  have m3 := (hM.kept (bk m hM.lt)).all.c3
  have AW : AccF W s.ba q := hA.kept (bk _ hA.lt)
  have r1 : W.cell? ⟨w.heap.size, 1, none⟩ = some (.int .i64 (t : Int)) := by rw [hW]; simp
  have HOW : Aside (Onl (fun _ => False) w W) := by show Onl _ _ _; rw [hW]; exact (Onl.refl _ w).alloc _
  have lk : (Instr.lookup 121 (.map (some s.ba)) (.int .i64 (t : Int)) false).run Try.prog W.drew = .ok (.agg #[.int .i64 (q t).c, .int .i64 (q t).h, .int .i64 (q t).u, .int .i64 (q t).k]) W.drew := (AW.kept (w' := W.drew) rfl).look (by omega)
  have lk2 : ∀ o, (Instr.lookup 121 (.map (some s.ba)) (.int .i64 (t : Int)) false).run Try.prog (W.alloc o).drew = .ok (.agg #[.int .i64 (q t).c, .int .i64 (q t).h, .int .i64 (q t).u, .int .i64 (q t).k]) (W.alloc o).drew := fun o => ((AW.alloc o).kept (w' := (W.alloc o).drew) rfl).look (by omega)
  have xl : X ≠ W.heap.size := by have := hX.lt; omega
  have ml : m ≠ W.heap.size := by have := hM.lt; omega
  have wl : w.heap.size ≠ W.heap.size := by omega
  have x1' : ∀ o, (W.alloc o).drew.cell? ⟨X, 0, none⟩ = some (.pointer (some ⟨m, 0, none⟩)) := fun o => (World.cell?_of_block (Below.heap_alloc W o X (by show X < W.heap.size; have := hX.lt; omega))).trans x1
  have m3' : ∀ o, (W.alloc o).drew.cell? ⟨m, 3, none⟩ = some (.map (some s.ba)) := fun o => (World.cell?_of_block (a := ⟨m, 3, none⟩) (Below.heap_alloc W o m (by show m < W.heap.size; have := hM.lt; omega))).trans m3
  have r1' : ∀ o, (W.alloc o).drew.cell? ⟨w.heap.size, 1, none⟩ = some (.int .i64 (t : Int)) := fun o => (World.cell?_of_block (a := ⟨w.heap.size, 1, none⟩) (Below.heap_alloc W o w.heap.size (by show w.heap.size < W.heap.size; omega))).trans r1
  have hqt := hq t (by omega)
  have HC : Aside (∀ A B C : Obj, Calls Try.prog 122 #[.slice none 0 0, .int .i64 8, .slice (some ⟨w.heap.size + 1 + 1 + 1 + 1, 0, none⟩) 4 4] ((((W.alloc A).alloc B).alloc C).alloc (.cells #[.int .i64 (q t).c, .int .i64 (q t).h, .int .i64 (q t).u, .int .i64 (q t).k] 3)).drew.drew fun e w' => ∃ v, e = .returned v ∧ Told w w' v (bytesOf (q t).c.toNat 8 ++ (bytesOf (q t).h.toNat 8 ++ (bytesOf (q t).u.toNat 8 ++ bytesOf (q t).k.toNat 8)))) := fun A B C => by
    have h := tell_four (((W.alloc A).alloc B).alloc C).drew.drew (.slice none 0 0) [] 8 (BRow.nil _) (by decide) (by decide) (by decide) (q t).c (q t).h (q t).u (q t).k ⟨by omega, by omega⟩ ⟨by omega, by omega⟩ ⟨by omega, by omega⟩ ⟨by omega, by omega⟩
    have e : (((W.alloc A).alloc B).alloc C).drew.drew.heap.size = w.heap.size + 1 + 1 + 1 + 1 := by simp [hsz]
    rw [e] at h
    refine h.mono ?_
    rintro e' w' ⟨v', rfl, q1, q2, q3⟩
    exact ⟨v', rfl, told_of ((((HOW.out.alloc A).alloc B).alloc C).drew.drew) q1 q2 q3⟩
  clear hX hM hA hq AW bk
  go_enter Try.func125, Try.ntmps125
  go_wp2_with fail
  rw [← hW]
  clear hW
  go_region
  go_wp2_with fail
  go_region
  all_goals go_wp2_with fail
  all_goals (
    refine Calls.mono (f := 122) (HC.out _ _ _) ?_
    rintro e w' ⟨v', rfl, q1⟩
    obtain ⟨va, vn, vc, rfl⟩ := q1.1.sl
    go_wp2
    go_ret2
    exact ⟨_, rfl, q1⟩)
end Go.Proofs.Ytjfifaooimgbaaa
/- An order is given: no side. -/
namespace Go.Proofs.Ytjfifaooimgbaaa
open Go.Shelf Go.RowKit Go.Lib Go.Sort

set_option maxHeartbeats 2000000 in
set_option maxRecDepth 100000 in
theorem give_4 (w : World) (m X k t a sd pr : Nat) (s : MkS) (q : Nat → A4) (os : List Ex.Ord) (hX : BoxM w X m) (hM : MkAt w m s) (hA : AccF w s.ba q) (hO : ORow w s.ov os) (hq : Tame q) (ht : t < 20) (_hl : os.length ≤ 1000) (_hpr : pr < 65536) (hc : 1 < sd) :
    Calls Try.prog 119 #[reqV k t a sd pr, .pointer (some ⟨X, 0, none⟩)] w fun e w' => e = .returned (.tuple #[.int .u8 4, .slice none 0 0]) ∧ Below w.heap.size w w' := by
  have mixed : Try.prog.follows .mixedOrders = true := by kernel_rfl
  obtain ⟨W, hW⟩ : ∃ W, W = (w.alloc (.cells #[.int .i64 (k : Int), .int .i64 (t : Int), .int .u64 (a : Int), .int .i64 (sd : Int), .int .i64 (pr : Int)] 157)).alloc (.cells #[.int .i64 (t : Int), .int .i64 (sd : Int), .int .i64 (pr : Int)] 171) := ⟨_, rfl⟩
  have hsz : W.heap.size = w.heap.size + 1 + 1 := by rw [hW]; simp
  have bk : ∀ j, j < w.heap.size → W.heap[j]? = w.heap[j]? := fun j hj => by rw [hW]; exact (Below.heap_alloc _ _ j (by simp; omega)).trans (Below.heap_alloc w _ j hj)
  have F : Aside (∀ w1 : World, (∀ j, j < W.heap.size → j ≠ s.ba → w1.heap[j]? = W.heap[j]?) → w1.cell? ⟨X, 0, none⟩ = some (.pointer (some ⟨m, 0, none⟩)) ∧ MkAt w1 m s ∧ w1.cell? ⟨w.heap.size, 1, none⟩ = some (.int .i64 (t : Int)) ∧ w1.cell? ⟨w.heap.size, 3, none⟩ = some (.int .i64 (sd : Int)) ∧ w1.cell? ⟨w.heap.size, 4, none⟩ = some (.int .i64 (pr : Int)) ∧ w1.cell? ⟨w.heap.size + 1, 0, none⟩ = some (.int .i64 (t : Int)) ∧ w1.cell? ⟨w.heap.size + 1, 1, none⟩ = some (.int .i64 (sd : Int)) ∧ w1.cell? ⟨w.heap.size + 1, 2, none⟩ = some (.int .i64 (pr : Int)) ∧ ORow w1 s.ov os) := fun w1 h => by
    obtain ⟨es, ec, hb⟩ := hA.block
    have nX : X ≠ s.ba := fun e => by rw [← e] at hb; have := hX; unfold BoxM at this; rw [this] at hb; cases hb
    have nM : m ≠ s.ba := fun e => by rw [← e] at hb; have := hM; unfold MkAt at this; rw [this] at hb; cases hb
    have al := hA.lt
    have b0 : W.heap[w.heap.size]? = some (.cells #[.int .i64 (k : Int), .int .i64 (t : Int), .int .u64 (a : Int), .int .i64 (sd : Int), .int .i64 (pr : Int)] 157) := by rw [hW]; exact (Below.heap_alloc _ _ _ (by simp)).trans (heap_alloc_new w _)
    have b1 : W.heap[w.heap.size + 1]? = some (.cells #[.int .i64 (t : Int), .int .i64 (sd : Int), .int .i64 (pr : Int)] 171) := by rw [hW]; exact next_new w _ _
    have e0 := (h w.heap.size (by omega) (by omega)).trans b0
    have e1 := (h (w.heap.size + 1) (by omega) (by omega)).trans b1
    have M1 : MkAt w1 m s := hM.kept ((h m (by have := hM.lt; omega) nM).trans (bk m hM.lt))
    refine ⟨(hX.kept ((h X (by have := hX.lt; omega) nX).trans (bk X hX.lt))).cell, M1, ?_, ?_, ?_, ?_, ?_, ?_, hO.kept (fun j hj => ?_)⟩
    · simp [World.cell?, e0]
    · simp [World.cell?, e0]
    · simp [World.cell?, e0]
    · simp [World.cell?, e1]
    · simp [World.cell?, e1]
    · simp [World.cell?, e1]
    · have jl := hO.lt hj
      exact (h j (by omega) (fun e => by obtain ⟨cur, hc⟩ := row_block hO hj; rw [e, hb] at hc; cases hc)).trans (bk j jl)
  have AW : Aside (AccF W s.ba q) := hA.kept (bk _ hA.lt)
  have HOW : Aside (Onl (fun _ => False) w W) := by show Onl _ _ _; rw [hW]; exact ((Onl.refl _ w).alloc _).alloc _
  have HS : Aside (Calls Try.prog 107 #[.agg #[.int .i64 (t : Int), .int .i64 (sd : Int), .int .i64 (pr : Int)]] W fun e w' => e = .returned (.tuple #[.int .i64 (goodOf (sd : Int) : Nat), .int .i64 (stakeOf ⟨t, sd, pr⟩)]) ∧ Below W.heap.size W w') := stake_any ⟨t, sd, pr⟩ W
  have hqt := hq t (by omega)
  unfold reqV
  have s0 : ((sd : Int) != 0) = true := by rw [bne_iff_ne]; omega
  have s1 : ((sd : Int) != 1) = true := by rw [bne_iff_ne]; omega
  clear hX hM hA hO hq bk
  go_enter Try.func119, Try.ntmps119
  go_wp2_with fail
  rw [← hW]
  clear hW
  refine Calls.mono (f := 107) HS.out ?_
  rintro e w1 ⟨rfl, B1⟩
  obtain ⟨x1, M1, r1, r3, r4, o0, o1, o2, OR1⟩ := F.out w1 (fun j hj _ => B1.block j hj)
  have A1 : Aside (AccF w1 s.ba q) := AW.out.kept (B1.block _ AW.out.lt)
  have HO1 : Aside (Onl (fun _ => False) w w1) := HOW.out.below B1
  have BB1 : Aside (Below W.heap.size W w1) := B1
  have hsz1 : W.heap.size ≤ w1.heap.size := B1.size
  have HM1 : Aside (MkAt w1 m s) := M1
  have HOR1 : Aside (ORow w1 s.ov os) := OR1
  clear HS B1 M1 OR1
  go_wp2
  go_ret2
  exact ⟨rfl, HO1.out.toBelow⟩
end Go.Proofs.Ytjfifaooimgbaaa
/- An order is given: no price. -/
namespace Go.Proofs.Ytjfifaooimgbaaa
open Go.Shelf Go.RowKit Go.Lib Go.Sort

set_option maxHeartbeats 2000000 in
set_option maxRecDepth 100000 in
theorem give_5_0 (w : World) (m X k t a pr : Nat) (s : MkS) (q : Nat → A4) (os : List Ex.Ord) (hX : BoxM w X m) (hM : MkAt w m s) (hA : AccF w s.ba q) (hO : ORow w s.ov os) (hq : Tame q) (ht : t < 20) (_hl : os.length ≤ 1000) (hpr : pr < 65536) (hc : pr < 1 ∨ 1000 ≤ pr) :
    Calls Try.prog 119 #[reqV k t a 0 pr, .pointer (some ⟨X, 0, none⟩)] w fun e w' => e = .returned (.tuple #[.int .u8 5, .slice none 0 0]) ∧ Below w.heap.size w w' := by
  have mixed : Try.prog.follows .mixedOrders = true := by kernel_rfl
  obtain ⟨W, hW⟩ : ∃ W, W = (w.alloc (.cells #[.int .i64 (k : Int), .int .i64 (t : Int), .int .u64 (a : Int), .int .i64 0, .int .i64 (pr : Int)] 157)).alloc (.cells #[.int .i64 (t : Int), .int .i64 0, .int .i64 (pr : Int)] 171) := ⟨_, rfl⟩
  have hsz : W.heap.size = w.heap.size + 1 + 1 := by rw [hW]; simp
  have bk : ∀ j, j < w.heap.size → W.heap[j]? = w.heap[j]? := fun j hj => by rw [hW]; exact (Below.heap_alloc _ _ j (by simp; omega)).trans (Below.heap_alloc w _ j hj)
  have F : Aside (∀ w1 : World, (∀ j, j < W.heap.size → j ≠ s.ba → w1.heap[j]? = W.heap[j]?) → w1.cell? ⟨X, 0, none⟩ = some (.pointer (some ⟨m, 0, none⟩)) ∧ MkAt w1 m s ∧ w1.cell? ⟨w.heap.size, 1, none⟩ = some (.int .i64 (t : Int)) ∧ w1.cell? ⟨w.heap.size, 3, none⟩ = some (.int .i64 0) ∧ w1.cell? ⟨w.heap.size, 4, none⟩ = some (.int .i64 (pr : Int)) ∧ w1.cell? ⟨w.heap.size + 1, 0, none⟩ = some (.int .i64 (t : Int)) ∧ w1.cell? ⟨w.heap.size + 1, 1, none⟩ = some (.int .i64 0) ∧ w1.cell? ⟨w.heap.size + 1, 2, none⟩ = some (.int .i64 (pr : Int)) ∧ ORow w1 s.ov os) := fun w1 h => by
    obtain ⟨es, ec, hb⟩ := hA.block
    have nX : X ≠ s.ba := fun e => by rw [← e] at hb; have := hX; unfold BoxM at this; rw [this] at hb; cases hb
    have nM : m ≠ s.ba := fun e => by rw [← e] at hb; have := hM; unfold MkAt at this; rw [this] at hb; cases hb
    have al := hA.lt
    have b0 : W.heap[w.heap.size]? = some (.cells #[.int .i64 (k : Int), .int .i64 (t : Int), .int .u64 (a : Int), .int .i64 0, .int .i64 (pr : Int)] 157) := by rw [hW]; exact (Below.heap_alloc _ _ _ (by simp)).trans (heap_alloc_new w _)
    have b1 : W.heap[w.heap.size + 1]? = some (.cells #[.int .i64 (t : Int), .int .i64 0, .int .i64 (pr : Int)] 171) := by rw [hW]; exact next_new w _ _
    have e0 := (h w.heap.size (by omega) (by omega)).trans b0
    have e1 := (h (w.heap.size + 1) (by omega) (by omega)).trans b1
    have M1 : MkAt w1 m s := hM.kept ((h m (by have := hM.lt; omega) nM).trans (bk m hM.lt))
    refine ⟨(hX.kept ((h X (by have := hX.lt; omega) nX).trans (bk X hX.lt))).cell, M1, ?_, ?_, ?_, ?_, ?_, ?_, hO.kept (fun j hj => ?_)⟩
    · simp [World.cell?, e0]
    · simp [World.cell?, e0]
    · simp [World.cell?, e0]
    · simp [World.cell?, e1]
    · simp [World.cell?, e1]
    · simp [World.cell?, e1]
    · have jl := hO.lt hj
      exact (h j (by omega) (fun e => by obtain ⟨cur, hc⟩ := row_block hO hj; rw [e, hb] at hc; cases hc)).trans (bk j jl)
  have AW : Aside (AccF W s.ba q) := hA.kept (bk _ hA.lt)
  have HOW : Aside (Onl (fun _ => False) w W) := by show Onl _ _ _; rw [hW]; exact ((Onl.refl _ w).alloc _).alloc _
  have HS : Aside (Calls Try.prog 107 #[.agg #[.int .i64 (t : Int), .int .i64 0, .int .i64 (pr : Int)]] W fun e w' => e = .returned (.tuple #[.int .i64 (goodOf 0 : Nat), .int .i64 (stakeOf ⟨t, 0, pr⟩)]) ∧ Below W.heap.size W w') := stake_any ⟨t, 0, pr⟩ W
  have hqt := hq t (by omega)
  unfold reqV
  clear hX hM hA hO hq bk
  go_enter Try.func119, Try.ntmps119
  go_wp2_with fail
  rw [← hW]
  clear hW
  refine Calls.mono (f := 107) HS.out ?_
  rintro e w1 ⟨rfl, B1⟩
  obtain ⟨x1, M1, r1, r3, r4, o0, o1, o2, OR1⟩ := F.out w1 (fun j hj _ => B1.block j hj)
  have A1 : Aside (AccF w1 s.ba q) := AW.out.kept (B1.block _ AW.out.lt)
  have HO1 : Aside (Onl (fun _ => False) w w1) := HOW.out.below B1
  have BB1 : Aside (Below W.heap.size W w1) := B1
  have hsz1 : W.heap.size ≤ w1.heap.size := B1.size
  have HM1 : Aside (MkAt w1 m s) := M1
  have HOR1 : Aside (ORow w1 s.ov os) := OR1
  clear HS B1 M1 OR1
  rcases hc with hc | hc
  · have p1 : (pr : Int) < 1 := by omega
    go_wp2
    go_ret2
    exact ⟨rfl, HO1.out.toBelow⟩
  · have p1 : decide ((pr : Int) < 1) = false := decide_eq_false (by omega)
    have p2 : (1000 : Int) ≤ (pr : Int) := by omega
    go_wp2
    go_ret2
    exact ⟨rfl, HO1.out.toBelow⟩

set_option maxHeartbeats 2000000 in
set_option maxRecDepth 100000 in
theorem give_5_1 (w : World) (m X k t a pr : Nat) (s : MkS) (q : Nat → A4) (os : List Ex.Ord) (hX : BoxM w X m) (hM : MkAt w m s) (hA : AccF w s.ba q) (hO : ORow w s.ov os) (hq : Tame q) (ht : t < 20) (_hl : os.length ≤ 1000) (hpr : pr < 65536) (hc : pr < 1 ∨ 1000 ≤ pr) :
    Calls Try.prog 119 #[reqV k t a 1 pr, .pointer (some ⟨X, 0, none⟩)] w fun e w' => e = .returned (.tuple #[.int .u8 5, .slice none 0 0]) ∧ Below w.heap.size w w' := by
  have mixed : Try.prog.follows .mixedOrders = true := by kernel_rfl
  obtain ⟨W, hW⟩ : ∃ W, W = (w.alloc (.cells #[.int .i64 (k : Int), .int .i64 (t : Int), .int .u64 (a : Int), .int .i64 1, .int .i64 (pr : Int)] 157)).alloc (.cells #[.int .i64 (t : Int), .int .i64 1, .int .i64 (pr : Int)] 171) := ⟨_, rfl⟩
  have hsz : W.heap.size = w.heap.size + 1 + 1 := by rw [hW]; simp
  have bk : ∀ j, j < w.heap.size → W.heap[j]? = w.heap[j]? := fun j hj => by rw [hW]; exact (Below.heap_alloc _ _ j (by simp; omega)).trans (Below.heap_alloc w _ j hj)
  have F : Aside (∀ w1 : World, (∀ j, j < W.heap.size → j ≠ s.ba → w1.heap[j]? = W.heap[j]?) → w1.cell? ⟨X, 0, none⟩ = some (.pointer (some ⟨m, 0, none⟩)) ∧ MkAt w1 m s ∧ w1.cell? ⟨w.heap.size, 1, none⟩ = some (.int .i64 (t : Int)) ∧ w1.cell? ⟨w.heap.size, 3, none⟩ = some (.int .i64 1) ∧ w1.cell? ⟨w.heap.size, 4, none⟩ = some (.int .i64 (pr : Int)) ∧ w1.cell? ⟨w.heap.size + 1, 0, none⟩ = some (.int .i64 (t : Int)) ∧ w1.cell? ⟨w.heap.size + 1, 1, none⟩ = some (.int .i64 1) ∧ w1.cell? ⟨w.heap.size + 1, 2, none⟩ = some (.int .i64 (pr : Int)) ∧ ORow w1 s.ov os) := fun w1 h => by
    obtain ⟨es, ec, hb⟩ := hA.block
    have nX : X ≠ s.ba := fun e => by rw [← e] at hb; have := hX; unfold BoxM at this; rw [this] at hb; cases hb
    have nM : m ≠ s.ba := fun e => by rw [← e] at hb; have := hM; unfold MkAt at this; rw [this] at hb; cases hb
    have al := hA.lt
    have b0 : W.heap[w.heap.size]? = some (.cells #[.int .i64 (k : Int), .int .i64 (t : Int), .int .u64 (a : Int), .int .i64 1, .int .i64 (pr : Int)] 157) := by rw [hW]; exact (Below.heap_alloc _ _ _ (by simp)).trans (heap_alloc_new w _)
    have b1 : W.heap[w.heap.size + 1]? = some (.cells #[.int .i64 (t : Int), .int .i64 1, .int .i64 (pr : Int)] 171) := by rw [hW]; exact next_new w _ _
    have e0 := (h w.heap.size (by omega) (by omega)).trans b0
    have e1 := (h (w.heap.size + 1) (by omega) (by omega)).trans b1
    have M1 : MkAt w1 m s := hM.kept ((h m (by have := hM.lt; omega) nM).trans (bk m hM.lt))
    refine ⟨(hX.kept ((h X (by have := hX.lt; omega) nX).trans (bk X hX.lt))).cell, M1, ?_, ?_, ?_, ?_, ?_, ?_, hO.kept (fun j hj => ?_)⟩
    · simp [World.cell?, e0]
    · simp [World.cell?, e0]
    · simp [World.cell?, e0]
    · simp [World.cell?, e1]
    · simp [World.cell?, e1]
    · simp [World.cell?, e1]
    · have jl := hO.lt hj
      exact (h j (by omega) (fun e => by obtain ⟨cur, hc⟩ := row_block hO hj; rw [e, hb] at hc; cases hc)).trans (bk j jl)
  have AW : Aside (AccF W s.ba q) := hA.kept (bk _ hA.lt)
  have HOW : Aside (Onl (fun _ => False) w W) := by show Onl _ _ _; rw [hW]; exact ((Onl.refl _ w).alloc _).alloc _
  have HS : Aside (Calls Try.prog 107 #[.agg #[.int .i64 (t : Int), .int .i64 1, .int .i64 (pr : Int)]] W fun e w' => e = .returned (.tuple #[.int .i64 (goodOf 1 : Nat), .int .i64 (stakeOf ⟨t, 1, pr⟩)]) ∧ Below W.heap.size W w') := stake_any ⟨t, 1, pr⟩ W
  have hqt := hq t (by omega)
  unfold reqV
  clear hX hM hA hO hq bk
  go_enter Try.func119, Try.ntmps119
  go_wp2_with fail
  rw [← hW]
  clear hW
  refine Calls.mono (f := 107) HS.out ?_
  rintro e w1 ⟨rfl, B1⟩
  obtain ⟨x1, M1, r1, r3, r4, o0, o1, o2, OR1⟩ := F.out w1 (fun j hj _ => B1.block j hj)
  have A1 : Aside (AccF w1 s.ba q) := AW.out.kept (B1.block _ AW.out.lt)
  have HO1 : Aside (Onl (fun _ => False) w w1) := HOW.out.below B1
  have BB1 : Aside (Below W.heap.size W w1) := B1
  have hsz1 : W.heap.size ≤ w1.heap.size := B1.size
  have HM1 : Aside (MkAt w1 m s) := M1
  have HOR1 : Aside (ORow w1 s.ov os) := OR1
  clear HS B1 M1 OR1
  rcases hc with hc | hc
  · have p1 : (pr : Int) < 1 := by omega
    go_wp2
    go_ret2
    exact ⟨rfl, HO1.out.toBelow⟩
  · have p1 : decide ((pr : Int) < 1) = false := decide_eq_false (by omega)
    have p2 : (1000 : Int) ≤ (pr : Int) := by omega
    go_wp2
    go_ret2
    exact ⟨rfl, HO1.out.toBelow⟩

end Go.Proofs.Ytjfifaooimgbaaa
/- An order is given: one stands. -/
namespace Go.Proofs.Ytjfifaooimgbaaa
open Go.Shelf Go.RowKit Go.Lib Go.Sort

set_option maxHeartbeats 2000000 in
set_option maxRecDepth 100000 in
theorem give_6_0 (w : World) (m X k t a pr : Nat) (s : MkS) (q : Nat → A4) (os : List Ex.Ord) (hX : BoxM w X m) (hM : MkAt w m s) (hA : AccF w s.ba q) (hO : ORow w s.ov os) (hq : Tame q) (ht : t < 20) (hl : os.length ≤ 1000) (hpr : pr < 65536) (hp : 1 ≤ pr ∧ pr < 1000) (hc : 0 ≤ placeX os t) :
    Calls Try.prog 119 #[reqV k t a 0 pr, .pointer (some ⟨X, 0, none⟩)] w fun e w' => e = .returned (.tuple #[.int .u8 6, .slice none 0 0]) ∧ Below w.heap.size w w' := by
  have mixed : Try.prog.follows .mixedOrders = true := by kernel_rfl
  obtain ⟨W, hW⟩ : ∃ W, W = (w.alloc (.cells #[.int .i64 (k : Int), .int .i64 (t : Int), .int .u64 (a : Int), .int .i64 0, .int .i64 (pr : Int)] 157)).alloc (.cells #[.int .i64 (t : Int), .int .i64 0, .int .i64 (pr : Int)] 171) := ⟨_, rfl⟩
  have hsz : W.heap.size = w.heap.size + 1 + 1 := by rw [hW]; simp
  have bk : ∀ j, j < w.heap.size → W.heap[j]? = w.heap[j]? := fun j hj => by rw [hW]; exact (Below.heap_alloc _ _ j (by simp; omega)).trans (Below.heap_alloc w _ j hj)
  have F : Aside (∀ w1 : World, (∀ j, j < W.heap.size → j ≠ s.ba → w1.heap[j]? = W.heap[j]?) → w1.cell? ⟨X, 0, none⟩ = some (.pointer (some ⟨m, 0, none⟩)) ∧ MkAt w1 m s ∧ w1.cell? ⟨w.heap.size, 1, none⟩ = some (.int .i64 (t : Int)) ∧ w1.cell? ⟨w.heap.size, 3, none⟩ = some (.int .i64 0) ∧ w1.cell? ⟨w.heap.size, 4, none⟩ = some (.int .i64 (pr : Int)) ∧ w1.cell? ⟨w.heap.size + 1, 0, none⟩ = some (.int .i64 (t : Int)) ∧ w1.cell? ⟨w.heap.size + 1, 1, none⟩ = some (.int .i64 0) ∧ w1.cell? ⟨w.heap.size + 1, 2, none⟩ = some (.int .i64 (pr : Int)) ∧ ORow w1 s.ov os) := fun w1 h => by
    obtain ⟨es, ec, hb⟩ := hA.block
    have nX : X ≠ s.ba := fun e => by rw [← e] at hb; have := hX; unfold BoxM at this; rw [this] at hb; cases hb
    have nM : m ≠ s.ba := fun e => by rw [← e] at hb; have := hM; unfold MkAt at this; rw [this] at hb; cases hb
    have al := hA.lt
    have b0 : W.heap[w.heap.size]? = some (.cells #[.int .i64 (k : Int), .int .i64 (t : Int), .int .u64 (a : Int), .int .i64 0, .int .i64 (pr : Int)] 157) := by rw [hW]; exact (Below.heap_alloc _ _ _ (by simp)).trans (heap_alloc_new w _)
    have b1 : W.heap[w.heap.size + 1]? = some (.cells #[.int .i64 (t : Int), .int .i64 0, .int .i64 (pr : Int)] 171) := by rw [hW]; exact next_new w _ _
    have e0 := (h w.heap.size (by omega) (by omega)).trans b0
    have e1 := (h (w.heap.size + 1) (by omega) (by omega)).trans b1
    have M1 : MkAt w1 m s := hM.kept ((h m (by have := hM.lt; omega) nM).trans (bk m hM.lt))
    refine ⟨(hX.kept ((h X (by have := hX.lt; omega) nX).trans (bk X hX.lt))).cell, M1, ?_, ?_, ?_, ?_, ?_, ?_, hO.kept (fun j hj => ?_)⟩
    · simp [World.cell?, e0]
    · simp [World.cell?, e0]
    · simp [World.cell?, e0]
    · simp [World.cell?, e1]
    · simp [World.cell?, e1]
    · simp [World.cell?, e1]
    · have jl := hO.lt hj
      exact (h j (by omega) (fun e => by obtain ⟨cur, hc⟩ := row_block hO hj; rw [e, hb] at hc; cases hc)).trans (bk j jl)
  have AW : Aside (AccF W s.ba q) := hA.kept (bk _ hA.lt)
  have HOW : Aside (Onl (fun _ => False) w W) := by show Onl _ _ _; rw [hW]; exact ((Onl.refl _ w).alloc _).alloc _
  have HS : Aside (Calls Try.prog 107 #[.agg #[.int .i64 (t : Int), .int .i64 0, .int .i64 (pr : Int)]] W fun e w' => e = .returned (.tuple #[.int .i64 0, .int .i64 (pr : Int)]) ∧ Below W.heap.size W w') := stake_any ⟨t, 0, pr⟩ W
  have hqt := hq t (by omega)
  unfold reqV
  have p1 : decide ((pr : Int) < 1) = false := decide_eq_false (by omega)
  have p2 : decide ((1000 : Int) ≤ (pr : Int)) = false := decide_eq_false (by omega)
  clear hX hM hA hO hq bk
  go_enter Try.func119, Try.ntmps119
  go_wp2_with fail
  rw [← hW]
  clear hW
  refine Calls.mono (f := 107) HS.out ?_
  rintro e w1 ⟨rfl, B1⟩
  obtain ⟨x1, M1, r1, r3, r4, o0, o1, o2, OR1⟩ := F.out w1 (fun j hj _ => B1.block j hj)
  have A1 : Aside (AccF w1 s.ba q) := AW.out.kept (B1.block _ AW.out.lt)
  have HO1 : Aside (Onl (fun _ => False) w w1) := HOW.out.below B1
  have BB1 : Aside (Below W.heap.size W w1) := B1
  have hsz1 : W.heap.size ≤ w1.heap.size := B1.size
  have HM1 : Aside (MkAt w1 m s) := M1
  have HOR1 : Aside (ORow w1 s.ov os) := OR1
  clear HS B1 M1 OR1
  have m4 := HM1.out.all.c4
  have m5 := HM1.out.all.c5
  have m6 := HM1.out.all.c6
  have HPL : Aside _ := place_any os s.ov s.num s.fin t w1.drew (HOR1.out.kept (fun _ _ => rfl)) hl
  go_wp2_with fail
  go_still_tail 6, mixed
  go_wp2_with fail
  refine Calls.mono (f := 120) HPL.out ?_
  rintro e w2 ⟨rfl, B2⟩
  have B12 : Below W.heap.size W w2 := BB1.out.trans ⟨B2.os, B2.tape, B2.output, B2.size, fun j hj => B2.block j (by show j < w1.heap.size; omega)⟩
  clear x1 r1 r3 r4 o0 o1 o2 m4 m5 m6 A1 HO1 HM1 HOR1 HPL BB1
  obtain ⟨x1, M2, r1, r3, r4, o0, o1, o2, OR2⟩ := F.out w2 (fun j hj _ => B12.block j hj)
  have A2 : Aside (AccF w2 s.ba q) := AW.out.kept (B12.block _ AW.out.lt)
  have HO2 : Aside (Onl (fun _ => False) w w2) := HOW.out.below B12
  have BB2 : Aside (Below W.heap.size W w2) := B12
  have hsz2 : W.heap.size ≤ w2.heap.size := B12.size
  have HM2 : Aside (MkAt w2 m s) := M2
  have HOR2 : Aside (ORow w2 s.ov os) := OR2
  clear B2 B12 M2 OR2
  go_wp2
  go_ret2
  exact ⟨rfl, HO2.out.toBelow⟩

set_option maxHeartbeats 2000000 in
set_option maxRecDepth 100000 in
theorem give_6_1 (w : World) (m X k t a pr : Nat) (s : MkS) (q : Nat → A4) (os : List Ex.Ord) (hX : BoxM w X m) (hM : MkAt w m s) (hA : AccF w s.ba q) (hO : ORow w s.ov os) (hq : Tame q) (ht : t < 20) (hl : os.length ≤ 1000) (hpr : pr < 65536) (hp : 1 ≤ pr ∧ pr < 1000) (hc : 0 ≤ placeX os t) :
    Calls Try.prog 119 #[reqV k t a 1 pr, .pointer (some ⟨X, 0, none⟩)] w fun e w' => e = .returned (.tuple #[.int .u8 6, .slice none 0 0]) ∧ Below w.heap.size w w' := by
  have mixed : Try.prog.follows .mixedOrders = true := by kernel_rfl
  obtain ⟨W, hW⟩ : ∃ W, W = (w.alloc (.cells #[.int .i64 (k : Int), .int .i64 (t : Int), .int .u64 (a : Int), .int .i64 1, .int .i64 (pr : Int)] 157)).alloc (.cells #[.int .i64 (t : Int), .int .i64 1, .int .i64 (pr : Int)] 171) := ⟨_, rfl⟩
  have hsz : W.heap.size = w.heap.size + 1 + 1 := by rw [hW]; simp
  have bk : ∀ j, j < w.heap.size → W.heap[j]? = w.heap[j]? := fun j hj => by rw [hW]; exact (Below.heap_alloc _ _ j (by simp; omega)).trans (Below.heap_alloc w _ j hj)
  have F : Aside (∀ w1 : World, (∀ j, j < W.heap.size → j ≠ s.ba → w1.heap[j]? = W.heap[j]?) → w1.cell? ⟨X, 0, none⟩ = some (.pointer (some ⟨m, 0, none⟩)) ∧ MkAt w1 m s ∧ w1.cell? ⟨w.heap.size, 1, none⟩ = some (.int .i64 (t : Int)) ∧ w1.cell? ⟨w.heap.size, 3, none⟩ = some (.int .i64 1) ∧ w1.cell? ⟨w.heap.size, 4, none⟩ = some (.int .i64 (pr : Int)) ∧ w1.cell? ⟨w.heap.size + 1, 0, none⟩ = some (.int .i64 (t : Int)) ∧ w1.cell? ⟨w.heap.size + 1, 1, none⟩ = some (.int .i64 1) ∧ w1.cell? ⟨w.heap.size + 1, 2, none⟩ = some (.int .i64 (pr : Int)) ∧ ORow w1 s.ov os) := fun w1 h => by
    obtain ⟨es, ec, hb⟩ := hA.block
    have nX : X ≠ s.ba := fun e => by rw [← e] at hb; have := hX; unfold BoxM at this; rw [this] at hb; cases hb
    have nM : m ≠ s.ba := fun e => by rw [← e] at hb; have := hM; unfold MkAt at this; rw [this] at hb; cases hb
    have al := hA.lt
    have b0 : W.heap[w.heap.size]? = some (.cells #[.int .i64 (k : Int), .int .i64 (t : Int), .int .u64 (a : Int), .int .i64 1, .int .i64 (pr : Int)] 157) := by rw [hW]; exact (Below.heap_alloc _ _ _ (by simp)).trans (heap_alloc_new w _)
    have b1 : W.heap[w.heap.size + 1]? = some (.cells #[.int .i64 (t : Int), .int .i64 1, .int .i64 (pr : Int)] 171) := by rw [hW]; exact next_new w _ _
    have e0 := (h w.heap.size (by omega) (by omega)).trans b0
    have e1 := (h (w.heap.size + 1) (by omega) (by omega)).trans b1
    have M1 : MkAt w1 m s := hM.kept ((h m (by have := hM.lt; omega) nM).trans (bk m hM.lt))
    refine ⟨(hX.kept ((h X (by have := hX.lt; omega) nX).trans (bk X hX.lt))).cell, M1, ?_, ?_, ?_, ?_, ?_, ?_, hO.kept (fun j hj => ?_)⟩
    · simp [World.cell?, e0]
    · simp [World.cell?, e0]
    · simp [World.cell?, e0]
    · simp [World.cell?, e1]
    · simp [World.cell?, e1]
    · simp [World.cell?, e1]
    · have jl := hO.lt hj
      exact (h j (by omega) (fun e => by obtain ⟨cur, hc⟩ := row_block hO hj; rw [e, hb] at hc; cases hc)).trans (bk j jl)
  have AW : Aside (AccF W s.ba q) := hA.kept (bk _ hA.lt)
  have HOW : Aside (Onl (fun _ => False) w W) := by show Onl _ _ _; rw [hW]; exact ((Onl.refl _ w).alloc _).alloc _
  have HS : Aside (Calls Try.prog 107 #[.agg #[.int .i64 (t : Int), .int .i64 1, .int .i64 (pr : Int)]] W fun e w' => e = .returned (.tuple #[.int .i64 1, .int .i64 1]) ∧ Below W.heap.size W w') := stake_any ⟨t, 1, pr⟩ W
  have hqt := hq t (by omega)
  unfold reqV
  have p1 : decide ((pr : Int) < 1) = false := decide_eq_false (by omega)
  have p2 : decide ((1000 : Int) ≤ (pr : Int)) = false := decide_eq_false (by omega)
  clear hX hM hA hO hq bk
  go_enter Try.func119, Try.ntmps119
  go_wp2_with fail
  rw [← hW]
  clear hW
  refine Calls.mono (f := 107) HS.out ?_
  rintro e w1 ⟨rfl, B1⟩
  obtain ⟨x1, M1, r1, r3, r4, o0, o1, o2, OR1⟩ := F.out w1 (fun j hj _ => B1.block j hj)
  have A1 : Aside (AccF w1 s.ba q) := AW.out.kept (B1.block _ AW.out.lt)
  have HO1 : Aside (Onl (fun _ => False) w w1) := HOW.out.below B1
  have BB1 : Aside (Below W.heap.size W w1) := B1
  have hsz1 : W.heap.size ≤ w1.heap.size := B1.size
  have HM1 : Aside (MkAt w1 m s) := M1
  have HOR1 : Aside (ORow w1 s.ov os) := OR1
  clear HS B1 M1 OR1
  have m4 := HM1.out.all.c4
  have m5 := HM1.out.all.c5
  have m6 := HM1.out.all.c6
  have HPL : Aside _ := place_any os s.ov s.num s.fin t w1.drew (HOR1.out.kept (fun _ _ => rfl)) hl
  go_wp2_with fail
  go_still_tail 6, mixed
  go_wp2_with fail
  refine Calls.mono (f := 120) HPL.out ?_
  rintro e w2 ⟨rfl, B2⟩
  have B12 : Below W.heap.size W w2 := BB1.out.trans ⟨B2.os, B2.tape, B2.output, B2.size, fun j hj => B2.block j (by show j < w1.heap.size; omega)⟩
  clear x1 r1 r3 r4 o0 o1 o2 m4 m5 m6 A1 HO1 HM1 HOR1 HPL BB1
  obtain ⟨x1, M2, r1, r3, r4, o0, o1, o2, OR2⟩ := F.out w2 (fun j hj _ => B12.block j hj)
  have A2 : Aside (AccF w2 s.ba q) := AW.out.kept (B12.block _ AW.out.lt)
  have HO2 : Aside (Onl (fun _ => False) w w2) := HOW.out.below B12
  have BB2 : Aside (Below W.heap.size W w2) := B12
  have hsz2 : W.heap.size ≤ w2.heap.size := B12.size
  have HM2 : Aside (MkAt w2 m s) := M2
  have HOR2 : Aside (ORow w2 s.ov os) := OR2
  clear B2 B12 M2 OR2
  go_wp2
  go_ret2
  exact ⟨rfl, HO2.out.toBelow⟩

end Go.Proofs.Ytjfifaooimgbaaa
