import Derived.Test.YteeplklhbhaicaaRz
import Derived.Test.YteeplklhbhaicaaOp
import Derived.Test.YteeplklhbhaicaaRza
import Derived.Test.YteeplklhbhaicaaRzb
import Derived.Test.YteeplklhbhaicaaRzc
import Derived.Test.YteeplklhbhaicaaRzd
import Derived.Test.YteeplklhbhaicaaXc
import Derived.Test.YteeplklhbhaicaaKeep
/- The document's exchange: Open of an empty journal; a nil exchange. -/
namespace Go.Proofs.Yteeplklhbhaicaa
open Go.Shelf Go.RowKit Go.Lib Go.Sort

set_option maxHeartbeats 1000000 in
set_option maxRecDepth 100000 in
theorem doR_nil (w : World) (now : Int) (r : List UInt8) : Calls Try.prog 47 #[.pointer none, .int .i64 now, .string ⟨r.toArray⟩] w fun e w' => e = .returned (.tuple #[.string ⟨#[]⟩, .int .i64 1]) ∧ w' = w := by
  go_enter Try.func47, Try.ntmps47
  go_wp2
  go_ret2
  exact ⟨rfl, rfl⟩
set_option maxHeartbeats 1000000 in
set_option maxRecDepth 100000 in
theorem journalR_nil (w : World) : Calls Try.prog 40 #[.pointer none] w fun e w' => e = .returned (.tuple #[.string ⟨#[]⟩, .int .i64 1]) ∧ w' = w := by
  go_enter Try.func40, Try.ntmps40
  go_wp2
  go_ret2
  exact ⟨rfl, rfl⟩
/-- the cells of an exchange of which nothing is said. -/
def zc (j : Nat) : Value := if j = 2 then .string ⟨#[]⟩ else if j = 87 ∨ j = 93 then .slice none 0 0 else if j = 94 then .int .u64 0 else if j < 115 then .int .i64 0 else .bool false
set_option maxRecDepth 100000 in
theorem zc_at (j : Nat) (hj : j < 135) : Try.zeroCells91[j]? = some (zc j) := by
  have key : (List.range 135).map (fun j => Try.zeroCells91[j]?) = (List.range 135).map (fun j => some (zc j)) := by kernel_rfl
  have := congrArg (fun l => l[j]?) key
  simp only [List.getElem?_map, List.getElem?_range hj, Option.map_some] at this
  injection this
theorem zc_size : Try.zeroCells91.size = 135 := by kernel_rfl
set_option maxRecDepth 100000 in
theorem cells0_at (period cap : Int) (hk : kL [] = 0) (hs : setL [] = (0, 0, 0)) (j : Nat) (hj : j < 135) : ((((Try.zeroCells91.setIfInBounds 0 (Value.int IntKind.i64 period)).setIfInBounds 1 (Value.int IntKind.i64 cap)).setIfInBounds 4 (Value.int IntKind.i64 1)).setIfInBounds 5 (Value.int IntKind.i64 period))[j]? = some (cellR (Ex.openX period cap) (.slice none 0 0) (.slice none 0 0) j) := by
  have z := zc_at j hj
  have sz := zc_size
  have e : ((((Try.zeroCells91.setIfInBounds 0 (Value.int IntKind.i64 period)).setIfInBounds 1 (Value.int IntKind.i64 cap)).setIfInBounds 4 (Value.int IntKind.i64 1)).setIfInBounds 5 (Value.int IntKind.i64 period))[j]? = some (if j = 5 then .int .i64 period else if j = 4 then .int .i64 1 else if j = 1 then .int .i64 cap else if j = 0 then .int .i64 period else zc j) := by
    simp only [Array.getElem?_setIfInBounds, Array.size_setIfInBounds, sz, z]
    by_cases h5 : j = 5
    · subst h5; simp
    · rw [if_neg (fun q => h5 q.symm), if_neg h5]
      by_cases h4 : j = 4
      · subst h4; simp
      · rw [if_neg (fun q => h4 q.symm), if_neg h4]
        by_cases h1 : j = 1
        · subst h1; simp
        · rw [if_neg (fun q => h1 q.symm), if_neg h1]
          by_cases h0 : j = 0
          · subst h0; simp
          · rw [if_neg (fun q => h0 q.symm), if_neg h0]
  rw [e]
  refine congrArg some ?_
  have ex : j = 0 ∨ j = 1 ∨ j = 2 ∨ j = 3 ∨ j = 4 ∨ j = 5 ∨ (6 ≤ j ∧ j < 86) ∨ j = 86 ∨ j = 87 ∨ j = 88 ∨ j = 89 ∨ j = 90 ∨ j = 91 ∨ j = 92 ∨ j = 93 ∨ j = 94 ∨ (95 ≤ j ∧ j < 115) ∨ 115 ≤ j := by omega
  rcases ex with rfl | rfl | rfl | rfl | rfl | rfl | h | rfl | rfl | rfl | rfl | rfl | rfl | rfl | rfl | rfl | h | h
  · rfl
  · rfl
  · rfl
  · rfl
  · rfl
  · rfl
  · unfold cellR zc
    rw [if_neg (by omega), if_neg (by omega), if_neg (by omega), if_neg (by omega), if_neg (by omega), if_neg (by omega), if_neg (by omega), if_pos (by omega), if_neg (by omega), if_pos h.2]
    show _ = pcell ⟨0, 0, 0, 0⟩ _
    unfold pcell
    dsimp only
    repeat' split
    all_goals rfl
  · rfl
  · rfl
  · rfl
  · show _ = Value.int .i64 ((kL [] : Nat) : Int)
    rw [hk]; rfl
  · show _ = Value.int .i64 (((setL []).1 : Nat) : Int)
    rw [hs]; rfl
  · show _ = Value.int .i64 (setL []).2.1
    rw [hs]; rfl
  · show _ = Value.int .i64 (setL []).2.2
    rw [hs]; rfl
  · rfl
  · rfl
  · unfold cellR zc
    rw [if_neg (by omega), if_neg (by omega), if_neg (by omega), if_neg (by omega), if_neg (by omega), if_neg (by omega), if_neg (by omega), if_pos (by omega), if_neg (by omega), if_neg (by omega), if_neg (by omega), if_pos h.2]
    rfl
  · unfold cellR zc
    rw [if_neg (by omega), if_neg (by omega), if_neg (by omega), if_neg (by omega), if_neg (by omega), if_neg (by omega), if_neg (by omega), if_neg (by omega), if_neg (by omega), if_neg (by omega), if_neg (by omega), if_neg (by omega)]
    rfl
set_option maxHeartbeats 4000000 in
set_option maxRecDepth 100000 in
theorem openR_ok (w : World) (period cap : Int) (h1 : 1 ≤ period) (h2 : period ≤ 1125899906842624) (h3 : 1 ≤ cap) (h4 : cap ≤ 20) :
    Calls Try.prog 45 #[.agg #[.int .i64 period, .int .i64 cap], .string ⟨#[]⟩] w fun e w' => ∃ p, e = .returned (.tuple #[.pointer (some ⟨p, 0, none⟩), .int .i64 0]) ∧ RefAt w' p (Ex.openX period cap) (.slice none 0 0) (.slice none 0 0) ∧ w.heap.size ≤ p ∧ Below w.heap.size w w' := by
  have mixed : Try.prog.follows .mixedOrders = true := by kernel_rfl
  have z1 : ¬ period < 1 := by omega
  have z2 : ¬ 1125899906842624 < period := by omega
  have z3 : ¬ cap < 1 := by omega
  have z4 : ¬ 20 < cap := by omega
  go_enter Try.func45, Try.ntmps45
  go_wp2_with fail
  obtain ⟨W, hW⟩ : ∃ W, W = (w.alloc (Obj.cells #[Value.int IntKind.i64 period, Value.int IntKind.i64 cap] 68)).alloc (Obj.cells ((((Try.zeroCells91.setIfInBounds 0 (Value.int IntKind.i64 period)).setIfInBounds 1 (Value.int IntKind.i64 cap)).setIfInBounds 4 (Value.int IntKind.i64 1)).setIfInBounds 5 (Value.int IntKind.i64 period)) 91) := ⟨_, rfl⟩
  have FW : Aside (RefAt W (w.heap.size + 1) (Ex.openX period cap) (.slice none 0 0) (.slice none 0 0)) := by
    have hk : kL [] = 0 := by
      have h1 := (kL_le []).1
      have h2 : (buyersOf []).length = 0 := by unfold buyersOf; rw [List.length_mergeSort]; rfl
      omega
    have hs : setL [] = (0, 0, 0) := by
      rcases set_cases [] with ⟨a1, a2, a3, _⟩ | h
      · exact Prod.ext a1 (Prod.ext a2 a3)
      · exfalso
        rcases h with h | h <;> omega
    rw [hW]
    exact ⟨_, by rw [show w.heap.size + 1 = (w.alloc (Obj.cells #[Value.int IntKind.i64 period, Value.int IntKind.i64 cap] 68)).heap.size from (Array.size_push _).symm]; exact Array.getElem?_push_size, by simp, cells0_at period cap hk hs⟩
  have BW : Aside (Below w.heap.size w W) := by rw [hW]; exact blw_al (blw_al (Below.refl _ w) _) _
  rw [← hW]
  have y2 : W.cell? ⟨w.heap.size + 1, 2, none⟩ = some (.string ⟨#[]⟩) := FW.out.head 2 (by decide)
  clear hW
  go_loopg [6] 1 (fun kx s wq => s = .pointer (some ⟨w.heap.size + 1, 0, none⟩) ∧ wq = W)
  case atStart => exact ⟨rfl, rfl⟩
  case round =>
    obtain ⟨rfl, rfl⟩ := hrel
    go_wp2
    go_ret2
    exact ⟨_, rfl, FW.out, by omega, BW.out⟩
#print axioms openR_ok
/-- settings that may not be. -/
def BadC (period cap : Int) : Prop := period < 1 ∨ 1125899906842624 < period ∨ cap < 1 ∨ 20 < cap
set_option maxHeartbeats 1000000 in
set_option maxRecDepth 100000 in
theorem openR_bad (w : World) (period cap : Int) (h : BadC period cap) (j : List UInt8) :
    Calls Try.prog 45 #[.agg #[.int .i64 period, .int .i64 cap], .string ⟨j.toArray⟩] w fun e w' => e = .returned (.tuple #[.pointer none, .int .i64 2]) ∧ Below w.heap.size w w' := by
  have mixed : Try.prog.follows .mixedOrders = true := by kernel_rfl
  have BW : Aside (Below w.heap.size w (w.alloc (Obj.cells #[Value.int IntKind.i64 period, Value.int IntKind.i64 cap] 68))) := blw_al (Below.refl _ w) _
  by_cases z1 : period < 1
  · go_enter Try.func45, Try.ntmps45
    go_wp2
    go_ret2
    exact ⟨rfl, BW.out⟩
  · by_cases z2 : 1125899906842624 < period
    · go_enter Try.func45, Try.ntmps45
      go_wp2
      go_ret2
      exact ⟨rfl, BW.out⟩
    · by_cases z3 : cap < 1
      · go_enter Try.func45, Try.ntmps45
        go_wp2
        go_ret2
        exact ⟨rfl, BW.out⟩
      · have z4 : 20 < cap := by unfold BadC at h; omega
        go_enter Try.func45, Try.ntmps45
        go_wp2
        go_ret2
        exact ⟨rfl, BW.out⟩
/- the same of the program -/
set_option maxHeartbeats 1000000 in
set_option maxRecDepth 100000 in
theorem openX_bad (w : World) (period cap : Int) (h : BadC period cap) (j : List UInt8) :
    Calls Try.prog 41 #[.agg #[.int .i64 period, .int .i64 cap], .string ⟨j.toArray⟩] w fun e w' => e = .returned (.tuple #[.pointer none, .int .i64 2]) ∧ Below w.heap.size w w' := by
  have mixed : Try.prog.follows .mixedOrders = true := by kernel_rfl
  have BW : Aside (Below w.heap.size w (w.alloc (Obj.cells #[Value.int IntKind.i64 period, Value.int IntKind.i64 cap] 68))) := blw_al (Below.refl _ w) _
  by_cases z1 : period < 1
  · go_enter Try.func41, Try.ntmps41
    go_wp2
    go_ret2
    exact ⟨rfl, BW.out⟩
  · by_cases z2 : 1125899906842624 < period
    · go_enter Try.func41, Try.ntmps41
      go_wp2
      go_ret2
      exact ⟨rfl, BW.out⟩
    · by_cases z3 : cap < 1
      · go_enter Try.func41, Try.ntmps41
        go_wp2
        go_ret2
        exact ⟨rfl, BW.out⟩
      · have z4 : 20 < cap := by unfold BadC at h; omega
        go_enter Try.func41, Try.ntmps41
        go_wp2
        go_ret2
        exact ⟨rfl, BW.out⟩
set_option maxHeartbeats 1000000 in
set_option maxRecDepth 100000 in
theorem doX_nil (w : World) (now : Int) (r : List UInt8) : Calls Try.prog 43 #[.pointer none, .int .i64 now, .string ⟨r.toArray⟩] w fun e w' => e = .returned (.tuple #[.string ⟨#[]⟩, .int .i64 1]) ∧ w' = w := by
  go_enter Try.func43, Try.ntmps43
  go_wp2
  go_ret2
  exact ⟨rfl, rfl⟩
set_option maxHeartbeats 1000000 in
set_option maxRecDepth 100000 in
theorem journalX_nil (w : World) : Calls Try.prog 46 #[.pointer none] w fun e w' => e = .returned (.tuple #[.string ⟨#[]⟩, .int .i64 1]) ∧ w' = w := by
  go_enter Try.func46, Try.ntmps46
  go_wp2
  go_ret2
  exact ⟨rfl, rfl⟩
end Go.Proofs.Yteeplklhbhaicaa
/- The program's journal. -/
namespace Go.Proofs.Yteeplklhbhaicaa
open Go.Shelf Go.RowKit Go.Lib Go.Sort

set_option maxHeartbeats 1000000 in
set_option maxRecDepth 100000 in
theorem journalM_any (w : World) (m : Nat) (s : MkS) (x : Ex.Xch) (hK : Mkt w m s x) : Calls Try.prog 62 #[.pointer (some ⟨m, 0, none⟩)] w fun e w' => e = .returned (.string ⟨x.jr.toArray⟩) ∧ w' = w := by
  have c13 := hK.at_.all.c13
  have hj := hK.jrn
  clear hK
  rcases hj.2 with ⟨e, h2⟩ | ⟨g, cap, cur, e, a1, a2, a3, a4⟩
  · have ej : x.jr = [] := List.eq_nil_of_length_eq_zero h2
    rw [e] at c13
    rw [ej]
    have hcv : (convert 95 9 (.slice none 0 0)).run Try.prog w = .ok (.string ⟨#[]⟩) w := by
      rw [run_convert_bytes_string (P := Try.prog) w 95 9 5 none 0 0 Try.underlying95 Try.underlying5 Try.underlying9]
      rfl
    clear hj e h2 ej
    go_enter Try.func62, Try.ntmps62
    go_wp2
    go_ret
    exact ⟨rfl, rfl⟩
  · rw [e] at c13 hj
    have hcv := run_convert_bytes_back (P := Try.prog) w 95 9 5 ⟨g, 0, none⟩ cap x.jr Try.underlying95 Try.underlying5 Try.underlying9 (fun j hj' => by
      have := World.ownsRow.cells hj (g := g) rfl j (.int .u8 (x.jr[j]).toNat) (by unfold bcs; rw [List.getElem?_map, List.getElem?_eq_getElem hj']; rfl)
      exact this)
    clear hj e a1 a2 a3 a4
    go_enter Try.func62, Try.ntmps62
    go_wp2
    go_ret
    exact ⟨rfl, rfl⟩

set_option maxHeartbeats 1000000 in
set_option maxRecDepth 100000 in
theorem journalX_any (w : World) (S : Nat → Prop) (p : Nat) (x : Ex.Xch) (hR : RepX w S p x) : Calls Try.prog 46 #[.pointer (some ⟨p, 0, none⟩)] w fun e w' => e = .returned (.tuple #[.string ⟨x.jr.toArray⟩, .int .i64 0]) ∧ w' = w := by
  obtain ⟨m, s, bx, gx, hp, hK, _, _, _, _⟩ := hR
  have HM : Aside _ := journalM_any w m s x hK
  have c0 : w.cell? ⟨p, 0, none⟩ = some (.pointer (some ⟨m, 0, none⟩)) := by simp [World.cell?, hp]
  clear hp hK
  go_enter Try.func46, Try.ntmps46
  go_wp2_with fail
  refine Calls.mono (f := 62) HM.out ?_
  rintro e w1 ⟨rfl, hw1⟩
  rw [hw1]
  clear hw1
  go_wp2
  go_ret2
  exact ⟨rfl, rfl⟩
#print axioms journalX_any
end Go.Proofs.Yteeplklhbhaicaa
/- Two exchanges, the program's and the document's, in the same state. -/
namespace Go.Proofs.Yteeplklhbhaicaa
open Go.Shelf Go.RowKit Go.Lib Go.Sort

theorem doR_walk (w : World) (p : Nat) (x : Ex.Xch) (ov fv : Value) (h : RefAt w p x ov fv) (hO : LRow w ov x.ords) (ok : Ex.Ok x) (hl0 : x.last = 0 → x.lastL = []) (now : Int) (hn : -9223372036854775808 ≤ now ∧ now ≤ 9223372036854775807) (hj : x.jr.length ≤ 1099511627776) (hb : x.batch ≤ 1099511627777) (r : List UInt8) :
    Calls Try.prog 47 #[.pointer (some ⟨p, 0, none⟩), .int .i64 now, .string ⟨r.toArray⟩] w fun e w' => e = .returned (.tuple #[.string ⟨(Ex.doX x now r).2.toArray⟩, .int .i64 0]) ∧ RSt w p ov w' (Ex.doX x now r).1 := by
  by_cases hcap : 1125899906842624 < now
  · by_cases hlat : x.time < 1125899906842624
    · exact doR_w1 w p x ov fv h hO ok hl0 now hn hj hb hcap hlat r
    · exact doR_w2 w p x ov fv h hO ok hl0 now hn hj hb hcap hlat r
  · by_cases hlat : x.time < now
    · exact doR_w3 w p x ov fv h hO ok hl0 now hn hj hb hcap hlat r
    · exact doR_w4 w p x ov fv h hO ok hl0 now hn hj hb hcap hlat r
theorem do_last (x : Ex.Xch) (ok : Ex.Ok x) (now : Int) (r : List UInt8) (h : x.last = 0 → x.lastL = []) : (Ex.doX x now r).1.last = 0 → (Ex.doX x now r).1.lastL = [] := by
  have hc := cleared_last (Ex.timed x now) (Ex.timed_ok ok now) h
  have ha := answer_last (Ex.cleared (Ex.timed x now)) r
  have hw : ∀ (y : Ex.Xch) (s : List UInt8), (Ex.written y r s).last = y.last ∧ (Ex.written y r s).lastL = y.lastL := fun y s => by
    unfold Ex.written
    split
    · exact ⟨rfl, rfl⟩
    · exact ⟨rfl, rfl⟩
  show (Ex.written (Ex.answerX (Ex.cleared (Ex.timed x now)) r).1 r _).last = 0 → (Ex.written (Ex.answerX (Ex.cleared (Ex.timed x now)) r).1 r _).lastL = []
  rw [(hw _ _).1, (hw _ _).2, ha.1, ha.2.1]
  exact hc
theorem repR_do (w : World) (S : Nat → Prop) (p : Nat) (x : Ex.Xch) (now : Int) (r : List UInt8) (h : RepR w S p x) (ok : Ex.Ok x) (hn : -9223372036854775808 ≤ now ∧ now ≤ 9223372036854775807) (hj : x.jr.length ≤ 1099511627776) (hb : x.batch ≤ x.jr.length + 1) :
    Calls Try.prog 47 #[.pointer (some ⟨p, 0, none⟩), .int .i64 now, .string ⟨r.toArray⟩] w fun e w' => ∃ S', e = .returned (.tuple #[.string ⟨(Ex.doX x now r).2.toArray⟩, .int .i64 0]) ∧ RepR w' S' p (Ex.doX x now r).1 ∧ (∀ k, S' k → S k ∨ w.heap.size ≤ k) ∧ Onl S w w' := by
  obtain ⟨ov, fv, h1, h2, h3, rfl⟩ := h
  refine (doR_walk w p x ov fv h1 h2 ok h3 now hn hj (by omega) r).mono ?_
  rintro e w' ⟨rfl, ov', fv', g1, g2, g3, g4⟩
  refine ⟨fun k => k = p ∨ ov'.ownBlock = some k, rfl, ⟨ov', fv', g1, g2, do_last x ok now r h3, rfl⟩, ?_, g4⟩
  rintro k (rfl | hk)
  · exact Or.inl (Or.inl rfl)
  · rcases g3 k hk with q | q
    · exact Or.inl (Or.inr q)
    · exact Or.inr q

/-- the program's exchange at p, the document's at q, both in the state x; they have the blocks S. -/
def Twin (w : World) (S : Nat → Prop) (p q : Nat) (x : Ex.Xch) : Prop :=
  ∃ S1 S2, RepX w S1 p x ∧ RepR w S2 q x ∧ (∀ k, S1 k → ¬ S2 k) ∧ (∀ k, S k ↔ S1 k ∨ S2 k) ∧ Ex.Ok x ∧ x.batch ≤ x.jr.length + 1
theorem Twin.low {w : World} {S : Nat → Prop} {p q : Nat} {x : Ex.Xch} (h : Twin w S p q x) : ∀ k, S k → k < w.heap.size := by
  obtain ⟨S1, S2, h1, h2, h3, h4, h5, h6⟩ := h
  intro k hk
  rcases (h4 k).1 hk with e | e
  · exact rep_low h1 k e
  · exact repR_low h2 k e
theorem Twin.keep {w w' : World} {S : Nat → Prop} {p q : Nat} {x : Ex.Xch} (h : Twin w S p q x) (e : ∀ k, S k → w'.heap[k]? = w.heap[k]?) : Twin w' S p q x := by
  obtain ⟨S1, S2, h1, h2, h3, h4, h5, h6⟩ := h
  exact ⟨S1, S2, rep_keep h1 (fun k hk => e k ((h4 k).2 (Or.inl hk))), repR_keep h2 (fun k hk => e k ((h4 k).2 (Or.inr hk))), h3, h4, h5, h6⟩
end Go.Proofs.Yteeplklhbhaicaa
/- The walks of sameB, sameO, pick. -/
namespace Go.Proofs.Yteeplklhbhaicaa
open Go.Shelf Go.RowKit Go.Lib Go.Sort

/-- a list of yes and no lies there. -/
def BsAt (w : World) (a : Option Addr) (fl : List Bool) : Prop := ∀ i, i < fl.length → ∃ g, a = some ⟨g, 0, none⟩ ∧ g < w.heap.size ∧ w.cell? ⟨g, i, none⟩ = some (.bool (fl.getD i false))

theorem BsAt.up {w w' : World} {a : Option Addr} {fl : List Bool} (h : BsAt w a fl) (b : Below w.heap.size w w') : BsAt w' a fl := fun i hi => by
  obtain ⟨g, e, hg, hc⟩ := h i hi
  exact ⟨g, e, Nat.lt_of_lt_of_le hg b.size, (b.cell (p := ⟨g, i, none⟩) hg).trans hc⟩

set_option maxHeartbeats 400000 in
set_option maxRecDepth 100000 in
theorem sameB_true (fl : List Bool) (a1 a2 : Option Addr) (c1 c2 : Nat) (w : World) (h1 : BsAt w a1 fl) (h2 : BsAt w a2 fl) (hl : fl.length ≤ 17592186044416) :
    Calls Try.prog 37 #[.slice a1 fl.length c1, .slice a2 fl.length c2] w fun e w' => e = .returned (.bool true) ∧ ∃ n, w' = w.drewN n := by
  have mixed : Try.prog.follows .mixedOrders = true := by kernel_rfl
  have H1 : Aside (BsAt w a1 fl) := h1
  have H2 : Aside (BsAt w a2 fl) := h2
  clear h1 h2
  go_enter Try.func37, Try.ntmps37
  go_wp2_with fail
  go_loopg [5] fl.length (fun kx s wq => ∃ i m : Nat, s = .int .i64 i ∧ i ≤ fl.length ∧ fl.length - i ≤ kx ∧ wq = w.drewN m)
  case atStart => exact ⟨0, 0, rfl, Nat.zero_le _, by omega, rfl⟩
  case round =>
    obtain ⟨i, m, rfl, hi, hkx, rfl⟩ := hrel
    have DR : Aside (∀ n, (w.drewN m).drewN n = w.drewN (m + n)) := fun n => World.drewN_drewN ..
    by_cases hlt : i < fl.length
    · have hltz : (i : Int) < (fl.length : Int) := by omega
      obtain ⟨g1, rfl, _, x1⟩ := H1.out i hlt
      obtain ⟨g2, rfl, _, x2⟩ := H2.out i hlt
      generalize fl.getD i false = bb at x1 x2
      have z1 : ∀ n, ((w.drewN m).drewN n).cell? ⟨g1, i, none⟩ = some (.bool bb) := fun n => x1
      have z2 : ∀ n, ((w.drewN m).drewN n).cell? ⟨g2, i, none⟩ = some (.bool bb) := fun n => x2
      clear x1 x2
      generalize hwq : w.drewN m = wq at z1 z2 DR ⊢
      clear hwq
      go_wp2_with fail
      go_quiet (fail)
      go_wp2
      go_roundg (fl.length - (i + 1))
      case measure => omega
      case rel => exact ⟨i + 1, m + nq, by go_num, by omega, Nat.le_refl _, DR.out nq⟩
    · have hltz : ¬ (i : Int) < (fl.length : Int) := by omega
      go_wp2
      go_ret
      exact ⟨rfl, m, rfl⟩

set_option maxHeartbeats 400000 in
theorem pickL_any (c : Int) (n : Nat) (w : World) (hn : 0 < n) (hn2 : n ≤ 9007199254740992) (h1 : -9223372036854775808 ≤ c) (h2 : c ≤ 9223372036854775807) :
    Calls Try.prog 15 #[.int .i64 c, .int .i64 n] w fun e w' => e = .returned (.int .i64 (pickN c n : Nat)) ∧ w' = w := by
  have hz : ((n : Int) == 0) = false := beq_eq_false_iff_ne.2 (by omega)
  have hz' : ¬ (n : Int) = 0 := by omega
  have p1 := Int.emod_nonneg (if c < 0 then -(c + 1) else c) (show (n : Int) ≠ 0 by omega)
  by_cases hc : c < 0
  · have e : ((pickN c n : Nat) : Int) = (-(c + 1)) % (n : Int) := by
      unfold pickN; rw [if_pos hc] at p1 ⊢; omega
    rw [e]
    have hm : (-(c + 1)).tmod (n : Int) = (-(c + 1)) % (n : Int) := Int.tmod_eq_emod_of_nonneg (by omega)
    go_enter Try.func15, Try.ntmps15
    go_wp2
    go_ret
    exact ⟨ret_int rfl, rfl⟩
  · have e : ((pickN c n : Nat) : Int) = c % (n : Int) := by
      unfold pickN; rw [if_neg hc] at p1 ⊢; omega
    rw [e]
    have hm : c.tmod (n : Int) = c % (n : Int) := Int.tmod_eq_emod_of_nonneg (by omega)
    go_enter Try.func15, Try.ntmps15
    go_wp2
    go_ret
    exact ⟨ret_int rfl, rfl⟩

set_option maxHeartbeats 400000 in
set_option maxRecDepth 100000 in
theorem sameO_true (k f p g s : Int) (fl : List Bool) (a1 a2 : Option Addr) (c1 c2 : Nat) (w : World) (h1 : BsAt w a1 fl) (h2 : BsAt w a2 fl) (hl : fl.length ≤ 17592186044416) :
    Calls Try.prog 13 #[.agg #[.int .i64 k, .int .i64 f, .int .i64 p, .int .i64 g, .slice a1 fl.length c1, .int .u64 s], .agg #[.int .i64 k, .int .i64 f, .int .i64 p, .int .i64 g, .slice a2 fl.length c2, .int .u64 s]] w fun e w' => e = .returned (.bool true) ∧ Gr w w' := by
  have mixed : Try.prog.follows .mixedOrders = true := by kernel_rfl
  have H1 : Aside (BsAt w a1 fl) := h1
  have H2 : Aside (BsAt w a2 fl) := h2
  clear h1 h2
  go_enter Try.func13, Try.ntmps13
  go_wp2_with fail
  obtain ⟨W0, hW0⟩ : ∃ W0, W0 = (w.alloc (Obj.cells #[.int .i64 k, .int .i64 f, .int .i64 p, .int .i64 g, .slice a1 fl.length c1, .int .u64 s] 26)).alloc (Obj.cells #[.int .i64 k, .int .i64 f, .int .i64 p, .int .i64 g, .slice a2 fl.length c2, .int .u64 s] 26) := ⟨_, rfl⟩
  have G0 : Aside (Gr w W0) := by rw [hW0]; exact ((Gr.refl w).alloc _).alloc _
  have z : ∀ n, (W0.drewN n).cell? ⟨w.heap.size, 0, none⟩ = some (.int .i64 k) ∧ (W0.drewN n).cell? ⟨w.heap.size, 1, none⟩ = some (.int .i64 f) ∧ (W0.drewN n).cell? ⟨w.heap.size, 2, none⟩ = some (.int .i64 p) ∧ (W0.drewN n).cell? ⟨w.heap.size, 3, none⟩ = some (.int .i64 g) ∧ (W0.drewN n).cell? ⟨w.heap.size, 5, none⟩ = some (.int .u64 s) ∧
      (W0.drewN n).cell? ⟨w.heap.size + 1, 0, none⟩ = some (.int .i64 k) ∧ (W0.drewN n).cell? ⟨w.heap.size + 1, 1, none⟩ = some (.int .i64 f) ∧ (W0.drewN n).cell? ⟨w.heap.size + 1, 2, none⟩ = some (.int .i64 p) ∧ (W0.drewN n).cell? ⟨w.heap.size + 1, 3, none⟩ = some (.int .i64 g) ∧ (W0.drewN n).cell? ⟨w.heap.size + 1, 5, none⟩ = some (.int .u64 s) := fun n => by
    rw [hW0]
    refine ⟨?_, ?_, ?_, ?_, ?_, ?_, ?_, ?_, ?_, ?_⟩ <;> simp
  rw [← hW0]
  clear hW0
  refine (sameB_true fl a1 a2 c1 c2 W0 (BsAt.up H1.out G0.out.below) (BsAt.up H2.out G0.out.below) hl).mono ?_
  rintro e w2 ⟨rfl, n, rfl⟩
  have GF : Aside (Gr w (W0.drewN n)) := G0.out.drewN n
  obtain ⟨y0, y1, y2, y3, y5, x0, x1, x2, x3, x5⟩ := z n
  clear z
  generalize W0.drewN n = W1 at *
  go_wp2
  go_ret
  exact ⟨rfl, GF.out⟩
end Go.Proofs.Yteeplklhbhaicaa
