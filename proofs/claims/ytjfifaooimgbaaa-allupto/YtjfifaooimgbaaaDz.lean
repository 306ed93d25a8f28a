import Derived.Test.YtjfifaooimgbaaaRz
import Derived.Test.YtjfifaooimgbaaaNx
import Derived.Test.YtjfifaooimgbaaaRza
import Derived.Test.YtjfifaooimgbaaaRzb
import Derived.Test.YtjfifaooimgbaaaRzc
import Derived.Test.YtjfifaooimgbaaaRzd
import Derived.Test.YtjfifaooimgbaaaXc
import Derived.Test.YtjfifaooimgbaaaShare
/- The document's exchange: Open of an empty journal; a nil exchange. -/
namespace Go.Proofs.Ytjfifaooimgbaaa
open Go.Shelf Go.RowKit Go.Lib Go.Sort

set_option maxHeartbeats 1000000 in
set_option maxRecDepth 100000 in
theorem doR_nil (w : World) (now : Int) (r : List UInt8) : Calls Try.prog 49 #[.pointer none, .int .i64 now, .string ⟨r.toArray⟩] w fun e w' => e = .returned (.tuple #[.string ⟨#[]⟩, .int .i64 1]) ∧ w' = w := by
  go_enter Try.func49, Try.ntmps49
  go_wp2
  go_ret2
  exact ⟨rfl, rfl⟩
set_option maxHeartbeats 1000000 in
set_option maxRecDepth 100000 in
theorem journalR_nil (w : World) : Calls Try.prog 44 #[.pointer none] w fun e w' => e = .returned (.tuple #[.string ⟨#[]⟩, .int .i64 1]) ∧ w' = w := by
  go_enter Try.func44, Try.ntmps44
  go_wp2
  go_ret2
  exact ⟨rfl, rfl⟩
/-- the cells of an exchange of which nothing is said. -/
def zc (j : Nat) : Value := if j = 2 then .string ⟨#[]⟩ else if j = 87 ∨ j = 93 then .slice none 0 0 else if j = 94 then .int .u64 0 else if j < 115 then .int .i64 0 else .bool false
set_option maxRecDepth 100000 in
theorem zc_at (j : Nat) (hj : j < 135) : Try.zeroCells96[j]? = some (zc j) := by
  have key : (List.range 135).map (fun j => Try.zeroCells96[j]?) = (List.range 135).map (fun j => some (zc j)) := by kernel_rfl
  have := congrArg (fun l => l[j]?) key
  simp only [List.getElem?_map, List.getElem?_range hj, Option.map_some] at this
  injection this
theorem zc_size : Try.zeroCells96.size = 135 := by kernel_rfl
set_option maxRecDepth 100000 in
theorem cells0_at (period cap : Int) (hk : kL [] = 0) (hs : setL [] = (0, 0, 0)) (j : Nat) (hj : j < 135) : ((((Try.zeroCells96.setIfInBounds 0 (Value.int IntKind.i64 period)).setIfInBounds 1 (Value.int IntKind.i64 cap)).setIfInBounds 4 (Value.int IntKind.i64 1)).setIfInBounds 5 (Value.int IntKind.i64 period))[j]? = some (cellR (Ex.openX period cap) (.slice none 0 0) (.slice none 0 0) j) := by
  have z := zc_at j hj
  have sz := zc_size
  have e : ((((Try.zeroCells96.setIfInBounds 0 (Value.int IntKind.i64 period)).setIfInBounds 1 (Value.int IntKind.i64 cap)).setIfInBounds 4 (Value.int IntKind.i64 1)).setIfInBounds 5 (Value.int IntKind.i64 period))[j]? = some (if j = 5 then .int .i64 period else if j = 4 then .int .i64 1 else if j = 1 then .int .i64 cap else if j = 0 then .int .i64 period else zc j) := by
    simp only [Array.getElem?_setIfInBounds, Array.size_setIfInBounds, sz, z]
    by_cases h5 : j = 5
    · subst h5; simp
    · rw [if_neg (fun q => h5 q.symm), if_neg h5]
      by_cases h4 : j = 4
      · subst h4; simp
      · rw [if_neg (fun q => h4 q.symm), if_neg h4]
        by_cases h1 : j = 1
        · subst h1; simp
        · rw [if_neg (fun q => h1 q.symm), if_neg h1]
          by_cases h0 : j = 0
          · subst h0; simp
          · rw [if_neg (fun q => h0 q.symm), if_neg h0]
  rw [e]
  refine congrArg some ?_
  have ex : j = 0 ∨ j = 1 ∨ j = 2 ∨ j = 3 ∨ j = 4 ∨ j = 5 ∨ (6 ≤ j ∧ j < 86) ∨ j = 86 ∨ j = 87 ∨ j = 88 ∨ j = 89 ∨ j = 90 ∨ j = 91 ∨ j = 92 ∨ j = 93 ∨ j = 94 ∨ (95 ≤ j ∧ j < 115) ∨ 115 ≤ j := by omega
  rcases ex with rfl | rfl | rfl | rfl | rfl | rfl | h | rfl | rfl | rfl | rfl | rfl | rfl | rfl | rfl | rfl | h | h
  · rfl
  · rfl
  · rfl
  · rfl
  · rfl
  · rfl
  · unfold cellR zc
    rw [if_neg (by omega), if_neg (by omega), if_neg (by omega), if_neg (by omega), if_neg (by omega), if_neg (by omega), if_neg (by omega), if_pos (by omega), if_neg (by omega), if_pos h.2]
    show _ = pcell ⟨0, 0, 0, 0⟩ _
    unfold pcell
    dsimp only
    repeat' split
    all_goals rfl
  · rfl
  · rfl
  · rfl
  · show _ = Value.int .i64 ((kL [] : Nat) : Int)
    rw [hk]; rfl
  · show _ = Value.int .i64 (((setL []).1 : Nat) : Int)
    rw [hs]; rfl
  · show _ = Value.int .i64 (setL []).2.1
    rw [hs]; rfl
  · show _ = Value.int .i64 (setL []).2.2
    rw [hs]; rfl
  · rfl
  · rfl
  · unfold cellR zc
    rw [if_neg (by omega), if_neg (by omega), if_neg (by omega), if_neg (by omega), if_neg (by omega), if_neg (by omega), if_neg (by omega), if_pos (by omega), if_neg (by omega), if_neg (by omega), if_neg (by omega), if_pos h.2]
    rfl
  · unfold cellR zc
    rw [if_neg (by omega), if_neg (by omega), if_neg (by omega), if_neg (by omega), if_neg (by omega), if_neg (by omega), if_neg (by omega), if_neg (by omega), if_neg (by omega), if_neg (by omega), if_neg (by omega), if_neg (by omega)]
    rfl
/-- settings that may not be. -/
def BadC (period cap : Int) : Prop := period < 1 ∨ 1125899906842624 < period ∨ cap < 1 ∨ 20 < cap
set_option maxHeartbeats 1000000 in
set_option maxRecDepth 100000 in
theorem openR_bad (w : World) (period cap : Int) (h : BadC period cap) (j : List UInt8) :
    Calls Try.prog 48 #[.agg #[.int .i64 period, .int .i64 cap], .string ⟨j.toArray⟩] w fun e w' => e = .returned (.tuple #[.pointer none, .int .i64 2]) ∧ Below w.heap.size w w' := by
  have mixed : Try.prog.follows .mixedOrders = true := by kernel_rfl
  have BW : Aside (Below w.heap.size w (w.alloc (Obj.cells #[Value.int IntKind.i64 period, Value.int IntKind.i64 cap] 68))) := blw_al (Below.refl _ w) _
  by_cases z1 : period < 1
  · go_enter Try.func48, Try.ntmps48
    go_wp2
    go_ret2
    exact ⟨rfl, BW.out⟩
  · by_cases z2 : 1125899906842624 < period
    · go_enter Try.func48, Try.ntmps48
      go_wp2
      go_ret2
      exact ⟨rfl, BW.out⟩
    · by_cases z3 : cap < 1
      · go_enter Try.func48, Try.ntmps48
        go_wp2
        go_ret2
        exact ⟨rfl, BW.out⟩
      · have z4 : 20 < cap := by unfold BadC at h; omega
        go_enter Try.func48, Try.ntmps48
        go_wp2
        go_ret2
        exact ⟨rfl, BW.out⟩
/- the same of the program -/
set_option maxHeartbeats 1000000 in
set_option maxRecDepth 100000 in
theorem openX_bad (w : World) (period cap : Int) (h : BadC period cap) (j : List UInt8) :
    Calls Try.prog 39 #[.agg #[.int .i64 period, .int .i64 cap], .string ⟨j.toArray⟩] w fun e w' => e = .returned (.tuple #[.pointer none, .int .i64 2]) ∧ Below w.heap.size w w' := by
  have mixed : Try.prog.follows .mixedOrders = true := by kernel_rfl
  have BW : Aside (Below w.heap.size w (w.alloc (Obj.cells #[Value.int IntKind.i64 period, Value.int IntKind.i64 cap] 68))) := blw_al (Below.refl _ w) _
  by_cases z1 : period < 1
  · go_enter Try.func39, Try.ntmps39
    go_wp2
    go_ret2
    exact ⟨rfl, BW.out⟩
  · by_cases z2 : 1125899906842624 < period
    · go_enter Try.func39, Try.ntmps39
      go_wp2
      go_ret2
      exact ⟨rfl, BW.out⟩
    · by_cases z3 : cap < 1
      · go_enter Try.func39, Try.ntmps39
        go_wp2
        go_ret2
        exact ⟨rfl, BW.out⟩
      · have z4 : 20 < cap := by unfold BadC at h; omega
        go_enter Try.func39, Try.ntmps39
        go_wp2
        go_ret2
        exact ⟨rfl, BW.out⟩
set_option maxHeartbeats 1000000 in
set_option maxRecDepth 100000 in
theorem doX_nil (w : World) (now : Int) (r : List UInt8) : Calls Try.prog 46 #[.pointer none, .int .i64 now, .string ⟨r.toArray⟩] w fun e w' => e = .returned (.tuple #[.string ⟨#[]⟩, .int .i64 1]) ∧ w' = w := by
  go_enter Try.func46, Try.ntmps46
  go_wp2
  go_ret2
  exact ⟨rfl, rfl⟩
set_option maxHeartbeats 1000000 in
set_option maxRecDepth 100000 in
theorem journalX_nil (w : World) : Calls Try.prog 37 #[.pointer none] w fun e w' => e = .returned (.tuple #[.string ⟨#[]⟩, .int .i64 1]) ∧ w' = w := by
  go_enter Try.func37, Try.ntmps37
  go_wp2
  go_ret2
  exact ⟨rfl, rfl⟩
end Go.Proofs.Ytjfifaooimgbaaa
/- The program's journal. -/
namespace Go.Proofs.Ytjfifaooimgbaaa
open Go.Shelf Go.RowKit Go.Lib Go.Sort

set_option maxHeartbeats 1000000 in
set_option maxRecDepth 100000 in
theorem journalM_any (w : World) (m : Nat) (s : MkS) (x : Ex.Xch) (hK : Mkt w m s x) : Calls Try.prog 50 #[.pointer (some ⟨m, 0, none⟩)] w fun e w' => e = .returned (.string ⟨x.jr.toArray⟩) ∧ w' = w := by
  have c13 := hK.at_.all.c13
  have hj := hK.jrn
  clear hK
  rcases hj.2 with ⟨e, h2⟩ | ⟨g, cap, cur, e, a1, a2, a3, a4⟩
  · have ej : x.jr = [] := List.eq_nil_of_length_eq_zero h2
    rw [e] at c13
    rw [ej]
    have hcv : (convert 98 9 (.slice none 0 0)).run Try.prog w = .ok (.string ⟨#[]⟩) w := by
      rw [run_convert_bytes_string (P := Try.prog) w 98 9 5 none 0 0 Try.underlying98 Try.underlying5 Try.underlying9]
      rfl
    clear hj e h2 ej
    go_enter Try.func50, Try.ntmps50
    go_wp2
    go_ret
    exact ⟨rfl, rfl⟩
  · rw [e] at c13 hj
    have hcv := run_convert_bytes_back (P := Try.prog) w 98 9 5 ⟨g, 0, none⟩ cap x.jr Try.underlying98 Try.underlying5 Try.underlying9 (fun j hj' => by
      have := World.ownsRow.cells hj (g := g) rfl j (.int .u8 (x.jr[j]).toNat) (by unfold bcs; rw [List.getElem?_map, List.getElem?_eq_getElem hj']; rfl)
      exact this)
    clear hj e a1 a2 a3 a4
    go_enter Try.func50, Try.ntmps50
    go_wp2
    go_ret
    exact ⟨rfl, rfl⟩

set_option maxHeartbeats 1000000 in
set_option maxRecDepth 100000 in
theorem journalX_any (w : World) (S : Nat → Prop) (p : Nat) (x : Ex.Xch) (hR : RepX w S p x) : Calls Try.prog 37 #[.pointer (some ⟨p, 0, none⟩)] w fun e w' => e = .returned (.tuple #[.string ⟨x.jr.toArray⟩, .int .i64 0]) ∧ w' = w := by
  obtain ⟨m, s, bx, gx, hp, hK, _, _, _, _⟩ := hR
  have HM : Aside _ := journalM_any w m s x hK
  have c0 : w.cell? ⟨p, 0, none⟩ = some (.pointer (some ⟨m, 0, none⟩)) := by simp [World.cell?, hp]
  clear hp hK
  go_enter Try.func37, Try.ntmps37
  go_wp2_with fail
  refine Calls.mono (f := 50) HM.out ?_
  rintro e w1 ⟨rfl, hw1⟩
  rw [hw1]
  clear hw1
  go_wp2
  go_ret2
  exact ⟨rfl, rfl⟩
end Go.Proofs.Ytjfifaooimgbaaa
/- Two exchanges, the program's and the document's, in the same state. -/
namespace Go.Proofs.Ytjfifaooimgbaaa
open Go.Shelf Go.RowKit Go.Lib Go.Sort

theorem doR_walk (w : World) (p : Nat) (x : Ex.Xch) (ov fv : Value) (h : RefAt w p x ov fv) (hO : LRow w ov x.ords) (ok : Ex.Ok x) (hl0 : x.last = 0 → x.lastL = []) (now : Int) (hn : -9223372036854775808 ≤ now ∧ now ≤ 9223372036854775807) (hj : x.jr.length ≤ 1099511627776) (hb : x.batch ≤ 1099511627777) (r : List UInt8) :
    Calls Try.prog 49 #[.pointer (some ⟨p, 0, none⟩), .int .i64 now, .string ⟨r.toArray⟩] w fun e w' => e = .returned (.tuple #[.string ⟨(Ex.doX x now r).2.toArray⟩, .int .i64 0]) ∧ RSt w p ov w' (Ex.doX x now r).1 := by
  by_cases hcap : 1125899906842624 < now
  · by_cases hlat : x.time < 1125899906842624
    · exact doR_w1 w p x ov fv h hO ok hl0 now hn hj hb hcap hlat r
    · exact doR_w2 w p x ov fv h hO ok hl0 now hn hj hb hcap hlat r
  · by_cases hlat : x.time < now
    · exact doR_w3 w p x ov fv h hO ok hl0 now hn hj hb hcap hlat r
    · exact doR_w4 w p x ov fv h hO ok hl0 now hn hj hb hcap hlat r
theorem do_last (x : Ex.Xch) (ok : Ex.Ok x) (now : Int) (r : List UInt8) (h : x.last = 0 → x.lastL = []) : (Ex.doX x now r).1.last = 0 → (Ex.doX x now r).1.lastL = [] := by
  have hc := cleared_last (Ex.timed x now) (Ex.timed_ok ok now) h
  have ha := answer_last (Ex.cleared (Ex.timed x now)) r
  have hw : ∀ (y : Ex.Xch) (s : List UInt8), (Ex.written y r s).last = y.last ∧ (Ex.written y r s).lastL = y.lastL := fun y s => by
    unfold Ex.written
    split
    · exact ⟨rfl, rfl⟩
    · exact ⟨rfl, rfl⟩
  show (Ex.written (Ex.answerX (Ex.cleared (Ex.timed x now)) r).1 r _).last = 0 → (Ex.written (Ex.answerX (Ex.cleared (Ex.timed x now)) r).1 r _).lastL = []
  rw [(hw _ _).1, (hw _ _).2, ha.1, ha.2.1]
  exact hc
theorem repR_do (w : World) (S : Nat → Prop) (p : Nat) (x : Ex.Xch) (now : Int) (r : List UInt8) (h : RepR w S p x) (ok : Ex.Ok x) (hn : -9223372036854775808 ≤ now ∧ now ≤ 9223372036854775807) (hj : x.jr.length ≤ 1099511627776) (hb : x.batch ≤ x.jr.length + 1) :
    Calls Try.prog 49 #[.pointer (some ⟨p, 0, none⟩), .int .i64 now, .string ⟨r.toArray⟩] w fun e w' => ∃ S', e = .returned (.tuple #[.string ⟨(Ex.doX x now r).2.toArray⟩, .int .i64 0]) ∧ RepR w' S' p (Ex.doX x now r).1 ∧ (∀ k, S' k → S k ∨ w.heap.size ≤ k) ∧ Onl S w w' := by
  obtain ⟨ov, fv, h1, h2, h3, rfl⟩ := h
  refine (doR_walk w p x ov fv h1 h2 ok h3 now hn hj (by omega) r).mono ?_
  rintro e w' ⟨rfl, ov', fv', g1, g2, g3, g4⟩
  refine ⟨fun k => k = p ∨ ov'.ownBlock = some k, rfl, ⟨ov', fv', g1, g2, do_last x ok now r h3, rfl⟩, ?_, g4⟩
  rintro k (rfl | hk)
  · exact Or.inl (Or.inl rfl)
  · rcases g3 k hk with q | q
    · exact Or.inl (Or.inr q)
    · exact Or.inr q

/-- the program's exchange at p, the document's at q, both in the state x; they have the blocks S. -/
def Twin (w : World) (S : Nat → Prop) (p q : Nat) (x : Ex.Xch) : Prop :=
  ∃ S1 S2, RepX w S1 p x ∧ RepR w S2 q x ∧ (∀ k, S1 k → ¬ S2 k) ∧ (∀ k, S k ↔ S1 k ∨ S2 k) ∧ Ex.Ok x ∧ x.batch ≤ x.jr.length + 1
theorem Twin.low {w : World} {S : Nat → Prop} {p q : Nat} {x : Ex.Xch} (h : Twin w S p q x) : ∀ k, S k → k < w.heap.size := by
  obtain ⟨S1, S2, h1, h2, h3, h4, h5, h6⟩ := h
  intro k hk
  rcases (h4 k).1 hk with e | e
  · exact rep_low h1 k e
  · exact repR_low h2 k e
theorem Twin.keep {w w' : World} {S : Nat → Prop} {p q : Nat} {x : Ex.Xch} (h : Twin w S p q x) (e : ∀ k, S k → w'.heap[k]? = w.heap[k]?) : Twin w' S p q x := by
  obtain ⟨S1, S2, h1, h2, h3, h4, h5, h6⟩ := h
  exact ⟨S1, S2, rep_keep h1 (fun k hk => e k ((h4 k).2 (Or.inl hk))), repR_keep h2 (fun k hk => e k ((h4 k).2 (Or.inr hk))), h3, h4, h5, h6⟩
end Go.Proofs.Ytjfifaooimgbaaa
/- The walks of sameB, sameO, pick. -/
namespace Go.Proofs.Ytjfifaooimgbaaa
open Go.Shelf Go.RowKit Go.Lib Go.Sort

/-- a list of yes and no lies there. -/
def BsAt (w : World) (a : Option Addr) (fl : List Bool) : Prop := ∀ i, i < fl.length → ∃ g, a = some ⟨g, 0, none⟩ ∧ g < w.heap.size ∧ w.cell? ⟨g, i, none⟩ = some (.bool (fl.getD i false))

theorem BsAt.up {w w' : World} {a : Option Addr} {fl : List Bool} (h : BsAt w a fl) (b : Below w.heap.size w w') : BsAt w' a fl := fun i hi => by
  obtain ⟨g, e, hg, hc⟩ := h i hi
  exact ⟨g, e, Nat.lt_of_lt_of_le hg b.size, (b.cell (p := ⟨g, i, none⟩) hg).trans hc⟩

set_option maxHeartbeats 400000 in
theorem pickL_any (c : Int) (n : Nat) (w : World) (hn : 0 < n) (hn2 : n ≤ 9007199254740992) (h1 : -9223372036854775808 ≤ c) (h2 : c ≤ 9223372036854775807) :
    Calls Try.prog 16 #[.int .i64 c, .int .i64 n] w fun e w' => e = .returned (.int .i64 (pickN c n : Nat)) ∧ w' = w := by
  have hz : ((n : Int) == 0) = false := beq_eq_false_iff_ne.2 (by omega)
  have hz' : ¬ (n : Int) = 0 := by omega
  have p1 := Int.emod_nonneg (if c < 0 then -(c + 1) else c) (show (n : Int) ≠ 0 by omega)
  by_cases hc : c < 0
  · have e : ((pickN c n : Nat) : Int) = (-(c + 1)) % (n : Int) := by
      unfold pickN; rw [if_pos hc] at p1 ⊢; omega
    rw [e]
    have hm : (-(c + 1)).tmod (n : Int) = (-(c + 1)) % (n : Int) := Int.tmod_eq_emod_of_nonneg (by omega)
    go_enter Try.func16, Try.ntmps16
    go_wp2
    go_ret
    exact ⟨ret_int rfl, rfl⟩
  · have e : ((pickN c n : Nat) : Int) = c % (n : Int) := by
      unfold pickN; rw [if_neg hc] at p1 ⊢; omega
    rw [e]
    have hm : c.tmod (n : Int) = c % (n : Int) := Int.tmod_eq_emod_of_nonneg (by omega)
    go_enter Try.func16, Try.ntmps16
    go_wp2
    go_ret
    exact ⟨ret_int rfl, rfl⟩

end Go.Proofs.Ytjfifaooimgbaaa
/- The law's walk: does. -/
namespace Go.Proofs.Ytjfifaooimgbaaa
open Go.Shelf Go.RowKit Go.Lib Go.Sort

/-- a step of a script. -/
structure OpS where
  kind : Int
  X : Int
  now : Int
  raw : Bool
  s : List UInt8
  per : Int
  cap : Int
def OpS.cells (o : OpS) : Array Value := #[.int .i64 o.kind, .int .i64 o.X, .int .i64 o.now, .bool o.raw, .string ⟨o.s.toArray⟩, .int .i64 o.per, .int .i64 o.cap]
def OpS.fine (o : OpS) : Prop := (-9223372036854775808 ≤ o.now ∧ o.now ≤ 9223372036854775807) ∧ (-9223372036854775808 ≤ o.X ∧ o.X ≤ 9223372036854775807)

/-- what a step of twins leaves. -/
def TwSt (w : World) (S : Nat → Prop) (p q : Nat) (x : Ex.Xch) (w' : World) : Prop :=
  ∃ S' x', Twin w' S' p q x' ∧ x'.jr.length ≤ x.jr.length + 40 ∧ (∀ k, S' k → S k ∨ w.heap.size ≤ k) ∧ Onl S w w'

theorem do_jr2 {x : Ex.Xch} (now : Int) (r : List UInt8) : (Ex.doX x now r).1.jr.length ≤ x.jr.length + 40 := by
  by_cases hr : r.length ≤ 10
  · have := Ex.do_jr x now r
    omega
  · obtain ⟨b, s, hs⟩ := answer_ne (Ex.cleared (Ex.timed x now)) r
    have hb : b ≠ 0 := fun e => hr (answer_short _ r hs e).1
    have e : (Ex.doX x now r).1 = (Ex.answerX (Ex.cleared (Ex.timed x now)) r).1 := by
      show Ex.written _ _ _ = _
      unfold Ex.written
      rw [hs, if_neg (fun q => hb q.1)]
    rw [e, (answer_last _ r).2.2.1]
    have := Ex.cleared_jr (Ex.timed x now)
    have e2 : (Ex.timed x now).jr = x.jr := rfl
    rw [e2] at this
    omega
theorem onl_of {S : Nat → Prop} {a b : World} (h : Only S a b) : Onl S a b := ⟨h.os, h.tape, h.output, h.size, h.block⟩

set_option maxHeartbeats 2000000 in
set_option maxRecDepth 100000 in
theorem does_journal (w : World) (S : Nat → Prop) (p q : Nat) (x : Ex.Xch) (T : Twin w S p q x) (o : OpS) (hk : o.kind = 4) :
    Calls Try.prog 36 #[.agg #[.pointer (some ⟨p, 0, none⟩), .pointer (some ⟨q, 0, none⟩)], .agg o.cells] w fun e w' => e = .returned (.bool true) ∧ TwSt w S p q x w' := by
  have mixed : Try.prog.follows .mixedOrders = true := by kernel_rfl
  have HT : Aside (Twin w S p q x) := T
  unfold OpS.cells
  rw [hk]
  obtain ⟨W, hW⟩ : ∃ W, W = (w.alloc (.cells #[.pointer (some ⟨p, 0, none⟩), .pointer (some ⟨q, 0, none⟩)] 71)).alloc (.cells #[.int .i64 4, .int .i64 o.X, .int .i64 o.now, .bool o.raw, .string ⟨o.s.toArray⟩, .int .i64 o.per, .int .i64 o.cap] 76) := ⟨_, rfl⟩
  have BW : Aside (Below w.heap.size w W) := by rw [hW]; exact blw_al (blw_al (Below.refl _ w) _) _
  have TW : Aside (Twin W S p q x) := T.keep (fun k hk => BW.out.block k (T.low k hk))
  have z0 : W.cell? ⟨w.heap.size, 0, none⟩ = some (.pointer (some ⟨p, 0, none⟩)) := by rw [hW]; simp
  have z1 : W.cell? ⟨w.heap.size, 1, none⟩ = some (.pointer (some ⟨q, 0, none⟩)) := by rw [hW]; simp
  have y0 : W.cell? ⟨w.heap.size + 1, 0, none⟩ = some (.int .i64 4) := by rw [hW]; simp
  obtain ⟨S1, S2, h1, h2, _⟩ := TW.out
  obtain ⟨ov, fv, g1, _⟩ := h2
  have HJ : Aside _ := journalX_any W S1 p x h1
  have HR : Aside _ := journalR_any W q x ov fv g1
  clear h1 g1 T
  go_enter Try.func36, Try.ntmps36
  go_wp2_with fail
  rw [← hW]
  clear hW
  refine Calls.mono (f := 37) HJ.out ?_
  rintro e w1 ⟨rfl, hw1⟩
  rw [hw1]
  clear hw1
  go_wp2_with fail
  refine Calls.mono (f := 44) HR.out ?_
  rintro e w1 ⟨rfl, hw1⟩
  rw [hw1]
  clear hw1
  go_wp2
  go_ret
  exact ⟨rfl, S, x, TW.out, by omega, fun k hk => Or.inl hk, (Onl.refl _ _).below BW.out⟩

set_option maxHeartbeats 4000000 in
set_option maxRecDepth 100000 in
theorem does_do1 (w : World) (S : Nat → Prop) (p q : Nat) (x : Ex.Xch) (T : Twin w S p q x) (o : OpS) (hk : o.kind = 3) (hf : o.fine) (hraw : o.raw = true) (hj : x.jr.length ≤ 1099511627776) :
    Calls Try.prog 36 #[.agg #[.pointer (some ⟨p, 0, none⟩), .pointer (some ⟨q, 0, none⟩)], .agg o.cells] w fun e w' => e = .returned (.bool true) ∧ TwSt w S p q x w' := by
  have mixed : Try.prog.follows .mixedOrders = true := by kernel_rfl
  have HT : Aside (Twin w S p q x) := T
  unfold OpS.cells
  rw [hk, hraw]
  obtain ⟨W, hW⟩ : ∃ W, W = (w.alloc (.cells #[.pointer (some ⟨p, 0, none⟩), .pointer (some ⟨q, 0, none⟩)] 71)).alloc (.cells #[.int .i64 3, .int .i64 o.X, .int .i64 o.now, .bool true, .string ⟨o.s.toArray⟩, .int .i64 o.per, .int .i64 o.cap] 76) := ⟨_, rfl⟩
  have BW : Aside (Below w.heap.size w W) := by rw [hW]; exact blw_al (blw_al (Below.refl _ w) _) _
  have TW : Aside (Twin W S p q x) := T.keep (fun k hk => BW.out.block k (T.low k hk))
  have z0 : W.cell? ⟨w.heap.size, 0, none⟩ = some (.pointer (some ⟨p, 0, none⟩)) := by rw [hW]; simp
  have z1 : W.cell? ⟨w.heap.size, 1, none⟩ = some (.pointer (some ⟨q, 0, none⟩)) := by rw [hW]; simp
  have y0 : W.cell? ⟨w.heap.size + 1, 0, none⟩ = some (.int .i64 3) := by rw [hW]; simp
  have y2 : W.cell? ⟨w.heap.size + 1, 2, none⟩ = some (.int .i64 o.now) := by rw [hW]; simp
  have y3 : W.cell? ⟨w.heap.size + 1, 3, none⟩ = some (.bool true) := by rw [hW]; simp
  have y4 : W.cell? ⟨w.heap.size + 1, 4, none⟩ = some (.string ⟨o.s.toArray⟩) := by rw [hW]; simp
  have hsW : w.heap.size + 1 < W.heap.size := by rw [hW]; simp
  have low := T.low
  obtain ⟨S1, S2, h1, h2, h3, h4, h5, h6⟩ := TW.out
  have t3 : W.cell? ⟨q, 3, none⟩ = some (.int .i64 x.time) := by
    obtain ⟨ov, fv, g1, _⟩ := h2
    exact g1.head 3 (by decide)
  obtain ⟨f1, f2⟩ := hf
  obtain ⟨f11, f12⟩ := f1
  have qt := h5.time
  obtain ⟨qt1, qt2⟩ := qt
  have L1 : Aside (∀ k, S1 k → k < w.heap.size) := fun k hk => low k ((h4 k).2 (Or.inl hk))
  have L2 : Aside (∀ k, S2 k → k < w.heap.size) := fun k hk => low k ((h4 k).2 (Or.inr hk))
  have H1 : Aside (RepX W S1 p x) := h1
  have H2 : Aside (RepR W S2 q x) := h2
  have H3 : Aside (∀ k, S1 k → ¬ S2 k) := h3
  have H4 : Aside (∀ k, S k ↔ S1 k ∨ S2 k) := h4
  have H5 : Aside (Ex.Ok x) := h5
  have H6 : Aside (x.batch ≤ x.jr.length + 1) := h6
  clear h1 h2 h3 h4 h5 h6 T low
  have HP : Aside (∀ V : World, Calls Try.prog 16 #[.int .i64 o.now, .int .i64 50] V fun e w' => e = .returned (.int .i64 (pickN o.now 50 : Nat)) ∧ ∃ m, w' = V.drewN m) := fun V => (pickL_any o.now 50 V (by decide) (by decide) f11 f12).mono (fun e w' h => ⟨h.1, 0, by rw [h.2]; rfl⟩)
  have hpk : pickN o.now 50 < 50 := pickN_lt _ _ (by decide)
  obtain ⟨now, hnow⟩ : ∃ now : Int, now = o.now := ⟨_, rfl⟩
  have nb : -9223372036854775808 ≤ now ∧ now ≤ 9223372036854775807 := by rw [hnow]; omega
  go_enter Try.func36, Try.ntmps36
  go_wp2_with fail
  rw [← hW]
  clear hW
  rw [← hnow]
  clear hnow
  have BV : Aside (Below w.heap.size w W) := BW.out
  have v1 := z1
  have v4 := y4
  have hsV : w.heap.size + 1 < W.heap.size := hsW
  have R1 : Aside (RepX W S1 p x) := H1.out
  have R2 : Aside (RepR W S2 q x) := H2.out
  obtain ⟨D, hDD⟩ : ∃ D, D = Ex.doX x now o.s := ⟨_, rfl⟩
  have EDD : Aside (D = Ex.doX x now o.s) := hDD
  have HD : Aside _ := rep_do W S1 p x now o.s R1.out H5.out nb.1 nb.2 hj
  unfold txt at HD
  rw [← hDD] at HD
  have HDR : Aside (∀ V : World, RepR V S2 q x → Calls Try.prog 49 #[.pointer (some ⟨q, 0, none⟩), .int .i64 now, .string ⟨o.s.toArray⟩] V fun e w' => ∃ S', e = .returned (.tuple #[.string ⟨D.2.toArray⟩, .int .i64 0]) ∧ RepR w' S' q D.1 ∧ (∀ k, S' k → S2 k ∨ V.heap.size ≤ k) ∧ Onl S2 V w') := fun V hV => by rw [hDD]; exact repR_do V S2 q x now o.s hV H5.out nb hj H6.out
  clear hDD
  refine Calls.mono (f := 46) HD.out ?_
  rintro e w3 ⟨S1', rfl, r3, s3, o3⟩
  have O3 : Aside (Onl S1 W w3) := onl_of o3
  have R3 : Aside (RepX w3 S1' p D.1) := r3
  have N3 : Aside (∀ k, S1' k → S1 k ∨ W.heap.size ≤ k) := s3
  have nin : ∀ k, w.heap.size ≤ k → ¬ S1 k := fun k hk h => by have := L1.out k h; omega
  have u1 : w3.cell? ⟨w.heap.size, 1, none⟩ = some (.pointer (some ⟨q, 0, none⟩)) := (World.cell?_of_block (a := ⟨w.heap.size, 1, none⟩) (O3.out.block w.heap.size (by omega) (nin _ (Nat.le_refl _)))).trans v1
  have u4 : w3.cell? ⟨w.heap.size + 1, 4, none⟩ = some (.string ⟨o.s.toArray⟩) := (World.cell?_of_block (a := ⟨w.heap.size + 1, 4, none⟩) (O3.out.block (w.heap.size + 1) (by omega) (nin _ (by omega)))).trans v4
  have Q3 : Aside (RepR w3 S2 q x) := repR_keep R2.out (fun k hk => O3.out.block k (Nat.lt_of_lt_of_le (L2.out k hk) (by omega)) (fun h => H3.out k h hk))
  clear r3 s3 o3 nin
  go_wp2_with fail
  refine Calls.mono (f := 49) (HDR.out w3 Q3.out) ?_
  rintro e w4 ⟨S2', rfl, r4, s4, o4⟩
  have O4 : Aside (Onl S2 w3 w4) := o4
  have R4 : Aside (RepR w4 S2' q D.1) := r4
  have N4 : Aside (∀ k, S2' k → S2 k ∨ w3.heap.size ≤ k) := s4
  clear r4 s4 o4
  go_wp2
  go_ret
  refine ⟨rfl, fun k => S1' k ∨ S2' k, D.1, ?_, by rw [EDD.out]; exact do_jr2 now o.s, ?_, ?_⟩
  · refine ⟨S1', S2', rep_keep R3.out (fun k hk => O4.out.block k (rep_low R3.out k hk) (fun h => ?_)), R4.out, fun k hk h => ?_, fun k => Iff.rfl, by rw [EDD.out]; exact (Ex.do_ok H5.out now o.s).1, ?_⟩
    · rcases N3.out k hk with e | e
      · exact H3.out k e h
      · have := L2.out k h
        omega
    · rcases N4.out k h with e | e
      · rcases N3.out k hk with e' | e'
        · exact H3.out k e' e
        · have := L2.out k e
          omega
      · have := rep_low R3.out k hk
        omega
    · obtain ⟨m, s', bx, gx, _, _, _, _, inv, _⟩ := R3.out
      exact inv.num
  · rintro k (hk | hk)
    · rcases N3.out k hk with e | e
      · exact Or.inl ((H4.out k).2 (Or.inl e))
      · exact Or.inr (by omega)
    · rcases N4.out k hk with e | e
      · exact Or.inl ((H4.out k).2 (Or.inr e))
      · exact Or.inr (by have := O3.out.size; omega)
  · have o1 : Onl S w W := (Onl.refl _ _).below BV.out
    exact (o1.trans O3.out (fun k h => Or.inl ((H4.out k).2 (Or.inl h)))).trans O4.out (fun k h => Or.inl ((H4.out k).2 (Or.inr h)))

set_option maxHeartbeats 4000000 in
set_option maxRecDepth 100000 in
theorem does_do2 (w : World) (S : Nat → Prop) (p q : Nat) (x : Ex.Xch) (T : Twin w S p q x) (o : OpS) (hk : o.kind = 3) (hf : o.fine) (hraw : o.raw = false) (hj : x.jr.length ≤ 1099511627776) :
    Calls Try.prog 36 #[.agg #[.pointer (some ⟨p, 0, none⟩), .pointer (some ⟨q, 0, none⟩)], .agg o.cells] w fun e w' => e = .returned (.bool true) ∧ TwSt w S p q x w' := by
  have mixed : Try.prog.follows .mixedOrders = true := by kernel_rfl
  have HT : Aside (Twin w S p q x) := T
  unfold OpS.cells
  rw [hk, hraw]
  obtain ⟨W, hW⟩ : ∃ W, W = (w.alloc (.cells #[.pointer (some ⟨p, 0, none⟩), .pointer (some ⟨q, 0, none⟩)] 71)).alloc (.cells #[.int .i64 3, .int .i64 o.X, .int .i64 o.now, .bool false, .string ⟨o.s.toArray⟩, .int .i64 o.per, .int .i64 o.cap] 76) := ⟨_, rfl⟩
  have BW : Aside (Below w.heap.size w W) := by rw [hW]; exact blw_al (blw_al (Below.refl _ w) _) _
  have TW : Aside (Twin W S p q x) := T.keep (fun k hk => BW.out.block k (T.low k hk))
  have z0 : W.cell? ⟨w.heap.size, 0, none⟩ = some (.pointer (some ⟨p, 0, none⟩)) := by rw [hW]; simp
  have z1 : W.cell? ⟨w.heap.size, 1, none⟩ = some (.pointer (some ⟨q, 0, none⟩)) := by rw [hW]; simp
  have y0 : W.cell? ⟨w.heap.size + 1, 0, none⟩ = some (.int .i64 3) := by rw [hW]; simp
  have y2 : W.cell? ⟨w.heap.size + 1, 2, none⟩ = some (.int .i64 o.now) := by rw [hW]; simp
  have y3 : W.cell? ⟨w.heap.size + 1, 3, none⟩ = some (.bool false) := by rw [hW]; simp
  have y4 : W.cell? ⟨w.heap.size + 1, 4, none⟩ = some (.string ⟨o.s.toArray⟩) := by rw [hW]; simp
  have hsW : w.heap.size + 1 < W.heap.size := by rw [hW]; simp
  have low := T.low
  obtain ⟨S1, S2, h1, h2, h3, h4, h5, h6⟩ := TW.out
  have t3 : W.cell? ⟨q, 3, none⟩ = some (.int .i64 x.time) := by
    obtain ⟨ov, fv, g1, _⟩ := h2
    exact g1.head 3 (by decide)
  obtain ⟨f1, f2⟩ := hf
  obtain ⟨f11, f12⟩ := f1
  have qt := h5.time
  obtain ⟨qt1, qt2⟩ := qt
  have L1 : Aside (∀ k, S1 k → k < w.heap.size) := fun k hk => low k ((h4 k).2 (Or.inl hk))
  have L2 : Aside (∀ k, S2 k → k < w.heap.size) := fun k hk => low k ((h4 k).2 (Or.inr hk))
  have H1 : Aside (RepX W S1 p x) := h1
  have H2 : Aside (RepR W S2 q x) := h2
  have H3 : Aside (∀ k, S1 k → ¬ S2 k) := h3
  have H4 : Aside (∀ k, S k ↔ S1 k ∨ S2 k) := h4
  have H5 : Aside (Ex.Ok x) := h5
  have H6 : Aside (x.batch ≤ x.jr.length + 1) := h6
  clear h1 h2 h3 h4 h5 h6 T low
  have HP : Aside (∀ V : World, Calls Try.prog 16 #[.int .i64 o.now, .int .i64 50] V fun e w' => e = .returned (.int .i64 (pickN o.now 50 : Nat)) ∧ ∃ m, w' = V.drewN m) := fun V => (pickL_any o.now 50 V (by decide) (by decide) f11 f12).mono (fun e w' h => ⟨h.1, 0, by rw [h.2]; rfl⟩)
  have hpk : pickN o.now 50 < 50 := pickN_lt _ _ (by decide)
  obtain ⟨now, hnow⟩ : ∃ now : Int, now = x.time + (pickN o.now 50 : Nat) := ⟨_, rfl⟩
  have nb : -9223372036854775808 ≤ now ∧ now ≤ 9223372036854775807 := by rw [hnow]; omega
  go_enter Try.func36, Try.ntmps36
  go_wp2_with fail
  rw [← hW]
  clear hW
  have wr1 : IntKind.i64.wrap (x.time + (pickN o.now 50 : Nat)) = x.time + (pickN o.now 50 : Nat) := IntWalk.i64_in _ (by omega)
  go_quiet (first | (go_at_call 16; refine Calls.quiet_of (HP.out _)))
  rw [← hnow]
  clear hnow
  obtain ⟨V, hV⟩ : ∃ V, V = W.drewN nq := ⟨_, rfl⟩
  rw [← hV]
  have BV : Aside (Below w.heap.size w V) := by rw [hV]; exact Below.drewN BW.out _
  have v0 : V.cell? ⟨w.heap.size, 0, none⟩ = some (.pointer (some ⟨p, 0, none⟩)) := by rw [hV]; exact z0
  have v1 : V.cell? ⟨w.heap.size, 1, none⟩ = some (.pointer (some ⟨q, 0, none⟩)) := by rw [hV]; exact z1
  have v4 : V.cell? ⟨w.heap.size + 1, 4, none⟩ = some (.string ⟨o.s.toArray⟩) := by rw [hV]; exact y4
  have hsV : w.heap.size + 1 < V.heap.size := by rw [hV]; exact hsW
  have R1 : Aside (RepX V S1 p x) := by rw [hV]; exact rep_keep H1.out (fun _ _ => rfl)
  have R2 : Aside (RepR V S2 q x) := by rw [hV]; exact repR_keep H2.out (fun _ _ => rfl)
  clear hV z0 z1 y0 y2 y3 y4 t3
  go_wp2_with fail
  obtain ⟨D, hDD⟩ : ∃ D, D = Ex.doX x now o.s := ⟨_, rfl⟩
  have EDD : Aside (D = Ex.doX x now o.s) := hDD
  have HD : Aside _ := rep_do V S1 p x now o.s R1.out H5.out nb.1 nb.2 hj
  unfold txt at HD
  rw [← hDD] at HD
  have HDR : Aside (∀ V : World, RepR V S2 q x → Calls Try.prog 49 #[.pointer (some ⟨q, 0, none⟩), .int .i64 now, .string ⟨o.s.toArray⟩] V fun e w' => ∃ S', e = .returned (.tuple #[.string ⟨D.2.toArray⟩, .int .i64 0]) ∧ RepR w' S' q D.1 ∧ (∀ k, S' k → S2 k ∨ V.heap.size ≤ k) ∧ Onl S2 V w') := fun V hV => by rw [hDD]; exact repR_do V S2 q x now o.s hV H5.out nb hj H6.out
  clear hDD
  refine Calls.mono (f := 46) HD.out ?_
  rintro e w3 ⟨S1', rfl, r3, s3, o3⟩
  have O3 : Aside (Onl S1 V w3) := onl_of o3
  have R3 : Aside (RepX w3 S1' p D.1) := r3
  have N3 : Aside (∀ k, S1' k → S1 k ∨ V.heap.size ≤ k) := s3
  have nin : ∀ k, w.heap.size ≤ k → ¬ S1 k := fun k hk h => by have := L1.out k h; omega
  have u1 : w3.cell? ⟨w.heap.size, 1, none⟩ = some (.pointer (some ⟨q, 0, none⟩)) := (World.cell?_of_block (a := ⟨w.heap.size, 1, none⟩) (O3.out.block w.heap.size (by omega) (nin _ (Nat.le_refl _)))).trans v1
  have u4 : w3.cell? ⟨w.heap.size + 1, 4, none⟩ = some (.string ⟨o.s.toArray⟩) := (World.cell?_of_block (a := ⟨w.heap.size + 1, 4, none⟩) (O3.out.block (w.heap.size + 1) (by omega) (nin _ (by omega)))).trans v4
  have Q3 : Aside (RepR w3 S2 q x) := repR_keep R2.out (fun k hk => O3.out.block k (Nat.lt_of_lt_of_le (L2.out k hk) (by omega)) (fun h => H3.out k h hk))
  clear r3 s3 o3 nin
  go_wp2_with fail
  refine Calls.mono (f := 49) (HDR.out w3 Q3.out) ?_
  rintro e w4 ⟨S2', rfl, r4, s4, o4⟩
  have O4 : Aside (Onl S2 w3 w4) := o4
  have R4 : Aside (RepR w4 S2' q D.1) := r4
  have N4 : Aside (∀ k, S2' k → S2 k ∨ w3.heap.size ≤ k) := s4
  clear r4 s4 o4
  go_wp2
  go_ret
  refine ⟨rfl, fun k => S1' k ∨ S2' k, D.1, ?_, by rw [EDD.out]; exact do_jr2 now o.s, ?_, ?_⟩
  · refine ⟨S1', S2', rep_keep R3.out (fun k hk => O4.out.block k (rep_low R3.out k hk) (fun h => ?_)), R4.out, fun k hk h => ?_, fun k => Iff.rfl, by rw [EDD.out]; exact (Ex.do_ok H5.out now o.s).1, ?_⟩
    · rcases N3.out k hk with e | e
      · exact H3.out k e h
      · have := L2.out k h
        omega
    · rcases N4.out k h with e | e
      · rcases N3.out k hk with e' | e'
        · exact H3.out k e' e
        · have := L2.out k e
          omega
      · have := rep_low R3.out k hk
        omega
    · obtain ⟨m, s', bx, gx, _, _, _, _, inv, _⟩ := R3.out
      exact inv.num
  · rintro k (hk | hk)
    · rcases N3.out k hk with e | e
      · exact Or.inl ((H4.out k).2 (Or.inl e))
      · exact Or.inr (by omega)
    · rcases N4.out k hk with e | e
      · exact Or.inl ((H4.out k).2 (Or.inr e))
      · exact Or.inr (by have := O3.out.size; omega)
  · have o1 : Onl S w V := (Onl.refl _ _).below BV.out
    exact (o1.trans O3.out (fun k h => Or.inl ((H4.out k).2 (Or.inl h)))).trans O4.out (fun k h => Or.inl ((H4.out k).2 (Or.inr h)))
end Go.Proofs.Ytjfifaooimgbaaa
