import Derived.Test.YtjfifaooimgbaaaAp
import Derived.Test.YtjfifaooimgbaaaNb3
import Derived.Test.YtjfifaooimgbaaaEx
import Derived.Test.YtjfifaooimgbaaaShare
/- The walks of accounts. -/
namespace Go.Proofs.Ytjfifaooimgbaaa
open Go.Shelf Go.RowKit Go.Lib Go.Sort

def chg (g : Nat) (x y : Int) (a : A4) : A4 := if g = 0 then ⟨a.c + x, a.h + y, a.u, a.k⟩ else ⟨a.c, a.h, a.u + x, a.k + y⟩
/-- small enough for sums. -/
def sml (n : Int) : Prop := -1152921504606846976 ≤ n ∧ n ≤ 1152921504606846976
structure A4.ok (a : A4) : Prop where
  c : sml a.c
  h : sml a.h
  u : sml a.u
  k : sml a.k

set_option maxHeartbeats 1000000 in
set_option maxRecDepth 100000 in
theorem change_any (w : World) (b : Nat) (q : Nat → A4) (t g : Nat) (x y : Int) (h : AccF w b q) (ht : t < 21) (hg : g < 2) (ho : (q t).ok) (hx : sml x) (hy : sml y) :
    Calls Try.prog 130 #[.map (some b), .int .i64 t, .int .i64 g, .int .i64 x, .int .i64 y] w fun e w' => e = .returned (.tuple #[]) ∧ AccF w' b (updA q t (chg g x y (q t))) ∧ Onl (· = b) w w' := by
  obtain ⟨⟨o1, o2⟩, ⟨o3, o4⟩, ⟨o5, o6⟩, ⟨o7, o8⟩⟩ := ho
  obtain ⟨x1, x2⟩ := hx
  obtain ⟨y1, y2⟩ := hy
  have HA : Aside (AccF w b q) := h
  clear h
  rcases (show g = 0 ∨ g = 1 by omega) with rfl | rfl
  · clear hg
    go_enter Try.func130, Try.ntmps130
    go_wp2_with (first | (at_lookup; refine wpList_lookup_acc _ rfl _ _ rfl b q rfl HA.out t ht rfl ?_) | (at_mapUpdate; refine wpList_store_acc _ rfl _ _ _ rfl b q rfl (HA.out.alloc _) t ht rfl _ _ _ _ rfl ?_; intro w1 g1 g2 g3) | fail)
    go_end0
    exact ⟨rfl, g1, ((Onl.refl _ w).alloc _).grown g2 (Or.inl rfl)⟩
  · clear hg
    go_enter Try.func130, Try.ntmps130
    go_wp2_with (first | (at_lookup; refine wpList_lookup_acc _ rfl _ _ rfl b q rfl HA.out t ht rfl ?_) | (at_mapUpdate; refine wpList_store_acc _ rfl _ _ _ rfl b q rfl (HA.out.alloc _) t ht rfl _ _ _ _ rfl ?_; intro w1 g1 g2 g3) | fail)
    go_end0
    exact ⟨rfl, g1, ((Onl.refl _ w).alloc _).grown g2 (Or.inl rfl)⟩

theorem sml_neg {n : Int} (h : sml n) : sml (-n) := ⟨by have := h.2; omega, by have := h.1; omega⟩
theorem sml0 : sml 0 := ⟨by decide, by decide⟩

section
variable (w : World) (b : Nat) (q : Nat → A4) (t g : Nat) (n : Int) (h : AccF w b q) (ht : t < 21) (hg : g < 2) (ho : (q t).ok) (hn : sml n)
include h ht hg ho hn
set_option maxRecDepth 100000
theorem put_any : Calls Try.prog 110 #[.map (some b), .int .i64 t, .int .i64 g, .int .i64 n] w fun e w' => e = .returned (.tuple #[]) ∧ AccF w' b (updA q t (chg g n 0 (q t))) ∧ Onl (· = b) w w' := by
  have HC : Aside _ := change_any w b q t g n 0 h ht hg ho hn sml0
  clear h ho hn
  go_enter Try.func110, Try.ntmps110
  go_wp2_with fail
  refine Calls.mono (f := 130) HC.out ?_
  rintro e w' ⟨rfl, r⟩
  go_wp2_with fail
  go_end0
  exact ⟨rfl, r⟩
theorem take_any : Calls Try.prog 118 #[.map (some b), .int .i64 t, .int .i64 g, .int .i64 n] w fun e w' => e = .returned (.tuple #[]) ∧ AccF w' b (updA q t (chg g (-n) 0 (q t))) ∧ Onl (· = b) w w' := by
  have HC : Aside _ := change_any w b q t g (-n) 0 h ht hg ho (sml_neg hn) sml0
  obtain ⟨n1, n2⟩ := hn
  clear h ho
  go_enter Try.func118, Try.ntmps118
  go_wp2_with fail
  refine Calls.mono (f := 130) HC.out ?_
  rintro e w' ⟨rfl, r⟩
  go_wp2_with fail
  go_end0
  exact ⟨rfl, r⟩
theorem hold_any : Calls Try.prog 121 #[.map (some b), .int .i64 t, .int .i64 g, .int .i64 n] w fun e w' => e = .returned (.tuple #[]) ∧ AccF w' b (updA q t (chg g (-n) n (q t))) ∧ Onl (· = b) w w' := by
  have HC : Aside _ := change_any w b q t g (-n) n h ht hg ho (sml_neg hn) hn
  obtain ⟨n1, n2⟩ := hn
  clear h ho
  go_enter Try.func121, Try.ntmps121
  go_wp2_with fail
  refine Calls.mono (f := 130) HC.out ?_
  rintro e w' ⟨rfl, r⟩
  go_wp2_with fail
  go_end0
  exact ⟨rfl, r⟩
theorem release_any : Calls Try.prog 108 #[.map (some b), .int .i64 t, .int .i64 g, .int .i64 n] w fun e w' => e = .returned (.tuple #[]) ∧ AccF w' b (updA q t (chg g n (-n) (q t))) ∧ Onl (· = b) w w' := by
  have HC : Aside _ := change_any w b q t g n (-n) h ht hg ho hn (sml_neg hn)
  obtain ⟨n1, n2⟩ := hn
  clear h ho
  go_enter Try.func108, Try.ntmps108
  go_wp2_with fail
  refine Calls.mono (f := 130) HC.out ?_
  rintro e w' ⟨rfl, r⟩
  go_wp2_with fail
  go_end0
  exact ⟨rfl, r⟩
end

/-- what one has of a good. -/
def part (g : Nat) (a : A4) : Int := if g = 0 then a.c + a.h else a.u + a.k
def smTo (h : Nat → Int) : Nat → Int
  | 0 => 0
  | n + 1 => smTo h n + h n
theorem smTo_congr {h h' : Nat → Int} : ∀ n, (∀ i, i < n → h i = h' i) → smTo h n = smTo h' n
  | 0, _ => rfl
  | n + 1, e => by rw [smTo, smTo, smTo_congr n (fun i hi => e i (by omega)), e n (by omega)]
theorem smTo_zero {h : Nat → Int} (n : Nat) (e : ∀ i, i < n → h i = 0) : smTo h n = 0 := by
  induction n with
  | zero => rfl
  | succ n ih => rw [smTo, ih (fun i hi => e i (by omega)), e n (by omega)]; rfl
theorem smTo_bd {h : Nat → Int} (B : Int) (n : Nat) (e : ∀ i, i < n → 0 ≤ h i ∧ h i ≤ B) : 0 ≤ smTo h n ∧ smTo h n ≤ n * B := by
  induction n with
  | zero => simp [smTo]
  | succ n ih =>
    have := ih (fun i hi => e i (by omega))
    have := e n (by omega)
    rw [smTo, Int.natCast_succ, Int.add_mul, Int.one_mul]; omega
/-- the sum of those that are not left. -/
def doneS (v : Nat → Int) (left : Nat → Bool) (n : Nat) : Int := smTo (fun i => if left i = true then 0 else v i) n
theorem doneS_step (v : Nat → Int) (left : Nat → Bool) (i : Nat) (hl : left i = true) : ∀ n, i < n → doneS v (fun j => left j && !decide (j = i)) n = doneS v left n + v i
  | 0, h => by omega
  | n + 1, h => by
    unfold doneS
    rw [smTo, smTo]
    by_cases e : i = n
    · subst e
      have : smTo (fun j => if (left j && !decide (j = i)) = true then 0 else v j) i = smTo (fun j => if left j = true then 0 else v j) i := smTo_congr i fun j hj => by
        have : decide (j = i) = false := decide_eq_false (by omega)
        simp [this]
      rw [this]
      simp [hl]
    · have := doneS_step v left i hl n (by omega)
      unfold doneS at this
      rw [this]
      have : decide (n = i) = false := decide_eq_false (by omega)
      simp [this]
      omega

theorem gb_drewN {a b : World} {r : Option Nat} (h : a.grownBy b r) (n : Nat) : a.grownBy (b.drewN n) r := ⟨h.os, h.tape, h.output, h.size, h.block⟩
theorem Below.drewN {B : Nat} {a b : World} (h : Below B a b) (n : Nat) : Below B a (b.drewN n) := ⟨h.os, h.tape, h.output, h.size, h.block⟩
theorem rangeLeft_kept {w w' : World} {b r N : Nat} {f : Nat → Option Value} {left : Nat → Bool} (h : RangeF Try.prog 3 w b r N f left) {row : Option Nat} (hg : w.grownBy w' row) (h1 : some b ≠ row) (h2 : some r ≠ row) : w'.rangeLeft b r = w.rangeLeft b r := by
  obtain ⟨D, L, cnt, g, rr⟩ := h
  rw [(g.kept hg h1 h2).left_eq, g.left_eq]

set_option maxHeartbeats 1000000 in
set_option maxRecDepth 100000 in
theorem total_any (w : World) (b : Nat) (q : Nat → A4) (g : Nat) (h : AccF w b q) (hg : g < 2) (hb : ∀ i, i < 21 → (0 ≤ (q i).c ∧ (q i).c ≤ 1125899906842624 ∧ 0 ≤ (q i).h ∧ (q i).h ≤ 1125899906842624) ∧ (0 ≤ (q i).u ∧ (q i).u ≤ 1125899906842624 ∧ 0 ≤ (q i).k ∧ (q i).k ≤ 1125899906842624)) :
    Calls Try.prog 116 #[.map (some b), .int .i64 g] w fun e w' => e = .returned (.int .i64 (smTo (fun i => part g (q i)) 21)) ∧ Below w.heap.size w w' := by
  have mixed : Try.prog.follows .mixedOrders = true := by kernel_rfl
  have hbl := h.lt
  obtain ⟨f, h1, h2⟩ := h
  have H1 : Aside (MapF Try.prog 3 w b 21 f) := h1
  have H2 : Aside (∀ i, i < 21 → (f i).getD (A4.val ⟨0, 0, 0, 0⟩) = (q i).val) := h2
  have HB : Aside _ := hb
  have hpart : ∀ i, i < 21 → 0 ≤ part g (q i) ∧ part g (q i) ≤ 2251799813685248 := fun i hi => by
    have := hb i hi
    unfold part
    split <;> omega
  have HP : Aside _ := hpart
  have hz : ∀ i, i < 21 → f i = none → part g (q i) = 0 := fun i hi e => by
    have := h2 i hi
    rw [e] at this
    have e2 : A4.val ⟨0, 0, 0, 0⟩ = (q i).val := this
    unfold A4.val at e2
    simp at e2
    obtain ⟨a1, a2, a3, a4⟩ := e2
    unfold part
    rw [← a1, ← a2, ← a3, ← a4]
    split <;> rfl
  have HZ : Aside _ := hz
  clear h1 h2 hb hpart hz
  go_enter Try.func116, Try.ntmps116
  go_wp2_with (first | (at_range; refine wpList_range_mapf _ rfl _ 121 rfl 3 184 K3 Try.underlying121 b 21 f rfl H1.out ?_; intro w0 hrg0 hg0 hs0) | fail)
  go_frame
  have R0 : Aside _ := hrg0
  have B0 : Aside (Below w.heap.size w w0) := ⟨hg0.os, hg0.tape, hg0.output, hg0.size, fun k hk => hg0.block k hk (by simp)⟩
  clear hrg0 hg0
  go_loopw [5] (fun s wr => ∃ (left : Nat → Bool), s = .int .i64 (doneS (fun i => part g (q i)) left 21) ∧ Aside (RangeF Try.prog 3 wr b w.heap.size 21 f left) ∧ Aside (Below w.heap.size w wr) ∧ w.heap.size + 1 ≤ wr.heap.size)
    (fun _ wr => wr.rangeLeft b w.heap.size)
  case atStart =>
    refine ⟨_, ?_, R0, B0, by omega⟩
    refine congrArg (Value.int .i64) (smTo_zero 21 fun i hi => ?_).symm
    show (if (f i).isSome = true then (0 : Int) else _) = 0
    cases hf : f i with
    | none => rw [if_neg (by simp)]; exact HZ.out i hi hf
    | some v => rw [if_pos (by simp)]
  case round =>
    obtain ⟨left, rfl, RG, BE, hsz⟩ := hrel
    go_wp2_with (first | (at_next; refine wpList_next_mapf _ rfl _ rfl 3 K3 Try.underlying3 b w.heap.size 21 f left rfl RG.out ?_ ?_) | fail)
    · intro hl
      have e : doneS (fun i => part g (q i)) left 21 = smTo (fun i => part g (q i)) 21 := smTo_congr 21 fun i hi => by rw [if_neg (by rw [hl i hi]; simp)]
      rw [e]
      clear hl e
      go_wp2
      go_ret
      exact ⟨rfl, BE.out⟩
    · intro i v w1 hi hl hv hrg hlt hg1 hs1 hen
      have e1 := H2.out i hi
      rw [hv] at e1
      have e2 : v = (q i).val := e1
      subst e2
      unfold A4.val at hen ⊢
      have st := doneS_step (fun i => part g (q i)) left i hl 21 hi
      have bd := smTo_bd (h := fun i => if left i = true then (0 : Int) else part g (q i)) 2251799813685248 21 (fun j hj => by
        have := HP.out j hj
        split <;> omega)
      have ST : Aside (doneS (fun i => part g (q i)) (fun j => left j && !decide (j = i)) 21 = doneS (fun i => part g (q i)) left 21 + part g (q i)) := st
      have bdd : 0 ≤ doneS (fun i => part g (q i)) left 21 ∧ doneS (fun i => part g (q i)) left 21 ≤ 21 * 2251799813685248 := bd
      obtain ⟨d1, d2⟩ := bdd
      clear bd st e1 hv hl
      have RG1 : Aside (RangeF Try.prog 3 w1 b w.heap.size 21 f (fun j => left j && !decide (j = i))) := hrg
      have LT1 : Aside (w1.rangeLeft b w.heap.size < wr.rangeLeft b w.heap.size) := hlt
      have BE1 : Aside (Below w.heap.size w w1) := BE.out.trans ⟨hg1.os, hg1.tape, hg1.output, hg1.size, fun k hk => hg1.block k (by omega) (by intro e; injection e; omega)⟩
      clear hrg hlt hg1 RG BE
      obtain ⟨⟨a1, a2, a3, a4⟩, a5, a6, a7, a8⟩ := HB.out i hi
      have hpi : part g (q i) = if g = 0 then (q i).c + (q i).h else (q i).u + (q i).k := rfl
      generalize doneS (fun i => part g (q i)) left 21 = D at *
      rcases (show g = 0 ∨ g = 1 by omega) with rfl | rfl
      · rw [if_pos rfl] at hpi
        have HPI : Aside _ := hpi
        clear hpi
        generalize (q i).c = xc at *
        generalize (q i).h = xh at *
        generalize (q i).u = xu at *
        generalize (q i).k = xk at *
        go_wp2_with fail
        go_quiet (fail)
        go_wp2
        have gk := gb_drewN (World.grownBy_alloc w1 (Obj.cells #[Value.int IntKind.i64 xc, Value.int IntKind.i64 xh, Value.int IntKind.i64 xu, Value.int IntKind.i64 xk] 184) none) nq
        go_roundw
        case rel =>
          refine ⟨_, congrArg _ (by rw [ST.out, HPI.out]), RangeF.kept RG1.out gk (by simp) (by simp), Below.drewN (BE1.out.alloc (by omega) _) nq, ?_⟩
          have := gk.size
          omega
        case measure =>
          rw [rangeLeft_kept RG1.out gk (by simp) (by simp)]
          exact LT1.out
      · rw [if_neg (by decide)] at hpi
        have HPI : Aside _ := hpi
        clear hpi
        generalize (q i).c = xc at *
        generalize (q i).h = xh at *
        generalize (q i).u = xu at *
        generalize (q i).k = xk at *
        go_wp2_with fail
        go_quiet (fail)
        go_wp2
        have gk := gb_drewN (World.grownBy_alloc w1 (Obj.cells #[Value.int IntKind.i64 xc, Value.int IntKind.i64 xh, Value.int IntKind.i64 xu, Value.int IntKind.i64 xk] 184) none) nq
        go_roundw
        case rel =>
          refine ⟨_, congrArg _ (by rw [ST.out, HPI.out]), RangeF.kept RG1.out gk (by simp) (by simp), Below.drewN (BE1.out.alloc (by omega) _) nq, ?_⟩
          have := gk.size
          omega
        case measure =>
          rw [rangeLeft_kept RG1.out gk (by simp) (by simp)]
          exact LT1.out
end Go.Proofs.Ytjfifaooimgbaaa
/- The batch's orders in memory. -/
namespace Go.Proofs.Ytjfifaooimgbaaa
open Go.Shelf Go.RowKit Go.Lib Go.Sort

def oc (o : Ex.Ord) : List Value := [.int .i64 (o.who : Int), .int .i64 o.side, .int .i64 o.price]
def ocs (os : List Ex.Ord) : List Value := os.flatMap oc
theorem ocs_append (a b : List Ex.Ord) : ocs (a ++ b) = ocs a ++ ocs b := List.flatMap_append
theorem ocs_length : ∀ os : List Ex.Ord, (ocs os).length = os.length * 3
  | [] => rfl
  | o :: r => by
    have := ocs_length r
    unfold ocs at this ⊢
    rw [List.flatMap_cons, List.length_append, this, List.length_cons]
    simp [oc]; omega
theorem ocs_at : ∀ (os : List Ex.Ord) (i : Nat), i < os.length → ∀ j, j < 3 → (ocs os)[i * 3 + j]? = (oc (os.getD i ⟨0, 0, 0⟩))[j]?
  | [], i, h, _, _ => by simp at h
  | o :: r, 0, _, j, hj => by
    unfold ocs
    rw [List.flatMap_cons, Nat.zero_mul, Nat.zero_add, List.getElem?_append_left (by simpa [oc] using hj)]
    rfl
  | o :: r, i + 1, h, j, hj => by
    have := ocs_at r i (by simpa using h) j hj
    unfold ocs at this ⊢
    rw [List.flatMap_cons, List.getElem?_append_right (by simp [oc]; omega), show (i + 1) * 3 + j - (oc o).length = i * 3 + j by simp [oc]; omega, this]
    rfl
/-- the slice v has these orders, and a row of its own. -/
def ORow (w : World) (v : Value) (os : List Ex.Ord) : Prop := w.ownsRow 0 171 3 v os.length (ocs os)
theorem ORow.nil (w : World) : ORow w (.slice none 0 0) [] := World.ownsRow_nil w 0 171 3
theorem ORow.lt {w : World} {v : Value} {os : List Ex.Ord} (h : ORow w v os) {k : Nat} (e : v.ownBlock = some k) : k < w.heap.size := (World.ownsRow.lt h k e).2
theorem ORow.kept {w w' : World} {v : Value} {os : List Ex.Ord} (h : ORow w v os) (hb : ∀ k, v.ownBlock = some k → w'.heap[k]? = w.heap[k]?) : ORow w' v os := by
  obtain ⟨h1, h2⟩ := h
  refine ⟨h1, ?_⟩
  rcases h2 with h2 | ⟨g, cap, cur, rfl, a1, a2, a3⟩
  · exact Or.inl h2
  · exact Or.inr ⟨g, cap, cur, rfl, a1, (hb g rfl).trans a2, a3⟩
/-- the orders lie at a. -/
def OrdsAt (w : World) (a : Option Addr) (os : List Ex.Ord) : Prop := ∀ i, i < os.length → ∃ g, a = some ⟨g, 0, none⟩ ∧ g < w.heap.size ∧ w.cell? ⟨g, i * 3, none⟩ = some (.int .i64 ((os.getD i ⟨0, 0, 0⟩).who : Int)) ∧ w.cell? ⟨g, i * 3 + 1, none⟩ = some (.int .i64 (os.getD i ⟨0, 0, 0⟩).side) ∧ w.cell? ⟨g, i * 3 + 2, none⟩ = some (.int .i64 (os.getD i ⟨0, 0, 0⟩).price)
theorem ORow.ords {w : World} {v : Value} {os : List Ex.Ord} (h : ORow w v os) : ∃ a cap, v = .slice a os.length cap ∧ OrdsAt w a os ∧ os.length ≤ cap := by
  rcases h.2 with ⟨rfl, h2⟩ | ⟨g, cap, cur, rfl, a1, a2, a3, a4⟩
  · refine ⟨none, 0, by rw [h2], fun i hi => by omega, by omega⟩
  · refine ⟨_, cap, rfl, fun i hi => ⟨g, rfl, (Array.getElem?_eq_some_iff.1 a2).1, ?_, ?_, ?_⟩, a3⟩
    · have := World.ownsRow.cells h (g := g) rfl (i * 3 + 0) _ ((ocs_at os i hi 0 (by omega)).trans rfl)
      rw [Addr.add_lit] at this
      simpa using this
    · have := World.ownsRow.cells h (g := g) rfl (i * 3 + 1) _ ((ocs_at os i hi 1 (by omega)).trans rfl)
      rw [Addr.add_lit] at this
      simpa using this
    · have := World.ownsRow.cells h (g := g) rfl (i * 3 + 2) _ ((ocs_at os i hi 2 (by omega)).trans rfl)
      rw [Addr.add_lit] at this
      simpa using this
theorem OrdsAt.below {w w' : World} {a : Option Addr} {os : List Ex.Ord} (h : OrdsAt w a os) (b : Below w.heap.size w w') : OrdsAt w' a os := fun i hi => by
  obtain ⟨g, e, h1, h2, h3, h4⟩ := h i hi
  exact ⟨g, e, Nat.lt_of_lt_of_le h1 b.size, (World.cell?_of_block (a := ⟨g, i * 3, none⟩) (b.block g h1)).trans h2, (World.cell?_of_block (a := ⟨g, i * 3 + 1, none⟩) (b.block g h1)).trans h3, (World.cell?_of_block (a := ⟨g, i * 3 + 2, none⟩) (b.block g h1)).trans h4⟩

def ordV (o : Ex.Ord) : Value := .agg #[.int .i64 (o.who : Int), .int .i64 o.side, .int .i64 o.price]
def goodOf (s : Int) : Nat := if s = 0 then 0 else 1
def stakeOf (o : Ex.Ord) : Int := if o.side = 0 then o.price else 1

set_option maxHeartbeats 1000000 in
set_option maxRecDepth 100000 in
theorem stake_any (o : Ex.Ord) (w : World) : Calls Try.prog 107 #[ordV o] w fun e w' => e = .returned (.tuple #[.int .i64 (goodOf o.side : Nat), .int .i64 (stakeOf o)]) ∧ Below w.heap.size w w' := by
  have mixed : Try.prog.follows .mixedOrders = true := by kernel_rfl
  unfold ordV goodOf stakeOf
  by_cases h : o.side = 0
  · rw [if_pos h, if_pos h]
    have hb : (o.side == 0) = true := by rw [h]; rfl
    go_enter Try.func107, Try.ntmps107
    go_wp2_with fail
    go_quiet (fail)
    go_wp2
    go_ret2
    exact ⟨rfl, Below.drewN ((Below.refl _ w).alloc (Nat.le_refl _) _) _⟩
  · rw [if_neg h, if_neg h]
    have hb : (o.side == 0) = false := beq_eq_false_iff_ne.2 h
    go_enter Try.func107, Try.ntmps107
    go_wp2
    go_ret2
    exact ⟨rfl, (Below.refl _ w).alloc (Nat.le_refl _) _⟩

set_option maxHeartbeats 1000000 in
set_option maxRecDepth 100000 in
theorem place1_any (o : Ex.Ord) (t X : Nat) (w : World) (hX : w.heap[X]? = some (.cells #[.int .i64 (t : Int)] 3 (0, 0))) : Calls Try.prog 133 #[ordV o, .pointer (some ⟨X, 0, none⟩)] w fun e w' => e = .returned (.bool (o.who == t)) ∧ Below w.heap.size w w' := by
  unfold ordV
  have hl := (Array.getElem?_eq_some_iff.1 hX).1
  have hc : ∀ (o : Obj), (w.alloc o).cell? ⟨X, 0, none⟩ = some (.int .i64 (t : Int)) := fun o => by
    rw [World.cell?_of_block (Below.heap_alloc w o X hl)]
    simp [World.cell?, hX]
  have he : ((o.who : Int) == (t : Int)) = (o.who == t) := by
    by_cases h : o.who = t
    · rw [h]; simp
    · rw [beq_eq_false_iff_ne.2 h, beq_eq_false_iff_ne.2 (by omega)]
  clear hX
  go_enter Try.func133, Try.ntmps133
  go_wp2
  go_ret
  exact ⟨rfl, (Below.refl _ w).alloc (Nat.le_refl _) _⟩
end Go.Proofs.Ytjfifaooimgbaaa
/- Where a trader's order stands; the orders' bids. -/
namespace Go.Proofs.Ytjfifaooimgbaaa
open Go.Shelf Go.RowKit Go.Lib Go.Sort

/-- where a trader's order stands; below 0: nowhere. -/
def placeX (os : List Ex.Ord) (t : Nat) : Int := match os.findIdx? (fun o => o.who == t) with | some i => (i : Int) | none => -1

theorem next_new (w : World) (o o' : Obj) : ((w.alloc o).alloc o').heap[w.heap.size + 1]? = some o' := by
  have := heap_alloc_new (w.alloc o) o'
  rwa [show (w.alloc o).heap.size = w.heap.size + 1 by simp] at this
theorem place_hit {os : List Ex.Ord} {t i : Nat} (hi : i < os.length) (h : (os.getD i ⟨0, 0, 0⟩).who = t) (hj : ∀ j, j < i → (os.getD j ⟨0, 0, 0⟩).who ≠ t) : os.findIdx? (fun o => o.who == t) = some i := by
  rw [List.findIdx?_eq_some_iff_getElem]
  refine ⟨hi, ?_, fun j hji => ?_⟩
  · rw [List.getD_eq_getElem?_getD, List.getElem?_eq_getElem hi] at h
    simpa using h
  · have := hj j hji
    rw [List.getD_eq_getElem?_getD, List.getElem?_eq_getElem (by omega)] at this
    simpa using this
theorem place_miss {os : List Ex.Ord} {t : Nat} (hj : ∀ j, j < os.length → (os.getD j ⟨0, 0, 0⟩).who ≠ t) : os.findIdx? (fun o => o.who == t) = none := by
  rw [List.findIdx?_eq_none_iff]
  intro x hx
  obtain ⟨j, hjl, rfl⟩ := List.getElem_of_mem hx
  have := hj j hjl
  rw [List.getD_eq_getElem?_getD, List.getElem?_eq_getElem hjl] at this
  simpa using this

set_option maxHeartbeats 1000000 in
set_option maxRecDepth 100000 in
theorem index_any (os : List Ex.Ord) (a : Option Addr) (cap t X : Nat) (w : World) (hO : OrdsAt w a os) (hX : w.heap[X]? = some (.cells #[.int .i64 (t : Int)] 3 (0, 0))) (hl : os.length ≤ 1000) :
    Calls Try.prog 132 #[.slice a os.length cap, .func (.func 133) #[] #[.pointer (some ⟨X, 0, none⟩)]] w fun e w' => e = .returned (.int .i64 (placeX os t)) ∧ Below w.heap.size w w' := by
  have mixed : Try.prog.follows .mixedOrders = true := by kernel_rfl
  have HO : Aside (OrdsAt w a os) := hO
  have HX : Aside (w.heap[X]? = some (.cells #[.int .i64 (t : Int)] 3 (0, 0))) := hX
  have hXl := (Array.getElem?_eq_some_iff.1 hX).1
  clear hO hX
  go_enter Try.func132, Try.ntmps132
  go_wp2_with fail
  go_loopg [8] os.length (fun kx s wq => ∃ (i : Nat), s = .int .i64 i ∧ i ≤ os.length ∧ os.length - i ≤ kx ∧ Aside (∀ j, j < i → (os.getD j ⟨0, 0, 0⟩).who ≠ t) ∧ Aside (Below w.heap.size w wq))
  case atStart => exact ⟨0, rfl, Nat.zero_le _, by omega, fun j hj => absurd hj (by omega), Below.refl _ _⟩
  case round =>
    obtain ⟨i, rfl, hi, hkx, NJ, BE⟩ := hrel
    by_cases hlt : i < os.length
    · have hltz : (i : Int) < (os.length : Int) := by omega
      obtain ⟨g, rfl, h1, h2, h3, h4⟩ := (HO.out.below BE.out) i hlt
      have HC : Aside _ := place1_any (os.getD i ⟨0, 0, 0⟩) t X wr ((BE.out.block X hXl).trans HX.out)
      unfold ordV at HC
      have NJ2 : Aside ((os.getD i ⟨0, 0, 0⟩).who ≠ t → ∀ j, j < i + 1 → (os.getD j ⟨0, 0, 0⟩).who ≠ t) := fun hn j hj => by
        by_cases e : j = i
        · rw [e]; exact hn
        · exact NJ.out j (by omega)
      have HIT : Aside ((os.getD i ⟨0, 0, 0⟩).who = t → placeX os t = i) := fun h => by
        unfold placeX
        rw [place_hit hlt h NJ.out]
      generalize os.getD i ⟨0, 0, 0⟩ = o at *
      go_wp2_with fail
      refine Calls.mono (f := 133) HC.out ?_
      rintro e w' ⟨rfl, q⟩
      have B2 : Aside (Below w.heap.size w w') := BE.out.trans (q.mono BE.out.size)
      clear HC q
      by_cases ho : o.who = t
      · have hb : (o.who == t) = true := by simpa using ho
        rw [hb]
        have HE : Aside (placeX os t = i) := HIT.out ho
        clear ho hb
        go_wp2
        go_ret
        exact ⟨by rw [HE.out]; rfl, B2.out⟩
      · have hb : (o.who == t) = false := by simpa using ho
        rw [hb]
        have N3 : Aside _ := NJ2.out ho
        clear ho hb
        go_wp2
        go_roundg (os.length - (i + 1))
        case measure => omega
        case rel => exact ⟨i + 1, by go_num, by omega, Nat.le_refl _, N3, B2⟩
    · have hltz : ¬ (i : Int) < (os.length : Int) := by omega
      obtain rfl : i = os.length := by omega
      have HE : Aside (placeX os t = -1) := by
        show _ = _
        unfold placeX
        rw [place_miss NJ.out]
      go_wp2
      go_ret
      exact ⟨by rw [HE.out]; rfl, BE.out⟩

set_option maxHeartbeats 1000000 in
set_option maxRecDepth 100000 in
theorem place_any (os : List Ex.Ord) (v : Value) (n f : Int) (t : Nat) (w : World) (hO : ORow w v os) (hl : os.length ≤ 1000) :
    Calls Try.prog 120 #[.agg #[.int .i64 n, .int .i64 f, v], .int .i64 t] w fun e w' => e = .returned (.int .i64 (placeX os t)) ∧ Below w.heap.size w w' := by
  have mixed : Try.prog.follows .mixedOrders = true := by kernel_rfl
  obtain ⟨a, cap, rfl, h1, h2⟩ := hO.ords
  obtain ⟨W, hW⟩ : ∃ W, W = (w.alloc (.cells #[.int .i64 n, .int .i64 f, .slice a os.length cap] 124)).alloc (.cells #[.int .i64 (t : Int)] 3) := ⟨_, rfl⟩
  have B : Below w.heap.size w W := by rw [hW]; exact ((Below.refl _ w).alloc (Nat.le_refl _) _).alloc (by simp) _
  have HC : Aside _ := index_any os a cap t (w.heap.size + 1) W (h1.below B) (by rw [hW]; exact next_new w _ _) hl
  have HB : Aside _ := B
  clear h1 h2 hO B
  go_enter Try.func120, Try.ntmps120
  go_wp2_with fail
  rw [← hW]
  clear hW
  refine Calls.mono (f := 132) HC.out ?_
  rintro e w' ⟨rfl, q⟩
  go_wp2
  go_ret
  exact ⟨rfl, HB.out.trans (q.mono HB.out.size)⟩
end Go.Proofs.Ytjfifaooimgbaaa
/- The orders' bids. -/
namespace Go.Proofs.Ytjfifaooimgbaaa
open Go.Shelf Go.RowKit Go.Lib Go.Sort

theorem bids_snoc (os : List Ex.Ord) (i : Nat) (h : i < os.length) : Ex.bidsOf (os.take (i + 1)) = Ex.bidsOf (os.take i) ++ [((os.getD i ⟨0, 0, 0⟩).side, (os.getD i ⟨0, 0, 0⟩).price)] := by
  unfold Ex.bidsOf
  rw [List.take_succ_eq_append_getElem h, List.map_append, List.getD_eq_getElem?_getD, List.getElem?_eq_getElem h]
  rfl
theorem flatO_two : ∀ (s : List (Int × Int)) (i : Nat), i < s.length → (flatO s)[i * 2]? = some (.int .i64 (s.getD i (0, 0)).1) ∧ (flatO s)[i * 2 + 1]? = some (.int .i64 (s.getD i (0, 0)).2)
  | [], i, h => by simp at h
  | x :: r, 0, _ => ⟨rfl, rfl⟩
  | x :: r, i + 1, h => by
    have := flatO_two r i (by simpa using h)
    have e : flatO (x :: r) = .int .i64 x.1 :: .int .i64 x.2 :: flatO r := rfl
    rw [e, show (i + 1) * 2 = i * 2 + 1 + 1 by omega, List.getElem?_cons_succ, List.getElem?_cons_succ, List.getElem?_cons_succ, List.getElem?_cons_succ]
    exact this
theorem row_bids {w : World} {B : Nat} {v : Value} {l : List (Int × Int)} (h : w.ownsRow B 29 2 v l.length (flatO l)) : ∃ a cap, v = .slice a l.length cap ∧ BidsAt w a l := by
  rcases h.2 with ⟨rfl, h2⟩ | ⟨g, cap, cur, rfl, a1, a2, a3⟩
  · exact ⟨none, 0, by rw [h2], fun i hi => by omega⟩
  · refine ⟨_, cap, rfl, fun i hi => ⟨g, 0, rfl, (Array.getElem?_eq_some_iff.1 a2).1, ?_, ?_⟩⟩
    · have := World.ownsRow.cells h (g := g) rfl (i * 2) _ (flatO_two l i hi).1
      rw [Addr.add_lit] at this
      exact this
    · have := World.ownsRow.cells h (g := g) rfl (i * 2 + 1) _ (flatO_two l i hi).2
      rw [Addr.add_lit] at this
      simpa [Nat.add_assoc] using this

set_option maxHeartbeats 1000000 in
set_option maxRecDepth 100000 in
theorem bids_any (os : List Ex.Ord) (v : Value) (n f : Int) (w : World) (hO : ORow w v os) (hl : os.length ≤ 1000) :
    Calls Try.prog 106 #[.agg #[.int .i64 n, .int .i64 f, v]] w fun e w' => ∃ a cap, e = .returned (.slice a os.length cap) ∧ BidsAt w' a (Ex.bidsOf os) ∧ Below w.heap.size w w' := by
  have mixed : Try.prog.follows .mixedOrders = true := by kernel_rfl
  obtain ⟨i0, hi, hz0, hz1, hz2⟩ := info_parts Try.info29
  obtain ⟨a, cap, rfl, h1, h2⟩ := hO.ords
  have HO : Aside (OrdsAt w a os) := h1
  clear h1 hO
  go_enter Try.func106, Try.ntmps106
  go_wp2_with fail
  have B0 : Aside (Below w.heap.size w (w.alloc (Obj.cells #[Value.int IntKind.i64 n, Value.int IntKind.i64 f, Value.slice a os.length cap] 124))) := (Below.refl _ w).alloc (Nat.le_refl _) _
  go_loopg [3, 9] os.length (fun kx s t wq => ∃ (i : Nat), t = .int .i64 i ∧ i ≤ os.length ∧ os.length - i ≤ kx ∧ Aside (wq.ownsRow w.heap.size 29 2 s i (flatO (Ex.bidsOf (os.take i)))) ∧ Aside (Below w.heap.size w wq))
  case atStart => exact ⟨0, rfl, Nat.zero_le _, by omega, World.ownsRow_nil _ _ _ _, B0⟩
  case round =>
    clear B0
    obtain ⟨i, rfl, hi', hkx, OW, BE⟩ := hrel
    by_cases hlt : i < os.length
    · have hltz : (i : Int) < (os.length : Int) := by omega
      obtain ⟨g, rfl, h1, h2, h3, h4⟩ := (HO.out.below BE.out) i hlt
      have EX : Aside _ := bids_snoc os i hlt
      generalize os.getD i ⟨0, 0, 0⟩ = o at *
      have hwz := BE.out.size
      go_wp2_with (first | (at_builtin; (refine wpList_append_own _ rfl _ _ 22 rfl w.heap.size 29 i0 (.agg #[.int .i64 0, .int .i64 0]) 2 16 Try.underlying22 hi hz0 hz1 hz2 rfl (by decide) _ _ _ rfl ((OW.out.alloc _).alloc _) ⟨wr.heap.size + 1, 0, none⟩ 1 1 [.int .i64 o.side, .int .i64 o.price] rfl rfl (cell_two_next _ _ _ _ _) (fun x hx => by simp at hx; rcases hx with rfl | rfl <;> rfl) (by unfold maxLen; omega) (by omega) (by simp; omega) ?_); intro v' w3 hown' hgrow3 hnil3) | fail)
      have hcl' : w.heap.size ≤ (((wr.alloc (Obj.cells #[Value.int IntKind.i64 (o.who : Int), Value.int IntKind.i64 o.side, Value.int IntKind.i64 o.price] 171)).alloc (Obj.cells #[Value.int IntKind.i64 o.side, Value.int IntKind.i64 o.price] 29))).heap.size := by simp; omega
      have B2 : Aside (Below w.heap.size w w3) := Below.grown ((BE.out.alloc (by omega) _).alloc (by simp; omega) _) hgrow3 hcl' (fun j hj => (OW.out.lt _ hj).1)
      have O2 : Aside (w3.ownsRow w.heap.size 29 2 v' (i + 1) (flatO (Ex.bidsOf (os.take (i + 1))))) := by
        show w3.ownsRow _ _ _ _ _ _
        rw [EX.out, flatO_append]; exact hown'
      clear hown' hgrow3 hnil3 hcl' OW BE
      go_roundg (os.length - (i + 1))
      case measure => omega
      case rel => exact ⟨i + 1, by go_num, by omega, Nat.le_refl _, O2, B2⟩
    · have hltz : ¬ (i : Int) < (os.length : Int) := by omega
      obtain rfl : i = os.length := by omega
      have OW2 : Aside (wr.ownsRow w.heap.size 29 2 u3 os.length (flatO (Ex.bidsOf os))) := by
        have := OW.out
        rwa [List.take_length] at this
      clear OW
      go_wp2
      go_ret
      have e : (Ex.bidsOf os).length = os.length := Ex.bids_length os
      have := OW2.out
      rw [← e] at this
      obtain ⟨a', c', rfl, hB⟩ := row_bids this
      rw [e]
      exact ⟨a', ⟨c', rfl⟩, hB, BE.out⟩
end Go.Proofs.Ytjfifaooimgbaaa
