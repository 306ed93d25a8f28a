import Derived.Test.YtjfifaooimgbaaaRows
import Derived.Test.YtjfifaooimgbaaaMp
import Derived.Test.YtjfifaooimgbaaaSym
import Derived.WalkKit
import Derived.WalkSpells
import Derived.WalkLawsBesides
import Derived.Shelf.SlSortCmp.KitK
import Derived.Sort.WalkB2
import Derived.Sort.WalkB12
import Derived.Deep.LoopGhost
import Derived.Deep.RegionWith
import Derived.Deep.QuietTactic
import Derived.BigQuiet
import Derived.Laws.IdiomStrings
import Derived.Laws.Alloc2
import Derived.Laws.Closers25
import Derived.Deep.AppendSrc
import Derived.Maps.AppendAt
/- What the walks of the market lean on. -/
namespace Go.Proofs.Ytjfifaooimgbaaa
open Go.Shelf Go.RowKit Go.Lib Go.Sort

theorem K3 : Maps.Keyed Try.prog 3 := Maps.int_keyed Try.underlying3
theorem key3 (i : Nat) (h : i < 1000000) : keyOf Try.prog 3 (.int .i64 (i : Int)) = some (ik i) := Maps.keyOf_int_mk Try.underlying3 (WalkArith.wf_i64 (by omega))

/-- what one has. -/
structure A4 where
  c : Int
  h : Int
  u : Int
  k : Int
def A4.val (a : A4) : Value := .agg #[.int .i64 a.c, .int .i64 a.h, .int .i64 a.u, .int .i64 a.k]
theorem z166 (w : World) : (zeroValue 184).run Try.prog w = .ok (A4.val ⟨0, 0, 0, 0⟩) w := by kernel_rfl
/-- block b is a map of accounts, of 21 at most: who has no entry has nothing. -/
def AccF (w : World) (b : Nat) (q : Nat → A4) : Prop := ∃ f, MapF Try.prog 3 w b 21 f ∧ ∀ i, i < 21 → (f i).getD (A4.val ⟨0, 0, 0, 0⟩) = (q i).val
theorem AccF.lt {w : World} {b : Nat} {q : Nat → A4} (h : AccF w b q) : b < w.heap.size := let ⟨_, h1, _⟩ := h; h1.lt
theorem AccF.kept {w w' : World} {b : Nat} {q : Nat → A4} (h : AccF w b q) (e : w'.heap[b]? = w.heap[b]?) : AccF w' b q := let ⟨f, h1, h2⟩ := h; ⟨f, h1.kept e, h2⟩
theorem AccF.alloc {w : World} {b : Nat} {q : Nat → A4} (h : AccF w b q) (o : Obj) : AccF (w.alloc o) b q := h.kept (Below.heap_alloc w o b h.lt)

def updA (q : Nat → A4) (i : Nat) (v : A4) : Nat → A4 := fun j => if j = i then v else q j

/-- nothing is turned but S's blocks, and what is new. -/
structure Onl (S : Nat → Prop) (w w' : World) : Prop where
  os : w'.os = w.os
  tape : w'.tape = w.tape
  output : w'.output = w.output
  size : w.heap.size ≤ w'.heap.size
  block : ∀ k, k < w.heap.size → ¬ S k → w'.heap[k]? = w.heap[k]?
theorem Onl.refl (S : Nat → Prop) (w : World) : Onl S w w := ⟨rfl, rfl, rfl, Nat.le_refl _, fun _ _ _ => rfl⟩
theorem Onl.trans {S T : Nat → Prop} {a b c : World} (h : Onl S a b) (k : Onl T b c) (hT : ∀ i, T i → S i ∨ a.heap.size ≤ i) : Onl S a c :=
  ⟨k.os.trans h.os, k.tape.trans h.tape, k.output.trans h.output, Nat.le_trans h.size k.size, fun i hi hs => (k.block i (Nat.lt_of_lt_of_le hi h.size) (fun t => by
    rcases hT i t with h1 | h1
    · exact hs h1
    · omega)).trans (h.block i hi hs)⟩
theorem Onl.mono {S T : Nat → Prop} {a b : World} (h : Onl S a b) (hT : ∀ i, S i → T i) : Onl T a b := ⟨h.os, h.tape, h.output, h.size, fun i hi hs => h.block i hi (fun s => hs (hT i s))⟩
theorem Onl.alloc {S : Nat → Prop} {a b : World} (h : Onl S a b) (o : Obj) : Onl S a (b.alloc o) :=
  ⟨h.os, h.tape, h.output, Nat.le_trans h.size (by simp), fun i hi hs => (Below.heap_alloc b o i (Nat.lt_of_lt_of_le hi h.size)).trans (h.block i hi hs)⟩
theorem Onl.drew {S : Nat → Prop} {a b : World} (h : Onl S a b) : Onl S a b.drew := ⟨h.os, h.tape, h.output, h.size, h.block⟩
theorem Onl.drewN {S : Nat → Prop} {a b : World} (h : Onl S a b) (n : Nat) : Onl S a (b.drewN n) := ⟨h.os, h.tape, h.output, h.size, h.block⟩
theorem Onl.grown {S : Nat → Prop} {a b c : World} (h : Onl S a b) {j : Nat} (g : b.grownBy c (some j)) (hj : S j ∨ a.heap.size ≤ j) : Onl S a c :=
  ⟨g.os.trans h.os, g.tape.trans h.tape, g.output.trans h.output, Nat.le_trans h.size g.size, fun i hi hs => (g.block i (Nat.lt_of_lt_of_le hi h.size) (fun e => by
    injection e with e
    subst e
    rcases hj with h1 | h1
    · exact hs h1
    · omega)).trans (h.block i hi hs)⟩
theorem Onl.grown0 {S : Nat → Prop} {a b c : World} (h : Onl S a b) (g : b.grownBy c none) : Onl S a c :=
  ⟨g.os.trans h.os, g.tape.trans h.tape, g.output.trans h.output, Nat.le_trans h.size g.size, fun i hi hs => (g.block i (Nat.lt_of_lt_of_le hi h.size) (by simp)).trans (h.block i hi hs)⟩
theorem Onl.set {S : Nat → Prop} {a b : World} (h : Onl S a b) (X : Addr) (v : Value) (hX : S X.block ∨ a.heap.size ≤ X.block) : Onl S a (b.setCell X v) :=
  ⟨h.os, h.tape, h.output, Nat.le_trans h.size (by simp [World.setCell]), fun i hi hs => (Below.heap_setCell b X v i (fun e => by
    subst e
    rcases hX with h1 | h1
    · exact hs h1
    · omega)).trans (h.block i hi hs)⟩
theorem Onl.below {S : Nat → Prop} {a b c : World} (h : Onl S a b) (g : Below b.heap.size b c) : Onl S a c :=
  ⟨g.os.trans h.os, g.tape.trans h.tape, g.output.trans h.output, Nat.le_trans h.size g.size, fun i hi hs => (g.block i (Nat.lt_of_lt_of_le hi h.size)).trans (h.block i hi hs)⟩

section
variable (w : World) {ops : Array Oper} {rest : List Oper} {o : Oper} {a : Act} {Q : Exit → Act → World → Prop}
theorem wpList_lookup_acc (hg : o.guard = none) (m x : Operand) (hop : o.op = Op.lookup 121 m x false) (b : Nat) (q : Nat → A4)
    (hm : a.eval m = .map (some b)) (h : AccF w b q) (i : Nat) (hi : i < 21) (hx : a.eval x = .int .i64 (i : Int)) (hK : wpList Try.prog ops Q rest (a.put o.dst (.agg #[.int .i64 (q i).c, .int .i64 (q i).h, .int .i64 (q i).u, .int .i64 (q i).k])) w) : wpList Try.prog ops Q (o :: rest) a w := by
  obtain ⟨f, h1, h2⟩ := h
  refine wpList_lookup_mapf w hg m x 121 hop 3 184 K3 Try.underlying121 _ (z166 w) b 21 f hm h1 i hi _ hx (key3 i (by omega)) ?_
  rw [h2 i hi]
  exact hK
theorem wpList_store_acc (hg : o.guard = none) (m x v : Operand) (hop : o.op = Op.mapUpdate 121 m x v) (b : Nat) (q : Nat → A4)
    (hm : a.eval m = .map (some b)) (h : AccF w b q) (i : Nat) (hi : i < 21) (hx : a.eval x = .int .i64 (i : Int)) (c1 c2 c3 c4 : Int) (hv : a.eval v = .agg #[.int .i64 c1, .int .i64 c2, .int .i64 c3, .int .i64 c4])
    (hK : ∀ w', AccF w' b (updA q i ⟨c1, c2, c3, c4⟩) → w.grownBy w' (some b) → w'.heap.size = w.heap.size → wpList Try.prog ops Q rest (a.put o.dst undef) w') : wpList Try.prog ops Q (o :: rest) a w := by
  obtain ⟨f, h1, h2⟩ := h
  refine wpList_store_mapf w hg m x v 121 hop 3 184 K3 Try.underlying121 b 21 f (by omega) hm h1 i hi _ _ hx hv (key3 i (by omega)) fun w' g1 g2 g3 => hK w' ⟨_, g1, fun j hj => ?_⟩ g2 g3
  unfold setF updA
  by_cases e : j = i
  · rw [if_pos e, if_pos e]; rfl
  · rw [if_neg e, if_neg e]; exact h2 j hj
end
end Go.Proofs.Ytjfifaooimgbaaa
/- append, of whatever is appended, to a slice that has its row. -/
namespace Go.Proofs.Ytjfifaooimgbaaa
open Go.Shelf Go.RowKit Go.Lib Go.Sort

theorem setCell_heap {w : World} {g : Nat} {cur : Array Value} {e : TypeId} (h : w.heap[g]? = some (.cells cur e (0, 0))) (o : Nat) (v : Value) : (w.setCell ⟨g, o, none⟩ v).heap[g]? = some (.cells (cur.setIfInBounds o v) e (0, 0)) := by
  simp [World.setCell, Array.getElem?_modify, h]

theorem setCells_heap (g : Nat) (e : TypeId) : ∀ (vs : List Value) (o : Nat) (w : World) (cur : Array Value), w.heap[g]? = some (.cells cur e (0, 0)) → o + vs.length ≤ cur.size →
    ∃ cur', (w.setCells g o vs).heap[g]? = some (.cells cur' e (0, 0)) ∧ cur'.size = cur.size ∧ cur'.toList.take (o + vs.length) = cur.toList.take o ++ vs ∧ w.grownBy (w.setCells g o vs) (some g) ∧ (w.setCells g o vs).heap.size = w.heap.size
  | [], o, w, cur, h, _ => ⟨cur, h, rfl, by simp, ⟨rfl, rfl, rfl, Nat.le_refl _, fun _ _ _ => rfl⟩, rfl⟩
  | v :: vs, o, w, cur, h, hs => by
    simp only [List.length_cons] at hs
    obtain ⟨cur', h1, h2, h3, h4, h5⟩ := setCells_heap g e vs (o + 1) (w.setCell ⟨g, o, none⟩ v) (cur.setIfInBounds o v) (setCell_heap h o v) (by simp; omega)
    have hsz : (w.setCell ⟨g, o, none⟩ v).heap.size = w.heap.size := by simp [World.setCell]
    refine ⟨cur', h1, by rw [h2]; simp, ?_, ⟨h4.os, h4.tape, h4.output, by rw [← hsz]; exact h4.size, fun k hk hne => (h4.block k (by omega) hne).trans (Below.heap_setCell w _ v k (fun e => hne (by rw [e])))⟩, by rw [show (w.setCells g o (v :: vs)) = (w.setCell ⟨g, o, none⟩ v).setCells g (o + 1) vs from rfl, h5, hsz]⟩
    rw [List.length_cons, show o + (vs.length + 1) = o + 1 + vs.length by omega, h3]
    have : (cur.setIfInBounds o v).toList.take (o + 1) = cur.toList.take o ++ [v] := by
      rw [Array.toList_setIfInBounds, List.take_add_one, List.take_set_of_le (by omega), List.getElem?_set_self (by simp; omega)]
      rfl
    rw [this]
    simp

theorem append_own_src {P : Program} (w : World) (t tx ty e : TypeId) (i : TypeInfo) (z : Value) (size bytes : Nat) (ht : P.underlying t = some (.slice e)) (hi : P.info? e = some i) (hz : i.zero = some z)
    (hsize : i.size = size) (hby : i.bytes = bytes) (hzs : z.cells.size = size)
    (v : Value) (n : Nat) (xs : List Value) (hown : w.ownsRow 0 e size v n xs) (x : Value) (m : Nat) (news : List Value) (hs : Src P size tx x m news w)
    (h63 : n + m ≤ maxLen) (hbytes : (n + m) * bytes ≤ 140737488355328) (hpos : 0 < n + m) :
    ∃ v' w', (Builtin.append_ #[t, tx] ty #[v, x]).run P w = .ok v' w' ∧ w'.ownsRow 0 e size v' (n + m) (xs ++ news) ∧ w.grownBy w' v.ownBlock ∧ (v'.ownBlock = v.ownBlock ∨ v'.ownBlock = some w.heap.size) := by
  subst hsize
  subst hby
  have hl := hs.newsLen
  have hsmall : n + m ≤ 9223372036854775807 := by simp only [maxLen] at h63; omega
  have hlen : (xs ++ news).length = (n + m) * i.size := by rw [List.length_append, hown.1, hl, Nat.add_mul]
  have grown : ∀ (old : Nat), old < n + m → ∀ (row : Option Nat),
      (w.drew.alloc (.cells ((xs ++ news).toArray ++ Builtin.zeroCells z.cells (grownCap w (n + m) old e - (n + m))) e)).ownsRow 0 e i.size
        (.slice (some ⟨w.heap.size, 0, none⟩) (n + m) (grownCap w (n + m) old e)) (n + m) (xs ++ news) ∧
      w.grownBy (w.drew.alloc (.cells ((xs ++ news).toArray ++ Builtin.zeroCells z.cells (grownCap w (n + m) old e - (n + m))) e)) row := by
    intro old ho row
    have hge := grownCap_ge w (n + m) old e
    have hcm : grownCap w (n + m) old e ≤ maxLen := grownCap_le_maxLen w (n + m) old e h63
    refine ⟨⟨hlen, .inr ⟨w.heap.size, _, _, rfl, Nat.zero_le _, heap_alloc_new w.drew _, hge, hcm, ?_, ?_⟩⟩, ⟨rfl, rfl, rfl, by simp, fun k hk _ => Below.heap_alloc w.drew _ k hk⟩⟩
    · simp only [Array.size_append, List.size_toArray, size_zeroCells, hzs, hlen, ← Nat.add_mul]
      congr 1
      omega
    · simp only [Array.toList_append]
      rw [← hlen]
      exact List.take_left
  rcases hown.2 with ⟨rfl, rfl⟩ | ⟨g, cap, cur, rfl, hbg, hg, hnc, hcm, hcs, htake⟩
  · have hx : xs = [] := List.eq_nil_of_length_eq_zero (by simpa using hown.1)
    subst hx
    have hr := run_append_grow_src (P := P) w t tx ty e i z ht hi hz none 0 0 [] (run_firstCells_none w.drew i.size 0 0 0) x m news hs (by omega) (by omega) (growslice_fits (by omega) hbytes)
    have hgr := grown 0 (by omega) (Value.ownBlock (.slice none 0 0))
    exact ⟨_, _, hr, hgr.1, hgr.2, Or.inr rfl⟩
  · by_cases hroom : n + m ≤ cap
    · have hfit : n * i.size + news.length ≤ cur.size := by rw [hl, hcs, ← Nat.add_mul]; exact Nat.mul_le_mul_right _ hroom
      obtain ⟨cur', k1, k2, k3, k4, _⟩ := setCells_heap g e news (0 + n * i.size) w cur hg (by omega)
      have hr := run_append_room_src (P := P) w t tx ty e i ht hi g 0 n cap x m news hs hroom (fun j hj => by
        have : (0 + n * i.size + j) < cur.size := by omega
        simp only [World.cell?, hg]
        simp
        omega) (fun j hj => by simp [World.frozen?, hg])
      refine ⟨_, _, hr, ⟨hlen, .inr ⟨g, cap, cur', rfl, hbg, k1, hroom, hcm, by rw [k2, hcs], ?_⟩⟩, k4, Or.inl rfl⟩
      rw [← hlen, List.length_append, hown.1]
      rw [Nat.zero_add] at k3
      rw [k3, htake]
    · have holds : ∀ j u, xs[j]? = some u → w.cell? ((⟨g, 0, none⟩ : Addr).add j) = some u := hown.cells (g := g) rfl
      have hr := run_append_grow_src (P := P) w t tx ty e i z ht hi hz (some ⟨g, 0, none⟩) n cap xs (run_firstCells_some w.drew i.size n ⟨g, 0, none⟩ n cap xs hown.1 (by simpa using holds)) x m news hs (by omega) (by omega) (growslice_fits (by omega) hbytes)
      have hgr := grown cap (by omega) (Value.ownBlock (.slice (some ⟨g, 0, none⟩) n cap))
      exact ⟨_, _, hr, hgr.1, hgr.2, Or.inr rfl⟩

/-- bytes, as cells. -/
def bcs (l : List UInt8) : List Value := l.map (fun b => Value.int .u8 b.toNat)
theorem bcs_append (l r : List UInt8) : bcs (l ++ r) = bcs l ++ bcs r := List.map_append
theorem bcs_length (l : List UInt8) : (bcs l).length = l.length := List.length_map _
/-- the slice v has these bytes, and a row of its own. -/
def BRow (w : World) (v : Value) (l : List UInt8) : Prop := w.ownsRow 0 5 1 v l.length (bcs l)
theorem BRow.nil (w : World) : BRow w (.slice none 0 0) [] := World.ownsRow_nil w 0 5 1
theorem BRow.lt {w : World} {v : Value} {l : List UInt8} (h : BRow w v l) {k : Nat} (e : v.ownBlock = some k) : k < w.heap.size := (World.ownsRow.lt h k e).2
theorem BRow.kept {w w' : World} {v : Value} {l : List UInt8} (h : BRow w v l) (hb : ∀ k, v.ownBlock = some k → w'.heap[k]? = w.heap[k]?) : BRow w' v l := by
  obtain ⟨h1, h2⟩ := h
  refine ⟨h1, ?_⟩
  rcases h2 with h2 | ⟨g, cap, cur, rfl, a1, a2, a3⟩
  · exact Or.inl h2
  · exact Or.inr ⟨g, cap, cur, rfl, a1, (hb g rfl).trans a2, a3⟩
theorem Try.info5' : (Try.prog.info? 5).map (fun i => (i.zero, i.size, i.bytes)) = some (some (.int .u8 0), 1, 1) := by kernel_rfl
theorem u64_bytes_one (l : List UInt8) : ∀ u ∈ bcs l, u.oneCell' = true := fun u hu => by
  obtain ⟨_, _, rfl⟩ := List.mem_map.1 hu
  rfl
theorem src_str (w : World) (l : List UInt8) : Src Try.prog 1 9 (.string ⟨l.toArray⟩) l.length (bcs l) w := Src.ofString (P := Try.prog) w (tx := 9) Try.underlying9 ⟨l.toArray⟩
theorem src_one (w : World) (b : UInt8) (t : TypeId) : Src Try.prog 1 98 (.slice (some ⟨w.heap.size, 0, none⟩) 1 1) 1 (bcs [b]) (w.alloc (.cells #[.int .u8 b.toNat] t)) :=
  Src.ofSlice _ Try.underlying98 _ 1 1 _ rfl (cell_one_new w _ _) (u64_bytes_one _)
theorem src_row (w : World) (v : Value) (l : List UInt8) (h : BRow w v l) : Src Try.prog 1 98 v l.length (bcs l) w := by
  rcases h.2 with ⟨rfl, h2⟩ | ⟨g, cap, cur, rfl, a1, a2, a3⟩
  · cases l with
    | nil => exact Src.ofNil _ Try.underlying98 0
    | cons a r => simp at h2
  · exact Src.ofSlice _ Try.underlying98 _ _ _ _ (by rw [bcs_length, Nat.mul_one]) (World.ownsRow.cells h rfl) (u64_bytes_one _)

theorem wpList_append_bytes (w : World) {ops : Array Oper} {rest : List Oper} {o : Oper} {a : Act} {Q : Exit → Act → World → Prop} (hgd : o.guard = none) (s x : Operand) (tx : TypeId)
    (ho : o.op = .call { callee := .builtin .append, args := #[s, x], argTypes := #[98, tx] }) (v : Value) (l : List UInt8) (hs : a.eval s = v) (hown : BRow w v l) (xv : Value) (hx : a.eval x = xv) (news : List UInt8) (hsrc : Src Try.prog 1 tx xv news.length (bcs news) w)
    (hb : l.length + news.length ≤ 70368744177664) (hpos : 0 < l.length + news.length)
    (h : ∀ v' w', BRow w' v' (l ++ news) → w.grownBy w' v.ownBlock → (v'.ownBlock = v.ownBlock ∨ v'.ownBlock = some w.heap.size) → wpList Try.prog ops Q rest (a.put o.dst v') w') : wpList Try.prog ops Q (o :: rest) a w := by
  refine wpList_plain hgd fun K hK => ?_
  obtain ⟨i0, hi, hz0, hz1, hz2⟩ := info_parts Try.info5'
  obtain ⟨v', w', hr, h2, h3, h4⟩ := append_own_src (P := Try.prog) w 98 tx o.type 5 i0 (.int .u8 0) 1 1 Try.underlying98 hi hz0 hz1 hz2 rfl v l.length (bcs l) hown xv news.length (bcs news) hsrc (by unfold maxLen; omega) (by omega) hpos
  unfold Oper.wp execOp
  simp only [ho, resolve, invoke, builtin, Sem.run_bind, Sem.run_pure, Result.andThen_ok, List.map_toArray, List.map_cons, List.map_nil, hs, hx, hr]
  refine hK _ _ (h v' w' ?_ h3 h4)
  unfold BRow
  rw [bcs_append, List.length_append]
  exact h2
end Go.Proofs.Ytjfifaooimgbaaa
