import Derived.Maps.RangeWalk
import Derived.Maps.OwnOps
import Derived.WalkArith
import Derived.Test.YtjfifaooimgbaaaRows
import Derived.Test.YtjfifaooimgbaaaSym
import Derived.WalkKit
import Derived.WalkSpells
import Derived.WalkLawsBesides
import Derived.Shelf.SlSortCmp.KitK
import Derived.Sort.WalkB2
import Derived.Sort.WalkB12
import Derived.Deep.LoopGhost
import Derived.Deep.RegionWith
import Derived.Deep.QuietTactic
import Derived.BigQuiet
import Derived.Laws.IdiomStrings
import Derived.Laws.Alloc2
import Derived.Laws.Closers25
import Derived.Deep.AppendSrc
import Derived.Maps.AppendAt
/- Maps keyed by small numbers, whatever stands in them. -/
namespace Go.Proofs.Ytjfifaooimgbaaa
open Go.Maps (Keyed)

/-- whatever stands in a map, as it stands. -/
def tokR (v : Value) : Option (DataW Value × List MemPlace) := some (.held v, [])

abbrev ik (i : Nat) : Lit := .int .i64 (i : Int)

/-- block b is a map with keys below N; f: what stands where. -/
def MapF (P : Program) (k : TypeId) (w : World) (b N : Nat) (f : Nat → Option Value) : Prop :=
  ∃ D, w.ownsMap P k tokR b N D ∧ (∀ i, i < N → ∀ zd, D.atKey (ik i) zd = ((f i).map DataW.held).getD zd) ∧ (∀ kl, Maps.has D kl = true → ∃ i, i < N ∧ kl = ik i)

theorem ik_inj {i j : Nat} (h : ik i = ik j) : i = j := by
  unfold ik at h
  injection h with _ h
  exact Int.ofNat.inj h

theorem IsKeyLit_ik (i : Nat) : WideAt.IsKeyLit (ik i) := by
  constructor

theorem pig (N : Nat) : ∀ (l : List Nat), l.Pairwise (· ≠ ·) → (∀ i ∈ l, i < N) → l.length ≤ N := by
  induction N with
  | zero =>
    intro l _ h
    cases l with
    | nil => simp
    | cons a r => exact absurd (h a (by simp)) (by omega)
  | succ N ih =>
    intro l hp h
    have e := ih (l.filter (· != N)) (hp.filter _) (fun i hi => by
      obtain ⟨h1, h2⟩ := List.mem_filter.1 hi
      have := h i h1
      have : i ≠ N := by simpa using h2
      omega)
    have : ∀ (l : List Nat), l.Pairwise (· ≠ ·) → l.length ≤ (l.filter (· != N)).length + 1 := by
      intro l
      induction l with
      | nil => simp
      | cons a r ihr =>
        intro hp
        obtain ⟨h1, h2⟩ := List.pairwise_cons.1 hp
        by_cases ha : a = N
        · subst ha
          have : r.filter (· != a) = r := List.filter_eq_self.2 fun x hx => by simpa using (h1 x hx).symm
          simp [this]
        · have := ihr h2
          simp [ha]
          omega
    have := this l hp
    omega

theorem ownsMap_tight {P : Program} {k : TypeId} {w : World} {b n N : Nat} {D : DataW Value} (K : Keyed P k) (h : w.ownsMap P k tokR b n D) (hd : ∀ kl, Maps.has D kl = true → ∃ i, i < N ∧ kl = ik i) : w.ownsMap P k tokR b N D := by
  obtain ⟨es', hD, hp, _⟩ := h.entries K
  obtain ⟨es, clock, hb, F, hs, rfl⟩ := h
  refine ⟨es, clock, hb, F, ?_, rfl⟩
  have e1 : es'.length = es.size := by
    have : (DataW.map ((es.toList.map (WideElems.rg P k tokR)).foldr DataW.insert []) : DataW Value) = .map es' := hD
    injection this with this
    rw [← this, length_sorted]; simp
  rw [← e1]
  have hall : ∀ p ∈ es', ∃ i, i < N ∧ p.1 = ik i := fun p hp' => hd p.1 (by
    rw [hD]
    show es'.any (fun q => q.1.sameKey p.1) = true
    exact List.any_eq_true.2 ⟨p, hp', WideAt.sameKey_self (by
      rename_i hk
      exact hk p hp')⟩)
  have := pig N (es'.map (fun p => match p.1 with | .int _ a => a.toNat | _ => 0)) (by
    rw [List.pairwise_map]
    refine List.Pairwise.imp_of_mem ?_ hp
    intro p q hp1 hq1 hne he
    obtain ⟨i, hi, e2⟩ := hall p hp1
    obtain ⟨j, hj, e3⟩ := hall q hq1
    rw [e2, e3] at he
    simp at he
    exact hne (by rw [e2, e3, he])) (fun i hi => by
    obtain ⟨p, hp1, rfl⟩ := List.mem_map.1 hi
    obtain ⟨j, hj, e2⟩ := hall p hp1
    rw [e2]
    simpa using hj)
  simpa using this

theorem MapF.lt {P k w b N f} (h : MapF P k w b N f) : b < w.heap.size := let ⟨_, h1, _⟩ := h; h1.lt
theorem MapF.kept {P k w b N f} {w' : World} (h : MapF P k w b N f) (hb : w'.heap[b]? = w.heap[b]?) : MapF P k w' b N f := by
  obtain ⟨D, ⟨es, clock, h1, r⟩, h2⟩ := h
  exact ⟨D, ⟨es, clock, hb.trans h1, r⟩, h2⟩
theorem MapF.made (P : Program) (k : TypeId) (w : World) (N : Nat) : MapF P k (w.alloc (.map #[] 0)) w.heap.size N (fun _ => none) :=
  ⟨.map [], (World.ownsMap_made w P k tokR).mono (Nat.zero_le _), fun _ _ _ => rfl, fun kl h => by simp [Maps.has] at h⟩

/-- what stands behind a store. -/
def setF (f : Nat → Option Value) (i : Nat) (v : Value) : Nat → Option Value := fun j => if j = i then some v else f j

theorem MapF.look {P k w b N f} (h : MapF P k w b N f) (K : Keyed P k) {t e : TypeId} (ht : P.underlying t = some (.map k e)) {z : Value} (hz : (zeroValue e).run P w = .ok z w) {i : Nat} (hi : i < N) {key : Value} (hkey : keyOf P k key = some (ik i)) :
    (Instr.lookup t (.map (some b)) key false).run P w = .ok ((f i).getD z) w := by
  obtain ⟨D, h1, h2, _⟩ := h
  obtain ⟨v, ps, hrun, hv⟩ := h1.lookup K ht hz (zd := .held z) (zp := []) rfl hkey
  rw [h2 i hi] at hv
  unfold tokR at hv
  cases hf : f i with
  | none => rw [hf] at hv; simp at hv; rw [hrun, hv.1]; rfl
  | some u => rw [hf] at hv; simp at hv; rw [hrun, hv.1]; rfl

theorem MapF.has_eq {P : Program} {k : TypeId} {w : World} {b N : Nat} {f : Nat → Option Value} {D : DataW Value} (_h1 : w.ownsMap P k tokR b N D) (h2 : ∀ i, i < N → ∀ zd, D.atKey (ik i) zd = ((f i).map DataW.held).getD zd) {i : Nat} (hi : i < N) : Maps.has D (ik i) = (f i).isSome := by
  cases hf : f i with
  | none => exact Maps.has_false_of_atKey (fun z => by rw [h2 i hi, hf]; rfl)
  | some v => exact Maps.has_true_of_atKey (y := .held v) (fun z => by rw [h2 i hi, hf]; rfl)

theorem MapF.look_ok {P k w b N f} (h : MapF P k w b N f) (K : Keyed P k) {t e : TypeId} (ht : P.underlying t = some (.map k e)) {z : Value} (hz : (zeroValue e).run P w = .ok z w) {i : Nat} (hi : i < N) {key : Value} (hkey : keyOf P k key = some (ik i)) :
    (Instr.lookup t (.map (some b)) key true).run P w = .ok (.tuple #[(f i).getD z, .bool (f i).isSome]) w := by
  obtain ⟨D, h1, h2, _⟩ := h
  obtain ⟨v, ps, hrun, hv⟩ := h1.look_ok K ht hz (zd := .held z) (zp := []) rfl hkey
  rw [MapF.has_eq h1 h2 hi] at hrun
  rw [h2 i hi] at hv
  unfold tokR at hv
  cases hf : f i with
  | none => rw [hf] at hv hrun; simp at hv; rw [hrun, hv.1]; rfl
  | some u => rw [hf] at hv hrun; simp at hv; rw [hrun, hv.1]; rfl

theorem MapF.store {P k w b N f} (h : MapF P k w b N f) (K : Keyed P k) {t e : TypeId} (ht : P.underlying t = some (.map k e)) {i : Nat} (hi : i < N) (hN : N ≤ 1000000) {key : Value} (hkey : keyOf P k key = some (ik i)) (v : Value) :
    ∃ w', (Instr.mapUpdate t (.map (some b)) key v).run P w = .ok () w' ∧ MapF P k w' b N (setF f i v) ∧ w.grownBy w' (some b) ∧ w'.heap.size = w.heap.size := by
  obtain ⟨D, h1, h2, h3⟩ := h
  obtain ⟨w', hrun, g1, g2⟩ := h1.store K ht (by unfold maxLen; omega) hkey (val := v) (d := .held v) (ps := []) rfl
  refine ⟨w', hrun, ⟨D.put (ik i) (.held v), ownsMap_tight K g1 ?_, fun j hj zd => ?_, ?_⟩, g2.grown, ?_⟩
  · intro kl hk
    by_cases e : kl = ik i
    · exact ⟨i, hi, e⟩
    · rw [Maps.has_put_other e] at hk; exact h3 kl hk
  · unfold setF
    by_cases e : j = i
    · subst e
      rw [Maps.atKey_put_same h1.isMap (IsKeyLit_ik _), if_pos rfl]; rfl
    · rw [Maps.atKey_put_other (fun h => e (ik_inj h)), if_neg e]; exact h2 j hj zd
  · intro kl hk
    by_cases e : kl = ik i
    · exact ⟨i, hi, e⟩
    · rw [Maps.has_put_other e] at hk; exact h3 kl hk
  · obtain ⟨es, clock, es', clock', hb, rfl⟩ := g2
    simp [ChangeMaps.setBlock]

/-! ### at the operation -/
section
variable {P : Program} (w : World) {ops : Array Oper} {rest : List Oper} {o : Oper} {a : Act} {Q : Exit → Act → World → Prop}

theorem wpList_lookup_mapf (hg : o.guard = none) (m x : Operand) (t : TypeId) (hop : o.op = Op.lookup t m x false) (k e : TypeId) (K : Keyed P k) (ht : P.underlying t = some (.map k e)) (z : Value) (hz : (zeroValue e).run P w = .ok z w) (b N : Nat) (f : Nat → Option Value)
    (hm : a.eval m = .map (some b)) (h : MapF P k w b N f) (i : Nat) (hi : i < N) (key : Value) (hx : a.eval x = key) (hkey : keyOf P k key = some (ik i)) (hK : wpList P ops Q rest (a.put o.dst ((f i).getD z)) w) : wpList P ops Q (o :: rest) a w := by
  refine wpList_plain hg fun K' hK' => ?_
  unfold Oper.wp
  simp [execOp, hop, hm, hx, h.look K ht hz hi hkey, Result.andThen]
  exact hK' _ _ hK

theorem wpList_store_mapf (hg : o.guard = none) (m x v : Operand) (t : TypeId) (hop : o.op = Op.mapUpdate t m x v) (k e : TypeId) (K : Keyed P k) (ht : P.underlying t = some (.map k e)) (b N : Nat) (f : Nat → Option Value) (hN : N ≤ 1000000)
    (hm : a.eval m = .map (some b)) (h : MapF P k w b N f) (i : Nat) (hi : i < N) (key val : Value) (hx : a.eval x = key) (hv : a.eval v = val) (hkey : keyOf P k key = some (ik i))
    (hK : ∀ w', MapF P k w' b N (setF f i val) → w.grownBy w' (some b) → w'.heap.size = w.heap.size → wpList P ops Q rest (a.put o.dst undef) w') : wpList P ops Q (o :: rest) a w := by
  refine wpList_plain hg fun K' hK' => ?_
  obtain ⟨w', hrun, r1, r2, r3⟩ := h.store K ht hi hN hkey val
  unfold Oper.wp
  simp [execOp, hop, hm, hx, hv, hrun, Result.andThen]
  exact hK' _ _ (hK w' r1 r2 r3)

/-- a range over such a map under way: which are still to come. -/
def RangeF (P : Program) (k : TypeId) (w : World) (b r N : Nat) (f : Nat → Option Value) (left : Nat → Bool) : Prop :=
  ∃ D L cnt, w.ranges P k tokR b r N D L cnt ∧ (∀ i, i < N → ∀ zd, D.atKey (ik i) zd = ((f i).map DataW.held).getD zd) ∧ (∀ kl, Maps.has D kl = true → ∃ i, i < N ∧ kl = ik i) ∧ (∀ i, i < N → L (ik i) = left i) ∧ (∀ kl, L kl = true → Maps.has D kl = true)

theorem RangeF.kept {k : TypeId} {w w' : World} {b r N : Nat} {f : Nat → Option Value} {left : Nat → Bool} (h : RangeF P k w b r N f left) {row : Option Nat} (hg : w.grownBy w' row) (h1 : some b ≠ row) (h2 : some r ≠ row) : RangeF P k w' b r N f left := by
  obtain ⟨D, L, cnt, g, rr⟩ := h
  exact ⟨D, L, cnt, g.kept hg h1 h2, rr⟩

theorem wpList_range_mapf (hg : o.guard = none) (m : Operand) (t : TypeId) (hop : o.op = Op.range t m) (k e : TypeId) (K : Keyed P k) (ht : P.underlying t = some (.map k e)) (b N : Nat) (f : Nat → Option Value)
    (hm : a.eval m = .map (some b)) (h : MapF P k w b N f)
    (hK : ∀ w', RangeF P k w' b w.heap.size N f (fun i => (f i).isSome) → w.grownBy w' none → w'.heap.size = w.heap.size + 1 → wpList P ops Q rest (a.put o.dst (.pointer (some ⟨w.heap.size, 0, none⟩))) w') :
    wpList P ops Q (o :: rest) a w := by
  obtain ⟨D, h1, h2, h3⟩ := h
  refine wpList_range_own w hg m t hop k e K ht tokR b N D hm h1 fun w' g1 g2 g3 => hK w' ⟨D, _, _, g1, h2, h3, fun i hi => MapF.has_eq h1 h2 hi, fun kl h => h⟩ g2 g3

theorem sameKey_ik (i j : Nat) : (ik j).sameKey (ik i) = decide (j = i) := by
  by_cases e : j = i
  · subst e; simp [WideAt.sameKey_self (IsKeyLit_ik j)]
  · simp [e, Maps.sameKey_ne (fun h => e (ik_inj h))]

theorem wpList_next_mapf (hg : o.guard = none) (it : Operand) (hop : o.op = Op.next it false) (k : TypeId) (K : Keyed P k) (hk : P.underlying k = some (.int .i64)) (b r N : Nat) (f : Nat → Option Value) (left : Nat → Bool)
    (hit : a.eval it = .pointer (some ⟨r, 0, none⟩)) (h : RangeF P k w b r N f left)
    (hDone : (∀ i, i < N → left i = false) → wpList P ops Q rest (a.put o.dst (.tuple #[.bool false])) w)
    (hMore : ∀ (i : Nat) (v : Value) (w' : World), i < N → left i = true → f i = some v → RangeF P k w' b r N f (fun j => left j && !decide (j = i)) → w'.rangeLeft b r < w.rangeLeft b r →
      w.grownBy w' (some r) → w'.heap.size = w.heap.size → (Instr.entry (.pointer (some ⟨r, 0, none⟩))).run P w' = .ok (.tuple #[.int .i64 i, v]) w' → wpList P ops Q rest (a.put o.dst (.tuple #[.bool true, .int .i64 i, v])) w') :
    wpList P ops Q (o :: rest) a w := by
  obtain ⟨D, L, cnt, g1, g2, g3, g4, g5⟩ := h
  refine wpList_next_ranges (α := Value) (β := Value) w hg it hop k K tokR id id (fun key kl _ => ⟨key, rfl⟩) (fun v y _ => ⟨v, rfl⟩) b r N D L cnt hit g1 (fun _ hl => hDone fun i hi => by rw [← g4 i hi]; exact hl _) ?_
  intro x c kl y w' cnt' hkey hlk hv hat hrg hlt hgr hsz hen
  obtain ⟨i, hi, rfl⟩ := g3 kl (g5 kl hlk)
  obtain ⟨x', ex, e2, _⟩ := Maps.keyOf_int_inv hk hkey
  have ex' : x = .int .i64 x' := ex
  injection e2 with _ e2
  subst e2
  subst ex'
  have e3 : y = (.held c, []) := by
    have : tokR c = some y := hv
    unfold tokR at this
    injection this with this
    exact this.symm
  subst e3
  have e4 := hat .nil
  rw [g2 i hi] at e4
  have e5 : f i = some c := by
    cases hf : f i with
    | none => rw [hf] at e4; simp at e4
    | some u => rw [hf] at e4; simp at e4; rw [e4]
  refine hMore i c w' hi (by rw [← g4 i hi]; exact hlk) e5 ⟨D, _, cnt', hrg, g2, g3, fun j hj => ?_, fun kl h => g5 kl ?_⟩ ?_ hgr hsz hen
  · show (L (ik j) && !(ik j).sameKey (ik i)) = _
    rw [g4 j hj, sameKey_ik]
  · simp only [Bool.and_eq_true] at h
    exact h.1
  · rw [hrg.left_eq, g1.left_eq]; exact hlt
end
end Go.Proofs.Ytjfifaooimgbaaa
/- What the walks of the market lean on. -/
namespace Go.Proofs.Ytjfifaooimgbaaa
open Go.Shelf Go.RowKit Go.Lib Go.Sort

theorem K3 : Maps.Keyed Try.prog 3 := Maps.int_keyed Try.underlying3
theorem key3 (i : Nat) (h : i < 1000000) : keyOf Try.prog 3 (.int .i64 (i : Int)) = some (ik i) := Maps.keyOf_int_mk Try.underlying3 (WalkArith.wf_i64 (by omega))

/-- what one has. -/
structure A4 where
  c : Int
  h : Int
  u : Int
  k : Int
def A4.val (a : A4) : Value := .agg #[.int .i64 a.c, .int .i64 a.h, .int .i64 a.u, .int .i64 a.k]
theorem z166 (w : World) : (zeroValue 184).run Try.prog w = .ok (A4.val ⟨0, 0, 0, 0⟩) w := by kernel_rfl
/-- block b is a map of accounts, of 21 at most: who has no entry has nothing. -/
def AccF (w : World) (b : Nat) (q : Nat → A4) : Prop := ∃ f, MapF Try.prog 3 w b 21 f ∧ ∀ i, i < 21 → (f i).getD (A4.val ⟨0, 0, 0, 0⟩) = (q i).val
theorem AccF.lt {w : World} {b : Nat} {q : Nat → A4} (h : AccF w b q) : b < w.heap.size := let ⟨_, h1, _⟩ := h; h1.lt
theorem AccF.kept {w w' : World} {b : Nat} {q : Nat → A4} (h : AccF w b q) (e : w'.heap[b]? = w.heap[b]?) : AccF w' b q := let ⟨f, h1, h2⟩ := h; ⟨f, h1.kept e, h2⟩
theorem AccF.alloc {w : World} {b : Nat} {q : Nat → A4} (h : AccF w b q) (o : Obj) : AccF (w.alloc o) b q := h.kept (Below.heap_alloc w o b h.lt)

def updA (q : Nat → A4) (i : Nat) (v : A4) : Nat → A4 := fun j => if j = i then v else q j

/-- nothing is turned but S's blocks, and what is new. -/
structure Onl (S : Nat → Prop) (w w' : World) : Prop where
  os : w'.os = w.os
  tape : w'.tape = w.tape
  output : w'.output = w.output
  size : w.heap.size ≤ w'.heap.size
  block : ∀ k, k < w.heap.size → ¬ S k → w'.heap[k]? = w.heap[k]?
theorem Onl.refl (S : Nat → Prop) (w : World) : Onl S w w := ⟨rfl, rfl, rfl, Nat.le_refl _, fun _ _ _ => rfl⟩
theorem Onl.trans {S T : Nat → Prop} {a b c : World} (h : Onl S a b) (k : Onl T b c) (hT : ∀ i, T i → S i ∨ a.heap.size ≤ i) : Onl S a c :=
  ⟨k.os.trans h.os, k.tape.trans h.tape, k.output.trans h.output, Nat.le_trans h.size k.size, fun i hi hs => (k.block i (Nat.lt_of_lt_of_le hi h.size) (fun t => by
    rcases hT i t with h1 | h1
    · exact hs h1
    · omega)).trans (h.block i hi hs)⟩
theorem Onl.mono {S T : Nat → Prop} {a b : World} (h : Onl S a b) (hT : ∀ i, S i → T i) : Onl T a b := ⟨h.os, h.tape, h.output, h.size, fun i hi hs => h.block i hi (fun s => hs (hT i s))⟩
theorem Onl.alloc {S : Nat → Prop} {a b : World} (h : Onl S a b) (o : Obj) : Onl S a (b.alloc o) :=
  ⟨h.os, h.tape, h.output, Nat.le_trans h.size (by simp), fun i hi hs => (Below.heap_alloc b o i (Nat.lt_of_lt_of_le hi h.size)).trans (h.block i hi hs)⟩
theorem Onl.drew {S : Nat → Prop} {a b : World} (h : Onl S a b) : Onl S a b.drew := ⟨h.os, h.tape, h.output, h.size, h.block⟩
theorem Onl.drewN {S : Nat → Prop} {a b : World} (h : Onl S a b) (n : Nat) : Onl S a (b.drewN n) := ⟨h.os, h.tape, h.output, h.size, h.block⟩
theorem Onl.grown {S : Nat → Prop} {a b c : World} (h : Onl S a b) {j : Nat} (g : b.grownBy c (some j)) (hj : S j ∨ a.heap.size ≤ j) : Onl S a c :=
  ⟨g.os.trans h.os, g.tape.trans h.tape, g.output.trans h.output, Nat.le_trans h.size g.size, fun i hi hs => (g.block i (Nat.lt_of_lt_of_le hi h.size) (fun e => by
    injection e with e
    subst e
    rcases hj with h1 | h1
    · exact hs h1
    · omega)).trans (h.block i hi hs)⟩
theorem Onl.grown0 {S : Nat → Prop} {a b c : World} (h : Onl S a b) (g : b.grownBy c none) : Onl S a c :=
  ⟨g.os.trans h.os, g.tape.trans h.tape, g.output.trans h.output, Nat.le_trans h.size g.size, fun i hi hs => (g.block i (Nat.lt_of_lt_of_le hi h.size) (by simp)).trans (h.block i hi hs)⟩
theorem Onl.set {S : Nat → Prop} {a b : World} (h : Onl S a b) (X : Addr) (v : Value) (hX : S X.block ∨ a.heap.size ≤ X.block) : Onl S a (b.setCell X v) :=
  ⟨h.os, h.tape, h.output, Nat.le_trans h.size (by simp [World.setCell]), fun i hi hs => (Below.heap_setCell b X v i (fun e => by
    subst e
    rcases hX with h1 | h1
    · exact hs h1
    · omega)).trans (h.block i hi hs)⟩
theorem Onl.below {S : Nat → Prop} {a b c : World} (h : Onl S a b) (g : Below b.heap.size b c) : Onl S a c :=
  ⟨g.os.trans h.os, g.tape.trans h.tape, g.output.trans h.output, Nat.le_trans h.size g.size, fun i hi hs => (g.block i (Nat.lt_of_lt_of_le hi h.size)).trans (h.block i hi hs)⟩

section
variable (w : World) {ops : Array Oper} {rest : List Oper} {o : Oper} {a : Act} {Q : Exit → Act → World → Prop}
theorem wpList_lookup_acc (hg : o.guard = none) (m x : Operand) (hop : o.op = Op.lookup 121 m x false) (b : Nat) (q : Nat → A4)
    (hm : a.eval m = .map (some b)) (h : AccF w b q) (i : Nat) (hi : i < 21) (hx : a.eval x = .int .i64 (i : Int)) (hK : wpList Try.prog ops Q rest (a.put o.dst (.agg #[.int .i64 (q i).c, .int .i64 (q i).h, .int .i64 (q i).u, .int .i64 (q i).k])) w) : wpList Try.prog ops Q (o :: rest) a w := by
  obtain ⟨f, h1, h2⟩ := h
  refine wpList_lookup_mapf w hg m x 121 hop 3 184 K3 Try.underlying121 _ (z166 w) b 21 f hm h1 i hi _ hx (key3 i (by omega)) ?_
  rw [h2 i hi]
  exact hK
theorem wpList_store_acc (hg : o.guard = none) (m x v : Operand) (hop : o.op = Op.mapUpdate 121 m x v) (b : Nat) (q : Nat → A4)
    (hm : a.eval m = .map (some b)) (h : AccF w b q) (i : Nat) (hi : i < 21) (hx : a.eval x = .int .i64 (i : Int)) (c1 c2 c3 c4 : Int) (hv : a.eval v = .agg #[.int .i64 c1, .int .i64 c2, .int .i64 c3, .int .i64 c4])
    (hK : ∀ w', AccF w' b (updA q i ⟨c1, c2, c3, c4⟩) → w.grownBy w' (some b) → w'.heap.size = w.heap.size → wpList Try.prog ops Q rest (a.put o.dst undef) w') : wpList Try.prog ops Q (o :: rest) a w := by
  obtain ⟨f, h1, h2⟩ := h
  refine wpList_store_mapf w hg m x v 121 hop 3 184 K3 Try.underlying121 b 21 f (by omega) hm h1 i hi _ _ hx hv (key3 i (by omega)) fun w' g1 g2 g3 => hK w' ⟨_, g1, fun j hj => ?_⟩ g2 g3
  unfold setF updA
  by_cases e : j = i
  · rw [if_pos e, if_pos e]; rfl
  · rw [if_neg e, if_neg e]; exact h2 j hj
end
end Go.Proofs.Ytjfifaooimgbaaa
/- append, of whatever is appended, to a slice that has its row. -/
namespace Go.Proofs.Ytjfifaooimgbaaa
open Go.Shelf Go.RowKit Go.Lib Go.Sort

theorem setCell_heap {w : World} {g : Nat} {cur : Array Value} {e : TypeId} (h : w.heap[g]? = some (.cells cur e (0, 0))) (o : Nat) (v : Value) : (w.setCell ⟨g, o, none⟩ v).heap[g]? = some (.cells (cur.setIfInBounds o v) e (0, 0)) := by
  simp [World.setCell, Array.getElem?_modify, h]

theorem setCells_heap (g : Nat) (e : TypeId) : ∀ (vs : List Value) (o : Nat) (w : World) (cur : Array Value), w.heap[g]? = some (.cells cur e (0, 0)) → o + vs.length ≤ cur.size →
    ∃ cur', (w.setCells g o vs).heap[g]? = some (.cells cur' e (0, 0)) ∧ cur'.size = cur.size ∧ cur'.toList.take (o + vs.length) = cur.toList.take o ++ vs ∧ w.grownBy (w.setCells g o vs) (some g) ∧ (w.setCells g o vs).heap.size = w.heap.size
  | [], o, w, cur, h, _ => ⟨cur, h, rfl, by simp, ⟨rfl, rfl, rfl, Nat.le_refl _, fun _ _ _ => rfl⟩, rfl⟩
  | v :: vs, o, w, cur, h, hs => by
    simp only [List.length_cons] at hs
    obtain ⟨cur', h1, h2, h3, h4, h5⟩ := setCells_heap g e vs (o + 1) (w.setCell ⟨g, o, none⟩ v) (cur.setIfInBounds o v) (setCell_heap h o v) (by simp; omega)
    have hsz : (w.setCell ⟨g, o, none⟩ v).heap.size = w.heap.size := by simp [World.setCell]
    refine ⟨cur', h1, by rw [h2]; simp, ?_, ⟨h4.os, h4.tape, h4.output, by rw [← hsz]; exact h4.size, fun k hk hne => (h4.block k (by omega) hne).trans (Below.heap_setCell w _ v k (fun e => hne (by rw [e])))⟩, by rw [show (w.setCells g o (v :: vs)) = (w.setCell ⟨g, o, none⟩ v).setCells g (o + 1) vs from rfl, h5, hsz]⟩
    rw [List.length_cons, show o + (vs.length + 1) = o + 1 + vs.length by omega, h3]
    have : (cur.setIfInBounds o v).toList.take (o + 1) = cur.toList.take o ++ [v] := by
      rw [Array.toList_setIfInBounds, List.take_add_one, List.take_set_of_le (by omega), List.getElem?_set_self (by simp; omega)]
      rfl
    rw [this]
    simp

theorem append_own_src {P : Program} (w : World) (t tx ty e : TypeId) (i : TypeInfo) (z : Value) (size bytes : Nat) (ht : P.underlying t = some (.slice e)) (hi : P.info? e = some i) (hz : i.zero = some z)
    (hsize : i.size = size) (hby : i.bytes = bytes) (hzs : z.cells.size = size)
    (v : Value) (n : Nat) (xs : List Value) (hown : w.ownsRow 0 e size v n xs) (x : Value) (m : Nat) (news : List Value) (hs : Src P size tx x m news w)
    (h63 : n + m ≤ maxLen) (hbytes : (n + m) * bytes ≤ 140737488355328) (hpos : 0 < n + m) :
    ∃ v' w', (Builtin.append_ #[t, tx] ty #[v, x]).run P w = .ok v' w' ∧ w'.ownsRow 0 e size v' (n + m) (xs ++ news) ∧ w.grownBy w' v.ownBlock ∧ (v'.ownBlock = v.ownBlock ∨ v'.ownBlock = some w.heap.size) := by
  subst hsize
  subst hby
  have hl := hs.newsLen
  have hsmall : n + m ≤ 9223372036854775807 := by simp only [maxLen] at h63; omega
  have hlen : (xs ++ news).length = (n + m) * i.size := by rw [List.length_append, hown.1, hl, Nat.add_mul]
  have grown : ∀ (old : Nat), old < n + m → ∀ (row : Option Nat),
      (w.drew.alloc (.cells ((xs ++ news).toArray ++ Builtin.zeroCells z.cells (grownCap w (n + m) old e - (n + m))) e)).ownsRow 0 e i.size
        (.slice (some ⟨w.heap.size, 0, none⟩) (n + m) (grownCap w (n + m) old e)) (n + m) (xs ++ news) ∧
      w.grownBy (w.drew.alloc (.cells ((xs ++ news).toArray ++ Builtin.zeroCells z.cells (grownCap w (n + m) old e - (n + m))) e)) row := by
    intro old ho row
    have hge := grownCap_ge w (n + m) old e
    have hcm : grownCap w (n + m) old e ≤ maxLen := grownCap_le_maxLen w (n + m) old e h63
    refine ⟨⟨hlen, .inr ⟨w.heap.size, _, _, rfl, Nat.zero_le _, heap_alloc_new w.drew _, hge, hcm, ?_, ?_⟩⟩, ⟨rfl, rfl, rfl, by simp, fun k hk _ => Below.heap_alloc w.drew _ k hk⟩⟩
    · simp only [Array.size_append, List.size_toArray, size_zeroCells, hzs, hlen, ← Nat.add_mul]
      congr 1
      omega
    · simp only [Array.toList_append]
      rw [← hlen]
      exact List.take_left
  rcases hown.2 with ⟨rfl, rfl⟩ | ⟨g, cap, cur, rfl, hbg, hg, hnc, hcm, hcs, htake⟩
  · have hx : xs = [] := List.eq_nil_of_length_eq_zero (by simpa using hown.1)
    subst hx
    have hr := run_append_grow_src (P := P) w t tx ty e i z ht hi hz none 0 0 [] (run_firstCells_none w.drew i.size 0 0 0) x m news hs (by omega) (by omega) (growslice_fits (by omega) hbytes)
    have hgr := grown 0 (by omega) (Value.ownBlock (.slice none 0 0))
    exact ⟨_, _, hr, hgr.1, hgr.2, Or.inr rfl⟩
  · by_cases hroom : n + m ≤ cap
    · have hfit : n * i.size + news.length ≤ cur.size := by rw [hl, hcs, ← Nat.add_mul]; exact Nat.mul_le_mul_right _ hroom
      obtain ⟨cur', k1, k2, k3, k4, _⟩ := setCells_heap g e news (0 + n * i.size) w cur hg (by omega)
      have hr := run_append_room_src (P := P) w t tx ty e i ht hi g 0 n cap x m news hs hroom (fun j hj => by
        have : (0 + n * i.size + j) < cur.size := by omega
        simp only [World.cell?, hg]
        simp
        omega) (fun j hj => by simp [World.frozen?, hg])
      refine ⟨_, _, hr, ⟨hlen, .inr ⟨g, cap, cur', rfl, hbg, k1, hroom, hcm, by rw [k2, hcs], ?_⟩⟩, k4, Or.inl rfl⟩
      rw [← hlen, List.length_append, hown.1]
      rw [Nat.zero_add] at k3
      rw [k3, htake]
    · have holds : ∀ j u, xs[j]? = some u → w.cell? ((⟨g, 0, none⟩ : Addr).add j) = some u := hown.cells (g := g) rfl
      have hr := run_append_grow_src (P := P) w t tx ty e i z ht hi hz (some ⟨g, 0, none⟩) n cap xs (run_firstCells_some w.drew i.size n ⟨g, 0, none⟩ n cap xs hown.1 (by simpa using holds)) x m news hs (by omega) (by omega) (growslice_fits (by omega) hbytes)
      have hgr := grown cap (by omega) (Value.ownBlock (.slice (some ⟨g, 0, none⟩) n cap))
      exact ⟨_, _, hr, hgr.1, hgr.2, Or.inr rfl⟩

/-- bytes, as cells. -/
def bcs (l : List UInt8) : List Value := l.map (fun b => Value.int .u8 b.toNat)
theorem bcs_append (l r : List UInt8) : bcs (l ++ r) = bcs l ++ bcs r := List.map_append
theorem bcs_length (l : List UInt8) : (bcs l).length = l.length := List.length_map _
/-- the slice v has these bytes, and a row of its own. -/
def BRow (w : World) (v : Value) (l : List UInt8) : Prop := w.ownsRow 0 5 1 v l.length (bcs l)
theorem BRow.nil (w : World) : BRow w (.slice none 0 0) [] := World.ownsRow_nil w 0 5 1
theorem BRow.lt {w : World} {v : Value} {l : List UInt8} (h : BRow w v l) {k : Nat} (e : v.ownBlock = some k) : k < w.heap.size := (World.ownsRow.lt h k e).2
theorem BRow.kept {w w' : World} {v : Value} {l : List UInt8} (h : BRow w v l) (hb : ∀ k, v.ownBlock = some k → w'.heap[k]? = w.heap[k]?) : BRow w' v l := by
  obtain ⟨h1, h2⟩ := h
  refine ⟨h1, ?_⟩
  rcases h2 with h2 | ⟨g, cap, cur, rfl, a1, a2, a3⟩
  · exact Or.inl h2
  · exact Or.inr ⟨g, cap, cur, rfl, a1, (hb g rfl).trans a2, a3⟩
theorem Try.info5' : (Try.prog.info? 5).map (fun i => (i.zero, i.size, i.bytes)) = some (some (.int .u8 0), 1, 1) := by kernel_rfl
theorem u64_bytes_one (l : List UInt8) : ∀ u ∈ bcs l, u.oneCell' = true := fun u hu => by
  obtain ⟨_, _, rfl⟩ := List.mem_map.1 hu
  rfl
theorem src_str (w : World) (l : List UInt8) : Src Try.prog 1 9 (.string ⟨l.toArray⟩) l.length (bcs l) w := Src.ofString (P := Try.prog) w (tx := 9) Try.underlying9 ⟨l.toArray⟩
theorem src_one (w : World) (b : UInt8) (t : TypeId) : Src Try.prog 1 98 (.slice (some ⟨w.heap.size, 0, none⟩) 1 1) 1 (bcs [b]) (w.alloc (.cells #[.int .u8 b.toNat] t)) :=
  Src.ofSlice _ Try.underlying98 _ 1 1 _ rfl (cell_one_new w _ _) (u64_bytes_one _)
theorem src_row (w : World) (v : Value) (l : List UInt8) (h : BRow w v l) : Src Try.prog 1 98 v l.length (bcs l) w := by
  rcases h.2 with ⟨rfl, h2⟩ | ⟨g, cap, cur, rfl, a1, a2, a3⟩
  · cases l with
    | nil => exact Src.ofNil _ Try.underlying98 0
    | cons a r => simp at h2
  · exact Src.ofSlice _ Try.underlying98 _ _ _ _ (by rw [bcs_length, Nat.mul_one]) (World.ownsRow.cells h rfl) (u64_bytes_one _)

theorem wpList_append_bytes (w : World) {ops : Array Oper} {rest : List Oper} {o : Oper} {a : Act} {Q : Exit → Act → World → Prop} (hgd : o.guard = none) (s x : Operand) (tx : TypeId)
    (ho : o.op = .call { callee := .builtin .append, args := #[s, x], argTypes := #[98, tx] }) (v : Value) (l : List UInt8) (hs : a.eval s = v) (hown : BRow w v l) (xv : Value) (hx : a.eval x = xv) (news : List UInt8) (hsrc : Src Try.prog 1 tx xv news.length (bcs news) w)
    (hb : l.length + news.length ≤ 70368744177664) (hpos : 0 < l.length + news.length)
    (h : ∀ v' w', BRow w' v' (l ++ news) → w.grownBy w' v.ownBlock → (v'.ownBlock = v.ownBlock ∨ v'.ownBlock = some w.heap.size) → wpList Try.prog ops Q rest (a.put o.dst v') w') : wpList Try.prog ops Q (o :: rest) a w := by
  refine wpList_plain hgd fun K hK => ?_
  obtain ⟨i0, hi, hz0, hz1, hz2⟩ := info_parts Try.info5'
  obtain ⟨v', w', hr, h2, h3, h4⟩ := append_own_src (P := Try.prog) w 98 tx o.type 5 i0 (.int .u8 0) 1 1 Try.underlying98 hi hz0 hz1 hz2 rfl v l.length (bcs l) hown xv news.length (bcs news) hsrc (by unfold maxLen; omega) (by omega) hpos
  unfold Oper.wp execOp
  simp only [ho, resolve, invoke, builtin, Sem.run_bind, Sem.run_pure, Result.andThen_ok, List.map_toArray, List.map_cons, List.map_nil, hs, hx, hr]
  refine hK _ _ (h v' w' ?_ h3 h4)
  unfold BRow
  rw [bcs_append, List.length_append]
  exact h2
end Go.Proofs.Ytjfifaooimgbaaa
