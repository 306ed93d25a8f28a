import Derived.Test.YtjfifaooimgbaaaSym
import Derived.Test.YtjfifaooimgbaaaEx
import Derived.Deep.RegionWith
import Derived.Maps.RangeWalk
import Derived.Maps.OwnOps
import Derived.WalkArith
/- The floor: what sealbidkeep's small functions do, of any exchange that keeps its contract. -/
namespace Go.Proofs.Ytjfifaooimgbaaa
open Go.Shelf Go.RowKit Go.Lib Go.Sort

/-- nothing is turned but S's blocks, and what is new. -/
structure Only (S : Nat → Prop) (w w' : World) : Prop where
  os : w'.os = w.os
  tape : w'.tape = w.tape
  output : w'.output = w.output
  size : w.heap.size ≤ w'.heap.size
  block : ∀ k, k < w.heap.size → ¬ S k → w'.heap[k]? = w.heap[k]?

/-- what an exchange is to keep: Rep w S p x: at p lies one in the state x; it has the blocks S. -/
structure Exch (Rep : World → (Nat → Prop) → Nat → Ex.Xch → Prop) : Prop where
  low : ∀ {w S p x}, Rep w S p x → ∀ k, S k → k < w.heap.size
  keep : ∀ {w w' S p x}, Rep w S p x → (∀ k, S k → w'.heap[k]? = w.heap[k]?) → w.heap.size ≤ w'.heap.size → Rep w' S p x
  open_ : ∀ (w : World) (period cap : Int), 1 ≤ period → period ≤ 1125899906842624 → 1 ≤ cap → cap ≤ 20 → Calls Try.prog 39 #[.agg #[.int .i64 period, .int .i64 cap], txt []] w fun e w' => ∃ S p, e = .returned (.tuple #[.pointer (some ⟨p, 0, none⟩), .int .i64 0]) ∧ Rep w' S p (Ex.openX period cap) ∧ (∀ k, S k → w.heap.size ≤ k) ∧ Below w.heap.size w w'
  do_ : ∀ (w : World) (S : Nat → Prop) (p : Nat) (x : Ex.Xch) (now : Int) (r : List UInt8), Rep w S p x → Ex.Ok x → 0 ≤ now → now ≤ 9223372036854775807 → x.jr.length ≤ 1099511627776 → r.length ≤ 1000 →
    Calls Try.prog 46 #[.pointer (some ⟨p, 0, none⟩), .int .i64 now, txt r] w fun e w' => ∃ S', e = .returned (.tuple #[txt (Ex.doX x now r).2, .int .i64 0]) ∧ Rep w' S' p (Ex.doX x now r).1 ∧ (∀ k, S' k → S k ∨ w.heap.size ≤ k) ∧ Only S w w'

variable {Rep : World → (Nat → Prop) → Nat → Ex.Xch → Prop}

/-- a floor lies in the block f. -/
def FloorAt (w : World) (f p : Nat) (now cash units : Int) : Prop := w.heap[f]? = some (.cells #[.pointer (some ⟨p, 0, none⟩), .int .i64 now, .int .i64 cash, .int .i64 units] 61 (0, 0))

theorem blk_cell {w : World} {X : Nat} {cs : Array Value} {t : TypeId} {f : Nat × Nat} (h : w.heap[X]? = some (.cells cs t f)) (j : Nat) : w.cell? ⟨X, j, none⟩ = cs[j]? := by
  simp [World.cell?, h]

set_option maxHeartbeats 1000000 in
set_option maxRecDepth 100000 in
theorem asks_any (E : Exch Rep) {w : World} {S : Nat → Prop} {p : Nat} {x : Ex.Xch} (hR : Rep w S p x) (ok : Ex.Ok x) (f : Nat) (now cash units : Int) (hf : FloorAt w f p now cash units) (r : List UInt8) (h0 : 0 ≤ now) (h1 : now ≤ 9223372036854775807) (hj : x.jr.length ≤ 1099511627776) (hr : r.length ≤ 1000) :
    Calls Try.prog 29 #[.pointer (some ⟨f, 0, none⟩), txt r] w fun e w' => ∃ S', e = .returned (txt (Ex.doX x now r).2) ∧ Rep w' S' p (Ex.doX x now r).1 ∧ (∀ k, S' k → S k ∨ w.heap.size ≤ k) ∧ Only S w w' := by
  have mixed : Try.prog.follows .mixedOrders = true := by kernel_rfl
  have hc : Calls Try.prog 46 #[.pointer (some ⟨p, 0, none⟩), .int .i64 now, txt r] w.drew fun e w' => ∃ S', e = .returned (.tuple #[txt (Ex.doX x now r).2, .int .i64 0]) ∧ Rep w' S' p (Ex.doX x now r).1 ∧ (∀ k, S' k → S k ∨ w.heap.size ≤ k) ∧ Only S w w'   := by
    refine (E.do_ w.drew S p x now r (E.keep hR (fun _ _ => rfl) (Nat.le_refl _)) ok h0 h1 hj hr).mono ?_
    rintro e w' ⟨S', q1, q2, q3, q4⟩
    exact ⟨S', q1, q2, q3, ⟨q4.os, q4.tape, q4.output, q4.size, q4.block⟩⟩
  have c0 := blk_cell hf 0
  have c1 := blk_cell hf 1
  have x0 : w.cell? ⟨f, 0, none⟩ = some (.pointer (some ⟨p, 0, none⟩)) := c0
  have x1 : w.cell? ⟨f, 1, none⟩ = some (.int .i64 now) := c1
  clear hR hf c0 c1
  unfold txt at *
  go_enter Try.func29, Try.ntmps29
  go_wp2_with fail
  go_region_with (go_at_call 46; refine hc.mono ?_; rintro e w' ⟨S', rfl, q2, q3, q4⟩)
  all_goals go_wp2
  all_goals go_ret
  all_goals exact ⟨S', rfl, q2, q3, q4⟩
#print axioms asks_any
end Go.Proofs.Ytjfifaooimgbaaa
/- Maps keyed by small numbers, whatever stands in them. -/
namespace Go.Proofs.Ytjfifaooimgbaaa
open Go.Maps (Keyed)

/-- whatever stands in a map, as it stands. -/
def tokR (v : Value) : Option (DataW Value × List MemPlace) := some (.held v, [])

abbrev ik (i : Nat) : Lit := .int .i64 (i : Int)

/-- block b is a map with keys below N; f: what stands where. -/
def MapF (P : Program) (k : TypeId) (w : World) (b N : Nat) (f : Nat → Option Value) : Prop :=
  ∃ D, w.ownsMap P k tokR b N D ∧ (∀ i, i < N → ∀ zd, D.atKey (ik i) zd = ((f i).map DataW.held).getD zd) ∧ (∀ kl, Maps.has D kl = true → ∃ i, i < N ∧ kl = ik i)

theorem ik_inj {i j : Nat} (h : ik i = ik j) : i = j := by
  unfold ik at h
  injection h with _ h
  exact Int.ofNat.inj h

theorem ik_wf {i N : Nat} (h : i < N) (hN : N ≤ 1000000) : (ik i).wf = true := WalkArith.wf_i64 (by omega)

theorem IsKeyLit_ik (i : Nat) : WideAt.IsKeyLit (ik i) := by
  constructor

theorem pig (N : Nat) : ∀ (l : List Nat), l.Pairwise (· ≠ ·) → (∀ i ∈ l, i < N) → l.length ≤ N := by
  induction N with
  | zero =>
    intro l _ h
    cases l with
    | nil => simp
    | cons a r => exact absurd (h a (by simp)) (by omega)
  | succ N ih =>
    intro l hp h
    have e := ih (l.filter (· != N)) (hp.filter _) (fun i hi => by
      obtain ⟨h1, h2⟩ := List.mem_filter.1 hi
      have := h i h1
      have : i ≠ N := by simpa using h2
      omega)
    have : ∀ (l : List Nat), l.Pairwise (· ≠ ·) → l.length ≤ (l.filter (· != N)).length + 1 := by
      intro l
      induction l with
      | nil => simp
      | cons a r ihr =>
        intro hp
        obtain ⟨h1, h2⟩ := List.pairwise_cons.1 hp
        by_cases ha : a = N
        · subst ha
          have : r.filter (· != a) = r := List.filter_eq_self.2 fun x hx => by simpa using (h1 x hx).symm
          simp [this]
        · have := ihr h2
          simp [ha]
          omega
    have := this l hp
    omega

theorem ownsMap_tight {P : Program} {k : TypeId} {w : World} {b n N : Nat} {D : DataW Value} (K : Keyed P k) (h : w.ownsMap P k tokR b n D) (hd : ∀ kl, Maps.has D kl = true → ∃ i, i < N ∧ kl = ik i) : w.ownsMap P k tokR b N D := by
  obtain ⟨es', hD, hp, _⟩ := h.entries K
  obtain ⟨es, clock, hb, F, hs, rfl⟩ := h
  refine ⟨es, clock, hb, F, ?_, rfl⟩
  have e1 : es'.length = es.size := by
    have : (DataW.map ((es.toList.map (WideElems.rg P k tokR)).foldr DataW.insert []) : DataW Value) = .map es' := hD
    injection this with this
    rw [← this, length_sorted]; simp
  rw [← e1]
  have hall : ∀ p ∈ es', ∃ i, i < N ∧ p.1 = ik i := fun p hp' => hd p.1 (by
    rw [hD]
    show es'.any (fun q => q.1.sameKey p.1) = true
    exact List.any_eq_true.2 ⟨p, hp', WideAt.sameKey_self (by
      rename_i hk
      exact hk p hp')⟩)
  have := pig N (es'.map (fun p => match p.1 with | .int _ a => a.toNat | _ => 0)) (by
    rw [List.pairwise_map]
    refine List.Pairwise.imp_of_mem ?_ hp
    intro p q hp1 hq1 hne he
    obtain ⟨i, hi, e2⟩ := hall p hp1
    obtain ⟨j, hj, e3⟩ := hall q hq1
    rw [e2, e3] at he
    simp at he
    exact hne (by rw [e2, e3, he])) (fun i hi => by
    obtain ⟨p, hp1, rfl⟩ := List.mem_map.1 hi
    obtain ⟨j, hj, e2⟩ := hall p hp1
    rw [e2]
    simpa using hj)
  simpa using this

theorem MapF.lt {P k w b N f} (h : MapF P k w b N f) : b < w.heap.size := let ⟨_, h1, _⟩ := h; h1.lt
theorem MapF.kept {P k w b N f} {w' : World} (h : MapF P k w b N f) (hb : w'.heap[b]? = w.heap[b]?) : MapF P k w' b N f := by
  obtain ⟨D, ⟨es, clock, h1, r⟩, h2⟩ := h
  exact ⟨D, ⟨es, clock, hb.trans h1, r⟩, h2⟩
theorem MapF.made (P : Program) (k : TypeId) (w : World) (N : Nat) : MapF P k (w.alloc (.map #[] 0)) w.heap.size N (fun _ => none) :=
  ⟨.map [], (World.ownsMap_made w P k tokR).mono (Nat.zero_le _), fun _ _ _ => rfl, fun kl h => by simp [Maps.has] at h⟩

/-- what stands behind a store. -/
def setF (f : Nat → Option Value) (i : Nat) (v : Value) : Nat → Option Value := fun j => if j = i then some v else f j

theorem MapF.look {P k w b N f} (h : MapF P k w b N f) (K : Keyed P k) {t e : TypeId} (ht : P.underlying t = some (.map k e)) {z : Value} (hz : (zeroValue e).run P w = .ok z w) {i : Nat} (hi : i < N) {key : Value} (hkey : keyOf P k key = some (ik i)) :
    (Instr.lookup t (.map (some b)) key false).run P w = .ok ((f i).getD z) w := by
  obtain ⟨D, h1, h2, _⟩ := h
  obtain ⟨v, ps, hrun, hv⟩ := h1.lookup K ht hz (zd := .held z) (zp := []) rfl hkey
  rw [h2 i hi] at hv
  unfold tokR at hv
  cases hf : f i with
  | none => rw [hf] at hv; simp at hv; rw [hrun, hv.1]; rfl
  | some u => rw [hf] at hv; simp at hv; rw [hrun, hv.1]; rfl

theorem MapF.has_eq {P : Program} {k : TypeId} {w : World} {b N : Nat} {f : Nat → Option Value} {D : DataW Value} (_h1 : w.ownsMap P k tokR b N D) (h2 : ∀ i, i < N → ∀ zd, D.atKey (ik i) zd = ((f i).map DataW.held).getD zd) {i : Nat} (hi : i < N) : Maps.has D (ik i) = (f i).isSome := by
  cases hf : f i with
  | none => exact Maps.has_false_of_atKey (fun z => by rw [h2 i hi, hf]; rfl)
  | some v => exact Maps.has_true_of_atKey (y := .held v) (fun z => by rw [h2 i hi, hf]; rfl)

theorem MapF.look_ok {P k w b N f} (h : MapF P k w b N f) (K : Keyed P k) {t e : TypeId} (ht : P.underlying t = some (.map k e)) {z : Value} (hz : (zeroValue e).run P w = .ok z w) {i : Nat} (hi : i < N) {key : Value} (hkey : keyOf P k key = some (ik i)) :
    (Instr.lookup t (.map (some b)) key true).run P w = .ok (.tuple #[(f i).getD z, .bool (f i).isSome]) w := by
  obtain ⟨D, h1, h2, _⟩ := h
  obtain ⟨v, ps, hrun, hv⟩ := h1.look_ok K ht hz (zd := .held z) (zp := []) rfl hkey
  rw [MapF.has_eq h1 h2 hi] at hrun
  rw [h2 i hi] at hv
  unfold tokR at hv
  cases hf : f i with
  | none => rw [hf] at hv hrun; simp at hv; rw [hrun, hv.1]; rfl
  | some u => rw [hf] at hv hrun; simp at hv; rw [hrun, hv.1]; rfl

theorem MapF.store {P k w b N f} (h : MapF P k w b N f) (K : Keyed P k) {t e : TypeId} (ht : P.underlying t = some (.map k e)) {i : Nat} (hi : i < N) (hN : N ≤ 1000000) {key : Value} (hkey : keyOf P k key = some (ik i)) (v : Value) :
    ∃ w', (Instr.mapUpdate t (.map (some b)) key v).run P w = .ok () w' ∧ MapF P k w' b N (setF f i v) ∧ w.grownBy w' (some b) ∧ w'.heap.size = w.heap.size := by
  obtain ⟨D, h1, h2, h3⟩ := h
  obtain ⟨w', hrun, g1, g2⟩ := h1.store K ht (by unfold maxLen; omega) hkey (val := v) (d := .held v) (ps := []) rfl
  refine ⟨w', hrun, ⟨D.put (ik i) (.held v), ownsMap_tight K g1 ?_, fun j hj zd => ?_, ?_⟩, g2.grown, ?_⟩
  · intro kl hk
    by_cases e : kl = ik i
    · exact ⟨i, hi, e⟩
    · rw [Maps.has_put_other e] at hk; exact h3 kl hk
  · unfold setF
    by_cases e : j = i
    · subst e
      rw [Maps.atKey_put_same h1.isMap (IsKeyLit_ik _), if_pos rfl]; rfl
    · rw [Maps.atKey_put_other (fun h => e (ik_inj h)), if_neg e]; exact h2 j hj zd
  · intro kl hk
    by_cases e : kl = ik i
    · exact ⟨i, hi, e⟩
    · rw [Maps.has_put_other e] at hk; exact h3 kl hk
  · obtain ⟨es, clock, es', clock', hb, rfl⟩ := g2
    simp [ChangeMaps.setBlock]

/-! ### at the operation -/
section
variable {P : Program} (w : World) {ops : Array Oper} {rest : List Oper} {o : Oper} {a : Act} {Q : Exit → Act → World → Prop}

theorem wpList_lookup_mapf (hg : o.guard = none) (m x : Operand) (t : TypeId) (hop : o.op = Op.lookup t m x false) (k e : TypeId) (K : Keyed P k) (ht : P.underlying t = some (.map k e)) (z : Value) (hz : (zeroValue e).run P w = .ok z w) (b N : Nat) (f : Nat → Option Value)
    (hm : a.eval m = .map (some b)) (h : MapF P k w b N f) (i : Nat) (hi : i < N) (key : Value) (hx : a.eval x = key) (hkey : keyOf P k key = some (ik i)) (hK : wpList P ops Q rest (a.put o.dst ((f i).getD z)) w) : wpList P ops Q (o :: rest) a w := by
  refine wpList_plain hg fun K' hK' => ?_
  unfold Oper.wp
  simp [execOp, hop, hm, hx, h.look K ht hz hi hkey, Result.andThen]
  exact hK' _ _ hK

theorem wpList_lookup_ok_mapf (hg : o.guard = none) (m x : Operand) (t : TypeId) (hop : o.op = Op.lookup t m x true) (k e : TypeId) (K : Keyed P k) (ht : P.underlying t = some (.map k e)) (z : Value) (hz : (zeroValue e).run P w = .ok z w) (b N : Nat) (f : Nat → Option Value)
    (hm : a.eval m = .map (some b)) (h : MapF P k w b N f) (i : Nat) (hi : i < N) (key : Value) (hx : a.eval x = key) (hkey : keyOf P k key = some (ik i)) (hK : wpList P ops Q rest (a.put o.dst (.tuple #[(f i).getD z, .bool (f i).isSome])) w) : wpList P ops Q (o :: rest) a w := by
  refine wpList_plain hg fun K' hK' => ?_
  unfold Oper.wp
  simp [execOp, hop, hm, hx, h.look_ok K ht hz hi hkey, Result.andThen]
  exact hK' _ _ hK

theorem wpList_store_mapf (hg : o.guard = none) (m x v : Operand) (t : TypeId) (hop : o.op = Op.mapUpdate t m x v) (k e : TypeId) (K : Keyed P k) (ht : P.underlying t = some (.map k e)) (b N : Nat) (f : Nat → Option Value) (hN : N ≤ 1000000)
    (hm : a.eval m = .map (some b)) (h : MapF P k w b N f) (i : Nat) (hi : i < N) (key val : Value) (hx : a.eval x = key) (hv : a.eval v = val) (hkey : keyOf P k key = some (ik i))
    (hK : ∀ w', MapF P k w' b N (setF f i val) → w.grownBy w' (some b) → w'.heap.size = w.heap.size → wpList P ops Q rest (a.put o.dst undef) w') : wpList P ops Q (o :: rest) a w := by
  refine wpList_plain hg fun K' hK' => ?_
  obtain ⟨w', hrun, r1, r2, r3⟩ := h.store K ht hi hN hkey val
  unfold Oper.wp
  simp [execOp, hop, hm, hx, hv, hrun, Result.andThen]
  exact hK' _ _ (hK w' r1 r2 r3)

/-- a range over such a map under way: which are still to come. -/
def RangeF (P : Program) (k : TypeId) (w : World) (b r N : Nat) (f : Nat → Option Value) (left : Nat → Bool) : Prop :=
  ∃ D L cnt, w.ranges P k tokR b r N D L cnt ∧ (∀ i, i < N → ∀ zd, D.atKey (ik i) zd = ((f i).map DataW.held).getD zd) ∧ (∀ kl, Maps.has D kl = true → ∃ i, i < N ∧ kl = ik i) ∧ (∀ i, i < N → L (ik i) = left i) ∧ (∀ kl, L kl = true → Maps.has D kl = true)

theorem RangeF.kept {k : TypeId} {w w' : World} {b r N : Nat} {f : Nat → Option Value} {left : Nat → Bool} (h : RangeF P k w b r N f left) {row : Option Nat} (hg : w.grownBy w' row) (h1 : some b ≠ row) (h2 : some r ≠ row) : RangeF P k w' b r N f left := by
  obtain ⟨D, L, cnt, g, rr⟩ := h
  exact ⟨D, L, cnt, g.kept hg h1 h2, rr⟩

theorem wpList_range_mapf (hg : o.guard = none) (m : Operand) (t : TypeId) (hop : o.op = Op.range t m) (k e : TypeId) (K : Keyed P k) (ht : P.underlying t = some (.map k e)) (b N : Nat) (f : Nat → Option Value)
    (hm : a.eval m = .map (some b)) (h : MapF P k w b N f)
    (hK : ∀ w', RangeF P k w' b w.heap.size N f (fun i => (f i).isSome) → w.grownBy w' none → w'.heap.size = w.heap.size + 1 → wpList P ops Q rest (a.put o.dst (.pointer (some ⟨w.heap.size, 0, none⟩))) w') :
    wpList P ops Q (o :: rest) a w := by
  obtain ⟨D, h1, h2, h3⟩ := h
  refine wpList_range_own w hg m t hop k e K ht tokR b N D hm h1 fun w' g1 g2 g3 => hK w' ⟨D, _, _, g1, h2, h3, fun i hi => MapF.has_eq h1 h2 hi, fun kl h => h⟩ g2 g3

theorem sameKey_ik (i j : Nat) : (ik j).sameKey (ik i) = decide (j = i) := by
  by_cases e : j = i
  · subst e; simp [WideAt.sameKey_self (IsKeyLit_ik j)]
  · simp [e, Maps.sameKey_ne (fun h => e (ik_inj h))]

theorem wpList_next_mapf (hg : o.guard = none) (it : Operand) (hop : o.op = Op.next it false) (k : TypeId) (K : Keyed P k) (hk : P.underlying k = some (.int .i64)) (b r N : Nat) (f : Nat → Option Value) (left : Nat → Bool)
    (hit : a.eval it = .pointer (some ⟨r, 0, none⟩)) (h : RangeF P k w b r N f left)
    (hDone : (∀ i, i < N → left i = false) → wpList P ops Q rest (a.put o.dst (.tuple #[.bool false])) w)
    (hMore : ∀ (i : Nat) (v : Value) (w' : World), i < N → left i = true → f i = some v → RangeF P k w' b r N f (fun j => left j && !decide (j = i)) → w'.rangeLeft b r < w.rangeLeft b r →
      w.grownBy w' (some r) → w'.heap.size = w.heap.size → (Instr.entry (.pointer (some ⟨r, 0, none⟩))).run P w' = .ok (.tuple #[.int .i64 i, v]) w' → wpList P ops Q rest (a.put o.dst (.tuple #[.bool true, .int .i64 i, v])) w') :
    wpList P ops Q (o :: rest) a w := by
  obtain ⟨D, L, cnt, g1, g2, g3, g4, g5⟩ := h
  refine wpList_next_ranges (α := Value) (β := Value) w hg it hop k K tokR id id (fun key kl _ => ⟨key, rfl⟩) (fun v y _ => ⟨v, rfl⟩) b r N D L cnt hit g1 (fun _ hl => hDone fun i hi => by rw [← g4 i hi]; exact hl _) ?_
  intro x c kl y w' cnt' hkey hlk hv hat hrg hlt hgr hsz hen
  obtain ⟨i, hi, rfl⟩ := g3 kl (g5 kl hlk)
  obtain ⟨x', ex, e2, _⟩ := Maps.keyOf_int_inv hk hkey
  have ex' : x = .int .i64 x' := ex
  injection e2 with _ e2
  subst e2
  subst ex'
  have e3 : y = (.held c, []) := by
    have : tokR c = some y := hv
    unfold tokR at this
    injection this with this
    exact this.symm
  subst e3
  have e4 := hat .nil
  rw [g2 i hi] at e4
  have e5 : f i = some c := by
    cases hf : f i with
    | none => rw [hf] at e4; simp at e4
    | some u => rw [hf] at e4; simp at e4; rw [e4]
  refine hMore i c w' hi (by rw [← g4 i hi]; exact hlk) e5 ⟨D, _, cnt', hrg, g2, g3, fun j hj => ?_, fun kl h => g5 kl ?_⟩ ?_ hgr hsz hen
  · show (L (ik j) && !(ik j).sameKey (ik i)) = _
    rw [g4 j hj, sameKey_ik]
  · simp only [Bool.and_eq_true] at h
    exact h.1
  · rw [hrg.left_eq, g1.left_eq]; exact hlt
end
end Go.Proofs.Ytjfifaooimgbaaa
