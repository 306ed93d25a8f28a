import Derived.Test.YtjfifaooimgbaaaRx
import Derived.Deep.MidRow
/- The document's exchange: clears. -/
namespace Go.Proofs.Ytjfifaooimgbaaa
open Go.Shelf Go.RowKit Go.Lib Go.Sort

theorem cell_two_new (w : World) (x y : Value) (t : TypeId) : ∀ j u, [x, y][j]? = some u → (w.alloc (.cells #[x, y] t)).cell? ((⟨w.heap.size, 0, none⟩ : Addr).add j) = some u := by
  intro j u hj
  match j, hj with
  | 0, hj => simp at hj; subst hj; simp [Addr.add]
  | 1, hj => simp at hj; subst hj; simp [Addr.add]

/-- a row of cells, written. -/
theorem FAt.setCells {p n : Nat} {ty : TypeId} : ∀ (vs : List Value) (o : Nat) (w : World) (f : Nat → Value), FAt w p n ty f → FAt (w.setCells p o vs) p n ty (fun i => if o ≤ i ∧ i < o + vs.length then vs.getD (i - o) undef else f i)
  | [], o, w, f, h => h.congr (fun j _ => by rw [if_neg (by simp)])
  | v :: vs, o, w, f, h => by
    have := FAt.setCells vs (o + 1) _ _ (h.set o v)
    refine this.congr (fun j _ => ?_)
    by_cases e : j = o
    · subst e
      rw [if_neg (by omega), if_pos rfl, if_pos (by simp), Nat.sub_self]
      rfl
    · by_cases e2 : o + 1 ≤ j ∧ j < o + 1 + vs.length
      · rw [if_pos e2, if_pos (by rw [List.length_cons]; omega), show j - o = (j - (o + 1)) + 1 by omega]
        rfl
      · rw [if_neg e2, if_neg e, if_neg (by rw [List.length_cons]; omega)]
theorem RefAt.dr {w : World} {p : Nat} {x : Ex.Xch} {ov fv : Value} (h : RefAt w p x ov fv) : RefAt w.drew p x ov fv := h.kept rfl
theorem FAt.there {w : World} {p n : Nat} {ty : TypeId} {f : Nat → Value} (h : FAt w p n ty f) (o m : Nat) (hm : o + m ≤ n) : w.there p o m := fun j hj => ⟨by rw [h.cell (j := o + j) (by omega)]; rfl, h.frozen _⟩
theorem setCells_block (p : Nat) : ∀ (vs : List Value) (o : Nat) (w : World) (k : Nat), k ≠ p → (w.setCells p o vs).heap[k]? = w.heap[k]?
  | [], _, _, _, _ => rfl
  | v :: vs, o, w, k, h => (setCells_block p vs (o + 1) _ k h).trans (Below.heap_setCell w ⟨p, o, none⟩ v k h)
theorem setCells_rest (p : Nat) : ∀ (vs : List Value) (o : Nat) (w : World), (w.setCells p o vs).os = w.os ∧ (w.setCells p o vs).tape = w.tape ∧ (w.setCells p o vs).output = w.output ∧ (w.setCells p o vs).heap.size = w.heap.size
  | [], _, _ => ⟨rfl, rfl, rfl, rfl⟩
  | v :: vs, o, w => by
    obtain ⟨h1, h2, h3, h4⟩ := setCells_rest p vs (o + 1) (w.setCell ⟨p, o, none⟩ v)
    exact ⟨h1, h2, h3, h4.trans (by simp [World.setCell])⟩
theorem Onl.cells {S : Nat → Prop} {a b : World} (h : Onl S a b) (p o : Nat) (vs : List Value) (hp : S p) : Onl S a (b.setCells p o vs) := by
  obtain ⟨h1, h2, h3, h4⟩ := setCells_rest p vs o b
  exact ⟨h1.trans h.os, h2.trans h.tape, h3.trans h.output, by rw [h4]; exact h.size, fun i hi hs => (setCells_block p vs o b i (fun e => hs (e ▸ hp))).trans (h.block i hi hs)⟩
theorem LRow.cells {w : World} {v : Value} {os : List Ex.Ord} (h : LRow w v os) {p : Nat} (hp : v.ownBlock ≠ some p) (o : Nat) (vs : List Value) : LRow (w.setCells p o vs) v os :=
  h.kept fun k hk => setCells_block p vs o w k (fun e => hp (e ▸ hk))

theorem wpList_store_row {ops : Array Oper} {rest : List Oper} {op : Oper} {a : Act} {w : World} {Q : Exit → Act → World → Prop} (hgd : op.guard = none) (ty : TypeId) (x y : Operand) (ho : op.op = .store ty x y)
    (b o : Nat) (cs : List Value) (hx : a.eval x = .pointer (some ⟨b, o, none⟩)) (hy : a.eval y = .agg cs.toArray)
    (ht : w.there b o cs.length) (hi : (Try.prog.info? ty).map (·.size) = some cs.length) (h1 : ∀ v ∈ cs, v.oneCell' = true)
    (h : ∀ w', w' = w.setCells b o cs → wpList Try.prog ops Q rest (a.put op.dst undef) w') : wpList Try.prog ops Q (op :: rest) a w :=
  wpList_store_mid hgd ty x y ho b o cs.toArray hx hy (by simpa using ht) (by simpa using hi) (all_oneCell_toArray h1) (h _ (by simp))
/-- the outcome and its number, written. -/
theorem RefAt.setOut {w : World} {p : Nat} {x : Ex.Xch} {ov fv : Value} (h : RefAt w p x ov fv) (l : List (Int × Int)) (F : Value) (hF : slOf F = F) (b : Int) (hb : b ≠ 0) :
    RefAt ((w.setCells p 89 [.int .i64 (kL l : Nat), .int .i64 ((setL l).1 : Nat), .int .i64 (setL l).2.1, .int .i64 (setL l).2.2, F, .int .u64 (shareL l : Nat)]).setCell ⟨p, 88, none⟩ (.int .i64 b)) p { x with lastL := l, last := b } ov F := by
  refine ((FAt.setCells _ 89 _ _ h).set 88 _).congr (fun i hi => ?_)
  have e : i < 86 ∨ i = 86 ∨ i = 87 ∨ i = 88 ∨ i = 89 ∨ i = 90 ∨ i = 91 ∨ i = 92 ∨ i = 93 ∨ i = 94 ∨ 95 ≤ i := by omega
  rcases e with e | rfl | rfl | rfl | rfl | rfl | rfl | rfl | rfl | rfl | e
  · rw [if_neg (by omega), if_neg (by omega)]
    unfold cellR
    by_cases h1 : i < 6
    · rw [if_pos h1, if_pos h1]; rfl
    · rw [if_neg h1, if_neg h1, if_pos e, if_pos e]
  · rfl
  · rfl
  · rfl
  · rfl
  · rfl
  · rfl
  · rfl
  · exact hF.symm
  · show Value.int .u64 ((shareL l : Nat) : Int) = Value.int .u64 ((shareC { x with lastL := l, last := b } : Nat) : Int)
    unfold shareC
    rw [if_neg hb]
  · rw [if_neg (by omega), if_neg (by simp; omega)]
    have h6 : ¬ i < 6 := by omega
    have h86 : ¬ i < 86 := by omega
    have h95 : ¬ i < 95 := by omega
    unfold cellR
    rw [if_neg h6, if_neg h86, if_neg h95, if_neg h6, if_neg h86, if_neg h95]
/-- nobody paid, nobody traded. -/
theorem RefAt.setNone {w : World} {p : Nat} {x : Ex.Xch} {ov fv : Value} (h : RefAt w p x ov fv) :
    RefAt ((w.setCells p 95 (List.replicate 20 (.int .i64 0))).setCells p 115 (List.replicate 20 (.bool false))) p { x with paid := fun _ => 0, traded := fun _ => false } ov fv := by
  refine (FAt.setCells _ 115 _ _ (FAt.setCells _ 95 _ _ h)).congr (fun i hi => ?_)
  rw [List.length_replicate, List.length_replicate]
  by_cases h1 : 115 ≤ i
  · rw [if_pos (by omega)]
    unfold cellR
    rw [if_neg (by omega), if_neg (by omega), if_neg (by omega), if_neg (by omega), List.getD_eq_getElem?_getD, List.getElem?_replicate, if_pos (by omega)]
    rfl
  · rw [if_neg (by omega)]
    by_cases h2 : 95 ≤ i
    · rw [if_pos (by omega)]
      unfold cellR
      rw [if_neg (by omega), if_neg (by omega), if_neg (by omega), if_pos (by omega), List.getD_eq_getElem?_getD, List.getElem?_replicate, if_pos (by omega)]
      rfl
    · rw [if_neg (by omega)]
      unfold cellR
      by_cases h3 : i < 6
      · rw [if_pos h3, if_pos h3]; rfl
      · rw [if_neg h3, if_neg h3]
        by_cases h4 : i < 86
        · rw [if_pos h4, if_pos h4]
        · rw [if_neg h4, if_neg h4, if_pos (by omega), if_pos (by omega)]; rfl

/-- numbers between -B and B. -/
def TmB (B : Int) (p : Ex.Purse) : Prop := (-B ≤ p.cash ∧ p.cash ≤ B) ∧ (-B ≤ p.held ∧ p.held ≤ B) ∧ (-B ≤ p.units ∧ p.units ≤ B) ∧ (-B ≤ p.hun ∧ p.hun ≤ B)
theorem freed_tm {B : Int} {p : Ex.Purse} {o : Ex.Ord} (h : TmB B p) (ho : 0 ≤ o.price ∧ o.price ≤ 1000) : TmB (B + 1000) (Ex.freed p o) := by
  unfold TmB Ex.freed at *
  split <;> dsimp only <;> omega
theorem trade_tm {pay get : Int} (hp : 0 ≤ pay ∧ pay ≤ 1000) (hg : 0 ≤ get ∧ get ≤ 1000) {s : Ex.St} {B : Int} (h : ∀ t, t < 20 → TmB B (s.ps t)) (hw : -B ≤ s.own ∧ s.own ≤ B) {o : Ex.Ord} (ho : o.who < 20 ∧ 0 ≤ o.price ∧ o.price ≤ 1000) (f : Bool) :
    (∀ t, t < 20 → TmB (B + 3000) ((Ex.tradeOne pay get s o f).ps t)) ∧ -(B + 3000) ≤ (Ex.tradeOne pay get s o f).own ∧ (Ex.tradeOne pay get s o f).own ≤ B + 3000 := by
  have hf := freed_tm (h o.who ho.1) ho.2
  have up : ∀ (v : Ex.Purse), TmB (B + 3000) v → ∀ t, t < 20 → TmB (B + 3000) (Ex.upd s.ps o.who v t) := fun v hv t ht => by
    by_cases e : t = o.who
    · rw [e, Ex.upd_same]; exact hv
    · rw [Ex.upd_ne _ _ e]
      have := h t ht
      unfold TmB at *
      omega
  unfold Ex.tradeOne
  generalize Ex.freed (s.ps o.who) o = q at *
  unfold TmB at hf
  cases f with
  | true =>
    rw [if_pos rfl]
    by_cases hs : o.side = 0
    · rw [if_pos hs]
      exact ⟨up _ (by unfold TmB; dsimp only; omega), by dsimp only; omega, by dsimp only; omega⟩
    · rw [if_neg hs]
      exact ⟨up _ (by unfold TmB; dsimp only; omega), by dsimp only; omega, by dsimp only; omega⟩
  | false =>
    rw [if_neg (by decide)]
    exact ⟨up _ (by unfold TmB; omega), by dsimp only; omega, by dsimp only; omega⟩
theorem tradeTo_tm {pay get : Int} (hp : 0 ≤ pay ∧ pay ≤ 1000) (hg : 0 ≤ get ∧ get ≤ 1000) {s : Ex.St} {B : Int} (h : ∀ t, t < 20 → TmB B (s.ps t)) (hw : -B ≤ s.own ∧ s.own ≤ B) {os : List Ex.Ord} (ho : ∀ o ∈ os, o.who < 20 ∧ 0 ≤ o.price ∧ o.price ≤ 1000) (fl : List Bool) :
    ∀ n : Nat, n ≤ os.length → (∀ t, t < 20 → TmB (B + 3000 * (n : Int)) ((Ex.tradeTo pay get os fl s n).ps t)) ∧ -(B + 3000 * (n : Int)) ≤ (Ex.tradeTo pay get os fl s n).own ∧ (Ex.tradeTo pay get os fl s n).own ≤ B + 3000 * (n : Int)
  | 0, _ => by
    rw [Ex.tradeTo]
    simpa using ⟨h, hw⟩
  | n + 1, hn => by
    obtain ⟨i1, i2⟩ := tradeTo_tm hp hg h hw ho fl n (by omega)
    have hm : (os.getD n ⟨0, 0, 0⟩).who < 20 ∧ 0 ≤ (os.getD n ⟨0, 0, 0⟩).price ∧ (os.getD n ⟨0, 0, 0⟩).price ≤ 1000 := ho _ (by rw [List.getD_eq_getElem?_getD, List.getElem?_eq_getElem (by omega)]; exact List.getElem_mem _)
    have := trade_tm hp hg i1 i2 hm (fl.getD n false)
    rw [Ex.tradeTo, show B + 3000 * ((n + 1 : Nat) : Int) = B + 3000 * (n : Int) + 3000 by omega]
    exact this

/-- the state, i orders being gone through. -/
def XS (x : Ex.Xch) (i : Nat) : Ex.Xch :=
  { x with
    lastL := Ex.bidsOf x.ords, last := x.batch
    ps := (Ex.tradeTo (setL (Ex.bidsOf x.ords)).2.1 (setL (Ex.bidsOf x.ords)).2.2 x.ords (filledL (Ex.bidsOf x.ords)) ⟨x.ps, x.own, fun _ => 0, fun _ => false⟩ i).ps
    own := (Ex.tradeTo (setL (Ex.bidsOf x.ords)).2.1 (setL (Ex.bidsOf x.ords)).2.2 x.ords (filledL (Ex.bidsOf x.ords)) ⟨x.ps, x.own, fun _ => 0, fun _ => false⟩ i).own
    paid := (Ex.tradeTo (setL (Ex.bidsOf x.ords)).2.1 (setL (Ex.bidsOf x.ords)).2.2 x.ords (filledL (Ex.bidsOf x.ords)) ⟨x.ps, x.own, fun _ => 0, fun _ => false⟩ i).paid
    traded := (Ex.tradeTo (setL (Ex.bidsOf x.ords)).2.1 (setL (Ex.bidsOf x.ords)).2.2 x.ords (filledL (Ex.bidsOf x.ords)) ⟨x.ps, x.own, fun _ => 0, fun _ => false⟩ i).traded }
/-- one order more. -/
def stepS (pay get : Int) (y : Ex.Xch) (o : Ex.Ord) (f : Bool) : Ex.Xch :=
  { y with
    ps := (Ex.tradeOne pay get ⟨y.ps, y.own, y.paid, y.traded⟩ o f).ps
    own := (Ex.tradeOne pay get ⟨y.ps, y.own, y.paid, y.traded⟩ o f).own
    paid := (Ex.tradeOne pay get ⟨y.ps, y.own, y.paid, y.traded⟩ o f).paid
    traded := (Ex.tradeOne pay get ⟨y.ps, y.own, y.paid, y.traded⟩ o f).traded }
theorem XS_step (x : Ex.Xch) (i : Nat) : XS x (i + 1) = stepS (setL (Ex.bidsOf x.ords)).2.1 (setL (Ex.bidsOf x.ords)).2.2 (XS x i) (x.ords.getD i ⟨0, 0, 0⟩) ((filledL (Ex.bidsOf x.ords)).getD i false) := rfl
theorem XS_end (x : Ex.Xch) : ({ XS x x.ords.length with ords := [], batch := x.batch + 1, fin := x.time + x.period } : Ex.Xch) = Ex.clearX x := rfl
theorem XS_tm {x : Ex.Xch} (ok : Ex.Ok x) (i : Nat) (hi : i ≤ x.ords.length) : (∀ t, t < 20 → Tm ((XS x i).ps t)) ∧ -1152921504606846976 ≤ (XS x i).own ∧ (XS x i).own ≤ 1152921504606846976 := by
  have sb := set_bd (Ex.bidsOf x.ords)
  have hl : x.ords.length ≤ 20 := by have := ok.len; have := ok.cap; omega
  have own : x.own ≤ 1125899906842624 := by
    have := (ok.bdsR 0 (by decide)).1
    unfold cashR at this
    rw [sumTo] at this
    have := (ok.bdsR 0 (by decide)).2
    omega
  have := tradeTo_tm (B := 1125899906842624) sb.1 sb.2 (s := ⟨x.ps, x.own, fun _ => 0, fun _ => false⟩) (os := x.ords) (fun t ht => by
    obtain ⟨⟨b1, b2, b3, b4⟩, b5, b6, b7, b8⟩ := ok.bdsR t ht
    unfold TmB
    dsimp only
    omega) (by have := ok.own; dsimp only; omega) (fun o ho => by have := ok.ord o ho; omega) (filledL (Ex.bidsOf x.ords)) i hi
  obtain ⟨h1, h2⟩ := this
  refine ⟨fun t ht => ?_, ?_⟩
  · have := h1 t ht
    unfold TmB at this
    change Tm ((Ex.tradeTo _ _ _ _ _ i).ps t)
    unfold Tm
    omega
  · show -1152921504606846976 ≤ (Ex.tradeTo _ _ _ _ _ i).own ∧ (Ex.tradeTo _ _ _ _ _ i).own ≤ _
    omega

set_option maxHeartbeats 8000000 in
set_option maxRecDepth 100000 in
theorem clearsR_any (w : World) (p : Nat) (x : Ex.Xch) (ov fv : Value) (h : RefAt w p x ov fv) (hO : LRow w ov x.ords) (ok : Ex.Ok x) (hb : x.batch ≤ 1152921504606846976) :
    Calls Try.prog 65 #[.pointer (some ⟨p, 0, none⟩)] w fun e w' => e = .returned (.tuple #[]) ∧ RSt w p ov w' (Ex.clearX x) := by
  have mixed : Try.prog.follows .mixedOrders = true := by kernel_rfl
  obtain ⟨i0, hi, hz0, hz1, hz2⟩ := info_parts Try.info29
  have hl : x.ords.length ≤ 20 := by have := ok.len; have := ok.cap; omega
  have HR : Aside (RefAt w p x ov fv) := h
  have HO : Aside (LRow w ov x.ords) := hO
  have NP : Aside (ov.ownBlock ≠ some p) := ref_apart h hO
  have OK : Aside (Ex.Ok x) := ok
  have hpl := h.lt
  obtain ⟨a, cap, hov, h1, h2⟩ := hO.ords
  subst hov
  have HA : Aside (OrdsAt w a x.ords) := h1
  have c87 : w.cell? ⟨p, 87, none⟩ = some (.slice a x.ords.length cap) := h.mid 1 (by decide)
  clear h1 hO h ok
  go_enter Try.func65, Try.ntmps65
  go_wp2_with fail
  go_loopg [2, 3] x.ords.length (fun kx s t wq => ∃ (i : Nat), t = .int .i64 i ∧ i ≤ x.ords.length ∧ x.ords.length - i ≤ kx ∧ Aside (wq.ownsRow w.heap.size 29 2 s i (flatO (Ex.bidsOf (x.ords.take i)))) ∧ Aside (Below w.heap.size w wq))
  case atStart => exact ⟨0, rfl, Nat.zero_le _, by omega, World.ownsRow_nil _ _ _ _, Below.refl _ _⟩
  case round =>
    obtain ⟨i, rfl, hi', hkx, OW, BE⟩ := hrel
    have d87 : wr.cell? ⟨p, 87, none⟩ = some (.slice a x.ords.length cap) := (World.cell?_of_block (a := ⟨p, 87, none⟩) (BE.out.block p hpl)).trans c87
    by_cases hlt : i < x.ords.length
    · have hltz : (i : Int) < (x.ords.length : Int) := by omega
      obtain ⟨g, rfl, h1, h2, h3, h4⟩ := (HA.out.below BE.out) i hlt
      have EX : Aside _ := bids_snoc x.ords i hlt
      generalize x.ords.getD i ⟨0, 0, 0⟩ = o at *
      have hwz := BE.out.size
      go_wp2_with (first | (at_builtin; (refine wpList_append_own _ rfl _ _ 22 rfl w.heap.size 29 i0 (.agg #[.int .i64 0, .int .i64 0]) 2 16 Try.underlying22 hi hz0 hz1 hz2 rfl (by decide) _ _ _ rfl (OW.out.alloc _) ⟨wr.heap.size, 0, none⟩ 1 1 [.int .i64 o.side, .int .i64 o.price] rfl rfl (cell_two_new _ _ _ _) (fun x hx => by simp at hx; rcases hx with rfl | rfl <;> rfl) (by unfold maxLen; omega) (by omega) (by simp; omega) ?_); intro v' w3 hown' hgrow3 hnil3) | fail)
      have hcl' : w.heap.size ≤ (wr.alloc (Obj.cells #[Value.int IntKind.i64 o.side, Value.int IntKind.i64 o.price] 29)).heap.size := by simp; omega
      have B2 : Aside (Below w.heap.size w w3) := Below.grown (BE.out.alloc (by omega) _) hgrow3 hcl' (fun j hj => (OW.out.lt _ hj).1)
      have O2 : Aside (w3.ownsRow w.heap.size 29 2 v' (i + 1) (flatO (Ex.bidsOf (x.ords.take (i + 1))))) := by
        show w3.ownsRow _ _ _ _ _ _
        rw [EX.out, flatO_append]; exact hown'
      clear hown' hgrow3 hnil3 hcl' OW BE
      go_roundg (x.ords.length - (i + 1))
      case measure => omega
      case rel => exact ⟨i + 1, by go_num, by omega, Nat.le_refl _, O2, B2⟩
    · have hltz : ¬ (i : Int) < (x.ords.length : Int) := by omega
      obtain rfl : i = x.ords.length := by omega
      have OW2 : Aside (wr.ownsRow w.heap.size 29 2 u2 x.ords.length (flatO (Ex.bidsOf x.ords))) := by
        have := OW.out
        rwa [List.take_length] at this
      clear OW
      have e : (Ex.bidsOf x.ords).length = x.ords.length := Ex.bids_length x.ords
      obtain ⟨l, hl'⟩ : ∃ l, l = Ex.bidsOf x.ords := ⟨_, rfl⟩
      have EL : Aside (l = Ex.bidsOf x.ords) := hl'
      have OW3 := OW2.out
      rw [← hl', ← e, ← hl'] at OW3
      obtain ⟨a', c', hu2, hB⟩ := row_bids OW3
      rw [← hl'] at e
      subst hu2
      have HC : Aside _ := rclear_any l a' c' wr hB (by omega)
      have HB : Aside (BidsAt wr a' l) := hB
      have hab : ∀ b o, a' = some ⟨b, o, none⟩ → b ≠ p := fun b o e => by
        have := (World.ownsRow.lt OW3 b (by rw [e]; rfl)).1
        omega
      clear hB OW3 OW2 hl'
      rw [e] at HC
      rw [e]
      go_wp2_with fail
      refine Calls.mono (f := 15) HC.out ?_
      rintro e w2 ⟨F, rfl, hF, hFs, hB2⟩
      have BF : Aside (BoolsAt w2 F (filledL l)) := hF
      have B2 : Aside (Below w.heap.size w w2) := ⟨hB2.os.trans BE.out.os, hB2.tape.trans BE.out.tape, hB2.output.trans BE.out.output, Nat.le_trans BE.out.size hB2.size, fun k hk => (hB2.block k (Nat.lt_of_lt_of_le hk BE.out.size)).trans (BE.out.block k hk)⟩
      have R2 : Aside (RefAt w2 p x (.slice a x.ords.length cap) fv) := HR.out.kept (B2.out.block p hpl)
      have L2 : Aside (LRow w2 (.slice a x.ords.length cap) x.ords) := HO.out.kept (fun k hk => B2.out.block k (HO.out.lt hk))
      have BB : Aside (BidsAt w2 a' l) := HB.out.up hB2
      clear d87 hB2 hF
      have f2 : ∀ j, w2.frozen? ⟨p, j, none⟩ = false := FAt.frozen R2.out
      have hp2 : p < w2.heap.size := R2.out.lt
      have hbt : x.batch ≠ 0 := by have := OK.out.batch; omega
      have O2 : Aside (Onl (· = p) w w2) := (Onl.refl _ _).below B2.out
      go_wp2_with (first | (refine wpList_store_row rfl 26 _ _ rfl p 89 [.int .i64 (kL l : Nat), .int .i64 ((setL l).1 : Nat), .int .i64 (setL l).2.1, .int .i64 (setL l).2.2, .slice (some ⟨F, 0, none⟩) x.ords.length x.ords.length, .int .u64 (shareL l : Nat)] rfl rfl (FAt.there R2.out 89 6 (by decide)) (by kernel_rfl) (by intro v hv; simp only [List.mem_cons, List.not_mem_nil, or_false] at hv; rcases hv with rfl | rfl | rfl | rfl | rfl | rfl <;> rfl) ?_; intro w3 hw3; have FA3 : Aside _ := (FAt.setCells [.int .i64 (kL l : Nat), .int .i64 ((setL l).1 : Nat), .int .i64 (setL l).2.1, .int .i64 (setL l).2.2, .slice (some ⟨F, 0, none⟩) x.ords.length x.ords.length, .int .u64 (shareL l : Nat)] 89 _ _ R2.out); rw [← hw3] at FA3; have HW3 : Aside _ := hw3; clear hw3; have q4 : w3.cell? ⟨p, 4, none⟩ = some (.int .i64 x.batch) := FAt.cell FA3.out (by decide); have q88 : w3.cell? ⟨p, 88, none⟩ = some (.int .i64 x.last) := FAt.cell FA3.out (by decide); have f3 : ∀ j, w3.frozen? ⟨p, j, none⟩ = false := FAt.frozen FA3.out) | (refine wpList_store_row rfl 93 _ _ rfl p 95 (List.replicate 20 (.int .i64 0)) rfl rfl (FAt.there (FAt.set FA3.out 88 _) 95 20 (by decide)) (by kernel_rfl) (by intro v hv; rw [List.eq_of_mem_replicate hv]; rfl) ?_; intro w5 hw5; have R4 : Aside (RefAt (w3.setCell ⟨p, 88, none⟩ (.int .i64 x.batch)) p { x with lastL := l, last := x.batch } (.slice a x.ords.length cap) (.slice (some ⟨F, 0, none⟩) x.ords.length x.ords.length)) := (by rw [HW3.out]; exact R2.out.setOut l _ rfl _ hbt); have FA5 : Aside _ := (FAt.setCells (List.replicate 20 (.int .i64 0)) 95 _ _ R4.out); rw [← hw5] at FA5; have HW5 : Aside _ := hw5; clear hw5 q4 q88 f3) | (refine wpList_store_row rfl 94 _ _ rfl p 115 (List.replicate 20 (.bool false)) rfl rfl (FAt.there FA5.out 115 20 (by decide)) (by kernel_rfl) (by intro v hv; rw [List.eq_of_mem_replicate hv]; rfl) ?_; intro w6 hw6; have R6 : Aside (RefAt w6 p { x with lastL := l, last := x.batch, paid := fun _ => 0, traded := fun _ => false } (.slice a x.ords.length cap) (.slice (some ⟨F, 0, none⟩) x.ords.length x.ords.length)) := (by rw [hw6, HW5.out]; exact R4.out.setNone); have HW6 : Aside _ := hw6; clear hw6) | fail)
      have hFp : F ≠ p := by have := BE.out.size; omega
      have O6 : Aside (Onl (· = p) w2 w6) := by
        rw [HW6.out, HW5.out, HW3.out]
        exact (((((Onl.refl (fun k => k = p) w2).cells p 89 _ rfl).set ⟨p, 88, none⟩ _ (Or.inl rfl)).cells p 95 _ rfl).cells p 115 _ rfl)
      have R6' : Aside (RefAt w6 p (XS x 0) (.slice a x.ords.length cap) (.slice (some ⟨F, 0, none⟩) x.ords.length x.ords.length)) := by
        have := R6.out
        rw [EL.out] at this
        exact this
      clear R6 HW6 FA5 HW5 R4 FA3 HW3 f2
      go_loopg [4] x.ords.length (fun kx s wq => ∃ (i : Nat), s = .int .i64 i ∧ i ≤ x.ords.length ∧ x.ords.length - i ≤ kx ∧ Aside (RefAt wq p (XS x i) (.slice a x.ords.length cap) (.slice (some ⟨F, 0, none⟩) x.ords.length x.ords.length)) ∧ Aside (Onl (· = p) w2 wq))
      case atStart => exact ⟨0, rfl, Nat.zero_le _, by omega, R6', O6⟩
      case round =>
        clear R6' O6
        obtain ⟨i, rfl, hi', hkx, RI, OI⟩ := hrel
        have y87 : wr.cell? ⟨p, 87, none⟩ = some (.slice a x.ords.length cap) := RI.out.mid 1 (by decide)
        by_cases hlt : i < x.ords.length
        · have hltz : (i : Int) < (x.ords.length : Int) := by omega
          have LI : Aside (LRow wr (.slice a x.ords.length cap) x.ords) := L2.out.onl OI.out NP.out
          have DI : Aside (OrdsAt wr a x.ords) := by
            obtain ⟨a'', c'', e'', h'', _⟩ := LI.out.ords
            injection e'' with e'' _ _
            subst e''
            exact h''
          obtain ⟨g, rfl, z1, z2, z3, z4⟩ := DI.out i hlt
          have FI : Aside (BoolsAt wr F (filledL l)) := (OI.out.block F BF.out.lt hFp).trans BF.out
          have zf : wr.cell? ⟨F, i, none⟩ = some (.bool ((filledL l).getD i false)) := FI.out.cell (by rw [filledL_length]; omega)
          obtain ⟨bb, bo, rfl, s1, s2, s3⟩ := BB.out i (by omega)
          have hbb := hab bb bo rfl
          have u2 : wr.cell? ⟨bb, bo + i * 2, none⟩ = some (.int .i64 (l.getD i (0, 0)).1) := (World.cell?_of_block (a := ⟨bb, bo + i * 2, none⟩) (OI.out.block bb s1 hbb)).trans s2
          have ES : Aside _ := XS_step x i
          have eo : l.getD i (0, 0) = ((x.ords.getD i ⟨0, 0, 0⟩).side, (x.ords.getD i ⟨0, 0, 0⟩).price) := by rw [EL.out]; exact Ex.bids_getD x.ords i hlt
          rw [eo] at u2
          have ho := OK.out.ord (x.ords.getD i ⟨0, 0, 0⟩) (by rw [List.getD_eq_getElem?_getD, List.getElem?_eq_getElem hlt]; exact List.getElem_mem hlt)
          have tmI := XS_tm OK.out i (Nat.le_of_lt hlt)
          rw [← EL.out] at ES
          generalize x.ords.getD i ⟨0, 0, 0⟩ = o at *
          generalize (filledL l).getD i false = f at *
          obtain ⟨ho1, ho2, ho3, ho4⟩ := ho
          have HF : Aside _ := freesR_any wr p (XS x i) _ _ o RI.out ho1 ⟨by omega, by omega⟩ (tmI.1 o.who ho1)
          unfold ordV at HF
          have htz : (o.who : Int) < 20 := by omega
          have hbw : bb < wr.heap.size := Nat.lt_of_lt_of_le s1 OI.out.size
          clear s1 s2 s3 eo
          go_wp2_with fail
          refine Calls.mono (f := 78) HF.out ?_
          rintro e w7 ⟨rfl, R7, O7⟩
          have HR7 : Aside (RefAt w7 p { XS x i with ps := Ex.upd (XS x i).ps o.who (Ex.freed ((XS x i).ps o.who) o) } (.slice (some ⟨g, 0, none⟩) x.ords.length cap) (.slice (some ⟨F, 0, none⟩) x.ords.length x.ords.length)) := R7
          have HO7 : Aside _ := O7
          have v93 : w7.cell? ⟨p, 93, none⟩ = some (.slice (some ⟨F, 0, none⟩) x.ords.length x.ords.length) := R7.mid 7 (by decide)
          have vf : w7.cell? ⟨F, i, none⟩ = some (.bool f) := (World.cell?_of_block (a := ⟨F, i, none⟩) (O7.block F FI.out.lt hFp)).trans zf
          have vb : w7.cell? ⟨bb, bo + i * 2, none⟩ = some (.int .i64 o.side) := (World.cell?_of_block (a := ⟨bb, bo + i * 2, none⟩) (O7.block bb hbw hbb)).trans u2
          have OE : Aside (Onl (· = p) w2 w7) := OI.out.trans O7 (fun _ h => Or.inl h)
          have hsd : o.side = 0 ∨ o.side = 1 := ho2
          cases f with
          | false =>
            clear R7 O7 y87 z1 z2 z3 z4 zf u2
            go_wp2
            go_roundg (x.ords.length - (i + 1))
            case measure => omega
            case rel => exact ⟨i + 1, by go_num, by omega, Nat.le_refl _, RefAt.same HR7.out (by rw [ES.out]; rfl), OE⟩
          | true =>
            have fz : ∀ j, w7.frozen? ⟨p, j, none⟩ = false := FAt.frozen R7
            have k0 := R7.c0 ho1
            have k2 := R7.c2 ho1
            have k86 : w7.cell? ⟨p, 86, none⟩ = some (.int .i64 (XS x i).own) := R7.mid 0 (by decide)
            have k91 : w7.cell? ⟨p, 91, none⟩ = some (.int .i64 (setL (Ex.bidsOf x.ords)).2.1) := R7.mid 5 (by decide)
            have k92 : w7.cell? ⟨p, 92, none⟩ = some (.int .i64 (setL (Ex.bidsOf x.ords)).2.2) := R7.mid 6 (by decide)
            have k95 := R7.paid o.who ho1
            have k115 := R7.traded o.who ho1
            have sb := set_bd (Ex.bidsOf x.ords)
            have ft : TmB (1152921504606846976 + 1000) (Ex.freed ((XS x i).ps o.who) o) := freed_tm (tmI.1 o.who ho1) ⟨by omega, by omega⟩
            have ob := tmI.2
            rw [EL.out] at ES
            rw [show ({ XS x i with ps := Ex.upd (XS x i).ps o.who (Ex.freed ((XS x i).ps o.who) o) } : Ex.Xch).ps o.who = Ex.freed ((XS x i).ps o.who) o from Ex.upd_same _ _ _] at k0 k2
            unfold TmB at ft
            have EST : Aside (∀ pay get, stepS pay get (XS x i) o true = if o.side = 0 then { XS x i with ps := Ex.upd (XS x i).ps o.who { Ex.freed ((XS x i).ps o.who) o with cash := (Ex.freed ((XS x i).ps o.who) o).cash - pay, units := (Ex.freed ((XS x i).ps o.who) o).units + 1 }, own := (XS x i).own + pay, paid := Ex.upd (XS x i).paid o.who pay, traded := Ex.upd (XS x i).traded o.who true } else { XS x i with ps := Ex.upd (XS x i).ps o.who { Ex.freed ((XS x i).ps o.who) o with units := (Ex.freed ((XS x i).ps o.who) o).units - 1, cash := (Ex.freed ((XS x i).ps o.who) o).cash + get }, own := (XS x i).own - get, paid := Ex.upd (XS x i).paid o.who get, traded := Ex.upd (XS x i).traded o.who true }) := fun pay get => by
              unfold stepS Ex.tradeOne
              rw [if_pos rfl]
              by_cases hs : o.side = 0
              · rw [if_pos hs, if_pos hs]
              · rw [if_neg hs, if_neg hs]
            generalize (setL (Ex.bidsOf x.ords)).2.1 = P at *
            generalize (setL (Ex.bidsOf x.ords)).2.2 = G at *
            generalize Ex.freed ((XS x i).ps o.who) o = q at *
            obtain ⟨⟨a1, a2⟩, ⟨a3, a4⟩, ⟨a5, a6⟩, a7, a8⟩ := ft
            obtain ⟨⟨p1, p2⟩, p3, p4⟩ := sb
            obtain ⟨ob1, ob2⟩ := ob
            have n1 : 115 + o.who ≠ 91 := by omega
            have n2 : 95 + o.who ≠ 91 := by omega
            have n3 : 6 + o.who * 4 ≠ 91 := by omega
            have n4 : 6 + o.who * 4 + 2 ≠ 91 := by omega
            have n5 : 115 + o.who ≠ 92 := by omega
            have n6 : 95 + o.who ≠ 92 := by omega
            have n7 : 6 + o.who * 4 ≠ 92 := by omega
            have n8 : 6 + o.who * 4 + 2 ≠ 92 := by omega
            have n9 : 115 + o.who ≠ 86 := by omega
            have n10 : 95 + o.who ≠ 86 := by omega
            have n11 : 6 + o.who * 4 ≠ 86 := by omega
            have n12 : 6 + o.who * 4 + 2 ≠ 86 := by omega
            have n13 : 115 + o.who ≠ 95 + o.who := by omega
            have n14 : 115 + o.who ≠ 6 + o.who * 4 := by omega
            have n15 : 115 + o.who ≠ 6 + o.who * 4 + 2 := by omega
            have n16 : 95 + o.who ≠ 6 + o.who * 4 := by omega
            have n17 : 95 + o.who ≠ 6 + o.who * 4 + 2 := by omega
            have wr1 : IntKind.i64.wrap (q.cash - P) = q.cash - P := IntWalk.i64_in _ (by omega)
            have wr2 : IntKind.i64.wrap ((XS x i).own + P) = (XS x i).own + P := IntWalk.i64_in _ (by omega)
            have wr3 : IntKind.i64.wrap (q.units + 1) = q.units + 1 := IntWalk.i64_in _ (by omega)
            have wr4 : IntKind.i64.wrap (q.units - 1) = q.units - 1 := IntWalk.i64_in _ (by omega)
            have wr5 : IntKind.i64.wrap (q.cash + G) = q.cash + G := IntWalk.i64_in _ (by omega)
            have wr6 : IntKind.i64.wrap ((XS x i).own - G) = (XS x i).own - G := IntWalk.i64_in _ (by omega)
            have hFp' : F ≠ p := hFp
            clear R7 O7 y87 z1 z2 z3 z4 zf u2 ho2 tmI HF RI
            generalize XS x i = Y at *
            by_cases hs : o.side = 0
            · have hsz : (o.side == 0) = true := by rw [hs]; rfl
              have EST2 : Aside _ := (EST.out P G).trans (if_pos hs)
              clear hs hsd
              go_wp2_with fail
              go_region_with (fail)
              all_goals go_wp2_with fail
              all_goals go_region_with (fail)
              all_goals go_wp2_with fail
              all_goals go_region_with (fail)
              all_goals go_wp2_with fail
              all_goals go_region_with (fail)
              all_goals go_wp2
              all_goals
                have O8 := ((((OE.out.set ⟨p, 115 + o.who, none⟩ (.bool true) (Or.inl rfl)).set ⟨p, 95 + o.who, none⟩ (.int .i64 P) (Or.inl rfl)).set ⟨p, 6 + o.who * 4, none⟩ (.int .i64 (q.cash - P)) (Or.inl rfl)).set ⟨p, 6 + o.who * 4 + 2, none⟩ (.int .i64 (q.units + 1)) (Or.inl rfl)).set ⟨p, 86, none⟩ (.int .i64 (Y.own + P)) (Or.inl rfl)
                go_roundg (x.ords.length - (i + 1))
                case measure => omega
                case rel => exact ⟨i + 1, by go_num, by omega, Nat.le_refl _, RefAt.dr (RefAt.dr (RefAt.dr (RefAt.dr (RefAt.same (RefAt.setOwn (RefAt.setUnits (RefAt.setCash (RefAt.setPaid (RefAt.setTraded HR7.out o.who ho1 true) o.who ho1 P) o.who ho1 (q.cash - P)) o.who ho1 (q.units + 1)) (Y.own + P)) ((by simp only [upd_upd, Ex.upd_same] : _ = _).trans (ES.out.trans EST2.out).symm))))), O8.drew.drew.drew.drew⟩
            · have hsz : (o.side == 0) = false := beq_eq_false_iff_ne.2 hs
              have EST2 : Aside _ := (EST.out P G).trans (if_neg hs)
              clear hs hsd
              go_wp2_with fail
              go_region_with (fail)
              all_goals go_wp2_with fail
              all_goals go_region_with (fail)
              all_goals go_wp2_with fail
              all_goals go_region_with (fail)
              all_goals go_wp2_with fail
              all_goals go_region_with (fail)
              all_goals go_wp2
              all_goals
                have O8 := ((((OE.out.set ⟨p, 115 + o.who, none⟩ (.bool true) (Or.inl rfl)).set ⟨p, 95 + o.who, none⟩ (.int .i64 G) (Or.inl rfl)).set ⟨p, 6 + o.who * 4 + 2, none⟩ (.int .i64 (q.units - 1)) (Or.inl rfl)).set ⟨p, 6 + o.who * 4, none⟩ (.int .i64 (q.cash + G)) (Or.inl rfl)).set ⟨p, 86, none⟩ (.int .i64 (Y.own - G)) (Or.inl rfl)
                go_roundg (x.ords.length - (i + 1))
                case measure => omega
                case rel => exact ⟨i + 1, by go_num, by omega, Nat.le_refl _, RefAt.dr (RefAt.dr (RefAt.dr (RefAt.dr (RefAt.same (RefAt.setOwn (RefAt.setCash (RefAt.setUnits (RefAt.setPaid (RefAt.setTraded HR7.out o.who ho1 true) o.who ho1 G) o.who ho1 (q.units - 1)) o.who ho1 (q.cash + G)) (Y.own - G)) ((by simp only [upd_upd, Ex.upd_same] : _ = _).trans (ES.out.trans EST2.out).symm))))), O8.drew.drew.drew.drew⟩
        · have hltz : ¬ (i : Int) < (x.ords.length : Int) := by omega
          obtain rfl : i = x.ords.length := by omega
          have HRI : Aside _ := RI.out
          have j3 : wr.cell? ⟨p, 3, none⟩ = some (.int .i64 x.time) := RI.out.head 3 (by decide)
          have j4 : wr.cell? ⟨p, 4, none⟩ = some (.int .i64 x.batch) := RI.out.head 4 (by decide)
          have j5 : wr.cell? ⟨p, 5, none⟩ = some (.int .i64 x.fin) := RI.out.head 5 (by decide)
          have j0 : wr.cell? ⟨p, 0, none⟩ = some (.int .i64 x.period) := RI.out.head 0 (by decide)
          have fz : ∀ j, wr.frozen? ⟨p, j, none⟩ = false := FAt.frozen RI.out
          have q1 := OK.out.time
          have q2 := OK.out.per
          have q3 := OK.out.batch
          obtain ⟨q11, q12⟩ := q1
          obtain ⟨q21, q22⟩ := q2
          have wr1 : IntKind.i64.wrap (x.time + x.period) = x.time + x.period := IntWalk.i64_in _ (by omega)
          go_wp2_with fail
          go_region_with (fail)
          all_goals go_wp2
          all_goals go_end0
          all_goals
            have R8 := RefAt.setFin (RefAt.setBatch (RefAt.setOv RI.out (.slice none 0 0) []) (x.batch + 1)) (x.time + x.period)
            have O8 := ((OI.out.set ⟨p, 87, none⟩ (.slice none 0 0) (Or.inl rfl)).set ⟨p, 4, none⟩ (.int .i64 (x.batch + 1)) (Or.inl rfl)).set ⟨p, 5, none⟩ (.int .i64 (x.time + x.period)) (Or.inl rfl)
            have O9 : Onl (fun k => k = p ∨ (Value.slice a x.ords.length cap).ownBlock = some k) w _ := (O2.out.mono (fun _ h => Or.inl h)).trans O8 (fun _ h => Or.inl (Or.inl h))
            exact ⟨rfl, .slice none 0 0, _, RefAt.same (RefAt.dr R8) (XS_end x), LRow.nil _, fun k hk => by simp [Value.ownBlock] at hk, O9.drew⟩
end Go.Proofs.Ytjfifaooimgbaaa
