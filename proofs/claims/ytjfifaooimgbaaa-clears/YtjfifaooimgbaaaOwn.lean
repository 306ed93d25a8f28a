/- The walk of Book.own. -/
import Derived.Test.YtjfifaooimgbaaaBook
namespace Go.Proofs.Ytjfifaooimgbaaa
open Go.Shelf Go.RowKit Go.Lib Go.Sort
set_option maxRecDepth 100000

theorem make_bools2 (n : Nat) (w : World) (hn : n ≤ 17592186044416) : (Instr.makeSlice 23 (.int .i64 (n : Int)) (.int .i64 (n : Int))).run Try.prog w = .ok (.slice (some ⟨w.heap.size, 0, none⟩) n n) (w.alloc (.cells ((List.replicate n false).map Value.bool).toArray 4)) := by
  obtain ⟨i0, hi, hz0, hz1, hz2⟩ := info_parts Try.info4
  have h := run_make (P := Try.prog) w 23 4 i0 (.bool false) Try.underlying23 hi hz0 .i64 .i64 (n : Int) (n : Int) (by omega) (Int.le_refl _) (by rw [hz2]; omega) (by omega)
  rw [hz1, Int.toNat_natCast, made_bools] at h
  exact h

theorem bools_one (l : List Bool) : ∀ u ∈ l.map Value.bool, u.oneCell' = true := by
  intro u hu
  obtain ⟨x, _, rfl⟩ := List.mem_map.1 hu
  rfl

/-- 'copy(w, was)' into a row of one's own as long as it. -/
theorem run_copy_bools (w : World) (ty : TypeId) (g : Nat) (a : Option Addr) (cap : Nat) (row : Array Value) (t : TypeId) (l : List Bool) (hB : BsAt w a l)
    (hg : w.heap[g]? = some (.cells row t (0, 0))) (hfit : row.size = l.length) :
    (Builtin.copy_ #[23, 23] ty #[.slice (some ⟨g, 0, none⟩) l.length l.length, .slice a l.length cap]).run Try.prog w = .ok (goInt l.length) (w.setRow g (l.map Value.bool).toArray) := by
  obtain ⟨i0, hi, hz0, hz1, hz2⟩ := info_parts Try.info4
  have hst := run_storeCells_at Try.prog g 0 t (l.map Value.bool) 0 row w hg (by rw [List.length_map]; omega) (bools_one l)
  by_cases h0 : l.length = 0
  · have hl : l = [] := List.length_eq_zero_iff.1 h0
    subst hl
    have hr : row = #[] := Array.eq_empty_of_size_eq_zero (by simpa using hfit)
    subst hr
    have hs := setRow_self w g #[] t (0, 0) hg
    cases a with
    | none => simp [Builtin.copy_, run_underlying Try.underlying23, Builtin.lenOf, Builtin.firstCells, sizeOf, typeInfo, hi, storeCells, hs]
    | some a => simp [Builtin.copy_, run_underlying Try.underlying23, Builtin.lenOf, Builtin.firstCells, sizeOf, typeInfo, hi, storeCells, loadCells, loadCellsFrom, hs]
  · obtain ⟨b, rfl, _⟩ := hB 0 (by omega)
    have hl := run_loadCells_list (P := Try.prog) w ⟨b, 0, none⟩ (l.map Value.bool) (fun j u hu => by
      have hj : j < l.length := by have := (List.getElem?_eq_some_iff.1 hu).1; simpa using this
      obtain ⟨b', eb, _, hc⟩ := hB j hj
      injection eb with eb; injection eb with eb1; subst eb1
      rw [Addr.add_lit, Nat.zero_add, hc]
      rw [List.getElem?_map, List.getElem?_eq_getElem hj] at hu
      rw [List.getD_eq_getElem?_getD, List.getElem?_eq_getElem hj]
      simpa using hu)
    rw [List.length_map] at hl
    have hd : row.toList.drop l.length = [] := by rw [List.drop_eq_nil_iff]; simp [hfit]
    simp only [Nat.zero_add, List.take_zero, List.nil_append, List.length_map, hd, List.append_nil] at hst
    simp [Builtin.copy_, run_underlying Try.underlying23, Builtin.lenOf, Builtin.firstCells, sizeOf, typeInfo, hi, hz1, hl, hst]

/-- w := make([]bool, len(was)); copy(w, was). -/
theorem made_copy (W : World) (a : Option Addr) (cap : Nat) (l : List Bool) (hB : BsAt W a l) (hl : l.length ≤ 17592186044416) :
    ∃ W1 W2, (Instr.makeSlice 23 (.int .i64 (l.length : Int)) (.int .i64 (l.length : Int))).run Try.prog W = .ok (.slice (some ⟨W.heap.size, 0, none⟩) l.length l.length) W1 ∧
      (∀ ty, (Builtin.copy_ #[23, 23] ty #[.slice (some ⟨W.heap.size, 0, none⟩) l.length l.length, .slice a l.length cap]).run Try.prog W1 = .ok (goInt l.length) W2) ∧ BoolsAt W2 W.heap.size l ∧ Below W.heap.size W W2 := by
  have hg : (W.alloc (.cells ((List.replicate l.length false).map Value.bool).toArray 4)).heap[W.heap.size]? = some (.cells ((List.replicate l.length false).map Value.bool).toArray 4 (0, 0)) := by
    show (W.heap.push _)[W.heap.size]? = _
    simp
  refine ⟨_, _, make_bools2 l.length W hl, fun ty => run_copy_bools _ ty W.heap.size a cap _ 4 l (hB.up (below_alloc W _)) hg (by simp), ?_, ?_⟩
  · exact setRow_heap _ _ _ _ _ _ hg
  · exact (below_alloc W _).trans ⟨rfl, rfl, rfl, by simp, fun k hk => setRow_other _ _ _ _ (by omega)⟩

/-- the first i turned over. -/
def mixL (fl : List Bool) (i : Nat) : List Bool := (fl.take i).map (fun b => !b) ++ fl.drop i
theorem mixL_zero (fl : List Bool) : mixL fl 0 = fl := by simp [mixL]
theorem mixL_all (fl : List Bool) : mixL fl fl.length = fl.map (fun b => !b) := by simp [mixL]
theorem mixL_length (fl : List Bool) (i : Nat) : (mixL fl i).length = fl.length := by simp [mixL]; omega
theorem mixL_at (fl : List Bool) (i : Nat) (h : i < fl.length) : (mixL fl i).getD i false = fl.getD i false := by
  rw [List.getD_eq_getElem?_getD, List.getD_eq_getElem?_getD, mixL, List.getElem?_append_right (by simp; omega)]
  simp only [List.length_map, List.length_take, List.getElem?_drop]
  congr 2
  omega
theorem mixL_next (fl : List Bool) (i : Nat) (h : i < fl.length) : (mixL fl i).set i (!(fl.getD i false)) = mixL fl (i + 1) := by
  have e1 : ((fl.take i).map (fun b => !b)).length = i := by simp; omega
  unfold mixL
  rw [List.set_append_right _ _ (by omega), e1, Nat.sub_self, List.drop_eq_getElem_cons h, List.set_cons_zero, List.take_succ_eq_append_getElem h, List.map_append, List.append_assoc]
  rw [List.getD_eq_getElem?_getD, List.getElem?_eq_getElem h]
  rfl
theorem turned_next (fl : List Bool) (i : Nat) (h : i < fl.length) : (fl.take (i + 1)).map (fun b => Value.bool !b) = (fl.take i).map (fun b => Value.bool !b) ++ [.bool (!(fl.getD i false))] := by
  rw [List.take_succ_eq_append_getElem h, List.map_append, List.getD_eq_getElem?_getD, List.getElem?_eq_getElem h]
  rfl

theorem own_of_bools {w : World} {F B : Nat} {fl : List Bool} (h : BoolsAt w F fl) (hb : B ≤ F) (hl : fl.length ≤ maxLen) : w.ownsRow B 4 1 (.slice (some ⟨F, 0, none⟩) fl.length fl.length) fl.length (fl.map Value.bool) :=
  ⟨by simp, Or.inr ⟨F, fl.length, _, rfl, hb, h, Nat.le_refl _, hl, by simp, by simp [List.take_of_length_le]⟩⟩

theorem turned_start {w0 w : World} {X B F : Nat} {vL vW vw : Value} {es : List Ent} {kk : Int} {fl : List Bool} (h : BookOk w0 X B vL vW es kk) (hBF : B ≤ F) (hFS : F < w0.heap.size) (hX : F ≠ X) (hL : vL.ownBlock ≠ some F) (hW : vW.ownBlock ≠ some F)
    (hE : ∀ e ∈ es, e.l.ownBlock ≠ some F ∧ e.k.ownBlock ≠ some F) (hB : B ≤ w0.heap.size) (hfl : fl.length ≤ 17592186044416)
    (g : w0.grownBy w (some F)) (hF : BoolsAt w F (mixL fl fl.length)) (ho : w.ownsRow w0.heap.size 4 1 vw fl.length ((fl.take fl.length).map (fun b => Value.bool !b))) :
    OwnSt w X B vL vW es kk (.slice (some ⟨F, 0, none⟩) fl.length fl.length) vw (fl.map (fun b => !b)) := by
  rw [mixL_all] at hF
  have e1 : (fl.map (fun b => !b)).length = fl.length := List.length_map _
  have e2 : (fl.take fl.length).map (fun b => Value.bool !b) = (fl.map (fun b => !b)).map Value.bool := by simp
  rw [e2] at ho
  have hXs := h.lt
  refine ⟨h.but g (fun e => by injection e with e; exact hX e) (fun k hk e => by injection e with e; subst e; exact hL hk) (fun k hk e => by injection e with e; subst e; exact hW hk) (fun e he k hk e' => by
    injection e' with e'
    subst e'
    rcases hk with hk | hk
    · exact (hE e he).1 hk
    · exact (hE e he).2 hk), ?_, ?_, ?_, ?_⟩
  · have := own_of_bools hF hBF (by rw [e1]; unfold maxLen; omega)
    rwa [e1] at this ⊢
  · rw [e1]; exact own_base' ho hB
  · intro k hk
    have hk' : some F = some k := hk
    injection hk' with hk'
    subst hk'
    refine ⟨hX, hL, hW, fun e => ?_, fun e he => ⟨(hE e he).2, fun e' => absurd e' (hE e he).1⟩⟩
    have := (ho.lt F e).1
    omega
  · intro k hk
    have hk1 := (ho.lt k hk).1
    refine ⟨by omega, fun e => ?_, fun e => ?_, fun e he => ⟨fun e' => ?_, fun e' => ?_⟩⟩
    · have := (h.oL.lt k e).2; omega
    · have := (h.oW.lt k e).2; omega
    · have := (h.ap e he k (Or.inl e')).1; omega
    · have := (h.ap e he k (Or.inr e')).1; omega

theorem BookOk.count {w : World} {X B : Nat} {vL vW : Value} {es : List Ent} {kk : Int} (h : BookOk w X B vL vW es kk) (n : Int) : BookOk (w.setCell ⟨X, 2, none⟩ (.int .i64 n)) X B vL vW es n := by
  have g := setCell_grown w X 2 (.int .i64 n)
  have hb : ∀ k, k < w.heap.size → k ≠ X → (w.setCell ⟨X, 2, none⟩ (.int .i64 n)).heap[k]? = w.heap[k]? := fun k hk hne => g.block k hk (fun e => hne (by injection e))
  refine ⟨by rw [setCell_heap h.bx]; rfl, h.hB, own_block h.oL fun k hk => hb k (h.oL.lt k hk).2 (fun e => h.xL (e ▸ hk)), own_block h.oW fun k hk => hb k (h.oW.lt k hk).2 (fun e => h.xW (e ▸ hk)), h.xL, h.xW, h.lw,
    fun e he => (h.at1 e he).block g.size fun k hk => hb k (h.ap e he k (Or.inl hk)).1 (h.ap e he k (Or.inl hk)).2.1, fun e he => (h.at2 e he).block g.size fun k hk => hb k (h.ap e he k (Or.inr hk)).1 (h.ap e he k (Or.inr hk)).2.1, h.len,
    fun e he k hk => ⟨Nat.lt_of_lt_of_le (h.ap e he k hk).1 g.size, (h.ap e he k hk).2⟩⟩

theorem own_sl {w : World} {B : Nat} {e : TypeId} {v : Value} {n : Nat} {xs : List Value} (h : w.ownsRow B e 1 v n xs) : ∃ a m c, v = .slice a m c := by
  obtain ⟨a, c, e, _⟩ := own_slice h
  exact ⟨a, n, c, e⟩

set_option maxHeartbeats 4000000 in
set_option maxRecDepth 100000 in
theorem own_any (w : World) (X B F : Nat) (vL vW : Value) (es : List Ent) (kk : Int) (fl : List Bool) (h : BookOk w X B vL vW es kk) (hF : BoolsAt w F fl) (hBF : B ≤ F) (hX : F ≠ X) (hL : vL.ownBlock ≠ some F) (hW : vW.ownBlock ≠ some F)
    (hE : ∀ e ∈ es, e.l.ownBlock ≠ some F ∧ e.k.ownBlock ≠ some F) (hkk : 0 ≤ kk ∧ kk ≤ 1000000) (hes : es.length ≤ 999000) (hfl : fl.length ≤ 8796093022208) :
    Calls Try.prog 18 #[.pointer (some ⟨X, 0, none⟩), .slice (some ⟨F, 0, none⟩) fl.length fl.length] w fun e w' => e = .returned (.tuple #[]) ∧ ∃ vL' vW' es', BookOk w' X B vL' vW' es' (kk + 1) ∧ es'.length = es.length + 4 ∧ Below B w w' := by
  have mixed : Try.prog.follows .mixedOrders = true := by kernel_rfl
  have x2 := box_cell h.bx 2
  have f2 := box_frozen h.bx 2
  have hFS := hF.lt
  have hXS := h.lt
  have H0 : Aside (BookOk (w.setCell ⟨X, 2, none⟩ (.int .i64 (kk + 1))) X B vL vW es (kk + 1)) := h.count (kk + 1)
  have hBX := h.hB
  obtain ⟨w0, hw0⟩ : ∃ w0, w0 = w.setCell ⟨X, 2, none⟩ (.int .i64 (kk + 1)) := ⟨_, rfl⟩
  have HW0 : Aside (w0 = w.setCell ⟨X, 2, none⟩ (.int .i64 (kk + 1))) := hw0
  have s0 : w0.heap.size = w.heap.size := by rw [hw0]; simp [World.setCell]
  have F0 : Aside (BoolsAt w0 F (mixL fl 0)) := by
    show BoolsAt _ _ _
    rw [mixL_zero, hw0]
    exact ((setCell_grown w X 2 (.int .i64 (kk + 1))).block F hFS (fun e => hX (by injection e))).trans hF
  have B0 : Aside (Below B w w0) := by rw [hw0]; exact (Below.refl _ _).setCell (p := ⟨X, 2, none⟩) hBX _
  rw [← hw0] at H0
  have HSEP : Aside (F < w.heap.size ∧ F ≠ X ∧ vL.ownBlock ≠ some F ∧ vW.ownBlock ≠ some F ∧ (∀ e ∈ es, e.l.ownBlock ≠ some F ∧ e.k.ownBlock ≠ some F)) := ⟨hFS, hX, hL, hW, hE⟩
  clear hw0 h hF hX hL hW hE
  go_enter Try.func18, Try.ntmps18
  go_wp2_with fail
  rw [← HW0.out]
  clear HW0 x2 f2
  go_loopg [4, 5] fl.length (fun kx s t wq => ∃ i : Nat, t = .int .i64 i ∧ i ≤ fl.length ∧ fl.length - i ≤ kx ∧ Aside (w0.grownBy wq (some F)) ∧ Aside (BoolsAt wq F (mixL fl i)) ∧ Aside (wq.ownsRow w0.heap.size 4 1 s i ((fl.take i).map (fun b => Value.bool !b))))
  case atStart => exact ⟨0, rfl, Nat.zero_le _, by omega, gb_refl _ _, F0, World.ownsRow_nil _ _ _ _⟩
  case round =>
    obtain ⟨i, rfl, hi, hkx, G1, F1, O1⟩ := hrel
    by_cases hlt : i < fl.length
    · have hltz : (i : Int) < (fl.length : Int) := by omega
      have hc := F1.out.cell (i := i) (by rw [mixL_length]; exact hlt)
      have hf := F1.out.frozen i
      rw [mixL_at fl i hlt] at hc
      have F2 : Aside (BoolsAt (wr.setCell ⟨F, i, none⟩ (.bool (!(fl.getD i false)))) F (mixL fl (i + 1))) := by
        have := F1.out.set i (!(fl.getD i false))
        rwa [mixL_next fl i hlt] at this
      have TN : Aside _ := turned_next fl i hlt
      generalize fl.getD i false = bb at hc F2 TN
      have G2 : Aside (w0.grownBy (wr.setCell ⟨F, i, none⟩ (.bool (!bb))) (some F)) := gb_set G1.out i _
      have hc2 : (wr.setCell ⟨F, i, none⟩ (.bool (!bb))).cell? ⟨F, i, none⟩ = some (.bool (!bb)) := World.cell?_setCell_same _ _ _ hc
      have O2 : Aside ((wr.setCell ⟨F, i, none⟩ (.bool (!bb))).ownsRow w0.heap.size 4 1 u4 i ((fl.take i).map (fun b => Value.bool !b))) := own_block O1.out fun g hg => (setCell_grown wr F i _).block g (O1.out.lt g hg).2 (fun e => by
        have := (O1.out.lt g hg).1
        injection e with e
        have := HSEP.out.1
        omega)
      obtain ⟨W1, hW1⟩ : ∃ W1, W1 = wr.setCell ⟨F, i, none⟩ (.bool (!bb)) := ⟨_, rfl⟩
      have HW1 : Aside (W1 = wr.setCell ⟨F, i, none⟩ (.bool (!bb))) := hW1
      rw [← hW1] at F2 G2 O2
      obtain ⟨v2, W2, q2, O3, g3, -, -⟩ := append_keep W1 w0.heap.size 23 4 (.bool false) 1 Try.underlying23 Try.info4 rfl (by decide) u4 i _ (.bool (!bb)) rfl O2.out G2.out.size (by omega)
      have OF : Aside (W2.ownsRow w0.heap.size 4 1 v2 (i + 1) ((fl.take (i + 1)).map (fun b => Value.bool !b))) := by
        show World.ownsRow _ _ _ _ _ _ _
        rw [TN.out]; exact O3
      have nF : Value.ownBlock u4 ≠ some F := fun e => by
        have := (O1.out.lt F e).1
        have := HSEP.out.1
        omega
      have FF : Aside (BoolsAt W2 F (mixL fl (i + 1))) := (g3.block F F2.out.lt (fun e => nF e.symm)).trans F2.out
      have GF : Aside (w0.grownBy W2 (some F)) := ⟨g3.os.trans G2.out.os, g3.tape.trans G2.out.tape, g3.output.trans G2.out.output, Nat.le_trans G2.out.size g3.size, fun k hk hne => (g3.block k (Nat.lt_of_lt_of_le hk G2.out.size) (fun e => by
        have := (O1.out.lt k e.symm).1
        omega)).trans (G2.out.block k hk hne)⟩
      have hsz : W1.heap.size = wr.heap.size := by rw [hW1]; simp [World.setCell]
      rw [hsz, hW1] at q2
      have Q2 : Aside _ := q2
      clear hsz HW1 q2 O3 g3 O2 G2 F2 TN O1 G1 F1 hW1
      go_wp2_with (at_builtin; refine wpList_append_by rfl (.tmp 30) (.tmp 35) 23 rfl u4 (.slice (some ⟨wr.heap.size, 0, none⟩) 1 1) rfl rfl v2 W2 (Q2.out _) ?_; refine Halted.out ?_)
      refine Halted.mk ?_
      go_wp2
      go_roundg (fl.length - (i + 1))
      case measure => omega
      case rel => exact ⟨i + 1, by go_num, by omega, Nat.le_refl _, GF, FF, OF⟩
    · have hltz : ¬ (i : Int) < (fl.length : Int) := by omega
      obtain rfl : i = fl.length := by omega
      have ST : Aside (OwnSt wr X B vL vW es (kk + 1) (.slice (some ⟨F, 0, none⟩) fl.length fl.length) u4 (fl.map (fun b => !b))) := turned_start H0.out hBF (by rw [s0]; exact HSEP.out.1) HSEP.out.2.1 HSEP.out.2.2.1 HSEP.out.2.2.2.1 HSEP.out.2.2.2.2 (by omega) (by omega) G1.out F1.out O1.out
      have BW : Aside (Below B w wr) := B0.out.grown G1.out (by omega) (fun k hk => by injection hk with hk; omega)
      clear G1 F1 O1 H0 B0 F0
      go_wp2_with fail
      obtain ⟨wb, rfl⟩ : ∃ wb, wb = wr := ⟨_, rfl⟩
      have hwb : Aside (B ≤ wb.heap.size) := by
        have h1 := BW.out.size
        show _ ≤ _
        omega
      go_loopg [1, 4, 6] 4 (fun kx s t u wq => ∃ (i : Nat) (vL1 vW1 : Value) (es1 : List Ent) (cur : List Bool), u = .int .i64 i ∧ i ≤ 4 ∧ 4 - i ≤ kx ∧ Aside (OwnSt wq X B vL1 vW1 es1 (kk + 1) s t cur) ∧ Aside (es1.length = es.length + i) ∧ Aside (cur.length = fl.length + i) ∧ Aside (Below B w wq))
      case atStart => exact ⟨0, vL, vW, es, _, rfl, by omega, by omega, ST, rfl, List.length_map _, BW⟩
      case round =>
        obtain ⟨i, vL1, vW1, es1, cur, rfl, hi4, hkx4, ST1, HE1, HC1, B1⟩ := hrel
        have hel : es1.length ≤ 999100 := by have := HE1.out; omega
        have hcl : cur.length ≤ 8796093022300 := by have := HC1.out; omega
        by_cases hlt : i < 4
        · have hltz : (i : Int) < 4 := by omega
          obtain ⟨aw, cw, rfl, -⟩ := own_slice ST1.out.ow
          obtain ⟨al, nl, cl, rfl⟩ := own_sl ST1.out.ol
          have hBS : BsAt wr aw cur := by
            obtain ⟨a, c, e, hb⟩ := EntryAt.own ST1.out.ow
            injection e with e1 e2 e3
            subst e1
            exact hb
          have hBW : B ≤ wr.heap.size := by have := B1.out.size; omega
          obtain ⟨W1, W2, hmk, hcp, FK, BK⟩ := made_copy wr aw cw cur hBS (by omega)
          obtain ⟨vL', W3, vW', W4, r1, r2, ST2, sz, hX3, hX4, BP⟩ := own_push ST1.out BK FK hBW (by omega) (by omega)
          obtain ⟨aL, nL, cL, rfl⟩ := own_sl ST2.bk.oL
          obtain ⟨aW, nW, cW, rfl⟩ := own_sl ST2.bk.oW
          have hX2 := (ST1.out.up BK).bk.bx
          have x20 := box_cell hX2 0
          have x30 := box_cell hX3 0
          have x31 := box_cell hX3 1
          have z30 := box_frozen hX3 0
          have x41 := box_cell hX4 1
          have x42 := box_cell hX4 2
          have z41 := box_frozen hX4 1
          have hs3 : (W3.setCell ⟨X, 0, none⟩ (.slice aL nL cL)).heap.size = W3.heap.size := by simp [World.setCell]
          have hs4 : (W4.setCell ⟨X, 1, none⟩ (.slice aW nW cW)).heap.size = W4.heap.size := by simp [World.setCell]
          rw [hs3] at r2
          have R1 : Aside _ := r1
          have R2 : Aside _ := r2
          have BB2 : Aside (Below B w (W4.setCell ⟨X, 1, none⟩ (.slice aW nW cW))) := (B1.out.trans (BK.mono hBW)).trans BP
          have S2 : Aside _ := ST2
          have hBW4 : B ≤ (W4.setCell ⟨X, 1, none⟩ (.slice aW nW cW)).heap.size := by have := BB2.out.size; omega
          have GG : Aside (∀ y, ∃ vl' W6 vw' W7, (∀ ty, (Builtin.append_ #[23, 23] ty #[(.slice al nl cl), .slice (some ⟨W4.heap.size, 0, none⟩) 1 1]).run Try.prog ((W4.setCell ⟨X, 1, none⟩ (.slice aW nW cW)).alloc (.cells #[.bool y] 4)) = .ok vl' W6) ∧
              (∀ ty, (Builtin.append_ #[23, 23] ty #[.slice aw cur.length cw, .slice (some ⟨W6.heap.size, 0, none⟩) 1 1]).run Try.prog (W6.alloc (.cells #[.bool y] 4)) = .ok vw' W7) ∧ OwnSt W7 X B (.slice aL nL cL) (.slice aW nW cW) (es1 ++ [⟨cur, (.slice al nl cl), .slice (some ⟨wr.heap.size, 0, none⟩) cur.length cur.length⟩]) (kk + 1) vl' vw' (cur ++ [y]) ∧ Below B w W7) := fun y => by
            obtain ⟨vl', W6, vw', W7, r3, r4, ST3, BG⟩ := own_grow S2.out y hBW4 (by omega)
            rw [hs4] at r3
            exact ⟨vl', W6, vw', W7, r3, r4, ST3, BB2.out.trans BG⟩
          clear r1 r2 hX2 hX3 hX4 hs3 hs4 S2 ST2 BB2 BP BK FK ST1 hBS sz B1 hBW4 ST BW
          go_wp2_with (at_builtin; refine wpList_append_by rfl (.tmp 51) (.tmp 53) 32 rfl vL1 (.slice (some ⟨W2.heap.size, 0, none⟩) 1 1) rfl rfl (.slice aL nL cL) W3 (R1.out _) ?_; refine Halted.out ?_)
          refine Halted.mk ?_
          go_wp2_with (at_builtin; refine wpList_append_by rfl (.tmp 61) (.tmp 63) 32 rfl vW1 (.slice (some ⟨W3.heap.size, 0, none⟩) 1 1) rfl rfl (.slice aW nW cW) W4 (R2.out _) ?_; refine Halted.out ?_)
          refine Halted.mk ?_
          by_cases hy : (kk + 1 + (i : Int)) % 2 = 0
          · have hm : (kk + 1 + (i : Int)).tmod 2 = 0 := by rw [Int.tmod_eq_emod_of_nonneg (by omega)]; exact hy
            obtain ⟨vl', W6, vw', W7, r3, r4, ST3, BG⟩ := GG.out true
            have R3 : Aside _ := r3
            have R4 : Aside _ := r4
            have S3 : Aside _ := ST3
            have B3 : Aside _ := BG
            clear r3 r4 ST3 BG GG
            go_wp2_with (at_builtin; refine wpList_append_by rfl (.tmp 75) (.tmp 77) 23 rfl (.slice al nl cl) (.slice (some ⟨W4.heap.size, 0, none⟩) 1 1) rfl rfl vl' W6 (R3.out _) ?_; refine Halted.out ?_)
            refine Halted.mk ?_
            go_wp2_with (at_builtin; refine wpList_append_by rfl (.tmp 79) (.tmp 81) 23 rfl (.slice aw cur.length cw) (.slice (some ⟨W6.heap.size, 0, none⟩) 1 1) rfl rfl vw' W7 (R4.out _) ?_; refine Halted.out ?_)
            refine Halted.mk ?_
            go_wp2
            go_roundg (4 - (i + 1))
            case measure => omega
            case rel => exact ⟨i + 1, (.slice aL nL cL), (.slice aW nW cW), _, _, by go_num, by omega, Nat.le_refl _, S3, by show List.length _ = _; rw [List.length_append, HE1.out]; rfl, by show List.length _ = _; rw [List.length_append, HC1.out]; rfl, B3⟩
          · have hm : (kk + 1 + (i : Int)).tmod 2 = 1 := by rw [Int.tmod_eq_emod_of_nonneg (by omega)]; omega
            obtain ⟨vl', W6, vw', W7, r3, r4, ST3, BG⟩ := GG.out false
            have R3 : Aside _ := r3
            have R4 : Aside _ := r4
            have S3 : Aside _ := ST3
            have B3 : Aside _ := BG
            clear r3 r4 ST3 BG GG
            go_wp2_with (at_builtin; refine wpList_append_by rfl (.tmp 75) (.tmp 77) 23 rfl (.slice al nl cl) (.slice (some ⟨W4.heap.size, 0, none⟩) 1 1) rfl rfl vl' W6 (R3.out _) ?_; refine Halted.out ?_)
            refine Halted.mk ?_
            go_wp2_with (at_builtin; refine wpList_append_by rfl (.tmp 79) (.tmp 81) 23 rfl (.slice aw cur.length cw) (.slice (some ⟨W6.heap.size, 0, none⟩) 1 1) rfl rfl vw' W7 (R4.out _) ?_; refine Halted.out ?_)
            refine Halted.mk ?_
            go_wp2
            go_roundg (4 - (i + 1))
            case measure => omega
            case rel => exact ⟨i + 1, (.slice aL nL cL), (.slice aW nW cW), _, _, by go_num, by omega, Nat.le_refl _, S3, by show List.length _ = _; rw [List.length_append, HE1.out]; rfl, by show List.length _ = _; rw [List.length_append, HC1.out]; rfl, B3⟩
        · have hltz : ¬ (i : Int) < 4 := by omega
          obtain rfl : i = 4 := by omega
          clear ST BW
          go_wp2
          go_end0
          exact ⟨rfl, vL1, vW1, es1, ST1.out.bk, HE1.out, B1.out⟩
#print axioms own_any
end Go.Proofs.Ytjfifaooimgbaaa
