/- The walks of Book.still and Book.own: what holds of the lists that came out. -/
import Derived.Test.YtjfifaooimgbaaaSame
import Derived.Test.YtjfifaooimgbaaaPrices
namespace Go.Proofs.Ytjfifaooimgbaaa
open Go.Shelf Go.RowKit Go.Lib Go.Sort

theorem Try.info23 : (Try.prog.info? 23).map (fun i => (i.zero, i.size, i.bytes)) = some (some (.slice none 0 0), 1, 24) := by kernel_rfl

/-- 'append(v, u)' onto a row of one's own: what was there stays where it was. -/
theorem append_keep (W : World) (B : Nat) (t e : TypeId) (z : Value) (bytes : Nat) (ht : Try.prog.underlying t = some (.slice e)) (hinf : (Try.prog.info? e).map (fun i => (i.zero, i.size, i.bytes)) = some (some z, 1, bytes)) (hzs : z.cells.size = 1) (hb0 : 0 < bytes)
    (v : Value) (n : Nat) (xs : List Value) (u : Value) (hu : u.oneCell' = true) (ho : W.ownsRow B e 1 v n xs) (hb : B ≤ W.heap.size) (hn : (n + 1) * bytes ≤ 140737488355328) :
    ∃ v' W', (∀ ty, (Builtin.append_ #[t, t] ty #[v, .slice (some ⟨W.heap.size, 0, none⟩) 1 1]).run Try.prog (W.alloc (.cells #[u] e)) = .ok v' W') ∧ W'.ownsRow B e 1 v' (n + 1) (xs ++ [u]) ∧ W.grownBy W' v.ownBlock ∧
      (∀ g j x, v.ownBlock = some g → xs[j]? = some x → W'.cell? ⟨g, j, none⟩ = some x) ∧ (v'.ownBlock = v.ownBlock ∨ ∃ g, v'.ownBlock = some g ∧ W.heap.size ≤ g) := by
  obtain ⟨i0, hi, hz0, hz1, hz2⟩ := info_parts hinf
  have hn1 : n + 1 ≤ 140737488355328 := Nat.le_trans (Nat.le_mul_of_pos_right _ hb0) hn
  have hnews : ∀ j x, [u][j]? = some x → (W.alloc (.cells #[u] e)).cell? ((⟨W.heap.size, 0, none⟩ : Addr).add j) = some x := fun t x hx => by
    match t, hx with
    | 0, hx => simp at hx; subst hx; simp [Addr.add]
  have h1 : ∀ x ∈ [u], x.oneCell' = true := fun x hx => by simp at hx; subst hx; exact hu
  obtain ⟨v2, W2, r2, o2, g2, _⟩ := run_append_own (P := Try.prog) (W.alloc (.cells #[u] e)) B t t e i0 z 1 bytes ht hi hz0 hz1 hz2 hzs (by decide) v n xs (ho.alloc _) ⟨W.heap.size, 0, none⟩ 1 1 [u]
    rfl hnews h1 (by unfold maxLen; omega) hn (by simp; omega)
  have gr : W.grownBy W2 v.ownBlock := ⟨g2.os, g2.tape, g2.output, Nat.le_trans (by simp) g2.size, fun k hk hne => (g2.block k (by simp; omega) hne).trans (Below.heap_alloc W _ k hk)⟩
  rcases (ho.alloc (.cells #[u] e)).2 with ⟨rfl, rfl⟩ | ⟨g, cap, cur, rfl, hbg, hg, hnc, hcm, hcs, htake⟩
  · have hr := run_append_nil (P := Try.prog) (W.alloc (.cells #[u] e)) t t e i0 z ht hi hz0 ⟨W.heap.size, 0, none⟩ 1 1 [u] (by rw [hz1]; rfl) hnews (by decide) (by decide) (by rw [hz2]; omega)
    have he := r2.symm.trans hr
    injection he with e1 e2
    refine ⟨v2, W2, fun ty => r2, o2, gr, fun g j x hg => by simp [Value.ownBlock] at hg, Or.inr ⟨(W.alloc (.cells #[u] e)).heap.size, by rw [e1]; rfl, by simp⟩⟩
  · by_cases hroom : n + 1 ≤ cap
    · have hr := run_append_room (P := Try.prog) (W.alloc (.cells #[u] e)) t t e i0 ht hi g n cap cur hg ⟨W.heap.size, 0, none⟩ 1 1 [u] (by rw [hz1]; rfl) hnews h1 hroom (by rw [hz1, hcs]; simp; omega)
      have he := r2.symm.trans hr
      injection he with e1 e2
      refine ⟨v2, W2, fun ty => r2, o2, gr, fun g' j x hg' hx => ?_, Or.inl (by rw [e1]; rfl)⟩
      have hv2 : v2.ownBlock = some g' := by rw [e1]; exact hg'
      have := o2.cells hv2 j x (by rw [List.getElem?_append_left (List.getElem?_eq_some_iff.1 hx).1]; exact hx)
      rwa [Addr.add_lit, Nat.zero_add] at this
    · have holds := (ho.alloc (.cells #[u] e)).cells (g := g) rfl
      have hr := run_append_grow (P := Try.prog) (W.alloc (.cells #[u] e)) t t e i0 z ht hi hz0 ⟨g, 0, none⟩ n cap xs (by rw [hz1]; exact ho.1) holds ⟨W.heap.size, 0, none⟩ 1 1 [u] (by rw [hz1]; rfl) hnews (by omega) (by omega) (growslice_fits (by omega) (by rw [hz2]; exact hn))
      have he := r2.symm.trans hr
      injection he with e1 e2
      refine ⟨v2, W2, fun ty => r2, o2, gr, fun g' j x hg' hx => ?_, Or.inr ⟨(W.alloc (.cells #[u] e)).heap.size, by rw [e1]; rfl, by simp⟩⟩
      simp only [Value.ownBlock, Option.some.injEq] at hg'
      subst hg'
      have h3 := holds j x hx
      rw [Addr.add_lit, Nat.zero_add] at h3
      have hlt := (Array.getElem?_eq_some_iff.1 hg).1
      rw [e2]
      exact (World.cell?_of_block (a := ⟨g, j, none⟩) (Below.heap_alloc (W.alloc (.cells #[u] e)).drew _ g hlt)).trans h3

/-- a value is a list of yes and no. -/
def EntryAt (w : World) (v : Value) (fl : List Bool) : Prop := ∃ a c, v = .slice a fl.length c ∧ BsAt w a fl
theorem EntryAt.keep {w w' : World} {v : Value} {fl : List Bool} (h : EntryAt w v fl) (hs : w.heap.size ≤ w'.heap.size) (hc : ∀ g j, v.ownBlock = some g → j < fl.length → w'.cell? ⟨g, j, none⟩ = w.cell? ⟨g, j, none⟩) : EntryAt w' v fl := by
  obtain ⟨a, c, rfl, hb⟩ := h
  refine ⟨a, c, rfl, fun i hi => ?_⟩
  obtain ⟨g, rfl, hg, hcc⟩ := hb i hi
  exact ⟨g, rfl, Nat.lt_of_lt_of_le hg hs, (hc g i rfl hi).trans hcc⟩
theorem EntryAt.block {w w' : World} {v : Value} {fl : List Bool} (h : EntryAt w v fl) (hs : w.heap.size ≤ w'.heap.size) (hc : ∀ g, v.ownBlock = some g → w'.heap[g]? = w.heap[g]?) : EntryAt w' v fl :=
  h.keep hs fun g j hg _ => World.cell?_of_block (a := ⟨g, j, none⟩) (hc g hg)
theorem EntryAt.own {w : World} {B : Nat} {v : Value} {fl : List Bool} (h : w.ownsRow B 4 1 v fl.length (fl.map Value.bool)) : EntryAt w v fl := by
  rcases h.2 with ⟨rfl, hn⟩ | ⟨g, cap, cur, rfl, hb, hg, h1, h2, h3, h4⟩
  · refine ⟨none, 0, by rw [hn], fun i hi => ?_⟩
    omega
  · refine ⟨some ⟨g, 0, none⟩, cap, rfl, fun i hi => ⟨g, rfl, (Array.getElem?_eq_some_iff.1 hg).1, ?_⟩⟩
    have := h.cells (g := g) rfl i (.bool (fl.getD i false)) (by rw [List.getElem?_map, List.getElem?_eq_getElem hi, List.getD_eq_getElem?_getD, List.getElem?_eq_getElem hi]; rfl)
    rwa [Addr.add_lit, Nat.zero_add] at this

/-- one list that came out: what it holds, the list, its owner's copy. -/
structure Ent where
  fl : List Bool
  l : Value
  k : Value

/-- the book lies in block X. -/
structure BookOk (w : World) (X B : Nat) (vL vW : Value) (es : List Ent) (kk : Int) : Prop where
  bx : w.heap[X]? = some (.cells #[vL, vW, .int .i64 kk] 34 (0, 0))
  hB : B ≤ X
  oL : w.ownsRow B 23 1 vL es.length (es.map Ent.l)
  oW : w.ownsRow B 23 1 vW es.length (es.map Ent.k)
  xL : vL.ownBlock ≠ some X
  xW : vW.ownBlock ≠ some X
  lw : ∀ g, vL.ownBlock = some g → vW.ownBlock ≠ some g
  at1 : ∀ e ∈ es, EntryAt w e.l e.fl
  at2 : ∀ e ∈ es, EntryAt w e.k e.fl
  len : ∀ e ∈ es, e.fl.length ≤ 17592186044416
  ap : ∀ e ∈ es, ∀ g, (e.l.ownBlock = some g ∨ e.k.ownBlock = some g) → g < w.heap.size ∧ g ≠ X ∧ vL.ownBlock ≠ some g ∧ vW.ownBlock ≠ some g

theorem BookOk.lt {w : World} {X B : Nat} {vL vW : Value} {es : List Ent} {kk : Int} (h : BookOk w X B vL vW es kk) : X < w.heap.size := (Array.getElem?_eq_some_iff.1 h.bx).1

theorem own_block {w w' : World} {B : Nat} {e : TypeId} {v : Value} {n : Nat} {xs : List Value} (h : w.ownsRow B e 1 v n xs) (hb : ∀ g, v.ownBlock = some g → w'.heap[g]? = w.heap[g]?) : w'.ownsRow B e 1 v n xs := by
  refine ⟨h.1, ?_⟩
  rcases h.2 with h2 | ⟨g, cap, cur, rfl, h1, h2, h3⟩
  · exact Or.inl h2
  · exact Or.inr ⟨g, cap, cur, rfl, h1, (hb g rfl).trans h2, h3⟩

theorem BookOk.keep {w w' : World} {X B : Nat} {vL vW : Value} {es : List Ent} {kk : Int} (h : BookOk w X B vL vW es kk) (hs : w.heap.size ≤ w'.heap.size)
    (hX : w'.heap[X]? = w.heap[X]?) (hL : ∀ g, vL.ownBlock = some g → w'.heap[g]? = w.heap[g]?) (hW : ∀ g, vW.ownBlock = some g → w'.heap[g]? = w.heap[g]?)
    (h1 : ∀ e ∈ es, ∀ g j, e.l.ownBlock = some g → j < e.fl.length → w'.cell? ⟨g, j, none⟩ = w.cell? ⟨g, j, none⟩)
    (h2 : ∀ e ∈ es, ∀ g, e.k.ownBlock = some g → w'.heap[g]? = w.heap[g]?) : BookOk w' X B vL vW es kk :=
  ⟨hX.trans h.bx, h.hB, own_block h.oL hL, own_block h.oW hW, h.xL, h.xW, h.lw, fun e he => (h.at1 e he).keep hs (h1 e he), fun e he => (h.at2 e he).block hs (h2 e he), h.len,
    fun e he g hg => ⟨Nat.lt_of_lt_of_le (h.ap e he g hg).1 hs, (h.ap e he g hg).2⟩⟩

/-- all but block F stays. -/
theorem BookOk.but {w w' : World} {X B : Nat} {vL vW : Value} {es : List Ent} {kk : Int} {row : Option Nat} (h : BookOk w X B vL vW es kk) (g : w.grownBy w' row)
    (hX : row ≠ some X) (hL : ∀ g, vL.ownBlock = some g → row ≠ some g) (hW : ∀ g, vW.ownBlock = some g → row ≠ some g)
    (he : ∀ e ∈ es, ∀ g, (e.l.ownBlock = some g ∨ e.k.ownBlock = some g) → row ≠ some g) : BookOk w' X B vL vW es kk :=
  h.keep g.size (g.block X h.lt (fun e => hX e.symm)) (fun k hk => g.block k (h.oL.lt k hk).2 (fun e => hL k hk e.symm)) (fun k hk => g.block k (h.oW.lt k hk).2 (fun e => hW k hk e.symm))
    (fun e he' k j hk _ => World.cell?_of_block (a := ⟨k, j, none⟩) (g.block k (h.ap e he' k (Or.inl hk)).1 (fun e' => he e he' k (Or.inl hk) e'.symm)))
    (fun e he' k hk => g.block k (h.ap e he' k (Or.inr hk)).1 (fun e' => he e he' k (Or.inr hk) e'.symm))

theorem below_grown {w w' : World} (b : Below w.heap.size w w') : w.grownBy w' none := ⟨b.os, b.tape, b.output, b.size, fun k hk _ => b.block k hk⟩

theorem BookOk.up {w w' : World} {X B : Nat} {vL vW : Value} {es : List Ent} {kk : Int} (h : BookOk w X B vL vW es kk) (b : Below w.heap.size w w') : BookOk w' X B vL vW es kk :=
  h.but (below_grown b) (by simp) (by simp) (by simp) (by simp)

/-- own, in its second loop: l and was hold the same. -/
structure OwnSt (w : World) (X B : Nat) (vL vW : Value) (es : List Ent) (kk : Int) (vl vw : Value) (cur : List Bool) : Prop where
  bk : BookOk w X B vL vW es kk
  ol : w.ownsRow B 4 1 vl cur.length (cur.map Value.bool)
  ow : w.ownsRow B 4 1 vw cur.length (cur.map Value.bool)
  sl : ∀ g, vl.ownBlock = some g → g ≠ X ∧ vL.ownBlock ≠ some g ∧ vW.ownBlock ≠ some g ∧ vw.ownBlock ≠ some g ∧ ∀ e ∈ es, e.k.ownBlock ≠ some g ∧ (e.l.ownBlock = some g → e.fl.length ≤ cur.length)
  sw : ∀ g, vw.ownBlock = some g → g ≠ X ∧ vL.ownBlock ≠ some g ∧ vW.ownBlock ≠ some g ∧ ∀ e ∈ es, e.l.ownBlock ≠ some g ∧ e.k.ownBlock ≠ some g

theorem OwnSt.up {w w' : World} {X B : Nat} {vL vW : Value} {es : List Ent} {kk : Int} {vl vw : Value} {cur : List Bool} (h : OwnSt w X B vL vW es kk vl vw cur) (b : Below w.heap.size w w') : OwnSt w' X B vL vW es kk vl vw cur :=
  ⟨h.bk.up b, own_block h.ol (fun g hg => b.block g (h.ol.lt g hg).2), own_block h.ow (fun g hg => b.block g (h.ow.lt g hg).2), h.sl, h.sw⟩

theorem setCell_heap {w : World} {X : Nat} {cs : Array Value} {t : TypeId} {f : Nat × Nat} (h : w.heap[X]? = some (.cells cs t f)) (j : Nat) (u : Value) : (w.setCell ⟨X, j, none⟩ u).heap[X]? = some (.cells (cs.setIfInBounds j u) t f) := by
  have hlt := (Array.getElem?_eq_some_iff.1 h).1
  simp only [World.setCell, Array.getElem?_modify, h]
  simp

theorem setCell_grown (w : World) (X j : Nat) (u : Value) : w.grownBy (w.setCell ⟨X, j, none⟩ u) (some X) :=
  ⟨rfl, rfl, rfl, by simp [World.setCell], fun k _ hne => Below.heap_setCell w _ _ k (fun e => hne (by rw [e]))⟩

theorem fresh_ne {o o' : Option Nat} {n g : Nat} (f : o' = o ∨ ∃ k, o' = some k ∧ n ≤ k) (hg : g < n) (h : o ≠ some g) : o' ≠ some g := by
  rcases f with f | ⟨k, f, hk⟩
  · rw [f]; exact h
  · rw [f]; intro e; injection e with e; omega

theorem own_one {w : World} {B : Nat} {e : TypeId} {v : Value} {n : Nat} {xs : List Value} (h : w.ownsRow B e 1 v n xs) : v.oneCell' = true := by
  rcases h.2 with ⟨rfl, _⟩ | ⟨g, cap, cur, rfl, _⟩ <;> rfl

/-- 'b.L = append(b.L, l)' and 'b.Was = append(b.Was, w)'. -/
theorem own_push {W0 W : World} {X B : Nat} {vL vW : Value} {es : List Ent} {kk : Int} {vl vw : Value} {cur : List Bool} (h0 : OwnSt W0 X B vL vW es kk vl vw cur) (b : Below W0.heap.size W0 W) (hk : BoolsAt W W0.heap.size cur)
    (hB : B ≤ W0.heap.size) (hes : es.length ≤ 1000000) (hcur : cur.length ≤ 17592186044416) :
    ∃ vL' W1 vW' W2, (∀ ty, (Builtin.append_ #[32, 32] ty #[vL, .slice (some ⟨W.heap.size, 0, none⟩) 1 1]).run Try.prog (W.alloc (.cells #[vl] 23)) = .ok vL' W1) ∧
      (∀ ty, (Builtin.append_ #[32, 32] ty #[vW, .slice (some ⟨(W1.setCell ⟨X, 0, none⟩ vL').heap.size, 0, none⟩) 1 1]).run Try.prog ((W1.setCell ⟨X, 0, none⟩ vL').alloc (.cells #[.slice (some ⟨W0.heap.size, 0, none⟩) cur.length cur.length] 23)) = .ok vW' W2) ∧
      OwnSt (W2.setCell ⟨X, 1, none⟩ vW') X B vL' vW' (es ++ [⟨cur, vl, .slice (some ⟨W0.heap.size, 0, none⟩) cur.length cur.length⟩]) kk vl vw cur ∧
      W.heap.size ≤ W1.heap.size ∧ W1.heap[X]? = some (.cells #[vL, vW, .int .i64 kk] 34 (0, 0)) ∧ W2.heap[X]? = some (.cells #[vL', vW, .int .i64 kk] 34 (0, 0)) ∧ Below B W (W2.setCell ⟨X, 1, none⟩ vW') := by
  have h := h0.up b
  have hkl := hk.lt
  have hX0 := h0.bk.lt
  obtain ⟨S, hS⟩ : ∃ S, S = W0.heap.size := ⟨_, rfl⟩
  rw [← hS] at hk hkl hX0 hB ⊢
  have lL : ∀ g, vL.ownBlock = some g → g < S := fun g hg => by rw [hS]; exact (h0.bk.oL.lt g hg).2
  have lW : ∀ g, vW.ownBlock = some g → g < S := fun g hg => by rw [hS]; exact (h0.bk.oW.lt g hg).2
  have ll : ∀ g, vl.ownBlock = some g → g < S := fun g hg => by rw [hS]; exact (h0.ol.lt g hg).2
  have lw : ∀ g, vw.ownBlock = some g → g < S := fun g hg => by rw [hS]; exact (h0.ow.lt g hg).2
  have le : ∀ e ∈ es, ∀ g, (e.l.ownBlock = some g ∨ e.k.ownBlock = some g) → g < S := fun e he g hg => by rw [hS]; exact (h0.bk.ap e he g hg).1
  clear h0 hS b
  obtain ⟨vL', W1, r1, o1, g1, -, f1⟩ := append_keep W B 32 23 (.slice none 0 0) 24 Try.underlying32 Try.info23 rfl (by decide) vL es.length (es.map Ent.l) vl (own_one h.ol) h.bk.oL (by omega) (by omega)
  have hX1 : W1.heap[X]? = some (.cells #[vL, vW, .int .i64 kk] 34 (0, 0)) := (g1.block X h.bk.lt (fun e => h.bk.xL e.symm)).trans h.bk.bx
  obtain ⟨Wa, hWa⟩ : ∃ Wa, Wa = W1.setCell ⟨X, 0, none⟩ vL' := ⟨_, rfl⟩
  have ga : W1.grownBy Wa (some X) := by rw [hWa]; exact setCell_grown _ _ _ _
  have sa : Wa.heap.size = W1.heap.size := by rw [hWa]; simp [World.setCell]
  have hXa : Wa.heap[X]? = some (.cells #[vL', vW, .int .i64 kk] 34 (0, 0)) := by rw [hWa, setCell_heap hX1]; rfl
  have oWa : Wa.ownsRow B 23 1 vW es.length (es.map Ent.k) := own_block h.bk.oW fun g hg => by
    have hlt := (h.bk.oW.lt g hg).2
    rw [ga.block g (Nat.lt_of_lt_of_le hlt g1.size) (fun e => by injection e with e; subst e; exact h.bk.xW hg), g1.block g hlt (fun e => h.bk.lw g e.symm hg)]
  obtain ⟨vW', W2, r2, o2, g2, -, f2⟩ := append_keep Wa B 32 23 (.slice none 0 0) 24 Try.underlying32 Try.info23 rfl (by decide) vW es.length (es.map Ent.k) (.slice (some ⟨S, 0, none⟩) cur.length cur.length) rfl oWa (by have := g1.size; omega) (by omega)
  have hX2 : W2.heap[X]? = some (.cells #[vL', vW, .int .i64 kk] 34 (0, 0)) := (g2.block X (Array.getElem?_eq_some_iff.1 hXa).1 (fun e => h.bk.xW e.symm)).trans hXa
  obtain ⟨Wb, hWb⟩ : ∃ Wb, Wb = W2.setCell ⟨X, 1, none⟩ vW' := ⟨_, rfl⟩
  have gb : W2.grownBy Wb (some X) := by rw [hWb]; exact setCell_grown _ _ _ _
  have hXb : Wb.heap[X]? = some (.cells #[vL', vW', .int .i64 kk] 34 (0, 0)) := by rw [hWb, setCell_heap hX2]; rfl
  have s1 := g1.size
  have s2 := g2.size
  have s3 := gb.size
  have hXW := h.bk.lt
  have KEEP : ∀ g, g < W.heap.size → g ≠ X → vL.ownBlock ≠ some g → vW.ownBlock ≠ some g → Wb.heap[g]? = W.heap[g]? := fun g hlt n1 n2 n3 => by
    rw [gb.block g (by omega) (fun e => n1 (by injection e)), g2.block g (by omega) (fun e => n3 e.symm), ga.block g (by omega) (fun e => n1 (by injection e)), g1.block g hlt (fun e => n2 e.symm)]
  have FL : ∀ g, g < W.heap.size → vL.ownBlock ≠ some g → vL'.ownBlock ≠ some g := fun g hlt hne => fresh_ne f1 hlt hne
  have FW : ∀ g, g < Wa.heap.size → vW.ownBlock ≠ some g → vW'.ownBlock ≠ some g := fun g hlt hne => fresh_ne f2 hlt hne
  have nLX : vL'.ownBlock ≠ some X := FL X hXW h.bk.xL
  have nWX : vW'.ownBlock ≠ some X := FW X (by omega) h.bk.xW
  have nLW : ∀ g, vL'.ownBlock = some g → vW.ownBlock ≠ some g := fun g hg hw => by
    rcases f1 with f1 | ⟨k, f1, hk'⟩
    · exact h.bk.lw g (f1.symm.trans hg) hw
    · have := f1.symm.trans hg
      injection this with this
      have := lW g hw
      omega
  have nS : ∀ g, g < S → g ≠ S := fun g hg => by omega
  have SL : vL.ownBlock ≠ some S := fun e => nS S (lL S e) rfl
  have SW : vW.ownBlock ≠ some S := fun e => nS S (lW S e) rfl
  have el : (es.length + 1) = (es ++ [Ent.mk cur vl (.slice (some ⟨S, 0, none⟩) cur.length cur.length)]).length := by simp
  refine ⟨vL', W1, vW', W2, r1, ?_⟩
  rw [← hWa, ← hWb]
  refine ⟨r2, ⟨⟨hXb, h.bk.hB, ?_, ?_, nLX, nWX, ?_, ?_, ?_, ?_, ?_⟩, ?_, ?_, ?_, ?_⟩, s1, hX1, hX2, ?_⟩
  · rw [← el, List.map_append]
    refine own_block o1 fun g hg => ?_
    have hlt := (o1.lt g hg).2
    have hne : g ≠ X := fun e => nLX (e ▸ hg)
    rw [gb.block g (by omega) (fun e => hne (by injection e)), g2.block g (by omega) (fun e => nLW g hg e.symm), ga.block g (by omega) (fun e => hne (by injection e))]
  · rw [← el, List.map_append]
    refine own_block o2 fun g hg => ?_
    have hlt := (o2.lt g hg).2
    have hne : g ≠ X := fun e => nWX (e ▸ hg)
    rw [gb.block g (by omega) (fun e => hne (by injection e))]
  · exact fun g hg => FW g (by have := (o1.lt g hg).2; omega) (nLW g hg)
  · intro e he
    rcases List.mem_append.1 he with he | he
    · exact (h.bk.at1 e he).block (by omega) fun g hg => by
        obtain ⟨q1, q2, q3, q4⟩ := h.bk.ap e he g (Or.inl hg)
        exact KEEP g q1 q2 q3 q4
    · rw [List.mem_singleton] at he
      subst he
      exact (EntryAt.own h.ol).block (by omega) fun g hg => by
        obtain ⟨q1, q2, q3, _⟩ := h.sl g hg
        exact KEEP g (by have := ll g hg; omega) q1 q2 q3
  · intro e he
    rcases List.mem_append.1 he with he | he
    · exact (h.bk.at2 e he).block (by omega) fun g hg => by
        obtain ⟨q1, q2, q3, q4⟩ := h.bk.ap e he g (Or.inr hg)
        exact KEEP g q1 q2 q3 q4
    · rw [List.mem_singleton] at he
      subst he
      refine ⟨_, _, rfl, fun i hi => ⟨S, rfl, by omega, ?_⟩⟩
      exact (World.cell?_of_block (a := ⟨S, i, none⟩) (KEEP S hkl (by omega) SL SW)).trans (hk.cell hi)
  · intro e he
    rcases List.mem_append.1 he with he | he
    · exact h.bk.len e he
    · rw [List.mem_singleton] at he
      subst he
      exact hcur
  · intro e he g hg
    rcases List.mem_append.1 he with he | he
    · obtain ⟨q1, q2, q3, q4⟩ := h.bk.ap e he g hg
      exact ⟨by omega, q2, FL g q1 q3, FW g (by omega) q4⟩
    · rw [List.mem_singleton] at he
      subst he
      rcases hg with hg | hg
      · obtain ⟨q1, q2, q3, _⟩ := h.sl g hg
        have := ll g hg
        exact ⟨by omega, q1, FL g (by omega) q2, FW g (by omega) q3⟩
      · have hg : some S = some g := hg
        injection hg with hg
        subst hg
        exact ⟨by omega, by omega, FL S hkl SL, FW S (by omega) SW⟩
  · exact own_block h.ol fun g hg => by
      obtain ⟨q1, q2, q3, _⟩ := h.sl g hg
      exact KEEP g (by have := ll g hg; omega) q1 q2 q3
  · exact own_block h.ow fun g hg => by
      obtain ⟨q1, q2, q3, _⟩ := h.sw g hg
      exact KEEP g (by have := lw g hg; omega) q1 q2 q3
  · intro g hg
    obtain ⟨q1, q2, q3, q4, q5⟩ := h.sl g hg
    have := ll g hg
    refine ⟨q1, FL g (by omega) q2, FW g (by omega) q3, q4, fun e he => ?_⟩
    rcases List.mem_append.1 he with he | he
    · exact q5 e he
    · rw [List.mem_singleton] at he
      subst he
      exact ⟨fun hg' => by injection hg' with hg'; exact nS g this hg'.symm, fun _ => Nat.le_refl _⟩
  · intro g hg
    obtain ⟨q1, q2, q3, q5⟩ := h.sw g hg
    have := lw g hg
    refine ⟨q1, FL g (by omega) q2, FW g (by omega) q3, fun e he => ?_⟩
    rcases List.mem_append.1 he with he | he
    · exact q5 e he
    · rw [List.mem_singleton] at he
      subst he
      exact ⟨fun hg' => (h.sl g hg').2.2.2.1 hg, fun hg' => by injection hg' with hg'; exact nS g this hg'.symm⟩
  · have b1 : Below B W W1 := (Below.refl _ _).grown g1 (by omega) (fun k hk => (h.bk.oL.lt k hk).1)
    have b2 : Below B W Wa := b1.grown ga (by omega) (fun k hk => by injection hk with hk; subst hk; exact h.bk.hB)
    have b3 : Below B W W2 := b2.grown g2 (by omega) (fun k hk => (h.bk.oW.lt k hk).1)
    exact b3.grown gb (by omega) (fun k hk => by injection hk with hk; subst hk; exact h.bk.hB)

/-- 'l = append(l, yes)' and 'was = append(was, yes)'. -/
theorem own_grow {W : World} {X B : Nat} {vL vW : Value} {es : List Ent} {kk : Int} {vl vw : Value} {cur : List Bool} (h : OwnSt W X B vL vW es kk vl vw cur) (y : Bool) (hB : B ≤ W.heap.size) (hcur : cur.length ≤ 17592186044416) :
    ∃ vl' W1 vw' W2, (∀ ty, (Builtin.append_ #[23, 23] ty #[vl, .slice (some ⟨W.heap.size, 0, none⟩) 1 1]).run Try.prog (W.alloc (.cells #[.bool y] 4)) = .ok vl' W1) ∧
      (∀ ty, (Builtin.append_ #[23, 23] ty #[vw, .slice (some ⟨W1.heap.size, 0, none⟩) 1 1]).run Try.prog (W1.alloc (.cells #[.bool y] 4)) = .ok vw' W2) ∧
      OwnSt W2 X B vL vW es kk vl' vw' (cur ++ [y]) ∧ Below B W W2 := by
  obtain ⟨vl', W1, r1, o1, g1, c1, f1⟩ := append_keep W B 23 4 (.bool false) 1 Try.underlying23 Try.info4 rfl (by decide) vl cur.length (cur.map Value.bool) (.bool y) rfl h.ol hB (by omega)
  have s1 := g1.size
  have ow1 : W1.ownsRow B 4 1 vw cur.length (cur.map Value.bool) := own_block h.ow fun g hg => g1.block g (h.ow.lt g hg).2 (fun e => (h.sl g e.symm).2.2.2.1 hg)
  obtain ⟨vw', W2, r2, o2, g2, -, f2⟩ := append_keep W1 B 23 4 (.bool false) 1 Try.underlying23 Try.info4 rfl (by decide) vw cur.length (cur.map Value.bool) (.bool y) rfl ow1 (by omega) (by omega)
  have s2 := g2.size
  have hXW := h.bk.lt
  have KEEP : ∀ g, g < W.heap.size → vl.ownBlock ≠ some g → vw.ownBlock ≠ some g → W2.heap[g]? = W.heap[g]? := fun g hlt n1 n2 => by
    rw [g2.block g (by omega) (fun e => n2 e.symm), g1.block g hlt (fun e => n1 e.symm)]
  have lX : vl.ownBlock ≠ some X := fun e => (h.sl X e).1 rfl
  have wX : vw.ownBlock ≠ some X := fun e => (h.sw X e).1 rfl
  have lcl : (cur ++ [y]).length = cur.length + 1 := by simp
  have lcm : (cur ++ [y]).map Value.bool = cur.map Value.bool ++ [.bool y] := by simp
  have nlw : ∀ g, vl'.ownBlock = some g → vw.ownBlock ≠ some g := fun g hg hw => by
    rcases f1 with f1 | ⟨k, f1, hk'⟩
    · exact (h.sl g (f1.symm.trans hg)).2.2.2.1 hw
    · have := f1.symm.trans hg
      injection this with this
      have := (h.ow.lt g hw).2
      omega
  refine ⟨vl', W1, vw', W2, r1, r2, ⟨?_, ?_, ?_, ?_, ?_⟩, ?_⟩
  · refine h.bk.keep (by omega) (KEEP X hXW lX wX) (fun g hg => KEEP g (h.bk.oL.lt g hg).2 (fun e => (h.sl g e).2.1 hg) (fun e => (h.sw g e).2.1 hg)) (fun g hg => KEEP g (h.bk.oW.lt g hg).2 (fun e => (h.sl g e).2.2.1 hg) (fun e => (h.sw g e).2.2.1 hg)) ?_ ?_
    · intro e he g j hg hj
      have hlt := (h.bk.ap e he g (Or.inl hg)).1
      have nw : vw.ownBlock ≠ some g := fun e' => ((h.sw g e').2.2.2 e he).1 hg
      by_cases hl : vl.ownBlock = some g
      · have hj2 : j < cur.length := Nat.lt_of_lt_of_le hj (((h.sl g hl).2.2.2.2 e he).2 hg)
        have hx : (cur.map Value.bool)[j]? = some (.bool cur[j]) := by rw [List.getElem?_map, List.getElem?_eq_getElem hj2]; rfl
        have q1 := c1 g j _ hl hx
        have q2 := h.ol.cells hl j _ hx
        rw [Addr.add_lit, Nat.zero_add] at q2
        rw [World.cell?_of_block (a := ⟨g, j, none⟩) (g2.block g (by omega) (fun e' => nw e'.symm)), q1, q2]
      · exact World.cell?_of_block (a := ⟨g, j, none⟩) (KEEP g hlt hl nw)
    · intro e he g hg
      exact KEEP g (h.bk.ap e he g (Or.inr hg)).1 (fun e' => ((h.sl g e').2.2.2.2 e he).1 hg) (fun e' => ((h.sw g e').2.2.2 e he).2 hg)
  · rw [lcl, lcm]
    exact own_block o1 fun g hg => g2.block g (o1.lt g hg).2 (fun e => nlw g hg e.symm)
  · rw [lcl, lcm]
    exact o2
  · intro g hg
    have hgl := (o1.lt g hg).2
    have nw' : vw'.ownBlock ≠ some g := fresh_ne f2 hgl (nlw g hg)
    rcases f1 with f1 | ⟨k, f1, hk'⟩
    · obtain ⟨q1, q2, q3, q4, q5⟩ := h.sl g (f1.symm.trans hg)
      exact ⟨q1, q2, q3, nw', fun e he => ⟨(q5 e he).1, fun he' => by have := (q5 e he).2 he'; omega⟩⟩
    · have := f1.symm.trans hg
      injection this with this
      subst this
      refine ⟨by omega, fun e => ?_, fun e => ?_, nw', fun e he => ⟨fun e' => ?_, fun e' => ?_⟩⟩
      · have := (h.bk.oL.lt _ e).2; omega
      · have := (h.bk.oW.lt _ e).2; omega
      · have := (h.bk.ap e he _ (Or.inr e')).1; omega
      · have := (h.bk.ap e he _ (Or.inl e')).1; omega
  · intro g hg
    rcases f2 with f2 | ⟨k, f2, hk'⟩
    · exact h.sw g (f2.symm.trans hg)
    · have := f2.symm.trans hg
      injection this with this
      subst this
      refine ⟨by omega, fun e => ?_, fun e => ?_, fun e he => ⟨fun e' => ?_, fun e' => ?_⟩⟩
      · have := (h.bk.oL.lt _ e).2; omega
      · have := (h.bk.oW.lt _ e).2; omega
      · have := (h.bk.ap e he _ (Or.inl e')).1; omega
      · have := (h.bk.ap e he _ (Or.inr e')).1; omega
  · have b1 : Below B W W1 := (Below.refl _ _).grown g1 hB (fun k hk => (h.ol.lt k hk).1)
    exact b1.grown g2 (by omega) (fun k hk => (h.ow.lt k hk).1)

theorem box_cell {w : World} {X : Nat} {cs : Array Value} {t : TypeId} {f : Nat × Nat} (h : w.heap[X]? = some (.cells cs t f)) (j : Nat) : w.cell? ⟨X, j, none⟩ = cs[j]? := by
  simp [World.cell?, h]
theorem box_frozen {w : World} {X : Nat} {cs : Array Value} {t : TypeId} (h : w.heap[X]? = some (.cells cs t (0, 0))) (j : Nat) : w.frozen? ⟨X, j, none⟩ = false := by
  simp [World.frozen?, h]

theorem own_slice {w : World} {B : Nat} {e : TypeId} {v : Value} {n : Nat} {xs : List Value} (h : w.ownsRow B e 1 v n xs) : ∃ a c, v = .slice a n c ∧ (0 < n → ∃ g, a = some ⟨g, 0, none⟩) := by
  rcases h.2 with ⟨rfl, rfl⟩ | ⟨g, cap, cur, rfl, _⟩
  · exact ⟨none, 0, rfl, fun h => absurd h (Nat.lt_irrefl _)⟩
  · exact ⟨_, cap, rfl, fun _ => ⟨g, rfl⟩⟩

theorem own_base' {w : World} {B B' : Nat} {e : TypeId} {v : Value} {n : Nat} {xs : List Value} (h : w.ownsRow B' e 1 v n xs) (hb : B ≤ B') : w.ownsRow B e 1 v n xs := by
  refine ⟨h.1, ?_⟩
  rcases h.2 with h2 | ⟨g, cap, cur, e1, e2, e3⟩
  · exact Or.inl h2
  · exact Or.inr ⟨g, cap, cur, e1, Nat.le_trans hb e2, e3⟩

set_option maxHeartbeats 1000000 in
set_option maxRecDepth 100000 in
theorem still_any (w : World) (X B : Nat) (vL vW : Value) (es : List Ent) (kk : Int) (h : BookOk w X B vL vW es kk) (hes : es.length ≤ 1000000) :
    Calls Try.prog 17 #[.pointer (some ⟨X, 0, none⟩)] w fun e w' => e = .returned (.bool true) ∧ ∃ n, w' = w.drewN n := by
  have mixed : Try.prog.follows .mixedOrders = true := by kernel_rfl
  have H : Aside _ := h
  obtain ⟨aL, cL, rfl, hgL⟩ := own_slice h.oL
  obtain ⟨aW, cW, rfl, hgW⟩ := own_slice h.oW
  have X0 : ∀ m n, ((w.drewN m).drewN n).cell? ⟨X, 0, none⟩ = some (.slice aL es.length cL) := fun m n => box_cell h.bx 0
  have X1 : ∀ m n, ((w.drewN m).drewN n).cell? ⟨X, 1, none⟩ = some (.slice aW es.length cW) := fun m n => box_cell h.bx 1
  clear h
  go_enter Try.func17, Try.ntmps17
  go_wp2_with fail
  go_loopg [3] es.length (fun kx s wq => ∃ i m : Nat, s = .int .i64 i ∧ i ≤ es.length ∧ es.length - i ≤ kx ∧ wq = w.drewN m)
  case atStart => exact ⟨0, 0, rfl, Nat.zero_le _, by omega, rfl⟩
  case round =>
    obtain ⟨i, m, rfl, hi, hkx, rfl⟩ := hrel
    have DR : Aside (∀ n, (w.drewN m).drewN n = w.drewN (m + n)) := fun n => World.drewN_drewN ..
    have x0 := X0 m 0
    have x0' := X0 m
    have x1' := X1 m
    by_cases hlt : i < es.length
    · have hltz : (i : Int) < (es.length : Int) := by omega
      obtain ⟨gL, rfl⟩ := hgL (by omega)
      obtain ⟨gW, rfl⟩ := hgW (by omega)
      have hm : es[i] ∈ es := List.getElem_mem hlt
      obtain ⟨a1, c1, e1, b1⟩ := H.out.at1 es[i] hm
      obtain ⟨a2, c2, e2, b2⟩ := H.out.at2 es[i] hm
      have hlen := H.out.len es[i] hm
      have y1 := H.out.oL.cells (g := gL) rfl i es[i].l (by rw [List.getElem?_map, List.getElem?_eq_getElem hlt]; rfl)
      have y2 := H.out.oW.cells (g := gW) rfl i es[i].k (by rw [List.getElem?_map, List.getElem?_eq_getElem hlt]; rfl)
      rw [Addr.add_lit, Nat.zero_add] at y1 y2
      rw [e1] at y1
      rw [e2] at y2
      generalize es[i].fl = fl at y1 y2 b1 b2 hlen
      clear e1 e2 hm
      have z1 : ∀ n, ((w.drewN m).drewN n).cell? ⟨gL, i, none⟩ = some (.slice a1 fl.length c1) := fun n => y1
      have z2 : ∀ n, ((w.drewN m).drewN n).cell? ⟨gW, i, none⟩ = some (.slice a2 fl.length c2) := fun n => y2
      have Z1 : Aside (∀ n, BsAt ((w.drewN m).drewN n) a1 fl) := fun n => b1
      have Z2 : Aside (∀ n, BsAt ((w.drewN m).drewN n) a2 fl) := fun n => b2
      clear y1 y2 b1 b2 X0 X1 hgL hgW
      have x00 : (w.drewN m).cell? ⟨X, 0, none⟩ = some (.slice (some ⟨gL, 0, none⟩) es.length cL) := x0
      clear x0
      generalize hwq : w.drewN m = wq at z1 z2 DR x00 x0' x1' Z1 Z2 ⊢
      clear hwq
      go_wp2_with fail
      go_quiet (first | (go_at_call 41; refine Calls.quiet_of (sameB_true fl a1 a2 c1 c2 _ (Z1.out _) (Z2.out _) hlen)))
      go_wp2
      go_roundg (es.length - (i + 1))
      case measure => omega
      case rel => exact ⟨i + 1, m + nq, by go_num, by omega, Nat.le_refl _, DR.out nq⟩
    · have hltz : ¬ (i : Int) < (es.length : Int) := by omega
      have x00 : (w.drewN m).cell? ⟨X, 0, none⟩ = some (.slice aL es.length cL) := x0
      clear x0 x0' x1' X0 X1 hgL hgW
      go_wp2
      go_ret
      exact ⟨rfl, m, rfl⟩
#print axioms still_any
end Go.Proofs.Ytjfifaooimgbaaa
