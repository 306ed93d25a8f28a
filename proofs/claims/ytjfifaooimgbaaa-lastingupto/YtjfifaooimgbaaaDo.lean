import Derived.Test.YtjfifaooimgbaaaRo2
import Derived.Test.YtjfifaooimgbaaaGi4
import Derived.Test.YtjfifaooimgbaaaGi6
import Derived.Test.YtjfifaooimgbaaaGiS
import Derived.Test.YtjfifaooimgbaaaGiY0
import Derived.Test.YtjfifaooimgbaaaGiY1
import Derived.Test.YtjfifaooimgbaaaTg
import Derived.Test.YtjfifaooimgbaaaTr
/- Orders, and what is told: against the exchange without a program. -/
namespace Go.Proofs.Ytjfifaooimgbaaa
open Go.Shelf Go.RowKit Go.Lib Go.Sort

theorem deed_below {m : Nat} {s : MkS} {w w' : World} {x : Ex.Xch} (hK : Mkt w m s x) (c : UInt8) (b : Below w.heap.size w w') : Deed m s w (x, [c]) (.returned (.tuple #[.int .u8 (c.toNat : Int), .slice none 0 0])) w' :=
  ⟨s, .slice none 0 0, c, [], rfl, rfl, BRow.nil _, fun j hj => by simp [Value.ownBlock] at hj, hK.below b, (Step.refl m s w).below b, rfl⟩
theorem deed_told {m : Nat} {s : MkS} {w w' : World} {x : Ex.Xch} (hK : Mkt w m s x) (v : Value) (l : List UInt8) (h : Told w w' v l) : Deed m s w (x, 0 :: l) (.returned (.tuple #[.int .u8 0, v])) w' :=
  ⟨s, v, 0, l, rfl, rfl, h.1, h.2.2, hK.below h.2.1, (Step.refl m s w).below h.2.1, rfl⟩
theorem Mkt.onOrd {w w' : World} {m : Nat} {s : MkS} {x : Ex.Xch} (h : Mkt w m s x) (v : Value) (ps : Nat → Ex.Purse) (os : List Ex.Ord) (hM : MkAt w' m { s with ov := v }) (o : Onl (fun k => k = m ∨ k = s.ba ∨ s.ov.ownBlock = some k) w w') (ha : AccF w' s.ba (qOf { x with ps := ps, ords := os })) (hO : ORow w' v os) : Mkt w' m { s with ov := v } { x with ps := ps, ords := os } := by
  have A := h.apart
  exact { at_ := hM, acc := ha, ord := hO
          prc := h.prc.kept (o.block _ h.prc.lt (fun e => by
            rcases e with e | e | e
            · exact A.mp e.symm
            · exact A.ap e.symm
            · exact A.op e))
          jrn := h.jrn.kept (fun k hk => o.block k (h.jrn.lt hk) (fun e => by
            rcases e with e | e | e
            · exact A.jm (by rw [hk, e])
            · exact A.ja (by rw [hk, e])
            · exact A.oj k e hk))
          nap := h.nap, per := h.per, cap := h.cap, time := h.time, num := h.num, fin := h.fin, last := h.last, prs := h.prs, fls := h.fls, pay := h.pay, get := h.get, share := h.share }
theorem Step.onOrd {w w' : World} {m : Nat} {s : MkS} (v : Value) (o : Onl (fun k => k = m ∨ k = s.ba ∨ s.ov.ownBlock = some k) w w') (l : Lies w s.ov v) : Step m s w { s with ov := v } w' :=
  ⟨o.mono (fun i hi => by
    rcases hi with h | h | h
    · exact Or.inl h
    · exact Or.inr (Or.inl h)
    · exact Or.inr (Or.inr (Or.inr (Or.inl h)))), fun k hk => by
    rcases hk with h | h | h | h | h
    · exact Or.inl (Or.inl h)
    · exact Or.inl (Or.inr (Or.inl h))
    · exact Or.inl (Or.inr (Or.inr (Or.inl h)))
    · rcases l.own k h with h | h
      · exact Or.inl (Or.inr (Or.inr (Or.inr (Or.inl h))))
      · exact Or.inr h
    · exact Or.inl (Or.inr (Or.inr (Or.inr (Or.inr h)))), rfl⟩
theorem place_live (os : List Ex.Ord) (t : Nat) : (0 ≤ placeX os t) ↔ Ex.liveAt os t = true := by
  unfold placeX Ex.liveAt
  cases h : os.findIdx? (fun o => o.who == t) with
  | none =>
    rw [List.findIdx?_eq_none_iff] at h
    simp only [List.any_eq_true]
    constructor
    · intro h'; exact absurd h' (by decide)
    · rintro ⟨o, ho, h2⟩
      rw [h o ho] at h2; cases h2
  | some i =>
    rw [List.findIdx?_eq_some_iff_getElem] at h
    obtain ⟨hi, h2, _⟩ := h
    simp only [List.any_eq_true]
    constructor
    · intro _; exact ⟨os[i], List.getElem_mem _, h2⟩
    · intro _; show (0 : Int) ≤ (i : Int); omega

theorem deed_order (w : World) (m X t sd pr : Nat) (s : MkS) (x : Ex.Xch) (hX : BoxM w X m) (hK : Mkt w m s x) (ok : Ex.Ok x) (ht : t < 20) (hp : pr < 65536) : Calls Try.prog 119 #[reqV 5 t 0 sd pr, .pointer (some ⟨X, 0, none⟩)] w (Deed m s w (Ex.ordersX x t sd pr)) := by
  have len : x.ords.length ≤ 20 := by have := ok.len; have := ok.cap; omega
  have hl : x.ords.length ≤ 1000 := by omega
  have T := tame_of ok
  have qt := qOf_at x t ht
  unfold Ex.ordersX
  dsimp only
  by_cases h1 : 1 < sd
  · rw [if_pos h1]
    refine (give_4 w m X 5 t 0 sd pr s (qOf x) x.ords hX hK.at_ hK.acc hK.ord T ht hl hp h1).mono ?_
    rintro e w' ⟨rfl, B⟩
    exact deed_below hK 4 B
  · rw [if_neg h1]
    by_cases h2 : pr < 1 ∨ 1000 ≤ pr
    · rw [if_pos h2]
      rcases (show sd = 0 ∨ sd = 1 by omega) with rfl | rfl
      · refine (give_5_0 w m X 5 t 0 pr s (qOf x) x.ords hX hK.at_ hK.acc hK.ord T ht hl hp h2).mono ?_
        rintro e w' ⟨rfl, B⟩
        exact deed_below hK 5 B
      · refine (give_5_1 w m X 5 t 0 pr s (qOf x) x.ords hX hK.at_ hK.acc hK.ord T ht hl hp h2).mono ?_
        rintro e w' ⟨rfl, B⟩
        exact deed_below hK 5 B
    · rw [if_neg h2]
      have hp2 : 1 ≤ pr ∧ pr < 1000 := by omega
      by_cases h3 : Ex.liveAt x.ords t = true
      · rw [if_pos h3]
        have h3' := (place_live x.ords t).2 h3
        rcases (show sd = 0 ∨ sd = 1 by omega) with rfl | rfl
        · refine (give_6_0 w m X 5 t 0 pr s (qOf x) x.ords hX hK.at_ hK.acc hK.ord T ht hl hp hp2 h3').mono ?_
          rintro e w' ⟨rfl, B⟩
          exact deed_below hK 6 B
        · refine (give_6_1 w m X 5 t 0 pr s (qOf x) x.ords hX hK.at_ hK.acc hK.ord T ht hl hp hp2 h3').mono ?_
          rintro e w' ⟨rfl, B⟩
          exact deed_below hK 6 B
      · rw [if_neg h3]
        have h3' : placeX x.ords t < 0 := by
          rcases Int.lt_or_le (placeX x.ords t) 0 with h | h
          · exact h
          · exact absurd ((place_live x.ords t).1 h) h3
        by_cases h4 : x.cap ≤ (x.ords.length : Int)
        · rw [if_pos h4]
          have h4' : s.cap ≤ (x.ords.length : Int) := by rw [hK.cap]; exact h4
          rcases (show sd = 0 ∨ sd = 1 by omega) with rfl | rfl
          · refine (give_7_0 w m X 5 t 0 pr s (qOf x) x.ords hX hK.at_ hK.acc hK.ord T ht hl hp hp2 h3' h4').mono ?_
            rintro e w' ⟨rfl, B⟩
            exact deed_below hK 7 B
          · refine (give_7_1 w m X 5 t 0 pr s (qOf x) x.ords hX hK.at_ hK.acc hK.ord T ht hl hp hp2 h3' h4').mono ?_
            rintro e w' ⟨rfl, B⟩
            exact deed_below hK 7 B
        · rw [if_neg h4]
          have h4' : (x.ords.length : Int) < s.cap := by rw [hK.cap]; omega
          rcases (show sd = 0 ∨ sd = 1 by omega) with rfl | rfl
          · by_cases h5 : (x.ps t).cash < pr
            · rw [if_pos (Or.inl ⟨rfl, h5⟩)]
              refine (give_8_0 w m X 5 t 0 pr s (qOf x) x.ords hX hK.at_ hK.acc hK.ord T ht hl hp hp2 h3' h4' (by rw [qt]; exact h5)).mono ?_
              rintro e w' ⟨rfl, B⟩
              exact deed_below hK 8 B
            · rw [if_neg (by omega)]
              refine (give_y_0 w m X 5 t 0 pr s (qOf x) x.ords hX hK.at_ hK.acc hK.ord T ht hl hp hp2 h3' h4' (by rw [qt]; dsimp only; omega)).mono ?_
              rintro e w' ⟨v, u, rfl, b1, b2, b3, b4, b5, b6, b7⟩
              refine ⟨_, u, 0, _, rfl, rfl, b1, b2, hK.onOrd v _ _ b3 b6 ?_ b5, Step.onOrd v b6 b7, rfl⟩
              have e : qOf { x with ps := Ex.upd x.ps t { x.ps t with cash := (x.ps t).cash - (pr : Int), held := (x.ps t).held + (pr : Int) }, ords := x.ords ++ [⟨t, ((0 : Nat) : Int), (pr : Int)⟩] } = updA (qOf x) t (chg 0 (-(pr : Int)) pr (qOf x t)) := by
                have := qOf_upd x t ht { x.ps t with cash := (x.ps t).cash - (pr : Int), held := (x.ps t).held + (pr : Int) }
                rw [qt]
                simp only [chg, if_true, ← Int.sub_eq_add_neg]
                exact this
              rw [if_pos rfl, e]
              exact b4
          · by_cases h5 : (x.ps t).units < 1
            · rw [if_pos (Or.inr ⟨rfl, h5⟩)]
              refine (give_8_1 w m X 5 t 0 pr s (qOf x) x.ords hX hK.at_ hK.acc hK.ord T ht hl hp hp2 h3' h4' (by rw [qt]; exact h5)).mono ?_
              rintro e w' ⟨rfl, B⟩
              exact deed_below hK 8 B
            · rw [if_neg (by omega)]
              refine (give_y_1 w m X 5 t 0 pr s (qOf x) x.ords hX hK.at_ hK.acc hK.ord T ht hl hp hp2 h3' h4' (by rw [qt]; dsimp only; omega)).mono ?_
              rintro e w' ⟨v, u, rfl, b1, b2, b3, b4, b5, b6, b7⟩
              refine ⟨_, u, 0, _, rfl, rfl, b1, b2, hK.onOrd v _ _ b3 b6 ?_ b5, Step.onOrd v b6 b7, rfl⟩
              have e : qOf { x with ps := Ex.upd x.ps t { x.ps t with units := (x.ps t).units - 1, hun := (x.ps t).hun + 1 }, ords := x.ords ++ [⟨t, ((1 : Nat) : Int), (pr : Int)⟩] } = updA (qOf x) t (chg 1 (-1) 1 (qOf x t)) := by
                have := qOf_upd x t ht { x.ps t with units := (x.ps t).units - 1, hun := (x.ps t).hun + 1 }
                rw [qt]
                simp only [chg, show ¬ ((1 : Nat) = 0) by decide, if_false, ← Int.sub_eq_add_neg]
                exact this
              rw [if_neg (by decide), e]
              exact b4

section
variable (w : World) (m X t : Nat) (s : MkS) (x : Ex.Xch) (hX : BoxM w X m) (hK : Mkt w m s x) (ok : Ex.Ok x) (ht : t < 20) (hb : x.batch < 1152921504606846976)
include hX hK ok
include ht in
theorem deed_account : Calls Try.prog 125 #[reqV 7 t 0 0 0, .pointer (some ⟨X, 0, none⟩)] w (Deed m s w (x, Ex.tellsX x 7 t)) := by
  refine (tellAccount_deed w m X 7 t 0 0 0 s (qOf x) hX hK.at_ hK.acc (tame_of ok) ht).mono ?_
  rintro e w' ⟨v, rfl, T⟩
  have e : Ex.tellsX x 7 t = 0 :: (bytesOf (x.ps t).cash.toNat 8 ++ (bytesOf (x.ps t).held.toNat 8 ++ (bytesOf (x.ps t).units.toNat 8 ++ bytesOf (x.ps t).hun.toNat 8))) := by
    unfold Ex.tellsX
    rw [if_pos rfl]
    simp [List.append_assoc]
  rw [e]
  rw [qOf_at x t ht] at T
  exact deed_told hK v _ T
include hb in
theorem deed_batch : Calls Try.prog 126 #[reqV 8 0 0 0 0, .pointer (some ⟨X, 0, none⟩)] w (Deed m s w (x, Ex.tellsX x 8 0)) := by
  have b1 := ok.batch
  have f1 := ok.fin
  have f2 := ok.time
  have f3 := ok.per
  have len : x.ords.length ≤ 20 := by have := ok.len; have := ok.cap; omega
  refine (tellBatch_deed w m X 8 0 0 0 0 s x.ords hX hK.at_ hK.ord (by rw [hK.num]; exact ⟨by omega, by omega⟩) (by rw [hK.fin]; exact ⟨by omega, by omega⟩) (by omega)).mono ?_
  rintro e w' ⟨v, rfl, T⟩
  have e : Ex.tellsX x 8 0 = 0 :: (bytesOf x.batch.toNat 4 ++ bytesOf x.fin.toNat 8 ++ bytesOf x.ords.length 1) := by
    unfold Ex.tellsX
    rw [if_neg (by decide), if_pos rfl]
  rw [e]
  rw [hK.num, hK.fin] at T
  exact deed_told hK v _ T
include ht in
theorem deed_result : Calls Try.prog 127 #[reqV 9 t 0 0 0, .pointer (some ⟨X, 0, none⟩)] w (Deed m s w (x, Ex.tellsX x 9 t)) := by
  have hp : MapF Try.prog 3 w s.bp 20 (fun i => (if x.traded i = true then some (x.paid i) else none).map (Value.int .i64)) := by
    have e : (fun i => (if x.traded i = true then some (x.paid i) else none).map (Value.int .i64)) = prOf x := by
      funext i
      unfold prOf
      split <;> rfl
    rw [e]; exact hK.prc
  refine (tellResult_deed w m X 9 t 0 0 0 s (fun i => if x.traded i = true then some (x.paid i) else none) hX hK.at_ hp ht (fun n hn => by
    have := ok.paid t
    split at hn
    · injection hn with hn
      subst hn
      exact ⟨by omega, by omega⟩
    · cases hn)).mono ?_
  rintro e w' ⟨v, rfl, T⟩
  unfold Ex.tellsX
  rw [if_neg (by decide), if_neg (by decide), if_pos rfl]
  by_cases h : x.traded t = true
  · rw [if_pos h] at T ⊢
    exact deed_told hK v _ T
  · rw [if_neg h] at T ⊢
    exact deed_told hK v _ T
include hb in
theorem deed_clearing : Calls Try.prog 128 #[reqV 10 0 0 0 0, .pointer (some ⟨X, 0, none⟩)] w (Deed m s w (x, Ex.tellsX x 10 0)) := by
  have b1 := ok.batch
  have sb := set_bd x.lastL
  have ll := ok.lastLen
  have k1 : kL x.lastL ≤ 1000 := by have := (kL_le x.lastL).1; have := buyers_le x.lastL; omega
  have k2 : (setL x.lastL).1 ≤ 1000 := by have := setL_le x.lastL; omega
  refine (tellClearing_deed w m X 10 0 0 0 0 s (qOf x) hX hK.at_ hK.acc (tame_of ok) (by rw [hK.num]; omega) (by rw [hK.prs]; exact k1) (by rw [hK.fls]; exact k2) (by rw [hK.pay]; exact sb.1) (by rw [hK.get]; exact sb.2)).mono ?_
  rintro e w' ⟨v, rfl, T⟩
  have hq : qOf x 20 = ⟨x.own, 0, 0, 0⟩ := if_neg (by decide)
  have e : Ex.tellsX x 10 0 = 0 :: clearB s (qOf x 20).c := by
    unfold Ex.tellsX clearB
    rw [if_neg (by decide), if_neg (by decide), if_neg (by decide), hq, hK.num, hK.prs, hK.fls, hK.pay, hK.get, hK.share, hK.last]
    simp [List.append_assoc]
  rw [e]
  exact deed_told hK v _ T
end
end Go.Proofs.Ytjfifaooimgbaaa
/- Do, over what answer answers. -/
namespace Go.Proofs.Ytjfifaooimgbaaa
open Go.Shelf Go.RowKit Go.Lib Go.Sort

theorem conv_row {w : World} {v : Value} {l : List UInt8} (h : BRow w v l) (hne : l ≠ []) : (convert 98 9 v).run Try.prog w = .ok (.string ⟨l.toArray⟩) w := by
  rcases h.2 with ⟨_, h2⟩ | ⟨g, cap, cur, rfl, a1, a2, a3⟩
  · exact absurd (List.length_eq_zero_iff.1 h2) hne
  · exact run_convert_bytes_back (P := Try.prog) w 98 9 5 ⟨g, 0, none⟩ cap l Try.underlying98 Try.underlying5 Try.underlying9 (fun j hj => World.ownsRow.cells h (g := g) rfl j _ (by
      unfold bcs
      rw [List.getElem?_map, List.getElem?_eq_getElem hj]
      rfl))
/-- a deed's boxes. -/
def deedF (bx gx : Nat → Nat) (k : Nat) : Option Value :=
  if k = 1 ∨ k = 3 then some (.func (.func 115) #[] #[.pointer (some ⟨bx k, 0, none⟩), .pointer (some ⟨gx k, 0, none⟩)])
  else if k = 2 ∨ k = 4 then some (.func (.func 117) #[] #[.pointer (some ⟨bx k, 0, none⟩), .pointer (some ⟨gx k, 0, none⟩)])
  else if k = 5 then some (.func (.func 119) #[] #[.pointer (some ⟨bx k, 0, none⟩)])
  else if k = 6 then some (.func (.func 123) #[] #[.pointer (some ⟨bx k, 0, none⟩)])
  else if k = 7 then some (.func (.func 125) #[] #[.pointer (some ⟨bx k, 0, none⟩)])
  else if k = 8 then some (.func (.func 126) #[] #[.pointer (some ⟨bx k, 0, none⟩)])
  else if k = 9 then some (.func (.func 127) #[] #[.pointer (some ⟨bx k, 0, none⟩)])
  else if k = 10 then some (.func (.func 128) #[] #[.pointer (some ⟨bx k, 0, none⟩)])
  else none
structure Bxs (w : World) (bd m : Nat) (bx gx : Nat → Nat) : Prop where
  map : MapF Try.prog 3 w bd 11 (deedF bx gx)
  box : ∀ k, 1 ≤ k → k ≤ 10 → BoxM w (bx k) m
  good : ∀ k, 1 ≤ k → k ≤ 4 → BoxG w (gx k) (if k ≤ 2 then 0 else 1)
/-- the blocks that are only read. -/
def BFoot (bd : Nat) (bx gx : Nat → Nat) (j : Nat) : Prop := j = bd ∨ (∃ k, 1 ≤ k ∧ k ≤ 10 ∧ j = bx k) ∨ (∃ k, 1 ≤ k ∧ k ≤ 4 ∧ j = gx k)
theorem Bxs.kept {w w' : World} {bd m : Nat} {bx gx : Nat → Nat} (h : Bxs w bd m bx gx) (e : ∀ j, BFoot bd bx gx j → w'.heap[j]? = w.heap[j]?) : Bxs w' bd m bx gx :=
  ⟨h.map.kept (e _ (Or.inl rfl)), fun k h1 h2 => (h.box k h1 h2).kept (e _ (Or.inr (Or.inl ⟨k, h1, h2, rfl⟩))), fun k h1 h2 => (h.good k h1 h2).kept (e _ (Or.inr (Or.inr ⟨k, h1, h2, rfl⟩)))⟩
theorem Bxs.lt {w : World} {bd m : Nat} {bx gx : Nat → Nat} (h : Bxs w bd m bx gx) : ∀ j, BFoot bd bx gx j → j < w.heap.size := fun j hj => by
  rcases hj with rfl | ⟨k, h1, h2, rfl⟩ | ⟨k, h1, h2, rfl⟩
  · exact h.map.lt
  · exact (h.box k h1 h2).lt
  · exact (h.good k h1 h2).lt
theorem Bxs.below {w w' : World} {bd m : Nat} {bx gx : Nat → Nat} (h : Bxs w bd m bx gx) (b : Below w.heap.size w w') : Bxs w' bd m bx gx := h.kept fun j hj => b.block j (h.lt j hj)
/-- what is only read is not what is written. -/
theorem Bxs.apart {w : World} {m : Nat} {s : MkS} {x : Ex.Xch} {bx gx : Nat → Nat} (h : Bxs w s.bd m bx gx) (hK : Mkt w m s x) (nbd : s.bd ≠ s.ba ∧ s.bd ≠ s.bp) : ∀ j, BFoot s.bd bx gx j → ¬ Foot m s j := fun j hj hf => by
  obtain ⟨e1, c1, a1⟩ := hK.acc.block
  obtain ⟨e2, c2, a2⟩ := hK.prc.block
  obtain ⟨e3, c3, a3⟩ := h.map.block
  have hm : w.heap[m]? = _ := hK.at_
  rcases hj with rfl | ⟨k, h1, h2, rfl⟩ | ⟨k, h1, h2, rfl⟩
  · rcases hf with e | e | e | e | e
    · rw [← e, a3] at hm; cases hm
    · exact nbd.1 e
    · exact nbd.2 e
    · obtain ⟨cur, hc⟩ := row_block hK.ord e
      rw [a3] at hc; cases hc
    · obtain ⟨cur, hc⟩ := row_block hK.jrn e
      rw [a3] at hc; cases hc
  · have hb := h.box k h1 h2
    unfold BoxM at hb
    rcases hf with e | e | e | e | e
    · rw [e, hm] at hb; injection hb with hb; injection hb with _ hb; revert hb; decide
    · rw [e, a1] at hb; cases hb
    · rw [e, a2] at hb; cases hb
    · obtain ⟨cur, hc⟩ := row_block hK.ord e
      rw [hb] at hc; injection hc with hc; injection hc with _ hc; revert hc; decide
    · obtain ⟨cur, hc⟩ := row_block hK.jrn e
      rw [hb] at hc; injection hc with hc; injection hc with _ hc; revert hc; decide
  · have hb := h.good k h1 h2
    unfold BoxG at hb
    rcases hf with e | e | e | e | e
    · rw [e, hm] at hb; injection hb with hb; injection hb with _ hb; revert hb; decide
    · rw [e, a1] at hb; cases hb
    · rw [e, a2] at hb; cases hb
    · obtain ⟨cur, hc⟩ := row_block hK.ord e
      rw [hb] at hc; injection hc with hc; injection hc with _ hc; revert hc; decide
    · obtain ⟨cur, hc⟩ := row_block hK.jrn e
      rw [hb] at hc; injection hc with hc; injection hc with _ hc; revert hc; decide

set_option maxHeartbeats 2000000 in
set_option maxRecDepth 100000 in
theorem marketDo_any (w : World) (m : Nat) (s : MkS) (x : Ex.Xch) (now : Int) (r : List UInt8) (hK : Mkt w m s x) (ok : Ex.Ok x) (h0 : -9223372036854775808 ≤ now ∧ now ≤ 9223372036854775807) (hn : x.batch < 1152921504606846976) (hj : x.jr.length ≤ 8796093022208)
    (hA : ∀ w1 s1, Mkt w1 m s1 (Ex.cleared (Ex.timed x now)) → Step m s w s1 w1 → Calls Try.prog 77 #[.pointer (some ⟨m, 0, none⟩), .string ⟨r.toArray⟩] w1 (Ans m s1 w1 (Ex.doX x now r))) (hl : (Ex.doX x now r).2.length ≤ 1000) :
    Calls Try.prog 63 #[.pointer (some ⟨m, 0, none⟩), .int .i64 now, .string ⟨r.toArray⟩] w fun e w' => ∃ s', e = .returned (.string ⟨(Ex.doX x now r).2.toArray⟩) ∧ Mkt w' m s' (Ex.doX x now r).1 ∧ Step m s w s' w' := by
  have mixed : Try.prog.follows .mixedOrders = true := by kernel_rfl
  have HS : Aside _ := setTime_any w m s x now hK ok h0 hn hj
  have HA : Aside _ := hA
  have HL : Aside ((Ex.doX x now r).2.length ≤ 1000) := hl
  clear hK ok hA hl hn hj
  go_enter Try.func63, Try.ntmps63
  go_wp2_with fail
  refine Calls.mono (f := 76) HS.out ?_
  rintro e w1 ⟨s1, rfl, K1, S1⟩
  have HA1 : Aside _ := HA.out w1 s1 K1 S1
  have HS1 : Aside (Step m s w s1 w1) := S1
  clear HS HA K1 S1
  go_wp2_with fail
  refine Calls.mono (f := 77) HA1.out ?_
  rintro e w2 ⟨s2, u, c, told, d1, rfl, d2, d3, d4, d5⟩
  obtain ⟨va, vn, vc, rfl⟩ := d2.sl
  have HD1 : Aside ((Ex.doX x now r).2 = c :: told) := d1
  have HB : Aside (BRow w2 (.slice va vn vc) told) := d2
  have HK2 : Aside (Mkt w2 m s2 (Ex.doX x now r).1) := d4
  have HST : Aside (Step m s w s2 w2) := HS1.out.trans d5
  have hlt : told.length ≤ 1000 := by
    have := HL.out
    rw [HD1.out] at this
    simp at this
    omega
  clear HA1 HS1 d1 d2 d3 d4 d5
  have BN : Aside (BRow (w2.alloc (.cells #[.int .u8 (c.toNat : Int)] 5)) (.slice (some ⟨w2.heap.size, 0, none⟩) 1 1) [c]) := brow_new w2 [c] (by simp)
  have B2 : Aside (BRow (w2.alloc (.cells #[.int .u8 (c.toNat : Int)] 5)) (.slice va vn vc) told) := World.ownsRow.alloc HB.out _
  go_wp2_with (first | (at_builtin; refine wpList_append_bytes _ rfl _ _ 98 rfl _ [c] rfl BN.out _ rfl told (src_row _ _ _ B2.out) (by simp only [List.length_singleton]; omega) (by simp only [List.length_singleton]; omega) ?_; intro v3 w3 r1 r2 r3; have hcv := conv_row r1 (by simp); obtain ⟨va3, vn3, vc3, rfl⟩ := r1.sl) | fail)
  go_ret
  refine ⟨s2, by rw [HD1.out]; rfl, ?_, ?_⟩
  · refine HK2.out.kept (fun k hk => (r2.block k (by have := HK2.out.foot_lt k hk; simp; omega) (fun e => ?_)).trans (Below.heap_alloc w2 _ k (HK2.out.foot_lt k hk)))
    have e' : some k = some w2.heap.size := e
    injection e' with e'
    have := HK2.out.foot_lt k hk
    omega
  · refine ⟨(HST.out.onl.alloc _).grown (j := w2.heap.size) r2 (Or.inr HST.out.onl.size), HST.out.foot, HST.out.bd⟩

set_option maxHeartbeats 2000000 in
set_option maxRecDepth 100000 in
theorem exchangeDo_any (w : World) (p m : Nat) (now : Int) (r : List UInt8) (Q : List UInt8 → World → Prop) (hp : w.heap[p]? = some (.cells #[.pointer (some ⟨m, 0, none⟩)] 105 (0, 0)))
    (hD : Calls Try.prog 63 #[.pointer (some ⟨m, 0, none⟩), .int .i64 now, .string ⟨r.toArray⟩] w fun e w' => ∃ l : List UInt8, e = .returned (.string ⟨l.toArray⟩) ∧ Q l w') :
    Calls Try.prog 46 #[.pointer (some ⟨p, 0, none⟩), .int .i64 now, .string ⟨r.toArray⟩] w fun e w' => ∃ l : List UInt8, e = .returned (.tuple #[.string ⟨l.toArray⟩, .int .i64 0]) ∧ Q l w' := by
  have mixed : Try.prog.follows .mixedOrders = true := by kernel_rfl
  have c0 : w.cell? ⟨p, 0, none⟩ = some (.pointer (some ⟨m, 0, none⟩)) := by simp [World.cell?, hp]
  have HD : Aside _ := hD
  clear hp hD
  go_enter Try.func46, Try.ntmps46
  go_wp2_with fail
  refine Calls.mono (f := 63) HD.out ?_
  rintro e w' ⟨l, rfl, q⟩
  go_wp2
  go_ret2
  exact ⟨l, rfl, q⟩
end Go.Proofs.Ytjfifaooimgbaaa
