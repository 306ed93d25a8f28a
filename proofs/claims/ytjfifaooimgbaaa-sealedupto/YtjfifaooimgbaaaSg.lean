import Derived.Test.YtjfifaooimgbaaaSf
/- Sealed: two floors side by side; its walk. -/
namespace Go.Proofs.Ytjfifaooimgbaaa
open Go.Shelf Go.RowKit Go.Lib Go.Sort

variable {Rep : World → (Nat → Prop) → Nat → Ex.Xch → Prop}

/-- two floors, behind the world w, with nothing in common. -/
structure Two (Rep : World → (Nat → Prop) → Nat → Ex.Xch → Prop) (w wq : World) (S : Nat → Prop) (f p : Nat) (c u : Int) (x : Ex.Xch) (S' : Nat → Prop) (g p' : Nat) (c' u' : Int) (y : Ex.Xch) : Prop where
  a : Fl Rep wq S f p 0 c u x
  b : Fl Rep wq S' g p' 0 c' u' y
  below : Below w.heap.size w wq
  sa : ∀ k, S k → w.heap.size ≤ k
  sb : ∀ k, S' k → w.heap.size ≤ k
  fa : w.heap.size ≤ f
  fb : w.heap.size ≤ g
  ap : ∀ k, S k → ¬ S' k
  ne : f ≠ g
  ag : ¬ S g
  bf : ¬ S' f

theorem Two.swap {w wq : World} {S S' : Nat → Prop} {f g p p' : Nat} {c u c' u' : Int} {x y : Ex.Xch} (h : Two Rep w wq S f p c u x S' g p' c' u' y) : Two Rep w wq S' g p' c' u' y S f p c u x :=
  ⟨h.b, h.a, h.below, h.sb, h.sa, h.fb, h.fa, fun k h1 h2 => h.ap k h2 h1, fun e => h.ne e.symm, h.bf, h.ag⟩
theorem Two.up (E : Exch Rep) {w wq w' : World} {S S' : Nat → Prop} {f g p p' : Nat} {c u c' u' : Int} {x y : Ex.Xch} (h : Two Rep w wq S f p c u x S' g p' c' u' y) (b : Below wq.heap.size wq w') : Two Rep w w' S f p c u x S' g p' c' u' y :=
  ⟨h.a.up E b, h.b.up E b, h.below.trans (b.mono h.below.size), h.sa, h.sb, h.fa, h.fb, h.ap, h.ne, h.ag, h.bf⟩
/-- the left one goes on. -/
theorem Two.left (E : Exch Rep) {w wq w' : World} {S S' S2 : Nat → Prop} {f g p p' : Nat} {c u c' u' c2 u2 : Int} {x y x2 : Ex.Xch} (h : Two Rep w wq S f p c u x S' g p' c' u' y) (F : Fl Rep w' S2 f p 0 c2 u2 x2) (G : Gone (fun k => S k ∨ k = f) (fun k => S2 k ∨ k = f) wq w') :
    Two Rep w w' S2 f p c2 u2 x2 S' g p' c' u' y := by
  have sub : ∀ k, S2 k → S k ∨ wq.heap.size ≤ k := fun k hk => by
    rcases G.sub k (Or.inl hk) with h1 | h1
    · rcases h1 with h1 | h1
      · exact Or.inl h1
      · rw [h1] at hk; exact absurd hk F.no
    · exact Or.inr h1
  have keepB : ∀ k, k < wq.heap.size → ¬ S k → k ≠ f → w'.heap[k]? = wq.heap[k]? := fun k hk h1 h2 => G.only.block k hk (fun hs => by
    rcases hs with hs | hs
    · exact h1 hs
    · exact h2 hs)
  have hg := h.b.fl.lt
  refine ⟨F, ⟨(keepB g hg h.ag (fun e => h.ne e.symm)).trans h.b.fl, E.keep h.b.rep (fun k hk => keepB k (E.low h.b.rep k hk) (fun hs => h.ap k hs hk) (fun e => h.bf (by rw [← e]; exact hk))) G.only.size, h.b.no⟩,
    h.below.trans (G.only.below (fun k hk => by
      rcases hk with hk | hk
      · exact h.sa k hk
      · rw [hk]; exact h.fa) h.below.size), fun k hk => ?_, h.sb, h.fa, h.fb, fun k hk hb => ?_, h.ne, fun hs => ?_, h.bf⟩
  · rcases sub k hk with h1 | h1
    · exact h.sa k h1
    · have := h.below.size; omega
  · rcases sub k hk with h1 | h1
    · exact h.ap k h1 hb
    · have := E.low h.b.rep k hb; omega
  · rcases sub g hs with h1 | h1
    · exact h.ag h1
    · omega

theorem two_asks (E : Exch Rep) {w wq : World} {S S' : Nat → Prop} {f g p p' : Nat} {c u c' u' : Int} {x y : Ex.Xch} (h : Two Rep w wq S f p c u x S' g p' c' u' y) (ok : Ex.Ok x) (r : List UInt8) (hj : x.jr.length ≤ 1099511627776) (hr : r.length ≤ 1000) :
    Calls Try.prog 29 #[.pointer (some ⟨f, 0, none⟩), .string ⟨r.toArray⟩] wq fun e w' => ∃ S2, e = .returned (.string ⟨(Ex.doX x 0 r).2.toArray⟩) ∧ Two Rep w w' S2 f p c u (Ex.doX x 0 r).1 S' g p' c' u' y := by
  refine Calls.mono (f := 29) (fl_asks E h.a ok r (by decide) (by decide) hj hr) ?_
  rintro e w' ⟨S2, q1, q2, q3, q4⟩
  exact ⟨S2, q1, h.left E q2 (Gone.with f ⟨q4, q3⟩)⟩

/-- what is only asked. -/
theorem two_tell (E : Exch Rep) {w wq : World} {S S' : Nat → Prop} {f g p p' : Nat} {c u c' u' : Int} {x y : Ex.Xch} (h : Two Rep w wq S f p c u x S' g p' c' u' y) (ok : Ex.Ok x) (st : Ex.Still x 0) (hj : x.jr.length ≤ 1099511627776) {k : UInt8} (hk : 7 ≤ k.toNat ∧ k.toNat ≤ 10) (r : List UInt8) (hr : r = if Ex.longOf k.toNat = 1 then [k] else [k, UInt8.ofNat 0]) (hl : r.length ≤ 1000) :
    Calls Try.prog 29 #[.pointer (some ⟨f, 0, none⟩), .string ⟨r.toArray⟩] wq fun e w' => ∃ S2, e = .returned (.string ⟨(Ex.tellsX x k.toNat 0).toArray⟩) ∧ Two Rep w w' S2 f p c u x S' g p' c' u' y := by
  have t := Ex.tell st hk 0 (by decide) r hr
  have e0 : (if Ex.longOf k.toNat = 1 then 0 else 0) = 0 := by split <;> rfl
  rw [e0] at t
  have a := two_asks E h ok r hj hl
  rw [t] at a
  exact a

theorem two_moves (E : Exch Rep) {w wq : World} {S S' : Nat → Prop} {f g p p' : Nat} {c u c' u' : Int} {x y : Ex.Xch} (h : Two Rep w wq S f p c u x S' g p' c' u' y) (ok : Ex.Ok x) (hj : x.jr.length ≤ 1099511627776) (hc : -1000000000000 ≤ c ∧ c ≤ 1000000000000) (hu : -1000000000000 ≤ u ∧ u ≤ 1000000000000) (K W N : Int) (hK : I64 K) (hW : I64 W) (hN : I64 N) (h8 : pickN K 10 ≠ 8) :
    Calls Try.prog 27 #[.pointer (some ⟨f, 0, none⟩), .agg #[.int .i64 K, .int .i64 W, .int .i64 N]] wq fun e w' => ∃ S2 c2 u2, e = .returned (.string ⟨(Ex.doX x 0 (reqOf K W N)).2.toArray⟩) ∧ Two Rep w w' S2 f p c2 u2 (Ex.doX x 0 (reqOf K W N)).1 S' g p' c' u' y ∧ (-3000 + c ≤ c2 ∧ c2 ≤ 3000 + c) ∧ (-3000 + u ≤ u2 ∧ u2 ≤ 3000 + u) ∧ (∀ k, k < wq.heap.size → ¬ S k → k ≠ f → w'.heap[k]? = wq.heap[k]?) := by
  have em : mvNow 0 K N = 0 := by unfold mvNow; rw [if_neg h8]
  have er : mvReq K W N = reqOf K W N := by unfold mvReq; rw [if_neg h8]
  have a := moves_any E h.a.rep ok f 0 c u h.a.fl h.a.no K W N hK hW hN (by decide) (by decide) hj (by omega) (by omega)
  rw [em, er] at a
  refine Calls.mono (f := 27) a ?_
  rintro e w2 ⟨S2, s2, x2, ex, q1, F2, R2, t2, O2⟩
  injection ex with ex1 ex2
  have sm := mv_small K N s2
  have hfl := h.a.fl.lt
  have FF : Fl Rep w2 S2 f p 0 (c + mvCash K N s2) (u + mvUnits K N s2) (Ex.doX x 0 (reqOf K W N)).1 := ⟨F2, by rw [← ex1]; exact R2, fun hs => by
    rcases t2 f hs with h1 | h1
    · exact h.a.no h1
    · omega⟩
  refine ⟨S2, _, _, ?_, h.left E FF ⟨O2, fun k hk => ?_⟩, by omega, by omega, fun k hk h1 h2 => O2.block k hk (fun hs => by
    rcases hs with hs | hs
    · exact h1 hs
    · exact h2 hs)⟩
  · rw [q1, ← ex2]; rfl
  · rcases hk with hk | hk
    · rcases t2 k hk with h1 | h1
      · exact Or.inl (Or.inl h1)
      · exact Or.inr h1
    · exact Or.inl (Or.inr hk)

/-- a list of numbers lies there. -/
def NumsHere (w : World) (a : Option Addr) (l : List Int) : Prop := ∀ i, i < l.length → ∃ b o, a = some ⟨b, o, none⟩ ∧ b < w.heap.size ∧ w.cell? ⟨b, o + i, none⟩ = some (.int .i64 (l.getD i 0))
theorem NumsHere.up {w w' : World} {a : Option Addr} {l : List Int} (h : NumsHere w a l) (hb : Below w.heap.size w w') : NumsHere w' a l := fun i hi => by
  obtain ⟨b, o, ha, h1, h2⟩ := h i hi
  exact ⟨b, o, ha, Nat.lt_of_lt_of_le h1 hb.size, (hb.cell (p := ⟨b, o + i, none⟩) h1).trans h2⟩

set_option maxHeartbeats 40000000 in
set_option maxRecDepth 100000 in
theorem sealed_any (E : Exch Rep) (l : List (Int × Int × Int)) (ol : List Int) (a1 a2 : Option Addr) (cp1 cp2 : Nat) (w : World) (hM : MovesAt w a1 l) (hO : NumsHere w a2 ol) (hw : ∀ i, i < l.length → I64 (l.getD i (0, 0, 0)).1 ∧ I64 (l.getD i (0, 0, 0)).2.1 ∧ I64 (l.getD i (0, 0, 0)).2.2) (hwo : ∀ i, i < ol.length → I64 (ol.getD i 0)) (hl : l.length ≤ 1048576) (hol : ol.length ≤ 1048576) :
    Calls Try.prog 8 #[.slice a1 l.length cp1, .slice a2 ol.length cp2] w fun e w' => e = .returned (.bool true) ∧ Below w.heap.size w w' := by
  have mixed : Try.prog.follows .mixedOrders = true := by kernel_rfl
  have HP : Aside (∀ (c : Int) (n : Nat) (W : World), 0 < n → n ≤ 9007199254740992 → I64 c → Calls Try.prog 23 #[.int .i64 c, .int .i64 n] W fun e w' => e = .returned (.int .i64 (pickN c n : Nat)) ∧ w' = W) := fun c n W h1 h2 h3 => pick_any c n W h1 h2 h3.1 h3.2
  have HM : Aside (MovesAt w a1 l) := hM
  have HO : Aside (NumsHere w a2 ol) := hO
  clear hM hO
  go_enter Try.func8, Try.ntmps8
  go_wp2_with fail
  refine (opened_any E 99 19 (by decide) (by decide) w).mono ?_
  rintro e w0 ⟨f, p, S0, rfl, F0, R0, nS0, hfw, s0, B0⟩
  have P0 : Aside (Pst Rep w w0 S0 f p 0 1000 0 begun0) := ⟨⟨F0, R0, nS0⟩, B0, s0, hfw⟩
  clear F0 R0 nS0 s0 B0
  go_wp2_with fail
  refine (opened_any E 99 19 (by decide) (by decide) w0).mono ?_
  rintro e w1 ⟨g, p', S1, rfl, F1, R1, nS1, hgw, s1, B1⟩
  have T1 : Aside (Two Rep w w1 S0 f p 1000 0 begun0 S1 g p' 1000 0 begun0) := by
    have q := P0.out.up E B1
    have hb := P0.out.below.size
    have hlf := P0.out.fl.fl.lt
    exact ⟨q.fl, ⟨F1, R1, nS1⟩, q.below, q.s, fun k hk => by have := s1 k hk; omega, q.f, by omega, fun k h1 h2 => by
      have := E.low P0.out.fl.rep k h1
      have := s1 k h2
      omega, by omega, fun hs => by
      have := E.low P0.out.fl.rep g hs
      omega, fun hs => by
      have := s1 f hs
      omega⟩
  clear F1 R1 nS1 hgw s1 B1 P0
  have jb : begun0.jr.length ≤ 1099511000000 := by show (Ex.record 0 (1 :: 0 :: bytesOf 1000 8)).length ≤ _; rw [Ex.record_length]; simp [bytesOf_length]
  have hfu := funded_any E T1.out.a begun0_ok.1 (by decide) (by decide) jb fund_resp.1 fund_resp.2
  have HFU : Aside _ := hfu
  clear hfu
  go_wp2_with fail
  refine Calls.mono (f := 32) HFU.out ?_
  rintro e w2 ⟨S2, rfl, F2, G2⟩
  have T2 : Aside (Two Rep w w2 S2 f p 1000 0 fund0 S1 g p' 1000 0 begun0) := T1.out.left E F2 (Gone.with f G2)
  have hfu := funded_any E T2.out.b begun0_ok.1 (by decide) (by decide) jb fund_resp.1 fund_resp.2
  have HFU2 : Aside _ := hfu
  clear HFU T1 F2 G2 hfu
  go_wp2_with fail
  refine Calls.mono (f := 32) HFU2.out ?_
  rintro e w3 ⟨S3, rfl, F3, G3⟩
  have T3 : Aside (Two Rep w w3 S2 f p 1000 0 fund0 S3 g p' 1000 0 fund0) := (T2.out.swap.left E F3 (Gone.with g G3)).swap
  have jf := fund0_ok.2
  clear HFU2 T2 F3 G3 jb
  go_wp2_with fail
  go_loopg [9] l.length (fun kx s wq => ∃ (i : Nat) (S : Nat → Prop) (c u : Int) (x : Ex.Xch) (S' : Nat → Prop) (c' u' : Int) (y : Ex.Xch), s = .int .i64 i ∧ i ≤ l.length ∧ l.length - i ≤ kx ∧ Aside (Two Rep w wq S f p c u x S' g p' c' u' y) ∧ Aside (Ex.Alike x y) ∧ (-(3000 * (i : Int)) ≤ c - 1000 ∧ c - 1000 ≤ 3000 * i) ∧ (-(3000 * (i : Int)) ≤ u ∧ u ≤ 3000 * i) ∧ (-(3000 * (i : Int)) ≤ c' - 1000 ∧ c' - 1000 ≤ 3000 * i) ∧ (-(3000 * (i : Int)) ≤ u' ∧ u' ≤ 3000 * i) ∧ x.jr.length ≤ 2000 + 100 * i ∧ y.jr.length ≤ 2000 + 100 * i)
  case atStart => exact ⟨0, S2, 1000, 0, fund0, S3, 1000, 0, fund0, rfl, Nat.zero_le _, by omega, T3, alike_fund, by omega, by omega, by omega, by omega, by omega, by omega⟩
  case round =>
    obtain ⟨i, S, c, u, x, S', c', u', y, rfl, hi, hkx, TT, AL, bc, bu, bc', bu', jx, jy⟩ := hrel
    obtain ⟨U0, rfl⟩ : ∃ U0, U0 = wr := ⟨_, rfl⟩
    by_cases hlt : i < l.length
    · have hltz : (i : Int) < (l.length : Int) := by omega
      obtain ⟨gb, go, rfl, hg, q1, q2, q3⟩ := (HM.out.up TT.out.below) i hlt
      obtain ⟨i1, i2, i3⟩ := hw i hlt
      generalize (l.getD i (0, 0, 0)).1 = K at *
      generalize (l.getD i (0, 0, 0)).2.1 = Wh at *
      generalize (l.getD i (0, 0, 0)).2.2 = N at *
      have HPK : Aside (∀ W, Calls Try.prog 23 #[.int .i64 K, .int .i64 10] W fun e w' => e = .returned (.int .i64 (pickN K 10 : Nat)) ∧ w' = W) := fun W => HP.out K 10 W (by decide) (by decide) i1
      have HPW : Aside (∀ W, Calls Try.prog 23 #[.int .i64 Wh, .int .i64 20] W fun e w' => e = .returned (.int .i64 (pickN Wh 20 : Nat)) ∧ w' = W) := fun W => HP.out Wh 20 W (by decide) (by decide) i2
      obtain ⟨k, hk⟩ : ∃ k, pickN K 10 = k := ⟨_, rfl⟩
      obtain ⟨t, ht⟩ : ∃ t, pickN Wh 20 = t := ⟨_, rfl⟩
      rw [hk] at HPK
      rw [ht] at HPW
      have HK : Aside (pickN K 10 = k ∧ pickN Wh 20 = t) := ⟨hk, ht⟩
      clear hk ht
      go_wp2_with fail
      refine Calls.mono (f := 23) (HPK.out _) ?_
      rintro e z0 ⟨rfl, hz0⟩
      rw [hz0]
      clear hz0 z0
      obtain ⟨W2, hW2⟩ : ∃ W2, W2 = (U0.alloc (Obj.cells #[Value.int IntKind.i64 K, Value.int IntKind.i64 Wh, Value.int IntKind.i64 N] 54)).alloc (Obj.cells #[Value.int IntKind.i64 K, Value.int IntKind.i64 Wh, Value.int IntKind.i64 N] 54) := ⟨_, rfl⟩
      rw [← hW2]
      have hO0 : W2.cell? ⟨U0.heap.size, 0, none⟩ = some (.int .i64 K) := by rw [hW2]; simp
      have hO1 : W2.cell? ⟨U0.heap.size, 1, none⟩ = some (.int .i64 Wh) := by rw [hW2]; simp
      have hO2 : W2.cell? ⟨U0.heap.size, 2, none⟩ = some (.int .i64 N) := by rw [hW2]; simp
      have hP0 : W2.cell? ⟨U0.heap.size + 1, 0, none⟩ = some (.int .i64 K) := by rw [hW2]; simp
      have hP1 : W2.cell? ⟨U0.heap.size + 1, 1, none⟩ = some (.int .i64 Wh) := by rw [hW2]; simp
      have hP2 : W2.cell? ⟨U0.heap.size + 1, 2, none⟩ = some (.int .i64 N) := by rw [hW2]; simp
      have hFO : ∀ j, W2.frozen? ⟨U0.heap.size, j, none⟩ = false := fun j => by rw [hW2]; simp
      have hFP : ∀ j, W2.frozen? ⟨U0.heap.size + 1, j, none⟩ = false := fun j => by rw [hW2]; simp
      have BV : Below U0.heap.size U0 W2 := by rw [hW2]; exact ((Below.refl _ _).alloc (Nat.le_refl _) _).alloc (by simp) _
      have hPV : U0.heap.size + 1 < W2.heap.size := by rw [hW2]; simp
      have hN1 : I64 N := i3
      have hN2 : I64 N := i3
      clear hW2
      by_cases k8 : k = 8
      · have d8 : ((k : Int) == 8) = true := by rw [k8]; rfl
        have T2 : Aside (Two Rep w W2 S f p c u x S' g p' c' u' y) := TT.out.up E BV
        go_wp2
        go_roundg (l.length - (i + 1))
        case measure => omega
        case rel => exact ⟨i + 1, S, c, u, x, S', c', u', y, by go_num, by omega, Nat.le_refl _, T2, AL, by omega, by omega, by omega, by omega, by omega, by omega⟩
      have d8 : ((k : Int) == 8) = false := beq_eq_false_iff_ne.2 (by omega)
      by_cases k4 : k < 4
      · have d4 : (k : Int) < 4 := by omega
        have d3 : ¬ (3 : Int) < (k : Int) := by omega
        go_wp2_with fail
        refine Calls.mono (f := 23) (HPW.out _) ?_
        rintro e z0 ⟨rfl, hz0⟩
        rw [hz0]
        clear hz0 z0
        by_cases t0 : t = 0
        · have dt : ¬ (0 : Int) < (t : Int) := by omega
          have hsm : SameMove K Wh N N := ⟨by rw [HK.out.1]; omega, Or.inl ⟨rfl, by rw [HK.out.2]; omega⟩⟩
          have KO : Aside (SameMove K Wh N N) := hsm
          clear hsm
          have TV : Aside (Two Rep w W2 S f p c u x S' g p' c' u' y) := TT.out.up E BV
          have alk := AL.out
          have okx := alk.okx
          have oky := alk.oky
          obtain ⟨er, al2⟩ := alike_do alk KO.out
          have okx2 := al2.okx
          have oky2 := al2.oky
          have stl := al2.still
          have jx2 := Ex.do_jr x 0 (reqOf K Wh N)
          have jy2 := Ex.do_jr y 0 (reqOf K Wh N)
          have rl1 := req_len K Wh N
          have rl2 := req_len K Wh N
          unfold mvReq at rl1 rl2
          rw [if_neg KO.out.1] at rl1 rl2
          have tel := Ex.alike_tells al2
          have mv1 := two_moves E TV.out okx (by omega) (by omega) (by omega) K Wh N i1 i2 hN1 KO.out.1
          obtain ⟨x2, hx2⟩ : ∃ z, (Ex.doX x 0 (reqOf K Wh N)).1 = z := ⟨_, rfl⟩
          obtain ⟨y2, hy2⟩ : ∃ z, (Ex.doX y 0 (reqOf K Wh N)).1 = z := ⟨_, rfl⟩
          obtain ⟨sr, hsr⟩ : ∃ z, (Ex.doX x 0 (reqOf K Wh N)).2 = z := ⟨_, rfl⟩
          rw [hx2, hsr] at mv1
          rw [hx2, hy2] at al2 stl tel
          rw [hx2] at okx2 jx2
          rw [hy2] at oky2 jy2
          have MV1 : Aside _ := mv1
          have AL2 : Aside (Ex.Alike x2 y2) := al2
          have ESR : Aside ((Ex.doX y 0 (reqOf K Wh N)).2 = sr ∧ (Ex.doX y 0 (reqOf K Wh N)).1 = y2) := ⟨by rw [← er, hsr], hy2⟩
          have TEL : Aside (Ex.tellsX x2 8 0 = Ex.tellsX y2 8 0 ∧ Ex.tellsX x2 7 0 = Ex.tellsX y2 7 0 ∧ Ex.tellsX x2 9 0 = Ex.tellsX y2 9 0 ∧ Ex.tellsX x2 10 0 = Ex.tellsX y2 10 0) := tel
          clear mv1 al2 hx2 hy2 hsr er tel alk
          go_wp2_with fail
          refine Calls.mono (f := 27) MV1.out ?_
          rintro e z1 ⟨S1, c1, u1, rfl, T1, bc1, bu1, kb1⟩
          have hbS : ∀ j, U0.heap.size ≤ j → ¬ S j ∧ j ≠ f := fun j hj => ⟨fun hs => by
            have := E.low TT.out.a.rep j hs
            omega, fun e => by
            have := TT.out.a.fl.lt
            omega⟩
          have kp : z1.heap[U0.heap.size + 1]? = W2.heap[U0.heap.size + 1]? := kb1 _ hPV (hbS _ (by omega)).1 (hbS _ (by omega)).2
          have e0 := (World.cell?_of_block (a := ⟨U0.heap.size + 1, 0, none⟩) kp).trans hP0
          have e1 := (World.cell?_of_block (a := ⟨U0.heap.size + 1, 1, none⟩) kp).trans hP1
          have e2 := (World.cell?_of_block (a := ⟨U0.heap.size + 1, 2, none⟩) kp).trans hP2
          have mv2 := two_moves E T1.swap oky (by omega) (by omega) (by omega) K Wh N i1 i2 hN2 KO.out.1
          rw [ESR.out.1, ESR.out.2] at mv2
          have MV2 : Aside _ := mv2
          clear MV1 T1 kb1 hbS kp mv2 hP0 hP1 hP2
          go_wp2_with fail
          refine Calls.mono (f := 27) MV2.out ?_
          rintro e z2 ⟨S2, c2, u2, rfl, T2, bc2, bu2, -⟩
          have T2' : Aside (Two Rep w z2 S1 f p c1 u1 x2 S2 g p' c2 u2 y2) := T2.swap
          clear MV2 T2 e0 e1 e2
          have h3 := two_tell E T2'.out okx2 stl.1 (by omega) (k := 8) (by decide) [8] rfl (by decide)
          obtain ⟨l8, hl8⟩ : ∃ z, Ex.tellsX x2 (UInt8.toNat 8) 0 = z := ⟨_, rfl⟩
          rw [hl8] at h3
          have HL8 : Aside (Ex.tellsX x2 (UInt8.toNat 8) 0 = l8) := hl8
          have H3 : Aside _ := h3
          clear h3 hl8
          go_wp2_with fail
          refine Calls.mono (f := 29) H3.out ?_
          rintro e z3 ⟨S3, rfl, T3a⟩
          have T3 : Aside (Two Rep w z3 S3 f p c1 u1 x2 S2 g p' c2 u2 y2) := T3a
          clear T3a H3
          have h4 := two_tell E T3.out.swap oky2 stl.2 (by omega) (k := 8) (by decide) [8] rfl (by decide)
          rw [show Ex.tellsX y2 (UInt8.toNat 8) 0 = l8 from TEL.out.1.symm.trans HL8.out] at h4
          have H4 : Aside _ := h4
          clear h4 HL8
          go_wp2_with fail
          refine Calls.mono (f := 29) H4.out ?_
          rintro e z4 ⟨S4, rfl, T4a⟩
          have T4 : Aside (Two Rep w z4 S3 f p c1 u1 x2 S4 g p' c2 u2 y2) := T4a.swap
          clear T4a H4 T3
          have h5 := two_tell E T4.out okx2 stl.1 (by omega) (k := 7) (by decide) [7, 0] rfl (by decide)
          obtain ⟨l7, hl7⟩ : ∃ z, Ex.tellsX x2 (UInt8.toNat 7) 0 = z := ⟨_, rfl⟩
          rw [hl7] at h5
          have HL7 : Aside (Ex.tellsX x2 (UInt8.toNat 7) 0 = l7) := hl7
          have H5 : Aside _ := h5
          clear h5 hl7
          go_wp2_with fail
          refine Calls.mono (f := 29) H5.out ?_
          rintro e z5 ⟨S5, rfl, T5a⟩
          have T5 : Aside (Two Rep w z5 S5 f p c1 u1 x2 S4 g p' c2 u2 y2) := T5a
          clear T5a H5
          have h6 := two_tell E T5.out.swap oky2 stl.2 (by omega) (k := 7) (by decide) [7, 0] rfl (by decide)
          rw [show Ex.tellsX y2 (UInt8.toNat 7) 0 = l7 from TEL.out.2.1.symm.trans HL7.out] at h6
          have H6 : Aside _ := h6
          clear h6 HL7
          go_wp2_with fail
          refine Calls.mono (f := 29) H6.out ?_
          rintro e z6 ⟨S6, rfl, T6a⟩
          have T6 : Aside (Two Rep w z6 S5 f p c1 u1 x2 S6 g p' c2 u2 y2) := T6a.swap
          clear T6a H6 T5
          have h7 := two_tell E T6.out okx2 stl.1 (by omega) (k := 9) (by decide) [9, 0] rfl (by decide)
          obtain ⟨l9, hl9⟩ : ∃ z, Ex.tellsX x2 (UInt8.toNat 9) 0 = z := ⟨_, rfl⟩
          rw [hl9] at h7
          have HL9 : Aside (Ex.tellsX x2 (UInt8.toNat 9) 0 = l9) := hl9
          have H7 : Aside _ := h7
          clear h7 hl9
          go_wp2_with fail
          refine Calls.mono (f := 29) H7.out ?_
          rintro e z7 ⟨S7, rfl, T7a⟩
          have T7 : Aside (Two Rep w z7 S7 f p c1 u1 x2 S6 g p' c2 u2 y2) := T7a
          clear T7a H7
          have h8 := two_tell E T7.out.swap oky2 stl.2 (by omega) (k := 9) (by decide) [9, 0] rfl (by decide)
          rw [show Ex.tellsX y2 (UInt8.toNat 9) 0 = l9 from TEL.out.2.2.1.symm.trans HL9.out] at h8
          have H8 : Aside _ := h8
          clear h8 HL9
          go_wp2_with fail
          refine Calls.mono (f := 29) H8.out ?_
          rintro e z8 ⟨S8, rfl, T8a⟩
          have T8 : Aside (Two Rep w z8 S7 f p c1 u1 x2 S8 g p' c2 u2 y2) := T8a.swap
          clear T8a H8 T7
          have h9 := two_tell E T8.out okx2 stl.1 (by omega) (k := 10) (by decide) [10] rfl (by decide)
          obtain ⟨l10, hl10⟩ : ∃ z, Ex.tellsX x2 (UInt8.toNat 10) 0 = z := ⟨_, rfl⟩
          rw [hl10] at h9
          have HL10 : Aside (Ex.tellsX x2 (UInt8.toNat 10) 0 = l10) := hl10
          have H9 : Aside _ := h9
          clear h9 hl10
          go_wp2_with fail
          refine Calls.mono (f := 29) H9.out ?_
          rintro e z9 ⟨S9, rfl, T9a⟩
          have T9 : Aside (Two Rep w z9 S9 f p c1 u1 x2 S8 g p' c2 u2 y2) := T9a
          clear T9a H9
          have h10 := two_tell E T9.out.swap oky2 stl.2 (by omega) (k := 10) (by decide) [10] rfl (by decide)
          rw [show Ex.tellsX y2 (UInt8.toNat 10) 0 = l10 from TEL.out.2.2.2.symm.trans HL10.out] at h10
          have H10 : Aside _ := h10
          clear h10 HL10
          go_wp2_with fail
          refine Calls.mono (f := 29) H10.out ?_
          rintro e z10 ⟨S10, rfl, T10a⟩
          have T10 : Aside (Two Rep w z10 S9 f p c1 u1 x2 S10 g p' c2 u2 y2) := T10a.swap
          clear T10a H10 T9
          go_wp2
          go_roundg (l.length - (i + 1))
          case measure => omega
          case rel => exact ⟨i + 1, S9, c1, u1, x2, S10, c2, u2, y2, by go_num, by omega, Nat.le_refl _, T10, AL2, by omega, by omega, by omega, by omega, by omega, by omega⟩
        · have dt : (0 : Int) < (t : Int) := by omega
          have T2 : Aside (Two Rep w W2 S f p c u x S' g p' c' u' y) := TT.out.up E BV
          go_wp2
          go_roundg (l.length - (i + 1))
          case measure => omega
          case rel => exact ⟨i + 1, S, c, u, x, S', c', u', y, by go_num, by omega, Nat.le_refl _, T2, AL, by omega, by omega, by omega, by omega, by omega, by omega⟩
      have d4 : ¬ (k : Int) < 4 := by omega
      have d3 : (3 : Int) < (k : Int) := by omega
      by_cases k7 : k < 7
      · have d7 : (k : Int) < 7 := by omega
        go_wp2_with fail
        refine Calls.mono (f := 23) (HPW.out _) ?_
        rintro e z0 ⟨rfl, hz0⟩
        rw [hz0]
        clear hz0 z0
        by_cases t0 : t = 0
        · have dt : ¬ (0 : Int) < (t : Int) := by omega
          have hsm : SameMove K Wh N N := ⟨by rw [HK.out.1]; omega, Or.inl ⟨rfl, by rw [HK.out.2]; omega⟩⟩
          have KO : Aside (SameMove K Wh N N) := hsm
          clear hsm
          have TV : Aside (Two Rep w W2 S f p c u x S' g p' c' u' y) := TT.out.up E BV
          have alk := AL.out
          have okx := alk.okx
          have oky := alk.oky
          obtain ⟨er, al2⟩ := alike_do alk KO.out
          have okx2 := al2.okx
          have oky2 := al2.oky
          have stl := al2.still
          have jx2 := Ex.do_jr x 0 (reqOf K Wh N)
          have jy2 := Ex.do_jr y 0 (reqOf K Wh N)
          have rl1 := req_len K Wh N
          have rl2 := req_len K Wh N
          unfold mvReq at rl1 rl2
          rw [if_neg KO.out.1] at rl1 rl2
          have tel := Ex.alike_tells al2
          have mv1 := two_moves E TV.out okx (by omega) (by omega) (by omega) K Wh N i1 i2 hN1 KO.out.1
          obtain ⟨x2, hx2⟩ : ∃ z, (Ex.doX x 0 (reqOf K Wh N)).1 = z := ⟨_, rfl⟩
          obtain ⟨y2, hy2⟩ : ∃ z, (Ex.doX y 0 (reqOf K Wh N)).1 = z := ⟨_, rfl⟩
          obtain ⟨sr, hsr⟩ : ∃ z, (Ex.doX x 0 (reqOf K Wh N)).2 = z := ⟨_, rfl⟩
          rw [hx2, hsr] at mv1
          rw [hx2, hy2] at al2 stl tel
          rw [hx2] at okx2 jx2
          rw [hy2] at oky2 jy2
          have MV1 : Aside _ := mv1
          have AL2 : Aside (Ex.Alike x2 y2) := al2
          have ESR : Aside ((Ex.doX y 0 (reqOf K Wh N)).2 = sr ∧ (Ex.doX y 0 (reqOf K Wh N)).1 = y2) := ⟨by rw [← er, hsr], hy2⟩
          have TEL : Aside (Ex.tellsX x2 8 0 = Ex.tellsX y2 8 0 ∧ Ex.tellsX x2 7 0 = Ex.tellsX y2 7 0 ∧ Ex.tellsX x2 9 0 = Ex.tellsX y2 9 0 ∧ Ex.tellsX x2 10 0 = Ex.tellsX y2 10 0) := tel
          clear mv1 al2 hx2 hy2 hsr er tel alk
          go_wp2_with fail
          refine Calls.mono (f := 27) MV1.out ?_
          rintro e z1 ⟨S1, c1, u1, rfl, T1, bc1, bu1, kb1⟩
          have hbS : ∀ j, U0.heap.size ≤ j → ¬ S j ∧ j ≠ f := fun j hj => ⟨fun hs => by
            have := E.low TT.out.a.rep j hs
            omega, fun e => by
            have := TT.out.a.fl.lt
            omega⟩
          have kp : z1.heap[U0.heap.size + 1]? = W2.heap[U0.heap.size + 1]? := kb1 _ hPV (hbS _ (by omega)).1 (hbS _ (by omega)).2
          have e0 := (World.cell?_of_block (a := ⟨U0.heap.size + 1, 0, none⟩) kp).trans hP0
          have e1 := (World.cell?_of_block (a := ⟨U0.heap.size + 1, 1, none⟩) kp).trans hP1
          have e2 := (World.cell?_of_block (a := ⟨U0.heap.size + 1, 2, none⟩) kp).trans hP2
          have mv2 := two_moves E T1.swap oky (by omega) (by omega) (by omega) K Wh N i1 i2 hN2 KO.out.1
          rw [ESR.out.1, ESR.out.2] at mv2
          have MV2 : Aside _ := mv2
          clear MV1 T1 kb1 hbS kp mv2 hP0 hP1 hP2
          go_wp2_with fail
          refine Calls.mono (f := 27) MV2.out ?_
          rintro e z2 ⟨S2, c2, u2, rfl, T2, bc2, bu2, -⟩
          have T2' : Aside (Two Rep w z2 S1 f p c1 u1 x2 S2 g p' c2 u2 y2) := T2.swap
          clear MV2 T2 e0 e1 e2
          have h3 := two_tell E T2'.out okx2 stl.1 (by omega) (k := 8) (by decide) [8] rfl (by decide)
          obtain ⟨l8, hl8⟩ : ∃ z, Ex.tellsX x2 (UInt8.toNat 8) 0 = z := ⟨_, rfl⟩
          rw [hl8] at h3
          have HL8 : Aside (Ex.tellsX x2 (UInt8.toNat 8) 0 = l8) := hl8
          have H3 : Aside _ := h3
          clear h3 hl8
          go_wp2_with fail
          refine Calls.mono (f := 29) H3.out ?_
          rintro e z3 ⟨S3, rfl, T3a⟩
          have T3 : Aside (Two Rep w z3 S3 f p c1 u1 x2 S2 g p' c2 u2 y2) := T3a
          clear T3a H3
          have h4 := two_tell E T3.out.swap oky2 stl.2 (by omega) (k := 8) (by decide) [8] rfl (by decide)
          rw [show Ex.tellsX y2 (UInt8.toNat 8) 0 = l8 from TEL.out.1.symm.trans HL8.out] at h4
          have H4 : Aside _ := h4
          clear h4 HL8
          go_wp2_with fail
          refine Calls.mono (f := 29) H4.out ?_
          rintro e z4 ⟨S4, rfl, T4a⟩
          have T4 : Aside (Two Rep w z4 S3 f p c1 u1 x2 S4 g p' c2 u2 y2) := T4a.swap
          clear T4a H4 T3
          have h5 := two_tell E T4.out okx2 stl.1 (by omega) (k := 7) (by decide) [7, 0] rfl (by decide)
          obtain ⟨l7, hl7⟩ : ∃ z, Ex.tellsX x2 (UInt8.toNat 7) 0 = z := ⟨_, rfl⟩
          rw [hl7] at h5
          have HL7 : Aside (Ex.tellsX x2 (UInt8.toNat 7) 0 = l7) := hl7
          have H5 : Aside _ := h5
          clear h5 hl7
          go_wp2_with fail
          refine Calls.mono (f := 29) H5.out ?_
          rintro e z5 ⟨S5, rfl, T5a⟩
          have T5 : Aside (Two Rep w z5 S5 f p c1 u1 x2 S4 g p' c2 u2 y2) := T5a
          clear T5a H5
          have h6 := two_tell E T5.out.swap oky2 stl.2 (by omega) (k := 7) (by decide) [7, 0] rfl (by decide)
          rw [show Ex.tellsX y2 (UInt8.toNat 7) 0 = l7 from TEL.out.2.1.symm.trans HL7.out] at h6
          have H6 : Aside _ := h6
          clear h6 HL7
          go_wp2_with fail
          refine Calls.mono (f := 29) H6.out ?_
          rintro e z6 ⟨S6, rfl, T6a⟩
          have T6 : Aside (Two Rep w z6 S5 f p c1 u1 x2 S6 g p' c2 u2 y2) := T6a.swap
          clear T6a H6 T5
          have h7 := two_tell E T6.out okx2 stl.1 (by omega) (k := 9) (by decide) [9, 0] rfl (by decide)
          obtain ⟨l9, hl9⟩ : ∃ z, Ex.tellsX x2 (UInt8.toNat 9) 0 = z := ⟨_, rfl⟩
          rw [hl9] at h7
          have HL9 : Aside (Ex.tellsX x2 (UInt8.toNat 9) 0 = l9) := hl9
          have H7 : Aside _ := h7
          clear h7 hl9
          go_wp2_with fail
          refine Calls.mono (f := 29) H7.out ?_
          rintro e z7 ⟨S7, rfl, T7a⟩
          have T7 : Aside (Two Rep w z7 S7 f p c1 u1 x2 S6 g p' c2 u2 y2) := T7a
          clear T7a H7
          have h8 := two_tell E T7.out.swap oky2 stl.2 (by omega) (k := 9) (by decide) [9, 0] rfl (by decide)
          rw [show Ex.tellsX y2 (UInt8.toNat 9) 0 = l9 from TEL.out.2.2.1.symm.trans HL9.out] at h8
          have H8 : Aside _ := h8
          clear h8 HL9
          go_wp2_with fail
          refine Calls.mono (f := 29) H8.out ?_
          rintro e z8 ⟨S8, rfl, T8a⟩
          have T8 : Aside (Two Rep w z8 S7 f p c1 u1 x2 S8 g p' c2 u2 y2) := T8a.swap
          clear T8a H8 T7
          have h9 := two_tell E T8.out okx2 stl.1 (by omega) (k := 10) (by decide) [10] rfl (by decide)
          obtain ⟨l10, hl10⟩ : ∃ z, Ex.tellsX x2 (UInt8.toNat 10) 0 = z := ⟨_, rfl⟩
          rw [hl10] at h9
          have HL10 : Aside (Ex.tellsX x2 (UInt8.toNat 10) 0 = l10) := hl10
          have H9 : Aside _ := h9
          clear h9 hl10
          go_wp2_with fail
          refine Calls.mono (f := 29) H9.out ?_
          rintro e z9 ⟨S9, rfl, T9a⟩
          have T9 : Aside (Two Rep w z9 S9 f p c1 u1 x2 S8 g p' c2 u2 y2) := T9a
          clear T9a H9
          have h10 := two_tell E T9.out.swap oky2 stl.2 (by omega) (k := 10) (by decide) [10] rfl (by decide)
          rw [show Ex.tellsX y2 (UInt8.toNat 10) 0 = l10 from TEL.out.2.2.2.symm.trans HL10.out] at h10
          have H10 : Aside _ := h10
          clear h10 HL10
          go_wp2_with fail
          refine Calls.mono (f := 29) H10.out ?_
          rintro e z10 ⟨S10, rfl, T10a⟩
          have T10 : Aside (Two Rep w z10 S9 f p c1 u1 x2 S10 g p' c2 u2 y2) := T10a.swap
          clear T10a H10 T9
          go_wp2
          go_roundg (l.length - (i + 1))
          case measure => omega
          case rel => exact ⟨i + 1, S9, c1, u1, x2, S10, c2, u2, y2, by go_num, by omega, Nat.le_refl _, T10, AL2, by omega, by omega, by omega, by omega, by omega, by omega⟩
        · have dt : (0 : Int) < (t : Int) := by omega
          have HN2' : I64 (N.tdiv 2) := half_bd i3
          obtain ⟨a2v, ha2⟩ : ∃ z, pickN N 2 = z := ⟨_, rfl⟩
          obtain ⟨a9, ha9⟩ : ∃ z, pickN (N.tdiv 2) 999 = z := ⟨_, rfl⟩
          have l2 := pickN_lt N 2 (by decide)
          have l9 := pickN_lt (N.tdiv 2) 999 (by decide)
          rw [ha2] at l2
          rw [ha9] at l9
          have HP2 : Aside (∀ W, Calls Try.prog 23 #[.int .i64 N, .int .i64 2] W fun e w' => e = .returned (.int .i64 (a2v : Nat)) ∧ w' = W) := fun W => by
            have := HP.out N 2 W (by decide) (by decide) i3
            rw [ha2] at this
            exact this
          have HP9 : Aside (∀ W, Calls Try.prog 23 #[.int .i64 (N.tdiv 2), .int .i64 999] W fun e w' => e = .returned (.int .i64 (a9 : Nat)) ∧ w' = W) := fun W => by
            have := HP.out (N.tdiv 2) 999 W (by decide) (by decide) HN2'
            rw [ha9] at this
            exact this
          have hwr0 : IntKind.i64.wrap (N.tdiv 2) = N.tdiv 2 := wrap_i64_tdiv N 2 i3.1 i3.2 (by decide)
          have hwr1 : IntKind.i64.wrap (1 + (a9 : Int)) = 1 + (a9 : Int) := wrap_pos (by omega) (by omega)
          have hwr2 : IntKind.i64.wrap (2 * (1 + (a9 : Int))) = 2 * (1 + (a9 : Int)) := wrap_pos (by omega) (by omega)
          have hwr3 : IntKind.i64.wrap ((a2v : Int) + 2 * (1 + (a9 : Int))) = (a2v : Int) + 2 * (1 + (a9 : Int)) := wrap_pos (by omega) (by omega)
          clear ha2 ha9
          obtain ⟨N1, hN1e⟩ : ∃ z : Int, z = (a2v : Int) + 2 * (1 + (a9 : Int)) := ⟨_, rfl⟩
          have pk : ∀ b : Int, 1 ≤ b → b ≤ 999 → pickN ((a2v : Int) + 2 * b) 2 = a2v ∧ ((pickN (((a2v : Int) + 2 * b).tdiv 2) 1002 : Nat) : Int) = b := fun b b1 b2 => by
            constructor
            · unfold pickN
              rw [if_neg (by omega)]
              omega
            · unfold pickN
              rw [Int.tdiv_eq_ediv_of_nonneg (by omega), if_neg (by omega)]
              omega
          have HN1E : Aside (N1 = (a2v : Int) + 2 * (1 + (a9 : Int))) := hN1e
          have iN1 : I64 N1 := by constructor <;> omega
          have HPN1 : Aside (∀ W, Calls Try.prog 23 #[.int .i64 N1, .int .i64 2] W fun e w' => e = .returned (.int .i64 (a2v : Nat)) ∧ w' = W) := fun W => by
            have := HP.out N1 2 W (by decide) (by decide) iN1
            rw [HN1E.out, (pk (1 + a9) (by omega) (by omega)).1, ← HN1E.out] at this
            exact this
          have PK : Aside _ := pk
          clear pk hN1e
          by_cases ho : 0 < ol.length
          · have doz : (0 : Int) < (ol.length : Int) := by omega
            have dzz : ((ol.length : Int) == 0) = false := beq_eq_false_iff_ne.2 (by omega)
            have dz0 : ¬ (ol.length : Int) = 0 := by omega
            obtain ⟨jj, hjj⟩ : ∃ z, i % ol.length = z := ⟨_, rfl⟩
            have hjl : jj < ol.length := by rw [← hjj]; exact Nat.mod_lt _ ho
            have hjlz : (jj : Int) < (ol.length : Int) := by omega
            have htm : (i : Int).tmod (ol.length : Int) = (jj : Int) := by rw [← hjj, Int.tmod_eq_emod_of_nonneg (by omega)]; omega
            obtain ⟨ob, oo, rfl, hob, hoc⟩ := (HO.out.up (TT.out.below.trans (BV.mono TT.out.below.size))) jj hjl
            have iov := hwo jj hjl
            generalize ol.getD jj 0 = ov at *
            obtain ⟨b9, hb9⟩ : ∃ z, pickN ov 999 = z := ⟨_, rfl⟩
            have lb9 := pickN_lt ov 999 (by decide)
            rw [hb9] at lb9
            have HPB : Aside (∀ W, Calls Try.prog 23 #[.int .i64 ov, .int .i64 999] W fun e w' => e = .returned (.int .i64 (b9 : Nat)) ∧ w' = W) := fun W => by
              have := HP.out ov 999 W (by decide) (by decide) iov
              rw [hb9] at this
              exact this
            clear hjj hb9
            obtain ⟨N2, hN2e⟩ : ∃ z : Int, z = (a2v : Int) + 2 * (1 + (b9 : Int)) := ⟨_, rfl⟩
            have HN2E : Aside (N2 = (a2v : Int) + 2 * (1 + (b9 : Int))) := hN2e
            have hN1 : I64 N1 := iN1
            have hN2 : I64 N2 := by constructor <;> omega
            have hwr4 : IntKind.i64.wrap ((a2v : Int) + 2 * (1 + (b9 : Int))) = (a2v : Int) + 2 * (1 + (b9 : Int)) := wrap_pos (by omega) (by omega)
            clear hN2e
            obtain ⟨V, hV⟩ : ∃ V, V = ((W2.setCell ⟨U0.heap.size, 2, none⟩ (.int .i64 N1)).setCell ⟨U0.heap.size + 1, 2, none⟩ (.int .i64 N2)).drew := ⟨_, rfl⟩
            have HV : Aside (V = ((W2.setCell ⟨U0.heap.size, 2, none⟩ (.int .i64 N1)).setCell ⟨U0.heap.size + 1, 2, none⟩ (.int .i64 N2)).drew) := hV
            clear hV
            have oth : ∀ j, j ≠ 2 → V.cell? ⟨U0.heap.size + 1, j, none⟩ = W2.cell? ⟨U0.heap.size + 1, j, none⟩ := fun j hj => by
              rw [HV.out]
              show ((W2.setCell ⟨U0.heap.size, 2, none⟩ (.int .i64 N1)).setCell ⟨U0.heap.size + 1, 2, none⟩ (.int .i64 N2)).cell? _ = _
              rw [World.cell?_setCell_other _ _ _ _ (by intro e; injection e with e1 e2; omega), World.cell?_setCell_other _ _ _ _ (by intro e; injection e with e1 e2; omega)]
            have v0 := (oth 0 (by decide)).trans hP0
            have v1 := (oth 1 (by decide)).trans hP1
            have v2 : V.cell? ⟨U0.heap.size + 1, 2, none⟩ = some (.int .i64 N2) := by
              rw [HV.out]
              show ((W2.setCell ⟨U0.heap.size, 2, none⟩ (.int .i64 N1)).setCell ⟨U0.heap.size + 1, 2, none⟩ (.int .i64 N2)).cell? _ = _
              exact World.cell?_setCell_same _ _ _ ((World.cell?_setCell_other _ _ _ _ (by intro e; injection e with e1 e2; omega)).trans hP2)
            have VP : Aside (V.cell? ⟨U0.heap.size + 1, 0, none⟩ = some (.int .i64 K) ∧ V.cell? ⟨U0.heap.size + 1, 1, none⟩ = some (.int .i64 Wh) ∧ V.cell? ⟨U0.heap.size + 1, 2, none⟩ = some (.int .i64 N2) ∧ Below U0.heap.size U0 V ∧ U0.heap.size + 1 < V.heap.size) := ⟨v0, v1, v2, by
              rw [HV.out]
              exact ((BV.setCell (p := ⟨U0.heap.size, 2, none⟩) (Nat.le_refl _) _).setCell (p := ⟨U0.heap.size + 1, 2, none⟩) (by show U0.heap.size ≤ U0.heap.size + 1; omega) _).drew, by
              rw [HV.out]
              show U0.heap.size + 1 < ((W2.setCell _ _).setCell _ _).heap.size
              simp [World.setCell]; omega⟩
            have hsm0 : SameMove K Wh N1 N2 := ⟨by rw [HK.out.1]; omega, Or.inr ⟨by rw [HK.out.2]; omega, by rw [HK.out.1]; omega, by rw [HK.out.1]; omega, by
              rw [HN1E.out, HN2E.out, (PK.out (1 + a9) (by omega) (by omega)).1, (PK.out (1 + b9) (by omega) (by omega)).1], by
              have := (PK.out (1 + a9) (by omega) (by omega)).2
              rw [← HN1E.out] at this
              omega, by
              have := (PK.out (1 + b9) (by omega) (by omega)).2
              rw [← HN2E.out] at this
              omega⟩⟩
            have HSM : Aside (SameMove K Wh N1 N2) := hsm0
            clear oth v0 v1 v2 hsm0
            go_wp2_with fail
            refine Calls.mono (f := 23) (HPB.out _) ?_
            rintro e z0 ⟨rfl, hz0⟩
            rw [hz0]
            clear hz0 z0
            go_wp2_with fail
            go_region_with (first | (go_at_call_of 23 (Value.int IntKind.i64 2); refine Calls.mono (f := 23) (HP2.out _) ?_; rintro e w' ⟨rfl, rfl⟩) | (go_at_call_of 23 (Value.int IntKind.i64 999); refine Calls.mono (f := 23) (HP9.out _) ?_; rintro e w' ⟨rfl, rfl⟩))
            all_goals
              rw [← HN1E.out]
              go_wp2_with fail
              refine Calls.mono (f := 23) (HPN1.out _) ?_
              rintro e z0 ⟨rfl, hz0⟩
              rw [hz0]
              clear hz0 z0
              obtain ⟨wP0, wP1, wP2, BV, hPV⟩ := VP.out
              have hP0 := wP0
              have hP1 := wP1
              have hP2 := wP2
              clear wP0 wP1 wP2
              have hsm := HSM.out
              have KO : Aside (SameMove K Wh N1 N2) := hsm
              clear hsm
              have TV : Aside (Two Rep w V S f p c u x S' g p' c' u' y) := TT.out.up E BV
              have alk := AL.out
              have okx := alk.okx
              have oky := alk.oky
              obtain ⟨er, al2⟩ := alike_do alk KO.out
              have okx2 := al2.okx
              have oky2 := al2.oky
              have stl := al2.still
              have jx2 := Ex.do_jr x 0 (reqOf K Wh N1)
              have jy2 := Ex.do_jr y 0 (reqOf K Wh N2)
              have rl1 := req_len K Wh N1
              have rl2 := req_len K Wh N2
              unfold mvReq at rl1 rl2
              rw [if_neg KO.out.1] at rl1 rl2
              have tel := Ex.alike_tells al2
              have mv1 := two_moves E TV.out okx (by omega) (by omega) (by omega) K Wh N1 i1 i2 hN1 KO.out.1
              obtain ⟨x2, hx2⟩ : ∃ z, (Ex.doX x 0 (reqOf K Wh N1)).1 = z := ⟨_, rfl⟩
              obtain ⟨y2, hy2⟩ : ∃ z, (Ex.doX y 0 (reqOf K Wh N2)).1 = z := ⟨_, rfl⟩
              obtain ⟨sr, hsr⟩ : ∃ z, (Ex.doX x 0 (reqOf K Wh N1)).2 = z := ⟨_, rfl⟩
              rw [hx2, hsr] at mv1
              rw [hx2, hy2] at al2 stl tel
              rw [hx2] at okx2 jx2
              rw [hy2] at oky2 jy2
              have MV1 : Aside _ := mv1
              have AL2 : Aside (Ex.Alike x2 y2) := al2
              have ESR : Aside ((Ex.doX y 0 (reqOf K Wh N2)).2 = sr ∧ (Ex.doX y 0 (reqOf K Wh N2)).1 = y2) := ⟨by rw [← er, hsr], hy2⟩
              have TEL : Aside (Ex.tellsX x2 8 0 = Ex.tellsX y2 8 0 ∧ Ex.tellsX x2 7 0 = Ex.tellsX y2 7 0 ∧ Ex.tellsX x2 9 0 = Ex.tellsX y2 9 0 ∧ Ex.tellsX x2 10 0 = Ex.tellsX y2 10 0) := tel
              clear mv1 al2 hx2 hy2 hsr er tel alk
              go_wp2_with fail
              rw [← HN2E.out, ← HV.out]
              refine Calls.mono (f := 27) MV1.out ?_
              rintro e z1 ⟨S1, c1, u1, rfl, T1, bc1, bu1, kb1⟩
              have hbS : ∀ j, U0.heap.size ≤ j → ¬ S j ∧ j ≠ f := fun j hj => ⟨fun hs => by
                have := E.low TT.out.a.rep j hs
                omega, fun e => by
                have := TT.out.a.fl.lt
                omega⟩
              have kp : z1.heap[U0.heap.size + 1]? = V.heap[U0.heap.size + 1]? := kb1 _ hPV (hbS _ (by omega)).1 (hbS _ (by omega)).2
              have e0 := (World.cell?_of_block (a := ⟨U0.heap.size + 1, 0, none⟩) kp).trans hP0
              have e1 := (World.cell?_of_block (a := ⟨U0.heap.size + 1, 1, none⟩) kp).trans hP1
              have e2 := (World.cell?_of_block (a := ⟨U0.heap.size + 1, 2, none⟩) kp).trans hP2
              have mv2 := two_moves E T1.swap oky (by omega) (by omega) (by omega) K Wh N2 i1 i2 hN2 KO.out.1
              rw [ESR.out.1, ESR.out.2] at mv2
              have MV2 : Aside _ := mv2
              clear MV1 T1 kb1 hbS kp mv2 hP0 hP1 hP2
              go_wp2_with fail
              refine Calls.mono (f := 27) MV2.out ?_
              rintro e z2 ⟨S2, c2, u2, rfl, T2, bc2, bu2, -⟩
              have T2' : Aside (Two Rep w z2 S1 f p c1 u1 x2 S2 g p' c2 u2 y2) := T2.swap
              clear MV2 T2 e0 e1 e2
              have h3 := two_tell E T2'.out okx2 stl.1 (by omega) (k := 8) (by decide) [8] rfl (by decide)
              obtain ⟨l8, hl8⟩ : ∃ z, Ex.tellsX x2 (UInt8.toNat 8) 0 = z := ⟨_, rfl⟩
              rw [hl8] at h3
              have HL8 : Aside (Ex.tellsX x2 (UInt8.toNat 8) 0 = l8) := hl8
              have H3 : Aside _ := h3
              clear h3 hl8
              go_wp2_with fail
              refine Calls.mono (f := 29) H3.out ?_
              rintro e z3 ⟨S3, rfl, T3a⟩
              have T3 : Aside (Two Rep w z3 S3 f p c1 u1 x2 S2 g p' c2 u2 y2) := T3a
              clear T3a H3
              have h4 := two_tell E T3.out.swap oky2 stl.2 (by omega) (k := 8) (by decide) [8] rfl (by decide)
              rw [show Ex.tellsX y2 (UInt8.toNat 8) 0 = l8 from TEL.out.1.symm.trans HL8.out] at h4
              have H4 : Aside _ := h4
              clear h4 HL8
              go_wp2_with fail
              refine Calls.mono (f := 29) H4.out ?_
              rintro e z4 ⟨S4, rfl, T4a⟩
              have T4 : Aside (Two Rep w z4 S3 f p c1 u1 x2 S4 g p' c2 u2 y2) := T4a.swap
              clear T4a H4 T3
              have h5 := two_tell E T4.out okx2 stl.1 (by omega) (k := 7) (by decide) [7, 0] rfl (by decide)
              obtain ⟨l7, hl7⟩ : ∃ z, Ex.tellsX x2 (UInt8.toNat 7) 0 = z := ⟨_, rfl⟩
              rw [hl7] at h5
              have HL7 : Aside (Ex.tellsX x2 (UInt8.toNat 7) 0 = l7) := hl7
              have H5 : Aside _ := h5
              clear h5 hl7
              go_wp2_with fail
              refine Calls.mono (f := 29) H5.out ?_
              rintro e z5 ⟨S5, rfl, T5a⟩
              have T5 : Aside (Two Rep w z5 S5 f p c1 u1 x2 S4 g p' c2 u2 y2) := T5a
              clear T5a H5
              have h6 := two_tell E T5.out.swap oky2 stl.2 (by omega) (k := 7) (by decide) [7, 0] rfl (by decide)
              rw [show Ex.tellsX y2 (UInt8.toNat 7) 0 = l7 from TEL.out.2.1.symm.trans HL7.out] at h6
              have H6 : Aside _ := h6
              clear h6 HL7
              go_wp2_with fail
              refine Calls.mono (f := 29) H6.out ?_
              rintro e z6 ⟨S6, rfl, T6a⟩
              have T6 : Aside (Two Rep w z6 S5 f p c1 u1 x2 S6 g p' c2 u2 y2) := T6a.swap
              clear T6a H6 T5
              have h7 := two_tell E T6.out okx2 stl.1 (by omega) (k := 9) (by decide) [9, 0] rfl (by decide)
              obtain ⟨l9, hl9⟩ : ∃ z, Ex.tellsX x2 (UInt8.toNat 9) 0 = z := ⟨_, rfl⟩
              rw [hl9] at h7
              have HL9 : Aside (Ex.tellsX x2 (UInt8.toNat 9) 0 = l9) := hl9
              have H7 : Aside _ := h7
              clear h7 hl9
              go_wp2_with fail
              refine Calls.mono (f := 29) H7.out ?_
              rintro e z7 ⟨S7, rfl, T7a⟩
              have T7 : Aside (Two Rep w z7 S7 f p c1 u1 x2 S6 g p' c2 u2 y2) := T7a
              clear T7a H7
              have h8 := two_tell E T7.out.swap oky2 stl.2 (by omega) (k := 9) (by decide) [9, 0] rfl (by decide)
              rw [show Ex.tellsX y2 (UInt8.toNat 9) 0 = l9 from TEL.out.2.2.1.symm.trans HL9.out] at h8
              have H8 : Aside _ := h8
              clear h8 HL9
              go_wp2_with fail
              refine Calls.mono (f := 29) H8.out ?_
              rintro e z8 ⟨S8, rfl, T8a⟩
              have T8 : Aside (Two Rep w z8 S7 f p c1 u1 x2 S8 g p' c2 u2 y2) := T8a.swap
              clear T8a H8 T7
              have h9 := two_tell E T8.out okx2 stl.1 (by omega) (k := 10) (by decide) [10] rfl (by decide)
              obtain ⟨l10, hl10⟩ : ∃ z, Ex.tellsX x2 (UInt8.toNat 10) 0 = z := ⟨_, rfl⟩
              rw [hl10] at h9
              have HL10 : Aside (Ex.tellsX x2 (UInt8.toNat 10) 0 = l10) := hl10
              have H9 : Aside _ := h9
              clear h9 hl10
              go_wp2_with fail
              refine Calls.mono (f := 29) H9.out ?_
              rintro e z9 ⟨S9, rfl, T9a⟩
              have T9 : Aside (Two Rep w z9 S9 f p c1 u1 x2 S8 g p' c2 u2 y2) := T9a
              clear T9a H9
              have h10 := two_tell E T9.out.swap oky2 stl.2 (by omega) (k := 10) (by decide) [10] rfl (by decide)
              rw [show Ex.tellsX y2 (UInt8.toNat 10) 0 = l10 from TEL.out.2.2.2.symm.trans HL10.out] at h10
              have H10 : Aside _ := h10
              clear h10 HL10
              go_wp2_with fail
              refine Calls.mono (f := 29) H10.out ?_
              rintro e z10 ⟨S10, rfl, T10a⟩
              have T10 : Aside (Two Rep w z10 S9 f p c1 u1 x2 S10 g p' c2 u2 y2) := T10a.swap
              clear T10a H10 T9
              go_wp2
              go_roundg (l.length - (i + 1))
              case measure => omega
              case rel => exact ⟨i + 1, S9, c1, u1, x2, S10, c2, u2, y2, by go_num, by omega, Nat.le_refl _, T10, AL2, by omega, by omega, by omega, by omega, by omega, by omega⟩
          · have doz : ¬ (0 : Int) < (ol.length : Int) := by omega
            obtain ⟨N2, hN2e⟩ : ∃ z : Int, z = (a2v : Int) + 1000 := ⟨_, rfl⟩
            have HN2E : Aside (N2 = (a2v : Int) + 1000) := hN2e
            have hN1 : I64 N1 := iN1
            have hN2 : I64 N2 := by constructor <;> omega
            have hwr4 : IntKind.i64.wrap ((a2v : Int) + 1000) = (a2v : Int) + 1000 := wrap_pos (by omega) (by omega)
            clear hN2e
            obtain ⟨V, hV⟩ : ∃ V, V = ((W2.setCell ⟨U0.heap.size, 2, none⟩ (.int .i64 N1)).setCell ⟨U0.heap.size + 1, 2, none⟩ (.int .i64 N2)).drew := ⟨_, rfl⟩
            have HV : Aside (V = ((W2.setCell ⟨U0.heap.size, 2, none⟩ (.int .i64 N1)).setCell ⟨U0.heap.size + 1, 2, none⟩ (.int .i64 N2)).drew) := hV
            clear hV
            have oth : ∀ j, j ≠ 2 → V.cell? ⟨U0.heap.size + 1, j, none⟩ = W2.cell? ⟨U0.heap.size + 1, j, none⟩ := fun j hj => by
              rw [HV.out]
              show ((W2.setCell ⟨U0.heap.size, 2, none⟩ (.int .i64 N1)).setCell ⟨U0.heap.size + 1, 2, none⟩ (.int .i64 N2)).cell? _ = _
              rw [World.cell?_setCell_other _ _ _ _ (by intro e; injection e with e1 e2; omega), World.cell?_setCell_other _ _ _ _ (by intro e; injection e with e1 e2; omega)]
            have v0 := (oth 0 (by decide)).trans hP0
            have v1 := (oth 1 (by decide)).trans hP1
            have v2 : V.cell? ⟨U0.heap.size + 1, 2, none⟩ = some (.int .i64 N2) := by
              rw [HV.out]
              show ((W2.setCell ⟨U0.heap.size, 2, none⟩ (.int .i64 N1)).setCell ⟨U0.heap.size + 1, 2, none⟩ (.int .i64 N2)).cell? _ = _
              exact World.cell?_setCell_same _ _ _ ((World.cell?_setCell_other _ _ _ _ (by intro e; injection e with e1 e2; omega)).trans hP2)
            have VP : Aside (V.cell? ⟨U0.heap.size + 1, 0, none⟩ = some (.int .i64 K) ∧ V.cell? ⟨U0.heap.size + 1, 1, none⟩ = some (.int .i64 Wh) ∧ V.cell? ⟨U0.heap.size + 1, 2, none⟩ = some (.int .i64 N2) ∧ Below U0.heap.size U0 V ∧ U0.heap.size + 1 < V.heap.size) := ⟨v0, v1, v2, by
              rw [HV.out]
              exact ((BV.setCell (p := ⟨U0.heap.size, 2, none⟩) (Nat.le_refl _) _).setCell (p := ⟨U0.heap.size + 1, 2, none⟩) (by show U0.heap.size ≤ U0.heap.size + 1; omega) _).drew, by
              rw [HV.out]
              show U0.heap.size + 1 < ((W2.setCell _ _).setCell _ _).heap.size
              simp [World.setCell]; omega⟩
            have hsm0 : SameMove K Wh N1 N2 := ⟨by rw [HK.out.1]; omega, Or.inr ⟨by rw [HK.out.2]; omega, by rw [HK.out.1]; omega, by rw [HK.out.1]; omega, by
              rw [HN1E.out, HN2E.out, (PK.out (1 + a9) (by omega) (by omega)).1, (show pickN ((a2v : Int) + 1000) 2 = a2v ∧ ((pickN (((a2v : Int) + 1000).tdiv 2) 1002 : Nat) : Int) = 500 from by have := PK.out 500 (by decide) (by decide); simpa using this).1], by
              have := (PK.out (1 + a9) (by omega) (by omega)).2
              rw [← HN1E.out] at this
              omega, by
              have := (show pickN ((a2v : Int) + 1000) 2 = a2v ∧ ((pickN (((a2v : Int) + 1000).tdiv 2) 1002 : Nat) : Int) = 500 from by have := PK.out 500 (by decide) (by decide); simpa using this).2
              rw [← HN2E.out] at this
              omega⟩⟩
            have HSM : Aside (SameMove K Wh N1 N2) := hsm0
            clear oth v0 v1 v2 hsm0
            go_wp2_with fail
            go_region_with (first | (go_at_call_of 23 (Value.int IntKind.i64 2); refine Calls.mono (f := 23) (HP2.out _) ?_; rintro e w' ⟨rfl, rfl⟩) | (go_at_call_of 23 (Value.int IntKind.i64 999); refine Calls.mono (f := 23) (HP9.out _) ?_; rintro e w' ⟨rfl, rfl⟩))
            all_goals
              rw [← HN1E.out]
              go_wp2_with fail
              refine Calls.mono (f := 23) (HPN1.out _) ?_
              rintro e z0 ⟨rfl, hz0⟩
              rw [hz0]
              clear hz0 z0
              obtain ⟨wP0, wP1, wP2, BV, hPV⟩ := VP.out
              have hP0 := wP0
              have hP1 := wP1
              have hP2 := wP2
              clear wP0 wP1 wP2
              have hsm := HSM.out
              have KO : Aside (SameMove K Wh N1 N2) := hsm
              clear hsm
              have TV : Aside (Two Rep w V S f p c u x S' g p' c' u' y) := TT.out.up E BV
              have alk := AL.out
              have okx := alk.okx
              have oky := alk.oky
              obtain ⟨er, al2⟩ := alike_do alk KO.out
              have okx2 := al2.okx
              have oky2 := al2.oky
              have stl := al2.still
              have jx2 := Ex.do_jr x 0 (reqOf K Wh N1)
              have jy2 := Ex.do_jr y 0 (reqOf K Wh N2)
              have rl1 := req_len K Wh N1
              have rl2 := req_len K Wh N2
              unfold mvReq at rl1 rl2
              rw [if_neg KO.out.1] at rl1 rl2
              have tel := Ex.alike_tells al2
              have mv1 := two_moves E TV.out okx (by omega) (by omega) (by omega) K Wh N1 i1 i2 hN1 KO.out.1
              obtain ⟨x2, hx2⟩ : ∃ z, (Ex.doX x 0 (reqOf K Wh N1)).1 = z := ⟨_, rfl⟩
              obtain ⟨y2, hy2⟩ : ∃ z, (Ex.doX y 0 (reqOf K Wh N2)).1 = z := ⟨_, rfl⟩
              obtain ⟨sr, hsr⟩ : ∃ z, (Ex.doX x 0 (reqOf K Wh N1)).2 = z := ⟨_, rfl⟩
              rw [hx2, hsr] at mv1
              rw [hx2, hy2] at al2 stl tel
              rw [hx2] at okx2 jx2
              rw [hy2] at oky2 jy2
              have MV1 : Aside _ := mv1
              have AL2 : Aside (Ex.Alike x2 y2) := al2
              have ESR : Aside ((Ex.doX y 0 (reqOf K Wh N2)).2 = sr ∧ (Ex.doX y 0 (reqOf K Wh N2)).1 = y2) := ⟨by rw [← er, hsr], hy2⟩
              have TEL : Aside (Ex.tellsX x2 8 0 = Ex.tellsX y2 8 0 ∧ Ex.tellsX x2 7 0 = Ex.tellsX y2 7 0 ∧ Ex.tellsX x2 9 0 = Ex.tellsX y2 9 0 ∧ Ex.tellsX x2 10 0 = Ex.tellsX y2 10 0) := tel
              clear mv1 al2 hx2 hy2 hsr er tel alk
              go_wp2_with fail
              rw [← HN2E.out, ← HV.out]
              refine Calls.mono (f := 27) MV1.out ?_
              rintro e z1 ⟨S1, c1, u1, rfl, T1, bc1, bu1, kb1⟩
              have hbS : ∀ j, U0.heap.size ≤ j → ¬ S j ∧ j ≠ f := fun j hj => ⟨fun hs => by
                have := E.low TT.out.a.rep j hs
                omega, fun e => by
                have := TT.out.a.fl.lt
                omega⟩
              have kp : z1.heap[U0.heap.size + 1]? = V.heap[U0.heap.size + 1]? := kb1 _ hPV (hbS _ (by omega)).1 (hbS _ (by omega)).2
              have e0 := (World.cell?_of_block (a := ⟨U0.heap.size + 1, 0, none⟩) kp).trans hP0
              have e1 := (World.cell?_of_block (a := ⟨U0.heap.size + 1, 1, none⟩) kp).trans hP1
              have e2 := (World.cell?_of_block (a := ⟨U0.heap.size + 1, 2, none⟩) kp).trans hP2
              have mv2 := two_moves E T1.swap oky (by omega) (by omega) (by omega) K Wh N2 i1 i2 hN2 KO.out.1
              rw [ESR.out.1, ESR.out.2] at mv2
              have MV2 : Aside _ := mv2
              clear MV1 T1 kb1 hbS kp mv2 hP0 hP1 hP2
              go_wp2_with fail
              refine Calls.mono (f := 27) MV2.out ?_
              rintro e z2 ⟨S2, c2, u2, rfl, T2, bc2, bu2, -⟩
              have T2' : Aside (Two Rep w z2 S1 f p c1 u1 x2 S2 g p' c2 u2 y2) := T2.swap
              clear MV2 T2 e0 e1 e2
              have h3 := two_tell E T2'.out okx2 stl.1 (by omega) (k := 8) (by decide) [8] rfl (by decide)
              obtain ⟨l8, hl8⟩ : ∃ z, Ex.tellsX x2 (UInt8.toNat 8) 0 = z := ⟨_, rfl⟩
              rw [hl8] at h3
              have HL8 : Aside (Ex.tellsX x2 (UInt8.toNat 8) 0 = l8) := hl8
              have H3 : Aside _ := h3
              clear h3 hl8
              go_wp2_with fail
              refine Calls.mono (f := 29) H3.out ?_
              rintro e z3 ⟨S3, rfl, T3a⟩
              have T3 : Aside (Two Rep w z3 S3 f p c1 u1 x2 S2 g p' c2 u2 y2) := T3a
              clear T3a H3
              have h4 := two_tell E T3.out.swap oky2 stl.2 (by omega) (k := 8) (by decide) [8] rfl (by decide)
              rw [show Ex.tellsX y2 (UInt8.toNat 8) 0 = l8 from TEL.out.1.symm.trans HL8.out] at h4
              have H4 : Aside _ := h4
              clear h4 HL8
              go_wp2_with fail
              refine Calls.mono (f := 29) H4.out ?_
              rintro e z4 ⟨S4, rfl, T4a⟩
              have T4 : Aside (Two Rep w z4 S3 f p c1 u1 x2 S4 g p' c2 u2 y2) := T4a.swap
              clear T4a H4 T3
              have h5 := two_tell E T4.out okx2 stl.1 (by omega) (k := 7) (by decide) [7, 0] rfl (by decide)
              obtain ⟨l7, hl7⟩ : ∃ z, Ex.tellsX x2 (UInt8.toNat 7) 0 = z := ⟨_, rfl⟩
              rw [hl7] at h5
              have HL7 : Aside (Ex.tellsX x2 (UInt8.toNat 7) 0 = l7) := hl7
              have H5 : Aside _ := h5
              clear h5 hl7
              go_wp2_with fail
              refine Calls.mono (f := 29) H5.out ?_
              rintro e z5 ⟨S5, rfl, T5a⟩
              have T5 : Aside (Two Rep w z5 S5 f p c1 u1 x2 S4 g p' c2 u2 y2) := T5a
              clear T5a H5
              have h6 := two_tell E T5.out.swap oky2 stl.2 (by omega) (k := 7) (by decide) [7, 0] rfl (by decide)
              rw [show Ex.tellsX y2 (UInt8.toNat 7) 0 = l7 from TEL.out.2.1.symm.trans HL7.out] at h6
              have H6 : Aside _ := h6
              clear h6 HL7
              go_wp2_with fail
              refine Calls.mono (f := 29) H6.out ?_
              rintro e z6 ⟨S6, rfl, T6a⟩
              have T6 : Aside (Two Rep w z6 S5 f p c1 u1 x2 S6 g p' c2 u2 y2) := T6a.swap
              clear T6a H6 T5
              have h7 := two_tell E T6.out okx2 stl.1 (by omega) (k := 9) (by decide) [9, 0] rfl (by decide)
              obtain ⟨l9, hl9⟩ : ∃ z, Ex.tellsX x2 (UInt8.toNat 9) 0 = z := ⟨_, rfl⟩
              rw [hl9] at h7
              have HL9 : Aside (Ex.tellsX x2 (UInt8.toNat 9) 0 = l9) := hl9
              have H7 : Aside _ := h7
              clear h7 hl9
              go_wp2_with fail
              refine Calls.mono (f := 29) H7.out ?_
              rintro e z7 ⟨S7, rfl, T7a⟩
              have T7 : Aside (Two Rep w z7 S7 f p c1 u1 x2 S6 g p' c2 u2 y2) := T7a
              clear T7a H7
              have h8 := two_tell E T7.out.swap oky2 stl.2 (by omega) (k := 9) (by decide) [9, 0] rfl (by decide)
              rw [show Ex.tellsX y2 (UInt8.toNat 9) 0 = l9 from TEL.out.2.2.1.symm.trans HL9.out] at h8
              have H8 : Aside _ := h8
              clear h8 HL9
              go_wp2_with fail
              refine Calls.mono (f := 29) H8.out ?_
              rintro e z8 ⟨S8, rfl, T8a⟩
              have T8 : Aside (Two Rep w z8 S7 f p c1 u1 x2 S8 g p' c2 u2 y2) := T8a.swap
              clear T8a H8 T7
              have h9 := two_tell E T8.out okx2 stl.1 (by omega) (k := 10) (by decide) [10] rfl (by decide)
              obtain ⟨l10, hl10⟩ : ∃ z, Ex.tellsX x2 (UInt8.toNat 10) 0 = z := ⟨_, rfl⟩
              rw [hl10] at h9
              have HL10 : Aside (Ex.tellsX x2 (UInt8.toNat 10) 0 = l10) := hl10
              have H9 : Aside _ := h9
              clear h9 hl10
              go_wp2_with fail
              refine Calls.mono (f := 29) H9.out ?_
              rintro e z9 ⟨S9, rfl, T9a⟩
              have T9 : Aside (Two Rep w z9 S9 f p c1 u1 x2 S8 g p' c2 u2 y2) := T9a
              clear T9a H9
              have h10 := two_tell E T9.out.swap oky2 stl.2 (by omega) (k := 10) (by decide) [10] rfl (by decide)
              rw [show Ex.tellsX y2 (UInt8.toNat 10) 0 = l10 from TEL.out.2.2.2.symm.trans HL10.out] at h10
              have H10 : Aside _ := h10
              clear h10 HL10
              go_wp2_with fail
              refine Calls.mono (f := 29) H10.out ?_
              rintro e z10 ⟨S10, rfl, T10a⟩
              have T10 : Aside (Two Rep w z10 S9 f p c1 u1 x2 S10 g p' c2 u2 y2) := T10a.swap
              clear T10a H10 T9
              go_wp2
              go_roundg (l.length - (i + 1))
              case measure => omega
              case rel => exact ⟨i + 1, S9, c1, u1, x2, S10, c2, u2, y2, by go_num, by omega, Nat.le_refl _, T10, AL2, by omega, by omega, by omega, by omega, by omega, by omega⟩
      have d7 : ¬ (k : Int) < 7 := by omega
      have hsm : SameMove K Wh N N := ⟨by rw [HK.out.1]; omega, Or.inl ⟨rfl, by rw [HK.out.1]; omega⟩⟩
      have KO : Aside (SameMove K Wh N N) := hsm
      clear hsm
      have TV : Aside (Two Rep w W2 S f p c u x S' g p' c' u' y) := TT.out.up E BV
      have alk := AL.out
      have okx := alk.okx
      have oky := alk.oky
      obtain ⟨er, al2⟩ := alike_do alk KO.out
      have okx2 := al2.okx
      have oky2 := al2.oky
      have stl := al2.still
      have jx2 := Ex.do_jr x 0 (reqOf K Wh N)
      have jy2 := Ex.do_jr y 0 (reqOf K Wh N)
      have rl1 := req_len K Wh N
      have rl2 := req_len K Wh N
      unfold mvReq at rl1 rl2
      rw [if_neg KO.out.1] at rl1 rl2
      have tel := Ex.alike_tells al2
      have mv1 := two_moves E TV.out okx (by omega) (by omega) (by omega) K Wh N i1 i2 hN1 KO.out.1
      obtain ⟨x2, hx2⟩ : ∃ z, (Ex.doX x 0 (reqOf K Wh N)).1 = z := ⟨_, rfl⟩
      obtain ⟨y2, hy2⟩ : ∃ z, (Ex.doX y 0 (reqOf K Wh N)).1 = z := ⟨_, rfl⟩
      obtain ⟨sr, hsr⟩ : ∃ z, (Ex.doX x 0 (reqOf K Wh N)).2 = z := ⟨_, rfl⟩
      rw [hx2, hsr] at mv1
      rw [hx2, hy2] at al2 stl tel
      rw [hx2] at okx2 jx2
      rw [hy2] at oky2 jy2
      have MV1 : Aside _ := mv1
      have AL2 : Aside (Ex.Alike x2 y2) := al2
      have ESR : Aside ((Ex.doX y 0 (reqOf K Wh N)).2 = sr ∧ (Ex.doX y 0 (reqOf K Wh N)).1 = y2) := ⟨by rw [← er, hsr], hy2⟩
      have TEL : Aside (Ex.tellsX x2 8 0 = Ex.tellsX y2 8 0 ∧ Ex.tellsX x2 7 0 = Ex.tellsX y2 7 0 ∧ Ex.tellsX x2 9 0 = Ex.tellsX y2 9 0 ∧ Ex.tellsX x2 10 0 = Ex.tellsX y2 10 0) := tel
      clear mv1 al2 hx2 hy2 hsr er tel alk
      go_wp2_with fail
      refine Calls.mono (f := 27) MV1.out ?_
      rintro e z1 ⟨S1, c1, u1, rfl, T1, bc1, bu1, kb1⟩
      have hbS : ∀ j, U0.heap.size ≤ j → ¬ S j ∧ j ≠ f := fun j hj => ⟨fun hs => by
        have := E.low TT.out.a.rep j hs
        omega, fun e => by
        have := TT.out.a.fl.lt
        omega⟩
      have kp : z1.heap[U0.heap.size + 1]? = W2.heap[U0.heap.size + 1]? := kb1 _ hPV (hbS _ (by omega)).1 (hbS _ (by omega)).2
      have e0 := (World.cell?_of_block (a := ⟨U0.heap.size + 1, 0, none⟩) kp).trans hP0
      have e1 := (World.cell?_of_block (a := ⟨U0.heap.size + 1, 1, none⟩) kp).trans hP1
      have e2 := (World.cell?_of_block (a := ⟨U0.heap.size + 1, 2, none⟩) kp).trans hP2
      have mv2 := two_moves E T1.swap oky (by omega) (by omega) (by omega) K Wh N i1 i2 hN2 KO.out.1
      rw [ESR.out.1, ESR.out.2] at mv2
      have MV2 : Aside _ := mv2
      clear MV1 T1 kb1 hbS kp mv2 hP0 hP1 hP2
      go_wp2_with fail
      refine Calls.mono (f := 27) MV2.out ?_
      rintro e z2 ⟨S2, c2, u2, rfl, T2, bc2, bu2, -⟩
      have T2' : Aside (Two Rep w z2 S1 f p c1 u1 x2 S2 g p' c2 u2 y2) := T2.swap
      clear MV2 T2 e0 e1 e2
      have h3 := two_tell E T2'.out okx2 stl.1 (by omega) (k := 8) (by decide) [8] rfl (by decide)
      obtain ⟨l8, hl8⟩ : ∃ z, Ex.tellsX x2 (UInt8.toNat 8) 0 = z := ⟨_, rfl⟩
      rw [hl8] at h3
      have HL8 : Aside (Ex.tellsX x2 (UInt8.toNat 8) 0 = l8) := hl8
      have H3 : Aside _ := h3
      clear h3 hl8
      go_wp2_with fail
      refine Calls.mono (f := 29) H3.out ?_
      rintro e z3 ⟨S3, rfl, T3a⟩
      have T3 : Aside (Two Rep w z3 S3 f p c1 u1 x2 S2 g p' c2 u2 y2) := T3a
      clear T3a H3
      have h4 := two_tell E T3.out.swap oky2 stl.2 (by omega) (k := 8) (by decide) [8] rfl (by decide)
      rw [show Ex.tellsX y2 (UInt8.toNat 8) 0 = l8 from TEL.out.1.symm.trans HL8.out] at h4
      have H4 : Aside _ := h4
      clear h4 HL8
      go_wp2_with fail
      refine Calls.mono (f := 29) H4.out ?_
      rintro e z4 ⟨S4, rfl, T4a⟩
      have T4 : Aside (Two Rep w z4 S3 f p c1 u1 x2 S4 g p' c2 u2 y2) := T4a.swap
      clear T4a H4 T3
      have h5 := two_tell E T4.out okx2 stl.1 (by omega) (k := 7) (by decide) [7, 0] rfl (by decide)
      obtain ⟨l7, hl7⟩ : ∃ z, Ex.tellsX x2 (UInt8.toNat 7) 0 = z := ⟨_, rfl⟩
      rw [hl7] at h5
      have HL7 : Aside (Ex.tellsX x2 (UInt8.toNat 7) 0 = l7) := hl7
      have H5 : Aside _ := h5
      clear h5 hl7
      go_wp2_with fail
      refine Calls.mono (f := 29) H5.out ?_
      rintro e z5 ⟨S5, rfl, T5a⟩
      have T5 : Aside (Two Rep w z5 S5 f p c1 u1 x2 S4 g p' c2 u2 y2) := T5a
      clear T5a H5
      have h6 := two_tell E T5.out.swap oky2 stl.2 (by omega) (k := 7) (by decide) [7, 0] rfl (by decide)
      rw [show Ex.tellsX y2 (UInt8.toNat 7) 0 = l7 from TEL.out.2.1.symm.trans HL7.out] at h6
      have H6 : Aside _ := h6
      clear h6 HL7
      go_wp2_with fail
      refine Calls.mono (f := 29) H6.out ?_
      rintro e z6 ⟨S6, rfl, T6a⟩
      have T6 : Aside (Two Rep w z6 S5 f p c1 u1 x2 S6 g p' c2 u2 y2) := T6a.swap
      clear T6a H6 T5
      have h7 := two_tell E T6.out okx2 stl.1 (by omega) (k := 9) (by decide) [9, 0] rfl (by decide)
      obtain ⟨l9, hl9⟩ : ∃ z, Ex.tellsX x2 (UInt8.toNat 9) 0 = z := ⟨_, rfl⟩
      rw [hl9] at h7
      have HL9 : Aside (Ex.tellsX x2 (UInt8.toNat 9) 0 = l9) := hl9
      have H7 : Aside _ := h7
      clear h7 hl9
      go_wp2_with fail
      refine Calls.mono (f := 29) H7.out ?_
      rintro e z7 ⟨S7, rfl, T7a⟩
      have T7 : Aside (Two Rep w z7 S7 f p c1 u1 x2 S6 g p' c2 u2 y2) := T7a
      clear T7a H7
      have h8 := two_tell E T7.out.swap oky2 stl.2 (by omega) (k := 9) (by decide) [9, 0] rfl (by decide)
      rw [show Ex.tellsX y2 (UInt8.toNat 9) 0 = l9 from TEL.out.2.2.1.symm.trans HL9.out] at h8
      have H8 : Aside _ := h8
      clear h8 HL9
      go_wp2_with fail
      refine Calls.mono (f := 29) H8.out ?_
      rintro e z8 ⟨S8, rfl, T8a⟩
      have T8 : Aside (Two Rep w z8 S7 f p c1 u1 x2 S8 g p' c2 u2 y2) := T8a.swap
      clear T8a H8 T7
      have h9 := two_tell E T8.out okx2 stl.1 (by omega) (k := 10) (by decide) [10] rfl (by decide)
      obtain ⟨l10, hl10⟩ : ∃ z, Ex.tellsX x2 (UInt8.toNat 10) 0 = z := ⟨_, rfl⟩
      rw [hl10] at h9
      have HL10 : Aside (Ex.tellsX x2 (UInt8.toNat 10) 0 = l10) := hl10
      have H9 : Aside _ := h9
      clear h9 hl10
      go_wp2_with fail
      refine Calls.mono (f := 29) H9.out ?_
      rintro e z9 ⟨S9, rfl, T9a⟩
      have T9 : Aside (Two Rep w z9 S9 f p c1 u1 x2 S8 g p' c2 u2 y2) := T9a
      clear T9a H9
      have h10 := two_tell E T9.out.swap oky2 stl.2 (by omega) (k := 10) (by decide) [10] rfl (by decide)
      rw [show Ex.tellsX y2 (UInt8.toNat 10) 0 = l10 from TEL.out.2.2.2.symm.trans HL10.out] at h10
      have H10 : Aside _ := h10
      clear h10 HL10
      go_wp2_with fail
      refine Calls.mono (f := 29) H10.out ?_
      rintro e z10 ⟨S10, rfl, T10a⟩
      have T10 : Aside (Two Rep w z10 S9 f p c1 u1 x2 S10 g p' c2 u2 y2) := T10a.swap
      clear T10a H10 T9
      go_wp2
      go_roundg (l.length - (i + 1))
      case measure => omega
      case rel => exact ⟨i + 1, S9, c1, u1, x2, S10, c2, u2, y2, by go_num, by omega, Nat.le_refl _, T10, AL2, by omega, by omega, by omega, by omega, by omega, by omega⟩
    · have hltz : ¬ (i : Int) < (l.length : Int) := by omega
      go_wp2
      go_ret
      exact ⟨rfl, TT.out.below⟩
#print axioms sealed_any
end Go.Proofs.Ytjfifaooimgbaaa
