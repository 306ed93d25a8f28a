import Derived.Test.YtjfifaooimgbaaaSym
/- The walk of the symmetric merge. -/
namespace Go.Proofs.Ytjfifaooimgbaaa
open Go.Shelf Go.RowKit Go.Lib Go.Sort
variable {P : Program} {k : Nat} {α : Type} [Inhabited α]

set_option maxHeartbeats 4000000 in
set_option maxRecDepth 1000000 in
theorem symMerge_any (L : StLays P k) (enc : α → List Value) (cf : α → α → Int) (tag : α → Int) (hO : SWO (ltOf cf)) (g : Nat) (cb : Array Value) (blk off cap : Nat) (d0 : Array α) (w0 : World)
    (eg : ∀ args w, (callFunc g args).run P w = .ok (.enter g args) w) (hcmp0 : CmpLays P g cb enc k cf blk off d0.size w0) (R : RowK enc k w0 blk off d0) : ∀ (N a m b : Nat) (d : Array α) (w : World), b - a ≤ N → d0.size = d.size → SWK enc k w0 blk off d w → Stab.Pre (ltOf cf) tag a m b d →
    a < m → m < b → b ≤ d.size → d.size < 4611686018427387904 → Calls P 112 #[.slice (some ⟨blk, off, none⟩) d.size cap, .int .i64 a, .int .i64 m, .int .i64 b, .func (.func g) #[] cb] w fun e w' => e = .returned (.tuple #[]) ∧ ∃ d', SWK enc k w0 blk off d' w' ∧ Stab.Post (ltOf cf) tag a b d d' := by
  intro N
  induction N with
  | zero => intro a m b d w h1 _ _ _ h5 h6; omega
  | succ N ih =>
  intro a m b d w hN hs S hpre ham hmb hb hsz
  by_cases hm1 : m ≤ a + 1
  · exact symMerge_left L enc cf tag hO g cb blk off cap d0 w0 eg hcmp0 R a m b d w hs S hpre (by omega) hm1 hmb hb hsz
  by_cases hb1 : b ≤ m + 1
  · exact symMerge_right L enc cf tag hO g cb blk off cap d0 w0 eg hcmp0 R a m b d w hs S hpre (by omega) (by omega) hb1 hb hsz
  have IH : Aside _ := ih
  have ro := fun (a m b : Nat) (dk : Array α) (W : World) (hs : d0.size = dk.size) => rotate_any L enc g cb blk off cap a m b d0 dk w0 W R hs
  have RO : Aside _ := ro
  have e40 : ∀ args w, (callFunc 112 args).run P w = .ok (.enter 112 args) w := enters_of L.f40 (by kernel_rfl) rfl
  have e41 : ∀ args w, (callFunc 131 args).run P w = .ok (.enter 131 args) w := enters_of L.f41 (by kernel_rfl) rfl
  clear ih ro
  have mixed := L.mixed; have t0 := L.t0; have a0 := L.a0; have z0 := L.z0; have v0 := L.v0; have t3 := L.t3; have a3 := L.a3; have z3 := L.z3; have v3 := L.v3; have t4 := L.t4; have a4 := L.a4; have z4 := L.z4; have v4 := L.v4; have t48 := L.t48; have a48 := L.a48; have z48 := L.z48; have v48 := L.v48; have t60 := L.t60; have a60 := L.a60; have z60 := L.z60; have v60 := L.v60; have t65 := L.t65; have a65 := L.a65; have z65 := L.z65; have v65 := L.v65; have aE := L.aE; have zE := L.zE
  have u0 := run_underlying L.t0; have u3 := run_underlying L.t3; have u4 := run_underlying L.t4; have u48 := run_underlying L.t48; have u60 := run_underlying L.t60
  have S0 : Aside (SWK enc k w0 blk off d w) := S
  have hcmp : Aside _ := hcmp0
  have HP : Aside _ := hpre
  clear S hcmp0 hpre
  have hma : ((m : Int) - (a : Int) == 1) = false := beq_eq_false_iff_ne.2 (by omega)
  have hbm : ((b : Int) - (m : Int) == 1) = false := beq_eq_false_iff_ne.2 (by omega)
  obtain ⟨mid, hmid⟩ : ∃ x, x = (a + b) / 2 := ⟨_, rfl⟩
  have hmidz : ((a : Int) + (b : Int)) / 2 = (mid : Int) := by omega
  have q1 : a < mid := by omega
  have q2 : mid < b := by omega
  have q3 : 2 * mid ≤ a + b := by omega
  have q4 : a + b ≤ 2 * mid + 1 := by omega
  clear hmid
  -- where the search begins, and where it ends
  obtain ⟨s0, r0, h3⟩ : ∃ s0 r0 : Nat, (mid < m ∧ s0 + b = mid + m ∧ r0 = mid) ∨ (m ≤ mid ∧ s0 = a ∧ r0 = m) := by
    by_cases h : mid < m
    · exact ⟨mid + m - b, mid, Or.inl ⟨h, by omega, rfl⟩⟩
    · exact ⟨a, m, Or.inr ⟨by omega, rfl, rfl⟩⟩
  have k1 : a ≤ s0 := by omega
  have k2 : s0 ≤ r0 := by omega
  have k3 : r0 ≤ m := by omega
  have k4 : s0 + b ≥ mid + m := by omega
  have k5 : r0 ≤ mid := by omega
  have K0 : Aside (s0 = a ∨ s0 + b = mid + m) := by
    rcases h3 with h | h
    · exact Or.inr h.2.1
    · exact Or.inl h.2.1
  have K1 : Aside (r0 = m ∨ r0 = mid) := by
    rcases h3 with h | h
    · exact Or.inr h.2.2
    · exact Or.inl h.2.2
  have hst : (mid < m ∧ (mid : Int) + (m : Int) - (b : Int) = (s0 : Int) ∧ (mid : Int) = (r0 : Int)) ∨ (¬ mid < m ∧ s0 = a ∧ r0 = m) := by omega
  clear h3
  have fin : ∀ (s e : Nat) (w1 : World) (d1 : Array α), True → True := fun _ _ _ _ _ => trivial
  clear fin
  by_cases hgt : mid < m
  all_goals
    go_enter L.f40, Try.ntmps112
    go_wp2
    go_loopg [20, 21] (b - a) (fun kx s t wr => ∃ i j : Nat, s = .int .i64 i ∧ t = .int .i64 j ∧ s0 ≤ i ∧ i ≤ j ∧ j ≤ r0 ∧ j - i ≤ kx ∧ Aside (SWK enc k w0 blk off d wr) ∧
      Aside ((i = s0 ∨ ltOf cf d[mid + m - i]! d[i - 1]! = false) ∧ (j = r0 ∨ ltOf cf d[mid + m - 1 - j]! d[j]! = true)))
    case atStart =>
      refine ⟨s0, r0, ?_, ?_, Nat.le_refl _, k2, Nat.le_refl _, by omega, S0, (⟨Or.inl rfl, Or.inl rfl⟩ : (s0 = s0 ∨ ltOf cf d[mid + m - s0]! d[s0 - 1]! = false) ∧ (r0 = r0 ∨ ltOf cf d[mid + m - 1 - r0]! d[r0]! = true))⟩
      · exact congrArg (Value.int IntKind.i64) (by omega)
      · exact congrArg (Value.int IntKind.i64) (by omega)
    case round =>
      clear S0
      obtain ⟨i, j, rfl, rfl, hmi, hij, hjb, hkx, S1, I⟩ := hrel
      by_cases hlt : i < j
      · have hltz : (i : Int) < (j : Int) := by omega
        obtain ⟨c, hc⟩ : ∃ c, c = (i + j) / 2 := ⟨_, rfl⟩
        have hcz : ((i : Int) + (j : Int)) / 2 = (c : Int) := by omega
        have y1 : i ≤ c := by omega
        have y2 : c < j := by omega
        obtain ⟨q, hq⟩ : ∃ q, q = mid + m - 1 - c := ⟨_, rfl⟩
        have hqz : (mid : Int) + (m : Int) - 1 - (c : Int) = (q : Int) := by omega
        have y3 : q < d.size := by omega
        have y4 : q + c + 1 = mid + m := by omega
        clear hc hq
        have eac : ((q : Int)).toNat = q := by omega
        have pac : (0 : Int) ≤ (q : Int) := by omega
        have bac : (q : Int) < (d.size : Int) := by omega
        have rac : IntKind.i64.wrap ((q : Int)) = (q : Int) := by rw [IntKind.wrap_i64]; omega
        have ecc : ((c : Int)).toNat = c := by omega
        have pcc : (0 : Int) ≤ (c : Int) := by omega
        have bcc : (c : Int) < (d.size : Int) := by omega
        have rcc : IntKind.i64.wrap ((c : Int)) = (c : Int) := by rw [IntKind.wrap_i64]; omega
        obtain ⟨xc, hxc⟩ : ∃ x, d[q]! = x := ⟨_, rfl⟩
        obtain ⟨yc, hyc⟩ : ∃ x, d[c]! = x := ⟨_, rfl⟩
        have lca := fun n os => S1.out.ld R (by omega) P (q) (by omega) n os
        have lcb := fun n os => S1.out.ld R (by omega) P (c) (by omega) n os
        rw [hxc] at lca
        rw [hyc] at lcb
        have cc := fun n os => S1.out.cmp hcmp.out (by omega) xc yc n os
        have Gc := fun n os => S1.out.grown n os
        have Hc : Aside _ := Gc
        clear Gc
        have Xc : Aside (d[q]! = xc ∧ d[c]! = yc) := ⟨hxc, hyc⟩
        clear hxc hyc S1
        by_cases hlv : cf xc yc < 0
        · have hdv : decide (cf xc yc < 0) = true := decide_eq_true hlv
          go_wp2_with fail
          go_quiet_grown (first | (go_at_fn g; refine Calls.grown_of (cc _ _)))
          go_wp2
          go_roundg (c - i)
          case measure => omega
          case rel =>
            have I2 : Aside ((i = s0 ∨ ltOf cf d[mid + m - i]! d[i - 1]! = false) ∧ (c = r0 ∨ ltOf cf d[mid + m - 1 - c]! d[c]! = true)) := ⟨I.out.1, Or.inr (by rw [show mid + m - 1 - c = q by omega, Xc.out.1, Xc.out.2]; exact decide_eq_true hlv)⟩
            exact ⟨i, c, rfl, rfl, hmi, by omega, by omega, Nat.le_refl _, Hc.out nq osq, I2⟩
        · have hdv : decide (cf xc yc < 0) = false := decide_eq_false hlv
          go_wp2_with fail
          go_quiet_grown (first | (go_at_fn g; refine Calls.grown_of (cc _ _)))
          go_wp2
          go_roundg (j - (c + 1))
          case measure => omega
          case rel =>
            have I2 : Aside ((c + 1 = s0 ∨ ltOf cf d[mid + m - (c + 1)]! d[c + 1 - 1]! = false) ∧ (j = r0 ∨ ltOf cf d[mid + m - 1 - j]! d[j]! = true)) := ⟨Or.inr (by simp only [Nat.add_sub_cancel]; rw [show mid + m - (c + 1) = q by omega, Xc.out.1, Xc.out.2]; exact decide_eq_false (by omega)), I.out.2⟩
            exact ⟨c + 1, j, by go_num, rfl, by omega, by omega, hjb, Nat.le_refl _, Hc.out nq osq, I2⟩
      · obtain rfl : j = i := by omega
        have hltz : ¬ (j : Int) < (j : Int) := by omega
        obtain ⟨e, he⟩ : ∃ e, e = mid + m - j := ⟨_, rfl⟩
        have hez : (mid : Int) + (m : Int) - (j : Int) = (e : Int) := by omega
        have x1 : m ≤ e := by omega
        have x2 : e ≤ b := by omega
        have x3 : j + e = mid + m := by omega
        have hlo : j = a ∨ e = b ∨ ltOf cf d[e]! d[j - 1]! = false := by
          rcases I.out.1 with h | h
          · rcases K0.out with h' | h'
            · exact Or.inl (by omega)
            · exact Or.inr (Or.inl (by omega))
          · exact Or.inr (Or.inr (by rw [he]; exact h))
        have hhi : j = m ∨ e = m ∨ ltOf cf d[e - 1]! d[j]! = true := by
          rcases I.out.2 with h | h
          · rcases K1.out with h' | h'
            · exact Or.inl (by omega)
            · exact Or.inr (Or.inl (by omega))
          · exact Or.inr (Or.inr (by rw [show e - 1 = mid + m - 1 - j by omega]; exact h))
        have SP : Aside (∀ d1, Stab.Rot d j m e d1 → Stab.Split (lt := ltOf cf) (tag := tag) a mid b j e d1) := fun d1 hR => Stab.split_of hO HP.out hR (by omega) (by omega) x1 x2 x3 hlo hhi
        clear I hlo hhi he HP
        have TAIL : True := trivial
        clear TAIL
        rcases (show (j < m ∧ m < e) ∨ (¬ j < m) ∨ (j < m ∧ ¬ m < e) by omega) with ⟨c1, c2⟩ | c1 | ⟨c1, c2⟩
        · try (exfalso; omega)
          all_goals
            have c1z : (j : Int) < (m : Int) := by omega
            have c2z : (m : Int) < (e : Int) := by omega
            go_wp2_with fail
            refine (RO.out j m e d wr hs S1.out c1 c2 (by omega) hsz).mono ?_
            rintro e1 w1 ⟨rfl, d1, T1a, G1a⟩
            have T1 : Aside _ := T1a
            have G1 : Aside _ := G1a
            have hs1 : d1.size = d.size := G1a.size
            clear T1a G1a
            rcases (show (a < j ∧ j < mid) ∨ (¬ a < j) ∨ (a < j ∧ ¬ j < mid) by omega) with ⟨c3, c4⟩ | c3 | ⟨c3, c4⟩
            · try (exfalso; omega)
              all_goals
                have c3z : (a : Int) < (j : Int) := by omega
                have c4z : (j : Int) < (mid : Int) := by omega
                go_wp2_with fail
                have cc := IH.out a j mid d1 w1 (by omega) (by omega) T1.out (SP.out d1 G1.out).one c3 c4 (by omega) (by omega)
                rw [hs1] at cc
                refine cc.mono ?_
                clear cc
                rintro e2 w2 ⟨rfl, d2, T2a, P2a⟩
                have T2 : Aside _ := T2a
                have P2 : Aside _ := P2a
                have hs2 : d2.size = d.size := P2a.perm.1.trans hs1
                clear T2a P2a
                rcases (show (mid < e ∧ e < b) ∨ (¬ mid < e) ∨ (mid < e ∧ ¬ e < b) by omega) with ⟨c5, c6⟩ | c5 | ⟨c5, c6⟩
                · try (exfalso; omega)
                  all_goals
                    have c5z : (mid : Int) < (e : Int) := by omega
                    have c6z : (e : Int) < (b : Int) := by omega
                    go_wp2_with fail
                    have cc := IH.out mid e b d2 w2 (by omega) (by omega) T2.out ((SP.out d1 G1.out).two.two_after P2.out.perm (by omega) (by omega)) c5 c6 (by omega) (by omega)
                    rw [hs2] at cc
                    refine cc.mono ?_
                    clear cc
                    rintro e3 w3 ⟨rfl, d3, T3a, P3a⟩
                    have T3 : Aside _ := T3a
                    have P3 : Aside _ := P3a
                    clear T3a P3a
                    go_wp2
                    go_end0
                    exact ⟨rfl, d3, T3.out, Stab.join_of G1.out hb (by omega) (by omega) (by omega) (by omega) (SP.out d1 G1.out) P2.out P3.out⟩
                · try (exfalso; omega)
                  all_goals
                    have c5z : ¬ (mid : Int) < (e : Int) := by omega
                    go_wp2
                    go_end0
                    exact ⟨rfl, d2, T2.out, Stab.join_of G1.out hb (by omega) (by omega) (by omega) (by omega) (SP.out d1 G1.out) P2.out ⟨permIn_refl _ _ _, ((SP.out d1 G1.out).two.two_after P2.out.perm (by omega) (by omega)).idle (by omega) (by omega) (by omega)⟩⟩
                · try (exfalso; omega)
                  all_goals
                    have c5z : (mid : Int) < (e : Int) := by omega
                    have c6z : ¬ (e : Int) < (b : Int) := by omega
                    go_wp2
                    go_end0
                    exact ⟨rfl, d2, T2.out, Stab.join_of G1.out hb (by omega) (by omega) (by omega) (by omega) (SP.out d1 G1.out) P2.out ⟨permIn_refl _ _ _, ((SP.out d1 G1.out).two.two_after P2.out.perm (by omega) (by omega)).idle (by omega) (by omega) (by omega)⟩⟩
            · try (exfalso; omega)
              all_goals
                have c3z : ¬ (a : Int) < (j : Int) := by omega
                have P2 : Aside (Stab.Post (ltOf cf) tag a mid d1 d1) := ⟨permIn_refl _ _ _, (SP.out d1 G1.out).one.idle (by omega) (by omega) (by omega)⟩
                obtain ⟨w2, hw2⟩ : ∃ w2, w2 = w1 := ⟨_, rfl⟩
                obtain ⟨d2, hd2⟩ : ∃ d2, d2 = d1 := ⟨_, rfl⟩
                have T2 : Aside (SWK enc k w0 blk off d2 w2) := by rw [hw2, hd2]; exact T1
                have hs2 : d2.size = d.size := by rw [hd2]; exact hs1
                have P2 : Aside (Stab.Post (ltOf cf) tag a mid d1 d2) := by rw [hd2]; exact P2
                rw [← hw2]
                clear hw2 hd2
                rcases (show (mid < e ∧ e < b) ∨ (¬ mid < e) ∨ (mid < e ∧ ¬ e < b) by omega) with ⟨c5, c6⟩ | c5 | ⟨c5, c6⟩
                · try (exfalso; omega)
                  all_goals
                    have c5z : (mid : Int) < (e : Int) := by omega
                    have c6z : (e : Int) < (b : Int) := by omega
                    go_wp2_with fail
                    have cc := IH.out mid e b d2 w2 (by omega) (by omega) T2.out ((SP.out d1 G1.out).two.two_after P2.out.perm (by omega) (by omega)) c5 c6 (by omega) (by omega)
                    rw [hs2] at cc
                    refine cc.mono ?_
                    clear cc
                    rintro e3 w3 ⟨rfl, d3, T3a, P3a⟩
                    have T3 : Aside _ := T3a
                    have P3 : Aside _ := P3a
                    clear T3a P3a
                    go_wp2
                    go_end0
                    exact ⟨rfl, d3, T3.out, Stab.join_of G1.out hb (by omega) (by omega) (by omega) (by omega) (SP.out d1 G1.out) P2.out P3.out⟩
                · try (exfalso; omega)
                  all_goals
                    have c5z : ¬ (mid : Int) < (e : Int) := by omega
                    go_wp2
                    go_end0
                    exact ⟨rfl, d2, T2.out, Stab.join_of G1.out hb (by omega) (by omega) (by omega) (by omega) (SP.out d1 G1.out) P2.out ⟨permIn_refl _ _ _, ((SP.out d1 G1.out).two.two_after P2.out.perm (by omega) (by omega)).idle (by omega) (by omega) (by omega)⟩⟩
                · try (exfalso; omega)
                  all_goals
                    have c5z : (mid : Int) < (e : Int) := by omega
                    have c6z : ¬ (e : Int) < (b : Int) := by omega
                    go_wp2
                    go_end0
                    exact ⟨rfl, d2, T2.out, Stab.join_of G1.out hb (by omega) (by omega) (by omega) (by omega) (SP.out d1 G1.out) P2.out ⟨permIn_refl _ _ _, ((SP.out d1 G1.out).two.two_after P2.out.perm (by omega) (by omega)).idle (by omega) (by omega) (by omega)⟩⟩
            · try (exfalso; omega)
              all_goals
                have c3z : (a : Int) < (j : Int) := by omega
                have c4z : ¬ (j : Int) < (mid : Int) := by omega
                have P2 : Aside (Stab.Post (ltOf cf) tag a mid d1 d1) := ⟨permIn_refl _ _ _, (SP.out d1 G1.out).one.idle (by omega) (by omega) (by omega)⟩
                obtain ⟨w2, hw2⟩ : ∃ w2, w2 = w1 := ⟨_, rfl⟩
                obtain ⟨d2, hd2⟩ : ∃ d2, d2 = d1 := ⟨_, rfl⟩
                have T2 : Aside (SWK enc k w0 blk off d2 w2) := by rw [hw2, hd2]; exact T1
                have hs2 : d2.size = d.size := by rw [hd2]; exact hs1
                have P2 : Aside (Stab.Post (ltOf cf) tag a mid d1 d2) := by rw [hd2]; exact P2
                rw [← hw2]
                clear hw2 hd2
                rcases (show (mid < e ∧ e < b) ∨ (¬ mid < e) ∨ (mid < e ∧ ¬ e < b) by omega) with ⟨c5, c6⟩ | c5 | ⟨c5, c6⟩
                · try (exfalso; omega)
                  all_goals
                    have c5z : (mid : Int) < (e : Int) := by omega
                    have c6z : (e : Int) < (b : Int) := by omega
                    go_wp2_with fail
                    have cc := IH.out mid e b d2 w2 (by omega) (by omega) T2.out ((SP.out d1 G1.out).two.two_after P2.out.perm (by omega) (by omega)) c5 c6 (by omega) (by omega)
                    rw [hs2] at cc
                    refine cc.mono ?_
                    clear cc
                    rintro e3 w3 ⟨rfl, d3, T3a, P3a⟩
                    have T3 : Aside _ := T3a
                    have P3 : Aside _ := P3a
                    clear T3a P3a
                    go_wp2
                    go_end0
                    exact ⟨rfl, d3, T3.out, Stab.join_of G1.out hb (by omega) (by omega) (by omega) (by omega) (SP.out d1 G1.out) P2.out P3.out⟩
                · try (exfalso; omega)
                  all_goals
                    have c5z : ¬ (mid : Int) < (e : Int) := by omega
                    go_wp2
                    go_end0
                    exact ⟨rfl, d2, T2.out, Stab.join_of G1.out hb (by omega) (by omega) (by omega) (by omega) (SP.out d1 G1.out) P2.out ⟨permIn_refl _ _ _, ((SP.out d1 G1.out).two.two_after P2.out.perm (by omega) (by omega)).idle (by omega) (by omega) (by omega)⟩⟩
                · try (exfalso; omega)
                  all_goals
                    have c5z : (mid : Int) < (e : Int) := by omega
                    have c6z : ¬ (e : Int) < (b : Int) := by omega
                    go_wp2
                    go_end0
                    exact ⟨rfl, d2, T2.out, Stab.join_of G1.out hb (by omega) (by omega) (by omega) (by omega) (SP.out d1 G1.out) P2.out ⟨permIn_refl _ _ _, ((SP.out d1 G1.out).two.two_after P2.out.perm (by omega) (by omega)).idle (by omega) (by omega) (by omega)⟩⟩
        · try (exfalso; omega)
          all_goals
            have c1z : ¬ (j : Int) < (m : Int) := by omega
            obtain ⟨w1, hw1⟩ : ∃ w1, w1 = wr := ⟨_, rfl⟩
            obtain ⟨d1, hd1⟩ : ∃ d1, d1 = d := ⟨_, rfl⟩
            have T1 : Aside (SWK enc k w0 blk off d1 w1) := by rw [hw1, hd1]; exact S1
            have hs1 : d1.size = d.size := by rw [hd1]
            have G1 : Aside (Stab.Rot d j m e d1) := by rw [hd1]; exact Stab.Rot.idle d j m e (by omega) (by omega) (by omega)
            rw [← hw1]
            clear hw1 hd1
            rcases (show (a < j ∧ j < mid) ∨ (¬ a < j) ∨ (a < j ∧ ¬ j < mid) by omega) with ⟨c3, c4⟩ | c3 | ⟨c3, c4⟩
            · try (exfalso; omega)
              all_goals
                have c3z : (a : Int) < (j : Int) := by omega
                have c4z : (j : Int) < (mid : Int) := by omega
                go_wp2_with fail
                have cc := IH.out a j mid d1 w1 (by omega) (by omega) T1.out (SP.out d1 G1.out).one c3 c4 (by omega) (by omega)
                rw [hs1] at cc
                refine cc.mono ?_
                clear cc
                rintro e2 w2 ⟨rfl, d2, T2a, P2a⟩
                have T2 : Aside _ := T2a
                have P2 : Aside _ := P2a
                have hs2 : d2.size = d.size := P2a.perm.1.trans hs1
                clear T2a P2a
                rcases (show (mid < e ∧ e < b) ∨ (¬ mid < e) ∨ (mid < e ∧ ¬ e < b) by omega) with ⟨c5, c6⟩ | c5 | ⟨c5, c6⟩
                · try (exfalso; omega)
                  all_goals
                    have c5z : (mid : Int) < (e : Int) := by omega
                    have c6z : (e : Int) < (b : Int) := by omega
                    go_wp2_with fail
                    have cc := IH.out mid e b d2 w2 (by omega) (by omega) T2.out ((SP.out d1 G1.out).two.two_after P2.out.perm (by omega) (by omega)) c5 c6 (by omega) (by omega)
                    rw [hs2] at cc
                    refine cc.mono ?_
                    clear cc
                    rintro e3 w3 ⟨rfl, d3, T3a, P3a⟩
                    have T3 : Aside _ := T3a
                    have P3 : Aside _ := P3a
                    clear T3a P3a
                    go_wp2
                    go_end0
                    exact ⟨rfl, d3, T3.out, Stab.join_of G1.out hb (by omega) (by omega) (by omega) (by omega) (SP.out d1 G1.out) P2.out P3.out⟩
                · try (exfalso; omega)
                  all_goals
                    have c5z : ¬ (mid : Int) < (e : Int) := by omega
                    go_wp2
                    go_end0
                    exact ⟨rfl, d2, T2.out, Stab.join_of G1.out hb (by omega) (by omega) (by omega) (by omega) (SP.out d1 G1.out) P2.out ⟨permIn_refl _ _ _, ((SP.out d1 G1.out).two.two_after P2.out.perm (by omega) (by omega)).idle (by omega) (by omega) (by omega)⟩⟩
                · try (exfalso; omega)
                  all_goals
                    have c5z : (mid : Int) < (e : Int) := by omega
                    have c6z : ¬ (e : Int) < (b : Int) := by omega
                    go_wp2
                    go_end0
                    exact ⟨rfl, d2, T2.out, Stab.join_of G1.out hb (by omega) (by omega) (by omega) (by omega) (SP.out d1 G1.out) P2.out ⟨permIn_refl _ _ _, ((SP.out d1 G1.out).two.two_after P2.out.perm (by omega) (by omega)).idle (by omega) (by omega) (by omega)⟩⟩
            · try (exfalso; omega)
              all_goals
                have c3z : ¬ (a : Int) < (j : Int) := by omega
                have P2 : Aside (Stab.Post (ltOf cf) tag a mid d1 d1) := ⟨permIn_refl _ _ _, (SP.out d1 G1.out).one.idle (by omega) (by omega) (by omega)⟩
                obtain ⟨w2, hw2⟩ : ∃ w2, w2 = w1 := ⟨_, rfl⟩
                obtain ⟨d2, hd2⟩ : ∃ d2, d2 = d1 := ⟨_, rfl⟩
                have T2 : Aside (SWK enc k w0 blk off d2 w2) := by rw [hw2, hd2]; exact T1
                have hs2 : d2.size = d.size := by rw [hd2]; exact hs1
                have P2 : Aside (Stab.Post (ltOf cf) tag a mid d1 d2) := by rw [hd2]; exact P2
                rw [← hw2]
                clear hw2 hd2
                rcases (show (mid < e ∧ e < b) ∨ (¬ mid < e) ∨ (mid < e ∧ ¬ e < b) by omega) with ⟨c5, c6⟩ | c5 | ⟨c5, c6⟩
                · try (exfalso; omega)
                  all_goals
                    have c5z : (mid : Int) < (e : Int) := by omega
                    have c6z : (e : Int) < (b : Int) := by omega
                    go_wp2_with fail
                    have cc := IH.out mid e b d2 w2 (by omega) (by omega) T2.out ((SP.out d1 G1.out).two.two_after P2.out.perm (by omega) (by omega)) c5 c6 (by omega) (by omega)
                    rw [hs2] at cc
                    refine cc.mono ?_
                    clear cc
                    rintro e3 w3 ⟨rfl, d3, T3a, P3a⟩
                    have T3 : Aside _ := T3a
                    have P3 : Aside _ := P3a
                    clear T3a P3a
                    go_wp2
                    go_end0
                    exact ⟨rfl, d3, T3.out, Stab.join_of G1.out hb (by omega) (by omega) (by omega) (by omega) (SP.out d1 G1.out) P2.out P3.out⟩
                · try (exfalso; omega)
                  all_goals
                    have c5z : ¬ (mid : Int) < (e : Int) := by omega
                    go_wp2
                    go_end0
                    exact ⟨rfl, d2, T2.out, Stab.join_of G1.out hb (by omega) (by omega) (by omega) (by omega) (SP.out d1 G1.out) P2.out ⟨permIn_refl _ _ _, ((SP.out d1 G1.out).two.two_after P2.out.perm (by omega) (by omega)).idle (by omega) (by omega) (by omega)⟩⟩
                · try (exfalso; omega)
                  all_goals
                    have c5z : (mid : Int) < (e : Int) := by omega
                    have c6z : ¬ (e : Int) < (b : Int) := by omega
                    go_wp2
                    go_end0
                    exact ⟨rfl, d2, T2.out, Stab.join_of G1.out hb (by omega) (by omega) (by omega) (by omega) (SP.out d1 G1.out) P2.out ⟨permIn_refl _ _ _, ((SP.out d1 G1.out).two.two_after P2.out.perm (by omega) (by omega)).idle (by omega) (by omega) (by omega)⟩⟩
            · try (exfalso; omega)
              all_goals
                have c3z : (a : Int) < (j : Int) := by omega
                have c4z : ¬ (j : Int) < (mid : Int) := by omega
                have P2 : Aside (Stab.Post (ltOf cf) tag a mid d1 d1) := ⟨permIn_refl _ _ _, (SP.out d1 G1.out).one.idle (by omega) (by omega) (by omega)⟩
                obtain ⟨w2, hw2⟩ : ∃ w2, w2 = w1 := ⟨_, rfl⟩
                obtain ⟨d2, hd2⟩ : ∃ d2, d2 = d1 := ⟨_, rfl⟩
                have T2 : Aside (SWK enc k w0 blk off d2 w2) := by rw [hw2, hd2]; exact T1
                have hs2 : d2.size = d.size := by rw [hd2]; exact hs1
                have P2 : Aside (Stab.Post (ltOf cf) tag a mid d1 d2) := by rw [hd2]; exact P2
                rw [← hw2]
                clear hw2 hd2
                rcases (show (mid < e ∧ e < b) ∨ (¬ mid < e) ∨ (mid < e ∧ ¬ e < b) by omega) with ⟨c5, c6⟩ | c5 | ⟨c5, c6⟩
                · try (exfalso; omega)
                  all_goals
                    have c5z : (mid : Int) < (e : Int) := by omega
                    have c6z : (e : Int) < (b : Int) := by omega
                    go_wp2_with fail
                    have cc := IH.out mid e b d2 w2 (by omega) (by omega) T2.out ((SP.out d1 G1.out).two.two_after P2.out.perm (by omega) (by omega)) c5 c6 (by omega) (by omega)
                    rw [hs2] at cc
                    refine cc.mono ?_
                    clear cc
                    rintro e3 w3 ⟨rfl, d3, T3a, P3a⟩
                    have T3 : Aside _ := T3a
                    have P3 : Aside _ := P3a
                    clear T3a P3a
                    go_wp2
                    go_end0
                    exact ⟨rfl, d3, T3.out, Stab.join_of G1.out hb (by omega) (by omega) (by omega) (by omega) (SP.out d1 G1.out) P2.out P3.out⟩
                · try (exfalso; omega)
                  all_goals
                    have c5z : ¬ (mid : Int) < (e : Int) := by omega
                    go_wp2
                    go_end0
                    exact ⟨rfl, d2, T2.out, Stab.join_of G1.out hb (by omega) (by omega) (by omega) (by omega) (SP.out d1 G1.out) P2.out ⟨permIn_refl _ _ _, ((SP.out d1 G1.out).two.two_after P2.out.perm (by omega) (by omega)).idle (by omega) (by omega) (by omega)⟩⟩
                · try (exfalso; omega)
                  all_goals
                    have c5z : (mid : Int) < (e : Int) := by omega
                    have c6z : ¬ (e : Int) < (b : Int) := by omega
                    go_wp2
                    go_end0
                    exact ⟨rfl, d2, T2.out, Stab.join_of G1.out hb (by omega) (by omega) (by omega) (by omega) (SP.out d1 G1.out) P2.out ⟨permIn_refl _ _ _, ((SP.out d1 G1.out).two.two_after P2.out.perm (by omega) (by omega)).idle (by omega) (by omega) (by omega)⟩⟩
        · try (exfalso; omega)
          all_goals
            have c1z : (j : Int) < (m : Int) := by omega
            have c2z : ¬ (m : Int) < (e : Int) := by omega
            obtain ⟨w1, hw1⟩ : ∃ w1, w1 = wr := ⟨_, rfl⟩
            obtain ⟨d1, hd1⟩ : ∃ d1, d1 = d := ⟨_, rfl⟩
            have T1 : Aside (SWK enc k w0 blk off d1 w1) := by rw [hw1, hd1]; exact S1
            have hs1 : d1.size = d.size := by rw [hd1]
            have G1 : Aside (Stab.Rot d j m e d1) := by rw [hd1]; exact Stab.Rot.idle d j m e (by omega) (by omega) (by omega)
            rw [← hw1]
            clear hw1 hd1
            rcases (show (a < j ∧ j < mid) ∨ (¬ a < j) ∨ (a < j ∧ ¬ j < mid) by omega) with ⟨c3, c4⟩ | c3 | ⟨c3, c4⟩
            · try (exfalso; omega)
              all_goals
                have c3z : (a : Int) < (j : Int) := by omega
                have c4z : (j : Int) < (mid : Int) := by omega
                go_wp2_with fail
                have cc := IH.out a j mid d1 w1 (by omega) (by omega) T1.out (SP.out d1 G1.out).one c3 c4 (by omega) (by omega)
                rw [hs1] at cc
                refine cc.mono ?_
                clear cc
                rintro e2 w2 ⟨rfl, d2, T2a, P2a⟩
                have T2 : Aside _ := T2a
                have P2 : Aside _ := P2a
                have hs2 : d2.size = d.size := P2a.perm.1.trans hs1
                clear T2a P2a
                rcases (show (mid < e ∧ e < b) ∨ (¬ mid < e) ∨ (mid < e ∧ ¬ e < b) by omega) with ⟨c5, c6⟩ | c5 | ⟨c5, c6⟩
                · try (exfalso; omega)
                  all_goals
                    have c5z : (mid : Int) < (e : Int) := by omega
                    have c6z : (e : Int) < (b : Int) := by omega
                    go_wp2_with fail
                    have cc := IH.out mid e b d2 w2 (by omega) (by omega) T2.out ((SP.out d1 G1.out).two.two_after P2.out.perm (by omega) (by omega)) c5 c6 (by omega) (by omega)
                    rw [hs2] at cc
                    refine cc.mono ?_
                    clear cc
                    rintro e3 w3 ⟨rfl, d3, T3a, P3a⟩
                    have T3 : Aside _ := T3a
                    have P3 : Aside _ := P3a
                    clear T3a P3a
                    go_wp2
                    go_end0
                    exact ⟨rfl, d3, T3.out, Stab.join_of G1.out hb (by omega) (by omega) (by omega) (by omega) (SP.out d1 G1.out) P2.out P3.out⟩
                · try (exfalso; omega)
                  all_goals
                    have c5z : ¬ (mid : Int) < (e : Int) := by omega
                    go_wp2
                    go_end0
                    exact ⟨rfl, d2, T2.out, Stab.join_of G1.out hb (by omega) (by omega) (by omega) (by omega) (SP.out d1 G1.out) P2.out ⟨permIn_refl _ _ _, ((SP.out d1 G1.out).two.two_after P2.out.perm (by omega) (by omega)).idle (by omega) (by omega) (by omega)⟩⟩
                · try (exfalso; omega)
                  all_goals
                    have c5z : (mid : Int) < (e : Int) := by omega
                    have c6z : ¬ (e : Int) < (b : Int) := by omega
                    go_wp2
                    go_end0
                    exact ⟨rfl, d2, T2.out, Stab.join_of G1.out hb (by omega) (by omega) (by omega) (by omega) (SP.out d1 G1.out) P2.out ⟨permIn_refl _ _ _, ((SP.out d1 G1.out).two.two_after P2.out.perm (by omega) (by omega)).idle (by omega) (by omega) (by omega)⟩⟩
            · try (exfalso; omega)
              all_goals
                have c3z : ¬ (a : Int) < (j : Int) := by omega
                have P2 : Aside (Stab.Post (ltOf cf) tag a mid d1 d1) := ⟨permIn_refl _ _ _, (SP.out d1 G1.out).one.idle (by omega) (by omega) (by omega)⟩
                obtain ⟨w2, hw2⟩ : ∃ w2, w2 = w1 := ⟨_, rfl⟩
                obtain ⟨d2, hd2⟩ : ∃ d2, d2 = d1 := ⟨_, rfl⟩
                have T2 : Aside (SWK enc k w0 blk off d2 w2) := by rw [hw2, hd2]; exact T1
                have hs2 : d2.size = d.size := by rw [hd2]; exact hs1
                have P2 : Aside (Stab.Post (ltOf cf) tag a mid d1 d2) := by rw [hd2]; exact P2
                rw [← hw2]
                clear hw2 hd2
                rcases (show (mid < e ∧ e < b) ∨ (¬ mid < e) ∨ (mid < e ∧ ¬ e < b) by omega) with ⟨c5, c6⟩ | c5 | ⟨c5, c6⟩
                · try (exfalso; omega)
                  all_goals
                    have c5z : (mid : Int) < (e : Int) := by omega
                    have c6z : (e : Int) < (b : Int) := by omega
                    go_wp2_with fail
                    have cc := IH.out mid e b d2 w2 (by omega) (by omega) T2.out ((SP.out d1 G1.out).two.two_after P2.out.perm (by omega) (by omega)) c5 c6 (by omega) (by omega)
                    rw [hs2] at cc
                    refine cc.mono ?_
                    clear cc
                    rintro e3 w3 ⟨rfl, d3, T3a, P3a⟩
                    have T3 : Aside _ := T3a
                    have P3 : Aside _ := P3a
                    clear T3a P3a
                    go_wp2
                    go_end0
                    exact ⟨rfl, d3, T3.out, Stab.join_of G1.out hb (by omega) (by omega) (by omega) (by omega) (SP.out d1 G1.out) P2.out P3.out⟩
                · try (exfalso; omega)
                  all_goals
                    have c5z : ¬ (mid : Int) < (e : Int) := by omega
                    go_wp2
                    go_end0
                    exact ⟨rfl, d2, T2.out, Stab.join_of G1.out hb (by omega) (by omega) (by omega) (by omega) (SP.out d1 G1.out) P2.out ⟨permIn_refl _ _ _, ((SP.out d1 G1.out).two.two_after P2.out.perm (by omega) (by omega)).idle (by omega) (by omega) (by omega)⟩⟩
                · try (exfalso; omega)
                  all_goals
                    have c5z : (mid : Int) < (e : Int) := by omega
                    have c6z : ¬ (e : Int) < (b : Int) := by omega
                    go_wp2
                    go_end0
                    exact ⟨rfl, d2, T2.out, Stab.join_of G1.out hb (by omega) (by omega) (by omega) (by omega) (SP.out d1 G1.out) P2.out ⟨permIn_refl _ _ _, ((SP.out d1 G1.out).two.two_after P2.out.perm (by omega) (by omega)).idle (by omega) (by omega) (by omega)⟩⟩
            · try (exfalso; omega)
              all_goals
                have c3z : (a : Int) < (j : Int) := by omega
                have c4z : ¬ (j : Int) < (mid : Int) := by omega
                have P2 : Aside (Stab.Post (ltOf cf) tag a mid d1 d1) := ⟨permIn_refl _ _ _, (SP.out d1 G1.out).one.idle (by omega) (by omega) (by omega)⟩
                obtain ⟨w2, hw2⟩ : ∃ w2, w2 = w1 := ⟨_, rfl⟩
                obtain ⟨d2, hd2⟩ : ∃ d2, d2 = d1 := ⟨_, rfl⟩
                have T2 : Aside (SWK enc k w0 blk off d2 w2) := by rw [hw2, hd2]; exact T1
                have hs2 : d2.size = d.size := by rw [hd2]; exact hs1
                have P2 : Aside (Stab.Post (ltOf cf) tag a mid d1 d2) := by rw [hd2]; exact P2
                rw [← hw2]
                clear hw2 hd2
                rcases (show (mid < e ∧ e < b) ∨ (¬ mid < e) ∨ (mid < e ∧ ¬ e < b) by omega) with ⟨c5, c6⟩ | c5 | ⟨c5, c6⟩
                · try (exfalso; omega)
                  all_goals
                    have c5z : (mid : Int) < (e : Int) := by omega
                    have c6z : (e : Int) < (b : Int) := by omega
                    go_wp2_with fail
                    have cc := IH.out mid e b d2 w2 (by omega) (by omega) T2.out ((SP.out d1 G1.out).two.two_after P2.out.perm (by omega) (by omega)) c5 c6 (by omega) (by omega)
                    rw [hs2] at cc
                    refine cc.mono ?_
                    clear cc
                    rintro e3 w3 ⟨rfl, d3, T3a, P3a⟩
                    have T3 : Aside _ := T3a
                    have P3 : Aside _ := P3a
                    clear T3a P3a
                    go_wp2
                    go_end0
                    exact ⟨rfl, d3, T3.out, Stab.join_of G1.out hb (by omega) (by omega) (by omega) (by omega) (SP.out d1 G1.out) P2.out P3.out⟩
                · try (exfalso; omega)
                  all_goals
                    have c5z : ¬ (mid : Int) < (e : Int) := by omega
                    go_wp2
                    go_end0
                    exact ⟨rfl, d2, T2.out, Stab.join_of G1.out hb (by omega) (by omega) (by omega) (by omega) (SP.out d1 G1.out) P2.out ⟨permIn_refl _ _ _, ((SP.out d1 G1.out).two.two_after P2.out.perm (by omega) (by omega)).idle (by omega) (by omega) (by omega)⟩⟩
                · try (exfalso; omega)
                  all_goals
                    have c5z : (mid : Int) < (e : Int) := by omega
                    have c6z : ¬ (e : Int) < (b : Int) := by omega
                    go_wp2
                    go_end0
                    exact ⟨rfl, d2, T2.out, Stab.join_of G1.out hb (by omega) (by omega) (by omega) (by omega) (SP.out d1 G1.out) P2.out ⟨permIn_refl _ _ _, ((SP.out d1 G1.out).two.two_after P2.out.perm (by omega) (by omega)).idle (by omega) (by omega) (by omega)⟩⟩
end Go.Proofs.Ytjfifaooimgbaaa
