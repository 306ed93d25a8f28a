/- The walk of the stable sort. -/
import Derived.Test.YtjfifaooimgbaaaMerge
import Derived.Test.YtjfifaooimgbaaaBlks
namespace Go.Proofs.Ytjfifaooimgbaaa
open Go.Shelf Go.RowKit Go.Lib Go.Sort
variable {P : Program} {k : Nat} {α : Type} [Inhabited α]

set_option maxHeartbeats 4000000 in
set_option maxRecDepth 1000000 in
theorem stable_any (L : StLays P k) (enc : α → List Value) (cf : α → α → Int) (tag : α → Int) (hO : SWO (ltOf cf)) (g : Nat) (cb : Array Value) (blk off cap : Nat) (d0 : Array α) (w0 : World)
    (eg : ∀ args w, (callFunc g args).run P w = .ok (.enter g args) w) (hcmp0 : CmpLays P g cb enc k cf blk off d0.size w0) (R : RowK enc k w0 blk off d0) (w : World) (S : SWK enc k w0 blk off d0 w) (ht : ∀ x y, x < y → y < d0.size → tag d0[x]! < tag d0[y]!) (hsz : d0.size < 1152921504606846976) :
    Calls P 92 #[.slice (some ⟨blk, off, none⟩) d0.size cap, .int .i64 d0.size, .func (.func g) #[] cb] w fun e w' => e = .returned (.tuple #[]) ∧ ∃ d', SWK enc k w0 blk off d' w' ∧ Stab.Post (ltOf cf) tag 0 d0.size d0 d' := by
  have ins := fun (a b : Nat) (dk : Array α) (W : World) (hs : d0.size = dk.size) => insertion_any L enc cf tag hO g cb blk off cap a b d0 dk w0 W eg hcmp0 R hs
  have INS : Aside _ := ins
  have mer := fun (a m b : Nat) (dk : Array α) (W : World) => symMerge_any L enc cf tag hO g cb blk off cap d0 w0 eg hcmp0 R (b - a) a m b dk W (Nat.le_refl _)
  have MER : Aside _ := mer
  have e39 : ∀ args w, (callFunc 111 args).run P w = .ok (.enter 111 args) w := enters_of L.f39 (by kernel_rfl) rfl
  have e40 : ∀ args w, (callFunc 112 args).run P w = .ok (.enter 112 args) w := enters_of L.f40 (by kernel_rfl) rfl
  clear ins mer
  have mixed := L.mixed; have t0 := L.t0; have a0 := L.a0; have z0 := L.z0; have v0 := L.v0; have t3 := L.t3; have a3 := L.a3; have z3 := L.z3; have v3 := L.v3; have t4 := L.t4; have a4 := L.a4; have z4 := L.z4; have v4 := L.v4; have t48 := L.t48; have a48 := L.a48; have z48 := L.z48; have v48 := L.v48; have t60 := L.t60; have a60 := L.a60; have z60 := L.z60; have v60 := L.v60; have t65 := L.t65; have a65 := L.a65; have z65 := L.z65; have v65 := L.v65; have aE := L.aE; have zE := L.zE
  have u0 := run_underlying L.t0; have u3 := run_underlying L.t3; have u4 := run_underlying L.t4; have u48 := run_underlying L.t48; have u60 := run_underlying L.t60
  have S0 : Aside (SWK enc k w0 blk off d0 w) := S
  have HT : Aside _ := ht
  clear S ht
  obtain ⟨n, hn⟩ : ∃ n, n = d0.size := ⟨_, rfl⟩
  have hnz : (d0.size : Int) = (n : Int) := by omega
  have HN : Aside (n = d0.size) := hn
  rw [← hn] at hsz ⊢
  clear hn hnz
  go_enter L.f38, Try.ntmps92
  go_wp2
  go_loopg [7, 8] n (fun kx s t wr => ∃ (A : Nat) (dk : Array α), s = .int .i64 A ∧ t = .int .i64 ((A : Int) + 20) ∧ A ≤ n ∧ n - A ≤ kx ∧ Aside (SWK enc k w0 blk off dk wr) ∧ Aside (Stab.Blks (ltOf cf) tag d0 n 20 A 1 dk))
  case atStart => exact ⟨0, d0, rfl, rfl, Nat.zero_le _, by omega, S0, Stab.Blks.start1 d0 n 20⟩
  case round =>
    clear S0
    obtain ⟨A, dk, rfl, rfl, hA, hkx, S1, H1⟩ := hrel
    have hsk : dk.size = n := H1.out.size.trans HN.out.symm
    by_cases hlt : A + 20 ≤ n
    · have hltz : (A : Int) + 20 ≤ (n : Int) := by omega
      go_wp2_with fail
      have cc := INS.out A (A + 20) dk wr (by have := HN.out; omega) S1.out (fun x y q1 q2 q3 => by rw [H1.out.same1 q1 (by omega), H1.out.same1 (by omega) (by omega)]; exact HT.out x y q2 (by have := HN.out; omega)) (by omega) (by omega) (by omega)
      rw [hsk, show (((A + 20 : Nat)) : Int) = (A : Int) + 20 by omega] at cc
      refine cc.mono ?_
      clear cc
      rintro e w' ⟨rfl, d', T2, P2⟩
      have T : Aside _ := T2
      have B : Aside (Stab.Blks (ltOf cf) tag d0 n 20 (A + 20) 1 d') := H1.out.next (k := 20) (by omega) (by omega) hlt (by have := HN.out; omega) P2 (Stab.Seg.of_post P2 (fun i q1 q2 => H1.out.same1 q1 (by omega)) (by omega))
      clear T2 P2 S1 H1
      go_wp2
      go_roundg (n - (A + 20))
      case measure => omega
      case rel => exact ⟨A + 20, d', by go_num, by first | go_num | (congr 1; omega), by omega, Nat.le_refl _, T, B⟩
    · have hltz : ¬ (A : Int) + 20 ≤ (n : Int) := by omega
      go_wp2_with fail
      have cc := INS.out A n dk wr (by have := HN.out; omega) S1.out (fun x y q1 q2 q3 => by rw [H1.out.same1 q1 (by omega), H1.out.same1 (by omega) (by omega)]; exact HT.out x y q2 (by have := HN.out; omega)) (by omega) (by omega) (by omega)
      rw [hsk] at cc
      refine cc.mono ?_
      clear cc
      rintro e w' ⟨rfl, d1, T2, P2⟩
      have T : Aside _ := T2
      have B : Aside (Stab.Full (ltOf cf) tag d0 n 20 d1) := H1.out.last hA (by omega) (by have := HN.out; omega) P2 (Stab.Seg.of_post P2 (fun i q1 q2 => H1.out.same1 q1 (by omega)) (by omega))
      clear T2 P2 S1 H1 hsk dk hkx hltz hlt
      go_wp2
      go_loopg [6] n (fun kx s wr => ∃ (W : Nat) (dk : Array α), s = .int .i64 W ∧ 20 ≤ W ∧ W < 2305843009213693952 ∧ n - W ≤ kx ∧ Aside (SWK enc k w0 blk off dk wr) ∧ Aside (Stab.Full (ltOf cf) tag d0 n W dk))
      case atStart => exact ⟨20, d1, rfl, Nat.le_refl _, by omega, by omega, T, B⟩
      case round =>
        clear T B
        obtain ⟨W, dk, rfl, hW1, hW2, hkx, T1, B1⟩ := hrel
        by_cases hlt : W < n
        · have hltz : (W : Int) < (n : Int) := by omega
          go_wp2
          go_loopg [7, 8] n (fun kx s t wr => ∃ (A : Nat) (dk : Array α), s = .int .i64 A ∧ t = .int .i64 ((A : Int) + 2 * (W : Int)) ∧ A ≤ n ∧ n - A ≤ kx ∧ Aside (SWK enc k w0 blk off dk wr) ∧ Aside (Stab.Blks (ltOf cf) tag d0 n (2 * W) A W dk))
          case atStart => exact ⟨0, dk, rfl, by first | go_num | (congr 1; omega), Nat.zero_le _, by omega, T1, B1.out.start (by omega)⟩
          case round =>
            clear T1 B1
            obtain ⟨A, dj, rfl, rfl, hA, hkx, S1, H1⟩ := hrel
            have hsk : dj.size = n := H1.out.size.trans HN.out.symm
            by_cases hle : A + 2 * W ≤ n
            · have hlez : (A : Int) + 2 * (W : Int) ≤ (n : Int) := by omega
              go_wp2_with fail
              have g1 := H1.out.first (by omega) (by omega)
              have g2 := H1.out.second (b := A + 2 * W) (by omega) (by omega)
              have cc := MER.out A (A + W) (A + 2 * W) dj wr (by have := HN.out; omega) S1.out (g1.pre g2 (fun x y q1 q2 => HT.out x y q1 (by have := HN.out; omega))) (by omega) (by omega) (by omega) (by omega)
              rw [hsk, show (((A + 2 * W : Nat)) : Int) = (A : Int) + 2 * (W : Int) by omega, show (((A + W : Nat)) : Int) = (A : Int) + (W : Int) by omega] at cc
              refine cc.mono ?_
              clear cc
              rintro e w' ⟨rfl, d', T2, P2⟩
              have T : Aside _ := T2
              have B : Aside (Stab.Blks (ltOf cf) tag d0 n (2 * W) (A + 2 * W) W d') := H1.out.next (k := 2) (by omega) rfl hle (by have := HN.out; omega) P2 (g1.join g2 P2 (by omega) (by omega) (by omega))
              clear T2 P2 S1 H1 g1 g2
              go_wp2
              go_roundg (n - (A + 2 * W))
              case measure => omega
              case rel => exact ⟨A + 2 * W, d', by first | go_num | (congr 1; omega), by first | go_num | (congr 1; omega), by omega, Nat.le_refl _, T, B⟩
            · have hlez : ¬ (A : Int) + 2 * (W : Int) ≤ (n : Int) := by omega
              by_cases hm : A + W < n
              · have hmz : (A : Int) + (W : Int) < (n : Int) := by omega
                go_wp2_with fail
                have g1 := H1.out.first (by omega) (by omega)
                have g2 := H1.out.second (b := n) hm (by omega)
                have cc := MER.out A (A + W) n dj wr (by have := HN.out; omega) S1.out (g1.pre g2 (fun x y q1 q2 => HT.out x y q1 (by have := HN.out; omega))) (by omega) (by omega) (by omega) (by omega)
                rw [hsk, show (((A + W : Nat)) : Int) = (A : Int) + (W : Int) by omega] at cc
                refine cc.mono ?_
                clear cc
                rintro e w' ⟨rfl, d', T2, P2⟩
                have T : Aside _ := T2
                have B : Aside (Stab.Full (ltOf cf) tag d0 n (2 * W) d') := H1.out.last hA (by omega) (by have := HN.out; omega) P2 (g1.join g2 P2 (by omega) (by omega) (by omega))
                clear T2 P2 S1 H1 g1 g2
                go_wp2
                go_roundg (n - 2 * W)
                case measure => omega
                case rel => exact ⟨2 * W, d', by first | go_num | (congr 1; omega), by omega, by omega, Nat.le_refl _, T, B⟩
              · have hmz : ¬ (A : Int) + (W : Int) < (n : Int) := by omega
                have g1 := H1.out.only hA (by omega)
                have B : Aside (Stab.Full (ltOf cf) tag d0 n (2 * W) dj) := H1.out.last hA (by omega) (by have := HN.out; omega) ⟨permIn_refl _ _ _, g1.sort⟩ g1
                clear g1 H1
                go_wp2
                go_roundg (n - 2 * W)
                case measure => omega
                case rel => exact ⟨2 * W, dj, by first | go_num | (congr 1; omega), by omega, by omega, Nat.le_refl _, S1, B⟩
        · have hltz : ¬ (W : Int) < (n : Int) := by omega
          go_wp2
          go_end0
          exact ⟨rfl, dk, T1.out, B1.out.perm, B1.out.done (by omega)⟩

set_option maxHeartbeats 1000000 in
theorem sortStable_any (f34 : P.funcs[72]? = some Try.f72) (L : StLays P k) (enc : α → List Value) (cf : α → α → Int) (tag : α → Int) (hO : SWO (ltOf cf)) (g : Nat) (cb : Array Value) (blk off cap : Nat) (d0 : Array α) (w0 : World)
    (eg : ∀ args w, (callFunc g args).run P w = .ok (.enter g args) w) (hcmp0 : CmpLays P g cb enc k cf blk off d0.size w0) (R : RowK enc k w0 blk off d0) (w : World) (S : SWK enc k w0 blk off d0 w) (ht : ∀ x y, x < y → y < d0.size → tag d0[x]! < tag d0[y]!) (hsz : d0.size < 1152921504606846976) :
    Calls P 72 #[.slice (some ⟨blk, off, none⟩) d0.size cap, .func (.func g) #[] cb] w fun e w' => e = .returned (.tuple #[]) ∧ ∃ d', SWK enc k w0 blk off d' w' ∧ Stab.Post (ltOf cf) tag 0 d0.size d0 d' := by
  have cc := stable_any L enc cf tag hO g cb blk off cap d0 w0 eg hcmp0 R w S ht hsz
  have e38 : ∀ args w, (callFunc 92 args).run P w = .ok (.enter 92 args) w := enters_of L.f38 (by kernel_rfl) rfl
  have mixed := L.mixed; have t0 := L.t0; have a0 := L.a0; have z0 := L.z0; have v0 := L.v0; have t3 := L.t3; have a3 := L.a3; have z3 := L.z3; have v3 := L.v3; have t4 := L.t4; have a4 := L.a4; have z4 := L.z4; have v4 := L.v4; have t48 := L.t48; have a48 := L.a48; have z48 := L.z48; have v48 := L.v48; have t60 := L.t60; have a60 := L.a60; have z60 := L.z60; have v60 := L.v60; have t65 := L.t65; have a65 := L.a65; have z65 := L.z65; have v65 := L.v65; have aE := L.aE; have zE := L.zE
  have u0 := run_underlying L.t0; have u3 := run_underlying L.t3; have u4 := run_underlying L.t4; have u48 := run_underlying L.t48; have u60 := run_underlying L.t60
  clear S ht hcmp0
  go_enter f34, Try.ntmps72
  go_wp2_with fail
  refine cc.mono ?_
  rintro e w' ⟨rfl, d', T2, P2⟩
  have T : Aside _ := T2
  have B : Aside _ := P2
  clear T2 P2
  go_wp2
  go_end0
  exact ⟨rfl, d', T.out, B.out⟩
#print axioms stable_any
#print axioms sortStable_any
end Go.Proofs.Ytjfifaooimgbaaa
