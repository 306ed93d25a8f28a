import Derived.Test.YtjfifaooimgbaaaStab
import Derived.Test.YtjfifaooimgbaaaMerge
/- Plain mathematics of the stable sort's blocks: no program in this text. -/
namespace Go.Proofs.Ytjfifaooimgbaaa.Stab
open Go.Sort
section
variable {α : Type} [Inhabited α] {lt : α → α → Bool} {tag : α → Int}

/-- [0, A) stands in blocks of V, the rest in blocks of W. -/
structure Blks (lt : α → α → Bool) (tag : α → Int) (d0 : Array α) (n V A W : Nat) (dk : Array α) : Prop where
  size : dk.size = d0.size
  perm : PermIn 0 n d0 dk
  al : ∃ T, A = T * V
  pre : ∀ t, (t + 1) * V ≤ A → Seg lt tag d0 (t * V) ((t + 1) * V) dk
  rest : ∀ t, A + t * W < n → Seg lt tag d0 (A + t * W) (min (A + (t + 1) * W) n) dk

structure Full (lt : α → α → Bool) (tag : α → Int) (d0 : Array α) (n W : Nat) (dk : Array α) : Prop where
  size : dk.size = d0.size
  perm : PermIn 0 n d0 dk
  seg : ∀ t, t * W < n → Seg lt tag d0 (t * W) (min ((t + 1) * W) n) dk

theorem Blks.start1 (d0 : Array α) (n V : Nat) : Blks lt tag d0 n V 0 1 d0 :=
  ⟨rfl, permIn_refl _ _ _, ⟨0, by omega⟩, fun t h => by
    have h0 : (t + 1) * V = 0 := by omega
    rcases Nat.mul_eq_zero.1 h0 with h1 | h1
    · omega
    · subst h1
      exact ⟨fun i j q1 q2 q3 => by simp at q3, fun p _ i q1 q2 => by simp at q2⟩,
   fun t h => ⟨fun i j q1 q2 q3 => by simp only [Nat.mul_one] at q1 q3; omega, fun p hp i q1 q2 => hp i q1 q2⟩⟩

theorem Blks.same1 {d0 dk : Array α} {n V A : Nat} (h : Blks lt tag d0 n V A 1 dk) {i : Nat} (h1 : A ≤ i) (h2 : i < n) : dk[i]! = d0[i]! :=
  (h.rest (i - A) (by omega)).same (fun v => v = d0[i]!) (fun x q1 q2 => congrArg (fun z => d0[z]!) (by omega)) i (by omega) (by omega)

theorem step_lt {t T V : Nat} (h : (t + 1) * V ≤ T * V + V) (hV : 0 < V) : t < T ∨ t = T := by
  have : (t + 1) * V ≤ (T + 1) * V := by rw [Nat.succ_mul T]; exact h
  have := Nat.le_of_mul_le_mul_right this hV
  omega

theorem mul_lt_step {t T V : Nat} (h : t < T) : (t + 1) * V ≤ T * V := Nat.mul_le_mul_right V h

/-- one block more, of V, is made of what stood in [A, A + V). -/
theorem Blks.next {d0 dk dk' : Array α} {n V A W k : Nat} (h : Blks lt tag d0 n V A W dk) (hV : 0 < V) (hk : V = k * W) (hA : A + V ≤ n) (hn : n ≤ d0.size)
    (hp : Post lt tag A (A + V) dk dk') (hg : Seg lt tag d0 A (A + V) dk') : Blks lt tag d0 n V (A + V) W dk' := by
  have hs := h.size
  obtain ⟨T, hT⟩ := h.al
  refine ⟨hp.perm.1.trans hs, permIn_trans _ _ _ _ _ h.perm (permIn_mono _ _ _ _ _ _ (Nat.zero_le _) hA (by omega) hp.perm), ⟨T + 1, by rw [Nat.succ_mul, hT]⟩, fun t ht => ?_, fun t ht => ?_⟩
  · rcases step_lt (T := T) (by rw [← hT]; exact ht) hV with h1 | h1
    · have h2 := mul_lt_step (V := V) h1
      exact (h.pre t (by rw [hT]; exact h2)).outside fun i _ q2 => hp.perm.2.1 i (Or.inl (by omega))
    · subst h1
      rw [Nat.succ_mul, ← hT]; exact hg
  · have e1 : A + V + t * W = A + (k + t) * W := by rw [Nat.add_mul, hk]; omega
    have e2 : A + V + (t + 1) * W = A + (k + t + 1) * W := by rw [show k + t + 1 = k + (t + 1) by omega, Nat.add_mul k, hk]; omega
    rw [e1] at ht
    have := h.rest (k + t) ht
    rw [e1, e2]
    refine this.outside fun i q1 _ => hp.perm.2.1 i (Or.inr ?_)
    rw [← e1] at q1; omega

/-- what is left over is one block. -/
theorem Blks.last {d0 dk dk' : Array α} {n V A W : Nat} (h : Blks lt tag d0 n V A W dk) (hA : A ≤ n) (hA2 : n < A + V) (hn : n ≤ d0.size)
    (hp : Post lt tag A n dk dk') (hg : Seg lt tag d0 A n dk') : Full lt tag d0 n V dk' := by
  have hs := h.size
  obtain ⟨T, hT⟩ := h.al
  refine ⟨hp.perm.1.trans hs, permIn_trans _ _ _ _ _ h.perm (permIn_mono _ _ _ _ _ _ (Nat.zero_le _) (Nat.le_refl _) (by omega) hp.perm), fun t ht => ?_⟩
  by_cases h1 : t < T
  · have h2 := mul_lt_step (V := V) h1
    rw [Nat.min_eq_left (by omega)]
    exact (h.pre t (by rw [hT]; exact h2)).outside fun i _ q2 => hp.perm.2.1 i (Or.inl (by omega))
  · have h2 : t = T := by
      rcases Nat.lt_or_ge T t with h3 | h3
      · have := mul_lt_step (V := V) h3
        rw [Nat.succ_mul] at this; omega
      · omega
    subst h2
    rw [Nat.succ_mul, ← hT, Nat.min_eq_right (by omega)]; exact hg

theorem Full.start {d0 dk : Array α} {n W V : Nat} (h : Full lt tag d0 n W dk) (hV : 0 < V) : Blks lt tag d0 n V 0 W dk :=
  ⟨h.size, h.perm, ⟨0, by omega⟩, fun t ht => by
    have : 0 < (t + 1) * V := Nat.mul_pos (by omega) hV
    omega, fun t ht => by
    have := h.seg t (by omega)
    rw [Nat.zero_add, Nat.zero_add]; exact this⟩

theorem Blks.first {d0 dk : Array α} {n V A W : Nat} (h : Blks lt tag d0 n V A W dk) (hA : A < n) (hW : A + W ≤ n) : Seg lt tag d0 A (A + W) dk := by
  have := h.rest 0 (by omega)
  simp only [Nat.zero_mul, Nat.add_zero, Nat.zero_add, Nat.one_mul] at this
  rwa [Nat.min_eq_left hW] at this
theorem Blks.only {d0 dk : Array α} {n V A W : Nat} (h : Blks lt tag d0 n V A W dk) (hA : A ≤ n) (hW : n ≤ A + W) : Seg lt tag d0 A n dk := by
  by_cases e : A < n
  · have := h.rest 0 (by omega)
    simp only [Nat.zero_mul, Nat.add_zero, Nat.zero_add, Nat.one_mul] at this
    rwa [Nat.min_eq_right hW] at this
  · exact ⟨fun i j _ _ _ => by omega, fun p _ i _ _ => by omega⟩
theorem Blks.second {d0 dk : Array α} {n V A W b : Nat} (h : Blks lt tag d0 n V A W dk) (hA : A + W < n) (hb : b = min (A + 2 * W) n) : Seg lt tag d0 (A + W) b dk := by
  have := h.rest 1 (by omega)
  simp only [Nat.one_mul] at this
  rw [hb]; exact this

theorem Full.done {d0 dk : Array α} {n W : Nat} (h : Full lt tag d0 n W dk) (hW : n ≤ W) : SortL lt tag 0 n dk := by
  intro i j h1 h2 h3
  have := h.seg 0 (by omega)
  simp only [Nat.zero_mul, Nat.zero_add, Nat.one_mul] at this
  rw [Nat.min_eq_right hW] at this
  exact this.sort i j h1 h2 h3
end
end Go.Proofs.Ytjfifaooimgbaaa.Stab
/- The walk of the stable sort. -/
namespace Go.Proofs.Ytjfifaooimgbaaa
open Go.Shelf Go.RowKit Go.Lib Go.Sort
variable {P : Program} {k : Nat} {α : Type} [Inhabited α]

set_option maxHeartbeats 4000000 in
set_option maxRecDepth 1000000 in
theorem stable_any (L : StLays P k) (enc : α → List Value) (cf : α → α → Int) (tag : α → Int) (hO : SWO (ltOf cf)) (g : Nat) (cb : Array Value) (blk off cap : Nat) (d0 : Array α) (w0 : World)
    (eg : ∀ args w, (callFunc g args).run P w = .ok (.enter g args) w) (hcmp0 : CmpLays P g cb enc k cf blk off d0.size w0) (R : RowK enc k w0 blk off d0) (w : World) (S : SWK enc k w0 blk off d0 w) (ht : ∀ x y, x < y → y < d0.size → tag d0[x]! < tag d0[y]!) (hsz : d0.size < 1152921504606846976) :
    Calls P 92 #[.slice (some ⟨blk, off, none⟩) d0.size cap, .int .i64 d0.size, .func (.func g) #[] cb] w fun e w' => e = .returned (.tuple #[]) ∧ ∃ d', SWK enc k w0 blk off d' w' ∧ Stab.Post (ltOf cf) tag 0 d0.size d0 d' := by
  have ins := fun (a b : Nat) (dk : Array α) (W : World) (hs : d0.size = dk.size) => insertion_any L enc cf tag hO g cb blk off cap a b d0 dk w0 W eg hcmp0 R hs
  have INS : Aside _ := ins
  have mer := fun (a m b : Nat) (dk : Array α) (W : World) => symMerge_any L enc cf tag hO g cb blk off cap d0 w0 eg hcmp0 R (b - a) a m b dk W (Nat.le_refl _)
  have MER : Aside _ := mer
  have e39 : ∀ args w, (callFunc 111 args).run P w = .ok (.enter 111 args) w := enters_of L.f39 (by kernel_rfl) rfl
  have e40 : ∀ args w, (callFunc 112 args).run P w = .ok (.enter 112 args) w := enters_of L.f40 (by kernel_rfl) rfl
  clear ins mer
  have mixed := L.mixed; have t0 := L.t0; have a0 := L.a0; have z0 := L.z0; have v0 := L.v0; have t3 := L.t3; have a3 := L.a3; have z3 := L.z3; have v3 := L.v3; have t4 := L.t4; have a4 := L.a4; have z4 := L.z4; have v4 := L.v4; have t48 := L.t48; have a48 := L.a48; have z48 := L.z48; have v48 := L.v48; have t60 := L.t60; have a60 := L.a60; have z60 := L.z60; have v60 := L.v60; have t65 := L.t65; have a65 := L.a65; have z65 := L.z65; have v65 := L.v65; have aE := L.aE; have zE := L.zE
  have u0 := run_underlying L.t0; have u3 := run_underlying L.t3; have u4 := run_underlying L.t4; have u48 := run_underlying L.t48; have u60 := run_underlying L.t60
  have S0 : Aside (SWK enc k w0 blk off d0 w) := S
  have HT : Aside _ := ht
  clear S ht
  obtain ⟨n, hn⟩ : ∃ n, n = d0.size := ⟨_, rfl⟩
  have hnz : (d0.size : Int) = (n : Int) := by omega
  have HN : Aside (n = d0.size) := hn
  rw [← hn] at hsz ⊢
  clear hn hnz
  go_enter L.f38, Try.ntmps92
  go_wp2
  go_loopg [7, 8] n (fun kx s t wr => ∃ (A : Nat) (dk : Array α), s = .int .i64 A ∧ t = .int .i64 ((A : Int) + 20) ∧ A ≤ n ∧ n - A ≤ kx ∧ Aside (SWK enc k w0 blk off dk wr) ∧ Aside (Stab.Blks (ltOf cf) tag d0 n 20 A 1 dk))
  case atStart => exact ⟨0, d0, rfl, rfl, Nat.zero_le _, by omega, S0, Stab.Blks.start1 d0 n 20⟩
  case round =>
    clear S0
    obtain ⟨A, dk, rfl, rfl, hA, hkx, S1, H1⟩ := hrel
    have hsk : dk.size = n := H1.out.size.trans HN.out.symm
    by_cases hlt : A + 20 ≤ n
    · have hltz : (A : Int) + 20 ≤ (n : Int) := by omega
      go_wp2_with fail
      have cc := INS.out A (A + 20) dk wr (by have := HN.out; omega) S1.out (fun x y q1 q2 q3 => by rw [H1.out.same1 q1 (by omega), H1.out.same1 (by omega) (by omega)]; exact HT.out x y q2 (by have := HN.out; omega)) (by omega) (by omega) (by omega)
      rw [hsk, show (((A + 20 : Nat)) : Int) = (A : Int) + 20 by omega] at cc
      refine cc.mono ?_
      clear cc
      rintro e w' ⟨rfl, d', T2, P2⟩
      have T : Aside _ := T2
      have B : Aside (Stab.Blks (ltOf cf) tag d0 n 20 (A + 20) 1 d') := H1.out.next (k := 20) (by omega) (by omega) hlt (by have := HN.out; omega) P2 (Stab.Seg.of_post P2 (fun i q1 q2 => H1.out.same1 q1 (by omega)) (by omega))
      clear T2 P2 S1 H1
      go_wp2
      go_roundg (n - (A + 20))
      case measure => omega
      case rel => exact ⟨A + 20, d', by go_num, by first | go_num | (congr 1; omega), by omega, Nat.le_refl _, T, B⟩
    · have hltz : ¬ (A : Int) + 20 ≤ (n : Int) := by omega
      go_wp2_with fail
      have cc := INS.out A n dk wr (by have := HN.out; omega) S1.out (fun x y q1 q2 q3 => by rw [H1.out.same1 q1 (by omega), H1.out.same1 (by omega) (by omega)]; exact HT.out x y q2 (by have := HN.out; omega)) (by omega) (by omega) (by omega)
      rw [hsk] at cc
      refine cc.mono ?_
      clear cc
      rintro e w' ⟨rfl, d1, T2, P2⟩
      have T : Aside _ := T2
      have B : Aside (Stab.Full (ltOf cf) tag d0 n 20 d1) := H1.out.last hA (by omega) (by have := HN.out; omega) P2 (Stab.Seg.of_post P2 (fun i q1 q2 => H1.out.same1 q1 (by omega)) (by omega))
      clear T2 P2 S1 H1 hsk dk hkx hltz hlt
      go_wp2
      go_loopg [6] n (fun kx s wr => ∃ (W : Nat) (dk : Array α), s = .int .i64 W ∧ 20 ≤ W ∧ W < 2305843009213693952 ∧ n - W ≤ kx ∧ Aside (SWK enc k w0 blk off dk wr) ∧ Aside (Stab.Full (ltOf cf) tag d0 n W dk))
      case atStart => exact ⟨20, d1, rfl, Nat.le_refl _, by omega, by omega, T, B⟩
      case round =>
        clear T B
        obtain ⟨W, dk, rfl, hW1, hW2, hkx, T1, B1⟩ := hrel
        by_cases hlt : W < n
        · have hltz : (W : Int) < (n : Int) := by omega
          go_wp2
          go_loopg [7, 8] n (fun kx s t wr => ∃ (A : Nat) (dk : Array α), s = .int .i64 A ∧ t = .int .i64 ((A : Int) + 2 * (W : Int)) ∧ A ≤ n ∧ n - A ≤ kx ∧ Aside (SWK enc k w0 blk off dk wr) ∧ Aside (Stab.Blks (ltOf cf) tag d0 n (2 * W) A W dk))
          case atStart => exact ⟨0, dk, rfl, by first | go_num | (congr 1; omega), Nat.zero_le _, by omega, T1, B1.out.start (by omega)⟩
          case round =>
            clear T1 B1
            obtain ⟨A, dj, rfl, rfl, hA, hkx, S1, H1⟩ := hrel
            have hsk : dj.size = n := H1.out.size.trans HN.out.symm
            by_cases hle : A + 2 * W ≤ n
            · have hlez : (A : Int) + 2 * (W : Int) ≤ (n : Int) := by omega
              go_wp2_with fail
              have g1 := H1.out.first (by omega) (by omega)
              have g2 := H1.out.second (b := A + 2 * W) (by omega) (by omega)
              have cc := MER.out A (A + W) (A + 2 * W) dj wr (by have := HN.out; omega) S1.out (g1.pre g2 (fun x y q1 q2 => HT.out x y q1 (by have := HN.out; omega))) (by omega) (by omega) (by omega) (by omega)
              rw [hsk, show (((A + 2 * W : Nat)) : Int) = (A : Int) + 2 * (W : Int) by omega, show (((A + W : Nat)) : Int) = (A : Int) + (W : Int) by omega] at cc
              refine cc.mono ?_
              clear cc
              rintro e w' ⟨rfl, d', T2, P2⟩
              have T : Aside _ := T2
              have B : Aside (Stab.Blks (ltOf cf) tag d0 n (2 * W) (A + 2 * W) W d') := H1.out.next (k := 2) (by omega) rfl hle (by have := HN.out; omega) P2 (g1.join g2 P2 (by omega) (by omega) (by omega))
              clear T2 P2 S1 H1 g1 g2
              go_wp2
              go_roundg (n - (A + 2 * W))
              case measure => omega
              case rel => exact ⟨A + 2 * W, d', by first | go_num | (congr 1; omega), by first | go_num | (congr 1; omega), by omega, Nat.le_refl _, T, B⟩
            · have hlez : ¬ (A : Int) + 2 * (W : Int) ≤ (n : Int) := by omega
              by_cases hm : A + W < n
              · have hmz : (A : Int) + (W : Int) < (n : Int) := by omega
                go_wp2_with fail
                have g1 := H1.out.first (by omega) (by omega)
                have g2 := H1.out.second (b := n) hm (by omega)
                have cc := MER.out A (A + W) n dj wr (by have := HN.out; omega) S1.out (g1.pre g2 (fun x y q1 q2 => HT.out x y q1 (by have := HN.out; omega))) (by omega) (by omega) (by omega) (by omega)
                rw [hsk, show (((A + W : Nat)) : Int) = (A : Int) + (W : Int) by omega] at cc
                refine cc.mono ?_
                clear cc
                rintro e w' ⟨rfl, d', T2, P2⟩
                have T : Aside _ := T2
                have B : Aside (Stab.Full (ltOf cf) tag d0 n (2 * W) d') := H1.out.last hA (by omega) (by have := HN.out; omega) P2 (g1.join g2 P2 (by omega) (by omega) (by omega))
                clear T2 P2 S1 H1 g1 g2
                go_wp2
                go_roundg (n - 2 * W)
                case measure => omega
                case rel => exact ⟨2 * W, d', by first | go_num | (congr 1; omega), by omega, by omega, Nat.le_refl _, T, B⟩
              · have hmz : ¬ (A : Int) + (W : Int) < (n : Int) := by omega
                have g1 := H1.out.only hA (by omega)
                have B : Aside (Stab.Full (ltOf cf) tag d0 n (2 * W) dj) := H1.out.last hA (by omega) (by have := HN.out; omega) ⟨permIn_refl _ _ _, g1.sort⟩ g1
                clear g1 H1
                go_wp2
                go_roundg (n - 2 * W)
                case measure => omega
                case rel => exact ⟨2 * W, dj, by first | go_num | (congr 1; omega), by omega, by omega, Nat.le_refl _, S1, B⟩
        · have hltz : ¬ (W : Int) < (n : Int) := by omega
          go_wp2
          go_end0
          exact ⟨rfl, dk, T1.out, B1.out.perm, B1.out.done (by omega)⟩

set_option maxHeartbeats 1000000 in
theorem sortStable_any (f34 : P.funcs[72]? = some Try.f72) (L : StLays P k) (enc : α → List Value) (cf : α → α → Int) (tag : α → Int) (hO : SWO (ltOf cf)) (g : Nat) (cb : Array Value) (blk off cap : Nat) (d0 : Array α) (w0 : World)
    (eg : ∀ args w, (callFunc g args).run P w = .ok (.enter g args) w) (hcmp0 : CmpLays P g cb enc k cf blk off d0.size w0) (R : RowK enc k w0 blk off d0) (w : World) (S : SWK enc k w0 blk off d0 w) (ht : ∀ x y, x < y → y < d0.size → tag d0[x]! < tag d0[y]!) (hsz : d0.size < 1152921504606846976) :
    Calls P 72 #[.slice (some ⟨blk, off, none⟩) d0.size cap, .func (.func g) #[] cb] w fun e w' => e = .returned (.tuple #[]) ∧ ∃ d', SWK enc k w0 blk off d' w' ∧ Stab.Post (ltOf cf) tag 0 d0.size d0 d' := by
  have cc := stable_any L enc cf tag hO g cb blk off cap d0 w0 eg hcmp0 R w S ht hsz
  have e38 : ∀ args w, (callFunc 92 args).run P w = .ok (.enter 92 args) w := enters_of L.f38 (by kernel_rfl) rfl
  have mixed := L.mixed; have t0 := L.t0; have a0 := L.a0; have z0 := L.z0; have v0 := L.v0; have t3 := L.t3; have a3 := L.a3; have z3 := L.z3; have v3 := L.v3; have t4 := L.t4; have a4 := L.a4; have z4 := L.z4; have v4 := L.v4; have t48 := L.t48; have a48 := L.a48; have z48 := L.z48; have v48 := L.v48; have t60 := L.t60; have a60 := L.a60; have z60 := L.z60; have v60 := L.v60; have t65 := L.t65; have a65 := L.a65; have z65 := L.z65; have v65 := L.v65; have aE := L.aE; have zE := L.zE
  have u0 := run_underlying L.t0; have u3 := run_underlying L.t3; have u4 := run_underlying L.t4; have u48 := run_underlying L.t48; have u60 := run_underlying L.t60
  clear S ht hcmp0
  go_enter f34, Try.ntmps72
  go_wp2_with fail
  refine cc.mono ?_
  rintro e w' ⟨rfl, d', T2, P2⟩
  have T : Aside _ := T2
  have B : Aside _ := P2
  clear T2 P2
  go_wp2
  go_end0
  exact ⟨rfl, d', T.out, B.out⟩
end Go.Proofs.Ytjfifaooimgbaaa
/- The walks of the closures. -/
namespace Go.Proofs.Ytjfifaooimgbaaa
open Go.Shelf Go.RowKit Go.Lib Go.Sort

def cmpI (x y : Int) : Int := if x < y then -1 else if y < x then 1 else 0

set_option maxHeartbeats 400000 in
theorem isNaN_any (x : Int) (w : World) : Calls Try.prog 74 #[.int .i64 x] w fun e w' => e = .returned (.bool false) ∧ w' = w := by
  go_enter Try.func74, Try.ntmps74
  go_wp2
  go_ret
  exact ⟨by simp, rfl⟩

set_option maxHeartbeats 400000 in
theorem compare_any (x y : Int) (w : World) : Calls Try.prog 54 #[.int .i64 x, .int .i64 y] w fun e w' => e = .returned (.int .i64 (cmpI x y)) ∧ w' = w := by
  go_enter Try.func54, Try.ntmps54
  go_wp2_with fail
  refine (isNaN_any x w).mono ?_
  rintro e w' ⟨rfl, rfl⟩
  go_wp2_with fail
  refine (isNaN_any y _).mono ?_
  rintro e w' ⟨rfl, rfl⟩
  by_cases h1 : x < y
  · go_wp2
    go_ret
    exact ⟨by rw [cmpI, if_pos (by omega)]; rfl, rfl⟩
  · by_cases h2 : y < x
    · go_wp2
      go_ret
      exact ⟨by rw [cmpI, if_neg (by omega), if_pos (by omega)]; rfl, rfl⟩
    · go_wp2
      go_ret
      exact ⟨by rw [cmpI, if_neg (by omega), if_neg (by omega)]; rfl, rfl⟩

set_option maxHeartbeats 400000 in
theorem better0_any (x y : Int) (w : World) : Calls Try.prog 53 #[.int .i64 x, .int .i64 y] w fun e w' => e = .returned (.int .i64 (cmpI y x)) ∧ w' = w := by
  have hc := compare_any y x w
  generalize cmpI y x = r at hc ⊢
  go_enter Try.func53, Try.ntmps53
  go_wp2_with fail
  refine hc.mono ?_
  rintro e w' ⟨rfl, rfl⟩
  go_wp2
  go_ret
  exact ⟨rfl, rfl⟩

set_option maxHeartbeats 400000 in
theorem better1_any (x y : Int) (w : World) : Calls Try.prog 55 #[.int .i64 x, .int .i64 y] w fun e w' => e = .returned (.int .i64 (cmpI x y)) ∧ w' = w := by
  have hc := compare_any x y w
  generalize cmpI x y = r at hc ⊢
  go_enter Try.func55, Try.ntmps55
  go_wp2_with fail
  refine hc.mono ?_
  rintro e w' ⟨rfl, rfl⟩
  go_wp2
  go_ret
  exact ⟨rfl, rfl⟩

/-- the comparison that 'better' makes of two prices: function g. -/
def BetterAt (g : Nat) (c : Int → Int → Int) : Prop := (∀ args w, (callFunc g args).run Try.prog w = .ok (.enter g args) w) ∧ ∀ x y w, Calls Try.prog g #[.int .i64 x, .int .i64 y] w fun e w' => e = .returned (.int .i64 (c x y)) ∧ w' = w

theorem better0_at : BetterAt 53 (fun x y => cmpI y x) := ⟨enters_of Try.func53 (by kernel_rfl) rfl, fun x y w => better0_any x y w⟩
theorem better1_at : BetterAt 55 cmpI := ⟨enters_of Try.func55 (by kernel_rfl) rfl, fun x y w => better1_any x y w⟩

set_option maxHeartbeats 400000 in
theorem cmpO_any (g : Nat) (c : Int → Int → Int) (hb : BetterAt g c) (x y : Int × Int) (B : Nat) (w : World) (hB : B < w.heap.size) (hc : w.cell? ⟨B, 0, none⟩ = some (.func (.func g) #[] #[])) :
    Calls Try.prog 73 #[.agg #[.int .i64 x.1, .int .i64 x.2], .agg #[.int .i64 y.1, .int .i64 y.2], .pointer (some ⟨B, 0, none⟩)] w fun e w' => e = .returned (.int .i64 (c x.2 y.2)) ∧ ∃ q os, w' = grow (w.drewN q) os := by
  have eg := hb.1
  have hk := hb.2 x.2 y.2
  generalize c x.2 y.2 = r at hk ⊢
  clear hb
  go_enter Try.func73, Try.ntmps73
  go_wp2_with fail
  refine (hk _).mono ?_
  rintro e w' ⟨rfl, rfl⟩
  go_wp2
  go_ret
  exact ⟨rfl, 0, _, by rw [alloc_eq_grow, alloc_eq_grow, grow_grow]; rfl⟩

theorem cmpLays_of (g : Nat) (c : Int → Int → Int) (hb : BetterAt g c) (B blk off size : Nat) (w : World) (hB : B < w.heap.size) (hne : B ≠ blk) (hc : w.cell? ⟨B, 0, none⟩ = some (.func (.func g) #[] #[])) :
    CmpLays Try.prog 73 #[.pointer (some ⟨B, 0, none⟩)] encO 2 (fun x y => c x.2 y.2) blk off size w := by
  intro m os dk _ x y
  have h1 : B < (sortWorldK encO 2 w blk off m dk os).heap.size := Nat.lt_of_lt_of_le hB (size_sortWorldK_c encO 2 w blk off m dk os)
  have h2 : (sortWorldK encO 2 w blk off m dk os).cell? ⟨B, 0, none⟩ = some (.func (.func g) #[] #[]) := by
    unfold sortWorldK
    rw [cell?_grow _ _ _ (by rw [size_putRowK]; exact hB), cell?_putRowK_other _ _ _ _ _ _ _ hne]
    exact hc
  exact cmpO_any g c hb x y B _ h1 h2

theorem e35 : ∀ args w, (callFunc 73 args).run Try.prog w = .ok (.enter 73 args) w := enters_of Try.func73 (by kernel_rfl) rfl

/-- at no order there is nothing to sort. -/
theorem sortNone_any (cb : Array Value) (w : World) : Calls Try.prog 72 #[.slice none 0 0, .func (.func 73) #[] cb] w fun e w' => e = .returned (.tuple #[]) ∧ ∃ q os, w' = grow (w.drewN q) os := by
  have h39 : ∀ W, Calls Try.prog 111 #[.slice none 0 0, .int .i64 0, .int .i64 0, .func (.func 73) #[] cb] W fun e w' => e = .returned (.tuple #[]) ∧ w' = W := by
    intro W
    go_enter Try.func111, Try.ntmps111
    go_wp2
    go_loopg [8] 0 (fun kx s wr => s = .int .i64 1 ∧ wr = W)
    case atStart => exact ⟨rfl, rfl⟩
    case round =>
      obtain ⟨rfl, rfl⟩ := hrel
      go_wp2
      go_end0
      exact ⟨rfl, rfl⟩
  have h38 : ∀ W, Calls Try.prog 92 #[.slice none 0 0, .int .i64 0, .func (.func 73) #[] cb] W fun e w' => e = .returned (.tuple #[]) ∧ w' = W := by
    intro W
    go_enter Try.func92, Try.ntmps92
    go_wp2
    go_loopg [7, 8] 0 (fun kx s t wr => s = .int .i64 0 ∧ t = .int .i64 20 ∧ wr = W)
    case atStart => exact ⟨rfl, rfl, rfl⟩
    case round =>
      obtain ⟨rfl, rfl, rfl⟩ := hrel
      go_wp2_with fail
      refine (h39 _).mono ?_
      rintro e w' ⟨rfl, rfl⟩
      go_wp2
      go_loopg [6] 0 (fun kx s wr => s = .int .i64 20 ∧ wr = w')
      case atStart => exact ⟨rfl, rfl⟩
      case round =>
        obtain ⟨rfl, rfl⟩ := hrel
        go_wp2
        go_end0
        exact ⟨rfl, rfl⟩
  clear h39
  go_enter Try.func72, Try.ntmps72
  go_wp2_with fail
  refine (h38 _).mono ?_
  rintro e w' ⟨rfl, rfl⟩
  go_wp2
  go_end0
  exact ⟨rfl, 0, #[], by rw [grow_empty]; rfl⟩
end Go.Proofs.Ytjfifaooimgbaaa
/- Plain mathematics of a clearing: no program in this text. -/
namespace Go.Proofs.Ytjfifaooimgbaaa.Clr
open Go.Sort

/-- is b an order of this side that may be? -/
def okB (side : Int) (b : Int × Int) : Bool := b.1 == side && (decide (1 ≤ b.2) && decide (b.2 < 1000))

/-- the orders of a side among the first k, each with its place. -/
def candTo (side : Int) (l : List (Int × Int)) : Nat → List (Int × Int)
  | 0 => []
  | k + 1 => if okB side (l.getD k (0, 0)) = true then candTo side l k ++ [((k : Int), (l.getD k (0, 0)).2)] else candTo side l k

theorem candTo_hit {side : Int} {l : List (Int × Int)} {k : Nat} (h : okB side (l.getD k (0, 0)) = true) : candTo side l (k + 1) = candTo side l k ++ [((k : Int), (l.getD k (0, 0)).2)] := by
  rw [candTo, if_pos h]
theorem candTo_miss {side : Int} {l : List (Int × Int)} {k : Nat} (h : okB side (l.getD k (0, 0)) = false) : candTo side l (k + 1) = candTo side l k := by
  rw [candTo, if_neg (by rw [h]; decide)]
theorem candTo_le (side : Int) (l : List (Int × Int)) : ∀ k, (candTo side l k).length ≤ k
  | 0 => Nat.le_refl _
  | k + 1 => by
    have := candTo_le side l k
    rw [candTo]; split
    · simp; omega
    · omega
theorem candTo_place (side : Int) (l : List (Int × Int)) : ∀ k, ∀ x ∈ candTo side l k, 0 ≤ x.1 ∧ x.1 < (k : Int) ∧ 1 ≤ x.2 ∧ x.2 < 1000 ∧ x.2 = (l.getD x.1.toNat (0, 0)).2 ∧ okB side (l.getD x.1.toNat (0, 0)) = true
  | 0 => by intro x hx; simp [candTo] at hx
  | k + 1 => by
    intro x hx
    have ih := candTo_place side l k
    rw [candTo] at hx; split at hx
    · rename_i h
      rcases List.mem_append.1 hx with hx | hx
      · have := ih x hx
        exact ⟨this.1, by omega, this.2.2⟩
      · simp only [List.mem_singleton] at hx
        subst hx
        refine ⟨by simp, by simp; omega, ?_, ?_, ?_, ?_⟩
        · simp only [okB, Bool.and_eq_true, decide_eq_true_eq] at h; exact h.2.1
        · simp only [okB, Bool.and_eq_true, decide_eq_true_eq] at h; exact h.2.2
        · simp
        · simpa using h
    · have := ih x hx
      exact ⟨this.1, by omega, this.2.2⟩
theorem candTo_sorted (side : Int) (l : List (Int × Int)) : ∀ k, (candTo side l k).Pairwise (fun x y => x.1 < y.1)
  | 0 => List.Pairwise.nil
  | k + 1 => by
    have ih := candTo_sorted side l k
    rw [candTo]; split
    · rw [List.pairwise_append]
      refine ⟨ih, List.pairwise_singleton _ _, fun x hx y hy => ?_⟩
      simp only [List.mem_singleton] at hy
      subst hy
      exact (candTo_place side l k x hx).2.1
    · exact ih
def cand (side : Int) (l : List (Int × Int)) : List (Int × Int) := candTo side l l.length
end Go.Proofs.Ytjfifaooimgbaaa.Clr
/- Small things on orders in memory. -/
namespace Go.Proofs.Ytjfifaooimgbaaa
open Go.Shelf Go.RowKit Go.Lib Go.Sort

theorem allowed_yes (p : Int) (w : World) (h1 : 1 ≤ p) (h2 : p < 1000) : Calls Try.prog 71 #[.int .i64 p] w fun e w' => e = .returned (.bool true) ∧ w' = w := by
  go_enter Try.func71, Try.ntmps71
  go_wp2
  go_ret
  exact ⟨rfl, rfl⟩
theorem allowed_no (p : Int) (w : World) (h : p < 1 ∨ 1000 ≤ p) : Calls Try.prog 71 #[.int .i64 p] w fun e w' => e = .returned (.bool false) ∧ w' = w := by
  rcases h with h | h
  · go_enter Try.func71, Try.ntmps71
    go_wp2
    go_ret
    exact ⟨rfl, rfl⟩
  · have h' : 1 ≤ p := by omega
    have h2 : decide (p < 1000) = false := decide_eq_false (by omega)
    go_enter Try.func71, Try.ntmps71
    go_wp2
    go_ret
    exact ⟨by rw [← h2]; rfl, rfl⟩

/-- the orders l lie in w, at a (which may be nil, if there is none). -/
def BidsAt (w : World) (a : Option Addr) (l : List (Int × Int)) : Prop := ∀ i, i < l.length → ∃ b o, a = some ⟨b, o, none⟩ ∧ b < w.heap.size ∧ w.cell? ⟨b, o + i * 2, none⟩ = some (.int .i64 (l.getD i (0, 0)).1) ∧ w.cell? ⟨b, o + i * 2 + 1, none⟩ = some (.int .i64 (l.getD i (0, 0)).2)

def flatO (s : List (Int × Int)) : List Value := s.flatMap encO
theorem flatO_append (s t : List (Int × Int)) : flatO (s ++ t) = flatO s ++ flatO t := List.flatMap_append
theorem cell_two_next (w : World) (o : Obj) (x y : Value) (t : TypeId) : ∀ j u, [x, y][j]? = some u → ((w.alloc o).alloc (.cells #[x, y] t)).cell? ((⟨w.heap.size + 1, 0, none⟩ : Addr).add j) = some u := by
  intro j u hj
  match j, hj with
  | 0, hj => simp at hj; subst hj; simp [Addr.add]
  | 1, hj => simp at hj; subst hj; simp [Addr.add]
theorem Try.info139 : (Try.prog.info? 139).map (fun i => (i.zero, i.size, i.bytes)) = some (some (.agg #[.int .i64 0, .int .i64 0]), 2, 16) := by kernel_rfl

end Go.Proofs.Ytjfifaooimgbaaa
