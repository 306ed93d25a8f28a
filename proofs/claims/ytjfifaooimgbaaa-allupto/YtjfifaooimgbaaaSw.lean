import Derived.Test.YtjfifaooimgbaaaRows
import Derived.Test.YtjfifaooimgbaaaStab
import Derived.WalkKit
import Derived.WalkSpells
import Derived.WalkLawsBesides
import Derived.Shelf.SlSortCmp.KitK
import Derived.Sort.WalkB2
import Derived.Sort.WalkB12
import Derived.Deep.LoopGhost
/- The walks of the stable sort's small functions: over a program that bears them, so that the element's size stays a letter. -/
namespace Go.Proofs.Ytjfifaooimgbaaa
open Go.Shelf Go.RowKit Go.Lib Go.Sort

/-- an order's two cells: its place, its price. -/
def encO (x : Int × Int) : List Value := [.int .i64 x.1, .int .i64 x.2]

/-- What the sort's functions lean on of the program: k is the number of an element's cells. -/
structure StLays (P : Program) (k : Nat) : Prop where
  mixed : P.follows .mixedOrders = true
  f38 : P.funcs[92]? = some Try.f92
  f39 : P.funcs[111]? = some Try.f111
  f40 : P.funcs[112]? = some Try.f112
  f41 : P.funcs[131]? = some Try.f131
  f42 : P.funcs[134]? = some Try.f134
  t0 : P.underlying 0 = some (TypeDesc.tuple #[])
  a0 : ∀ w, (isAgg 0).run P w = .ok false w
  z0 : ∀ w, (Go.sizeOf 0).run P w = .ok 1 w
  v0 : ∀ w, (zeroValue 0).run P w = .ok (Value.tuple #[]) w
  t3 : P.underlying 3 = some (TypeDesc.int IntKind.i64)
  a3 : ∀ w, (isAgg 3).run P w = .ok false w
  z3 : ∀ w, (Go.sizeOf 3).run P w = .ok 1 w
  v3 : ∀ w, (zeroValue 3).run P w = .ok (Value.int IntKind.i64 0) w
  t4 : P.underlying 4 = some (TypeDesc.bool)
  a4 : ∀ w, (isAgg 4).run P w = .ok false w
  z4 : ∀ w, (Go.sizeOf 4).run P w = .ok 1 w
  v4 : ∀ w, (zeroValue 4).run P w = .ok (Value.bool false) w
  t48 : P.underlying 107 = some (TypeDesc.slice 139)
  a48 : ∀ w, (isAgg 107).run P w = .ok false w
  z48 : ∀ w, (Go.sizeOf 107).run P w = .ok 1 w
  v48 : ∀ w, (zeroValue 107).run P w = .ok (Value.slice none 0 0) w
  t60 : P.underlying 99 = some (TypeDesc.int IntKind.u64)
  a60 : ∀ w, (isAgg 99).run P w = .ok false w
  z60 : ∀ w, (Go.sizeOf 99).run P w = .ok 1 w
  v60 : ∀ w, (zeroValue 99).run P w = .ok (Value.int IntKind.u64 0) w
  t65 : P.underlying 141 = some (TypeDesc.func #[139, 139] #[3] false)
  a65 : ∀ w, (isAgg 141).run P w = .ok false w
  z65 : ∀ w, (Go.sizeOf 141).run P w = .ok 1 w
  v65 : ∀ w, (zeroValue 141).run P w = .ok (Value.nilFunc) w
  aE : ∀ w, (isAgg 139).run P w = .ok true w
  zE : ∀ w, (Go.sizeOf 139).run P w = .ok k w

theorem stLays : StLays Try.prog 2 where
  mixed := by kernel_rfl
  f38 := Try.func92
  f39 := Try.func111
  f40 := Try.func112
  f41 := Try.func131
  f42 := Try.func134
  t0 := Try.underlying0
  a0 := Try.isAgg0
  z0 := Try.sizeOf0
  v0 := Try.zeroValue0
  t3 := Try.underlying3
  a3 := Try.isAgg3
  z3 := Try.sizeOf3
  v3 := Try.zeroValue3
  t4 := Try.underlying4
  a4 := Try.isAgg4
  z4 := Try.sizeOf4
  v4 := Try.zeroValue4
  t48 := Try.underlying107
  a48 := Try.isAgg107
  z48 := Try.sizeOf107
  v48 := Try.zeroValue107
  t60 := Try.underlying99
  a60 := Try.isAgg99
  z60 := Try.sizeOf99
  v60 := Try.zeroValue99
  t65 := Try.underlying141
  a65 := Try.isAgg141
  z65 := Try.sizeOf141
  v65 := Try.zeroValue141
  aE := Try.isAgg139
  zE := Try.sizeOf139

variable {P : Program} {k : Nat} {α : Type} [Inhabited α]

set_option maxHeartbeats 1000000 in
set_option maxRecDepth 100000 in
theorem swapRange_any (L : StLays P k) (enc : α → List Value) (g : Nat) (cb : Array Value) (blk off cap a b n : Nat) (d0 d : Array α) (w0 w : World)
    (R : RowK enc k w0 blk off d0) (hs : d0.size = d.size) (S : SWK enc k w0 blk off d w) (hab : a + n ≤ b) (hb : b + n ≤ d.size) (hsz : d.size < 4611686018427387904) :
    Calls P 134 #[.slice (some ⟨blk, off, none⟩) d.size cap, .int .i64 a, .int .i64 b, .int .i64 n, .func (.func g) #[] cb] w fun e w' => e = .returned (.tuple #[]) ∧ ∃ d', SWK enc k w0 blk off d' w' ∧ Stab.SwR d a b n n d' := by
  have mixed := L.mixed; have t0 := L.t0; have a0 := L.a0; have z0 := L.z0; have v0 := L.v0; have t3 := L.t3; have a3 := L.a3; have z3 := L.z3; have v3 := L.v3; have t4 := L.t4; have a4 := L.a4; have z4 := L.z4; have v4 := L.v4; have t48 := L.t48; have a48 := L.a48; have z48 := L.z48; have v48 := L.v48; have t60 := L.t60; have a60 := L.a60; have z60 := L.z60; have v60 := L.v60; have t65 := L.t65; have a65 := L.a65; have z65 := L.z65; have v65 := L.v65; have aE := L.aE; have zE := L.zE
  have S0 : Aside (SWK enc k w0 blk off d w) := S
  clear S
  go_enter L.f42, Try.ntmps134
  go_wp2
  go_loopg [10] n (fun kx s wr => ∃ (i : Nat) (dk : Array α), s = .int .i64 i ∧ i ≤ n ∧ n - i ≤ kx ∧ Aside (SWK enc k w0 blk off dk wr) ∧ Aside (Stab.SwR d a b n i dk))
  case atStart => exact ⟨0, d, rfl, by omega, by omega, S0, Stab.SwR.start d a b n⟩
  case round =>
    clear S0
    obtain ⟨i, dk, rfl, hi, hkx, S1, H1⟩ := hrel
    by_cases hlt : i < n
    · have hltz : (i : Int) < (n : Int) := by omega
      have hsk : dk.size = d.size := H1.out.size
      go_wp2_with fail
      have eas : ((a : Int) + (i : Int)).toNat = a + i := by omega
      have pas : (0 : Int) ≤ (a : Int) + (i : Int) := by omega
      have bas : (a : Int) + (i : Int) < (d.size : Int) := by omega
      have ras : IntKind.i64.wrap ((a : Int) + (i : Int)) = (a : Int) + (i : Int) := by rw [IntKind.wrap_i64]; omega
      have ecs : ((b : Int) + (i : Int)).toNat = b + i := by omega
      have pcs : (0 : Int) ≤ (b : Int) + (i : Int) := by omega
      have bcs : (b : Int) + (i : Int) < (d.size : Int) := by omega
      have rcs : IntKind.i64.wrap ((b : Int) + (i : Int)) = (b : Int) + (i : Int) := by rw [IntKind.wrap_i64]; omega
      have S2 : Aside (SWK enc k w0 blk off (swp dk (a + i) (b + i)) ((wr.drew.setCells blk (off + (a + i) * k) (enc dk[b + i]!)).setCells blk (off + (b + i) * k) (enc dk[a + i]!))) := S1.out.swapped R (a + i) (b + i) (by omega) (by omega)
      have lsa := S1.out.ld1 R (by omega) P (a + i) (by omega)
      have lsb := S1.out.ld1 R (by omega) P (b + i) (by omega)
      have ssa := S1.out.st1 R (by omega) P (a + i) (by omega) dk[b + i]!
      have ssb := S1.out.st2 R (by omega) P (a + i) (b + i) (by omega) (by omega) dk[b + i]! dk[a + i]!
      have nsa : (enc dk[a + i]!).length = k := R.hk _
      have nsb : (enc dk[b + i]!).length = k := R.hk _
      generalize enc dk[a + i]! = cIs at S2 lsa ssb nsa
      generalize enc dk[b + i]! = cJs at S2 lsb ssa ssb nsb
      clear S1
      go_wp2_with fail
      go_big_region_o
      clear lsa lsb ssa ssb
      generalize (wr.drew.setCells blk (off + (a + i) * k) cJs).setCells blk (off + (b + i) * k) cIs = w2 at S2 ⊢
      go_wp2
      go_roundg (n - (i + 1))
      case measure => omega
      case rel => exact ⟨i + 1, swp dk (a + i) (b + i), by go_num, by omega, Nat.le_refl _, S2, H1.out.step hab hb hlt⟩
    · have hltz : ¬ (i : Int) < (n : Int) := by omega
      have e : i = n := by omega
      subst e
      go_wp2
      go_end0
      exact ⟨rfl, dk, S1.out, H1.out⟩

set_option maxHeartbeats 1000000 in
set_option maxRecDepth 100000 in
theorem rotate_any (L : StLays P k) (enc : α → List Value) (g : Nat) (cb : Array Value) (blk off cap a m b : Nat) (d0 d : Array α) (w0 w : World)
    (R : RowK enc k w0 blk off d0) (hs : d0.size = d.size) (S : SWK enc k w0 blk off d w) (ham : a < m) (hmb : m < b) (hb : b ≤ d.size) (hsz : d.size < 4611686018427387904) :
    Calls P 131 #[.slice (some ⟨blk, off, none⟩) d.size cap, .int .i64 a, .int .i64 m, .int .i64 b, .func (.func g) #[] cb] w fun e w' => e = .returned (.tuple #[]) ∧ ∃ d', SWK enc k w0 blk off d' w' ∧ Stab.Rot d a m b d' := by
  have sw := fun (a b n : Nat) (dk : Array α) (W : World) (hs : d0.size = dk.size) => swapRange_any L enc g cb blk off cap a b n d0 dk w0 W R hs
  have SW : Aside _ := sw
  clear sw
  have e42 : ∀ args w, (callFunc 134 args).run P w = .ok (.enter 134 args) w := enters_of L.f42 (by kernel_rfl) rfl
  have mixed := L.mixed; have t0 := L.t0; have a0 := L.a0; have z0 := L.z0; have v0 := L.v0; have t3 := L.t3; have a3 := L.a3; have z3 := L.z3; have v3 := L.v3; have t4 := L.t4; have a4 := L.a4; have z4 := L.z4; have v4 := L.v4; have t48 := L.t48; have a48 := L.a48; have z48 := L.z48; have v48 := L.v48; have t60 := L.t60; have a60 := L.a60; have z60 := L.z60; have v60 := L.v60; have t65 := L.t65; have a65 := L.a65; have z65 := L.z65; have v65 := L.v65; have aE := L.aE; have zE := L.zE
  have S0 : Aside (SWK enc k w0 blk off d w) := S
  clear S
  go_enter L.f41, Try.ntmps131
  go_wp2
  go_loopg [10, 11] (b - a) (fun kx s t wr => ∃ (i j : Nat) (dk : Array α), s = .int .i64 i ∧ t = .int .i64 j ∧ 0 < i ∧ 0 < j ∧ a + i ≤ m ∧ m + j ≤ b ∧ i + j ≤ kx ∧ dk.size = d.size ∧ Aside (SWK enc k w0 blk off dk wr) ∧ Aside (Stab.RotR d a m b i j dk))
  case atStart => exact ⟨m - a, b - m, d, by first | go_num | (congr 1; omega), by first | go_num | (congr 1; omega), by omega, by omega, by omega, by omega, by omega, rfl, S0, Stab.RotR.start d a m b ham hmb⟩
  case round =>
    clear S0
    obtain ⟨i, j, dk, rfl, rfl, hi, hj, him, hjm, hkx, hsk, S1, H1⟩ := hrel
    rcases Nat.lt_trichotomy i j with hlt | heq | hgt
    · have hne : ((i : Int) == (j : Int)) = false := beq_eq_false_iff_ne.2 (by omega)
      have hngt : ¬ (j : Int) < (i : Int) := by omega
      go_wp2_with fail
      rw [show (m : Int) - (i : Int) = ((m - i : Nat) : Int) by omega, show (m : Int) + (j : Int) - (i : Int) = ((m + j - i : Nat) : Int) by omega, show d.size = dk.size from hsk.symm]
      refine (SW.out (m - i) (m + j - i) i dk wr (by omega) S1.out (by omega) (by omega) (by omega)).mono ?_
      rintro e w' ⟨rfl, d', S2, H2⟩
      have T2 : Aside _ := S2
      have G2 : Aside _ := H1.out.small (by omega) hlt H2
      have hs2 : d'.size = dk.size := H2.size
      clear S2 H2 S1 H1
      go_wp2
      go_roundg (i + (j - i))
      case measure => omega
      case rel => exact ⟨i, j - i, d', rfl, by first | go_num | (congr 1; omega), by omega, by omega, by omega, by omega, Nat.le_refl _, by omega, T2, G2⟩
    · subst heq
      have hne : ((i : Int) == (i : Int)) = true := by simp
      go_wp2_with fail
      rw [show (m : Int) - (i : Int) = ((m - i : Nat) : Int) by omega, show d.size = dk.size from hsk.symm]
      refine (SW.out (m - i) m i dk wr (by omega) S1.out (by omega) (by omega) (by omega)).mono ?_
      rintro e w' ⟨rfl, d', S2, H2⟩
      have T2 : Aside _ := S2
      have G2 : Aside _ := H1.out.done (by omega) H2
      clear S2 H2 S1 H1
      go_wp2
      go_end0
      exact ⟨rfl, d', T2.out, G2.out⟩
    · have hne : ((i : Int) == (j : Int)) = false := beq_eq_false_iff_ne.2 (by omega)
      have hngt : (j : Int) < (i : Int) := by omega
      go_wp2_with fail
      rw [show (m : Int) - (i : Int) = ((m - i : Nat) : Int) by omega, show d.size = dk.size from hsk.symm]
      refine (SW.out (m - i) m j dk wr (by omega) S1.out (by omega) (by omega) (by omega)).mono ?_
      rintro e w' ⟨rfl, d', S2, H2⟩
      have T2 : Aside _ := S2
      have G2 : Aside _ := H1.out.big (by omega) hgt H2
      have hs2 : d'.size = dk.size := H2.size
      clear S2 H2 S1 H1
      go_wp2
      go_roundg (i - j + j)
      case measure => omega
      case rel => exact ⟨i - j, j, d', by first | go_num | (congr 1; omega), rfl, by omega, by omega, by omega, by omega, Nat.le_refl _, by omega, T2, G2⟩

set_option maxHeartbeats 4000000 in
set_option maxRecDepth 1000000 in
theorem insertion_any (L : StLays P k) (enc : α → List Value) (cf : α → α → Int) (tag : α → Int) (hO : SWO (ltOf cf)) (g : Nat) (cb : Array Value) (blk off cap a b : Nat) (d0 d : Array α) (w0 w : World)
    (eg : ∀ args w, (callFunc g args).run P w = .ok (.enter g args) w) (hcmp0 : CmpLays P g cb enc k cf blk off d0.size w0)
    (R : RowK enc k w0 blk off d0) (hs : d0.size = d.size) (S : SWK enc k w0 blk off d w) (ht : ∀ x y, a ≤ x → x < y → y < b → tag d[x]! < tag d[y]!) (hab : a ≤ b) (hb : b ≤ d.size) (hsz : d.size < 4611686018427387904) :
    Calls P 111 #[.slice (some ⟨blk, off, none⟩) d.size cap, .int .i64 a, .int .i64 b, .func (.func g) #[] cb] w fun e w' => e = .returned (.tuple #[]) ∧ ∃ d', SWK enc k w0 blk off d' w' ∧ Stab.Post (ltOf cf) tag a b d d' := by
  have mixed := L.mixed; have t0 := L.t0; have a0 := L.a0; have z0 := L.z0; have v0 := L.v0; have t3 := L.t3; have a3 := L.a3; have z3 := L.z3; have v3 := L.v3; have t4 := L.t4; have a4 := L.a4; have z4 := L.z4; have v4 := L.v4; have t48 := L.t48; have a48 := L.a48; have z48 := L.z48; have v48 := L.v48; have t60 := L.t60; have a60 := L.a60; have z60 := L.z60; have v60 := L.v60; have t65 := L.t65; have a65 := L.a65; have z65 := L.z65; have v65 := L.v65; have aE := L.aE; have zE := L.zE
  have S0 : Aside (SWK enc k w0 blk off d w) := S
  have hcmp : Aside _ := hcmp0
  have HT : Aside _ := ht
  clear S hcmp0 ht
  go_enter L.f39, Try.ntmps111
  go_wp2
  go_loopg [8] (b - a) (fun g1 vi wr => ∃ (i : Nat) (dk : Array α), vi = .int .i64 i ∧ a < i ∧ i ≤ b + 1 ∧ b + 1 - i ≤ g1 + 1 ∧ dk.size = d.size ∧ Aside (SWK enc k w0 blk off dk wr) ∧ Aside (Stab.InsO (ltOf cf) tag d a b i dk))
  case atStart => exact ⟨a + 1, d, by go_num, by omega, by omega, by omega, rfl, S0, Stab.InsO.start d a b⟩
  case round =>
    clear S0
    obtain ⟨i, dk, rfl, hai, hib, hg1, hsk, S1, HO⟩ := hrel
    by_cases hlt : i < b
    · have hltz : (i : Int) < (b : Int) := by omega
      go_wp2
      go_loopg [9] i (fun g2 vj wr2 => ∃ (j : Nat) (dj : Array α), vj = .int .i64 j ∧ a ≤ j ∧ j ≤ i ∧ j ≤ g2 ∧ dj.size = d.size ∧ Aside (SWK enc k w0 blk off dj wr2) ∧ Aside (Stab.InsL (ltOf cf) tag d a b i j dj))
      case atStart => exact ⟨i, dk, rfl, by omega, Nat.le_refl _, Nat.le_refl _, hsk, S1, HO.out.inner HT.out hlt hb⟩
      case round =>
        clear S1 HO
        obtain ⟨j, dj, rfl, haj, hji, hg2, hsj, S1, HI⟩ := hrel
        by_cases hja : a < j
        · obtain ⟨jp, rfl⟩ : ∃ jp, j = jp + 1 := ⟨j - 1, by omega⟩
          have hjaz' : (a : Int) < (jp : Int) + 1 := by omega
          have hjaz : (a : Int) < ((jp + 1 : Nat) : Int) := by omega
          have S9 := S1
          have eac : ((jp : Int) + 1).toNat = jp + 1 := by omega
          have pac : (0 : Int) ≤ (jp : Int) + 1 := by omega
          have bac : (jp : Int) + 1 < (d.size : Int) := by omega
          have rac : IntKind.i64.wrap ((jp : Int) + 1) = (jp : Int) + 1 := by rw [IntKind.wrap_i64]; omega
          have ecc : ((jp : Int)).toNat = jp := by omega
          have pcc : (0 : Int) ≤ (jp : Int) := by omega
          have bcc : (jp : Int) < (d.size : Int) := by omega
          have rcc : IntKind.i64.wrap ((jp : Int)) = (jp : Int) := by rw [IntKind.wrap_i64]; omega
          obtain ⟨xc, hxc⟩ : ∃ x, dj[jp + 1]! = x := ⟨_, rfl⟩
          obtain ⟨yc, hyc⟩ : ∃ x, dj[jp]! = x := ⟨_, rfl⟩
          have lca := fun n os => S1.out.ld R (by omega) P (jp + 1) (by omega) n os
          have lcb := fun n os => S1.out.ld R (by omega) P (jp) (by omega) n os
          rw [hxc] at lca
          rw [hyc] at lcb
          have cc := fun n os => S1.out.cmp hcmp.out (by omega) xc yc n os
          have Gc := fun n os => S1.out.grown n os
          have Hc : Aside _ := Gc
          clear Gc
          have Xc : Aside (dj[jp + 1]! = xc ∧ dj[jp]! = yc) := ⟨hxc, hyc⟩
          clear hxc hyc S1
          by_cases hlv : cf xc yc < 0
          · go_wp2_with fail
            go_quiet_grown (first | (go_at_fn g; refine Calls.grown_of (cc _ _)))
            go_wp2_with fail
            clear lca lcb cc eac pac bac rac ecc pcc bcc rcc
            have S3 : Aside (SWK enc k w0 blk off dj (grow (wr.drewN nq) osq)) := Hc.out nq osq
            clear Hc S9
            generalize grow (wr.drewN nq) osq = wq at S3 ⊢
            have eas : ((jp : Int) + 1).toNat = jp + 1 := by omega
            have pas : (0 : Int) ≤ (jp : Int) + 1 := by omega
            have bas : (jp : Int) + 1 < (d.size : Int) := by omega
            have ras : IntKind.i64.wrap ((jp : Int) + 1) = (jp : Int) + 1 := by rw [IntKind.wrap_i64]; omega
            have ecs : ((jp : Int)).toNat = jp := by omega
            have pcs : (0 : Int) ≤ (jp : Int) := by omega
            have bcs : (jp : Int) < (d.size : Int) := by omega
            have rcs : IntKind.i64.wrap ((jp : Int)) = (jp : Int) := by rw [IntKind.wrap_i64]; omega
            have S2 : Aside (SWK enc k w0 blk off (swp dj (jp + 1) (jp)) ((wq.drew.setCells blk (off + (jp + 1) * k) (enc dj[jp]!)).setCells blk (off + (jp) * k) (enc dj[jp + 1]!))) := S3.out.swapped R (jp + 1) (jp) (by omega) (by omega)
            have lsa := S3.out.ld1 R (by omega) P (jp + 1) (by omega)
            have lsb := S3.out.ld1 R (by omega) P (jp) (by omega)
            have ssa := S3.out.st1 R (by omega) P (jp + 1) (by omega) dj[jp]!
            have ssb := S3.out.st2 R (by omega) P (jp + 1) (jp) (by omega) (by omega) dj[jp]! dj[jp + 1]!
            have nsa : (enc dj[jp + 1]!).length = k := R.hk _
            have nsb : (enc dj[jp]!).length = k := R.hk _
            generalize enc dj[jp + 1]! = cIs at S2 lsa ssb nsa
            generalize enc dj[jp]! = cJs at S2 lsb ssa ssb nsb
            clear S3
            go_wp2_with fail
            go_big_region_o
            clear lsa lsb ssa ssb
            generalize (wq.drew.setCells blk (off + (jp + 1) * k) cJs).setCells blk (off + (jp) * k) cIs = w2 at S2 ⊢
            go_wp2
            go_roundg jp
            case measure => omega
            case rel => exact ⟨jp, swp dj (jp + 1) jp, by first | rfl | go_num | (congr 1; omega), by omega, by omega, Nat.le_refl _, by rw [size_swp]; exact hsj, S2, HI.out.step (by omega) hji hlt hb (by rw [Xc.out.1, Xc.out.2]; exact decide_eq_true hlv)⟩
          · go_wp2_with fail
            go_quiet_grown (first | (go_at_fn g; refine Calls.grown_of (cc _ _)))
            go_wp2
            go_roundg (b - (i + 1))
            case measure => omega
            case rel => exact ⟨i + 1, dj, by go_num, by omega, by omega, by omega, hsj, Hc.out nq osq, HI.out.stop hO (by omega) hji hlt hb (Or.inr (by simp only [Nat.add_sub_cancel]; rw [Xc.out.1, Xc.out.2]; exact decide_eq_false (by omega)))⟩
        · have hjaz : decide ((j : Int) > (a : Int)) = false := decide_eq_false (by omega)
          have hjaz' : ¬ (a : Int) < (j : Int) := by omega
          have S2 : Aside (SWK enc k w0 blk off dj wr.drew) := S1.out.drew
          go_wp2_with fail
          go_big_region_o
          all_goals go_wp2
          go_roundg (b - (i + 1))
          case measure => omega
          case rel => exact ⟨i + 1, dj, by go_num, by omega, by omega, by omega, hsj, S2, HI.out.stop hO haj hji hlt hb (Or.inl (by omega))⟩
    · have hltz : ¬ (i : Int) < (b : Int) := by omega
      go_wp2
      go_end0
      exact ⟨rfl, dk, S1.out, HO.out.done (by omega)⟩
end Go.Proofs.Ytjfifaooimgbaaa
