import Derived.Test.YtjfifaooimgbaaaRows
import Derived.Test.YtjfifaooimgbaaaSw
import Derived.Laws.IdiomStrings
import Derived.Laws.Alloc2
/- Numbers in bytes, without a program. -/
namespace Go.Proofs.Ytjfifaooimgbaaa
/-- a number in so many bytes, the highest first. -/
def bytesOf (n : Nat) : Nat → List UInt8
  | 0 => []
  | m + 1 => UInt8.ofNat (n / 256 ^ m) :: bytesOf n m
theorem bytesOf_length (n : Nat) : ∀ m, (bytesOf n m).length = m
  | 0 => rfl
  | m + 1 => by rw [bytesOf, List.length_cons, bytesOf_length n m]
theorem bytesOf_get (n : Nat) : ∀ m j, j < m → (bytesOf n m)[j]? = some (UInt8.ofNat (n / 256 ^ (m - 1 - j)))
  | 0, j, h => by omega
  | m + 1, 0, _ => by simp [bytesOf]
  | m + 1, j + 1, h => by
    rw [bytesOf, List.getElem?_cons_succ, bytesOf_get n m j (by omega)]
    congr 4
    omega
theorem bytesOf_eq (n m : Nat) (l : List UInt8) (hl : l.length = m) (h : ∀ j, j < m → l[j]? = some (UInt8.ofNat (n / 256 ^ (m - 1 - j)))) : l = bytesOf n m := by
  apply List.ext_getElem?
  intro j
  by_cases hj : j < m
  · rw [h j hj, bytesOf_get n m j hj]
  · rw [List.getElem?_eq_none (by omega), List.getElem?_eq_none (by rw [bytesOf_length]; omega)]

def numFrom (n : Nat) : List UInt8 → Nat
  | [] => n
  | b :: r => numFrom (256 * n + b.toNat) r
def numOf (s : List UInt8) : Nat := numFrom 0 s
theorem numFrom_snoc (b : UInt8) : ∀ (l : List UInt8) (n : Nat), numFrom n (l ++ [b]) = 256 * numFrom n l + b.toNat
  | [], _ => rfl
  | c :: r, n => by rw [List.cons_append, numFrom, numFrom, numFrom_snoc b r]
theorem numFrom_ge : ∀ (l : List UInt8) (n : Nat), n ≤ numFrom n l
  | [], _ => Nat.le_refl _
  | c :: r, n => by
    rw [numFrom]
    exact Nat.le_trans (by omega) (numFrom_ge r _)
theorem numFrom_append : ∀ (l r : List UInt8) (n : Nat), numFrom n (l ++ r) = numFrom (numFrom n l) r
  | [], _, _ => rfl
  | c :: l, r, n => by rw [List.cons_append, numFrom, numFrom, numFrom_append l r]
theorem num_next (l : List UInt8) (i : Nat) (h : i < l.length) : numOf (l.take (i + 1)) = 256 * numOf (l.take i) + (l[i]).toNat := by
  unfold numOf
  rw [List.take_succ_eq_append_getElem h, numFrom_snoc]
theorem num_take (l : List UInt8) (i : Nat) : numOf (l.take i) ≤ numOf l := by
  have := numFrom_append (l.take i) (l.drop i) 0
  rw [List.take_append_drop] at this
  unfold numOf
  rw [this]
  exact numFrom_ge _ _
theorem numFrom_bytes (n : Nat) : ∀ m a, numFrom a (bytesOf n m) = a * 256 ^ m + n % 256 ^ m
  | 0, a => by simp [bytesOf, numFrom, Nat.mod_one]
  | m + 1, a => by
    rw [bytesOf, numFrom, numFrom_bytes n m, UInt8.toNat_ofNat', Nat.pow_succ 256 m, Nat.mod_mul (x := n) (a := 256 ^ m) (b := 256)]
    have : (n / 256 ^ m) % 2 ^ 8 = (n / 256 ^ m) % 256 := rfl
    rw [this, Nat.add_mul]
    have e1 : 256 * a * 256 ^ m = a * (256 ^ m * 256) := by rw [Nat.mul_comm 256 a, Nat.mul_assoc, Nat.mul_comm 256]
    have e2 : (n / 256 ^ m) % 256 * 256 ^ m = 256 ^ m * ((n / 256 ^ m) % 256) := Nat.mul_comm _ _
    omega
theorem num_bytes (n m : Nat) (h : n < 256 ^ m) : numOf (bytesOf n m) = n := by
  unfold numOf
  rw [numFrom_bytes, Nat.zero_mul, Nat.zero_add, Nat.mod_eq_of_lt h]


end Go.Proofs.Ytjfifaooimgbaaa
/- Numbers in bytes: the walks of bytes and number. -/
namespace Go.Proofs.Ytjfifaooimgbaaa
open Go.Shelf Go.RowKit Go.Lib Go.Sort

/-- a text of these bytes. -/
def txt (l : List UInt8) : Value := .string ⟨l.toArray⟩
/-- the block g holds these bytes, and nothing else. -/
def BytesAt (w : World) (g : Nat) (l : List UInt8) : Prop := w.heap[g]? = some (.cells (l.map (fun b => Value.int .u8 b.toNat)).toArray 5 (0, 0))
theorem BytesAt.lt {w : World} {g : Nat} {l : List UInt8} (h : BytesAt w g l) : g < w.heap.size := (Array.getElem?_eq_some_iff.1 h).1
theorem BytesAt.cell {w : World} {g : Nat} {l : List UInt8} (h : BytesAt w g l) {i : Nat} (hi : i < l.length) : w.cell? ⟨g, i, none⟩ = some (.int .u8 (l[i].toNat : Int)) := by
  unfold BytesAt at h
  simp [World.cell?, h, hi]
theorem BytesAt.frozen {w : World} {g : Nat} {l : List UInt8} (h : BytesAt w g l) (i : Nat) : w.frozen? ⟨g, i, none⟩ = false := by
  unfold BytesAt at h
  simp [World.frozen?, h]
theorem BytesAt.set {w : World} {g : Nat} {l : List UInt8} (h : BytesAt w g l) (i : Nat) (b : UInt8) : BytesAt (w.setCell ⟨g, i, none⟩ (.int .u8 b.toNat)) g (l.set i b) := by
  have h' := h
  unfold BytesAt at h ⊢
  simp [World.setCell, Array.getElem?_modify, h, List.map_set]
theorem Try.info5 : (Try.prog.info? 5).map (fun i => (i.zero, i.size, i.bytes)) = some (some (.int .u8 0), 1, 1) := by kernel_rfl
theorem made_bytes (n : Nat) : madeCells (Value.int .u8 0).cells (n * 1) = ((List.replicate n (0 : UInt8)).map (fun b => Value.int .u8 b.toNat)).toArray := by
  apply Array.ext
  · simp [madeCells]
  · intro i h1 h2
    simp [madeCells, Value.cells, Nat.mod_one]
theorem make_bytes (n : Nat) (w : World) (hn : n ≤ 1000) : (Instr.makeSlice 98 (.int .i64 (n : Int)) (.int .i64 (n : Int))).run Try.prog w = .ok (.slice (some ⟨w.heap.size, 0, none⟩) n n) (w.alloc (.cells ((List.replicate n (0 : UInt8)).map (fun b => Value.int .u8 b.toNat)).toArray 5)) := by
  obtain ⟨i0, hi, hz0, hz1, hz2⟩ := info_parts Try.info5
  have h := run_make (P := Try.prog) w 98 5 i0 (.int .u8 0) Try.underlying98 hi hz0 .i64 .i64 (n : Int) (n : Int) (by omega) (Int.le_refl _) (by rw [hz2]; omega) (by omega)
  rw [hz1, Int.toNat_natCast, made_bytes] at h
  exact h

/-- w with a new row of bytes. -/
def rowed (w : World) (l : List UInt8) : World := w.alloc (.cells (l.map (fun b => Value.int .u8 b.toNat)).toArray 5)
theorem rowed_at (w : World) (l : List UInt8) : BytesAt (rowed w l) w.heap.size l := by
  show (w.heap.push _)[w.heap.size]? = _
  simp
theorem rowed_set (w : World) (l : List UInt8) (j : Nat) (b : UInt8) : (rowed w l).setCell ⟨w.heap.size, j, none⟩ (.int .u8 b.toNat) = rowed w (l.set j b) := by
  unfold rowed
  rw [World.setCell_alloc_new]
  simp [List.map_set]

end Go.Proofs.Ytjfifaooimgbaaa
/- The walk of the symmetric merge. -/
namespace Go.Proofs.Ytjfifaooimgbaaa
open Go.Shelf Go.RowKit Go.Lib Go.Sort
variable {P : Program} {k : Nat} {α : Type} [Inhabited α]

set_option maxHeartbeats 4000000 in
set_option maxRecDepth 1000000 in
theorem symMerge_left (L : StLays P k) (enc : α → List Value) (cf : α → α → Int) (tag : α → Int) (hO : SWO (ltOf cf)) (g : Nat) (cb : Array Value) (blk off cap : Nat) (d0 : Array α) (w0 : World)
    (eg : ∀ args w, (callFunc g args).run P w = .ok (.enter g args) w) (hcmp0 : CmpLays P g cb enc k cf blk off d0.size w0) (R : RowK enc k w0 blk off d0) (a m b : Nat) (d : Array α) (w : World) (hs : d0.size = d.size) (S : SWK enc k w0 blk off d w) (hpre : Stab.Pre (ltOf cf) tag a m b d)
    (h1 : a + 1 ≤ m) (h2 : m ≤ a + 1) (hmb : m < b) (hb : b ≤ d.size) (hsz : d.size < 4611686018427387904) : Calls P 112 #[.slice (some ⟨blk, off, none⟩) d.size cap, .int .i64 a, .int .i64 m, .int .i64 b, .func (.func g) #[] cb] w fun e w' => e = .returned (.tuple #[]) ∧ ∃ d', SWK enc k w0 blk off d' w' ∧ Stab.Post (ltOf cf) tag a b d d' := by
  have mixed := L.mixed; have t0 := L.t0; have a0 := L.a0; have z0 := L.z0; have v0 := L.v0; have t3 := L.t3; have a3 := L.a3; have z3 := L.z3; have v3 := L.v3; have t4 := L.t4; have a4 := L.a4; have z4 := L.z4; have v4 := L.v4; have t48 := L.t48; have a48 := L.a48; have z48 := L.z48; have v48 := L.v48; have t60 := L.t60; have a60 := L.a60; have z60 := L.z60; have v60 := L.v60; have t65 := L.t65; have a65 := L.a65; have z65 := L.z65; have v65 := L.v65; have aE := L.aE; have zE := L.zE
  have u0 := run_underlying L.t0; have u3 := run_underlying L.t3; have u4 := run_underlying L.t4; have u48 := run_underlying L.t48; have u60 := run_underlying L.t60
  have S0 : Aside (SWK enc k w0 blk off d w) := S
  have hcmp : Aside _ := hcmp0
  have HP : Aside _ := hpre
  clear S hcmp0 hpre
  have hma : ((m : Int) - (a : Int) == 1) = true := beq_iff_eq.2 (by omega)
  go_enter L.f40, Try.ntmps112
  go_wp2
  go_loopg [10, 11] (b - m) (fun kx s t wr => ∃ i j : Nat, s = .int .i64 i ∧ t = .int .i64 j ∧ m ≤ i ∧ i ≤ j ∧ j ≤ b ∧ j - i ≤ kx ∧ Aside (SWK enc k w0 blk off d wr) ∧
    Aside ((i = m ∨ ltOf cf d[i - 1]! d[a]! = true) ∧ (j = b ∨ ltOf cf d[j]! d[a]! = false)))
  case atStart => exact ⟨m, b, rfl, rfl, Nat.le_refl _, by omega, Nat.le_refl _, by omega, S0, (⟨Or.inl rfl, Or.inl rfl⟩ : (m = m ∨ ltOf cf d[m - 1]! d[a]! = true) ∧ (b = b ∨ ltOf cf d[b]! d[a]! = false))⟩
  case round =>
    clear S0
    obtain ⟨i, j, rfl, rfl, hmi, hij, hjb, hkx, S1, I⟩ := hrel
    by_cases hlt : i < j
    · have hltz : (i : Int) < (j : Int) := by omega
      have eac : (((i : Int) + (j : Int)) / 2).toNat = (i + j) / 2 := by omega
      have pac : (0 : Int) ≤ ((i : Int) + (j : Int)) / 2 := by omega
      have bac : ((i : Int) + (j : Int)) / 2 < (d.size : Int) := by omega
      have rac : IntKind.i64.wrap (((i : Int) + (j : Int)) / 2) = ((i : Int) + (j : Int)) / 2 := by rw [IntKind.wrap_i64]; omega
      have ecc : ((a : Int)).toNat = a := by omega
      have pcc : (0 : Int) ≤ (a : Int) := by omega
      have bcc : (a : Int) < (d.size : Int) := by omega
      have rcc : IntKind.i64.wrap ((a : Int)) = (a : Int) := by rw [IntKind.wrap_i64]; omega
      obtain ⟨xc, hxc⟩ : ∃ x, d[(i + j) / 2]! = x := ⟨_, rfl⟩
      obtain ⟨yc, hyc⟩ : ∃ x, d[a]! = x := ⟨_, rfl⟩
      have lca := fun n os => S1.out.ld R (by omega) P ((i + j) / 2) (by omega) n os
      have lcb := fun n os => S1.out.ld R (by omega) P (a) (by omega) n os
      rw [hxc] at lca
      rw [hyc] at lcb
      have cc := fun n os => S1.out.cmp hcmp.out (by omega) xc yc n os
      have Gc := fun n os => S1.out.grown n os
      have Hc : Aside _ := Gc
      clear Gc
      have Xc : Aside (d[(i + j) / 2]! = xc ∧ d[a]! = yc) := ⟨hxc, hyc⟩
      clear hxc hyc S1
      by_cases hlv : cf xc yc < 0
      · go_wp2_with fail
        go_quiet_grown (first | (go_at_fn g; refine Calls.grown_of (cc _ _)))
        go_wp2
        go_roundg (j - ((i + j) / 2 + 1))
        case measure => omega
        case rel =>
          have I2 : Aside (((i + j) / 2 + 1 = m ∨ ltOf cf d[(i + j) / 2 + 1 - 1]! d[a]! = true) ∧ (j = b ∨ ltOf cf d[j]! d[a]! = false)) := ⟨Or.inr (by simp only [Nat.add_sub_cancel]; rw [Xc.out.1, Xc.out.2]; exact decide_eq_true hlv), I.out.2⟩
          exact ⟨(i + j) / 2 + 1, j, by rw [show ((i : Int) + (j : Int)) / 2 + 1 = (((i + j) / 2 + 1 : Nat) : Int) by omega], rfl, by omega, by omega, hjb, Nat.le_refl _, Hc.out nq osq, I2⟩
      · go_wp2_with fail
        go_quiet_grown (first | (go_at_fn g; refine Calls.grown_of (cc _ _)))
        go_wp2
        go_roundg ((i + j) / 2 - i)
        case measure => omega
        case rel =>
          have I2 : Aside ((i = m ∨ ltOf cf d[i - 1]! d[a]! = true) ∧ ((i + j) / 2 = b ∨ ltOf cf d[(i + j) / 2]! d[a]! = false)) := ⟨I.out.1, Or.inr (by rw [Xc.out.1, Xc.out.2]; exact decide_eq_false (by omega))⟩
          exact ⟨i, (i + j) / 2, rfl, by rw [show ((i : Int) + (j : Int)) / 2 = (((i + j) / 2 : Nat) : Int) by omega], hmi, by omega, by omega, Nat.le_refl _, Hc.out nq osq, I2⟩
    · obtain rfl : j = i := by omega
      have hltz : ¬ (j : Int) < (j : Int) := by omega
      go_wp2
      go_loopg [13] (j - 1 - a) (fun kx s wr => ∃ (i : Nat) (dk : Array α), s = .int .i64 i ∧ a ≤ i ∧ i ≤ j - 1 ∧ j - 1 - i ≤ kx ∧ dk.size = d.size ∧ Aside (SWK enc k w0 blk off dk wr) ∧ Aside (Stab.Rot d a (a + 1) (i + 1) dk))
      case atStart => exact ⟨a, d, rfl, Nat.le_refl _, by omega, by omega, rfl, S1, Stab.Rot.right_start d a⟩
      case round =>
        clear S1
        obtain ⟨i, dk, rfl, hai, hij, hkx, hsk, S1, H1⟩ := hrel
        by_cases hlt : i < j - 1
        · have hltz : (i : Int) < (j : Int) - 1 := by omega
          go_wp2_with fail
          have eas : ((i : Int)).toNat = i := by omega
          have pas : (0 : Int) ≤ (i : Int) := by omega
          have bas : (i : Int) < (d.size : Int) := by omega
          have ras : IntKind.i64.wrap ((i : Int)) = (i : Int) := by rw [IntKind.wrap_i64]; omega
          have ecs : ((i : Int) + 1).toNat = i + 1 := by omega
          have pcs : (0 : Int) ≤ (i : Int) + 1 := by omega
          have bcs : (i : Int) + 1 < (d.size : Int) := by omega
          have rcs : IntKind.i64.wrap ((i : Int) + 1) = (i : Int) + 1 := by rw [IntKind.wrap_i64]; omega
          have S2 : Aside (SWK enc k w0 blk off (swp dk (i) (i + 1)) ((wr.drew.setCells blk (off + (i) * k) (enc dk[i + 1]!)).setCells blk (off + (i + 1) * k) (enc dk[i]!))) := S1.out.swapped R (i) (i + 1) (by omega) (by omega)
          have lsa := S1.out.ld1 R (by omega) P (i) (by omega)
          have lsb := S1.out.ld1 R (by omega) P (i + 1) (by omega)
          have ssa := S1.out.st1 R (by omega) P (i) (by omega) dk[i + 1]!
          have ssb := S1.out.st2 R (by omega) P (i) (i + 1) (by omega) (by omega) dk[i + 1]! dk[i]!
          have nsa : (enc dk[i]!).length = k := R.hk _
          have nsb : (enc dk[i + 1]!).length = k := R.hk _
          generalize enc dk[i]! = cIs at S2 lsa ssb nsa
          generalize enc dk[i + 1]! = cJs at S2 lsb ssa ssb nsb
          clear S1
          go_wp2_with fail
          go_big_region_o
          clear lsa lsb ssa ssb
          generalize (wr.drew.setCells blk (off + (i) * k) cJs).setCells blk (off + (i + 1) * k) cIs = w2 at S2 ⊢
          go_wp2
          go_roundg (j - 1 - (i + 1))
          case measure => omega
          case rel => exact ⟨i + 1, swp dk i (i + 1), by go_num, by omega, by omega, Nat.le_refl _, by rw [size_swp]; exact hsk, S2, H1.out.right_step hai (by omega)⟩
        · have hltz : ¬ (i : Int) < (j : Int) - 1 := by omega
          have ei : i + 1 = j := by omega
          go_wp2
          refine bodyPost_ret (results_none rfl _ _ _) rfl ?_
          have hm : m = a + 1 := by omega
          have hp : Stab.Pre (ltOf cf) tag a (a + 1) b d := by rw [← hm]; exact HP.out
          exact ⟨rfl, dk, S1.out, Stab.one_left hO hp hb (by omega) hjb (by rw [← hm]; exact I.out.1) I.out.2 (by rw [← ei]; exact H1.out)⟩
set_option maxHeartbeats 4000000 in
set_option maxRecDepth 1000000 in
theorem symMerge_right (L : StLays P k) (enc : α → List Value) (cf : α → α → Int) (tag : α → Int) (hO : SWO (ltOf cf)) (g : Nat) (cb : Array Value) (blk off cap : Nat) (d0 : Array α) (w0 : World)
    (eg : ∀ args w, (callFunc g args).run P w = .ok (.enter g args) w) (hcmp0 : CmpLays P g cb enc k cf blk off d0.size w0) (R : RowK enc k w0 blk off d0) (a m b : Nat) (d : Array α) (w : World) (hs : d0.size = d.size) (S : SWK enc k w0 blk off d w) (hpre : Stab.Pre (ltOf cf) tag a m b d)
    (h1 : a + 1 < m) (h2 : m + 1 ≤ b) (h3 : b ≤ m + 1) (hb : b ≤ d.size) (hsz : d.size < 4611686018427387904) : Calls P 112 #[.slice (some ⟨blk, off, none⟩) d.size cap, .int .i64 a, .int .i64 m, .int .i64 b, .func (.func g) #[] cb] w fun e w' => e = .returned (.tuple #[]) ∧ ∃ d', SWK enc k w0 blk off d' w' ∧ Stab.Post (ltOf cf) tag a b d d' := by
  have mixed := L.mixed; have t0 := L.t0; have a0 := L.a0; have z0 := L.z0; have v0 := L.v0; have t3 := L.t3; have a3 := L.a3; have z3 := L.z3; have v3 := L.v3; have t4 := L.t4; have a4 := L.a4; have z4 := L.z4; have v4 := L.v4; have t48 := L.t48; have a48 := L.a48; have z48 := L.z48; have v48 := L.v48; have t60 := L.t60; have a60 := L.a60; have z60 := L.z60; have v60 := L.v60; have t65 := L.t65; have a65 := L.a65; have z65 := L.z65; have v65 := L.v65; have aE := L.aE; have zE := L.zE
  have u0 := run_underlying L.t0; have u3 := run_underlying L.t3; have u4 := run_underlying L.t4; have u48 := run_underlying L.t48; have u60 := run_underlying L.t60
  have S0 : Aside (SWK enc k w0 blk off d w) := S
  have hcmp : Aside _ := hcmp0
  have HP : Aside _ := hpre
  clear S hcmp0 hpre
  have hma : ((m : Int) - (a : Int) == 1) = false := beq_eq_false_iff_ne.2 (by omega)
  have hbm : ((b : Int) - (m : Int) == 1) = true := beq_iff_eq.2 (by omega)
  go_enter L.f40, Try.ntmps112
  go_wp2
  go_loopg [14, 15] (m - a) (fun kx s t wr => ∃ i j : Nat, s = .int .i64 i ∧ t = .int .i64 j ∧ a ≤ i ∧ i ≤ j ∧ j ≤ m ∧ j - i ≤ kx ∧ Aside (SWK enc k w0 blk off d wr) ∧
    Aside ((i = a ∨ ltOf cf d[m]! d[i - 1]! = false) ∧ (j = m ∨ ltOf cf d[m]! d[j]! = true)))
  case atStart => exact ⟨a, m, rfl, rfl, Nat.le_refl _, by omega, Nat.le_refl _, by omega, S0, (⟨Or.inl rfl, Or.inl rfl⟩ : (a = a ∨ ltOf cf d[m]! d[a - 1]! = false) ∧ (m = m ∨ ltOf cf d[m]! d[m]! = true))⟩
  case round =>
    clear S0
    obtain ⟨i, j, rfl, rfl, hmi, hij, hjb, hkx, S1, I⟩ := hrel
    by_cases hlt : i < j
    · have hltz : (i : Int) < (j : Int) := by omega
      have eac : ((m : Int)).toNat = m := by omega
      have pac : (0 : Int) ≤ (m : Int) := by omega
      have bac : (m : Int) < (d.size : Int) := by omega
      have rac : IntKind.i64.wrap ((m : Int)) = (m : Int) := by rw [IntKind.wrap_i64]; omega
      have ecc : (((i : Int) + (j : Int)) / 2).toNat = (i + j) / 2 := by omega
      have pcc : (0 : Int) ≤ ((i : Int) + (j : Int)) / 2 := by omega
      have bcc : ((i : Int) + (j : Int)) / 2 < (d.size : Int) := by omega
      have rcc : IntKind.i64.wrap (((i : Int) + (j : Int)) / 2) = ((i : Int) + (j : Int)) / 2 := by rw [IntKind.wrap_i64]; omega
      obtain ⟨xc, hxc⟩ : ∃ x, d[m]! = x := ⟨_, rfl⟩
      obtain ⟨yc, hyc⟩ : ∃ x, d[(i + j) / 2]! = x := ⟨_, rfl⟩
      have lca := fun n os => S1.out.ld R (by omega) P (m) (by omega) n os
      have lcb := fun n os => S1.out.ld R (by omega) P ((i + j) / 2) (by omega) n os
      rw [hxc] at lca
      rw [hyc] at lcb
      have cc := fun n os => S1.out.cmp hcmp.out (by omega) xc yc n os
      have Gc := fun n os => S1.out.grown n os
      have Hc : Aside _ := Gc
      clear Gc
      have Xc : Aside (d[m]! = xc ∧ d[(i + j) / 2]! = yc) := ⟨hxc, hyc⟩
      clear hxc hyc S1
      by_cases hlv : cf xc yc < 0
      · have hdv : decide (cf xc yc < 0) = true := decide_eq_true hlv
        go_wp2_with fail
        go_quiet_grown (first | (go_at_fn g; refine Calls.grown_of (cc _ _)))
        go_wp2
        go_roundg ((i + j) / 2 - i)
        case measure => omega
        case rel =>
          have I2 : Aside ((i = a ∨ ltOf cf d[m]! d[i - 1]! = false) ∧ ((i + j) / 2 = m ∨ ltOf cf d[m]! d[(i + j) / 2]! = true)) := ⟨I.out.1, Or.inr (by rw [Xc.out.1, Xc.out.2]; exact decide_eq_true hlv)⟩
          exact ⟨i, (i + j) / 2, rfl, by rw [show ((i : Int) + (j : Int)) / 2 = (((i + j) / 2 : Nat) : Int) by omega], hmi, by omega, by omega, Nat.le_refl _, Hc.out nq osq, I2⟩
      · have hdv : decide (cf xc yc < 0) = false := decide_eq_false hlv
        go_wp2_with fail
        go_quiet_grown (first | (go_at_fn g; refine Calls.grown_of (cc _ _)))
        go_wp2
        go_roundg (j - ((i + j) / 2 + 1))
        case measure => omega
        case rel =>
          have I2 : Aside (((i + j) / 2 + 1 = a ∨ ltOf cf d[m]! d[(i + j) / 2 + 1 - 1]! = false) ∧ (j = m ∨ ltOf cf d[m]! d[j]! = true)) := ⟨Or.inr (by simp only [Nat.add_sub_cancel]; rw [Xc.out.1, Xc.out.2]; exact decide_eq_false (by omega)), I.out.2⟩
          exact ⟨(i + j) / 2 + 1, j, by rw [show ((i : Int) + (j : Int)) / 2 + 1 = (((i + j) / 2 + 1 : Nat) : Int) by omega], rfl, by omega, by omega, hjb, Nat.le_refl _, Hc.out nq osq, I2⟩
    · obtain rfl : j = i := by omega
      have hltz : ¬ (j : Int) < (j : Int) := by omega
      go_wp2
      go_loopg [17] (m - j) (fun kx s wr => ∃ (i : Nat) (dk : Array α), s = .int .i64 i ∧ j ≤ i ∧ i ≤ m ∧ i - j ≤ kx ∧ dk.size = d.size ∧ Aside (SWK enc k w0 blk off dk wr) ∧ Aside (Stab.Rot d i m (m + 1) dk))
      case atStart => exact ⟨m, d, rfl, by omega, Nat.le_refl _, by omega, rfl, S1, Stab.Rot.left_start d m⟩
      case round =>
        clear S1
        obtain ⟨i, dk, rfl, hai, hij, hkx, hsk, S1, H1⟩ := hrel
        by_cases hlt : j < i
        · obtain ⟨ip, rfl⟩ : ∃ ip, i = ip + 1 := ⟨i - 1, by omega⟩
          have hltz : (j : Int) < ((ip + 1 : Nat) : Int) := by omega
          have hltz' : (j : Int) < (ip : Int) + 1 := by omega
          go_wp2_with fail
          have eas : ((ip : Int) + 1).toNat = ip + 1 := by omega
          have pas : (0 : Int) ≤ (ip : Int) + 1 := by omega
          have bas : (ip : Int) + 1 < (d.size : Int) := by omega
          have ras : IntKind.i64.wrap ((ip : Int) + 1) = (ip : Int) + 1 := by rw [IntKind.wrap_i64]; omega
          have ecs : ((ip : Int)).toNat = ip := by omega
          have pcs : (0 : Int) ≤ (ip : Int) := by omega
          have bcs : (ip : Int) < (d.size : Int) := by omega
          have rcs : IntKind.i64.wrap ((ip : Int)) = (ip : Int) := by rw [IntKind.wrap_i64]; omega
          have S2 : Aside (SWK enc k w0 blk off (swp dk (ip + 1) (ip)) ((wr.drew.setCells blk (off + (ip + 1) * k) (enc dk[ip]!)).setCells blk (off + (ip) * k) (enc dk[ip + 1]!))) := S1.out.swapped R (ip + 1) (ip) (by omega) (by omega)
          have lsa := S1.out.ld1 R (by omega) P (ip + 1) (by omega)
          have lsb := S1.out.ld1 R (by omega) P (ip) (by omega)
          have ssa := S1.out.st1 R (by omega) P (ip + 1) (by omega) dk[ip]!
          have ssb := S1.out.st2 R (by omega) P (ip + 1) (ip) (by omega) (by omega) dk[ip]! dk[ip + 1]!
          have nsa : (enc dk[ip + 1]!).length = k := R.hk _
          have nsb : (enc dk[ip]!).length = k := R.hk _
          generalize enc dk[ip + 1]! = cIs at S2 lsa ssb nsa
          generalize enc dk[ip]! = cJs at S2 lsb ssa ssb nsb
          clear S1
          go_wp2_with fail
          go_big_region_o
          clear lsa lsb ssa ssb
          generalize (wr.drew.setCells blk (off + (ip + 1) * k) cJs).setCells blk (off + (ip) * k) cIs = w2 at S2 ⊢
          go_wp2
          go_roundg (ip - j)
          case measure => omega
          case rel => exact ⟨ip, swp dk (ip + 1) ip, by first | rfl | go_num | (congr 1; omega), by omega, by omega, Nat.le_refl _, by rw [size_swp]; exact hsk, S2, H1.out.left_step hij (by omega)⟩
        · have hltz : ¬ (j : Int) < (i : Int) := by omega
          have ei : i = j := by omega
          subst ei
          go_wp2
          refine bodyPost_ret (results_none rfl _ _ _) rfl ?_
          have hm : b = m + 1 := by omega
          subst hm
          exact ⟨rfl, dk, S1.out, Stab.one_right hO HP.out hb hmi hjb I.out.1 I.out.2 H1.out⟩
end Go.Proofs.Ytjfifaooimgbaaa
