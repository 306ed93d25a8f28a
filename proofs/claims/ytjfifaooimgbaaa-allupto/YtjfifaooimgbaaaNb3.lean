import Derived.Test.YtjfifaooimgbaaaAp
/- numbers, and the journal's record. -/
namespace Go.Proofs.Ytjfifaooimgbaaa
open Go.Shelf Go.RowKit Go.Lib Go.Sort

/-- v' lies where v did, or is new. -/
def Lies (w : World) (v v' : Value) : Prop := v'.ownBlock = v.ownBlock ∨ ∃ k, v'.ownBlock = some k ∧ w.heap.size ≤ k
/-- nothing is turned but v's row, and what is new. -/
abbrev OnlV (v : Value) (w w' : World) : Prop := Onl (fun k => v.ownBlock = some k) w w'

theorem Onl.grownV {S : Nat → Prop} {a b c : World} (h : Onl S a b) {u : Value} (g : b.grownBy c u.ownBlock) (hu : ∀ k, u.ownBlock = some k → S k ∨ a.heap.size ≤ k) : Onl S a c :=
  ⟨g.os.trans h.os, g.tape.trans h.tape, g.output.trans h.output, Nat.le_trans h.size g.size, fun i hi hs => (g.block i (Nat.lt_of_lt_of_le hi h.size) (fun e => by
    rcases hu i e.symm with h1 | h1
    · exact hs h1
    · omega)).trans (h.block i hi hs)⟩
theorem Lies.own {w : World} {v u : Value} (h : Lies w v u) : ∀ k, u.ownBlock = some k → v.ownBlock = some k ∨ w.heap.size ≤ k := fun k hk => by
  rcases h with h | ⟨j, h1, h2⟩
  · exact Or.inl (by rw [← h]; exact hk)
  · rw [hk] at h1; injection h1 with h1; subst h1; exact Or.inr h2
theorem Lies.next {w w1 : World} {v u u' : Value} (h : Lies w v u) (hs : w.heap.size ≤ w1.heap.size) (r : u'.ownBlock = u.ownBlock ∨ u'.ownBlock = some w1.heap.size) : Lies w v u' := by
  rcases r with r | r
  · rcases h with h | ⟨j, h1, h2⟩
    · exact Or.inl (r.trans h)
    · exact Or.inr ⟨j, r.trans h1, h2⟩
  · exact Or.inr ⟨_, r, hs⟩
theorem Lies.trans {w w1 : World} {v u u' : Value} (h : Lies w v u) (hs : w.heap.size ≤ w1.heap.size) (r : Lies w1 u u') : Lies w v u' := by
  rcases r with r | ⟨k, r1, r2⟩
  · exact h.next hs (Or.inl r)
  · exact Or.inr ⟨k, r1, by omega⟩

set_option maxHeartbeats 1000000 in
set_option maxRecDepth 100000 in
theorem append_num (v : Value) (l : List UInt8) (n size : Nat) (w : World) (hR : BRow w v l) (hs : size ≤ 8) (h1 : 1 ≤ size) (hl : l.length ≤ 35184372088832) :
    Calls Try.prog 129 #[v, .int .u64 n, .int .i64 size] w fun e w' => ∃ v', e = .returned v' ∧ BRow w' v' (l ++ bytesOf n size) ∧ OnlV v w w' ∧ Lies w v v' := by
  have mixed : Try.prog.follows .mixedOrders = true := by kernel_rfl
  have HR : Aside (BRow w v l) := hR
  clear hR
  go_enter Try.func129, Try.ntmps129
  go_wp2_with fail
  go_loopg [0, 7] size (fun kx s t wq => ∃ (k : Nat) (cs : List UInt8), k ≤ size ∧ t = .int .i64 ((k : Int) - 1) ∧ k ≤ kx ∧ Aside (BRow wq s (l ++ cs)) ∧ Aside (cs ++ bytesOf n k = bytesOf n size) ∧ Aside (OnlV v w wq) ∧ Aside (Lies w v s))
  case atStart => exact ⟨size, [], Nat.le_refl _, rfl, by omega, by show BRow _ _ _; rw [List.append_nil]; exact HR.out, rfl, Onl.refl _ _, Or.inl rfl⟩
  case round =>
    obtain ⟨k, cs, hk, ht, hkx, BR, CS, ON, LI⟩ := hrel
    cases k with
    | zero =>
      subst ht
      have hz : ¬ (0 : Int) ≤ ((0 : Nat) : Int) - 1 := by omega
      go_wp2
      go_ret
      refine ⟨_, rfl, ?_, ON.out, LI.out⟩
      have := CS.out
      rw [bytesOf, List.append_nil] at this
      rw [← this]; exact BR.out
    | succ m =>
      have e : ((m + 1 : Nat) : Int) - 1 = (m : Int) := by omega
      rw [e] at ht
      subst ht
      have hz : (0 : Int) ≤ (m : Int) := by omega
      have hby : (n : Int) / 2 ^ (8 * m) % 256 = ((UInt8.ofNat (n / 256 ^ m)).toNat : Int) := by
        rw [UInt8.toNat_ofNat', show (256 : Nat) ^ m = 2 ^ (8 * m) by rw [Nat.pow_mul]]
        push_cast
        rfl
      have SR : Aside (Src Try.prog 1 98 (.slice (some ⟨wr.heap.size, 0, none⟩) 1 1) 1 (bcs [UInt8.ofNat (n / 256 ^ m)]) (wr.alloc (.cells #[.int .u8 ((n : Int) / 2 ^ (8 * m) % 256)] 5))) := by
        show Src _ _ _ _ _ _ _
        rw [hby]
        exact src_one wr _ 5
      have hcl : (l ++ cs).length ≤ 35184372088840 := by
        have := congrArg List.length CS.out
        rw [List.length_append, bytesOf_length, bytesOf_length] at this
        rw [List.length_append]; omega
      clear hby
      go_wp2_with (first | (at_builtin; refine wpList_append_bytes _ rfl _ _ 98 rfl _ (l ++ cs) rfl (World.ownsRow.alloc BR.out _) _ rfl [UInt8.ofNat (n / 256 ^ m)] SR.out (by simp only [List.length_singleton]; omega) (by simp only [List.length_singleton]; omega) ?_; intro v' w1 r1 r2 r3) | fail)
      have R1 : Aside (BRow w1 v' (l ++ (cs ++ [UInt8.ofNat (n / 256 ^ m)]))) := by
        show BRow _ _ _
        rw [← List.append_assoc]; exact r1
      have C1 : Aside ((cs ++ [UInt8.ofNat (n / 256 ^ m)]) ++ bytesOf n m = bytesOf n size) := by
        show _ = _
        rw [← CS.out, List.append_assoc]; rfl
      go_roundg m
      case measure => omega
      case rel => exact ⟨m, _, by omega, rfl, Nat.le_refl _, R1, C1, (ON.out.alloc _).grownV r2 LI.out.own, LI.out.next (Nat.le_trans ON.out.size (by simp)) r3⟩
end Go.Proofs.Ytjfifaooimgbaaa
/- tell, the journal's record, numbers read. -/
namespace Go.Proofs.Ytjfifaooimgbaaa
open Go.Shelf Go.RowKit Go.Lib Go.Sort

/-- numbers in bytes, one behind the other. -/
def tellL (size : Nat) : List Nat → List UInt8
  | [] => []
  | n :: r => bytesOf n size ++ tellL size r
theorem tellL_snoc (size : Nat) (n : Nat) : ∀ r, tellL size (r ++ [n]) = tellL size r ++ bytesOf n size
  | [] => by simp [tellL]
  | m :: r => by rw [List.cons_append, tellL, tellL, tellL_snoc size n r, List.append_assoc]
theorem tellL_length (size : Nat) : ∀ r, (tellL size r).length = r.length * size
  | [] => by simp [tellL]
  | m :: r => by rw [tellL, List.length_append, bytesOf_length, tellL_length size r, List.length_cons, Nat.succ_mul]; omega
/-- a slice of numbers, at the head of block g. -/
def NumsAt (w : World) (g : Nat) (ns : List Nat) : Prop := g < w.heap.size ∧ ∀ i, i < ns.length → w.cell? ⟨g, i, none⟩ = some (.int .i64 ((ns.getD i 0 : Nat) : Int))

set_option maxHeartbeats 1000000 in
set_option maxRecDepth 100000 in
theorem tell_any (v : Value) (l : List UInt8) (size g : Nat) (ns : List Nat) (w : World) (hR : BRow w v l) (hN : NumsAt w g ns) (hne : v.ownBlock ≠ some g) (hs : size ≤ 8) (h1 : 1 ≤ size) (hn : ns.length ≤ 4) (hb : ∀ i, i < ns.length → ns.getD i 0 < 9223372036854775808) (hl : l.length ≤ 1000) :
    Calls Try.prog 122 #[v, .int .i64 size, .slice (some ⟨g, 0, none⟩) ns.length ns.length] w fun e w' => ∃ v', e = .returned v' ∧ BRow w' v' (l ++ tellL size ns) ∧ OnlV v w w' ∧ Lies w v v' := by
  have mixed : Try.prog.follows .mixedOrders = true := by kernel_rfl
  have HR : Aside (BRow w v l) := hR
  have HN : Aside (NumsAt w g ns) := hN
  have HB : Aside _ := hb
  have HE : Aside (v.ownBlock ≠ some g) := hne
  clear hR hN hb hne
  go_enter Try.func122, Try.ntmps122
  go_wp2_with fail
  go_loopg [0, 11] ns.length (fun kx s t wq => ∃ (k : Nat), t = .int .i64 k ∧ k ≤ ns.length ∧ ns.length - k ≤ kx ∧ Aside (BRow wq s (l ++ tellL size (ns.take k))) ∧ Aside (OnlV v w wq) ∧ Aside (Lies w v s))
  case atStart => exact ⟨0, rfl, Nat.zero_le _, by omega, by show BRow _ _ _; rw [List.take_zero, tellL, List.append_nil]; exact HR.out, Onl.refl _ _, Or.inl rfl⟩
  case round =>
    obtain ⟨k, rfl, hk, hkx, BR, ON, LI⟩ := hrel
    by_cases hlt : k < ns.length
    · have hltz : (k : Int) < (ns.length : Int) := by omega
      have hc : wr.cell? ⟨g, k, none⟩ = some (.int .i64 ((ns.getD k 0 : Nat) : Int)) := by
        rw [World.cell?_of_block (ON.out.block g HN.out.1 HE.out)]
        exact HN.out.2 k hlt
      have hbk := HB.out k hlt
      have LEN : Aside ((l ++ tellL size (ns.take k)).length ≤ 35184372088832) := by
        show _ ≤ _
        rw [List.length_append, tellL_length, List.length_take]
        have : min k ns.length * size ≤ 4 * 8 := Nat.mul_le_mul (by omega) hs
        omega
      have EX : Aside (tellL size (ns.take (k + 1)) = tellL size (ns.take k) ++ bytesOf (ns.getD k 0) size) := by
        show _ = _
        rw [List.take_succ_eq_append_getElem hlt, tellL_snoc, List.getD_eq_getElem?_getD, List.getElem?_eq_getElem hlt]
        rfl
      have HW : wrap64 ((ns.getD k 0 : Nat) : Int) = ((ns.getD k 0 : Nat) : Int) := by unfold wrap64; omega
      generalize ns.getD k 0 = nk at *
      have HC : Aside _ := append_num u0 (l ++ tellL size (ns.take k)) nk size wr BR.out hs h1 LEN.out
      go_wp2_with fail
      refine Calls.mono (f := 129) HC.out ?_
      rintro e w' ⟨v', rfl, q1, q2, q3⟩
      go_wp2
      go_roundg (ns.length - (k + 1))
      case measure => omega
      case rel => exact ⟨k + 1, by go_num, by omega, Nat.le_refl _, by show BRow _ _ _; rw [EX.out, ← List.append_assoc]; exact q1, ON.out.trans q2 LI.out.own, LI.out.trans ON.out.size q3⟩
    · have hltz : ¬ (k : Int) < (ns.length : Int) := by omega
      obtain rfl : k = ns.length := by omega
      have BR2 : Aside (BRow wr u0 (l ++ tellL size ns)) := by
        show BRow _ _ _
        have := BR.out
        rwa [List.take_length] at this
      go_wp2
      go_ret
      exact ⟨_, rfl, BR2.out, ON.out, LI.out⟩
end Go.Proofs.Ytjfifaooimgbaaa
/- the journal's record; numbers read. -/
namespace Go.Proofs.Ytjfifaooimgbaaa
open Go.Shelf Go.RowKit Go.Lib Go.Sort

/-- a record. -/
def recB (time : Nat) (r : List UInt8) : List UInt8 := bytesOf r.length 1 ++ bytesOf time 8 ++ r ++ [165]

set_option maxHeartbeats 1000000 in
set_option maxRecDepth 100000 in
theorem record_any (v : Value) (l r : List UInt8) (time : Nat) (w : World) (hR : BRow w v l) (ht : time < 9223372036854775808) (hr : r.length ≤ 1000) (hl : l.length ≤ 17592186044416) :
    Calls Try.prog 114 #[v, .int .i64 time, .string ⟨r.toArray⟩] w fun e w' => ∃ v', e = .returned v' ∧ BRow w' v' (l ++ recB time r) ∧ OnlV v w w' ∧ Lies w v v' := by
  have mixed : Try.prog.follows .mixedOrders = true := by kernel_rfl
  have HR : Aside (BRow w v l) := hR
  clear hR
  have hby : ((r.length : Nat) : Int) % 256 = ((UInt8.ofNat r.length).toNat : Int) := by
    rw [UInt8.toNat_ofNat']; rfl
  have S1 : Aside (Src Try.prog 1 98 (.slice (some ⟨w.heap.size, 0, none⟩) 1 1) 1 (bcs [UInt8.ofNat r.length]) (w.alloc (.cells #[.int .u8 (((r.length : Nat) : Int) % 256)] 5))) := by
    show Src _ _ _ _ _ _ _
    rw [hby]
    exact src_one w _ 5
  clear hby
  have hw : wrap64 (time : Int) = (time : Int) := by unfold wrap64; omega
  go_enter Try.func114, Try.ntmps114
  go_wp2_with (first | (at_builtin; refine wpList_append_bytes _ rfl _ _ 98 rfl _ l rfl (World.ownsRow.alloc HR.out _) _ rfl [UInt8.ofNat r.length] S1.out (by simp only [List.length_singleton]; omega) (by simp only [List.length_singleton]; omega) ?_; intro v1 w1 r1 r2 r3) | fail)
  have O1 : Aside (OnlV v w w1) := ((Onl.refl _ w).alloc _).grownV r2 (fun k hk => Or.inl hk)
  have L1 : Aside (Lies w v v1) := Lies.next (Or.inl rfl) (by simp) r3
  have B1 : Aside (BRow w1 v1 (l ++ [UInt8.ofNat r.length])) := r1
  clear r1 r2 r3 S1
  have HC : Aside _ := append_num v1 _ time 8 w1 B1.out (by decide) (by decide) (by rw [List.length_append, List.length_singleton]; omega)
  refine Calls.mono (f := 129) HC.out ?_
  rintro e w2 ⟨v2, rfl, q1, q2, q3⟩
  have O2 : Aside (OnlV v w w2) := O1.out.trans q2 L1.out.own
  have L2 : Aside (Lies w v v2) := L1.out.trans O1.out.size q3
  have B2 : Aside (BRow w2 v2 (l ++ [UInt8.ofNat r.length] ++ bytesOf time 8)) := q1
  clear q1 q2 q3 HC O1 L1 B1
  have LE2 : Aside ((l ++ [UInt8.ofNat r.length] ++ bytesOf time 8).length ≤ 17592186044425 ∧ 0 < (l ++ [UInt8.ofNat r.length] ++ bytesOf time 8).length) := by
    show _ ∧ _
    rw [List.length_append, List.length_append, bytesOf_length, List.length_singleton]; omega
  go_wp2_with (first | (at_builtin; refine wpList_append_bytes _ rfl _ _ 9 rfl _ (l ++ [UInt8.ofNat r.length] ++ bytesOf time 8) rfl B2.out _ rfl r (src_str _ r) (by have := LE2.out; omega) (by have := LE2.out; omega) ?_; intro v3 w3 s1 s2 s3) | (at_builtin; refine wpList_append_bytes _ rfl _ _ 98 rfl _ (l ++ [UInt8.ofNat r.length] ++ bytesOf time 8 ++ r) rfl (World.ownsRow.alloc s1 _) _ rfl [165] (src_one _ 165 5) (by rw [List.length_append (bs := r), List.length_singleton]; have := LE2.out; omega) (by rw [List.length_singleton]; omega) ?_; intro v4 w4 t1 t2 t3) | fail)
  go_ret
  have O3 : OnlV v w w3 := O2.out.grownV s2 L2.out.own
  have L3 : Lies w v v3 := L2.out.next O2.out.size s3
  refine ⟨_, rfl, ?_, (O3.alloc _).grownV t2 L3.own, L3.next (Nat.le_trans O3.size (by simp)) t3⟩
  have e : l ++ recB time r = l ++ [UInt8.ofNat r.length] ++ bytesOf time 8 ++ r ++ [165] := by
    unfold recB
    rw [show bytesOf r.length 1 = [UInt8.ofNat r.length] by simp [bytesOf]]
    simp [List.append_assoc]
  rw [e]
  exact t1

theorem or_byte_u (q b : Nat) (hb : b < 256) (h : 256 * q + b < 18446744073709551616) : bits .or .u64 ((q : Int) * 256) (b : Int) = ((256 * q + b : Nat) : Int) := by
  have e1 : BitVec.ofInt 64 ((q : Int) * 256) = BitVec.ofNat 64 (2 ^ 8 * q) := by
    rw [show (q : Int) * 256 = ((2 ^ 8 * q : Nat) : Int) by omega]
    exact BitVec.ofInt_natCast 64 _
  have e2 : BitVec.ofInt 64 (b : Int) = BitVec.ofNat 64 b := BitVec.ofInt_natCast 64 _
  have e3 : (BitVec.ofNat 64 (2 ^ 8 * q) ||| BitVec.ofNat 64 b).toNat = 256 * q + b := by
    rw [BitVec.toNat_or, BitVec.toNat_ofNat, BitVec.toNat_ofNat, Nat.mod_eq_of_lt (by omega), Nat.mod_eq_of_lt (by omega), ← Nat.two_pow_add_eq_or_of_lt (by omega)]
  show IntKind.wrap .u64 (((BitVec.ofInt 64 ((q : Int) * 256) ||| BitVec.ofInt 64 (b : Int)).toNat : Nat) : Int) = _
  rw [e1, e2, e3]
  generalize hx : ((256 * q + b : Nat) : Int) = x
  have h0 : 0 ≤ x := by omega
  have h1 : x < 18446744073709551616 := by omega
  clear e1 e2 e3 hx h
  show (if (IntKind.u64.signed && decide (x % (2 ^ IntKind.u64.bits : Int) ≥ (2 ^ (IntKind.u64.bits - 1) : Int))) = true then x % (2 ^ IntKind.u64.bits : Int) - (2 ^ IntKind.u64.bits : Int) else x % (2 ^ IntKind.u64.bits : Int)) = x
  rw [if_neg (by simp [IntKind.signed])]
  exact Int.emod_eq_of_lt h0 h1

set_option maxHeartbeats 1000000 in
set_option maxRecDepth 100000 in
theorem readN_any (l : List UInt8) (w : World) (hl : l.length ≤ 1000) (hn : numOf l < 18446744073709551616) :
    Calls Try.prog 88 #[.string ⟨l.toArray⟩] w fun e w' => e = .returned (.int .u64 (numOf l)) ∧ w' = w := by
  have mixed : Try.prog.follows .mixedOrders = true := by kernel_rfl
  go_enter Try.func88, Try.ntmps88
  go_wp2_with fail
  go_loopg [3, 7] l.length (fun kx s t wq => ∃ (i : Nat), s = .int .u64 (numOf (l.take i) : Nat) ∧ t = .int .i64 i ∧ i ≤ l.length ∧ l.length - i ≤ kx ∧ wq = w)
  case atStart => exact ⟨0, rfl, rfl, Nat.zero_le _, by omega, rfl⟩
  case round =>
    obtain ⟨i, rfl, rfl, hi, hkx, rfl⟩ := hrel
    by_cases hlt : i < l.length
    · have hltz : (i : Int) < (l.length : Int) := by omega
      have nx := num_next l i hlt
      have nt := num_take l (i + 1)
      have NX : Aside _ := nx
      obtain ⟨q, hq⟩ : ∃ q, numOf (l.take i) = q := ⟨_, rfl⟩
      rw [hq] at nx ⊢
      have HQ : Aside _ := hq
      have hb : (l[i]).toNat < 256 := UInt8.toNat_lt _
      have hq2 : (q : Int) * 256 ≤ 18446744073709551615 := by omega
      clear hq
      have eb : ({ data := l.toArray } : ByteArray)[i] = l[i] := rfl
      obtain ⟨b, hbq⟩ : ∃ b, (l[i]).toNat = b := ⟨_, rfl⟩
      rw [hbq] at nx hb
      have HB : Aside ((l[i]).toNat = b) := hbq
      have hor := or_byte_u q b hb (by omega)
      clear hb
      go_wp2
      trace_state
      go_roundg (l.length - (i + 1))
      case measure => omega
      case rel => exact ⟨i + 1, congrArg (Value.int .u64) (by rw [NX.out, HQ.out, HB.out]; omega), by go_num, by omega, Nat.le_refl _, rfl⟩
    · have hltz : ¬ (i : Int) < (l.length : Int) := by omega
      obtain rfl : i = l.length := by omega
      have e : numOf (l.take l.length) = numOf l := by rw [List.take_length]
      rw [e]
      clear e
      go_wp2
      go_ret
      exact ⟨rfl, rfl⟩
end Go.Proofs.Ytjfifaooimgbaaa
