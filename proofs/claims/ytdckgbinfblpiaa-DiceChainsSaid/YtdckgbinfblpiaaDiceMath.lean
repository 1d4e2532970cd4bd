/- Plain numbers behind layer 1: the stirring of a number, that it can be undone, the hash, the high half of a product. No program is named. -/
import Derived.Laws.Bits64
import Derived.Laws.Bits64b
import Derived.IntWalk
namespace Go.Proofs.Ytdckgbinfblpiaa.DiceMath

/-- the stirring, on natural numbers below 2^64 -/
def mixN (x : Nat) : Nat :=
  let y := (x ^^^ x / 1073741824) * 13787848793156543929 % 18446744073709551616
  let z := (y ^^^ y / 134217728) * 10723151780598845931 % 18446744073709551616
  z ^^^ z / 2147483648
/-- the same, from an integer -/
def mixI (a : Int) : Int := (mixN a.toNat : Nat)

theorem xor_div_lt (x k : Nat) (h : x < 18446744073709551616) : x ^^^ x / k < 18446744073709551616 := by
  have := Nat.xor_lt_two_pow (x := x) (y := x / k) (n := 64) h (Nat.lt_of_le_of_lt (Nat.div_le_self _ _) h)
  exact this
theorem mixN_lt (x : Nat) : mixN x < 18446744073709551616 := xor_div_lt _ _ (Nat.mod_lt _ (by decide))
theorem mixI_bd (a : Int) : 0 ≤ mixI a ∧ mixI a ≤ 18446744073709551615 := by
  have := mixN_lt a.toNat
  unfold mixI
  omega

/-- what the program reckons is the stirring -/
theorem walk_mix (a : Int) (h0 : 0 ≤ a) (h1 : a ≤ 18446744073709551615) :
    bits .xor .u64 (IntKind.u64.wrap (bits .xor .u64 (IntKind.u64.wrap (bits .xor .u64 a (a / 1073741824) * 13787848793156543929)) (IntKind.u64.wrap (bits .xor .u64 a (a / 1073741824) * 13787848793156543929) / 134217728) * 10723151780598845931))
      (IntKind.u64.wrap (bits .xor .u64 (IntKind.u64.wrap (bits .xor .u64 a (a / 1073741824) * 13787848793156543929)) (IntKind.u64.wrap (bits .xor .u64 a (a / 1073741824) * 13787848793156543929) / 134217728) * 10723151780598845931) / 2147483648) = mixI a := by
  obtain ⟨n, rfl⟩ := Int.eq_ofNat_of_zero_le h0
  have hn : n < 18446744073709551616 := by omega
  have e1 : IntKind.u64.wrap (bits .xor .u64 (n : Int) ((n : Int) / 1073741824) * 13787848793156543929) = (((n ^^^ n / 1073741824) * 13787848793156543929 % 18446744073709551616 : Nat) : Int) := mixStep_u64 n 1073741824 13787848793156543929 hn
  rw [e1]
  generalize hy : (n ^^^ n / 1073741824) * 13787848793156543929 % 18446744073709551616 = y
  have hyl : y < 18446744073709551616 := by rw [← hy]; exact Nat.mod_lt _ (by decide)
  have e2 : IntKind.u64.wrap (bits .xor .u64 (y : Int) ((y : Int) / 134217728) * 10723151780598845931) = (((y ^^^ y / 134217728) * 10723151780598845931 % 18446744073709551616 : Nat) : Int) := mixStep_u64 y 134217728 10723151780598845931 hyl
  rw [e2]
  generalize hz : (y ^^^ y / 134217728) * 10723151780598845931 % 18446744073709551616 = z
  have hzl : z < 18446744073709551616 := by rw [← hz]; exact Nat.mod_lt _ (by decide)
  have e3 : bits .xor .u64 (z : Int) ((z : Int) / 2147483648) = ((z ^^^ z / 2147483648 : Nat) : Int) := xorShift_u64 z 2147483648 hzl
  rw [e3]
  simp only [mixI, mixN, Int.toNat_natCast, hy, hz]

/-! ### It can be undone -/
theorem div_pow (x k : Nat) : x / 2 ^ k = x >>> k := (Nat.shiftRight_eq_div_pow x k).symm
/-- one shift and exclusive or, undone -/
theorem undo (x k : Nat) (hx : x < 2 ^ 64) (hk : 64 ≤ 3 * k) :
    (x ^^^ x >>> k) ^^^ ((x ^^^ x >>> k) >>> k ^^^ (x ^^^ x >>> k) >>> (k + k)) = x := by
  apply Nat.eq_of_testBit_eq
  intro i
  simp only [Nat.testBit_xor, Nat.testBit_shiftRight]
  have h3 : x.testBit (k + (k + k + i)) = false := Nat.testBit_lt_two_pow (Nat.lt_of_lt_of_le hx (Nat.pow_le_pow_right (by decide) (by omega)))
  have e1 : k + k + (k + i) = k + (k + k + i) := by omega
  have e2 : k + (k + i) = k + k + i := by omega
  simp only [e2, h3]
  cases x.testBit i <;> cases x.testBit (k + i) <;> cases x.testBit (k + k + i) <;> rfl
theorem undo_mul (x c d : Nat) (hx : x < 18446744073709551616) (h : c * d % 18446744073709551616 = 1) : x * c % 18446744073709551616 * d % 18446744073709551616 = x := by
  rw [Nat.mod_mul_mod, Nat.mul_assoc, ← Nat.mul_mod_mod, h, Nat.mul_one]
  exact Nat.mod_eq_of_lt hx
def back1 (y : Nat) : Nat := y ^^^ (y / 2147483648 ^^^ y / 4611686018427387904)
def back2 (y : Nat) : Nat := y * 3573116690164977347 % 18446744073709551616
def back3 (y : Nat) : Nat := y ^^^ (y / 134217728 ^^^ y / 18014398509481984)
def back4 (y : Nat) : Nat := y * 10871156337175269513 % 18446744073709551616
def back5 (y : Nat) : Nat := y ^^^ (y / 1073741824 ^^^ y / 1152921504606846976)
theorem undo31 (x : Nat) (hx : x < 18446744073709551616) : back1 (x ^^^ x / 2147483648) = x := by
  have := undo x 31 hx (by decide)
  simp only [← div_pow] at this
  exact this
theorem undo27 (x : Nat) (hx : x < 18446744073709551616) : back3 (x ^^^ x / 134217728) = x := by
  have := undo x 27 hx (by decide)
  simp only [← div_pow] at this
  exact this
theorem undo30 (x : Nat) (hx : x < 18446744073709551616) : back5 (x ^^^ x / 1073741824) = x := by
  have := undo x 30 hx (by decide)
  simp only [← div_pow] at this
  exact this
theorem unmix (x : Nat) (hx : x < 18446744073709551616) : back5 (back4 (back3 (back2 (back1 (mixN x))))) = x := by
  unfold mixN
  simp only []
  rw [undo31 _ (Nat.mod_lt _ (by decide))]
  unfold back2
  rw [undo_mul _ _ _ (xor_div_lt _ _ (Nat.mod_lt _ (by decide))) (by decide)]
  rw [undo27 _ (Nat.mod_lt _ (by decide))]
  unfold back4
  rw [undo_mul _ _ _ (xor_div_lt _ _ hx) (by decide)]
  exact undo30 x hx
theorem xor2 (y k l : Nat) (hy : y < 18446744073709551616) :
    bits .xor .u64 (y : Int) (bits .xor .u64 ((y : Int) / (k : Int)) ((y : Int) / (l : Int))) = ((y ^^^ (y / k ^^^ y / l) : Nat) : Int) := by
  have hk : y / k < 18446744073709551616 := Nat.lt_of_le_of_lt (Nat.div_le_self _ _) hy
  have hl : y / l < 18446744073709551616 := Nat.lt_of_le_of_lt (Nat.div_le_self _ _) hy
  rw [← Int.natCast_ediv, ← Int.natCast_ediv, bits_xor_u64_nat _ _ hk hl]
  exact bits_xor_u64_nat _ _ hy (Nat.xor_lt_two_pow (n := 64) hk hl)
theorem xor2_lt (y k l : Nat) (hy : y < 18446744073709551616) : y ^^^ (y / k ^^^ y / l) < 18446744073709551616 :=
  Nat.xor_lt_two_pow (n := 64) hy (Nat.xor_lt_two_pow (n := 64) (Nat.lt_of_le_of_lt (Nat.div_le_self _ _) hy) (Nat.lt_of_le_of_lt (Nat.div_le_self _ _) hy))
theorem wrap_mul (y c : Nat) : IntKind.u64.wrap ((y : Int) * (c : Int)) = ((y * c % 18446744073709551616 : Nat) : Int) := by
  rw [IntKind.wrap_u64, ← Int.natCast_mul]; rfl
/-- what the law reckons of a number: taken back step by step -/
def backI (y : Int) : Int :=
  bits .xor .u64 (IntKind.u64.wrap (bits .xor .u64 (IntKind.u64.wrap (bits .xor .u64 y (bits .xor .u64 (y / 2147483648) (y / 4611686018427387904)) * 3573116690164977347))
      (bits .xor .u64 (IntKind.u64.wrap (bits .xor .u64 y (bits .xor .u64 (y / 2147483648) (y / 4611686018427387904)) * 3573116690164977347) / 134217728)
        (IntKind.u64.wrap (bits .xor .u64 y (bits .xor .u64 (y / 2147483648) (y / 4611686018427387904)) * 3573116690164977347) / 18014398509481984)) * 10871156337175269513))
    (bits .xor .u64 (IntKind.u64.wrap (bits .xor .u64 (IntKind.u64.wrap (bits .xor .u64 y (bits .xor .u64 (y / 2147483648) (y / 4611686018427387904)) * 3573116690164977347))
      (bits .xor .u64 (IntKind.u64.wrap (bits .xor .u64 y (bits .xor .u64 (y / 2147483648) (y / 4611686018427387904)) * 3573116690164977347) / 134217728)
        (IntKind.u64.wrap (bits .xor .u64 y (bits .xor .u64 (y / 2147483648) (y / 4611686018427387904)) * 3573116690164977347) / 18014398509481984)) * 10871156337175269513) / 1073741824)
      (IntKind.u64.wrap (bits .xor .u64 (IntKind.u64.wrap (bits .xor .u64 y (bits .xor .u64 (y / 2147483648) (y / 4611686018427387904)) * 3573116690164977347))
      (bits .xor .u64 (IntKind.u64.wrap (bits .xor .u64 y (bits .xor .u64 (y / 2147483648) (y / 4611686018427387904)) * 3573116690164977347) / 134217728)
        (IntKind.u64.wrap (bits .xor .u64 y (bits .xor .u64 (y / 2147483648) (y / 4611686018427387904)) * 3573116690164977347) / 18014398509481984)) * 10871156337175269513) / 1152921504606846976))
theorem backI_mix (a : Int) (h0 : 0 ≤ a) (h1 : a ≤ 18446744073709551615) : backI (mixI a) = a := by
  obtain ⟨n, rfl⟩ := Int.eq_ofNat_of_zero_le h0
  have hn : n < 18446744073709551616 := by omega
  have hu := unmix n hn
  have hm := mixN_lt n
  unfold mixI
  rw [Int.toNat_natCast]
  generalize mixN n = m at *
  unfold backI
  have e1 : bits .xor .u64 (m : Int) (bits .xor .u64 ((m : Int) / 2147483648) ((m : Int) / 4611686018427387904)) = ((back1 m : Nat) : Int) := xor2 m 2147483648 4611686018427387904 hm
  rw [e1]
  have l1 : back1 m < 18446744073709551616 := xor2_lt _ _ _ hm
  generalize back1 m = m1 at *
  have e2 : IntKind.u64.wrap ((m1 : Int) * 3573116690164977347) = ((back2 m1 : Nat) : Int) := wrap_mul m1 3573116690164977347
  rw [e2]
  have l2 : back2 m1 < 18446744073709551616 := Nat.mod_lt _ (by decide)
  generalize back2 m1 = m2 at *
  have e3 : bits .xor .u64 (m2 : Int) (bits .xor .u64 ((m2 : Int) / 134217728) ((m2 : Int) / 18014398509481984)) = ((back3 m2 : Nat) : Int) := xor2 m2 134217728 18014398509481984 l2
  rw [e3]
  have l3 : back3 m2 < 18446744073709551616 := xor2_lt _ _ _ l2
  generalize back3 m2 = m3 at *
  have e4 : IntKind.u64.wrap ((m3 : Int) * 10871156337175269513) = ((back4 m3 : Nat) : Int) := wrap_mul m3 10871156337175269513
  rw [e4]
  have l4 : back4 m3 < 18446744073709551616 := Nat.mod_lt _ (by decide)
  generalize back4 m3 = m4 at *
  have e5 : bits .xor .u64 (m4 : Int) (bits .xor .u64 ((m4 : Int) / 1073741824) ((m4 : Int) / 1152921504606846976)) = ((back5 m4 : Nat) : Int) := xor2 m4 1073741824 1152921504606846976 l4
  rw [e5, hu]
theorem backI_beq (a : Int) (h0 : 0 ≤ a) (h1 : a ≤ 18446744073709551615) : (backI (mixI a) == a) = true := by
  rw [backI_mix a h0 h1]; exact beq_self_eq_true a

/-! ### A text's hash -/
def hstep (h : Nat) (b : UInt8) : Nat := (h ^^^ b.toNat) * 1099511628211 % 18446744073709551616
theorem hstep_lt (h : Nat) (b : UInt8) : hstep h b < 18446744073709551616 := Nat.mod_lt _ (by decide)
def hashN (l : List UInt8) : Nat := l.foldl hstep 14695981039346656037
def hashI (l : List UInt8) : Int := (hashN l : Nat)
theorem foldl_lt : ∀ (l : List UInt8) (h : Nat), h < 18446744073709551616 → l.foldl hstep h < 18446744073709551616
  | [], _, hh => hh
  | b :: l, h, _ => by rw [List.foldl_cons]; exact foldl_lt l _ (hstep_lt h b)
theorem hashN_lt (l : List UInt8) : hashN l < 18446744073709551616 := foldl_lt l _ (by decide)
theorem hashI_bd (l : List UInt8) : 0 ≤ hashI l ∧ hashI l ≤ 18446744073709551615 := by
  have := hashN_lt l
  unfold hashI
  omega
theorem hashN_snoc (l : List UInt8) (b : UInt8) : hashN (l ++ [b]) = hstep (hashN l) b := by
  unfold hashN
  rw [List.foldl_append, List.foldl_cons, List.foldl_nil]
theorem hash_step (l : List UInt8) (b : UInt8) :
    IntKind.u64.wrap (bits .xor .u64 (hashI l) (b.toNat : Int) * 1099511628211) = hashI (l ++ [b]) := by
  have hb : b.toNat < 18446744073709551616 := Nat.lt_trans b.toNat_lt (by decide)
  unfold hashI
  rw [bits_xor_u64_nat _ _ (hashN_lt l) hb, hashN_snoc]
  unfold hstep
  generalize hashN l ^^^ b.toNat = m
  have h : IntKind.u64.wrap ((m : Int) * 1099511628211) = ((m * 1099511628211 % 18446744073709551616 : Nat) : Int) := wrap_mul m 1099511628211
  rw [h]
theorem take_snoc (s : ByteArray) (k : Nat) (h : k < s.size) : s.data.toList.take (k + 1) = s.data.toList.take k ++ [s[k]] := by
  rw [List.take_succ_eq_append_getElem (by simpa using h)]; rfl
theorem wrap_byte (b : UInt8) : IntKind.u64.wrap (b.toNat : Int) = (b.toNat : Int) :=
  IntWalk.u64_in _ ⟨by omega, by have := b.toNat_lt; omega⟩
theorem hash_at (s : ByteArray) (k : Nat) (h : k < s.size) :
    IntKind.u64.wrap (bits .xor .u64 (hashI (s.data.toList.take k)) (IntKind.u64.wrap (s[k].toNat : Int)) * 1099511628211) = hashI (s.data.toList.take (k + 1)) := by
  rw [wrap_byte, hash_step, take_snoc s k h]
end Go.Proofs.Ytdckgbinfblpiaa.DiceMath
