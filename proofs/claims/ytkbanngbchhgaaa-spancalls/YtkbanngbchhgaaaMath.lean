/- PLAIN MATHEMATICS of words of 32 bits, no Go in sight: what And, Or, Xor, shifts, sums and signs are, over whole numbers from 0 to 2^32 - 1. -/
import Derived.Laws.BitsAllLaws
namespace Go.Proofs.Ytkbanngbchhgaaa

theorem u32wrap (n : Int) : IntKind.u32.wrap n = n % 4294967296 := by
  simp [IntKind.wrap, IntKind.bits, IntKind.signed]

theorem bits_and (x y : Nat) (hx : x < 4294967296) (hy : y < 4294967296) : bits .and .u32 (x : Int) (y : Int) = ((x &&& y : Nat) : Int) := by
  show IntKind.u32.wrap ((BitVec.ofInt 32 (x : Int) &&& BitVec.ofInt 32 (y : Int)).toNat : Int) = _
  rw [BitVec.toNat_and, ofInt_u32 x (by omega), ofInt_u32 y (by omega), u32wrap]
  have : x &&& y < 2 ^ 32 := Nat.and_lt_two_pow _ (by omega)
  omega
theorem bits_or (x y : Nat) (hx : x < 4294967296) (hy : y < 4294967296) : bits .or .u32 (x : Int) (y : Int) = ((x ||| y : Nat) : Int) := by
  show IntKind.u32.wrap ((BitVec.ofInt 32 (x : Int) ||| BitVec.ofInt 32 (y : Int)).toNat : Int) = _
  rw [BitVec.toNat_or, ofInt_u32 x (by omega), ofInt_u32 y (by omega), u32wrap]
  have : x ||| y < 2 ^ 32 := Nat.or_lt_two_pow (by omega) (by omega)
  omega
theorem bits_xor (x y : Nat) (hx : x < 4294967296) (hy : y < 4294967296) : bits .xor .u32 (x : Int) (y : Int) = ((x ^^^ y : Nat) : Int) := by
  show IntKind.u32.wrap ((BitVec.ofInt 32 (x : Int) ^^^ BitVec.ofInt 32 (y : Int)).toNat : Int) = _
  rw [BitVec.toNat_xor, ofInt_u32 x (by omega), ofInt_u32 y (by omega), u32wrap]
  have : x ^^^ y < 2 ^ 32 := Nat.xor_lt_two_pow (by omega) (by omega)
  omega

/- And and Or are together the sum; Xor and twice And, too. -/
theorem bit_and (x y : Nat) : (x &&& y) % 2 = (x % 2) * (y % 2) ∧ (x &&& y) / 2 = (x / 2) &&& (y / 2) := by
  refine ⟨?_, Nat.and_div_two⟩
  have h := Nat.testBit_and x y 0
  simp only [Nat.testBit_zero] at h
  generalize x &&& y = z at h ⊢
  rcases Nat.mod_two_eq_zero_or_one x with hx | hx <;> rcases Nat.mod_two_eq_zero_or_one y with hy | hy <;> rcases Nat.mod_two_eq_zero_or_one z with hz | hz <;> simp [hx, hy, hz] at h ⊢
theorem bit_or (x y : Nat) : (x ||| y) % 2 = (x % 2) + (y % 2) - (x % 2) * (y % 2) ∧ (x ||| y) / 2 = (x / 2) ||| (y / 2) := by
  refine ⟨?_, Nat.or_div_two⟩
  have h := Nat.testBit_or x y 0
  simp only [Nat.testBit_zero] at h
  generalize x ||| y = z at h ⊢
  rcases Nat.mod_two_eq_zero_or_one x with hx | hx <;> rcases Nat.mod_two_eq_zero_or_one y with hy | hy <;> rcases Nat.mod_two_eq_zero_or_one z with hz | hz <;> simp [hx, hy, hz] at h ⊢
theorem bit_xor (x y : Nat) : (x ^^^ y) % 2 = (x + y) % 2 ∧ (x ^^^ y) / 2 = (x / 2) ^^^ (y / 2) := by
  refine ⟨?_, Nat.xor_div_two⟩
  have h := Nat.testBit_xor x y 0
  simp only [Nat.testBit_zero] at h
  generalize x ^^^ y = z at h ⊢
  rcases Nat.mod_two_eq_zero_or_one x with hx | hx <;> rcases Nat.mod_two_eq_zero_or_one y with hy | hy <;> rcases Nat.mod_two_eq_zero_or_one z with hz | hz <;> simp [hx, hy, hz] at h ⊢ <;> omega

theorem parts (n : Nat) : ∀ x y : Nat, x ≤ n → (x &&& y) + (x ||| y) = x + y ∧ (x ^^^ y) + 2 * (x &&& y) = x + y := by
  induction n with
  | zero => intro x y hx; obtain rfl : x = 0 := by omega
            simp
  | succ n ih =>
    intro x y hx
    by_cases h0 : x = 0
    · subst h0; simp
    · obtain ⟨i1, i2⟩ := ih (x / 2) (y / 2) (by omega)
      obtain ⟨a1, a2⟩ := bit_and x y
      obtain ⟨o1, o2⟩ := bit_or x y
      obtain ⟨x1, x2⟩ := bit_xor x y
      rcases Nat.mod_two_eq_zero_or_one x with hx | hx <;> rcases Nat.mod_two_eq_zero_or_one y with hy | hy <;> rw [hx, hy] at a1 o1 <;> omega

/- What the bits below the k-th make, one bit more. -/
theorem mod_next (z k : Nat) : z % 2 ^ (k + 1) = z % 2 ^ k + 2 ^ k * (z / 2 ^ k % 2) := Nat.mod_pow_succ
theorem and_at (x y k : Nat) : (x &&& y) / 2 ^ k % 2 = (x / 2 ^ k % 2) * (y / 2 ^ k % 2) := by
  rw [← Nat.shiftRight_eq_div_pow, Nat.shiftRight_and_distrib, (bit_and _ _).1, Nat.shiftRight_eq_div_pow, Nat.shiftRight_eq_div_pow]
theorem or_at (x y k : Nat) : (x ||| y) / 2 ^ k % 2 = (x / 2 ^ k % 2) + (y / 2 ^ k % 2) - (x / 2 ^ k % 2) * (y / 2 ^ k % 2) := by
  rw [← Nat.shiftRight_eq_div_pow, Nat.shiftRight_or_distrib, (bit_or _ _).1, Nat.shiftRight_eq_div_pow, Nat.shiftRight_eq_div_pow]
theorem xor_at (x y k : Nat) : (x ^^^ y) / 2 ^ k % 2 = (x / 2 ^ k % 2 + y / 2 ^ k % 2) % 2 := by
  rw [← Nat.shiftRight_eq_div_pow, Nat.shiftRight_xor_distrib, (bit_xor _ _).1, Nat.shiftRight_eq_div_pow, Nat.shiftRight_eq_div_pow]
  omega
end Go.Proofs.Ytkbanngbchhgaaa
