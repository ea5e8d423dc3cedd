/- What any op makes of two words is a word. -/
import Derived.Test.YtndmkfmpdnoliaaOp
namespace Go.Proofs.Ytndmkfmpdnoliaa
open Go.ChangeShapes Go.WideShapes Go.ChangeAt Go.RowKit
theorem opz_lim (o a b : Int) (ha0 : 0 ≤ a) (ha1 : a ≤ 4294967295) (hb0 : 0 ≤ b) (hb1 : b ≤ 4294967295) : 0 ≤ opz o a b ∧ opz o a b ≤ 4294967295 := by
  obtain ⟨x, rfl⟩ : ∃ x : Nat, a = x := ⟨a.toNat, by omega⟩
  obtain ⟨y, rfl⟩ : ∃ y : Nat, b = y := ⟨b.toNat, by omega⟩
  have c1 : x &&& y < 2 ^ 32 := Nat.and_lt_two_pow _ (by omega)
  have c2 : x ||| y < 2 ^ 32 := Nat.or_lt_two_pow (by omega) (by omega)
  have c3 : x ^^^ y < 2 ^ 32 := Nat.xor_lt_two_pow (by omega) (by omega)
  have c4 : 0 ≤ (x : Int) / 2 ^ ((y : Int) % 32).toNat ∧ (x : Int) / 2 ^ ((y : Int) % 32).toNat ≤ 4294967295 := by
    generalize ((y : Int) % 32).toNat = k
    have h : (x : Int) / 2 ^ k = ((x / 2 ^ k : Nat) : Int) := by simp
    have h' : x / 2 ^ k ≤ x := Nat.div_le_self _ _
    rw [h]
    exact ⟨Int.natCast_nonneg _, by omega⟩
  have m : ∀ n : Int, 0 ≤ n % 4294967296 ∧ n % 4294967296 ≤ 4294967295 := fun n => by omega
  have b1 : ∀ n : Nat, n < 2 ^ 32 → 0 ≤ (n : Int) ∧ (n : Int) ≤ 4294967295 := fun n h => by omega
  have i1 : ∀ (p : Prop) [Decidable p], 0 ≤ (if p then 1 else 0 : Int) ∧ (if p then 1 else 0 : Int) ≤ 4294967295 := fun p _ => by split <;> omega
  have z1 : (0 : Int) ≤ 0 ∧ (0 : Int) ≤ 4294967295 := by omega
  unfold opz
  rw [bits_and x y (by omega) (by omega), bits_or x y (by omega) (by omega), bits_xor x y (by omega) (by omega)]
  by_cases h1 : o = 1
  · rw [if_pos h1]; exact m _
  rw [if_neg h1]
  by_cases h2 : o = 2
  · rw [if_pos h2]; exact m _
  rw [if_neg h2]
  by_cases h3 : o = 3
  · rw [if_pos h3]; exact m _
  rw [if_neg h3]
  by_cases h4 : o = 4
  · rw [if_pos h4]; exact b1 _ c1
  rw [if_neg h4]
  by_cases h5 : o = 5
  · rw [if_pos h5]; exact b1 _ c2
  rw [if_neg h5]
  by_cases h6 : o = 6
  · rw [if_pos h6]; exact b1 _ c3
  rw [if_neg h6]
  by_cases h7 : o = 7
  · rw [if_pos h7]; exact m _
  rw [if_neg h7]
  by_cases h8 : o = 8
  · rw [if_pos h8]; exact c4
  rw [if_neg h8]
  by_cases h9 : o = 9
  · rw [if_pos h9]; exact i1 _
  rw [if_neg h9]
  by_cases h10 : o = 10
  · rw [if_pos h10]; exact i1 _
  rw [if_neg h10]
  exact z1
end Go.Proofs.Ytndmkfmpdnoliaa
