/- CONTRACT of the document's own Op: the same word and the same bool as word.Op tells. -/
import Derived.Test.YtndmkfmpdnoliaaGBits
namespace Go.Proofs.Ytndmkfmpdnoliaa
namespace Ref1
open Go.ChangeShapes Go.WideShapes Go.ChangeAt Go.RowKit
theorem shl_step (x i : Nat) : (x * 2 ^ i % 4294967296 * 2) % 4294967296 = x * 2 ^ (i + 1) % 4294967296 := by
  rw [Nat.pow_succ, ← Nat.mul_assoc, Nat.mod_mul_mod]
theorem shr_step (x i : Nat) : x / 2 ^ i / 2 = x / 2 ^ (i + 1) := by
  rw [Nat.pow_succ, Nat.div_div_eq_div_mul]
theorem mul_bd (x y : Nat) (hx : x < 4294967296) (hy : y < 4294967296) : x * y < 18446744073709551616 := by
  have h : x * y ≤ 4294967295 * 4294967295 := Nat.mul_le_mul (by omega) (by omega)
  omega
theorem rop1 (x y : Nat) (hx : x < 4294967296) (hy : y < 4294967296) (w : World) : Calls Try.prog 56 #[.int .i64 1, .int .u32 x, .int .u32 y] w fun e w' => e = .returned (.tuple #[.int .u32 (opz 1 x y), .bool (opb 1)]) ∧ Below w.heap.size w w' := by
  go_enter Try.func56, Try.ntmps56
  go_wp2
  go_ret2
  exact ⟨ret2 (by simp [opz]) rfl, Below.refl _ _⟩
theorem rop2 (x y : Nat) (hx : x < 4294967296) (hy : y < 4294967296) (w : World) : Calls Try.prog 56 #[.int .i64 2, .int .u32 x, .int .u32 y] w fun e w' => e = .returned (.tuple #[.int .u32 (opz 2 x y), .bool (opb 2)]) ∧ Below w.heap.size w w' := by
  go_enter Try.func56, Try.ntmps56
  go_wp2
  go_ret2
  exact ⟨ret2 (by simp [opz]; omega) rfl, Below.refl _ _⟩
theorem rop3 (x y : Nat) (hx : x < 4294967296) (hy : y < 4294967296) (w : World) : Calls Try.prog 56 #[.int .i64 3, .int .u32 x, .int .u32 y] w fun e w' => e = .returned (.tuple #[.int .u32 (opz 3 x y), .bool (opb 3)]) ∧ Below w.heap.size w w' := by
  have hm := mul_bd x y hx hy
  have hm0 : (0 : Int) ≤ (x : Int) * (y : Int) := by rw [← Int.natCast_mul]; omega
  have hm1 : (x : Int) * (y : Int) ≤ 18446744073709551615 := by rw [← Int.natCast_mul]; omega
  go_enter Try.func56, Try.ntmps56
  go_wp2
  go_ret2
  exact ⟨ret2 (by simp [opz]) rfl, Below.refl _ _⟩
theorem rop4 (x y : Nat) (hx : x < 4294967296) (hy : y < 4294967296) (w : World) : Calls Try.prog 56 #[.int .i64 4, .int .u32 x, .int .u32 y] w fun e w' => e = .returned (.tuple #[.int .u32 (opz 4 x y), .bool (opb 4)]) ∧ Below w.heap.size w w' := by
  go_enter Try.func56, Try.ntmps56
  go_wp2_with (go_at_call 77; refine (ref_and x y hx hy _).mono ?_; rintro e w' ⟨rfl, hg⟩)
  go_ret2
  exact ⟨ret2 (by simp [opz]) rfl, hg⟩
theorem rop5 (x y : Nat) (hx : x < 4294967296) (hy : y < 4294967296) (w : World) : Calls Try.prog 56 #[.int .i64 5, .int .u32 x, .int .u32 y] w fun e w' => e = .returned (.tuple #[.int .u32 (opz 5 x y), .bool (opb 5)]) ∧ Below w.heap.size w w' := by
  go_enter Try.func56, Try.ntmps56
  go_wp2_with (go_at_call 77; refine (ref_or x y hx hy _).mono ?_; rintro e w' ⟨rfl, hg⟩)
  go_ret2
  exact ⟨ret2 (by simp [opz]) rfl, hg⟩
theorem rop6 (x y : Nat) (hx : x < 4294967296) (hy : y < 4294967296) (w : World) : Calls Try.prog 56 #[.int .i64 6, .int .u32 x, .int .u32 y] w fun e w' => e = .returned (.tuple #[.int .u32 (opz 6 x y), .bool (opb 6)]) ∧ Below w.heap.size w w' := by
  go_enter Try.func56, Try.ntmps56
  go_wp2_with (go_at_call 77; refine (ref_xor x y hx hy _).mono ?_; rintro e w' ⟨rfl, hg⟩)
  go_ret2
  exact ⟨ret2 (by simp [opz]) rfl, hg⟩
theorem rop7 (x y : Nat) (hx : x < 4294967296) (hy : y < 4294967296) (w : World) : Calls Try.prog 56 #[.int .i64 7, .int .u32 x, .int .u32 y] w fun e w' => e = .returned (.tuple #[.int .u32 (opz 7 x y), .bool (opb 7)]) ∧ Below w.heap.size w w' := by
  go_enter Try.func56, Try.ntmps56
  go_wp2
  go_loop [1, 11] (fun a i => ∃ k : Nat, k ≤ y % 32 ∧ i = .int .u32 k ∧ a = .int .u32 ((x * 2 ^ k % 4294967296 : Nat) : Int)) (fun _ i => y % 32 - (intOf i).toNat)
  case atStart => exact ⟨0, Nat.zero_le _, rfl, val_u32 (by simp; omega)⟩
  case round =>
    obtain ⟨k, hk, rfl, rfl⟩ := hrel
    have ST : Hid _ := shl_step x k
    have hb : x * 2 ^ k % 4294967296 < 4294967296 := Nat.mod_lt _ (by omega)
    generalize hv : x * 2 ^ k % 4294967296 = v at ST hb ⊢
    have HV : Hid _ := hv
    clear hv
    by_cases hlt : k < y % 32
    · go_wp2
      go_round
      case rel => exact ⟨k + 1, by omega, by go_num, val_u32 (by rw [← ST.out]; simp)⟩
      case measure => simp [intOf]; omega
    · go_wp2
      go_ret2
      obtain rfl : k = y % 32 := by omega
      have e : ((y : Int) % 32).toNat = y % 32 := by omega
      exact ⟨ret2 (by rw [← HV.out]; simp [opz, e]) rfl, Below.refl _ _⟩
theorem rop8 (x y : Nat) (hx : x < 4294967296) (hy : y < 4294967296) (w : World) : Calls Try.prog 56 #[.int .i64 8, .int .u32 x, .int .u32 y] w fun e w' => e = .returned (.tuple #[.int .u32 (opz 8 x y), .bool (opb 8)]) ∧ Below w.heap.size w w' := by
  go_enter Try.func56, Try.ntmps56
  go_wp2
  go_loop [1, 11] (fun a i => ∃ k : Nat, k ≤ y % 32 ∧ i = .int .u32 k ∧ a = .int .u32 ((x / 2 ^ k : Nat) : Int)) (fun _ i => y % 32 - (intOf i).toNat)
  case atStart => exact ⟨0, Nat.zero_le _, rfl, val_u32 (by simp)⟩
  case round =>
    obtain ⟨k, hk, rfl, rfl⟩ := hrel
    have ST : Hid _ := shr_step x k
    have hb : x / 2 ^ k < 4294967296 := Nat.lt_of_le_of_lt (Nat.div_le_self _ _) hx
    generalize hv : x / 2 ^ k = v at ST hb ⊢
    have HV : Hid _ := hv
    clear hv
    by_cases hlt : k < y % 32
    · go_wp2
      go_round
      case rel => exact ⟨k + 1, by omega, by go_num, val_u32 (by rw [← ST.out]; simp)⟩
      case measure => simp [intOf]; omega
    · go_wp2
      go_ret2
      obtain rfl : k = y % 32 := by omega
      have e : ((y : Int) % 32).toNat = y % 32 := by omega
      exact ⟨ret2 (by rw [← HV.out]; simp [opz, e]) rfl, Below.refl _ _⟩
theorem rop9 (x y : Nat) (hx : x < 4294967296) (hy : y < 4294967296) (w : World) : Calls Try.prog 56 #[.int .i64 9, .int .u32 x, .int .u32 y] w fun e w' => e = .returned (.tuple #[.int .u32 (opz 9 x y), .bool (opb 9)]) ∧ Below w.heap.size w w' := by
  by_cases h : x < y
  · go_enter Try.func56, Try.ntmps56
    go_wp2
    go_ret2
    exact ⟨ret2 (by simp [opz, h]) rfl, Below.refl _ _⟩
  · go_enter Try.func56, Try.ntmps56
    go_wp2
    go_ret2
    exact ⟨ret2 (by simp [opz, h]) rfl, Below.refl _ _⟩
theorem rop10 (x y : Nat) (hx : x < 4294967296) (hy : y < 4294967296) (w : World) : Calls Try.prog 56 #[.int .i64 10, .int .u32 x, .int .u32 y] w fun e w' => e = .returned (.tuple #[.int .u32 (opz 10 x y), .bool (opb 10)]) ∧ Below w.heap.size w w' := by
  by_cases h : x = y
  · subst h
    go_enter Try.func56, Try.ntmps56
    go_wp2
    go_ret2
    exact ⟨ret2 (by simp [opz]) rfl, Below.refl _ _⟩
  · have h' : ((x : Int) == (y : Int)) = false := by simp; omega
    go_enter Try.func56, Try.ntmps56
    go_wp2
    go_ret2
    exact ⟨ret2 (by simp [opz]; omega) rfl, Below.refl _ _⟩
theorem rop0 (o : Int) (x y : Nat) (hx : x < 4294967296) (hy : y < 4294967296) (h : o < 1 ∨ 10 < o) (w : World) : Calls Try.prog 56 #[.int .i64 o, .int .u32 x, .int .u32 y] w fun e w' => e = .returned (.tuple #[.int .u32 (opz o x y), .bool (opb o)]) ∧ Below w.heap.size w w' := by
  have hb : opb o = false := by simp [opb]; omega
  have hz : opz o x y = 0 := by
    unfold opz
    rw [if_neg (by omega), if_neg (by omega), if_neg (by omega), if_neg (by omega), if_neg (by omega), if_neg (by omega), if_neg (by omega), if_neg (by omega), if_neg (by omega), if_neg (by omega)]
  rw [hb, hz]
  clear hb hz
  go_enter Try.func56, Try.ntmps56
  go_wp2
  go_ret2
  exact ⟨rfl, Below.refl _ _⟩
/-- carlingref01.Op, whatever the op and the words. -/
theorem rop_any (o a b : Int) (ha0 : 0 ≤ a) (ha1 : a ≤ 4294967295) (h0 : 0 ≤ b) (h1 : b ≤ 4294967295) (w : World) : Calls Try.prog 56 #[.int .i64 o, .int .u32 a, .int .u32 b] w fun e w' => e = .returned (.tuple #[.int .u32 (opz o a b), .bool (opb o)]) ∧ Below w.heap.size w w' := by
  obtain ⟨x, rfl⟩ : ∃ x : Nat, a = x := ⟨a.toNat, by omega⟩
  obtain ⟨y, rfl⟩ : ∃ y : Nat, b = y := ⟨b.toNat, by omega⟩
  have hx : x < 4294967296 := by omega
  have hy : y < 4294967296 := by omega
  by_cases h : 1 ≤ o ∧ o ≤ 10
  · have : o = 1 ∨ o = 2 ∨ o = 3 ∨ o = 4 ∨ o = 5 ∨ o = 6 ∨ o = 7 ∨ o = 8 ∨ o = 9 ∨ o = 10 := by omega
    rcases this with rfl | rfl | rfl | rfl | rfl | rfl | rfl | rfl | rfl | rfl
    · exact rop1 x y hx hy w
    · exact rop2 x y hx hy w
    · exact rop3 x y hx hy w
    · exact rop4 x y hx hy w
    · exact rop5 x y hx hy w
    · exact rop6 x y hx hy w
    · exact rop7 x y hx hy w
    · exact rop8 x y hx hy w
    · exact rop9 x y hx hy w
    · exact rop10 x y hx hy w
  · exact rop0 o x y hx hy (by omega) w
end Ref1
end Go.Proofs.Ytndmkfmpdnoliaa
