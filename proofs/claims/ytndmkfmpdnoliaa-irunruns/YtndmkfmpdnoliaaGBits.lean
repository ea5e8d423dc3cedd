/- CONTRACT of the document's own bits: bit by bit, what And, Or and Xor of two words are. -/
import Derived.Test.YtndmkfmpdnoliaaOp
import Derived.Test.YtndmkfmpdnoliaaIData
import Derived.Deep.Draws
namespace Go.Proofs.Ytndmkfmpdnoliaa
namespace Ref1
open Go.ChangeShapes Go.WideShapes Go.ChangeAt Go.RowKit
def nth4 (r0 r1 r2 r3 : Nat) (p q : Nat) : Nat := if p = 0 then (if q = 0 then r0 else r1) else (if q = 0 then r2 else r3)
theorem bit01 (x k : Nat) : ((x : Int) / 2 ^ k).tmod 2 = ((x / 2 ^ k % 2 : Nat) : Int) := by
  have e : (x : Int) / 2 ^ k = ((x / 2 ^ k : Nat) : Int) := by simp
  rw [e, Int.tmod_eq_emod_of_nonneg (Int.natCast_nonneg _)]
  simp
theorem bits_step (z k r : Nat) (hz : z < 4294967296) (hk : k < 32) (hr : z / 2 ^ k % 2 = r) : ((((z % 2 ^ k : Nat) : Int) + (r : Int) * 2 ^ k % 4294967296) % 4294967296 : Int) = ((z % 2 ^ (k + 1) : Nat) : Int) := by
  have h := mod_next z k
  rw [hr] at h
  have hp : (2 : Nat) ^ k ≤ 2 ^ 31 := Nat.pow_le_pow_right (by omega) (by omega)
  have hm : z % 2 ^ (k + 1) ≤ z := Nat.mod_le _ _
  have e : ((r : Int) * 2 ^ k) = ((2 ^ k * r : Nat) : Int) := by simp [Int.mul_comm]
  rw [e, h]
  omega
theorem val_u32 {a b : Int} (h : a = b) : Value.int .u32 a = .int .u32 b := by rw [h]
theorem ret_int {k : IntKind} {a b : Int} (h : a = b) : Ending.returned (.int k a) = .returned (.int k b) := by rw [h]
set_option maxHeartbeats 1000000 in
theorem bits_any (x y z r0 r1 r2 r3 : Nat) (_hx : x < 4294967296) (_hy : y < 4294967296) (hz : z < 4294967296)
    (hr : ∀ k, k < 32 → z / 2 ^ k % 2 = nth4 r0 r1 r2 r3 (x / 2 ^ k % 2) (y / 2 ^ k % 2)) (w : World) :
   Calls Try.prog 77 #[.int .u32 x, .int .u32 y, .agg #[.int .u32 r0, .int .u32 r1, .int .u32 r2, .int .u32 r3]] w fun e w' => e = .returned (.int .u32 z) ∧ Below w.heap.size w w' := by
  have HR : Hid (∀ k, k < 32 → z / 2 ^ k % 2 = nth4 r0 r1 r2 r3 (x / 2 ^ k % 2) (y / 2 ^ k % 2)) := hr
  clear hr
  go_enter Try.func77, Try.ntmps77
  go_wp2
  go_loopw [7, 8] (fun o i wr => ∃ k : Nat, k ≤ 32 ∧ i = .int .i64 k ∧ o = .int .u32 ((z % 2^k : Nat):Int) ∧ ∃ n, wr = (w.alloc (.cells #[.int .u32 r0, .int .u32 r1, .int .u32 r2, .int .u32 r3] 115)).drewN n) (fun _ i _ => 32 - (intOf i).toNat)
  case atStart => exact ⟨0, by omega, rfl, by simp [Nat.mod_one], 0, rfl⟩
  case round =>
    obtain ⟨k, hk, rfl, rfl, n, rfl⟩ := hrel
    by_cases hlt : k < 32
    · have bx := bit01 x k
      have bq := bit01 y k
      have st := bits_step z k _ hz hlt (HR.out k hlt)
      have ST : Hid _ := st
      clear st HR
      rcases Nat.mod_two_eq_zero_or_one (x / 2 ^ k) with h1 | h1 <;> rcases Nat.mod_two_eq_zero_or_one (y / 2 ^ k) with h2 | h2 <;> rw [h1] at bx ST <;> rw [h2] at bq ST <;> simp only [nth4] at ST <;> clear h1 h2
      all_goals
        go_wp2
        go_quiet (fail)
        go_wp2
        go_roundw
        case rel => exact ⟨k + 1, by omega, by go_num, val_u32 (by have := ST.out; simpa using this), _, rfl⟩
        case measure => simp [intOf]; omega
    · go_wp2
      go_ret
      obtain rfl : k = 32 := by omega
      exact ⟨ret_int (by omega), bl_then (bl_alloc (Below.refl _ _) _) (drewN_below _ n)⟩
theorem ref_and (x y : Nat) (hx : x < 4294967296) (hy : y < 4294967296) (w : World) :
    Calls Try.prog 77 #[.int .u32 x, .int .u32 y, .agg #[.int .u32 0, .int .u32 0, .int .u32 0, .int .u32 1]] w fun e w' => e = .returned (.int .u32 (bits .and .u32 x y)) ∧ Below w.heap.size w w' := by
  rw [bits_and x y hx hy]
  refine bits_any x y (x &&& y) 0 0 0 1 hx hy (by have : x &&& y < 2 ^ 32 := Nat.and_lt_two_pow _ (by omega)
                                                  omega) (fun k _ => ?_) w
  rw [and_at]
  rcases Nat.mod_two_eq_zero_or_one (x / 2 ^ k) with h1 | h1 <;> rcases Nat.mod_two_eq_zero_or_one (y / 2 ^ k) with h2 | h2 <;> rw [h1, h2] <;> rfl
theorem ref_or (x y : Nat) (hx : x < 4294967296) (hy : y < 4294967296) (w : World) :
    Calls Try.prog 77 #[.int .u32 x, .int .u32 y, .agg #[.int .u32 0, .int .u32 1, .int .u32 1, .int .u32 1]] w fun e w' => e = .returned (.int .u32 (bits .or .u32 x y)) ∧ Below w.heap.size w w' := by
  rw [bits_or x y hx hy]
  refine bits_any x y (x ||| y) 0 1 1 1 hx hy (by have : x ||| y < 2 ^ 32 := Nat.or_lt_two_pow (by omega) (by omega)
                                                  omega) (fun k _ => ?_) w
  rw [or_at]
  rcases Nat.mod_two_eq_zero_or_one (x / 2 ^ k) with h1 | h1 <;> rcases Nat.mod_two_eq_zero_or_one (y / 2 ^ k) with h2 | h2 <;> rw [h1, h2] <;> rfl
theorem ref_xor (x y : Nat) (hx : x < 4294967296) (hy : y < 4294967296) (w : World) :
    Calls Try.prog 77 #[.int .u32 x, .int .u32 y, .agg #[.int .u32 0, .int .u32 1, .int .u32 1, .int .u32 0]] w fun e w' => e = .returned (.int .u32 (bits .xor .u32 x y)) ∧ Below w.heap.size w w' := by
  rw [bits_xor x y hx hy]
  refine bits_any x y (x ^^^ y) 0 1 1 0 hx hy (by have : x ^^^ y < 2 ^ 32 := Nat.xor_lt_two_pow (by omega) (by omega)
                                                  omega) (fun k _ => ?_) w
  rw [xor_at]
  rcases Nat.mod_two_eq_zero_or_one (x / 2 ^ k) with h1 | h1 <;> rcases Nat.mod_two_eq_zero_or_one (y / 2 ^ k) with h2 | h2 <;> rw [h1, h2] <;> rfl
end Ref1
end Go.Proofs.Ytndmkfmpdnoliaa
