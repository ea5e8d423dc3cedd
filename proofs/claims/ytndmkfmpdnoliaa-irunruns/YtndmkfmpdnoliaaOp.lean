/- CONTRACTS of word.Op, its helpers, and the document's own Op: both tell the same word and the same bool, for every op and all words. -/
import Derived.Test.YtndmkfmpdnoliaaRows
import Derived.Test.YtndmkfmpdnoliaaMath
import Derived.WalkKit
import Derived.ProofKit
import Derived.OpenShut
import Derived.ShutString
import Derived.WalkLawsBesides
import Derived.Deep.QuietTactic
import Derived.BigQuiet
namespace Go.Proofs.Ytndmkfmpdnoliaa
open Go.ChangeShapes Go.WideShapes Go.ChangeAt Go.RowKit

def opz (o a b : Int) : Int :=
  if o = 1 then (a + b) % 4294967296 else if o = 2 then (a - b) % 4294967296 else if o = 3 then a * b % 4294967296
  else if o = 4 then bits .and .u32 a b else if o = 5 then bits .or .u32 a b else if o = 6 then bits .xor .u32 a b
  else if o = 7 then a * 2 ^ (b % 32).toNat % 4294967296 else if o = 8 then a / 2 ^ (b % 32).toNat
  else if o = 9 then (if a < b then 1 else 0) else if o = 10 then (if a = b then 1 else 0) else 0
def opb (o : Int) : Bool := decide (1 ≤ o ∧ o ≤ 10)

theorem ret2 {k : IntKind} {a b : Int} {x y : Bool} (h : a = b) (h' : x = y) : Ending.returned (.tuple #[.int k a, .bool x]) = .returned (.tuple #[.int k b, .bool y]) := by rw [h, h']

theorem op1 (a b : Int) (w : World) : Calls Try.prog 71 #[.int .i64 1, .int .u32 a, .int .u32 b] w fun e w' => e = .returned (.tuple #[.int .u32 (opz 1 a b), .bool (opb 1)]) ∧ w' = w := by
  go_enter Try.func71, Try.ntmps71
  go_wp2
  go_ret2
  exact ⟨ret2 (by simp [opz]) rfl, rfl⟩
theorem op2 (a b : Int) (w : World) : Calls Try.prog 71 #[.int .i64 2, .int .u32 a, .int .u32 b] w fun e w' => e = .returned (.tuple #[.int .u32 (opz 2 a b), .bool (opb 2)]) ∧ w' = w := by
  go_enter Try.func71, Try.ntmps71
  go_wp2
  go_ret2
  exact ⟨ret2 (by simp [opz]) rfl, rfl⟩
theorem op3 (a b : Int) (w : World) : Calls Try.prog 71 #[.int .i64 3, .int .u32 a, .int .u32 b] w fun e w' => e = .returned (.tuple #[.int .u32 (opz 3 a b), .bool (opb 3)]) ∧ w' = w := by
  go_enter Try.func71, Try.ntmps71
  go_wp2
  go_ret2
  exact ⟨ret2 (by simp [opz]) rfl, rfl⟩
theorem op4 (a b : Int) (w : World) : Calls Try.prog 71 #[.int .i64 4, .int .u32 a, .int .u32 b] w fun e w' => e = .returned (.tuple #[.int .u32 (opz 4 a b), .bool (opb 4)]) ∧ w' = w := by
  go_enter Try.func71, Try.ntmps71
  go_wp2
  go_ret2
  exact ⟨ret2 (by simp [opz]) rfl, rfl⟩
theorem op5 (a b : Int) (w : World) : Calls Try.prog 71 #[.int .i64 5, .int .u32 a, .int .u32 b] w fun e w' => e = .returned (.tuple #[.int .u32 (opz 5 a b), .bool (opb 5)]) ∧ w' = w := by
  go_enter Try.func71, Try.ntmps71
  go_wp2
  go_ret2
  exact ⟨ret2 (by simp [opz]) rfl, rfl⟩
theorem op6 (a b : Int) (w : World) : Calls Try.prog 71 #[.int .i64 6, .int .u32 a, .int .u32 b] w fun e w' => e = .returned (.tuple #[.int .u32 (opz 6 a b), .bool (opb 6)]) ∧ w' = w := by
  go_enter Try.func71, Try.ntmps71
  go_wp2
  go_ret2
  exact ⟨ret2 (by simp [opz]) rfl, rfl⟩
theorem op7 (a b : Int) (h0 : 0 ≤ b) (h1 : b ≤ 4294967295) (w : World) : Calls Try.prog 71 #[.int .i64 7, .int .u32 a, .int .u32 b] w fun e w' => e = .returned (.tuple #[.int .u32 (opz 7 a b), .bool (opb 7)]) ∧ w' = w := by
  have g0 : 0 ≤ b % 32 := by omega
  have g1 : b % 32 ≤ 31 := by omega
  go_enter Try.func71, Try.ntmps71
  go_wp2
  go_ret2
  exact ⟨ret2 (by simp [opz]) rfl, rfl⟩
theorem op8 (a b : Int) (_ha0 : 0 ≤ a) (_ha1 : a ≤ 4294967295) (h0 : 0 ≤ b) (h1 : b ≤ 4294967295) (w : World) : Calls Try.prog 71 #[.int .i64 8, .int .u32 a, .int .u32 b] w fun e w' => e = .returned (.tuple #[.int .u32 (opz 8 a b), .bool (opb 8)]) ∧ w' = w := by
  have g0 : 0 ≤ b % 32 := by omega
  have g1 : b % 32 ≤ 31 := by omega
  go_enter Try.func71, Try.ntmps71
  go_wp2
  go_ret2
  exact ⟨ret2 (by simp [opz]) rfl, rfl⟩
theorem op9 (a b : Int) (w : World) : Calls Try.prog 71 #[.int .i64 9, .int .u32 a, .int .u32 b] w fun e w' => e = .returned (.tuple #[.int .u32 (opz 9 a b), .bool (opb 9)]) ∧ w' = w := by
  by_cases h : a < b
  · go_enter Try.func71, Try.ntmps71
    go_wp2
    go_ret2
    exact ⟨ret2 (by simp [opz, h]) rfl, rfl⟩
  · go_enter Try.func71, Try.ntmps71
    go_wp2
    go_ret2
    exact ⟨ret2 (by simp [opz, h]) rfl, rfl⟩
theorem op10 (a b : Int) (w : World) : Calls Try.prog 71 #[.int .i64 10, .int .u32 a, .int .u32 b] w fun e w' => e = .returned (.tuple #[.int .u32 (opz 10 a b), .bool (opb 10)]) ∧ w' = w := by
  by_cases h : a = b
  · subst h
    go_enter Try.func71, Try.ntmps71
    go_wp2
    go_ret2
    exact ⟨ret2 (by simp [opz]) rfl, rfl⟩
  · have h' : (a == b) = false := by simpa using h
    go_enter Try.func71, Try.ntmps71
    go_wp2
    go_ret2
    exact ⟨ret2 (by simp [opz, h]) rfl, rfl⟩
theorem op0 (o a b : Int) (h : o < 1 ∨ 10 < o) (w : World) : Calls Try.prog 71 #[.int .i64 o, .int .u32 a, .int .u32 b] w fun e w' => e = .returned (.tuple #[.int .u32 (opz o a b), .bool (opb o)]) ∧ w' = w := by
  have hb : opb o = false := by simp [opb]; omega
  have hz : opz o a b = 0 := by
    unfold opz
    rw [if_neg (by omega), if_neg (by omega), if_neg (by omega), if_neg (by omega), if_neg (by omega), if_neg (by omega), if_neg (by omega), if_neg (by omega), if_neg (by omega), if_neg (by omega)]
  rw [hb, hz]
  clear hb hz
  go_enter Try.func71, Try.ntmps71
  go_wp2
  go_ret2
  exact ⟨rfl, rfl⟩
/-- word.Op, whatever the op and the words. -/
theorem op_any (o a b : Int) (ha0 : 0 ≤ a) (ha1 : a ≤ 4294967295) (h0 : 0 ≤ b) (h1 : b ≤ 4294967295) (w : World) : Calls Try.prog 71 #[.int .i64 o, .int .u32 a, .int .u32 b] w fun e w' => e = .returned (.tuple #[.int .u32 (opz o a b), .bool (opb o)]) ∧ w' = w := by
  by_cases h : 1 ≤ o ∧ o ≤ 10
  · have : o = 1 ∨ o = 2 ∨ o = 3 ∨ o = 4 ∨ o = 5 ∨ o = 6 ∨ o = 7 ∨ o = 8 ∨ o = 9 ∨ o = 10 := by omega
    rcases this with rfl | rfl | rfl | rfl | rfl | rfl | rfl | rfl | rfl | rfl
    · exact op1 a b w
    · exact op2 a b w
    · exact op3 a b w
    · exact op4 a b w
    · exact op5 a b w
    · exact op6 a b w
    · exact op7 a b h0 h1 w
    · exact op8 a b ha0 ha1 h0 h1 w
    · exact op9 a b w
    · exact op10 a b w
  · exact op0 o a b (by omega) w
end Go.Proofs.Ytndmkfmpdnoliaa
