/- CONTRACT of strconv.AppendInt at 1 to 16, in base 10. -/
import Derived.Test.YtlagadofiahijaaDoorFType
namespace Go.Proofs.YtlagadofiahijaaDoor
open Go.ChangeShapes Go.WideShapes Go.ChangeAt Go.RowKit Go.Shelf

/-- The digits of 1 to 16. -/
def dig (i : Nat) : List UInt8 := if i < 10 then [UInt8.ofNat (48 + i)] else [49, UInt8.ofNat (38 + i)]
theorem dig_eq (i : Nat) (h2 : i ≤ 16) : Lib.decDigits i = dig i := by
  unfold dig
  split
  · rename_i h; rw [Lib.decDigits]; simp [h]
  · rename_i h
    rw [Lib.decDigits, dif_neg h, Lib.decDigits]
    have e1 : i / 10 = 1 := by omega
    have e2 : i % 10 = i - 10 := by omega
    rw [e1, e2, dif_pos (by decide)]
    have e3 : 48 + (i - 10) = 38 + i := by omega
    rw [e3]; rfl

set_option maxRecDepth 100000 in
set_option maxHeartbeats 1000000 in
theorem small_any (i : Nat) (h1 : 1 ≤ i) (h2 : i ≤ 16) (w : World) : Calls Tryd.prog 42 #[.int .i64 i] w fun e w' => e = .returned (.string (bs (Lib.decDigits i))) ∧ w' = w := by
  have hi : i = 1 ∨ i = 2 ∨ i = 3 ∨ i = 4 ∨ i = 5 ∨ i = 6 ∨ i = 7 ∨ i = 8 ∨ i = 9 ∨ i = 10 ∨ i = 11 ∨ i = 12 ∨ i = 13 ∨ i = 14 ∨ i = 15 ∨ i = 16 := by omega
  rcases hi with rfl | rfl | rfl | rfl | rfl | rfl | rfl | rfl | rfl | rfl | rfl | rfl | rfl | rfl | rfl | rfl
  all_goals
    go_enter Tryd.func42, Tryd.ntmps42
    go_wp2
    go_ret
    exact ⟨congrArg (fun s => Ending.returned (.string s)) (by rw [dig_eq _ (by decide)]; decide +kernel), rfl⟩
end Go.Proofs.YtlagadofiahijaaDoor
