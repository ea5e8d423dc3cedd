/- CONTRACTS of Meet and of the document's Meet. -/
import Derived.Test.YtkbanngbchhgaaaNRow
import Derived.WalkKit
import Derived.ProofKit
import Derived.Deep.QuietTactic
import Derived.BigQuiet
namespace Go.Proofs.Ytkbanngbchhgaaa
open Go.ChangeShapes Go.WideShapes Go.ChangeAt Go.RowKit

/-- Do two spans meet? -/
def meetB (a b : Int × Int) : Bool := decide (a.1 < a.2) && decide (b.1 < b.2) && decide (a.1 < b.2) && decide (b.1 < a.2)
theorem meet_sym (a b : Int × Int) : meetB a b = meetB b a := by
  unfold meetB
  rcases decide (a.1 < a.2) <;> rcases decide (b.1 < b.2) <;> rcases decide (a.1 < b.2) <;> rcases decide (b.1 < a.2) <;> rfl
abbrev spV (p : Int × Int) : Value := .agg #[.int .i64 p.1, .int .i64 p.2]
set_option maxHeartbeats 2000000 in
theorem meet_any (a b : Int × Int) (w : World) : Calls Try.prog 16 #[spV a, spV b] w fun e w' => e = .returned (.bool (meetB a b)) ∧ Below w.heap.size w w' := by
  have HM : Hid (meetB a b = (decide (a.1 < a.2) && decide (b.1 < b.2) && decide (a.1 < b.2) && decide (b.1 < a.2))) := rfl
  have HB : Hid _ := bl_alloc (bl_alloc (Below.refl w.heap.size w) (.cells #[.int .i64 a.1, .int .i64 a.2] 26)) (.cells #[.int .i64 b.1, .int .i64 b.2] 26)
  obtain ⟨a0, a1⟩ := a
  obtain ⟨b0, b1⟩ := b
  show Calls Try.prog 16 #[.agg #[.int .i64 a0, .int .i64 a1], .agg #[.int .i64 b0, .int .i64 b1]] w _
  by_cases h1 : a0 < a1
  · by_cases h2 : b0 < b1
    · by_cases h3 : a0 < b1
      · by_cases h4 : b0 < a1
        · have HR : Hid (meetB (a0, a1) (b0, b1) = true) := by show _ = _; rw [HM.out]; simp [h1, h2, h3, h4]
          go_enter Try.func16, Try.ntmps16
          go_wp2_with fail
          go_ret
          exact ⟨ret_bool HR.out.symm, HB.out⟩
        · have HR : Hid (meetB (a0, a1) (b0, b1) = false) := by show _ = _; rw [HM.out]; simp [h4]
          go_enter Try.func16, Try.ntmps16
          go_wp2_with fail
          go_ret
          exact ⟨ret_bool HR.out.symm, HB.out⟩
      · have HR : Hid (meetB (a0, a1) (b0, b1) = false) := by show _ = _; rw [HM.out]; simp [h3]
        go_enter Try.func16, Try.ntmps16
        go_wp2_with fail
        go_ret
        exact ⟨ret_bool HR.out.symm, HB.out⟩
    · have HR : Hid (meetB (a0, a1) (b0, b1) = false) := by show _ = _; rw [HM.out]; simp [h2]
      go_enter Try.func16, Try.ntmps16
      go_wp2_with fail
      go_ret
      exact ⟨ret_bool HR.out.symm, HB.out⟩
  · have HR : Hid (meetB (a0, a1) (b0, b1) = false) := by show _ = _; rw [HM.out]; simp [h1]
    go_enter Try.func16, Try.ntmps16
    go_wp2_with fail
    go_ret
    exact ⟨ret_bool HR.out.symm, HB.out⟩
set_option maxHeartbeats 2000000 in
theorem refMeet_any (a b : Int × Int) (w : World) : Calls Try.prog 17 #[spV a, spV b] w fun e w' => e = .returned (.bool (meetB a b)) ∧ Below w.heap.size w w' := by
  have HM : Hid (meetB a b = (decide (a.1 < a.2) && decide (b.1 < b.2) && decide (a.1 < b.2) && decide (b.1 < a.2))) := rfl
  have HB : Hid _ := bl_alloc (bl_alloc (Below.refl w.heap.size w) (.cells #[.int .i64 a.1, .int .i64 a.2] 26)) (.cells #[.int .i64 b.1, .int .i64 b.2] 26)
  obtain ⟨a0, a1⟩ := a
  obtain ⟨b0, b1⟩ := b
  show Calls Try.prog 17 #[.agg #[.int .i64 a0, .int .i64 a1], .agg #[.int .i64 b0, .int .i64 b1]] w _
  by_cases h1 : a0 < a1
  · by_cases h2 : b0 < b1
    · by_cases h3 : a0 < b1
      · by_cases h4 : b0 < a1
        · have HR : Hid (meetB (a0, a1) (b0, b1) = true) := by show _ = _; rw [HM.out]; simp [h1, h2, h3, h4]
          go_enter Try.func17, Try.ntmps17
          go_wp2_with fail
          go_ret
          exact ⟨ret_bool HR.out.symm, HB.out⟩
        · have HR : Hid (meetB (a0, a1) (b0, b1) = false) := by show _ = _; rw [HM.out]; simp [h4]
          go_enter Try.func17, Try.ntmps17
          go_wp2_with fail
          go_ret
          exact ⟨ret_bool HR.out.symm, HB.out⟩
      · have HR : Hid (meetB (a0, a1) (b0, b1) = false) := by show _ = _; rw [HM.out]; simp [h3]
        go_enter Try.func17, Try.ntmps17
        go_wp2_with fail
        go_ret
        exact ⟨ret_bool HR.out.symm, HB.out⟩
    · have HR : Hid (meetB (a0, a1) (b0, b1) = false) := by show _ = _; rw [HM.out]; simp [h2]
      go_enter Try.func17, Try.ntmps17
      go_wp2_with fail
      go_ret
      exact ⟨ret_bool HR.out.symm, HB.out⟩
  · have HR : Hid (meetB (a0, a1) (b0, b1) = false) := by show _ = _; rw [HM.out]; simp [h1]
    go_enter Try.func17, Try.ntmps17
    go_wp2_with fail
    go_ret
    exact ⟨ret_bool HR.out.symm, HB.out⟩
end Go.Proofs.Ytkbanngbchhgaaa
