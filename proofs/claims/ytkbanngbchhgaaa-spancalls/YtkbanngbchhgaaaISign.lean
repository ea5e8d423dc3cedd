/- CONTRACTS of word.Sign. -/
import Derived.Test.YtkbanngbchhgaaaMath
import Derived.Test.YtkbanngbchhgaaaRows
import Derived.Test.YtkbanngbchhgaaaIData
import Derived.WalkKit
import Derived.ProofKit
import Derived.OpenShut
import Derived.ShutString
import Derived.WalkLawsBesides
import Derived.Deep.QuietTactic
import Derived.BigQuiet
namespace Go.Proofs.Ytkbanngbchhgaaa
open Go.ChangeShapes Go.WideShapes Go.ChangeAt Go.RowKit

def opb (o : Int) : Bool := decide (1 ≤ o ∧ o ≤ 10)
def sgn (o : Int) : ByteArray :=
  if o = 1 then ⟨#[43]⟩ else
  if o = 2 then ⟨#[45]⟩ else
  if o = 3 then ⟨#[42]⟩ else
  if o = 4 then ⟨#[38]⟩ else
  if o = 5 then ⟨#[124]⟩ else
  if o = 6 then ⟨#[94]⟩ else
  if o = 7 then ⟨#[60, 60]⟩ else
  if o = 8 then ⟨#[62, 62]⟩ else
  if o = 9 then ⟨#[60]⟩ else
  if o = 10 then ⟨#[61, 61]⟩ else ⟨#[]⟩
theorem signs_any (w : World) : Calls Try.prog 48 #[] w fun e w' => e = .returned (.agg #[.string ⟨#[]⟩, .string ⟨#[43]⟩, .string ⟨#[45]⟩, .string ⟨#[42]⟩, .string ⟨#[38]⟩, .string ⟨#[124]⟩, .string ⟨#[94]⟩, .string ⟨#[60, 60]⟩, .string ⟨#[62, 62]⟩, .string ⟨#[60]⟩, .string ⟨#[61, 61]⟩]) ∧ Below w.heap.size w w' := by
  go_enter Try.func48, Try.ntmps48
  go_wp2
  exact bodyPost_ret (v := .agg #[.string ⟨#[]⟩, .string ⟨#[43]⟩, .string ⟨#[45]⟩, .string ⟨#[42]⟩, .string ⟨#[38]⟩, .string ⟨#[124]⟩, .string ⟨#[94]⟩, .string ⟨#[60, 60]⟩, .string ⟨#[62, 62]⟩, .string ⟨#[60]⟩, .string ⟨#[61, 61]⟩]) (by simp [results, Try.results48, go_sem]) rfl ⟨rfl, (Below.refl _ _).alloc (Nat.le_refl _) _⟩
theorem retS {a b : ByteArray} {x y : Bool} (h : a = b) (h' : x = y) : Ending.returned (.tuple #[.string a, .bool x]) = .returned (.tuple #[.string b, .bool y]) := by rw [h, h']
theorem sign0 (o : Int) (h : o < 1 ∨ 10 < o) (w : World) : Calls Try.prog 44 #[.int .i64 o] w fun e w' => e = .returned (.tuple #[.string (sgn o), .bool (opb o)]) ∧ Below w.heap.size w w' := by
  have hb : opb o = false := by simp [opb]; omega
  have hz : sgn o = ⟨#[]⟩ := by
    unfold sgn
    rw [if_neg (by omega), if_neg (by omega), if_neg (by omega), if_neg (by omega), if_neg (by omega), if_neg (by omega), if_neg (by omega), if_neg (by omega), if_neg (by omega), if_neg (by omega)]
  rw [hb, hz]
  clear hb hz
  rcases h with h | h
  · go_enter Try.func44, Try.ntmps44
    go_wp2
    go_ret2
    exact ⟨rfl, Below.refl _ _⟩
  · have h' : ¬ o < 1 := by omega
    go_enter Try.func44, Try.ntmps44
    go_wp2
    go_ret2
    exact ⟨rfl, Below.refl _ _⟩
theorem sign1 (w : World) : Calls Try.prog 44 #[.int .i64 1] w fun e w' => e = .returned (.tuple #[.string (sgn 1), .bool (opb 1)]) ∧ Below w.heap.size w w' := by
  have hi : ∀ w, (Instr.index 73 (.agg #[.string ⟨#[]⟩, .string ⟨#[43]⟩, .string ⟨#[45]⟩, .string ⟨#[42]⟩, .string ⟨#[38]⟩, .string ⟨#[124]⟩, .string ⟨#[94]⟩, .string ⟨#[60, 60]⟩, .string ⟨#[62, 62]⟩, .string ⟨#[60]⟩, .string ⟨#[61, 61]⟩]) (.int .i64 1)).run Try.prog w = .ok (.string ⟨#[43]⟩) w := fun _ => by kernel_rfl
  go_enter Try.func44, Try.ntmps44
  go_wp2_with (go_at_call 48; refine (signs_any _).mono ?_; rintro e w' ⟨rfl, hg⟩)
  go_ret2
  exact ⟨retS (by simp [sgn]) rfl, hg⟩
theorem sign2 (w : World) : Calls Try.prog 44 #[.int .i64 2] w fun e w' => e = .returned (.tuple #[.string (sgn 2), .bool (opb 2)]) ∧ Below w.heap.size w w' := by
  have hi : ∀ w, (Instr.index 73 (.agg #[.string ⟨#[]⟩, .string ⟨#[43]⟩, .string ⟨#[45]⟩, .string ⟨#[42]⟩, .string ⟨#[38]⟩, .string ⟨#[124]⟩, .string ⟨#[94]⟩, .string ⟨#[60, 60]⟩, .string ⟨#[62, 62]⟩, .string ⟨#[60]⟩, .string ⟨#[61, 61]⟩]) (.int .i64 2)).run Try.prog w = .ok (.string ⟨#[45]⟩) w := fun _ => by kernel_rfl
  go_enter Try.func44, Try.ntmps44
  go_wp2_with (go_at_call 48; refine (signs_any _).mono ?_; rintro e w' ⟨rfl, hg⟩)
  go_ret2
  exact ⟨retS (by simp [sgn]) rfl, hg⟩
theorem sign3 (w : World) : Calls Try.prog 44 #[.int .i64 3] w fun e w' => e = .returned (.tuple #[.string (sgn 3), .bool (opb 3)]) ∧ Below w.heap.size w w' := by
  have hi : ∀ w, (Instr.index 73 (.agg #[.string ⟨#[]⟩, .string ⟨#[43]⟩, .string ⟨#[45]⟩, .string ⟨#[42]⟩, .string ⟨#[38]⟩, .string ⟨#[124]⟩, .string ⟨#[94]⟩, .string ⟨#[60, 60]⟩, .string ⟨#[62, 62]⟩, .string ⟨#[60]⟩, .string ⟨#[61, 61]⟩]) (.int .i64 3)).run Try.prog w = .ok (.string ⟨#[42]⟩) w := fun _ => by kernel_rfl
  go_enter Try.func44, Try.ntmps44
  go_wp2_with (go_at_call 48; refine (signs_any _).mono ?_; rintro e w' ⟨rfl, hg⟩)
  go_ret2
  exact ⟨retS (by simp [sgn]) rfl, hg⟩
theorem sign4 (w : World) : Calls Try.prog 44 #[.int .i64 4] w fun e w' => e = .returned (.tuple #[.string (sgn 4), .bool (opb 4)]) ∧ Below w.heap.size w w' := by
  have hi : ∀ w, (Instr.index 73 (.agg #[.string ⟨#[]⟩, .string ⟨#[43]⟩, .string ⟨#[45]⟩, .string ⟨#[42]⟩, .string ⟨#[38]⟩, .string ⟨#[124]⟩, .string ⟨#[94]⟩, .string ⟨#[60, 60]⟩, .string ⟨#[62, 62]⟩, .string ⟨#[60]⟩, .string ⟨#[61, 61]⟩]) (.int .i64 4)).run Try.prog w = .ok (.string ⟨#[38]⟩) w := fun _ => by kernel_rfl
  go_enter Try.func44, Try.ntmps44
  go_wp2_with (go_at_call 48; refine (signs_any _).mono ?_; rintro e w' ⟨rfl, hg⟩)
  go_ret2
  exact ⟨retS (by simp [sgn]) rfl, hg⟩
theorem sign5 (w : World) : Calls Try.prog 44 #[.int .i64 5] w fun e w' => e = .returned (.tuple #[.string (sgn 5), .bool (opb 5)]) ∧ Below w.heap.size w w' := by
  have hi : ∀ w, (Instr.index 73 (.agg #[.string ⟨#[]⟩, .string ⟨#[43]⟩, .string ⟨#[45]⟩, .string ⟨#[42]⟩, .string ⟨#[38]⟩, .string ⟨#[124]⟩, .string ⟨#[94]⟩, .string ⟨#[60, 60]⟩, .string ⟨#[62, 62]⟩, .string ⟨#[60]⟩, .string ⟨#[61, 61]⟩]) (.int .i64 5)).run Try.prog w = .ok (.string ⟨#[124]⟩) w := fun _ => by kernel_rfl
  go_enter Try.func44, Try.ntmps44
  go_wp2_with (go_at_call 48; refine (signs_any _).mono ?_; rintro e w' ⟨rfl, hg⟩)
  go_ret2
  exact ⟨retS (by simp [sgn]) rfl, hg⟩
theorem sign6 (w : World) : Calls Try.prog 44 #[.int .i64 6] w fun e w' => e = .returned (.tuple #[.string (sgn 6), .bool (opb 6)]) ∧ Below w.heap.size w w' := by
  have hi : ∀ w, (Instr.index 73 (.agg #[.string ⟨#[]⟩, .string ⟨#[43]⟩, .string ⟨#[45]⟩, .string ⟨#[42]⟩, .string ⟨#[38]⟩, .string ⟨#[124]⟩, .string ⟨#[94]⟩, .string ⟨#[60, 60]⟩, .string ⟨#[62, 62]⟩, .string ⟨#[60]⟩, .string ⟨#[61, 61]⟩]) (.int .i64 6)).run Try.prog w = .ok (.string ⟨#[94]⟩) w := fun _ => by kernel_rfl
  go_enter Try.func44, Try.ntmps44
  go_wp2_with (go_at_call 48; refine (signs_any _).mono ?_; rintro e w' ⟨rfl, hg⟩)
  go_ret2
  exact ⟨retS (by simp [sgn]) rfl, hg⟩
theorem sign7 (w : World) : Calls Try.prog 44 #[.int .i64 7] w fun e w' => e = .returned (.tuple #[.string (sgn 7), .bool (opb 7)]) ∧ Below w.heap.size w w' := by
  have hi : ∀ w, (Instr.index 73 (.agg #[.string ⟨#[]⟩, .string ⟨#[43]⟩, .string ⟨#[45]⟩, .string ⟨#[42]⟩, .string ⟨#[38]⟩, .string ⟨#[124]⟩, .string ⟨#[94]⟩, .string ⟨#[60, 60]⟩, .string ⟨#[62, 62]⟩, .string ⟨#[60]⟩, .string ⟨#[61, 61]⟩]) (.int .i64 7)).run Try.prog w = .ok (.string ⟨#[60, 60]⟩) w := fun _ => by kernel_rfl
  go_enter Try.func44, Try.ntmps44
  go_wp2_with (go_at_call 48; refine (signs_any _).mono ?_; rintro e w' ⟨rfl, hg⟩)
  go_ret2
  exact ⟨retS (by simp [sgn]) rfl, hg⟩
theorem sign8 (w : World) : Calls Try.prog 44 #[.int .i64 8] w fun e w' => e = .returned (.tuple #[.string (sgn 8), .bool (opb 8)]) ∧ Below w.heap.size w w' := by
  have hi : ∀ w, (Instr.index 73 (.agg #[.string ⟨#[]⟩, .string ⟨#[43]⟩, .string ⟨#[45]⟩, .string ⟨#[42]⟩, .string ⟨#[38]⟩, .string ⟨#[124]⟩, .string ⟨#[94]⟩, .string ⟨#[60, 60]⟩, .string ⟨#[62, 62]⟩, .string ⟨#[60]⟩, .string ⟨#[61, 61]⟩]) (.int .i64 8)).run Try.prog w = .ok (.string ⟨#[62, 62]⟩) w := fun _ => by kernel_rfl
  go_enter Try.func44, Try.ntmps44
  go_wp2_with (go_at_call 48; refine (signs_any _).mono ?_; rintro e w' ⟨rfl, hg⟩)
  go_ret2
  exact ⟨retS (by simp [sgn]) rfl, hg⟩
theorem sign9 (w : World) : Calls Try.prog 44 #[.int .i64 9] w fun e w' => e = .returned (.tuple #[.string (sgn 9), .bool (opb 9)]) ∧ Below w.heap.size w w' := by
  have hi : ∀ w, (Instr.index 73 (.agg #[.string ⟨#[]⟩, .string ⟨#[43]⟩, .string ⟨#[45]⟩, .string ⟨#[42]⟩, .string ⟨#[38]⟩, .string ⟨#[124]⟩, .string ⟨#[94]⟩, .string ⟨#[60, 60]⟩, .string ⟨#[62, 62]⟩, .string ⟨#[60]⟩, .string ⟨#[61, 61]⟩]) (.int .i64 9)).run Try.prog w = .ok (.string ⟨#[60]⟩) w := fun _ => by kernel_rfl
  go_enter Try.func44, Try.ntmps44
  go_wp2_with (go_at_call 48; refine (signs_any _).mono ?_; rintro e w' ⟨rfl, hg⟩)
  go_ret2
  exact ⟨retS (by simp [sgn]) rfl, hg⟩
theorem sign10 (w : World) : Calls Try.prog 44 #[.int .i64 10] w fun e w' => e = .returned (.tuple #[.string (sgn 10), .bool (opb 10)]) ∧ Below w.heap.size w w' := by
  have hi : ∀ w, (Instr.index 73 (.agg #[.string ⟨#[]⟩, .string ⟨#[43]⟩, .string ⟨#[45]⟩, .string ⟨#[42]⟩, .string ⟨#[38]⟩, .string ⟨#[124]⟩, .string ⟨#[94]⟩, .string ⟨#[60, 60]⟩, .string ⟨#[62, 62]⟩, .string ⟨#[60]⟩, .string ⟨#[61, 61]⟩]) (.int .i64 10)).run Try.prog w = .ok (.string ⟨#[61, 61]⟩) w := fun _ => by kernel_rfl
  go_enter Try.func44, Try.ntmps44
  go_wp2_with (go_at_call 48; refine (signs_any _).mono ?_; rintro e w' ⟨rfl, hg⟩)
  go_ret2
  exact ⟨retS (by simp [sgn]) rfl, hg⟩
/-- word.Sign, whatever the op. -/
theorem sign_any (o : Int) (w : World) : Calls Try.prog 44 #[.int .i64 o] w fun e w' => e = .returned (.tuple #[.string (sgn o), .bool (opb o)]) ∧ Below w.heap.size w w' := by
  by_cases h : 1 ≤ o ∧ o ≤ 10
  · have : o = 1 ∨ o = 2 ∨ o = 3 ∨ o = 4 ∨ o = 5 ∨ o = 6 ∨ o = 7 ∨ o = 8 ∨ o = 9 ∨ o = 10 := by omega
    rcases this with rfl | rfl | rfl | rfl | rfl | rfl | rfl | rfl | rfl | rfl
    · exact sign1 w
    · exact sign2 w
    · exact sign3 w
    · exact sign4 w
    · exact sign5 w
    · exact sign6 w
    · exact sign7 w
    · exact sign8 w
    · exact sign9 w
    · exact sign10 w
  · exact sign0 o (by omega) w
end Go.Proofs.Ytkbanngbchhgaaa
