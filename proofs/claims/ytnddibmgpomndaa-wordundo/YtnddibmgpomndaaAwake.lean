/- CONTRACT of the laws' awake: it tells true. -/
import Derived.Test.YtnddibmgpomndaaOf
namespace Go.Proofs.Ytnddibmgpomndaa
open Go.ChangeShapes Go.WideShapes Go.ChangeAt Go.RowKit
theorem awake_any (w : World) : Calls Try.prog 9 #[] w fun e w' => e = .returned (.bool true) ∧ Grown w w' := by
  have z2 : opz 2 0 1 = 4294967295 := by decide
  have b2 : opb 2 = true := by decide
  have s8 : sgn 8 = ⟨#[62, 62]⟩ := by decide
  have b8 : opb 8 = true := by decide
  go_enter Try.func9, Try.ntmps9
  go_wp2_with (first
    | (go_at_call 10; refine (op_any _ _ _ (by omega) (by omega) (by omega) (by omega) _).mono ?_; rintro e w' ⟨rfl, rfl⟩)
    | (go_at_call 12; refine (sign_any _ _).mono ?_; rintro e w' ⟨rfl, hg⟩)
    | (go_at_call 16; refine (sel_any _ _ _ _).mono ?_; rintro e w' ⟨rfl, rfl⟩))
  go_ret
  exact ⟨rfl, hg⟩
end Go.Proofs.Ytnddibmgpomndaa
