/- HOW PAIRS ARE COMPARED. -/
import Derived.Test.YtkbanngbchhgaaaNRow
import Derived.ChangeKeysEq
namespace Go.Proofs.Ytkbanngbchhgaaa
open Go.ChangeShapes Go.WideShapes Go.ChangeAt Go.RowKit

theorem int_info2 : ∃ i, Try.prog.info? 3 = some i := by
  have h : (Try.prog.info? 3).isSome = true := by kernel_rfl
  exact Option.isSome_iff_exists.1 h
theorem eq_sp (w : World) (a b c d : Int) : (Op.equalIn 10000 26 (.agg #[.int .i64 a, .int .i64 b]) (.agg #[.int .i64 c, .int .i64 d])).run Try.prog w = .ok (a == c && b == d) w := by
  obtain ⟨i, hi⟩ := int_info2
  have hu : Try.prog.underlying 26 = some (.array 2 3) := Try.underlying26
  rw [run_equalIn_array w 9999 _ _ hu hi]
  have hc : Try.prog.cellsOf 3 = 1 := by kernel_rfl
  have hr : List.range 2 = [0, 1] := rfl
  rw [hc, hr]
  simp only [Op.eqItems, Sem.run_bind]
  have hp0 : ∀ (x y : Int), (part 3 #[.int .i64 x, .int .i64 y] (0 * 1)).run Try.prog w = .ok (.int .i64 x) w := fun x y => by kernel_rfl
  have hp1 : ∀ (x y : Int), (part 3 #[.int .i64 x, .int .i64 y] (1 * 1)).run Try.prog w = .ok (.int .i64 y) w := fun x y => by kernel_rfl
  have he : ∀ (x y : Int), (Op.equalIn 9999 3 (.int .i64 x) (.int .i64 y)).run Try.prog w = .ok (x == y) w := fun x y => run_equalIn_int w 9998 3 .i64 .i64 x y Try.underlying3
  rw [hp0, Result.andThen_ok, hp0, Result.andThen_ok, he, Result.andThen_ok]
  rcases h : (a == c) with _ | _
  · simp
  · simp [hp1, he]
    by_cases hbd : b = d
    · simp [hbd]
    · have : (b == d) = false := by simpa using hbd
      simp [hbd, this]
end Go.Proofs.Ytkbanngbchhgaaa
