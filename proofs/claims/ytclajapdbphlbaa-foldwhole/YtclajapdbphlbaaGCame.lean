/- NUMBERS THAT CAME IN. -/
import Derived.Test.YtclajapdbphlbaaICame
namespace Go.Proofs.Ytclajapdbphlbaa
open Go.RowKit

set_option maxRecDepth 100000 in
theorem came_ints {H : Type} {enc : TypeId × Value → H} {w : World} {base : Nat} {sp : Nat → Bool} {held : Bool} {b0 : Nat} {r : Reach} {v : Value} {d : DataW H} {ps : List MemPlace} (hv : Value.okWide Try.prog w r b0 34 v) (h : DataW.Trod enc Try.prog w base sp held 34 v d ps) :
    ∃ a l c, v = .slice a (List.length l) c ∧ kInt.row w (fun _ => True) a l ∧ l.length ≤ c ∧ l.length ≤ maxLen := by
  obtain ⟨a, n, c, rfl⟩ := Go.WideShapes.okWide_slice Try.underlying34 hv
  obtain ⟨fuel, hf⟩ := h
  obtain ⟨a', l, c', he, hr, hlc, hl⟩ := came_row kInt (by decide) Try.underlying34 cells_int open_i64 fuel _ _ hf
  simp only [Value.cells] at he
  simp at he
  obtain ⟨rfl, rfl, rfl⟩ := he
  exact ⟨a, l, c, rfl, hr, hlc, hl⟩
end Go.Proofs.Ytclajapdbphlbaa
