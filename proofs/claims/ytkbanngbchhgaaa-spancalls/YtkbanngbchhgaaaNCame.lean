/- PAIRS THAT CAME IN. -/
import Derived.Test.YtkbanngbchhgaaaICame
import Derived.Test.YtkbanngbchhgaaaNMeet
namespace Go.Proofs.Ytkbanngbchhgaaa
open Go.ChangeShapes Go.WideShapes Go.ChangeAt Go.RowKit

theorem cells_sp : Try.prog.cellsOf 26 = 2 := by kernel_rfl
theorem okWide_array {P : Program} {w : World} {r : Reach} {base : Nat} {t : TypeId} {v : Value} {n : Nat} {e : TypeId} (ht : P.underlying t = some (.array n e)) (h : Value.okWide P w r base t v) : ∃ cs, v = .agg cs ∧ cs.size = P.cellsOf t := by
  simp only [Value.okWide, ht] at h
  obtain ⟨cs, h1, h2, _⟩ := h
  exact ⟨cs, h1, h2⟩
/-- Numbers that an int may be. -/
def I64 (z : Int) : Prop := -9223372036854775808 ≤ z ∧ z ≤ 9223372036854775807
theorem i64_wf {z : Int} (h : (Lit.int .i64 z).wf = true) : I64 z := by
  have : -9223372036854775808 ≤ z ∧ z ≤ 9223372036854775807 := by simpa [Lit.wf, IntKind.min, IntKind.max, IntKind.signed, IntKind.bits] using h
  exact this
section
variable {H : Type} {enc : TypeId × Value → H} {w : World} {base : Nat} {sp : Nat → Bool} {held : Bool}
set_option maxRecDepth 100000 in
theorem came_span {b0 : Nat} {r : Reach} {v : Value} {d : DataW H} {ps : List MemPlace} (hv : Value.okWide Try.prog w r b0 26 v) (h : DataW.Trod enc Try.prog w base sp held 26 v d ps) :
    ∃ p : Int × Int, v = spV p ∧ I64 p.1 ∧ I64 p.2 := by
  obtain ⟨cs, rfl, _⟩ := okWide_array Try.underlying26 hv
  obtain ⟨fuel, hf⟩ := h
  obtain ⟨xs, m, _, _, hl, hlen, hx⟩ := DataW.trod_array Try.underlying26 hf
  obtain ⟨L, rfl⟩ : ∃ L : List Value, cs = L.toArray := ⟨cs.toList, by simp⟩
  simp only [Value.cells] at hl hx
  rw [cells_sp] at hl
  match L, hl, xs, hlen with
  | [v0, v1], _, [y0, y1], _ =>
    have h0 := hx 0 (by decide)
    have h1 := hx 1 (by decide)
    rw [cells_int] at h0 h1
    obtain ⟨q0, e0, w0⟩ := DataW.trod_int Try.underlying3 (show DataW.trod enc Try.prog w base sp held m 3 [v0] = some y0 from h0)
    obtain ⟨q1, e1, w1⟩ := DataW.trod_int Try.underlying3 (show DataW.trod enc Try.prog w base sp held m 3 [v1] = some y1 from h1)
    simp at e0 e1
    subst e0 e1
    exact ⟨(q0, q1), rfl, i64_wf w0.2, i64_wf w1.2⟩
end
end Go.Proofs.Ytkbanngbchhgaaa
