/- What fault has at hand. -/
import Derived.Test.YtkbanngbchhgaaaIRight
namespace Go.Proofs.Ytkbanngbchhgaaa
open Go.ChangeShapes Go.WideShapes Go.ChangeAt Go.RowKit

/-- What fault has at hand: the function's block, the instruction's. -/
abbrev FaS (b : Nat) (nm : List UInt8) (s1 : Value) (rg cl : Int) (s2 : Value) (kd op d xa xb xc : Int) (n : Nat) (xn : List UInt8) (s3 : Value) (w : World) : Prop :=
  (w.cell? ⟨b, 0, none⟩ = some (.string (bs nm)) ∧ w.cell? ⟨b, 1, none⟩ = some s1 ∧ w.cell? ⟨b, 2, none⟩ = some (.int .i64 rg) ∧ w.cell? ⟨b, 3, none⟩ = some (.int .i64 cl) ∧ w.cell? ⟨b, 4, none⟩ = some s2) ∧
  (w.cell? ⟨b + 1, 0, none⟩ = some (.int .i64 kd) ∧ w.cell? ⟨b + 1, 1, none⟩ = some (.int .i64 op) ∧ w.cell? ⟨b + 1, 2, none⟩ = some (.int .i64 d) ∧ w.cell? ⟨b + 1, 3, none⟩ = some (.int .i64 xa) ∧ w.cell? ⟨b + 1, 4, none⟩ = some (.int .i64 xb) ∧ w.cell? ⟨b + 1, 5, none⟩ = some (.int .i64 xc) ∧
    w.cell? ⟨b + 1, 6, none⟩ = some (.int .u32 (n : Int)) ∧ w.cell? ⟨b + 1, 7, none⟩ = some (.string (bs xn)) ∧ w.cell? ⟨b + 1, 8, none⟩ = some s3)
theorem faS_of {w w' : World} {nm : List UInt8} {s1 : Value} {rg cl : Int} {s2 : Value} {kd op d xa xb xc : Int} {n : Nat} {xn : List UInt8} {s3 : Value}
    (hb : Below (w.heap.size + 2) ((w.alloc (.cells #[.string (bs nm), s1, .int .i64 rg, .int .i64 cl, s2] 25)).alloc (.cells #[.int .i64 kd, .int .i64 op, .int .i64 d, .int .i64 xa, .int .i64 xb, .int .i64 xc, .int .u32 (n : Int), .string (bs xn), s3] 43)) w') :
    FaS w.heap.size nm s1 rg cl s2 kd op d xa xb xc n xn s3 w' := by
  have h0 : w'.heap[w.heap.size]? = some (.cells #[.string (bs nm), s1, .int .i64 rg, .int .i64 cl, s2] 25) := by
    rw [hb.block _ (by omega), heap_alloc_old _ _ (by simp)]; exact heap_alloc_new w _
  have h1 : w'.heap[w.heap.size + 1]? = some (.cells #[.int .i64 kd, .int .i64 op, .int .i64 d, .int .i64 xa, .int .i64 xb, .int .i64 xc, .int .u32 (n : Int), .string (bs xn), s3] 43) := by
    rw [hb.block _ (by omega)]
    have := heap_alloc_new (w.alloc (.cells #[.string (bs nm), s1, .int .i64 rg, .int .i64 cl, s2] 25)) (.cells #[.int .i64 kd, .int .i64 op, .int .i64 d, .int .i64 xa, .int .i64 xb, .int .i64 xc, .int .u32 (n : Int), .string (bs xn), s3] 43)
    simpa using this
  refine ⟨⟨?_, ?_, ?_, ?_, ?_⟩, ⟨?_, ?_, ?_, ?_, ?_, ?_, ?_, ?_, ?_⟩⟩ <;> simp [World.cell?, h0, h1]
theorem u32_small (cl : Int) (h0 : 0 ≤ cl) (h1 : cl ≤ 4096) : IntKind.u32.wrap cl = cl := by rw [u32wrap]; omega

/-- What is told behind the registers. -/
def restN (c : Co) (i : Nat) (x : Ir) : Int :=
  if (x.kind = 5 ∨ x.kind = 6) ∧ c.cells ≤ x.n then 16 else if (x.kind = 8 ∨ x.kind = 9) ∧ (x.c ≤ i ∨ c.l.length ≤ x.c) then 17 else if i + 1 = c.l.length ∧ x.kind ≠ 10 then 18 else 0
end Go.Proofs.Ytkbanngbchhgaaa
