/- CONTRACT of awake. -/
import Derived.Test.YtkbanngbchhgaaaNSpans
import Derived.Test.YtkbanngbchhgaaaNMeet
import Derived.Test.YtkbanngbchhgaaaNEq
import Derived.Deep.RegionHeld3
namespace Go.Proofs.Ytkbanngbchhgaaa
open Go.ChangeShapes Go.WideShapes Go.ChangeAt Go.RowKit

/-- The one function. -/
def cS : Co := ⟨[97, 46, 102], [], 2, 0, [⟨1, 0, 0, 0, 0, 0, 5, [], []⟩, ⟨3, 1, 1, 0, 0, 0, 0, [], []⟩, ⟨10, 0, 0, 1, 0, 0, 0, [], []⟩]⟩
theorem right_cS : rightR cS = (0, -1) := by decide +kernel
theorem span_cS : spansM cS = [(0, 1), (1, 2)] := by decide +kernel
theorem cS_ok : CoOk cS := ⟨by decide, by decide⟩
theorem cS_plain : PlainIr cS.l := by unfold PlainIr; decide
abbrev irsS : Obj := .cells #[.int .i64 1, .int .i64 0, .int .i64 0, .int .i64 0, .int .i64 0, .int .i64 0, .int .u32 5, .string ⟨#[]⟩, .slice none 0 0, .int .i64 3, .int .i64 1, .int .i64 1, .int .i64 0, .int .i64 0, .int .i64 0, .int .u32 0, .string ⟨#[]⟩, .slice none 0 0, .int .i64 10, .int .i64 0, .int .i64 0, .int .i64 1, .int .i64 0, .int .i64 0, .int .u32 0, .string ⟨#[]⟩, .slice none 0 0] 43
abbrev coS (b : Nat) : Obj := .cells #[.string ⟨#[97, 46, 102]⟩, .slice none 0 0, .int .i64 2, .int .i64 0, .slice (some ⟨b, 0, none⟩) 3 3] 25
theorem cS_in {w : World} {b : Nat} (h : w.heap[b]? = some irsS) : CoIn w (fun _ => True) cS none 0 (some ⟨b, 0, none⟩) 3 := ⟨Nat.le_refl _, Nat.le_refl _, trivial, irs_rowG cS_plain h⟩
theorem cS_spans {B : Nat} {w : World} {b : Nat} (hg : Glob B w) (h : w.heap[b]? = some irsS) : Calls Try.prog 12 #[.agg #[.string ⟨#[97, 46, 102]⟩, .slice none 0 0, .int .i64 2, .int .i64 0, .slice (some ⟨b, 0, none⟩) 3 3]] w fun e w' => (∃ b2, e = .returned (.slice (some ⟨b2, 0, none⟩) 2 2) ∧ w'.heap[b2]? = some (spB [(0, 1), (1, 2)]) ∧ w.heap.size ≤ b2) ∧ Below w.heap.size w w' := by
  have := spans_yes cS none 0 (some ⟨b, 0, none⟩) 3 w (cS_in h) cS_ok hg (by rw [right_cS])
  rw [span_cS] at this
  exact this
set_option maxRecDepth 100000 in
set_option maxHeartbeats 4000000 in
theorem awake11_any {B : Nat} (w : World) (hg : Glob B w) : Calls Try.prog 9 #[] w fun e w' => e = .returned (.bool true) ∧ Below w.heap.size w w' := by
  have HL : Hid _ := two_box' w irsS (coS w.heap.size)
  go_enter Try.func9, Try.ntmps9
  go_upto_region 2 with fail
  generalize World.alloc (World.alloc w _) _ = w1 at HL ⊢
  obtain ⟨h1, h2, hb1, hz1⟩ := HL.out
  have hfo := cS_spans (B := B) (b := w.heap.size) (hg.below hb1) h1
  obtain ⟨k0, k1, k2, k3, k4⟩ := five h2
  have HB1 : Hid _ := hb1
  clear h1 h2 HL hb1
  go_upto_region 3 with (first | (go_at_call 12; refine hfo.mono ?_; rintro e w2 ⟨⟨b2, rfl, hp2, hz2⟩, hb2⟩))
  have HB2 : Hid _ := bl_then HB1.out hb2
  have c0 : w2.drew.cell? ⟨b2, 0, none⟩ = some (.int .i64 0) ∧ w2.drew.cell? ⟨b2, 1, none⟩ = some (.int .i64 1) ∧ w2.drew.cell? ⟨b2, 2, none⟩ = some (.int .i64 1) ∧ w2.drew.cell? ⟨b2, 3, none⟩ = some (.int .i64 2) := by
    have hd2 : w2.drew.heap[b2]? = some (spB [(0, 1), (1, 2)]) := hp2
    refine ⟨?_, ?_, ?_, ?_⟩ <;> simp [World.cell?, hd2, pcs]
  have hlt : b2 < w2.heap.size := lt_of_some hp2
  have HD0 : Hid (Below w2.heap.size w2 w2.drew ∧ w2.drew.cell? ⟨b2, 0, none⟩ = some (.int .i64 0) ∧ w2.drew.cell? ⟨b2, 1, none⟩ = some (.int .i64 1) ∧ w2.drew.cell? ⟨b2, 2, none⟩ = some (.int .i64 1) ∧ w2.drew.cell? ⟨b2, 3, none⟩ = some (.int .i64 2)) := ⟨drewB w2, c0⟩
  have HAL : Hid (∀ w1 w' : World, (Below w2.heap.size w2 w1 ∧ w1.cell? ⟨b2, 0, none⟩ = some (.int .i64 0) ∧ w1.cell? ⟨b2, 1, none⟩ = some (.int .i64 1) ∧ w1.cell? ⟨b2, 2, none⟩ = some (.int .i64 1) ∧ w1.cell? ⟨b2, 3, none⟩ = some (.int .i64 2)) → Below w1.heap.size w1 w' → (Below w2.heap.size w2 w' ∧ w'.cell? ⟨b2, 0, none⟩ = some (.int .i64 0) ∧ w'.cell? ⟨b2, 1, none⟩ = some (.int .i64 1) ∧ w'.cell? ⟨b2, 2, none⟩ = some (.int .i64 1) ∧ w'.cell? ⟨b2, 3, none⟩ = some (.int .i64 2))) := fun w1 w' h hb => by
    have hs := h.1.size
    exact ⟨bl_then h.1 hb, (hb.cell (p := ⟨b2, 0, none⟩) (by show b2 < _; omega)).trans h.2.1, (hb.cell (p := ⟨b2, 1, none⟩) (by show b2 < _; omega)).trans h.2.2.1, (hb.cell (p := ⟨b2, 2, none⟩) (by show b2 < _; omega)).trans h.2.2.2.1, (hb.cell (p := ⟨b2, 3, none⟩) (by show b2 < _; omega)).trans h.2.2.2.2⟩
  have hmm := fun a0 a1 b0 b1 w => meet_any (a0, a1) (b0, b1) w
  have hq := eq_sp
  have e0 : meetB (0, 1) (1, 2) = false := by decide
  have e1 : meetB (0, 1) (0, 1) = true := by decide
  clear hfo hb2 hp2 hz2 hlt c0 k0 k1 k2 k3 k4 HB1
  go_region_held3 (fun w' : World => Below w2.heap.size w2 w' ∧ w'.cell? ⟨b2, 0, none⟩ = some (.int .i64 0) ∧ w'.cell? ⟨b2, 1, none⟩ = some (.int .i64 1) ∧ w'.cell? ⟨b2, 2, none⟩ = some (.int .i64 1) ∧ w'.cell? ⟨b2, 3, none⟩ = some (.int .i64 2))
    (first | with_reducible exact HD0.out | with_reducible exact HAL.out _ _ (by assumption) hb9)
    (first | (go_at_call 16; refine (hmm _ _ _ _ _).mono ?_; rintro e w9 ⟨rfl, hb9⟩))
  all_goals
    go_wp2
    go_ret
    exact ⟨rfl, bl_then HB2.out (And.left (by assumption))⟩
end Go.Proofs.Ytkbanngbchhgaaa
