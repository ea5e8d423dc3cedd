/- THE WALK of SpanMeets. -/
import Derived.Test.YtkbanngbchhgaaaNAwake
namespace Go.Proofs.Ytkbanngbchhgaaa
open Go.ChangeShapes Go.WideShapes Go.ChangeAt Go.RowKit

set_option maxRecDepth 100000 in
set_option maxHeartbeats 4000000 in
theorem span_meets {B : Nat} (a b : Int × Int) (w : World) (hg : Glob B w) :
    Calls Try.prog 4 #[spV a, spV b] w fun e w' => e = .returned (.bool true) ∧ Below w.heap.size w w' := by
  obtain ⟨a0, a1⟩ := a
  obtain ⟨b0, b1⟩ := b
  show Calls Try.prog 4 #[.agg #[.int .i64 a0, .int .i64 a1], .agg #[.int .i64 b0, .int .i64 b1]] w _
  have HL : Hid _ := two_box' w (.cells #[.int .i64 a0, .int .i64 a1] 26) (.cells #[.int .i64 b0, .int .i64 b1] 26)
  go_enter Try.func4, Try.ntmps4
  go_upto_region 1 with fail
  generalize World.alloc (World.alloc w _) _ = w1 at HL ⊢
  obtain ⟨h1, h2, hb1, hz1⟩ := HL.out
  have haw := awake11_any w1 (hg.below hb1)
  have H1 : Hid _ := h1
  have H2 : Hid _ := h2
  have HB1 : Hid _ := hb1
  clear h1 h2 hb1 hz1 HL
  go_upto_region 2 with (first | (go_at_call 9; refine haw.mono ?_; rintro e w2 ⟨rfl, hb2⟩))
  have hx1 := (hb2.block _ (lt_of_some H1.out)).trans H1.out
  have hx2 := (hb2.block _ (lt_of_some H2.out)).trans H2.out
  have HB2 : Hid _ := bl_then HB1.out hb2
  have hl1 := lt_of_some hx1
  have hl2 := lt_of_some hx2
  have c0 : w2.drew.cell? ⟨w.heap.size, 0, none⟩ = some (.int .i64 a0) ∧ w2.drew.cell? ⟨w.heap.size, 1, none⟩ = some (.int .i64 a1) ∧ w2.drew.cell? ⟨w.heap.size + 1, 0, none⟩ = some (.int .i64 b0) ∧ w2.drew.cell? ⟨w.heap.size + 1, 1, none⟩ = some (.int .i64 b1) := by
    have e1 : w2.drew.heap[w.heap.size]? = some (.cells #[.int .i64 a0, .int .i64 a1] 26) := hx1
    have e2 : w2.drew.heap[w.heap.size + 1]? = some (.cells #[.int .i64 b0, .int .i64 b1] 26) := hx2
    refine ⟨?_, ?_, ?_, ?_⟩ <;> simp [World.cell?, e1, e2]
  have HD0 : Hid (Below w2.heap.size w2 w2.drew ∧ w2.drew.cell? ⟨w.heap.size, 0, none⟩ = some (.int .i64 a0) ∧ w2.drew.cell? ⟨w.heap.size, 1, none⟩ = some (.int .i64 a1) ∧ w2.drew.cell? ⟨w.heap.size + 1, 0, none⟩ = some (.int .i64 b0) ∧ w2.drew.cell? ⟨w.heap.size + 1, 1, none⟩ = some (.int .i64 b1)) := ⟨drewB w2, c0⟩
  have HAL : Hid (∀ w1 w' : World, (Below w2.heap.size w2 w1 ∧ w1.cell? ⟨w.heap.size, 0, none⟩ = some (.int .i64 a0) ∧ w1.cell? ⟨w.heap.size, 1, none⟩ = some (.int .i64 a1) ∧ w1.cell? ⟨w.heap.size + 1, 0, none⟩ = some (.int .i64 b0) ∧ w1.cell? ⟨w.heap.size + 1, 1, none⟩ = some (.int .i64 b1)) → Below w1.heap.size w1 w' → (Below w2.heap.size w2 w' ∧ w'.cell? ⟨w.heap.size, 0, none⟩ = some (.int .i64 a0) ∧ w'.cell? ⟨w.heap.size, 1, none⟩ = some (.int .i64 a1) ∧ w'.cell? ⟨w.heap.size + 1, 0, none⟩ = some (.int .i64 b0) ∧ w'.cell? ⟨w.heap.size + 1, 1, none⟩ = some (.int .i64 b1))) := fun w1 w' h hb => by
    have hs := h.1.size
    exact ⟨bl_then h.1 hb, (hb.cell (p := ⟨w.heap.size, 0, none⟩) (by show w.heap.size < _; omega)).trans h.2.1, (hb.cell (p := ⟨w.heap.size, 1, none⟩) (by show w.heap.size < _; omega)).trans h.2.2.1, (hb.cell (p := ⟨w.heap.size + 1, 0, none⟩) (by show w.heap.size + 1 < _; omega)).trans h.2.2.2.1, (hb.cell (p := ⟨w.heap.size + 1, 1, none⟩) (by show w.heap.size + 1 < _; omega)).trans h.2.2.2.2⟩
  have hm1 := fun w => meet_any (a0, a1) (b0, b1) w
  have hm2 := fun w => meet_any (b0, b1) (a0, a1) w
  have hm3 := fun w => refMeet_any (a0, a1) (b0, b1) w
  rw [meet_sym (b0, b1) (a0, a1)] at hm2
  generalize meetB (a0, a1) (b0, b1) = m at hm1 hm2 hm3
  clear haw hb2 hx1 hx2 hl1 hl2 c0 HB1 H1 H2
  go_region_held3 (fun w' : World => Below w2.heap.size w2 w' ∧ w'.cell? ⟨w.heap.size, 0, none⟩ = some (.int .i64 a0) ∧ w'.cell? ⟨w.heap.size, 1, none⟩ = some (.int .i64 a1) ∧ w'.cell? ⟨w.heap.size + 1, 0, none⟩ = some (.int .i64 b0) ∧ w'.cell? ⟨w.heap.size + 1, 1, none⟩ = some (.int .i64 b1))
    (first | with_reducible exact HD0.out | with_reducible exact HAL.out _ _ (by assumption) hb9)
    (first | (go_at_call 16; (with_reducible refine (hm1 _).mono ?_); rintro e w9 ⟨rfl, hb9⟩) | (go_at_call 16; (with_reducible refine (hm2 _).mono ?_); rintro e w9 ⟨rfl, hb9⟩) | (go_at_call 17; (with_reducible refine (hm3 _).mono ?_); rintro e w9 ⟨rfl, hb9⟩))
  all_goals
    go_wp2
    go_ret
    exact ⟨rfl, bl_then HB2.out (And.left (by assumption))⟩
end Go.Proofs.Ytkbanngbchhgaaa
