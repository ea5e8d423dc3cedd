/- THE WALK of FaceAgain. -/
import Derived.Test.YtkhlkemngejfeaaDoorFAwake
namespace Go.Proofs.YtkhlkemngejfeaaDoor
open Go.ChangeShapes Go.WideShapes Go.ChangeAt Go.RowKit Go.Shelf

theorem readR_bad {s : List UInt8} (h : ¬ (readR s).2 = 0) : readR s = ([], 6) := by
  unfold readR at h ⊢
  split
  · rename_i h1; rw [if_pos h1] at h; exact absurd rfl h
  · rfl
theorem readR_ok {s : List UInt8} (h : (readR s).2 = 0) : textR (readR s).1 = (s, 0) ∧ wt (readR s).1 ≤ 61 * s.length := by
  unfold readR at h ⊢
  split
  · rename_i h1; exact ⟨h1, by have := wt_gAll s []; simpa [wt] using this⟩
  · rename_i h1; rw [if_neg h1] at h; cases h

set_option maxRecDepth 100000 in
set_option maxHeartbeats 2000000 in
theorem faceAgain_walk {B : Nat} (w : World) (s : List UInt8) (hg : Glob B w) :
    Calls Tryd.prog 7 #[.string (bs s)] w fun e w' => e = .returned (.bool true) ∧ Below w.heap.size w w' := by
  have ha := awake_any w hg
  by_cases hl : 5000 < s.length
  · have hl' : (5000 : Int) < ((bs s).size : Int) := by rw [bs_size]; omega
    go_enter Tryd.func7, Tryd.ntmps7
    go_wp2_with (go_at_call 10; refine ha.mono ?_; rintro e w1 ⟨rfl, hb1⟩)
    go_ret
    exact ⟨rfl, hb1⟩
  · have hl' : ¬ (5000 : Int) < ((bs s).size : Int) := by rw [bs_size]; omega
    have hls : s.length ≤ 1000000 := by omega
    by_cases he : (readR s).2 = 0
    · obtain ⟨htx, hwt⟩ := readR_ok he
      have heq : ((bs s).toList == (bs s).toList) = true := by simp
      generalize hrs : readR s = rr at he htx hwt
      obtain ⟨l, e0⟩ := rr
      simp only at he htx hwt
      subst he
      go_enter Tryd.func7, Tryd.ntmps7
      go_wp2_with (first | (go_at_call 10; refine ha.mono ?_; rintro e w1 ⟨rfl, hb1⟩; have hr := read_any w1 s (hg.below hb1) hls; rw [hrs] at hr; simp only at hr) | (go_at_call 20; go_fit hr; rintro e w2 ⟨⟨v, rfl, hrd⟩, hb2⟩; obtain ⟨ma, mc, rfl, hmr, hmc⟩ := hrd; have hf := text_any w2 ma l mc hmr ((hg.below hb1).below hb2) (by omega); rw [htx] at hf; simp only at hf) | (go_at_call 18; go_fit hf; rintro e w3 ⟨rfl, hb3⟩))
      go_ret
      exact ⟨rfl, bl_then (bl_then hb1 hb2) hb3⟩
    · have hrs := readR_bad he
      clear he
      go_enter Tryd.func7, Tryd.ntmps7
      go_wp2_with (first | (go_at_call 10; refine ha.mono ?_; rintro e w1 ⟨rfl, hb1⟩; have hr := read_any w1 s (hg.below hb1) hls; rw [hrs] at hr; simp only at hr) | (go_at_call 20; go_fit hr; rintro e w2 ⟨⟨v, rfl, hrd⟩, hb2⟩; obtain ⟨ma, mc, rfl, hmr, hmc⟩ := hrd))
      go_ret
      exact ⟨rfl, bl_then hb1 hb2⟩
end Go.Proofs.YtkhlkemngejfeaaDoor
