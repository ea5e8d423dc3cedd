/- THE WALK of FaceReads. -/
import Derived.Test.YtjkoededkhndkaaDoorFRRead
import Derived.Test.YtjkoededkhndkaaDoorFSame
import Derived.Test.YtjkoededkhndkaaDoorFAwake
namespace Go.Proofs.YtjkoededkhndkaaDoor
open Go.ChangeShapes Go.WideShapes Go.ChangeAt Go.RowKit

theorem readR_small (s : List UInt8) (hs : s.length ≤ 3000) : (readR s).1.length ≤ 1000000 ∧ ∀ x ∈ (readR s).1, x.ps.length ≤ 1000000 := by
  unfold readR
  split
  · rename_i h
    have hm : (gAll s []).all mayB = true := by
      rcases hm : (gAll s []).all mayB with _ | _
      · rw [textR_form hm] at h; cases h
      · rfl
    have h1 := wt_gAll s []
    have h2 := wt_ge (gAll s [])
    simp only [wt] at h1
    refine ⟨by show (gAll s []).length ≤ _; omega, fun x hx => ?_⟩
    have h3 := List.all_eq_true.1 hm x hx
    have h4 := (mayB_parts h3).1
    omega
  · exact ⟨Nat.zero_le _, fun x hx => by simp at hx⟩
set_option maxRecDepth 100000 in
set_option maxHeartbeats 8000000 in
theorem faceReads_walk {B : Nat} (w : World) (s : List UInt8) (hg : Glob B w) :
    Calls Tryd.prog 3 #[.string (bs s)] w fun e w' => e = .returned (.bool true) ∧ Below w.heap.size w w' := by
  have hsz : (bs s).size = s.length := bs_size s
  go_enter Tryd.func3, Tryd.ntmps3
  go_upto_region 2 with (first | (go_at_call 4; refine (awake_any w hg).mono ?_; rintro e w2 ⟨rfl, hb2⟩))
  have HB2 : Hid _ := hb2
  clear hb2
  by_cases h3 : 3000 < s.length
  · have h3' : (3000 : Int) < (s.length : Int) := by omega
    go_wp2
    go_ret
    exact ⟨rfl, HB2.out⟩
  have h3' : ¬ (3000 : Int) < (s.length : Int) := by omega
  have hr := read_any w2 s (hg.below HB2.out) (by omega)
  have hq := fun (W : World) => refRead_any s W (by omega)
  rw [refR_eq] at hq
  have hsh := readR_small s (by omega)
  generalize (readR s).1 = l at hr hq hsh
  generalize (readR s).2 = er at hr hq
  have HQ : Hid _ := hq
  clear hq
  go_upto_region 5 with (first | (go_at_call 5; refine Calls.mono hr ?_; rintro e w3 ⟨⟨v3, rfl, a3, c3, rfl, hr3, hc3⟩, hb3⟩))
  have HR3 : Hid _ := hr3
  have HB3 : Hid _ := bl_then HB2.out hb3
  have hq3 := HQ.out w3
  clear hr hr3 hb3 HQ
  go_upto_region 6 with (first | (go_at_call 6; refine Calls.mono hq3 ?_; rintro e w4 ⟨⟨v4, rfl, a4, c4, rfl, hr4, hc4⟩, hb4⟩))
  have HB4 : Hid _ := bl_then HB3.out hb4
  have hsm := same_refl w4 a3 a4 l c3 c4 (kSg.row_mono (T := fun _ => True) (by decide) HR3.out fun b _ hlt => ⟨trivial, hb4.block b hlt⟩) hr4 (by have := hsh.1; omega) (fun x hx => by have := hsh.2 x hx; omega)
  have hee : (er == er) = true := beq_self_eq_true _
  clear hq3 hr4 hb4
  go_wp2_with (first | (go_at_call 7; refine Calls.mono hsm ?_; rintro e w5 ⟨rfl, hb5⟩))
  go_ret
  exact ⟨rfl, bl_then HB4.out hb5⟩
end Go.Proofs.YtjkoededkhndkaaDoor
