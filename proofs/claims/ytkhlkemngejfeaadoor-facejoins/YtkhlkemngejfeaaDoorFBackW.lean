/- THE WALKS of FaceBack and FaceFind. -/
import Derived.Test.YtkhlkemngejfeaaDoorFAwake
import Derived.Test.YtkhlkemngejfeaaDoorFSame
namespace Go.Proofs.YtkhlkemngejfeaaDoor
open Go.ChangeShapes Go.WideShapes Go.ChangeAt Go.RowKit Go.Shelf

theorem light_parts {l : List Sg} (h : lightB l = true) : l.length ≤ 200 ∧ ∀ x ∈ l, x.name.length ≤ 200 ∧ x.ps.length ≤ 50 := by
  simp only [lightB, Bool.and_eq_true, decide_eq_true_eq] at h
  refine ⟨h.1, fun x hx => ?_⟩
  have := List.all_eq_true.1 h.2 x hx
  simpa [lightX] using this
theorem wt_light : ∀ (l : List Sg), (∀ x ∈ l, x.name.length ≤ 200 ∧ x.ps.length ≤ 50) → wt l ≤ 260 * l.length
  | [], _ => Nat.le_refl _
  | x :: l, h => by
    have h1 := (h x (by simp)).1
    have h2 := wt_light l fun y hy => h y (by simp [hy])
    simp only [wt, List.length_cons]; omega
theorem lines_len : ∀ (l : List Sg), l.all mayB = true → (linesT l).length ≤ wt l
  | [], _ => Nat.le_refl _
  | x :: l, h => by
    simp only [List.all_cons, Bool.and_eq_true] at h
    have h1 := lineT_len h.1
    have h2 := lines_len l h.2
    simp only [linesT, List.flatMap_cons, List.length_append, wt] at h2 ⊢; omega
theorem textR_len (l : List Sg) : (textR l).1.length ≤ wt l := by
  unfold textR
  split
  · rename_i h
    split
    · exact lines_len l h
    · exact Nat.zero_le _
  · exact Nat.zero_le _
theorem textR_bad {l : List Sg} (h : ¬ (textR l).2 = 0) : (textR l).1 = [] := by
  unfold textR at h ⊢
  split
  · rename_i h1
    rw [if_pos h1] at h
    split
    · rename_i h2; rw [if_pos h2] at h; exact absurd rfl h
    · rfl
  · rfl

set_option maxRecDepth 100000 in
set_option maxHeartbeats 2000000 in
theorem faceBack_walk {B : Nat} {S : Nat → Prop} (w : World) (a : Option Addr) (l : List Sg) (c : Nat) (h : kSg.row w S a l) (hg : Glob B w) :
    Calls Tryd.prog 6 #[.slice a l.length c] w fun e w' => e = .returned (.bool true) ∧ Below w.heap.size w w' := by
  have ha := awake_any w hg
  rcases hlb : lightB l with _ | _
  · go_enter Tryd.func6, Tryd.ntmps6
    go_wp2_with (first | (go_at_call 10; refine ha.mono ?_; rintro e w1 ⟨rfl, hb1⟩; have hli := light_any w1 a l c (kSg.row_mono (T := S) (by decide) h fun b hb hlt => ⟨hb, hb1.block b hlt⟩); rw [hlb] at hli) | (go_at_call 17; refine hli.mono ?_; rintro e w2 ⟨rfl, hb2⟩))
    go_ret
    exact ⟨rfl, bl_then hb1 hb2⟩
  · obtain ⟨hl1, hl2⟩ := light_parts hlb
    have hwt : wt l ≤ 52000 := by have := wt_light l hl2; omega
    have htl := textR_len l
    by_cases he : (textR l).2 = 0
    · have hrb := read_back he
      generalize htr : textR l = tr at he hrb htl
      obtain ⟨s, e0⟩ := tr
      simp only at he hrb htl
      subst he
      have hsl : s.length ≤ 1000000 := by omega
      go_enter Tryd.func6, Tryd.ntmps6
      go_wp2_with (first | (go_at_call 10; refine ha.mono ?_; rintro e w1 ⟨rfl, hb1⟩; have hli := light_any w1 a l c (kSg.row_mono (T := S) (by decide) h fun b hb hlt => ⟨hb, hb1.block b hlt⟩); rw [hlb] at hli) | (go_at_call 17; refine hli.mono ?_; rintro e w2 ⟨rfl, hb2⟩; have hb12 := bl_then hb1 hb2; have htx := text_any w2 a l c (kSg.row_mono (T := S) (by decide) h fun b hb hlt => ⟨hb, hb12.block b hlt⟩) (hg.below hb12) (by omega); rw [htr] at htx; simp only at htx) | (go_at_call 18; refine htx.mono ?_; rintro e w3 ⟨rfl, hb3⟩; have hb13 := bl_then hb12 hb3; have hrd := read_any w3 s (hg.below hb13) hsl; rw [hrb] at hrd; simp only at hrd) | (go_at_call 20; refine hrd.mono ?_; rintro e w4 ⟨⟨v, rfl, hrd4⟩, hb4⟩; obtain ⟨ma, mc, rfl, hmr, hmc⟩ := hrd4; have hb14 := bl_then hb13 hb4; have hsm := same_refl w4 a ma l c mc (kSg.row_mono (T := S) (by decide) h fun b hb hlt => ⟨hb, hb14.block b hlt⟩) hmr (by omega) (fun x hx => by have := (hl2 x hx).2; omega)) | (go_at_call 14; refine hsm.mono ?_; rintro e w5 ⟨rfl, hb5⟩; have hb15 := bl_then hb14 hb5))
      go_ret
      exact ⟨rfl, hb15⟩
    · have hnil := textR_bad he
      have hne : ((textR l).2 == 0) = false := by simpa using he
      have hem : (bs (textR l).1).toList.isEmpty = true := by rw [bs_tl, hnil]; rfl
      clear he hnil
      go_enter Tryd.func6, Tryd.ntmps6
      go_wp2_with (first | (go_at_call 10; refine ha.mono ?_; rintro e w1 ⟨rfl, hb1⟩; have hli := light_any w1 a l c (kSg.row_mono (T := S) (by decide) h fun b hb hlt => ⟨hb, hb1.block b hlt⟩); rw [hlb] at hli) | (go_at_call 17; refine hli.mono ?_; rintro e w2 ⟨rfl, hb2⟩; have hb12 := bl_then hb1 hb2; have htx := text_any w2 a l c (kSg.row_mono (T := S) (by decide) h fun b hb hlt => ⟨hb, hb12.block b hlt⟩) (hg.below hb12) (by omega)) | (go_at_call 18; refine htx.mono ?_; rintro e w3 ⟨rfl, hb3⟩; have hb13 := bl_then hb12 hb3))
      go_ret
      exact ⟨rfl, hb13⟩
end Go.Proofs.YtkhlkemngejfeaaDoor
