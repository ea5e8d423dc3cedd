/- THE WALKS of FaceBack and FaceFind. -/
import Derived.Test.YtjkoededkhndkaaDoorFAwake
import Derived.Test.YtjkoededkhndkaaDoorFSame
namespace Go.Proofs.YtjkoededkhndkaaDoor
open Go.ChangeShapes Go.WideShapes Go.ChangeAt Go.RowKit Go.Shelf

theorem lines_len : ∀ (l : List Sg), l.all mayB = true → (linesT l).length ≤ wt l
  | [], _ => Nat.le_refl _
  | x :: l, h => by
    simp only [List.all_cons, Bool.and_eq_true] at h
    have h1 := lineT_len h.1
    have h2 := lines_len l h.2
    simp only [linesT, List.flatMap_cons, List.length_append, wt] at h2 ⊢; omega
theorem textR_len (l : List Sg) : (textR l).1.length ≤ wt l := by
  unfold textR
  split
  · rename_i h
    split
    · exact lines_len l h
    · exact Nat.zero_le _
  · exact Nat.zero_le _
theorem textR_bad {l : List Sg} (h : ¬ (textR l).2 = 0) : (textR l).1 = [] := by
  unfold textR at h ⊢
  split
  · rename_i h1
    rw [if_pos h1] at h
    split
    · rename_i h2; rw [if_pos h2] at h; exact absurd rfl h
    · rfl
  · rfl

end Go.Proofs.YtjkoededkhndkaaDoor
