/- WHAT guess GUESSES, in plain Lean. -/
import Derived.Test.YtlagadofiahijaaDoorFText
namespace Go.Proofs.YtlagadofiahijaaDoor
open Go.ChangeShapes Go.WideShapes Go.ChangeAt Go.RowKit Go.Shelf

/-- The rest of a line: types up to a colon, and the result behind it. -/
def gIn (line : List UInt8) (acc : List Ty) : Option (List Ty × Bool) :=
  if _h : line = [] then none
  else if (cutB 32 line).1 = [58] then some (acc, decide ((cutB 32 line).2 = [115, 101, 99]))
  else gIn (cutB 32 line).2 (acc ++ [gTy (cutB 32 line).1])
termination_by line.length
decreasing_by exact (cutB_len line).2.2 (by assumption)
/-- All lines. -/
def gAll (s : List UInt8) (acc : List Sg) : List Sg :=
  if _h : s = [] then acc
  else match gIn (cutB 32 (cutB 10 s).1).2 [] with
    | none => acc
    | some (ps, b) => gAll (cutB 10 s).2 (acc ++ [⟨(cutB 32 (cutB 10 s).1).1, ps, b⟩])
termination_by s.length
decreasing_by exact (cutB_len s).2.2 (by assumption)

theorem gIn_nil (acc : List Ty) : gIn [] acc = none := by rw [gIn]; rfl
theorem gIn_end {line : List UInt8} (h : line ≠ []) (hc : (cutB 32 line).1 = [58]) (acc : List Ty) : gIn line acc = some (acc, decide ((cutB 32 line).2 = [115, 101, 99])) := by rw [gIn, dif_neg h, if_pos hc]
theorem gIn_on {line : List UInt8} (h : line ≠ []) (hc : ¬ (cutB 32 line).1 = [58]) (acc : List Ty) : gIn line acc = gIn (cutB 32 line).2 (acc ++ [gTy (cutB 32 line).1]) := by rw [gIn, dif_neg h, if_neg hc]
theorem gAll_nil (acc : List Sg) : gAll [] acc = acc := by rw [gAll]; rfl
theorem gAll_stop {s : List UInt8} (h : s ≠ []) (hi : gIn (cutB 32 (cutB 10 s).1).2 [] = none) (acc : List Sg) : gAll s acc = acc := by rw [gAll, dif_neg h, hi]
theorem gAll_on {s : List UInt8} (h : s ≠ []) {ps : List Ty} {b : Bool} (hi : gIn (cutB 32 (cutB 10 s).1).2 [] = some (ps, b)) (acc : List Sg) : gAll s acc = gAll (cutB 10 s).2 (acc ++ [⟨(cutB 32 (cutB 10 s).1).1, ps, b⟩]) := by rw [gAll, dif_neg h, hi]

theorem cutB_sum {b : UInt8} : ∀ (l : List UInt8), (cutB b l).1.length + (cutB b l).2.length ≤ l.length
  | [] => Nat.le_refl _
  | c :: l => by
    have := cutB_sum (b := b) l
    rw [cutB]
    split
    · simp
    · simp only [List.length_cons]; omega
theorem wt_snoc : ∀ (l : List Sg) (x : Sg), wt (l ++ [x]) = wt l + (x.name.length + 60)
  | [], x => by simp [wt]
  | y :: l, x => by have := wt_snoc l x; simp only [List.cons_append, wt]; omega
theorem wt_gAll (s : List UInt8) (acc : List Sg) : wt (gAll s acc) ≤ wt acc + 61 * s.length := by
  induction hn : s.length using Nat.strongRecOn generalizing s acc with
  | ind n ih =>
    by_cases h : s = []
    · rw [h, gAll_nil]; omega
    · cases hi : gIn (cutB 32 (cutB 10 s).1).2 [] with
      | none => rw [gAll_stop h hi]; omega
      | some x =>
        obtain ⟨ps, b⟩ := x
        rw [gAll_on h hi]
        have h1 := (cutB_len (b := 10) s).2.2 h
        have h2 := cutB_sum (b := 10) s
        have h3 := (cutB_len (b := 32) (cutB 10 s).1).1
        have := ih _ (by omega) (cutB 10 s).2 (acc ++ [⟨(cutB 32 (cutB 10 s).1).1, ps, b⟩]) rfl
        rw [wt_snoc] at this
        simp only at this
        omega
end Go.Proofs.YtlagadofiahijaaDoor
