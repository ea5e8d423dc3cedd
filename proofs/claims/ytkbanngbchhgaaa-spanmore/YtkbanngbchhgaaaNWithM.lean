/- PLAIN FACTS of spans: at their ends a register is touched, and nowhere outside. -/
import Derived.Test.YtkbanngbchhgaaaNMath
namespace Go.Proofs.Ytkbanngbchhgaaa

/-- What an instruction touches, as the statement lists it. -/
def touL (y : Ir) : List Int := readsL y ++ (if writesB y then [y.d] else [])
theorem touL_mem (y : Ir) (r : Int) : r ∈ touL y ↔ touchB y r = true := by
  unfold touL touchB
  rw [Bool.or_eq_true, Bool.and_eq_true, List.any_eq_true, List.mem_append, beq_iff_eq]
  constructor
  · rintro (h | h)
    · exact .inl ⟨r, h, by simp⟩
    · split at h
      · rename_i hw; exact .inr ⟨hw, by simpa [eq_comm] using h⟩
      · simp at h
  · rintro (⟨z, hz, h⟩ | ⟨hw, h⟩)
    · exact .inl (by rw [← beq_iff_eq.1 h]; exact hz)
    · exact .inr (by rw [if_pos hw]; simp [h])
theorem readsL_len (y : Ir) : (readsL y).length ≤ y.args.length + 3 := by
  unfold readsL
  split
  · simp
  split
  · simp
  split
  · simp
  split
  · omega
  · simp
theorem touL_len (y : Ir) : (touL y).length ≤ y.args.length + 4 := by
  have := readsL_len y
  unfold touL
  rw [List.length_append]
  split <;> simp <;> omega
theorem spanR_at (r : Int) : ∀ (l : List Ir) (k i : Nat) (hi : i < l.length), touchB l[i] r = true → (spanR r k l).1 ≤ ((k + i : Nat) : Int) ∧ ((k + i : Nat) : Int) ≤ (spanR r k l).2 ∧ 0 ≤ (spanR r k l).1
  | y :: l, k, 0, _, h => by
    have h' : touchB y r = true := h
    unfold spanR
    rw [if_pos h']
    simp only
    omega
  | y :: l, k, i + 1, hi, h => by
    have ih := spanR_at r l (k + 1) i (by simpa using hi) h
    unfold spanR
    have e : ((k + 1 + i : Nat) : Int) = ((k + (i + 1) : Nat) : Int) := by omega
    rw [e] at ih
    split
    · simp only; omega
    · exact ih
theorem spanR_fst (r : Int) : ∀ (l : List Ir) (k i : Nat) (hi : i < l.length), (spanR r k l).1 = ((k + i : Nat) : Int) → touchB l[i] r = true
  | y :: l, k, 0, _, h => by
    unfold spanR at h
    split at h
    · assumption
    · have := spanR_bd r l (k + 1)
      rw [h] at this
      omega
  | y :: l, k, i + 1, hi, h => by
    unfold spanR at h
    split at h
    · simp only at h; omega
    · exact spanR_fst r l (k + 1) i (by simpa using hi) (by rw [h]; omega)
theorem spanR_lst (r : Int) : ∀ (l : List Ir) (k i : Nat) (hi : i < l.length), (spanR r k l).2 = ((k + i : Nat) : Int) → touchB l[i] r = true
  | y :: l, k, 0, _, h => by
    have hb := spanR_bd r l (k + 1)
    unfold spanR at h
    split at h
    · assumption
    · rw [h] at hb; omega
  | y :: l, k, i + 1, hi, h => by
    have hb := spanR_bd r l (k + 1)
    unfold spanR at h
    split at h
    · simp only at h
      exact spanR_lst r l (k + 1) i (by simpa using hi) (by omega)
    · exact spanR_lst r l (k + 1) i (by simpa using hi) (by rw [h]; omega)

/-- Was a span's beginning met so far? -/
def fstB (c : Co) (k : Nat) (T : List Int) (r : Nat) : Bool := decide (0 ≤ (spanN c r).1 ∧ (spanN c r).1 < (k : Int)) || (decide ((r : Int) ∈ T) && decide ((k : Int) = (spanN c r).1))
def lstB (c : Co) (k : Nat) (T : List Int) (r : Nat) : Bool := decide (0 ≤ (spanN c r).2 ∧ (spanN c r).2 < (k : Int)) || (decide ((r : Int) ∈ T) && decide ((k : Int) = (spanN c r).2))
def rowB (f : Nat → Bool) (n : Nat) : List Bool := (List.range n).map f
theorem rowB_len (f : Nat → Bool) (n : Nat) : (rowB f n).length = n := by simp [rowB]
theorem rowB_get (f : Nat → Bool) (n r : Nat) (h : r < (rowB f n).length) : (rowB f n)[r] = f r := by simp [rowB]
theorem rowB_set (f g : Nat → Bool) (n r : Nat) (b : Bool) (hb : b = g r) (h : ∀ j, j ≠ r → f j = g j) : (rowB f n).set r b = rowB g n := by
  apply List.ext_getElem
  · simp [rowB]
  · intro j h1 h2
    rw [List.getElem_set]
    by_cases hj : r = j
    · subst hj; rw [if_pos rfl, rowB_get]; exact hb
    · rw [if_neg hj, rowB_get, rowB_get]; exact h j fun e => hj e.symm
theorem rowB_congr {f g : Nat → Bool} {n : Nat} (h : ∀ j, j < n → f j = g j) : rowB f n = rowB g n := by
  apply List.ext_getElem
  · simp [rowB]
  · intro j h1 h2
    rw [rowB_get, rowB_get]
    exact h j (by simpa [rowB] using h1)
theorem rowB_false (n : Nat) : List.replicate n false = rowB (fun _ => false) n := by
  apply List.ext_getElem
  · simp [rowB]
  · intro j h1 h2
    rw [rowB_get]
    simp
theorem fst_zero (c : Co) (r : Nat) : fstB c 0 [] r = false := by
  unfold fstB
  rw [decide_eq_false (show ¬ (0 ≤ (spanN c r).1 ∧ (spanN c r).1 < ((0 : Nat) : Int)) by omega)]
  simp
theorem lst_zero (c : Co) (r : Nat) : lstB c 0 [] r = false := by
  unfold lstB
  rw [decide_eq_false (show ¬ (0 ≤ (spanN c r).2 ∧ (spanN c r).2 < ((0 : Nat) : Int)) by omega)]
  simp
theorem fst_push (c : Co) (k r : Nat) (T : List Int) : (fstB c k T r || ((k : Int) == (spanN c r).1)) = fstB c k (T ++ [(r : Int)]) r := by
  unfold fstB
  have e : ((k : Int) == (spanN c r).1) = decide ((k : Int) = (spanN c r).1) := rfl
  rw [e]
  simp only [List.mem_append, List.mem_singleton, or_true, decide_true, Bool.true_and]
  rcases decide (0 ≤ (spanN c r).1 ∧ (spanN c r).1 < (k : Int)) <;> rcases decide ((r : Int) ∈ T) <;> rcases decide ((k : Int) = (spanN c r).1) <;> rfl
theorem lst_push (c : Co) (k r : Nat) (T : List Int) : (lstB c k T r || ((k : Int) == (spanN c r).2)) = lstB c k (T ++ [(r : Int)]) r := by
  unfold lstB
  have e : ((k : Int) == (spanN c r).2) = decide ((k : Int) = (spanN c r).2) := rfl
  rw [e]
  simp only [List.mem_append, List.mem_singleton, or_true, decide_true, Bool.true_and]
  rcases decide (0 ≤ (spanN c r).2 ∧ (spanN c r).2 < (k : Int)) <;> rcases decide ((r : Int) ∈ T) <;> rcases decide ((k : Int) = (spanN c r).2) <;> rfl
theorem fst_other (c : Co) (k r j : Nat) (T : List Int) (h : j ≠ r) : fstB c k T j = fstB c k (T ++ [(r : Int)]) j := by
  unfold fstB
  have : ((j : Int) ∈ T ++ [(r : Int)]) = ((j : Int) ∈ T) := propext ⟨fun h1 => by
    rcases List.mem_append.1 h1 with h2 | h2
    · exact h2
    · have : (j : Int) = r := by simpa using h2
      omega, fun h1 => List.mem_append_left _ h1⟩
  simp only [this]
theorem lst_other (c : Co) (k r j : Nat) (T : List Int) (h : j ≠ r) : lstB c k T j = lstB c k (T ++ [(r : Int)]) j := by
  unfold lstB
  have : ((j : Int) ∈ T ++ [(r : Int)]) = ((j : Int) ∈ T) := propext ⟨fun h1 => by
    rcases List.mem_append.1 h1 with h2 | h2
    · exact h2
    · have : (j : Int) = r := by simpa using h2
      omega, fun h1 => List.mem_append_left _ h1⟩
  simp only [this]
theorem fst_next (c : Co) (k r : Nat) (hk : k < c.l.length) : fstB c k (touL c.l[k]) r = fstB c (k + 1) [] r := by
  have hF := spanR_fst (r : Int) c.l 0 k hk
  rw [Nat.zero_add] at hF
  have hm := touL_mem c.l[k] (r : Int)
  unfold fstB
  rw [Bool.eq_iff_iff]
  simp only [Bool.or_eq_true, Bool.and_eq_true, decide_eq_true_eq, List.not_mem_nil, false_and, or_false]
  have h1 : (spanN c r).1 = (k : Int) → touchB c.l[k] r = true := fun h => hF (by
    unfold spanN at h
    simp only at h
    split at h
    · omega
    · exact h)
  constructor
  · rintro (h | h) <;> omega
  · intro h
    by_cases he : (spanN c r).1 = (k : Int)
    · exact .inr ⟨hm.2 (h1 he), he.symm⟩
    · exact .inl (by omega)
theorem lst_next (c : Co) (k r : Nat) (hk : k < c.l.length) : lstB c k (touL c.l[k]) r = lstB c (k + 1) [] r := by
  have hF := spanR_lst (r : Int) c.l 0 k hk
  rw [Nat.zero_add] at hF
  have hm := touL_mem c.l[k] (r : Int)
  unfold lstB
  rw [Bool.eq_iff_iff]
  simp only [Bool.or_eq_true, Bool.and_eq_true, decide_eq_true_eq, List.not_mem_nil, false_and, or_false]
  have h1 : (spanN c r).2 = (k : Int) → touchB c.l[k] r = true := fun h => hF h
  constructor
  · rintro (h | h) <;> omega
  · intro h
    by_cases he : (spanN c r).2 = (k : Int)
    · exact .inr ⟨hm.2 (h1 he), he.symm⟩
    · exact .inl (by omega)
/-- What is touched stands within its span. -/
theorem span_in (c : Co) (k r : Nat) (hk : k < c.l.length) (h : (r : Int) ∈ touL c.l[k]) : (spanN c r).1 ≤ (k : Int) ∧ (k : Int) ≤ (spanN c r).2 := by
  have h1 := spanR_at (r : Int) c.l 0 k hk ((touL_mem _ _).1 h)
  rw [Nat.zero_add] at h1
  unfold spanN
  simp only
  split <;> omega
/-- At the end. -/
theorem span_end (c : Co) (r : Nat) : (spanN c r).1 ≤ (spanN c r).2 ∧ -1 ≤ (spanN c r).1 ∧ (0 ≤ (spanN c r).2 → lstB c c.l.length [] r = true) ∧ (0 ≤ (spanN c r).1 → fstB c c.l.length [] r = true) := by
  have hb := spanR_bd (r : Int) c.l 0
  refine ⟨?_, ?_, fun h => ?_, fun h => ?_⟩
  · unfold spanN; simp only; split <;> omega
  · unfold spanN; simp only; split <;> omega
  · unfold lstB
    rw [decide_eq_true (show 0 ≤ (spanN c r).2 ∧ (spanN c r).2 < (c.l.length : Int) from ⟨h, by unfold spanN at h ⊢; simp only at h ⊢; omega⟩)]
    rfl
  · unfold fstB
    rw [decide_eq_true (show 0 ≤ (spanN c r).1 ∧ (spanN c r).1 < (c.l.length : Int) from ⟨h, by
      unfold spanN at h ⊢
      simp only at h ⊢
      split at h
      · omega
      · rw [if_neg (by assumption)]; omega⟩)]
    rfl
end Go.Proofs.Ytkbanngbchhgaaa
