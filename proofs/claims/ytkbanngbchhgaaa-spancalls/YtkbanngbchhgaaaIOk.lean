/- PLAIN FACTS: what right functions' instructions are. -/
import Derived.Test.YtkbanngbchhgaaaIData
namespace Go.Proofs.Ytkbanngbchhgaaa

theorem faultFrom_zero {c : Co} : ∀ (l : List Ir) (i : Nat), (faultFrom c i l).1 = 0 → ∀ k (h : k < l.length), faultN c (i + k) l[k] = 0
  | [], _, _, k, h => by simp at h
  | x :: l, i, he, k, h => by
    rw [faultFrom] at he
    split at he
    · rename_i h0
      cases k with
      | zero => exact h0
      | succ k =>
        have := faultFrom_zero l (i + 1) he k (by simpa using h)
        rw [show i + (k + 1) = i + 1 + k by omega]
        exact this
    · rename_i h0; exact absurd he h0
theorem right_form {c : Co} (h : (rightR c).1 = 0) : formB c = true := by
  unfold rightR at h
  split at h
  · assumption
  · simp at h
theorem right_ir {c : Co} (h : (rightR c).1 = 0) (k : Nat) (hk : k < c.l.length) : faultN c k c.l[k] = 0 := by
  have hf := right_form h
  unfold rightR at h
  rw [if_pos hf] at h
  have := faultFrom_zero c.l 0 h k hk
  rwa [Nat.zero_add] at this
/-- What an instruction of a right function is. -/
structure IrOk (c : Co) (i : Nat) (x : Ir) : Prop where
  known : knownB x = true
  reads : ∀ r ∈ readsL x, 0 ≤ r ∧ r < c.regs
  writes : writesB x = true → 0 ≤ x.d ∧ x.d < c.regs
  addr : x.kind = 5 ∨ x.kind = 6 → (x.n : Int) < c.cells
  jump : x.kind = 8 ∨ x.kind = 9 → (i : Int) < x.c ∧ x.c < c.l.length
  last : i + 1 = c.l.length → x.kind = 10
theorem irOk_of {c : Co} {i : Nat} {x : Ir} (h : faultN c i x = 0) : IrOk c i x := by
  unfold faultN at h
  split at h
  · simp at h
  rename_i hk
  split at h
  · simp at h
  rename_i hr
  split at h
  · simp at h
  rename_i ha
  split at h
  · simp at h
  rename_i hj
  split at h
  · simp at h
  rename_i hl
  simp only [Bool.not_eq_false, Bool.and_eq_true, List.all_eq_true, inB, decide_eq_true_eq, Bool.or_eq_true, Bool.not_eq_true'] at hk hr
  refine ⟨hk, hr.1, fun hw => ?_, fun h5 => ?_, fun h8 => ?_, fun he => ?_⟩
  · rcases hr.2 with h1 | h1
    · rw [h1] at hw; cases hw
    · exact h1
  · by_cases h1 : (x.n : Int) < c.cells
    · exact h1
    · exact absurd ⟨h5, by omega⟩ ha
  · constructor
    · by_cases h1 : (i : Int) < x.c
      · exact h1
      · exact absurd ⟨h8, .inl (by omega)⟩ hj
    · by_cases h1 : x.c < (c.l.length : Int)
      · exact h1
      · exact absurd ⟨h8, .inr (by omega)⟩ hj
  · by_cases h1 : x.kind = 10
    · exact h1
    · exact absurd ⟨he, h1⟩ hl
theorem known_kind {x : Ir} (h : knownB x = true) : ∃ n : Nat, x.kind = n ∧ 1 ≤ n ∧ n ≤ 10 := by
  have : 1 ≤ x.kind ∧ x.kind ≤ 10 := by
    unfold knownB at h
    split at h
    · omega
    split at h
    · omega
    · simpa using h
  exact ⟨x.kind.toNat, by omega, by omega, by omega⟩
theorem faultN_of {c : Co} {i : Nat} {x : Ir} (h : IrOk c i x) : faultN c i x = 0 := by
  unfold faultN
  rw [if_neg (by rw [h.known]; simp), if_neg ?_, if_neg ?_, if_neg ?_, if_neg ?_]
  · rintro ⟨e, hk⟩
    exact hk (h.last e)
  · rintro ⟨e, hk⟩
    have := h.jump e
    omega
  · rintro ⟨e, hk⟩
    have := h.addr e
    omega
  · intro e
    have h1 : (readsL x).all (inB c.regs) = true := by
      rw [List.all_eq_true]
      intro r hr
      have := h.reads r hr
      simp only [inB, decide_eq_true_eq]
      exact this
    have h2 : (!writesB x || inB c.regs x.d) = true := by
      rcases hw : writesB x with _ | _
      · rfl
      · have := h.writes hw
        simp only [inB, Bool.not_true, Bool.false_or, decide_eq_true_eq]
        exact this
    rw [h1, h2] at e
    cases e
theorem faultFrom_none {c : Co} : ∀ (l : List Ir) (i : Nat), (∀ k (h : k < l.length), faultN c (i + k) l[k] = 0) → faultFrom c i l = (0, -1)
  | [], _, _ => rfl
  | x :: l, i, h => by
    have h0 := h 0 (by simp)
    rw [faultFrom, if_pos (by simpa using h0)]
    refine faultFrom_none l (i + 1) fun k hk => ?_
    have := h (k + 1) (by simpa using hk)
    rw [show i + 1 + k = i + (k + 1) by omega]
    exact this
theorem right_all {c : Co} (hf : formB c = true) (h : ∀ k (hk : k < c.l.length), faultN c k c.l[k] = 0) : rightR c = (0, -1) := by
  unfold rightR
  rw [if_pos hf]
  exact faultFrom_none c.l 0 fun k hk => by rw [Nat.zero_add]; exact h k hk
theorem right_zero {c : Co} (h : (rightR c).1 = 0) : rightR c = (0, -1) := right_all (right_form h) fun k hk => right_ir h k hk
end Go.Proofs.Ytkbanngbchhgaaa
