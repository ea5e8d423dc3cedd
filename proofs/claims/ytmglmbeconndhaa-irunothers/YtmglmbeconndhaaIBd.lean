/- PLAIN FACTS of the model: how many cells and branches a run tells at most. -/
import Derived.Test.YtmglmbeconndhaaIRunD
namespace Go.Proofs.Ytmglmbeconndhaa

/-- Branches, and instructions that are left. -/
def both0 (st : St) : Nat := st.br.length + st.left
theorem callR_br {P : List Co} {rec : Nat → Co → Fr → St → Fr × St} {d : Nat} {x : Ir} {fr : Fr} {st : St} (h : ∀ d c fr st, both0 (rec d c fr st).2 ≤ both0 st) : both0 (callR P rec d x fr st).2 ≤ both0 st := by
  cases hl : look P x.name with
  | none => rw [callR_none hl]; exact Nat.le_refl _
  | some c =>
    rw [callR_some hl]
    by_cases a1 : c.ps.length ≠ x.args.length ∨ 0 < cellsN c.ps
    · rw [if_pos a1]; exact Nat.le_refl _
    · rw [if_neg a1]
      by_cases a2 : d = 32
      · rw [if_pos a2]; exact Nat.le_refl _
      · rw [if_neg a2]; exact h _ _ _ _
theorem doIr_br {P : List Co} {rec : Nat → Co → Fr → St → Fr × St} {d : Nat} {x : Ir} {fr : Fr} {st : St} (h : ∀ d c fr st, both0 (rec d c fr st).2 ≤ both0 st) : both0 (doIr P rec d x fr st).2 ≤ both0 st + 1 := by
  by_cases k7 : x.kind = 7
  · rw [doIr_7 k7]; exact Nat.le_succ_of_le (callR_br h)
  by_cases k9 : x.kind = 9
  · rw [doIr_9 k9]
    by_cases z : at0 fr.regs x.a = 0
    · rw [if_pos z]; simp only [both0, List.length_append, List.length_singleton]; omega
    · rw [if_neg z]; simp only [both0, List.length_append, List.length_singleton]; omega
  by_cases k1 : x.kind = 1
  · rw [doIr_1 k1]; exact Nat.le_succ _
  by_cases k2 : x.kind = 2
  · rw [doIr_2 k2]; exact Nat.le_succ _
  by_cases k3 : x.kind = 3
  · rw [doIr_3 k3]; exact Nat.le_succ _
  by_cases k4 : x.kind = 4
  · rw [doIr_4 k4]; exact Nat.le_succ _
  by_cases k5 : x.kind = 5
  · rw [doIr_5 k5]; exact Nat.le_succ _
  by_cases k6 : x.kind = 6
  · rw [doIr_6 k6]; exact Nat.le_succ _
  by_cases k8 : x.kind = 8
  · rw [doIr_8 k8]; exact Nat.le_succ _
  · rw [doIr_10 (fun n a b e => by omega)]; exact Nat.le_succ _
theorem runF_br (P : List Co) : ∀ f d c fr st, both0 (runF P f d c fr st).2 ≤ both0 st := by
  intro f
  induction f with
  | zero => intro d c fr st; exact Nat.le_refl _
  | succ f ih =>
    intro d c fr st
    rw [runF_succ]
    by_cases h : fr.ended = true ∨ st.wrong ≠ 0
    · rw [if_pos h]; exact Nat.le_refl _
    · rw [if_neg h]
      refine Nat.le_trans (ih _ _ _ _) ?_
      unfold stepR
      by_cases hz : st.left = 0
      · rw [if_pos hz]; exact Nat.le_refl _
      · rw [if_neg hz]
        refine Nat.le_trans (doIr_br ih) ?_
        simp only [both0]
        omega
theorem runR_bd (P : List Co) (nm : List UInt8) (ar : List Nat) : (runR P nm ar).2.1.length ≤ 4096 ∧ (runR P nm ar).2.2.1.length ≤ 60000 := by
  unfold runR
  by_cases h0 : (P.all fun c => decide ((rightR c).1 = 0)) = false
  · rw [if_pos h0]; simp
  rw [if_neg h0]
  by_cases h1 : (P.map Co.name).Nodup
  · rw [if_pos h1]
    cases hl : look P nm with
    | none => simp
    | some c =>
      have hr : (rightR c).1 = 0 := by
        have hm : c ∈ P := List.mem_of_find?_eq_some hl
        have ha : (P.all fun c => decide ((rightR c).1 = 0)) = true := by simpa using h0
        simpa using (List.all_eq_true.1 ha) c hm
      simp only
      by_cases h2 : (ar.length : Int) ≠ wordsN c.ps + cellsN c.ps
      · rw [if_pos h2]; simp
      · rw [if_neg h2]
        by_cases h3 : (runF P 60001 0 c (startF c ar) ⟨60000, [], 0⟩).2.wrong ≠ 0
        · rw [if_pos h3]; simp
        · rw [if_neg h3]
          have hb := runF_br P 60001 0 c (startF c ar) ⟨60000, [], 0⟩
          have hc := runF_cells P 60001 0 c (startF c ar) ⟨60000, [], 0⟩
          have hs := (start_fits hr (Classical.not_not.1 h2)).cells
          have hf := formB_parts (right_form hr)
          simp only [both0, List.length_nil] at hb
          simp only [List.length_take]
          omega
  · rw [if_neg h1]; simp
end Go.Proofs.Ytmglmbeconndhaa
