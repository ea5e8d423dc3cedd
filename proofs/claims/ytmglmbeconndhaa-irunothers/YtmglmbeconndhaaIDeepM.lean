/- PLAIN FACTS: what comes of a row of functions, each of which calls the one ahead of it. -/
import Derived.Test.YtmglmbeconndhaaIOneM
namespace Go.Proofs.Ytmglmbeconndhaa

/-- The names in their order. -/
def dpN : Nat → List UInt8
  | 0 => afN
  | i + 1 => [98, 46, 102, UInt8.ofNat (97 + i / 10), UInt8.ofNat (97 + i % 10)]
/-- The functions: the first one tells k, each other one what the one ahead tells. -/
def dpC (k : Nat) : Nat → Co
  | 0 => ⟨afN, [], 1, 0, [⟨1, 0, 0, 0, 0, 0, k, [], []⟩, ⟨10, 0, 0, 0, 0, 0, 0, [], []⟩]⟩
  | i + 1 => ⟨dpN (i + 1), [], 1, 0, [⟨7, 0, 0, 0, 0, 0, 0, dpN i, []⟩, ⟨10, 0, 0, 0, 0, 0, 0, [], []⟩]⟩
def dpL (k : Nat) : Nat → List Co
  | 0 => [dpC k 0]
  | n + 1 => dpL k n ++ [dpC k (n + 1)]
theorem dp_name (k : Nat) : ∀ i, (dpC k i).name = dpN i
  | 0 => rfl
  | _ + 1 => rfl
theorem dpL_len (k : Nat) : ∀ n, (dpL k n).length = n + 1
  | 0 => rfl
  | n + 1 => by rw [dpL, List.length_append, dpL_len k n]; rfl
theorem dpL_mem (k : Nat) : ∀ n, ∀ c ∈ dpL k n, ∃ j, j ≤ n ∧ c = dpC k j
  | 0, c, h => ⟨0, Nat.le_refl _, List.mem_singleton.1 h⟩
  | n + 1, c, h => by
    rcases List.mem_append.1 h with h | h
    · obtain ⟨j, hj, e⟩ := dpL_mem k n c h
      exact ⟨j, by omega, e⟩
    · exact ⟨n + 1, Nat.le_refl _, List.mem_singleton.1 h⟩
theorem dp_inj {i j : Nat} (hi : i ≤ 40) (hj : j ≤ 40) (h : dpN i = dpN j) : i = j := by
  have : ∀ i j : Fin 41, dpN i.1 = dpN j.1 → i.1 = j.1 := by decide +kernel
  exact this ⟨i, by omega⟩ ⟨j, by omega⟩ h
theorem dp_right (k : Nat) {i : Nat} (hi : i ≤ 40) : rightR (dpC k i) = (0, -1) := by
  cases i with
  | zero => kernel_rfl
  | succ i =>
    have : ∀ i : Fin 41, rightR (dpC 0 (i.1 + 1)) = (0, -1) := by decide +kernel
    exact this ⟨i, by omega⟩
theorem dp_nodup (k : Nat) : ∀ n, n ≤ 40 → ((dpL k n).map Co.name).Nodup
  | 0, _ => by simp [dpL]
  | n + 1, h => by
    rw [dpL, List.map_append, List.nodup_append]
    refine ⟨dp_nodup k n (by omega), by simp, fun a ha b hb => ?_⟩
    obtain ⟨c, hc, rfl⟩ := List.mem_map.1 ha
    obtain ⟨j, hj, rfl⟩ := dpL_mem k n c hc
    have hb' : b = dpN (n + 1) := by simpa [dpC] using hb
    rw [hb', dp_name]
    intro e
    have := dp_inj (by omega) h e
    omega
theorem dp_look (k : Nat) : ∀ n, n ≤ 40 → ∀ i, i ≤ n → look (dpL k n) (dpN i) = some (dpC k i)
  | 0, _, i, hi => by
    obtain rfl : i = 0 := by omega
    simp [look, dpL, dpC, dpN]
  | n + 1, h, i, hi => by
    rw [look, dpL, List.find?_append]
    by_cases e : i = n + 1
    · subst e
      have : (dpL k n).find? (fun c => c.name == dpN (n + 1)) = none := by
        rw [List.find?_eq_none]
        intro c hc
        obtain ⟨j, hj, rfl⟩ := dpL_mem k n c hc
        rw [dp_name]
        intro he
        have := dp_inj (i := j) (j := n + 1) (by omega) h (eq_of_beq he)
        omega
      rw [this]
      simp [dpC]
    · have := dp_look k n (by omega) i (by omega)
      rw [look] at this
      rw [this]
      rfl
theorem dp_start (k i : Nat) : startF (dpC k i) [] = ⟨[0], [], 0, false, 0⟩ := by cases i <;> rfl
theorem dp_ok (k n : Nat) (hn : n ≤ 40) : ∀ i d f left, i ≤ n → d + i ≤ 32 → 2 * i + 3 ≤ f → 2 * (i + 1) ≤ left →
    runF (dpL k n) f d (dpC k i) ⟨[0], [], 0, false, 0⟩ ⟨left, [], 0⟩ = (⟨[k], [], 2, true, k⟩, ⟨left - 2 * (i + 1), [], 0⟩)
  | 0, d, f, left, _, _, hf, hl => by
    obtain ⟨f, rfl⟩ : ∃ g, f = g + 2 := ⟨f - 2, by omega⟩
    rw [runF_step (f := f + 1) (x := ⟨1, 0, 0, 0, 0, 0, k, [], []⟩) rfl rfl rfl (by rw [step_1 rfl (show left ≠ 0 by omega)])]
    rw [runF_step (x := ⟨10, 0, 0, 0, 0, 0, 0, [], []⟩) rfl rfl rfl (by rw [step_10 rfl (show left - 1 ≠ 0 by omega)])]
    rw [runF_end rfl]
    rfl
  | i + 1, d, f, left, hi, hd, hf, hl => by
    obtain ⟨f, rfl⟩ : ∃ g, f = g + 2 := ⟨f - 2, by omega⟩
    have ih := dp_ok k n hn i (d + 1) (f + 1) (left - 1) (by omega) (by omega) (by omega) (by omega)
    have hs : stepR (dpL k n) (runF (dpL k n) (f + 1)) d ⟨7, 0, 0, 0, 0, 0, 0, dpN i, []⟩ ⟨[0], [], 0, false, 0⟩ ⟨left, [], 0⟩ = (⟨[k], [], 1, false, 0⟩, ⟨left - 1 - 2 * (i + 1), [], 0⟩) := by
      rw [stepR, if_neg (show left ≠ 0 by omega), doIr_7 rfl, callR_some (dp_look k n hn i (by omega)), if_neg ?_, if_neg (by omega)]
      · rw [show ([] : List Int).map (at0 [0]) = [] from rfl, dp_start, ih]
        rfl
      · cases i <;> simp [dpC, cellsN]
    rw [runF_step (f := f + 1) (x := ⟨7, 0, 0, 0, 0, 0, 0, dpN i, []⟩) rfl rfl rfl hs]
    rw [runF_step (x := ⟨10, 0, 0, 0, 0, 0, 0, [], []⟩) rfl rfl rfl (by rw [step_10 rfl (show left - 1 - 2 * (i + 1) ≠ 0 by omega)])]
    rw [runF_end rfl]
    show ((⟨[k], [], 2, true, k⟩ : Fr), (⟨left - 1 - 2 * (i + 1) - 1, [], 0⟩ : St)) = _
    rw [show left - 1 - 2 * (i + 1) - 1 = left - 2 * (i + 1 + 1) by omega]
theorem dp_bad (k n : Nat) (hn : n ≤ 40) : ∀ i d f left, i ≤ n → 32 < d + i → d ≤ 32 → i + 1 ≤ f → i + 1 ≤ left → (runF (dpL k n) f d (dpC k i) ⟨[0], [], 0, false, 0⟩ ⟨left, [], 0⟩).2.wrong = 19
  | 0, d, f, left, _, h1, h2, _, _ => by omega
  | i + 1, d, f, left, hi, h1, h2, hf, hl => by
    obtain ⟨f, rfl⟩ : ∃ g, f = g + 1 := ⟨f - 1, by omega⟩
    have hget : (dpC k (i + 1)).l.getD 0 noIr = ⟨7, 0, 0, 0, 0, 0, 0, dpN i, []⟩ := rfl
    rw [runF_succ, if_neg (by simp)]
    show (runF (dpL k n) f d (dpC k (i + 1)) (stepR (dpL k n) (runF (dpL k n) f) d ((dpC k (i + 1)).l.getD 0 noIr) ⟨[0], [], 0, false, 0⟩ ⟨left, [], 0⟩).1 (stepR (dpL k n) (runF (dpL k n) f) d ((dpC k (i + 1)).l.getD 0 noIr) ⟨[0], [], 0, false, 0⟩ ⟨left, [], 0⟩).2).2.wrong = 19
    rw [hget, stepR, if_neg (show left ≠ 0 by omega), doIr_7 rfl, callR_some (dp_look k n hn i (by omega)), if_neg (by cases i <;> simp [dpC, cellsN])]
    by_cases h : d = 32
    · rw [if_pos h, runF_stop _ _ _ _ _ _ (.inr (by simp))]
    · rw [if_neg h, show ([] : List Int).map (at0 [0]) = [] from rfl]
      have ih := dp_bad k n hn i (d + 1) f (left - 1) (by omega) (by omega) (by omega) (by omega) (by omega)
      show (runF (dpL k n) f d (dpC k (i + 1)) _ (runF (dpL k n) f (d + 1) (dpC k i) (startF (dpC k i) []) ⟨left - 1, [], 0⟩).2).2.wrong = 19
      rw [dp_start, runF_stop _ _ _ _ _ _ (.inr (by rw [ih]; decide)), ih]
theorem run_dp (k n : Nat) (hn : n ≤ 40) : runR (dpL k n) (dpN n) [] = if 32 < n then (0, [], [], 19) else (k, [], [], 0) := by
  have ha : ((dpL k n).all fun c => decide ((rightR c).1 = 0)) = true := by
    rw [List.all_eq_true]
    intro c hc
    obtain ⟨j, hj, rfl⟩ := dpL_mem k n c hc
    rw [dp_right k (by omega)]
    rfl
  have hp : (dpC k n).ps = [] := by cases n <;> rfl
  unfold runR
  rw [ha, if_neg (by simp), if_pos (dp_nodup k n hn), dp_look k n hn n (Nat.le_refl _)]
  simp only
  rw [if_neg (by rw [hp]; simp [wordsN, cellsN]), dp_start, hp]
  by_cases h : 32 < n
  · have := dp_bad k n hn n 0 60001 60000 (Nat.le_refl _) (by omega) (by omega) (by omega) (by omega)
    rw [if_pos h, this, if_pos (by decide)]
  · rw [if_neg h, dp_ok k n hn n 0 60001 60000 (Nat.le_refl _) (by omega) (by omega) (by omega)]
    rfl
end Go.Proofs.Ytmglmbeconndhaa
