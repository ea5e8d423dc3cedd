/- CONTRACTS of isIdle and reads. -/
import Derived.Test.YtndmkfmpdnoliaaIParts
import Derived.Test.YtndmkfmpdnoliaaGBase
import Derived.Test.YtndmkfmpdnoliaaDMath
namespace Go.Proofs.Ytndmkfmpdnoliaa
open Go.ChangeShapes Go.WideShapes Go.ChangeAt Go.RowKit

set_option maxHeartbeats 1000000 in
theorem isIdle_any (x : Ir) (a : Option Addr) (c : Nat) (w : World) :
    Calls Try.prog 61 #[irV x a c] w fun e w' => e = .returned (.bool (idleB x)) ∧ Below w.heap.size w w' := by
  obtain ⟨kd, op, d, xa, xb, xc, n, nm, ag⟩ := x
  unfold irV
  simp only [idleB] at *
  by_cases h : 1 ≤ kd ∧ kd ≤ 5
  · have hk : kd = 1 ∨ kd = 2 ∨ kd = 3 ∨ kd = 4 ∨ kd = 5 := by omega
    rcases hk with rfl | rfl | rfl | rfl | rfl
    all_goals
      go_enter Try.func61, Try.ntmps61
      go_wp2
      go_ret
      exact ⟨rfl, bl_alloc (Below.refl _ _) _⟩
  · rw [decide_eq_false h]
    have g1 : (kd == 1) = false := by simp; omega
    have g2 : (kd == 2) = false := by simp; omega
    have g3 : (kd == 3) = false := by simp; omega
    have g4 : (kd == 4) = false := by simp; omega
    have g5 : (kd == 5) = false := by simp; omega
    go_enter Try.func61, Try.ntmps61
    go_wp2
    go_ret
    exact ⟨rfl, bl_alloc (Below.refl _ _) _⟩
set_option maxHeartbeats 1000000 in
theorem dreads_any {S : Nat → Prop} (x : Ir) (a : Option Addr) (c : Nat) (w : World) (hr : kInt.row w S a x.args) (hc : x.args.length ≤ c) :
    Calls Try.prog 62 #[irV x a c] w fun e w' => (∃ v, e = .returned v ∧ ReadsAt w w' S v (readsL x)) ∧ Below w.heap.size w w' := by
  obtain ⟨kd, op, d, xa, xb, xc, n, nm, ag⟩ := x
  unfold irV
  simp only [readsL] at *
  by_cases h1 : kd = 2 ∨ kd = 6 ∨ kd = 9 ∨ kd = 10
  · rw [if_pos h1]
    rcases h1 with rfl | rfl | rfl | rfl
    all_goals
      go_enter Try.func62, Try.ntmps62
      go_wp2
      go_ret
      exact ⟨⟨_, rfl, new_ints w _ [xa] 3⟩, bl_alloc (bl_alloc (Below.refl _ _) _) _⟩
  rw [if_neg h1]
  have g2 : (kd == 2) = false := by simp; omega
  have g6 : (kd == 6) = false := by simp; omega
  have g9 : (kd == 9) = false := by simp; omega
  have g10 : (kd == 10) = false := by simp; omega
  by_cases h3 : kd = 3
  · rw [if_pos h3]
    subst h3
    go_enter Try.func62, Try.ntmps62
    go_wp2
    go_ret
    exact ⟨⟨_, rfl, new_ints w _ [xa, xb] 3⟩, bl_alloc (bl_alloc (Below.refl _ _) _) _⟩
  rw [if_neg h3]
  have g3 : (kd == 3) = false := by simpa using h3
  by_cases h4 : kd = 4
  · rw [if_pos h4]
    subst h4
    go_enter Try.func62, Try.ntmps62
    go_wp2
    go_ret
    exact ⟨⟨_, rfl, new_ints w _ [xa, xb, xc] 3⟩, bl_alloc (bl_alloc (Below.refl _ _) _) _⟩
  rw [if_neg h4]
  have g4 : (kd == 4) = false := by simpa using h4
  by_cases h7 : kd = 7
  · rw [if_pos h7]
    subst h7
    go_enter Try.func62, Try.ntmps62
    go_wp2
    go_ret
    exact ⟨⟨_, rfl, ⟨a, c, rfl, kInt.row_mono (by decide) hr fun b hb hlt => ⟨.inl hb, heap_alloc_old w _ hlt⟩, hc⟩⟩, bl_alloc (Below.refl _ _) _⟩
  rw [if_neg h7]
  have g7 : (kd == 7) = false := by simpa using h7
  go_enter Try.func62, Try.ntmps62
  go_wp2
  go_ret
  exact ⟨⟨_, rfl, ⟨none, 0, rfl, trivial, Nat.le_refl _⟩⟩, bl_alloc (Below.refl _ _) _⟩
end Go.Proofs.Ytndmkfmpdnoliaa
