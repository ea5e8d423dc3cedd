/- The Go function carlinglaw10.DeadRuns returns true for all lists of functions that are lowered and all words, and leaves its arguments alone; no condition. -/
import Derived.Test.YtndmkfmpdnoliaaQDRunsW
import Derived.Test.YtndmkfmpdnoliaaDCame
import Derived.Test.YtndmkfmpdnoliaaIFrame
import Derived.Test.YtndmkfmpdnoliaaICame
import Derived.Carry
import Derived.OpenShut
import Derived.ShutString
namespace Go.Proofs.Ytndmkfmpdnoliaa
namespace pdRuns
open Go.ChangeShapes Go.WideShapes Go.ChangeAt Go.RowKit
open Go.ChangeMaps (open_string shut_string)

theorem laidOut : laidOutB Try.prog = true := by kernel_rfl

set_option maxRecDepth 100000 in
theorem lifted (os : Os) (started : os.Started) (H : Type) (enc : TypeId × Value → H) :
    ReturnsInHanded {} Try.checked os 6 .any (Rows.deadRunsSpec.pre6 enc Try.prog Try.f6 Rows.deadRunsRow.domain false) (Rows.deadRunsSpec.post enc Try.prog Try.f6 false true false false) := by
  refine lift_of started (by kernel_rfl) Try.func6
    (ChangeSpec.witness6 (enc := enc) (C := Try.checked) false ⟨#[], #[.slice none 0 0, .slice none 0 0], []⟩ 8 (by kernel_rfl) (by kernel_rfl) (by kernel_rfl) (by kernel_rfl)) ?_
  intro W base args ds gs before hval0 hW hG
  have hval : ∀ (j : Nat) t v, Try.f6.params[j]? = some t → args[j]? = some v → Value.okWide Try.prog W .any base t v := hval0
  have hW' := hW
  obtain ⟨p, q, hA0, hV, rfl, hfz, hnd⟩ := hW
  have hA : DataW.TrodAll enc Try.prog W 0 (fun _ => true) true Try.f6.params.toList args.toList ds p := hA0
  rw [Try.params6] at hA hval
  obtain ⟨v0, vs0, d0, ds0, p0, q0, hargs, rfl, rfl, h0, r0⟩ := trodAll_cons hA
  obtain ⟨v1, vs1, d1, ds1, p1, q1, rfl, rfl, rfl, h1, r1⟩ := trodAll_cons r0
  obtain ⟨rfl, rfl, rfl⟩ := trodAll_nil r1
  obtain rfl : args = #[v0, v1] := by cases args; simp_all
  obtain ⟨rfl, rfl⟩ := trodVars_none hV
  have k0 := h0
  obtain ⟨a0, l0, c0, rfl, rr0, hc0, _, dd0⟩ := came_codesD (hval 0 22 v0 rfl rfl) h0
  have k1 := h1
  obtain ⟨a1, l1, c1, rfl, rr1, hc1, _⟩ := came_words (hval 1 23 v1 rfl rfl) h1
  simp only [List.append_nil] at hW'
  have hwalk := dead_runs a0 l0 c0 a1 l1 c1 W hG rr0 rr1 hc1 dd0
  refine hwalk.mono fun e W' ⟨he, hg⟩ => ?_
  subst he
  have y0 : ∀ x ∈ p0, x.block < W.heap.size := fun x hx => hW'.lt x (by simp [hx])
  have y1 : ∀ x ∈ p1, x.block < W.heap.size := fun x hx => hW'.lt x (by simp [hx])
  exact ⟨_, rfl, _, _, _, [], _, [], hW', (trodAll_cons_mk (shut_bool Try.underlying4 _) trodAll_mk0), (trodAll_cons_mk (Below.trod laidOut (by kernel_rfl) (of_decide_eq_true (by kernel_rfl)) k0 hg y0) (trodAll_cons_mk (Below.trod laidOut (by kernel_rfl) (of_decide_eq_true (by kernel_rfl)) k1 hg y1) trodAll_mk0)), rfl, hg.frame _, fun h => by cases h⟩
end pdRuns

/-- ████ THE STATEMENT ████ -/
theorem deadRuns_holds : Rows.DeadRunsSaid :=
  OpenClaim.holds_of_wide 6 Try.f6 rfl rfl rfl rfl rfl rfl rfl ⟨rfl, rfl, rfl, rfl, rfl⟩ rfl rfl rfl rfl rfl (by kernel_rfl) Try.func6 (by kernel_rfl)
    (of_decide_eq_true (by kernel_rfl)) (by unfold Func.isWrapper; first | (rw [if_pos (by decide +kernel)]; kernel_rfl) | (rw [if_neg (by decide +kernel)]; exact ⟨rfl, rfl⟩))
    (fun os started H enc _ => pdRuns.lifted os started H enc)
#print axioms deadRuns_holds
end Go.Proofs.Ytndmkfmpdnoliaa
