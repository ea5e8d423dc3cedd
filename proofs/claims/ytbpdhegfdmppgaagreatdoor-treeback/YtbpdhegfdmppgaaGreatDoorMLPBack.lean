/- The Go function carlinglaw03.TreeBack returns true for every unit that holds no part of itself, and leaves its argument alone; the package variables of the library that the row lists start as the program's text lays them (the card ties them). -/
import Derived.Test.YtbpdhegfdmppgaaGreatDoorM52
import Derived.Test.YtbpdhegfdmppgaaGreatDoorM53
import Derived.Test.YtbpdhegfdmppgaaGreatDoorTie
import Derived.Test.YtbpdhegfdmppgaaGreatDoorCards
import Derived.Carry
import Derived.SevenTiedAt
namespace Go.Proofs.YtbpdhegfdmppgaaGreatDoor
namespace back
open Go.ChangeShapes Go.WideShapes Go.ChangeAt Go.RowKit
open Go.ChangeMaps (open_string shut_string)

theorem laidOut : laidOutB Tryz.prog = true := by kernel_rfl

set_option maxRecDepth 100000 in
theorem lifted (os : Os) (started : os.Started) (H : Type) (enc : TypeId × Value → H) :
    ReturnsInHanded {} Tryz.checked os 5 .any (fun w args => (Rows.treeBackSpec.pre enc Tryz.checked.prog Tryz.f5 Rows.treeBackRow.domain false w args ∧ laidMet Tryz.prog listed w) ∧ sizedMet enc Tryz.checked.prog Tryz.f5 (OpenSpec.ofChange Rows.treeBackSpec) false w args)
      (Rows.treeBackSpec.post enc Tryz.checked.prog Tryz.f5 false true false false) := by
  refine lift_of started (by kernel_rfl) Tryz.func5
    (ChangeSpec.witness_at (enc := enc) (C := Tryz.checked) (os := os) (X := fun w _ => laidMet Tryz.prog listed w) false (laidWorld os) #[.agg #[.string ⟨#[]⟩, .slice none 0 0, .slice none 0 0]] 8 rfl (by kernel_rfl) (by kernel_rfl) (by kernel_rfl) (by kernel_rfl) (by kernel_rfl) (laidWorld_met os _)) ?_
  intro W base args ds gs before hval0 hW _ hG
  have hval : ∀ (j : Nat) t v, Tryz.f5.params[j]? = some t → args[j]? = some v → Value.okWide Tryz.prog W .any base t v := hval0
  have hW' := hW
  obtain ⟨p, q, hA0, hV, rfl, hfz, hnd⟩ := hW
  have hA : DataW.TrodAll enc Tryz.prog W 0 (fun _ => true) true Tryz.f5.params.toList args.toList ds p := hA0
  rw [Tryz.params5] at hA hval
  obtain ⟨v0, vs0, d0, ds0, p0, q0, hargs, rfl, rfl, h0, r0⟩ := trodAll_cons hA
  obtain ⟨rfl, rfl, rfl⟩ := trodAll_nil r0
  obtain rfl : args = #[v0] := by cases args; simp_all
  obtain ⟨rfl, rfl⟩ := trodVars_none hV
  have k0 := h0
  obtain ⟨u0, hv0, hn0⟩ := Sh.came_unit (hval 0 30 v0 rfl rfl) h0
  obtain ⟨a1, c1, a2, c2, rfl, _, _, rr1, rr2⟩ := hv0
  simp only [List.append_nil] at hW'
  have hwalk := back_walk u0.name u0.imports u0.funcs a1 c1 a2 c2 W hG.1 hG.2 rr1 rr2 hn0
  refine hwalk.mono fun e W' ⟨he, hg⟩ => ?_
  subst he
  have l0b : ∀ x ∈ p0, x.block < W.heap.size := fun x hx => hW'.lt x (by simp [hx])
  exact ⟨_, rfl, _, _, _, [], _, [], hW', (trodAll_cons_mk (shut_bool Tryz.underlying4 _) trodAll_mk0), (trodAll_cons_mk (Below.trod laidOut (by kernel_rfl) (of_decide_eq_true (by kernel_rfl)) k0 hg l0b) trodAll_mk0), rfl, hg.frame _, fun h => by cases h⟩

theorem named : Tryz.checked.prog.funcNamed Rows.treeBackRow.func = some 5 := by kernel_rfl
theorem closed : joinedFacts Tryz.checked.prog 5 Tryz.f5 Rows.treeBackSpec Rows.treeBackRow = true := by kernel_rfl
theorem inst : Tryz.f5.isInstance Tryz.checked.prog Rows.treeBackRow.origin Rows.treeBackRow.targs := of_decide_eq_true (by kernel_rfl)
theorem over : Rows.TreeBackSaid :=
  OpenClaim.holds_of_wide 5 Tryz.f5 rfl rfl rfl rfl rfl rfl rfl ⟨rfl, rfl, rfl, rfl, rfl⟩ rfl rfl rfl rfl rfl named Tryz.func5 closed
    inst (by unfold Func.isWrapper; first | (rw [if_pos (by decide +kernel)]; kernel_rfl) | (rw [if_neg (by decide +kernel)]; exact ⟨rfl, rfl⟩))
    (fun os started H enc _ => lifted os started H enc)
end back

/-- ████ THE STATEMENT ████ -/
theorem treeBack_holds : Rows.TreeBackCardSaid :=
  Claim7.holds_tied_plain_at .later [] [.data, .data, .data, .sentinel, .sentinel] true Rows.treeBackCard.stood.harness true
    back.over (fun _ h => by cases h) (by kernel_rfl) (fun _ h => by cases h) treeBack_row_tie rfl ⟨rfl, rfl⟩ (by kernel_rfl) rfl
    (fun f fn hf hfn => by
      obtain rfl : f = 5 := Option.some.inj ((show Tryz.prog.funcNamed "carling/carlinglaw03.TreeBack" = some 5 by kernel_rfl).symm.trans hf) |>.symm
      obtain rfl : fn = Tryz.f5 := (Option.some.inj (Tryz.func5.symm.trans hfn)).symm
      exact ⟨by kernel_rfl, fun j t ht => by
        rw [Tryz.params5] at ht
        have h9 : t = 30 := by
          rcases j with _ | j
          · simpa using ht.symm
          · simp at ht
        subst h9
        exact (show Tryz.prog.wantsStandIn 30 = false by kernel_rfl)⟩)
    (by kernel_rfl)
#print axioms treeBack_holds
end Go.Proofs.YtbpdhegfdmppgaaGreatDoor
