/- The Go function carlinglaw02.SexpLies returns true for every text, and leaves its argument alone; no condition. -/
import Derived.Test.YtbedhghcdhbkmaaLaw
import Derived.Test.YtbedhghcdhbkmaaLies
import Derived.WalkKit
import Derived.ProofKit
import Derived.OpenShut
import Derived.ShutString
namespace Go.Proofs.Ytbedhghcdhbkmaa.sexpLies
open Go.ChangeShapes Go.WideShapes Go.ChangeAt Go.RowKit
open Go.ChangeMaps (open_string shut_string)
set_option linter.unusedVariables false      -- a walk need not use every 'w<i>' (that an integer argument fits its kind)

theorem own : ownKnob Try.prog.godebug = none := by kernel_rfl

theorem walk (a0 : ByteArray) (w0 : a0.size ≤ maxLen) (w : World) :
    Calls Try.prog 6 #[.string a0] w fun e w' => e = .returned (.bool true) ∧ Below w.heap.size w w' := by
  have hln : a0.data.toList.length = a0.size := rfl
  by_cases hlen : 16384 < a0.size
  · have hl : (16384 : Int) < (a0.size : Int) := by omega
    have hO : parse a0.data.toList = .err 5 0 := by unfold parse; rw [hln, if_pos hlen]
    clear hln
    go_enter Try.func6, Try.ntmps6
    go_wp2_with (first | (go_at_call 9; refine (awake_any _).mono ?_; rintro e w1 ⟨rfl, hb1⟩) | (go_at_call 10; refine (parse_bad hO _).mono ?_; rintro e w2 ⟨hb2, x2, c2, rfl⟩))
    go_ret
    exact ⟨rfl, hb1.trans (hb2.mono hb1.size)⟩
  · have hl : ¬ (16384 : Int) < (a0.size : Int) := by omega
    rcases hO : parse a0.data.toList with l | ⟨er, q⟩
    · obtain ⟨hi, hlie⟩ := parse_lie hO
      have hsz := parse_size16 a0.data.toList
      rw [hO] at hsz
      have hc := fun x c w hr => lies_any a0 (by omega) (sizeL l) (by simp only [outL] at hsz; omega) l (fun _ => True) x c 0 hi w (Nat.le_refl _) hr (Nat.zero_le _) hlie
      have hhi : (0 : Int) ≤ (hi : Int) := by omega
      clear hln hsz hlie
      go_enter Try.func6, Try.ntmps6
      go_wp2_with (first | (go_at_call 9; refine (awake_any _).mono ?_; rintro e w1 ⟨rfl, hb1⟩) | (go_at_call 10; refine (parse_ok hO _).mono ?_; rintro e w2 ⟨hb2, x2, c2, rfl, hr2⟩) | (go_at_call 19; refine (hc x2 c2 w2 (hr2.mono fun _ _ _ => ⟨trivial, rfl⟩)).mono ?_; rintro e w3 ⟨rfl, hb3⟩))
      go_ret
      exact ⟨rfl, hb1.trans ((hb2.mono hb1.size).trans (hb3.mono (Nat.le_trans hb1.size hb2.size)))⟩
    · have hne : (er != 0) = true ∧ (0 : Int) ≤ (q : Int) ∧ (q < a0.size ∨ q = a0.size ∧ er = 3) := by
        rcases parse_errs hO with ⟨rfl, rfl, h⟩ | ⟨_, h1, h2⟩
        · omega
        · exact ⟨by rcases h1 with rfl | rfl | rfl <;> rfl, by omega, by omega⟩
      obtain ⟨he, hq0, hq1⟩ := hne
      clear hln
      rcases hq1 with hq1 | ⟨rfl, rfl⟩
      · have hq2 : (q : Int) < (a0.size : Int) := by omega
        go_enter Try.func6, Try.ntmps6
        go_wp2_with (first | (go_at_call 9; refine (awake_any _).mono ?_; rintro e w1 ⟨rfl, hb1⟩) | (go_at_call 10; refine (parse_bad hO _).mono ?_; rintro e w2 ⟨hb2, x2, c2, rfl⟩))
        go_ret
        exact ⟨rfl, hb1.trans (hb2.mono hb1.size)⟩
      · go_enter Try.func6, Try.ntmps6
        go_wp2_with (first | (go_at_call 9; refine (awake_any _).mono ?_; rintro e w1 ⟨rfl, hb1⟩) | (go_at_call 10; refine (parse_bad hO _).mono ?_; rintro e w2 ⟨hb2, x2, c2, rfl⟩))
        go_ret
        exact ⟨rfl, hb1.trans (hb2.mono hb1.size)⟩

/-! ### THE ROW's STEP: WRITTEN OUT: LEAVE IT -/
set_option maxRecDepth 100000 in
theorem lifted (os : Os) (started : os.Started) (H : Type) (enc : TypeId × Value → H) :
    ReturnsInHanded {} Try.checked os 6 .any (Rows.sexpLiesSpec.pre6 enc Try.prog Try.f6 Rows.sexpLiesRow.domain false) (Rows.sexpLiesSpec.post enc Try.prog Try.f6 false true false false) := by
  refine returnsInHanded_of_change (C := Try.checked) own started (by kernel_rfl) Try.func6
    (ChangeSpec.witness6 (enc := enc) (C := Try.checked) false ⟨#[], #[.string ByteArray.empty], []⟩ 8 (by kernel_rfl) (by kernel_rfl) (by kernel_rfl) (by kernel_rfl)) ?_
  intro W base args ds gs before hval0 hW hcnd _
  have hval : ∀ (j : Nat) t v, Try.f6.params[j]? = some t → args[j]? = some v → Value.okWide Try.prog W .any base t v := hval0
  have hW' := hW
  obtain ⟨p, q, hA0, hV, rfl, hfz, hnd⟩ := hW
  have hA : DataW.TrodAll enc Try.prog W 0 (fun _ => true) true Try.f6.params.toList args.toList ds p := hA0
  rw [Try.params6] at hA hval
  obtain ⟨v0, vs0, d0, ds0, p0, q0, hargs, rfl, rfl, h0, r0⟩ := trodAll_cons hA
  obtain ⟨rfl, rfl, rfl⟩ := trodAll_nil r0
  obtain rfl : args = #[v0] := by cases args; simp_all
  obtain ⟨rfl, rfl⟩ := trodVars_none hV
  obtain ⟨a0, rfl, rfl, rfl, w0⟩ := open_string Try.underlying9 (hval 0 9 v0 rfl rfl) h0
  clear hA0 hval0
  simp only [List.append_nil] at hW'
  refine (walk a0 w0 W).mono fun e W' ⟨he, hg⟩ => ?_
  subst he
  exact ⟨_, rfl, _, _, _, [], _, [], hW', (trodAll_cons_mk (shut_bool Try.underlying4 _) trodAll_mk0), (trodAll_cons_mk (shut_string Try.underlying9 w0) trodAll_mk0), rfl, hg.frame _, fun h => by cases h⟩

theorem over : Rows.sexpLiesRow.holds Try.pinned (OpenSpec.ofChange Rows.sexpLiesSpec) :=
  OpenClaim.holds_of_wide 6 Try.f6 rfl rfl rfl rfl rfl rfl rfl ⟨rfl, rfl, rfl, rfl, rfl⟩ rfl rfl rfl rfl rfl (by kernel_rfl) Try.func6 (by kernel_rfl)
    (of_decide_eq_true (by kernel_rfl)) (by unfold Func.isWrapper; first | (rw [if_pos (by decide +kernel)]; kernel_rfl) | (rw [if_neg (by decide +kernel)]; exact ⟨rfl, rfl⟩))
    (fun os started H enc _ => lifted os started H enc)

/-- ████ THE STATEMENT ████ -/
theorem proved : Rows.SexpLiesSaid :=
  over
#print axioms proved
end Go.Proofs.Ytbedhghcdhbkmaa.sexpLies
