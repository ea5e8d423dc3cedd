/- The Go function carlinglaw02.SexpWord returns true for every text, and leaves its argument alone; no condition. -/
import Derived.Test.YtbedhghcdhbkmaaLaw
import Derived.WalkKit
import Derived.ProofKit
import Derived.OpenShut
import Derived.ShutString
namespace Go.Proofs.Ytbedhghcdhbkmaa.sexpWord
open Go.ChangeShapes Go.WideShapes Go.ChangeAt Go.RowKit
open Go.ChangeMaps (open_string shut_string)
set_option linter.unusedVariables false      -- a walk need not use every 'w<i>' (that an integer argument fits its kind)

theorem own : ownKnob Try.prog.godebug = none := by kernel_rfl

theorem walk (a0 : ByteArray) (w0 : a0.size ≤ maxLen) (w : World) :
    Calls Try.prog 8 #[.string a0] w fun e w' => e = .returned (.bool true) ∧ Below w.heap.size w w' := by
  by_cases hlen : 1000 < a0.size
  · have hl : (1000 : Int) < (a0.size : Int) := by omega
    go_enter Try.func8, Try.ntmps8
    go_wp2_with (go_at_call 9; refine (awake_any _).mono ?_; rintro e w1 ⟨rfl, hb1⟩)
    go_ret
    exact ⟨rfl, hb1⟩
  · have hl : ¬ (1000 : Int) < (a0.size : Int) := by omega
    have hln : a0.data.toList.length = a0.size := rfl
    have hW := fun w => word_any a0 w
    rcases hwb : wordB a0.data.toList with _ | _
    · simp only [hwb] at hW
      rcases hO : parse a0.data.toList with l | ⟨er, q⟩
      · have hgood := parse_good hO
        match l, hgood, hO with
        | [], _, hO =>
          clear hgood hwb hln
          go_enter Try.func8, Try.ntmps8
          go_wp2_with (first
            | (go_at_call 9; refine (awake_any _).mono ?_; rintro e w1 ⟨rfl, hb1⟩)
            | (go_at_call 10; refine (parse_ok hO _).mono ?_; rintro e w2 ⟨hb2, x2, c2, rfl, hr2⟩)
            | (go_at_call 16; refine (hW _).mono ?_; rintro e w3 ⟨rfl, hb3⟩))
          go_ret
          exact ⟨rfl, hb1.trans ((hb2.mono hb1.size).trans (hb3.mono (Nat.le_trans hb1.size hb2.size)))⟩
        | [.mk true wd ks p], _, hO =>
          clear hgood hwb hln
          go_enter Try.func8, Try.ntmps8
          go_wp2_with (first
            | (go_at_call 9; refine (awake_any _).mono ?_; rintro e w1 ⟨rfl, hb1⟩)
            | (go_at_call 10; refine (parse_ok hO _).mono ?_; rintro e w2 ⟨hb2, x2, c2, rfl, hr2⟩; obtain ⟨b, o, a', c', rfl, _, q0, q1, q2, q3, _⟩ := hr2.at_ 0 true wd ks p rfl; simp only [Nat.zero_mul, Nat.add_zero] at q0 q1 q2 q3)
            | (go_at_call 16; refine (hW _).mono ?_; rintro e w3 ⟨rfl, hb3⟩))
          go_ret
          exact ⟨rfl, hb1.trans ((hb2.mono hb1.size).trans (hb3.mono (Nat.le_trans hb1.size hb2.size)))⟩
        | [.mk false wd ks p], hg, hO =>
          have hne : ((bs wd).toList == a0.toList) = false := by
            rw [ByteArray.toList_eq, ByteArray.toList_eq, bs_list, beq_eq_false_iff_ne]
            rintro rfl
            rw [hg.1.1] at hwb
            cases hwb
          clear hgood hwb hln hg
          go_enter Try.func8, Try.ntmps8
          go_wp2_with (first
            | (go_at_call 9; refine (awake_any _).mono ?_; rintro e w1 ⟨rfl, hb1⟩)
            | (go_at_call 10; refine (parse_ok hO _).mono ?_; rintro e w2 ⟨hb2, x2, c2, rfl, hr2⟩; obtain ⟨b, o, a', c', rfl, _, q0, q1, q2, q3, _⟩ := hr2.at_ 0 false wd ks p rfl; simp only [Nat.zero_mul, Nat.add_zero] at q0 q1 q2 q3)
            | (go_at_call 16; refine (hW _).mono ?_; rintro e w3 ⟨rfl, hb3⟩))
          go_ret
          exact ⟨rfl, hb1.trans ((hb2.mono hb1.size).trans (hb3.mono (Nat.le_trans hb1.size hb2.size)))⟩
        | x :: y :: l, _, hO =>
          have h2 : ((((x :: y :: l).length : Nat) : Int) == 1) = false := by rw [beq_eq_false_iff_ne]; simp only [List.length_cons]; omega
          clear hgood hwb hln
          generalize (x :: y :: l) = L at hO h2
          go_enter Try.func8, Try.ntmps8
          go_wp2_with (first
            | (go_at_call 9; refine (awake_any _).mono ?_; rintro e w1 ⟨rfl, hb1⟩)
            | (go_at_call 10; refine (parse_ok hO _).mono ?_; rintro e w2 ⟨hb2, x2, c2, rfl, hr2⟩)
            | (go_at_call 16; refine (hW _).mono ?_; rintro e w3 ⟨rfl, hb3⟩))
          go_ret
          exact ⟨rfl, hb1.trans ((hb2.mono hb1.size).trans (hb3.mono (Nat.le_trans hb1.size hb2.size)))⟩
      · have he : (er == 0) = false := by
          rcases parse_errs hO with ⟨rfl, _⟩ | ⟨_, rfl | rfl | rfl, _⟩ <;> rfl
        clear hwb hln
        go_enter Try.func8, Try.ntmps8
        go_wp2_with (first
          | (go_at_call 9; refine (awake_any _).mono ?_; rintro e w1 ⟨rfl, hb1⟩)
          | (go_at_call 10; refine (parse_bad hO _).mono ?_; rintro e w2 ⟨hb2, x2, c2, rfl⟩)
          | (go_at_call 16; refine (hW _).mono ?_; rintro e w3 ⟨rfl, hb3⟩))
        go_ret
        exact ⟨rfl, hb1.trans ((hb2.mono hb1.size).trans (hb3.mono (Nat.le_trans hb1.size hb2.size)))⟩
    · simp only [hwb] at hW
      have hO := parse_word hwb (by omega)
      have heq : ((bs a0.data.toList).toList == a0.toList) = true := by rw [bs_of]; simp
      clear hwb hln
      go_enter Try.func8, Try.ntmps8
      go_wp2_with (first
        | (go_at_call 9; refine (awake_any _).mono ?_; rintro e w1 ⟨rfl, hb1⟩)
        | (go_at_call 10; refine (parse_ok hO _).mono ?_; rintro e w2 ⟨hb2, x2, c2, rfl, hr2⟩; obtain ⟨b, o, a', c', rfl, _, q0, q1, q2, q3, _⟩ := hr2.at_ 0 false _ [] 0 rfl; simp only [Nat.zero_mul, Nat.add_zero] at q0 q1 q2 q3)
        | (go_at_call 16; refine (hW _).mono ?_; rintro e w3 ⟨rfl, hb3⟩))
      go_ret
      exact ⟨rfl, hb1.trans ((hb2.mono hb1.size).trans (hb3.mono (Nat.le_trans hb1.size hb2.size)))⟩

/-! ### THE ROW's STEP: WRITTEN OUT: LEAVE IT -/
set_option maxRecDepth 100000 in
theorem lifted (os : Os) (started : os.Started) (H : Type) (enc : TypeId × Value → H) :
    ReturnsInHanded {} Try.checked os 8 .any (Rows.sexpWordSpec.pre6 enc Try.prog Try.f8 Rows.sexpWordRow.domain false) (Rows.sexpWordSpec.post enc Try.prog Try.f8 false true false false) := by
  refine returnsInHanded_of_change (C := Try.checked) own started (by kernel_rfl) Try.func8
    (ChangeSpec.witness6 (enc := enc) (C := Try.checked) false ⟨#[], #[.string ByteArray.empty], []⟩ 8 (by kernel_rfl) (by kernel_rfl) (by kernel_rfl) (by kernel_rfl)) ?_
  intro W base args ds gs before hval0 hW hcnd _
  have hval : ∀ (j : Nat) t v, Try.f8.params[j]? = some t → args[j]? = some v → Value.okWide Try.prog W .any base t v := hval0
  have hW' := hW
  obtain ⟨p, q, hA0, hV, rfl, hfz, hnd⟩ := hW
  have hA : DataW.TrodAll enc Try.prog W 0 (fun _ => true) true Try.f8.params.toList args.toList ds p := hA0
  rw [Try.params8] at hA hval
  obtain ⟨v0, vs0, d0, ds0, p0, q0, hargs, rfl, rfl, h0, r0⟩ := trodAll_cons hA
  obtain ⟨rfl, rfl, rfl⟩ := trodAll_nil r0
  obtain rfl : args = #[v0] := by cases args; simp_all
  obtain ⟨rfl, rfl⟩ := trodVars_none hV
  obtain ⟨a0, rfl, rfl, rfl, w0⟩ := open_string Try.underlying9 (hval 0 9 v0 rfl rfl) h0
  clear hA0 hval0
  simp only [List.append_nil] at hW'
  refine (walk a0 w0 W).mono fun e W' ⟨he, hg⟩ => ?_
  subst he
  exact ⟨_, rfl, _, _, _, [], _, [], hW', (trodAll_cons_mk (shut_bool Try.underlying4 _) trodAll_mk0), (trodAll_cons_mk (shut_string Try.underlying9 w0) trodAll_mk0), rfl, hg.frame _, fun h => by cases h⟩

theorem over : Rows.sexpWordRow.holds Try.pinned (OpenSpec.ofChange Rows.sexpWordSpec) :=
  OpenClaim.holds_of_wide 8 Try.f8 rfl rfl rfl rfl rfl rfl rfl ⟨rfl, rfl, rfl, rfl, rfl⟩ rfl rfl rfl rfl rfl (by kernel_rfl) Try.func8 (by kernel_rfl)
    (of_decide_eq_true (by kernel_rfl)) (by unfold Func.isWrapper; first | (rw [if_pos (by decide +kernel)]; kernel_rfl) | (rw [if_neg (by decide +kernel)]; exact ⟨rfl, rfl⟩))
    (fun os started H enc _ => lifted os started H enc)

/-- ████ THE STATEMENT ████ -/
theorem proved : Rows.SexpWordSaid :=
  over
#print axioms proved
end Go.Proofs.Ytbedhghcdhbkmaa.sexpWord
