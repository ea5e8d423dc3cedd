/- THE WALK of the statement SexpPrints. -/
import Derived.Test.YtbedhghcdhbkmaaLaw
import Derived.Test.YtbedhghcdhbkmaaRefPrint
import Derived.Test.YtbedhghcdhbkmaaSize
import Derived.Test.YtbedhghcdhbkmaaCame
namespace Go.Proofs.Ytbedhghcdhbkmaa
open Go.ChangeShapes Go.WideShapes Go.ChangeAt Go.RowKit

theorem wt_ww : ∀ l : List Nd, wtL l ≤ 3 * wwL l
  | [] => Nat.le_refl _
  | .mk il wd ks p :: l => by
    have h1 := wt_ww ks
    have h2 := wt_ww l
    simp only [wtL, wwL, Nd.wt, Nd.ww]
    omega

/-- Size, at the statements' bound. -/
theorem size_law (l : List Nd) (S : Nat → Prop) (a : Option Addr) (c : Nat) (w : World) (hr : Row S w a l) :
    Calls Try.prog 13 #[.slice a l.length c, .int .i64 3000, .int .i64 0] w fun e w' => ∃ r : Int, e = .returned (.int .i64 r) ∧ w' = w ∧ (r ≤ 3000 → wtL l ≤ 9000) := by
  refine (size_any (sizeL l) l S a c 0 3000 w (Nat.le_refl _) hr (by omega) (by omega) (by omega)).mono ?_
  rintro e w' ⟨r, rfl, rfl, _, _, h⟩
  refine ⟨r, rfl, rfl, fun hr => ?_⟩
  have := h hr
  have := wt_ww l
  omega

set_option maxRecDepth 100000 in
set_option maxHeartbeats 3200000 in
theorem prints_walk (l : List Nd) (a : Option Addr) (c : Nat) (w : World) (hr : Row (fun _ => True) w a l) (a1 : ByteArray) (w1 : a1.size ≤ maxLen) :
    Calls Try.prog 4 #[.slice a l.length c, .string a1] w fun e w' => e = .returned (.bool true) ∧ Below w.heap.size w w' := by
  have hW := fun w => word_any a1 w
  have hW' := fun w => refWord_any a1 w w1
  generalize wordB a1.data.toList = wb at hW hW'
  obtain ⟨O, hO⟩ : ∃ O, pGo 10 0 true l = O := ⟨_, rfl⟩
  have hP := fun w hr hw => print_any l (fun _ => True) a c w hr hw
  have hP' := fun w hr hw => refPrint_any l (fun _ => True) a c w hr hw
  simp only [hO] at hP hP'
  clear hO
  by_cases hlen : 1000 < a1.size
  · have hl : (1000 : Int) < (a1.size : Int) := by omega
    go_enter Try.func4, Try.ntmps4
    go_wp2_with (first
      | (go_at_call 9; refine (awake_any _).mono ?_; rintro e w2 ⟨rfl, hb2⟩)
      | (go_at_call 13; refine (size_law l _ a c w2 (hr.keep hb2)).mono ?_; rintro e w3 ⟨r, rfl, hq, hwt⟩; have hq' := hq.symm; subst hq'; have HW : Hid (r ≤ 3000 → wtL l ≤ 9000) := hwt; clear hwt))
    all_goals go_ret
    all_goals exact ⟨rfl, hb2⟩
  · have hl : ¬ (1000 : Int) < (a1.size : Int) := by omega
    go_enter Try.func4, Try.ntmps4
    go_wp2_with (first
      | (go_at_call 9; refine (awake_any _).mono ?_; rintro e w2 ⟨rfl, hb2⟩)
      | (go_at_call 13; refine (size_law l _ a c w2 (hr.keep hb2)).mono ?_; rintro e w3 ⟨r, rfl, hq, hwt⟩; have hq' := hq.symm; subst hq'; have HW : Hid (r ≤ 3000 → wtL l ≤ 9000) := hwt; clear hwt)
      | (go_at_call 14; refine (hP _ (hr.keep hb2) (by have := HW.out (by omega); omega)).mono ?_; rintro e w4 ⟨rfl, hb4⟩)
      | (go_at_call 15; refine (hP' _ ((hr.keep hb2).keep hb4) (by have := HW.out (by omega); omega)).mono ?_; rintro e w5 ⟨rfl, hq5⟩; have hq5' := hq5.symm; subst hq5')
      | (go_at_call 16; refine (hW _).mono ?_; rintro e w6 ⟨rfl, hb6⟩)
      | (go_at_call 17; refine (hW' _).mono ?_; rintro e w7 ⟨rfl, hq7⟩; have hq7' := hq7.symm; subst hq7'))
    · go_ret
      exact ⟨rfl, hb2.trans ((hb4.mono hb2.size).trans (hb6.mono (Nat.le_trans hb2.size hb4.size)))⟩
    · go_ret
      exact ⟨rfl, hb2⟩
end Go.Proofs.Ytbedhghcdhbkmaa
