/- CONTRACT of carlingref03.exprHeavy. -/
import Derived.Test.YtlagadofiahijaaDoorSBase
import Derived.Test.YtlagadofiahijaaDoorSHeavyM
import Derived.Deep.QuietTactic
import Derived.BigQuiet
import Derived.Deep.Draws
namespace Go.Proofs.YtlagadofiahijaaDoor.Sh
open Go.ChangeShapes Go.WideShapes Go.ChangeAt Go.RowKit

theorem _root_.Go.Proofs.YtlagadofiahijaaDoor.Kind.row_drew {α : Type} (K : Kind α) (hn : 0 < K.n) {w : World} {S : Nat → Prop} {a : Option Addr} {l : List α} (h : K.row w S a l) (d : Nat) : K.row (w.drewN d) S a l := K.row_mono hn h fun _ hb _ => ⟨hb, rfl⟩
theorem drop_more {α : Type} {l : List α} {k : Nat} (h : k < l.length) : l.drop k = l[k] :: l.drop (k + 1) := List.drop_eq_getElem_cons h
set_option maxRecDepth 100000 in
set_option maxHeartbeats 4000000 in
theorem exHeavy_any (f : Nat) : ∀ (l : List Ex) (S : Nat → Prop) (a : Option Addr) (c deep : Nat) (w : World), deep + f = 31 → kEx.row w S a l →
    Calls Tryd.prog 14 #[.slice a l.length c, .int .i64 3000, .int .i64 deep] w fun e w' => e = .returned (.int .i64 (exH f l 0 : Nat)) ∧ ∃ d, w' = w.drewN d := by
  induction f with
  | zero =>
    intro l S a c deep w hd hr
    have hd' : (30 : Int) < (deep : Int) := by omega
    go_enter Tryd.func14, Tryd.ntmps14
    go_wp2_with fail
    go_loopw [7, 8] (fun x i wr => x = .int .i64 0 ∧ i = .int .i64 0 ∧ wr = w) (fun _ _ _ => 0)
    case atStart => exact ⟨rfl, rfl, rfl⟩
    case round =>
      obtain ⟨rfl, rfl, hwr⟩ := hrel
      subst hwr
      cases l with
      | nil =>
        go_wp2_with fail
        go_ret
        exact ⟨by rw [exH_nil]; rfl, 0, rfl⟩
      | cons x l =>
        have h1 : (0 : Int) < ((x :: l).length : Int) := by simp
        go_wp2_with fail
        go_ret
        exact ⟨by rw [exH_zero _ _ _ (by omega)]; rfl, 0, rfl⟩
  | succ f ih =>
    intro l S a c deep w hd hr
    have hd' : ¬ (30 : Int) < (deep : Int) := by omega
    go_enter Tryd.func14, Tryd.ntmps14
    go_wp2_with fail
    go_loopw [7, 8] (fun x i wr => ∃ (k n dd : Nat), k ≤ l.length ∧ i = .int .i64 k ∧ x = .int .i64 n ∧ k ≤ n ∧ wr = w.drewN dd ∧ exH (f + 1) l 0 = exH (f + 1) (l.drop k) n) (fun _ i _ => l.length - (intOf i).toNat)
    case atStart => exact ⟨0, 0, 0, Nat.zero_le _, rfl, rfl, Nat.le_refl _, rfl, rfl⟩
    case round =>
      obtain ⟨k, n, dd, hk, rfl, rfl, hkn, hwr, hq⟩ := hrel
      have HW : Hid (wr = w.drewN dd) := hwr
      have HQ : Hid (exH (f + 1) l 0 = exH (f + 1) (l.drop k) n) := hq
      have hr' : kEx.row wr S a l := by rw [hwr]; exact kEx.row_drew (by decide) hr dd
      clear hwr hq hr
      by_cases hlt : k < l.length
      · by_cases hn : n ≤ 3000
        · obtain ⟨b, o, kind, m, op, name, ls, a', c', rfl, hx, hSb, hb, h0, h1, h2, h3, h4, hlc, hrow⟩ := ex_at hr' k hlt
          have HX : Hid (exH (f + 1) l 0 = exH (f + 1) (l.drop (k + 1)) (n + 1 + min name.length 100000 + exH f ls 0)) := by show _ = _; rw [HQ.out, drop_more hlt, hx, exH_more _ _ _ _ _ _ _ _ hn]
          have hc := fun w => ih ls S a' c' (deep + 1) w (by omega)
          rw [show ((deep + 1 : Nat) : Int) = (deep : Int) + 1 by omega] at hc
          have hbs : (bs name).size = name.length := bs_size name
          have hle := exH_le f ls 0
          have hf : f ≤ 31 := by omega
          generalize exH f ls 0 = E at hc HX hle
          have hE : E ≤ 4000000 := by omega
          have hk0 : (0 : Int) ≤ (k : Int) := by omega
          have hk1 : (k : Int) < (l.length : Int) := by omega
          have hn' : (n : Int) ≤ 3000 := by omega
          clear ih hx h0 h1 h2 hlc hSb hr' hle HQ
          go_wp2_with fail
          go_quiet ((go_at_call 14; exact Calls.quiet_of (hc _ (kEx.row_drew (by decide) ((exR_row _ _ _ _).1 hrow) _))))
          go_wp2_with fail
          go_roundw
          case rel => exact ⟨k + 1, n + 1 + min name.length 100000 + E, dd + nq, by omega, by go_num, by simp; omega, by omega, by rw [HW.out, World.drewN_drewN], HX.out⟩
          case measure => simp [intOf]; omega
        · have hn' : ¬ (n : Int) ≤ 3000 := by omega
          have hn2 : decide ((n : Int) ≤ 3000) = false := by simp; omega
          go_wp2_with fail
          go_ret
          exact ⟨by rw [HQ.out, exH_stop _ _ _ hn]; rfl, dd, HW.out⟩
      · have hd0 : l.drop k = [] := List.drop_of_length_le (by omega)
        go_wp2_with fail
        go_ret
        exact ⟨by rw [HQ.out, hd0, exH_nil]; rfl, dd, HW.out⟩
end Go.Proofs.YtlagadofiahijaaDoor.Sh
