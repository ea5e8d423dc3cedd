/- CONTRACT of the document's Same, of two lists that are the same. -/
import Derived.Test.YtkbanngbchhgaaaNPart
import Derived.Test.YtkbanngbchhgaaaNEq
namespace Go.Proofs.Ytkbanngbchhgaaa
open Go.ChangeShapes Go.WideShapes Go.ChangeAt Go.RowKit

theorem drewB' (w : World) : Below w.heap.size w w.drew := ⟨rfl, rfl, rfl, Nat.le_refl _, fun _ _ => rfl⟩
set_option maxRecDepth 100000 in
set_option maxHeartbeats 4000000 in
theorem sameSp_any {S1 S2 : Nat → Prop} (w : World) (a1 a2 : Option Addr) (l : List (Int × Int)) (c1 c2 : Nat) (h1 : kSp.row w S1 a1 l) (h2 : kSp.row w S2 a2 l) (hl : l.length ≤ 1000000) :
    Calls Try.prog 11 #[.slice a1 l.length c1, .slice a2 l.length c2] w fun e w' => e = .returned (.bool true) ∧ Below w.heap.size w w' := by
  have hq := eq_sp
  have H1 : Hid _ := h1
  have H2 : Hid _ := h2
  clear h1 h2
  go_enter Try.func11, Try.ntmps11
  go_upto_region 4 with fail
  go_loopw [5] (fun i wr => ∃ k : Nat, k ≤ l.length ∧ i = .int .i64 k ∧ Below w.heap.size w wr) (fun i _ => l.length - (intOf i).toNat)
  case atStart => exact ⟨0, Nat.zero_le _, rfl, Below.refl _ _⟩
  case round =>
    obtain ⟨k, hk, rfl, hbl⟩ := hrel
    have HB : Hid _ := hbl
    by_cases hlt : k < l.length
    · obtain ⟨b1, o1, rfl, _, hb1, p0, p1⟩ := sp_at H1.out k hlt
      obtain ⟨b2, o2, rfl, _, hb2, q0, q1⟩ := sp_at H2.out k hlt
      have p0' := (hbl.cell (p := ⟨b1, o1 + k * 2, none⟩) hb1).trans p0
      have p1' := (hbl.cell (p := ⟨b1, o1 + k * 2 + 1, none⟩) hb1).trans p1
      have q0' := (hbl.cell (p := ⟨b2, o2 + k * 2, none⟩) hb2).trans q0
      have q1' := (hbl.cell (p := ⟨b2, o2 + k * 2 + 1, none⟩) hb2).trans q1
      generalize l[k].1 = x at p0' q0'
      generalize l[k].2 = y at p1' q1'
      have hk1 : (k : Int) < (l.length : Int) := by omega
      have HBD : Hid _ := bl_then hbl (drewB' wr)
      clear hbl p0 p1 q0 q1
      go_wp2_with fail
      go_region
      all_goals
        go_wp2_with fail
        go_roundw
        case rel => exact ⟨k + 1, by omega, by go_num, HBD.out⟩
        case measure => simp [intOf]; omega
    · obtain rfl : k = l.length := by omega
      clear hbl
      go_wp2_with fail
      go_ret
      exact ⟨rfl, HB.out⟩
end Go.Proofs.Ytkbanngbchhgaaa
