/- CONTRACT of the reference's Name. -/
import Derived.Test.YtjkoededkhndkaaDoorFMath
namespace Go.Proofs.YtjkoededkhndkaaDoor
open Go.ChangeShapes Go.WideShapes Go.ChangeAt Go.RowKit

def okB (c : UInt8) : Bool := isLow c || isBeh c
theorem isName_ok (s : ByteArray) (h0 : 0 < s.size) : isName s.data.toList = (decide (s.size ≤ 12) && isLow s[0] && s.data.toList.all okB) := by
  have hl : s.data.toList.length = s.size := rfl
  cases h : s.data.toList with
  | nil => rw [h] at hl; simp at hl; omega
  | cons b r =>
    have hb : s[0] = b := by
      have : s[0] = s.data.toList[0]'(by omega) := rfl
      rw [this]; simp [h]
    rw [h] at hl
    simp only [List.length_cons] at hl
    rw [hb, ← hl]
    have : decide (r.length + 1 ≤ 12) = decide (r.length ≤ 11) := by simp
    rw [this, isName, List.all_cons]
    have hf : okB = fun c => isLow c || isBeh c := rfl
    rw [hf]
    rcases hlo : isLow b with _ | _ <;> simp [hlo]
theorem all_at (s : ByteArray) (k : Nat) (h : k < s.size) : (s.data.toList.drop k).all okB = (okB s[k] && (s.data.toList.drop (k + 1)).all okB) := by
  have h' : k < s.data.toList.length := by simpa using h
  rw [List.drop_eq_getElem_cons h', List.all_cons]
  rfl
theorem okB_iff (c : UInt8) : okB c = true ↔ ((97 ≤ (c.toNat : Int) ∧ (c.toNat : Int) ≤ 122) ∨ (48 ≤ (c.toNat : Int) ∧ (c.toNat : Int) ≤ 57) ∨ (c.toNat : Int) = 95) := by
  simp only [okB, isLow, isBeh, Bool.or_eq_true, Bool.and_eq_true, decide_eq_true_eq, UInt8.le_iff_toNat_le, beq_iff_eq, ← UInt8.toNat_inj]
  simp
  omega
theorem isLow_iff (c : UInt8) : isLow c = true ↔ (97 ≤ (c.toNat : Int) ∧ (c.toNat : Int) ≤ 122) := by
  simp only [isLow, Bool.and_eq_true, decide_eq_true_eq, UInt8.le_iff_toNat_le]
  simp
  omega

set_option maxHeartbeats 1000000 in
theorem refName_any (s : ByteArray) (w : World) : Calls Tryd.prog 29 #[.string s] w fun e w' => e = .returned (.bool (isName s.data.toList)) ∧ w' = w := by
  have hl : s.data.toList.length = s.size := rfl
  by_cases h0 : s.size = 0
  · have hn : s.data.toList = [] := List.eq_nil_of_length_eq_zero (hl.trans h0)
    rw [hn]
    go_enter Tryd.func29, Tryd.ntmps29
    go_wp2
    go_ret
    exact ⟨rfl, rfl⟩
  · have hp : 0 < s.size := by omega
    have HN : Hid (isName s.data.toList = (decide (s.size ≤ 12) && isLow s[0] && s.data.toList.all okB)) := isName_ok s hp
    have h0' : ¬ (s.size : Int) = 0 := by omega
    by_cases h12 : 12 < s.size
    · have h12' : (12 : Int) < (s.size : Int) := by omega
      have HF : Hid (isName s.data.toList = false) := by show _ = _; rw [HN.out]; simp; omega
      go_enter Tryd.func29, Tryd.ntmps29
      go_wp2
      all_goals go_ret
      all_goals exact ⟨ret_bool HF.out.symm, rfl⟩
    · have h12' : ¬ (12 : Int) < (s.size : Int) := by omega
      have HI := isLow_iff s[0]
      by_cases hlo : 97 ≤ (s[0].toNat : Int) ∧ (s[0].toNat : Int) ≤ 122
      · have HF : Hid (isName s.data.toList = s.data.toList.all okB) := by show _ = _; rw [HN.out, HI.2 hlo]; simp; omega
        obtain ⟨hlo1, hlo2⟩ := hlo
        have g1 : ¬ (s[0].toNat : Int) < 97 := by omega
        have g2 : ¬ (122 : Int) < (s[0].toNat : Int) := by omega
        clear HI HN hl
        go_enter Tryd.func29, Tryd.ntmps29
        go_wp2
        go_loop [3] (fun i => ∃ k : Nat, k ≤ s.size ∧ i = .int .i64 k ∧ s.data.toList.all okB = (s.data.toList.drop k).all okB) (fun i => s.size - (intOf i).toNat)
        case atStart => exact ⟨0, Nat.zero_le _, rfl, rfl⟩
        case round =>
          obtain ⟨k, hk, rfl, hq⟩ := hrel
          have HQ : Hid (s.data.toList.all okB = (s.data.toList.drop k).all okB) := hq
          clear hq g1 g2 hlo1 hlo2
          by_cases hlt : k < s.size
          · have HA : Hid _ := all_at s k hlt
            have HO : Hid _ := okB_iff s[k]
            by_cases hA : 97 ≤ (s[k].toNat : Int) ∧ (s[k].toNat : Int) ≤ 122
            · have HY : Hid (okB s[k] = true) := HO.out.2 (by omega)
              obtain ⟨hA1, hA2⟩ := hA
              go_wp2_with fail
              all_goals
                go_round
                case rel => exact ⟨k + 1, by omega, by go_num, by rw [HQ.out, HA.out, HY.out]; rfl⟩
                case measure => simp [intOf]; omega
            · by_cases hB : 48 ≤ (s[k].toNat : Int) ∧ (s[k].toNat : Int) ≤ 57
              · have HY : Hid (okB s[k] = true) := HO.out.2 (by omega)
                obtain ⟨hB1, hB2⟩ := hB
                have hA' : ¬ 97 ≤ (s[k].toNat : Int) := by omega
                clear hA
                go_wp2_with fail
                all_goals
                  go_round
                  case rel => exact ⟨k + 1, by omega, by go_num, by rw [HQ.out, HA.out, HY.out]; rfl⟩
                  case measure => simp [intOf]; omega
              · by_cases hC : (s[k].toNat : Int) = 95
                · have HY : Hid (okB s[k] = true) := HO.out.2 (by omega)
                  have hA' : ¬ 97 ≤ (s[k].toNat : Int) := by omega
                  have hB' : 48 ≤ (s[k].toNat : Int) := by omega
                  have hB'' : ¬ (s[k].toNat : Int) ≤ 57 := by omega
                  clear hA hB
                  go_wp2_with fail
                  all_goals
                    go_round
                    case rel => exact ⟨k + 1, by omega, by go_num, by rw [HQ.out, HA.out, HY.out]; rfl⟩
                    case measure => simp [intOf]; omega
                · have HY : Hid (okB s[k] = false) := by
                    show _ = _
                    rcases h : okB s[k] with _ | _
                    · rfl
                    · have := HO.out.1 h; omega
                  have hA' : ¬ 97 ≤ (s[k].toNat : Int) ∨ (97 ≤ (s[k].toNat : Int) ∧ ¬ (s[k].toNat : Int) ≤ 122) := by omega
                  have hB' : ¬ 48 ≤ (s[k].toNat : Int) ∨ (48 ≤ (s[k].toNat : Int) ∧ ¬ (s[k].toNat : Int) ≤ 57) := by omega
                  have hC' : ((s[k].toNat : Int) == 95) = false := by simpa using hC
                  clear hA hB HO
                  rcases hA' with hA' | ⟨hA1, hA2⟩ <;> rcases hB' with hB' | ⟨hB1, hB2⟩
                  all_goals first | omega | skip
                  all_goals go_wp2_with fail
                  all_goals go_ret
                  all_goals exact ⟨ret_bool (by rw [HF.out, HQ.out, HA.out, HY.out]; rfl), rfl⟩
          · go_wp2_with fail
            go_ret
            exact ⟨ret_bool (by rw [HF.out, HQ.out, List.drop_of_length_le (by have : s.data.toList.length = s.size := rfl; omega)]; rfl), rfl⟩
      · have HF : Hid (isName s.data.toList = false) := by
          show _ = _
          have : isLow s[0] = false := by rcases h : isLow s[0] with _ | _; rfl; exact absurd (HI.1 h) hlo
          rw [HN.out, this]; simp
        clear HI HN hl
        go_enter Tryd.func29, Tryd.ntmps29
        go_wp2
        all_goals first | (go_ret; exact ⟨ret_bool HF.out.symm, rfl⟩) | (exfalso; apply hlo; omega)
end Go.Proofs.YtjkoededkhndkaaDoor
