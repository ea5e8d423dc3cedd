/- THE WALK of TreeNames. -/
import Derived.Test.YtpagbhgnkbbdjaaGreatDoorM43
import Derived.Test.YtpagbhgnkbbdjaaGreatDoorM6
namespace Go.Proofs.YtpagbhgnkbbdjaaGreatDoor
open Go.ChangeShapes Go.WideShapes Go.ChangeAt Go.RowKit

theorem low_int (b : UInt8) : isLow b = (decide ((97 : Int) ≤ b.toNat) && decide ((b.toNat : Int) ≤ 122)) := by
  rw [Bool.eq_iff_iff]
  simp only [isLow, Bool.and_eq_true, decide_eq_true_eq, UInt8.le_iff_toNat_le]
  simp
  omega
theorem beh_int (b : UInt8) : isBeh b = ((decide ((48 : Int) ≤ b.toNat) && decide ((b.toNat : Int) ≤ 57)) || decide ((b.toNat : Int) = 95)) := by
  rw [Bool.eq_iff_iff]
  simp only [isBeh, Bool.or_eq_true, Bool.and_eq_true, decide_eq_true_eq, UInt8.le_iff_toNat_le, beq_iff_eq, ← UInt8.toNat_inj]
  simp
  omega
/-- What a byte leaves of it. -/
theorem names_step {s : ByteArray} {k : Nat} {b c : Bool} (h : k < s.size) (hq : (b && fitsFrom k (s.data.toList.drop k)) = isName s.data.toList) (hc : c = (b && fits k s[k])) : (c && fitsFrom (k + 1) (s.data.toList.drop (k + 1))) = isName s.data.toList := by
  rw [← hq, fits_at s k h, hc, Bool.and_assoc]
theorem names_begin {s : ByteArray} {b : Bool} (h : b = (decide (1 ≤ s.size) && decide (s.size ≤ 12))) : (b && fitsFrom 0 (s.data.toList.drop 0)) = isName s.data.toList := by
  have hl : s.data.toList.length = s.size := rfl
  rw [isName_fits, h, hl]
  rfl
theorem names_end {s : ByteArray} {k : Nat} {b : Bool} (h : ¬ k < s.size) (hq : (b && fitsFrom k (s.data.toList.drop k)) = isName s.data.toList) : b = isName s.data.toList := by
  have hl : s.data.toList.length = s.size := rfl
  rw [← hq, List.drop_of_length_le (by omega), fitsFrom]
  simp
set_option maxRecDepth 100000 in
set_option maxHeartbeats 4000000 in
theorem names_long {B : Nat} (s : ByteArray) (w : World) (hg : Glob B w) (hs : Sh.Glob B w) (hlen : 1000 < s.size) : Calls Tryz.prog 7 #[.string s] w fun e w' => e = .returned (.bool true) ∧ Below w.heap.size w w' := by
  have HA := Lib.hid (awake_any w hg hs)
  have hl : (1000 : Int) < (s.size : Int) := by omega
  clear hg hs
  go_enter Tryz.func7, Tryz.ntmps7
  go_wp2_with (go_at_call 15; refine HA.out.mono ?_; rintro e w1 ⟨rfl, hb1⟩)
  go_ret
  exact ⟨rfl, hb1⟩
set_option maxRecDepth 100000 in
set_option maxHeartbeats 8000000 in
theorem names_short {B : Nat} (s : ByteArray) (w : World) (hg : Glob B w) (hs : Sh.Glob B w) (hlen : ¬ 1000 < s.size) (b0 : Bool) (hb0 : b0 = (decide (1 ≤ s.size) && decide (s.size ≤ 12))) : Calls Tryz.prog 7 #[.string s] w fun e w' => e = .returned (.bool true) ∧ Below w.heap.size w w' := by
  have HA := Lib.hid (awake_any w hg hs)
  have hl : ¬ (1000 : Int) < (s.size : Int) := by omega
  have HS := Lib.hid (names_begin hb0)
  have hpick : (1 ≤ s.size ∧ s.size ≤ 12 ∧ b0 = true) ∨ (s.size < 1 ∧ b0 = false) ∨ (1 ≤ s.size ∧ 12 < s.size ∧ b0 = false) := by
    rcases Nat.lt_or_ge s.size 1 with h | h
    · exact .inr (.inl ⟨by omega, by rw [hb0]; simp; omega⟩)
    · rcases Nat.lt_or_ge 12 s.size with h' | h'
      · exact .inr (.inr ⟨h, h', by rw [hb0]; simp; omega⟩)
      · exact .inl ⟨h, h', by rw [hb0]; simp; omega⟩
  have hnm := fun w => name_any s w
  clear hg hs hb0
  go_enter Tryz.func7, Tryz.ntmps7
  rcases hpick with ⟨h1, h2, rfl⟩ | ⟨h1, rfl⟩ | ⟨h1, h2, rfl⟩
  · have g1 : (1 : Int) ≤ (s.size : Int) := by omega
    have g2 : (s.size : Int) ≤ 12 := by omega
    go_wp2_with (go_at_call 15; refine HA.out.mono ?_; rintro e w1 ⟨rfl, hb1⟩)
    go_loop [4, 5] (fun v i => ∃ (k : Nat) (b : Bool), k ≤ s.size ∧ i = .int .i64 k ∧ v = .bool b ∧ (b && fitsFrom k (s.data.toList.drop k)) = isName s.data.toList) (fun _ i => s.size - (intOf i).toNat)
    case atStart => exact ⟨0, true, Nat.zero_le _, by go_num, by first | rfl | simp_all, HS.out⟩
    case round =>
      obtain ⟨k, b, hk, rfl, rfl, hq⟩ := hrel
      have HQ := Lib.hid hq
      clear hq HS
      by_cases hlt : k < s.size
      · by_cases h97 : (97 : Int) ≤ s[k].toNat
        · by_cases h122 : (s[k].toNat : Int) ≤ 122
          · go_wp2_with fail
            go_round
            case rel => exact ⟨k + 1, b, by omega, by go_num, rfl, names_step (k := k) hlt HQ.out (by rw [fits, low_int, beh_int]; simp [h97, h122])⟩
            case measure => simp [intOf]; omega
          · have h122' : decide ((s[k].toNat : Int) ≤ 122) = false := by simp; omega
            by_cases hk0 : k = 0
            · subst hk0
              go_wp2_with fail
              go_round
              case rel => exact ⟨0 + 1, false, by omega, by go_num, rfl, names_step (k := 0) hlt HQ.out (by rw [fits, low_int, beh_int]; simp [h97, h122])⟩
              case measure => simp [intOf]; omega
            · have hk1 : ¬ (k : Int) = 0 := by omega
              have hk2 : ((k : Int) == 0) = false := by simp; omega
              have e1' : ((s[k].toNat : Int) != 95) = true := by simp; omega
              have e2 : ¬ (s[k].toNat : Int) < 48 := by omega
              have e2' : decide ((s[k].toNat : Int) < 48) = false := by simp; omega
              have e3 : (57 : Int) < s[k].toNat := by omega
              have e1 : ¬ (s[k].toNat : Int) = 95 := by omega
              go_wp2_with fail
              go_round
              case rel => exact ⟨k + 1, false, by omega, by go_num, rfl, names_step (k := k) hlt HQ.out (by rw [fits, low_int, beh_int]; simp [h97, h122, e1, show ¬ (s[k].toNat : Int) ≤ 57 by omega])⟩
              case measure => simp [intOf]; omega
        · have h97' : decide ((97 : Int) ≤ s[k].toNat) = false := by simp; omega
          by_cases hk0 : k = 0
          · subst hk0
            go_wp2_with fail
            go_round
            case rel => exact ⟨0 + 1, false, by omega, by go_num, rfl, names_step (k := 0) hlt HQ.out (by rw [fits, low_int, beh_int]; simp [h97])⟩
            case measure => simp [intOf]; omega
          · have hk1 : ¬ (k : Int) = 0 := by omega
            have hk2 : ((k : Int) == 0) = false := by simp; omega
            by_cases e1 : (s[k].toNat : Int) = 95
            · have e1' : ((s[k].toNat : Int) != 95) = false := by simp; omega
              go_wp2_with fail
              go_round
              case rel => exact ⟨k + 1, b, by omega, by go_num, rfl, names_step (k := k) hlt HQ.out (by rw [fits, low_int, beh_int]; simp [hk0, e1])⟩
              case measure => simp [intOf]; omega
            · have e1' : ((s[k].toNat : Int) != 95) = true := by simp; omega
              by_cases e2 : (s[k].toNat : Int) < 48
              · go_wp2_with fail
                go_round
                case rel => exact ⟨k + 1, false, by omega, by go_num, rfl, names_step (k := k) hlt HQ.out (by rw [fits, low_int, beh_int]; simp [h97, e1, show ¬ (48 : Int) ≤ s[k].toNat by omega])⟩
                case measure => simp [intOf]; omega
              · have e2' : decide ((s[k].toNat : Int) < 48) = false := by simp; omega
                by_cases e3 : (57 : Int) < s[k].toNat
                · go_wp2_with fail
                  go_round
                  case rel => exact ⟨k + 1, false, by omega, by go_num, rfl, names_step (k := k) hlt HQ.out (by rw [fits, low_int, beh_int]; simp [h97, e1, show ¬ (s[k].toNat : Int) ≤ 57 by omega])⟩
                  case measure => simp [intOf]; omega
                · have e3' : decide ((57 : Int) < s[k].toNat) = false := by simp; omega
                  go_wp2_with fail
                  go_round
                  case rel => exact ⟨k + 1, b, by omega, by go_num, rfl, names_step (k := k) hlt HQ.out (by rw [fits, low_int, beh_int]; simp [h97, hk0, e1, show (s[k].toNat : Int) ≤ 57 by omega, show (48 : Int) ≤ s[k].toNat by omega])⟩
                  case measure => simp [intOf]; omega
      · have hb := names_end hlt HQ.out
        subst hb
        go_wp2_with (go_at_call 28; refine (hnm _).mono ?_; rintro e w2 ⟨rfl, rfl⟩)
        go_ret
        exact ⟨rfl, hb1⟩
  · have g1 : ¬ (1 : Int) ≤ (s.size : Int) := by omega
    have g1' : decide ((1 : Int) ≤ (s.size : Int)) = false := by simp; omega
    go_wp2_with (go_at_call 15; refine HA.out.mono ?_; rintro e w1 ⟨rfl, hb1⟩)
    go_loop [4, 5] (fun v i => ∃ (k : Nat) (b : Bool), k ≤ s.size ∧ i = .int .i64 k ∧ v = .bool b ∧ (b && fitsFrom k (s.data.toList.drop k)) = isName s.data.toList) (fun _ i => s.size - (intOf i).toNat)
    case atStart => exact ⟨0, false, Nat.zero_le _, by go_num, by first | rfl | simp_all, HS.out⟩
    case round =>
      obtain ⟨k, b, hk, rfl, rfl, hq⟩ := hrel
      have HQ := Lib.hid hq
      clear hq HS
      by_cases hlt : k < s.size
      · exact absurd hlt (by omega)
      · have hb := names_end hlt HQ.out
        subst hb
        go_wp2_with (go_at_call 28; refine (hnm _).mono ?_; rintro e w2 ⟨rfl, rfl⟩)
        go_ret
        exact ⟨rfl, hb1⟩
  · have g1 : (1 : Int) ≤ (s.size : Int) := by omega
    have g2 : ¬ (s.size : Int) ≤ 12 := by omega
    have g2' : decide ((s.size : Int) ≤ 12) = false := by simp; omega
    go_wp2_with (go_at_call 15; refine HA.out.mono ?_; rintro e w1 ⟨rfl, hb1⟩)
    go_loop [4, 5] (fun v i => ∃ (k : Nat) (b : Bool), k ≤ s.size ∧ i = .int .i64 k ∧ v = .bool b ∧ (b && fitsFrom k (s.data.toList.drop k)) = isName s.data.toList) (fun _ i => s.size - (intOf i).toNat)
    case atStart => exact ⟨0, false, Nat.zero_le _, by go_num, by first | rfl | simp_all, HS.out⟩
    case round =>
      obtain ⟨k, b, hk, rfl, rfl, hq⟩ := hrel
      have HQ := Lib.hid hq
      clear hq HS
      by_cases hlt : k < s.size
      · by_cases h97 : (97 : Int) ≤ s[k].toNat
        · by_cases h122 : (s[k].toNat : Int) ≤ 122
          · go_wp2_with fail
            go_round
            case rel => exact ⟨k + 1, b, by omega, by go_num, rfl, names_step (k := k) hlt HQ.out (by rw [fits, low_int, beh_int]; simp [h97, h122])⟩
            case measure => simp [intOf]; omega
          · have h122' : decide ((s[k].toNat : Int) ≤ 122) = false := by simp; omega
            by_cases hk0 : k = 0
            · subst hk0
              go_wp2_with fail
              go_round
              case rel => exact ⟨0 + 1, false, by omega, by go_num, rfl, names_step (k := 0) hlt HQ.out (by rw [fits, low_int, beh_int]; simp [h97, h122])⟩
              case measure => simp [intOf]; omega
            · have hk1 : ¬ (k : Int) = 0 := by omega
              have hk2 : ((k : Int) == 0) = false := by simp; omega
              have e1' : ((s[k].toNat : Int) != 95) = true := by simp; omega
              have e2 : ¬ (s[k].toNat : Int) < 48 := by omega
              have e2' : decide ((s[k].toNat : Int) < 48) = false := by simp; omega
              have e3 : (57 : Int) < s[k].toNat := by omega
              have e1 : ¬ (s[k].toNat : Int) = 95 := by omega
              go_wp2_with fail
              go_round
              case rel => exact ⟨k + 1, false, by omega, by go_num, rfl, names_step (k := k) hlt HQ.out (by rw [fits, low_int, beh_int]; simp [h97, h122, e1, show ¬ (s[k].toNat : Int) ≤ 57 by omega])⟩
              case measure => simp [intOf]; omega
        · have h97' : decide ((97 : Int) ≤ s[k].toNat) = false := by simp; omega
          by_cases hk0 : k = 0
          · subst hk0
            go_wp2_with fail
            go_round
            case rel => exact ⟨0 + 1, false, by omega, by go_num, rfl, names_step (k := 0) hlt HQ.out (by rw [fits, low_int, beh_int]; simp [h97])⟩
            case measure => simp [intOf]; omega
          · have hk1 : ¬ (k : Int) = 0 := by omega
            have hk2 : ((k : Int) == 0) = false := by simp; omega
            by_cases e1 : (s[k].toNat : Int) = 95
            · have e1' : ((s[k].toNat : Int) != 95) = false := by simp; omega
              go_wp2_with fail
              go_round
              case rel => exact ⟨k + 1, b, by omega, by go_num, rfl, names_step (k := k) hlt HQ.out (by rw [fits, low_int, beh_int]; simp [hk0, e1])⟩
              case measure => simp [intOf]; omega
            · have e1' : ((s[k].toNat : Int) != 95) = true := by simp; omega
              by_cases e2 : (s[k].toNat : Int) < 48
              · go_wp2_with fail
                go_round
                case rel => exact ⟨k + 1, false, by omega, by go_num, rfl, names_step (k := k) hlt HQ.out (by rw [fits, low_int, beh_int]; simp [h97, e1, show ¬ (48 : Int) ≤ s[k].toNat by omega])⟩
                case measure => simp [intOf]; omega
              · have e2' : decide ((s[k].toNat : Int) < 48) = false := by simp; omega
                by_cases e3 : (57 : Int) < s[k].toNat
                · go_wp2_with fail
                  go_round
                  case rel => exact ⟨k + 1, false, by omega, by go_num, rfl, names_step (k := k) hlt HQ.out (by rw [fits, low_int, beh_int]; simp [h97, e1, show ¬ (s[k].toNat : Int) ≤ 57 by omega])⟩
                  case measure => simp [intOf]; omega
                · have e3' : decide ((57 : Int) < s[k].toNat) = false := by simp; omega
                  go_wp2_with fail
                  go_round
                  case rel => exact ⟨k + 1, b, by omega, by go_num, rfl, names_step (k := k) hlt HQ.out (by rw [fits, low_int, beh_int]; simp [h97, hk0, e1, show (s[k].toNat : Int) ≤ 57 by omega, show (48 : Int) ≤ s[k].toNat by omega])⟩
                  case measure => simp [intOf]; omega
      · have hb := names_end hlt HQ.out
        subst hb
        go_wp2_with (go_at_call 28; refine (hnm _).mono ?_; rintro e w2 ⟨rfl, rfl⟩)
        go_ret
        exact ⟨rfl, hb1⟩
theorem names_walk {B : Nat} (s : ByteArray) (w : World) (hg : Glob B w) (hs : Sh.Glob B w) : Calls Tryz.prog 7 #[.string s] w fun e w' => e = .returned (.bool true) ∧ Below w.heap.size w w' := by
  by_cases hlen : 1000 < s.size
  · exact names_long s w hg hs hlen
  · exact names_short s w hg hs hlen _ rfl
end Go.Proofs.YtpagbhgnkbbdjaaGreatDoor
