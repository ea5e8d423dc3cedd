/- CONTRACTS of what tells names: isLetter, isBehind, Name. -/
import Derived.Test.YtlagadofiahijaaDoorFBase
namespace Go.Proofs.YtlagadofiahijaaDoor
open Go.ChangeShapes Go.WideShapes Go.ChangeAt Go.RowKit

def isLow (b : UInt8) : Bool := 97 ≤ b && b ≤ 122
def isBeh (b : UInt8) : Bool := (48 ≤ b && b ≤ 57) || b == 95
def isName : List UInt8 → Bool
  | [] => false
  | b :: r => decide (r.length ≤ 11) && isLow b && r.all fun c => isLow c || isBeh c
theorem ba_nil (s : ByteArray) : (s = ⟨#[]⟩) ↔ s.data.toList = [] := by
  constructor
  · rintro rfl; rfl
  · intro h
    have : s.data = #[] := by rw [← Array.toArray_toList (xs := s.data), h]
    cases s
    simp_all

theorem isLetter_any (b : UInt8) (w : World) : Calls Tryd.prog 26 #[.int .u8 b.toNat] w fun e w' => e = .returned (.bool (isLow b)) ∧ w' = w := by
  go_enter Tryd.func26, Tryd.ntmps26
  go_wp2
  all_goals go_ret
  all_goals refine ⟨ret_bool ?_, rfl⟩
  all_goals (rw [Bool.eq_iff_iff]; simp only [isLow, Bool.and_eq_true, decide_eq_true_eq, UInt8.le_iff_toNat_le, Bool.false_eq_true, false_iff] at *; simp at *; omega)
theorem isBehind_any (b : UInt8) (w : World) : Calls Tryd.prog 27 #[.int .u8 b.toNat] w fun e w' => e = .returned (.bool (isBeh b)) ∧ w' = w := by
  go_enter Tryd.func27, Tryd.ntmps27
  go_wp2
  all_goals go_ret
  all_goals refine ⟨ret_bool ?_, rfl⟩
  all_goals (rw [Bool.eq_iff_iff]; simp only [isBeh, Bool.or_eq_true, Bool.and_eq_true, decide_eq_true_eq, UInt8.le_iff_toNat_le, beq_iff_eq, ← UInt8.toNat_inj, true_iff] at *; simp at *; omega)

/-- May a byte stand in a name at a place? -/
def fits (k : Nat) (b : UInt8) : Bool := isLow b || (k != 0 && isBeh b)
/-- Do the bytes fit, from a place on? -/
def fitsFrom : Nat → List UInt8 → Bool
  | _, [] => true
  | k, b :: l => fits k b && fitsFrom (k + 1) l
theorem fits_behind : ∀ (k : Nat) (l : List UInt8), fitsFrom (k + 1) l = l.all fun c => isLow c || isBeh c
  | _, [] => rfl
  | k, b :: l => by simp [fitsFrom, fits, fits_behind (k + 1) l]
theorem isName_fits (l : List UInt8) : isName l = (decide (0 < l.length) && decide (l.length ≤ 12) && fitsFrom 0 l) := by
  cases l with
  | nil => rfl
  | cons b r =>
    have h : decide (r.length ≤ 11) = decide (r.length + 1 ≤ 12) := by simp
    simp [isName, fitsFrom, fits, fits_behind, Bool.and_assoc]
theorem fits_at (s : ByteArray) (k : Nat) (h : k < s.size) : fitsFrom k (s.data.toList.drop k) = (fits k s[k] && fitsFrom (k + 1) (s.data.toList.drop (k + 1))) := by
  have h' : k < s.data.toList.length := by simpa using h
  rw [List.drop_eq_getElem_cons h']
  rfl

set_option maxHeartbeats 1000000 in
theorem name_any (s : ByteArray) (w : World) : Calls Tryd.prog 21 #[.string s] w fun e w' => e = .returned (.bool (isName s.data.toList)) ∧ w' = w := by
  have hl : s.data.toList.length = s.size := rfl
  by_cases h0 : s.size = 0
  · have hn : s.data.toList = [] := List.eq_nil_of_length_eq_zero (hl.trans h0)
    have hs : s = ⟨#[]⟩ := (ba_nil s).2 hn
    subst hs
    go_enter Tryd.func21, Tryd.ntmps21
    go_wp2
    go_ret
    exact ⟨rfl, rfl⟩
  · have hne : s.toList.isEmpty = false := by rw [ByteArray.toList_eq]; cases h : s.data.toList with
      | nil => rw [h] at hl; simp at hl; omega
      | cons => rfl
    rw [isName_fits, hl]
    by_cases h12 : 12 < s.size
    · have h12' : (12 : Int) < (s.size : Int) := by omega
      have hf : (decide (0 < s.size) && decide (s.size ≤ 12) && fitsFrom 0 s.data.toList) = false := by simp; omega
      rw [hf]
      go_enter Tryd.func21, Tryd.ntmps21
      go_wp2
      go_ret
      exact ⟨rfl, rfl⟩
    · have h12' : ¬ (12 : Int) < (s.size : Int) := by omega
      have hf : (decide (0 < s.size) && decide (s.size ≤ 12) && fitsFrom 0 s.data.toList) = fitsFrom 0 s.data.toList := by simp; omega
      rw [hf]
      clear hf hl h0
      go_enter Tryd.func21, Tryd.ntmps21
      go_wp2
      go_loop [13] (fun i => ∃ k : Nat, k ≤ s.size ∧ i = .int .i64 k ∧ fitsFrom 0 s.data.toList = fitsFrom k (s.data.toList.drop k)) (fun i => s.size - (intOf i).toNat)
      case atStart => exact ⟨0, Nat.zero_le _, rfl, rfl⟩
      case round =>
        obtain ⟨k, hk, rfl, hq⟩ := hrel
        have HQ : Hid (fitsFrom 0 s.data.toList = fitsFrom k (s.data.toList.drop k)) := hq
        clear hq
        by_cases hlt : k < s.size
        · have HA : Hid _ := fits_at s k hlt
          rcases hlo : isLow s[k] with _ | _
          · by_cases hk0 : k = 0
            · subst hk0
              go_wp2_with (first | (go_at_call 26; refine (isLetter_any _ _).mono ?_; rintro e w' ⟨rfl, rfl⟩) | (go_at_call 27; refine (isBehind_any _ _).mono ?_; rintro e w' ⟨rfl, rfl⟩))
              go_ret
              exact ⟨ret_bool (by rw [HQ.out, HA.out]; simp [fits, hlo]), rfl⟩
            · have hk0' : ¬ (k : Int) = 0 := by omega
              rcases hbe : isBeh s[k] with _ | _
              · go_wp2_with (first | (go_at_call 26; refine (isLetter_any _ _).mono ?_; rintro e w' ⟨rfl, rfl⟩) | (go_at_call 27; refine (isBehind_any _ _).mono ?_; rintro e w' ⟨rfl, rfl⟩))
                go_ret
                exact ⟨ret_bool (by rw [HQ.out, HA.out]; simp [fits, hlo, hbe]), rfl⟩
              · go_wp2_with (first | (go_at_call 26; refine (isLetter_any _ _).mono ?_; rintro e w' ⟨rfl, rfl⟩) | (go_at_call 27; refine (isBehind_any _ _).mono ?_; rintro e w' ⟨rfl, rfl⟩))
                go_round
                case rel => exact ⟨k + 1, by omega, by go_num, by rw [HQ.out, HA.out]; simp [fits, hlo, hbe, hk0]⟩
                case measure => simp [intOf]; omega
          · go_wp2_with (first | (go_at_call 26; refine (isLetter_any _ _).mono ?_; rintro e w' ⟨rfl, rfl⟩) | (go_at_call 27; refine (isBehind_any _ _).mono ?_; rintro e w' ⟨rfl, rfl⟩))
            go_round
            case rel => exact ⟨k + 1, by omega, by go_num, by rw [HQ.out, HA.out]; simp [fits, hlo]⟩
            case measure => simp [intOf]; omega
        · go_wp2_with fail
          go_ret
          exact ⟨ret_bool (by rw [HQ.out, List.drop_of_length_le (by have : s.data.toList.length = s.size := rfl; omega)]; rfl), rfl⟩
end Go.Proofs.YtlagadofiahijaaDoor
