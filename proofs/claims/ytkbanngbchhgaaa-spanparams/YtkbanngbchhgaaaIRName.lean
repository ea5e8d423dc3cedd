/- CONTRACTS of the reference's names: of one, and of two with a point between. -/
import Derived.Test.YtkbanngbchhgaaaIParts
import Derived.Laws.DeepStrings4
import Derived.Lib.Hide
namespace Go.Proofs.Ytkbanngbchhgaaa
open Go.ChangeShapes Go.WideShapes Go.ChangeAt Go.RowKit

def okB (c : UInt8) : Bool := isLow c || isBeh c
theorem isName_ok (s : ByteArray) (h0 : 0 < s.size) : isName s.data.toList = (decide (s.size ≤ 12) && isLow s[0] && s.data.toList.all okB) := by
  have hl : s.data.toList.length = s.size := rfl
  cases h : s.data.toList with
  | nil => rw [h] at hl; simp at hl; omega
  | cons b r =>
    have hb : s[0] = b := by
      have : s[0] = s.data.toList[0]'(by omega) := rfl
      rw [this]; simp [h]
    rw [h] at hl
    simp only [List.length_cons] at hl
    rw [hb, ← hl]
    have : decide (r.length + 1 ≤ 12) = decide (r.length ≤ 11) := by simp
    rw [this, isName, List.all_cons]
    have hf : okB = fun c => isLow c || isBeh c := rfl
    rw [hf]
    rcases hlo : isLow b with _ | _ <;> simp [hlo]
theorem all_at (s : ByteArray) (k : Nat) (h : k < s.size) : (s.data.toList.drop k).all okB = (okB s[k] && (s.data.toList.drop (k + 1)).all okB) := by
  have h' : k < s.data.toList.length := by simpa using h
  rw [List.drop_eq_getElem_cons h', List.all_cons]
  rfl
theorem okB_iff (c : UInt8) : okB c = true ↔ ((97 ≤ (c.toNat : Int) ∧ (c.toNat : Int) ≤ 122) ∨ (48 ≤ (c.toNat : Int) ∧ (c.toNat : Int) ≤ 57) ∨ (c.toNat : Int) = 95) := by
  simp only [okB, isLow, isBeh, Bool.or_eq_true, Bool.and_eq_true, decide_eq_true_eq, UInt8.le_iff_toNat_le, beq_iff_eq, ← UInt8.toNat_inj]
  simp
  omega
theorem isLow_iff (c : UInt8) : isLow c = true ↔ (97 ≤ (c.toNat : Int) ∧ (c.toNat : Int) ≤ 122) := by
  simp only [isLow, Bool.and_eq_true, decide_eq_true_eq, UInt8.le_iff_toNat_le]
  simp
  omega

set_option maxHeartbeats 1000000 in
theorem refName_any (s : ByteArray) (w : World) : Calls Try.prog 33 #[.string s] w fun e w' => e = .returned (.bool (isName s.data.toList)) ∧ w' = w := by
  have hl : s.data.toList.length = s.size := rfl
  by_cases h0 : s.size = 0
  · have hn : s.data.toList = [] := List.eq_nil_of_length_eq_zero (hl.trans h0)
    rw [hn]
    go_enter Try.func33, Try.ntmps33
    go_wp2
    go_ret
    exact ⟨rfl, rfl⟩
  · have hp : 0 < s.size := by omega
    have HN : Hid (isName s.data.toList = (decide (s.size ≤ 12) && isLow s[0] && s.data.toList.all okB)) := isName_ok s hp
    have h0' : ¬ (s.size : Int) = 0 := by omega
    by_cases h12 : 12 < s.size
    · have h12' : (12 : Int) < (s.size : Int) := by omega
      have HF : Hid (isName s.data.toList = false) := by show _ = _; rw [HN.out]; simp; omega
      go_enter Try.func33, Try.ntmps33
      go_wp2
      all_goals go_ret
      all_goals exact ⟨ret_bool HF.out.symm, rfl⟩
    · have h12' : ¬ (12 : Int) < (s.size : Int) := by omega
      have HI := isLow_iff s[0]
      by_cases hlo : 97 ≤ (s[0].toNat : Int) ∧ (s[0].toNat : Int) ≤ 122
      · have HF : Hid (isName s.data.toList = s.data.toList.all okB) := by show _ = _; rw [HN.out, HI.2 hlo]; simp; omega
        obtain ⟨hlo1, hlo2⟩ := hlo
        have g1 : ¬ (s[0].toNat : Int) < 97 := by omega
        have g2 : ¬ (122 : Int) < (s[0].toNat : Int) := by omega
        clear HI HN hl
        go_enter Try.func33, Try.ntmps33
        go_wp2
        go_loop [3] (fun i => ∃ k : Nat, k ≤ s.size ∧ i = .int .i64 k ∧ s.data.toList.all okB = (s.data.toList.drop k).all okB) (fun i => s.size - (intOf i).toNat)
        case atStart => exact ⟨0, Nat.zero_le _, rfl, rfl⟩
        case round =>
          obtain ⟨k, hk, rfl, hq⟩ := hrel
          have HQ : Hid (s.data.toList.all okB = (s.data.toList.drop k).all okB) := hq
          clear hq g1 g2 hlo1 hlo2
          by_cases hlt : k < s.size
          · have HA : Hid _ := all_at s k hlt
            have HO : Hid _ := okB_iff s[k]
            by_cases hA : 97 ≤ (s[k].toNat : Int) ∧ (s[k].toNat : Int) ≤ 122
            · have HY : Hid (okB s[k] = true) := HO.out.2 (by omega)
              obtain ⟨hA1, hA2⟩ := hA
              go_wp2_with fail
              all_goals
                go_round
                case rel => exact ⟨k + 1, by omega, by go_num, by rw [HQ.out, HA.out, HY.out]; rfl⟩
                case measure => simp [intOf]; omega
            · by_cases hB : 48 ≤ (s[k].toNat : Int) ∧ (s[k].toNat : Int) ≤ 57
              · have HY : Hid (okB s[k] = true) := HO.out.2 (by omega)
                obtain ⟨hB1, hB2⟩ := hB
                have hA' : ¬ 97 ≤ (s[k].toNat : Int) := by omega
                clear hA
                go_wp2_with fail
                all_goals
                  go_round
                  case rel => exact ⟨k + 1, by omega, by go_num, by rw [HQ.out, HA.out, HY.out]; rfl⟩
                  case measure => simp [intOf]; omega
              · by_cases hC : (s[k].toNat : Int) = 95
                · have HY : Hid (okB s[k] = true) := HO.out.2 (by omega)
                  have hA' : ¬ 97 ≤ (s[k].toNat : Int) := by omega
                  have hB' : 48 ≤ (s[k].toNat : Int) := by omega
                  have hB'' : ¬ (s[k].toNat : Int) ≤ 57 := by omega
                  clear hA hB
                  go_wp2_with fail
                  all_goals
                    go_round
                    case rel => exact ⟨k + 1, by omega, by go_num, by rw [HQ.out, HA.out, HY.out]; rfl⟩
                    case measure => simp [intOf]; omega
                · have HY : Hid (okB s[k] = false) := by
                    show _ = _
                    rcases h : okB s[k] with _ | _
                    · rfl
                    · have := HO.out.1 h; omega
                  have hA' : ¬ 97 ≤ (s[k].toNat : Int) ∨ (97 ≤ (s[k].toNat : Int) ∧ ¬ (s[k].toNat : Int) ≤ 122) := by omega
                  have hB' : ¬ 48 ≤ (s[k].toNat : Int) ∨ (48 ≤ (s[k].toNat : Int) ∧ ¬ (s[k].toNat : Int) ≤ 57) := by omega
                  have hC' : ((s[k].toNat : Int) == 95) = false := by simpa using hC
                  clear hA hB HO
                  rcases hA' with hA' | ⟨hA1, hA2⟩ <;> rcases hB' with hB' | ⟨hB1, hB2⟩
                  all_goals first | omega | skip
                  all_goals go_wp2_with fail
                  all_goals go_ret
                  all_goals exact ⟨ret_bool (by rw [HF.out, HQ.out, HA.out, HY.out]; rfl), rfl⟩
          · go_wp2_with fail
            go_ret
            exact ⟨ret_bool (by rw [HF.out, HQ.out, List.drop_of_length_le (by have : s.data.toList.length = s.size := rfl; omega)]; rfl), rfl⟩
      · have HF : Hid (isName s.data.toList = false) := by
          show _ = _
          have : isLow s[0] = false := by rcases h : isLow s[0] with _ | _; rfl; exact absurd (HI.1 h) hlo
          rw [HN.out, this]; simp
        clear HI HN hl
        go_enter Try.func33, Try.ntmps33
        go_wp2
        all_goals first | (go_ret; exact ⟨ret_bool HF.out.symm, rfl⟩) | (exfalso; apply hlo; omega)

theorem cutB_none {b : UInt8} : ∀ {l : List UInt8}, b ∉ l → cutB b l = (l, [])
  | [], _ => rfl
  | c :: l, h => by
    have hc : ¬ c = b := fun e => h (by simp [e])
    have hl := cutB_none (b := b) (l := l) fun e => h (by simp [e])
    rw [cutB, if_neg hc, hl]
theorem cutB_some {b : UInt8} : ∀ {l r : List UInt8}, b ∉ l → cutB b (l ++ b :: r) = (l, r)
  | [], r, _ => by rw [List.nil_append, cutB, if_pos rfl]
  | c :: l, r, h => by
    have hc : ¬ c = b := fun e => h (by simp [e])
    have hl := cutB_some (b := b) (l := l) (r := r) fun e => h (by simp [e])
    rw [List.cons_append, cutB, if_neg hc, hl]
theorem not_take {l : List UInt8} {k : Nat} (hk : k < l.length) (h : 46 ∉ l.take k) (hc : l[k] ≠ 46) : 46 ∉ l.take (k + 1) := by
  rw [List.take_succ_eq_append_getElem hk, List.mem_append]
  rintro (h1 | h1)
  · exact h h1
  · simp at h1; exact hc h1.symm
theorem full_at {l : List UInt8} {k : Nat} (hk : k < l.length) (h : 46 ∉ l.take k) (hc : l[k] = 46) : fullB l = (isName (l.take k) && isName (l.drop (k + 1))) := by
  have e : l = l.take k ++ 46 :: l.drop (k + 1) := by rw [← hc, ← List.drop_eq_getElem_cons hk, List.take_append_drop]
  have : cutB 46 l = (l.take k, l.drop (k + 1)) := by
    calc cutB 46 l = cutB 46 (l.take k ++ 46 :: l.drop (k + 1)) := by rw [← e]
      _ = _ := cutB_some h
  unfold fullB
  rw [this]
theorem full_none {l : List UInt8} (h : 46 ∉ l) : fullB l = false := by
  unfold fullB
  rw [cutB_none h]
  simp [isName]
theorem ext_take (l : List UInt8) (n : Nat) : (bs l).extract 0 n = bs (l.take n) := by
  have h : ((bs l).extract 0 n).data.toList = l.take n := by
    rw [ByteArray.data_extract, Array.toList_extract, List.extract_eq_take_drop, bs_list]; simp
  rw [← bs_of ((bs l).extract 0 n), h]
theorem ext_drop (l : List UInt8) (n m : Nat) (hm : m = l.length) : (bs l).extract n m = bs (l.drop n) := by
  subst hm
  have h : ((bs l).extract n l.length).data.toList = l.drop n := by
    rw [ByteArray.data_extract, Array.toList_extract, List.extract_eq_take_drop, bs_list, List.take_of_length_le (by simp)]
  rw [← bs_of ((bs l).extract n l.length), h]
theorem refName_bs (l : List UInt8) (w : World) : Calls Try.prog 33 #[.string (bs l)] w fun e w' => e = .returned (.bool (isName l)) ∧ w' = w := by
  have := refName_any (bs l) w
  rw [bs_list] at this
  exact this
theorem bs_at (l : List UInt8) (k : Nat) (h : k < (bs l).size) : (bs l)[k] = l[k]'(by rw [bs_size] at h; exact h) := by
  have : (bs l)[k] = (bs l).data.toList[k]'(by simpa using h) := rfl
  rw [this]; simp [bs_list]

set_option maxRecDepth 100000 in
set_option maxHeartbeats 1000000 in
theorem refFull_any (l : List UInt8) (w : World) (hl : l.length ≤ 1000000000) : Calls Try.prog 28 #[.string (bs l)] w fun e w' => e = .returned (.bool (fullB l)) ∧ w' = w := by
  have hsz := bs_size l
  go_enter Try.func28, Try.ntmps28
  go_wp2
  go_loop [3] (fun i => ∃ k : Nat, k ≤ l.length ∧ i = .int .i64 k ∧ 46 ∉ l.take k) (fun i => l.length - (intOf i).toNat)
  case atStart => exact ⟨0, Nat.zero_le _, rfl, by simp⟩
  case round =>
    obtain ⟨k, hk, rfl, hq⟩ := hrel
    have HQ : Hid (46 ∉ l.take k) := hq
    clear hq
    by_cases hlt : k < l.length
    · have hlt' : k < (bs l).size := by omega
      have hat : (bs l)[k] = l[k] := bs_at l k hlt'
      by_cases hc : l[k] = 46
      · have hc' : (((bs l)[k]).toNat : Int) = 46 := by rw [hat, hc]; rfl
        have HM : Hid (fullB l = (isName (l.take k) && isName (l.drop (k + 1)))) := full_at hlt HQ.out hc
        have e1 := ext_take l k
        have e2 := ext_drop l (k + 1) l.length rfl
        have hx := refName_bs (l.take k)
        have hy := refName_bs (l.drop (k + 1))
        clear hat
        generalize l.take k = x at HM e1 hx HQ
        generalize l.drop (k + 1) = y at HM e2 hy
        rcases nx : isName x with _ | _ <;> rw [nx] at hx HM
        · go_wp2_with (first | (go_at_call 33; refine (hx _).mono ?_; rintro e w2 ⟨rfl, hq⟩; subst hq; refine Hid.out ?_))
          refine Lib.hid ?_
          go_wp2_with fail
          go_ret
          exact ⟨ret_bool (by rw [HM.out]; rfl), rfl⟩
        · rcases ny : isName y with _ | _ <;> rw [ny] at hy HM
          all_goals go_wp2_with (first | (go_at_call 33; refine (hx _).mono ?_; rintro e w2 ⟨rfl, hq⟩; subst hq; refine Hid.out ?_))
          all_goals refine Lib.hid ?_
          all_goals go_wp2_with (first | (go_at_call 33; refine (hy _).mono ?_; rintro e w3 ⟨rfl, hq⟩; subst hq; refine Hid.out ?_))
          all_goals refine Lib.hid ?_
          all_goals go_wp2_with fail
          all_goals go_ret
          all_goals exact ⟨ret_bool (by rw [HM.out]; rfl), rfl⟩
      · have hc' : ¬ (((bs l)[k]).toNat : Int) = 46 := by
          rw [hat]; intro e; apply hc
          apply UInt8.toNat_inj.1
          have : (46 : UInt8).toNat = 46 := rfl
          omega
        have hc'' : ((((bs l)[k]).toNat : Int) == 46) = false := by simpa using hc'
        clear hat
        go_wp2_with fail
        go_round
        case rel => exact ⟨k + 1, by omega, by go_num, not_take hlt HQ.out hc⟩
        case measure => simp [intOf]; omega
    · have HN : Hid (fullB l = false) := full_none (by have := HQ.out; rwa [List.take_of_length_le (by omega)] at this)
      go_wp2_with fail
      go_ret
      exact ⟨ret_bool HN.out.symm, rfl⟩
end Go.Proofs.Ytkbanngbchhgaaa
