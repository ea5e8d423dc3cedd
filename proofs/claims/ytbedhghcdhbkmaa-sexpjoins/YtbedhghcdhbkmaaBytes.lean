/- CONTRACTS of what tells a word's bytes: sexp.inWord, carlingref02.part, and both calls named Word. -/
import Derived.Test.YtbedhghcdhbkmaaRows
import Derived.Test.YtbedhghcdhbkmaaMath
import Derived.WalkKit
import Derived.ProofKit
import Derived.OpenShut
import Derived.ShutString
import Derived.WalkLawsBesides
import Derived.Deep.QuietTactic
import Derived.BigQuiet
namespace Go.Proofs.Ytbedhghcdhbkmaa
open Go.ChangeShapes Go.WideShapes Go.ChangeAt Go.RowKit

/-- Is a rune part of a word? -/
def rPart (r : Int) : Bool :=
  decide (r = 95 ∨ r = 46 ∨ r = 43 ∨ r = 45 ∨ r = 42 ∨ r = 38 ∨ r = 124 ∨ r = 94 ∨ r = 60 ∨ r = 62 ∨ r = 61 ∨ (97 ≤ r ∧ r ≤ 122) ∨ (48 ≤ r ∧ r ≤ 57))

theorem ret_bool {a b : Bool} (h : a = b) : Ending.returned (.bool a) = .returned (.bool b) := by rw [h]

set_option maxHeartbeats 1000000 in
theorem inWord_any (r : Int) (w : World) : Calls Try.prog 24 #[.int .i32 r] w fun e w' => e = .returned (.bool (rPart r)) ∧ w' = w := by
  go_enter Try.func24, Try.ntmps24
  go_wp2
  all_goals go_ret
  all_goals refine ⟨ret_bool ?_, rfl⟩
  all_goals (rw [Bool.eq_iff_iff]; simp only [rPart, beq_iff_eq, beq_eq_false_iff_ne, ne_eq, decide_eq_true_eq, Bool.or_eq_true, true_iff, Bool.false_eq_true, false_iff] at *; omega)

/-- Over a byte. -/
theorem rPart_byte (b : UInt8) : rPart (b.toNat : Int) = isPart b := by
  rw [Bool.eq_iff_iff]
  simp only [rPart, isPart, decide_eq_true_eq, Bool.or_eq_true, Bool.and_eq_true, beq_iff_eq, ← UInt8.toNat_inj, UInt8.le_iff_toNat_le]
  simp
  omega
theorem rPart_high (r : Int) (h : 128 ≤ r) : rPart r = false := by
  unfold rPart
  simp only [decide_eq_false_iff_not]
  omega
theorem isPart_high (b : UInt8) (h : 128 ≤ b.toNat) : isPart b = false := by
  rw [← rPart_byte]; exact rPart_high _ (by omega)

theorem sg0 (h : 0 < (⟨#[95, 46, 43, 45, 42, 38, 124, 94, 60, 62, 61]⟩ : ByteArray).size) : ((⟨#[95, 46, 43, 45, 42, 38, 124, 94, 60, 62, 61]⟩ : ByteArray)[0]'h).toNat = 95 := rfl
theorem sg1 (h : 1 < (⟨#[95, 46, 43, 45, 42, 38, 124, 94, 60, 62, 61]⟩ : ByteArray).size) : ((⟨#[95, 46, 43, 45, 42, 38, 124, 94, 60, 62, 61]⟩ : ByteArray)[1]'h).toNat = 46 := rfl
theorem sg2 (h : 2 < (⟨#[95, 46, 43, 45, 42, 38, 124, 94, 60, 62, 61]⟩ : ByteArray).size) : ((⟨#[95, 46, 43, 45, 42, 38, 124, 94, 60, 62, 61]⟩ : ByteArray)[2]'h).toNat = 43 := rfl
theorem sg3 (h : 3 < (⟨#[95, 46, 43, 45, 42, 38, 124, 94, 60, 62, 61]⟩ : ByteArray).size) : ((⟨#[95, 46, 43, 45, 42, 38, 124, 94, 60, 62, 61]⟩ : ByteArray)[3]'h).toNat = 45 := rfl
theorem sg4 (h : 4 < (⟨#[95, 46, 43, 45, 42, 38, 124, 94, 60, 62, 61]⟩ : ByteArray).size) : ((⟨#[95, 46, 43, 45, 42, 38, 124, 94, 60, 62, 61]⟩ : ByteArray)[4]'h).toNat = 42 := rfl
theorem sg5 (h : 5 < (⟨#[95, 46, 43, 45, 42, 38, 124, 94, 60, 62, 61]⟩ : ByteArray).size) : ((⟨#[95, 46, 43, 45, 42, 38, 124, 94, 60, 62, 61]⟩ : ByteArray)[5]'h).toNat = 38 := rfl
theorem sg6 (h : 6 < (⟨#[95, 46, 43, 45, 42, 38, 124, 94, 60, 62, 61]⟩ : ByteArray).size) : ((⟨#[95, 46, 43, 45, 42, 38, 124, 94, 60, 62, 61]⟩ : ByteArray)[6]'h).toNat = 124 := rfl
theorem sg7 (h : 7 < (⟨#[95, 46, 43, 45, 42, 38, 124, 94, 60, 62, 61]⟩ : ByteArray).size) : ((⟨#[95, 46, 43, 45, 42, 38, 124, 94, 60, 62, 61]⟩ : ByteArray)[7]'h).toNat = 94 := rfl
theorem sg8 (h : 8 < (⟨#[95, 46, 43, 45, 42, 38, 124, 94, 60, 62, 61]⟩ : ByteArray).size) : ((⟨#[95, 46, 43, 45, 42, 38, 124, 94, 60, 62, 61]⟩ : ByteArray)[8]'h).toNat = 60 := rfl
theorem sg9 (h : 9 < (⟨#[95, 46, 43, 45, 42, 38, 124, 94, 60, 62, 61]⟩ : ByteArray).size) : ((⟨#[95, 46, 43, 45, 42, 38, 124, 94, 60, 62, 61]⟩ : ByteArray)[9]'h).toNat = 62 := rfl
theorem sg10 (h : 10 < (⟨#[95, 46, 43, 45, 42, 38, 124, 94, 60, 62, 61]⟩ : ByteArray).size) : ((⟨#[95, 46, 43, 45, 42, 38, 124, 94, 60, 62, 61]⟩ : ByteArray)[10]'h).toNat = 61 := rfl

set_option maxHeartbeats 1000000 in
theorem part_yes (c : Int) (w : World) (h : (97 ≤ c ∧ c ≤ 122) ∨ (48 ≤ c ∧ c ≤ 57)) : Calls Try.prog 25 #[.int .u8 c] w fun e w' => e = .returned (.bool (rPart c)) ∧ w' = w := by
  have hr : rPart c = true := by unfold rPart; simp only [decide_eq_true_eq]; omega
  rw [hr]
  rcases h with ⟨h0, h1⟩ | ⟨h0, h1⟩
  · go_enter Try.func25, Try.ntmps25
    go_wp2
    go_ret
    exact ⟨rfl, rfl⟩
  · have h2 : ¬ 97 ≤ c := by omega
    go_enter Try.func25, Try.ntmps25
    go_wp2
    go_ret
    exact ⟨rfl, rfl⟩
set_option maxHeartbeats 1000000 in
theorem part_no (c : Int) (w : World) (h : c < 48 ∨ (57 < c ∧ c < 97) ∨ 122 < c) : Calls Try.prog 25 #[.int .u8 c] w fun e w' => e = .returned (.bool (rPart c)) ∧ w' = w := by
  rcases h with h | ⟨h, h'⟩ | h
  all_goals
    go_enter Try.func25, Try.ntmps25
    go_wp2
    refine wp_loop_rounds 12 ?_
    iterate 12 (all_goals (try (rw [rounds_succ]; go_wp2)))
    all_goals go_ret
    all_goals refine ⟨ret_bool ?_, rfl⟩
    all_goals (rw [Bool.eq_iff_iff]; simp only [rPart, sg0, sg1, sg2, sg3, sg4, sg5, sg6, sg7, sg8, sg9, sg10, beq_iff_eq, beq_eq_false_iff_ne, ne_eq, decide_eq_true_eq, true_iff, Bool.false_eq_true, false_iff] at *; omega)
theorem part_any (c : Int) (w : World) : Calls Try.prog 25 #[.int .u8 c] w fun e w' => e = .returned (.bool (rPart c)) ∧ w' = w := by
  by_cases h : (97 ≤ c ∧ c ≤ 122) ∨ (48 ≤ c ∧ c ≤ 57)
  · exact part_yes c w h
  · exact part_no c w (by omega)

/-- Is a text a word? -/
def wordB (l : List UInt8) : Bool := !l.isEmpty && l.all isPart

theorem all_false {l : List UInt8} {b : UInt8} (hm : b ∈ l) (hb : isPart b = false) : wordB l = false := by
  unfold wordB
  have : l.all isPart = false := by
    rw [Bool.eq_false_iff]
    intro h
    rw [List.all_eq_true] at h
    rw [h b hm] at hb
    cases hb
  simp [this]

theorem byte_mem (s : ByteArray) (k : Nat) (h : k < s.size) : s[k] ∈ s.data.toList := by
  have : s.data.toList[k]'(by simpa using h) = s[k] := rfl
  rw [← this]
  exact List.getElem_mem _

theorem take_snoc (s : ByteArray) (k : Nat) (h : k < s.size) : s.data.toList.take (k + 1) = s.data.toList.take k ++ [s[k]] := by
  rw [List.take_succ_eq_append_getElem (by simpa using h)]; rfl

theorem take_all (s : ByteArray) (k : Nat) (h : ¬ k < s.size) : s.data.toList.take k = s.data.toList := List.take_of_length_le (by simp; have : s.data.size = s.size := rfl; omega)

theorem ba_nil (s : ByteArray) : (s = ⟨#[]⟩) ↔ s.data.toList = [] := by
  constructor
  · rintro rfl; rfl
  · intro h
    have : s.data = #[] := by rw [← Array.toArray_toList (xs := s.data), h]
    cases s
    simp_all

set_option maxHeartbeats 1000000 in
theorem word_any (s : ByteArray) (w : World) : Calls Try.prog 16 #[.string s] w fun e w' => e = .returned (.bool (wordB s.data.toList)) ∧ Below w.heap.size w w' := by
  go_enter Try.func16, Try.ntmps16
  go_wp2_with fail
  go_loopw [] (fun w' => ∃ pos : Nat, pos ≤ s.size ∧ w' = w.iter s pos ∧ (s.data.toList.take pos).all isPart = true) (fun w' => s.size - w'.iterPos w.heap.size)
  case atStart => exact ⟨0, Nat.zero_le _, rfl, rfl⟩
  case round =>
    obtain ⟨pos, hp0, rfl, hall⟩ := hrel
    have HA : Hid ((s.data.toList.take pos).all isPart = true) := hall
    clear hall
    by_cases hp : pos < s.size
    · by_cases hb : isPart s[pos] = true
      · have ha : s[pos].toNat < 128 := by
          rcases Nat.lt_or_ge s[pos].toNat 128 with h | h
          · exact h
          · rw [isPart_high _ h] at hb; cases hb
        have hnx : ∀ ty, (Instr.next (.pointer (some ⟨w.heap.size, 0, none⟩)) true ty).run Try.prog (w.iter s pos) = _ := fun ty => run_next_ascii w s pos ty hp ha
        have hr : rPart (s[pos].toNat : Int) = true := by rw [rPart_byte]; exact hb
        go_wp2_with (go_at_call 24; refine (inWord_any _ _).mono ?_; rintro e w' ⟨rfl, rfl⟩)
        go_roundw
        case rel =>
          refine ⟨pos + 1, by omega, rfl, ?_⟩
          rw [take_snoc s pos hp, List.all_append, HA.out]
          simpa using hb
        case measure => simp; omega
      · have hb' : isPart s[pos] = false := by simpa using hb
        have hf := all_false (byte_mem s pos hp) hb'
        have hr : rPart ((Utf8.decode s pos).1 : Int) = false := by
          rcases Nat.lt_or_ge s[pos].toNat 128 with h | h
          · rw [decode_ascii s pos hp h, rPart_byte]; exact hb'
          · exact rPart_high _ (by have := (decode_high s pos hp h).1; omega)
        have hnx : ∀ ty, (Instr.next (.pointer (some ⟨w.heap.size, 0, none⟩)) true ty).run Try.prog (w.iter s pos) = _ := fun ty => run_next_any w s pos ty hp
        go_wp2_with (go_at_call 24; refine (inWord_any _ _).mono ?_; rintro e w' ⟨rfl, rfl⟩)
        go_ret
        exact ⟨ret_bool (by rw [hf]), (Below.refl _ _).alloc (Nat.le_refl _) _⟩
    · have hnx : ∀ ty, (Instr.next (.pointer (some ⟨w.heap.size, 0, none⟩)) true ty).run Try.prog (w.iter s pos) = _ := fun ty => run_next_end w s pos ty hp
      go_wp2_with fail
      go_ret
      refine ⟨ret_bool ?_, (Below.refl _ _).alloc (Nat.le_refl _) _⟩
      have hall := HA.out
      rw [take_all s pos hp] at hall
      unfold wordB
      rw [hall, ByteArray.toList_eq]
      simp

set_option maxHeartbeats 1000000 in
theorem refWord_any (s : ByteArray) (w : World) (hs : s.size ≤ maxLen) : Calls Try.prog 17 #[.string s] w fun e w' => e = .returned (.bool (wordB s.data.toList)) ∧ w' = w := by
  unfold maxLen at hs
  go_enter Try.func17, Try.ntmps17
  go_wp2_with fail
  go_loop [3] (fun i => ∃ pos : Nat, pos ≤ s.size ∧ i = .int .i64 pos ∧ (s.data.toList.take pos).all isPart = true) (fun i => s.size - (intOf i).toNat)
  case atStart => exact ⟨0, Nat.zero_le _, rfl, rfl⟩
  case round =>
    obtain ⟨pos, hp0, rfl, hall⟩ := hrel
    have HA : Hid ((s.data.toList.take pos).all isPart = true) := hall
    clear hall
    by_cases hp : pos < s.size
    · by_cases hb : isPart s[pos] = true
      · have hr : rPart (s[pos].toNat : Int) = true := by rw [rPart_byte]; exact hb
        go_wp2_with (go_at_call 25; refine (part_any _ _).mono ?_; rintro e w' ⟨rfl, rfl⟩)
        go_round
        case rel =>
          refine ⟨pos + 1, by omega, by go_num, ?_⟩
          rw [take_snoc s pos hp, List.all_append, HA.out]
          simpa using hb
        case measure => simp [intOf]; omega
      · have hb' : isPart s[pos] = false := by simpa using hb
        have hf := all_false (byte_mem s pos hp) hb'
        have hr : rPart (s[pos].toNat : Int) = false := by rw [rPart_byte]; exact hb'
        go_wp2_with (go_at_call 25; refine (part_any _ _).mono ?_; rintro e w' ⟨rfl, rfl⟩)
        go_ret
        exact ⟨ret_bool (by rw [hf]), rfl⟩
    · go_wp2_with fail
      go_ret
      refine ⟨ret_bool ?_, rfl⟩
      have hall := HA.out
      rw [take_all s pos hp] at hall
      unfold wordB
      rw [hall]
      have hsz : s.data.toList.length = s.size := rfl
      rcases h0 : s.data.toList with _ | ⟨x, l⟩
      · rw [h0] at hsz; simp at hsz; simp [← hsz]
      · rw [h0] at hsz; simp at hsz; simp [← hsz]
end Go.Proofs.Ytbedhghcdhbkmaa
