/- Texts of this proof, put together: Bytes. -/
import Derived.Test.YtbpdhegfdmppgaaGreatDoorRows
import Derived.Test.YtbpdhegfdmppgaaGreatDoorM1
import Derived.WalkKit
import Derived.ProofKit
import Derived.OpenShut
import Derived.ShutString
import Derived.WalkLawsBesides
import Derived.Deep.QuietTactic
import Derived.BigQuiet

/- CONTRACTS of what tells a word's bytes: sexp.inWord and sexp.Word. -/
namespace Go.Proofs.YtbpdhegfdmppgaaGreatDoor
open Go.ChangeShapes Go.WideShapes Go.ChangeAt Go.RowKit

/-- Is a rune part of a word? -/
def rPart (r : Int) : Bool :=
  decide (r = 95 ∨ r = 46 ∨ r = 43 ∨ r = 45 ∨ r = 42 ∨ r = 38 ∨ r = 124 ∨ r = 94 ∨ r = 60 ∨ r = 62 ∨ r = 61 ∨ (97 ≤ r ∧ r ≤ 122) ∨ (48 ≤ r ∧ r ≤ 57))

theorem ret_bool {a b : Bool} (h : a = b) : Ending.returned (.bool a) = .returned (.bool b) := by rw [h]

set_option maxHeartbeats 1000000 in
theorem inWord_any (r : Int) (w : World) : Calls Tryz.prog 50 #[.int .i32 r] w fun e w' => e = .returned (.bool (rPart r)) ∧ w' = w := by
  go_enter Tryz.func50, Tryz.ntmps50
  go_wp2
  all_goals go_ret
  all_goals refine ⟨ret_bool ?_, rfl⟩
  all_goals (rw [Bool.eq_iff_iff]; simp only [rPart, beq_iff_eq, beq_eq_false_iff_ne, ne_eq, decide_eq_true_eq, Bool.or_eq_true, true_iff, Bool.false_eq_true, false_iff] at *; omega)

/-- Over a byte. -/
theorem rPart_byte (b : UInt8) : rPart (b.toNat : Int) = isPart b := by
  rw [Bool.eq_iff_iff]
  simp only [rPart, isPart, decide_eq_true_eq, Bool.or_eq_true, Bool.and_eq_true, beq_iff_eq, ← UInt8.toNat_inj, UInt8.le_iff_toNat_le]
  simp
  omega
theorem rPart_high (r : Int) (h : 128 ≤ r) : rPart r = false := by
  unfold rPart
  simp only [decide_eq_false_iff_not]
  omega
theorem isPart_high (b : UInt8) (h : 128 ≤ b.toNat) : isPart b = false := by
  rw [← rPart_byte]; exact rPart_high _ (by omega)

/-- Is a text a word? -/
def wordB (l : List UInt8) : Bool := !l.isEmpty && l.all isPart

theorem all_false {l : List UInt8} {b : UInt8} (hm : b ∈ l) (hb : isPart b = false) : wordB l = false := by
  unfold wordB
  have : l.all isPart = false := by
    rw [Bool.eq_false_iff]
    intro h
    rw [List.all_eq_true] at h
    rw [h b hm] at hb
    cases hb
  simp [this]

theorem byte_mem (s : ByteArray) (k : Nat) (h : k < s.size) : s[k] ∈ s.data.toList := by
  have : s.data.toList[k]'(by simpa using h) = s[k] := rfl
  rw [← this]
  exact List.getElem_mem _

theorem take_snoc (s : ByteArray) (k : Nat) (h : k < s.size) : s.data.toList.take (k + 1) = s.data.toList.take k ++ [s[k]] := by
  rw [List.take_succ_eq_append_getElem (by simpa using h)]; rfl

theorem take_all (s : ByteArray) (k : Nat) (h : ¬ k < s.size) : s.data.toList.take k = s.data.toList := List.take_of_length_le (by simp; have : s.data.size = s.size := rfl; omega)

theorem ba_nil (s : ByteArray) : (s = ⟨#[]⟩) ↔ s.data.toList = [] := by
  constructor
  · rintro rfl; rfl
  · intro h
    have : s.data = #[] := by rw [← Array.toArray_toList (xs := s.data), h]
    cases s
    simp_all

set_option maxHeartbeats 1000000 in
theorem word_any (s : ByteArray) (w : World) : Calls Tryz.prog 24 #[.string s] w fun e w' => e = .returned (.bool (wordB s.data.toList)) ∧ Below w.heap.size w w' := by
  go_enter Tryz.func24, Tryz.ntmps24
  go_wp2_with fail
  go_loopw [] (fun w' => ∃ pos : Nat, pos ≤ s.size ∧ w' = w.iter s pos ∧ (s.data.toList.take pos).all isPart = true) (fun w' => s.size - w'.iterPos w.heap.size)
  case atStart => exact ⟨0, Nat.zero_le _, rfl, rfl⟩
  case round =>
    obtain ⟨pos, hp0, rfl, hall⟩ := hrel
    have HA : Hid ((s.data.toList.take pos).all isPart = true) := hall
    clear hall
    by_cases hp : pos < s.size
    · by_cases hb : isPart s[pos] = true
      · have ha : s[pos].toNat < 128 := by
          rcases Nat.lt_or_ge s[pos].toNat 128 with h | h
          · exact h
          · rw [isPart_high _ h] at hb; cases hb
        have hnx : ∀ ty, (Instr.next (.pointer (some ⟨w.heap.size, 0, none⟩)) true ty).run Tryz.prog (w.iter s pos) = _ := fun ty => run_next_ascii w s pos ty hp ha
        have hr : rPart (s[pos].toNat : Int) = true := by rw [rPart_byte]; exact hb
        go_wp2_with (go_at_call 50; refine (inWord_any _ _).mono ?_; rintro e w' ⟨rfl, rfl⟩)
        go_roundw
        case rel =>
          refine ⟨pos + 1, by omega, rfl, ?_⟩
          rw [take_snoc s pos hp, List.all_append, HA.out]
          simpa using hb
        case measure => simp; omega
      · have hb' : isPart s[pos] = false := by simpa using hb
        have hf := all_false (byte_mem s pos hp) hb'
        have hr : rPart ((Utf8.decode s pos).1 : Int) = false := by
          rcases Nat.lt_or_ge s[pos].toNat 128 with h | h
          · rw [decode_ascii s pos hp h, rPart_byte]; exact hb'
          · exact rPart_high _ (by have := (decode_high s pos hp h).1; omega)
        have hnx : ∀ ty, (Instr.next (.pointer (some ⟨w.heap.size, 0, none⟩)) true ty).run Tryz.prog (w.iter s pos) = _ := fun ty => run_next_any w s pos ty hp
        go_wp2_with (go_at_call 50; refine (inWord_any _ _).mono ?_; rintro e w' ⟨rfl, rfl⟩)
        go_ret
        exact ⟨ret_bool (by rw [hf]), (Below.refl _ _).alloc (Nat.le_refl _) _⟩
    · have hnx : ∀ ty, (Instr.next (.pointer (some ⟨w.heap.size, 0, none⟩)) true ty).run Tryz.prog (w.iter s pos) = _ := fun ty => run_next_end w s pos ty hp
      go_wp2_with fail
      go_ret
      refine ⟨ret_bool ?_, (Below.refl _ _).alloc (Nat.le_refl _) _⟩
      have hall := HA.out
      rw [take_all s pos hp] at hall
      unfold wordB
      rw [hall, ByteArray.toList_eq]
      simp

end Go.Proofs.YtbpdhegfdmppgaaGreatDoor
