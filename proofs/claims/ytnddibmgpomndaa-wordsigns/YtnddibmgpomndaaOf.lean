/- CONTRACTS of word.Of and of the document's own Of: both tell the same op and the same bool, for every text. -/
import Derived.Test.YtnddibmgpomndaaSign
namespace Go.Proofs.Ytnddibmgpomndaa
open Go.ChangeShapes Go.WideShapes Go.ChangeAt Go.RowKit
def ofz (s : ByteArray) : Int :=
  if s = sgn 1 then 1 else if s = sgn 2 then 2 else if s = sgn 3 then 3 else if s = sgn 4 then 4 else if s = sgn 5 then 5 else
  if s = sgn 6 then 6 else if s = sgn 7 then 7 else if s = sgn 8 then 8 else if s = sgn 9 then 9 else if s = sgn 10 then 10 else 0
theorem of_hit (k : Int) (h1 : 1 ≤ k) (h2 : k ≤ 10) : ofz (sgn k) = k := by
  have : k = 1 ∨ k = 2 ∨ k = 3 ∨ k = 4 ∨ k = 5 ∨ k = 6 ∨ k = 7 ∨ k = 8 ∨ k = 9 ∨ k = 10 := by omega
  rcases this with rfl | rfl | rfl | rfl | rfl | rfl | rfl | rfl | rfl | rfl <;> decide +kernel
theorem of_none (s : ByteArray) (h : ∀ j : Nat, 1 ≤ j → j ≤ 10 → s ≠ sgn j) : ofz s = 0 := by
  have c1 : s ≠ sgn 1 := h 1 (by omega) (by omega)
  have c2 : s ≠ sgn 2 := h 2 (by omega) (by omega)
  have c3 : s ≠ sgn 3 := h 3 (by omega) (by omega)
  have c4 : s ≠ sgn 4 := h 4 (by omega) (by omega)
  have c5 : s ≠ sgn 5 := h 5 (by omega) (by omega)
  have c6 : s ≠ sgn 6 := h 6 (by omega) (by omega)
  have c7 : s ≠ sgn 7 := h 7 (by omega) (by omega)
  have c8 : s ≠ sgn 8 := h 8 (by omega) (by omega)
  have c9 : s ≠ sgn 9 := h 9 (by omega) (by omega)
  have c10 : s ≠ sgn 10 := h 10 (by omega) (by omega)
  unfold ofz
  rw [if_neg c1, if_neg c2, if_neg c3, if_neg c4, if_neg c5, if_neg c6, if_neg c7, if_neg c8, if_neg c9, if_neg c10]
theorem of_back (s : ByteArray) (h : ofz s ≠ 0) : 1 ≤ ofz s ∧ ofz s ≤ 10 ∧ sgn (ofz s) = s := by
  by_cases g : ∃ j : Nat, 1 ≤ j ∧ j ≤ 10 ∧ s = sgn j
  · obtain ⟨j, h1, h2, rfl⟩ := g
    rw [of_hit j (by omega) (by omega)]
    exact ⟨by omega, by omega, rfl⟩
  · exact absurd (of_none s fun j h1 h2 e => g ⟨j, h1, h2, e⟩) h
theorem at11 (k : Nat) (h1 : 1 ≤ k) (h2 : k ≤ 10) : ([Value.string ⟨#[]⟩, Value.string ⟨#[43]⟩, Value.string ⟨#[45]⟩, Value.string ⟨#[42]⟩, Value.string ⟨#[38]⟩, Value.string ⟨#[124]⟩, Value.string ⟨#[94]⟩, Value.string ⟨#[60, 60]⟩, Value.string ⟨#[62, 62]⟩, Value.string ⟨#[60]⟩, Value.string ⟨#[61, 61]⟩] : List Value)[k]? = some (.string (sgn k)) := by
  have : k = 1 ∨ k = 2 ∨ k = 3 ∨ k = 4 ∨ k = 5 ∨ k = 6 ∨ k = 7 ∨ k = 8 ∨ k = 9 ∨ k = 10 := by omega
  rcases this with rfl | rfl | rfl | rfl | rfl | rfl | rfl | rfl | rfl | rfl <;> simp [sgn]
theorem at10 (k : Nat) (h2 : k < 10) : ([Value.string ⟨#[43]⟩, Value.string ⟨#[45]⟩, Value.string ⟨#[42]⟩, Value.string ⟨#[38]⟩, Value.string ⟨#[124]⟩, Value.string ⟨#[94]⟩, Value.string ⟨#[60, 60]⟩, Value.string ⟨#[62, 62]⟩, Value.string ⟨#[60]⟩, Value.string ⟨#[61, 61]⟩] : List Value)[k]? = some (.string (sgn ((k : Int) + 1))) := by
  have : k = 0 ∨ k = 1 ∨ k = 2 ∨ k = 3 ∨ k = 4 ∨ k = 5 ∨ k = 6 ∨ k = 7 ∨ k = 8 ∨ k = 9 := by omega
  rcases this with rfl | rfl | rfl | rfl | rfl | rfl | rfl | rfl | rfl | rfl <;> simp [sgn]
theorem at10' (k : Nat) (h2 : k < 10) (h : k < ([Value.string ⟨#[43]⟩, Value.string ⟨#[45]⟩, Value.string ⟨#[42]⟩, Value.string ⟨#[38]⟩, Value.string ⟨#[124]⟩, Value.string ⟨#[94]⟩, Value.string ⟨#[60, 60]⟩, Value.string ⟨#[62, 62]⟩, Value.string ⟨#[60]⟩, Value.string ⟨#[61, 61]⟩] : List Value).length) : ([Value.string ⟨#[43]⟩, Value.string ⟨#[45]⟩, Value.string ⟨#[42]⟩, Value.string ⟨#[38]⟩, Value.string ⟨#[124]⟩, Value.string ⟨#[94]⟩, Value.string ⟨#[60, 60]⟩, Value.string ⟨#[62, 62]⟩, Value.string ⟨#[60]⟩, Value.string ⟨#[61, 61]⟩] : List Value)[k]'h = .string (sgn ((k : Int) + 1)) := by
  have := at10 k h2
  rw [List.getElem?_eq_getElem h] at this
  exact Option.some.inj this
theorem tl_ne {a b : ByteArray} (h : a ≠ b) : (b.toList == a.toList) = false := by
  rw [ByteArray.toList_eq, ByteArray.toList_eq]
  simp only [beq_eq_false_iff_ne, ne_eq]
  exact fun e => h (bytes_inj e.symm)
theorem of_any (s : ByteArray) (w : World) : Calls Try.prog 14 #[.string s] w fun e w' => e = .returned (.tuple #[.int .i64 (ofz s), .bool (opb (ofz s))]) ∧ Grown w w' := by
  go_enter Try.func14, Try.ntmps14
  go_wp2_with (go_at_call 20; refine (signs_any _).mono ?_; rintro e w' ⟨rfl, hg⟩)
  go_loop [5] (fun i => ∃ k : Nat, 1 ≤ k ∧ k ≤ 11 ∧ i = .int .i64 k ∧ ∀ j : Nat, 1 ≤ j → j < k → s ≠ sgn j) (fun i => 11 - (intOf i).toNat)
  case atStart => exact ⟨1, by omega, by omega, rfl, fun j a b => by omega⟩
  case round =>
    obtain ⟨k, hk1, hk2, rfl, hj⟩ := hrel
    have HJ : Hid _ := hj
    clear hj
    by_cases hlt : k ≤ 10
    · have hc := at11 k hk1 hlt
      by_cases he : s = sgn k
      · have ht : ((sgn (k : Int)).toList == s.toList) = true := by rw [he]; simp
        have HE : Hid _ := he
        clear he
        go_wp2
        go_ret2
        have hz : ofz s = k := by rw [HE.out]; exact of_hit k (by omega) (by omega)
        rw [hz]
        exact ⟨ret2 rfl (by simp [opb]; omega), hg.alloc _ _⟩
      · have ht := tl_ne he
        have HE : Hid _ := he
        clear he
        go_wp2
        go_round
        case rel => exact ⟨k + 1, by omega, by omega, by go_num, fun j a b => if e : j = k then e ▸ HE.out else HJ.out j a (by omega)⟩
        case measure => simp [intOf]; omega
    · go_wp2
      go_ret2
      obtain rfl : k = 11 := by omega
      rw [of_none s (fun j a b => HJ.out j a (by omega))]
      exact ⟨rfl, hg.alloc _ _⟩
theorem rof_any (s : ByteArray) (w : World) : Calls Try.prog 15 #[.string s] w fun e w' => e = .returned (.tuple #[.int .i64 (ofz s), .bool (opb (ofz s))]) ∧ Grown w w' := by
  go_enter Try.func15, Try.ntmps15
  go_wp2
  go_loop [5] (fun i => ∃ k : Nat, k ≤ 10 ∧ i = .int .i64 k ∧ ∀ j : Nat, 1 ≤ j → j ≤ k → s ≠ sgn j) (fun i => 10 - (intOf i).toNat)
  case atStart => exact ⟨0, by omega, rfl, fun j a b => by omega⟩
  case round =>
    obtain ⟨k, hk2, rfl, hj⟩ := hrel
    have HJ : Hid _ := hj
    clear hj
    by_cases hlt : k < 10
    · have hc := at10' k hlt
      by_cases he : s = sgn ((k : Int) + 1)
      · have ht : ((sgn ((k : Int) + 1)).toList == s.toList) = true := by rw [he]; simp
        have HE : Hid _ := he
        clear he
        go_wp2
        go_ret2
        have hz : ofz s = (k : Int) + 1 := by rw [HE.out]; exact of_hit _ (by omega) (by omega)
        rw [hz]
        exact ⟨ret2 rfl (by simp [opb]; omega), (Grown.refl _).alloc _ _⟩
      · have ht := tl_ne he
        have HE : Hid _ := he
        clear he
        go_wp2
        go_round
        case rel => exact ⟨k + 1, by omega, by go_num, fun j a b => if e : j = k + 1 then e ▸ HE.out else HJ.out j a (by omega)⟩
        case measure => simp [intOf]; omega
    · go_wp2
      go_ret2
      obtain rfl : k = 10 := by omega
      rw [of_none s (fun j a b => HJ.out j a (by omega))]
      exact ⟨rfl, (Grown.refl _).alloc _ _⟩
end Go.Proofs.Ytnddibmgpomndaa
