/- Texts of this proof, put together: WSign, WOf. -/
import Derived.Test.YtbpdhegfdmppgaaGreatDoorRows
import Derived.WalkKit
import Derived.ProofKit
import Derived.OpenShut
import Derived.ShutString
import Derived.WalkLawsBesides
import Derived.Deep.QuietTactic
import Derived.BigQuiet

/- CONTRACTS of word.Sign and of the document's own Sign and Of: they tell the same, for every op and every text. -/
namespace Go.Proofs.YtbpdhegfdmppgaaGreatDoor.W
open Go.ChangeShapes Go.WideShapes Go.ChangeAt Go.RowKit
def opb (o : Int) : Bool := decide (1 ≤ o ∧ o ≤ 10)

theorem ret2 {k : IntKind} {a b : Int} {x y : Bool} (h : a = b) (h' : x = y) : Ending.returned (.tuple #[.int k a, .bool x]) = .returned (.tuple #[.int k b, .bool y]) := by rw [h, h']
def sgn (o : Int) : ByteArray :=
  if o = 1 then ⟨#[43]⟩ else
  if o = 2 then ⟨#[45]⟩ else
  if o = 3 then ⟨#[42]⟩ else
  if o = 4 then ⟨#[38]⟩ else
  if o = 5 then ⟨#[124]⟩ else
  if o = 6 then ⟨#[94]⟩ else
  if o = 7 then ⟨#[60, 60]⟩ else
  if o = 8 then ⟨#[62, 62]⟩ else
  if o = 9 then ⟨#[60]⟩ else
  if o = 10 then ⟨#[61, 61]⟩ else ⟨#[]⟩
theorem signs_any (w : World) : Calls Tryz.prog 49 #[] w fun e w' => e = .returned (.agg #[.string ⟨#[]⟩, .string ⟨#[43]⟩, .string ⟨#[45]⟩, .string ⟨#[42]⟩, .string ⟨#[38]⟩, .string ⟨#[124]⟩, .string ⟨#[94]⟩, .string ⟨#[60, 60]⟩, .string ⟨#[62, 62]⟩, .string ⟨#[60]⟩, .string ⟨#[61, 61]⟩]) ∧ Below w.heap.size w w' := by
  go_enter Tryz.func49, Tryz.ntmps49
  go_wp2
  exact bodyPost_ret (v := .agg #[.string ⟨#[]⟩, .string ⟨#[43]⟩, .string ⟨#[45]⟩, .string ⟨#[42]⟩, .string ⟨#[38]⟩, .string ⟨#[124]⟩, .string ⟨#[94]⟩, .string ⟨#[60, 60]⟩, .string ⟨#[62, 62]⟩, .string ⟨#[60]⟩, .string ⟨#[61, 61]⟩]) (by simp [results, Tryz.results49, go_sem]) rfl ⟨rfl, (Below.refl _ _).alloc (Nat.le_refl _) _⟩
theorem retS {a b : ByteArray} {x y : Bool} (h : a = b) (h' : x = y) : Ending.returned (.tuple #[.string a, .bool x]) = .returned (.tuple #[.string b, .bool y]) := by rw [h, h']
theorem sign0 (o : Int) (h : o < 1 ∨ 10 < o) (w : World) : Calls Tryz.prog 23 #[.int .i64 o] w fun e w' => e = .returned (.tuple #[.string (sgn o), .bool (opb o)]) ∧ Below w.heap.size w w' := by
  have hb : opb o = false := by simp [opb]; omega
  have hz : sgn o = ⟨#[]⟩ := by
    unfold sgn
    rw [if_neg (by omega), if_neg (by omega), if_neg (by omega), if_neg (by omega), if_neg (by omega), if_neg (by omega), if_neg (by omega), if_neg (by omega), if_neg (by omega), if_neg (by omega)]
  rw [hb, hz]
  clear hb hz
  rcases h with h | h
  · go_enter Tryz.func23, Tryz.ntmps23
    go_wp2
    go_ret2
    exact ⟨rfl, Below.refl _ _⟩
  · have h' : ¬ o < 1 := by omega
    go_enter Tryz.func23, Tryz.ntmps23
    go_wp2
    go_ret2
    exact ⟨rfl, Below.refl _ _⟩
theorem sign1 (w : World) : Calls Tryz.prog 23 #[.int .i64 1] w fun e w' => e = .returned (.tuple #[.string (sgn 1), .bool (opb 1)]) ∧ Below w.heap.size w w' := by
  have hi : ∀ w, (Instr.index 88 (.agg #[.string ⟨#[]⟩, .string ⟨#[43]⟩, .string ⟨#[45]⟩, .string ⟨#[42]⟩, .string ⟨#[38]⟩, .string ⟨#[124]⟩, .string ⟨#[94]⟩, .string ⟨#[60, 60]⟩, .string ⟨#[62, 62]⟩, .string ⟨#[60]⟩, .string ⟨#[61, 61]⟩]) (.int .i64 1)).run Tryz.prog w = .ok (.string ⟨#[43]⟩) w := fun _ => by kernel_rfl
  go_enter Tryz.func23, Tryz.ntmps23
  go_wp2_with (go_at_call 49; refine (signs_any _).mono ?_; rintro e w' ⟨rfl, hg⟩)
  go_ret2
  exact ⟨retS (by simp [sgn]) rfl, hg⟩
theorem sign2 (w : World) : Calls Tryz.prog 23 #[.int .i64 2] w fun e w' => e = .returned (.tuple #[.string (sgn 2), .bool (opb 2)]) ∧ Below w.heap.size w w' := by
  have hi : ∀ w, (Instr.index 88 (.agg #[.string ⟨#[]⟩, .string ⟨#[43]⟩, .string ⟨#[45]⟩, .string ⟨#[42]⟩, .string ⟨#[38]⟩, .string ⟨#[124]⟩, .string ⟨#[94]⟩, .string ⟨#[60, 60]⟩, .string ⟨#[62, 62]⟩, .string ⟨#[60]⟩, .string ⟨#[61, 61]⟩]) (.int .i64 2)).run Tryz.prog w = .ok (.string ⟨#[45]⟩) w := fun _ => by kernel_rfl
  go_enter Tryz.func23, Tryz.ntmps23
  go_wp2_with (go_at_call 49; refine (signs_any _).mono ?_; rintro e w' ⟨rfl, hg⟩)
  go_ret2
  exact ⟨retS (by simp [sgn]) rfl, hg⟩
theorem sign3 (w : World) : Calls Tryz.prog 23 #[.int .i64 3] w fun e w' => e = .returned (.tuple #[.string (sgn 3), .bool (opb 3)]) ∧ Below w.heap.size w w' := by
  have hi : ∀ w, (Instr.index 88 (.agg #[.string ⟨#[]⟩, .string ⟨#[43]⟩, .string ⟨#[45]⟩, .string ⟨#[42]⟩, .string ⟨#[38]⟩, .string ⟨#[124]⟩, .string ⟨#[94]⟩, .string ⟨#[60, 60]⟩, .string ⟨#[62, 62]⟩, .string ⟨#[60]⟩, .string ⟨#[61, 61]⟩]) (.int .i64 3)).run Tryz.prog w = .ok (.string ⟨#[42]⟩) w := fun _ => by kernel_rfl
  go_enter Tryz.func23, Tryz.ntmps23
  go_wp2_with (go_at_call 49; refine (signs_any _).mono ?_; rintro e w' ⟨rfl, hg⟩)
  go_ret2
  exact ⟨retS (by simp [sgn]) rfl, hg⟩
theorem sign4 (w : World) : Calls Tryz.prog 23 #[.int .i64 4] w fun e w' => e = .returned (.tuple #[.string (sgn 4), .bool (opb 4)]) ∧ Below w.heap.size w w' := by
  have hi : ∀ w, (Instr.index 88 (.agg #[.string ⟨#[]⟩, .string ⟨#[43]⟩, .string ⟨#[45]⟩, .string ⟨#[42]⟩, .string ⟨#[38]⟩, .string ⟨#[124]⟩, .string ⟨#[94]⟩, .string ⟨#[60, 60]⟩, .string ⟨#[62, 62]⟩, .string ⟨#[60]⟩, .string ⟨#[61, 61]⟩]) (.int .i64 4)).run Tryz.prog w = .ok (.string ⟨#[38]⟩) w := fun _ => by kernel_rfl
  go_enter Tryz.func23, Tryz.ntmps23
  go_wp2_with (go_at_call 49; refine (signs_any _).mono ?_; rintro e w' ⟨rfl, hg⟩)
  go_ret2
  exact ⟨retS (by simp [sgn]) rfl, hg⟩
theorem sign5 (w : World) : Calls Tryz.prog 23 #[.int .i64 5] w fun e w' => e = .returned (.tuple #[.string (sgn 5), .bool (opb 5)]) ∧ Below w.heap.size w w' := by
  have hi : ∀ w, (Instr.index 88 (.agg #[.string ⟨#[]⟩, .string ⟨#[43]⟩, .string ⟨#[45]⟩, .string ⟨#[42]⟩, .string ⟨#[38]⟩, .string ⟨#[124]⟩, .string ⟨#[94]⟩, .string ⟨#[60, 60]⟩, .string ⟨#[62, 62]⟩, .string ⟨#[60]⟩, .string ⟨#[61, 61]⟩]) (.int .i64 5)).run Tryz.prog w = .ok (.string ⟨#[124]⟩) w := fun _ => by kernel_rfl
  go_enter Tryz.func23, Tryz.ntmps23
  go_wp2_with (go_at_call 49; refine (signs_any _).mono ?_; rintro e w' ⟨rfl, hg⟩)
  go_ret2
  exact ⟨retS (by simp [sgn]) rfl, hg⟩
theorem sign6 (w : World) : Calls Tryz.prog 23 #[.int .i64 6] w fun e w' => e = .returned (.tuple #[.string (sgn 6), .bool (opb 6)]) ∧ Below w.heap.size w w' := by
  have hi : ∀ w, (Instr.index 88 (.agg #[.string ⟨#[]⟩, .string ⟨#[43]⟩, .string ⟨#[45]⟩, .string ⟨#[42]⟩, .string ⟨#[38]⟩, .string ⟨#[124]⟩, .string ⟨#[94]⟩, .string ⟨#[60, 60]⟩, .string ⟨#[62, 62]⟩, .string ⟨#[60]⟩, .string ⟨#[61, 61]⟩]) (.int .i64 6)).run Tryz.prog w = .ok (.string ⟨#[94]⟩) w := fun _ => by kernel_rfl
  go_enter Tryz.func23, Tryz.ntmps23
  go_wp2_with (go_at_call 49; refine (signs_any _).mono ?_; rintro e w' ⟨rfl, hg⟩)
  go_ret2
  exact ⟨retS (by simp [sgn]) rfl, hg⟩
theorem sign7 (w : World) : Calls Tryz.prog 23 #[.int .i64 7] w fun e w' => e = .returned (.tuple #[.string (sgn 7), .bool (opb 7)]) ∧ Below w.heap.size w w' := by
  have hi : ∀ w, (Instr.index 88 (.agg #[.string ⟨#[]⟩, .string ⟨#[43]⟩, .string ⟨#[45]⟩, .string ⟨#[42]⟩, .string ⟨#[38]⟩, .string ⟨#[124]⟩, .string ⟨#[94]⟩, .string ⟨#[60, 60]⟩, .string ⟨#[62, 62]⟩, .string ⟨#[60]⟩, .string ⟨#[61, 61]⟩]) (.int .i64 7)).run Tryz.prog w = .ok (.string ⟨#[60, 60]⟩) w := fun _ => by kernel_rfl
  go_enter Tryz.func23, Tryz.ntmps23
  go_wp2_with (go_at_call 49; refine (signs_any _).mono ?_; rintro e w' ⟨rfl, hg⟩)
  go_ret2
  exact ⟨retS (by simp [sgn]) rfl, hg⟩
theorem sign8 (w : World) : Calls Tryz.prog 23 #[.int .i64 8] w fun e w' => e = .returned (.tuple #[.string (sgn 8), .bool (opb 8)]) ∧ Below w.heap.size w w' := by
  have hi : ∀ w, (Instr.index 88 (.agg #[.string ⟨#[]⟩, .string ⟨#[43]⟩, .string ⟨#[45]⟩, .string ⟨#[42]⟩, .string ⟨#[38]⟩, .string ⟨#[124]⟩, .string ⟨#[94]⟩, .string ⟨#[60, 60]⟩, .string ⟨#[62, 62]⟩, .string ⟨#[60]⟩, .string ⟨#[61, 61]⟩]) (.int .i64 8)).run Tryz.prog w = .ok (.string ⟨#[62, 62]⟩) w := fun _ => by kernel_rfl
  go_enter Tryz.func23, Tryz.ntmps23
  go_wp2_with (go_at_call 49; refine (signs_any _).mono ?_; rintro e w' ⟨rfl, hg⟩)
  go_ret2
  exact ⟨retS (by simp [sgn]) rfl, hg⟩
theorem sign9 (w : World) : Calls Tryz.prog 23 #[.int .i64 9] w fun e w' => e = .returned (.tuple #[.string (sgn 9), .bool (opb 9)]) ∧ Below w.heap.size w w' := by
  have hi : ∀ w, (Instr.index 88 (.agg #[.string ⟨#[]⟩, .string ⟨#[43]⟩, .string ⟨#[45]⟩, .string ⟨#[42]⟩, .string ⟨#[38]⟩, .string ⟨#[124]⟩, .string ⟨#[94]⟩, .string ⟨#[60, 60]⟩, .string ⟨#[62, 62]⟩, .string ⟨#[60]⟩, .string ⟨#[61, 61]⟩]) (.int .i64 9)).run Tryz.prog w = .ok (.string ⟨#[60]⟩) w := fun _ => by kernel_rfl
  go_enter Tryz.func23, Tryz.ntmps23
  go_wp2_with (go_at_call 49; refine (signs_any _).mono ?_; rintro e w' ⟨rfl, hg⟩)
  go_ret2
  exact ⟨retS (by simp [sgn]) rfl, hg⟩
theorem sign10 (w : World) : Calls Tryz.prog 23 #[.int .i64 10] w fun e w' => e = .returned (.tuple #[.string (sgn 10), .bool (opb 10)]) ∧ Below w.heap.size w w' := by
  have hi : ∀ w, (Instr.index 88 (.agg #[.string ⟨#[]⟩, .string ⟨#[43]⟩, .string ⟨#[45]⟩, .string ⟨#[42]⟩, .string ⟨#[38]⟩, .string ⟨#[124]⟩, .string ⟨#[94]⟩, .string ⟨#[60, 60]⟩, .string ⟨#[62, 62]⟩, .string ⟨#[60]⟩, .string ⟨#[61, 61]⟩]) (.int .i64 10)).run Tryz.prog w = .ok (.string ⟨#[61, 61]⟩) w := fun _ => by kernel_rfl
  go_enter Tryz.func23, Tryz.ntmps23
  go_wp2_with (go_at_call 49; refine (signs_any _).mono ?_; rintro e w' ⟨rfl, hg⟩)
  go_ret2
  exact ⟨retS (by simp [sgn]) rfl, hg⟩
/-- word.Sign, whatever the op. -/
theorem sign_any (o : Int) (w : World) : Calls Tryz.prog 23 #[.int .i64 o] w fun e w' => e = .returned (.tuple #[.string (sgn o), .bool (opb o)]) ∧ Below w.heap.size w w' := by
  by_cases h : 1 ≤ o ∧ o ≤ 10
  · have : o = 1 ∨ o = 2 ∨ o = 3 ∨ o = 4 ∨ o = 5 ∨ o = 6 ∨ o = 7 ∨ o = 8 ∨ o = 9 ∨ o = 10 := by omega
    rcases this with rfl | rfl | rfl | rfl | rfl | rfl | rfl | rfl | rfl | rfl
    · exact sign1 w
    · exact sign2 w
    · exact sign3 w
    · exact sign4 w
    · exact sign5 w
    · exact sign6 w
    · exact sign7 w
    · exact sign8 w
    · exact sign9 w
    · exact sign10 w
  · exact sign0 o (by omega) w
end Go.Proofs.YtbpdhegfdmppgaaGreatDoor.W

/- CONTRACTS of word.Of and of the document's own Of: both tell the same op and the same bool, for every text. -/
namespace Go.Proofs.YtbpdhegfdmppgaaGreatDoor.W
open Go.ChangeShapes Go.WideShapes Go.ChangeAt Go.RowKit
def ofz (s : ByteArray) : Int :=
  if s = sgn 1 then 1 else if s = sgn 2 then 2 else if s = sgn 3 then 3 else if s = sgn 4 then 4 else if s = sgn 5 then 5 else
  if s = sgn 6 then 6 else if s = sgn 7 then 7 else if s = sgn 8 then 8 else if s = sgn 9 then 9 else if s = sgn 10 then 10 else 0
theorem of_hit (k : Int) (h1 : 1 ≤ k) (h2 : k ≤ 10) : ofz (sgn k) = k := by
  have : k = 1 ∨ k = 2 ∨ k = 3 ∨ k = 4 ∨ k = 5 ∨ k = 6 ∨ k = 7 ∨ k = 8 ∨ k = 9 ∨ k = 10 := by omega
  rcases this with rfl | rfl | rfl | rfl | rfl | rfl | rfl | rfl | rfl | rfl <;> decide +kernel
theorem of_none (s : ByteArray) (h : ∀ j : Nat, 1 ≤ j → j ≤ 10 → s ≠ sgn j) : ofz s = 0 := by
  have c1 : s ≠ sgn 1 := h 1 (by omega) (by omega)
  have c2 : s ≠ sgn 2 := h 2 (by omega) (by omega)
  have c3 : s ≠ sgn 3 := h 3 (by omega) (by omega)
  have c4 : s ≠ sgn 4 := h 4 (by omega) (by omega)
  have c5 : s ≠ sgn 5 := h 5 (by omega) (by omega)
  have c6 : s ≠ sgn 6 := h 6 (by omega) (by omega)
  have c7 : s ≠ sgn 7 := h 7 (by omega) (by omega)
  have c8 : s ≠ sgn 8 := h 8 (by omega) (by omega)
  have c9 : s ≠ sgn 9 := h 9 (by omega) (by omega)
  have c10 : s ≠ sgn 10 := h 10 (by omega) (by omega)
  unfold ofz
  rw [if_neg c1, if_neg c2, if_neg c3, if_neg c4, if_neg c5, if_neg c6, if_neg c7, if_neg c8, if_neg c9, if_neg c10]
theorem at11 (k : Nat) (h1 : 1 ≤ k) (h2 : k ≤ 10) : ([Value.string ⟨#[]⟩, Value.string ⟨#[43]⟩, Value.string ⟨#[45]⟩, Value.string ⟨#[42]⟩, Value.string ⟨#[38]⟩, Value.string ⟨#[124]⟩, Value.string ⟨#[94]⟩, Value.string ⟨#[60, 60]⟩, Value.string ⟨#[62, 62]⟩, Value.string ⟨#[60]⟩, Value.string ⟨#[61, 61]⟩] : List Value)[k]? = some (.string (sgn k)) := by
  have : k = 1 ∨ k = 2 ∨ k = 3 ∨ k = 4 ∨ k = 5 ∨ k = 6 ∨ k = 7 ∨ k = 8 ∨ k = 9 ∨ k = 10 := by omega
  rcases this with rfl | rfl | rfl | rfl | rfl | rfl | rfl | rfl | rfl | rfl <;> simp [sgn]
theorem tl_ne {a b : ByteArray} (h : a ≠ b) : (b.toList == a.toList) = false := by
  rw [ByteArray.toList_eq, ByteArray.toList_eq]
  simp only [beq_eq_false_iff_ne, ne_eq]
  exact fun e => h (bytes_inj e.symm)
theorem of_any (s : ByteArray) (w : World) : Calls Tryz.prog 25 #[.string s] w fun e w' => e = .returned (.tuple #[.int .i64 (ofz s), .bool (opb (ofz s))]) ∧ Below w.heap.size w w' := by
  go_enter Tryz.func25, Tryz.ntmps25
  go_wp2_with (go_at_call 49; refine (signs_any _).mono ?_; rintro e w' ⟨rfl, hg⟩)
  go_loop [5] (fun i => ∃ k : Nat, 1 ≤ k ∧ k ≤ 11 ∧ i = .int .i64 k ∧ ∀ j : Nat, 1 ≤ j → j < k → s ≠ sgn j) (fun i => 11 - (intOf i).toNat)
  case atStart => exact ⟨1, by omega, by omega, rfl, fun j a b => by omega⟩
  case round =>
    obtain ⟨k, hk1, hk2, rfl, hj⟩ := hrel
    have HJ : Hid _ := hj
    clear hj
    by_cases hlt : k ≤ 10
    · have hc := at11 k hk1 hlt
      by_cases he : s = sgn k
      · have ht : ((sgn (k : Int)).toList == s.toList) = true := by rw [he]; simp
        have HE : Hid _ := he
        clear he
        go_wp2
        go_ret2
        have hz : ofz s = k := by rw [HE.out]; exact of_hit k (by omega) (by omega)
        rw [hz]
        exact ⟨ret2 rfl (by simp [opb]; omega), hg.alloc hg.size _⟩
      · have ht := tl_ne he
        have HE : Hid _ := he
        clear he
        go_wp2
        go_round
        case rel => exact ⟨k + 1, by omega, by omega, by go_num, fun j a b => if e : j = k then e ▸ HE.out else HJ.out j a (by omega)⟩
        case measure => simp [intOf]; omega
    · go_wp2
      go_ret2
      obtain rfl : k = 11 := by omega
      rw [of_none s (fun j a b => HJ.out j a (by omega))]
      exact ⟨rfl, hg.alloc hg.size _⟩
end Go.Proofs.YtbpdhegfdmppgaaGreatDoor.W
