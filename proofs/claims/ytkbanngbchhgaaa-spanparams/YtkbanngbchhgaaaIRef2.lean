/- CONTRACTS of the reference's Words, Reads and Writes. -/
import Derived.Test.YtkbanngbchhgaaaIRName
namespace Go.Proofs.Ytkbanngbchhgaaa
open Go.ChangeShapes Go.WideShapes Go.ChangeAt Go.RowKit

set_option maxRecDepth 100000 in
set_option maxHeartbeats 1000000 in
theorem refWords_any {S : Nat → Prop} (w : World) (a : Option Addr) (l : List Ty) (c : Nat) (h : kTy.row w S a l) (hok : l.all tyOk = true) (hl : l.length ≤ 1000000) :
    Calls Try.prog 26 #[.slice a l.length c] w fun e w' => e = .returned (.tuple #[.int .i64 (wordsN l : Nat), .int .i64 (cellsN l)]) ∧ Below w.heap.size w w' := by
  go_enter Try.func26, Try.ntmps26
  go_wp2
  go_loopw [4, 5, 6] (fun n m i wr => ∃ k : Nat, k ≤ l.length ∧ i = .int .i64 k ∧ n = .int .i64 (wordsN (l.take k) : Nat) ∧ m = .int .i64 (cellsN (l.take k)) ∧ Below w.heap.size w wr) (fun _ _ i _ => l.length - (intOf i).toNat)
  case atStart => exact ⟨0, Nat.zero_le _, rfl, rfl, rfl, Below.refl _ _⟩
  case round =>
    obtain ⟨k, hk, rfl, rfl, rfl, hbl⟩ := hrel
    have HB : Hid (Below w.heap.size w wr) := hbl
    by_cases hlt : k < l.length
    · obtain ⟨b, o, rfl, hS, hb, h0, h1⟩ := ty_at h k hlt
      have e0 := (hbl.cell (p := ⟨b, o + k * 2, none⟩) hb).trans h0
      have e1 := (hbl.cell (p := ⟨b, o + k * 2 + 1, none⟩) hb).trans h1
      have hty : tyOk l[k] = true := (List.all_eq_true.1 hok) _ (List.getElem_mem hlt)
      simp only [tyOk, Bool.and_eq_true, decide_eq_true_eq] at hty
      obtain ⟨t0, t1⟩ := hty
      have HW := wordsN_take l k hlt
      have HC := cellsN_take l k hlt
      have hw1 := wordsN_bd (l.take k)
      have hc1 := cellsN_bd (l.take k) (all_take hok k)
      have hlen : (l.take k).length ≤ k := by rw [List.length_take]; omega
      have hw2 : wordsN (l.take k) ≤ 1000000 := by omega
      have hc2 : 0 ≤ cellsN (l.take k) ∧ cellsN (l.take k) ≤ 16000000 := by omega
      generalize hgw : wordsN (l.take k) = nw at HW hw2
      generalize hgc : cellsN (l.take k) = nc at HC hc2
      have HW' : Hid _ := HW
      have HC' : Hid _ := HC
      obtain ⟨hc2a, hc2b⟩ := hc2
      generalize hgt : l[k].len = tl at e1 t0 t1 HW HC HW' HC'
      have hk0 : (0 : Int) ≤ (k : Int) := by omega
      have hk1 : (k : Int) < (l.length : Int) := by omega
      clear h0 h1 hbl HW HC hw1 hc1 hlen hgt
      by_cases hz : tl = 0
      · subst hz
        go_wp2_with fail
        go_roundw
        case rel => exact ⟨k + 1, by omega, by go_num, by rw [HW'.out]; simp, by rw [HC'.out]; simp, HB.out⟩
        case measure => simp [intOf]; omega
      · have hz' : (tl == 0) = false := by simpa using hz
        go_wp2_with fail
        go_roundw
        case rel => exact ⟨k + 1, by omega, by go_num, by rw [HW'.out]; simp [hz], by rw [HC'.out], HB.out⟩
        case measure => simp [intOf]; omega
    · obtain rfl : k = l.length := by omega
      rw [List.take_length]
      go_wp2_with fail
      go_ret2
      exact ⟨rfl, HB.out⟩
set_option maxHeartbeats 1000000 in
theorem refReads_any {S : Nat → Prop} (x : Ir) (a : Option Addr) (c : Nat) (w : World) (hr : kInt.row w S a x.args) (hc : x.args.length ≤ c) :
    Calls Try.prog 19 #[irV x a c] w fun e w' => (∃ v, e = .returned v ∧ ReadsAt w w' S v (readsL x)) ∧ Below w.heap.size w w' := by
  obtain ⟨kd, op, d, xa, xb, xc, n, nm, ag⟩ := x
  unfold irV
  simp only [readsL] at *
  by_cases h1 : kd = 2 ∨ kd = 6 ∨ kd = 9 ∨ kd = 10
  · rw [if_pos h1]
    rcases h1 with rfl | rfl | rfl | rfl
    all_goals
      go_enter Try.func19, Try.ntmps19
      go_wp2
      go_ret
      exact ⟨⟨_, rfl, new_ints w _ [xa] 3⟩, bl_alloc (bl_alloc (Below.refl _ _) _) _⟩
  rw [if_neg h1]
  have g2 : (kd == 2) = false := by simp; omega
  have g6 : (kd == 6) = false := by simp; omega
  have g9 : (kd == 9) = false := by simp; omega
  have g10 : (kd == 10) = false := by simp; omega
  by_cases h3 : kd = 3
  · rw [if_pos h3]
    subst h3
    go_enter Try.func19, Try.ntmps19
    go_wp2
    go_ret
    exact ⟨⟨_, rfl, new_ints w _ [xa, xb] 3⟩, bl_alloc (bl_alloc (Below.refl _ _) _) _⟩
  rw [if_neg h3]
  have g3 : (kd == 3) = false := by simpa using h3
  by_cases h4 : kd = 4
  · rw [if_pos h4]
    subst h4
    go_enter Try.func19, Try.ntmps19
    go_wp2
    go_ret
    exact ⟨⟨_, rfl, new_ints w _ [xa, xb, xc] 3⟩, bl_alloc (bl_alloc (Below.refl _ _) _) _⟩
  rw [if_neg h4]
  have g4 : (kd == 4) = false := by simpa using h4
  by_cases h7 : kd = 7
  · rw [if_pos h7]
    subst h7
    go_enter Try.func19, Try.ntmps19
    go_wp2
    go_ret
    exact ⟨⟨_, rfl, ⟨a, c, rfl, kInt.row_mono (by decide) hr fun b hb hlt => ⟨.inl hb, heap_alloc_old w _ hlt⟩, hc⟩⟩, bl_alloc (Below.refl _ _) _⟩
  rw [if_neg h7]
  have g7 : (kd == 7) = false := by simpa using h7
  go_enter Try.func19, Try.ntmps19
  go_wp2
  go_ret
  exact ⟨⟨_, rfl, ⟨none, 0, rfl, trivial, Nat.le_refl _⟩⟩, bl_alloc (Below.refl _ _) _⟩
theorem refWrites_any (x : Ir) (a : Option Addr) (c : Nat) (w : World) :
    Calls Try.prog 20 #[irV x a c] w fun e w' => e = .returned (.bool (writesB x)) ∧ Below w.heap.size w w' := by
  obtain ⟨kd, op, d, xa, xb, xc, n, nm, ag⟩ := x
  unfold irV
  have HW : Hid (writesB ⟨kd, op, d, xa, xb, xc, n, nm, ag⟩ = decide (1 ≤ kd ∧ kd ≤ 5 ∨ kd = 7)) := by
    show _ = _
    unfold writesB
    simp only
    congr 1
    apply propext
    omega
  by_cases h1 : 1 ≤ kd
  · by_cases h5 : kd ≤ 5
    · have H : Hid (writesB ⟨kd, op, d, xa, xb, xc, n, nm, ag⟩ = true) := by show _ = _; rw [HW.out]; simp; omega
      go_enter Try.func20, Try.ntmps20
      go_wp2
      go_ret
      exact ⟨ret_bool (by rw [H.out]), bl_alloc (Below.refl _ _) _⟩
    · have g5 : ¬ kd ≤ 5 := h5
      by_cases h7 : kd = 7
      · subst h7
        have H : Hid (writesB ⟨7, op, d, xa, xb, xc, n, nm, ag⟩ = true) := by show _ = _; rw [HW.out]; simp
        go_enter Try.func20, Try.ntmps20
        go_wp2
        go_ret
        exact ⟨ret_bool (by rw [H.out]), bl_alloc (Below.refl _ _) _⟩
      · have g7 : (kd == 7) = false := by simpa using h7
        have H : Hid (writesB ⟨kd, op, d, xa, xb, xc, n, nm, ag⟩ = false) := by show _ = _; rw [HW.out]; simp; omega
        go_enter Try.func20, Try.ntmps20
        go_wp2
        go_ret
        exact ⟨ret_bool (by rw [H.out]), bl_alloc (Below.refl _ _) _⟩
  · have g7 : (kd == 7) = false := by simp; omega
    have H : Hid (writesB ⟨kd, op, d, xa, xb, xc, n, nm, ag⟩ = false) := by show _ = _; rw [HW.out]; simp; omega
    go_enter Try.func20, Try.ntmps20
    go_wp2
    go_ret
    exact ⟨ret_bool (by rw [H.out]), bl_alloc (Below.refl _ _) _⟩
end Go.Proofs.Ytkbanngbchhgaaa
