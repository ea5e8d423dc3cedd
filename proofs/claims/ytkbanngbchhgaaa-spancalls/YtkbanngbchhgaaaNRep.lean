/- CONTRACT of slices.Repeat at one pair. -/
import Derived.Test.YtkbanngbchhgaaaNPart
import Derived.Test.YtkbanngbchhgaaaICut
namespace Go.Proofs.Ytkbanngbchhgaaa
open Go.ChangeShapes Go.WideShapes Go.ChangeAt Go.RowKit

theorem mul_any (n : Nat) (hn : n ≤ 1000000) (w : World) : Calls Try.prog 32 #[.int .u64 1, .int .u64 (n : Int)] w fun e w' => e = .returned (.tuple #[.int .u64 0, .int .u64 (n : Int)]) ∧ w' = w := by
  have h := Any.bits_Mul Try.laysMul 1 n (by omega) (by omega) w
  rw [Nat.one_mul, Nat.div_eq_of_lt (by omega : n < 18446744073709551616), Nat.mod_eq_of_lt (by omega : n < 18446744073709551616)] at h
  exact h
theorem drewB (w : World) : Below w.heap.size w w.drew := ⟨rfl, rfl, rfl, Nat.le_refl _, fun _ _ => rfl⟩
/-- The row, so far: n pairs, all others zero. -/
def rep (p : Int × Int) (n k : Nat) : List (Int × Int) := List.replicate k p ++ List.replicate (n - k) (0, 0)
theorem rep_length (p : Int × Int) (n k : Nat) (h : k ≤ n) : (rep p n k).length = n := by simp [rep]; omega
theorem rep_splice (p : Int × Int) (n k m : Nat) (h : k + m ≤ n) : splice (rep p n k) k (List.replicate m p) = rep p n (k + m) := by
  unfold splice rep
  rw [List.take_left' (by simp), List.length_replicate, List.drop_append, List.length_replicate, List.drop_of_length_le (by simp), List.nil_append, List.drop_replicate, ← List.append_assoc, List.replicate_append_replicate]
  congr 2
  omega
theorem rep_src (p : Int × Int) (n k m : Nat) (hm : m ≤ k) {w : World} {b : Nat} (h : w.heap[b]? = some (spB (rep p n k))) : ∀ j v, (pcs (List.replicate m p))[j]? = some v → w.cell? ((⟨b, 0, none⟩ : Addr).add j) = some v := by
  intro j v hj
  have e : (⟨b, 0, none⟩ : Addr).add j = ⟨b, 0 + j, none⟩ := by unfold Addr.add; split <;> simp_all
  have e2 : rep p n k = List.replicate m p ++ (List.replicate (k - m) p ++ List.replicate (n - k) (0, 0)) := by
    unfold rep
    rw [← List.append_assoc, List.replicate_append_replicate]
    congr 2
    omega
  have hlt : j < (pcs (List.replicate m p)).length := by
    rcases Nat.lt_or_ge j (pcs (List.replicate m p)).length with h1 | h1
    · exact h1
    · rw [List.getElem?_eq_none h1] at hj; cases hj
  rw [e, Nat.zero_add]
  simp only [World.cell?, h, e2, pcs_append, List.getElem?_toArray]
  rw [List.getElem?_append_left hlt, hj]
  rfl
set_option maxRecDepth 100000 in
set_option maxHeartbeats 4000000 in
theorem repeat_any (w : World) (b0 n : Nat) (p : Int × Int) (hn : n ≤ 1000000) (h0 : w.heap[b0]? = some (spB [p])) :
    Calls Try.prog 22 #[.slice (some ⟨b0, 0, none⟩) 1 1, .int .i64 (n : Int)] w fun e w' => e = .returned (.slice (some ⟨w.heap.size, 0, none⟩) n n) ∧ w'.heap[w.heap.size]? = some (spB (List.replicate n p)) ∧ Below w.heap.size w w' := by
  have hM := mul_any n hn
  have hmk := fun w => make_sp w n hn
  have wp : IntKind.u64.wrap (n : Int) = (n : Int) := by rw [IntKind.wrap_u64]; omega
  have wq : IntKind.i64.wrap (n : Int) = (n : Int) := by rw [IntKind.wrap_i64]; omega
  have i0 : ¬ (n : Int) < 0 := by omega
  have i1 : ¬ (9223372036854775807 : Int) < (n : Int) := by omega
  have hx0 := heap_alloc_new w (spB (List.replicate n (0, 0)))
  have hx : (w.alloc (spB (List.replicate n (0, 0)))).heap[w.heap.size]? = some (spB (rep p n 0)) := by rw [hx0]; simp [rep]
  have hsr : ∀ j v, (pcs (List.replicate (min 1 n) p))[j]? = some v → (w.alloc (spB (List.replicate n (0, 0)))).cell? ((⟨b0, 0, none⟩ : Addr).add j) = some v := by
    intro j v hj
    have e : (⟨b0, 0, none⟩ : Addr).add j = ⟨b0, 0 + j, none⟩ := by unfold Addr.add; split <;> simp_all
    have h1 : (w.alloc (spB (List.replicate n (0, 0)))).heap[b0]? = some (spB [p]) := (heap_alloc_old w _ (lt_of_some h0)).trans h0
    rw [e, Nat.zero_add]
    simp only [World.cell?, h1, List.getElem?_toArray]
    have h2 : (pcs ([p] : List (Int × Int)))[j]? = some v := by
      rcases Nat.eq_zero_or_pos n with rfl | hp
      · simp [pcs] at hj
      · rw [Nat.min_eq_left hp] at hj; exact hj
    rw [h2]
    rfl
  have hcp : ∃ W, (Builtin.copy_ #[31, 31] 3 #[.slice (some ⟨w.heap.size, 0, none⟩) n n, .slice (some ⟨b0, 0, none⟩) 1 1]).run Try.prog (w.alloc (spB (List.replicate n (0, 0)))) = .ok (goInt (Nat.min 1 n)) W ∧ W.heap[w.heap.size]? = some (spB (rep p n (Nat.min 1 n))) ∧ Below w.heap.size w W := by
    have hfit : 0 + (pcs (List.replicate (min 1 n) p)).length ≤ (pcs (rep p n 0)).toArray.size := by
      have := Nat.min_le_right 1 n
      rw [List.size_toArray, pcs_length, pcs_length, List.length_replicate, rep_length _ _ _ (Nat.zero_le _)]; omega
    have := run_copy_sz Try.prog (w.alloc (spB (List.replicate n (0, 0)))) 31 31 3 26 2 w.heap.size 0 n n ⟨b0, 0, none⟩ 1 1 _ _ (pcs (List.replicate (min 1 n) p)) Try.underlying31 (by kernel_rfl) hx (by rw [pcs_length, List.length_replicate]) hsr hfit (pcs_one _)
    refine ⟨_, this, ?_, below_setRow (bl_alloc (Below.refl _ _) _) (Nat.le_refl _) _⟩
    rw [setRow_heap _ _ _ _ _ _ hx]
    have h1 := splice_sp (rep p n 0) (List.replicate (min 1 n) p) 0
    have h2 := rep_splice p n 0 (min 1 n) (by rw [Nat.zero_add]; exact Nat.min_le_right 1 n)
    rw [h2, Nat.zero_add] at h1
    unfold spB
    have e : min 1 n = Nat.min 1 n := rfl
    rw [← e, ← h1]
    simp [splice]
  obtain ⟨W, hcp, hW, hBW⟩ := hcp
  have HW : Hid _ := hW
  have HBW : Hid _ := hBW
  clear hx0 hx hsr h0 hW hBW
  obtain ⟨m0, hm0⟩ : ∃ m0, Nat.min 1 n = m0 := ⟨_, rfl⟩
  have hm1 : m0 ≤ n ∧ (0 < n → 0 < m0) := by
    subst hm0
    exact ⟨Nat.min_le_right 1 n, fun h => by show 0 < min 1 n; omega⟩
  rw [hm0] at HW hcp
  obtain ⟨hm2, hm3⟩ := hm1
  have HM0 : Hid _ := hm0
  clear hm0
  go_enter Try.func22, Try.ntmps22
  go_upto_region 7 with (first | (go_at_call 32; refine (hM _).mono ?_; rintro e w1 ⟨rfl, rfl⟩))
  go_upto_region 8 with fail
  clear hM hmk hcp
  go_loopw [8] (fun i wr => ∃ k : Nat, k ≤ n ∧ (0 < n → 0 < k) ∧ i = .int .i64 k ∧ wr.heap[w1.heap.size]? = some (spB (rep p n k)) ∧ Below w1.heap.size w1 wr) (fun i _ => n - (intOf i).toNat)
  case atStart => exact ⟨m0, hm2, hm3, rfl, HW.out, HBW.out⟩
  case round =>
    obtain ⟨k, hk, hk0, rfl, hx, hbl⟩ := hrel
    have HX : Hid _ := hx
    have HB : Hid _ := hbl
    clear hx hbl
    by_cases hlt : k < n
    · have hk1 := hk0 (by omega)
      have i2 : (k : Int) < (n : Int) := by omega
      have i3 : ¬ n = k := by omega
      obtain ⟨m, hm⟩ : ∃ m, Nat.min k (n - k) = m := ⟨_, rfl⟩
      have hm4 : 0 < m ∧ m ≤ k ∧ k + m ≤ n := by
        subst hm
        have h1 := Nat.min_le_left k (n - k)
        have h2 := Nat.min_le_right k (n - k)
        have h3 : 0 < min k (n - k) := by omega
        exact ⟨h3, h1, by have : Nat.min k (n - k) ≤ n - k := h2; omega⟩
      obtain ⟨hm4, hm5, hm6⟩ := hm4
      have hcq : ∃ W3, (Builtin.copy_ #[31, 31] 3 #[.slice (some ⟨w1.heap.size, k * 2, none⟩) (n - k) (n - k), .slice (some ⟨w1.heap.size, 0, none⟩) k n]).run Try.prog wr.drew = .ok (goInt m) W3 ∧ W3.heap[w1.heap.size]? = some (spB (rep p n (k + m))) ∧ Below w1.heap.size w1 W3 := by
        have hfit : k * 2 + (pcs (List.replicate m p)).length ≤ (pcs (rep p n k)).toArray.size := by
          rw [List.size_toArray, pcs_length, pcs_length, List.length_replicate, rep_length _ _ _ hk]; omega
        have := run_copy_sz Try.prog wr.drew 31 31 3 26 2 w1.heap.size (k * 2) (n - k) (n - k) ⟨w1.heap.size, 0, none⟩ k n _ _ (pcs (List.replicate m p)) Try.underlying31 (by kernel_rfl) HX.out (by rw [pcs_length, List.length_replicate, hm]) (rep_src p n k m hm5 HX.out) hfit (pcs_one _)
        rw [hm] at this
        refine ⟨_, this, ?_, below_setRow (bl_then HB.out (drewB wr)) (Nat.le_refl _) _⟩
        rw [setRow_heap wr.drew _ _ _ _ _ HX.out]
        have h1 := splice_sp (rep p n k) (List.replicate m p) k
        rw [rep_splice p n k m hm6] at h1
        unfold spB
        rw [← h1]
        simp [splice]
      obtain ⟨W3, hcq, hx3, hb3⟩ := hcq
      have HX3 : Hid _ := hx3
      have HB3 : Hid _ := hb3
      clear hm hx3 hb3
      go_wp2_with fail
      go_region
      go_wp2_with fail
      go_roundw
      case rel => exact ⟨k + m, hm6, fun _ => by omega, by go_num, HX3.out, HB3.out⟩
      case measure => simp [intOf]; omega
    · obtain rfl : k = n := by omega
      go_wp2_with fail
      go_ret
      exact ⟨rfl, by rw [HX.out]; simp [rep], HB.out⟩
end Go.Proofs.Ytkbanngbchhgaaa
