/- PLAIN FACTS of the functions that SpanParams makes; their parts in memory. -/
import Derived.Test.YtkbanngbchhgaaaNRSpans
namespace Go.Proofs.Ytkbanngbchhgaaa
open Go.ChangeShapes Go.WideShapes Go.ChangeAt Go.RowKit

def ciX (W : Nat) : Ir := ⟨1, 0, W, 0, 0, 0, 0, [], []⟩
def reX (k : Nat) : Ir := ⟨10, 0, 0, k, 0, 0, 0, [], []⟩
def parL (W m k : Nat) : List Ir := List.replicate m (ciX W) ++ [reX k]
def parC (W m k : Nat) : Co := ⟨[97, 46, 102], List.replicate W ⟨false, 0⟩, (W : Int) + 1, 0, parL W m k⟩
theorem parL_len (W m k : Nat) : (parL W m k).length = m + 1 := by simp [parL]
theorem faultFrom_ok {c : Co} : ∀ (l : List Ir) (i : Nat), (∀ j (h : j < l.length), faultN c (i + j) l[j] = 0) → (faultFrom c i l).1 = 0
  | [], _, _ => rfl
  | y :: l, i, h => by
    unfold faultFrom
    rw [if_pos (show faultN c i y = 0 from h 0 (by simp))]
    exact faultFrom_ok l (i + 1) fun j hj => by
      have := h (j + 1) (by simpa using hj)
      rw [show i + 1 + j = i + (j + 1) by omega]
      exact this
theorem words_rep : ∀ W : Nat, wordsN (List.replicate W ⟨false, 0⟩) = W
  | 0 => rfl
  | W + 1 => by rw [List.replicate_succ, wordsN, words_rep W]; simp; omega
theorem cells_rep : ∀ W : Nat, cellsN (List.replicate W ⟨false, 0⟩) = 0
  | 0 => rfl
  | W + 1 => by rw [List.replicate_succ, cellsN, cells_rep W]; rfl
theorem par_right {W m k : Nat} (hW : W ≤ 6) (hm : m ≤ 50) (hk : k < W) : (rightR (parC W m k)).1 = 0 := by
  have hf : formB (parC W m k) = true := by
    have h1 : fullB [97, 46, 102] = true := by decide
    unfold formB parC
    simp only [Bool.and_eq_true, decide_eq_true_eq, List.length_replicate, parL_len, words_rep, cells_rep, h1, List.all_eq_true]
    refine ⟨⟨⟨⟨⟨⟨⟨⟨trivial, hW⟩, by omega⟩, by omega⟩, fun t ht => ?_⟩, by omega⟩, by omega⟩, by omega⟩, by omega⟩
    rw [(List.mem_replicate.1 ht).2]
    decide
  unfold rightR
  rw [if_pos hf]
  refine faultFrom_ok _ _ fun j hj => ?_
  have hl : (parC W m k).l = parL W m k := rfl
  have hlen : (parC W m k).l.length = m + 1 := parL_len W m k
  rw [Nat.zero_add]
  have hj' : j < m + 1 := by rw [← hlen]; exact hj
  by_cases hjm : j < m
  · have he : (parC W m k).l[j] = ciX W := by
      simp only [hl, parL]
      rw [List.getElem_append_left (by simpa using hjm), List.getElem_replicate]
    rw [he]
    unfold faultN
    rw [hlen]
    have h2 : inB (parC W m k).regs (ciX W).d = true := by unfold inB parC ciX; simp only [decide_eq_true_eq]; omega
    have h3 : knownB (ciX W) = true := by unfold knownB ciX; simp
    have h4 : readsL (ciX W) = [] := by unfold readsL ciX; simp
    rw [h3, h4, h2]
    simp [ciX]
    omega
  · obtain rfl : j = m := by omega
    have he : (parC W j k).l[j] = reX k := by
      simp only [hl, parL]
      rw [List.getElem_append_right (by simp)]
      simp
    rw [he]
    unfold faultN
    have h2 : inB (parC W j k).regs (k : Int) = true := by unfold inB parC; simp only [decide_eq_true_eq]; omega
    have h3 : knownB (reX k) = true := by unfold knownB reX; simp
    have h4 : readsL (reX k) = [(k : Int)] := by unfold readsL reX; simp
    have h5 : writesB (reX k) = false := by unfold writesB reX; simp
    rw [h3, h4, h5]
    simp [h2, reX]
theorem touch_ci (W : Nat) (r : Int) : touchB (ciX W) r = decide ((W : Int) = r) := by
  unfold touchB readsL writesB ciX
  simp
  rfl
theorem touch_re (k : Nat) (r : Int) : touchB (reX k) r = decide ((k : Int) = r) := by
  unfold touchB readsL writesB reX
  simp
  rfl
theorem spanR_re (k a : Nat) (r : Int) : spanR r a [reX k] = if (k : Int) = r then ((a : Int), (a : Int)) else (-1, -1) := by
  unfold spanR
  rw [touch_re]
  by_cases h : (k : Int) = r
  · simp only [h, decide_true, if_true]
    show ((a : Int), max (-1 : Int) (a : Int)) = _
    rw [show max (-1 : Int) (a : Int) = (a : Int) by omega]
  · simp only [h, decide_false, if_false]
    rfl
theorem spanR_par (W k : Nat) (r : Int) (hr : (W : Int) ≠ r) : ∀ (j a : Nat), spanR r a (List.replicate j (ciX W) ++ [reX k]) = if (k : Int) = r then (((a + j : Nat) : Int), ((a + j : Nat) : Int)) else (-1, -1)
  | 0, a => by simpa using spanR_re k a r
  | j + 1, a => by
    rw [List.replicate_succ, List.cons_append]
    unfold spanR
    rw [touch_ci, decide_eq_false hr, spanR_par W k r hr j (a + 1)]
    rw [show a + 1 + j = a + (j + 1) by omega]
    rfl
theorem spanR_parW (W k : Nat) (hk : k < W) : ∀ (j a : Nat), spanR (W : Int) a (List.replicate j (ciX W) ++ [reX k]) = if j = 0 then (-1, -1) else ((a : Int), (a : Int) + j - 1)
  | 0, a => by
    have := spanR_re k a (W : Int)
    rw [if_neg (by omega)] at this
    simpa using this
  | j + 1, a => by
    rw [List.replicate_succ, List.cons_append]
    unfold spanR
    rw [touch_ci, decide_eq_true rfl, spanR_parW W k hk j (a + 1)]
    simp only [if_true]
    rw [if_neg (show ¬ j + 1 = 0 by omega)]
    by_cases hj : j = 0
    · rw [if_pos hj]
      subst hj
      show ((a : Int), max (-1 : Int) (a : Int)) = _
      rw [show max (-1 : Int) (a : Int) = (a : Int) by omega]
      congr 1
      omega
    · rw [if_neg hj]
      show ((a : Int), max (((a + 1 : Nat) : Int) + j - 1) (a : Int)) = _
      rw [show max (((a + 1 : Nat) : Int) + j - 1) (a : Int) = (a : Int) + ((j + 1 : Nat) : Int) - 1 by omega]
theorem span_par {W m k r : Nat} (hr : r < W) : spanN (parC W m k) r = (-1, if r = k then (m : Int) else -1) := by
  unfold spanN
  have hw : wordsN (parC W m k).ps = W := words_rep W
  have hl : (parC W m k).l = List.replicate m (ciX W) ++ [reX k] := rfl
  rw [hw, if_pos hr, hl, spanR_par W k (r : Int) (by omega) m 0, Nat.zero_add]
  by_cases h : r = k
  · subst h; simp
  · rw [if_neg (by omega), if_neg h]
theorem span_parW {W m k : Nat} (hk : k < W) : spanN (parC W m k) W = if m = 0 then (-1, -1) else (0, (m : Int) - 1) := by
  unfold spanN
  have hw : wordsN (parC W m k).ps = W := words_rep W
  have hl : (parC W m k).l = List.replicate m (ciX W) ++ [reX k] := rfl
  rw [hw, if_neg (by omega), hl, spanR_parW W k hk m 0]
  split
  · rfl
  · simp
theorem par_ok (W m k : Nat) : CoOk (parC W m k) := ⟨by show ([97, 46, 102] : List UInt8).length ≤ _; decide, fun y hy => by
  have hy2 : y ∈ List.replicate m (ciX W) ++ [reX k] := hy
  rcases List.mem_append.1 hy2 with h | h
  · rw [(List.mem_replicate.1 h).2]; exact ⟨Nat.zero_le _, Nat.zero_le _⟩
  · rw [List.mem_singleton.1 h]; exact ⟨Nat.zero_le _, Nat.zero_le _⟩⟩
/-- The cells of types of words. -/
def tcs : Nat → List Value
  | 0 => []
  | n + 1 => .bool false :: .int .i64 0 :: tcs n
theorem made_ty0 : madeCells #[.bool false, .int .i64 0] 0 = (tcs 0).toArray := by kernel_rfl
theorem made_ty1 : madeCells #[.bool false, .int .i64 0] 2 = (tcs 1).toArray := by kernel_rfl
theorem made_ty2 : madeCells #[.bool false, .int .i64 0] 4 = (tcs 2).toArray := by kernel_rfl
theorem made_ty3 : madeCells #[.bool false, .int .i64 0] 6 = (tcs 3).toArray := by kernel_rfl
theorem made_ty4 : madeCells #[.bool false, .int .i64 0] 8 = (tcs 4).toArray := by kernel_rfl
theorem made_ty5 : madeCells #[.bool false, .int .i64 0] 10 = (tcs 5).toArray := by kernel_rfl
theorem made_ty6 : madeCells #[.bool false, .int .i64 0] 12 = (tcs 6).toArray := by kernel_rfl
theorem made_ty {W : Nat} (h : W ≤ 6) : madeCells #[.bool false, .int .i64 0] (W * 2) = (tcs W).toArray := by
  have : W = 0 ∨ W = 1 ∨ W = 2 ∨ W = 3 ∨ W = 4 ∨ W = 5 ∨ W = 6 := by omega
  rcases this with rfl | rfl | rfl | rfl | rfl | rfl | rfl
  · exact made_ty0
  · exact made_ty1
  · exact made_ty2
  · exact made_ty3
  · exact made_ty4
  · exact made_ty5
  · exact made_ty6
theorem tcs_lay {w : World} {S : Nat → Prop} : ∀ W : Nat, kTy.lay w S (tcs W) (List.replicate W ⟨false, 0⟩)
  | 0 => rfl
  | W + 1 => ⟨[.bool false, .int .i64 0], tcs W, rfl, rfl, tcs_lay W⟩
theorem tys_row {w : World} {b W : Nat} (h : w.heap[b]? = some (.cells (tcs W).toArray 56)) : kTy.row w (fun _ => True) (some ⟨b, 0, none⟩) (List.replicate W ⟨false, 0⟩) :=
  kTy.lay_row (S := fun _ => True) (fun _ h => h) b trivial 0 (tcs_lay W) fun j u hj => by simp [World.cell?, h, hj]
theorem ty_info2 : (Try.prog.info? 56).map (fun i => (i.zero, i.size, i.bytes)) = some (some (.agg #[.bool false, .int .i64 0]), 2, 16) := by kernel_rfl
theorem make_tys (w : World) (W : Nat) (hW : W ≤ 6) : (Instr.makeSlice 22 (.int .i64 (W : Int)) (.int .i64 (W : Int))).run Try.prog w = .ok (.slice (some ⟨w.heap.size, 0, none⟩) W W) (w.alloc (.cells (tcs W).toArray 56)) := by
  obtain ⟨i0, hi0, hz0, hz1, hz2⟩ := info_parts ty_info2
  have hr := run_make (P := Try.prog) w 22 56 i0 _ Try.underlying22 hi0 hz0 .i64 .i64 (W : Int) (W : Int) (by omega) (by omega) (by rw [hz2]; omega) (by omega)
  simp only [Int.toNat_natCast] at hr
  rw [hr, hz1, ← made_ty hW]
  rfl
end Go.Proofs.Ytkbanngbchhgaaa
