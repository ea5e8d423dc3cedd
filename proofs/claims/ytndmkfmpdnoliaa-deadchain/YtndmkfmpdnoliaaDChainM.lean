/- PLAIN FACTS of DeadChain: a row of copies, what of it is dead. -/
import Derived.Test.YtndmkfmpdnoliaaDMath
namespace Go.Proofs.Ytndmkfmpdnoliaa

def cpX (i : Nat) : Ir := ⟨2, 0, (i : Int) + 1, i, 0, 0, 0, [], []⟩
def rtX (r : Nat) : Ir := ⟨10, 0, 0, r, 0, 0, 0, [], []⟩
/-- So many copies from a register on. -/
def seg : Nat → Nat → List Ir
  | _, 0 => []
  | j, m + 1 => cpX j :: seg (j + 1) m
theorem seg_len : ∀ (m j : Nat), (seg j m).length = m
  | 0, _ => rfl
  | m + 1, j => by rw [seg, List.length_cons, seg_len m]
theorem seg_snoc : ∀ (m j : Nat), seg j (m + 1) = seg j m ++ [cpX (j + m)]
  | 0, j => rfl
  | m + 1, j => by rw [seg, seg_snoc m (j + 1), show j + 1 + m = j + (m + 1) by omega]; rfl
theorem seg_mem : ∀ {m j : Nat} {x : Ir}, x ∈ seg j m → ∃ i, j ≤ i ∧ i < j + m ∧ x = cpX i
  | 0, j, x, h => by simp [seg] at h
  | m + 1, j, x, h => by
    rcases List.mem_cons.1 h with rfl | h
    · exact ⟨j, by omega, by omega, rfl⟩
    · obtain ⟨i, h1, h2, h3⟩ := seg_mem h
      exact ⟨i, by omega, by omega, h3⟩
/-- The function that is written. -/
def chL (n r : Nat) : List Ir := (⟨1, 0, 0, 0, 0, 0, 5, [], []⟩ : Ir) :: seg 0 n ++ [rtX r]
def chC (n r : Nat) : Co := ⟨[97, 46, 102], [], (n : Int) + 2, 0, chL n r⟩
theorem chL_len (n r : Nat) : (chL n r).length = n + 2 := by simp [chL, seg_len]
theorem cp_dead (R : List Int) (i : Nat) : deadX R (cpX i) = !R.contains ((i : Int) + 1) := by simp [deadX, idleB, cpX]
theorem rt_dead (R : List Int) (r : Nat) : deadX R (rtX r) = false := by simp [deadX, idleB, rtX]
theorem keep_all (P : Nat → Nat) : ∀ (m j : Nat), (rdL (seg j m ++ [rtX (j + m)])).contains (j : Int) = true ∧ (keepL P (seg j m ++ [rtX (j + m)])).length = m + 1
  | 0, j => by simp [seg, rdL, keepL, deadX, idleB, readsL, rtX]
  | m + 1, j => by
    obtain ⟨h1, h2⟩ := keep_all P m (j + 1)
    rw [show j + (m + 1) = j + 1 + m by omega]
    have hd : deadX (rdL (seg (j + 1) m ++ [rtX (j + 1 + m)])) (cpX j) = false := by
      rw [cp_dead, show ((j : Int) + 1) = ((j + 1 : Nat) : Int) by omega, h1]; rfl
    rw [seg, List.cons_append, rdL, keepL, hd]
    simp only [Bool.false_eq_true, if_false, List.length_cons, h2]
    refine ⟨?_, trivial⟩
    simp [readsL, cpX]
theorem keep_none (P : Nat → Nat) (r : Nat) : ∀ (m j : Nat), j + m < r → rdL (seg j m ++ [rtX r]) = [(r : Int)] ∧ (keepL P (seg j m ++ [rtX r])).length = 1
  | 0, j, _ => by simp [seg, rdL, keepL, deadX, idleB, readsL, rtX]
  | m + 1, j, h => by
    obtain ⟨h1, h2⟩ := keep_none P r m (j + 1) (by omega)
    have hd : deadX (rdL (seg (j + 1) m ++ [rtX r])) (cpX j) = true := by
      rw [cp_dead, h1]
      simp; omega
    rw [seg, List.cons_append, rdL, keepL, hd]
    simp only [if_true, h1, h2]
    exact ⟨trivial, trivial⟩
theorem ch_all (n : Nat) : (freeL (chL n n)).length = n + 2 := by
  unfold freeL
  generalize live (deadL (chL n n)) = P
  obtain ⟨h1, h2⟩ := keep_all P n 0
  rw [Nat.zero_add] at h1 h2
  unfold chL
  have hd : deadX (rdL (seg 0 n ++ [rtX n])) ⟨1, 0, 0, 0, 0, 0, 5, [], []⟩ = false := by
    simp only [deadX, idleB]
    have h1' : (rdL (seg 0 n ++ [rtX n])).contains (0 : Int) = true := h1
    rw [h1']; rfl
  rw [List.cons_append, keepL, hd]
  simp only [Bool.false_eq_true, if_false, List.length_cons, h2]
theorem ch_none (n : Nat) : (freeL (chL n (n + 1))).length = 1 := by
  unfold freeL
  generalize live (deadL (chL n (n + 1))) = P
  obtain ⟨h1, h2⟩ := keep_none P (n + 1) n 0 (by omega)
  unfold chL
  have hd : deadX (rdL (seg 0 n ++ [rtX (n + 1)])) ⟨1, 0, 0, 0, 0, 0, 5, [], []⟩ = true := by
    rw [h1]
    simp [deadX, idleB]; omega
  rw [List.cons_append, keepL, hd]
  simp only [if_true, h2]
theorem ch_right {n r : Nat} (hn : n ≤ 100) (hr : r < n + 2) : (rightR (chC n r)).1 = 0 := by
  rw [right_all ?_ ?_]
  · have e : (chC n r).l.length = n + 2 := chL_len n r
    unfold formB
    rw [e]
    have h1 : fullB (chC n r).name = true := (by decide +kernel : fullB [97, 46, 102] = true)
    rw [h1]
    show (true && decide (([] : List Ty).length ≤ 6) && decide (0 < n + 2) && decide (n + 2 ≤ 10000) && ([] : List Ty).all tyOk && decide (((wordsN [] : Nat) : Int) ≤ (n : Int) + 2) && decide ((n : Int) + 2 ≤ 10000) && decide (cellsN [] ≤ 0) && decide ((0 : Int) ≤ 4096)) = true
    simp [wordsN, cellsN]
    exact ⟨⟨by omega, decide_eq_true (by omega)⟩, by omega⟩
  · intro k hk
    have hlen : (chC n r).l.length = n + 2 := chL_len n r
    have hk2 : k < n + 2 := by rw [← hlen]; exact hk
    have hget : (chC n r).l[k]'hk = (chL n r)[k]'(by rw [chL_len]; exact hk2) := rfl
    rw [hget]
    have hmem := List.getElem_mem (l := chL n r) (n := k) (by rw [chL_len]; exact hk2)
    have hlast : k + 1 = n + 2 → (chL n r)[k]'(by rw [chL_len]; exact hk2) = rtX r := fun e => by
      have h1 : (chL n r)[n + 1]? = some (rtX r) := by
        unfold chL
        rw [List.getElem?_append_right (by simp [seg_len])]
        simp [seg_len]
      obtain rfl : k = n + 1 := by omega
      rw [List.getElem?_eq_getElem (by rw [chL_len]; omega)] at h1
      exact Option.some.inj h1
    generalize (chL n r)[k]'(by rw [chL_len]; exact hk2) = x at hmem hlast
    refine faultN_of ?_
    have hx : x = ⟨1, 0, 0, 0, 0, 0, 5, [], []⟩ ∨ (∃ i, i < n ∧ x = cpX i) ∨ x = rtX r := by
      unfold chL at hmem
      rcases List.mem_append.1 hmem with h | h
      · rcases List.mem_cons.1 h with h | h
        · exact .inl h
        · obtain ⟨i, _, h2, h3⟩ := seg_mem h
          exact .inr (.inl ⟨i, by omega, h3⟩)
      · exact .inr (.inr (List.mem_singleton.1 h))
    have hl2 : k + 1 = (chC n r).l.length → x.kind = 10 := fun e => by rw [hlast (by rw [← hlen]; exact e)]; rfl
    have hregs : (chC n r).regs = (n : Int) + 2 := rfl
    rcases hx with rfl | ⟨i, hi, rfl⟩ | rfl
    · exact ⟨rfl, fun a ha => by simp [readsL] at ha, fun _ => by rw [hregs]; exact ⟨by decide, by show (0 : Int) < _; omega⟩, fun h => by simp at h, fun h => by simp at h, hl2⟩
    · exact ⟨rfl, fun a ha => by simp [readsL, cpX] at ha; rw [hregs]; omega, fun _ => by rw [hregs]; simp only [cpX]; omega, fun h => by simp [cpX] at h, fun h => by simp [cpX] at h, hl2⟩
    · exact ⟨rfl, fun a ha => by simp [readsL, rtX] at ha; rw [hregs]; omega, fun h => by simp [writesB, rtX] at h, fun h => by simp [rtX] at h, fun h => by simp [rtX] at h, hl2⟩
end Go.Proofs.Ytndmkfmpdnoliaa
