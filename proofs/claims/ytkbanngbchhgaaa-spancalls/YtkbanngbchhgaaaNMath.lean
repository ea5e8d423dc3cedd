/- SPANS, told in plain Lean: as the program finds them, and as they are asked for. -/
import Derived.Test.YtkbanngbchhgaaaIData
namespace Go.Proofs.Ytkbanngbchhgaaa

/-- The registers that an instruction reads or writes. -/
def regsL (y : Ir) : List Int :=
  if y.kind = 1 ∨ y.kind = 5 then [y.d] else if y.kind = 2 then [y.d, y.a] else if y.kind = 3 then [y.d, y.a, y.b] else if y.kind = 4 then [y.d, y.a, y.b, y.c]
  else if y.kind = 7 then y.d :: y.args else if y.kind = 6 ∨ y.kind = 9 ∨ y.kind = 10 then [y.a] else []
/-- Does an instruction touch a register? -/
def touchB (y : Ir) (r : Int) : Bool := (readsL y).any (· == r) || (writesB y && y.d == r)
theorem touch_regs (y : Ir) (r : Int) : touchB y r = true ↔ r ∈ regsL y := by
  have e : touchB y r = true ↔ r ∈ readsL y ∨ (writesB y = true ∧ y.d = r) := by
    unfold touchB
    rw [Bool.or_eq_true, Bool.and_eq_true, List.any_eq_true, beq_iff_eq]
    constructor
    · rintro (⟨z, hz, h⟩ | h)
      · exact .inl (by rw [← (beq_iff_eq.1 h)]; exact hz)
      · exact .inr h
    · rintro (h | h)
      · exact .inl ⟨r, h, by simp⟩
      · exact .inr h
  rw [e]
  unfold regsL readsL writesB
  by_cases k1 : y.kind = 1
  · simp [k1, eq_comm (a := r)]
  by_cases k5 : y.kind = 5
  · simp [k5, eq_comm (a := r)]
  by_cases k2 : y.kind = 2
  · simp [k2, eq_comm (a := r)]; exact or_comm
  by_cases k3 : y.kind = 3
  · simp [k3, eq_comm (a := r)]; constructor
    · rintro ((h | h) | h) <;> simp [h]
    · rintro (h | h | h) <;> simp [h]
  by_cases k4 : y.kind = 4
  · simp [k4, eq_comm (a := r)]; constructor
    · rintro ((h | h | h) | h) <;> simp [h]
    · rintro (h | h | h | h) <;> simp [h]
  by_cases k7 : y.kind = 7
  · simp [k7, eq_comm (a := r)]; exact or_comm
  by_cases k6 : y.kind = 6
  · simp [k6]
  by_cases k9 : y.kind = 9
  · simp [k9]
  by_cases k10 : y.kind = 10
  · simp [k10]
  simp [k1, k2, k3, k4, k5, k6, k7, k9, k10]

/-- A register is met at a place. -/
def metS (g r : Nat) (s : Int × Int) (at' : Int) : Int × Int := (if g ≤ r ∧ s.2 < 0 then at' else s.1, at')
def metL (g : Nat) (at' : Int) (o : List (Int × Int)) (r : Int) : List (Int × Int) := o.set r.toNat (metS g r.toNat (o.getD r.toNat (-1, -1)) at')
def metAll (g : Nat) (at' : Int) (o : List (Int × Int)) (l : List Int) : List (Int × Int) := l.foldl (metL g at') o
/-- What is found from a place on. -/
def spansFrom (g : Nat) : Nat → List (Int × Int) → List Ir → List (Int × Int)
  | _, o, [] => o
  | k, o, y :: l => spansFrom g (k + 1) (metAll g k o (regsL y)) l
/-- The spans of a function with which nothing is wrong. -/
def spansM (c : Co) : List (Int × Int) := spansFrom (wordsN c.ps) 0 (List.replicate c.regs.toNat (-1, -1)) c.l
/-- Where a register is touched first and last, told from the end. -/
def spanR (r : Int) : Nat → List Ir → Int × Int
  | _, [] => (-1, -1)
  | k, y :: l => if touchB y r then ((k : Int), max (spanR r (k + 1) l).2 k) else spanR r (k + 1) l
/-- A register's span. -/
def spanN (c : Co) (r : Nat) : Int × Int := (if r < wordsN c.ps then -1 else (spanR r 0 c.l).1, (spanR r 0 c.l).2)

theorem metL_length (g : Nat) (t : Int) (o : List (Int × Int)) (r : Int) : (metL g t o r).length = o.length := by simp [metL]
theorem metAll_length (g : Nat) (t : Int) : ∀ (l : List Int) (o : List (Int × Int)), (metAll g t o l).length = o.length
  | [], _ => rfl
  | r :: l, o => by
    show (metAll g t (metL g t o r) l).length = _
    rw [metAll_length g t l, metL_length]
theorem spansFrom_length (g : Nat) : ∀ (l : List Ir) (k : Nat) (o : List (Int × Int)), (spansFrom g k o l).length = o.length
  | [], _, _ => rfl
  | y :: l, k, o => by
    show (spansFrom g (k + 1) (metAll g k o (regsL y)) l).length = _
    rw [spansFrom_length g l, metAll_length]
theorem spansM_length (c : Co) : (spansM c).length = c.regs.toNat := by
  unfold spansM
  rw [spansFrom_length, List.length_replicate]

/-- Each register by itself. -/
theorem metAll_get (g : Nat) (t : Int) (ht : 0 ≤ t) : ∀ (l : List Int) (o : List (Int × Int)) (r : Nat) (hr : r < o.length), (∀ x ∈ l, 0 ≤ x) →
    (metAll g t o l)[r]'(by rw [metAll_length]; exact hr) = if (r : Int) ∈ l then metS g r o[r] t else o[r]
  | [], o, r, hr, _ => by simp [metAll]
  | x :: l, o, r, hr, h0 => by
    have ih := metAll_get g t ht l (metL g t o x) r (by rw [metL_length]; exact hr) fun y hy => h0 y (by simp [hy])
    have hx := h0 x (by simp)
    have e : (metAll g t o (x :: l)) = metAll g t (metL g t o x) l := rfl
    simp only [e]
    rw [ih]
    have hg : (metL g t o x)[r]'(by rw [metL_length]; exact hr) = if (r : Int) = x then metS g r o[r] t else o[r] := by
      unfold metL
      rw [List.getElem_set]
      by_cases hrx : (r : Int) = x
      · have : x.toNat = r := by omega
        subst this
        rw [if_pos rfl, if_pos hrx, List.getD_eq_getElem?_getD, List.getElem?_eq_getElem hr]
        rfl
      · rw [if_neg (by omega), if_neg hrx]
    rw [hg]
    by_cases hrx : (r : Int) = x
    · rw [if_pos hrx, if_pos (show (r : Int) ∈ x :: l by simp [hrx])]
      by_cases hl : (r : Int) ∈ l
      · rw [if_pos hl]
        unfold metS
        simp only
        rw [if_neg (show ¬ (g ≤ r ∧ t < 0) by omega)]
      · rw [if_neg hl]
    · rw [if_neg hrx]
      by_cases hl : (r : Int) ∈ l
      · rw [if_pos hl, if_pos (by simp [hl])]
      · rw [if_neg hl, if_neg (by simp [hl, hrx])]
theorem spanR_bd (r : Int) : ∀ (l : List Ir) (k : Nat), ((spanR r k l).1 = -1 ∧ (spanR r k l).2 = -1) ∨ ((k : Int) ≤ (spanR r k l).1 ∧ (spanR r k l).1 ≤ (spanR r k l).2 ∧ (spanR r k l).2 < k + l.length)
  | [], _ => .inl ⟨rfl, rfl⟩
  | y :: l, k => by
    have ih := spanR_bd r l (k + 1)
    unfold spanR
    split
    · right
      simp only [List.length_cons]
      rcases ih with ⟨h1, h2⟩ | ⟨h1, h2, h3⟩
      · rw [h2]; omega
      · omega
    · rcases ih with h | ⟨h1, h2, h3⟩
      · exact .inl h
      · right; simp only [List.length_cons]; omega
theorem spansFrom_get (g : Nat) : ∀ (l : List Ir) (k : Nat) (o : List (Int × Int)) (r : Nat) (hr : r < o.length), (∀ y ∈ l, ∀ x ∈ regsL y, 0 ≤ x) →
    (spansFrom g k o l)[r]'(by rw [spansFrom_length]; exact hr) = if (spanR r k l).2 < 0 then o[r] else (if g ≤ r ∧ o[r].2 < 0 then (spanR r k l).1 else o[r].1, (spanR r k l).2)
  | [], k, o, r, hr, _ => by simp [spansFrom, spanR]
  | y :: l, k, o, r, hr, h0 => by
    have ih := spansFrom_get g l (k + 1) (metAll g k o (regsL y)) r (by rw [metAll_length]; exact hr) fun z hz => h0 z (by simp [hz])
    have e : spansFrom g k o (y :: l) = spansFrom g (k + 1) (metAll g k o (regsL y)) l := rfl
    simp only [e]
    rw [ih, metAll_get g k (by omega) _ _ _ hr (h0 y (by simp))]
    have hb := spanR_bd r l (k + 1)
    have ht := touch_regs y r
    by_cases hm : (r : Int) ∈ regsL y
    · have h1 : spanR r k (y :: l) = ((k : Int), max (spanR r (k + 1) l).2 k) := by
        show (if touchB y r then _ else _) = _
        rw [if_pos (ht.2 hm)]
      rw [h1, if_pos hm]
      simp only
      rw [if_neg (show ¬ (max (spanR (r : Int) (k + 1) l).2 (k : Int) < 0) by omega)]
      unfold metS
      simp only
      rw [if_neg (show ¬ (g ≤ r ∧ (k : Int) < 0) by omega)]
      split
      · rw [show max (spanR (r : Int) (k + 1) l).2 (k : Int) = (k : Int) by omega]
      · rw [show max (spanR (r : Int) (k + 1) l).2 (k : Int) = (spanR (r : Int) (k + 1) l).2 by omega]
    · have h1 : spanR r k (y :: l) = spanR r (k + 1) l := by
        show (if touchB y r then _ else _) = _
        rw [if_neg fun h => hm (ht.1 h)]
      rw [h1, if_neg hm]
theorem spansM_get (c : Co) (r : Nat) (hr : r < c.regs.toNat) (h0 : ∀ y ∈ c.l, ∀ x ∈ regsL y, 0 ≤ x) : (spansM c)[r]'(by rw [spansM_length]; exact hr) = spanN c r := by
  unfold spansM
  rw [spansFrom_get _ _ _ _ _ (by simpa using hr) h0]
  have hb := spanR_bd r c.l 0
  unfold spanN
  simp only [List.getElem_replicate]
  split
  · rcases hb with ⟨h1, h2⟩ | ⟨h1, h2, h3⟩
    · rw [h1, h2]; simp
    · omega
  · congr 1
    by_cases hg : wordsN c.ps ≤ r
    · rw [if_pos ⟨hg, by decide⟩, if_neg (by omega)]
    · rw [if_neg (fun h => hg h.1), if_pos (by omega)]
/-- What is read or written stands within the registers. -/
theorem fault_none {c : Co} : ∀ {l : List Ir} {i : Nat}, (faultFrom c i l).1 = 0 → ∀ (k : Nat) (hk : k < l.length), faultN c (i + k) l[k] = 0
  | y :: l, i, h, 0, hk => by
    unfold faultFrom at h
    by_cases hf : faultN c i y = 0
    · exact hf
    · rw [if_neg hf] at h; exact absurd h hf
  | y :: l, i, h, k + 1, hk => by
    unfold faultFrom at h
    by_cases hf : faultN c i y = 0
    · rw [if_pos hf] at h
      have := fault_none h k (by simpa using hk)
      simpa [Nat.add_assoc, Nat.add_comm 1] using this
    · rw [if_neg hf] at h; exact absurd h hf
theorem regs_in {c : Co} (h : (rightR c).1 = 0) : ∀ y ∈ c.l, ∀ x ∈ regsL y, 0 ≤ x ∧ x < c.regs := by
  intro y hy x hx
  obtain ⟨k, hk, rfl⟩ := List.getElem_of_mem hy
  have hf : (faultFrom c 0 c.l).1 = 0 := by
    unfold rightR at h
    split at h
    · exact h
    · simp at h
  have h1 := fault_none hf k hk
  have hm := (touch_regs _ _).2 hx
  unfold faultN at h1
  generalize hq : ((readsL c.l[k]).all (inB c.regs) && (!writesB c.l[k] || inB c.regs c.l[k].d)) = q at h1
  have hq2 : q = true := by
    rcases q with _ | _
    · split at h1
      · simp at h1
      · simp at h1
    · rfl
  subst hq2
  simp only [Bool.and_eq_true, Bool.or_eq_true, Bool.not_eq_true', List.all_eq_true] at hq
  unfold touchB at hm
  simp only [Bool.or_eq_true, Bool.and_eq_true, List.any_eq_true, beq_iff_eq] at hm
  rcases hm with ⟨z, hz, rfl⟩ | ⟨hw, rfl⟩
  · have := hq.1 z hz
    unfold inB at this
    simpa using this
  · rcases hq.2 with h2 | h2
    · rw [h2] at hw; simp at hw
    · unfold inB at h2; simpa using h2
end Go.Proofs.Ytkbanngbchhgaaa
