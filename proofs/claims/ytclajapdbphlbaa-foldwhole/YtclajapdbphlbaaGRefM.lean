/- PLAIN FACTS: what the document's own answer looks for is what is known. -/
import Derived.Test.YtclajapdbphlbaaGMath
namespace Go.Proofs.Ytclajapdbphlbaa

/-- Does a block begin there? -/
def hitB (x : Ir) (k : Nat) : Bool := (x.kind == 8 || x.kind == 9) && x.c == (k : Int)
def endB (x : Ir) : Bool := x.kind == 8 || (x.kind == 9 || x.kind == 10)
def rBeg (l : List Ir) : Nat → Bool
  | 0 => true
  | k + 1 => endB (l.getD k ⟨0, 0, 0, 0, 0, 0, 0, [], []⟩) || l.any fun x => hitB x (k + 1)
/-- What D is known to be behind an instruction. -/
def aft (K : Kws) (x : Ir) : Option Nat := if x.kind = 1 then some x.n else if mayW x then worth K x else none
/-- What a register is known to be ahead of a place, out of what is known behind those ahead. -/
def rKn (l : List Ir) (f : List (Option Nat)) : Nat → Int → Option Nat
  | 0, _ => none
  | k + 1, r => if rBeg l (k + 1) then none else if writesB (l.getD k ⟨0, 0, 0, 0, 0, 0, 0, [], []⟩) && (l.getD k ⟨0, 0, 0, 0, 0, 0, 0, [], []⟩).d == r then f.getD k none else rKn l f k r
/-- What is known behind each of the first so many. -/
def facts (l : List Ir) : Nat → List (Option Nat)
  | 0 => []
  | k + 1 => facts l k ++ [aft (knAt (begs l) l k) (l.getD k ⟨0, 0, 0, 0, 0, 0, 0, [], []⟩)]
theorem facts_len (l : List Ir) : ∀ k, (facts l k).length = k
  | 0 => rfl
  | k + 1 => by rw [facts, List.length_append, facts_len l k]; rfl
theorem facts_get (l : List Ir) : ∀ n k, k < n → (facts l n).getD k none = aft (knAt (begs l) l k) (l.getD k ⟨0, 0, 0, 0, 0, 0, 0, [], []⟩)
  | n + 1, k, h => by
    rw [facts, List.getD_eq_getElem?_getD]
    by_cases e : k < n
    · rw [List.getElem?_append_left (by rw [facts_len]; exact e), ← List.getD_eq_getElem?_getD]
      exact facts_get l n k e
    · have : k = n := by omega
      subst this
      rw [List.getElem?_append_right (by rw [facts_len]; exact Nat.le_refl _), facts_len, Nat.sub_self]
      rfl
theorem set_get (b : List Bool) (j k : Nat) : (b.set j true).getD k false = (b.getD k false || (decide (j = k) && decide (k < b.length))) := by
  simp only [List.getD_eq_getElem?_getD, List.getElem?_set]
  by_cases h : j = k
  · subst h
    by_cases hl : j < b.length
    · simp [hl]
    · simp [hl]
  · simp [h]
/-- What an instruction sets. -/
def setsB (i : Nat) (x : Ir) (k : Nat) : Bool := (x.kind == 8 || x.kind == 9) && (decide (x.c.toNat = k)) || endB x && decide (i + 1 = k)
theorem begS_get (b : List Bool) (i : Nat) (x : Ir) (k : Nat) (hk : k < b.length) : (begS b i x).getD k false = (b.getD k false || setsB i x k) := by
  unfold begS setsB endB
  by_cases h : x.kind = 8 ∨ x.kind = 9
  · rw [if_pos h, set_get, set_get]
    rcases h with h | h <;> simp [h, hk, List.length_set, Bool.or_assoc]
  · rw [if_neg h]
    have h8 : x.kind ≠ 8 := fun e => h (.inl e)
    have h9 : x.kind ≠ 9 := fun e => h (.inr e)
    by_cases h10 : x.kind = 10
    · rw [if_pos h10, set_get]; simp [h10, hk]
    · rw [if_neg h10]; simp [h8, h9, h10]
def anyB : Nat → List Ir → Nat → Bool
  | _, [], _ => false
  | i, x :: l, k => setsB i x k || anyB (i + 1) l k
theorem begF_get : ∀ (l : List Ir) (i : Nat) (b : List Bool) (k : Nat), k < b.length → (begF i l b).getD k false = (b.getD k false || anyB i l k)
  | [], _, _, _, _ => by simp [begF, anyB]
  | x :: l, i, b, k, hk => by
    rw [begF, begF_get l (i + 1) (begS b i x) k (by rw [begS_len]; exact hk), begS_get b i x k hk, anyB, Bool.or_assoc]
theorem anyB_iff : ∀ (l : List Ir) (i k : Nat), anyB i l k = true ↔ ∃ j, ∃ h : j < l.length, setsB (i + j) l[j] k = true
  | [], i, k => by simp [anyB]
  | x :: l, i, k => by
    rw [anyB, Bool.or_eq_true, anyB_iff l (i + 1) k]
    constructor
    · rintro (h | ⟨j, hj, h⟩)
      · exact ⟨0, by simp, h⟩
      · exact ⟨j + 1, by simpa using hj, by rw [show i + (j + 1) = i + 1 + j by omega]; exact h⟩
    · rintro ⟨j, hj, h⟩
      cases j with
      | zero => exact .inl h
      | succ j => exact .inr ⟨j, by simpa using hj, by rw [show i + 1 + j = i + (j + 1) by omega]; exact h⟩
theorem rBeg_eq {l : List Ir} (hc : ∀ x ∈ l, x.kind = 8 ∨ x.kind = 9 → 0 ≤ x.c) (k : Nat) (hk : k ≤ l.length) : rBeg l k = (begs l).getD k false := by
  cases k with
  | zero => rw [begs_zero]; rfl
  | succ k =>
    have h0 : (beg0 l.length).getD (k + 1) false = false := by
      unfold beg0
      rw [set_get]
      have h1 : (List.replicate (l.length + 1) false).getD (k + 1) false = false := by
        rw [List.getD_eq_getElem?_getD, List.getElem?_replicate]; split <;> rfl
      rw [h1]
      simp
    unfold begs
    rw [begF_get _ _ _ _ (by simp [beg0]; omega), h0, Bool.false_or, Bool.eq_iff_iff, anyB_iff]
    have hgd : l.getD k ⟨0, 0, 0, 0, 0, 0, 0, [], []⟩ = l[k] := by rw [List.getD_eq_getElem?_getD, List.getElem?_eq_getElem (by omega)]; rfl
    rw [rBeg, hgd, Bool.or_eq_true, List.any_eq_true]
    constructor
    · rintro (h | ⟨x, hx, h⟩)
      · exact ⟨k, by omega, by unfold setsB; rw [h]; simp⟩
      · obtain ⟨j, hj, rfl⟩ := List.getElem_of_mem hx
        refine ⟨j, hj, ?_⟩
        simp only [hitB, Bool.and_eq_true, Bool.or_eq_true, beq_iff_eq] at h
        unfold setsB
        have : decide (l[j].c.toNat = k + 1) = true := by simp; omega
        rw [this]
        rcases h.1 with h1 | h1 <;> simp [h1]
    · rintro ⟨j, hj, h⟩
      simp only [setsB, Bool.or_eq_true, Bool.and_eq_true, beq_iff_eq, decide_eq_true_eq] at h
      rcases h with ⟨h1, h2⟩ | ⟨h1, h2⟩
      · refine .inr ⟨l[j], List.getElem_mem hj, ?_⟩
        have := hc _ (List.getElem_mem hj) h1
        simp only [hitB, Bool.and_eq_true, Bool.or_eq_true, beq_iff_eq]
        exact ⟨h1, by omega⟩
      · have : j = k := by omega
        subst this
        exact .inl h1
theorem nextK_aft (K : Kws) (x : Ir) (h : 1 ≤ x.kind ∧ x.kind ≤ 10) (r : Int) : nextK K x r = if writesB x && x.d == r then aft K x else K r := by
  by_cases k1 : x.kind = 1
  · unfold nextK aft
    rw [if_pos k1, if_pos k1]
    have hw : writesB x = true := by simp [writesB, k1]
    rw [hw, Bool.true_and]
    unfold kPut
    by_cases e : r = x.d
    · rw [if_pos e, if_pos (by simp [e])]
    · rw [if_neg e, if_neg (by simp; exact fun h => e h.symm)]
  by_cases hm : mayW x = true
  · have hk := mayW_kind hm
    rw [nextK_may K hm]
    unfold aft
    rw [if_neg k1, if_pos hm]
    have hw : writesB x = true := by simp [writesB]; omega
    rw [hw, Bool.true_and]
    unfold kPut
    by_cases e : r = x.d
    · rw [if_pos e, if_pos (by simp [e])]
    · rw [if_neg e, if_neg (by simp; exact fun h => e h.symm)]
  have hmf : mayW x = false := by simpa using hm
  by_cases k57 : x.kind = 5 ∨ x.kind = 7
  · unfold nextK aft
    rw [if_neg k1, if_pos k57, if_neg k1, if_neg hm]
    have hw : writesB x = true := by simp [writesB]; omega
    rw [hw, Bool.true_and]
    unfold kPut
    by_cases e : r = x.d
    · rw [if_pos e, if_pos (by simp [e])]
    · rw [if_neg e, if_neg (by simp; exact fun h => e h.symm)]
  · have hw : writesB x = false := by
      simp only [mayW, decide_eq_false_iff_not] at hmf
      simp only [writesB, decide_eq_false_iff_not]; omega
    unfold nextK
    rw [if_neg k1, if_neg k57, if_neg hm, hw]
    rfl
/-- What it looks for is what is known. -/
theorem rKn_eq {l : List Ir} (hc : ∀ x ∈ l, x.kind = 8 ∨ x.kind = 9 → 0 ≤ x.c) (hk : ∀ x ∈ l, 1 ≤ x.kind ∧ x.kind ≤ 10) (n : Nat) (hn : n ≤ l.length) : ∀ k, k ≤ n → ∀ r, rKn l (facts l n) k r = knAt (begs l) l k r := by
  intro k
  induction k with
  | zero => intro _ r; rw [rKn, knAt]; unfold ahead; rw [if_pos (begs_zero l)]; rfl
  | succ k ih =>
    intro hkn r
    have hgd : l.getD k ⟨0, 0, 0, 0, 0, 0, 0, [], []⟩ = l[k] := by rw [List.getD_eq_getElem?_getD, List.getElem?_eq_getElem (by omega)]; rfl
    rw [rKn, knAt, rBeg_eq hc (k + 1) (by omega), hgd]
    unfold ahead
    by_cases hb : (begs l).getD (k + 1) false = true
    · rw [if_pos hb, if_pos hb]; rfl
    · rw [if_neg hb, if_neg hb, nextK_aft _ _ (hk _ (List.getElem_mem (by omega))), facts_get l n k (by omega), hgd, ih (by omega) r]
/-- The instructions, some of them numbers. -/
theorem foldL_take (l : List Ir) (k : Nat) (hk : k < l.length) : (foldL l).take (k + 1) ++ l.drop (k + 1) = ((foldL l).take k ++ l.drop k).set k (foldX (knAt (begs l) l k) l[k]) := by
  have hl := foldL_len l
  have h := foldL_at l k hk
  have hlt : k < (foldL l).length := by omega
  rw [List.getElem?_eq_getElem hlt] at h
  have e := Option.some.inj h
  rw [List.take_succ_eq_append_getElem hlt, e, List.append_assoc, List.drop_eq_getElem_cons hk]
  rw [List.set_append_right _ _ (by rw [List.length_take]; omega), List.length_take]
  rw [show k - min k (foldL l).length = 0 by omega]
  rfl
end Go.Proofs.Ytclajapdbphlbaa
