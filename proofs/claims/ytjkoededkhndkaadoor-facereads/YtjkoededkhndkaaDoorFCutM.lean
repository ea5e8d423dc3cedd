/- THE REFERENCE'S READ, in plain Lean: pieces between blanks and line ends; it is face's Read. -/
import Derived.Test.YtjkoededkhndkaaDoorFBack
namespace Go.Proofs.YtjkoededkhndkaaDoor
open Go.ChangeShapes Go.WideShapes Go.ChangeAt Go.RowKit Go.Shelf

/-- The pieces of a text between a byte. -/
def cutL (b : UInt8) : List UInt8 → List (List UInt8)
  | [] => [[]]
  | c :: l => if c = b then [] :: cutL b l else (c :: (cutL b l).headD []) :: (cutL b l).tail
theorem cutL_no {b : UInt8} : ∀ {l : List UInt8}, b ∉ l → cutL b l = [l]
  | [], _ => rfl
  | c :: l, h => by
    have hc : ¬ c = b := fun e => h (by simp [e])
    rw [cutL, if_neg hc, cutL_no fun e => h (List.mem_cons_of_mem _ e)]
    rfl
theorem cutL_app {b : UInt8} : ∀ {l : List UInt8} (r : List UInt8), b ∉ l → cutL b (l ++ b :: r) = l :: cutL b r
  | [], r, _ => by rw [List.nil_append, cutL, if_pos rfl]
  | c :: l, r, h => by
    have hc : ¬ c = b := fun e => h (by simp [e])
    rw [List.cons_append, cutL, if_neg hc, cutL_app r fun e => h (List.mem_cons_of_mem _ e)]
    rfl
/-- What is cut off at the first end. -/
theorem cutL_at {b : UInt8} {l : List UInt8} {n : Nat} (hn : n < l.length) (hb : l[n] = b) (hno : b ∉ l.take n) : cutL b l = l.take n :: cutL b (l.drop (n + 1)) := by
  have h := cutL_app (l.drop (n + 1)) hno
  rw [← hb, ← List.drop_eq_getElem_cons hn, List.take_append_drop, hb] at h
  exact h
theorem cutL_ne (b : UInt8) (l : List UInt8) : cutL b l ≠ [] := by
  cases l with
  | nil => simp [cutL]
  | cons c l => rw [cutL]; split <;> simp
theorem cutL_len (b : UInt8) : ∀ (l : List UInt8), (cutL b l).length ≤ l.length + 1
  | [] => Nat.le_refl _
  | c :: l => by
    have := cutL_len b l
    rw [cutL]
    split
    · simp; omega
    · simp; omega
/-- The digits of a number, gone through. -/
def digsR : List UInt8 → Nat → Option Nat
  | [], n => some n
  | c :: l, n => if c < 48 ∨ 57 < c then none else digsR l (n * 10 + (c - 48).toNat)
/-- The worth of a number; 0 if it is none. -/
def numR (s : List UInt8) : Nat := if s = [] ∨ 10 < s.length ∨ (1 < s.length ∧ s.headD 0 = 48) then 0 else (digsR s 0).getD 0
def rTy (s : List UInt8) : Ty := ⟨decide (2 < s.length) && decide (s.take 3 = [115, 101, 99]), if 3 < s.length then (numR (s.drop 3) : Int) else 0⟩
/-- What the pieces of a line may be. -/
def rSg (p : List (List UInt8)) : Sg := ⟨p.headD [], ((p.drop 1).take (p.length - 3)).map rTy, decide (p.getLastD [] = [115, 101, 99])⟩
/-- All lines; none, if one has too few pieces. -/
def rAll : List (List UInt8) → Option (List Sg)
  | [] => some []
  | s :: l => if (cutL 32 s).length < 3 then none else (rAll l).map fun r => rSg (cutL 32 s) :: r
def refR (s : List UInt8) : List Sg × Int :=
  match rAll (cutL 10 s).dropLast with
  | none => ([], 6)
  | some l => if textR l = (s, 0) then (l, 0) else ([], 6)

theorem rTy_dec : ∀ (n : Fin 17) (b : Bool), rTy (lab b ++ (if 0 < n.val then dig n.val else [])) = ⟨b, (n.val : Int)⟩ := by decide +kernel
theorem rTy_back (t : Ty) (h : tyOk t = true) : rTy (tyW t) = t := by
  obtain ⟨b, n⟩ := t
  simp only [tyOk, Bool.and_eq_true, decide_eq_true_eq] at h
  obtain ⟨m, rfl⟩ : ∃ m : Nat, n = (m : Int) := ⟨n.toNat, by omega⟩
  have hm : m < 17 := by omega
  have e : tyW ⟨b, (m : Int)⟩ = lab b ++ (if 0 < m then dig m else []) := by
    unfold tyW
    simp only [Int.toNat_natCast]
    rw [dig_eq m (by omega)]
    by_cases h0 : 0 < m
    · rw [if_pos h0, if_pos (by omega)]
    · rw [if_neg h0, if_neg (by omega)]
  rw [e]
  exact rTy_dec ⟨m, hm⟩ b
theorem lab_no (b : Bool) : 32 ∉ lab b := by cases b <;> decide
theorem cut_tail : ∀ (ps : List Ty) (b : Bool), ps.all tyOk = true → cutL 32 (tailT ps b) = ps.map tyW ++ [[58], lab b]
  | [], b, _ => by
    have h1 : tailT [] b = [58] ++ 32 :: lab b := rfl
    rw [h1, cutL_app _ (by decide), cutL_no (lab_no b)]
    rfl
  | t :: ps, b, h => by
    simp only [List.all_cons, Bool.and_eq_true] at h
    rw [tailT, cutL_app _ (ty_back t h.1).2.1, cut_tail ps b h.2]
    rfl
/-- A line without its end. -/
def bodyT (x : Sg) : List UInt8 := x.name ++ 32 :: tailT x.ps x.sec
theorem body_cut {x : Sg} (h : mayB x = true) : cutL 32 (bodyT x) = x.name :: (x.ps.map tyW ++ [[58], lab x.sec]) := by
  rw [bodyT, cutL_app _ (plain_not (mayB_name h) 32 (by decide)), cut_tail _ _ (mayB_parts h).2]
theorem body_no {x : Sg} (h : mayB x = true) : 10 ∉ bodyT x := by
  rw [bodyT, List.mem_append, List.mem_cons]
  rintro (h5 | h5 | h5)
  · exact plain_not (mayB_name h) 10 (by decide) h5
  · cases h5
  · exact tail_no _ _ (mayB_parts h).2 h5
theorem map_rTy : ∀ (ps : List Ty), ps.all tyOk = true → (ps.map tyW).map rTy = ps
  | [], _ => rfl
  | t :: ps, h => by
    simp only [List.all_cons, Bool.and_eq_true] at h
    rw [List.map_cons, List.map_cons, rTy_back t h.1, map_rTy ps h.2]
theorem rSg_body {x : Sg} (h : mayB x = true) : rSg (cutL 32 (bodyT x)) = x ∧ ¬ (cutL 32 (bodyT x)).length < 3 := by
  rw [body_cut h]
  refine ⟨?_, by simp⟩
  unfold rSg
  have h1 : (x.name :: (x.ps.map tyW ++ [[58], lab x.sec])).length - 3 = (x.ps.map tyW).length := by simp
  have h2 : (x.name :: (x.ps.map tyW ++ [[58], lab x.sec])).getLastD [] = lab x.sec := by
    have h3 : x.name :: (x.ps.map tyW ++ [[58], lab x.sec]) = (x.name :: x.ps.map tyW ++ [[58]]) ++ [lab x.sec] := by simp
    rw [h3, List.getLastD_eq_getLast?, List.getLast?_concat]
    rfl
  rw [h1, h2, List.drop_succ_cons, List.drop_zero, List.take_left' rfl, map_rTy _ (mayB_parts h).2, lab_dec]
  rfl
theorem lines_cut : ∀ (l : List Sg), l.all mayB = true → cutL 10 (linesT l) = l.map bodyT ++ [[]]
  | [], _ => rfl
  | x :: l, h => by
    simp only [List.all_cons, Bool.and_eq_true] at h
    have e : linesT (x :: l) = bodyT x ++ 10 :: linesT l := by
      have := line_eq x
      simp only [linesT, List.flatMap_cons]
      rw [this]
      simp [bodyT]
    rw [e, cutL_app _ (body_no h.1), lines_cut l h.2]
    rfl
theorem rAll_lines : ∀ (l : List Sg), l.all mayB = true → rAll (l.map bodyT) = some l
  | [], _ => rfl
  | x :: l, h => by
    simp only [List.all_cons, Bool.and_eq_true] at h
    obtain ⟨h1, h2⟩ := rSg_body h.1
    rw [List.map_cons, rAll, if_neg h2, rAll_lines l h.2, h1]
    rfl
/-- Both readings are one. -/
theorem refR_eq (s : List UInt8) : refR s = readR s := by
  by_cases hx : ∃ l, textR l = (s, 0)
  · obtain ⟨l, hl⟩ := hx
    have hb : readR s = (l, 0) := by have := read_back (l := l) (by rw [hl]); rwa [hl] at this
    have hm : l.all mayB = true := by
      rcases hm : l.all mayB with _ | _
      · rw [textR_form hm] at hl; cases hl
      · rfl
    have ho : (l.map Sg.name).Nodup := by
      by_cases ho : (l.map Sg.name).Nodup
      · exact ho
      · rw [textR_twice hm ho] at hl; cases hl
    have ht : linesT l = s := by have := textR_ok hm ho; rw [hl] at this; exact (Prod.mk.inj this).1.symm
    rw [hb]
    unfold refR
    rw [← ht, lines_cut l hm, List.dropLast_concat, rAll_lines l hm]
    simp only
    rw [ht, if_pos hl]
  · have h1 : readR s = ([], 6) := if_neg fun h => hx ⟨_, h⟩
    rw [h1]
    unfold refR
    split
    · rfl
    · exact if_neg fun h => hx ⟨_, h⟩
end Go.Proofs.YtjkoededkhndkaaDoor
