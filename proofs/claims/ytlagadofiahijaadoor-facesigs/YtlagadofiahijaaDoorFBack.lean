/- WHAT IS WRITTEN IS GUESSED AS IT WAS: plain facts. -/
import Derived.Test.YtlagadofiahijaaDoorFRead
namespace Go.Proofs.YtlagadofiahijaaDoor
open Go.ChangeShapes Go.WideShapes Go.ChangeAt Go.RowKit Go.Shelf

theorem cutB_cases (b : UInt8) : ∀ l : List UInt8, (cutB b l = (l, []) ∧ b ∉ l) ∨ (l = (cutB b l).1 ++ b :: (cutB b l).2 ∧ b ∉ (cutB b l).1)
  | [] => .inl ⟨rfl, by simp⟩
  | c :: l => by
    by_cases hc : c = b
    · right
      rw [cutB, if_pos hc, hc]; simp
    · rw [cutB, if_neg hc]
      rcases cutB_cases b l with ⟨h1, h2⟩ | ⟨h1, h2⟩
      · left
        rw [h1]
        exact ⟨rfl, by simp [h2]; exact fun e => hc e.symm⟩
      · right
        refine ⟨?_, ?_⟩
        · simp only [List.cons_append]; rw [← h1]
        · simp [h2]; exact fun e => hc e.symm
/-- A byte of a name, or the point. -/
def plainB (b : UInt8) : Bool := isLow b || isBeh b || b == 46
theorem isName_plain {l : List UInt8} (h : isName l = true) : ∀ b ∈ l, plainB b = true := by
  cases l with
  | nil => simp
  | cons c r =>
    simp only [isName, Bool.and_eq_true] at h
    intro b hb
    rcases List.mem_cons.1 hb with rfl | hb
    · simp [plainB, h.1.2]
    · have := List.all_eq_true.1 h.2 b hb
      simp only [plainB]; rw [this]; rfl
theorem mayB_name {x : Sg} (h : mayB x = true) : ∀ b ∈ x.name, plainB b = true := by
  simp only [mayB, Bool.and_eq_true] at h
  obtain ⟨h1, h2, _⟩ := h
  rcases cutB_cases 46 x.name with ⟨h3, _⟩ | ⟨h3, _⟩
  · rw [h3] at h2; cases h2
  · intro b hb
    rw [h3] at hb
    rcases List.mem_append.1 hb with hb | hb
    · exact isName_plain h1 b hb
    · rcases List.mem_cons.1 hb with rfl | hb
      · decide
      · exact isName_plain h2 b hb
theorem plain_not {l : List UInt8} (h : ∀ b ∈ l, plainB b = true) (c : UInt8) (hc : plainB c = false) : c ∉ l := fun e => by
  have := h c e
  rw [hc] at this
  cases this
/-- A parameter without the blank ahead of it. -/
def tyW (t : Ty) : List UInt8 := lab t.sec ++ (if 0 < t.len then Lib.decDigits t.len.toNat else [])
theorem tyT_W (t : Ty) : tyT t = 32 :: tyW t := rfl
theorem ty_back_dec : ∀ (n : Fin 17) (b : Bool), gTy (lab b ++ (if 0 < n.val then dig n.val else [])) = ⟨b, (n.val : Int)⟩ ∧ 32 ∉ (lab b ++ (if 0 < n.val then dig n.val else [])) ∧ 10 ∉ (lab b ++ (if 0 < n.val then dig n.val else [])) ∧ (lab b ++ (if 0 < n.val then dig n.val else [])) ≠ [58] := by decide +kernel
theorem ty_back (t : Ty) (h : tyOk t = true) : gTy (tyW t) = t ∧ 32 ∉ tyW t ∧ 10 ∉ tyW t ∧ tyW t ≠ [58] := by
  obtain ⟨b, n⟩ := t
  simp only [tyOk, Bool.and_eq_true, decide_eq_true_eq] at h
  obtain ⟨m, rfl⟩ : ∃ m : Nat, n = (m : Int) := ⟨n.toNat, by omega⟩
  have hm : m < 17 := by omega
  have e : tyW ⟨b, (m : Int)⟩ = lab b ++ (if 0 < m then dig m else []) := by
    unfold tyW
    simp only [Int.toNat_natCast]
    rw [dig_eq m (by omega)]
    by_cases h0 : 0 < m
    · rw [if_pos h0, if_pos (by omega)]
    · rw [if_neg h0, if_neg (by omega)]
  rw [e]
  exact ty_back_dec ⟨m, hm⟩ b
/-- What stands behind a line's name. -/
def tailT : List Ty → Bool → List UInt8
  | [], b => 58 :: 32 :: lab b
  | t :: ps, b => tyW t ++ 32 :: tailT ps b
theorem tail_eq : ∀ (ps : List Ty) (b : Bool), 32 :: tailT ps b ++ [10] = ps.flatMap tyT ++ endT b
  | [], b => by simp [tailT, endT]
  | t :: ps, b => by
    have := tail_eq ps b
    rw [List.flatMap_cons, List.append_assoc, ← this, tyT_W, tailT]; simp
theorem line_eq (x : Sg) : lineT x = (x.name ++ 32 :: tailT x.ps x.sec) ++ [10] := by
  rw [lineT, List.append_assoc, ← tail_eq, List.append_assoc]
theorem lab_dec (b : Bool) : decide (lab b = [115, 101, 99]) = b := by cases b <;> decide
theorem gIn_tail : ∀ (ps : List Ty) (b : Bool) (acc : List Ty), ps.all tyOk = true → gIn (tailT ps b) acc = some (acc ++ ps, b)
  | [], b, acc, _ => by
    have hc : cutB 32 (tailT [] b) = ([58], lab b) := cutB_some (b := 32) (l := [58]) (r := lab b) (by decide)
    rw [gIn_end (by simp [tailT]) (by rw [hc]), hc, lab_dec]; simp
  | t :: ps, b, acc, h => by
    simp only [List.all_cons, Bool.and_eq_true] at h
    obtain ⟨h1, h2, _, h4⟩ := ty_back t h.1
    have hc : cutB 32 (tailT (t :: ps) b) = (tyW t, tailT ps b) := cutB_some (b := 32) h2
    rw [gIn_on (by simp [tailT]) (by rw [hc]; exact h4), hc, h1, gIn_tail ps b _ h.2]; simp
theorem tail_no (ps : List Ty) (b : Bool) (h : ps.all tyOk = true) : 10 ∉ tailT ps b := by
  induction ps with
  | nil => cases b <;> decide
  | cons t ps ih =>
    simp only [List.all_cons, Bool.and_eq_true] at h
    obtain ⟨_, _, h3, _⟩ := ty_back t h.1
    rw [tailT, List.mem_append, List.mem_cons]
    rintro (h5 | h5 | h5)
    · exact h3 h5
    · cases h5
    · exact ih h.2 h5
theorem gAll_line (x : Sg) (r : List UInt8) (acc : List Sg) (h : mayB x = true) : gAll (lineT x ++ r) acc = gAll r (acc ++ [x]) := by
  have hn := mayB_name h
  obtain ⟨_, hps⟩ := mayB_parts h
  have hno : 10 ∉ x.name ++ 32 :: tailT x.ps x.sec := by
    rw [List.mem_append, List.mem_cons]
    rintro (h5 | h5 | h5)
    · exact plain_not hn 10 (by decide) h5
    · cases h5
    · exact tail_no _ _ hps h5
  have h1 : cutB 10 (lineT x ++ r) = (x.name ++ 32 :: tailT x.ps x.sec, r) := by
    rw [line_eq, List.append_assoc]; exact cutB_some hno
  have h2 : cutB 32 (x.name ++ 32 :: tailT x.ps x.sec) = (x.name, tailT x.ps x.sec) := cutB_some (plain_not hn 32 (by decide))
  rw [gAll_on (ps := x.ps) (b := x.sec) (by rw [line_eq]; simp) (by rw [h1, h2, gIn_tail _ _ _ hps]; simp), h1, h2]
theorem gAll_lines : ∀ (l : List Sg) (r : List UInt8) (acc : List Sg), l.all mayB = true → gAll (linesT l ++ r) acc = gAll r (acc ++ l)
  | [], r, acc, _ => by simp [linesT]
  | x :: l, r, acc, h => by
    simp only [List.all_cons, Bool.and_eq_true] at h
    have e : linesT (x :: l) ++ r = lineT x ++ (linesT l ++ r) := by simp [linesT]
    rw [e, gAll_line x _ _ h.1, gAll_lines l r _ h.2]; simp
/-- What is told as a text is read as it was. -/
theorem read_back {l : List Sg} (h : (textR l).2 = 0) : readR (textR l).1 = (l, 0) := by
  have hm : l.all mayB = true := by
    rcases hm : l.all mayB with _ | _
    · rw [textR_form hm] at h; cases h
    · rfl
  have ho : (l.map Sg.name).Nodup := by
    by_cases ho : (l.map Sg.name).Nodup
    · exact ho
    · rw [textR_twice hm ho] at h; cases h
  have ht := textR_ok hm ho
  have hg : gAll (linesT l) [] = l := by have := gAll_lines l [] [] hm; rw [List.append_nil, gAll_nil] at this; exact this
  rw [ht, readR]
  simp only
  rw [hg, if_pos ht]
end Go.Proofs.YtlagadofiahijaaDoor
