/- WHICH NAMES WERE MET: what the map of them says; the text under way as a string. -/
import Derived.Test.YtlagadofiahijaaDoorFLine
import Derived.Maps.OwnSet
import Derived.Laws.IdiomStrings
namespace Go.Proofs.YtlagadofiahijaaDoor
open Go.ChangeShapes Go.WideShapes Go.ChangeAt Go.RowKit Go.Shelf Go.Maps Go.WideMaps

theorem law_str : Keyed Tryd.prog 9 := string_keyed Tryd.underlying9
theorem zero_int (w : World) : (zeroValue 3).run Tryd.prog w = .ok (.int .i64 0) w := by kernel_rfl
theorem key_str (l : List UInt8) (hl : l.length ≤ 1000000000) : keyOf Tryd.prog 9 (.string (bs l)) = some (.string l) := by
  have := keyOf_string_mk (P := Tryd.prog) (k := 9) Tryd.underlying9 (s := bs l) (by rw [bs_size]; unfold maxLen; omega)
  rw [bs_list] at this
  exact this

/-- The map tells just these names. -/
structure Met (D : DataW Unit) (ns : List (List UInt8)) : Prop where
  has_ : ∀ n, has D (.string n) = decide (n ∈ ns)
  le : size D ≤ ns.length
  once : size D = ns.length ↔ ns.Nodup
theorem Met.none : Met (.map []) [] := ⟨fun n => by simp [has_eq], by simp [size_eq], by simp [size_eq]⟩
theorem nodup_snoc {ns : List (List UInt8)} {n : List UInt8} : (ns ++ [n]).Nodup ↔ ns.Nodup ∧ n ∉ ns := by
  rw [List.nodup_append]
  constructor
  · rintro ⟨h1, _, h3⟩
    exact ⟨h1, fun h => h3 n h n (by simp) rfl⟩
  · rintro ⟨h1, h2⟩
    exact ⟨h1, by simp, fun a ha b hb e => h2 (by simp at hb; rw [← hb, ← e]; exact ha)⟩
theorem Met.put {D : DataW Unit} {ns : List (List UInt8)} (h : Met D ns) (ht : Tidy D) (n : List UInt8) (d : DataW Unit) : Met (D.put (.string n) d) (ns ++ [n]) := by
  have hle := h.le
  have hsz := size_put (k := .string n) ht d
  rw [h.has_ n] at hsz
  refine ⟨fun m => ?_, ?_, ?_⟩
  · by_cases hm : m = n
    · subst hm
      rw [has_put_same (k := .string m) ht.isMap trivial]; simp
    · rw [has_put_other (fun e => hm (by injection e)), h.has_ m]
      simp [hm]
  · rw [hsz, List.length_append]
    split <;> simp <;> omega
  · rw [hsz, List.length_append, nodup_snoc, ← h.once]
    by_cases hn : n ∈ ns
    · simp [hn]; omega
    · simp [hn]
theorem ownsMap_kept {w w' : World} {b n : Nat} {D : DataW Unit} (h : w.ownsMap Tryd.prog 9 (plainElem Tryd.prog 3) b n D) (hb : w'.heap[b]? = w.heap[b]?) : w'.ownsMap Tryd.prog 9 (plainElem Tryd.prog 3) b n D := by
  obtain ⟨es, clock, h1, r⟩ := h
  exact ⟨es, clock, hb.trans h1, r⟩

theorem onceB_iff : ∀ l : List Sg, onceB l = true ↔ (l.map Sg.name).Nodup
  | [] => by simp [onceB]
  | x :: l => by
    rw [onceB, Bool.and_eq_true, onceB_iff l, List.map_cons, List.nodup_cons]
    simp
theorem textR_form {l : List Sg} (h : l.all mayB = false) : textR l = ([], 6) := by rw [textR, if_neg (by rw [h]; decide)]
theorem textR_twice {l : List Sg} (h : l.all mayB = true) (h2 : ¬ (l.map Sg.name).Nodup) : textR l = ([], 9) := by rw [textR, if_pos h, if_neg (fun e => h2 ((onceB_iff l).1 e))]
theorem textR_ok {l : List Sg} (h : l.all mayB = true) (h2 : (l.map Sg.name).Nodup) : textR l = (linesT l, 0) := by rw [textR, if_pos h, if_pos ((onceB_iff l).2 h2)]
theorem lines_take (l : List Sg) (k : Nat) (hk : k < l.length) : linesT (l.take (k + 1)) = linesT (l.take k) ++ lineT l[k] := by
  rw [linesT, List.take_add_one, List.getElem?_eq_getElem hk, List.flatMap_append]; simp [linesT]
theorem names_take (l : List Sg) (k : Nat) (hk : k < l.length) : (l.take (k + 1)).map Sg.name = (l.take k).map Sg.name ++ [l[k].name] := by
  rw [List.take_add_one, List.getElem?_eq_getElem hk, List.map_append]; simp
theorem all_take (l : List Sg) (k : Nat) (hk : k < l.length) : (l.take (k + 1)).all mayB = ((l.take k).all mayB && mayB l[k]) := by
  rw [List.take_add_one, List.getElem?_eq_getElem hk, List.all_append]; simp
theorem mayB_parts {x : Sg} (h : mayB x = true) : x.ps.length ≤ 6 ∧ x.ps.all tyOk = true := by
  simp only [mayB, Bool.and_eq_true, decide_eq_true_eq] at h
  exact ⟨h.2.2.1, h.2.2.2⟩
theorem tyT_len (t : Ty) (h : tyOk t = true) : (tyT t).length ≤ 6 := by
  simp only [tyOk, Bool.and_eq_true, decide_eq_true_eq] at h
  have hd : (Lib.decDigits t.len.toNat).length ≤ 2 := by rw [dig_eq _ (by omega)]; unfold dig; split <;> simp
  unfold tyT
  split <;> simp [lab_len] <;> omega
theorem flat_len : ∀ (ps : List Ty), ps.all tyOk = true → (ps.flatMap tyT).length ≤ 6 * ps.length
  | [], _ => by simp
  | t :: ps, h => by
    simp only [List.all_cons, Bool.and_eq_true] at h
    have h1 := tyT_len t h.1
    have h2 := flat_len ps h.2
    rw [List.flatMap_cons, List.length_append, List.length_cons]; omega
theorem lineT_len {x : Sg} (h : mayB x = true) : (lineT x).length ≤ x.name.length + 60 := by
  obtain ⟨h1, h2⟩ := mayB_parts h
  have := flat_len x.ps h2
  rw [lineT, endT, List.length_append, List.length_append, List.length_append, List.length_append, lab_len]
  simp only [List.length_cons, List.length_nil]
  omega
/-- How much there is to write. -/
def wt : List Sg → Nat
  | [] => 0
  | x :: l => x.name.length + 60 + wt l
theorem wt_take (l : List Sg) (k : Nat) (hk : k < l.length) : wt (l.take (k + 1)) = wt (l.take k) + (l[k].name.length + 60) := by
  induction l generalizing k with
  | nil => simp at hk
  | cons x l ih =>
    cases k with
    | zero => simp [wt]
    | succ k =>
      have := ih k (by simpa using hk)
      simp only [List.take_succ_cons, wt, List.getElem_cons_succ] at this ⊢
      omega
theorem wt_le : ∀ (l : List Sg) (k : Nat), wt (l.take k) ≤ wt l
  | [], k => by simp
  | x :: l, 0 => by simp [wt]
  | x :: l, k + 1 => by have := wt_le l k; simp only [List.take_succ_cons, wt]; omega
theorem wt_at (l : List Sg) (k : Nat) (hk : k < l.length) : wt (l.take k) + (l[k].name.length + 60) ≤ wt l := by
  have := wt_take l k hk
  have := wt_le l (k + 1)
  omega
theorem wt_ge : ∀ (l : List Sg), 60 * l.length ≤ wt l
  | [] => by simp
  | x :: l => by have := wt_ge l; simp only [List.length_cons, wt]; omega
/-- The text as a string. -/
theorem conv_tx {w : World} {base : Nat} {v : Value} {l : List UInt8} (h : Tx w base v l) : (convert 58 9 v).run Tryd.prog w = .ok (.string (bs l)) w := by
  have h' := h
  rcases h.2 with ⟨rfl, h0⟩ | ⟨g, cap, cur, rfl, _⟩
  · have : l = [] := List.eq_nil_of_length_eq_zero h0
    subst this
    rw [run_convert_bytes_string w 58 9 5 none 0 0 Tryd.underlying58 Tryd.underlying5 Tryd.underlying9]
    rfl
  · refine run_convert_bytes_back (P := Tryd.prog) w 58 9 5 ⟨g, 0, none⟩ cap l Tryd.underlying58 Tryd.underlying5 Tryd.underlying9 fun j hj => ?_
    refine h'.cells (g := g) rfl j _ ?_
    simp [Lib.byteCells, hj]
end Go.Proofs.YtlagadofiahijaaDoor
