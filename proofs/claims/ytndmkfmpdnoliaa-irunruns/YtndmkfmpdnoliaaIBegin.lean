/- CONTRACT of begin. -/
import Derived.Test.YtndmkfmpdnoliaaIDeed1
import Derived.Test.YtndmkfmpdnoliaaIApp
import Derived.Laws.CopyOwn
import Derived.Deep.OwnRows
import Derived.Lib.SliceRun
namespace Go.Proofs.Ytndmkfmpdnoliaa
open Go.ChangeShapes Go.WideShapes Go.ChangeAt Go.RowKit

theorem made_eq (n : Nat) : madeCells #[.int .u32 0] n = wvs (List.replicate n 0) := by
  apply Array.ext
  · simp [madeCells, wvs]
  · intro i h1 h2
    simp [madeCells, wvs, wv, Nat.mod_one]
theorem fill_nil (n : Nat) : fill [] n = List.replicate n 0 := by simp [fill]
theorem fill_len {l : List Nat} {n : Nat} (h : l.length ≤ n) : (fill l n).length = n := by simp [fill]; omega
theorem fill_set {l : List Nat} {n x : Nat} (h : l.length < n) : (fill l n).set l.length x = fill (l ++ [x]) n := by
  unfold fill
  rw [List.set_append_right _ _ (Nat.le_refl _), Nat.sub_self]
  obtain ⟨m, hm⟩ : ∃ m, n - l.length = m + 1 := ⟨n - l.length - 1, by omega⟩
  rw [hm, List.replicate_succ, List.set_cons_zero, List.append_assoc]
  simp only [List.length_append, List.length_cons, List.length_nil]
  rw [show n - (l.length + (0 + 1)) = m by omega]
  rfl
theorem fill_splice {l m : List Nat} {n : Nat} (h : l.length + m.length ≤ n) : splice ((fill l n).map wv) l.length (m.map wv) = (fill (l ++ m) n).map wv := by
  unfold splice fill
  simp only [List.map_append, List.length_map, List.length_append]
  have e1 : (List.map wv l ++ List.map wv (List.replicate (n - l.length) 0)).take l.length = List.map wv l := List.take_left' (by simp)
  have e2 : (List.map wv l ++ List.map wv (List.replicate (n - l.length) 0)).drop (l.length + m.length) = List.map wv (List.replicate (n - (l.length + m.length)) 0) := by
    rw [List.drop_append, List.length_map, List.drop_of_length_le (by simp)]
    simp only [List.nil_append, List.map_replicate, List.drop_replicate]
    congr 1
    omega
  rw [e1, e2, List.append_assoc]
theorem fill_bd {l : List Nat} {n : Nat} (h : ∀ x ∈ l, x < 4294967296) : ∀ x ∈ fill l n, x < 4294967296 := by
  intro x hx
  rcases List.mem_append.1 hx with h1 | h1
  · exact h x h1
  · have := (List.mem_replicate.1 h1).2; omega
/-- A frame, made. -/
theorem made_fr {R n m : Nat} {G C F : Nat} {w2 : World} (hg : w2.heap[G]? = some (.cells (wvs (List.replicate n 0)) 26)) (hc : w2.heap[C]? = some (.cells (wvs (List.replicate m 0)) 26))
    (hf : w2.heap[F]? = some (.cells #[.pointer (some ⟨R, 0, none⟩), .slice (some ⟨G, 0, none⟩) n n, .slice (some ⟨C, 0, none⟩) m m, .int .i64 0, .bool false, .int .u32 0] 67)) (h1 : F ≠ G) (h2 : F ≠ C) (h3 : G ≠ C) (r1 : R < F) (r2 : R < G) (r3 : R < C) : FrM w2 R F G C ⟨List.replicate n 0, List.replicate m 0, 0, false, 0⟩ := by
  have z : ∀ k, ∀ x ∈ List.replicate k 0, x < 4294967296 := fun k x hx => by have := (List.mem_replicate.1 hx).2; omega
  exact ⟨by simpa using hf, hg, hc, h1, h2, h3, r1, r2, r3, z n, z m, by show 0 < _; decide⟩
/-- copy of words into a row, as one step of a region that draws. -/
theorem step_copy_words {ops : Array Oper} {o : Oper} {a : Act} {w : World} {K : Act → World → Prop} {Q : Exit → Act → World → Prop} {E : Prop} (hgd : o.guard = none) (d s : Operand)
    (ho : o.op = .call { callee := .builtin .copy, args := #[d, s], argTypes := #[23, 23] }) (g off dLen dCap sLen sCap : Nat) (ad : Addr) (hd : a.eval d = .slice (some ⟨g, off, none⟩) dLen dCap) (hs : a.eval s = .slice (some ad) sLen sCap)
    (cur m : List Nat) (hg : w.heap[g]? = some (.cells (wvs cur) 26)) (hn : m.length = Nat.min sLen dLen) (hsrc : ∀ j v, (m.map wv)[j]? = some v → w.cell? (ad.add j) = some v) (hfit : off + m.length ≤ cur.length)
    (h : K (a.put o.dst (goInt m.length)) (w.setRow g (splice (cur.map wv) off (m.map wv)).toArray)) :
    if Region.wanted o (yielded ops a.tmps) = true then Oper.wp Try.prog o a w K Q else E := by
  have hw : Region.wanted o (yielded ops a.tmps) = true := by simp [Region.wanted, hgd]
  rw [if_pos hw]
  have hrun := run_copy_row (P := Try.prog) w 23 23 o.type 26 g off dLen dCap ad sLen sCap (wvs cur) 26 (m.map wv) Try.underlying23 (by kernel_rfl) hg (by simpa using hn) hsrc (by simpa [wvs] using hfit) (fun v hv => by obtain ⟨z, _, rfl⟩ := List.mem_map.1 hv; rfl)
  have e : (List.take off (wvs cur).toList ++ m.map wv ++ List.drop (off + (m.map wv).length) (wvs cur).toList).toArray = (splice (cur.map wv) off (m.map wv)).toArray := by simp [splice]
  rw [e, List.length_map] at hrun
  unfold Oper.wp execOp
  simp only [ho, resolve, invoke, builtin, Sem.run_bind, Sem.run_pure, Result.andThen_ok, List.map_toArray, List.map_cons, List.map_nil, hd, hs, hrun]
  exact h
end Go.Proofs.Ytndmkfmpdnoliaa
