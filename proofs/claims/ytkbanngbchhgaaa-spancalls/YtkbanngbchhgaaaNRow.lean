/- ROWS OF PAIRS in memory: each element lies in two cells; copy of such elements. -/
import Derived.Test.YtkbanngbchhgaaaIParts
import Derived.Test.YtkbanngbchhgaaaNMath
import Derived.Laws.CopyOwn
import Derived.Lib.Hide
namespace Go.Proofs.Ytkbanngbchhgaaa
open Go.ChangeShapes Go.WideShapes Go.ChangeAt Go.RowKit

/-- Pairs. -/
def kSp : Kind (Int × Int) where
  n := 2
  C := fun _ _ cs p => cs = [.int .i64 p.1, .int .i64 p.2]
  len := fun h => by rw [h]; rfl
  one := fun h => by rw [h]; simp [Value.oneCell']
  mono := fun h _ => h
/-- The cells of pairs. -/
def pcs : List (Int × Int) → List Value
  | [] => []
  | p :: l => .int .i64 p.1 :: .int .i64 p.2 :: pcs l
theorem pcs_length : ∀ l : List (Int × Int), (pcs l).length = l.length * 2
  | [] => rfl
  | p :: l => by simp only [pcs, List.length_cons, pcs_length l]; omega
theorem pcs_append : ∀ a b : List (Int × Int), pcs (a ++ b) = pcs a ++ pcs b
  | [], _ => rfl
  | p :: a, b => by simp only [List.cons_append, pcs, pcs_append a b]
theorem pcs_one (l : List (Int × Int)) : ∀ v ∈ pcs l, v.oneCell' = true := by
  induction l with
  | nil => intro v hv; cases hv
  | cons p l ih =>
    intro v hv
    simp only [pcs, List.mem_cons] at hv
    rcases hv with rfl | rfl | h
    · rfl
    · rfl
    · exact ih v h
theorem pcs_get : ∀ (l : List (Int × Int)) (r : Nat) (hr : r < l.length), (pcs l)[r * 2]? = some (.int .i64 l[r].1) ∧ (pcs l)[r * 2 + 1]? = some (.int .i64 l[r].2)
  | p :: l, 0, _ => ⟨rfl, rfl⟩
  | p :: l, r + 1, hr => by
    have ih := pcs_get l r (by simpa using hr)
    rw [show (r + 1) * 2 = r * 2 + 1 + 1 by omega]
    exact ih
theorem pcs_set0 : ∀ (l : List (Int × Int)) (r : Nat) (x : Int) (hr : r < l.length), (pcs l).set (r * 2) (.int .i64 x) = pcs (l.set r (x, l[r].2))
  | p :: l, 0, _, _ => rfl
  | p :: l, r + 1, x, hr => by
    have ih := pcs_set0 l r x (by simpa using hr)
    rw [show (r + 1) * 2 = r * 2 + 1 + 1 by omega]
    simp only [pcs, List.set_cons_succ, ih, List.getElem_cons_succ]
theorem pcs_set1 : ∀ (l : List (Int × Int)) (r : Nat) (x : Int) (hr : r < l.length), (pcs l).set (r * 2 + 1) (.int .i64 x) = pcs (l.set r (l[r].1, x))
  | p :: l, 0, _, _ => rfl
  | p :: l, r + 1, x, hr => by
    have ih := pcs_set1 l r x (by simpa using hr)
    rw [show (r + 1) * 2 + 1 = r * 2 + 1 + 1 + 1 by omega]
    simp only [pcs, List.set_cons_succ, ih, List.getElem_cons_succ]
theorem pcs_lay {w : World} {S : Nat → Prop} : ∀ l : List (Int × Int), kSp.lay w S (pcs l) l
  | [] => rfl
  | p :: l => ⟨[.int .i64 p.1, .int .i64 p.2], pcs l, rfl, rfl, pcs_lay l⟩
/-- The block of pairs. -/
abbrev spB (l : List (Int × Int)) : Obj := .cells (pcs l).toArray 26
theorem sp_cell {w : World} {b : Nat} {l : List (Int × Int)} (h : w.heap[b]? = some (spB l)) (r : Nat) (hr : r < l.length) : w.cell? ⟨b, r * 2, none⟩ = some (.int .i64 l[r].1) ∧ w.cell? ⟨b, r * 2 + 1, none⟩ = some (.int .i64 l[r].2) := by
  obtain ⟨h1, h2⟩ := pcs_get l r hr
  constructor
  · simp only [World.cell?, h]; simpa using h1
  · simp only [World.cell?, h]; simpa using h2
theorem sp_free {w : World} {b : Nat} {l : List (Int × Int)} (h : w.heap[b]? = some (spB l)) (k : Nat) : w.frozen? ⟨b, k, none⟩ = false := by simp [World.frozen?, h]
theorem sp_set0 {w : World} {b : Nat} {l : List (Int × Int)} (h : w.heap[b]? = some (spB l)) (r : Nat) (x : Int) (hr : r < l.length) : (w.setCell ⟨b, r * 2, none⟩ (.int .i64 x)).heap[b]? = some (spB (l.set r (x, l[r].2))) := by
  rw [setCell_at h]
  unfold spB
  rw [← pcs_set0 l r x hr, List.setIfInBounds_toArray]
theorem sp_set1 {w : World} {b : Nat} {l : List (Int × Int)} (h : w.heap[b]? = some (spB l)) (r : Nat) (x : Int) (hr : r < l.length) : (w.setCell ⟨b, r * 2 + 1, none⟩ (.int .i64 x)).heap[b]? = some (spB (l.set r (l[r].1, x))) := by
  rw [setCell_at h]
  unfold spB
  rw [← pcs_set1 l r x hr, List.setIfInBounds_toArray]
theorem sp_row {w : World} {b : Nat} {S : Nat → Prop} {l : List (Int × Int)} (h : w.heap[b]? = some (spB l)) (hS : S b) : kSp.row w S (some ⟨b, 0, none⟩) l :=
  kSp.lay_row (S := S) (fun _ h => h) b hS 0 (pcs_lay l) fun j u hj => by simp [World.cell?, h, hj]
theorem sp_at {w : World} {S : Nat → Prop} {a : Option Addr} {l : List (Int × Int)} (h : kSp.row w S a l) (k : Nat) (hk : k < l.length) :
    ∃ b o, a = some ⟨b, o, none⟩ ∧ S b ∧ b < w.heap.size ∧ w.cell? ⟨b, o + k * 2, none⟩ = some (.int .i64 l[k].1) ∧ w.cell? ⟨b, o + k * 2 + 1, none⟩ = some (.int .i64 l[k].2) := by
  obtain ⟨b, o, cs, rfl, hS, hc, rfl⟩ := kSp.row_at h k l[k] (List.getElem?_eq_getElem hk)
  have h0 := hc 0 _ rfl
  have h1 := hc 1 _ rfl
  exact ⟨b, o, rfl, hS, World.block_lt_of_cell? w _ h0, h0, h1⟩

/-- copy of elements of any size. -/
theorem run_copy_sz (P : Program) (w : World) (dT sT ty elem : TypeId) (sz : Nat) (g o dLen dCap : Nat) (a : Addr) (sLen sCap : Nat) (cur : Array Value) (t : TypeId) (cs : List Value)
    (hu : P.underlying dT = some (.slice elem)) (hs : (P.info? elem).map (·.size) = some sz)
    (hg : w.heap[g]? = some (.cells cur t (0, 0))) (hn : cs.length = Nat.min sLen dLen * sz)
    (hsrc : ∀ j v, cs[j]? = some v → w.cell? (a.add j) = some v) (hfit : o + cs.length ≤ cur.size) (h1 : ∀ v ∈ cs, v.oneCell' = true) :
    (Builtin.copy_ #[dT, sT] ty #[.slice (some ⟨g, o, none⟩) dLen dCap, .slice (some a) sLen sCap]).run P w =
      .ok (goInt (Nat.min sLen dLen)) (w.setRow g (cur.toList.take o ++ cs ++ cur.toList.drop (o + cs.length)).toArray) := by
  have hl := run_loadCells_list (P := P) w a cs hsrc
  have hst := run_storeCells_at P g o t cs 0 cur w hg (by simpa using hfit) h1
  cases hq : P.info? elem with
  | none => simp [hq] at hs
  | some i =>
    have hi : i.size = sz := by simpa [hq] using hs
    simp [Builtin.copy_, run_underlying hu, Builtin.lenOf, Builtin.firstCells, sizeOf, typeInfo, hq, hi, ← hn, hl, hst]
/-- Copies of one pair, laid over a row of pairs. -/
theorem splice_sp (l m : List (Int × Int)) (k : Nat) : splice (pcs l) (k * 2) (pcs m) = pcs (splice l k m) := by
  have htk : ∀ (l : List (Int × Int)) (k : Nat), (pcs l).take (k * 2) = pcs (l.take k) := fun l => by
    induction l with
    | nil => intro k; simp [pcs]
    | cons p l ih =>
      intro k
      cases k with
      | zero => rfl
      | succ k => rw [show (k + 1) * 2 = k * 2 + 1 + 1 by omega]; simp only [pcs, List.take_succ_cons, ih]
  have hdr : ∀ (l : List (Int × Int)) (k : Nat), (pcs l).drop (k * 2) = pcs (l.drop k) := fun l => by
    induction l with
    | nil => intro k; simp [pcs]
    | cons p l ih =>
      intro k
      cases k with
      | zero => rfl
      | succ k => rw [show (k + 1) * 2 = k * 2 + 1 + 1 by omega]; simp only [pcs, List.drop_succ_cons, ih]
  unfold splice
  rw [pcs_append, pcs_append, htk, pcs_length, show k * 2 + m.length * 2 = (k + m.length) * 2 by omega, hdr]
/-- As one step of a region that draws. -/
theorem step_copy_sp {ops : Array Oper} {o : Oper} {a : Act} {w : World} {K : Act → World → Prop} {Q : Exit → Act → World → Prop} {E : Prop} (hgd : o.guard = none) (d s : Operand)
    (ho : o.op = .call { callee := .builtin .copy, args := #[d, s], argTypes := #[31, 31] }) (g off dLen dCap sLen sCap : Nat) (ad : Addr) (hd : a.eval d = .slice (some ⟨g, off * 2, none⟩) dLen dCap) (hs : a.eval s = .slice (some ad) sLen sCap)
    (cur m : List (Int × Int)) (hg : w.heap[g]? = some (spB cur)) (hn : m.length = Nat.min sLen dLen) (hsrc : ∀ j v, (pcs m)[j]? = some v → w.cell? (ad.add j) = some v) (hfit : off + m.length ≤ cur.length)
    (h : K (a.put o.dst (goInt m.length)) (w.setRow g (pcs (splice cur off m)).toArray)) :
    if Region.wanted o (yielded ops a.tmps) = true then Oper.wp Try.prog o a w K Q else E := by
  have hw : Region.wanted o (yielded ops a.tmps) = true := by simp [Region.wanted, hgd]
  rw [if_pos hw]
  have hrun := run_copy_sz Try.prog w 31 31 o.type 26 2 g (off * 2) dLen dCap ad sLen sCap (pcs cur).toArray 26 (pcs m) Try.underlying31 (by kernel_rfl) hg (by rw [pcs_length, hn]) hsrc (by simp only [List.size_toArray, pcs_length]; omega) (pcs_one m)
  have e : (List.take (off * 2) (pcs cur).toArray.toList ++ pcs m ++ List.drop (off * 2 + (pcs m).length) (pcs cur).toArray.toList).toArray = (pcs (splice cur off m)).toArray := by rw [← splice_sp cur m off]; simp [splice]
  rw [e, ← hn] at hrun
  unfold Oper.wp execOp
  simp only [ho, resolve, invoke, builtin, Sem.run_bind, Sem.run_pure, Result.andThen_ok, List.map_toArray, List.map_cons, List.map_nil, hd, hs, hrun]
  exact h
theorem wpList_copy_sp {ops : Array Oper} {rest : List Oper} {o : Oper} {a : Act} {w : World} {Q : Exit → Act → World → Prop} (hgd : o.guard = none) (d s : Operand)
    (ho : o.op = .call { callee := .builtin .copy, args := #[d, s], argTypes := #[31, 31] }) (g off dLen dCap sLen sCap : Nat) (ad : Addr) (hd : a.eval d = .slice (some ⟨g, off * 2, none⟩) dLen dCap) (hs : a.eval s = .slice (some ad) sLen sCap)
    (cur m : List (Int × Int)) (hg : w.heap[g]? = some (spB cur)) (hn : m.length = Nat.min sLen dLen) (hsrc : ∀ j v, (pcs m)[j]? = some v → w.cell? (ad.add j) = some v) (hfit : off + m.length ≤ cur.length)
    (h : wpList Try.prog ops Q rest (a.put o.dst (goInt m.length)) (w.setRow g (pcs (splice cur off m)).toArray)) : wpList Try.prog ops Q (o :: rest) a w := by
  refine wpList_plain hgd fun K hK => ?_
  have hrun := run_copy_sz Try.prog w 31 31 o.type 26 2 g (off * 2) dLen dCap ad sLen sCap (pcs cur).toArray 26 (pcs m) Try.underlying31 (by kernel_rfl) hg (by rw [pcs_length, hn]) hsrc (by simp only [List.size_toArray, pcs_length]; omega) (pcs_one m)
  have e : (List.take (off * 2) (pcs cur).toArray.toList ++ pcs m ++ List.drop (off * 2 + (pcs m).length) (pcs cur).toArray.toList).toArray = (pcs (splice cur off m)).toArray := by rw [← splice_sp cur m off]; simp [splice]
  rw [e, ← hn] at hrun
  unfold Oper.wp execOp
  simp only [ho, resolve, invoke, builtin, Sem.run_bind, Sem.run_pure, Result.andThen_ok, List.map_toArray, List.map_cons, List.map_nil, hd, hs, hrun]
  exact hK _ _ h
theorem sp_info : (Try.prog.info? 26).map (fun i => (i.zero, i.size, i.bytes)) = some (some (.agg #[.int .i64 0, .int .i64 0]), 2, 16) := by kernel_rfl
theorem made_sp (n : Nat) : madeCells #[.int .i64 0, .int .i64 0] (n * 2) = (pcs (List.replicate n (0, 0))).toArray := by
  apply Array.ext
  · simp [madeCells, pcs_length]
  · intro i h1 h2
    have hi : i < n * 2 := by simpa [madeCells] using h1
    have h3 := pcs_get (List.replicate n (0, 0)) (i / 2) (by simp; omega)
    simp only [List.getElem_replicate] at h3
    simp only [madeCells, Array.getElem_map, Array.getElem_range, List.getElem_toArray]
    rcases Nat.mod_two_eq_zero_or_one i with h | h
    · have e : i = i / 2 * 2 := by omega
      have h4 : (pcs (List.replicate n (0, 0)))[i]? = some (.int .i64 0) := by rw [e]; exact h3.1
      rw [List.getElem?_eq_some_iff] at h4
      obtain ⟨_, h5⟩ := h4
      rw [h5]
      simp [h]
    · have e : i = i / 2 * 2 + 1 := by omega
      have h4 : (pcs (List.replicate n (0, 0)))[i]? = some (.int .i64 0) := by rw [e]; exact h3.2
      rw [List.getElem?_eq_some_iff] at h4
      obtain ⟨_, h5⟩ := h4
      rw [h5]
      simp [h]
theorem make_sp (w : World) (n : Nat) (hn : n ≤ 1000000) : (Instr.makeSlice 31 (.int .i64 (n : Int)) (.int .i64 (n : Int))).run Try.prog w = .ok (.slice (some ⟨w.heap.size, 0, none⟩) n n) (w.alloc (spB (List.replicate n (0, 0)))) := by
  obtain ⟨i0, hi0, hz0, hz1, hz2⟩ := info_parts sp_info
  have hr := run_make (P := Try.prog) w 31 26 i0 _ Try.underlying31 hi0 hz0 .i64 .i64 (n : Int) (n : Int) (by omega) (by omega) (by rw [hz2]; omega) (by omega)
  simp only [Int.toNat_natCast] at hr
  rw [hr, hz1]
  unfold spB
  rw [← made_sp]
  rfl
end Go.Proofs.Ytkbanngbchhgaaa
