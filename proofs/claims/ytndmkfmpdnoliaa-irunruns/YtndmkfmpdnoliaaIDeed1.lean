/- What instructions do to memory. -/
import Derived.Test.YtndmkfmpdnoliaaIRunM
import Derived.Deep.RegionHeld3
import Derived.Lib.Hide
namespace Go.Proofs.Ytndmkfmpdnoliaa
open Go.ChangeShapes Go.WideShapes Go.ChangeAt Go.RowKit

/-- A row of words has become another one; nothing else is touched. -/
structure SetR (w w' : World) (G : Nat) (l : List Nat) : Prop where
  kept : Kept (fun k => k = G) w w'
  row : w'.heap[G]? = some (.cells (wvs l) 26)
theorem SetR.of {w w1 : World} {G : Nat} {l : List Nat} {k n : Nat} (hb : Below w.heap.size w w1) (hg : w1.heap[G]? = some (.cells (wvs l) 26)) : SetR w (w1.setCell ⟨G, k, none⟩ (.int .u32 (n : Int))) G (l.set k n) := by
  refine ⟨((Below.kept hb (fun k => k = G)).trans (Kept.set w1 G k _)), ?_⟩
  rw [setCell_at hg]
  have := wvs_set l k n
  unfold wv at this
  rw [this]
theorem drew_bl (w : World) : Below w.heap.size w w.drew := ⟨rfl, rfl, rfl, Nat.le_refl _, fun _ _ => rfl⟩
/-- A frame behind its instruction's box. -/
theorem FrM.box {w : World} {R F G C : Nat} {fr : Fr} (h : FrM w R F G C fr) (o : Obj) : FrM (w.alloc o) R F G C fr :=
  ⟨by rw [heap_alloc_old _ _ (lt_of_some h.f)]; exact h.f, by rw [heap_alloc_old _ _ (lt_of_some h.g)]; exact h.g, by rw [heap_alloc_old _ _ (lt_of_some h.c)]; exact h.c, h.fg, h.fc, h.gc, h.rf, h.rg, h.rc, h.regs, h.cells, h.res⟩
theorem FrM.cells6 {w : World} {R F G C : Nat} {fr : Fr} (h : FrM w R F G C fr) : w.cell? ⟨F, 0, none⟩ = some (.pointer (some ⟨R, 0, none⟩)) ∧ w.cell? ⟨F, 1, none⟩ = some (.slice (some ⟨G, 0, none⟩) fr.regs.length fr.regs.length) ∧ w.cell? ⟨F, 2, none⟩ = some (.slice (some ⟨C, 0, none⟩) fr.cells.length fr.cells.length) ∧
    w.cell? ⟨F, 3, none⟩ = some (.int .i64 (fr.next : Int)) ∧ w.cell? ⟨F, 4, none⟩ = some (.bool fr.ended) ∧ w.cell? ⟨F, 5, none⟩ = some (.int .u32 (fr.result : Int)) := by
  refine ⟨?_, ?_, ?_, ?_, ?_, ?_⟩ <;> simp [World.cell?, h.f]

/-- A run behind an instruction's box. -/
theorem RnM.box {w : World} {R KM DM deep : Nat} {st : St} {v : Value} (h : RnM w R KM DM deep st v) (o : Obj) : RnM (w.alloc o) R KM DM deep st v :=
  ⟨by rw [heap_alloc_old _ _ (lt_of_some h.r)]; exact h.r, own_kept h.own (Kept.alloc w o (fun _ => False)) fun _ _ e => e, h.left, h.br⟩
theorem RnM.cells6 {w : World} {R KM DM deep : Nat} {st : St} {v : Value} (h : RnM w R KM DM deep st v) : w.cell? ⟨R, 0, none⟩ = some (.map (some KM)) ∧ w.cell? ⟨R, 1, none⟩ = some (.map (some DM)) ∧ w.cell? ⟨R, 2, none⟩ = some (.int .i64 (60000 - (st.left : Int))) ∧ w.cell? ⟨R, 3, none⟩ = some (.int .i64 (deep : Int)) ∧ w.cell? ⟨R, 4, none⟩ = some v ∧ w.cell? ⟨R, 5, none⟩ = some (.int .i64 st.wrong) := by
  refine ⟨?_, ?_, ?_, ?_, ?_, ?_⟩ <;> simp [World.cell?, h.r]
theorem opz_bd (o : Int) (a b : Nat) (ha : a < 4294967296) (hb : b < 4294967296) : (((opz o (a : Int) (b : Int)).toNat : Nat) : Int) = opz o (a : Int) (b : Int) := by
  have h : 0 ≤ opz o (a : Int) (b : Int) := by
    unfold opz
    split
    · omega
    split
    · omega
    split
    · exact Int.emod_nonneg _ (by decide)
    split
    · rw [bits_and a b ha hb]; omega
    split
    · rw [bits_or a b ha hb]; omega
    split
    · rw [bits_xor a b ha hb]; omega
    split
    · exact Int.emod_nonneg _ (by decide)
    split
    · exact Int.ediv_nonneg (by omega) (by have : (0 : Int) < 2 ^ ((b : Int) % 32).toNat := Int.pow_pos (by decide); omega)
    split
    · split <;> decide
    split
    · split <;> decide
    · decide
  omega
end Go.Proofs.Ytndmkfmpdnoliaa
