/- What holds of the library's own variables wherever the program goes ('Glob'); the library's contracts, laid at this program. -/
import Derived.Test.YtlagadofiahijaaDoorFFind
import Derived.Test.YtlagadofiahijaaDoorFShelf
namespace Go.Proofs.YtlagadofiahijaaDoor
open Go.ChangeShapes Go.WideShapes Go.ChangeAt Go.RowKit Go.Shelf


/-- What holds of the library's variables when a call begins. -/
structure Start (W : World) : Prop where
  errS : ∃ te pe, W.cell? ⟨Tryd.laysAtoi_ren.g 15, 0, none⟩ = some (.iface te pe)
  errR : ∃ te pe, W.cell? ⟨Tryd.laysAtoi_ren.g 16, 0, none⟩ = some (.iface te pe)
  maxl : ∃ m, W.cell? ⟨Tryd.laysCut_ren.g 1, 0, none⟩ = some (.int .i64 m)
/-- All blocks of a world of that sort are as they were; they lie below B. -/
def Glob (B : Nat) (w : World) : Prop := ∃ W : World, Start W ∧ W.heap.size ≤ B ∧ B ≤ w.heap.size ∧ ∀ k, k < W.heap.size → w.heap[k]? = W.heap[k]?
theorem Glob.keep {B : Nat} {w w' : World} {M : Nat → Prop} (h : Glob B w) (hk : Kept M w w') (hM : ∀ k, M k → B ≤ k) : Glob B w' := by
  obtain ⟨W, hs, hB, hB', hw⟩ := h
  refine ⟨W, hs, hB, Nat.le_trans hB' hk.size, fun k hlt => (hk.block k (by omega) fun m => ?_).trans (hw k hlt)⟩
  have := hM k m
  omega
theorem Glob.below {B : Nat} {w w' : World} (h : Glob B w) (hk : Below w.heap.size w w') : Glob B w' := h.keep (Below.kept hk (fun _ => False)) fun _ e => e.elim
theorem Glob.le {B : Nat} {w : World} (h : Glob B w) : B ≤ w.heap.size := by
  obtain ⟨W, hs, hB, hB', hw⟩ := h
  exact hB'
theorem Glob.cell {B : Nat} {w : World} (h : Glob B w) : ∃ W, Start W ∧ ∀ b o v, W.cell? ⟨b, o, none⟩ = some v → w.cell? ⟨b, o, none⟩ = some v := by
  obtain ⟨W, hs, hB, hB', hw⟩ := h
  exact ⟨W, hs, fun b o v hc => by rw [World.cell?_of_block (w := W) (hw b (World.block_lt_of_cell? W _ hc))]; exact hc⟩
theorem Glob.errS {B : Nat} {w : World} (h : Glob B w) : ∃ te pe, w.cell? ⟨Tryd.laysAtoi_ren.g 15, 0, none⟩ = some (.iface te pe) := by
  obtain ⟨W, hs, hc⟩ := h.cell
  obtain ⟨te, pe, h1⟩ := hs.errS
  exact ⟨te, pe, hc _ _ _ h1⟩
theorem Glob.errR {B : Nat} {w : World} (h : Glob B w) : ∃ te pe, w.cell? ⟨Tryd.laysAtoi_ren.g 16, 0, none⟩ = some (.iface te pe) := by
  obtain ⟨W, hs, hc⟩ := h.cell
  obtain ⟨te, pe, h1⟩ := hs.errR
  exact ⟨te, pe, hc _ _ _ h1⟩
theorem Glob.maxl {B : Nat} {w : World} (h : Glob B w) : ∃ m, w.cell? ⟨Tryd.laysCut_ren.g 1, 0, none⟩ = some (.int .i64 m) := by
  obtain ⟨W, hs, hc⟩ := h.cell
  obtain ⟨m, h1⟩ := hs.maxl
  exact ⟨m, hc _ _ _ h1⟩
end Go.Proofs.YtlagadofiahijaaDoor
