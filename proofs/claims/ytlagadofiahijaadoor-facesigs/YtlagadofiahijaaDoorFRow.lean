/- WHOLE STRUCTS: read out of their blocks as results; stored over. -/
import Derived.Test.YtlagadofiahijaaDoorFClone
import Derived.Laws.Tables
import Derived.Laws.ResultCell
namespace Go.Proofs.YtlagadofiahijaaDoor
open Go.ChangeShapes Go.WideShapes Go.ChangeAt Go.RowKit

theorem setRow_kept {M : Nat → Prop} {w w3 : World} {b : Nat} (cs : Array Value) (h : Kept M w w3) (hw : w.heap.size ≤ b) : Kept M w (w3.setRow b cs) :=
  ⟨h.os, h.tape, h.output, by simpa [World.setRow] using h.size, fun i hi hm => by
    have : (w3.setRow b cs).heap[i]? = w3.heap[i]? := by simp [World.setRow, Array.getElem?_modify]; intro e; omega
    rw [this]; exact h.block i hi hm⟩
theorem setRow_in (w : World) (b : Nat) (cs : Array Value) : Kept (fun k => k = b) w (w.setRow b cs) :=
  ⟨rfl, rfl, rfl, by simp [World.setRow], fun i hi hm => by simp [World.setRow, Array.getElem?_modify]; intro e; exact absurd e.symm hm⟩
theorem setRow_at {w : World} {b : Nat} {old cs : Array Value} {t : TypeId} {f : Nat × Nat} (h : w.heap[b]? = some (.cells old t f)) : (w.setRow b cs).heap[b]? = some (.cells cs t f) := by
  simp [World.setRow, Array.getElem?_modify, h]
/-- The result is read out of its block. -/
theorem results_row {fn : Func} {tmps : Array Value} {W : World} {b K : Nat} {ty : TypeId} {cs : Array Value} (hr : fn.results = #[ResultVar.cell K ty]) (ht : tmps[K]?.getD undef = .pointer (some ⟨b, 0, none⟩))
    (hl : (loadVar ty ⟨b, 0, none⟩).run Tryd.prog W = .ok (.agg cs) W) : (results fn tmps).run Tryd.prog W = .ok (.agg cs) W := by
  simp only [results, hr]
  simp [ht, asAddr, hl]
/-- The first of two results is read out of its block. -/
theorem results_row2 {fn : Func} {tmps : Array Value} {W : World} {b K U : Nat} {ty : TypeId} {cs : Array Value} {u : Value} (hr : fn.results = #[ResultVar.cell K ty, ResultVar.tmp U]) (ht : tmps.getD K undef = .pointer (some ⟨b, 0, none⟩)) (hu : tmps.getD U undef = u)
    (hl : (loadVar ty ⟨b, 0, none⟩).run Tryd.prog W = .ok (.agg cs) W) : (results fn tmps).run Tryd.prog W = .ok (.tuple #[.agg cs, u]) W := by
  rw [results_cell_tmp hr, ht, hu]
  simp [asAddr, hl]
theorem size_sig : (Tryd.prog.info? 33).map (·.size) = some 3 := by kernel_rfl
theorem load_sig {W : World} {b : Nat} {cs : Array Value} {t : TypeId} {f : Nat × Nat} (h : W.heap[b]? = some (.cells cs t f)) (hs : cs.size = 3) : (loadVar 33 ⟨b, 0, none⟩).run Tryd.prog W = .ok (.agg cs) W :=
  run_loadVar_row W b t 33 cs f _ h Tryd.underlying33 rfl (by rw [hs]; exact size_sig)
theorem size_type : (Tryd.prog.info? 38).map (·.size) = some 2 := by kernel_rfl
theorem load_type {W : World} {b : Nat} {cs : Array Value} {t : TypeId} {f : Nat × Nat} (h : W.heap[b]? = some (.cells cs t f)) (hs : cs.size = 2) : (loadVar 38 ⟨b, 0, none⟩).run Tryd.prog W = .ok (.agg cs) W :=
  run_loadVar_row W b t 38 cs f _ h Tryd.underlying38 rfl (by rw [hs]; exact size_type)
theorem cells3 {w : World} {b : Nat} {x0 x1 x2 : Value} {t : TypeId} (h : w.heap[b]? = some (.cells #[x0, x1, x2] t (0, 0))) :
    w.cell? ⟨b, 0, none⟩ = some x0 ∧ w.cell? ⟨b, 1, none⟩ = some x1 ∧ w.cell? ⟨b, 2, none⟩ = some x2 ∧ w.frozen? ⟨b, 0, none⟩ = false ∧ w.frozen? ⟨b, 1, none⟩ = false ∧ w.frozen? ⟨b, 2, none⟩ = false := by
  refine ⟨?_, ?_, ?_, ?_, ?_, ?_⟩ <;> simp [World.cell?, World.frozen?, h]
theorem set_over {w : World} {b o : Nat} {v : Value} {c : Array Value} {e : TypeId} {f : Nat × Nat} (h : w.heap[b]? = some (.cells c e f)) : (w.setCell ⟨b, o, none⟩ v).heap[b]? = some (.cells (c.setIfInBounds o v) e f) := setCell_at h
theorem set3 {w : World} {b : Nat} {x0 x1 x2 y0 y1 y2 : Value} {e : TypeId} {f : Nat × Nat} (h : w.heap[b]? = some (.cells #[x0, x1, x2] e f)) : (((w.setCell ⟨b, 0, none⟩ y0).setCell ⟨b, 1, none⟩ y1).setCell ⟨b, 2, none⟩ y2).heap[b]? = some (.cells #[y0, y1, y2] e f) :=
  set_over (set_over (set_over h))
theorem bl_then {a b c : World} (h : Below a.heap.size a b) (k : Below b.heap.size b c) : Below a.heap.size a c := Kept.to_below (Below.to_kept (Below.kept h (fun _ => False)) k) (fun _ h => False.elim h)
theorem bl_alloc {a b : World} (h : Below a.heap.size a b) (o : Obj) : Below a.heap.size a (b.alloc o) := bl_then h ((Below.refl _ _).alloc (Nat.le_refl _) o)
theorem bl_set {a b : World} (h : Below a.heap.size a b) (k o : Nat) (v : Value) (hk : a.heap.size ≤ k) : Below a.heap.size a (b.setCell ⟨k, o, none⟩ v) := Kept.to_below ((Below.kept h (fun _ => False)).set_new k o v hk) (fun _ h => False.elim h)
theorem bs_tl (a : List UInt8) : (bs a).toList = a := by rw [ByteArray.toList_eq, bs_list]
end Go.Proofs.YtlagadofiahijaaDoor
