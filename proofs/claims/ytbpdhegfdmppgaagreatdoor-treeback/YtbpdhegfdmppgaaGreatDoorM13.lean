/- Texts of this proof, put together: Reader. -/
import Derived.Test.YtbpdhegfdmppgaaGreatDoorM12
import Derived.Laws.EntriesVeiled

/- CONTRACTS of reader and of Parse. -/
namespace Go.Proofs.YtbpdhegfdmppgaaGreatDoor
open Go.ChangeShapes Go.WideShapes Go.ChangeAt Go.RowKit

def openRow : Array Value := madeCells (Value.agg #[.bool false, .string ⟨#[]⟩, .slice none 0 0, .int .i64 0]).cells 100

theorem openRow0 : openRow[0]? = some (.bool false) := by kernel_rfl
theorem openRow1 : openRow[1]? = some (.string ⟨#[]⟩) := by kernel_rfl
theorem openRow2 : openRow[2]? = some (.slice none 0 0) := by kernel_rfl
theorem openRow3 : openRow[3]? = some (.int .i64 0) := by kernel_rfl

theorem make_open (w : World) : (Instr.makeSlice 23 (.int .i64 1) (.int .i64 25)).run Tryz.prog w = .ok (.slice (some ⟨w.heap.size, 0, none⟩) 1 25) (w.alloc (.cells openRow 66)) := by
  obtain ⟨i0, hi0, hz0, hz1, hz2⟩ := info_parts Tryz.info66
  have := run_make (P := Tryz.prog) w 23 66 i0 _ Tryz.underlying23 hi0 hz0 .i64 .i64 1 25 (by omega) (by omega) (by rw [hz2]; omega) (by omega)
  rw [this, hz1]
  rfl

theorem five_new (w : World) (a b c d e : Obj) : Below w.heap.size w (((((w.alloc a).alloc b).alloc c).alloc d).alloc e) ∧ (((((w.alloc a).alloc b).alloc c).alloc d).alloc e).heap[w.heap.size]? = some a ∧
    (((((w.alloc a).alloc b).alloc c).alloc d).alloc e).heap[w.heap.size + 1]? = some b ∧ (((((w.alloc a).alloc b).alloc c).alloc d).alloc e).heap[w.heap.size + 2]? = some c ∧
    (((((w.alloc a).alloc b).alloc c).alloc d).alloc e).heap[w.heap.size + 3]? = some d ∧ (((((w.alloc a).alloc b).alloc c).alloc d).alloc e).heap[w.heap.size + 4]? = some e := by
  refine ⟨(((((Below.refl _ _).alloc (Nat.le_refl _) _).alloc (by simp) _).alloc (by simp; omega) _).alloc (by simp; omega) _).alloc (by simp; omega) _, ?_, ?_, ?_, ?_, ?_⟩
  · rw [heap_alloc_old _ _ (by simp; omega), heap_alloc_old _ _ (by simp; omega), heap_alloc_old _ _ (by simp; omega), heap_alloc_old _ _ (by simp)]; exact heap_alloc_new w a
  · rw [heap_alloc_old _ _ (by simp), heap_alloc_old _ _ (by simp), heap_alloc_old _ _ (by simp)]; simpa using heap_alloc_new (w.alloc a) b
  · rw [heap_alloc_old _ _ (by simp), heap_alloc_old _ _ (by simp)]; simpa using heap_alloc_new ((w.alloc a).alloc b) c
  · rw [heap_alloc_old _ _ (by simp)]; simpa using heap_alloc_new (((w.alloc a).alloc b).alloc c) d
  · simpa using heap_alloc_new ((((w.alloc a).alloc b).alloc c).alloc d) e

theorem reader_any (w : World) : Calls Tryz.prog 26 #[] w fun e w' => e = .returned (.tuple #[.func (.func 53) #[] #[.pointer (some ⟨w.heap.size, 0, none⟩), .pointer (some ⟨w.heap.size + 4, 0, none⟩), .pointer (some ⟨w.heap.size + 2, 0, none⟩), .pointer (some ⟨w.heap.size + 3, 0, none⟩)],
      .func (.func 54) #[] #[.pointer (some ⟨w.heap.size + 2, 0, none⟩), .pointer (some ⟨w.heap.size + 4, 0, none⟩)]]) ∧ Below w.heap.size w w' ∧
      ∃ row, Inv (fun _ => False) w.heap.size 0 w' St.start (.slice none 0 0) row [.slice none 0 0] := by
  have hmf : ∀ (fn : Fn) (first cap : Array Value) (w : World), (Instr.makeFunc fn first cap).run Tryz.prog w = .ok (.func fn first cap) w := fun _ _ _ _ => rfl
  have hmk := make_open
  go_enter Tryz.func26, Tryz.ntmps26
  go_wp2_with fail
  go_ret2
  have hf := five_new w (Obj.cells #[.slice none 0 0] 84) (Obj.cells openRow 66) (Obj.cells #[.slice (some ⟨w.heap.size + 1, 0, none⟩) 1 25] 23) (Obj.cells #[.func (.func 51) #[] #[.pointer (some ⟨w.heap.size + 2, 0, none⟩)]] 91)
    (Obj.cells #[.func (.func 52) #[] #[.pointer (some ⟨w.heap.size, 0, none⟩), .pointer (some ⟨w.heap.size + 3, 0, none⟩)]] 92)
  obtain ⟨hB, h0, h1, h2, h3, h4⟩ := hf
  refine ⟨rfl, hB, openRow, ?_⟩
  have hfs : Fs (fun _ => False) (((((w.alloc (Obj.cells #[.slice none 0 0] 84)).alloc (Obj.cells openRow 66)).alloc (Obj.cells #[.slice (some ⟨w.heap.size + 1, 0, none⟩) 1 25] 23)).alloc (Obj.cells #[.func (.func 51) #[] #[.pointer (some ⟨w.heap.size + 2, 0, none⟩)]] 91)).alloc
      (Obj.cells #[.func (.func 52) #[] #[.pointer (some ⟨w.heap.size, 0, none⟩), .pointer (some ⟨w.heap.size + 3, 0, none⟩)]] 92)) (w.heap.size + 5) openRow [St.start.top] [.slice none 0 0] :=
    ⟨openRow0, openRow1, openRow2, openRow3, Kids.none _ _ _, fun g hg => (by simp [Value.ownBlock] at hg), trivial⟩
  refine { hw := h0, ow := World.ownsRow_nil _ _ _ _, hr := h1, rs := by simp [openRow, madeCells], ho := h2, hp := h3, he := h4, dp := by decide, fs := hfs, F0 := fun b hb => hb.elim, FC := fun b hb => hb.elim, fw := ?_, bw := Nat.le_refl _, bk := ?_ }
  · intro g hg
    simp [Value.ownBlock] at hg
  · intro f hf
    simp only [St.start, List.mem_cons, List.not_mem_nil, or_false] at hf
    subst hf
    exact Nat.le_refl _
end Go.Proofs.YtbpdhegfdmppgaaGreatDoor
