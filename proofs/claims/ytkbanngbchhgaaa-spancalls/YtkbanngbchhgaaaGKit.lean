/- FUNCTIONS AND INSTRUCTIONS in memory: made, loaded, stored, written out; Light of one function. -/
import Derived.Test.YtkbanngbchhgaaaGBase
import Derived.Test.YtkbanngbchhgaaaIRightR
import Derived.Test.YtkbanngbchhgaaaILight
import Derived.Test.YtkbanngbchhgaaaIApp2
import Derived.Deep.LoopGhost
import Derived.Deep.CutRange
import Derived.WalkMore
import Derived.Deep.MidRow
namespace Go.Proofs.Ytkbanngbchhgaaa
open Go.ChangeShapes Go.WideShapes Go.ChangeAt Go.RowKit

theorem ir_info : (Try.prog.info? 43).map (fun i => (i.zero, i.size, i.bytes)) = some (some (.agg #[.int .i64 0, .int .i64 0, .int .i64 0, .int .i64 0, .int .i64 0, .int .i64 0, .int .u32 0, .string ⟨#[]⟩, .slice none 0 0]), 9, 96) := by kernel_rfl
theorem make_irs (w : World) (n : Nat) (hn : n ≤ 1000000) : ∃ O : Obj, (Instr.makeSlice 23 (.int .i64 0) (.int .i64 (n : Int))).run Try.prog w = .ok (.slice (some ⟨w.heap.size, 0, none⟩) 0 n) (w.alloc O) ∧ (w.alloc O).ownsRow w.heap.size 43 9 (.slice (some ⟨w.heap.size, 0, none⟩) 0 n) 0 [] := by
  obtain ⟨i0, hi0, hz0, hz1, hz2⟩ := info_parts ir_info
  have hr := run_make (P := Try.prog) w 23 43 i0 _ Try.underlying23 hi0 hz0 .i64 .i64 0 (n : Int) (Int.le_refl _) (by omega) (by rw [hz2]; omega) (by omega)
  simp only [Int.toNat_zero, Int.toNat_natCast] at hr
  refine ⟨_, hr, World.ownsRow_made w _ n (Nat.le_refl _) (by unfold maxLen; omega) ?_⟩
  rw [size_madeCells, hz1]
theorem src_ir (w : World) (x : Ir) (y : Option Addr) (c2 : Nat) : Src Try.prog 9 23 (.slice (some ⟨w.heap.size, 0, none⟩) 1 1) 1 (irCells x y c2) (w.alloc (irB x y c2)) :=
  Src.ofSlice _ Try.underlying23 ⟨w.heap.size, 0, none⟩ 1 1 (irCells x y c2) rfl (World.news_of_block (cs := (irCells x y c2).toArray) (t := 43) (fr := (0, 0)) (heap_alloc_new w _)) (by simp [irCells, Value.oneCell'])
theorem ir_size : (Try.prog.info? 43).map (·.size) = some 9 := by kernel_rfl
theorem results_row2 {fn : Func} {tmps : Array Value} {W : World} {b K U : Nat} {ty : TypeId} {cs : Array Value} {u : Value} (hr : fn.results = #[ResultVar.cell K ty, ResultVar.tmp U]) (ht : tmps.getD K undef = .pointer (some ⟨b, 0, none⟩)) (hu : tmps.getD U undef = u)
    (hl : (loadVar ty ⟨b, 0, none⟩).run Try.prog W = .ok (.agg cs) W) : (results fn tmps).run Try.prog W = .ok (.tuple #[.agg cs, u]) W := by
  simp only [Array.getD_eq_getD_getElem?] at ht hu
  simp only [results, hr]
  simp [ht, hu, asAddr, hl]
theorem size_co : (Try.prog.info? 25).map (·.size) = some 5 := by kernel_rfl
theorem load_co {W : World} {b : Nat} {cs : Array Value} {t : TypeId} {f : Nat × Nat} (h : W.heap[b]? = some (.cells cs t f)) (hs : cs.size = 5) : (loadVar 25 ⟨b, 0, none⟩).run Try.prog W = .ok (.agg cs) W :=
  run_loadVar_row W b t 25 cs f _ h Try.underlying25 rfl (by rw [hs]; exact size_co)
theorem set5 {w : World} {b : Nat} {x0 x1 x2 x3 x4 y0 y1 y2 y3 y4 : Value} {e : TypeId} {f : Nat × Nat} (h : w.heap[b]? = some (.cells #[x0, x1, x2, x3, x4] e f)) : (((((w.setCell ⟨b, 0, none⟩ y0).setCell ⟨b, 1, none⟩ y1).setCell ⟨b, 2, none⟩ y2).setCell ⟨b, 3, none⟩ y3).setCell ⟨b, 4, none⟩ y4).heap[b]? = some (.cells #[y0, y1, y2, y3, y4] e f) := setCell_at (setCell_at (setCell_at (setCell_at (setCell_at h))))
theorem bl_set5 {w a : World} {b : Nat} (h : Below w.heap.size w a) (hb : w.heap.size ≤ b) (y0 y1 y2 y3 y4 : Value) : Below w.heap.size w (((((a.setCell ⟨b, 0, none⟩ y0).setCell ⟨b, 1, none⟩ y1).setCell ⟨b, 2, none⟩ y2).setCell ⟨b, 3, none⟩ y3).setCell ⟨b, 4, none⟩ y4) :=
  bl_set (bl_set (bl_set (bl_set (bl_set h b 0 y0 hb) b 1 y1 hb) b 2 y2 hb) b 3 y3 hb) b 4 y4 hb
theorem five {w : World} {b : Nat} {x0 x1 x2 x3 x4 : Value} {t : TypeId} (h : w.heap[b]? = some (.cells #[x0, x1, x2, x3, x4] t)) :
    w.cell? ⟨b, 0, none⟩ = some x0 ∧ w.cell? ⟨b, 1, none⟩ = some x1 ∧ w.cell? ⟨b, 2, none⟩ = some x2 ∧ w.cell? ⟨b, 3, none⟩ = some x3 ∧ w.cell? ⟨b, 4, none⟩ = some x4 := by
  refine ⟨?_, ?_, ?_, ?_, ?_⟩ <;> simp [World.cell?, h]
abbrev coZ : Obj := .cells #[.string ⟨#[]⟩, .slice none 0 0, .int .i64 0, .int .i64 0, .slice none 0 0] 25
/-- The cells of instructions without arguments. -/
def irsCells : List Ir → List Value
  | [] => []
  | x :: l => irCells x none 0 ++ irsCells l
def PlainIr (l : List Ir) : Prop := ∀ x ∈ l, x.args = [] ∧ x.n < 4294967296
theorem irs_lay {w : World} {S : Nat → Prop} : ∀ {l : List Ir}, PlainIr l → kIr.lay w S (irsCells l) l
  | [], _ => rfl
  | x :: l, h => by
    have hx := h x (by simp)
    exact ⟨irCells x none 0, irsCells l, rfl, ⟨none, 0, rfl, by rw [hx.1]; exact Nat.le_refl _, hx.2, by rw [hx.1]; trivial⟩, irs_lay fun y hy => h y (by simp [hy])⟩
theorem cells_of' {w : World} {b : Nat} {cs : List Value} {t : TypeId} {f : Nat × Nat} (h : w.heap[b]? = some (.cells cs.toArray t f)) : ∀ j u, cs[j]? = some u → w.cell? ⟨b, 0 + j, none⟩ = some u := fun j u hj => by
  simp [World.cell?, h, hj]
theorem irs_rowG {w : World} {b : Nat} {l : List Ir} (hl : PlainIr l) (h : w.heap[b]? = some (.cells (irsCells l).toArray 43)) : kIr.row w (fun _ => True) (some ⟨b, 0, none⟩) l :=
  kIr.lay_row (S := fun _ => True) (fun _ h => h) b trivial 0 (irs_lay hl) (cells_of' h)
theorem two_box' (w : World) (o1 o2 : Obj) : ((w.alloc o1).alloc o2).heap[w.heap.size]? = some o1 ∧ ((w.alloc o1).alloc o2).heap[w.heap.size + 1]? = some o2 ∧ Below w.heap.size w ((w.alloc o1).alloc o2) ∧ ((w.alloc o1).alloc o2).heap.size = w.heap.size + 2 := by
  refine ⟨by rw [heap_alloc_old _ _ (by simp)]; exact heap_alloc_new w o1, ?_, bl_alloc (bl_alloc (Below.refl _ _) _) _, by simp⟩
  have := heap_alloc_new (w.alloc o1) o2
  simpa using this
theorem co_oneG {w : World} {S : Nat → Prop} {b : Nat} {c : Co} {pa la : Option Addr} {pc lc : Nat} (hin : CoIn w S c pa pc la lc) (hS : S b) (h : w.heap[b]? = some (coO c pa pc la lc)) : kCo.row w S (some ⟨b, 0, none⟩) [c] :=
  kCo.lay_row (S := S) (fun _ h => h) b hS 0 ⟨coCells c pa pc la lc, [], rfl, ⟨pa, pc, la, lc, rfl, hin⟩, rfl⟩ (cells_of' h)
theorem coIn_on {w w' : World} {S : Nat → Prop} {c : Co} {pa la : Option Addr} {pc lc : Nat} (hin : CoIn w S c pa pc la lc) (hb : Below w.heap.size w w') : CoIn w' (fun _ => True) c pa pc la lc := hin.mono fun b _ hlt => ⟨trivial, hb.block b hlt⟩
theorem light_oneG {c : Co} (h : lightB [c] = true) : c.ps.length ≤ 20 ∧ c.l.length ≤ 3000 ∧ CoOk c ∧ ∀ z ∈ c.l, z.args.length ≤ 20 := by
  have hok := (light_all h).2 c (by simp)
  simp only [lightB, List.all_cons, List.all_nil, Bool.and_true, Bool.and_eq_true, coLight, coLight0, decide_eq_true_eq, List.all_eq_true] at h
  refine ⟨by omega, by omega, hok, fun z hz => ?_⟩
  have := h.2.2 z hz
  simp only [irLight, Bool.and_eq_true, decide_eq_true_eq] at this
  omega
theorem setCells_block {w : World} {b : Nat} : ∀ (vs : List Value) (o : Nat) {cur : Array Value} {e : TypeId} {f : Nat × Nat}, w.heap[b]? = some (.cells cur e f) → o + vs.length ≤ cur.size → ∃ cur' : Array Value, (w.setCells b o vs).heap[b]? = some (.cells cur' e f) ∧ cur'.size = cur.size ∧ cur'.toList = cur.toList.take o ++ vs ++ cur.toList.drop (o + vs.length)
  | [], o, cur, e, f, h, _ => ⟨cur, h, rfl, by simp⟩
  | v :: vs, o, cur, e, f, h, hl => by
    simp only [List.length_cons] at hl
    have ih := setCells_block (w := w.setCell ⟨b, o, none⟩ v) vs (o + 1) (setCell_at h) (by simp; omega)
    obtain ⟨cur', h1, h2, h3⟩ := ih
    refine ⟨cur', h1, by simpa using h2, ?_⟩
    rw [h3]
    have hlt : o < cur.toList.length := by simp; omega
    simp only [Array.toList_setIfInBounds, List.length_cons]
    rw [List.drop_set_of_lt (by omega), show o + 1 + vs.length = o + (vs.length + 1) by omega, List.take_set, List.take_succ_eq_append_getElem hlt]
    rw [List.set_append_right _ _ (by simp; omega)]
    simp only [List.length_take, List.append_assoc, List.cons_append]
    rw [show o - min o cur.toList.length = 0 by omega]
    rfl
theorem setCells_other {b k : Nat} (hk : k ≠ b) : ∀ (vs : List Value) (o : Nat) (w : World), (w.setCells b o vs).heap[k]? = w.heap[k]?
  | [], _, _ => rfl
  | v :: vs, o, w => by rw [World.setCells, setCells_other hk vs]; exact setCell_other hk
theorem setCells_kept (b : Nat) : ∀ (vs : List Value) (o : Nat) (w : World), Kept (fun k => k = b) w (w.setCells b o vs)
  | [], _, w => Kept.refl _ w
  | v :: vs, o, w => by rw [World.setCells]; exact (Kept.set w b o v).trans (setCells_kept b vs (o + 1) _)
theorem lay_len {w : World} {S : Nat → Prop} : ∀ {l : List Ir} {xs : List Value}, kIr.lay w S xs l → xs.length = l.length * 9
  | [], xs, h => by cases h; rfl
  | x :: l, xs, h => by
    obtain ⟨cs, ys, rfl, hC, hr⟩ := h
    have h1 := kIr.len hC
    have h2 := lay_len hr
    have h3 : kIr.n = 9 := rfl
    rw [List.length_append, List.length_cons]; omega
end Go.Proofs.Ytkbanngbchhgaaa
