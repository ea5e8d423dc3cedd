/- CONTRACT of Fold. -/
import Derived.Test.YtclajapdbphlbaaGFolded
import Derived.Test.YtclajapdbphlbaaIRightR
namespace Go.Proofs.Ytclajapdbphlbaa
open Go.ChangeShapes Go.WideShapes Go.ChangeAt Go.RowKit

theorem results_row2 {fn : Func} {tmps : Array Value} {W : World} {b K U : Nat} {ty : TypeId} {cs : Array Value} {u : Value} (hr : fn.results = #[ResultVar.cell K ty, ResultVar.tmp U]) (ht : tmps.getD K undef = .pointer (some ⟨b, 0, none⟩)) (hu : tmps.getD U undef = u)
    (hl : (loadVar ty ⟨b, 0, none⟩).run Try.prog W = .ok (.agg cs) W) : (results fn tmps).run Try.prog W = .ok (.tuple #[.agg cs, u]) W := by
  simp only [Array.getD_eq_getD_getElem?] at ht hu
  simp only [results, hr]
  simp [ht, hu, asAddr, hl]
theorem size_co : (Try.prog.info? 25).map (·.size) = some 5 := by kernel_rfl
theorem load_co {W : World} {b : Nat} {cs : Array Value} {t : TypeId} {f : Nat × Nat} (h : W.heap[b]? = some (.cells cs t f)) (hs : cs.size = 5) : (loadVar 25 ⟨b, 0, none⟩).run Try.prog W = .ok (.agg cs) W :=
  run_loadVar_row W b t 25 cs f _ h Try.underlying25 rfl (by rw [hs]; exact size_co)
theorem set5 {w : World} {b : Nat} {x0 x1 x2 x3 x4 y0 y1 y2 y3 y4 : Value} {e : TypeId} {f : Nat × Nat} (h : w.heap[b]? = some (.cells #[x0, x1, x2, x3, x4] e f)) : (((((w.setCell ⟨b, 0, none⟩ y0).setCell ⟨b, 1, none⟩ y1).setCell ⟨b, 2, none⟩ y2).setCell ⟨b, 3, none⟩ y3).setCell ⟨b, 4, none⟩ y4).heap[b]? = some (.cells #[y0, y1, y2, y3, y4] e f) := setCell_at (setCell_at (setCell_at (setCell_at (setCell_at h))))
theorem bl_set5 {w a : World} {b : Nat} (h : Below w.heap.size w a) (hb : w.heap.size ≤ b) (y0 y1 y2 y3 y4 : Value) : Below w.heap.size w (((((a.setCell ⟨b, 0, none⟩ y0).setCell ⟨b, 1, none⟩ y1).setCell ⟨b, 2, none⟩ y2).setCell ⟨b, 3, none⟩ y3).setCell ⟨b, 4, none⟩ y4) :=
  bl_set (bl_set (bl_set (bl_set (bl_set h b 0 y0 hb) b 1 y1 hb) b 2 y2 hb) b 3 y3 hb) b 4 y4 hb
theorem five {w : World} {b : Nat} {x0 x1 x2 x3 x4 : Value} {t : TypeId} (h : w.heap[b]? = some (.cells #[x0, x1, x2, x3, x4] t)) :
    w.cell? ⟨b, 0, none⟩ = some x0 ∧ w.cell? ⟨b, 1, none⟩ = some x1 ∧ w.cell? ⟨b, 2, none⟩ = some x2 ∧ w.cell? ⟨b, 3, none⟩ = some x3 ∧ w.cell? ⟨b, 4, none⟩ = some x4 := by
  refine ⟨?_, ?_, ?_, ?_, ?_⟩ <;> simp [World.cell?, h]
abbrev coZ : Obj := .cells #[.string ⟨#[]⟩, .slice none 0 0, .int .i64 0, .int .i64 0, .slice none 0 0] 25
theorem foldOk_of {c : Co} (h : (rightR c).1 = 0) (hok : CoOk c) : FoldOk c.l := by
  obtain ⟨h1, h2, h3, h4, h5, h6, h7, h8, h9⟩ := formB_parts (right_form h)
  have hx : ∀ x ∈ c.l, ∃ i, i < c.l.length ∧ IrOk c i x := fun x hx => by
    obtain ⟨i, hi, rfl⟩ := List.getElem_of_mem hx
    exact ⟨i, hi, irOk_of (right_ir h i hi)⟩
  refine ⟨h4, fun x hm h8 => ?_, fun x hm r hr => ?_, fun x hm hw => ?_, fun x hm => ?_, fun x hm => (hok.ins x hm).2⟩
  · obtain ⟨i, hi, hk⟩ := hx x hm
    have := hk.jump h8
    omega
  · obtain ⟨i, hi, hk⟩ := hx x hm
    have := hk.reads r hr
    omega
  · obtain ⟨i, hi, hk⟩ := hx x hm
    have := hk.writes hw
    omega
  · obtain ⟨i, hi, hk⟩ := hx x hm
    obtain ⟨n, e, h1, h2⟩ := known_kind hk.known
    omega
/-- What Fold tells. -/
def FoldPost (w : World) (x : Co) (e : Ending) (w' : World) : Prop :=
  ∃ qa qc ra rc, e = .returned (.tuple #[coV (foldT x).1 qa qc ra rc, .int .i64 (foldT x).2]) ∧ CoIn w' (fun b => w.heap.size ≤ b) (foldT x).1 qa qc ra rc ∧ Below w.heap.size w w'
set_option maxRecDepth 100000 in
set_option maxHeartbeats 4000000 in
theorem fold_any {B : Nat} {S : Nat → Prop} (x : Co) (pa : Option Addr) (pc : Nat) (la : Option Addr) (lc : Nat) (w : World) (hin : CoIn w S x pa pc la lc) (hok : CoOk x) (hg : Glob B w) :
    Calls Try.prog 12 #[coV x pa pc la lc] w fun e w' => FoldPost w x e w' := by
  have hb0 : Below w.heap.size w ((w.alloc (coO x pa pc la lc)).alloc coZ) := bl_alloc (bl_alloc (Below.refl _ _) _) _
  have h1 : ((w.alloc (coO x pa pc la lc)).alloc coZ).heap[w.heap.size]? = some (coO x pa pc la lc) := by rw [heap_alloc_old _ _ (by simp)]; exact heap_alloc_new w _
  have h2 : ((w.alloc (coO x pa pc la lc)).alloc coZ).heap[w.heap.size + 1]? = some coZ := by
    have := heap_alloc_new (w.alloc (coO x pa pc la lc)) coZ
    simpa using this
  have hri := right_any x pa pc la lc ((w.alloc (coO x pa pc la lc)).alloc coZ) (hin.mono (T := S) fun b hb hlt => ⟨hb, hb0.block b hlt⟩) hok ((hg.alloc _).alloc _)
  have H1 : Hid _ := h1
  have H2 : Hid _ := h2
  have HB0 : Hid _ := hb0
  clear h1 h2 hb0
  unfold coV at hri ⊢
  by_cases hr : (rightR x).1 = 0
  · have hr' : ((rightR x).1 == 0) = true := by simpa using hr
    have HF : Hid (foldT x = (foldC x, 0)) := foldT_ok hr
    have hfo := foldOk_of hr hok
    have hps : x.ps.length ≤ 1000000 := by
      obtain ⟨_, h2, _⟩ := formB_parts (right_form hr); omega
    rw [hr] at hri
    generalize (rightR x).2 = at0 at hri
    go_enter Try.func12, Try.ntmps12
    go_upto_region 2 with (first | (go_at_call 19; refine hri.mono ?_; rintro e w2 ⟨rfl, hb2⟩))
    have h22 := (hb2.block _ (lt_of_some H2.out)).trans H2.out
    have h12 := (hb2.block _ (lt_of_some H1.out)).trans H1.out
    have hB2 := bl_then HB0.out hb2
    have HB2 : Hid _ := hB2
    have H22 : Hid _ := h22
    have H12 : Hid _ := h12
    have hz2 := lt_of_some h22
    have hcl := cloneT_any w2 pa x.ps pc (kTy.row_mono (T := S) (by decide) hin.ps fun b hb hlt => ⟨hb, hB2.block b hlt⟩) hps
    obtain ⟨c0, c1, c2, c3, c4⟩ := five h12
    clear hri hb2 h22 h12 H1 H2 HB0 hr hr' hB2
    go_upto_region 5 with (first | (go_at_call 22; refine hcl.mono ?_; rintro e w3 ⟨⟨v3, rfl, y, yc, rfl, hry, hyc⟩, hb3⟩; have h13 := (hb3.block _ (lt_of_some H12.out)).trans H12.out; obtain ⟨d0, d1, d2, d3, d4⟩ := five h13; have hf3 := brow_free h13))
    have hB3 := bl_then HB2.out hb3
    have hb13 := lt_of_some h13
    have h14 := setCell_at (o := 1) (v := .slice y x.ps.length yc) h13
    have h24 : (w3.setCell ⟨w.heap.size, 1, none⟩ (.slice y x.ps.length yc)).heap[w.heap.size + 1]? = some coZ := (setCell_other (by omega)).trans ((hb3.block _ (lt_of_some H22.out)).trans H22.out)
    have hB4 := bl_set hB3 w.heap.size 1 (.slice y x.ps.length yc) (Nat.le_refl _)
    have hry4 : kTy.row (w3.setCell ⟨w.heap.size, 1, none⟩ (.slice y x.ps.length yc)) (fun b => w2.heap.size ≤ b) y x.ps := kTy.row_mono (by decide) hry fun b hb _ => ⟨hb, setCell_other (by omega)⟩
    generalize w3.setCell ⟨w.heap.size, 1, none⟩ (.slice y x.ps.length yc) = w4 at h14 h24 hB4 hry4 ⊢
    have h14' : w4.heap[w.heap.size]? = some (.cells #[.string (bs x.name), .slice y x.ps.length yc, .int .i64 x.regs, .int .i64 x.cells, .slice la x.l.length lc] 25) := h14
    have hfd := folded_any w4 la x.l lc (kIr.row_mono (T := S) (by decide) hin.l fun b hb hlt => ⟨hb, hB4.block b hlt⟩) hfo
    have HB4 : Hid _ := hB4
    have H14 : Hid _ := h14'
    have H24 : Hid _ := h24
    have HR4 : Hid _ := hry4
    obtain ⟨e0, e1, e2, e3, e4⟩ := five h14'
    clear hB3 h14 h24 hB4 hry4 hry hb3 h13 d0 d1 d2 d3 d4 hf3 hcl HB2 H22 H12 c0 c1 c2 c3 c4 h14'
    go_upto_region 6 with (first | (go_at_call 23; refine hfd.mono ?_; rintro e w5 ⟨⟨v5, rfl, z, zc, rfl, hrz, hzc⟩, hb5⟩; have h15 := (hb5.block _ (lt_of_some H14.out)).trans H14.out; obtain ⟨d0, d1, d2, d3, d4⟩ := five h15; have hf5 := brow_free h15))
    have hz4 := lt_of_some H24.out
    have hB5 := bl_then HB4.out hb5
    have h16 := setCell_at (o := 4) (v := .slice z (foldL x.l).length zc) h15
    have h26 : (w5.setCell ⟨w.heap.size, 4, none⟩ (.slice z (foldL x.l).length zc)).heap[w.heap.size + 1]? = some coZ := (setCell_other (by omega)).trans ((hb5.block _ (lt_of_some H24.out)).trans H24.out)
    have hB6 := bl_set hB5 w.heap.size 4 (.slice z (foldL x.l).length zc) (Nat.le_refl _)
    have hry6 : kTy.row (w5.setCell ⟨w.heap.size, 4, none⟩ (.slice z (foldL x.l).length zc)) (fun b => w2.heap.size ≤ b) y x.ps := kTy.row_mono (by decide) HR4.out fun b hb hlt => ⟨hb, (setCell_other (by omega)).trans (hb5.block b hlt)⟩
    have hrz6 : kIr.row (w5.setCell ⟨w.heap.size, 4, none⟩ (.slice z (foldL x.l).length zc)) (fun b => w4.heap.size ≤ b) z (foldL x.l) := kIr.row_mono (by decide) hrz fun b hb _ => ⟨hb, setCell_other (by omega)⟩
    generalize w5.setCell ⟨w.heap.size, 4, none⟩ (.slice z (foldL x.l).length zc) = w6 at h16 h26 hB6 hry6 hrz6 ⊢
    have h16' : w6.heap[w.heap.size]? = some (.cells #[.string (bs x.name), .slice y x.ps.length yc, .int .i64 x.regs, .int .i64 x.cells, .slice z (foldL x.l).length zc] 25) := h16
    obtain ⟨i0, i1, i2, i3, i4⟩ := five h16'
    obtain ⟨j0, j1, j2, j3, j4⟩ := five h26
    have hfj := brow_free h26
    have HB6 : Hid _ := hB6
    have H26 : Hid _ := h26
    have HY6 : Hid _ := hry6
    have HZ6 : Hid _ := hrz6
    clear hfd hb5 h15 d0 d1 d2 d3 d4 hf5 hB5 h16 h26 hB6 hry6 hrz6 h16' hrz HB4 H14 H24 HR4 e0 e1 e2 e3 e4 hin
    go_wp2_with fail
    refine bodyPost_ret_by (results_row2 Try.results12 rfl rfl (load_co (set5 H26.out) rfl)) rfl ?_
    unfold FoldPost
    rw [HF.out]
    have hS5 : ∀ b, b ≠ w.heap.size + 1 → ∀ y0 y1 y2 y3 y4, (((((w6.setCell ⟨w.heap.size + 1, 0, none⟩ y0).setCell ⟨w.heap.size + 1, 1, none⟩ y1).setCell ⟨w.heap.size + 1, 2, none⟩ y2).setCell ⟨w.heap.size + 1, 3, none⟩ y3).setCell ⟨w.heap.size + 1, 4, none⟩ y4).heap[b]? = w6.heap[b]? := fun b hb y0 y1 y2 y3 y4 =>
      (setCell_other hb).trans ((setCell_other hb).trans ((setCell_other hb).trans ((setCell_other hb).trans (setCell_other hb))))
    refine ⟨y, yc, z, zc, rfl, ⟨hyc, hzc, kTy.row_mono (by decide) HY6.out fun b hb _ => ⟨by show w.heap.size ≤ b; omega, hS5 b (by omega) _ _ _ _ _⟩, kIr.row_mono (by decide) HZ6.out fun b hb _ => ⟨by show w.heap.size ≤ b; omega, hS5 b (by omega) _ _ _ _ _⟩⟩, bl_set5 HB6.out (by omega) _ _ _ _ _⟩
  · have hr' : ((rightR x).1 == 0) = false := by simpa using hr
    have HF : Hid (foldT x = (noCo, (rightR x).1)) := foldT_no hr
    generalize (rightR x).1 = er at hri hr' HF
    generalize (rightR x).2 = at0 at hri
    go_enter Try.func12, Try.ntmps12
    go_upto_region 2 with (first | (go_at_call 19; refine hri.mono ?_; rintro e w2 ⟨rfl, hb2⟩))
    have h22 := (hb2.block _ (lt_of_some H2.out)).trans H2.out
    have HB2 : Hid _ := bl_then HB0.out hb2
    have H22 : Hid _ := h22
    obtain ⟨c0, c1, c2, c3, c4⟩ := five h22
    have hf := brow_free h22
    clear hri hb2 h22 H1 H2 HB0
    go_wp2_with fail
    refine bodyPost_ret_by (results_row2 Try.results12 rfl rfl (load_co (set5 H22.out) rfl)) rfl ?_
    unfold FoldPost
    rw [HF.out]
    exact ⟨none, 0, none, 0, rfl, ⟨Nat.le_refl _, Nat.le_refl _, trivial, trivial⟩, bl_set5 HB2.out (by omega) _ _ _ _ _⟩
end Go.Proofs.Ytclajapdbphlbaa
