/- CONTRACT of Drop. -/
import Derived.Test.YtndmkfmpdnoliaaDFreed
import Derived.Test.YtndmkfmpdnoliaaIRightR
import Derived.Test.YtndmkfmpdnoliaaGKit
namespace Go.Proofs.Ytndmkfmpdnoliaa
open Go.ChangeShapes Go.WideShapes Go.ChangeAt Go.RowKit

/-- Each D is an int. -/
def D64 (l : List Ir) : Prop := ∀ x ∈ l, In64 x.d
theorem freeOk_of {c : Co} (h : (rightR c).1 = 0) (hok : CoOk c) (hd : D64 c.l) : FreeOk c.l := by
  obtain ⟨h1, h2, h3, h4, h5, h6, h7, h8, h9⟩ := formB_parts (right_form h)
  have hx : ∀ x ∈ c.l, ∃ i, i < c.l.length ∧ IrOk c i x := fun x hx => by
    obtain ⟨i, hi, rfl⟩ := List.getElem_of_mem hx
    exact ⟨i, hi, irOk_of (right_ir h i hi)⟩
  refine ⟨⟨h4, fun x hm => (hok.ins x hm).2, hd, fun x hm r hr => ?_⟩, fun x hm h8 => ?_⟩
  · obtain ⟨i, hi, hk⟩ := hx x hm
    have := hk.reads r hr
    unfold In64
    omega
  · obtain ⟨i, hi, hk⟩ := hx x hm
    have := hk.jump h8
    omega
/-- What Drop tells. -/
def DropPost (w : World) (x : Co) (e : Ending) (w' : World) : Prop :=
  ∃ qa qc ra rc, e = .returned (.tuple #[coV (dropT x).1 qa qc ra rc, .int .i64 (dropT x).2]) ∧ CoIn w' (fun b => w.heap.size ≤ b) (dropT x).1 qa qc ra rc ∧ Below w.heap.size w w'
set_option maxRecDepth 100000 in
set_option maxHeartbeats 4000000 in
theorem drop_any {B : Nat} {S : Nat → Prop} (x : Co) (pa : Option Addr) (pc : Nat) (la : Option Addr) (lc : Nat) (w : World) (hin : CoIn w S x pa pc la lc) (hok : CoOk x) (hd64 : D64 x.l) (hg : Glob B w) :
    Calls Try.prog 17 #[coV x pa pc la lc] w fun e w' => DropPost w x e w' := by
  have hb0 : Below w.heap.size w ((w.alloc (coO x pa pc la lc)).alloc coZ) := bl_alloc (bl_alloc (Below.refl _ _) _) _
  have h1 : ((w.alloc (coO x pa pc la lc)).alloc coZ).heap[w.heap.size]? = some (coO x pa pc la lc) := by rw [heap_alloc_old _ _ (by simp)]; exact heap_alloc_new w _
  have h2 : ((w.alloc (coO x pa pc la lc)).alloc coZ).heap[w.heap.size + 1]? = some coZ := by
    have := heap_alloc_new (w.alloc (coO x pa pc la lc)) coZ
    simpa using this
  have hri := right_any x pa pc la lc ((w.alloc (coO x pa pc la lc)).alloc coZ) (hin.mono (T := S) fun b hb hlt => ⟨hb, hb0.block b hlt⟩) hok ((hg.alloc _).alloc _)
  have H1 : Hid _ := h1
  have H2 : Hid _ := h2
  have HB0 : Hid _ := hb0
  clear h1 h2 hb0
  unfold coV at hri ⊢
  by_cases hr : (rightR x).1 = 0
  · have hr' : ((rightR x).1 == 0) = true := by simpa using hr
    have HF : Hid (dropT x = (dropC x, 0)) := dropT_ok hr
    have hfo := freeOk_of hr hok hd64
    have hps : x.ps.length ≤ 1000000 := by
      obtain ⟨_, h2, _⟩ := formB_parts (right_form hr); omega
    rw [hr] at hri
    generalize (rightR x).2 = at0 at hri
    go_enter Try.func17, Try.ntmps17
    go_upto_region 2 with (first | (go_at_call 22; refine hri.mono ?_; rintro e w2 ⟨rfl, hb2⟩))
    have h22 := (hb2.block _ (lt_of_some H2.out)).trans H2.out
    have h12 := (hb2.block _ (lt_of_some H1.out)).trans H1.out
    have hB2 := bl_then HB0.out hb2
    have HB2 : Hid _ := hB2
    have H22 : Hid _ := h22
    have H12 : Hid _ := h12
    have hz2 := lt_of_some h22
    have hcl := cloneT_any w2 pa x.ps pc (kTy.row_mono (T := S) (by decide) hin.ps fun b hb hlt => ⟨hb, hB2.block b hlt⟩) hps
    obtain ⟨c0, c1, c2, c3, c4⟩ := five h12
    clear hri hb2 h22 h12 H1 H2 HB0 hr hr' hB2
    go_upto_region 5 with (first | (go_at_call 33; refine hcl.mono ?_; rintro e w3 ⟨⟨v3, rfl, y, yc, rfl, hry, hyc⟩, hb3⟩; have h13 := (hb3.block _ (lt_of_some H12.out)).trans H12.out; obtain ⟨d0, d1, d2, d3, d4⟩ := five h13; have hf3 := brow_free h13))
    have hB3 := bl_then HB2.out hb3
    have hb13 := lt_of_some h13
    have h14 := setCell_at (o := 1) (v := .slice y x.ps.length yc) h13
    have h24 : (w3.setCell ⟨w.heap.size, 1, none⟩ (.slice y x.ps.length yc)).heap[w.heap.size + 1]? = some coZ := (setCell_other (by omega)).trans ((hb3.block _ (lt_of_some H22.out)).trans H22.out)
    have hB4 := bl_set hB3 w.heap.size 1 (.slice y x.ps.length yc) (Nat.le_refl _)
    have hry4 : kTy.row (w3.setCell ⟨w.heap.size, 1, none⟩ (.slice y x.ps.length yc)) (fun b => w2.heap.size ≤ b) y x.ps := kTy.row_mono (by decide) hry fun b hb _ => ⟨hb, setCell_other (by omega)⟩
    generalize w3.setCell ⟨w.heap.size, 1, none⟩ (.slice y x.ps.length yc) = w4 at h14 h24 hB4 hry4 ⊢
    have h14' : w4.heap[w.heap.size]? = some (.cells #[.string (bs x.name), .slice y x.ps.length yc, .int .i64 x.regs, .int .i64 x.cells, .slice la x.l.length lc] 39) := h14
    have hfd := freed_any w4 la x.l lc (kIr.row_mono (T := S) (by decide) hin.l fun b hb hlt => ⟨hb, hB4.block b hlt⟩) hfo
    have HB4 : Hid _ := hB4
    have H14 : Hid _ := h14'
    have H24 : Hid _ := h24
    have HR4 : Hid _ := hry4
    obtain ⟨e0, e1, e2, e3, e4⟩ := five h14'
    clear hB3 h14 h24 hB4 hry4 hry hb3 h13 d0 d1 d2 d3 d4 hf3 hcl HB2 H22 H12 c0 c1 c2 c3 c4 h14'
    go_upto_region 6 with (first | (go_at_call 34; refine hfd.mono ?_; rintro e w5 ⟨⟨v5, rfl, z, zc, rfl, hrz, hzc⟩, hb5⟩; have h15 := (hb5.block _ (lt_of_some H14.out)).trans H14.out; obtain ⟨d0, d1, d2, d3, d4⟩ := five h15; have hf5 := brow_free h15))
    have hz4 := lt_of_some H24.out
    have hB5 := bl_then HB4.out hb5
    have h16 := setCell_at (o := 4) (v := .slice z (freeL x.l).length zc) h15
    have h26 : (w5.setCell ⟨w.heap.size, 4, none⟩ (.slice z (freeL x.l).length zc)).heap[w.heap.size + 1]? = some coZ := (setCell_other (by omega)).trans ((hb5.block _ (lt_of_some H24.out)).trans H24.out)
    have hB6 := bl_set hB5 w.heap.size 4 (.slice z (freeL x.l).length zc) (Nat.le_refl _)
    have hry6 : kTy.row (w5.setCell ⟨w.heap.size, 4, none⟩ (.slice z (freeL x.l).length zc)) (fun b => w2.heap.size ≤ b) y x.ps := kTy.row_mono (by decide) HR4.out fun b hb hlt => ⟨hb, (setCell_other (by omega)).trans (hb5.block b hlt)⟩
    have hrz6 : kIr.row (w5.setCell ⟨w.heap.size, 4, none⟩ (.slice z (freeL x.l).length zc)) (fun b => w4.heap.size ≤ b) z (freeL x.l) := kIr.row_mono (by decide) hrz fun b hb _ => ⟨hb, setCell_other (by omega)⟩
    generalize w5.setCell ⟨w.heap.size, 4, none⟩ (.slice z (freeL x.l).length zc) = w6 at h16 h26 hB6 hry6 hrz6 ⊢
    have h16' : w6.heap[w.heap.size]? = some (.cells #[.string (bs x.name), .slice y x.ps.length yc, .int .i64 x.regs, .int .i64 x.cells, .slice z (freeL x.l).length zc] 39) := h16
    obtain ⟨i0, i1, i2, i3, i4⟩ := five h16'
    obtain ⟨j0, j1, j2, j3, j4⟩ := five h26
    have hfj := brow_free h26
    have HB6 : Hid _ := hB6
    have H26 : Hid _ := h26
    have HY6 : Hid _ := hry6
    have HZ6 : Hid _ := hrz6
    clear hfd hb5 h15 d0 d1 d2 d3 d4 hf5 hB5 h16 h26 hB6 hry6 hrz6 h16' hrz HB4 H14 H24 HR4 e0 e1 e2 e3 e4 hin
    go_wp2_with fail
    refine bodyPost_ret_by (results_row2 Try.results17 rfl rfl (load_co (set5 H26.out) rfl)) rfl ?_
    unfold DropPost
    rw [HF.out]
    have hS5 : ∀ b, b ≠ w.heap.size + 1 → ∀ y0 y1 y2 y3 y4, (((((w6.setCell ⟨w.heap.size + 1, 0, none⟩ y0).setCell ⟨w.heap.size + 1, 1, none⟩ y1).setCell ⟨w.heap.size + 1, 2, none⟩ y2).setCell ⟨w.heap.size + 1, 3, none⟩ y3).setCell ⟨w.heap.size + 1, 4, none⟩ y4).heap[b]? = w6.heap[b]? := fun b hb y0 y1 y2 y3 y4 =>
      (setCell_other hb).trans ((setCell_other hb).trans ((setCell_other hb).trans ((setCell_other hb).trans (setCell_other hb))))
    refine ⟨y, yc, z, zc, rfl, ⟨hyc, hzc, kTy.row_mono (by decide) HY6.out fun b hb _ => ⟨by show w.heap.size ≤ b; omega, hS5 b (by omega) _ _ _ _ _⟩, kIr.row_mono (by decide) HZ6.out fun b hb _ => ⟨by show w.heap.size ≤ b; omega, hS5 b (by omega) _ _ _ _ _⟩⟩, bl_set5 HB6.out (by omega) _ _ _ _ _⟩
  · have hr' : ((rightR x).1 == 0) = false := by simpa using hr
    have HF : Hid (dropT x = (noCo, (rightR x).1)) := dropT_no hr
    generalize (rightR x).1 = er at hri hr' HF
    generalize (rightR x).2 = at0 at hri
    go_enter Try.func17, Try.ntmps17
    go_upto_region 2 with (first | (go_at_call 22; refine hri.mono ?_; rintro e w2 ⟨rfl, hb2⟩))
    have h22 := (hb2.block _ (lt_of_some H2.out)).trans H2.out
    have HB2 : Hid _ := bl_then HB0.out hb2
    have H22 : Hid _ := h22
    obtain ⟨c0, c1, c2, c3, c4⟩ := five h22
    have hf := brow_free h22
    clear hri hb2 h22 H1 H2 HB0
    go_wp2_with fail
    refine bodyPost_ret_by (results_row2 Try.results17 rfl rfl (load_co (set5 H22.out) rfl)) rfl ?_
    unfold DropPost
    rw [HF.out]
    exact ⟨none, 0, none, 0, rfl, ⟨Nat.le_refl _, Nat.le_refl _, trivial, trivial⟩, bl_set5 HB2.out (by omega) _ _ _ _ _⟩
end Go.Proofs.Ytndmkfmpdnoliaa
