/- CONTRACT of awake. -/
import Derived.Test.YtlagadofiahijaaDoorFBack
namespace Go.Proofs.YtlagadofiahijaaDoor
open Go.ChangeShapes Go.WideShapes Go.ChangeAt Go.RowKit Go.Shelf

/-- The one list. -/
def l0 : List Sg := [⟨[97, 46, 102], [⟨false, 0⟩, ⟨true, 8⟩], true⟩]
/-- Its text. -/
def s0 : List UInt8 := [97, 46, 102, 32, 112, 117, 98, 32, 115, 101, 99, 56, 32, 58, 32, 115, 101, 99, 10]
theorem text_l0 : textR l0 = (s0, 0) := by
  rw [textR_ok (by decide +kernel) (by decide +kernel), l0]
  simp [linesT, lineT, tyT, endT, lab, s0]
  rw [dig_eq 8 (by decide)]
  decide +kernel
theorem read_s0 : readR s0 = (l0, 0) := by
  have := read_back (l := l0) (by rw [text_l0])
  rw [text_l0] at this
  exact this
theorem find_l0 : findR l0 [97, 46, 102] = some ⟨[97, 46, 102], [⟨false, 0⟩, ⟨true, 8⟩], true⟩ := by decide +kernel

theorem cells_of {w : World} {b : Nat} {cs : List Value} {t : TypeId} {f : Nat × Nat} (h : w.heap[b]? = some (.cells cs.toArray t f)) : ∀ j u, cs[j]? = some u → w.cell? ⟨b, 0 + j, none⟩ = some u := fun j u hj => by
  simp [World.cell?, h, hj]

set_option maxRecDepth 100000 in
set_option maxHeartbeats 2000000 in
theorem awake_any {B : Nat} (w : World) (hg : Glob B w) :
    Calls Tryd.prog 4 #[] w fun e w' => e = .returned (.bool true) ∧ Below w.heap.size w w' := by
  have hrow : kSg.row ((w.alloc (.cells #[.bool false, .int .i64 0, .bool true, .int .i64 8] 38)).alloc (.cells #[.string ⟨#[97, 46, 102]⟩, .slice (some ⟨w.heap.size, 0, none⟩) 2 2, .bool true] 33)) (fun _ => True) (some ⟨w.heap.size + 1, 0, none⟩) l0 := by
    have hT : ((w.alloc (.cells #[.bool false, .int .i64 0, .bool true, .int .i64 8] 38)).alloc (.cells #[.string ⟨#[97, 46, 102]⟩, .slice (some ⟨w.heap.size, 0, none⟩) 2 2, .bool true] 33)).heap[w.heap.size]? = some (.cells #[.bool false, .int .i64 0, .bool true, .int .i64 8] 38) := by
      rw [heap_alloc_old _ _ (by simp)]; exact heap_alloc_new w _
    have hG : ((w.alloc (.cells #[.bool false, .int .i64 0, .bool true, .int .i64 8] 38)).alloc (.cells #[.string ⟨#[97, 46, 102]⟩, .slice (some ⟨w.heap.size, 0, none⟩) 2 2, .bool true] 33)).heap[w.heap.size + 1]? = some (.cells #[.string ⟨#[97, 46, 102]⟩, .slice (some ⟨w.heap.size, 0, none⟩) 2 2, .bool true] 33) := by
      have := heap_alloc_new (w.alloc (.cells #[.bool false, .int .i64 0, .bool true, .int .i64 8] 38)) (.cells #[.string ⟨#[97, 46, 102]⟩, .slice (some ⟨w.heap.size, 0, none⟩) 2 2, .bool true] 33)
      simpa using this
    refine kSg.lay_row (S := fun _ => True) (fun _ h => h) (w.heap.size + 1) trivial 0 ⟨[.string ⟨#[97, 46, 102]⟩, .slice (some ⟨w.heap.size, 0, none⟩) 2 2, .bool true], [], rfl, ⟨some ⟨w.heap.size, 0, none⟩, 2, rfl, Nat.le_refl _, ?_⟩, rfl⟩ (cells_of hG)
    exact kTy.lay_row (S := fun _ => True) (fun _ h => h) w.heap.size trivial 0 ⟨[.bool false, .int .i64 0], [.bool true, .int .i64 8], rfl, rfl, [.bool true, .int .i64 8], [], rfl, rfl, rfl⟩ (cells_of hT)
  have hgw : Glob B ((w.alloc (.cells #[.bool false, .int .i64 0, .bool true, .int .i64 8] 38)).alloc (.cells #[.string ⟨#[97, 46, 102]⟩, .slice (some ⟨w.heap.size, 0, none⟩) 2 2, .bool true] 33)) := (hg.alloc _).alloc _
  have ht := text_any _ _ l0 1 hrow hgw (by decide +kernel)
  rw [text_l0] at ht
  have hs0 : ((bs s0).toList == [97, 46, 102, 32, 112, 117, 98, 32, 115, 101, 99, 56, 32, 58, 32, 115, 101, 99, 10]) = true := by rw [bs_tl]; decide +kernel
  have hl0 : (s0.length) ≤ 1000000 := by decide
  have hll : l0.length = 1 := rfl
  rw [hll] at ht
  have HB1 : Hid (Below w.heap.size w ((w.alloc (.cells #[.bool false, .int .i64 0, .bool true, .int .i64 8] 38)).alloc (.cells #[.string ⟨#[97, 46, 102]⟩, .slice (some ⟨w.heap.size, 0, none⟩) 2 2, .bool true] 33))) := bl_alloc (bl_alloc (Below.refl _ _) _) _
  clear hrow hll
  go_enter Tryd.func4, Tryd.ntmps4
  go_wp2_with (first | (go_at_call 11; go_fit ht; rintro e w1 ⟨rfl, hb1⟩; have hr := read_any w1 s0 (hgw.below hb1) hl0; rw [read_s0] at hr) | (go_at_call 12; go_fit hr; rintro e w2 ⟨⟨v, rfl, hrd⟩, hb2⟩; obtain ⟨ma, mc, rfl, hmr, hmc⟩ := hrd; have hf := find_any w2 ma l0 mc [97, 46, 102] hmr (by decide) (by decide); rw [find_l0] at hf) | (go_at_call 9; go_fit hf; rintro e w3 ⟨⟨v, rfl, hsg⟩, hb3⟩; obtain ⟨pa, pc, rfl, hpc, hpr⟩ := hsg))
  go_ret
  exact ⟨rfl, bl_alloc (bl_then (bl_then (bl_then HB1.out hb1) hb2) hb3) _⟩
end Go.Proofs.YtlagadofiahijaaDoor
