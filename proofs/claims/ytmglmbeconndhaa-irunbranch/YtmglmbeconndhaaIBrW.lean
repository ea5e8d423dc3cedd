/- THE WALK of IrunBranch. -/
import Derived.Test.YtmglmbeconndhaaIAwake
import Derived.Test.YtmglmbeconndhaaIOneM
namespace Go.Proofs.Ytmglmbeconndhaa
open Go.ChangeShapes Go.WideShapes Go.ChangeAt Go.RowKit

abbrev goPs : Obj := .cells #[.bool false, .int .i64 0] 48
abbrev goIrs (a b : Nat) : Obj := .cells #[.int .i64 9, .int .i64 0, .int .i64 0, .int .i64 0, .int .i64 0, .int .i64 3, .int .u32 0, .string ⟨#[]⟩, .slice none 0 0, .int .i64 1, .int .i64 0, .int .i64 1, .int .i64 0, .int .i64 0, .int .i64 0, .int .u32 (a : Int), .string ⟨#[]⟩, .slice none 0 0, .int .i64 8, .int .i64 0, .int .i64 0, .int .i64 0, .int .i64 0, .int .i64 4, .int .u32 0, .string ⟨#[]⟩, .slice none 0 0, .int .i64 1, .int .i64 0, .int .i64 1, .int .i64 0, .int .i64 0, .int .i64 0, .int .u32 (b : Int), .string ⟨#[]⟩, .slice none 0 0, .int .i64 10, .int .i64 0, .int .i64 0, .int .i64 1, .int .i64 0, .int .i64 0, .int .u32 0, .string ⟨#[]⟩, .slice none 0 0] 45
abbrev goCo (p q : Nat) : Obj := .cells #[.string ⟨#[97, 46, 102]⟩, .slice (some ⟨p, 0, none⟩) 1 1, .int .i64 2, .int .i64 0, .slice (some ⟨q, 0, none⟩) 5 5] 25
theorem goIrs_row {w : World} {q a b : Nat} (ha : a < 4294967296) (hb : b < 4294967296) (h : w.heap[q]? = some (goIrs a b)) : kIr.row w (fun _ => True) (some ⟨q, 0, none⟩) (goC a b).l :=
  kIr.lay_row (S := fun _ => True) (fun _ h => h) q trivial 0 (ir_lay (x := ⟨9, 0, 0, 0, 0, 3, 0, [], []⟩) rfl (by decide) (ir_lay (x := ⟨1, 0, 1, 0, 0, 0, a, [], []⟩) rfl ha (ir_lay (x := ⟨8, 0, 0, 0, 0, 4, 0, [], []⟩) rfl (by decide) (ir_lay (x := ⟨1, 0, 1, 0, 0, 0, b, [], []⟩) rfl hb (ir_lay (x := ⟨10, 0, 0, 1, 0, 0, 0, [], []⟩) rfl (by decide) (ys := []) rfl))))) (cells_of h)
theorem goPs_row {w : World} {p : Nat} (h : w.heap[p]? = some goPs) : kTy.row w (fun _ => True) (some ⟨p, 0, none⟩) [⟨false, 0⟩] :=
  kTy.lay_row (S := fun _ => True) (fun _ h => h) p trivial 0 ⟨[.bool false, .int .i64 0], [], rfl, rfl, rfl⟩ (cells_of h)
/-- The world behind the literals. -/
structure GoL (w w1 : World) (a b : Nat) : Prop where
  ps : w1.heap[w.heap.size]? = some goPs
  irs : w1.heap[w.heap.size + 1]? = some (goIrs a b)
  co : w1.heap[w.heap.size + 2]? = some (goCo w.heap.size (w.heap.size + 1))
  below : Below w.heap.size w w1
  size : w1.heap.size = w.heap.size + 3
theorem goL (w : World) (a b : Nat) : GoL w (((w.alloc goPs).alloc (goIrs a b)).alloc (goCo w.heap.size (w.heap.size + 1))) a b := by
  have h1 := heap_alloc_new (w.alloc goPs) (goIrs a b)
  have h2 := heap_alloc_new ((w.alloc goPs).alloc (goIrs a b)) (goCo w.heap.size (w.heap.size + 1))
  refine ⟨?_, ?_, ?_, bl_alloc (bl_alloc (bl_alloc (Below.refl _ _) _) _) _, by simp⟩
  · rw [heap_alloc_old _ _ (by simp; omega), heap_alloc_old _ _ (by simp)]; exact heap_alloc_new w _
  · rw [heap_alloc_old _ _ (by simp)]; simpa using h1
  · simpa using h2
theorem wd_one {w : World} {b n : Nat} (hn : n < 4294967296) (h : w.heap[b]? = some (.cells #[.int .u32 (n : Int)] 34)) : kWd.row w (fun _ => True) (some ⟨b, 0, none⟩) [n] :=
  kWd.lay_row (S := fun _ => True) (fun _ h => h) b trivial 0 ⟨[.int .u32 (n : Int)], [], rfl, ⟨rfl, hn⟩, rfl⟩ (cells_of h)
theorem go_run {B : Nat} {w : World} {p q k y a b x : Nat} (hg : Glob B w) (ha : a < 4294967296) (hb : b < 4294967296) (hx : x < 4294967296) (h1 : w.heap[p]? = some goPs) (h2 : w.heap[q]? = some (goIrs a b)) (h3 : w.heap[k]? = some (goCo p q)) (h4 : w.heap[y]? = some (.cells #[.int .u32 (x : Int)] 34)) :
    Calls Try.prog 14 #[.slice (some ⟨k, 0, none⟩) 1 1, .string ⟨#[97, 46, 102]⟩, .slice (some ⟨y, 0, none⟩) 1 1] w fun e w' => RunTells w w' e (if x = 0 then b else a, [], [if x = 0 then 0 else 1], 0) := by
  have hr : kCo.row w (fun _ => True) (some ⟨k, 0, none⟩) [goC a b] :=
    kCo.lay_row (S := fun _ => True) (fun _ h => h) k trivial 0 ⟨coCells (goC a b) (some ⟨p, 0, none⟩) 1 (some ⟨q, 0, none⟩) 5, [], rfl, ⟨some ⟨p, 0, none⟩, 1, some ⟨q, 0, none⟩, 5, rfl, ⟨Nat.le_refl _, Nat.le_refl _, goPs_row h1, goIrs_row ha hb h2⟩⟩, rfl⟩ (cells_of h3)
  have hok : ∀ c ∈ [goC a b], CoOk c := fun c hc => by
    rw [List.mem_singleton.1 hc]
    refine ⟨by simp [goC], fun y hy => ?_⟩
    simp only [goC, List.mem_cons, List.not_mem_nil, or_false] at hy
    rcases hy with rfl | rfl | rfl | rfl | rfl <;> simp
  have := run_any (S' := fun _ => True) (some ⟨k, 0, none⟩) [goC a b] 1 [97, 46, 102] (some ⟨y, 0, none⟩) [x] 1 w hr hok (by simp) hg (by simp) (wd_one hx h4) (Nat.le_refl _)
  rw [show runR [goC a b] [97, 46, 102] [x] = _ from run_go_br a b x] at this
  exact this
set_option maxRecDepth 100000 in
set_option maxHeartbeats 4000000 in
theorem branch_walk {B : Nat} (x a b : Nat) (hx : x < 4294967296) (ha : a < 4294967296) (hb : b < 4294967296) (w : World) (hg : Glob B w) :
    Calls Try.prog 7 #[.int .u32 (x : Int), .int .u32 (a : Int), .int .u32 (b : Int)] w fun e w' => e = .returned (.bool true) ∧ Below w.heap.size w w' := by
  go_enter Try.func7, Try.ntmps7
  go_upto_region 2 with (first | (go_at_call 10; refine (awake_any w hg).mono ?_; rintro e w0 ⟨rfl, hb0⟩))
  have HL : Hid _ := goL w0 a b
  go_upto_region 3 with fail
  generalize World.alloc (World.alloc (World.alloc w0 _) _) _ = w1 at HL ⊢
  obtain ⟨h1, h2, h3, h4, h5⟩ := HL.out
  have hg1 : Glob B ((w1.alloc (goCo w0.heap.size (w0.heap.size + 1))).alloc (.cells #[.int .u32 (x : Int)] 34)) := (((hg.below hb0).below h4).alloc _).alloc _
  have hold : ∀ {k : Nat} {o : Obj}, w1.heap[k]? = some o → ((w1.alloc (goCo w0.heap.size (w0.heap.size + 1))).alloc (.cells #[.int .u32 (x : Int)] 34)).heap[k]? = some o := fun h => by
    rw [heap_alloc_old _ _ (by have := lt_of_some h; simp; omega), heap_alloc_old _ _ (lt_of_some h)]; exact h
  have hnew : ((w1.alloc (goCo w0.heap.size (w0.heap.size + 1))).alloc (.cells #[.int .u32 (x : Int)] 34)).heap[w1.heap.size + 1]? = some (.cells #[.int .u32 (x : Int)] 34) := by
    have := heap_alloc_new (w1.alloc (goCo w0.heap.size (w0.heap.size + 1))) (.cells #[.int .u32 (x : Int)] 34)
    simpa using this
  have hr := go_run (x := x) hg1 ha hb hx (hold h1) (hold h2) (k := w1.heap.size) (by rw [heap_alloc_old _ _ (by simp)]; exact heap_alloc_new w1 _) hnew
  obtain ⟨k0, k1, k2, k3, k4⟩ := cells5 h3
  have HB : Hid _ := bl_alloc (bl_alloc (bl_then hb0 h4) (goCo w0.heap.size (w0.heap.size + 1))) (.cells #[.int .u32 (x : Int)] 34)
  clear h1 h2 h3 h4 h5 HL hb0 hg hg1 hold hnew
  by_cases hz : x = 0
  · subst hz
    go_upto_region 4 with (first | (go_at_call 14; refine hr.mono ?_; rintro e w4 ⟨ya, yc, ba, bc, rfl, _, _, hbr, _, hb4⟩))
    obtain ⟨bb, oo, rfl, _, hlt, hcell⟩ := int_at hbr 0 (by simp)
    have hc0 : (w4.alloc (.cells #[.int .u32 (b : Int), .slice ya 0 yc] 36)).cell? ⟨bb, oo, none⟩ = some (.int .i64 0) := alloc_cell (.cells #[.int .u32 (b : Int), .slice ya 0 yc] 36) hcell
    have HB4 : Hid _ := bl_alloc (bl_then HB.out hb4) (.cells #[.int .u32 (b : Int), .slice ya 0 yc] 36)
    clear hr hb4 hbr hcell
    go_wp2
    go_ret
    exact ⟨rfl, HB4.out⟩
  · have hz' : (((x : Nat) : Int) == 0) = false := by simpa using hz
    simp only [if_neg hz] at hr
    go_upto_region 4 with (first | (go_at_call 14; refine hr.mono ?_; rintro e w4 ⟨ya, yc, ba, bc, rfl, _, _, hbr, _, hb4⟩))
    obtain ⟨bb, oo, rfl, _, hlt, hcell⟩ := int_at hbr 0 (by simp)
    have hc0 : (w4.alloc (.cells #[.int .u32 (a : Int), .slice ya 0 yc] 36)).cell? ⟨bb, oo, none⟩ = some (.int .i64 1) := alloc_cell (.cells #[.int .u32 (a : Int), .slice ya 0 yc] 36) hcell
    have HB4 : Hid _ := bl_alloc (bl_then HB.out hb4) (.cells #[.int .u32 (a : Int), .slice ya 0 yc] 36)
    clear hr hb4 hbr hcell
    go_wp2
    go_ret
    exact ⟨rfl, HB4.out⟩
end Go.Proofs.Ytmglmbeconndhaa
