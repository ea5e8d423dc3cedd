/- CONTRACT of awake. -/
import Derived.Test.YtndmkfmpdnoliaaQRun
import Derived.Deep.CutBlock
namespace Go.Proofs.Ytndmkfmpdnoliaa
open Go.ChangeShapes Go.WideShapes Go.ChangeAt Go.RowKit

/-- The one function. -/
def c0 : Co := ⟨[97, 46, 102], [], 3, 0, [⟨1, 0, 0, 0, 0, 0, 5, [], []⟩, ⟨2, 0, 1, 0, 0, 0, 0, [], []⟩, ⟨3, 1, 2, 0, 1, 0, 0, [], []⟩, ⟨10, 0, 0, 2, 0, 0, 0, [], []⟩]⟩
theorem right_c0 : rightR c0 = (0, -1) := by decide +kernel
theorem cells_of {w : World} {b : Nat} {cs : List Value} {t : TypeId} {f : Nat × Nat} (h : w.heap[b]? = some (.cells cs.toArray t f)) : ∀ j u, cs[j]? = some u → w.cell? ⟨b, 0 + j, none⟩ = some u := fun j u hj => by
  simp [World.cell?, h, hj]
theorem c0_ok : CoOk c0 := ⟨by decide, by decide⟩
theorem ir_lay {w : World} {S : Nat → Prop} {x : Ir} {l : List Ir} {ys : List Value} (hx : x.args = []) (hn : x.n < 4294967296) (h : kIr.lay w S ys l) : kIr.lay w S (irCells x none 0 ++ ys) (x :: l) := by
  refine ⟨irCells x none 0, ys, rfl, ⟨none, 0, rfl, by rw [hx]; exact Nat.le_refl _, hn, by rw [hx]; trivial⟩, h⟩
abbrev irsO : Obj := .cells #[.int .i64 1, .int .i64 0, .int .i64 0, .int .i64 0, .int .i64 0, .int .i64 0, .int .u32 5, .string ⟨#[]⟩, .slice none 0 0, .int .i64 2, .int .i64 0, .int .i64 1, .int .i64 0, .int .i64 0, .int .i64 0, .int .u32 0, .string ⟨#[]⟩, .slice none 0 0, .int .i64 3, .int .i64 1, .int .i64 2, .int .i64 0, .int .i64 1, .int .i64 0, .int .u32 0, .string ⟨#[]⟩, .slice none 0 0, .int .i64 10, .int .i64 0, .int .i64 0, .int .i64 2, .int .i64 0, .int .i64 0, .int .u32 0, .string ⟨#[]⟩, .slice none 0 0] 50
theorem irs_row {w : World} {b : Nat} (h : w.heap[b]? = some irsO) : kIr.row w (fun _ => True) (some ⟨b, 0, none⟩) c0.l :=
  kIr.lay_row (S := fun _ => True) (fun _ h => h) b trivial 0 (ir_lay (x := ⟨1, 0, 0, 0, 0, 0, 5, [], []⟩) rfl (by decide) (ir_lay (x := ⟨2, 0, 1, 0, 0, 0, 0, [], []⟩) rfl (by decide) (ir_lay (x := ⟨3, 1, 2, 0, 1, 0, 0, [], []⟩) rfl (by decide) (ir_lay (x := ⟨10, 0, 0, 2, 0, 0, 0, [], []⟩) rfl (by decide) (ys := []) rfl)))) (cells_of h)
theorem c0_steps (f : Nat) : runF [c0] (f + 5) 0 c0 ⟨[0, 0, 0], [], 0, false, 0⟩ ⟨60000, [], 0⟩ = (⟨[5, 5, 10], [], 4, true, 10⟩, ⟨59996, [], 0⟩) := by
  have e1 : ∀ g, stepR [c0] (runF [c0] g) 0 (c0.l.getD 0 noIr) ⟨[0, 0, 0], [], 0, false, 0⟩ ⟨60000, [], 0⟩ = (⟨[5, 0, 0], [], 1, false, 0⟩, ⟨59999, [], 0⟩) := fun g => by rw [stepR, if_neg (by decide), doIr_1 rfl]; rfl
  have e2 : ∀ g, stepR [c0] (runF [c0] g) 0 (c0.l.getD 1 noIr) ⟨[5, 0, 0], [], 1, false, 0⟩ ⟨59999, [], 0⟩ = (⟨[5, 5, 0], [], 2, false, 0⟩, ⟨59998, [], 0⟩) := fun g => by rw [stepR, if_neg (by decide), doIr_2 rfl]; rfl
  have e3 : ∀ g, stepR [c0] (runF [c0] g) 0 (c0.l.getD 2 noIr) ⟨[5, 5, 0], [], 2, false, 0⟩ ⟨59998, [], 0⟩ = (⟨[5, 5, 10], [], 3, false, 0⟩, ⟨59997, [], 0⟩) := fun g => by rw [stepR, if_neg (by decide), doIr_3 rfl]; rfl
  have e4 : ∀ g, stepR [c0] (runF [c0] g) 0 (c0.l.getD 3 noIr) ⟨[5, 5, 10], [], 3, false, 0⟩ ⟨59997, [], 0⟩ = (⟨[5, 5, 10], [], 4, true, 10⟩, ⟨59996, [], 0⟩) := fun g => by rw [stepR, if_neg (by decide), doIr_10 (by intro n h1 h2 e; have : (10 : Int) = n := e; omega)]; rfl
  rw [runF_succ, if_neg (by simp)]
  simp only [e1]
  rw [runF_succ, if_neg (by simp)]
  simp only [e2]
  rw [runF_succ, if_neg (by simp)]
  simp only [e3]
  rw [runF_succ, if_neg (by simp)]
  simp only [e4]
  exact runF_stop _ _ _ _ _ _ (.inl rfl)
theorem run_c0 : runR [c0] [97, 46, 102] [] = (10, [], [], 0) := by
  have hr : (([c0] : List Co).all fun c => decide ((rightR c).1 = 0)) = true := by rw [List.all_cons, right_c0]; rfl
  have hl : look [c0] [97, 46, 102] = some c0 := by decide +kernel
  have hs : startF c0 [] = ⟨[0, 0, 0], [], 0, false, 0⟩ := rfl
  have hn : ((([] : List Nat).length : Nat) : Int) = wordsN c0.ps + cellsN c0.ps := rfl
  unfold runR
  rw [hr, if_neg (by simp), if_pos (by simp), hl]
  simp only
  rw [if_neg (fun e => e hn), hs, c0_steps 59996]
  rfl
abbrev coO0 (b : Nat) : Obj := .cells #[.string ⟨#[97, 46, 102]⟩, .slice none 0 0, .int .i64 3, .int .i64 0, .slice (some ⟨b, 0, none⟩) 4 4] 39
theorem c0_in {w : World} {b : Nat} (h : w.heap[b]? = some irsO) : CoIn w (fun _ => True) c0 none 0 (some ⟨b, 0, none⟩) 4 := ⟨Nat.le_refl _, Nat.le_refl _, trivial, irs_row h⟩
theorem c0_row {w : World} {b k : Nat} (h : w.heap[b]? = some irsO) (hk : w.heap[k]? = some (coO0 b)) : kCo.row w (fun _ => True) (some ⟨k, 0, none⟩) [c0] :=
  kCo.lay_row (S := fun _ => True) (fun _ h => h) k trivial 0 ⟨coCells c0 none 0 (some ⟨b, 0, none⟩) 4, [], rfl, ⟨none, 0, some ⟨b, 0, none⟩, 4, rfl, c0_in h⟩, rfl⟩ (cells_of hk)
theorem c0_all : ∀ c ∈ [c0], CoOk c := fun c hc => by rw [List.mem_singleton] at hc; rw [hc]; exact c0_ok
theorem c0_run {B : Nat} {w : World} {b k : Nat} (hg : Glob B w) (h : w.heap[b]? = some irsO) (hk : w.heap[k]? = some (coO0 b)) : Calls Try.prog 12 #[.slice (some ⟨k, 0, none⟩) 1 1, .string ⟨#[97, 46, 102]⟩, .slice none 0 0] w fun e w' => RunTells w w' e (10, [], [], 0) := by
  have hl : ([c0] : List Co).length ≤ 1000000 := by simp
  have hn : ([97, 46, 102] : List UInt8).length ≤ 1000000000 := by simp
  have := run_any (S' := fun _ => True) (some ⟨k, 0, none⟩) [c0] 1 [97, 46, 102] none [] 0 w (c0_row h hk) c0_all hl hg hn trivial (Nat.le_refl _)
  rw [run_c0] at this
  exact this
theorem c0_right {B : Nat} {w : World} {b : Nat} (hg : Glob B w) (h : w.heap[b]? = some irsO) : Calls Try.prog 22 #[.agg #[.string ⟨#[97, 46, 102]⟩, .slice none 0 0, .int .i64 3, .int .i64 0, .slice (some ⟨b, 0, none⟩) 4 4]] w fun e w' => e = .returned (.tuple #[.int .i64 0, .int .i64 (-1)]) ∧ Below w.heap.size w w' := by
  have := right_any c0 none 0 (some ⟨b, 0, none⟩) 4 w (c0_in h) c0_ok hg
  rw [right_c0] at this
  exact this
/-- The world behind the literals. -/
structure AwL (w w1 : World) : Prop where
  irs : w1.heap[w.heap.size]? = some irsO
  co : w1.heap[w.heap.size + 1]? = some (coO0 w.heap.size)
  below : Below w.heap.size w w1
  size : w1.heap.size = w.heap.size + 2
theorem awL (w : World) : AwL w ((w.alloc irsO).alloc (coO0 w.heap.size)) := by
  refine ⟨?_, ?_, bl_alloc (bl_alloc (Below.refl _ _) _) _, by simp⟩
  · rw [heap_alloc_old _ _ (by simp)]; exact heap_alloc_new w _
  · have := heap_alloc_new (w.alloc irsO) (coO0 w.heap.size)
    simpa using this
set_option maxRecDepth 100000 in
set_option maxHeartbeats 4000000 in
theorem awake_any {B : Nat} (w : World) (hg : Glob B w) : Calls Try.prog 10 #[] w fun e w' => e = .returned (.bool true) ∧ Below w.heap.size w w' := by
  have HL : Hid _ := awL w
  go_enter Try.func10, Try.ntmps10
  go_upto_region 2 with fail
  generalize World.alloc (World.alloc w _) _ = w1 at HL ⊢
  obtain ⟨h1, h2, h3, h4⟩ := HL.out
  have hr := c0_run (B := B) (w := w1.alloc (coO0 w.heap.size)) (b := w.heap.size) (k := w1.heap.size) ((hg.below h3).alloc _) (by rw [heap_alloc_old _ _ (by omega)]; exact h1) (heap_alloc_new w1 _)
  obtain ⟨k0, k1, k2, k3, k4⟩ := cells5 h2
  have HZ : Hid _ := h4
  have HG : Hid (Glob B (w1.alloc (coO0 w.heap.size))) := (hg.below h3).alloc _
  have H1 : Hid _ := h1
  have H2 : Hid _ := h2
  have HB : Hid _ := bl_alloc h3 (coO0 w.heap.size)
  clear h1 h2 h3 h4 HL
  go_upto_region 3 with (first | (go_at_call 12; refine hr.mono ?_; rintro e w4 ⟨ya, yc, ba, bc, rfl, _, _, _, _, hb4⟩))
  have hI4 : w4.heap[w.heap.size]? = some irsO := (hb4.block w.heap.size (by simp; have := HZ.out; omega)).trans (by rw [heap_alloc_old _ _ (by have := HZ.out; omega)]; exact H1.out)
  have hC4 : w4.heap[w.heap.size + 1]? = some (coO0 w.heap.size) := (hb4.block (w.heap.size + 1) (by simp; have := HZ.out; omega)).trans (by rw [heap_alloc_old _ _ (by have := HZ.out; omega)]; exact H2.out)
  have hri := c0_right (B := B) (w := w4.alloc (.cells #[.int .u32 10, .slice ya 0 yc] 28)) (b := w.heap.size) ((HG.out.below hb4).alloc _) (by rw [heap_alloc_old w4 _ (lt_of_some hI4)]; exact hI4)
  obtain ⟨k0, k1, k2, k3, k4⟩ := cells5 (show (w4.alloc (.cells #[.int .u32 10, .slice ya 0 yc] 28)).heap[w.heap.size + 1]? = some (coO0 w.heap.size) by rw [heap_alloc_old w4 _ (lt_of_some hC4)]; exact hC4)
  have HB4 : Hid _ := bl_alloc (bl_then HB.out hb4) (.cells #[.int .u32 10, .slice ya 0 yc] 28)
  have HON : Hid _ := heap_alloc_new w4 (.cells #[.int .u32 10, .slice ya 0 yc] 28)
  clear hr hb4 hI4 hC4
  go_upto_region 4 with (first | (go_at_call 22; refine hri.mono ?_; rintro e w5 ⟨rfl, hb5⟩))
  obtain ⟨j0, j1, _, _⟩ := cells2 (show w5.heap[w4.heap.size]? = some (.cells #[.int .u32 10, .slice ya 0 yc] 28) by rw [hb5.block _ (by simp)]; exact HON.out)
  go_wp2
  go_ret
  exact ⟨rfl, bl_then HB4.out hb5⟩
end Go.Proofs.Ytndmkfmpdnoliaa
