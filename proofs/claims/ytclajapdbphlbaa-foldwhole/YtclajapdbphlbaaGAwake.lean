/- CONTRACT of awake. -/
import Derived.Test.YtclajapdbphlbaaGLit
import Derived.Test.YtclajapdbphlbaaGKnown
namespace Go.Proofs.Ytclajapdbphlbaa
open Go.ChangeShapes Go.WideShapes Go.ChangeAt Go.RowKit

/-- The one function; folded. -/
def cA : Co := ⟨[97, 46, 102], [], 3, 0, [⟨1, 0, 0, 0, 0, 0, 5, [], []⟩, ⟨1, 0, 1, 0, 0, 0, 6, [], []⟩, ⟨3, 3, 2, 0, 1, 0, 0, [], []⟩, ⟨10, 0, 0, 2, 0, 0, 0, [], []⟩]⟩
def cAF : Co := ⟨[97, 46, 102], [], 3, 0, [⟨1, 0, 0, 0, 0, 0, 5, [], []⟩, ⟨1, 0, 1, 0, 0, 0, 6, [], []⟩, ⟨1, 0, 2, 0, 0, 0, 30, [], []⟩, ⟨10, 0, 0, 2, 0, 0, 0, [], []⟩]⟩
theorem right_cA : rightR cA = (0, -1) := by decide +kernel
theorem fold_cA : foldC cA = cAF := by decide +kernel
theorem foldT_cA : foldT cA = (cAF, 0) := by rw [foldT_ok (by rw [right_cA]), fold_cA]
theorem cA_ok : CoOk cA := ⟨by decide, by decide⟩
theorem cA_plain : PlainIr cA.l := by unfold PlainIr; decide
abbrev irsA : Obj := .cells #[.int .i64 1, .int .i64 0, .int .i64 0, .int .i64 0, .int .i64 0, .int .i64 0, .int .u32 5, .string ⟨#[]⟩, .slice none 0 0, .int .i64 1, .int .i64 0, .int .i64 1, .int .i64 0, .int .i64 0, .int .i64 0, .int .u32 6, .string ⟨#[]⟩, .slice none 0 0, .int .i64 3, .int .i64 3, .int .i64 2, .int .i64 0, .int .i64 1, .int .i64 0, .int .u32 0, .string ⟨#[]⟩, .slice none 0 0, .int .i64 10, .int .i64 0, .int .i64 0, .int .i64 2, .int .i64 0, .int .i64 0, .int .u32 0, .string ⟨#[]⟩, .slice none 0 0] 36
abbrev coA (b : Nat) : Obj := .cells #[.string ⟨#[97, 46, 102]⟩, .slice none 0 0, .int .i64 3, .int .i64 0, .slice (some ⟨b, 0, none⟩) 4 4] 25
theorem cA_in {w : World} {b : Nat} (h : w.heap[b]? = some irsA) : CoIn w (fun _ => True) cA none 0 (some ⟨b, 0, none⟩) 4 := ⟨Nat.le_refl _, Nat.le_refl _, trivial, irs_rowG cA_plain h⟩
theorem cA_fold {B : Nat} {w : World} {b : Nat} (hg : Glob B w) (h : w.heap[b]? = some irsA) : Calls Try.prog 12 #[.agg #[.string ⟨#[97, 46, 102]⟩, .slice none 0 0, .int .i64 3, .int .i64 0, .slice (some ⟨b, 0, none⟩) 4 4]] w fun e w' => ∃ qa qc ra rc, e = .returned (.tuple #[.agg #[.string ⟨#[97, 46, 102]⟩, .slice qa 0 qc, .int .i64 3, .int .i64 0, .slice ra 4 rc], .int .i64 0]) ∧ kIr.row w' (fun _ => True) ra cAF.l ∧ Below w.heap.size w w' := by
  have := fold_any cA none 0 (some ⟨b, 0, none⟩) 4 w (cA_in h) cA_ok hg
  refine this.mono fun e w' hh => ?_
  unfold FoldPost at hh
  rw [foldT_cA] at hh
  obtain ⟨qa, qc, ra, rc, rfl, hin, hb⟩ := hh
  exact ⟨qa, qc, ra, rc, rfl, kIr.row_mono (by decide) hin.l fun b _ _ => ⟨trivial, rfl⟩, hb⟩
set_option maxRecDepth 100000 in
set_option maxHeartbeats 4000000 in
theorem awake9_any {B : Nat} (w : World) (hg : Glob B w) : Calls Try.prog 10 #[] w fun e w' => e = .returned (.bool true) ∧ Below w.heap.size w w' := by
  have HL : Hid _ := two_box' w irsA (coA w.heap.size)
  go_enter Try.func10, Try.ntmps10
  go_upto_region 2 with fail
  generalize World.alloc (World.alloc w _) _ = w1 at HL ⊢
  obtain ⟨h1, h2, hb1, hz1⟩ := HL.out
  have hfo := cA_fold (B := B) (b := w.heap.size) (hg.below hb1) h1
  obtain ⟨k0, k1, k2, k3, k4⟩ := five h2
  have HB1 : Hid _ := hb1
  clear h1 h2 HL hb1
  go_upto_region 3 with (first | (go_at_call 12; refine hfo.mono ?_; rintro e w2 ⟨qa, qc, ra, rc, rfl, hrow2, hb2⟩))
  have hx3 := heap_alloc_new w2 (.cells #[.string ⟨#[97, 46, 102]⟩, .slice qa 0 qc, .int .i64 3, .int .i64 0, .slice ra 4 rc] 25)
  have hb3 := bl_alloc (bl_then HB1.out hb2) (.cells #[.string ⟨#[97, 46, 102]⟩, .slice qa 0 qc, .int .i64 3, .int .i64 0, .slice ra 4 rc] 25)
  have hrow3 := kIr.row_mono (T := fun _ => True) (by decide) hrow2 (fun b _ hlt => ⟨trivial, heap_alloc_old w2 (.cells #[.string ⟨#[97, 46, 102]⟩, .slice qa 0 qc, .int .i64 3, .int .i64 0, .slice ra 4 rc] 25) hlt⟩)
  generalize World.alloc w2 _ = w3 at hx3 hb3 hrow3 ⊢
  obtain ⟨k0, k1, k2, k3, k4⟩ := five hx3
  obtain ⟨b, o, ga, gc, rfl, _, hbl, hat, _, _, _⟩ := ir_at hrow3 2 (by decide)
  obtain ⟨e0, e1, e2, e3, e4, e5, e6, e7, e8⟩ := hat
  have e0' : w3.cell? ⟨b, o + 2 * 9, none⟩ = some (.int .i64 1) := e0
  have e6' : w3.cell? ⟨b, o + 2 * 9 + 6, none⟩ = some (.int .u32 30) := e6
  have hkn := known_any cAF qa qc (some ⟨b, o, none⟩) rc w3 hrow3 (by decide)
  have hkn' : Calls Try.prog 15 #[.agg #[.string ⟨#[97, 46, 102]⟩, .slice qa 0 qc, .int .i64 3, .int .i64 0, .slice (some ⟨b, o, none⟩) 4 rc]] w3 fun e w' => e = .returned (.int .i64 3) ∧ Below w3.heap.size w3 w' := hkn
  have HB3 : Hid _ := hb3
  clear hrow2 hb2 hrow3 hx3 hb3 hfo e0 e1 e2 e3 e4 e5 e6 e7 e8 hkn
  go_wp2_with (first | (go_at_call 15; refine hkn'.mono ?_; rintro e w5 ⟨rfl, hb5⟩))
  go_ret
  exact ⟨rfl, bl_then HB3.out hb5⟩
end Go.Proofs.Ytclajapdbphlbaa
