/- THE WALK of FaceTexts. -/
import Derived.Test.YtkhlkemngejfeaaDoorFRText
namespace Go.Proofs.YtkhlkemngejfeaaDoor
open Go.ChangeShapes Go.WideShapes Go.ChangeAt Go.RowKit Go.Shelf

set_option maxRecDepth 100000 in
set_option maxHeartbeats 2000000 in
theorem faceTexts_walk {B : Nat} {S : Nat → Prop} (w : World) (a : Option Addr) (l : List Sg) (c : Nat) (h : kSg.row w S a l) (hg : Glob B w) :
    Calls Tryd.prog 4 #[.slice a l.length c] w fun e w' => e = .returned (.bool true) ∧ Below w.heap.size w w' := by
  have ha := awake_any w hg
  rcases hlb : lightB l with _ | _
  · go_enter Tryd.func4, Tryd.ntmps4
    go_wp2_with (first | (go_at_call 10; refine ha.mono ?_; rintro e w1 ⟨rfl, hb1⟩; have hli := light_any w1 a l c (kSg.row_mono (T := S) (by decide) h fun b hb hlt => ⟨hb, hb1.block b hlt⟩); rw [hlb] at hli) | (go_at_call 17; refine hli.mono ?_; rintro e w2 ⟨rfl, hb2⟩))
    go_ret
    exact ⟨rfl, bl_then hb1 hb2⟩
  · obtain ⟨hl1, hl2⟩ := light_parts hlb
    have hwt : wt l ≤ 52000 := by have := wt_light l hl2; omega
    have hps : ∀ x ∈ l, x.ps.length ≤ 1000000 := fun x hx => by have := (hl2 x hx).2; omega
    have HT1 : Hid (∀ (w2 : World), Below w.heap.size w w2 → Calls Tryd.prog 18 #[.slice a l.length c] w2 fun e w' => e = .returned (.tuple #[.string (bs (textR l).1), .int .i64 (textR l).2]) ∧ Below w2.heap.size w2 w') := fun w2 hb => text_any w2 a l c (kSg.row_mono (T := S) (by decide) h fun b hb' hlt => ⟨hb', hb.block b hlt⟩) (hg.below hb) (by omega)
    have HT2 : Hid (∀ (w2 : World), Below w.heap.size w w2 → Calls Tryd.prog 19 #[.slice a l.length c] w2 fun e w' => e = .returned (.tuple #[.string (bs (textR l).1), .int .i64 (textR l).2]) ∧ Below w2.heap.size w2 w') := fun w2 hb => refText_any w2 a l c (kSg.row_mono (T := S) (by decide) h fun b hb' hlt => ⟨hb', hb.block b hlt⟩) (by omega) hps
    clear hl1 hl2 hwt hps
    generalize (textR l).1 = tx at HT1 HT2
    generalize (textR l).2 = te at HT1 HT2
    have heq : ((bs tx).toList == (bs tx).toList) = true := by simp
    go_enter Tryd.func4, Tryd.ntmps4
    go_wp2_with (first | (go_at_call 10; refine ha.mono ?_; rintro e w1 ⟨rfl, hb1⟩; have hli := light_any w1 a l c (kSg.row_mono (T := S) (by decide) h fun b hb hlt => ⟨hb, hb1.block b hlt⟩); rw [hlb] at hli) | (go_at_call 17; refine hli.mono ?_; rintro e w2 ⟨rfl, hb2⟩; have hb12 := bl_then hb1 hb2; have ht1 := HT1.out w2 hb12) | (go_at_call 18; refine ht1.mono ?_; rintro e w3 ⟨rfl, hb3⟩; have hb13 := bl_then hb12 hb3; have ht2 := HT2.out w3 hb13) | (go_at_call 19; refine ht2.mono ?_; rintro e w4 ⟨rfl, hb4⟩; have hb14 := bl_then hb13 hb4))
    go_ret
    exact ⟨rfl, hb14⟩
end Go.Proofs.YtkhlkemngejfeaaDoor
