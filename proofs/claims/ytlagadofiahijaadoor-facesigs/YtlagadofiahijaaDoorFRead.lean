/- CONTRACT of face.Read. -/
import Derived.Test.YtlagadofiahijaaDoorFGuess
namespace Go.Proofs.YtlagadofiahijaaDoor
open Go.ChangeShapes Go.WideShapes Go.ChangeAt Go.RowKit Go.Shelf

/-- The list of a text. -/
def readR (s : List UInt8) : List Sg × Int := if textR (gAll s []) = (s, 0) then (gAll s [], 0) else ([], 6)
theorem textR_code (l : List Sg) : (textR l).2 = 0 ∨ (textR l).2 = 6 ∨ (textR l).2 = 9 := by
  unfold textR
  split
  · split
    · exact .inl rfl
    · exact .inr (.inr rfl)
  · exact .inr (.inl rfl)

set_option maxRecDepth 100000 in
set_option maxHeartbeats 2000000 in
theorem read_any {B : Nat} (w : World) (s : List UInt8) (hg : Glob B w) (hs : s.length ≤ 1000000) :
    Calls Tryd.prog 12 #[.string (bs s)] w fun e w' => (∃ v, e = .returned (.tuple #[v, .int .i64 (readR s).2]) ∧ kSg.rd w' (fun b => w.heap.size ≤ b) v (readR s).1) ∧ Below w.heap.size w w' := by
  have hgs := guess_any w s hg hs
  have hwt : wt (gAll s []) ≤ 300000000 := by have := wt_gAll s []; simp only [wt] at this; omega
  have HR : Hid (readR s = if textR (gAll s []) = (s, 0) then (gAll s [], 0) else ([], 6)) := rfl
  generalize gAll s [] = l at hgs hwt HR
  have hcode := textR_code l
  by_cases he : (textR l).2 = 0
  · by_cases ht : (textR l).1 = s
    · have HF : Hid (readR s = (l, 0)) := by show _ = _; rw [HR.out, if_pos (by rw [← ht, ← he])]
      have htq : ((bs (textR l).1).toList == (bs s).toList) = true := by rw [bs_tl, bs_tl]; simpa using ht
      clear ht HR hcode
      go_enter Tryd.func12, Tryd.ntmps12
      go_wp2_with (first | (go_at_call 19; refine hgs.mono ?_; rintro e w1 ⟨v, rfl, hrd, hb1⟩; obtain ⟨a, c, rfl, hrow, hc⟩ := hrd; have htx := text_any w1 a l c hrow (hg.below hb1) hwt; rw [he] at htx) | (go_at_call 11; refine htx.mono ?_; rintro e w2 ⟨rfl, hb2⟩))
      go_ret2
      exact ⟨⟨_, by rw [HF.out]; rfl, by rw [HF.out]; exact ⟨a, c, rfl, kSg.row_mono (by decide) hrow fun b hb hlt => ⟨hb, hb2.block b hlt⟩, hc⟩⟩, bl_then hb1 hb2⟩
    · have HF : Hid (readR s = ([], 6)) := by show _ = _; rw [HR.out, if_neg (fun e => ht (by rw [e]))]
      have htq : ((bs (textR l).1).toList == (bs s).toList) = false := by rw [bs_tl, bs_tl]; simpa using ht
      clear ht HR hcode
      go_enter Tryd.func12, Tryd.ntmps12
      go_wp2_with (first | (go_at_call 19; refine hgs.mono ?_; rintro e w1 ⟨v, rfl, hrd, hb1⟩; obtain ⟨a, c, rfl, hrow, hc⟩ := hrd; have htx := text_any w1 a l c hrow (hg.below hb1) hwt; rw [he] at htx) | (go_at_call 11; refine htx.mono ?_; rintro e w2 ⟨rfl, hb2⟩))
      go_ret2
      exact ⟨⟨_, by rw [HF.out]; rfl, by rw [HF.out]; exact ⟨none, 0, rfl, trivial, Nat.le_refl _⟩⟩, bl_then hb1 hb2⟩
  · have HF : Hid (readR s = ([], 6)) := by show _ = _; rw [HR.out, if_neg (fun e => he (by rw [e]))]
    have he' : ((textR l).2 == 0) = false := by simpa using he
    clear HR hcode
    go_enter Tryd.func12, Tryd.ntmps12
    go_wp2_with (first | (go_at_call 19; refine hgs.mono ?_; rintro e w1 ⟨v, rfl, hrd, hb1⟩; obtain ⟨a, c, rfl, hrow, hc⟩ := hrd; have htx := text_any w1 a l c hrow (hg.below hb1) hwt) | (go_at_call 11; refine htx.mono ?_; rintro e w2 ⟨rfl, hb2⟩))
    go_ret2
    exact ⟨⟨_, by rw [HF.out]; rfl, by rw [HF.out]; exact ⟨none, 0, rfl, trivial, Nat.le_refl _⟩⟩, bl_then hb1 hb2⟩
end Go.Proofs.YtlagadofiahijaaDoor
