/- THE WALK of FoldAgain. -/
import Derived.Test.YtclajapdbphlbaaGAwake
import Derived.Test.YtclajapdbphlbaaGSame
import Derived.Deep.RegionHeld3
namespace Go.Proofs.Ytclajapdbphlbaa
open Go.ChangeShapes Go.WideShapes Go.ChangeAt Go.RowKit

set_option maxRecDepth 100000 in
set_option maxHeartbeats 4000000 in
theorem again_walk {B : Nat} (c : Co) (pa : Option Addr) (pc : Nat) (la : Option Addr) (lc : Nat) (w : World) (hg : Glob B w) (hin : CoIn w (fun _ => True) c pa pc la lc) :
    Calls Try.prog 5 #[coV c pa pc la lc] w fun e w' => e = .returned (.bool true) ∧ Below w.heap.size w w' := by
  have hx0 := heap_alloc_new w (coO c pa pc la lc)
  have hB0 := bl_alloc (Below.refl w.heap.size w) (coO c pa pc la lc)
  unfold coV
  go_enter Try.func5, Try.ntmps5
  go_upto_region 2 with (first | (go_at_call 10; refine (awake9_any _ (hg.alloc _)).mono ?_; rintro e w2 ⟨rfl, hb2⟩))
  have hB2 := bl_then hB0 hb2
  have hX2 : w2.heap[w.heap.size]? = some (coO c pa pc la lc) := (hb2.block _ (lt_of_some hx0)).trans hx0
  have hlt2 := lt_of_some hX2
  have hrow3 : kCo.row (w2.alloc (coO c pa pc la lc)) (fun _ => True) (some ⟨w2.heap.size, 0, none⟩) [c] := co_oneG (coIn_on hin (bl_alloc hB2 _)) trivial (heap_alloc_new w2 _)
  have hli := light_any _ _ [c] 1 hrow3
  have hB3 := bl_alloc hB2 (coO c pa pc la lc)
  have hX3 : (w2.alloc (coO c pa pc la lc)).heap[w.heap.size]? = some (coO c pa pc la lc) := (heap_alloc_old w2 _ hlt2).trans hX2
  obtain ⟨k0, k1, k2, k3, k4⟩ := co_block hX2
  have HX : Hid _ := hX3
  have HB : Hid _ := hB3
  clear hx0 hB0 hb2 hB2 hX2 hlt2 hrow3 hB3 hX3
  rcases nL : lightB [c] with _ | _ <;> rw [nL] at hli
  · go_upto_region 3 with (first | (go_at_call 11; refine hli.mono ?_; rintro e w4 ⟨rfl, hb4⟩))
    have hB4 := Lib.hid (bl_then HB.out hb4)
    clear hb4 hli
    go_wp2
    go_ret
    exact ⟨rfl, hB4.out⟩
  obtain ⟨l1, l2, hok, l4⟩ := light_oneG nL
  go_upto_region 5 with (first | (go_at_call 11; refine hli.mono ?_; rintro e w4 ⟨rfl, hb4⟩))
  have hB4 := bl_then HB.out hb4
  have hX4 : w4.heap[w.heap.size]? = some (coO c pa pc la lc) := (hb4.block _ (lt_of_some HX.out)).trans HX.out
  obtain ⟨k0, k1, k2, k3, k4⟩ := co_block hX4
  have HX4 : Hid _ := hX4
  have HB4 : Hid _ := hB4
  clear hB4 hb4 hli HX HB
  by_cases hr : (rightR c).1 = 0
  · have hfo := fold_yes c pa pc la lc w4 (coIn_on hin HB4.out) hok (hg.below HB4.out) hr
    clear hX4
    go_upto_region 6 with (first | (go_at_call 12; refine hfo.mono ?_; rintro e w5 ⟨qa, qc, ra, rc, rfl, hin5, hb5⟩))
    have hx6 := heap_alloc_new w5 (.cells #[.string (bs c.name), .slice qa c.ps.length qc, .int .i64 c.regs, .int .i64 c.cells, .slice ra c.l.length rc] 25)
    have hbb := bl_alloc (Below.refl w5.heap.size w5) (.cells #[.string (bs c.name), .slice qa c.ps.length qc, .int .i64 c.regs, .int .i64 c.cells, .slice ra c.l.length rc] 25)
    have hX6 := ((bl_then hb5 hbb).block _ (lt_of_some HX4.out)).trans HX4.out
    have hb6 := bl_then HB4.out (bl_then hb5 hbb)
    have hin6 := coIn_on hin5 hbb
    generalize World.alloc w5 _ = w6 at hx6 hX6 hb6 hin6 ⊢
    have hf2 := fold_yes (foldC c) qa qc ra rc w6 hin6 (foldC_ok hok) (hg.below hb6) (by rw [right_fold hr])
    rw [foldC_fold, show (foldC c).l.length = c.l.length from foldL_len c.l] at hf2
    have hf2' : Calls Try.prog 12 #[.agg #[.string (bs c.name), .slice qa c.ps.length qc, .int .i64 c.regs, .int .i64 c.cells, .slice ra c.l.length rc]] w6 fun e w' => ∃ qa qc ra rc, e = .returned (.tuple #[.agg #[.string (bs c.name), .slice qa c.ps.length qc, .int .i64 c.regs, .int .i64 c.cells, .slice ra c.l.length rc], .int .i64 0]) ∧ CoIn w' (fun _ => True) (foldC c) qa qc ra rc ∧ Below w6.heap.size w6 w' := hf2
    obtain ⟨k0, k1, k2, k3, k4⟩ := five hx6
    have HX6 : Hid _ := hX6
    have HY6 : Hid _ := hx6
    have HB6 : Hid _ := hb6
    have HI6 : Hid _ := hin6
    clear hfo hin5 hb5 hbb hf2 hx6 hX6 hb6 hin6 HX4 HB4
    go_upto_region 10 with (first | (go_at_call 12; refine hf2'.mono ?_; rintro e w7 ⟨qa2, qc2, ra2, rc2, rfl, hin7, hb7⟩))
    have hx8 := heap_alloc_new w7 (.cells #[.string (bs c.name), .slice qa2 c.ps.length qc2, .int .i64 c.regs, .int .i64 c.cells, .slice ra2 c.l.length rc2] 25)
    have hbb := bl_alloc (Below.refl w7.heap.size w7) (.cells #[.string (bs c.name), .slice qa2 c.ps.length qc2, .int .i64 c.regs, .int .i64 c.cells, .slice ra2 c.l.length rc2] 25)
    have hX8 := ((bl_then hb7 hbb).block _ (lt_of_some HX6.out)).trans HX6.out
    have hY8 := ((bl_then hb7 hbb).block _ (lt_of_some HY6.out)).trans HY6.out
    have hb8 := bl_then HB6.out (bl_then hb7 hbb)
    have hin8 := coIn_on hin7 hbb
    have hiz8 := coIn_on HI6.out (bl_then hb7 hbb)
    generalize World.alloc w7 _ = w8 at hx8 hX8 hY8 hb8 hin8 hiz8 ⊢
    have hsm := same7_any (foldC c) (foldC c) qa qc ra rc qa2 qc2 ra2 rc2 w8 hiz8 hin8 (by show (foldL c.l).length ≤ _; rw [foldL_len]; omega) (by show c.ps.length ≤ _; omega) (fun z hz => ((foldC_ok hok).ins z hz).2)
    rw [decide_eq_true rfl] at hsm
    unfold coV at hsm
    rw [show (foldC c).l.length = c.l.length from foldL_len c.l] at hsm
    have hsm' : Calls Try.prog 14 #[.agg #[.string (bs c.name), .slice qa c.ps.length qc, .int .i64 c.regs, .int .i64 c.cells, .slice ra c.l.length rc], .agg #[.string (bs c.name), .slice qa2 c.ps.length qc2, .int .i64 c.regs, .int .i64 c.cells, .slice ra2 c.l.length rc2]] w8 fun e w' => e = .returned (.bool true) ∧ Below w8.heap.size w8 w' := hsm
    obtain ⟨k0, k1, k2, k3, k4⟩ := five hY8
    obtain ⟨j0, j1, j2, j3, j4⟩ := five hx8
    have HX8 : Hid _ := hX8
    have HY8 : Hid _ := hY8
    have HB8 : Hid _ := hb8
    have HI8 : Hid _ := hiz8
    clear hf2' hin7 hb7 hbb hsm hx8 hX8 hY8 hb8 hin8 hiz8 HX6 HB6 HY6 HI6
    go_upto_region 11 with (first | (go_at_call 14; refine hsm'.mono ?_; rintro e w9 ⟨rfl, hb9⟩))
    have hb9' := bl_then HB8.out hb9
    have h9y := (hb9.block _ (lt_of_some HY8.out)).trans HY8.out
    have h9x := (hb9.block _ (lt_of_some HX8.out)).trans HX8.out
    have hi9 := coIn_on HI8.out hb9
    have HD0 : Hid (Below w9.heap.size w9 w9.drew ∧ w9.drew.cell? ⟨w5.heap.size, 0, none⟩ = some (.string (bs c.name)) ∧ w9.drew.cell? ⟨w5.heap.size, 1, none⟩ = some (.slice qa c.ps.length qc) ∧ w9.drew.cell? ⟨w5.heap.size, 2, none⟩ = some (.int .i64 c.regs) ∧ w9.drew.cell? ⟨w5.heap.size, 3, none⟩ = some (.int .i64 c.cells) ∧ w9.drew.cell? ⟨w5.heap.size, 4, none⟩ = some (.slice ra c.l.length rc) ∧ w9.drew.cell? ⟨w.heap.size, 0, none⟩ = some (.string (bs c.name)) ∧ w9.drew.cell? ⟨w.heap.size, 1, none⟩ = some (.slice pa c.ps.length pc) ∧ w9.drew.cell? ⟨w.heap.size, 2, none⟩ = some (.int .i64 c.regs) ∧ w9.drew.cell? ⟨w.heap.size, 3, none⟩ = some (.int .i64 c.cells) ∧ w9.drew.cell? ⟨w.heap.size, 4, none⟩ = some (.slice la c.l.length lc)) := by
      obtain ⟨a0, a1, a2, a3, a4⟩ := five (show w9.drew.heap[w5.heap.size]? = some (.cells #[.string (bs c.name), .slice qa c.ps.length qc, .int .i64 c.regs, .int .i64 c.cells, .slice ra c.l.length rc] 25) from h9y)
      obtain ⟨b0, b1, b2, b3, b4⟩ := five (show w9.drew.heap[w.heap.size]? = some (.cells #[.string (bs c.name), .slice pa c.ps.length pc, .int .i64 c.regs, .int .i64 c.cells, .slice la c.l.length lc] 25) from h9x)
      exact ⟨drewN_below w9 1, a0, a1, a2, a3, a4, b0, b1, b2, b3, b4⟩
    have HALL : Hid (∀ w1 w2 : World, Below w1.heap.size w1 w2 → (Below w9.heap.size w9 w1 ∧ w1.cell? ⟨w5.heap.size, 0, none⟩ = some (.string (bs c.name)) ∧ w1.cell? ⟨w5.heap.size, 1, none⟩ = some (.slice qa c.ps.length qc) ∧ w1.cell? ⟨w5.heap.size, 2, none⟩ = some (.int .i64 c.regs) ∧ w1.cell? ⟨w5.heap.size, 3, none⟩ = some (.int .i64 c.cells) ∧ w1.cell? ⟨w5.heap.size, 4, none⟩ = some (.slice ra c.l.length rc) ∧ w1.cell? ⟨w.heap.size, 0, none⟩ = some (.string (bs c.name)) ∧ w1.cell? ⟨w.heap.size, 1, none⟩ = some (.slice pa c.ps.length pc) ∧ w1.cell? ⟨w.heap.size, 2, none⟩ = some (.int .i64 c.regs) ∧ w1.cell? ⟨w.heap.size, 3, none⟩ = some (.int .i64 c.cells) ∧ w1.cell? ⟨w.heap.size, 4, none⟩ = some (.slice la c.l.length lc)) → (Below w9.heap.size w9 w2 ∧ w2.cell? ⟨w5.heap.size, 0, none⟩ = some (.string (bs c.name)) ∧ w2.cell? ⟨w5.heap.size, 1, none⟩ = some (.slice qa c.ps.length qc) ∧ w2.cell? ⟨w5.heap.size, 2, none⟩ = some (.int .i64 c.regs) ∧ w2.cell? ⟨w5.heap.size, 3, none⟩ = some (.int .i64 c.cells) ∧ w2.cell? ⟨w5.heap.size, 4, none⟩ = some (.slice ra c.l.length rc) ∧ w2.cell? ⟨w.heap.size, 0, none⟩ = some (.string (bs c.name)) ∧ w2.cell? ⟨w.heap.size, 1, none⟩ = some (.slice pa c.ps.length pc) ∧ w2.cell? ⟨w.heap.size, 2, none⟩ = some (.int .i64 c.regs) ∧ w2.cell? ⟨w.heap.size, 3, none⟩ = some (.int .i64 c.cells) ∧ w2.cell? ⟨w.heap.size, 4, none⟩ = some (.slice la c.l.length lc))) := fun w1 w2 hb ⟨h, a0, a1, a2, a3, a4, b0, b1, b2, b3, b4⟩ => by
      have go : ∀ (b o : Nat) (v : Value), w1.cell? ⟨b, o, none⟩ = some v → w2.cell? ⟨b, o, none⟩ = some v := fun b o v hv => (hb.cell (p := ⟨b, o, none⟩) (World.block_lt_of_cell? w1 _ hv)).trans hv
      exact ⟨bl_then h hb, go _ _ _ a0, go _ _ _ a1, go _ _ _ a2, go _ _ _ a3, go _ _ _ a4, go _ _ _ b0, go _ _ _ b1, go _ _ _ b2, go _ _ _ b3, go _ _ _ b4⟩
    have HK5 : Hid (∀ W : World, Below w9.heap.size w9 W → Calls Try.prog 15 #[.agg #[.string (bs c.name), .slice qa c.ps.length qc, .int .i64 c.regs, .int .i64 c.cells, .slice ra c.l.length rc]] W fun e w' => e = .returned (.int .i64 ((cnt (foldL c.l) : Nat) : Int)) ∧ Below W.heap.size W w') := fun W hW => by
      have := known_any (foldC c) qa qc ra rc W (coIn_on hi9 hW).l (by show (foldL c.l).length ≤ _; rw [foldL_len]; omega)
      rw [show (foldC c).l.length = c.l.length from foldL_len c.l] at this
      exact this
    have HK1 : Hid (∀ W : World, Below w9.heap.size w9 W → Calls Try.prog 15 #[.agg #[.string (bs c.name), .slice pa c.ps.length pc, .int .i64 c.regs, .int .i64 c.cells, .slice la c.l.length lc]] W fun e w' => e = .returned (.int .i64 ((cnt c.l : Nat) : Int)) ∧ Below W.heap.size W w') := fun W hW => known_any c pa pc la lc W (coIn_on hin (bl_then hb9' hW)).l (by omega)
    have hcn : ((cnt c.l : Nat) : Int) ≤ ((cnt (foldL c.l) : Nat) : Int) := by
      have := cnt_fold (begs c.l) c.l 0 kNone
      show ((cnt c.l : Nat) : Int) ≤ ((cnt (foldF (begs c.l) 0 c.l kNone) : Nat) : Int)
      omega
    have HB9 : Hid _ := hb9'
    generalize cnt (foldL c.l) = n5 at HK5 hcn
    generalize cnt c.l = n1 at HK1 hcn
    clear hsm' hb9 hb9' h9y h9x hi9 HX8 HY8 HB8 HI8 k0 k1 k2 k3 k4 j0 j1 j2 j3 j4
    go_region_held3 (fun w' : World => Below w9.heap.size w9 w' ∧ w'.cell? ⟨w5.heap.size, 0, none⟩ = some (.string (bs c.name)) ∧ w'.cell? ⟨w5.heap.size, 1, none⟩ = some (.slice qa c.ps.length qc) ∧ w'.cell? ⟨w5.heap.size, 2, none⟩ = some (.int .i64 c.regs) ∧ w'.cell? ⟨w5.heap.size, 3, none⟩ = some (.int .i64 c.cells) ∧ w'.cell? ⟨w5.heap.size, 4, none⟩ = some (.slice ra c.l.length rc) ∧ w'.cell? ⟨w.heap.size, 0, none⟩ = some (.string (bs c.name)) ∧ w'.cell? ⟨w.heap.size, 1, none⟩ = some (.slice pa c.ps.length pc) ∧ w'.cell? ⟨w.heap.size, 2, none⟩ = some (.int .i64 c.regs) ∧ w'.cell? ⟨w.heap.size, 3, none⟩ = some (.int .i64 c.cells) ∧ w'.cell? ⟨w.heap.size, 4, none⟩ = some (.slice la c.l.length lc))
      (first | with_reducible exact HD0.out | with_reducible exact HALL.out _ _ hb' (by assumption))
      (first | (go_at_call_of 15 (Value.agg #[.string (bs c.name), .slice qa c.ps.length qc, .int .i64 c.regs, .int .i64 c.cells, .slice ra c.l.length rc]); refine (HK5.out _ (And.left (by assumption))).mono ?_; rintro e w' ⟨rfl, hb'⟩) | (go_at_call_of 15 (Value.agg #[.string (bs c.name), .slice pa c.ps.length pc, .int .i64 c.regs, .int .i64 c.cells, .slice la c.l.length lc]); refine (HK1.out _ (And.left (by assumption))).mono ?_; rintro e w' ⟨rfl, hb'⟩))
    all_goals
      go_wp2_with fail
      go_ret
      first | exact ⟨rfl, bl_then HB9.out (And.left (by assumption))⟩ | exact ⟨ret_bool (by simp; omega), bl_then HB9.out (And.left (by assumption))⟩
  · have hfo := fold_no c pa pc la lc w4 (coIn_on hin HB4.out) hok (hg.below HB4.out) hr
    have hr' : ((rightR c).1 == 0) = false := by simpa using hr
    have HRR : Hid (∀ (w' : World), Below w4.heap.size w4 w' → Calls Try.prog 19 #[.agg #[.string (bs c.name), .slice pa c.ps.length pc, .int .i64 c.regs, .int .i64 c.cells, .slice la c.l.length lc]] w' fun e w'' => e = .returned (.tuple #[.int .i64 (rightR c).1, .int .i64 (rightR c).2]) ∧ Below w'.heap.size w' w'') := fun w' hb => right_any c pa pc la lc w' (coIn_on hin (bl_then HB4.out hb)) hok (hg.below (bl_then HB4.out hb))
    generalize (rightR c).1 = er at hfo hr' HRR
    generalize (rightR c).2 = at0 at HRR
    clear hX4 hr
    go_upto_region 6 with (first | (go_at_call 12; refine hfo.mono ?_; rintro e w5 ⟨qa, qc, ra, rc, rfl, hin5, hb5⟩))
    have hx6 := heap_alloc_new w5 (.cells #[.string ⟨#[]⟩, .slice qa 0 qc, .int .i64 0, .int .i64 0, .slice ra 0 rc] 25)
    have hbb := bl_then hb5 (bl_alloc (Below.refl w5.heap.size w5) (.cells #[.string ⟨#[]⟩, .slice qa 0 qc, .int .i64 0, .int .i64 0, .slice ra 0 rc] 25))
    have hX6 := (hbb.block _ (lt_of_some HX4.out)).trans HX4.out
    generalize World.alloc w5 _ = w6 at hx6 hX6 hbb ⊢
    have hri := HRR.out w6 hbb
    obtain ⟨k0, k1, k2, k3, k4⟩ := five hx6
    obtain ⟨j0, j1, j2, j3, j4⟩ := five hX6
    have HY6 : Hid _ := hx6
    have HB6 : Hid _ := bl_then HB4.out hbb
    clear hfo hin5 hb5 hbb hx6 hX6 HX4 HB4 HRR
    go_upto_region 8 with (first | (go_at_call 19; refine hri.mono ?_; rintro e w7 ⟨rfl, hb7⟩))
    obtain ⟨k0, k1, k2, k3, k4⟩ := five ((hb7.block _ (lt_of_some HY6.out)).trans HY6.out)
    have HB7 : Hid _ := bl_then HB6.out hb7
    clear hri hb7 HB6 HY6
    go_wp2
    go_ret
    exact ⟨rfl, HB7.out⟩
end Go.Proofs.Ytclajapdbphlbaa
