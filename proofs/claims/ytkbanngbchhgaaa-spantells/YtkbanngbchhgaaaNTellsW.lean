/- THE WALK of SpanTells. -/
import Derived.Test.YtkbanngbchhgaaaNAwake
import Derived.Test.YtkbanngbchhgaaaNCalls
import Derived.Test.YtkbanngbchhgaaaNSame
import Derived.Test.YtkbanngbchhgaaaNRSpans
import Derived.Test.YtkbanngbchhgaaaILight
import Derived.Deep.RegionHeld3
namespace Go.Proofs.Ytkbanngbchhgaaa
open Go.ChangeShapes Go.WideShapes Go.ChangeAt Go.RowKit

theorem three_boxT (w : World) (o1 o2 : Obj) : ((w.alloc o1).alloc o2).heap[w.heap.size]? = some o1 ∧ ((w.alloc o1).alloc o2).heap[w.heap.size + 1]? = some o2 ∧ Below w.heap.size w ((w.alloc o1).alloc o2) := ⟨(two_box' w o1 o2).1, (two_box' w o1 o2).2.1, (two_box' w o1 o2).2.2.1⟩
set_option maxRecDepth 100000 in
set_option maxHeartbeats 8000000 in
theorem span_tells {B : Nat} (c : Co) (pa : Option Addr) (pc : Nat) (la : Option Addr) (lc : Nat) (s : Int × Int) (w : World) (hg : Glob B w) (hin : CoIn w (fun _ => True) c pa pc la lc) :
    Calls Try.prog 3 #[coV c pa pc la lc, spV s] w fun e w' => e = .returned (.bool true) ∧ Below w.heap.size w w' := by
  obtain ⟨s0, s1⟩ := s
  obtain ⟨hx0, hs0, hB0⟩ := three_boxT w (coO c pa pc la lc) (.cells #[.int .i64 s0, .int .i64 s1] 26)
  unfold coV
  show Calls Try.prog 3 #[.agg #[.string (bs c.name), .slice pa c.ps.length pc, .int .i64 c.regs, .int .i64 c.cells, .slice la c.l.length lc], .agg #[.int .i64 s0, .int .i64 s1]] w _
  go_enter Try.func3, Try.ntmps3
  go_upto_region 1 with fail
  generalize hw1 : World.alloc (World.alloc w _) _ = w1
  rw [hw1] at hx0 hs0 hB0
  clear hw1
  have haw := awake11_any w1 (hg.below hB0)
  go_upto_region 2 with (first | (go_at_call 9; refine haw.mono ?_; rintro e w2 ⟨rfl, hb2⟩))
  have hB2 := bl_then hB0 hb2
  have hX2 : w2.heap[w.heap.size]? = some (coO c pa pc la lc) := (hb2.block _ (lt_of_some hx0)).trans hx0
  have hS2 := (hb2.block _ (lt_of_some hs0)).trans hs0
  have hrow3 : kCo.row (w2.alloc (coO c pa pc la lc)) (fun _ => True) (some ⟨w2.heap.size, 0, none⟩) [c] := co_oneG (coIn_on hin (bl_alloc hB2 _)) trivial (heap_alloc_new w2 _)
  have hli := light_any _ _ [c] 1 hrow3
  have hB3 := bl_alloc hB2 (coO c pa pc la lc)
  have hX3 : (w2.alloc (coO c pa pc la lc)).heap[w.heap.size]? = some (coO c pa pc la lc) := (heap_alloc_old w2 _ (lt_of_some hX2)).trans hX2
  have hS3 := (heap_alloc_old w2 (coO c pa pc la lc) (lt_of_some hS2)).trans hS2
  obtain ⟨k0, k1, k2, k3, k4⟩ := co_block hX2
  have HX : Hid _ := hX3
  have HS : Hid _ := hS3
  have HB : Hid _ := hB3
  clear haw hx0 hs0 hB0 hb2 hB2 hX2 hS2 hrow3 hB3 hX3 hS3
  rcases nL : lightB [c] with _ | _ <;> rw [nL] at hli
  · go_upto_region 3 with (first | (go_at_call 10; refine hli.mono ?_; rintro e w4 ⟨rfl, hb4⟩))
    have hB4 := Lib.hid (bl_then HB.out hb4)
    clear hb4 hli
    go_wp2
    go_ret
    exact ⟨rfl, hB4.out⟩
  obtain ⟨l1, l2, hok, l4⟩ := light_oneG nL
  go_upto_region 3 with (first | (go_at_call 10; refine hli.mono ?_; rintro e w4 ⟨rfl, hb4⟩))
  have hB4 := bl_then HB.out hb4
  have hX4 : w4.heap[w.heap.size]? = some (coO c pa pc la lc) := (hb4.block _ (lt_of_some HX.out)).trans HX.out
  have hS4 := (hb4.block _ (lt_of_some HS.out)).trans HS.out
  obtain ⟨k0, k1, k2, k3, k4⟩ := co_block hX4
  obtain ⟨j0, j1⟩ := two_cells hS4
  have HX4 : Hid _ := hX4
  have HS4 : Hid _ := hS4
  have HB4 : Hid _ := hB4
  clear hB4 hb4 hli HX HB HS hX4 hS4
  by_cases h300 : 300 < c.regs
  · go_wp2
    go_ret
    exact ⟨rfl, HB4.out⟩
  have HALL : Hid (∀ W' : World, Below w4.heap.size w4 W' → (Below w4.heap.size w4 W' ∧ W'.cell? ⟨w.heap.size, 0, none⟩ = some (.string (bs c.name)) ∧ W'.cell? ⟨w.heap.size, 1, none⟩ = some (.slice pa c.ps.length pc) ∧ W'.cell? ⟨w.heap.size, 2, none⟩ = some (.int .i64 c.regs) ∧ W'.cell? ⟨w.heap.size, 3, none⟩ = some (.int .i64 c.cells) ∧ W'.cell? ⟨w.heap.size, 4, none⟩ = some (.slice la c.l.length lc) ∧ W'.cell? ⟨w.heap.size + 1, 0, none⟩ = some (.int .i64 s0) ∧ W'.cell? ⟨w.heap.size + 1, 1, none⟩ = some (.int .i64 s1))) := fun W' hW => by
    obtain ⟨a0, a1, a2, a3, a4⟩ := co_block ((hW.block _ (lt_of_some HX4.out)).trans HX4.out)
    obtain ⟨b0, b1⟩ := two_cells ((hW.block _ (lt_of_some HS4.out)).trans HS4.out)
    exact ⟨hW, a0, a1, a2, a3, a4, b0, b1⟩
  have HD0 : Hid _ := HALL.out _ (drewB w4)
  have hca := fun W (hW : Below w4.heap.size w4 W) => calls_any c pa pc la lc (s0, s1) W (coIn_on hin (bl_then HB4.out hW)) (by omega)
  have hcr := fun W (hW : Below w4.heap.size w4 W) => refCalls_any c pa pc la lc (s0, s1) W (coIn_on hin (bl_then HB4.out hW)) (by omega)
  simp only [spV] at hca hcr
  generalize callsL (s0, s1) 0 c.l = m at hca hcr
  by_cases hr : (rightR c).1 = 0
  · have hs1 := fun W (hW : Below w4.heap.size w4 W) => spans_yes c pa pc la lc W (coIn_on hin (bl_then HB4.out hW)) hok (hg.below (bl_then HB4.out hW)) hr
    have hs2 := fun W (hW : Below w4.heap.size w4 W) => refSpans_yes c pa pc la lc W (coIn_on hin (bl_then HB4.out hW)) hok hr
    rw [spansM_eq hr] at hs1
    have hln := spanL_len c c.regs.toNat
    obtain ⟨_, _, _, _, hr4⟩ := right_bds hr
    generalize spanL c c.regs.toNat = sl at hs1 hs2 hln
    have hn1 : c.regs.toNat ≤ 10000 := by omega
    generalize c.regs.toNat = n at hs1 hs2 hln hn1
    subst hln
    unfold coV at hs1 hs2 hca hcr
    have HS1 : Hid _ := hs1
    have HS2 : Hid _ := hs2
    have HCA : Hid _ := hca
    have HCR : Hid _ := hcr
    clear hs1 hs2 hca hcr hr hg hin hr4
    go_upto_region 5 with fail
    clear k0 k1 k2 k3 k4 j0 j1
    go_region_held3 (fun W' : World => (Below w4.heap.size w4 W' ∧ W'.cell? ⟨w.heap.size, 0, none⟩ = some (.string (bs c.name)) ∧ W'.cell? ⟨w.heap.size, 1, none⟩ = some (.slice pa c.ps.length pc) ∧ W'.cell? ⟨w.heap.size, 2, none⟩ = some (.int .i64 c.regs) ∧ W'.cell? ⟨w.heap.size, 3, none⟩ = some (.int .i64 c.cells) ∧ W'.cell? ⟨w.heap.size, 4, none⟩ = some (.slice la c.l.length lc) ∧ W'.cell? ⟨w.heap.size + 1, 0, none⟩ = some (.int .i64 s0) ∧ W'.cell? ⟨w.heap.size + 1, 1, none⟩ = some (.int .i64 s1)))
      (first | assumption | with_reducible exact HD0.out | with_reducible exact HALL.out _ (bl_then (And.left (by assumption)) hb9))
      (first
        | (go_at_call 12; refine (HS1.out _ (And.left (by assumption))).mono ?_; rintro e w5 ⟨⟨pb, rfl, hp5, hz5⟩, hb9⟩)
        | (go_at_call 13; refine (HS2.out _ (And.left (by assumption))).mono ?_; rintro e w6 ⟨⟨y, yc, rfl, hry⟩, hb9⟩; have hp6 := (hb9.block _ (lt_of_some hp5)).trans hp5; have hsm := sameSp_any (S1 := fun _ => True) w6 (some ⟨pb, 0, none⟩) y sl sl.length yc (sp_row hp6 trivial) hry (by omega))
        | (go_at_call 11; refine hsm.mono ?_; rintro e w7 ⟨rfl, hb9⟩))
    all_goals
      rename_i hfin
      have hB7 := hfin.1
      have HB7 : Hid _ := hB7
      have HD7 : Hid _ := HALL.out _ (bl_then hB7 (drewB w7))
      clear hfin hB7 hb9
      go_upto_region 6 with fail
      go_region_held3 (fun W' : World => (Below w4.heap.size w4 W' ∧ W'.cell? ⟨w.heap.size, 0, none⟩ = some (.string (bs c.name)) ∧ W'.cell? ⟨w.heap.size, 1, none⟩ = some (.slice pa c.ps.length pc) ∧ W'.cell? ⟨w.heap.size, 2, none⟩ = some (.int .i64 c.regs) ∧ W'.cell? ⟨w.heap.size, 3, none⟩ = some (.int .i64 c.cells) ∧ W'.cell? ⟨w.heap.size, 4, none⟩ = some (.slice la c.l.length lc) ∧ W'.cell? ⟨w.heap.size + 1, 0, none⟩ = some (.int .i64 s0) ∧ W'.cell? ⟨w.heap.size + 1, 1, none⟩ = some (.int .i64 s1)))
        (first | assumption | with_reducible exact HD7.out | with_reducible exact HALL.out _ (bl_then (And.left (by assumption)) hb9))
        (first
          | (go_at_call 14; (with_reducible refine (HCA.out _ (And.left (by assumption))).mono ?_); rintro e w8 ⟨rfl, hb9⟩)
          | (go_at_call 15; (with_reducible refine (HCR.out _ (And.left (by assumption))).mono ?_); rintro e w8 ⟨rfl, hb9⟩))
      all_goals
        go_wp2
        go_ret
        exact ⟨rfl, bl_then HB4.out (And.left (by assumption))⟩
  · have hs1 := fun W (hW : Below w4.heap.size w4 W) => spans_no c pa pc la lc W (coIn_on hin (bl_then HB4.out hW)) hok (hg.below (bl_then HB4.out hW)) hr
    have hs2 := fun W (hW : Below w4.heap.size w4 W) => refSpans_no c pa pc la lc W (coIn_on hin (bl_then HB4.out hW)) hok (by omega) (by omega) hr
    unfold coV at hs1 hs2 hca hcr
    have HS1 : Hid _ := hs1
    have HS2 : Hid _ := hs2
    have HCA : Hid _ := hca
    have HCR : Hid _ := hcr
    have hsm : ∀ W, Calls Try.prog 11 #[.slice none 0 0, .slice none 0 0] W fun e w' => e = .returned (.bool true) ∧ Below W.heap.size W w' := fun W => sameSp_any (S1 := fun _ => True) (S2 := fun _ => True) W none none [] 0 0 trivial trivial (by simp)
    clear hs1 hs2 hca hcr hr hg hin
    go_upto_region 5 with fail
    clear k0 k1 k2 k3 k4 j0 j1
    go_region_held3 (fun W' : World => (Below w4.heap.size w4 W' ∧ W'.cell? ⟨w.heap.size, 0, none⟩ = some (.string (bs c.name)) ∧ W'.cell? ⟨w.heap.size, 1, none⟩ = some (.slice pa c.ps.length pc) ∧ W'.cell? ⟨w.heap.size, 2, none⟩ = some (.int .i64 c.regs) ∧ W'.cell? ⟨w.heap.size, 3, none⟩ = some (.int .i64 c.cells) ∧ W'.cell? ⟨w.heap.size, 4, none⟩ = some (.slice la c.l.length lc) ∧ W'.cell? ⟨w.heap.size + 1, 0, none⟩ = some (.int .i64 s0) ∧ W'.cell? ⟨w.heap.size + 1, 1, none⟩ = some (.int .i64 s1)))
      (first | assumption | with_reducible exact HD0.out | with_reducible exact HALL.out _ (bl_then (And.left (by assumption)) hb9))
      (first
        | (go_at_call 12; refine (HS1.out _ (And.left (by assumption))).mono ?_; rintro e w5 ⟨rfl, hb9⟩)
        | (go_at_call 13; refine (HS2.out _ (And.left (by assumption))).mono ?_; rintro e w6 ⟨rfl, hb9⟩)
        | (go_at_call 11; refine (hsm _).mono ?_; rintro e w7 ⟨rfl, hb9⟩))
    all_goals
      rename_i hfin
      have hB7 := hfin.1
      have HB7 : Hid _ := hB7
      have HD7 : Hid _ := HALL.out _ (bl_then hB7 (drewB w7))
      clear hfin hB7 hb9
      go_upto_region 6 with fail
      go_region_held3 (fun W' : World => (Below w4.heap.size w4 W' ∧ W'.cell? ⟨w.heap.size, 0, none⟩ = some (.string (bs c.name)) ∧ W'.cell? ⟨w.heap.size, 1, none⟩ = some (.slice pa c.ps.length pc) ∧ W'.cell? ⟨w.heap.size, 2, none⟩ = some (.int .i64 c.regs) ∧ W'.cell? ⟨w.heap.size, 3, none⟩ = some (.int .i64 c.cells) ∧ W'.cell? ⟨w.heap.size, 4, none⟩ = some (.slice la c.l.length lc) ∧ W'.cell? ⟨w.heap.size + 1, 0, none⟩ = some (.int .i64 s0) ∧ W'.cell? ⟨w.heap.size + 1, 1, none⟩ = some (.int .i64 s1)))
        (first | assumption | with_reducible exact HD7.out | with_reducible exact HALL.out _ (bl_then (And.left (by assumption)) hb9))
        (first
          | (go_at_call 14; (with_reducible refine (HCA.out _ (And.left (by assumption))).mono ?_); rintro e w8 ⟨rfl, hb9⟩)
          | (go_at_call 15; (with_reducible refine (HCR.out _ (And.left (by assumption))).mono ?_); rintro e w8 ⟨rfl, hb9⟩))
      all_goals
        go_wp2
        go_ret
        exact ⟨rfl, bl_then HB4.out (And.left (by assumption))⟩
end Go.Proofs.Ytkbanngbchhgaaa
