/- THE WALK of FoldTells. -/
import Derived.Test.YtclajapdbphlbaaGAwake
import Derived.Test.YtclajapdbphlbaaGSame
import Derived.Test.YtclajapdbphlbaaGRFold
namespace Go.Proofs.Ytclajapdbphlbaa
open Go.ChangeShapes Go.WideShapes Go.ChangeAt Go.RowKit

theorem foldT_light {c : Co} (h1 : c.ps.length ≤ 20) (h2 : c.l.length ≤ 3000) (h4 : ∀ z ∈ c.l, z.args.length ≤ 20) : (foldT c).1.l.length ≤ 3000 ∧ (foldT c).1.ps.length ≤ 20 ∧ ∀ z ∈ (foldT c).1.l, z.args.length ≤ 20 := by
  by_cases hr : (rightR c).1 = 0
  · rw [foldT_ok hr]
    refine ⟨by show (foldL c.l).length ≤ _; rw [foldL_len]; exact h2, h1, fun z hz => ?_⟩
    obtain ⟨y, hy, K, rfl⟩ := foldL_mem hz
    exact (foldX_args K (h4 y hy)).1
  · rw [foldT_no hr]
    exact ⟨by simp [noCo], by simp [noCo], fun z hz => by simp [noCo] at hz⟩
set_option maxRecDepth 100000 in
set_option maxHeartbeats 8000000 in
theorem tells_walk {B : Nat} (c : Co) (pa : Option Addr) (pc : Nat) (la : Option Addr) (lc : Nat) (w : World) (hg : Glob B w) (hin : CoIn w (fun _ => True) c pa pc la lc) :
    Calls Try.prog 3 #[coV c pa pc la lc] w fun e w' => e = .returned (.bool true) ∧ Below w.heap.size w w' := by
  have hx0 := heap_alloc_new w (coO c pa pc la lc)
  have hB0 := bl_alloc (Below.refl w.heap.size w) (coO c pa pc la lc)
  unfold coV
  go_enter Try.func3, Try.ntmps3
  go_upto_region 2 with (first | (go_at_call 10; refine (awake9_any _ (hg.alloc _)).mono ?_; rintro e w2 ⟨rfl, hb2⟩))
  have hB2 := bl_then hB0 hb2
  have hX2 : w2.heap[w.heap.size]? = some (coO c pa pc la lc) := (hb2.block _ (lt_of_some hx0)).trans hx0
  have hlt2 := lt_of_some hX2
  have hrow3 : kCo.row (w2.alloc (coO c pa pc la lc)) (fun _ => True) (some ⟨w2.heap.size, 0, none⟩) [c] := co_oneG (coIn_on hin (bl_alloc hB2 _)) trivial (heap_alloc_new w2 _)
  have hli := light_any _ _ [c] 1 hrow3
  have hB3 := bl_alloc hB2 (coO c pa pc la lc)
  have hX3 : (w2.alloc (coO c pa pc la lc)).heap[w.heap.size]? = some (coO c pa pc la lc) := (heap_alloc_old w2 _ hlt2).trans hX2
  obtain ⟨k0, k1, k2, k3, k4⟩ := co_block hX2
  have HX : Hid _ := hX3
  have HB : Hid _ := hB3
  clear hx0 hB0 hb2 hB2 hX2 hlt2 hrow3 hB3 hX3
  rcases nL : lightB [c] with _ | _ <;> rw [nL] at hli
  · go_upto_region 3 with (first | (go_at_call 11; refine hli.mono ?_; rintro e w4 ⟨rfl, hb4⟩))
    have hB4 := Lib.hid (bl_then HB.out hb4)
    clear hb4 hli
    go_wp2
    go_ret
    exact ⟨rfl, hB4.out⟩
  obtain ⟨l1, l2, hok, l4⟩ := light_oneG nL
  go_upto_region 3 with (first | (go_at_call 11; refine hli.mono ?_; rintro e w4 ⟨rfl, hb4⟩))
  have hB4 := bl_then HB.out hb4
  have hX4 : w4.heap[w.heap.size]? = some (coO c pa pc la lc) := (hb4.block _ (lt_of_some HX.out)).trans HX.out
  obtain ⟨k0, k1, k2, k3, k4⟩ := co_block hX4
  have HX4 : Hid _ := hX4
  have HB4 : Hid _ := hB4
  clear hX4 hB4 hb4 hli HX HB
  by_cases h300 : 300 < c.l.length
  · have h300' : (300 : Int) < (c.l.length : Int) := by omega
    go_wp2
    go_ret
    exact ⟨rfl, HB4.out⟩
  have h300' : ¬ (300 : Int) < (c.l.length : Int) := by omega
  have hfo := fold_any c pa pc la lc w4 (coIn_on hin HB4.out) hok (hg.below HB4.out)
  have hrf : ∀ w', Below w4.heap.size w4 w' → Calls Try.prog 13 #[coV c pa pc la lc] w' fun e w'' => RefPost w' c e w'' := fun w' hb => refFold_any c pa pc la lc w' (coIn_on hin (bl_then HB4.out hb)) hok (by omega) (by omega)
  obtain ⟨t1, t2, t3⟩ := foldT_light l1 l2 l4
  unfold FoldPost coV at hfo
  unfold RefPost coV at hrf
  have HRF : Hid _ := hrf
  generalize (foldT c).1 = d at hfo HRF t1 t2 t3
  generalize (foldT c).2 = er at hfo HRF
  clear hrf
  go_upto_region 6 with (first | (go_at_call 12; refine hfo.mono ?_; rintro e w5 ⟨qa, qc, ra, rc, rfl, hin5, hb5⟩))
  have hx6 := heap_alloc_new w5 (.cells #[.string (bs d.name), .slice qa d.ps.length qc, .int .i64 d.regs, .int .i64 d.cells, .slice ra d.l.length rc] 25)
  have hbb := bl_alloc (Below.refl w5.heap.size w5) (.cells #[.string (bs d.name), .slice qa d.ps.length qc, .int .i64 d.regs, .int .i64 d.cells, .slice ra d.l.length rc] 25)
  have hX6 := ((bl_then hb5 hbb).block _ (lt_of_some HX4.out)).trans HX4.out
  have hb46 := bl_then hb5 hbb
  have hin6 := coIn_on hin5 hbb
  generalize World.alloc w5 _ = w6 at hx6 hX6 hb46 hin6 ⊢
  have hr6 := HRF.out w6 hb46
  obtain ⟨k0, k1, k2, k3, k4⟩ := co_block hX6
  have HX6 : Hid _ := hX6
  have HY6 : Hid _ := hx6
  have HB6 : Hid _ := bl_then HB4.out hb46
  have HI6 : Hid _ := hin6
  clear hfo hin5 hb5 hbb hx6 hX6 hb46 hin6 HRF HX4 HB4
  go_upto_region 7 with (first | (go_at_call 13; refine hr6.mono ?_; rintro e w7 ⟨qa2, qc2, ra2, rc2, rfl, hin7, hb7⟩))
  have hx8 := heap_alloc_new w7 (.cells #[.string (bs d.name), .slice qa2 d.ps.length qc2, .int .i64 d.regs, .int .i64 d.cells, .slice ra2 d.l.length rc2] 25)
  have hbb := bl_alloc (Below.refl w7.heap.size w7) (.cells #[.string (bs d.name), .slice qa2 d.ps.length qc2, .int .i64 d.regs, .int .i64 d.cells, .slice ra2 d.l.length rc2] 25)
  have hX8 := ((bl_then hb7 hbb).block _ (lt_of_some HX6.out)).trans HX6.out
  have hY8 := ((bl_then hb7 hbb).block _ (lt_of_some HY6.out)).trans HY6.out
  have hb8 := bl_then HB6.out (bl_then hb7 hbb)
  have hin8 := coIn_on hin7 hbb
  have hiz8 := coIn_on HI6.out (bl_then hb7 hbb)
  generalize World.alloc w7 _ = w8 at hx8 hX8 hY8 hb8 hin8 hiz8 ⊢
  have hsm := same7_any d d qa qc ra rc qa2 qc2 ra2 rc2 w8 hiz8 hin8 (by omega) (by omega) (fun z hz => by have := t3 z hz; omega)
  rw [decide_eq_true rfl] at hsm
  unfold coV at hsm
  obtain ⟨k0, k1, k2, k3, k4⟩ := five hY8
  obtain ⟨j0, j1, j2, j3, j4⟩ := five hx8
  have HX8 : Hid _ := hX8
  have HB8 : Hid _ := hb8
  clear hr6 hin7 hb7 hbb hx8 hX8 hY8 hb8 hin8 hiz8 HX6 HB6 HY6 HI6
  go_upto_region 8 with (first | (go_at_call 14; refine hsm.mono ?_; rintro e w9 ⟨rfl, hb9⟩))
  have HX9 : Hid _ := (hb9.block _ (lt_of_some HX8.out)).trans HX8.out
  have HB9 : Hid _ := bl_then HB8.out hb9
  clear hsm hb9 HX8 HB8 k0 k1 k2 k3 k4 j0 j1 j2 j3 j4
  obtain ⟨k0, k1, k2, k3, k4⟩ := co_block HX9.out
  have hrow9 := (coIn_on hin HB9.out).l
  go_wp2
  go_loop [10, 11] (fun n i => ∃ k : Nat, k ≤ c.l.length ∧ i = .int .i64 k ∧ n = .int .i64 (cnt (c.l.take k) : Nat)) (fun _ i => c.l.length - (intOf i).toNat)
  case atStart => exact ⟨0, Nat.zero_le _, rfl, rfl⟩
  case round =>
    obtain ⟨k, hk, rfl, rfl⟩ := hrel
    by_cases hlt : k < c.l.length
    · obtain ⟨b, o, ga, gc, rfl, _, hb, hia, _, _, _⟩ := ir_at hrow9 k hlt
      obtain ⟨e0, e1, e2, e3, e4, e5, e6, e7, e8⟩ := hia
      have HC : Hid _ := cnt_take c.l k hlt
      have hcl : cnt (c.l.take k) ≤ k := Nat.le_trans (cnt_le _) (List.length_take_le _ _)
      generalize c.l[k] = y at e0 HC
      have hk0 : (0 : Int) ≤ (k : Int) := by omega
      have hk1 : (k : Int) < (c.l.length : Int) := by omega
      clear e1 e2 e3 e4 e5 e6 e7 e8
      by_cases h1 : y.kind = 1
      · have HD : Hid (cnt (c.l.take (k + 1)) = cnt (c.l.take k) + 1) := by show _ = _; rw [HC.out, if_pos h1]
        go_wp2_with fail
        go_round
        case rel => exact ⟨k + 1, by omega, by go_num, by rw [HD.out]; go_num⟩
        case measure => simp [intOf]; omega
      · have h1' : (y.kind == 1) = false := by simpa using h1
        have HD : Hid (cnt (c.l.take (k + 1)) = cnt (c.l.take k)) := by show _ = _; rw [HC.out, if_neg h1]; rfl
        go_wp2_with fail
        go_round
        case rel => exact ⟨k + 1, by omega, by go_num, by rw [HD.out]⟩
        case measure => simp [intOf]; omega
    · have hNN : cnt (c.l.take k) = cnt c.l := by rw [List.take_of_length_le (by omega)]
      rw [hNN]
      have hkn := known_any c pa pc la lc w9 hrow9 (by omega)
      clear hNN
      generalize cnt c.l = nn at hkn ⊢
      go_wp2_with (first | (go_at_call 15; refine hkn.mono ?_; rintro e w10 ⟨rfl, hb10⟩))
      go_ret
      exact ⟨rfl, bl_then HB9.out hb10⟩
end Go.Proofs.Ytclajapdbphlbaa
