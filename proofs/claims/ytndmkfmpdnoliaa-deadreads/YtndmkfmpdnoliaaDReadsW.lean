/- THE WALK of DeadReads. -/
import Derived.Test.YtndmkfmpdnoliaaDAwake
import Derived.Test.YtndmkfmpdnoliaaDRRead
import Derived.Test.YtndmkfmpdnoliaaISame
import Derived.Deep.QuietTactic
namespace Go.Proofs.Ytndmkfmpdnoliaa
open Go.ChangeShapes Go.WideShapes Go.ChangeAt Go.RowKit

theorem drewB (w : World) : Below w.heap.size w w.drew := ⟨rfl, rfl, rfl, Nat.le_refl _, fun _ _ => rfl⟩
theorem readM_short (c : Co) (n : Int) : (readM c n).length ≤ 10000 := by
  unfold readM
  split
  · rename_i h
    have hr := (form_parts (right_form h.1)).2.2.2.2.2.2.1
    have := rising_len c.regs.toNat (rdL (c.l.drop n.toNat)); omega
  · simp
set_option maxRecDepth 100000 in
set_option maxHeartbeats 8000000 in
theorem dead_reads {B : Nat} (c : Co) (pa : Option Addr) (pc : Nat) (la : Option Addr) (lc : Nat) (n : Int) (w : World) (hg : Glob B w) (hin : CoIn w (fun _ => True) c pa pc la lc) (hd64 : D64 c.l) :
    Calls Try.prog 5 #[coV c pa pc la lc, .int .i64 n] w fun e w' => e = .returned (.bool true) ∧ Below w.heap.size w w' := by
  have hx0 := heap_alloc_new w (coO c pa pc la lc)
  have hB0 := bl_alloc (Below.refl w.heap.size w) (coO c pa pc la lc)
  unfold coV
  go_enter Try.func5, Try.ntmps5
  go_upto_region 2 with (first | (go_at_call 16; refine (awake10_any _ (hg.alloc _)).mono ?_; rintro e w2 ⟨rfl, hb2⟩))
  have hB2 := bl_then hB0 hb2
  have hX2 : w2.heap[w.heap.size]? = some (coO c pa pc la lc) := (hb2.block _ (lt_of_some hx0)).trans hx0
  have hlt2 := lt_of_some hX2
  have hrow3 : kCo.row (w2.alloc (coO c pa pc la lc)) (fun _ => True) (some ⟨w2.heap.size, 0, none⟩) [c] := co_oneG (coIn_on hin (bl_alloc hB2 _)) trivial (heap_alloc_new w2 _)
  have hli := light_any _ _ [c] 1 hrow3
  have hB3 := bl_alloc hB2 (coO c pa pc la lc)
  have hX3 : (w2.alloc (coO c pa pc la lc)).heap[w.heap.size]? = some (coO c pa pc la lc) := (heap_alloc_old w2 _ hlt2).trans hX2
  obtain ⟨k0, k1, k2, k3, k4⟩ := co_block hX2
  have HX : Hid _ := hX3
  have HB : Hid _ := hB3
  clear hx0 hB0 hb2 hB2 hX2 hlt2 hrow3 hB3 hX3
  rcases nL : lightB [c] with _ | _ <;> rw [nL] at hli
  · go_upto_region 3 with (first | (go_at_call 11; refine hli.mono ?_; rintro e w4 ⟨rfl, hb4⟩))
    have hB4 := Lib.hid (bl_then HB.out hb4)
    clear hb4 hli
    go_wp2
    go_ret
    exact ⟨rfl, hB4.out⟩
  obtain ⟨l1, l2, hok, l4⟩ := light_oneG nL
  go_upto_region 3 with (first | (go_at_call 11; refine hli.mono ?_; rintro e w4 ⟨rfl, hb4⟩))
  have HB4 : Hid _ := bl_then HB.out hb4
  have HX4 : Hid (w4.heap[w.heap.size]? = some (coO c pa pc la lc)) := (hb4.block _ (lt_of_some HX.out)).trans HX.out
  obtain ⟨k0, k1, k2, k3, k4⟩ := five HX4.out
  clear hb4 hli HX HB
  by_cases hlen : (300 : Int) < (c.l.length : Int)
  · go_wp2
    go_ret
    exact ⟨rfl, HB4.out⟩
  by_cases hreg : 300 < c.regs
  · go_wp2
    go_ret
    exact ⟨rfl, HB4.out⟩
  have HRA := fun (W : World) (hW : Below w.heap.size w W) => read_any c pa pc la lc n W (coIn_on hin hW) hok hd64 (hg.below hW)
  have HRD := fun (W : World) (hW : Below w.heap.size w W) => refRead_any c pa pc la lc n W (coIn_on hin hW) hok (by omega) (by omega)
  have hsh := readM_short c n
  unfold coV at HRA
  generalize readM c n = R at HRA HRD hsh
  have HRA2 : Hid _ := HRA
  have HRD2 : Hid _ := HRD
  have HG4 : Hid (∀ W, Below w4.heap.size w4 W → Below w.heap.size w W ∧ W.heap[w.heap.size]? = some (coO c pa pc la lc)) := fun W hW => ⟨bl_then HB4.out hW, (hW.block _ (lt_of_some HX4.out)).trans HX4.out⟩
  clear HRA HRD
  go_upto_region 5 with fail
  go_region_law ((first
    | (refine step_call rfl 20 _ _ rfl #[.agg #[.string (bs c.name), .slice pa c.ps.length pc, .int .i64 c.regs, .int .i64 c.cells, .slice la c.l.length lc], .int .i64 n] (by simp [go_sem, Act.eval]) ?_; refine (HRA2.out _ (bl_then HB4.out (drewB w4))).mono ?_; rintro e w5 ⟨⟨v5, rfl, a5, c5, rfl, hr5, hc5⟩, hb5⟩; have HR5 := Lib.hid hr5; have HB45 : Hid (Below w4.heap.size w4 w5) := bl_then (drewB w4) hb5; have HB5 := Lib.hid (HG4.out _ HB45.out).1; obtain ⟨k0, k1, k2, k3, k4⟩ := five (HG4.out _ HB45.out).2; clear hr5 hb5)
    | (refine step_call rfl 21 _ _ rfl #[.agg #[.string (bs c.name), .slice pa c.ps.length pc, .int .i64 c.regs, .int .i64 c.cells, .slice la c.l.length lc], .int .i64 n] (by simp [go_sem, Act.eval]) ?_; refine (HRD2.out _ HB5.out).mono ?_; rintro e w6 ⟨⟨v6, rfl, a6, c6, rfl, hr6, hc6⟩, hb6⟩; have HR6 := Lib.hid hr6; have HR56 := Lib.hid (kInt.row_mono (T := fun _ => True) (by decide) HR5.out fun j _ hlt => ⟨trivial, hb6.block j hlt⟩); have HB6 := Lib.hid (bl_then HB5.out hb6); clear hr6 hb6)
    | (refine step_call rfl 15 _ _ rfl #[.slice a5 R.length c5, .slice a6 R.length c6] (by simp [go_sem, Act.eval]) ?_; refine (sameInts_any _ a5 a6 R c5 c6 HR56.out HR6.out (by omega)).mono ?_; rintro e w7 ⟨rfl, hb7⟩)))
  all_goals
    go_wp2_with fail
    go_ret
    exact ⟨rfl, bl_then HB6.out hb7⟩
end Go.Proofs.Ytndmkfmpdnoliaa
