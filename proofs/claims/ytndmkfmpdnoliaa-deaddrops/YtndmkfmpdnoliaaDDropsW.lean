/- THE WALK of DeadDrops. -/
import Derived.Test.YtndmkfmpdnoliaaDAwake
import Derived.Test.YtndmkfmpdnoliaaDRDrop
import Derived.Test.YtndmkfmpdnoliaaGSame
namespace Go.Proofs.Ytndmkfmpdnoliaa
open Go.ChangeShapes Go.WideShapes Go.ChangeAt Go.RowKit

theorem dropT_small {c : Co} (hok : CoOk c) (hl : c.l.length ≤ 3000) (hp : c.ps.length ≤ 20) : (dropT c).1.l.length ≤ 1000000 ∧ (dropT c).1.ps.length ≤ 1000000 ∧ ∀ z ∈ (dropT c).1.l, z.args.length ≤ 1000000 := by
  unfold dropT
  split
  · have hfl := free_le c.l
    exact ⟨by show (freeL c.l).length ≤ _; omega, by show c.ps.length ≤ _; omega, fun z hz => ((dropC_ok hok).ins z hz).2⟩
  · exact ⟨Nat.zero_le _, Nat.zero_le _, fun z hz => by simp [noCo] at hz⟩
set_option maxRecDepth 100000 in
set_option maxHeartbeats 8000000 in
theorem dead_drops {B : Nat} (c : Co) (pa : Option Addr) (pc : Nat) (la : Option Addr) (lc : Nat) (w : World) (hg : Glob B w) (hin : CoIn w (fun _ => True) c pa pc la lc) (hd64 : D64 c.l) :
    Calls Try.prog 4 #[coV c pa pc la lc] w fun e w' => e = .returned (.bool true) ∧ Below w.heap.size w w' := by
  have hx0 := heap_alloc_new w (coO c pa pc la lc)
  have hB0 := bl_alloc (Below.refl w.heap.size w) (coO c pa pc la lc)
  unfold coV
  go_enter Try.func4, Try.ntmps4
  go_upto_region 2 with (first | (go_at_call 16; refine (awake10_any _ (hg.alloc _)).mono ?_; rintro e w2 ⟨rfl, hb2⟩))
  have hB2 := bl_then hB0 hb2
  have hX2 : w2.heap[w.heap.size]? = some (coO c pa pc la lc) := (hb2.block _ (lt_of_some hx0)).trans hx0
  have hlt2 := lt_of_some hX2
  have hrow3 : kCo.row (w2.alloc (coO c pa pc la lc)) (fun _ => True) (some ⟨w2.heap.size, 0, none⟩) [c] := co_oneG (coIn_on hin (bl_alloc hB2 _)) trivial (heap_alloc_new w2 _)
  have hli := light_any _ _ [c] 1 hrow3
  have hB3 := bl_alloc hB2 (coO c pa pc la lc)
  have hX3 : (w2.alloc (coO c pa pc la lc)).heap[w.heap.size]? = some (coO c pa pc la lc) := (heap_alloc_old w2 _ hlt2).trans hX2
  obtain ⟨k0, k1, k2, k3, k4⟩ := co_block hX2
  have HX : Hid _ := hX3
  have HB : Hid _ := hB3
  clear hx0 hB0 hb2 hB2 hX2 hlt2 hrow3 hB3 hX3
  rcases nL : lightB [c] with _ | _ <;> rw [nL] at hli
  · go_upto_region 3 with (first | (go_at_call 11; refine hli.mono ?_; rintro e w4 ⟨rfl, hb4⟩))
    have hB4 := Lib.hid (bl_then HB.out hb4)
    clear hb4 hli
    go_wp2
    go_ret
    exact ⟨rfl, hB4.out⟩
  obtain ⟨l1, l2, hok, l4⟩ := light_oneG nL
  go_upto_region 3 with (first | (go_at_call 11; refine hli.mono ?_; rintro e w4 ⟨rfl, hb4⟩))
  have HB4 : Hid _ := bl_then HB.out hb4
  have HX4 : Hid (w4.heap[w.heap.size]? = some (coO c pa pc la lc)) := (hb4.block _ (lt_of_some HX.out)).trans HX.out
  obtain ⟨k0, k1, k2, k3, k4⟩ := five HX4.out
  clear hb4 hli HX HB
  by_cases hlen : (400 : Int) < (c.l.length : Int)
  · go_wp2
    go_ret
    exact ⟨rfl, HB4.out⟩
  have hdr := drop_any c pa pc la lc w4 (coIn_on hin HB4.out) hok hd64 (hg.below HB4.out)
  have hrr := fun (W : World) (hW : Below w.heap.size w W) => refDrop_any c pa pc la lc W (coIn_on hin hW) hok hd64 (by omega) (by omega)
  obtain ⟨n1, n2, n3⟩ := dropT_small hok l2 l1
  unfold coV at hdr
  unfold DropPost coV at hdr
  unfold RDropPost coV at hrr
  generalize (dropT c).1 = r at hdr hrr n1 n2 n3
  generalize (dropT c).2 = er at hdr hrr
  go_upto_region 6 with (first | (go_at_call 17; refine hdr.mono ?_; rintro e w5 ⟨qa, qc, ra, rc, rfl, hi5, hb5⟩))
  have hx6 := heap_alloc_new w5 (coO r qa qc ra rc)
  have hbb := bl_alloc (Below.refl w5.heap.size w5) (coO r qa qc ra rc)
  have hX6 := ((bl_then hb5 hbb).block _ (lt_of_some HX4.out)).trans HX4.out
  have HI6 : Hid _ := coIn_on hi5 hbb
  have HB6 : Hid _ := bl_then HB4.out (bl_then hb5 hbb)
  obtain ⟨b1, hb1⟩ : ∃ b1, w5.heap.size = b1 := ⟨_, rfl⟩
  generalize World.alloc w5 _ = w6 at hx6 hX6 HI6 HB6 ⊢
  rw [hb1] at hx6 ⊢
  have HX6 : Hid _ := hx6
  have hr6 := hrr w6 HB6.out
  obtain ⟨k0, k1, k2, k3, k4⟩ := five hX6
  clear hdr hrr hb5 hi5 hbb hx6 hX6
  go_upto_region 7 with (first | (go_at_call 18; refine hr6.mono ?_; rintro e w7 ⟨qa2, qc2, ra2, rc2, rfl, hi7, hb7⟩))
  have hx8 := heap_alloc_new w7 (coO r qa2 qc2 ra2 rc2)
  have hbb := bl_alloc (Below.refl w7.heap.size w7) (coO r qa2 qc2 ra2 rc2)
  have hX8 := ((bl_then hb7 hbb).block _ (lt_of_some HX6.out)).trans HX6.out
  have hi8 := coIn_on HI6.out (bl_then hb7 hbb)
  have hj8 := coIn_on hi7 hbb
  have HB8 : Hid _ := bl_then HB6.out (bl_then hb7 hbb)
  generalize World.alloc w7 _ = w8 at hx8 hX8 hi8 hj8 HB8 ⊢
  have hsm := same7_any r r qa qc ra rc qa2 qc2 ra2 rc2 w8 hi8 hj8 n1 n2 n3
  rw [decide_eq_true rfl] at hsm
  unfold coV at hsm
  have hee : (er == er) = true := beq_self_eq_true _
  obtain ⟨i0, i1, i2, i3, i4⟩ := five hX8
  obtain ⟨j0, j1, j2, j3, j4⟩ := five hx8
  clear hr6 hb7 hi7 hbb hi8 hj8 hx8 hX8
  go_wp2_with (first | (go_at_call 19; refine hsm.mono ?_; rintro e w9 ⟨rfl, hb9⟩))
  go_ret
  exact ⟨rfl, bl_then HB8.out hb9⟩
end Go.Proofs.Ytndmkfmpdnoliaa
