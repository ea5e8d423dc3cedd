/- THE WALK of IrunRights. -/
import Derived.Test.YtmglmbeconndhaaIAwake
import Derived.Test.YtmglmbeconndhaaILight
import Derived.Test.YtmglmbeconndhaaIRRight
namespace Go.Proofs.Ytmglmbeconndhaa
open Go.ChangeShapes Go.WideShapes Go.ChangeAt Go.RowKit

theorem co_one' {w : World} {S : Nat → Prop} {b : Nat} {c : Co} {pa la : Option Addr} {pc lc : Nat} (hin : CoIn w S c pa pc la lc) (hS : S b) (h : w.heap[b]? = some (coO c pa pc la lc)) : kCo.row w S (some ⟨b, 0, none⟩) [c] :=
  kCo.lay_row (S := S) (fun _ h => h) b hS 0 ⟨coCells c pa pc la lc, [], rfl, ⟨pa, pc, la, lc, rfl, hin⟩, rfl⟩ (cells_of h)
theorem coIn_bl' {w w' : World} {c : Co} {pa la : Option Addr} {pc lc : Nat} (hin : CoIn w (fun _ => True) c pa pc la lc) (hb : Below w.heap.size w w') : CoIn w' (fun _ => True) c pa pc la lc := hin.mono fun b _ hlt => ⟨trivial, hb.block b hlt⟩
theorem light_one {c : Co} (h : lightB [c] = true) : c.ps.length ≤ 20 ∧ c.l.length ≤ 3000 := by
  simp only [lightB, List.all_cons, List.all_nil, Bool.and_true, Bool.and_eq_true, coLight, coLight0, decide_eq_true_eq] at h
  omega
set_option maxRecDepth 100000 in
set_option maxHeartbeats 4000000 in
theorem rights_walk {B : Nat} (c : Co) (pa : Option Addr) (pc : Nat) (la : Option Addr) (lc : Nat) (w : World) (hg : Glob B w) (hin : CoIn w (fun _ => True) c pa pc la lc) :
    Calls Try.prog 3 #[coV c pa pc la lc] w fun e w' => e = .returned (.bool true) ∧ Below w.heap.size w w' := by
  have hx0 := heap_alloc_new w (coO c pa pc la lc)
  have hB0 := bl_alloc (Below.refl w.heap.size w) (coO c pa pc la lc)
  unfold coV
  go_enter Try.func3, Try.ntmps3
  go_upto_region 2 with (first | (go_at_call 10; refine (awake_any _ (hg.alloc _)).mono ?_; rintro e w2 ⟨rfl, hb2⟩))
  have hB2 := bl_then hB0 hb2
  have hX2 : w2.heap[w.heap.size]? = some (coO c pa pc la lc) := (hb2.block _ (lt_of_some hx0)).trans hx0
  have hlt2 := lt_of_some hX2
  have hrow3 : kCo.row (w2.alloc (coO c pa pc la lc)) (fun _ => True) (some ⟨w2.heap.size, 0, none⟩) [c] := co_one' (coIn_bl' hin (bl_alloc hB2 _)) trivial (heap_alloc_new w2 _)
  have hli := light_any _ _ [c] 1 hrow3
  have hB3 := bl_alloc hB2 (coO c pa pc la lc)
  have hX3 : (w2.alloc (coO c pa pc la lc)).heap[w.heap.size]? = some (coO c pa pc la lc) := (heap_alloc_old w2 _ hlt2).trans hX2
  obtain ⟨k0, k1, k2, k3, k4⟩ := co_block hX2
  have HX : Hid _ := hX3
  have HB : Hid _ := hB3
  clear hx0 hB0 hb2 hB2 hX2 hlt2 hrow3 hB3 hX3
  rcases nL : lightB [c] with _ | _ <;> rw [nL] at hli
  · go_upto_region 3 with (first | (go_at_call 11; refine hli.mono ?_; rintro e w4 ⟨rfl, hb4⟩))
    have hB4 := Lib.hid (bl_then HB.out hb4)
    clear hb4 hli
    go_wp2
    go_ret
    exact ⟨rfl, hB4.out⟩
  obtain ⟨-, hok1⟩ := light_all nL
  obtain ⟨l1, l2⟩ := light_one nL
  have hok : CoOk c := hok1 c (by simp)
  go_upto_region 5 with (first | (go_at_call 11; refine hli.mono ?_; rintro e w4 ⟨rfl, hb4⟩))
  have hB4 := bl_then HB.out hb4
  have hX4 : w4.heap[w.heap.size]? = some (coO c pa pc la lc) := (hb4.block _ (lt_of_some HX.out)).trans HX.out
  obtain ⟨k0, k1, k2, k3, k4⟩ := co_block hX4
  have hri := right_any c pa pc la lc w4 (coIn_bl' hin hB4) hok (hg.below hB4)
  unfold coV at hri
  have HX4 : Hid _ := hX4
  have HB4 : Hid _ := hB4
  clear hX4 hB4 hb4 hli HX HB
  go_upto_region 6 with (first | (go_at_call 12; refine hri.mono ?_; rintro e w5 ⟨rfl, hb5⟩))
  have hB5 := bl_then HB4.out hb5
  have hX5 : w5.heap[w.heap.size]? = some (coO c pa pc la lc) := (hb5.block _ (lt_of_some HX4.out)).trans HX4.out
  obtain ⟨k0, k1, k2, k3, k4⟩ := co_block hX5
  have hrr := refRight_any c pa pc la lc w5 (coIn_bl' hin hB5) hok (by omega) (by omega)
  unfold coV at hrr
  have HB5 : Hid _ := hB5
  clear hX5 hB5 hb5 hri HX4 HB4
  go_upto_region 7 with (first | (go_at_call 13; refine hrr.mono ?_; rintro e w6 ⟨rfl, hb6⟩))
  go_wp2
  go_ret
  exact ⟨rfl, bl_then HB5.out hb6⟩
end Go.Proofs.Ytmglmbeconndhaa
