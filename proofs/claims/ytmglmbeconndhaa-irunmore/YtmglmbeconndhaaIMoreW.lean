/- THE WALK of IrunMore. -/
import Derived.Test.YtmglmbeconndhaaIAwake
import Derived.Test.YtmglmbeconndhaaIMoreM
import Derived.Test.YtmglmbeconndhaaILight
import Derived.Test.YtmglmbeconndhaaISame
import Derived.Test.YtmglmbeconndhaaIBd
namespace Go.Proofs.Ytmglmbeconndhaa
open Go.ChangeShapes Go.WideShapes Go.ChangeAt Go.RowKit

theorem co_one {w : World} {S : Nat → Prop} {b : Nat} {c : Co} {pa la : Option Addr} {pc lc : Nat} (hin : CoIn w S c pa pc la lc) (hS : S b) (h : w.heap[b]? = some (coO c pa pc la lc)) : kCo.row w S (some ⟨b, 0, none⟩) [c] :=
  kCo.lay_row (S := S) (fun _ h => h) b hS 0 ⟨coCells c pa pc la lc, [], rfl, ⟨pa, pc, la, lc, rfl, hin⟩, rfl⟩ (cells_of h)
theorem coIn_bl {w w' : World} {c : Co} {pa la : Option Addr} {pc lc : Nat} (hin : CoIn w (fun _ => True) c pa pc la lc) (hb : Below w.heap.size w w') : CoIn w' (fun _ => True) c pa pc la lc := hin.mono fun b _ hlt => ⟨trivial, hb.block b hlt⟩
theorem wd_bl {w w' : World} {a : Option Addr} {l : List Nat} (h : kWd.row w (fun _ => True) a l) (hb : Below w.heap.size w w') : kWd.row w' (fun _ => True) a l := kWd.row_mono (by decide) h fun b _ hlt => ⟨trivial, hb.block b hlt⟩
theorem coIn_ext {w : World} {S : Nat → Prop} {c : Co} {pa la : Option Addr} {pc lc : Nat} (h : CoIn w S c pa pc la lc) : CoIn w S (extC c) pa pc la lc := ⟨h.pc, h.lc, h.ps, h.l⟩
set_option maxRecDepth 100000 in
set_option maxHeartbeats 4000000 in
theorem more_walk {B : Nat} (c : Co) (pa : Option Addr) (pc : Nat) (la : Option Addr) (lc : Nat) (a : Option Addr) (l : List Nat) (ac : Nat) (w : World) (hg : Glob B w) (hin : CoIn w (fun _ => True) c pa pc la lc) (har : kWd.row w (fun _ => True) a l) (hac : l.length ≤ ac) :
    Calls Try.prog 5 #[coV c pa pc la lc, .slice a l.length ac] w fun e w' => e = .returned (.bool true) ∧ Below w.heap.size w w' := by
  have hx0 := heap_alloc_new w (coO c pa pc la lc)
  have hB0 := bl_alloc (Below.refl w.heap.size w) (coO c pa pc la lc)
  unfold coV
  go_enter Try.func5, Try.ntmps5
  go_upto_region 2 with (first | (go_at_call 10; refine (awake_any _ (hg.alloc _)).mono ?_; rintro e w2 ⟨rfl, hb2⟩))
  have hB2 := bl_then hB0 hb2
  have hX2 : w2.heap[w.heap.size]? = some (coO c pa pc la lc) := (hb2.block _ (lt_of_some hx0)).trans hx0
  have hlt2 := lt_of_some hX2
  have hrow3 : kCo.row (w2.alloc (coO c pa pc la lc)) (fun _ => True) (some ⟨w2.heap.size, 0, none⟩) [c] := co_one (coIn_bl hin (bl_alloc hB2 _)) trivial (heap_alloc_new w2 _)
  have hli := light_any _ _ [c] 1 hrow3
  have hB3 := bl_alloc hB2 (coO c pa pc la lc)
  have hX3 : (w2.alloc (coO c pa pc la lc)).heap[w.heap.size]? = some (coO c pa pc la lc) := (heap_alloc_old w2 _ hlt2).trans hX2
  obtain ⟨k0, k1, k2, k3, k4⟩ := co_block hX2
  have HX : Hid _ := hX3
  have HB : Hid _ := hB3
  clear hx0 hB0 hb2 hB2 hX2 hlt2 hrow3 hB3 hX3
  rcases nL : lightB [c] with _ | _ <;> rw [nL] at hli
  · go_upto_region 3 with (first | (go_at_call 11; refine hli.mono ?_; rintro e w4 ⟨rfl, hb4⟩))
    have hB4 := Lib.hid (bl_then HB.out hb4)
    obtain ⟨k0, k1, k2, k3, k4⟩ := co_block ((hb4.block _ (lt_of_some HX.out)).trans HX.out)
    clear hb4 hli
    go_wp2
    go_ret
    exact ⟨rfl, hB4.out⟩
  obtain ⟨-, hok1⟩ := light_all nL
  have hok : CoOk c := hok1 c (by simp)
  go_upto_region 3 with (first | (go_at_call 11; refine hli.mono ?_; rintro e w4 ⟨rfl, hb4⟩))
  have hB4 := bl_then HB.out hb4
  have hX4 : w4.heap[w.heap.size]? = some (coO c pa pc la lc) := (hb4.block _ (lt_of_some HX.out)).trans HX.out
  obtain ⟨k0, k1, k2, k3, k4⟩ := co_block hX4
  have HX4 : Hid _ := hX4
  have HB4 : Hid _ := hB4
  clear hX4 hB4 hb4 hli HX HB
  by_cases h1 : 200 < l.length
  · have h1' : (200 : Int) < (l.length : Int) := by omega
    go_wp2
    go_ret
    exact ⟨rfl, HB4.out⟩
  have h1' : ¬ (200 : Int) < (l.length : Int) := by omega
  by_cases h2 : 9000 < c.regs
  · go_wp2
    go_ret
    exact ⟨rfl, HB4.out⟩
  by_cases h3 : 4000 < c.cells
  · go_wp2
    go_ret
    exact ⟨rfl, HB4.out⟩
  have hri := right_any c pa pc la lc w4 (coIn_bl hin HB4.out) hok (hg.below HB4.out)
  unfold coV at hri
  by_cases h4 : (rightR c).1 = 0
  · go_upto_region 6 with (first | (go_at_call 12; refine hri.mono ?_; rintro e w5 ⟨rfl, hb5⟩))
    have hB5 := bl_then HB4.out hb5
    have hX5 : w5.heap[w.heap.size]? = some (coO c pa pc la lc) := (hb5.block _ (lt_of_some HX4.out)).trans HX4.out
    obtain ⟨k0, k1, k2, k3, k4⟩ := co_block hX5
    have hform := formB_parts (right_form h4)
    have hrg0 : 0 ≤ c.regs := by have := hform.2.2.2.2.2.1; omega
    have hcl0 : 0 ≤ c.cells := by have := (cellsN_bd c.ps hform.2.2.2.2.1).1; have := hform.2.2.2.2.2.2.2.1; omega
    have HX5 : Hid _ := hX5
    have HB5 : Hid _ := hB5
    have HF : Hid _ := hform
    have hlt5 : w.heap.size < w5.heap.size := lt_of_some hX5
    clear hX5 hB5 hb5 hri HX4 HB4 hform
    go_upto_region 11 with fail
    have hM := heap_alloc_new w5 (coO (extC c) pa pc la lc)
    have hX6 : (w5.alloc (coO (extC c) pa pc la lc)).heap[w.heap.size]? = some (coO c pa pc la lc) := (heap_alloc_old w5 _ hlt5).trans HX5.out
    have hB6 := bl_alloc HB5.out (coO (extC c) pa pc la lc)
    have hgen : ∃ w6, w6 = w5.alloc (coO (extC c) pa pc la lc) := ⟨_, rfl⟩
    obtain ⟨w6, hw6⟩ := hgen
    rw [← hw6] at hM hX6 hB6
    show Code.wp _ _ _ _ (w5.alloc (coO (extC c) pa pc la lc))
    rw [← hw6]
    clear hw6
    have hlm := lt_of_some hM
    have hrx := right_any (extC c) pa pc la lc w6 (coIn_ext (coIn_bl hin hB6)) ⟨hok.name, hok.ins⟩ (hg.below hB6)
    rw [right_ext h4 (by omega) (by omega)] at hrx
    unfold coV at hrx
    obtain ⟨k0, k1, k2, k3, k4⟩ := co_block hX6
    obtain ⟨m0, m1, m2, m3, m4⟩ := co_block hM
    have HX6 : Hid _ := hX6
    have HM6 : Hid _ := hM
    have HB6 : Hid _ := hB6
    clear hM hX6 hB6 HB5 HX5 hlt5 hlm
    go_upto_region 12 with (first | (go_at_call 12; refine hrx.mono ?_; rintro e w7 ⟨rfl, hb7⟩))
    have hB7 := bl_then HB6.out hb7
    have hX7 := (hb7.block _ (lt_of_some HX6.out)).trans HX6.out
    have hM7 := (hb7.block _ (lt_of_some HM6.out)).trans HM6.out
    obtain ⟨k0, k1, k2, k3, k4⟩ := co_block hX7
    have hB8 := bl_alloc hB7 (coO c pa pc la lc)
    have hrow8 : kCo.row (w7.alloc (coO c pa pc la lc)) (fun _ => True) (some ⟨w7.heap.size, 0, none⟩) [c] := co_one (coIn_bl hin hB8) trivial (heap_alloc_new w7 _)
    have hr8 := run_any (S' := fun _ => True) (some ⟨w7.heap.size, 0, none⟩) [c] 1 c.name a l ac (w7.alloc (coO c pa pc la lc)) hrow8 hok1 (by simp) (hg.below hB8) hok.name (wd_bl har hB8) hac
    have hX8 : (w7.alloc (coO c pa pc la lc)).heap[w.heap.size]? = some (coO c pa pc la lc) := (heap_alloc_old w7 _ (lt_of_some hX7)).trans hX7
    have hM8 : (w7.alloc (coO c pa pc la lc)).heap[w5.heap.size]? = some (coO (extC c) pa pc la lc) := (heap_alloc_old w7 _ (lt_of_some hM7)).trans hM7
    have hlt7 : w.heap.size < w7.heap.size := lt_of_some hX7
    have HX8 : Hid _ := hX8
    have HM8 : Hid _ := hM8
    have HB8 : Hid _ := hB8
    have hbd := runR_bd [c] c.name l
    have hre := run_ext h4 (by omega) (by omega) l
    generalize runR [c] c.name l = R at hr8 hbd hre
    obtain ⟨r0, cs, br, er⟩ := R
    clear hB7 hX7 hM7 hB8 hrow8 hX8 hM8 HX6 HM6 HB6 hrx hb7
    go_upto_region 13 with (first | (go_at_call 14; refine hr8.mono ?_; rintro e w9 ⟨ya, yc, ba, bc, rfl, hya, hyc, hba, hbc, hb9⟩))
    have hB9 := bl_then HB8.out hb9
    have hX9 := (hb9.block _ (lt_of_some HX8.out)).trans HX8.out
    have hM9 := (hb9.block _ (lt_of_some HM8.out)).trans HM8.out
    have hO := heap_alloc_new w9 (.cells #[.int .u32 (r0 : Int), .slice ya cs.length yc] 36)
    have hX10 : (w9.alloc (.cells #[.int .u32 (r0 : Int), .slice ya cs.length yc] 36)).heap[w.heap.size]? = some (coO c pa pc la lc) := (heap_alloc_old w9 _ (lt_of_some hX9)).trans hX9
    have hM10 : (w9.alloc (.cells #[.int .u32 (r0 : Int), .slice ya cs.length yc] 36)).heap[w5.heap.size]? = some (coO (extC c) pa pc la lc) := (heap_alloc_old w9 _ (lt_of_some hM9)).trans hM9
    have hB10 := bl_alloc hB9 (.cells #[.int .u32 (r0 : Int), .slice ya cs.length yc] 36)
    have hya10 : kWd.row (w9.alloc (.cells #[.int .u32 (r0 : Int), .slice ya cs.length yc] 36)) (fun _ => True) ya cs := kWd.row_mono (by decide) hya fun b _ hlt => ⟨trivial, heap_alloc_old w9 _ hlt⟩
    have hba10 : kInt.row (w9.alloc (.cells #[.int .u32 (r0 : Int), .slice ya cs.length yc] 36)) (fun _ => True) ba br := kInt.row_mono (by decide) hba fun b _ hlt => ⟨trivial, heap_alloc_old w9 _ hlt⟩
    generalize World.alloc w9 _ = w10 at hO hX10 hM10 hB10 hya10 hba10 ⊢
    obtain ⟨k0, k1, k2, k3, k4⟩ := co_block hX10
    obtain ⟨m0, m1, m2, m3, m4⟩ := co_block hM10
    have hB11 := bl_alloc hB10 (coO (extC c) pa pc la lc)
    have hrow11 : kCo.row (w10.alloc (coO (extC c) pa pc la lc)) (fun _ => True) (some ⟨w10.heap.size, 0, none⟩) [extC c] := co_one (coIn_ext (coIn_bl hin hB11)) trivial (heap_alloc_new w10 _)
    have hr11 := run_any (S' := fun _ => True) (some ⟨w10.heap.size, 0, none⟩) [extC c] 1 c.name a l ac (w10.alloc (coO (extC c) pa pc la lc)) hrow11 (fun d hd => by rw [List.mem_singleton.1 hd]; exact ⟨hok.name, hok.ins⟩) (by simp) (hg.below hB11) hok.name (wd_bl har hB11) hac
    rw [hre] at hr11
    have hltx : w.heap.size < w10.heap.size := lt_of_some hX10
    have HO11 : Hid ((w10.alloc (coO (extC c) pa pc la lc)).heap[w9.heap.size]? = _) := (heap_alloc_old w10 _ (lt_of_some hO)).trans hO
    have HB11 : Hid _ := hB11
    have HY11 : Hid (kWd.row (w10.alloc (coO (extC c) pa pc la lc)) (fun _ => True) ya cs) := kWd.row_mono (by decide) hya10 fun b _ hlt => ⟨trivial, heap_alloc_old w10 _ hlt⟩
    have HI11 : Hid (kInt.row (w10.alloc (coO (extC c) pa pc la lc)) (fun _ => True) ba br) := kInt.row_mono (by decide) hba10 fun b _ hlt => ⟨trivial, heap_alloc_old w10 _ hlt⟩
    clear hb9 hB9 hX9 hM9 hO hX10 hM10 hB10 hya10 hba10 hya hba hB11 hrow11 hr8 HX8 HM8 HB8 hre hlt7
    go_upto_region 14 with (first | (go_at_call 14; refine hr11.mono ?_; rintro e w12 ⟨za, zc, da, dc, rfl, hza, hzc, hda, hdc, hb12⟩))
    have hO12 := (hb12.block _ (lt_of_some HO11.out)).trans HO11.out
    have hB12 := bl_then HB11.out hb12
    have hP := heap_alloc_new w12 (.cells #[.int .u32 (r0 : Int), .slice za cs.length zc] 36)
    have hO13 : (w12.alloc (.cells #[.int .u32 (r0 : Int), .slice za cs.length zc] 36)).heap[w9.heap.size]? = some (.cells #[.int .u32 (r0 : Int), .slice ya cs.length yc] 36) := (heap_alloc_old w12 _ (lt_of_some hO12)).trans hO12
    have hB13 := bl_alloc hB12 (.cells #[.int .u32 (r0 : Int), .slice za cs.length zc] 36)
    have hold : ∀ b, b < (w10.alloc (coO (extC c) pa pc la lc)).heap.size → (w12.alloc (.cells #[.int .u32 (r0 : Int), .slice za cs.length zc] 36)).heap[b]? = (w10.alloc (coO (extC c) pa pc la lc)).heap[b]? := fun b hlt => (heap_alloc_old w12 _ (Nat.lt_of_lt_of_le hlt hb12.size)).trans (hb12.block b hlt)
    have hy13 : kWd.row (w12.alloc (.cells #[.int .u32 (r0 : Int), .slice za cs.length zc] 36)) (fun _ => True) ya cs := kWd.row_mono (by decide) HY11.out fun b _ hlt => ⟨trivial, hold b hlt⟩
    have hi13 : kInt.row (w12.alloc (.cells #[.int .u32 (r0 : Int), .slice za cs.length zc] 36)) (fun _ => True) ba br := kInt.row_mono (by decide) HI11.out fun b _ hlt => ⟨trivial, hold b hlt⟩
    have hz13 : kWd.row (w12.alloc (.cells #[.int .u32 (r0 : Int), .slice za cs.length zc] 36)) (fun _ => True) za cs := kWd.row_mono (by decide) hza fun b _ hlt => ⟨trivial, heap_alloc_old w12 _ hlt⟩
    have hd13 : kInt.row (w12.alloc (.cells #[.int .u32 (r0 : Int), .slice za cs.length zc] 36)) (fun _ => True) da br := kInt.row_mono (by decide) hda fun b _ hlt => ⟨trivial, heap_alloc_old w12 _ hlt⟩
    generalize World.alloc w12 _ = w13 at hP hO13 hB13 hold hy13 hi13 hz13 hd13 ⊢
    obtain ⟨p0, p1, _, _⟩ := cells2' hO13
    obtain ⟨q0, q1, _, _⟩ := cells2' hP
    have hs1 := same_any w13 r0 ya za cs yc zc hy13 hz13 (by have h : cs.length ≤ 4096 := hbd.1; omega)
    have HB13 : Hid _ := hB13
    have HI13 : Hid _ := hi13
    have HD13 : Hid _ := hd13
    have HBD : Hid _ := hbd.2
    clear hb12 hO12 hB12 hP hO13 hB13 hold hy13 hi13 hz13 hd13 hza hda hr11 HO11 HB11 HY11 HI11 hltx hbd
    go_upto_region 15 with (first | (go_at_call 16; refine hs1.mono ?_; rintro e w14 ⟨rfl, hb14⟩))
    have hs2 := sameInts_any w14 ba da br bc dc (kInt.row_mono (T := fun _ => True) (by decide) HI13.out fun b _ hlt => ⟨trivial, hb14.block b hlt⟩) (kInt.row_mono (T := fun _ => True) (by decide) HD13.out fun b _ hlt => ⟨trivial, hb14.block b hlt⟩) (by have h : br.length ≤ 60000 := HBD.out; omega)
    have HB14 : Hid _ := bl_then HB13.out hb14
    clear hs1 hb14
    go_upto_region 16 with (first | (go_at_call 17; refine hs2.mono ?_; rintro e w15 ⟨rfl, hb15⟩))
    go_wp2
    go_ret
    exact ⟨rfl, bl_then HB14.out hb15⟩
  · have h4' : ((rightR c).1 == 0) = false := by simpa using h4
    go_upto_region 6 with (first | (go_at_call 12; refine hri.mono ?_; rintro e w5 ⟨rfl, hb5⟩))
    have HB5 := Lib.hid (bl_then HB4.out hb5)
    clear hb5 hri
    go_wp2
    go_ret
    exact ⟨rfl, HB5.out⟩
end Go.Proofs.Ytmglmbeconndhaa
