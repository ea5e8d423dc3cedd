/- THE WALK of DeadAgain. -/
import Derived.Test.YtndmkfmpdnoliaaDAwake
import Derived.Test.YtndmkfmpdnoliaaGSame
import Derived.Deep.QuietTactic
namespace Go.Proofs.Ytndmkfmpdnoliaa
open Go.ChangeShapes Go.WideShapes Go.ChangeAt Go.RowKit

/-- How far the two functions have been gone through: what is left of the second one, up to where the first one is, is idle. -/
structure Thru (c : Co) (i k : Nat) : Prop where
  le : k ≤ live (deadL c.l) i
  idle : ∀ j, k ≤ j → j < live (deadL c.l) i → ∃ h : j < (freeL c.l).length, ((freeL c.l)[j]).kind ≤ 5
  last : i = c.l.length → k = (freeL c.l).length
theorem kind_range {c : Co} (h : (rightR c).1 = 0) (i : Nat) (hi : i < c.l.length) : 1 ≤ (c.l[i]).kind ∧ (c.l[i]).kind ≤ 10 ∧ (i + 1 = c.l.length → (c.l[i]).kind = 10) := by
  have hk := irOk_of (right_ir h i hi)
  obtain ⟨n, e, h1, h2⟩ := known_kind hk.known
  exact ⟨by omega, by omega, hk.last⟩
/-- What is not idle stands where it must. -/
theorem thru_at {c : Co} (i : Nat) (hi : i < c.l.length) (hk : 5 < (c.l[i]).kind) : ∃ h : live (deadL c.l) i < (freeL c.l).length, ((freeL c.l)[live (deadL c.l) i]).kind = (c.l[i]).kind ∧ ((freeL c.l)[live (deadL c.l) i]).name = (c.l[i]).name ∧ live (deadL c.l) (i + 1) = live (deadL c.l) i + 1 := by
  have hd : deadX (rdL (c.l.drop (i + 1))) c.l[i] = false := dead_not (by omega)
  have hf := free_at c.l i hi hd
  have hlt : live (deadL c.l) i < (freeL c.l).length := by
    rcases Nat.lt_or_ge (live (deadL c.l) i) (freeL c.l).length with h | h
    · exact h
    · rw [List.getElem?_eq_none h] at hf; cases hf
  rw [List.getElem?_eq_getElem hlt] at hf
  have e := Option.some.inj hf
  have hs := jmpX_same (live (deadL c.l)) c.l[i]
  have hl := live_succ (deadL c.l) i (by rw [deadL_len]; exact hi)
  rw [deadL_get c.l i hi, hd] at hl
  exact ⟨hlt, by rw [e]; exact hs.1, by rw [e]; exact hs.2.2.2.2.2.2.1, by simpa using hl⟩
theorem Thru.start {c : Co} (h : (rightR c).1 = 0) : Thru c 0 0 := ⟨Nat.zero_le _, fun j _ hj => by rw [live_zero] at hj; omega, fun e => by have := (form_parts (right_form h)).2.2.1; omega⟩
theorem Thru.skip {c : Co} {i k : Nat} (h : Thru c i k) (hr : (rightR c).1 = 0) (hi : i < c.l.length) (hk : (c.l[i]).kind ≤ 5) : Thru c (i + 1) k := by
  have hl := live_succ (deadL c.l) i (by rw [deadL_len]; exact hi)
  rw [deadL_get c.l i hi] at hl
  have hkr := kind_range hr i hi
  refine ⟨by have := h.le; omega, fun j h1 h2 => ?_, fun e => by have := hkr.2.2 e; omega⟩
  cases hd : deadX (rdL (c.l.drop (i + 1))) c.l[i] with
  | true => rw [hd] at hl; exact h.idle j h1 (by simp at hl; omega)
  | false =>
    rw [hd] at hl
    simp at hl
    by_cases hj : j < live (deadL c.l) i
    · exact h.idle j h1 hj
    · obtain rfl : j = live (deadL c.l) i := by omega
      have hf := free_at c.l i hi hd
      have hlt : live (deadL c.l) i < (freeL c.l).length := by
        rcases Nat.lt_or_ge (live (deadL c.l) i) (freeL c.l).length with h | h
        · exact h
        · rw [List.getElem?_eq_none h] at hf; cases hf
      rw [List.getElem?_eq_getElem hlt] at hf
      exact ⟨hlt, by rw [Option.some.inj hf, (jmpX_same (live (deadL c.l)) c.l[i]).1]; exact hk⟩
theorem Thru.step {c : Co} {i : Nat} (hi : i < c.l.length) (hk : 5 < (c.l[i]).kind) : Thru c (i + 1) (live (deadL c.l) i + 1) := by
  obtain ⟨_, _, _, h4⟩ := thru_at i hi hk
  refine ⟨by omega, fun j h1 h2 => by omega, fun e => ?_⟩
  rw [free_len, ← e, h4]
set_option maxRecDepth 100000 in
set_option maxHeartbeats 8000000 in
theorem dead_again {B : Nat} (c : Co) (pa : Option Addr) (pc : Nat) (la : Option Addr) (lc : Nat) (w : World) (hg : Glob B w) (hin : CoIn w (fun _ => True) c pa pc la lc) (hd64 : D64 c.l) :
    Calls Try.prog 7 #[coV c pa pc la lc] w fun e w' => e = .returned (.bool true) ∧ Below w.heap.size w w' := by
  have hx0 := heap_alloc_new w (coO c pa pc la lc)
  have hB0 := bl_alloc (Below.refl w.heap.size w) (coO c pa pc la lc)
  unfold coV
  go_enter Try.func7, Try.ntmps7
  go_upto_region 2 with (first | (go_at_call 16; refine (awake10_any _ (hg.alloc _)).mono ?_; rintro e w2 ⟨rfl, hb2⟩))
  have hB2 := bl_then hB0 hb2
  have hX2 : w2.heap[w.heap.size]? = some (coO c pa pc la lc) := (hb2.block _ (lt_of_some hx0)).trans hx0
  have hlt2 := lt_of_some hX2
  have hrow3 : kCo.row (w2.alloc (coO c pa pc la lc)) (fun _ => True) (some ⟨w2.heap.size, 0, none⟩) [c] := co_oneG (coIn_on hin (bl_alloc hB2 _)) trivial (heap_alloc_new w2 _)
  have hli := light_any _ _ [c] 1 hrow3
  have hB3 := bl_alloc hB2 (coO c pa pc la lc)
  have hX3 : (w2.alloc (coO c pa pc la lc)).heap[w.heap.size]? = some (coO c pa pc la lc) := (heap_alloc_old w2 _ hlt2).trans hX2
  obtain ⟨k0, k1, k2, k3, k4⟩ := co_block hX2
  have HX : Hid _ := hX3
  have HB : Hid _ := hB3
  clear hx0 hB0 hb2 hB2 hX2 hlt2 hrow3 hB3 hX3
  rcases nL : lightB [c] with _ | _ <;> rw [nL] at hli
  · go_upto_region 3 with (first | (go_at_call 11; refine hli.mono ?_; rintro e w4 ⟨rfl, hb4⟩))
    have hB4 := Lib.hid (bl_then HB.out hb4)
    clear hb4 hli
    go_wp2
    go_ret
    exact ⟨rfl, hB4.out⟩
  obtain ⟨l1, l2, hok, l4⟩ := light_oneG nL
  go_upto_region 5 with (first | (go_at_call 11; refine hli.mono ?_; rintro e w4 ⟨rfl, hb4⟩))
  have hB4 := bl_then HB.out hb4
  have hX4 : w4.heap[w.heap.size]? = some (coO c pa pc la lc) := (hb4.block _ (lt_of_some HX.out)).trans HX.out
  obtain ⟨k0, k1, k2, k3, k4⟩ := co_block hX4
  have HX4 : Hid _ := hX4
  have HB4 : Hid _ := hB4
  clear hB4 hb4 hli HX HB
  by_cases hr : (rightR c).1 = 0
  · have hfo := drop_yesN c pa pc la lc w4 (coIn_on hin HB4.out) hok hd64 (hg.below HB4.out) hr
    clear hX4
    go_upto_region 6 with (first | (go_at_call 17; refine hfo.mono ?_; rintro e w5 ⟨qa, qc, ra, rc, rfl, hin5, hb5⟩))
    have hx6 := heap_alloc_new w5 (.cells #[.string (bs c.name), .slice qa c.ps.length qc, .int .i64 c.regs, .int .i64 c.cells, .slice ra (freeL c.l).length rc] 39)
    have hbb := bl_alloc (Below.refl w5.heap.size w5) (.cells #[.string (bs c.name), .slice qa c.ps.length qc, .int .i64 c.regs, .int .i64 c.cells, .slice ra (freeL c.l).length rc] 39)
    have hX6 := ((bl_then hb5 hbb).block _ (lt_of_some HX4.out)).trans HX4.out
    have hb6 := bl_then HB4.out (bl_then hb5 hbb)
    have hin6 := coIn_on hin5 hbb
    generalize World.alloc w5 _ = w6 at hx6 hX6 hb6 hin6 ⊢
    have hf2 := drop_yesN (dropC c) qa qc ra rc w6 hin6 (dropC_ok hok) (dropC_d64 hd64) (hg.below hb6) (by rw [right_drop hr])
    rw [drop_drop, show freeL (dropC c).l = freeL c.l from free_free c.l] at hf2
    have hf2' : Calls Try.prog 17 #[.agg #[.string (bs c.name), .slice qa c.ps.length qc, .int .i64 c.regs, .int .i64 c.cells, .slice ra (freeL c.l).length rc]] w6 fun e w' => ∃ qa qc ra rc, e = .returned (.tuple #[.agg #[.string (bs c.name), .slice qa c.ps.length qc, .int .i64 c.regs, .int .i64 c.cells, .slice ra (freeL c.l).length rc], .int .i64 0]) ∧ CoIn w' (fun b => w6.heap.size ≤ b) (dropC c) qa qc ra rc ∧ Below w6.heap.size w6 w' := hf2
    obtain ⟨k0, k1, k2, k3, k4⟩ := five hx6
    have HX6 : Hid _ := hX6
    have HY6 : Hid _ := hx6
    have HB6 : Hid _ := hb6
    have HI6 : Hid _ := hin6
    clear hfo hin5 hb5 hbb hf2 hx6 hX6 hb6 hin6 HX4 HB4
    go_upto_region 9 with (first | (go_at_call 17; refine hf2'.mono ?_; rintro e w7 ⟨qa2, qc2, ra2, rc2, rfl, hin7, hb7⟩))
    have hx8 := heap_alloc_new w7 (.cells #[.string (bs c.name), .slice qa2 c.ps.length qc2, .int .i64 c.regs, .int .i64 c.cells, .slice ra2 (freeL c.l).length rc2] 39)
    have hbb := bl_alloc (Below.refl w7.heap.size w7) (.cells #[.string (bs c.name), .slice qa2 c.ps.length qc2, .int .i64 c.regs, .int .i64 c.cells, .slice ra2 (freeL c.l).length rc2] 39)
    have hX8 := ((bl_then hb7 hbb).block _ (lt_of_some HX6.out)).trans HX6.out
    have hY8 := ((bl_then hb7 hbb).block _ (lt_of_some HY6.out)).trans HY6.out
    have hb8 := bl_then HB6.out (bl_then hb7 hbb)
    have hin8 := coIn_on hin7 hbb
    have hiz8 := coIn_on HI6.out (bl_then hb7 hbb)
    generalize World.alloc w7 _ = w8 at hx8 hX8 hY8 hb8 hin8 hiz8 ⊢
    have hfl := free_le c.l
    have hsm := same7_any (dropC c) (dropC c) qa qc ra rc qa2 qc2 ra2 rc2 w8 hiz8 hin8 (by show (freeL c.l).length ≤ _; omega) (by show c.ps.length ≤ _; omega) (fun z hz => ((dropC_ok hok).ins z hz).2)
    rw [decide_eq_true rfl] at hsm
    have hsm' : Calls Try.prog 19 #[.agg #[.string (bs c.name), .slice qa c.ps.length qc, .int .i64 c.regs, .int .i64 c.cells, .slice ra (freeL c.l).length rc], .agg #[.string (bs c.name), .slice qa2 c.ps.length qc2, .int .i64 c.regs, .int .i64 c.cells, .slice ra2 (freeL c.l).length rc2]] w8 fun e w' => e = .returned (.bool true) ∧ Below w8.heap.size w8 w' := hsm
    obtain ⟨k0, k1, k2, k3, k4⟩ := five hY8
    obtain ⟨j0, j1, j2, j3, j4⟩ := five hx8
    have HX8 : Hid _ := hX8
    have HY8 : Hid _ := hY8
    have HB8 : Hid _ := hb8
    have HI8 : Hid _ := hiz8
    clear hf2' hin7 hb7 hbb hsm hx8 hX8 hY8 hb8 hin8 hiz8 HX6 HB6 HY6 HI6
    go_upto_region 10 with (first | (go_at_call 19; refine hsm'.mono ?_; rintro e w9 ⟨rfl, hb9⟩))
    have hb9' := bl_then HB8.out hb9
    have h9y := (hb9.block _ (lt_of_some HY8.out)).trans HY8.out
    have h9x := (hb9.block _ (lt_of_some HX8.out)).trans HX8.out
    have hi9 := coIn_on HI8.out hb9
    have hc9 := coIn_on hin hb9'
    obtain ⟨k0, k1, k2, k3, k4⟩ := five h9y
    obtain ⟨j0, j1, j2, j3, j4⟩ := five h9x
    have hff : ¬ (c.l.length : Int) < ((freeL c.l).length : Int) := by omega
    have HB9 : Hid _ := hb9'
    have HY9 : Hid _ := h9y
    have HX9 : Hid _ := h9x
    clear hsm' hb9 hb9' h9y h9x HX8 HY8 HB8 HI8
    go_upto_region 14 with fail
    have HCL : Hid _ := hc9.l
    have HAL : Hid (kIr.row w9 (fun _ => True) ra (freeL c.l)) := hi9.l
    have HST : Hid _ := Thru.start hr
    clear k0 k1 k2 k3 k4 j0 j1 j2 j3 j4 hi9 hc9 hff
    go_loopw [10, 11] (fun k i wr => ∃ n m : Nat, i = .int .i64 n ∧ k = .int .i64 m ∧ n ≤ c.l.length ∧ Thru c n m ∧ Below w9.heap.size w9 wr) (fun _ i _ => c.l.length - (intOf i).toNat)
    case atStart => exact ⟨0, 0, rfl, rfl, Nat.zero_le _, HST.out, Below.refl _ _⟩
    case round =>
      obtain ⟨n, m, rfl, rfl, hnl, hth, hbl⟩ := hrel
      have hX := (hbl.block _ (lt_of_some HX9.out)).trans HX9.out
      have hY := (hbl.block _ (lt_of_some HY9.out)).trans HY9.out
      obtain ⟨k0, k1, k2, k3, k4⟩ := five hY
      obtain ⟨j0, j1, j2, j3, j4⟩ := five hX
      have HBL : Hid _ := hbl
      have HTH : Hid _ := hth
      by_cases hlt : n < c.l.length
      · obtain ⟨b, o, ga, gc, rfl, _, hb, hia, _, _, _⟩ := ir_at HCL.out n hlt
        obtain ⟨e0, e1, e2, e3, e4, e5, e6, e7, e8⟩ := hia.keep (hbl.block b hb)
        have HIA : Hid _ := hia
        have hn0 : (0 : Int) ≤ (n : Int) := by omega
        have hn1 : (n : Int) < (c.l.length : Int) := by omega
        by_cases hk5 : (c.l[n]).kind ≤ 5
        · have HN : Hid _ := hth.skip hr hlt hk5
          clear hth hX hY hbl hia
          go_wp2_with fail
          go_roundw
          case rel => exact ⟨n + 1, m, by go_num, rfl, by omega, HN.out, HBL.out⟩
          case measure => simp [intOf]; omega
        · obtain ⟨hal, hak, han, hls⟩ := thru_at n hlt (by omega)
          have HNX : Hid _ := Thru.step hlt (by omega)
          have hle := hth.le
          have HID : Hid _ := hth.idle
          have hmal : m ≤ live (deadL c.l) n := hle
          generalize live (deadL c.l) n = lv at hal hak han hls HNX hle HID hmal
          clear hls hth hX hY hbl hia
          go_upto_region 17 with fail
          go_loopw [10] (fun k wr2 => ∃ q : Nat, k = .int .i64 q ∧ m ≤ q ∧ q ≤ lv ∧ Below w9.heap.size w9 wr2) (fun k _ => lv - (intOf k).toNat)
          case atStart => exact ⟨m, rfl, Nat.le_refl _, hmal, HBL.out⟩
          case round =>
            obtain ⟨q, rfl, hmq, hql, hbl2⟩ := hrel
            have hX2 := (hbl2.block _ (lt_of_some HX9.out)).trans HX9.out
            have hY2 := (hbl2.block _ (lt_of_some HY9.out)).trans HY9.out
            have HB2 : Hid _ := hbl2
            have hq1 : (q : Int) < ((freeL c.l).length : Int) := by omega
            have hq0 : (0 : Int) ≤ (q : Int) := by omega
            by_cases hqv : q < lv
            · obtain ⟨hqa, hqk⟩ := HID.out q hmq hqv
              obtain ⟨b5, o5, g5, gc5, rfl, _, hb5, hia5, _, _, _⟩ := ir_at HAL.out q hqa
              obtain ⟨f0, f1, f2, f3, f4, f5, f6, f7, f8⟩ := hia5.keep (hbl2.block b5 hb5)
              obtain ⟨k0, k1, k2, k3, k4⟩ := five hY2
              generalize (freeL c.l)[q] = z at f0 f1 f2 f3 f4 f5 f6 f7 f8 hqk
              clear hX2 hY2 hia5 hbl2
              go_wp2_with fail
              go_roundw
              case rel => exact ⟨q + 1, by go_num, by omega, by omega, HB2.out⟩
              case measure => simp [intOf]; omega
            · obtain rfl : q = lv := by omega
              obtain ⟨b5, o5, g5, gc5, rfl, _, hb5, hia5, _, _, _⟩ := ir_at HAL.out q hal
              obtain ⟨f0, f1, f2, f3, f4, f5, f6, f7, f8⟩ := hia5.keep (hbl2.block b5 hb5)
              obtain ⟨e0, e1, e2, e3, e4, e5, e6, e7, e8⟩ := HIA.out.keep (hbl2.block b hb)
              obtain ⟨k0, k1, k2, k3, k4⟩ := five hY2
              obtain ⟨j0, j1, j2, j3, j4⟩ := five hX2
              rw [hak] at f0
              rw [han] at f7
              have hq1' : ¬ ((freeL c.l).length : Int) ≤ (q : Int) := by omega
              have h7 : (bs (c.l[n]).name).toList = (bs (c.l[n]).name).toList := rfl
              generalize (c.l[n]).kind = kd at e0 f0 hk5
              generalize bs (c.l[n]).name = nm at e7 f7
              clear hX2 hY2 hia5 hbl2 h7 hak han HID hmq hmal
              go_upto_region 19 with fail
              go_quiet (fail)
              go_wp2_with fail
              go_roundw
              case rel => exact ⟨n + 1, q + 1, by go_num, by go_num, by omega, HNX.out, bl_then HB2.out (drewN_below _ _)⟩
              case measure => simp [intOf]; omega
      · have hm : m = (freeL c.l).length := hth.last (by omega)
        have hmi : (m : Int) = ((freeL c.l).length : Int) := by omega
        have HB2 : Hid _ := bl_then HB9.out hbl
        clear hth hX hY hbl
        go_wp2_with fail
        go_ret
        exact ⟨rfl, HB2.out⟩
  · have hfo := drop_no c pa pc la lc w4 (coIn_on hin HB4.out) hok hd64 (hg.below HB4.out) hr
    have hr' : ((rightR c).1 == 0) = false := by simpa using hr
    have hr2 : ((rightR c).1 != 0) = true := by simpa using hr
    generalize (rightR c).1 = er at hfo hr' hr2
    clear hX4 hr
    go_upto_region 6 with (first | (go_at_call 17; refine hfo.mono ?_; rintro e w5 ⟨qa, qc, ra, rc, rfl, hin5, hb5⟩))
    have hx6 := heap_alloc_new w5 (.cells #[.string ⟨#[]⟩, .slice qa 0 qc, .int .i64 0, .int .i64 0, .slice ra 0 rc] 39)
    have hbb := bl_then hb5 (bl_alloc (Below.refl w5.heap.size w5) (.cells #[.string ⟨#[]⟩, .slice qa 0 qc, .int .i64 0, .int .i64 0, .slice ra 0 rc] 39))
    generalize World.alloc w5 _ = w6 at hx6 hbb ⊢
    obtain ⟨k0, k1, k2, k3, k4⟩ := five hx6
    have HB6 : Hid _ := bl_then HB4.out hbb
    clear hfo hin5 hb5 hbb hx6 HX4 HB4
    go_wp2
    go_ret
    exact ⟨rfl, HB6.out⟩
end Go.Proofs.Ytndmkfmpdnoliaa
