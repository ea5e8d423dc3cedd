/- THE WALK of FoldKeeps. -/
import Derived.Test.YtclajapdbphlbaaGAwake
import Derived.Test.YtclajapdbphlbaaGSame
namespace Go.Proofs.Ytclajapdbphlbaa
open Go.ChangeShapes Go.WideShapes Go.ChangeAt Go.RowKit

/-- A function of one instruction alone. -/
def oneC (x : Ir) : Co := ⟨[], [], 0, 0, [x]⟩
theorem oneC_eq (x y : Ir) : decide (oneC x = oneC y) = decide (x = y) := by simp [oneC]
theorem oneC_in {w : World} {S : Nat → Prop} {b : Nat} {x : Ir} {a : Option Addr} {c : Nat} (h : w.heap[b]? = some (irB x a c)) (hc : x.args.length ≤ c) (hn : x.n < 4294967296) (hr : kInt.row w S a x.args) : CoIn w (fun _ => True) (oneC x) none 0 (some ⟨b, 0, none⟩) 1 :=
  ⟨Nat.le_refl _, Nat.le_refl _, trivial, kIr.lay_row (S := fun _ => True) (fun _ h => h) b trivial 0 (xs := irCells x a c) ⟨irCells x a c, [], by simp, ⟨a, c, rfl, hc, hn, kInt.row_mono (by decide) hr fun b _ _ => ⟨trivial, rfl⟩⟩, rfl⟩ (cells_of' h)⟩
theorem same_one {w : World} {S T : Nat → Prop} {b d : Nat} {x y : Ir} {a e : Option Addr} {c f : Nat} (h1 : w.heap[b]? = some (irB x a c)) (hc1 : x.args.length ≤ c) (hn1 : x.n < 4294967296) (hr1 : kInt.row w S a x.args) (h2 : w.heap[d]? = some (irB y e f)) (hc2 : y.args.length ≤ f) (hn2 : y.n < 4294967296) (hr2 : kInt.row w T e y.args) (ha : x.args.length ≤ 1000000) :
    Calls Try.prog 14 #[.agg #[.string ⟨#[]⟩, .slice none 0 0, .int .i64 0, .int .i64 0, .slice (some ⟨b, 0, none⟩) 1 1], .agg #[.string ⟨#[]⟩, .slice none 0 0, .int .i64 0, .int .i64 0, .slice (some ⟨d, 0, none⟩) 1 1]] w fun e w' => e = .returned (.bool (decide (x = y))) ∧ Below w.heap.size w w' := by
  have := same7_any (oneC x) (oneC y) none 0 (some ⟨b, 0, none⟩) 1 none 0 (some ⟨d, 0, none⟩) 1 w (oneC_in h1 hc1 hn1 hr1) (oneC_in h2 hc2 hn2 hr2) (by simp [oneC]) (by simp [oneC]) (fun z hz => by
    have : z = x := by simpa [oneC] using hz
    subst this; exact ha)
  rw [oneC_eq] at this
  exact this
set_option maxRecDepth 100000 in
set_option maxHeartbeats 8000000 in
theorem keeps_walk {B : Nat} (c : Co) (pa : Option Addr) (pc : Nat) (la : Option Addr) (lc : Nat) (w : World) (hg : Glob B w) (hin : CoIn w (fun _ => True) c pa pc la lc) :
    Calls Try.prog 6 #[coV c pa pc la lc] w fun e w' => e = .returned (.bool true) ∧ Below w.heap.size w w' := by
  have hx0 := heap_alloc_new w (coO c pa pc la lc)
  have hB0 := bl_alloc (Below.refl w.heap.size w) (coO c pa pc la lc)
  unfold coV
  go_enter Try.func6, Try.ntmps6
  go_upto_region 2 with (first | (go_at_call 10; refine (awake9_any _ (hg.alloc _)).mono ?_; rintro e w2 ⟨rfl, hb2⟩))
  have hB2 := bl_then hB0 hb2
  have hX2 : w2.heap[w.heap.size]? = some (coO c pa pc la lc) := (hb2.block _ (lt_of_some hx0)).trans hx0
  have hlt2 := lt_of_some hX2
  have hrow3 : kCo.row (w2.alloc (coO c pa pc la lc)) (fun _ => True) (some ⟨w2.heap.size, 0, none⟩) [c] := co_oneG (coIn_on hin (bl_alloc hB2 _)) trivial (heap_alloc_new w2 _)
  have hli := light_any _ _ [c] 1 hrow3
  have hB3 := bl_alloc hB2 (coO c pa pc la lc)
  have hX3 : (w2.alloc (coO c pa pc la lc)).heap[w.heap.size]? = some (coO c pa pc la lc) := (heap_alloc_old w2 _ hlt2).trans hX2
  obtain ⟨k0, k1, k2, k3, k4⟩ := co_block hX2
  have HX : Hid _ := hX3
  have HB : Hid _ := hB3
  clear hx0 hB0 hb2 hB2 hX2 hlt2 hrow3 hB3 hX3
  rcases nL : lightB [c] with _ | _ <;> rw [nL] at hli
  · go_upto_region 3 with (first | (go_at_call 11; refine hli.mono ?_; rintro e w4 ⟨rfl, hb4⟩))
    have hB4 := Lib.hid (bl_then HB.out hb4)
    clear hb4 hli
    go_wp2
    go_ret
    exact ⟨rfl, hB4.out⟩
  obtain ⟨l1, l2, hok, l4⟩ := light_oneG nL
  go_upto_region 5 with (first | (go_at_call 11; refine hli.mono ?_; rintro e w4 ⟨rfl, hb4⟩))
  have hB4 := bl_then HB.out hb4
  have hX4 : w4.heap[w.heap.size]? = some (coO c pa pc la lc) := (hb4.block _ (lt_of_some HX.out)).trans HX.out
  obtain ⟨k0, k1, k2, k3, k4⟩ := co_block hX4
  have HX4 : Hid _ := hX4
  have HB4 : Hid _ := hB4
  clear hB4 hb4 hli HX HB
  by_cases hr : (rightR c).1 = 0
  rotate_left
  · have hfo := fold_no c pa pc la lc w4 (coIn_on hin HB4.out) hok (hg.below HB4.out) hr
    have hr' : ((rightR c).1 == 0) = false := by simpa using hr
    generalize (rightR c).1 = er at hfo hr'
    clear hX4 hr
    go_upto_region 6 with (first | (go_at_call 12; refine hfo.mono ?_; rintro e w5 ⟨qa, qc, ra, rc, rfl, hin5, hb5⟩))
    have HB6 : Hid _ := bl_then HB4.out (bl_then hb5 (bl_alloc (Below.refl w5.heap.size w5) (.cells #[.string ⟨#[]⟩, .slice qa 0 qc, .int .i64 0, .int .i64 0, .slice ra 0 rc] 25)))
    clear hfo hin5 hb5 HX4 HB4
    go_wp2
    go_ret
    exact ⟨rfl, HB6.out⟩
  have hfo := fold_yes c pa pc la lc w4 (coIn_on hin HB4.out) hok (hg.below HB4.out) hr
  clear hX4
  go_upto_region 6 with (first | (go_at_call 12; refine hfo.mono ?_; rintro e w5 ⟨qa, qc, ra, rc, rfl, hin5, hb5⟩))
  have hx6 := heap_alloc_new w5 (.cells #[.string (bs c.name), .slice qa c.ps.length qc, .int .i64 c.regs, .int .i64 c.cells, .slice ra c.l.length rc] 25)
  have hbb := bl_alloc (Below.refl w5.heap.size w5) (.cells #[.string (bs c.name), .slice qa c.ps.length qc, .int .i64 c.regs, .int .i64 c.cells, .slice ra c.l.length rc] 25)
  have hX6 := ((bl_then hb5 hbb).block _ (lt_of_some HX4.out)).trans HX4.out
  have hb6 := bl_then HB4.out (bl_then hb5 hbb)
  have hin6 := coIn_on hin5 hbb
  generalize World.alloc w5 _ = w6 at hx6 hX6 hb6 hin6 ⊢
  have hnn := bs_same c.name
  obtain ⟨k0, k1, k2, k3, k4⟩ := five hx6
  obtain ⟨j0, j1, j2, j3, j4⟩ := five hX6
  have HX6 : Hid _ := hX6
  have HY6 : Hid _ := hx6
  have HB6 : Hid _ := hb6
  have HI6 : Hid _ := hin6
  have hlt6 := lt_of_some hx6
  have hlt6' := lt_of_some hX6
  clear hfo hin5 hb5 hbb hx6 hX6 hb6 hin6 HX4 HB4
  go_upto_region 10 with fail
  clear k0 k1 k2 k3 k4 j0 j1 j2 j3 j4 hnn
  go_wp2
  go_loopw [7] (fun i wr => ∃ k : Nat, k ≤ c.l.length ∧ i = .int .i64 k ∧ Below w6.heap.size w6 wr) (fun i _ => c.l.length - (intOf i).toNat)
  case atStart => exact ⟨0, Nat.zero_le _, rfl, Below.refl _ _⟩
  case round =>
    obtain ⟨k, hk, rfl, hbl⟩ := hrel
    obtain ⟨k0, k1, k2, k3, k4⟩ := five ((hbl.block w5.heap.size hlt6).trans HY6.out)
    obtain ⟨j0, j1, j2, j3, j4⟩ := five ((hbl.block w.heap.size hlt6').trans HX6.out)
    have HB : Hid (Below w6.heap.size w6 wr) := hbl
    by_cases hlt : k < c.l.length
    · have hlt' : k < (foldC c).l.length := by show _ < (foldL c.l).length; rw [foldL_len]; exact hlt
      obtain ⟨b1, o1, ga, gc, rfl, _, hb1, hi1, hgc, hn1, hr1⟩ := ir_at HI6.out.l k hlt'
      obtain ⟨b2, o2, gb, gd, rfl, _, hb2, hi2, hgd, hn2, hr2⟩ := ir_at hin.l k hlt
      have hb := bl_then HB6.out hbl
      obtain ⟨e0, e1, e2, e3, e4, e5, e6, e7, e8⟩ := hi1.keep (hbl.block b1 hb1)
      obtain ⟨d0, d1, d2, d3, d4, d5, d6, d7, d8⟩ := hi2.keep (hb.block b2 hb2)
      have hor : ∃ K, (foldC c).l[k] = foldX K c.l[k] := by
        obtain ⟨K, hK⟩ := foldF_get (begs c.l) c.l 0 kNone k hlt
        refine ⟨K, ?_⟩
        have h2 : (foldC c).l[k]? = some (foldX K c.l[k]) := hK
        rw [List.getElem?_eq_getElem hlt'] at h2
        exact Option.some.inj h2
      obtain ⟨K, hK⟩ := hor
      rw [hK] at e0 e1 e2 e3 e4 e5 e6 e7 e8 hgc hn1 hr1
      have hag := l4 _ (List.getElem_mem hlt)
      have hag1 := (foldX_args K hag).1
      have HOR : Hid _ := foldX_or K c.l[k]
      have HR1 : Hid (kInt.row wr (fun _ => True) ga (foldX K c.l[k]).args) := kInt.row_mono (by decide) hr1 fun b _ hlt => ⟨trivial, hbl.block b hlt⟩
      have HR2 : Hid (kInt.row wr (fun _ => True) gb c.l[k].args) := kInt.row_mono (by decide) hr2 fun b _ hlt => ⟨trivial, hb.block b hlt⟩
      clear hi1 hi2 hr1 hr2 hK
      generalize foldX K c.l[k] = x at e0 e1 e2 e3 e4 e5 e6 e7 e8 hgc hn1 hag1 HOR HR1
      generalize c.l[k] = y at d0 d1 d2 d3 d4 d5 d6 d7 d8 hgd hn2 hag HOR HR2
      have H2B : Hid _ := two_box wr (irB x ga gc) (irB y gb gd)
      have hsA : w.heap.size < wr.heap.size := Nat.lt_of_lt_of_le hlt6' hbl.size
      have hsB : b2 < wr.heap.size := Nat.lt_of_lt_of_le hb2 hb.size
      go_upto_region 15 with fail
      generalize World.alloc (World.alloc wr _) _ = v4 at H2B ⊢
      clear e0 e1 e2 e3 e4 e5 e6 e7 e8 d0 d1 d2 d3 d4 d5 d6 d7 d8 k0 k1 k2 k3 k4 j0 j1 j2 j3 j4
      obtain ⟨hx4, hy4, hb4, hz4⟩ := H2B.out
      have HX4 : Hid _ := hx4
      have HY4 : Hid _ := hy4
      have HB4 : Hid _ := hb4
      obtain ⟨e0, e1, e2, e3, e4, e5, e6, e7, e8⟩ := nine hx4
      obtain ⟨d0, d1, d2, d3, d4, d5, d6, d7, d8⟩ := nine hy4
      have hl4 : wr.heap.size + 1 < v4.heap.size := by omega
      obtain ⟨hx5, hy5, hb5, hz5⟩ := two_box v4 (irB x ga gc) (irB y gb gd)
      have hb45 := bl_then hb4 hb5
      have hsm := same_one hx5 hgc hn1 (kInt.row_mono (T := fun _ => True) (by decide) HR1.out fun b _ hlt => ⟨trivial, hb45.block b hlt⟩) hy5 hgd hn2 (kInt.row_mono (T := fun _ => True) (by decide) HR2.out fun b _ hlt => ⟨trivial, hb45.block b hlt⟩) (by omega)
      have HB5 : Hid _ := hb5
      clear hx4 hy4 hb4 hz4 hx5 hy5 hb5 hz5 hb45 H2B hbl hb
      rcases HOR.out with hxy | ⟨hm, m, hw, hxm⟩
      · subst hxy
        rw [decide_eq_true rfl] at hsm
        go_upto_region 16 with (first | (go_at_call 14; refine hsm.mono ?_; rintro e v6 ⟨rfl, hb6⟩))
        have HB6' : Hid _ := bl_then HB4.out (bl_then HB5.out hb6)
        clear hsm hb6 e0 e1 e2 e3 e4 e5 e6 e7 e8 d0 d1 d2 d3 d4 d5 d6 d7 d8
        go_wp2_with fail
        go_roundw
        case rel => exact ⟨k + 1, by omega, by go_num, bl_then HB.out HB6'.out⟩
        case measure => simp [intOf]; omega
      · have hmk := mayW_kind hm
        have hne : ¬ x = y := fun e => by
          have h1 : x.kind = 1 := by rw [hxm]; rfl
          rw [e] at h1; omega
        rw [decide_eq_false hne] at hsm
        subst hxm
        go_upto_region 17 with (first | (go_at_call 14; refine hsm.mono ?_; rintro e v6 ⟨rfl, hb6⟩))
        have HB6' : Hid _ := bl_then HB4.out (bl_then HB5.out hb6)
        have hb46 := bl_then HB5.out hb6
        obtain ⟨e0, e1, e2, e3, e4, e5, e6, e7, e8⟩ := nine ((hb46.block _ (lt_of_some HX4.out)).trans HX4.out)
        obtain ⟨d0, d1, d2, d3, d4, d5, d6, d7, d8⟩ := nine ((hb46.block _ (lt_of_some HY4.out)).trans HY4.out)
        simp only [cIr] at e0 e1 e2 e3 e4 e5 e6 e7 e8
        clear hsm hb6 hb46 hm hw HOR
        rcases hmk with hmk | hmk | hmk
        all_goals
          go_wp2_with fail
          go_roundw
          case rel => exact ⟨k + 1, by omega, by go_num, bl_then HB.out HB6'.out⟩
          case measure => simp [intOf]; omega
    · have HW : Hid _ := bl_then HB6.out hbl
      clear hbl
      go_wp2_with fail
      go_ret
      exact ⟨rfl, HW.out⟩
end Go.Proofs.Ytclajapdbphlbaa
