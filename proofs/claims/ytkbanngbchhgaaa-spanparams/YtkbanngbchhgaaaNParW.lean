/- THE WALK of SpanParams. -/
import Derived.Test.YtkbanngbchhgaaaNAwake
import Derived.Test.YtkbanngbchhgaaaNParM
import Derived.Test.YtkbanngbchhgaaaIApp2
import Derived.Test.YtkbanngbchhgaaaGKit
namespace Go.Proofs.Ytkbanngbchhgaaa
open Go.ChangeShapes Go.WideShapes Go.ChangeAt Go.RowKit

abbrev boxP (b W : Nat) (v : Value) : Obj := .cells #[.string ⟨#[97, 46, 102]⟩, .slice (some ⟨b, 0, none⟩) W W, .int .i64 ((W : Int) + 1), .int .i64 0, v] 25
/-- What is written so far: the row is the call's own, and apart from the box and the types. -/
structure WP (w : World) (W m : Nat) (o : List Ir) (x : Option Addr) (c : Nat) (wr : World) : Prop where
  len : o.length = m
  out : kIr.own 43 wr (fun _ => False) (w.heap.size + 2) (.slice x m c) o
  box : wr.heap[w.heap.size + 1]? = some (boxP w.heap.size W (.slice x m c))
  tys : wr.heap[w.heap.size]? = some (.cells (tcs W).toArray 56)
  below : Below w.heap.size w wr
theorem WP.apart {w wr : World} {W m : Nat} {o : List Ir} {x : Option Addr} {c : Nat} (h : WP w W m o x c wr) : ∀ g, (Value.slice x m c).ownBlock = some g → w.heap.size + 2 ≤ g := fun g hg => (kIr.own_lt h.out g hg).1
theorem WP.start (w : World) (W : Nat) : WP w W 0 [] none 0 ((w.alloc (.cells (tcs W).toArray 56)).alloc (boxP w.heap.size W (.slice none 0 0))) := by
  obtain ⟨h1, h2, h3, h4⟩ := two_box' w (.cells (tcs W).toArray 56) (boxP w.heap.size W (.slice none 0 0))
  exact ⟨rfl, ⟨[], World.ownsRow_nil _ _ _ _, rfl⟩, h2, h1, h3⟩
theorem WP.grown {w w0 w1 wr : World} {W m : Nat} {o : List Ir} {x : Option Addr} {c : Nat} (h : WP w W m o x c wr) (hk : Kept (fun _ => False) wr w0) (hg : w0.grownBy w1 (Value.slice x m c).ownBlock) :
    w1.heap[w.heap.size + 1]? = some (boxP w.heap.size W (.slice x m c)) ∧ w1.heap[w.heap.size]? = some (.cells (tcs W).toArray 56) := by
  have hb := lt_of_some h.box
  have ht := lt_of_some h.tys
  have hs := hk.size
  refine ⟨(hg.block _ (by omega) (fun e => by have := h.apart _ e.symm; omega)).trans ((hk.block _ hb (fun e => e)).trans h.box), (hg.block _ (by omega) (fun e => by have := h.apart _ e.symm; omega)).trans ((hk.block _ ht (fun e => e)).trans h.tys)⟩
theorem WP.push {w w0 w1 wr : World} {W m : Nat} {o : List Ir} {x y : Option Addr} {c c1 : Nat} {cs : List Value} {z : Ir} (h : WP w W m o x c wr) (hk : Kept (fun _ => False) wr w0) (hcs : kIr.lay wr (fun _ => False) cs o)
    (hown1 : w1.ownsRow (w.heap.size + 2) 43 9 (.slice y (m + 1) c1) (m + 1) (cs ++ irCells z none 0)) (hg : w0.grownBy w1 (Value.slice x m c).ownBlock) (hz : z.args = []) (hzn : z.n < 4294967296) :
    WP w W (m + 1) (o ++ [z]) y c1 (w1.setCell ⟨w.heap.size + 1, 4, none⟩ (.slice y (m + 1) c1)) := by
  have hne : ∀ g, (Value.slice y (m + 1) c1).ownBlock = some g → w.heap.size + 2 ≤ g := fun g hg => (World.ownsRow.lt hown1 g hg).1
  have hgr := h.grown hk hg
  have hset := Kept.set w1 (w.heap.size + 1) 4 (.slice y (m + 1) c1)
  have hk1 : Kept (fun j => (Value.slice x m c).ownBlock = some j) wr w1 := (hk.mono fun _ _ e => e.elim).trans (Kept.of_grown hg)
  refine ⟨by simp [h.len], ⟨cs ++ irCells z none 0, ?_, kIr.lay_snoc ⟨none, 0, rfl, by rw [hz]; exact Nat.le_refl _, hzn, by rw [hz]; trivial⟩ (kIr.lay_mono hcs fun _ e => e.elim)⟩, ?_, ?_, ?_⟩
  · rw [show (o ++ [z]).length = m + 1 by simp [h.len]]
    exact own_kept hown1 hset fun g hg e => by have := hne g hg; omega
  · rw [setCell_at hgr.1]; rfl
  · exact (setCell_other (by omega)).trans hgr.2
  · refine Kept.to_below (((Below.kept h.below (fun i => w.heap.size ≤ i)).trans (hk1.mono fun i _ e => by have := h.apart i e; omega)).trans (hset.mono fun i _ e => ?_)) fun _ hi => hi
    omega
theorem WP.cells {w wr : World} {W m : Nat} {o : List Ir} {x : Option Addr} {c : Nat} (h : WP w W m o x c wr) : ∃ cs, wr.ownsRow (w.heap.size + 2) 43 9 (.slice x m c) m cs ∧ kIr.lay wr (fun _ => False) cs o := by
  obtain ⟨cs, h1, h2⟩ := h.out
  exact ⟨cs, by rw [← h.len]; rw [← h.len] at h1; exact h1, h2⟩
theorem two_at2 {w : World} {b : Nat} {x0 x1 : Value} {t : TypeId} (h : w.heap[b]? = some (.cells #[x0, x1] t)) : w.cell? ⟨b, 0, none⟩ = some x0 ∧ w.cell? ⟨b, 1, none⟩ = some x1 := by
  refine ⟨?_, ?_⟩ <;> simp [World.cell?, h]
theorem src_atP {w0 : World} {g : Nat} {z : Ir} (h : w0.heap[g]? = some (.cells (irCells z none 0).toArray 43)) : Src Try.prog 9 23 (.slice (some ⟨g, 0, none⟩) 1 1) 1 (irCells z none 0) w0 :=
  Src.ofSlice _ Try.underlying23 ⟨g, 0, none⟩ 1 1 (irCells z none 0) rfl (World.news_of_block (cs := (irCells z none 0).toArray) (t := 43) (fr := (0, 0)) h) (by simp [irCells, Value.oneCell'])
theorem par_spans {B : Nat} {w : World} {W m k b c : Nat} {a : Option Addr} (hW : W ≤ 6) (hm : m ≤ 50) (hk : k < W) (hg : Glob B w) (ht : w.heap[b]? = some (.cells (tcs W).toArray 56)) (h : kIr.row w (fun _ => True) a (parL W m k)) (hc : m + 1 ≤ c) :
    Calls Try.prog 12 #[.agg #[.string ⟨#[97, 46, 102]⟩, .slice (some ⟨b, 0, none⟩) W W, .int .i64 ((W : Int) + 1), .int .i64 0, .slice a (m + 1) c]] w fun e w' => (∃ b2, e = .returned (.slice (some ⟨b2, 0, none⟩) (W + 1) (W + 1)) ∧ w'.heap[b2]? = some (spB (spanL (parC W m k) (W + 1))) ∧ w.heap.size ≤ b2) ∧ Below w.heap.size w w' := by
  have hps : (parC W m k).ps.length = W := List.length_replicate
  have hll : (parC W m k).l.length = m + 1 := parL_len W m k
  have hin : CoIn w (fun _ => True) (parC W m k) (some ⟨b, 0, none⟩) W a c := ⟨by rw [hps]; exact Nat.le_refl _, by rw [hll]; exact hc, tys_row ht, h⟩
  have := spans_yes (parC W m k) (some ⟨b, 0, none⟩) W a c w hin (par_ok W m k) hg (par_right hW hm hk)
  have hre : (parC W m k).regs.toNat = W + 1 := by show ((W : Int) + 1).toNat = W + 1; omega
  rw [spansM_eq (par_right hW hm hk), hre] at this
  unfold coV at this
  rw [hps, hll] at this
  exact this
set_option maxRecDepth 100000 in
set_option maxHeartbeats 8000000 in
theorem span_params {B : Nat} (zw za zr : Int) (w : World) (hg : Glob B w) :
    Calls Try.prog 8 #[.int .i64 zw, .int .i64 za, .int .i64 zr] w fun e w' => e = .returned (.bool true) ∧ Below w.heap.size w w' := by
  have haw := awake11_any w hg
  go_enter Try.func8, Try.ntmps8
  go_upto_region 2 with (first | (go_at_call 9; refine haw.mono ?_; rintro e w2 ⟨rfl, hb2⟩))
  have HB2 : Hid _ := hb2
  clear hb2 haw
  by_cases g1 : zw < 1
  · go_wp2
    go_ret
    exact ⟨rfl, HB2.out⟩
  by_cases g2 : 6 < zw
  · go_wp2
    go_ret
    exact ⟨rfl, HB2.out⟩
  by_cases g3 : za < 0
  · go_wp2
    go_ret
    exact ⟨rfl, HB2.out⟩
  by_cases g4 : 50 < za
  · go_wp2
    go_ret
    exact ⟨rfl, HB2.out⟩
  by_cases g5 : zr < 0
  · go_wp2
    go_ret
    exact ⟨rfl, HB2.out⟩
  obtain ⟨W, rfl⟩ : ∃ n : Nat, zw = n := ⟨zw.toNat, by omega⟩
  obtain ⟨m, rfl⟩ : ∃ n : Nat, za = n := ⟨za.toNat, by omega⟩
  obtain ⟨rr, rfl⟩ : ∃ n : Nat, zr = n := ⟨zr.toNat, by omega⟩
  have hW1 : 1 ≤ W := by omega
  have hW : W ≤ 6 := by omega
  have hm : m ≤ 50 := by omega
  obtain ⟨k, hk, hkW⟩ : ∃ k : Nat, ((rr : Int) % (W : Int)) = (k : Int) ∧ k < W := ⟨rr % W, by omega, Nat.mod_lt _ (by omega)⟩
  have hz0 : ((W : Int) == 0) = false := by rw [beq_eq_false_iff_ne]; omega
  have htm : Int.tmod (rr : Int) (W : Int) = (k : Int) := by rw [Int.tmod_eq_emod_of_nonneg (by omega)]; exact hk
  have hmk := fun w => make_tys w W hW
  have HWS : Hid _ := WP.start w2 W
  go_upto_region 5 with fail
  go_upto_region 6 with fail
  generalize World.alloc (World.alloc w2 _) _ = w3 at HWS ⊢
  clear hmk hk htm hz0 g1 g2 g3 g4 g5
  go_upto_region 7 with fail
  go_loopw [10] (fun i wr => ∃ (k' : Nat) (vx : Option Addr) (vc : Nat), k' ≤ m ∧ i = .int .i64 k' ∧ WP w2 W k' (List.replicate k' (ciX W)) vx vc wr) (fun i _ => m - (intOf i).toNat)
  case atStart => exact ⟨0, _, _, Nat.zero_le _, rfl, HWS.out⟩
  case round =>
    obtain ⟨k', vx, vc, hk', rfl, hA⟩ := hrel
    have HA : Hid _ := hA
    obtain ⟨k0, k1, k2, k3, k4⟩ := five hA.box
    have hfz := brow_free hA.box 4
    obtain ⟨cs, hown, hlay⟩ := hA.cells
    have HL : Hid _ := hlay
    by_cases hlt : k' < m
    · have hO : Hid (List.replicate (k' + 1) (ciX W) = List.replicate k' (ciX W) ++ [ciX W]) := List.replicate_succ'
      have hsrc : Src Try.prog 9 23 (.slice (some ⟨wr.heap.size, 0, none⟩) 1 1) 1 (irCells (ciX W) none 0) (wr.alloc (.cells #[.int .i64 1, .int .i64 0, .int .i64 (W : Int), .int .i64 0, .int .i64 0, .int .i64 0, .int .u32 0, .string ⟨#[]⟩, .slice none 0 0] 43)) := src_atP (z := ciX W) (heap_alloc_new wr _)
      have HK : Hid (Kept (fun _ => False) wr (wr.alloc (.cells #[.int .i64 1, .int .i64 0, .int .i64 (W : Int), .int .i64 0, .int .i64 0, .int .i64 0, .int .u32 0, .string ⟨#[]⟩, .slice none 0 0] 43))) := Kept.alloc wr _ _
      have hownA := own_kept hown HK.out (fun _ _ e => e)
      have hbs : w2.heap.size + 2 ≤ (wr.alloc (.cells #[.int .i64 1, .int .i64 0, .int .i64 (W : Int), .int .i64 0, .int .i64 0, .int .i64 0, .int .u32 0, .string ⟨#[]⟩, .slice none 0 0] 43)).heap.size := by have h1 := lt_of_some HA.out.box; have h2 := HK.out.size; omega
      clear hA hlay hown hfz k0 k1 k2 k3
      go_upto_region 8 with (first | (at_builtin; refine wpList_append_big ir_info rfl Try.underlying23 (by decide) _ rfl _ _ rfl (w2.heap.size + 2) (.slice vx k' vc) k' cs rfl hownA _ 1 (irCells (ciX W) none 0) rfl hsrc (by omega) hbs ?_; intro y c1 w1 hown1 hgrow hat; have hgr := (HA.out.grown HK.out hgrow).1; have e5 := brow_free hgr 4; have e7 := (five hgr).2.2.2.2))
      have HP : Hid _ := HA.out.push HK.out HL.out hown1 hgrow rfl (by show (0 : Nat) < 4294967296; decide)
      rw [← hO.out] at HP
      clear hown1 hgrow hat hgr e5 e7 hownA hsrc hbs HK HL HA
      go_wp2_with fail
      go_roundw
      case rel => exact ⟨k' + 1, y, c1, by omega, by go_num, HP.out⟩
      case measure => simp [intOf]; omega
    · obtain rfl : k' = m := by omega
      have hsrc : Src Try.prog 9 23 (.slice (some ⟨wr.heap.size, 0, none⟩) 1 1) 1 (irCells (reX k) none 0) (wr.alloc (.cells #[.int .i64 10, .int .i64 0, .int .i64 0, .int .i64 (k : Int), .int .i64 0, .int .i64 0, .int .u32 0, .string ⟨#[]⟩, .slice none 0 0] 43)) := src_atP (z := reX k) (heap_alloc_new wr _)
      have HK : Hid (Kept (fun _ => False) wr (wr.alloc (.cells #[.int .i64 10, .int .i64 0, .int .i64 0, .int .i64 (k : Int), .int .i64 0, .int .i64 0, .int .u32 0, .string ⟨#[]⟩, .slice none 0 0] 43))) := Kept.alloc wr _ _
      have hownA := own_kept hown HK.out (fun _ _ e => e)
      have hbs : w2.heap.size + 2 ≤ (wr.alloc (.cells #[.int .i64 10, .int .i64 0, .int .i64 0, .int .i64 (k : Int), .int .i64 0, .int .i64 0, .int .u32 0, .string ⟨#[]⟩, .slice none 0 0] 43)).heap.size := by have h1 := lt_of_some HA.out.box; have h2 := HK.out.size; omega
      clear hA hlay hown hfz k0 k1 k2 k3
      go_upto_region 11 with (first | (at_builtin; refine wpList_append_big ir_info rfl Try.underlying23 (by decide) _ rfl _ _ rfl (w2.heap.size + 2) (.slice vx k' vc) k' cs rfl hownA _ 1 (irCells (reX k) none 0) rfl hsrc (by omega) hbs ?_; intro y c1 w1 hown1 hgrow hat; have hgr := (HA.out.grown HK.out hgrow).1; have e5 := brow_free hgr 4; have e7 := (five hgr).2.2.2.2))
      have hP : WP w2 W (k' + 1) (parL W k' k) y c1 _ := HA.out.push (z := reX k) HK.out HL.out hown1 hgrow rfl (by show (0 : Nat) < 4294967296; decide)
      clear hown1 hgrow hat hgr e5 e7 hownA hsrc hbs HK HL HA k4
      generalize World.setCell w1 _ _ = v5 at hP ⊢
      obtain ⟨ay, cy, ey, hrowY, hcy⟩ := kIr.own_rd (T := fun _ => True) hP.out (fun _ _ => trivial) (fun _ _ => trivial)
      injection ey with ey1 ey2 ey3
      subst ey1
      subst ey3
      have HB5 : Hid _ := bl_then HB2.out hP.below
      have hfo := par_spans hW hm hkW (hg.below HB5.out) hP.tys hrowY (by rw [parL_len] at hcy; exact hcy)
      obtain ⟨k0, k1, k2, k3, k4⟩ := five hP.box
      clear hP hrowY ey2
      go_upto_region 12 with (first | (go_at_call 12; refine hfo.mono ?_; rintro e w6 ⟨⟨b2, rfl, hp6, hz6⟩, hb6⟩))
      have HB6 : Hid _ := bl_then HB5.out hb6
      have HP6 : Hid _ := hp6
      clear hfo k0 k1 k2 k3 k4 hp6 hz6 hb6
      go_upto_region 15 with fail
      have hLL : (spanL (parC W k' k) (W + 1)).length = W + 1 := spanL_len _ _
      have hLG : ∀ (r : Nat) (h : r < (spanL (parC W k' k) (W + 1)).length), (spanL (parC W k' k) (W + 1))[r] = spanN (parC W k' k) r := fun r h => by simp [spanL]
      generalize spanL (parC W k' k) (W + 1) = L at HP6 hLL hLG
      have HLL : Hid _ := hLL
      have HLG : Hid _ := hLG
      have hq := eq_sp
      clear hLL hLG
      go_loopw [12] (fun j wi => ∃ r : Nat, r ≤ W ∧ j = .int .i64 r ∧ Below w6.heap.size w6 wi) (fun j _ => W - (intOf j).toNat)
      case atStart => exact ⟨0, Nat.zero_le _, rfl, Below.refl _ _⟩
      case round =>
        obtain ⟨r, hr, rfl, hbl⟩ := hrel
        have hpr := (hbl.block _ (lt_of_some HP6.out)).trans HP6.out
        have HBL : Hid _ := hbl
        by_cases hrl : r < W
        · have hrl2 : r < L.length := by rw [HLL.out]; omega
          have hp7 := fun v => (heap_alloc_old wr (.cells #[.int .i64 (-1), .int .i64 v] 26) (lt_of_some hpr)).trans hpr
          have hcc := fun v => sp_cell (hp7 v) r hrl2
          rw [HLG.out r hrl2, span_par hrl] at hcc
          have hi0 : (0 : Int) ≤ (r : Int) := by omega
          have hi1 : (r : Int) < (W : Int) + 1 := by omega
          have hi2 : (r : Int) < (W : Int) := by omega
          have hbn := fun v => bl_then hbl (bl_alloc (Below.refl wr.heap.size wr) (.cells #[.int .i64 (-1), .int .i64 v] 26))
          have HBN : Hid _ := hbn
          clear hbl hpr hp7 hbn
          by_cases hrk : r = k
          · subst hrk
            have hkk : ((r : Int) == (r : Int)) = true := beq_self_eq_true _
            obtain ⟨c0, c1⟩ := hcc (k' : Int)
            simp only [if_true] at c1
            have n0 := heap_alloc_new wr (.cells #[.int .i64 (-1), .int .i64 (k' : Int)] 26)
            obtain ⟨x0, x1⟩ := two_at2 n0
            clear hcc n0
            go_upto_region 20 with fail
            have hb8 := HBN.out (k' : Int)
            generalize wr.alloc (.cells #[.int .i64 (-1), .int .i64 (k' : Int)] 26) = w8 at c0 c1 x0 x1 hb8 ⊢
            have HB8 : Hid _ := bl_then hb8 (drewB w8)
            clear hb8 HBN
            go_region
            all_goals
              go_wp2_with fail
              go_roundw
              case rel => exact ⟨r + 1, by omega, by go_num, HB8.out⟩
              case measure => simp [intOf]; omega
          · have hrk' : ((r : Int) == (k : Int)) = false := by rw [beq_eq_false_iff_ne]; omega
            obtain ⟨c0, c1⟩ := hcc (-1)
            simp only [if_neg hrk] at c1
            have n0 := heap_alloc_new wr (.cells #[.int .i64 (-1), .int .i64 (-1)] 26)
            obtain ⟨x0, x1⟩ := two_at2 n0
            clear hcc n0
            go_upto_region 20 with fail
            have hb8 := HBN.out (-1)
            generalize wr.alloc (.cells #[.int .i64 (-1), .int .i64 (-1)] 26) = w8 at c0 c1 x0 x1 hb8 ⊢
            have HB8 : Hid _ := bl_then hb8 (drewB w8)
            clear hb8 HBN
            go_region
            all_goals
              go_wp2_with fail
              go_roundw
              case rel => exact ⟨r + 1, by omega, by go_num, HB8.out⟩
              case measure => simp [intOf]; omega
        · obtain rfl : r = W := by omega
          have hrl2 : r < L.length := by rw [HLL.out]; omega
          obtain ⟨c0, c1⟩ := sp_cell hpr r hrl2
          rw [HLG.out r hrl2, span_parW hkW] at c0 c1
          have HBE : Hid _ := bl_then HB6.out hbl
          have hi0 : (0 : Int) ≤ (r : Int) := by omega
          have hi1 : (r : Int) < (r : Int) + 1 := by omega
          clear hbl hpr
          by_cases hm0 : k' = 0
          · subst hm0
            simp only [if_true] at c0 c1
            go_wp2_with fail
            go_ret
            exact ⟨rfl, HBE.out⟩
          · simp only [if_neg hm0] at c0 c1
            have hm1 : ((k' : Int) == 0) = false := by rw [beq_eq_false_iff_ne]; omega
            go_wp2_with fail
            go_ret
            exact ⟨rfl, HBE.out⟩
end Go.Proofs.Ytkbanngbchhgaaa
