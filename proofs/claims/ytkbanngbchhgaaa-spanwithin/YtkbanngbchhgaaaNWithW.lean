/- THE WALK of SpanWithin. -/
import Derived.Test.YtkbanngbchhgaaaNAwake
import Derived.Test.YtkbanngbchhgaaaNWithM
import Derived.Test.YtkbanngbchhgaaaNCalls
import Derived.Test.YtkbanngbchhgaaaIRRight
import Derived.Test.YtkbanngbchhgaaaIRef2
import Derived.Test.YtkbanngbchhgaaaILight
import Derived.Deep.RegionHeld3
import Derived.BigRegion
namespace Go.Proofs.Ytkbanngbchhgaaa
open Go.ChangeShapes Go.WideShapes Go.ChangeAt Go.RowKit

/-- The function, its spans and the two rows of bools in memory. -/
structure WiAt (w : World) (c : Co) (pa : Option Addr) (pc : Nat) (la : Option Addr) (lc pb f1 f2 : Nat) (L1 L2 : List Bool) (wr : World) : Prop where
  hx : wr.heap[w.heap.size]? = some (coO c pa pc la lc)
  hp : wr.heap[pb]? = some (spB (spansM c))
  h1 : wr.heap[f1]? = some (.cells (bvs L1) 4)
  h2 : wr.heap[f2]? = some (.cells (bvs L2) 4)
  n1 : w.heap.size < f1
  n2 : f1 < f2
  n3 : pb < f1
  bl : Below w.heap.size w wr
theorem WiAt.on {w wr w' : World} {c : Co} {pa la : Option Addr} {pc lc pb f1 f2 : Nat} {L1 L2 : List Bool} (h : WiAt w c pa pc la lc pb f1 f2 L1 L2 wr) (hb : Below wr.heap.size wr w') : WiAt w c pa pc la lc pb f1 f2 L1 L2 w' :=
  ⟨(hb.block _ (lt_of_some h.hx)).trans h.hx, (hb.block _ (lt_of_some h.hp)).trans h.hp, (hb.block _ (lt_of_some h.h1)).trans h.h1, (hb.block _ (lt_of_some h.h2)).trans h.h2, h.n1, h.n2, h.n3, bl_then h.bl hb⟩
theorem WiAt.set1 {w wr : World} {c : Co} {pa la : Option Addr} {pc lc pb f1 f2 : Nat} {L1 L2 : List Bool} (h : WiAt w c pa pc la lc pb f1 f2 L1 L2 wr) (r : Nat) (b : Bool) : WiAt w c pa pc la lc pb f1 f2 (L1.set r b) L2 (wr.setCell ⟨f1, r, none⟩ (.bool b)) :=
  ⟨(setCell_other (by have := h.n1; omega)).trans h.hx, (setCell_other (by have := h.n3; omega)).trans h.hp, by rw [setCell_at h.h1, bvs_set], (setCell_other (by have := h.n2; omega)).trans h.h2, h.n1, h.n2, h.n3, bl_set h.bl f1 r _ (by have := h.n1; omega)⟩
theorem WiAt.set2 {w wr : World} {c : Co} {pa la : Option Addr} {pc lc pb f1 f2 : Nat} {L1 L2 : List Bool} (h : WiAt w c pa pc la lc pb f1 f2 L1 L2 wr) (r : Nat) (b : Bool) : WiAt w c pa pc la lc pb f1 f2 L1 (L2.set r b) (wr.setCell ⟨f2, r, none⟩ (.bool b)) :=
  ⟨(setCell_other (by have := h.n1; have := h.n2; omega)).trans h.hx, (setCell_other (by have := h.n3; have := h.n2; omega)).trans h.hp, (setCell_other (by have := h.n2; omega)).trans h.h1, by rw [setCell_at h.h2, bvs_set], h.n1, h.n2, h.n3, bl_set h.bl f2 r _ (by have := h.n1; have := h.n2; omega)⟩

theorem lay_any {W W' : World} {S T : Nat → Prop} : ∀ {l : List Int} {cs : List Value}, kInt.lay W S cs l → kInt.lay W' T cs l
  | [], _, h => h
  | y :: l, _, h => by
    obtain ⟨c1, ys, rfl, hC, hr⟩ := h
    exact ⟨c1, ys, rfl, hC, lay_any hr⟩
theorem src_int (w : World) (x : Int) : Src Try.prog 1 39 (.slice (some ⟨w.heap.size, 0, none⟩) 1 1) 1 [.int .i64 x] (w.alloc (.cells #[.int .i64 x] 3)) :=
  Src.ofSlice _ Try.underlying39 ⟨w.heap.size, 0, none⟩ 1 1 [.int .i64 x] rfl (World.news_of_block (cs := #[.int .i64 x]) (t := 3) (fr := (0, 0)) (heap_alloc_new w _)) (by simp [Value.oneCell'])
set_option maxRecDepth 100000 in
set_option maxHeartbeats 8000000 in
theorem span_within {B : Nat} (c : Co) (pa : Option Addr) (pc : Nat) (la : Option Addr) (lc : Nat) (w : World) (hg : Glob B w) (hin : CoIn w (fun _ => True) c pa pc la lc) :
    Calls Try.prog 5 #[coV c pa pc la lc] w fun e w' => e = .returned (.bool true) ∧ Below w.heap.size w w' := by
  have hx0 := heap_alloc_new w (coO c pa pc la lc)
  have hB0 := bl_alloc (Below.refl w.heap.size w) (coO c pa pc la lc)
  unfold coV
  go_enter Try.func5, Try.ntmps5
  go_upto_region 2 with (first | (go_at_call 9; refine (awake11_any _ (hg.alloc _)).mono ?_; rintro e w2 ⟨rfl, hb2⟩))
  have hB2 := bl_then hB0 hb2
  have hX2 : w2.heap[w.heap.size]? = some (coO c pa pc la lc) := (hb2.block _ (lt_of_some hx0)).trans hx0
  have hlt2 := lt_of_some hX2
  have hrow3 : kCo.row (w2.alloc (coO c pa pc la lc)) (fun _ => True) (some ⟨w2.heap.size, 0, none⟩) [c] := co_oneG (coIn_on hin (bl_alloc hB2 _)) trivial (heap_alloc_new w2 _)
  have hli := light_any _ _ [c] 1 hrow3
  have hB3 := bl_alloc hB2 (coO c pa pc la lc)
  have hX3 : (w2.alloc (coO c pa pc la lc)).heap[w.heap.size]? = some (coO c pa pc la lc) := (heap_alloc_old w2 _ hlt2).trans hX2
  obtain ⟨k0, k1, k2, k3, k4⟩ := co_block hX2
  have HX : Hid _ := hX3
  have HB : Hid _ := hB3
  clear hx0 hB0 hb2 hB2 hX2 hlt2 hrow3 hB3 hX3
  rcases nL : lightB [c] with _ | _ <;> rw [nL] at hli
  · go_upto_region 3 with (first | (go_at_call 10; refine hli.mono ?_; rintro e w4 ⟨rfl, hb4⟩))
    have hB4 := Lib.hid (bl_then HB.out hb4)
    clear hb4 hli
    go_wp2
    go_ret
    exact ⟨rfl, hB4.out⟩
  obtain ⟨l1, l2, hok, l4⟩ := light_oneG nL
  go_upto_region 3 with (first | (go_at_call 10; refine hli.mono ?_; rintro e w4 ⟨rfl, hb4⟩))
  have hB4 := bl_then HB.out hb4
  have hX4 : w4.heap[w.heap.size]? = some (coO c pa pc la lc) := (hb4.block _ (lt_of_some HX.out)).trans HX.out
  obtain ⟨k0, k1, k2, k3, k4⟩ := co_block hX4
  have HX4 : Hid _ := hX4
  have HB4 : Hid _ := hB4
  clear hB4 hb4 hli HX HB
  by_cases h500 : 500 < c.regs
  · clear hX4
    go_wp2
    go_ret
    exact ⟨rfl, HB4.out⟩
  have hri := refRight_any c pa pc la lc w4 (coIn_on hin HB4.out) hok (by omega) (by omega)
  unfold coV at hri
  by_cases hr : (rightR c).1 = 0
  · have hsp := fun w5 (hb5 : Below w4.heap.size w4 w5) => spans_yes c pa pc la lc w5 (coIn_on hin (bl_then HB4.out hb5)) hok (hg.below (bl_then HB4.out hb5)) hr
    rw [hr] at hri
    generalize (rightR c).2 = e2 at hri
    unfold coV at hsp
    obtain ⟨hp6, hlp, hl4, hws, hr4⟩ := right_bds hr
    obtain ⟨n, hn⟩ : ∃ n : Nat, c.regs = n := ⟨c.regs.toNat, by omega⟩
    have hnt : c.regs.toNat = n := by omega
    have hRI := regs_in hr
    have hSL : (spansM c).length = n := by rw [spansM_length]; exact hnt
    have hSG : ∀ (r : Nat) (hr : r < (spansM c).length), (spansM c)[r] = spanN c r := fun r h => spansM_get c r (by omega) fun y hy x hx => (hRI y hy x hx).1
    rw [hnt] at hsp
    have HN : Hid _ := hn
    have HRI : Hid _ := hRI
    have HSL : Hid _ := hSL
    have HSG : Hid _ := hSG
    clear hX4 hr hnt hRI hSL hSG hp6
    have hn1 : n ≤ 10000 := by omega
    clear hws hn hr4
    go_upto_region 6 with (first | (go_at_call 18; refine hri.mono ?_; rintro e w5 ⟨rfl, hb5⟩))
    have hs5 := hsp w5 hb5
    have hX5 := (hb5.block _ (lt_of_some HX4.out)).trans HX4.out
    have hB5 := bl_then HB4.out hb5
    obtain ⟨k0, k1, k2, k3, k4⟩ := co_block hX5
    have HX5 : Hid _ := hX5
    have HB5 : Hid _ := hB5
    clear hsp hri hb5 hX5 HB4 HX4 hB5
    go_upto_region 7 with (first | (go_at_call 12; refine hs5.mono ?_; rintro e w6 ⟨⟨pb, rfl, hp6, hz6⟩, hb6⟩))
    have hX6 := (hb6.block _ (lt_of_some HX5.out)).trans HX5.out
    rw [coO_of, HN.out] at hX6
    have hB6 := bl_then HB5.out hb6
    have hw5 : w.heap.size ≤ pb := Nat.le_trans HB5.out.size hz6
    obtain ⟨k0, k1, k2, k3, k4⟩ := five hX6
    have HX6 : Hid _ := hX6
    have HB6 : Hid _ := hB6
    have HP6 : Hid _ := hp6
    have HL6 : Hid (pb < w6.heap.size) := lt_of_some hp6
    clear hs5 hb6 hX6 hB6 hp6 HX5 HB5 hz6
    have hmk := fun w => run_make_row' (P := Try.prog) 38 4 (.bool false) 1 Try.underlying38 bool_info rfl .i64 .i64 n (w := w) (by omega) (by omega)
    simp only [made_bools] at hmk
    have e2x : ∀ o : Obj, (w6.alloc o).cell? ⟨w.heap.size, 2, none⟩ = some (.int .i64 (n : Int)) := fun o => alloc_cell o k2
    go_upto_region 13 with fail
    obtain ⟨g1, g2, gb, gz⟩ := two_box' w6 (.cells (bvs (List.replicate n false)) 4) (.cells (bvs (List.replicate n false)) 4)
    have hx8 := (gb.block _ (lt_of_some HX6.out)).trans HX6.out
    have hp8 := (gb.block _ (lt_of_some HP6.out)).trans HP6.out
    have hxl := lt_of_some HX6.out
    have hpl := HL6.out
    have hW8 : WiAt w c pa pc la lc pb w6.heap.size (w6.heap.size + 1) (rowB (fstB c 0 []) n) (rowB (lstB c 0 []) n) ((w6.alloc (.cells (bvs (List.replicate n false)) 4)).alloc (.cells (bvs (List.replicate n false)) 4)) :=
      ⟨by rw [coO_of, HN.out]; exact hx8, hp8, by rw [rowB_congr fun j _ => fst_zero c j, ← rowB_false]; exact g1, by rw [rowB_congr fun j _ => lst_zero c j, ← rowB_false]; exact g2, hxl, by omega, hpl, bl_then HB6.out gb⟩
    have HW8 : Hid _ := hW8
    clear hmk e2x k0 k1 k2 k3 k4 g1 g2 gb gz hx8 hp8 hxl hpl hW8 HX6 HP6 HB6
    generalize (w6.alloc (.cells (bvs (List.replicate n false)) 4)).alloc (.cells (bvs (List.replicate n false)) 4) = w8 at HW8 ⊢
    obtain ⟨f2, hf2⟩ : ∃ f2, w6.heap.size + 1 = f2 := ⟨_, rfl⟩
    rw [hf2] at HW8 ⊢
    clear hf2 HL6
    generalize w6.heap.size = f1 at HW8 ⊢
    have HI : Hid _ := hin
    clear hin hw5
    go_upto_region 14 with fail
    go_loopw [10] (fun i wr => ∃ k : Nat, k ≤ c.l.length ∧ i = .int .i64 k ∧ WiAt w c pa pc la lc pb f1 f2 (rowB (fstB c k []) n) (rowB (lstB c k []) n) wr) (fun i _ => c.l.length - (intOf i).toNat)
    case atStart => exact ⟨0, Nat.zero_le _, rfl, HW8.out⟩
    case round =>
      obtain ⟨k, hk, rfl, hwi⟩ := hrel
      obtain ⟨wO, hwO⟩ : ∃ wO, wO = wr := ⟨wr, rfl⟩
      subst hwO
      obtain ⟨k0, k1, k2, k3, k4⟩ := co_block hwi.hx
      have HWI : Hid _ := hwi
      by_cases hlt : k < c.l.length
      · have hrow : kIr.row wO (fun _ => True) la c.l := (coIn_on HI.out hwi.bl).l
        obtain ⟨b, q, ga, gc, rfl, hS, hb, hia, hgc, hny, hrw⟩ := ir_at hrow k hlt
        have hSI := span_in c k
        have hFN := fun r => fst_next c k r hlt
        have hLN := fun r => lst_next c k r hlt
        have hTL : (touL c.l[k]).length ≤ 10000 := by have := touL_len c.l[k]; have := l4 c.l[k] (List.getElem_mem hlt); omega
        have hRR : ∀ r ∈ touL c.l[k], 0 ≤ r ∧ r < (n : Int) := fun r hr => by have := HRI.out c.l[k] (List.getElem_mem hlt) r ((touch_regs _ _).1 ((touL_mem _ _).1 hr)); rw [HN.out] at this; exact this
        have hRL : (readsL c.l[k]).length ≤ 1000 := by have := readsL_len c.l[k]; have := l4 c.l[k] (List.getElem_mem hlt); omega
        have HSI : Hid (∀ r : Nat, (r : Int) ∈ touL c.l[k] → (spanN c r).1 ≤ (k : Int) ∧ (k : Int) ≤ (spanN c r).2) := fun r h => hSI r hlt h
        have HFN : Hid _ := hFN
        have HLN : Hid _ := hLN
        clear hSI hFN hLN
        generalize c.l[k] = y at hia hgc hny hrw hTL hRR hRL HSI HFN HLN
        obtain ⟨e0, e1, e2, e3, e4, e5, e6, e7, e8⟩ := hia
        have HIA : Hid (∀ W, Below wO.heap.size wO W → IrAt W b (q + k * 9) y ga gc) := fun W hW => (IrAt.mk e0 e1 e2 e3 e4 e5 e6 e7 e8).keep (hW.block b hb)
        have hread := refReads_any (S := fun _ => True) y ga gc wO hrw hgc
        unfold irV at hread
        have hk1 : (k : Int) < (c.l.length : Int) := by omega
        have HTL : Hid _ := hTL
        have HRR : Hid _ := hRR
        clear hwi hrow hS hb hny hrw hTL hRR hgc
        go_upto_region 17 with fail
        go_upto_region 18 with (first | (go_at_call 19; refine hread.mono ?_; rintro e w7 ⟨⟨v, rfl, ra, rc, rfl, hrr, hrc⟩, hb7⟩; obtain ⟨cs, hlay, hsrc⟩ := kInt.src (c := rc) (tx := 39) Try.underlying39 hrr; have hsz7 := hb7.size) | (at_builtin; refine wpList_append_src int_info rfl Try.underlying39 (by decide) _ rfl _ _ rfl wO.heap.size (Value.slice none 0 0) 0 [] rfl (World.ownsRow_nil _ _ _ _) _ (readsL y).length cs rfl hsrc (by omega) hsz7 ?_; intro y1 c1 w9 hown hgrow hat))
        have hb79 : Below w7.heap.size w7 w9 := Kept.to_below ((Kept.of_grown hgrow).mono fun k _ e => by simp [Value.ownBlock] at e) (fun _ h => h)
        have hB9 := bl_then hb7 hb79
        have hown9 : w9.ownsRow wO.heap.size 3 1 (.slice y1 (readsL y).length c1) (readsL y).length cs := by simpa using hown
        have hW9 := HWI.out.on hB9
        obtain ⟨k0, k1, k2, k3, k4⟩ := co_block hW9.hx
        obtain ⟨e0, e1, e2, e3, e4, e5, e6, e7, e8⟩ := HIA.out w9 hB9
        have hwr := refWrites_any y ga gc w9
        unfold irV at hwr
        have HB9 : Hid _ := hB9
        have HW9 : Hid _ := hW9
        have HO9 : Hid _ := hown9
        have HLY : Hid (kInt.lay w9 (fun _ => True) cs (readsL y)) := kInt.lay_mono hlay fun b _ hlt => ⟨trivial, hb79.block b hlt⟩
        have HTE : Hid (touL y = readsL y ++ (if writesB y then [y.d] else [])) := rfl
        clear hread hb7 hrr hrc hsrc hlay hsz7 hown hgrow hat hb79 hB9 hW9 hown9
        rcases nW : writesB y with _ | _ <;> rw [nW] at hwr
        case' false =>
          go_upto_region 21 with (first | (go_at_call 20; refine hwr.mono ?_; rintro e w10 ⟨rfl, hb10⟩))
          have hWT := HW9.out.on hb10
          have ho10 := own_kept HO9.out (Below.kept hb10 (fun _ => False)) fun _ _ h => h
          have hrd : kInt.rd w10 (fun b => wO.heap.size ≤ b) (.slice y1 (readsL y).length c1) (readsL y) := kInt.own_rd (t := 3) (S := fun b => wO.heap.size ≤ b) ⟨cs, ho10, lay_any HLY.out⟩ (fun _ h => h) fun g hg => (World.ownsRow.lt ho10 g hg).1
          have hT : touL y = readsL y := by rw [HTE.out, if_neg (by simp [nW]), List.append_nil]
          rw [← hT] at hrd ⊢
          obtain ⟨ty, tc, he, hrt, _⟩ := hrd
          obtain ⟨rfl, rfl⟩ : y1 = ty ∧ c1 = tc := by simpa using he
          have HWT : Hid _ := hWT
          have HRT : Hid _ := hrt
          have HWB : Hid (wO.heap.size ≤ w10.heap.size) := Nat.le_trans HB9.out.size hb10.size
          clear hwr hb10 hWT ho10 hT he hrt HW9 HO9 HLY HTE nW k0 k1 k2 k3 k4 e0 e1 e2 e3 e4 e5 e6 e7 e8 hRL
          generalize touL y = T at HTL HRR HSI HFN HLN HRT ⊢
          generalize y1 = ty at HRT ⊢
          generalize c1 = tc
          generalize w10 = wT at HWT HRT HWB ⊢
        case' true =>
          go_upto_region 20 with (first | (go_at_call 20; refine hwr.mono ?_; rintro e w10 ⟨rfl, hb10⟩))
          have ho10 := own_kept (own_kept HO9.out (Below.kept hb10 (fun _ => False)) fun _ _ h => h) (Below.kept (bl_alloc (Below.refl w10.heap.size w10) (.cells #[.int .i64 y.d] 3)) (fun _ => False)) fun _ _ h => h
          have hW10 := HW9.out.on hb10
          obtain ⟨k0, k1, k2, k3, k4⟩ := co_block hW10.hx
          obtain ⟨e0, e1, e2, e3, e4, e5, e6, e7, e8⟩ := HIA.out w10 (bl_then HB9.out hb10)
          have hsrc := src_int w10 y.d
          have hsz10 : wO.heap.size ≤ (w10.alloc (.cells #[.int .i64 y.d] 3)).heap.size := by have := HB9.out.size; have := hb10.size; simp; omega
          have hBA := bl_alloc (bl_then HB9.out hb10) (.cells #[.int .i64 y.d] 3)
          have HBA : Hid _ := hBA
          have HOA : Hid _ := ho10
          clear hwr hW10 hBA hb10
          go_upto_region 21 with (first | (at_builtin; refine wpList_append_src int_info rfl Try.underlying39 (by decide) _ rfl _ _ rfl wO.heap.size (Value.slice y1 (readsL y).length c1) (readsL y).length cs rfl ho10 _ 1 [.int .i64 y.d] rfl hsrc (by omega) hsz10 ?_; intro y2 c2 w11 hown hgrow hat))
          have hb11 : Below wO.heap.size wO w11 := Kept.to_below ((Below.kept HBA.out (fun k => wO.heap.size ≤ k)).trans ((Kept.of_grown hgrow).mono fun k _ e => (World.ownsRow.lt HOA.out k e).1)) fun _ h => h
          have hlen : (readsL y ++ [y.d]).length = (readsL y).length + 1 := by simp
          have hown2 : w11.ownsRow wO.heap.size 3 1 (.slice y2 (readsL y ++ [y.d]).length c2) (readsL y ++ [y.d]).length (cs ++ [.int .i64 y.d]) := by rw [hlen]; exact hown
          have hrd : kInt.rd w11 (fun b => wO.heap.size ≤ b) (.slice y2 (readsL y ++ [y.d]).length c2) (readsL y ++ [y.d]) := kInt.own_rd (t := 3) (S := fun b => wO.heap.size ≤ b) (l := readsL y ++ [y.d]) ⟨_, hown2, kInt.lay_snoc rfl (lay_any HLY.out)⟩ (fun _ h => h) fun g hg => (World.ownsRow.lt hown2 g hg).1
          have hT : touL y = readsL y ++ [y.d] := by rw [HTE.out, if_pos nW]
          have hTl : (readsL y).length + 1 = (touL y).length := by rw [hT]; simp
          rw [← hT] at hrd
          rw [hTl]
          obtain ⟨ty, tc, he, hrt, _⟩ := hrd
          obtain ⟨rfl, rfl⟩ : y2 = ty ∧ c2 = tc := by simpa using he
          have HWT : Hid _ := HWI.out.on hb11
          have HRT : Hid _ := hrt
          have HWB : Hid (wO.heap.size ≤ w11.heap.size) := hb11.size
          clear hb11 hT hTl he hrt hlen hown2 HW9 HO9 HLY HTE nW k0 k1 k2 k3 k4 e0 e1 e2 e3 e4 e5 e6 e7 e8 hRL ho10 hsrc hsz10 HBA HOA hown hgrow hat
          generalize touL y = T at HTL HRR HSI HFN HLN HRT ⊢
          generalize y2 = ty at HRT ⊢
          generalize c2 = tc
          generalize w11 = wT at HWT HRT HWB ⊢
        all_goals
          go_upto_region 22 with fail
          have HZ : Hid (f2 < wO.heap.size) := lt_of_some HWI.out.h2
          clear HWI
          go_loopw [13] (fun j wi => ∃ t : Nat, t ≤ T.length ∧ j = .int .i64 t ∧ WiAt w c pa pc (some ⟨b, q, none⟩) lc pb f1 f2 (rowB (fstB c k (T.take t)) n) (rowB (lstB c k (T.take t)) n) wi ∧ kInt.row wi (fun b => wO.heap.size ≤ b) ty T) (fun j _ => T.length - (intOf j).toNat)
          case atStart => exact ⟨0, Nat.zero_le _, rfl, HWT.out, HRT.out⟩
          case round =>
            obtain ⟨t, ht, rfl, hwt, hrt⟩ := hrel
            have HWT2 : Hid _ := hwt
            have HRT2 : Hid _ := hrt
            by_cases htl : t < T.length
            · obtain ⟨b2, q2, rfl, hS2, hb2, hc2⟩ := int_at hrt t htl
              have hmem := List.getElem_mem htl
              obtain ⟨hr0, hr1⟩ := HRR.out T[t] hmem
              have htk : T.take (t + 1) = T.take t ++ [T[t]] := List.take_succ_eq_append_getElem htl
              obtain ⟨r, hr⟩ : ∃ r : Nat, T[t] = r := ⟨T[t].toNat, by omega⟩
              rw [hr] at hmem hr0 hr1 htk hc2
              obtain ⟨hs1, hs2⟩ := HSI.out r hmem
              have hrn : r < n := by omega
              have hrl : r < (spansM c).length := by rw [HSL.out]; exact hrn
              obtain ⟨d0, d1⟩ := sp_cell hwt.hp r hrl
              rw [HSG.out r hrl] at d0 d1
              have e1 := brow_cell hwt.h1 (k := r) (by rw [rowB_len]; exact hrn)
              have e2 := brow_cell hwt.h2 (k := r) (by rw [rowB_len]; exact hrn)
              rw [rowB_get] at e1 e2
              have hF1 := fun b => hwt.set1 r b
              have HP1 : Hid (∀ b, b = fstB c k (T.take (t + 1)) r → (rowB (fstB c k (T.take t)) n).set r b = rowB (fstB c k (T.take (t + 1))) n) := fun b hb => rowB_set _ _ n r b hb fun j hj => by rw [htk]; exact fst_other c k r j _ hj
              have HP2 : Hid (∀ b, b = lstB c k (T.take (t + 1)) r → (rowB (lstB c k (T.take t)) n).set r b = rowB (lstB c k (T.take (t + 1))) n) := fun b hb => rowB_set _ _ n r b hb fun j hj => by rw [htk]; exact lst_other c k r j _ hj
              have hq1 := fst_push c k r (T.take t)
              have hq2 := lst_push c k r (T.take t)
              rw [← htk] at hq1 hq2
              generalize (spanN c r).1 = s1 at hs1 d0 hq1
              generalize (spanN c r).2 = s2 at hs2 d1 hq2
              generalize fstB c k (T.take t) r = a1 at e1 hq1
              generalize lstB c k (T.take t) r = a2 at e2 hq2
              have ht1 : (t : Int) < (T.length : Int) := by omega
              have hs1' : ¬ (k : Int) < s1 := by omega
              have hS2' : wO.heap.size ≤ b2 := hS2
              have htl2 := HTL.out
              have hs2' : ¬ s2 < (k : Int) := by omega
              have HQ1 : Hid _ := hq1
              have HQ2 : Hid _ := hq2
              clear hwt hrt hmem htk hr hrl hF1 hq1 hq2
              go_upto_region 27 with fail
              have hb13 := bl_alloc (Below.refl wr.heap.size wr) (.cells #[.int .i64 s1, .int .i64 s2] 26)
              have hx13 := heap_alloc_new wr (.cells #[.int .i64 s1, .int .i64 s2] 26)
              have hW13 := HWT2.out.on hb13
              have hr13 : kInt.row (wr.alloc (.cells #[.int .i64 s1, .int .i64 s2] 26)) (fun b => wO.heap.size ≤ b) (some ⟨b2, q2, none⟩) T := kInt.row_mono (by decide) HRT2.out fun b hb hlt => ⟨hb, hb13.block b hlt⟩
              have hX1 : wr.heap.size ≠ f1 := by have := lt_of_some HWT2.out.h1; omega
              have hX2 : wr.heap.size ≠ f2 := by have := lt_of_some HWT2.out.h2; omega
              have e1' := alloc_cell (.cells #[.int .i64 s1, .int .i64 s2] 26) e1
              have e2' := alloc_cell (.cells #[.int .i64 s1, .int .i64 s2] 26) e2
              have hc2' := alloc_cell (.cells #[.int .i64 s1, .int .i64 s2] 26) hc2
              clear e1 e2 hc2 d0 d1
              generalize wr.alloc (.cells #[.int .i64 s1, .int .i64 s2] 26) = w13 at hx13 hW13 hr13 e1' e2' hc2' ⊢
              generalize wr.heap.size = X at hx13 hX1 hX2 ⊢
              have fz1 := brow_free hW13.h1 r
              obtain ⟨x0, x1⟩ := two_cells hx13
              have i0 : (0 : Int) ≤ (r : Int) := by omega
              have i1 : (r : Int) < (n : Int) := by omega
              have HW13 : Hid _ := hW13
              have HR13 : Hid _ := hr13
              have HX13 : Hid _ := hx13
              clear hW13 hr13 hx13 hb13 hs1' hs2'
              rcases a1 with _ | _
              · go_region
                have hW14 := (HW13.out.set1 r ((k : Int) == s1)).on (drewB _)
                rw [HP1.out _ (by rw [← HQ1.out]; rfl)] at hW14
                have hr14 : kInt.row (w13.setCell ⟨f1, r, none⟩ (.bool ((k : Int) == s1))).drew (fun b => wO.heap.size ≤ b) (some ⟨b2, q2, none⟩) T := kInt.row_mono (by decide) HR13.out fun b hb _ => ⟨hb, setCell_other (by have := HZ.out; have := HW13.out.n2; omega)⟩
                have hx14 : (w13.setCell ⟨f1, r, none⟩ (.bool ((k : Int) == s1))).drew.heap[X]? = some _ := (setCell_other hX1).trans HX13.out
                have c14 : (w13.setCell ⟨f1, r, none⟩ (.bool ((k : Int) == s1))).drew.cell? ⟨b2, q2 + t, none⟩ = some (.int .i64 (r : Int)) := (World.cell?_of_block (setCell_other (w := w13) (b := f1) (k := b2) (by have := HZ.out; have := HW13.out.n2; omega))).trans hc2'
                have e14 : (w13.setCell ⟨f1, r, none⟩ (.bool ((k : Int) == s1))).drew.cell? ⟨f2, r, none⟩ = some (.bool a2) := (World.cell?_of_block (setCell_other (w := w13) (b := f1) (k := f2) (by have := HW13.out.n2; omega))).trans e2'
                clear e1' e2' hc2' x0 x1 fz1 HW13 HR13 HX13
                generalize (w13.setCell ⟨f1, r, none⟩ (.bool ((k : Int) == s1))).drew = w14 at hW14 hr14 hx14 c14 e14 ⊢
                have fz2 := brow_free hW14.h2 r
                obtain ⟨y0, y1⟩ := two_cells hx14
                have HW14 : Hid _ := hW14
                have HR14 : Hid _ := hr14
                clear hW14 hr14 hx14
                go_upto_region 28 with fail
                rcases a2 with _ | _
                · go_region
                  have hW15 := (HW14.out.set2 r ((k : Int) == s2)).on (drewB _)
                  rw [HP2.out _ (by rw [← HQ2.out]; rfl)] at hW15
                  have hr15 : kInt.row (w14.setCell ⟨f2, r, none⟩ (.bool ((k : Int) == s2))).drew (fun b => wO.heap.size ≤ b) (some ⟨b2, q2, none⟩) T := kInt.row_mono (by decide) HR14.out fun b hb _ => ⟨hb, setCell_other (by have := HZ.out; omega)⟩
                  generalize (w14.setCell ⟨f2, r, none⟩ (.bool ((k : Int) == s2))).drew = w15 at hW15 hr15 ⊢
                  have HW15 : Hid _ := hW15
                  have HR15 : Hid _ := hr15
                  clear hW15 hr15 c14 e14 fz2 y0 y1
                  go_wp2_with fail
                  go_roundw
                  case rel => exact ⟨t + 1, by omega, by go_num, HW15.out, HR15.out⟩
                  case measure => simp [intOf]; omega
                · go_region
                  have hW15 := (HW14.out.set2 r (true)).on (drewB _)
                  rw [HP2.out _ (by rw [← HQ2.out]; rfl)] at hW15
                  have hr15 : kInt.row (w14.setCell ⟨f2, r, none⟩ (.bool (true))).drew (fun b => wO.heap.size ≤ b) (some ⟨b2, q2, none⟩) T := kInt.row_mono (by decide) HR14.out fun b hb _ => ⟨hb, setCell_other (by have := HZ.out; omega)⟩
                  generalize (w14.setCell ⟨f2, r, none⟩ (.bool (true))).drew = w15 at hW15 hr15 ⊢
                  have HW15 : Hid _ := hW15
                  have HR15 : Hid _ := hr15
                  clear hW15 hr15 c14 e14 fz2 y0 y1
                  go_wp2_with fail
                  go_roundw
                  case rel => exact ⟨t + 1, by omega, by go_num, HW15.out, HR15.out⟩
                  case measure => simp [intOf]; omega
              · go_region
                have hW14 := (HW13.out.set1 r (true)).on (drewB _)
                rw [HP1.out _ (by rw [← HQ1.out]; rfl)] at hW14
                have hr14 : kInt.row (w13.setCell ⟨f1, r, none⟩ (.bool (true))).drew (fun b => wO.heap.size ≤ b) (some ⟨b2, q2, none⟩) T := kInt.row_mono (by decide) HR13.out fun b hb _ => ⟨hb, setCell_other (by have := HZ.out; have := HW13.out.n2; omega)⟩
                have hx14 : (w13.setCell ⟨f1, r, none⟩ (.bool (true))).drew.heap[X]? = some _ := (setCell_other hX1).trans HX13.out
                have c14 : (w13.setCell ⟨f1, r, none⟩ (.bool (true))).drew.cell? ⟨b2, q2 + t, none⟩ = some (.int .i64 (r : Int)) := (World.cell?_of_block (setCell_other (w := w13) (b := f1) (k := b2) (by have := HZ.out; have := HW13.out.n2; omega))).trans hc2'
                have e14 : (w13.setCell ⟨f1, r, none⟩ (.bool (true))).drew.cell? ⟨f2, r, none⟩ = some (.bool a2) := (World.cell?_of_block (setCell_other (w := w13) (b := f1) (k := f2) (by have := HW13.out.n2; omega))).trans e2'
                clear e1' e2' hc2' x0 x1 fz1 HW13 HR13 HX13
                generalize (w13.setCell ⟨f1, r, none⟩ (.bool (true))).drew = w14 at hW14 hr14 hx14 c14 e14 ⊢
                have fz2 := brow_free hW14.h2 r
                obtain ⟨y0, y1⟩ := two_cells hx14
                have HW14 : Hid _ := hW14
                have HR14 : Hid _ := hr14
                clear hW14 hr14 hx14
                go_upto_region 28 with fail
                rcases a2 with _ | _
                · go_region
                  have hW15 := (HW14.out.set2 r ((k : Int) == s2)).on (drewB _)
                  rw [HP2.out _ (by rw [← HQ2.out]; rfl)] at hW15
                  have hr15 : kInt.row (w14.setCell ⟨f2, r, none⟩ (.bool ((k : Int) == s2))).drew (fun b => wO.heap.size ≤ b) (some ⟨b2, q2, none⟩) T := kInt.row_mono (by decide) HR14.out fun b hb _ => ⟨hb, setCell_other (by have := HZ.out; omega)⟩
                  generalize (w14.setCell ⟨f2, r, none⟩ (.bool ((k : Int) == s2))).drew = w15 at hW15 hr15 ⊢
                  have HW15 : Hid _ := hW15
                  have HR15 : Hid _ := hr15
                  clear hW15 hr15 c14 e14 fz2 y0 y1
                  go_wp2_with fail
                  go_roundw
                  case rel => exact ⟨t + 1, by omega, by go_num, HW15.out, HR15.out⟩
                  case measure => simp [intOf]; omega
                · go_region
                  have hW15 := (HW14.out.set2 r (true)).on (drewB _)
                  rw [HP2.out _ (by rw [← HQ2.out]; rfl)] at hW15
                  have hr15 : kInt.row (w14.setCell ⟨f2, r, none⟩ (.bool (true))).drew (fun b => wO.heap.size ≤ b) (some ⟨b2, q2, none⟩) T := kInt.row_mono (by decide) HR14.out fun b hb _ => ⟨hb, setCell_other (by have := HZ.out; omega)⟩
                  generalize (w14.setCell ⟨f2, r, none⟩ (.bool (true))).drew = w15 at hW15 hr15 ⊢
                  have HW15 : Hid _ := hW15
                  have HR15 : Hid _ := hr15
                  clear hW15 hr15 c14 e14 fz2 y0 y1
                  go_wp2_with fail
                  go_roundw
                  case rel => exact ⟨t + 1, by omega, by go_num, HW15.out, HR15.out⟩
                  case measure => simp [intOf]; omega
            · obtain rfl : t = T.length := by omega
              have hw1 := hwt
              rw [List.take_length, rowB_congr fun j _ => HFN.out j, rowB_congr fun j _ => HLN.out j] at hw1
              have HW1 : Hid _ := hw1
              clear hwt hrt hw1
              go_wp2_with fail
              go_roundw
              case rel => exact ⟨k + 1, by omega, by go_num, HW1.out⟩
              case measure => simp [intOf]; omega
      · obtain rfl : k = c.l.length := by omega
        have hE := fun r => span_end c r
        have HE : Hid _ := hE
        have hz1 : ¬ ((c.l.length : Nat) : Int) < ((c.l.length : Nat) : Int) := by omega
        clear hwi hE
        go_upto_region 30 with fail
        go_loopw [15] (fun j wi => ∃ r : Nat, r ≤ n ∧ j = .int .i64 r ∧ WiAt w c pa pc la lc pb f1 f2 (rowB (fstB c c.l.length []) n) (rowB (lstB c c.l.length []) n) wi) (fun j _ => n - (intOf j).toNat)
        case atStart => exact ⟨0, Nat.zero_le _, rfl, HWI.out⟩
        case round =>
          obtain ⟨r, hrle, rfl, hwt⟩ := hrel
          have hX := hwt.hx
          rw [coO_of, HN.out] at hX
          obtain ⟨k0, k1, k2, k3, k4⟩ := five hX
          have HWT : Hid _ := hwt
          clear hX
          by_cases hrn : r < n
          · have hrl : r < (spansM c).length := by rw [HSL.out]; exact hrn
            obtain ⟨d0, d1⟩ := sp_cell hwt.hp r hrl
            rw [HSG.out r hrl] at d0 d1
            have e1 := brow_cell hwt.h1 (k := r) (by rw [rowB_len]; exact hrn)
            have e2 := brow_cell hwt.h2 (k := r) (by rw [rowB_len]; exact hrn)
            rw [rowB_get] at e1 e2
            obtain ⟨g1, g2, g3, g4⟩ := HE.out r
            generalize (spanN c r).1 = s1 at d0 g1 g2 g4
            generalize (spanN c r).2 = s2 at d1 g1 g3
            generalize fstB c c.l.length [] r = a1 at e1 g4
            generalize lstB c c.l.length [] r = a2 at e2 g3
            have e1' := alloc_cell (.cells #[.int .i64 s1, .int .i64 s2] 26) e1
            have e2' := alloc_cell (.cells #[.int .i64 s1, .int .i64 s2] 26) e2
            have HW2 : Hid _ := HWT.out.on (bl_alloc (Below.refl wr.heap.size wr) (.cells #[.int .i64 s1, .int .i64 s2] 26))
            have i1 : (r : Int) < (n : Int) := by omega
            have i2 : ¬ s2 < s1 := by omega
            clear hwt hrl e1 e2 g1
            by_cases z2 : 0 ≤ s2
            · obtain rfl := g3 z2
              by_cases z1 : 0 ≤ s1
              · obtain rfl := g4 z1
                clear g3 g4
                go_wp2_with fail
                go_roundw
                case rel => exact ⟨r + 1, by omega, by go_num, HW2.out⟩
                case measure => simp [intOf]; omega
              · clear g3 g4
                go_wp2_with fail
                go_roundw
                case rel => exact ⟨r + 1, by omega, by go_num, HW2.out⟩
                case measure => simp [intOf]; omega
            · have z1 : ¬ 0 ≤ s1 := by omega
              clear g3 g4
              go_wp2_with fail
              go_roundw
              case rel => exact ⟨r + 1, by omega, by go_num, HW2.out⟩
              case measure => simp [intOf]; omega
          · obtain rfl : r = n := by omega
            have hbe := hwt.bl
            have HBE : Hid _ := hbe
            clear hwt hbe
            go_wp2_with fail
            go_ret
            exact ⟨rfl, HBE.out⟩
  · have hsp := fun w5 (hb5 : Below w4.heap.size w4 w5) => spans_no c pa pc la lc w5 (coIn_on hin (bl_then HB4.out hb5)) hok (hg.below (bl_then HB4.out hb5)) hr
    have hr' : ((rightR c).1 == 0) = false := by simpa using hr
    generalize (rightR c).1 = e1 at hri hr'
    generalize (rightR c).2 = e2 at hri
    unfold coV at hsp
    clear hX4 hr
    go_upto_region 6 with (first | (go_at_call 18; refine hri.mono ?_; rintro e w5 ⟨rfl, hb5⟩))
    have hs5 := hsp w5 hb5
    have hX5 := (hb5.block _ (lt_of_some HX4.out)).trans HX4.out
    obtain ⟨k0, k1, k2, k3, k4⟩ := co_block hX5
    have HB5 : Hid _ := bl_then HB4.out hb5
    clear hsp hri hb5 hX5 HB4 HX4
    go_wp2_with (first | (go_at_call 12; refine hs5.mono ?_; rintro e w6 ⟨rfl, hb6⟩))
    go_ret
    exact ⟨rfl, bl_then HB5.out hb6⟩
end Go.Proofs.Ytkbanngbchhgaaa
