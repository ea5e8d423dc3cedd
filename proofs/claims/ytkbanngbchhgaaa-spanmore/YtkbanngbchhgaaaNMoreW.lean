/- THE WALK of SpanMore. -/
import Derived.Test.YtkbanngbchhgaaaNAwake
import Derived.Test.YtkbanngbchhgaaaNSame
import Derived.Test.YtkbanngbchhgaaaNCalls
import Derived.Test.YtkbanngbchhgaaaNWithM
import Derived.Test.YtkbanngbchhgaaaILight
import Derived.Deep.RegionHeld3
namespace Go.Proofs.Ytkbanngbchhgaaa
open Go.ChangeShapes Go.WideShapes Go.ChangeAt Go.RowKit

/-- A register more. -/
def moreC (c : Co) : Co := { c with regs := c.regs + 1 }
theorem fault_more {c : Co} {i : Nat} {y : Ir} (h : faultN c i y = 0) : faultN (moreC c) i y = 0 := by
  have h1 := irOk_of h
  unfold faultN
  have hin : ∀ r, (0 ≤ r ∧ r < c.regs) → inB (moreC c).regs r = true := fun r hr => by unfold inB moreC; simp only [decide_eq_true_eq]; omega
  have h2 : ((readsL y).all (inB (moreC c).regs) && (!writesB y || inB (moreC c).regs y.d)) = true := by
    rw [Bool.and_eq_true, List.all_eq_true]
    refine ⟨fun r hr => hin r (h1.reads r hr), ?_⟩
    rcases hw : writesB y with _ | _
    · rfl
    · rw [hin y.d (h1.writes hw)]; rfl
  rw [h1.known, h2]
  unfold faultN at h
  have h3 : ((readsL y).all (inB c.regs) && (!writesB y || inB c.regs y.d)) = true := by
    rw [Bool.and_eq_true, List.all_eq_true]
    refine ⟨fun r hr => by unfold inB; simpa using h1.reads r hr, ?_⟩
    rcases hw : writesB y with _ | _
    · rfl
    · unfold inB; simpa using h1.writes hw
  rw [h1.known, h3] at h
  exact h
theorem faultFrom_more {c : Co} : ∀ {l : List Ir} {i : Nat}, (faultFrom c i l).1 = 0 → (faultFrom (moreC c) i l).1 = 0
  | [], _, _ => rfl
  | y :: l, i, h => by
    unfold faultFrom at h ⊢
    by_cases hf : faultN c i y = 0
    · rw [if_pos hf] at h
      rw [if_pos (fault_more hf)]
      exact faultFrom_more h
    · rw [if_neg hf] at h; exact absurd h hf
theorem right_more {c : Co} (h : (rightR c).1 = 0) (h5 : c.regs ≤ 500) : (rightR (moreC c)).1 = 0 := by
  have hf := right_form h
  have hf2 : formB (moreC c) = true := by
    unfold formB moreC at *
    simp only [Bool.and_eq_true, decide_eq_true_eq] at hf ⊢
    obtain ⟨⟨⟨⟨⟨⟨⟨⟨h1, h2⟩, h3⟩, h4⟩, h5⟩, h6⟩, h7⟩, h8⟩, h9⟩ := hf
    exact ⟨⟨⟨⟨⟨⟨⟨⟨h1, h2⟩, h3⟩, h4⟩, h5⟩, by omega⟩, by omega⟩, h8⟩, h9⟩
  unfold rightR at h ⊢
  rw [if_pos hf] at h
  rw [if_pos hf2]
  exact faultFrom_more h
theorem spanN_more (c : Co) (r : Nat) : spanN (moreC c) r = spanN c r := rfl
theorem spanR_none (r : Int) : ∀ (l : List Ir) (k : Nat), (∀ y ∈ l, touchB y r = false) → spanR r k l = (-1, -1)
  | [], _, _ => rfl
  | y :: l, k, h => by
    unfold spanR
    rw [if_neg (by rw [h y (by simp)]; simp)]
    exact spanR_none r l (k + 1) fun z hz => h z (by simp [hz])
theorem spans_more {c : Co} (h : (rightR c).1 = 0) (h5 : c.regs ≤ 500) : spansM (moreC c) = spansM c ++ [(-1, -1)] := by
  have hRI := regs_in h
  have hR2 := regs_in (right_more h h5)
  obtain ⟨_, _, _, hws, _⟩ := right_bds h
  have hlen : (spansM (moreC c)).length = c.regs.toNat + 1 := by
    rw [spansM_length]
    show (c.regs + 1).toNat = _
    omega
  apply List.ext_getElem
  · rw [hlen, List.length_append, spansM_length]; rfl
  · intro r h1 h2
    rw [spansM_get (moreC c) r (by rw [spansM_length] at h1; exact h1) fun y hy x hx => (hR2 y hy x hx).1, spanN_more]
    by_cases hr : r < c.regs.toNat
    · rw [List.getElem_append_left (by rw [spansM_length]; exact hr), spansM_get c r hr fun y hy x hx => (hRI y hy x hx).1]
    · have hrn : r = c.regs.toNat := by rw [hlen] at h1; omega
      rw [List.getElem_append_right (by rw [spansM_length]; omega)]
      have hs : spanR (r : Int) 0 c.l = (-1, -1) := spanR_none _ _ _ fun y hy => by
        rcases ht : touchB y (r : Int) with _ | _
        · rfl
        · have := (hRI y hy (r : Int) ((touch_regs _ _).1 ht)).2; omega
      unfold spanN
      rw [hs]
      simp
theorem src_row {W : World} {b : Nat} {l : List (Int × Int)} (h : W.heap[b]? = some (spB l)) : Src Try.prog 2 31 (.slice (some ⟨b, 0, none⟩) l.length l.length) l.length (pcs l) W :=
  Src.ofSlice W Try.underlying31 ⟨b, 0, none⟩ _ _ (pcs l) (pcs_length l) (fun j u hj => by
    have e : (⟨b, 0, none⟩ : Addr).add j = ⟨b, 0 + j, none⟩ := by unfold Addr.add; split <;> simp_all
    rw [e]
    simp [World.cell?, h, hj]) (pcs_one l)
theorem src_sp (w : World) (a b : Int) : Src Try.prog 2 31 (.slice (some ⟨w.heap.size, 0, none⟩) 1 1) 1 [.int .i64 a, .int .i64 b] (w.alloc (.cells #[.int .i64 a, .int .i64 b] 26)) :=
  Src.ofSlice _ Try.underlying31 ⟨w.heap.size, 0, none⟩ 1 1 [.int .i64 a, .int .i64 b] rfl (World.news_of_block (cs := #[.int .i64 a, .int .i64 b]) (t := 26) (fr := (0, 0)) (heap_alloc_new w _)) (by simp [Value.oneCell'])
theorem more_grown1 {w8 w10 : World} (h : (w8.alloc (.cells #[] 26)).grownBy w10 (Value.slice (some ⟨w8.heap.size, 0, none⟩) 0 0).ownBlock) : Below w8.heap.size w8 w10 :=
  Kept.to_below ((Below.kept (bl_alloc (Below.refl w8.heap.size w8) _) (fun k => w8.heap.size ≤ k)).trans ((Kept.of_grown h).mono fun k _ e => by
    have : w8.heap.size = k := by simpa [Value.ownBlock] using e
    omega)) fun _ h => h
theorem more_grown2 {w8 wa w12 : World} {v : Value} {e : TypeId} {sz n : Nat} {xs : List Value} (hb : Below w8.heap.size w8 wa) (ho : wa.ownsRow w8.heap.size e sz v n xs) (h : wa.grownBy w12 v.ownBlock) : Below w8.heap.size w8 w12 :=
  Kept.to_below ((Below.kept hb (fun k => w8.heap.size ≤ k)).trans ((Kept.of_grown h).mono fun k _ e => (World.ownsRow.lt ho k e).1)) fun _ h => h
theorem more_row {W : World} {base n : Nat} {l : List (Int × Int)} {y : Option Addr} {c : Nat} {xs : List Value} (hl : l.length = n + 1) (hx : pcs l = xs) (h : W.ownsRow base 26 2 (.slice y (n + 1) c) (n + 1) xs) : kSp.row W (fun b => base ≤ b) y l := by
  subst hx
  rw [← hl] at h
  obtain ⟨y', c', he, hr, _⟩ := kSp.own_rd (t := 26) (w := W) (S := fun b => base ≤ b) (T := fun b => base ≤ b) (l := l) ⟨pcs l, h, pcs_lay l⟩ (fun _ h => h) fun g hg => (World.ownsRow.lt h g hg).1
  obtain ⟨rfl, rfl⟩ : y = y' ∧ c = c' := by simpa using he
  exact hr
set_option maxRecDepth 100000 in
set_option maxHeartbeats 8000000 in
theorem span_more {B : Nat} (c : Co) (pa : Option Addr) (pc : Nat) (la : Option Addr) (lc : Nat) (w : World) (hg : Glob B w) (hin : CoIn w (fun _ => True) c pa pc la lc) :
    Calls Try.prog 6 #[coV c pa pc la lc] w fun e w' => e = .returned (.bool true) ∧ Below w.heap.size w w' := by
  have hx0 := heap_alloc_new w (coO c pa pc la lc)
  have hB0 := bl_alloc (Below.refl w.heap.size w) (coO c pa pc la lc)
  unfold coV
  go_enter Try.func6, Try.ntmps6
  go_upto_region 2 with (first | (go_at_call 9; refine (awake11_any _ (hg.alloc _)).mono ?_; rintro e w2 ⟨rfl, hb2⟩))
  have hB2 := bl_then hB0 hb2
  have hX2 : w2.heap[w.heap.size]? = some (coO c pa pc la lc) := (hb2.block _ (lt_of_some hx0)).trans hx0
  have hlt2 := lt_of_some hX2
  have hrow3 : kCo.row (w2.alloc (coO c pa pc la lc)) (fun _ => True) (some ⟨w2.heap.size, 0, none⟩) [c] := co_oneG (coIn_on hin (bl_alloc hB2 _)) trivial (heap_alloc_new w2 _)
  have hli := light_any _ _ [c] 1 hrow3
  have hB3 := bl_alloc hB2 (coO c pa pc la lc)
  have hX3 : (w2.alloc (coO c pa pc la lc)).heap[w.heap.size]? = some (coO c pa pc la lc) := (heap_alloc_old w2 _ hlt2).trans hX2
  obtain ⟨k0, k1, k2, k3, k4⟩ := co_block hX2
  have HX : Hid _ := hX3
  have HB : Hid _ := hB3
  clear hx0 hB0 hb2 hB2 hX2 hlt2 hrow3 hB3 hX3
  rcases nL : lightB [c] with _ | _ <;> rw [nL] at hli
  · go_upto_region 3 with (first | (go_at_call 10; refine hli.mono ?_; rintro e w4 ⟨rfl, hb4⟩))
    have hB4 := Lib.hid (bl_then HB.out hb4)
    clear hb4 hli
    go_wp2
    go_ret
    exact ⟨rfl, hB4.out⟩
  obtain ⟨l1, l2, hok, l4⟩ := light_oneG nL
  go_upto_region 3 with (first | (go_at_call 10; refine hli.mono ?_; rintro e w4 ⟨rfl, hb4⟩))
  have hB4 := bl_then HB.out hb4
  have hX4 : w4.heap[w.heap.size]? = some (coO c pa pc la lc) := (hb4.block _ (lt_of_some HX.out)).trans HX.out
  obtain ⟨k0, k1, k2, k3, k4⟩ := co_block hX4
  have HX4 : Hid _ := hX4
  have HB4 : Hid _ := hB4
  clear hB4 hb4 hli HX HB
  by_cases h500 : 500 < c.regs
  · clear hX4
    go_wp2
    go_ret
    exact ⟨rfl, HB4.out⟩
  have hri := right_any c pa pc la lc w4 (coIn_on hin HB4.out) hok (hg.below HB4.out)
  unfold coV at hri
  clear hX4
  by_cases hr : (rightR c).1 = 0
  · have hsp := fun w5 (hb5 : Below w4.heap.size w4 w5) => spans_yes c pa pc la lc w5 (coIn_on hin (bl_then HB4.out hb5)) hok (hg.below (bl_then HB4.out hb5)) hr
    have hin2 : ∀ w5, Below w.heap.size w w5 → CoIn w5 (fun _ => True) (moreC c) pa pc la lc := fun w5 hb5 => by
      have := coIn_on hin hb5
      exact ⟨this.pc, this.lc, this.ps, this.l⟩
    have hok2 : CoOk (moreC c) := ⟨hok.name, hok.ins⟩
    have hsp2 := fun w5 (hb5 : Below w.heap.size w w5) => spans_yes (moreC c) pa pc la lc w5 (hin2 w5 hb5) hok2 (hg.below hb5) (right_more hr (by omega))
    have hME := spans_more hr (by omega)
    obtain ⟨_, _, _, hws, _⟩ := right_bds hr
    obtain ⟨n, hn⟩ : ∃ n : Nat, c.regs = n := ⟨c.regs.toNat, by omega⟩
    have hnt : c.regs.toNat = n := by omega
    have hnt2 : (moreC c).regs.toNat = n + 1 := by show (c.regs + 1).toNat = n + 1; omega
    have hSL : (spansM c).length = n := by rw [spansM_length]; exact hnt
    rw [hr] at hri
    rw [hnt] at hsp
    rw [hnt2, hME] at hsp2
    generalize spansM c = sl at hsp hsp2 hSL
    generalize (rightR c).2 = e2 at hri
    unfold coV at hsp hsp2
    have hm2 : (moreC c).regs = (n : Int) + 1 := by show c.regs + 1 = _; omega
    rw [hm2] at hsp2
    simp only [moreC] at hsp2
    have hn1 : n ≤ 500 := by omega
    have HN : Hid _ := hn
    have HSP : Hid _ := hsp
    have HS2 : Hid _ := hsp2
    have HSL : Hid _ := hSL
    clear hr hME hws hn hnt hnt2 hsp hsp2 hin2 hSL
    go_upto_region 8 with (first | (go_at_call 21; refine hri.mono ?_; rintro e w5 ⟨rfl, hb5⟩))
    have hs5 := HSP.out w5 hb5
    have HX5 : Hid _ := (hb5.block _ (lt_of_some HX4.out)).trans HX4.out
    have HB5 : Hid _ := hb5
    obtain ⟨k0, k1, k2, k3, k4⟩ := co_block HX5.out
    clear hri hb5 HX4 HSP
    go_upto_region 9 with (first | (go_at_call 12; refine hs5.mono ?_; rintro e w6 ⟨⟨pb, rfl, hp6, hz6⟩, hb6⟩))
    have hX6 := (hb6.block _ (lt_of_some HX5.out)).trans HX5.out
    rw [coO_of, HN.out] at hX6
    have HB6 : Hid _ := bl_then HB5.out hb6
    have hwp : w.heap.size ≠ pb := by have := lt_of_some HX5.out; omega
    obtain ⟨k0, k1, k2, k3, k4⟩ := five hX6
    have f2 := brow_free hX6 2
    have hX7 := setCell_at (o := 2) (v := .int .i64 ((n : Int) + 1)) hX6
    have hp7 := (setCell_other (w := w6) (b := w.heap.size) (o := 2) (v := .int .i64 ((n : Int) + 1)) hwp.symm).trans hp6
    have hB7 : Below w.heap.size w (w6.setCell ⟨w.heap.size, 2, none⟩ (.int .i64 ((n : Int) + 1))) := bl_set (bl_then HB4.out HB6.out) _ 2 _ (Nat.le_refl _)
    have HX7 : Hid _ := hX7
    have HP7 : Hid _ := hp7
    have HB7 : Hid _ := hB7
    clear hs5 hb6 hX6 hX7 hp6 hp7 hB7 HX5 HB5 hz6
    go_upto_region 10 with fail
    have hs7 := HS2.out _ HB7.out
    obtain ⟨k0, k1, k2, k3, k4⟩ := five HX7.out
    generalize w6.setCell ⟨w.heap.size, 2, none⟩ (.int .i64 ((n : Int) + 1)) = w7 at hs7 HX7 HP7 HB7 k0 k1 k2 k3 k4 ⊢
    clear HS2 f2
    go_upto_region 11 with (first | (go_at_call 12; refine hs7.mono ?_; rintro e w8 ⟨⟨p2, rfl, hp8, hz8⟩, hb8⟩))
    have hpb8 := (hb8.block _ (lt_of_some HP7.out)).trans HP7.out
    have HB8 : Hid _ := bl_then HB7.out hb8
    have HP8 : Hid _ := hp8
    have hof := own_fresh w8 w8.heap.size 26 2 (Nat.le_refl _)
    have hsrc : Src Try.prog 2 31 (.slice (some ⟨pb, 0, none⟩) n n) n (pcs sl) (w8.alloc (.cells #[] 26)) := by
      have := src_row ((heap_alloc_old w8 (.cells #[] 26) (lt_of_some hpb8)).trans hpb8)
      rw [HSL.out] at this
      exact this
    have hlen : (sl ++ [((-1 : Int), (-1 : Int))]).length = n + 1 := by simp [HSL.out]
    have HLEN : Hid _ := hlen
    have HPC : Hid (pcs (sl ++ [((-1 : Int), (-1 : Int))]) = pcs sl ++ [.int .i64 (-1), .int .i64 (-1)]) := by show _ = _; rw [pcs_append]; rfl
    clear hs7 hb8 hpb8 hp8 hz8 HX7 HP7 HB7 HB6 hlen k0 k1 k2 k3 k4
    go_upto_region 12 with (first
      | (at_builtin; refine wpList_append_src sp_info rfl Try.underlying31 (by decide) _ rfl _ _ rfl w8.heap.size (Value.slice (some ⟨w8.heap.size, 0, none⟩) 0 0) 0 [] rfl hof _ n (pcs sl) rfl hsrc (by omega) (by simp) ?_; intro y c1 w10 hown hgrow hat; have hown1 : w10.ownsRow w8.heap.size 26 2 (.slice y n c1) n (pcs sl) := (by simpa using hown); have hb10 : Below w8.heap.size w8 w10 := (more_grown1 hgrow); have hof2 := own_kept hown1 (Below.kept (bl_alloc (Below.refl w10.heap.size w10) (.cells #[.int .i64 (-1), .int .i64 (-1)] 26)) (fun _ => False)) (fun _ _ h => h); have hsrc2 := src_sp w10 (-1) (-1); have hsz2 : w8.heap.size ≤ (w10.alloc (.cells #[.int .i64 (-1), .int .i64 (-1)] 26)).heap.size := (by have := hb10.size; simp; omega))
      | (at_builtin; refine wpList_append_src sp_info rfl Try.underlying31 (by decide) _ rfl _ _ rfl w8.heap.size (Value.slice y n c1) n (pcs sl) rfl hof2 _ 1 [.int .i64 (-1), .int .i64 (-1)] rfl hsrc2 (by omega) hsz2 ?_; intro y2 c2 w12 hown2 hgrow2 hat2; have hb12 : Below w8.heap.size w8 w12 := (more_grown2 (bl_alloc hb10 _) hof2 hgrow2); have hsm := sameSp_any (S1 := fun _ => True) (S2 := fun b => w8.heap.size ≤ b) w12 (some ⟨p2, 0, none⟩) y2 (sl ++ [((-1 : Int), (-1 : Int))]) (n + 1) c2 (sp_row ((hb12.block _ (lt_of_some HP8.out)).trans HP8.out) trivial) (more_row HLEN.out HPC.out hown2) (by rw [HLEN.out]; omega); rw [HLEN.out] at hsm)
      | (go_at_call 11; refine hsm.mono ?_; rintro e w13 ⟨rfl, hb13⟩))
    have HB13 : Hid _ := bl_then HB8.out (bl_then hb12 hb13)
    clear hsm hown hgrow hat hown1 hb10 hof2 hsrc2 hsz2 hown2 hgrow2 hat2 hb12 hb13 hof hsrc
    go_wp2_with fail
    go_ret
    exact ⟨rfl, HB13.out⟩
  · have hr' : ((rightR c).1 == 0) = false := by simpa using hr
    generalize (rightR c).1 = e1 at hri hr'
    generalize (rightR c).2 = e2 at hri
    clear hr
    go_wp2_with (first | (go_at_call 21; refine hri.mono ?_; rintro e w5 ⟨rfl, hb5⟩))
    go_ret
    exact ⟨rfl, bl_then HB4.out hb5⟩
end Go.Proofs.Ytkbanngbchhgaaa
