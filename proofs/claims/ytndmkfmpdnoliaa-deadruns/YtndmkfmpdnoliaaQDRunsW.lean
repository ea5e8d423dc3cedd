/- THE WALK of DeadRuns. -/
import Derived.Test.YtndmkfmpdnoliaaDAwake
import Derived.Test.YtndmkfmpdnoliaaDRunM
import Derived.Test.YtndmkfmpdnoliaaQRun
import Derived.Test.YtndmkfmpdnoliaaISame
import Derived.Test.YtndmkfmpdnoliaaIApp2
namespace Go.Proofs.Ytndmkfmpdnoliaa
open Go.ChangeShapes Go.WideShapes Go.ChangeAt Go.RowKit

theorem co_blD {w w' : World} {S : Nat → Prop} {a : Option Addr} {l : List Co} (h : kCo.row w S a l) (hb : Below w.heap.size w w') : kCo.row w' (fun _ => True) a l := kCo.row_mono (by decide) h fun b _ hlt => ⟨trivial, hb.block b hlt⟩
theorem wd_blD {w w' : World} {a : Option Addr} {l : List Nat} (h : kWd.row w (fun _ => True) a l) (hb : Below w.heap.size w w') : kWd.row w' (fun _ => True) a l := kWd.row_mono (by decide) h fun b _ hlt => ⟨trivial, hb.block b hlt⟩
theorem src_coD (w : World) (x : Co) (qa : Option Addr) (qc : Nat) (ra : Option Addr) (rc : Nat) : Src Try.prog 5 22 (.slice (some ⟨w.heap.size, 0, none⟩) 1 1) 1 (coCells x qa qc ra rc) (w.alloc (coO x qa qc ra rc)) :=
  Src.ofSlice _ Try.underlying22 ⟨w.heap.size, 0, none⟩ 1 1 (coCells x qa qc ra rc) rfl (World.news_of_block (cs := (coCells x qa qc ra rc).toArray) (t := 39) (fr := (0, 0)) (heap_alloc_new w _)) (by simp [coCells, Value.oneCell'])
theorem dropC_all {l : List Co} (h : ∀ c ∈ l, CoOk c) : ∀ c ∈ l.map dropC, CoOk c := fun c hc => by
  obtain ⟨c', hc', rfl⟩ := List.mem_map.1 hc
  exact dropC_ok (h c' hc')
set_option maxRecDepth 100000 in
set_option maxHeartbeats 8000000 in
theorem dead_runs {B : Nat} (a : Option Addr) (l : List Co) (cp : Nat) (aa : Option Addr) (ar : List Nat) (ac : Nat) (w : World) (hg : Glob B w) (hrow : kCo.row w (fun _ => True) a l) (har : kWd.row w (fun _ => True) aa ar) (hac : ar.length ≤ ac) (hd64 : ∀ c ∈ l, D64 c.l) :
    Calls Try.prog 6 #[.slice a l.length cp, .slice aa ar.length ac] w fun e w' => e = .returned (.bool true) ∧ Below w.heap.size w w' := by
  have haw := awake10_any w hg
  go_enter Try.func6, Try.ntmps6
  go_upto_region 2 with (first | (go_at_call 16; refine haw.mono ?_; rintro e w2 ⟨rfl, hb2⟩))
  have hli := light_any _ _ l cp (co_blD hrow hb2)
  rcases nL : lightB l with _ | _ <;> rw [nL] at hli
  · go_upto_region 3 with (first | (go_at_call 11; refine hli.mono ?_; rintro e w3 ⟨rfl, hb3⟩))
    have hB := Lib.hid (bl_then hb2 hb3)
    clear hb2 hb3 hli
    go_wp2
    go_ret
    exact ⟨rfl, hB.out⟩
  obtain ⟨hlen, hok⟩ := light_all nL
  go_upto_region 3 with (first | (go_at_call 11; refine hli.mono ?_; rintro e w3 ⟨rfl, hb3⟩))
  have HB : Hid _ := bl_then hb2 hb3
  clear hb2 hb3 hli haw
  by_cases h0 : l.length = 0
  · have h0' : ((l.length : Nat) : Int) = 0 := by omega
    go_wp2
    go_ret
    exact ⟨rfl, HB.out⟩
  have h0' : (((l.length : Nat) : Int) == 0) = false := by rw [beq_eq_false_iff_ne]; omega
  by_cases h200 : 200 < ar.length
  · have h200' : (200 : Int) < (ar.length : Int) := by omega
    go_wp2
    go_ret
    exact ⟨rfl, HB.out⟩
  have h200' : ¬ (200 : Int) < (ar.length : Int) := by omega
  have hrow3 := co_blD hrow HB.out
  go_upto_region 7 with fail
  go_loopw [7, 8] (fun v i wr => ∃ k : Nat, k ≤ l.length ∧ i = .int .i64 k ∧ (∀ c ∈ l.take k, (rightR c).1 = 0) ∧ kCo.own 39 wr (Own w3.heap.size v) w3.heap.size v ((l.take k).map dropC) ∧ Below w3.heap.size w3 wr) (fun _ i _ => l.length - (intOf i).toNat)
  case atStart => exact ⟨0, Nat.zero_le _, rfl, (fun c hc => by simp at hc), kCo.own_none _ _ _ _, Below.refl _ _⟩
  case round =>
    obtain ⟨k, hk, rfl, hq, hown, hbl⟩ := hrel
    obtain ⟨vx, vc, hv⟩ := kCo.own_form hown
    have htk : ((l.take k).map dropC).length = k := by rw [List.length_map, List.length_take]; omega
    rw [htk] at hv
    subst hv
    have HQ : Hid (∀ c ∈ l.take k, (rightR c).1 = 0) := hq
    have HO : Hid _ := hown
    have HB3 : Hid _ := hbl
    by_cases hlt : k < l.length
    · obtain ⟨b, o, pa, pc, la, lc, rfl, _, hb, hat, hin⟩ := co_at hrow3 k hlt
      obtain ⟨e0, e1, e2, e3, e4⟩ := hat.keep (hbl.block b hb)
      have hmem := List.getElem_mem hlt
      have HT : Hid ((rightR l[k]).1 = 0 → ∀ c ∈ l.take (k + 1), (rightR c).1 = 0) := fun h c hc => by
        rw [List.take_succ_eq_append_getElem hlt, List.mem_append] at hc
        rcases hc with hc | hc
        · exact HQ.out c hc
        · rw [List.mem_singleton.1 hc]; exact h
      have HTK : Hid ((l.take (k + 1)).map dropC = (l.take k).map dropC ++ [dropC l[k]]) := by show _ = _; rw [List.take_succ_eq_append_getElem hlt, List.map_append]; rfl
      have hokx := hok l[k] hmem
      have hdx := hd64 l[k] hmem
      generalize l[k] = x at e0 e1 e2 e3 e4 hin HT HTK hokx hdx hmem
      have hk0 : (0 : Int) ≤ (k : Int) := by omega
      have hk1 : (k : Int) < (l.length : Int) := by omega
      by_cases hr : (rightR x).1 = 0
      · have hfo := drop_yesN x pa pc la lc wr (coIn_on hin hbl) hokx hdx (hg.below (bl_then HB.out hbl)) hr
        have HN := HT.out hr
        have HN' : Hid _ := HN
        have hrd := right_drop hr
        clear hq hown hbl hat hin HT HN hr
        go_upto_region 10 with (first | (go_at_call 17; refine hfo.mono ?_; rintro e w5 ⟨qa, qc, ra, rc, rfl, hin5, hb5⟩))
        have hx6 := heap_alloc_new w5 (.cells #[.string (bs x.name), .slice qa x.ps.length qc, .int .i64 x.regs, .int .i64 x.cells, .slice ra (freeL x.l).length rc] 39)
        have hbb := bl_alloc (Below.refl w5.heap.size w5) (.cells #[.string (bs x.name), .slice qa x.ps.length qc, .int .i64 x.regs, .int .i64 x.cells, .slice ra (freeL x.l).length rc] 39)
        have hb6 := bl_then hb5 hbb
        have hcell : coCells (dropC x) qa qc ra rc = [.string (bs x.name), .slice qa x.ps.length qc, .int .i64 x.regs, .int .i64 x.cells, .slice ra (freeL x.l).length rc] := rfl
        have hin6 : CoIn (w5.alloc (.cells #[.string (bs x.name), .slice qa x.ps.length qc, .int .i64 x.regs, .int .i64 x.cells, .slice ra (freeL x.l).length rc] 39)) (Own w3.heap.size (.slice vx k vc)) (dropC x) qa qc ra rc := hin5.mono fun b hb hlt => ⟨⟨Nat.le_trans HB3.out.size hb, fun e => by have := (kCo.own_lt HO.out b e).2; omega⟩, hbb.block b hlt⟩
        generalize World.alloc w5 _ = w6 at hx6 hb6 hin6 ⊢
        obtain ⟨j0, j1, j2, j3, j4⟩ := five hx6
        have hri := right_any (dropC x) qa qc ra rc w6 hin6 (dropC_ok hokx) (hg.below (bl_then HB.out (bl_then HB3.out hb6)))
        rw [hrd] at hri
        have hri' : Calls Try.prog 22 #[.agg #[.string (bs x.name), .slice qa x.ps.length qc, .int .i64 x.regs, .int .i64 x.cells, .slice ra (freeL x.l).length rc]] w6 fun e w' => e = .returned (.tuple #[.int .i64 0, .int .i64 (-1)]) ∧ Below w6.heap.size w6 w' := hri
        have HX6 : Hid _ := hx6
        have HB6' : Hid _ := hb6
        have HI6 : Hid _ := hin6
        clear hri hfo hin5 hb5 hbb hx6 hb6 hin6 hrd
        go_upto_region 15 with (first | (go_at_call 22; refine hri'.mono ?_; rintro e w7 ⟨rfl, hb7⟩))
        have hx6 := (hb7.block _ (lt_of_some HX6.out)).trans HX6.out
        have hb6 := bl_then HB6'.out hb7
        have hin6 := HI6.out.mono (T := Own w3.heap.size (.slice vx k vc)) fun j hj hlt2 => ⟨hj, hb7.block j hlt2⟩
        clear hri' hb7 HX6 HB6' HI6 j0 j1 j2 j3 j4
        obtain ⟨w6, hw6⟩ : ∃ w6, w6 = w7 := ⟨_, rfl⟩
        rw [← hw6] at hx6 hb6 hin6 ⊢
        clear hw6
        obtain ⟨cs, how, hlay⟩ := kCo.own_keep HO.out (Below.kept hb6 (fun _ => False)) (fun _ e => e.elim)
        rw [htk] at how
        obtain ⟨j0, j1, j2, j3, j4⟩ := five hx6
        have hownA : (w6.alloc (.cells #[.string (bs x.name), .slice qa x.ps.length qc, .int .i64 x.regs, .int .i64 x.cells, .slice ra (freeL x.l).length rc] 39)).ownsRow w3.heap.size 39 5 (.slice vx k vc) k cs := own_kept how (Kept.alloc w6 _ (fun _ => False)) (fun _ _ e => e)
        have hsrc : Src Try.prog 5 22 (.slice (some ⟨w6.heap.size, 0, none⟩) 1 1) 1 [.string (bs x.name), .slice qa x.ps.length qc, .int .i64 x.regs, .int .i64 x.cells, .slice ra (freeL x.l).length rc] (w6.alloc (.cells #[.string (bs x.name), .slice qa x.ps.length qc, .int .i64 x.regs, .int .i64 x.cells, .slice ra (freeL x.l).length rc] 39)) := src_coD w6 (dropC x) qa qc ra rc
        have hbs : w3.heap.size ≤ (w6.alloc (.cells #[.string (bs x.name), .slice qa x.ps.length qc, .int .i64 x.regs, .int .i64 x.cells, .slice ra (freeL x.l).length rc] 39)).heap.size := Nat.le_trans (Nat.le_trans HB3.out.size hb6.size) (bl_alloc (Below.refl w6.heap.size w6) _).size
        have HL : Hid _ := hlay
        have HC : Hid (kCo.C w6 (Own w3.heap.size (.slice vx k vc)) [.string (bs x.name), .slice qa x.ps.length qc, .int .i64 x.regs, .int .i64 x.cells, .slice ra (freeL x.l).length rc] (dropC x)) := ⟨qa, qc, ra, rc, hcell.symm, hin6⟩
        have HB6 : Hid _ := hb6
        have HLT : Hid _ := fun g hg => (kCo.own_lt HO.out g hg)
        clear hcell hin6 hlay how hx6 hb6
        go_upto_region 8 with (first | (at_builtin; refine wpList_append_big co_info rfl Try.underlying22 (by decide) _ rfl _ _ rfl w3.heap.size (.slice vx k vc) k cs rfl hownA _ 1 [.string (bs x.name), .slice qa x.ps.length qc, .int .i64 x.regs, .int .i64 x.cells, .slice ra (freeL x.l).length rc] rfl hsrc (by omega) hbs ?_; intro y8 c8 w8 hown8 hgrow8 hat8))
        have hown9 := kCo.own_append HL.out HC.out (fun i hi => heap_alloc_old w6 _ hi) (by simp) hown8 (by rw [htk]) hgrow8 (fun b e => by
          rcases hat8 with h | h
          · exact .inl (h.symm.trans e)
          · exact .inr (by have := Option.some.inj (h.symm.trans e); omega))
        rw [← HTK.out] at hown9
        have HO9 : Hid _ := hown9
        have HB9 : Hid (Below w3.heap.size w3 w8) := by
          refine Kept.to_below (((Below.kept (bl_then HB3.out HB6.out) (fun i => w3.heap.size ≤ i)).alloc_r _).trans ((Kept.of_grown hgrow8).mono fun i _ hi => ?_)) fun _ hi => hi
          exact (HLT.out i hi).1
        clear hown9 hown8 hgrow8 hat8 HL HC HB6 HLT hownA hsrc hbs j0 j1 j2 j3 j4
        go_wp2_with fail
        go_roundw
        case rel => exact ⟨k + 1, by omega, by go_num, HN'.out, HO9.out, HB9.out⟩
        case measure => simp [intOf]; omega
      · have hfo := drop_no x pa pc la lc wr (coIn_on hin hbl) hokx hdx (hg.below (bl_then HB.out hbl)) hr
        have hr' : ((rightR x).1 == 0) = false := by simpa using hr
        generalize (rightR x).1 = er at hfo hr'
        clear hq hown hbl hat hin HT hr HTK
        go_upto_region 10 with (first | (go_at_call 17; refine hfo.mono ?_; rintro e w5 ⟨qa, qc, ra, rc, rfl, hin5, hb5⟩))
        have HB6 : Hid _ := bl_then HB.out (bl_then HB3.out (bl_then hb5 (bl_alloc (Below.refl w5.heap.size w5) (.cells #[.string ⟨#[]⟩, .slice qa 0 qc, .int .i64 0, .int .i64 0, .slice ra 0 rc] 39))))
        clear hfo hin5 hb5
        go_wp2
        go_ret
        exact ⟨rfl, HB6.out⟩
    · have hall : l.take k = l := List.take_of_length_le (by omega)
      rw [hall] at hq hown
      have hkl : k = l.length := by omega
      have hrd := Kind.own_rd (K := kCo) (T := fun _ => True) hown (fun _ _ => trivial) (fun _ _ => trivial)
      obtain ⟨ay, cy, ey, hrowY, hcy⟩ := hrd
      rw [List.length_map] at ey hcy
      injection ey with ey1 ey2 ey3
      subst ey1
      subst ey3
      have hB4 := bl_then HB.out hbl
      have hrowL := co_blD hrow3 hbl
      have h1l : 0 < l.length := by omega
      have hrw := (co_at hrow3 0 h1l)
      have hmem : l[0] ∈ l := List.getElem_mem h1l
      have hR : (l.all fun c => decide ((rightR c).1 = 0)) = true := by
        rw [List.all_eq_true]
        intro c hc
        simpa using hq c hc
      have hre := runR_drop hR l[0].name ar
      generalize l[0] = c0 at hrw hmem hre
      obtain ⟨b0, o0, pa0, pc0, la0, lc0, ea, _, hb0, hat0, _⟩ := hrw
      subst ea
      obtain ⟨k0, _, _, _, _⟩ := hat0.keep (hbl.block b0 hb0)
      have k0' : wr.cell? ⟨b0, o0, none⟩ = some (.string (bs c0.name)) := k0
      have hr4 := run_any (S' := fun _ => True) (some ⟨b0, o0, none⟩) l cp c0.name aa ar ac wr hrowL hok (by omega) (hg.below hB4) (hok c0 hmem).name (wd_blD har hB4) hac
      have hbd := runR_bd l c0.name ar
      rw [hkl]
      generalize runR l c0.name ar = R at hr4 hbd hre
      obtain ⟨r0, zs, br, er⟩ := R
      obtain ⟨w4, hw4⟩ : ∃ x, x = wr := ⟨wr, rfl⟩
      subst hw4
      have HB4 : Hid _ := hB4
      have HA4 : Hid _ := k0'
      have HRY : Hid _ := hrowY
      have hbl4 : b0 < w4.heap.size := World.block_lt_of_cell? w4 _ k0
      clear hq hown hrowY hB4 hrowL hat0 HO HQ HB3 hbl h0 h0' h200 nL hb0 hall hR hk
      go_upto_region 17 with (first | (go_at_call 12; refine hr4.mono ?_; rintro e w9 ⟨ya, yc, ba, bc, rfl, hya, hyc, hba, hbc, hb9⟩))
      have hB9 := bl_then HB4.out hb9
      have hO := heap_alloc_new w9 (.cells #[.int .u32 (r0 : Int), .slice ya zs.length yc] 28)
      have hB10 := bl_alloc hB9 (.cells #[.int .u32 (r0 : Int), .slice ya zs.length yc] 28)
      have hgo : ∀ b, b < w4.heap.size → (w9.alloc (.cells #[.int .u32 (r0 : Int), .slice ya zs.length yc] 28)).heap[b]? = w4.heap[b]? := fun b hlt => (heap_alloc_old w9 _ (Nat.lt_of_lt_of_le hlt hb9.size)).trans (hb9.block b hlt)
      have hrow10 : kCo.row (w9.alloc (.cells #[.int .u32 (r0 : Int), .slice ya zs.length yc] 28)) (fun _ => True) vx (l.map dropC) := kCo.row_mono (by decide) HRY.out fun b _ hlt => ⟨trivial, hgo b hlt⟩
      have hya10 : kWd.row (w9.alloc (.cells #[.int .u32 (r0 : Int), .slice ya zs.length yc] 28)) (fun _ => True) ya zs := kWd.row_mono (by decide) hya fun b _ hlt => ⟨trivial, heap_alloc_old w9 _ hlt⟩
      have hba10 : kInt.row (w9.alloc (.cells #[.int .u32 (r0 : Int), .slice ya zs.length yc] 28)) (fun _ => True) ba br := kInt.row_mono (by decide) hba fun b _ hlt => ⟨trivial, heap_alloc_old w9 _ hlt⟩
      have k10 : (w9.alloc (.cells #[.int .u32 (r0 : Int), .slice ya zs.length yc] 28)).cell? ⟨b0, o0, none⟩ = some (.string (bs c0.name)) := by rw [World.cell?_of_block (w := w4) (hgo b0 hbl4)]; exact HA4.out
      generalize World.alloc w9 _ = w10 at hO hB10 hgo hrow10 hya10 hba10 k10 ⊢
      have hr11 := run_any (S' := fun _ => True) vx (l.map dropC) vc c0.name aa ar ac w10 hrow10 (dropC_all hok) (by rw [List.length_map]; omega) (hg.below hB10) (hok c0 hmem).name (wd_blD har hB10) hac
      rw [List.length_map] at hr11
      by_cases h19 : er = 19
      · subst h19
        generalize runR (l.map dropC) c0.name ar = R2 at hr11
        obtain ⟨r2, zs2, br2, er2⟩ := R2
        have HB10 : Hid _ := hB10
        clear hB9 hO hB10 hgo hrow10 hya10 hba10 hya hba hb9 hr4 hre HRY HA4 HB4 k0 k0' hbl4 hbd
        go_upto_region 18 with (first | (go_at_call 12; refine hr11.mono ?_; rintro e w12 ⟨za, zc, da, dc, rfl, hza, hzc, hda, hdc, hb12⟩))
        have HB12 : Hid _ := bl_alloc (bl_then HB10.out hb12) (.cells #[.int .u32 (r2 : Int), .slice za zs2.length zc] 28)
        clear hb12 hr11 hza hda HB10
        go_wp2
        go_ret
        exact ⟨rfl, HB12.out⟩
      have h19' : (er == 19) = false := by simpa using h19
      rw [hre h19] at hr11
      have HO10 : Hid _ := hO
      have HB10 : Hid _ := hB10
      have HY10 : Hid _ := hya10
      have HI10 : Hid _ := hba10
      clear hB9 hO hB10 hgo hrow10 hya10 hba10 hya hba hb9 hr4 hre HRY HA4 HB4 k0 k0' hbl4
      clear h19
      go_upto_region 20 with (first | (go_at_call 12; refine hr11.mono ?_; rintro e w12 ⟨za, zc, da, dc, rfl, hza, hzc, hda, hdc, hb12⟩))
      have hO12 := (hb12.block _ (lt_of_some HO10.out)).trans HO10.out
      have hB12 := bl_then HB10.out hb12
      have hP := heap_alloc_new w12 (.cells #[.int .u32 (r0 : Int), .slice za zs.length zc] 28)
      have hO13 : (w12.alloc (.cells #[.int .u32 (r0 : Int), .slice za zs.length zc] 28)).heap[w9.heap.size]? = some (.cells #[.int .u32 (r0 : Int), .slice ya zs.length yc] 28) := (heap_alloc_old w12 _ (lt_of_some hO12)).trans hO12
      have hB13 := bl_alloc hB12 (.cells #[.int .u32 (r0 : Int), .slice za zs.length zc] 28)
      have hold : ∀ b, b < w10.heap.size → (w12.alloc (.cells #[.int .u32 (r0 : Int), .slice za zs.length zc] 28)).heap[b]? = w10.heap[b]? := fun b hlt => (heap_alloc_old w12 _ (Nat.lt_of_lt_of_le hlt hb12.size)).trans (hb12.block b hlt)
      have hy13 : kWd.row (w12.alloc (.cells #[.int .u32 (r0 : Int), .slice za zs.length zc] 28)) (fun _ => True) ya zs := kWd.row_mono (by decide) HY10.out fun b _ hlt => ⟨trivial, hold b hlt⟩
      have hi13 : kInt.row (w12.alloc (.cells #[.int .u32 (r0 : Int), .slice za zs.length zc] 28)) (fun _ => True) ba br := kInt.row_mono (by decide) HI10.out fun b _ hlt => ⟨trivial, hold b hlt⟩
      have hz13 : kWd.row (w12.alloc (.cells #[.int .u32 (r0 : Int), .slice za zs.length zc] 28)) (fun _ => True) za zs := kWd.row_mono (by decide) hza fun b _ hlt => ⟨trivial, heap_alloc_old w12 _ hlt⟩
      have hd13 : kInt.row (w12.alloc (.cells #[.int .u32 (r0 : Int), .slice za zs.length zc] 28)) (fun _ => True) da br := kInt.row_mono (by decide) hda fun b _ hlt => ⟨trivial, heap_alloc_old w12 _ hlt⟩
      generalize World.alloc w12 _ = w13 at hP hO13 hB13 hold hy13 hi13 hz13 hd13 ⊢
      obtain ⟨p0, p1, _, _⟩ := cells2' hO13
      obtain ⟨q0, q1, _, _⟩ := cells2' hP
      have hs1 := same_any w13 r0 ya za zs yc zc hy13 hz13 (by have h : zs.length ≤ 4096 := hbd.1; omega)
      have HB13 : Hid _ := hB13
      have HI13 : Hid _ := hi13
      have HD13 : Hid _ := hd13
      have HBD : Hid _ := hbd.2
      clear hb12 hO12 hB12 hP hO13 hB13 hold hy13 hi13 hz13 hd13 hza hda hr11 HO10 HB10 HY10 HI10 hbd
      go_upto_region 21 with (first | (go_at_call 14; refine hs1.mono ?_; rintro e w14 ⟨rfl, hb14⟩))
      have hs2 := sameInts_any w14 ba da br bc dc (kInt.row_mono (T := fun _ => True) (by decide) HI13.out fun b _ hlt => ⟨trivial, hb14.block b hlt⟩) (kInt.row_mono (T := fun _ => True) (by decide) HD13.out fun b _ hlt => ⟨trivial, hb14.block b hlt⟩) (by have h : br.length ≤ 60000 := HBD.out; omega)
      have HB14 : Hid _ := bl_then HB13.out hb14
      clear hs1 hb14
      go_upto_region 22 with (first | (go_at_call 15; refine hs2.mono ?_; rintro e w15 ⟨rfl, hb15⟩))
      go_wp2
      go_ret
      exact ⟨rfl, bl_then HB14.out hb15⟩
end Go.Proofs.Ytndmkfmpdnoliaa
