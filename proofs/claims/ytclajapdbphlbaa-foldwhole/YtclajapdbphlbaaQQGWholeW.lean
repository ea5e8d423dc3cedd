/- THE WALK of FoldWhole. -/
import Derived.Test.YtclajapdbphlbaaQWhole
import Derived.Deep.RegionLaw
namespace Go.Proofs.Ytclajapdbphlbaa
open Go.ChangeShapes Go.WideShapes Go.ChangeAt Go.RowKit

abbrev boxF (qa : Option Addr) (qc : Nat) (ra : Option Addr) (m rc : Nat) : Obj := .cells #[.string ⟨#[97, 46, 102]⟩, .slice qa 0 qc, .int .i64 2, .int .i64 0, .slice ra m rc] 25
theorem opl (n : Nat) (l : List Int) (k : Nat) (h : k < l.length) : cIr 0 n :: cIr 1 7 :: binL 0 (l.take (k + 1)) = (cIr 0 n :: cIr 1 7 :: binL 0 (l.take k)) ++ [binX k l[k]] := by
  rw [List.take_succ_eq_append_getElem h, binL_snoc, List.length_take, Nat.zero_add, Nat.min_eq_left (Nat.le_of_lt h)]; rfl
set_option maxRecDepth 100000 in
set_option maxHeartbeats 8000000 in
theorem whole_walk {B : Nat} (a : Option Addr) (l : List Int) (cp n : Nat) (w : World) (hg : Glob B w) (hrow : kInt.row w (fun _ => True) a l) (hn : n < 4294967296) :
    Calls Try.prog 7 #[.slice a l.length cp, .int .u32 (n : Int)] w fun e w' => e = .returned (.bool true) ∧ Below w.heap.size w w' := by
  have haw := awake9_any w hg
  go_enter Try.func7, Try.ntmps7
  go_upto_region 2 with (first | (go_at_call 10; refine haw.mono ?_; rintro e w2 ⟨rfl, hb2⟩))
  have hrow2 : kInt.row w2 (fun _ => True) a l := kInt.row_mono (by decide) hrow fun b _ hlt => ⟨trivial, hb2.block b hlt⟩
  have HB2 : Hid _ := hb2
  clear hb2 haw
  by_cases h200 : 200 < l.length
  · have h200' : (200 : Int) < (l.length : Int) := by omega
    go_wp2
    go_ret
    exact ⟨rfl, HB2.out⟩
  have h200' : ¬ (200 : Int) < (l.length : Int) := by omega
  have HW : Hid _ := WA.start w2 n hn
  have hz0 : w2.heap.size + 2 ≤ ((w2.alloc (irsW n)).alloc (boxW (.slice (some ⟨w2.heap.size, 0, none⟩) 2 2))).heap.size := by simp
  go_upto_region 5 with fail
  generalize World.alloc (World.alloc w2 _) _ = w3 at HW hz0 ⊢
  go_wp2
  go_loopw [7] (fun i wr => ∃ (k : Nat) (vx : Option Addr) (vc : Nat), k ≤ l.length ∧ i = .int .i64 k ∧ (∀ o ∈ l.take k, 1 ≤ o ∧ o ≤ 10) ∧ WA w2 (2 + k) (cIr 0 n :: cIr 1 7 :: binL 0 (l.take k)) vx vc wr) (fun i _ => l.length - (intOf i).toNat)
  case atStart => exact ⟨0, _, _, Nat.zero_le _, rfl, (fun c hc => by simp at hc), HW.out⟩
  case round =>
    obtain ⟨k, vx, vc, hk, rfl, hq, hA⟩ := hrel
    have HQ : Hid (∀ o ∈ l.take k, 1 ≤ o ∧ o ≤ 10) := hq
    have HA : Hid _ := hA
    obtain ⟨k0, k1, k2, k3, k4⟩ := five hA.box
    have hfz := brow_free hA.box 4
    have hsz := lt_of_some hA.box
    by_cases hlt : k < l.length
    · obtain ⟨b, o, rfl, _, hb, hc⟩ := int_at hrow2 k hlt
      have hO : Hid (cIr 0 n :: cIr 1 7 :: binL 0 (l.take (k + 1)) = (cIr 0 n :: cIr 1 7 :: binL 0 (l.take k)) ++ [binX k l[k]]) := opl n l k hlt
      have HT : Hid (1 ≤ l[k] ∧ l[k] ≤ 10 → ∀ c ∈ l.take (k + 1), 1 ≤ c ∧ c ≤ 10) := fun h c hc => by
        rw [List.take_succ_eq_append_getElem hlt, List.mem_append] at hc
        rcases hc with hc | hc
        · exact HQ.out c hc
        · rw [List.mem_singleton.1 hc]; exact h
      have HC : Hid (∀ w' : World, w'.heap[b]? = w2.heap[b]? → w'.cell? ⟨b, o + k, none⟩ = some (.int .i64 l[k])) := fun w' h => by rw [World.cell?_of_block (w := w2) h]; exact hc
      have hc2 := HC.out wr (hA.below.block b hb)
      generalize l[k] = x at hO HT HC hc2 hc
      have hk0 : (0 : Int) ≤ (k : Int) := by omega
      have hk1 : (k : Int) < (l.length : Int) := by omega
      clear hc
      by_cases hx1 : x < 1
      · have HB : Hid _ := bl_then HB2.out hA.below
        clear hA hq
        go_wp2
        go_ret
        exact ⟨rfl, HB.out⟩
      by_cases hx2 : 10 < x
      · have HB : Hid _ := bl_then HB2.out hA.below
        clear hA hq
        go_wp2
        go_ret
        exact ⟨rfl, HB.out⟩
      have HN : Hid _ := HT.out (by omega)
      obtain ⟨cs, hown, hlay⟩ := hA.cells
      have HL : Hid _ := hlay
      have ht : ((k : Int).tmod 2) = ((k % 2 : Nat) : Int) := by rw [Int.tmod_eq_emod_of_nonneg (by omega)]; omega
      have HK : Hid (Kept (fun _ => False) wr ((wr.alloc (.cells #[.int .i64 3, .int .i64 x, .int .i64 ((k : Int).tmod 2), .int .i64 0, .int .i64 1, .int .i64 0, .int .u32 0, .string ⟨#[]⟩, .slice none 0 0] 36)).drew)) := Kept.drew (Kept.alloc wr _ _)
      have hsrc : Src Try.prog 9 23 (.slice (some ⟨wr.heap.size, 0, none⟩) 1 1) 1 (irCells (binX k x) none 0) ((wr.alloc (.cells #[.int .i64 3, .int .i64 x, .int .i64 ((k : Int).tmod 2), .int .i64 0, .int .i64 1, .int .i64 0, .int .u32 0, .string ⟨#[]⟩, .slice none 0 0] 36)).drew) := src_at (by
        have e : Obj.cells #[.int .i64 3, .int .i64 x, .int .i64 ((k : Int).tmod 2), .int .i64 0, .int .i64 1, .int .i64 0, .int .u32 0, .string ⟨#[]⟩, .slice none 0 0] 36 = .cells (irCells (binX k x) none 0).toArray 36 := by rw [ht]; rfl
        rw [← e]
        exact heap_alloc_new wr _)
      have hownA := own_kept hown HK.out (fun _ _ e => e)
      have hbs : w2.heap.size ≤ ((wr.alloc (.cells #[.int .i64 3, .int .i64 x, .int .i64 ((k : Int).tmod 2), .int .i64 0, .int .i64 1, .int .i64 0, .int .u32 0, .string ⟨#[]⟩, .slice none 0 0] 36)).drew).heap.size := Nat.le_trans hA.below.size HK.out.size
      clear hA hq k0 k1 k2 k3 HT ht hlay hown hfz
      go_upto_region 10 with fail
      go_region_law ((refine step_append_big ir_info rfl Try.underlying23 (by decide) (by rfl) _ _ (by rfl) w2.heap.size (.slice vx (2 + k) vc) (2 + k) cs (by rfl) hownA _ 1 (irCells (binX k x) none 0) (by rfl) hsrc (by omega) hbs ?_; intro y c1 w1 hown1 hgrow hat; have hgr := HA.out.grown HK.out hgrow; have e5 := brow_free hgr.1 4; have e6 := HC.out w1 (hgr.2 b hb); have hgr1 := five hgr.1; have e7 := hgr1.2.2.2.2))
      all_goals
        have HP : Hid _ := HA.out.push HK.out HL.out hown1 hgrow hat rfl (by show (0 : Nat) < 4294967296; decide)
        rw [← hO.out] at HP
        clear hown1 hgrow hat hgr e5 e6 hgr1 e7 hownA hsrc hbs HK HL HA
        go_wp2_with fail
        go_roundw
        case rel => exact ⟨k + 1, y, c1, by omega, by go_num, HN.out, HP.out⟩
        case measure => simp [intOf]; omega
    · have hkl : k = l.length := by omega
      subst hkl
      rw [List.take_of_length_le (Nat.le_refl _)] at hq hA
      have hall : ∀ o ∈ l, 1 ≤ o ∧ o ≤ 10 := hq
      have hl2 : l.length ≤ 200 := by omega
      clear hq HQ HA
      have HA : Hid _ := hA
      obtain ⟨cs, hown, hlay⟩ := hA.cells
      have HL : Hid _ := hlay
      have HK : Hid (Kept (fun _ => False) wr (wr.alloc (.cells #[.int .i64 10, .int .i64 0, .int .i64 0, .int .i64 1, .int .i64 0, .int .i64 0, .int .u32 0, .string ⟨#[]⟩, .slice none 0 0] 36))) := Kept.alloc wr _ _
      have hsrc : Src Try.prog 9 23 (.slice (some ⟨wr.heap.size, 0, none⟩) 1 1) 1 (irCells retX none 0) (wr.alloc (.cells #[.int .i64 10, .int .i64 0, .int .i64 0, .int .i64 1, .int .i64 0, .int .i64 0, .int .u32 0, .string ⟨#[]⟩, .slice none 0 0] 36)) := src_at (z := retX) (heap_alloc_new wr _)
      have hownA := own_kept hown HK.out (fun _ _ e => e)
      have hbs : w2.heap.size ≤ (wr.alloc (.cells #[.int .i64 10, .int .i64 0, .int .i64 0, .int .i64 1, .int .i64 0, .int .i64 0, .int .u32 0, .string ⟨#[]⟩, .slice none 0 0] 36)).heap.size := Nat.le_trans hA.below.size HK.out.size
      clear hA hlay hown hfz k0 k1 k2 k3 hlt hk HW
      go_upto_region 12 with (first | (at_builtin; refine wpList_append_big ir_info rfl Try.underlying23 (by decide) _ rfl _ _ rfl w2.heap.size (.slice vx (2 + l.length) vc) (2 + l.length) cs rfl hownA _ 1 (irCells retX none 0) rfl hsrc (by omega) hbs ?_; intro y c1 w1 hown1 hgrow hat; have hgr := HA.out.grown HK.out hgrow; have e5 := brow_free hgr.1 4; have hgr1 := five hgr.1; have e7 := hgr1.2.2.2.2))
      have hP : WA w2 (2 + l.length + 1) (wL n l) y c1 _ := HA.out.push (z := retX) HK.out HL.out hown1 hgrow hat rfl (by show (0 : Nat) < 4294967296; decide)
      clear hown1 hgrow hat hgr e5 hgr1 e7 hownA hsrc hbs HK HL HA k4
      generalize World.setCell w1 _ _ = v5 at hP ⊢
      obtain ⟨ay, cy, ey, hrowY, hcy⟩ := kIr.own_rd (T := fun _ => True) hP.out (fun _ _ => trivial) (fun _ _ => trivial)
      injection ey with ey1 ey2 ey3
      subst ey1
      subst ey3
      have HB5 : Hid _ := bl_then HB2.out hP.below
      have hfo := wC_fold hall hl2 (hg.below HB5.out) hrowY hcy
      obtain ⟨k0, k1, k2, k3, k4⟩ := five hP.box
      have HX5 : Hid _ := hP.box
      have HRY : Hid _ := hrowY
      clear hP hrowY ey2
      go_upto_region 13 with (first | (go_at_call 12; refine hfo.mono ?_; rintro e w6 ⟨qa, qc, ra, rc, rfl, hrow6, hb6⟩))
      have hB7 := bl_alloc hb6 (boxF qa qc ra (2 + l.length + 1) rc)
      have hx7 := heap_alloc_new w6 (boxF qa qc ra (2 + l.length + 1) rc)
      have hrow7 : kIr.row (w6.alloc (boxF qa qc ra (2 + l.length + 1) rc)) (fun _ => True) ra (foldL (wL n l)) := kIr.row_mono (by decide) hrow6 fun b _ hlt => ⟨trivial, heap_alloc_old w6 _ hlt⟩
      clear hrow6 hb6 hfo k0 k1 k2 k3 k4
      generalize World.alloc w6 _ = w7 at hB7 hx7 hrow7 ⊢
      have hX7 := (hB7.block _ (lt_of_some HX5.out)).trans HX5.out
      obtain ⟨k0, k1, k2, k3, k4⟩ := five hX7
      have hB8 := bl_alloc hB7 (boxW (.slice y (2 + l.length + 1) c1))
      have hru := wC_run hall hl2 (hg.below (bl_then HB5.out hB8)) (heap_alloc_new w7 (boxW (.slice y (2 + l.length + 1) c1))) (kIr.row_mono (T := fun _ => True) (by decide) HRY.out fun b _ hlt => ⟨trivial, hB8.block b hlt⟩) hcy
      have HB7 : Hid _ := bl_then HB5.out hB7
      have HY7 : Hid _ := hx7
      have HR7 : Hid _ := hrow7
      clear hX7 hB7 hx7 hrow7 hB8 HX5 HRY
      go_upto_region 14 with (first | (go_at_call 16; refine hru.mono ?_; rintro e w9 ⟨ya, yc, ba, bc, rfl, hb9⟩))
      have HLW : Hid (lastOf (foldL (wL n l)) 0 = (regs2 0 l (n, 7)).2) := last_wL n l
      have HLL : Hid ((foldL (wL n l)).length = 2 + l.length + 1) := wF_len n l
      generalize (regs2 0 l (n, 7)).2 = r at HLW ⊢
      have hb79 := bl_then (bl_alloc (Below.refl w7.heap.size w7) (boxW (.slice y (2 + l.length + 1) c1))) hb9
      have hb10 := bl_alloc hb79 (.cells #[.int .u32 (r : Int), .slice ya 0 yc] 41)
      have hx10 := heap_alloc_new w9 (.cells #[.int .u32 (r : Int), .slice ya 0 yc] 41)
      clear hru hb9 hb79 k0 k1 k2 k3 k4
      generalize World.alloc w9 _ = w10 at hb10 hx10 ⊢
      obtain ⟨k0, k1, k2, k3, k4⟩ := five ((hb10.block _ (lt_of_some HY7.out)).trans HY7.out)
      have hrow10 : kIr.row w10 (fun _ => True) ra (foldL (wL n l)) := kIr.row_mono (by decide) HR7.out fun b _ hlt => ⟨trivial, hb10.block b hlt⟩
      have hkn := wC_known (n := n) (qa := qa) (qc := qc) (rc := rc) hl2 hrow10
      have HB10 : Hid _ := bl_then HB7.out hb10
      have HR10 : Hid _ := hrow10
      have HX10 : Hid _ := hx10
      have HY10 : Hid _ := (hb10.block _ (lt_of_some HY7.out)).trans HY7.out
      have hee : (((l.length : Int) + 2) == ((l.length : Int) + 2)) = true := beq_self_eq_true _
      clear hb10 hx10 hrow10 HB7 HY7 HR7
      go_upto_region 16 with (first | (go_at_call 15; refine hkn.mono ?_; rintro e w11 ⟨rfl, hb11⟩))
      obtain ⟨k0, k1, k2, k3, k4⟩ := five ((hb11.block _ (lt_of_some HY10.out)).trans HY10.out)
      obtain ⟨j0, j1, _, _⟩ := cells2 ((hb11.block _ (lt_of_some HX10.out)).trans HX10.out)
      have hrow11 : kIr.row w11 (fun _ => True) ra (foldL (wL n l)) := kIr.row_mono (by decide) HR10.out fun b _ hlt => ⟨trivial, hb11.block b hlt⟩
      have HB11 : Hid _ := bl_then HB10.out hb11
      clear hkn hb11 HB10 HR10 HX10 HY10 hee
      generalize foldL (wL n l) = L at HLW HLL hrow11
      go_wp2
      go_loopw [13, 14] (fun v i wr => ∃ k : Nat, k ≤ 2 + l.length + 1 ∧ i = .int .i64 k ∧ v = .int .u32 ((lastOf (L.take k) 0 : Nat) : Int) ∧ wr = w11) (fun _ i _ => 2 + l.length + 1 - (intOf i).toNat)
      case atStart => exact ⟨0, Nat.zero_le _, rfl, rfl, rfl⟩
      case round =>
        obtain ⟨k, hk, rfl, rfl, hwr⟩ := hrel
        subst hwr
        by_cases hlt : k < 2 + l.length + 1
        · have hltL : k < L.length := by rw [HLL.out]; exact hlt
          obtain ⟨b, o, ga, gc, rfl, _, hb, hat, _, _, _⟩ := ir_at hrow11 k hltL
          obtain ⟨e0, e1, e2, e3, e4, e5, e6, e7, e8⟩ := hat
          have hs : lastOf (L.take (k + 1)) 0 = if L[k].kind = 1 ∧ L[k].d = 1 then L[k].n else lastOf (L.take k) 0 := by
            rw [List.take_succ_eq_append_getElem hltL, lastOf_snoc]
          generalize L[k] = x at e0 e1 e2 e3 e4 e5 e6 e7 e8 hs
          have HS : Hid _ := hs
          clear hs e1 e3 e4 e5 e7 e8
          have hk0 : (0 : Int) ≤ (k : Int) := by omega
          have hk1 : (k : Int) < ((2 + l.length + 1 : Nat) : Int) := by omega
          by_cases x1 : x.kind = 1
          · by_cases x2 : x.d = 1
            · have x1' : (x.kind == 1) = true := by simp [x1]
              have x2' : (x.d == 1) = true := by simp [x2]
              have HN : Hid (lastOf (L.take (k + 1)) 0 = x.n) := by show _ = _; rw [HS.out, if_pos ⟨x1, x2⟩]
              clear x1 x2
              go_wp2_with fail
              go_roundw
              case rel => exact ⟨k + 1, by omega, by go_num, by rw [HN.out], by trivial⟩
              case measure => simp [intOf]; omega
            · have x1' : (x.kind == 1) = true := by simp [x1]
              have x2' : (x.d == 1) = false := by simp [x2]
              have HN : Hid (lastOf (L.take (k + 1)) 0 = lastOf (L.take k) 0) := by show _ = _; rw [HS.out, if_neg (fun h => x2 h.2)]
              clear x1 x2
              go_wp2_with fail
              go_roundw
              case rel => exact ⟨k + 1, by omega, by go_num, by rw [HN.out], by trivial⟩
              case measure => simp [intOf]; omega
          · have x1' : (x.kind == 1) = false := by simp [x1]
            have HN : Hid (lastOf (L.take (k + 1)) 0 = lastOf (L.take k) 0) := by show _ = _; rw [HS.out, if_neg (fun h => x1 h.1)]
            clear x1
            go_wp2_with fail
            go_roundw
            case rel => exact ⟨k + 1, by omega, by go_num, by rw [HN.out], by trivial⟩
            case measure => simp [intOf]; omega
        · have hv : lastOf (L.take k) 0 = r := by rw [List.take_of_length_le (by rw [HLL.out]; omega)]; exact HLW.out
          rw [hv]
          have hk2 : ¬ (k : Int) < ((2 + l.length + 1 : Nat) : Int) := by omega
          go_wp2_with fail
          go_ret
          exact ⟨rfl, HB11.out⟩
end Go.Proofs.Ytclajapdbphlbaa
