/- CONTRACT of face.Text. -/
import Derived.Test.YtlagadofiahijaaDoorFMet
import Derived.Deep.DeepFit
namespace Go.Proofs.YtlagadofiahijaaDoor
open Go.ChangeShapes Go.WideShapes Go.ChangeAt Go.RowKit Go.Shelf Go.Maps Go.WideMaps

theorem ret_text {a b : List UInt8} {x y : Int} (h : (a, x) = (b, y)) : Ending.returned (.tuple #[.string (bs a), .int .i64 x]) = .returned (.tuple #[.string (bs b), .int .i64 y]) := by
  injection h with h1 h2
  rw [h1, h2]

set_option maxRecDepth 100000 in
set_option maxHeartbeats 2000000 in
theorem text_any {B : Nat} {S : Nat → Prop} (w : World) (a : Option Addr) (l : List Sg) (c : Nat) (h0 : kSg.row w S a l) (hg : Glob B w) (hwt : wt l ≤ 300000000) :
    Calls Tryd.prog 11 #[.slice a l.length c] w fun e w' => e = .returned (.tuple #[.string (bs (textR l).1), .int .i64 (textR l).2]) ∧ Below w.heap.size w w' := by
  have h : kSg.row w (fun b => b < w.heap.size) a l := kSg.row_mono (by decide) h0 fun b _ hlt => ⟨hlt, rfl⟩
  clear h0
  have hll := wt_ge l
  have hmm := @run_makeMap Tryd.prog
  go_enter Tryd.func11, Tryd.ntmps11
  go_wp2
  go_loopw [4, 11] (fun v i wr => ∃ (k : Nat) (acc : List UInt8) (D : DataW Unit), k ≤ l.length ∧ i = .int .i64 k ∧ Tx wr (w.heap.size + 1) v acc ∧ wr.ownsMap Tryd.prog 9 (plainElem Tryd.prog 3) w.heap.size k D ∧ Below w.heap.size w wr ∧ w.heap.size < wr.heap.size ∧
      Met D ((l.take k).map Sg.name) ∧ (l.take k).all mayB = true ∧ acc = linesT (l.take k) ∧ acc.length ≤ wt (l.take k)) (fun _ i _ => l.length - (intOf i).toNat)
  case atStart => exact ⟨0, [], .map [], Nat.zero_le _, rfl, World.ownsRow_nil _ _ _ _, World.ownsMap_made _ _ _ _, bl_alloc (Below.refl _ _) _, by simp, Met.none, rfl, rfl, Nat.zero_le _⟩
  case round =>
    obtain ⟨k, acc, D, hk, rfl, htx, hmap, hbl, hsz, hmet, hall, hacc, hal⟩ := hrel
    obtain ⟨y0, c0, rfl⟩ := htx.form
    have HT : Hid (Tx wr (w.heap.size + 1) (.slice y0 acc.length c0) acc) := htx
    have HM : Hid (wr.ownsMap Tryd.prog 9 (plainElem Tryd.prog 3) w.heap.size k D) := hmap
    have HB : Hid (Below w.heap.size w wr) := hbl
    have HME : Hid (Met D ((l.take k).map Sg.name)) := hmet
    have HAL : Hid ((l.take k).all mayB = true) := hall
    have HAC : Hid (acc = linesT (l.take k)) := hacc
    clear htx hmap hmet hall hacc
    by_cases hlt : k < l.length
    · obtain ⟨b, o, pa, pc, rfl, hSb, hb, h0, h1, h2, hpc, hrow⟩ := sg_at h k hlt
      have e0 := (hbl.cell (p := ⟨b, o + k * 3, none⟩) hb).trans h0
      have e1 := (hbl.cell (p := ⟨b, o + k * 3 + 1, none⟩) hb).trans h1
      have e2 := (hbl.cell (p := ⟨b, o + k * 3 + 2, none⟩) hb).trans h2
      have hwk := wt_at l k hlt
      have hn : l[k].name.length ≤ 300000000 := by omega
      have hrow1 : kTy.row (wr.alloc (.cells #[.string (bs l[k].name), .slice pa l[k].ps.length pc, .bool l[k].sec] 33)) (fun b => b < w.heap.size) pa l[k].ps :=
        kTy.row_mono (by decide) hrow fun i hi _ => ⟨hi, by rw [heap_alloc_old wr _ (by omega)]; exact HB.out.block i hi⟩
      have hg1 := (hg.below HB.out).alloc (.cells #[.string (bs l[k].name), .slice pa l[k].ps.length pc, .bool l[k].sec] 33)
      have hm := mayBe_any l[k] pa pc _ hrow1 (by omega) hg1
      clear h0 h1 h2 hrow1 hg1 hbl
      rcases hmb : mayB l[k] with _ | _ <;> rw [hmb] at hm
      · have HF : Hid (textR l = ([], 6)) := textR_form (by
          rw [Bool.eq_false_iff]
          intro e
          have := List.all_eq_true.1 e _ (List.getElem_mem hlt)
          rw [hmb] at this
          cases this)
        clear hmb
        go_wp2_with (go_at_call 17; refine hm.mono ?_; rintro e w2 ⟨rfl, hb2⟩)
        go_ret2
        exact ⟨ret_text (by rw [HF.out]), bl_then (bl_alloc HB.out _) hb2⟩
      · have HMB : Hid (mayB l[k] = true) := hmb
        clear hmb
        go_wp2_with (go_at_call 17; refine hm.mono ?_; rintro e w2 ⟨rfl, hb2⟩; refine Hid.out ?_)
        refine Lib.hid ?_
        have hs2 : w2.heap[wr.heap.size]? = some (.cells #[.string (bs l[k].name), .slice pa l[k].ps.length pc, .bool l[k].sec] 33) := by
          rw [hb2.block _ (by simp)]; exact heap_alloc_new wr _
        have hz2 : wr.heap.size < w2.heap.size := lt_of_some hs2
        have hm2 : w2.ownsMap Tryd.prog 9 (plainElem Tryd.prog 3) w.heap.size k D := ownsMap_kept HM.out (by rw [hb2.block _ (by simp; omega), heap_alloc_old wr _ hsz])
        have HK2 : Hid (Kept (fun _ => False) wr w2) := Below.to_kept (Kept.alloc wr _ _) hb2
        have htd := hm2.tidy law_str
        have hkey := key_str l[k].name (by omega)
        have hul : Tryd.prog.underlying 59 = some (.map 9 3) := Tryd.underlying59
        clear hb2 hm e0 e1 e2
        obtain ⟨d0, d1, d2, g0, g1, g2⟩ := cells3 hs2
        go_wp2_with (first
          | (at_lookup; refine wpList_lookup_own_int _ rfl _ _ 59 rfl 9 3 .i64 law_str hul Tryd.underlying3 (zero_int _) w.heap.size k D rfl hm2 _ _ rfl hkey ?_; intro cc hat hwc)
          | (at_mapUpdate; refine wpList_mapUpdate_own _ rfl _ _ _ 59 rfl 9 3 law_str hul _ w.heap.size k D rfl hm2 (by unfold maxLen; omega) _ _ _ rfl rfl hkey _ [] (plainElem_int Tryd.underlying3 (wrap64_wf _)) ?_; intro w3 hm3 hg3; refine Hid.out ?_)
          | go_in)
        refine Lib.hid ?_
        have HM3 : Hid (w3.ownsMap Tryd.prog 9 (plainElem Tryd.prog 3) w.heap.size (k + 1) _) := hm3
        have HME3 : Hid (Met (D.put (.string l[k].name) (DataW.lit (Lit.int IntKind.i64 (wrap64 (cc + 1))))) ((l.take (k + 1)).map Sg.name)) := by
          show Met _ _
          rw [names_take l k hlt]; exact HME.out.put htd _ _
        have hs3 : w3.heap[wr.heap.size]? = some (.cells #[.string (bs l[k].name), .slice pa l[k].ps.length pc, .bool l[k].sec] 33) := by
          rw [hg3.block _ hz2 (fun e => by have := Option.some.inj e; omega)]; exact hs2
        have hz3 := hg3.size
        have hT3 : Tx w3 (w.heap.size + 1) (.slice y0 acc.length c0) acc := own_kept (own_kept HT.out HK2.out (fun _ _ h => h)) (Kept.of_grown hg3) (fun g hg e => by have := (HT.out.lt g hg).1; have := Option.some.inj e; omega)
        have HB3 : Hid (Below w.heap.size w w3) := Kept.to_below (((Below.kept HB.out (fun k => w.heap.size ≤ k)).trans (HK2.out.mono fun _ _ h => h.elim)).trans ((Kept.of_grown hg3).mono fun i _ hi => by have := Option.some.inj hi; omega)) (fun _ h => h)
        have hrow3 : kTy.row w3 (fun b => b < w.heap.size) pa l[k].ps := kTy.row_mono (by decide) hrow fun i hi _ => ⟨hi, HB3.out.block i hi⟩
        obtain ⟨hps, hok⟩ := mayB_parts HMB.out
        have hll3 := lineT_len HMB.out
        have hc := appendLine_any l[k] pa pc hT3 (by omega) (by omega) hrow3 (fun i hi e => by have := (hT3.lt i e).1; omega) hok hps
        clear hm3 hat hwc htd hkey hm2 hs2 d0 d1 d2 g0 g1 g2 hok hps hrow3 hrow hul
        obtain ⟨d0, d1, d2, g0, g1, g2⟩ := cells3 hs3
        go_wp2_with (go_at_call 18; go_fit hc; rintro e w4 hw; obtain ⟨⟨y4, c4, rfl, h4, h5⟩, hk4⟩ := hw; have HT4 : Hid _ := h4; have HK4 : Hid _ := hk4; clear h4 h5 hk4)
        go_roundw
        case rel =>
          have hz4 := HK4.out.size
          have hno : ¬ (Value.slice y0 acc.length c0).ownBlock = some w.heap.size := fun e => by have := (hT3.lt _ e).1; omega
          refine ⟨k + 1, acc ++ lineT l[k], _, by omega, by go_num, ?_, ownsMap_kept HM3.out (HK4.out.block _ (by omega) hno), ?_, by omega, HME3.out, ?_, ?_, ?_⟩
          · rw [show acc.length + (lineT l[k]).length = (acc ++ lineT l[k]).length from List.length_append.symm]; exact HT4.out
          · refine Kept.to_below ((Below.kept HB3.out (fun k => w.heap.size ≤ k)).trans (HK4.out.mono fun i _ hi => ?_)) (fun _ h => h)
            have := (hT3.lt _ hi).1
            omega
          · rw [all_take l k hlt, HAL.out, HMB.out]; rfl
          · rw [lines_take l k hlt, ← HAC.out]
          · rw [List.length_append, wt_take l k hlt]; omega
        case measure => simp [intOf]; omega
    · have hkl : k = l.length := by omega
      have htk : l.take k = l := by rw [hkl]; exact List.take_length
      rw [htk] at HME HAL HAC
      have hle : Maps.size D ≤ l.length := by have := HME.out.le; simpa using this
      have honce := HME.out.once
      rw [List.length_map] at honce
      have hm2 := HM.out
      have hul : Tryd.prog.underlying 59 = some (.map 9 3) := Tryd.underlying59
      clear htk hbl HM
      by_cases hnd : (l.map Sg.name).Nodup
      · have hsd : Maps.size D = l.length := honce.2 hnd
        have HF : Hid (textR l = (acc, 0)) := by show _ = _; rw [textR_ok HAL.out hnd, HAC.out]
        have hno : ¬ (Maps.size D : Int) < (l.length : Int) := by omega
        have hcv := conv_tx HT.out
        clear honce hsd hnd
        go_wp2_with (first
          | (at_len; refine wpList_len_own _ rfl _ 59 rfl 9 3 hul _ w.heap.size k D rfl hm2 ?_)
          | go_in)
        go_ret2
        exact ⟨ret_text HF.out.symm, HB.out⟩
      · have hsd : ¬ Maps.size D = l.length := fun e => hnd (honce.1 e)
        have HF : Hid (textR l = ([], 9)) := textR_twice HAL.out hnd
        have hno : (Maps.size D : Int) < (l.length : Int) := by omega
        clear honce hsd hnd
        go_wp2_with (first
          | (at_len; refine wpList_len_own _ rfl _ 59 rfl 9 3 hul _ w.heap.size k D rfl hm2 ?_)
          | go_in)
        go_ret2
        exact ⟨ret_text HF.out.symm, HB.out⟩
end Go.Proofs.YtlagadofiahijaaDoor
