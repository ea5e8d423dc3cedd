/- CONTRACT of the document's Find. -/
import Derived.Test.YtlagadofiahijaaDoorFSame
import Derived.Test.YtlagadofiahijaaDoorFFind
import Derived.Deep.CutBlock
namespace Go.Proofs.YtlagadofiahijaaDoor
open Go.ChangeShapes Go.WideShapes Go.ChangeAt Go.RowKit

set_option maxRecDepth 100000 in
set_option maxHeartbeats 2000000 in
theorem refFind_any {S : Nat → Prop} (w : World) (a : Option Addr) (l : List Sg) (c : Nat) (nm : List UInt8) (h : kSg.row w S a l) (hl : l.length ≤ 1000000000) :
    Calls Tryd.prog 10 #[.slice a l.length c, .string (bs nm)] w fun e w' =>
      (∃ v, e = .returned (.tuple #[v, .bool (findR l nm).isSome]) ∧ SgV w' (fun _ => True) v ((findR l nm).getD noSg)) ∧ Below w.heap.size w w' := by
  go_enter Tryd.func10, Tryd.ntmps10
  go_wp2
  go_loopw [6] (fun i wr => ∃ k : Nat, k ≤ l.length ∧ i = .int .i64 k ∧ findR l nm = findR (l.drop k) nm ∧ Kept (fun _ => False) (w.alloc (Obj.cells #[Value.string { data := #[] }, Value.slice none 0 0, Value.bool false] 33)) wr) (fun i _ => l.length - (intOf i).toNat)
  case atStart => exact ⟨0, Nat.zero_le _, rfl, rfl, Kept.refl _ _⟩
  case round =>
    obtain ⟨k, hk, rfl, hq, hkp⟩ := hrel
    have HQ : Hid (findR l nm = findR (l.drop k) nm) := hq
    clear hq
    have hres : wr.heap[w.heap.size]? = some (Obj.cells #[Value.string { data := #[] }, Value.slice none 0 0, Value.bool false] 33) := by
      rw [hkp.block _ (by simp) (fun h => h)]; exact heap_alloc_new w _
    have hlt0 : w.heap.size < wr.heap.size := lt_of_some hres
    have HB : Hid (Below w.heap.size w wr) := Kept.to_below ((Kept.alloc w _ _).trans hkp) fun k h => h.elim
    obtain ⟨c0, c1, c2, f0, f1, f2⟩ := cells3 hres
    have HRE : Hid _ := hres
    by_cases hlt : k < l.length
    · obtain ⟨b, o, pa, pc, rfl, hSb, hb, h0, h1, h2, hpc, hrow⟩ := sg_at h k hlt
      have e0 := (Kept.cell hkp (fun h => h) (alloc_cell (Obj.cells #[Value.string { data := #[] }, Value.slice none 0 0, Value.bool false] 33) h0))
      have e1 := (Kept.cell hkp (fun h => h) (alloc_cell (Obj.cells #[Value.string { data := #[] }, Value.slice none 0 0, Value.bool false] 33) h1))
      have e2 := (Kept.cell hkp (fun h => h) (alloc_cell (Obj.cells #[Value.string { data := #[] }, Value.slice none 0 0, Value.bool false] 33) h2))
      have hk1 : (k : Int) < (l.length : Int) := by omega
      by_cases hn : l[k].name = nm
      · have heq : ((bs l[k].name).toList == (bs nm).toList) = true := by rw [bs_tl, bs_tl]; simpa using hn
        have HF : Hid (findR l nm = some l[k]) := by show _ = _; rw [HQ.out, findR_drop l nm k hlt, if_pos hn]
        have hrow2 : kTy.row (((wr.setCell ⟨w.heap.size, 0, none⟩ (.string (bs l[k].name))).setCell ⟨w.heap.size, 1, none⟩ (.slice pa l[k].ps.length pc)).setCell ⟨w.heap.size, 2, none⟩ (.bool l[k].sec)) (fun _ => True) pa l[k].ps :=
          kTy.row_mono (by decide) hrow fun i hi hlt2 => ⟨trivial, ((setCell_other (by omega)).trans ((setCell_other (by omega)).trans (setCell_other (by omega)))).trans (HB.out.block i hlt2)⟩
        have HRW : Hid _ := hrow2
        clear h0 h1 h2 hrow hn hrow2 hkp hres
        go_wp2_with fail
        refine bodyPost_ret_by (results_row2 Tryd.results10 rfl rfl (load_sig (set3 HRE.out) rfl)) rfl ?_
        exact ⟨⟨_, by rw [HF.out]; rfl, by rw [HF.out]; exact ⟨pa, pc, rfl, hpc, HRW.out⟩⟩, bl_set (bl_set (bl_set HB.out _ _ _ (Nat.le_refl _)) _ _ _ (Nat.le_refl _)) _ _ _ (Nat.le_refl _)⟩
      · have hne : ((bs l[k].name).toList == (bs nm).toList) = false := by rw [bs_tl, bs_tl]; simpa using hn
        have HKP : Hid _ := hkp
        clear h0 h1 h2 hrow hkp hres
        go_wp2_with fail
        go_roundw
        case rel => exact ⟨k + 1, by omega, by go_num, by rw [HQ.out, findR_drop l nm k hlt, if_neg hn], HKP.out⟩
        case measure => simp [intOf]; omega
    · have HN : Hid (findR l nm = none) := by show _ = _; rw [HQ.out, List.drop_of_length_le (by omega)]; rfl
      clear hkp hres
      go_wp2_with fail
      refine bodyPost_ret_by (results_row2 Tryd.results10 rfl rfl (load_sig (set3 HRE.out) rfl)) rfl ?_
      exact ⟨⟨_, by rw [HN.out]; rfl, by rw [HN.out]; exact ⟨none, 0, rfl, Nat.le_refl _, trivial⟩⟩, bl_set (bl_set (bl_set HB.out _ _ _ (Nat.le_refl _)) _ _ _ (Nat.le_refl _)) _ _ _ (Nat.le_refl _)⟩
end Go.Proofs.YtlagadofiahijaaDoor
