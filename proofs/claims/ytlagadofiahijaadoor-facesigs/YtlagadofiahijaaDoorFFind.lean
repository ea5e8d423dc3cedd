/- CONTRACT of face.Find. -/
import Derived.Test.YtlagadofiahijaaDoorFRow
namespace Go.Proofs.YtlagadofiahijaaDoor
open Go.ChangeShapes Go.WideShapes Go.ChangeAt Go.RowKit

def findR (l : List Sg) (nm : List UInt8) : Option Sg := l.find? fun x => x.name == nm
def noSg : Sg := ⟨[], [], false⟩
theorem findR_drop (l : List Sg) (nm : List UInt8) (k : Nat) (hk : k < l.length) : findR (l.drop k) nm = if l[k].name = nm then some l[k] else findR (l.drop (k + 1)) nm := by
  rw [List.drop_eq_getElem_cons hk, findR, List.find?_cons]
  by_cases h : l[k].name = nm
  · rw [if_pos h]; simp [h]
  · have hb : (l[k].name == nm) = false := by simpa using h
    rw [if_neg h, hb]; rfl
theorem bs_eq (a b : List UInt8) : (bs a = bs b) ↔ a = b := ⟨bs_inj, fun h => by rw [h]⟩

set_option maxRecDepth 100000 in
set_option maxHeartbeats 1000000 in
theorem find_any {S : Nat → Prop} (w : World) (a : Option Addr) (l : List Sg) (c : Nat) (nm : List UInt8) (h : kSg.row w S a l) (hl : l.length ≤ 1000000000) (hp : ∀ x ∈ l, x.ps.length ≤ 1000000) :
    Calls Tryd.prog 9 #[.slice a l.length c, .string (bs nm)] w fun e w' =>
      (∃ v, e = .returned (.tuple #[v, .bool (findR l nm).isSome]) ∧ SgV w' (fun b => w.heap.size ≤ b) v ((findR l nm).getD noSg)) ∧ Below w.heap.size w w' := by
  go_enter Tryd.func9, Tryd.ntmps9
  go_wp2
  go_loopw [10] (fun i wr => ∃ k : Nat, k ≤ l.length ∧ i = .int .i64 k ∧ findR l nm = findR (l.drop k) nm ∧ Kept (fun _ => False) (w.alloc (Obj.cells #[Value.string { data := #[] }, Value.slice none 0 0, Value.bool false] 33)) wr) (fun i _ => l.length - (intOf i).toNat)
  case atStart => exact ⟨0, Nat.zero_le _, rfl, rfl, Kept.refl _ _⟩
  case round =>
    obtain ⟨k, hk, rfl, hq, hkp⟩ := hrel
    have HQ : Hid (findR l nm = findR (l.drop k) nm) := hq
    clear hq
    have hres : wr.heap[w.heap.size]? = some (Obj.cells #[Value.string { data := #[] }, Value.slice none 0 0, Value.bool false] 33) := by
      rw [hkp.block _ (by simp) (fun h => h)]; exact heap_alloc_new w _
    have hlt0 : w.heap.size < wr.heap.size := lt_of_some hres
    by_cases hlt : k < l.length
    · obtain ⟨b, o, pa, pc, rfl, hSb, hb, h0, h1, h2, hpc, hrow⟩ := sg_at h k hlt
      by_cases hn : l[k].name = nm
      · have heq : ((bs l[k].name).toList == (bs nm).toList) = true := by rw [bs_tl, bs_tl]; simpa using hn
        have HF : Hid (findR l nm = some l[k]) := by show _ = _; rw [HQ.out, findR_drop l nm k hlt, if_pos hn]
        clear HQ
        have hp' : l[k].ps.length ≤ 1000000 := hp _ (List.getElem_mem hlt)
        have e0 := (Kept.cell hkp (fun h => h) (alloc_cell (Obj.cells #[Value.string { data := #[] }, Value.slice none 0 0, Value.bool false] 33) h0))
        have e1 := (Kept.cell hkp (fun h => h) (alloc_cell (Obj.cells #[Value.string { data := #[] }, Value.slice none 0 0, Value.bool false] 33) h1))
        have e2 := (Kept.cell hkp (fun h => h) (alloc_cell (Obj.cells #[Value.string { data := #[] }, Value.slice none 0 0, Value.bool false] 33) h2))
        have HB : Hid (Below w.heap.size w wr) := Kept.to_below ((Kept.alloc w _ _).trans hkp) fun k h => h.elim
        have hrow2 : kTy.row (wr.alloc (Obj.cells #[Value.string (bs l[k].name), Value.slice pa l[k].ps.length pc, Value.bool l[k].sec] 33)) S pa l[k].ps :=
          kTy.row_mono (by decide) hrow fun i hi hlt2 => ⟨hi, by rw [heap_alloc_old wr _ (by omega)]; exact HB.out.block i hlt2⟩
        clear h0 h1 h2 hrow hn
        have hcl := clone_any _ pa l[k].ps pc hrow2 hp'
        go_wp2_with (go_at_call 16; refine hcl.mono ?_; rintro e w2 ⟨⟨v, rfl, hrd⟩, hbel⟩; refine Hid.out ?_)
        refine Lib.hid ?_
        obtain ⟨qa, qc, rfl, hqr, hqc⟩ := hrd
        have hsz2 := hbel.size
        have hres2 : w2.heap[w.heap.size]? = some (Obj.cells #[Value.string { data := #[] }, Value.slice none 0 0, Value.bool false] 33) := by
          rw [hbel.block _ (by simp; omega), heap_alloc_old wr _ hlt0]; exact hres
        have hsig2 : w2.heap[wr.heap.size]? = some (Obj.cells #[Value.string (bs l[k].name), Value.slice pa l[k].ps.length pc, Value.bool l[k].sec] 33) := by
          rw [hbel.block _ (by simp)]; exact heap_alloc_new wr _
        have HB2 : Hid (Below w.heap.size w w2) := bl_then (bl_alloc HB.out _) hbel
        have HQR : Hid (kTy.row w2 (fun b => wr.heap.size + 1 ≤ b) qa l[k].ps) := by show kTy.row _ _ _ _; simpa using hqr
        obtain ⟨c0, c1, c2, f0, f1, f2⟩ := cells3 hres2
        obtain ⟨d0, d1, d2, g0, g1, g2⟩ := cells3 hsig2
        clear hrow2 hcl e0 e1 e2 hbel hqr hkp hres
        go_wp2
        have hres3 : (w2.setCell ⟨wr.heap.size, 1, none⟩ (Value.slice qa l[k].ps.length qc)).heap[w.heap.size]? = some (Obj.cells #[Value.string { data := #[] }, Value.slice none 0 0, Value.bool false] 33) := by
          rw [setCell_other (by omega)]; exact hres2
        refine bodyPost_ret_by (results_row2 Tryd.results9 rfl rfl (load_sig (set3 hres3) rfl)) rfl ?_
        refine ⟨⟨_, by rw [HF.out]; rfl, by rw [HF.out]; exact ⟨qa, qc, rfl, hqc, kTy.row_mono (by decide) HQR.out fun i hi _ => ⟨by omega, by rw [setCell_other (by omega), setCell_other (by omega), setCell_other (by omega), setCell_other (by omega)]⟩⟩⟩, bl_set (bl_set (bl_set (bl_set HB2.out _ _ _ (by omega)) _ _ _ (Nat.le_refl _)) _ _ _ (Nat.le_refl _)) _ _ _ (Nat.le_refl _)⟩
      · have hne : ((bs l[k].name).toList == (bs nm).toList) = false := by rw [bs_tl, bs_tl]; simpa using hn
        have e0 := (Kept.cell hkp (fun h => h) (alloc_cell (Obj.cells #[Value.string { data := #[] }, Value.slice none 0 0, Value.bool false] 33) h0))
        have e1 := (Kept.cell hkp (fun h => h) (alloc_cell (Obj.cells #[Value.string { data := #[] }, Value.slice none 0 0, Value.bool false] 33) h1))
        have e2 := (Kept.cell hkp (fun h => h) (alloc_cell (Obj.cells #[Value.string { data := #[] }, Value.slice none 0 0, Value.bool false] 33) h2))
        clear h0 h1 h2
        go_wp2_with fail
        go_roundw
        case rel => exact ⟨k + 1, by omega, by go_num, by rw [HQ.out, findR_drop l nm k hlt, if_neg hn], hkp.alloc_r _⟩
        case measure => simp [intOf]; omega
    · obtain ⟨c0, c1, c2, f0, f1, f2⟩ := cells3 hres
      have HB : Hid (Below w.heap.size w wr) := Kept.to_below ((Kept.alloc w _ _).trans hkp) fun k h => h.elim
      have HN : Hid (findR l nm = none) := by show _ = _; rw [HQ.out, List.drop_of_length_le (by omega)]; rfl
      go_wp2_with fail
      refine bodyPost_ret_by (results_row2 Tryd.results9 rfl rfl (load_sig (set3 hres) rfl)) rfl ?_
      exact ⟨⟨_, by rw [HN.out]; rfl, by rw [HN.out]; exact ⟨none, 0, rfl, Nat.le_refl _, trivial⟩⟩, bl_set (bl_set (bl_set HB.out _ _ _ (Nat.le_refl _)) _ _ _ (Nat.le_refl _)) _ _ _ (Nat.le_refl _)⟩
end Go.Proofs.YtlagadofiahijaaDoor
