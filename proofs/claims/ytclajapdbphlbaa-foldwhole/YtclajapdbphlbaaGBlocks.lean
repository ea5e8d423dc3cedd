/- CONTRACT of blocks. -/
import Derived.Test.YtclajapdbphlbaaGHeap
namespace Go.Proofs.Ytclajapdbphlbaa
open Go.ChangeShapes Go.WideShapes Go.ChangeAt Go.RowKit

/-- Jumps go to places. -/
def JumpOk (l : List Ir) : Prop := ∀ x ∈ l, x.kind = 8 ∨ x.kind = 9 → 0 ≤ x.c ∧ x.c < l.length
set_option maxRecDepth 100000 in
set_option maxHeartbeats 2000000 in
theorem blocks_any {S : Nat → Prop} (w : World) (a : Option Addr) (l : List Ir) (c : Nat) (h : kIr.row w S a l) (hl : l.length ≤ 1000000) (hj : JumpOk l) :
    Calls Try.prog 37 #[.slice a l.length c] w fun e w' => e = .returned (.slice (some ⟨w.heap.size, 0, none⟩) (l.length + 1) (l.length + 1)) ∧ w'.heap[w.heap.size]? = some (.cells (bvs (begs l)) 4) ∧ Below w.heap.size w w' := by
  have hmk := run_make_row' (P := Try.prog) 84 4 (.bool false) 1 Try.underlying84 bool_info rfl .i64 .i64 (l.length + 1) (by omega) (by omega)
  simp only [made_bools, Int.natCast_add, Int.cast_ofNat_Int] at hmk
  have HN : Hid ((w.alloc (.cells (bvs (List.replicate (l.length + 1) false)) 4)).heap[w.heap.size]? = some (.cells (bvs (List.replicate (l.length + 1) false)) 4)) := heap_alloc_new w _
  have HB0 : Hid _ := bl_alloc (Below.refl w.heap.size w) (.cells (bvs (List.replicate (l.length + 1) false)) 4)
  have hf := brow_free HN.out
  have HM : Hid _ := hmk
  clear hmk
  have hmk' := HM.out
  have hc0 := brow_cell HN.out (k := 0) (by simp)
  have HS : Hid ((w.alloc (.cells ((bvs (List.replicate (l.length + 1) false)).setIfInBounds 0 (.bool true)) 4)).heap[w.heap.size]? = some (.cells (bvs (beg0 l.length)) 4)) := by
    have := heap_alloc_new w (.cells ((bvs (List.replicate (l.length + 1) false)).setIfInBounds 0 (.bool true)) 4)
    rw [bvs_set] at this ⊢
    exact this
  have HB1 : Hid _ := bl_alloc (Below.refl w.heap.size w) (.cells ((bvs (List.replicate (l.length + 1) false)).setIfInBounds 0 (.bool true)) 4)
  clear HM
  go_enter Try.func37, Try.ntmps37
  go_upto_region 3 with fail
  generalize World.alloc w _ = w1 at HS HB1 ⊢
  clear hf hc0 HN HB0 hmk'
  go_upto_region 4 with fail
  go_loopw [14] (fun i wr => ∃ (k : Nat) (b : List Bool), k ≤ l.length ∧ i = .int .i64 k ∧ b.length = l.length + 1 ∧ begF k (l.drop k) b = begs l ∧ wr.heap[w.heap.size]? = some (.cells (bvs b) 4) ∧ Below w.heap.size w wr) (fun i _ => l.length - (intOf i).toNat)
  case atStart => exact ⟨0, _, Nat.zero_le _, rfl, by simp [beg0], rfl, HS.out, HB1.out⟩
  case round =>
    obtain ⟨k, b, hk, rfl, hbl, hbq, hbr, hB⟩ := hrel
    have HB : Hid _ := hB
    have HQ : Hid _ := hbq
    have HL : Hid _ := hbl
    by_cases hlt : k < l.length
    · obtain ⟨b2, o, ga, gc, rfl, hS, hb2, hia, hgc, hn, hrow⟩ := ir_at h k hlt
      have hia' := hia.keep (hB.block b2 hb2)
      obtain ⟨e0, e1, e2, e3, e4, e5, e6, e7, e8⟩ := hia'
      have HD : Hid (begF k (l.drop k) b = begF (k + 1) (l.drop (k + 1)) (begS b k l[k])) := by show _ = _; rw [List.drop_eq_getElem_cons hlt, begF]
      have hjk := hj l[k] (List.getElem_mem hlt)
      have hsz : w.heap.size < wr.heap.size := lt_of_some hbr
      generalize l[k] = y at e0 e1 e2 e3 e4 e5 e6 e7 e8 HD hjk
      have hbx : Hid ((wr.alloc (irB y ga gc)).heap[w.heap.size]? = some (.cells (bvs b) 4)) := by show _ = _; rw [heap_alloc_old _ _ hsz]; exact hbr
      have HBx : Hid (Below w.heap.size w (wr.alloc (irB y ga gc))) := bl_alloc hB _
      have hf := brow_free hbr
      have hlen : b.length = l.length + 1 := hbl
      have HR0 : Hid _ := hbr
      clear hia hrow hB hbq hbr hbl
      by_cases h8 : y.kind = 8 ∨ y.kind = 9
      · obtain ⟨c0, c1⟩ := hjk h8
        have hct : ((y.c.toNat : Nat) : Int) = y.c := by omega
        have hca := brow_cell HR0.out (k := y.c.toNat) (by omega)
        have HE : Hid (begS b k y = (b.set y.c.toNat true).set (k + 1) true) := if_pos h8
        have HR1 : Hid (((wr.setCell ⟨w.heap.size, y.c.toNat, none⟩ (.bool true)).alloc (irB y ga gc)).heap[w.heap.size]? = some (.cells (bvs (b.set y.c.toNat true)) 4)) := by
          show _ = _
          rw [heap_alloc_old _ _ (by simpa using hsz)]; exact brow_set HR0.out _
        have HB1 : Hid _ := bl_alloc (bl_set HB.out w.heap.size y.c.toNat (.bool true) (Nat.le_refl _)) (irB y ga gc)
        rcases h8 with h8 | h8
        · simp only [irB, h8] at HR1 HB1
          go_upto_region 10 with fail
          generalize World.alloc (World.setCell _ _ _) _ = w3 at HR1 HB1 ⊢
          have hc3 := brow_cell HR1.out (k := k + 1) (by simp; omega)
          have hf3 := brow_free HR1.out
          have HR : Hid _ := brow_set HR1.out (k + 1)
          have HBy : Hid _ := bl_set HB1.out w.heap.size (k + 1) (.bool true) (Nat.le_refl _)
          clear hca hf e0 e1 e2 e3 e4 e5 e6 e7 e8
          go_wp2_with fail
          go_roundw
          case rel => exact ⟨k + 1, (b.set y.c.toNat true).set (k + 1) true, by omega, by go_num, by simp [hlen], by rw [← HQ.out, HD.out, HE.out], HR.out, HBy.out⟩
          case measure => simp [intOf]; omega
        · have g8 : (y.kind == 8) = false := by rw [h8]; rfl
          simp only [irB, h8] at HR1 HB1
          go_upto_region 10 with fail
          generalize World.alloc (World.setCell _ _ _) _ = w3 at HR1 HB1 ⊢
          have hc3 := brow_cell HR1.out (k := k + 1) (by simp; omega)
          have hf3 := brow_free HR1.out
          have HR : Hid _ := brow_set HR1.out (k + 1)
          have HBy : Hid _ := bl_set HB1.out w.heap.size (k + 1) (.bool true) (Nat.le_refl _)
          clear hca hf e0 e1 e2 e3 e4 e5 e6 e7 e8
          go_wp2_with fail
          go_roundw
          case rel => exact ⟨k + 1, (b.set y.c.toNat true).set (k + 1) true, by omega, by go_num, by simp [hlen], by rw [← HQ.out, HD.out, HE.out], HR.out, HBy.out⟩
          case measure => simp [intOf]; omega
      have g8 : (y.kind == 8) = false := by simpa using fun e => h8 (.inl e)
      have g9 : (y.kind == 9) = false := by simpa using fun e => h8 (.inr e)
      by_cases h10 : y.kind = 10
      · have hca := brow_cell HR0.out (k := k + 1) (by omega)
        have HE : Hid (begS b k y = b.set (k + 1) true) := by show _ = _; unfold begS; rw [if_neg h8, if_pos h10]
        have HR : Hid (((wr.setCell ⟨w.heap.size, k + 1, none⟩ (.bool true)).alloc (irB y ga gc)).heap[w.heap.size]? = some (.cells (bvs (b.set (k + 1) true)) 4)) := by
          show _ = _
          rw [heap_alloc_old _ _ (by simpa using hsz)]; exact brow_set HR0.out _
        have HBy : Hid _ := bl_alloc (bl_set HB.out w.heap.size (k + 1) (.bool true) (Nat.le_refl _)) (irB y ga gc)
        simp only [irB, h10] at HR HBy
        go_wp2_with fail
        go_roundw
        case rel => exact ⟨k + 1, b.set (k + 1) true, by omega, by go_num, by simp [hlen], by rw [← HQ.out, HD.out, HE.out], HR.out, HBy.out⟩
        case measure => simp [intOf]; omega
      · have g10 : (y.kind == 10) = false := by simpa using h10
        have HE : Hid (begS b k y = b) := by show _ = _; unfold begS; rw [if_neg h8, if_neg h10]
        go_wp2_with fail
        go_roundw
        case rel => exact ⟨k + 1, b, by omega, by go_num, hlen, by rw [← HQ.out, HD.out, HE.out], hbx.out, HBx.out⟩
        case measure => simp [intOf]; omega
    · have HE : Hid (b = begs l) := by have := HQ.out; rw [List.drop_of_length_le (by omega), begF] at this; exact this
      have HF : Hid (wr.heap[w.heap.size]? = some (.cells (bvs (begs l)) 4)) := by show _ = _; rw [← HE.out]; exact hbr
      clear hB hbr hbq hbl
      go_wp2_with fail
      go_ret
      exact ⟨rfl, HF.out, HB.out⟩
end Go.Proofs.Ytclajapdbphlbaa
