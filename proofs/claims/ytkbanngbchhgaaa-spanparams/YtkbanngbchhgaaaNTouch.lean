/- CONTRACT of the document's touches. -/
import Derived.Test.YtkbanngbchhgaaaNPart
import Derived.Test.YtkbanngbchhgaaaIRef2
import Derived.Test.YtkbanngbchhgaaaGBase
namespace Go.Proofs.Ytkbanngbchhgaaa
open Go.ChangeShapes Go.WideShapes Go.ChangeAt Go.RowKit

theorem any_take (l : List Int) (r : Int) (k : Nat) (hk : k < l.length) (h : (l.take k).any (· == r) = false) (hne : l[k] ≠ r) : (l.take (k + 1)).any (· == r) = false := by
  rw [List.take_succ_eq_append_getElem hk, List.any_append, h]
  simpa using hne
set_option maxRecDepth 100000 in
set_option maxHeartbeats 2000000 in
theorem touches_any (x : Ir) (a : Option Addr) (c : Nat) (r : Int) (w : World) (hr : kInt.row w (fun _ => True) a x.args) (hc : x.args.length ≤ c) (hl : (readsL x).length ≤ 1000000) :
    Calls Try.prog 27 #[irV x a c, .int .i64 r] w fun e w' => e = .returned (.bool (touchB x r)) ∧ Below w.heap.size w w' := by
  have hb0 := bl_alloc (Below.refl w.heap.size w) (irB x a c)
  have hx0 := heap_alloc_new w (irB x a c)
  have hre := refReads_any (S := fun _ => True) x a c (w.alloc (irB x a c)) (kInt.row_mono (by decide) hr fun b _ hlt => ⟨trivial, hb0.block b hlt⟩) hc
  have hwr := fun w => refWrites_any x a c w
  have HT : Hid (touchB x r = ((readsL x).any (· == r) || (writesB x && x.d == r))) := rfl
  obtain ⟨e0, e1, e2, e3, e4, e5, e6, e7, e8⟩ := irB_at hx0
  unfold irV at hre hwr ⊢
  have HX : Hid _ := hx0
  have HB0 : Hid _ := hb0
  clear hx0 hb0 hr
  go_enter Try.func27, Try.ntmps27
  go_upto_region 3 with (first | (go_at_call 19; refine hre.mono ?_; rintro e w2 ⟨⟨v, rfl, ra, rc, rfl, hrr, hrc⟩, hb2⟩))
  have hX2 := (hb2.block _ (lt_of_some HX.out)).trans HX.out
  have hB2 := bl_then HB0.out hb2
  have HX2 : Hid _ := hX2
  have HB2 : Hid _ := hB2
  have HR2 : Hid _ := hrr
  clear hre hb2 hX2 hB2 hrr HX HB0 e0 e1 e2 e3 e4 e5 e6 e7 e8
  generalize readsL x = rs at HT HR2 hl hrc ⊢
  go_loopw [6] (fun i wr => ∃ k : Nat, k ≤ rs.length ∧ i = .int .i64 k ∧ (rs.take k).any (· == r) = false ∧ Below w2.heap.size w2 wr) (fun i _ => rs.length - (intOf i).toNat)
  case atStart => exact ⟨0, Nat.zero_le _, rfl, by simp, Below.refl _ _⟩
  case round =>
    obtain ⟨k, hk, rfl, hq, hbl⟩ := hrel
    have HQ : Hid _ := hq
    have HB : Hid _ := bl_then HB2.out hbl
    have HBL : Hid _ := hbl
    by_cases hlt : k < rs.length
    · have hrw : kInt.row wr (fun _ => True) ra rs := kInt.row_mono (by decide) HR2.out fun b _ hlt => ⟨trivial, hbl.block b hlt⟩
      obtain ⟨b, o, rfl, _, hb, hcell⟩ := int_at hrw k hlt
      have hk1 : (k : Int) < (rs.length : Int) := by omega
      have hmem := List.getElem_mem hlt
      have hnx := any_take rs r k hlt hq
      generalize rs[k] = z at hcell hmem hnx
      clear hbl hrw hq
      by_cases hz : z = r
      · subst hz
        have HR : Hid (touchB x z = true) := by show _ = _; rw [HT.out, List.any_eq_true.2 ⟨z, hmem, by simp⟩]; rfl
        clear hnx
        go_wp2_with fail
        go_ret
        exact ⟨ret_bool HR.out.symm, HB.out⟩
      · have hz' : (z == r) = false := by simpa using hz
        have HNX : Hid _ := hnx hz
        clear hnx
        go_wp2_with fail
        go_roundw
        case rel => exact ⟨k + 1, by omega, by go_num, HNX.out, HBL.out⟩
        case measure => simp [intOf]; omega
    · obtain rfl : k = rs.length := by omega
      rw [List.take_length] at HQ
      have hx3 := (hbl.block _ (lt_of_some HX2.out)).trans HX2.out
      obtain ⟨e0, e1, e2, e3, e4, e5, e6, e7, e8⟩ := irB_at hx3
      have hwr3 := hwr wr
      have HX3 : Hid _ := hx3
      clear hbl hq hx3 hwr
      rcases hw : writesB x with _ | _ <;> rw [hw] at hwr3
      · have HR : Hid (touchB x r = false) := by show _ = _; rw [HT.out, HQ.out, hw]; rfl
        go_wp2_with (first | (go_at_call 20; refine hwr3.mono ?_; rintro e w5 ⟨rfl, hb5⟩))
        go_ret
        exact ⟨ret_bool HR.out.symm, bl_then HB.out hb5⟩
      · have HR : Hid (touchB x r = (x.d == r)) := by show _ = _; rw [HT.out, HQ.out, hw]; rfl
        go_wp2_with (first | (go_at_call 20; refine hwr3.mono ?_; rintro e w5 ⟨rfl, hb5⟩; obtain ⟨g0, g1, g2, g3, g4, g5, g6, g7, g8⟩ := irB_at ((hb5.block _ (lt_of_some HX3.out)).trans HX3.out)))
        go_ret
        exact ⟨ret_bool HR.out.symm, bl_then HB.out hb5⟩
end Go.Proofs.Ytkbanngbchhgaaa
