/- CONTRACT of the statements' own Light, of functions. -/
import Derived.Test.YtkbanngbchhgaaaIRightR
namespace Go.Proofs.Ytkbanngbchhgaaa
open Go.ChangeShapes Go.WideShapes Go.ChangeAt Go.RowKit

def irLight (y : Ir) : Bool := decide (y.name.length ≤ 100) && decide (y.args.length ≤ 20)
def coLight0 (c : Co) : Bool := decide (c.name.length ≤ 100) && (decide (c.ps.length ≤ 20) && (decide (c.l.length ≤ 3000) && (decide (c.regs ≤ 20000) && decide (c.cells ≤ 20000))))
def coLight (c : Co) : Bool := coLight0 c && c.l.all irLight
def lightB (l : List Co) : Bool := decide (l.length ≤ 20) && l.all coLight
theorem light_drop (l : List Co) (k : Nat) (hk : k < l.length) : (l.drop k).all coLight = (coLight l[k] && (l.drop (k + 1)).all coLight) := by
  rw [List.drop_eq_getElem_cons hk, List.all_cons]
theorem irs_drop (l : List Ir) (k : Nat) (hk : k < l.length) : (l.drop k).all irLight = (irLight l[k] && (l.drop (k + 1)).all irLight) := by
  rw [List.drop_eq_getElem_cons hk, List.all_cons]
theorem light_ok {c : Co} (h : coLight c = true) : CoOk c := by
  simp only [coLight, coLight0, Bool.and_eq_true, decide_eq_true_eq, List.all_eq_true] at h
  refine ⟨by omega, fun y hy => ?_⟩
  have := h.2 y hy
  simp only [irLight, Bool.and_eq_true, decide_eq_true_eq] at this
  omega
theorem light_all {l : List Co} (h : lightB l = true) : l.length ≤ 20 ∧ ∀ c ∈ l, CoOk c := by
  simp only [lightB, Bool.and_eq_true, decide_eq_true_eq, List.all_eq_true] at h
  exact ⟨h.1, fun c hc => light_ok (h.2 c hc)⟩
set_option maxRecDepth 100000 in
set_option maxHeartbeats 2000000 in
theorem light_any {S : Nat → Prop} (w : World) (a : Option Addr) (l : List Co) (c : Nat) (h : kCo.row w S a l) :
    Calls Try.prog 10 #[.slice a l.length c] w fun e w' => e = .returned (.bool (lightB l)) ∧ Below w.heap.size w w' := by
  by_cases hl : 20 < l.length
  · have hl' : (20 : Int) < (l.length : Int) := by omega
    have HF : Hid (lightB l = false) := by show _ = _; unfold lightB; simp; omega
    go_enter Try.func10, Try.ntmps10
    go_wp2
    go_ret
    exact ⟨ret_bool HF.out.symm, Below.refl _ _⟩
  · have hl' : ¬ (20 : Int) < (l.length : Int) := by omega
    have HF : Hid (lightB l = l.all coLight) := by show _ = _; unfold lightB; simp; omega
    go_enter Try.func10, Try.ntmps10
    go_wp2
    go_loopw [3] (fun i wr => ∃ k : Nat, k ≤ l.length ∧ i = .int .i64 k ∧ l.all coLight = (l.drop k).all coLight ∧ Below w.heap.size w wr) (fun i _ => l.length - (intOf i).toNat)
    case atStart => exact ⟨0, Nat.zero_le _, rfl, rfl, Below.refl _ _⟩
    case round =>
      obtain ⟨k, hk, rfl, hq, hbl⟩ := hrel
      have HQ : Hid (l.all coLight = (l.drop k).all coLight) := hq
      have HB : Hid (Below w.heap.size w wr) := hbl
      clear hq
      by_cases hlt : k < l.length
      · obtain ⟨b, o, pa, pc, la, lc, rfl, hSb, hb, hat, hin⟩ := co_at h k hlt
        have hat' := hat.keep (hbl.block b hb)
        obtain ⟨e0, e1, e2, e3, e4⟩ := hat'
        have HD : Hid ((l.drop k).all coLight = (coLight l[k] && (l.drop (k + 1)).all coLight)) := light_drop l k hlt
        generalize hgx : l[k] = x at e0 e1 e2 e3 e4 hin HD
        have HT : Hid (coLight x = (coLight0 x && x.l.all irLight)) := rfl
        have HT0 : Hid (coLight0 x = (decide (x.name.length ≤ 100) && (decide (x.ps.length ≤ 20) && (decide (x.l.length ≤ 3000) && (decide (x.regs ≤ 20000) && decide (x.cells ≤ 20000)))))) := rfl
        have HI : Hid (kIr.row (wr.alloc (coO x pa pc la lc)) (fun _ => True) la x.l) := kIr.row_mono (by decide) hin.l fun i _ hi => ⟨trivial, by rw [heap_alloc_old wr _ (Nat.lt_of_lt_of_le hi hbl.size)]; exact hbl.block i hi⟩
        have HBx : Hid (Below w.heap.size w (wr.alloc (coO x pa pc la lc))) := bl_alloc hbl _
        have hsz := bs_size x.name
        clear hat hbl hin hgx h
        have hk0 : (0 : Int) ≤ (k : Int) := by omega
        have hk1 : (k : Int) < (l.length : Int) := by omega
        by_cases hnm : 100 < x.name.length
        · have hnm' : (100 : Int) < ((bs x.name).size : Int) := by omega
          go_wp2_with fail
          go_ret
          exact ⟨ret_bool (by rw [HF.out, HQ.out, HD.out, HT.out, HT0.out]; simp; omega), HBx.out⟩
        have hnm' : ¬ (100 : Int) < ((bs x.name).size : Int) := by omega
        by_cases hps : 20 < x.ps.length
        · have hps' : (20 : Int) < (x.ps.length : Int) := by omega
          go_wp2_with fail
          go_ret
          exact ⟨ret_bool (by rw [HF.out, HQ.out, HD.out, HT.out, HT0.out]; simp; omega), HBx.out⟩
        have hps' : ¬ (20 : Int) < (x.ps.length : Int) := by omega
        by_cases hls : 3000 < x.l.length
        · have hls' : (3000 : Int) < (x.l.length : Int) := by omega
          go_wp2_with fail
          go_ret
          exact ⟨ret_bool (by rw [HF.out, HQ.out, HD.out, HT.out, HT0.out]; simp; omega), HBx.out⟩
        have hls' : ¬ (3000 : Int) < (x.l.length : Int) := by omega
        by_cases hrg : 20000 < x.regs
        · have hrg' : (20000 : Int) < x.regs := by omega
          go_wp2_with fail
          go_ret
          exact ⟨ret_bool (by rw [HF.out, HQ.out, HD.out, HT.out, HT0.out]; simp; omega), HBx.out⟩
        have hrg' : ¬ (20000 : Int) < x.regs := by omega
        by_cases hcl : 20000 < x.cells
        · have hcl' : (20000 : Int) < x.cells := by omega
          go_wp2_with fail
          go_ret
          exact ⟨ret_bool (by rw [HF.out, HQ.out, HD.out, HT.out, HT0.out]; simp; omega), HBx.out⟩
        have hcl' : ¬ (20000 : Int) < x.cells := by omega
        have H0 : Hid (coLight0 x = true) := by show _ = _; rw [HT0.out]; simp; omega
        go_wp2_with fail
        go_loop [5] (fun j => ∃ m : Nat, m ≤ x.l.length ∧ j = .int .i64 m ∧ x.l.all irLight = (x.l.drop m).all irLight) (fun j => x.l.length - (intOf j).toNat)
        case atStart => exact ⟨0, Nat.zero_le _, rfl, rfl⟩
        case round =>
          obtain ⟨m, hm, rfl, hq⟩ := hrel
          have HQ2 : Hid _ := hq
          clear hq
          by_cases hmt : m < x.l.length
          · obtain ⟨b2, o2, ga, gc, rfl, _, hb2, hia, _, _, _⟩ := ir_at HI.out m hmt
            obtain ⟨i0, i1, i2, i3, i4, i5, i6, i7, i8⟩ := hia
            have HD2 : Hid _ := irs_drop x.l m hmt
            have HY : Hid (irLight x.l[m] = (decide (x.l[m].name.length ≤ 100) && decide (x.l[m].args.length ≤ 20))) := rfl
            generalize x.l[m] = y at i7 i8 HD2 HY
            have hsy := bs_size y.name
            have hm0 : (0 : Int) ≤ (m : Int) := by omega
            have hm1 : (m : Int) < (x.l.length : Int) := by omega
            clear i0 i1 i2 i3 i4 i5 i6
            by_cases hn : 100 < y.name.length
            · have hn' : (100 : Int) < ((bs y.name).size : Int) := by omega
              go_wp2_with fail
              go_ret
              exact ⟨ret_bool (by rw [HF.out, HQ.out, HD.out, HT.out, HQ2.out, HD2.out, HY.out]; simp; omega), HBx.out⟩
            have hn' : ¬ (100 : Int) < ((bs y.name).size : Int) := by omega
            by_cases hg : 20 < y.args.length
            · have hg' : (20 : Int) < (y.args.length : Int) := by omega
              go_wp2_with fail
              go_ret
              exact ⟨ret_bool (by rw [HF.out, HQ.out, HD.out, HT.out, HQ2.out, HD2.out, HY.out]; simp; omega), HBx.out⟩
            have hg' : ¬ (20 : Int) < (y.args.length : Int) := by omega
            go_wp2_with fail
            go_round
            case rel => exact ⟨m + 1, by omega, by go_num, by rw [HQ2.out, HD2.out, HY.out]; simp; omega⟩
            case measure => simp [intOf]; omega
          · have HN : Hid (x.l.all irLight = true) := by show _ = _; rw [HQ2.out, List.drop_of_length_le (by omega)]; rfl
            go_wp2_with fail
            go_roundw
            case rel => exact ⟨k + 1, by omega, by go_num, by rw [HQ.out, HD.out, HT.out, H0.out, HN.out]; rfl, HBx.out⟩
            case measure => simp [intOf]; omega
      · clear hbl
        go_wp2_with fail
        go_ret
        exact ⟨ret_bool (by rw [HF.out, HQ.out, List.drop_of_length_le (by omega)]; rfl), HB.out⟩
end Go.Proofs.Ytkbanngbchhgaaa
