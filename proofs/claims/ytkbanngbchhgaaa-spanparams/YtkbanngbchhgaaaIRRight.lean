/- CONTRACT of the reference's Right. -/
import Derived.Test.YtkbanngbchhgaaaIRWrong
namespace Go.Proofs.Ytkbanngbchhgaaa
open Go.ChangeShapes Go.WideShapes Go.ChangeAt Go.RowKit

theorem ret_two {r : Int × Int} {a b : Int} (h : r = (a, b)) : Ending.returned (.tuple #[.int .i64 a, .int .i64 b]) = .returned (.tuple #[.int .i64 r.1, .int .i64 r.2]) := by rw [h]
theorem formB_eq (x : Co) : formB x = (fullB x.name && decide (x.ps.length ≤ 6) && decide (0 < x.l.length) && decide (x.l.length ≤ 10000) && x.ps.all tyOk && decide ((wordsN x.ps : Int) ≤ x.regs) && decide (x.regs ≤ 10000) && decide (cellsN x.ps ≤ x.cells) && decide (x.cells ≤ 4096)) := rfl
theorem ty_drop (l : List Ty) (k : Nat) (hk : k < l.length) : (l.drop k).all tyOk = (tyOk l[k] && (l.drop (k + 1)).all tyOk) := by
  rw [List.drop_eq_getElem_cons hk, List.all_cons]
set_option maxRecDepth 100000 in
set_option maxHeartbeats 4000000 in
theorem refRight_any (x : Co) (pa : Option Addr) (pc : Nat) (la : Option Addr) (lc : Nat) (w : World) (hin : CoIn w (fun _ => True) x pa pc la lc) (hok : CoOk x) (hps : x.ps.length ≤ 1000000) (hlm : x.l.length ≤ 1000000000) :
    Calls Try.prog 18 #[coV x pa pc la lc] w fun e w' => e = .returned (.tuple #[.int .i64 (rightR x).1, .int .i64 (rightR x).2]) ∧ Below w.heap.size w w' := by
  have h0 := bl_alloc (Below.refl w.heap.size w) (coO x pa pc la lc)
  have hnew : (w.alloc (coO x pa pc la lc)).heap[w.heap.size]? = some (coO x pa pc la lc) := heap_alloc_new w _
  have hin1 : CoIn (w.alloc (coO x pa pc la lc)) (fun _ => True) x pa pc la lc := hin.mono fun b _ hlt => ⟨trivial, heap_alloc_old w _ hlt⟩
  have HR : Hid (rightR x = if formB x then faultFrom x 0 x.l else (6, -1)) := rfl
  have HFo : Hid _ := formB_eq x
  have hbad : ∀ {b : Bool}, formB x = b → b = false → rightR x = (6, -1) := fun h1 h2 => by rw [HR.out, h1, h2]; rfl
  have HBAD : Hid (formB x = false → rightR x = (6, -1)) := fun h => hbad h rfl
  clear hbad
  unfold coV
  go_enter Try.func18, Try.ntmps18
  go_upto_region 1 with fail
  generalize World.alloc w _ = w1 at h0 hnew hin1 ⊢
  have hnm := refFull_any x.name w1 hok.name
  obtain ⟨k0, k1, k2, k3, k4⟩ := co_block hnew
  have HX : Hid _ := hnew
  have HB : Hid _ := h0
  clear hnew h0 hin
  rcases nf : fullB x.name with _ | _ <;> rw [nf] at hnm HFo
  · have H6 : Hid (rightR x = (6, -1)) := HBAD.out (by rw [HFo.out]; rfl)
    go_wp2_with (first | (go_at_call 28; refine hnm.mono ?_; rintro e w2 ⟨rfl, hq⟩; subst hq))
    go_ret2
    exact ⟨ret_two H6.out, HB.out⟩
  by_cases h6 : 6 < x.ps.length
  · have h6' : (6 : Int) < (x.ps.length : Int) := by omega
    have H6 : Hid (rightR x = (6, -1)) := HBAD.out (by rw [HFo.out]; simp; omega)
    go_wp2_with (first | (go_at_call 28; refine hnm.mono ?_; rintro e w2 ⟨rfl, hq⟩; subst hq))
    go_ret2
    exact ⟨ret_two H6.out, HB.out⟩
  have h6' : ¬ (6 : Int) < (x.ps.length : Int) := by omega
  go_upto_region 4 with (first | (go_at_call 28; refine hnm.mono ?_; rintro e w2 ⟨rfl, hq⟩; have hq' := hq.symm; subst hq'))
  clear hnm
  go_loop [4] (fun i => ∃ k : Nat, k ≤ x.ps.length ∧ i = .int .i64 k ∧ x.ps.all tyOk = (x.ps.drop k).all tyOk) (fun i => x.ps.length - (intOf i).toNat)
  case atStart => exact ⟨0, Nat.zero_le _, rfl, rfl⟩
  case round =>
    obtain ⟨k, hk, rfl, hq⟩ := hrel
    have HQ : Hid (x.ps.all tyOk = (x.ps.drop k).all tyOk) := hq
    clear hq
    by_cases hlt : k < x.ps.length
    · obtain ⟨b, o, rfl, _, hb, t0, t1⟩ := ty_at hin1.ps k hlt
      have HD : Hid _ := ty_drop x.ps k hlt
      have HT : Hid (tyOk x.ps[k] = (decide (0 ≤ x.ps[k].len) && decide (x.ps[k].len ≤ 16))) := rfl
      generalize x.ps[k] = t at t0 t1 HD HT
      have hk0 : (0 : Int) ≤ (k : Int) := by omega
      have hk1 : (k : Int) < (x.ps.length : Int) := by omega
      by_cases n0 : t.len < 0
      · have H6 : Hid (rightR x = (6, -1)) := HBAD.out (by rw [HFo.out, HQ.out, HD.out, HT.out]; simp; omega)
        go_wp2_with fail
        go_ret2
        exact ⟨ret_two H6.out, HB.out⟩
      by_cases n16 : 16 < t.len
      · have H6 : Hid (rightR x = (6, -1)) := HBAD.out (by rw [HFo.out, HQ.out, HD.out, HT.out]; simp; omega)
        go_wp2_with fail
        go_ret2
        exact ⟨ret_two H6.out, HB.out⟩
      go_wp2_with fail
      go_round
      case rel => exact ⟨k + 1, by omega, by go_num, by rw [HQ.out, HD.out, HT.out]; simp; omega⟩
      case measure => simp [intOf]; omega
    · have hall : x.ps.all tyOk = true := by rw [HQ.out, List.drop_of_length_le (by omega)]; rfl
      have hwo := refWords_any w1 pa x.ps pc hin1.ps hall hps
      have HA : Hid _ := hall
      have hcb := cellsN_bd x.ps hall
      have hwb := wordsN_bd x.ps
      rw [hall] at HFo
      clear hall
      go_upto_region 9 with (first | (go_at_call 26; refine hwo.mono ?_; rintro e w2 ⟨rfl, hb2⟩))
      have hX2 := (hb2.block _ (lt_of_some HX.out)).trans HX.out
      obtain ⟨k0, k1, k2, k3, k4⟩ := co_block hX2
      have HB2 : Hid _ := bl_then HB.out hb2
      have HX2 : Hid _ := hX2
      have HI2 : Hid (CoIn w2 (fun _ => True) x pa pc la lc) := hin1.mono fun b _ hlt => ⟨trivial, hb2.block b hlt⟩
      clear hwo hX2 hb2 hin1 HX HB
      have hwl : wordsN x.ps ≤ 6 := by omega
      generalize hgw : wordsN x.ps = nw at HFo hwl ⊢
      generalize hgc : cellsN x.ps = nc at HFo hcb ⊢
      clear hwb hgw hgc
      by_cases c1 : x.regs < nw
      · have H6 : Hid (rightR x = (6, -1)) := HBAD.out (by rw [HFo.out]; simp; omega)
        go_wp2
        go_ret2
        exact ⟨ret_two H6.out, HB2.out⟩
      by_cases c2 : 10000 < x.regs
      · have H6 : Hid (rightR x = (6, -1)) := HBAD.out (by rw [HFo.out]; simp; omega)
        go_wp2
        go_ret2
        exact ⟨ret_two H6.out, HB2.out⟩
      by_cases c3 : x.cells < nc
      · have H6 : Hid (rightR x = (6, -1)) := HBAD.out (by rw [HFo.out]; simp; omega)
        go_wp2
        go_ret2
        exact ⟨ret_two H6.out, HB2.out⟩
      by_cases c4 : 4096 < x.cells
      · have H6 : Hid (rightR x = (6, -1)) := HBAD.out (by rw [HFo.out]; simp; omega)
        go_wp2
        go_ret2
        exact ⟨ret_two H6.out, HB2.out⟩
      by_cases c5 : x.l.length = 0
      · have H6 : Hid (rightR x = (6, -1)) := HBAD.out (by rw [HFo.out, c5]; simp)
        have c5' : ((x.l.length : Nat) : Int) = 0 := by omega
        go_wp2
        go_ret2
        exact ⟨ret_two H6.out, HB2.out⟩
      have c5' : (((x.l.length : Nat) : Int) == 0) = false := by rw [beq_eq_false_iff_ne]; omega
      by_cases c6 : 10000 < x.l.length
      · have H6 : Hid (rightR x = (6, -1)) := HBAD.out (by rw [HFo.out]; simp; omega)
        have c6' : (10000 : Int) < (x.l.length : Int) := by omega
        go_wp2
        go_ret2
        exact ⟨ret_two H6.out, HB2.out⟩
      have c6' : ¬ (10000 : Int) < (x.l.length : Int) := by omega
      have HR2 : Hid (rightR x = faultFrom x 0 x.l) := by
        show _ = _
        rw [HR.out, if_pos]
        rw [HFo.out]; simp; omega
      have hcl0 : 0 ≤ x.cells := by omega
      clear HFo HBAD HR
      go_upto_region 12 with fail
      go_loopw [7] (fun j wr => ∃ k : Nat, k ≤ x.l.length ∧ j = .int .i64 k ∧ faultFrom x 0 x.l = faultFrom x k (x.l.drop k) ∧ Below w2.heap.size w2 wr) (fun j _ => x.l.length - (intOf j).toNat)
      case atStart => exact ⟨0, Nat.zero_le _, rfl, rfl, Below.refl _ _⟩
      case round =>
        obtain ⟨k, hk, rfl, hq, hbl⟩ := hrel
        have HQ : Hid (faultFrom x 0 x.l = faultFrom x k (x.l.drop k)) := hq
        have HBL : Hid (Below w2.heap.size w2 wr) := hbl
        obtain ⟨k0, k1, k2, k3, k4⟩ := co_block ((hbl.block _ (lt_of_some HX2.out)).trans HX2.out)
        clear hq
        by_cases hlt : k < x.l.length
        · have hinr : CoIn wr (fun _ => True) x pa pc la lc := HI2.out.mono fun b _ hlt => ⟨trivial, hbl.block b hlt⟩
          have hwr := refWrong_any x pa pc la lc k wr hinr hok (by omega) hlt hcl0 (by omega)
          have HD : Hid _ := faultFrom_drop x k hlt
          generalize faultN x k x.l[k] = fn at hwr HD
          unfold coV at hwr
          clear hbl hinr
          by_cases h0 : fn = 0
          · subst h0
            go_wp2_with (first | (go_at_call 29; refine hwr.mono ?_; rintro e w3 ⟨rfl, hb3⟩))
            go_roundw
            case rel => exact ⟨k + 1, by omega, by go_num, by rw [HQ.out, HD.out]; rfl, bl_then HBL.out hb3⟩
            case measure => simp [intOf]; omega
          · have h0' : (fn == 0) = false := by rw [beq_eq_false_iff_ne]; exact h0
            have HE : Hid (rightR x = (fn, (k : Int))) := by show _ = _; rw [HR2.out, HQ.out, HD.out, if_neg h0]
            go_wp2_with (first | (go_at_call 29; refine hwr.mono ?_; rintro e w3 ⟨rfl, hb3⟩))
            go_ret2
            exact ⟨ret_two HE.out, bl_then HB2.out (bl_then HBL.out hb3)⟩
        · have HE : Hid (rightR x = (0, -1)) := by show _ = _; rw [HR2.out, HQ.out, List.drop_of_length_le (by omega)]; rfl
          go_wp2_with fail
          go_ret2
          exact ⟨ret_two HE.out, bl_then HB2.out HBL.out⟩
end Go.Proofs.Ytkbanngbchhgaaa
