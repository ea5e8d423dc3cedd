/- CONTRACT of the reference's wrong. -/
import Derived.Test.YtkbanngbchhgaaaIFaultH
import Derived.Test.YtkbanngbchhgaaaIRightR
import Derived.Test.YtkbanngbchhgaaaIRef2
import Derived.Deep.CutBlock
import Derived.Deep.CutRange
import Derived.BigQuiet
namespace Go.Proofs.Ytkbanngbchhgaaa
open Go.ChangeShapes Go.WideShapes Go.ChangeAt Go.RowKit

theorem faS_on {b : Nat} {nm : List UInt8} {s1 : Value} {rg cl : Int} {s2 : Value} {kd op d xa xb xc : Int} {n : Nat} {xn : List UInt8} {s3 : Value} {w1 w2 : World} (h : FaS b nm s1 rg cl s2 kd op d xa xb xc n xn s3 w1) (hlt : b + 1 < w1.heap.size) (hb : Below w1.heap.size w1 w2) : FaS b nm s1 rg cl s2 kd op d xa xb xc n xn s3 w2 := by
  have ce : ∀ b o, b < w1.heap.size → w2.cell? ⟨b, o, none⟩ = w1.cell? ⟨b, o, none⟩ := fun b o h => hb.cell (p := ⟨b, o, none⟩) h
  obtain ⟨⟨q0, q1, q2, q3, q4⟩, p0, p1, p2, p3, p4, p5, p6, p7, p8⟩ := h
  refine ⟨⟨?_, ?_, ?_, ?_, ?_⟩, ⟨?_, ?_, ?_, ?_, ?_, ?_, ?_, ?_, ?_⟩⟩ <;> rw [ce _ _ (by omega)] <;> assumption
theorem conv_u64 (z : Int) (h0 : 0 ≤ z) (h1 : z ≤ 4294967295) (w : World) : (convert 41 62 (.int .u32 z)).run Try.prog w = .ok (.int .u64 z) w := by
  have hs : (Try.prog.underlying 41).isSome = true := by rw [Try.underlying41]; rfl
  have hk : Try.prog.intKind 62 = .u64 := by kernel_rfl
  have hd : Try.prog.underlying 62 = some (.int (Try.prog.intKind 62)) := by rw [hk]; exact Try.underlying62
  have hw : IntKind.u64.wrap z = z := by rw [IntKind.wrap_u64]; omega
  rw [run_convert_int w 41 62 .u32 z hs hd, hk, hw]
theorem conv_i64 (z : Int) (h0 : 0 ≤ z) (h1 : z ≤ 4096) (w : World) : (convert 3 62 (.int .i64 z)).run Try.prog w = .ok (.int .u64 z) w := by
  have hs : (Try.prog.underlying 3).isSome = true := by rw [Try.underlying3]; rfl
  have hk : Try.prog.intKind 62 = .u64 := by kernel_rfl
  have hd : Try.prog.underlying 62 = some (.int (Try.prog.intKind 62)) := by rw [hk]; exact Try.underlying62
  have hw : IntKind.u64.wrap z = z := by rw [IntKind.wrap_u64]; omega
  rw [run_convert_int w 3 62 .i64 z hs hd, hk, hw]
theorem ret_i64 {a b : Int} (h : a = b) : Ending.returned (.int .i64 a) = .returned (.int .i64 b) := by rw [h]
theorem knownB_eq (kd op d xa xb xc : Int) (n : Nat) (xn : List UInt8) (ag : List Int) : knownB ⟨kd, op, d, xa, xb, xc, n, xn, ag⟩ = if kd = 3 then decide (1 ≤ op ∧ op ≤ 10) else if kd = 7 then decide (ag.length ≤ 6) && fullB xn else decide (1 ≤ kd ∧ kd ≤ 10) := rfl
set_option maxRecDepth 100000 in
set_option maxHeartbeats 4000000 in
theorem refWrong_any (x : Co) (pa : Option Addr) (pc : Nat) (la : Option Addr) (lc : Nat) (i : Nat) (w : World) (hin : CoIn w (fun _ => True) x pa pc la lc) (hok : CoOk x) (hl : x.l.length ≤ 10000) (hi : i < x.l.length) (hc0 : 0 ≤ x.cells) (hc1 : x.cells ≤ 4096) :
    Calls Try.prog 29 #[coV x pa pc la lc, .int .i64 i] w fun e w' => e = .returned (.int .i64 (faultN x i x.l[i])) ∧ Below w.heap.size w w' := by
  obtain ⟨b0, o0, ga, gc, rfl, _, hb0, hia, hgc, hn, hrow⟩ := ir_at hin.l i hi
  have hia1 := hia.keep (heap_alloc_old w (coO x pa pc (some ⟨b0, o0, none⟩) lc) hb0)
  obtain ⟨o1, o2⟩ := hok.ins _ (List.getElem_mem hi)
  have hrow2 : kInt.row ((w.alloc (coO x pa pc (some ⟨b0, o0, none⟩) lc)).alloc (irO x.l[i] ga gc)) (fun _ => True) ga x.l[i].args := kInt.row_mono (by decide) hrow fun b _ hlt => ⟨trivial, by rw [heap_alloc_old _ _ (by simp; omega), heap_alloc_old _ _ hlt]⟩
  generalize hgy : x.l[i] = y at *
  clear hgy hia hrow hin
  obtain ⟨nm, ps, rg, cl, l⟩ := x
  obtain ⟨kd, op, d, xa, xb, xc, n, xn, ag⟩ := y
  have HFa : Hid (faultN ⟨nm, ps, rg, cl, l⟩ i ⟨kd, op, d, xa, xb, xc, n, xn, ag⟩ = if knownB ⟨kd, op, d, xa, xb, xc, n, xn, ag⟩ = false then 14 else if ((readsL ⟨kd, op, d, xa, xb, xc, n, xn, ag⟩).all (inB rg) && (!writesB ⟨kd, op, d, xa, xb, xc, n, xn, ag⟩ || inB rg d)) = false then 15 else if (kd = 5 ∨ kd = 6) ∧ cl ≤ n then 16 else if (kd = 8 ∨ kd = 9) ∧ (xc ≤ i ∨ l.length ≤ xc) then 17 else if i + 1 = l.length ∧ kd ≠ 10 then 18 else 0) := rfl
  have HK : Hid _ := knownB_eq kd op d xa xb xc n xn ag
  have hS0 := faS_of (w := w) (w' := (w.alloc (coO ⟨nm, ps, rg, cl, l⟩ pa pc (some ⟨b0, o0, none⟩) lc)).alloc (irO ⟨kd, op, d, xa, xb, xc, n, xn, ag⟩ ga gc)) (nm := nm) (s1 := .slice pa ps.length pc) (rg := rg) (cl := cl) (s2 := .slice (some ⟨b0, o0, none⟩) l.length lc) (kd := kd) (op := op) (d := d) (xa := xa) (xb := xb) (xc := xc) (n := n) (xn := xn) (s3 := .slice ga ag.length gc) (Below.refl _ _)
  have hB0 : Below w.heap.size w ((w.alloc (coO ⟨nm, ps, rg, cl, l⟩ pa pc (some ⟨b0, o0, none⟩) lc)).alloc (irO ⟨kd, op, d, xa, xb, xc, n, xn, ag⟩ ga gc)) := bl_alloc (bl_alloc (Below.refl _ _) _) _
  have hz0 : ((w.alloc (coO ⟨nm, ps, rg, cl, l⟩ pa pc (some ⟨b0, o0, none⟩) lc)).alloc (irO ⟨kd, op, d, xa, xb, xc, n, xn, ag⟩ ga gc)).heap.size = w.heap.size + 2 := by simp
  obtain ⟨e0, e1, e2, e3, e4, e5, e6, e7, e8⟩ := hia1
  simp only at hl hi hc0 hc1 hrow2 hgc hn o1 o2 e0 e1 e2 e3 e4 e5 e6 e7 e8 ⊢
  have HS0 : Hid _ := hS0
  have HB0 : Hid _ := hB0
  have HZ0 : Hid _ := hz0
  have HRW : Hid _ := hrow2
  clear hS0 hB0 hz0 hrow2
  have hi0 : (0 : Int) ≤ (i : Int) := by omega
  have hi1 : (i : Int) < (l.length : Int) := by omega
  unfold coV
  go_enter Try.func29, Try.ntmps29
  go_upto_region 2 with fail
  generalize World.alloc (World.alloc w _) _ = w1 at HS0 HB0 HZ0 HRW ⊢
  clear e0 e1 e2 e3 e4 e5 e6 e7 e8
  have hfull := refFull_any xn w1 o1
  obtain ⟨⟨q0, q1, q2, q3, q4⟩, p0, p1, p2, p3, p4, p5, p6, p7, p8⟩ := HS0.out
  go_cut [52] from 13 (fun c wx => c = .bool (!knownB ⟨kd, op, d, xa, xb, xc, n, xn, ag⟩) ∧ wx = w1)
  case first =>
    by_cases k1 : kd < 1
    · go_wp2
      go_meet
      exact ⟨congrArg Value.bool (by rw [HK.out, if_neg (by omega), if_neg (by omega)]; simp; omega), rfl⟩
    by_cases k10 : 10 < kd
    · go_wp2
      go_meet
      exact ⟨congrArg Value.bool (by rw [HK.out, if_neg (by omega), if_neg (by omega)]; simp; omega), rfl⟩
    by_cases k3 : kd = 3
    · subst k3
      by_cases o1 : op < 1
      · go_wp2
        go_meet
        exact ⟨congrArg Value.bool (by rw [HK.out]; simp; omega), rfl⟩
      by_cases o10 : 10 < op
      · go_wp2
        go_meet
        exact ⟨congrArg Value.bool (by rw [HK.out]; simp; omega), rfl⟩
      · go_wp2
        go_meet
        exact ⟨congrArg Value.bool (by rw [HK.out]; simp; omega), rfl⟩
    have k3' : (kd == 3) = false := by rw [beq_eq_false_iff_ne]; exact k3
    by_cases k7 : kd = 7
    · subst k7
      by_cases a6 : 6 < ag.length
      · have a6' : (6 : Int) < (ag.length : Int) := by omega
        go_wp2
        go_meet
        exact ⟨congrArg Value.bool (by rw [HK.out]; simp; omega), rfl⟩
      have a6' : ¬ (6 : Int) < (ag.length : Int) := by omega
      rcases nf : fullB xn with _ | _ <;> rw [nf] at hfull
      all_goals go_wp2_with (first | (go_at_call 28; refine hfull.mono ?_; rintro e w2 ⟨rfl, hq⟩; subst hq))
      all_goals go_meet
      all_goals exact ⟨congrArg Value.bool (by rw [HK.out, nf]; simp; try omega), rfl⟩
    · have k7' : (kd == 7) = false := by rw [beq_eq_false_iff_ne]; exact k7
      go_wp2
      go_meet
      exact ⟨congrArg Value.bool (by rw [HK.out, if_neg k3, if_neg k7]; simp; omega), rfl⟩
  obtain ⟨rfl, rfl⟩ := hcut
  clear hfull HK
  rcases nk : knownB ⟨kd, op, d, xa, xb, xc, n, xn, ag⟩ with _ | _ <;> rw [nk] at HFa
  · have HE : Hid (14 = faultN ⟨nm, ps, rg, cl, l⟩ i ⟨kd, op, d, xa, xb, xc, n, xn, ag⟩) := by show _ = _; rw [HFa.out]; simp
    go_wp2
    go_ret
    exact ⟨ret_i64 HE.out, HB0.out⟩
  have hrl : (readsL ⟨kd, op, d, xa, xb, xc, n, xn, ag⟩).length ≤ 1000000 := by
    unfold readsL
    split
    · simp
    · split
      · simp
      · split
        · simp
        · split
          · exact o2
          · simp
  have hrd := refReads_any ⟨kd, op, d, xa, xb, xc, n, xn, ag⟩ ga gc wc HRW.out hgc
  generalize readsL ⟨kd, op, d, xa, xb, xc, n, xn, ag⟩ = rl at hrd hrl HFa
  unfold irV at hrd
  simp only at hrd
  go_upto_region 6 with (first | (go_at_call 19; refine hrd.mono ?_; rintro e w2 ⟨⟨v, rfl, ra, rc, rfl, hrr, _⟩, hb2⟩))
  have hS2 := faS_on HS0.out (by rw [HZ0.out]; omega) hb2
  have HF2 : Hid (faultN ⟨nm, ps, rg, cl, l⟩ i ⟨kd, op, d, xa, xb, xc, n, xn, ag⟩ = if (rl.all (inB rg) && (!writesB ⟨kd, op, d, xa, xb, xc, n, xn, ag⟩ || inB rg d)) = false then 15 else restN ⟨nm, ps, rg, cl, l⟩ i ⟨kd, op, d, xa, xb, xc, n, xn, ag⟩) := by show _ = _; rw [HFa.out]; simp [restN]
  have HB2 : Hid _ := bl_then HB0.out hb2
  have HS2 : Hid _ := hS2
  have HZ2 : Hid (w.heap.size + 2 ≤ w2.heap.size) := by show _ ≤ _; rw [← HZ0.out]; exact hb2.size
  clear hb2 hS2 hrd HFa HS0 HB0
  go_loopw [7] (fun j wr => ∃ m : Nat, m ≤ rl.length ∧ j = .int .i64 m ∧ rl.all (inB rg) = (rl.drop m).all (inB rg) ∧ Below w2.heap.size w2 wr) (fun j _ => rl.length - (intOf j).toNat)
  case atStart => exact ⟨0, Nat.zero_le _, rfl, rfl, Below.refl _ _⟩
  case round =>
    obtain ⟨m, hm, rfl, hq, hbl⟩ := hrel
    have HQ : Hid (rl.all (inB rg) = (rl.drop m).all (inB rg)) := hq
    have HBL : Hid (Below w2.heap.size w2 wr) := hbl
    have hSr := faS_on HS2.out (by have := HZ2.out; omega) hbl
    obtain ⟨⟨q0, q1, q2, q3, q4⟩, p0, p1, p2, p3, p4, p5, p6, p7, p8⟩ := hSr
    clear hq
    by_cases hlt : m < rl.length
    · obtain ⟨b, o, rfl, hS, hb, h0⟩ := int_at hrr m hlt
      have e0 := (hbl.cell (p := ⟨b, o + m, none⟩) hb).trans h0
      have HD : Hid _ := inB_drop rg rl m hlt
      have HI : Hid (inB rg rl[m] = decide (0 ≤ rl[m] ∧ rl[m] < rg)) := rfl
      generalize rl[m] = r at e0 HD HI
      have hm0 : (0 : Int) ≤ (m : Int) := by omega
      have hm1 : (m : Int) < (rl.length : Int) := by omega
      clear h0 hbl q0 q1 q3 q4 p0 p1 p2 p3 p4 p5 p6 p7 p8
      by_cases h1 : r < 0
      · have HE : Hid (15 = faultN ⟨nm, ps, rg, cl, l⟩ i ⟨kd, op, d, xa, xb, xc, n, xn, ag⟩) := by show _ = _; rw [HF2.out, HQ.out, HD.out, HI.out]; simp; omega
        go_wp2_with fail
        go_quiet (fail)
        go_wp2_with fail
        go_ret
        exact ⟨ret_i64 HE.out, bl_then HB2.out (bl_then HBL.out (drewN_below _ _))⟩
      by_cases h2 : rg ≤ r
      · have HE : Hid (15 = faultN ⟨nm, ps, rg, cl, l⟩ i ⟨kd, op, d, xa, xb, xc, n, xn, ag⟩) := by show _ = _; rw [HF2.out, HQ.out, HD.out, HI.out]; simp; omega
        go_wp2_with fail
        go_quiet (fail)
        go_wp2_with fail
        go_ret
        exact ⟨ret_i64 HE.out, bl_then HB2.out (bl_then HBL.out (drewN_below _ _))⟩
      · go_wp2_with fail
        go_quiet (fail)
        go_wp2_with fail
        go_roundw
        case rel => exact ⟨m + 1, by omega, by go_num, by rw [HQ.out, HD.out, HI.out]; simp; omega, bl_then HBL.out (drewN_below _ _)⟩
        case measure => simp [intOf]; omega
    · have hall : rl.all (inB rg) = true := by rw [HQ.out, List.drop_of_length_le (by omega)]; rfl
      have hw := refWrites_any ⟨kd, op, d, xa, xb, xc, n, xn, ag⟩ ga gc wr
      unfold irV at hw
      simp only at hw
      rw [hall] at HF2
      have HSr : Hid _ := faS_on HS2.out (by have := HZ2.out; omega) hbl
      have HBr : Hid _ := bl_then HB2.out hbl
      have HZr : Hid (w.heap.size + 2 ≤ wr.heap.size) := Nat.le_trans HZ2.out hbl.size
      clear hbl HQ hall HBL
      generalize hwb : writesB ⟨kd, op, d, xa, xb, xc, n, xn, ag⟩ = wb at hw HF2
      clear hwb
      go_upto_region 10 with fail
      go_cut [88] from 75 to 138 (fun c wx => c = .bool (wb && !inB rg d) ∧ Below wr.heap.size wr wx)
      case first =>
        have HIB : Hid (inB rg d = decide (0 ≤ d ∧ d < rg)) := rfl
        obtain ⟨⟨q0, q1, q2, q3, q4⟩, p0, p1, p2, p3, p4, p5, p6, p7, p8⟩ := HSr.out
        cases wb
        · go_wp2_with (first | (go_at_call 20; refine hw.mono ?_; rintro e w3 ⟨rfl, hb3⟩))
          go_meet
          exact ⟨rfl, hb3⟩
        · by_cases d0 : d < 0
          · go_wp2_with (first | (go_at_call 20; refine hw.mono ?_; rintro e w3 ⟨rfl, hb3⟩; obtain ⟨⟨q0, q1, q2, q3, q4⟩, p0, p1, p2, p3, p4, p5, p6, p7, p8⟩ := faS_on HSr.out (by have := HZr.out; omega) hb3))
            go_meet
            exact ⟨congrArg Value.bool (by rw [HIB.out]; simp; omega), hb3⟩
          by_cases d1 : rg ≤ d
          · go_wp2_with (first | (go_at_call 20; refine hw.mono ?_; rintro e w3 ⟨rfl, hb3⟩; obtain ⟨⟨q0, q1, q2, q3, q4⟩, p0, p1, p2, p3, p4, p5, p6, p7, p8⟩ := faS_on HSr.out (by have := HZr.out; omega) hb3))
            go_meet
            exact ⟨congrArg Value.bool (by rw [HIB.out]; simp; omega), hb3⟩
          · go_wp2_with (first | (go_at_call 20; refine hw.mono ?_; rintro e w3 ⟨rfl, hb3⟩; obtain ⟨⟨q0, q1, q2, q3, q4⟩, p0, p1, p2, p3, p4, p5, p6, p7, p8⟩ := faS_on HSr.out (by have := HZr.out; omega) hb3))
            go_meet
            exact ⟨congrArg Value.bool (by have e1 : decide (d < 0) = false := decide_eq_false (by omega); have e2 : decide (rg ≤ d) = false := decide_eq_false (by omega); rw [HIB.out, decide_eq_true (show 0 ≤ d ∧ d < rg by omega), e1, e2]; rfl), hb3⟩
      obtain ⟨rfl, hbw⟩ := hcut
      clear hw
      have HBw : Hid _ := bl_then HBr.out hbw
      obtain ⟨⟨q0, q1, q2, q3, q4⟩, p0, p1, p2, p3, p4, p5, p6, p7, p8⟩ := faS_on HSr.out (by have := HZr.out; omega) hbw
      clear hbw
      have HF3 : Hid (faultN ⟨nm, ps, rg, cl, l⟩ i ⟨kd, op, d, xa, xb, xc, n, xn, ag⟩ = if (wb && !inB rg d) = true then 15 else restN ⟨nm, ps, rg, cl, l⟩ i ⟨kd, op, d, xa, xb, xc, n, xn, ag⟩) := by
        show _ = _
        rw [HF2.out]
        cases wb <;> cases inB rg d <;> rfl
      generalize (wb && !inB rg d) = bad at HF3 ⊢
      cases bad
      case true =>
        have HE : Hid (15 = faultN ⟨nm, ps, rg, cl, l⟩ i ⟨kd, op, d, xa, xb, xc, n, xn, ag⟩) := by show _ = _; rw [HF3.out]; rfl
        go_wp2
        go_ret
        exact ⟨ret_i64 HE.out, HBw.out⟩
      have HR : Hid (faultN ⟨nm, ps, rg, cl, l⟩ i ⟨kd, op, d, xa, xb, xc, n, xn, ag⟩ = if (kd = 5 ∨ kd = 6) ∧ cl ≤ n then 16 else if (kd = 8 ∨ kd = 9) ∧ (xc ≤ i ∨ l.length ≤ xc) then 17 else if i + 1 = l.length ∧ kd ≠ 10 then 18 else 0) := by show _ = _; rw [HF3.out]; rfl
      have hcn := fun w' => conv_u64 (n : Int) (by omega) (by omega) w'
      have hcc := fun w' => conv_i64 cl hc0 hc1 w'
      have hi2 : (i : Int) + 1 ≤ (l.length : Int) := by omega
      generalize hz : (n : Int) = z at *
      clear HF3 HF2
      have last : ∀ v : Value, True := fun _ => trivial
      clear last
      by_cases ka : kd = 5 ∨ kd = 6
      · by_cases ha : cl ≤ z
        · have HE : Hid (16 = faultN ⟨nm, ps, rg, cl, l⟩ i ⟨kd, op, d, xa, xb, xc, n, xn, ag⟩) := by show _ = _; rw [HR.out, if_pos ⟨ka, ha⟩]
          rcases ka with rfl | rfl
          all_goals go_wp2
          all_goals go_ret
          all_goals exact ⟨ret_i64 HE.out, HBw.out⟩
        · by_cases hl1 : i + 1 = l.length
          · have HE : Hid (18 = faultN ⟨nm, ps, rg, cl, l⟩ i ⟨kd, op, d, xa, xb, xc, n, xn, ag⟩) := by show _ = _; rw [HR.out, if_neg (by omega), if_neg (by omega), if_pos (by omega)]
            have hl2 : (i : Int) = (l.length : Int) - 1 := by omega
            rcases ka with rfl | rfl
            all_goals go_wp2
            all_goals go_ret
            all_goals exact ⟨ret_i64 HE.out, HBw.out⟩
          · have HE : Hid (0 = faultN ⟨nm, ps, rg, cl, l⟩ i ⟨kd, op, d, xa, xb, xc, n, xn, ag⟩) := by show _ = _; rw [HR.out, if_neg (by omega), if_neg (by omega), if_neg (by omega)]
            have hl2 : ((i : Int) == (l.length : Int) - 1) = false := by rw [beq_eq_false_iff_ne]; omega
            rcases ka with rfl | rfl
            all_goals go_wp2
            all_goals go_ret
            all_goals exact ⟨ret_i64 HE.out, HBw.out⟩
      have g5 : (kd == 5) = false := by rw [beq_eq_false_iff_ne]; omega
      have g6 : (kd == 6) = false := by rw [beq_eq_false_iff_ne]; omega
      by_cases kj : kd = 8 ∨ kd = 9
      · by_cases hj : xc ≤ i
        · have HE : Hid (17 = faultN ⟨nm, ps, rg, cl, l⟩ i ⟨kd, op, d, xa, xb, xc, n, xn, ag⟩) := by show _ = _; rw [HR.out, if_neg (by omega), if_pos (by omega)]
          rcases kj with rfl | rfl
          all_goals go_wp2
          all_goals go_ret
          all_goals exact ⟨ret_i64 HE.out, HBw.out⟩
        · by_cases hj2 : (l.length : Int) ≤ xc
          · have HE : Hid (17 = faultN ⟨nm, ps, rg, cl, l⟩ i ⟨kd, op, d, xa, xb, xc, n, xn, ag⟩) := by show _ = _; rw [HR.out, if_neg (by omega), if_pos (by omega)]
            rcases kj with rfl | rfl
            all_goals go_wp2
            all_goals go_ret
            all_goals exact ⟨ret_i64 HE.out, HBw.out⟩
          · have hl1 : ¬ i + 1 = l.length := by omega
            have HE : Hid (0 = faultN ⟨nm, ps, rg, cl, l⟩ i ⟨kd, op, d, xa, xb, xc, n, xn, ag⟩) := by show _ = _; rw [HR.out, if_neg (by omega), if_neg (by omega), if_neg (by omega)]
            have hl2 : ((i : Int) == (l.length : Int) - 1) = false := by rw [beq_eq_false_iff_ne]; omega
            rcases kj with rfl | rfl
            all_goals go_wp2
            all_goals go_ret
            all_goals exact ⟨ret_i64 HE.out, HBw.out⟩
      have g8 : (kd == 8) = false := by rw [beq_eq_false_iff_ne]; omega
      have g9 : (kd == 9) = false := by rw [beq_eq_false_iff_ne]; omega
      by_cases hl1 : i + 1 = l.length
      · have hl2 : (i : Int) = (l.length : Int) - 1 := by omega
        by_cases kr : kd = 10
        · have HE : Hid (0 = faultN ⟨nm, ps, rg, cl, l⟩ i ⟨kd, op, d, xa, xb, xc, n, xn, ag⟩) := by show _ = _; rw [HR.out, if_neg (by omega), if_neg (by omega), if_neg (by omega)]
          subst kr
          go_wp2
          go_ret
          exact ⟨ret_i64 HE.out, HBw.out⟩
        · have HE : Hid (18 = faultN ⟨nm, ps, rg, cl, l⟩ i ⟨kd, op, d, xa, xb, xc, n, xn, ag⟩) := by show _ = _; rw [HR.out, if_neg (by omega), if_neg (by omega), if_pos (by omega)]
          have g10 : (kd == 10) = false := by rw [beq_eq_false_iff_ne]; exact kr
          go_wp2
          go_ret
          exact ⟨ret_i64 HE.out, HBw.out⟩
      · have HE : Hid (0 = faultN ⟨nm, ps, rg, cl, l⟩ i ⟨kd, op, d, xa, xb, xc, n, xn, ag⟩) := by show _ = _; rw [HR.out, if_neg (by omega), if_neg (by omega), if_neg (by omega)]
        have hl2 : ((i : Int) == (l.length : Int) - 1) = false := by rw [beq_eq_false_iff_ne]; omega
        go_wp2
        go_ret
        exact ⟨ret_i64 HE.out, HBw.out⟩
end Go.Proofs.Ytkbanngbchhgaaa
