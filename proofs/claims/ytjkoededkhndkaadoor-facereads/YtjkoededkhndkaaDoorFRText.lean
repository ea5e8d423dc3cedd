/- CONTRACT of the reference's Text. -/
import Derived.Test.YtjkoededkhndkaaDoorFRLine
import Derived.Test.YtjkoededkhndkaaDoorFBackW
namespace Go.Proofs.YtjkoededkhndkaaDoor
open Go.ChangeShapes Go.WideShapes Go.ChangeAt Go.RowKit Go.Shelf

/-- Has a name of the first i come again among them? -/
def Once (l : List Sg) (i : Nat) : Prop := ((l.take i).map Sg.name).Nodup
theorem names_len (l : List Sg) (i : Nat) (h : i ≤ l.length) : ((l.take i).map Sg.name).length = i := by simp; omega
theorem once_step {l : List Sg} {i : Nat} (h : i < l.length) (ho : Once l i) (hn : ∀ k (hk : k < i), l[i].name ≠ (l[k]'(by omega)).name) : Once l (i + 1) := by
  unfold Once at *
  rw [List.take_succ_eq_append_getElem h, List.map_append, List.map_cons, List.map_nil, nodup_snoc]
  refine ⟨ho, fun hm => ?_⟩
  obtain ⟨x, hx, he⟩ := List.mem_map.1 hm
  obtain ⟨k, hk, rfl⟩ := List.getElem_of_mem hx
  have hk' : k < i := by simp at hk; omega
  refine hn k hk' ?_
  rw [← he]; simp
theorem once_twice {l : List Sg} {i k : Nat} (h : i < l.length) (hk : k < i) (he : l[i].name = (l[k]'(by omega)).name) : ¬ (l.map Sg.name).Nodup := by
  intro hn
  have := (List.getElem_inj (i := i) (j := k) (h₀ := by simpa using h) (h₁ := by simp; omega) hn).1 (by simpa using he)
  omega

set_option maxRecDepth 100000 in
set_option maxHeartbeats 2000000 in
theorem refText_any {S : Nat → Prop} (w : World) (a : Option Addr) (l : List Sg) (c : Nat) (h : kSg.row w S a l) (hwt : wt l ≤ 300000) (hps : ∀ x ∈ l, x.ps.length ≤ 1000000) :
    Calls Tryd.prog 13 #[.slice a l.length c] w fun e w' => e = .returned (.tuple #[.string (bs (textR l).1), .int .i64 (textR l).2]) ∧ Below w.heap.size w w' := by
  have hlen := wt_ge l
  go_enter Tryd.func13, Tryd.ntmps13
  go_wp2_with fail
  go_loopw [4, 5] (fun s i wr => ∃ (k : Nat) (acc : List UInt8), k ≤ l.length ∧ i = .int .i64 k ∧ s = .string (bs acc) ∧ acc = linesT (l.take k) ∧ acc.length ≤ wt (l.take k) ∧ (l.take k).all mayB = true ∧ Below w.heap.size w wr) (fun _ i _ => l.length - (intOf i).toNat)
  case atStart => exact ⟨0, [], Nat.zero_le _, rfl, rfl, rfl, Nat.zero_le _, rfl, Below.refl _ _⟩
  case round =>
    obtain ⟨k, acc, hk, rfl, rfl, hacc, hal, hall, hb⟩ := hrel
    have HAC : Hid (acc = linesT (l.take k)) := hacc
    have HAL : Hid ((l.take k).all mayB = true) := hall
    have HB : Hid (Below w.heap.size w wr) := hb
    have hwk := wt_le l k
    clear hacc hall
    by_cases hlt : k < l.length
    · obtain ⟨b, o, pa, pc, rfl, hSb, hbb, h0, h1, h2, hpc, hrow⟩ := sg_at h k hlt
      have e0 := (hb.cell (p := ⟨b, o + k * 3, none⟩) hbb).trans h0
      have e1 := (hb.cell (p := ⟨b, o + k * 3 + 1, none⟩) hbb).trans h1
      have e2 := (hb.cell (p := ⟨b, o + k * 3 + 2, none⟩) hbb).trans h2
      have hk0 : (0 : Int) ≤ (k : Int) := by omega
      have hk1 : (k : Int) < (l.length : Int) := by omega
      have hwt2 := wt_at l k hlt
      have hpk := hps _ (List.getElem_mem hlt)
      have hrow1 : kTy.row wr S pa l[k].ps := kTy.row_mono (by decide) hrow fun i hi hlt => ⟨hi, hb.block i hlt⟩
      have hri := right_any l[k] pa pc wr hrow1 (by omega) (by omega)
      clear h0 h1 h2 hb
      rcases hmb : mayB l[k] with _ | _ <;> rw [hmb] at hri
      · have HF : Hid (textR l = ([], 6)) := textR_form (by
          rw [Bool.eq_false_iff]
          intro e
          have := List.all_eq_true.1 e _ (List.getElem_mem hlt)
          rw [hmb] at this
          cases this)
        clear hmb
        go_wp2_with (first | (go_at_call 20; refine hri.mono ?_; rintro e w2 ⟨rfl, hb2⟩))
        go_ret2
        exact ⟨ret_text (by rw [HF.out]), bl_then HB.out hb2⟩
      · have HMB : Hid (mayB l[k] = true) := hmb
        obtain ⟨_, hok⟩ := mayB_parts hmb
        have hll := lineT_len hmb
        clear hmb
        obtain ⟨a1, ha1⟩ : ∃ r, r = acc ++ lineT l[k] := ⟨_, rfl⟩
        obtain ⟨g1z, g1⟩ := cat_to (by omega) ha1
        have HA1 : Hid (a1 = linesT (l.take (k + 1))) := by show _ = _; rw [ha1, lines_take l k hlt, HAC.out]
        have HL1 : Hid (a1.length ≤ wt (l.take (k + 1))) := by show _ ≤ _; rw [ha1, List.length_append, wt_take l k hlt]; omega
        clear ha1
        go_wp2_with (first | (go_at_call 20; refine hri.mono ?_; rintro e w2 ⟨rfl, hb2⟩; have hb02 := bl_then HB.out hb2; have d0 := (hb2.cell (p := ⟨b, o + k * 3, none⟩) (Nat.lt_of_lt_of_le hbb HB.out.size)).trans e0; have d1 := (hb2.cell (p := ⟨b, o + k * 3 + 1, none⟩) (Nat.lt_of_lt_of_le hbb HB.out.size)).trans e1; have d2 := (hb2.cell (p := ⟨b, o + k * 3 + 2, none⟩) (Nat.lt_of_lt_of_le hbb HB.out.size)).trans e2; have hli := refLine_any l[k] pa pc w2 (kTy.row_mono (by decide) hrow1 fun i hi hlt => ⟨hi, hb2.block i hlt⟩) (by omega) hpk hok; generalize lineT l[k] = ll at hli g1 g1z hll) | (go_at_call 21; refine hli.mono ?_; rintro e w3 ⟨rfl, hb3⟩))
        go_roundw
        case rel => exact ⟨k + 1, a1, by omega, by go_num, rfl, HA1.out, HL1.out, by rw [all_take l k hlt, HAL.out, HMB.out]; rfl, bl_then hb02 hb3⟩
        case measure => simp [intOf]; omega
    · have htk : l.take k = l := List.take_of_length_le (by omega)
      rw [htk] at HAC HAL
      clear hb hwk htk hal
      go_wp2_with fail
      go_loopw [6] (fun i wr => ∃ (n : Nat), n ≤ l.length ∧ i = .int .i64 n ∧ Once l n ∧ Below w.heap.size w wr) (fun i _ => l.length - (intOf i).toNat)
      case atStart => exact ⟨0, Nat.zero_le _, rfl, by simp [Once], HB.out⟩
      case round =>
        obtain ⟨n, hn, rfl, hon, hbn⟩ := hrel
        have HON : Hid (Once l n) := hon
        have HBN : Hid (Below w.heap.size w wr) := hbn
        clear hon hbn HB
        by_cases hnt : n < l.length
        · obtain ⟨b, o, pa, pc, rfl, hSb, hbb, h0, h1, h2, hpc, hrow⟩ := sg_at h n hnt
          have hn0 : (0 : Int) ≤ (n : Int) := by omega
          have hn1 : (n : Int) < (l.length : Int) := by omega
          clear h1 h2 hrow
          have H0 : Hid _ := h0
          clear h0
          go_wp2_with fail
          go_loopw [7] (fun i wr => ∃ (m : Nat), m ≤ n ∧ i = .int .i64 m ∧ (∀ j (hj : j < m) (hj2 : j < l.length), l[n].name ≠ l[j].name) ∧ Below w.heap.size w wr) (fun i _ => n - (intOf i).toNat)
          case atStart => exact ⟨0, Nat.zero_le _, rfl, fun j hj => by omega, HBN.out⟩
          case round =>
            obtain ⟨m, hm, rfl, hne, hbm⟩ := hrel
            have HNE : Hid (∀ j (hj : j < m) (hj2 : j < l.length), l[n].name ≠ l[j].name) := hne
            have HBM : Hid (Below w.heap.size w wr) := hbm
            clear hne HBN
            by_cases hmt : m < n
            · have hml : m < l.length := by omega
              obtain ⟨b', o', pa', pc', heq', hSb', hbb', k0, k1, k2, hpc', hrow'⟩ := sg_at h m hml
              simp only [Option.some.injEq, Addr.mk.injEq, and_true] at heq'
              obtain ⟨rfl, rfl⟩ := heq'
              have e0 := (hbm.cell (p := ⟨b, o + n * 3, none⟩) hbb).trans H0.out
              have d0 := (hbm.cell (p := ⟨b, o + m * 3, none⟩) hbb').trans k0
              have hm0 : (0 : Int) ≤ (m : Int) := by omega
              have hm1 : (m : Int) < (l.length : Int) := by omega
              clear k0 k1 k2 hrow' hbm
              by_cases hq : l[n].name = l[m].name
              · have hqe : ((bs l[n].name).toList == (bs l[m].name).toList) = true := by rw [bs_tl, bs_tl]; simpa using hq
                have HF : Hid (textR l = ([], 9)) := textR_twice HAL.out (once_twice hnt hmt hq)
                clear hq
                go_wp2_with fail
                go_quiet (fail)
                go_wp2_with fail
                go_ret2
                exact ⟨ret_text (by rw [HF.out]), bl_then HBM.out (drewN_below _ _)⟩
              · have hqe : ((bs l[n].name).toList == (bs l[m].name).toList) = false := by rw [bs_tl, bs_tl]; simpa using hq
                have HQ : Hid (¬ l[n].name = l[m].name) := hq
                clear hq
                go_wp2_with fail
                go_quiet (fail)
                go_wp2_with fail
                go_roundw
                case rel => exact ⟨m + 1, by omega, by go_num, fun j hj hj2 => by
                  rcases Nat.lt_or_ge j m with h | h
                  · exact HNE.out j h hj2
                  · have : j = m := by omega
                    subst this; exact HQ.out, bl_then HBM.out (drewN_below _ _)⟩
                case measure => simp [intOf]; omega
            · have : m = n := by omega
              subst this
              clear hbm
              go_wp2_with fail
              go_roundw
              case rel => exact ⟨m + 1, by omega, by go_num, once_step hnt HON.out fun j hj => HNE.out j hj (by omega), HBM.out⟩
              case measure => simp [intOf]; omega
        · have HF : Hid (textR l = (acc, 0)) := by
            show _ = _
            have ho := HON.out
            unfold Once at ho
            rw [List.take_of_length_le (by omega)] at ho
            rw [textR_ok HAL.out ho, HAC.out]
          go_wp2_with fail
          go_ret2
          exact ⟨ret_text HF.out.symm, HBN.out⟩
end Go.Proofs.YtjkoededkhndkaaDoor
