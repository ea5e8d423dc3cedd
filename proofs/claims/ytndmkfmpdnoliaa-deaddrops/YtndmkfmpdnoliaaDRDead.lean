/- CONTRACT of the reference's Dead. -/
import Derived.Test.YtndmkfmpdnoliaaDMath
import Derived.Test.YtndmkfmpdnoliaaGKit
import Derived.Test.YtndmkfmpdnoliaaIRef2
import Derived.Deep.QuietTactic
namespace Go.Proofs.Ytndmkfmpdnoliaa
open Go.ChangeShapes Go.WideShapes Go.ChangeAt Go.RowKit

theorem rds_len {x : Ir} {n : Nat} (h : x.args.length ≤ n) (hn : 3 ≤ n) : (readsL x).length ≤ n := by
  unfold readsL
  split
  · simp; omega
  split
  · simp; omega
  split
  · simp; omega
  split
  · exact h
  · simp
/-- What is found out when those from a place on have been asked. -/
def outB (l : List Ir) (k : Nat) : List Bool := List.replicate k false ++ deadL (l.drop k)
theorem outB_len (l : List Ir) (k : Nat) (h : k ≤ l.length) : (outB l k).length = l.length := by
  unfold outB
  rw [List.length_append, List.length_replicate, deadL_len, List.length_drop]; omega
theorem outB_live {l : List Ir} {k : Nat} (hk : k < l.length) (h : deadX (rdL (l.drop (k + 1))) l[k] = false) : outB l k = outB l (k + 1) := by
  unfold outB
  rw [List.drop_eq_getElem_cons hk, deadL, h, List.replicate_succ', List.append_assoc]
  rfl
theorem outB_set {l : List Ir} {k : Nat} (hk : k < l.length) : (outB l (k + 1)).set k (deadX (rdL (l.drop (k + 1))) l[k]) = outB l k := by
  unfold outB
  rw [List.drop_eq_getElem_cons hk, deadL, List.replicate_succ', List.append_assoc, List.set_append_right _ _ (by simp)]
  simp
theorem outB_get {l : List Ir} {k q : Nat} (hk : k ≤ q) (hq : q < l.length) : (outB l k)[q]'(by rw [outB_len l k (by omega)]; exact hq) = deadX (rdL (l.drop (q + 1))) l[q] := by
  have h1 : (outB l k)[q]? = some (deadX (rdL (l.drop (q + 1))) l[q]) := by
    unfold outB
    rw [List.getElem?_append_right (by simp; omega), List.length_replicate, deadL_drop, List.getElem?_drop, show k + (q - k) = q by omega]
    exact deadL_at l q hq
  rw [List.getElem?_eq_getElem (by rw [outB_len l k (by omega)]; exact hq)] at h1
  exact Option.some.inj h1
theorem rd_has (l : List Ir) (q : Nat) (hq : q < l.length) (d : Int) : (rdL (l.drop q)).contains d = ((!deadX (rdL (l.drop (q + 1))) l[q] && (readsL l[q]).contains d) || (rdL (l.drop (q + 1))).contains d) := by
  rw [rdL_drop l q hq]
  cases deadX (rdL (l.drop (q + 1))) l[q] with
  | true => rw [if_pos rfl]; rfl
  | false =>
    rw [if_neg (by decide), Bool.eq_iff_iff]
    simp only [List.contains_iff_mem, List.mem_append, Bool.or_eq_true, Bool.and_eq_true, Bool.not_false, true_and]
set_option maxRecDepth 100000 in
set_option maxHeartbeats 8000000 in
theorem refDead_any {S : Nat → Prop} (c : Co) (pa : Option Addr) (pc : Nat) (la : Option Addr) (lc : Nat) (w : World) (h : kIr.row w S la c.l) (hl : c.l.length ≤ 1000000) (hargs : ∀ x ∈ c.l, x.args.length ≤ 1000000) :
    Calls Try.prog 35 #[.agg #[.string (bs c.name), .slice pa c.ps.length pc, .int .i64 c.regs, .int .i64 c.cells, .slice la c.l.length lc]] w fun e w' => (∃ b cc, e = .returned (.slice (some ⟨b, 0, none⟩) c.l.length cc) ∧ w.heap.size ≤ b ∧ w'.heap[b]? = some (.cells (bvs (deadL c.l)) 4)) ∧ Below w.heap.size w w' := by
  have hmk := fun w => run_make_row' (P := Try.prog) 79 4 (.bool false) 1 Try.underlying79 bool_info rfl .i64 .i64 c.l.length (w := w) (by omega) (by omega)
  simp only [made_bools] at hmk
  have HT : Hid _ := two_box' w (coO c pa pc la lc) (.cells (bvs (List.replicate c.l.length false)) 4)
  go_enter Try.func35, Try.ntmps35
  go_upto_region 3 with fail
  generalize World.alloc (World.alloc w _) _ = w1 at HT ⊢
  obtain ⟨h1, h2, hb1, hz1⟩ := HT.out
  have HB1 : Hid _ := hb1
  have HX1 : Hid (w1.heap[w.heap.size]? = some (coO c pa pc la lc)) := h1
  have HO1 : Hid (w1.heap[w.heap.size + 1]? = some (.cells (bvs (outB c.l c.l.length)) 4)) := by
    have : outB c.l c.l.length = List.replicate c.l.length false := by unfold outB; rw [List.drop_length]; simp [deadL]
    show _ = _
    rw [this]
    exact h2
  clear HT h1 h2 hb1 hz1 hmk
  generalize hBo : w.heap.size + 1 = Bo at HO1 ⊢
  go_loopw [4] (fun i wr => ∃ m : Nat, m ≤ c.l.length ∧ i = .int .i64 ((c.l.length : Int) - 1 - m) ∧ wr.heap[Bo]? = some (.cells (bvs (outB c.l (c.l.length - m))) 4) ∧ wr.heap[w.heap.size]? = some (coO c pa pc la lc) ∧ Below w.heap.size w wr) (fun i _ => (intOf i + 1).toNat)
  case atStart => exact ⟨0, Nat.zero_le _, by simp, HO1.out, HX1.out, HB1.out⟩
  case round =>
    obtain ⟨wO, hwO⟩ : ∃ wO, wO = wr := ⟨wr, rfl⟩
    subst hwO
    obtain ⟨m, hm, rfl, hout, hbox, hbl⟩ := hrel
    have HOU : Hid _ := hout
    have HBX : Hid _ := hbox
    have HBL : Hid _ := hbl
    obtain ⟨j0, j1, j2, j3, j4⟩ := five hbox
    by_cases hlt : m < c.l.length
    · obtain ⟨k, hk⟩ : ∃ k : Nat, k + 1 + m = c.l.length := ⟨c.l.length - 1 - m, by omega⟩
      have hkl : k < c.l.length := by omega
      have ek : (c.l.length : Int) - 1 - m = (k : Int) := by omega
      have em : c.l.length - m = k + 1 := by omega
      have em2 : c.l.length - (m + 1) = k := by omega
      rw [ek]
      obtain ⟨b, o, ga, gc, rfl, _, hb, hia, _, _, _⟩ := ir_at h k hkl
      have HIA : Hid _ := hia
      obtain ⟨e0, e1, e2, e3, e4, e5, e6, e7, e8⟩ := hia.keep (hbl.block b hb)
      have hk0 : (0 : Int) ≤ (k : Int) := by omega
      have hk1 : (k : Int) < (c.l.length : Int) := by omega
      have HN : Hid (∀ (w2 : World), w2.heap[Bo]? = some (.cells (bvs (outB c.l k)) 4) → w2.heap[w.heap.size]? = some (coO c pa pc (some ⟨b, o, none⟩) lc) → Below w.heap.size w w2 → ∃ m' : Nat, m' ≤ c.l.length ∧ Value.int .i64 ((k : Int) - 1) = .int .i64 ((c.l.length : Int) - 1 - m') ∧ w2.heap[Bo]? = some (.cells (bvs (outB c.l (c.l.length - m'))) 4) ∧ w2.heap[w.heap.size]? = some (coO c pa pc (some ⟨b, o, none⟩) lc) ∧ Below w.heap.size w w2) := fun w2 a1 a2 a3 =>
        ⟨m + 1, by omega, by rw [show (c.l.length : Int) - 1 - ((m + 1 : Nat) : Int) = (k : Int) - 1 by omega], by rw [em2]; exact a1, a2, a3⟩
      rw [em] at hout
      have HOU : Hid _ := hout
      by_cases hid : 1 ≤ (c.l[k]).kind ∧ (c.l[k]).kind ≤ 5
      · obtain ⟨i1, i5⟩ := hid
        have i1' : ¬ (c.l[k]).kind < 1 := by omega
        have i5' : ¬ 5 < (c.l[k]).kind := by omega
        obtain ⟨F, hF⟩ : ∃ F, (rdL (c.l.drop (k + 1))).contains (c.l[k]).d = F := ⟨_, rfl⟩
        have HDX : Hid (deadX (rdL (c.l.drop (k + 1))) c.l[k] = !F) := by show _ = _; unfold deadX idleB; rw [hF, decide_eq_true ⟨i1, i5⟩]; rfl
        have HFF : Hid _ := hF
        clear hF hout hbox hbl hia
        go_upto_region 8 with fail
        go_loopw [5, 6] (fun rd k2 w2 => ∃ (q : Nat) (bb : Bool), k + 1 ≤ q ∧ q ≤ c.l.length ∧ k2 = .int .i64 q ∧ rd = .bool bb ∧ (bb || (rdL (c.l.drop q)).contains (c.l[k]).d) = F ∧ Below wO.heap.size wO w2) (fun _ k2 _ => c.l.length - (intOf k2).toNat)
        case atStart => exact ⟨k + 1, false, Nat.le_refl _, by omega, by go_num, rfl, by rw [HFF.out]; rfl, Below.refl _ _⟩
        case round =>
          obtain ⟨w2, hw2e⟩ : ∃ w2, w2 = wr := ⟨wr, rfl⟩
          subst hw2e
          obtain ⟨q, bb, hkq, hql, rfl, rfl, hinv, hb2⟩ := hrel
          have HB2 : Hid _ := hb2
          obtain ⟨j0, j1, j2, j3, j4⟩ := five ((hb2.block _ (lt_of_some HBX.out)).trans HBX.out)
          by_cases hq : q < c.l.length
          · obtain ⟨b3, o3, g3, gc3, eb3, _, hb3, hia3, hgc3, _, hrow3⟩ := ir_at h q hq
            have hbo3 : b = b3 ∧ o = o3 := by injection eb3 with eb3; injection eb3 with e1 e2; exact ⟨e1, e2⟩
            obtain ⟨rfl, rfl⟩ := hbo3
            have hw2 := bl_then HBL.out hb2
            obtain ⟨e0, e1, e2, e3, e4, e5, e6, e7, e8⟩ := hia3.keep (hw2.block b hb3)
            have hrd := refReads_any c.l[q] g3 gc3 w2 (kInt.row_mono (T := S) (by decide) hrow3 fun j hj hlt2 => ⟨hj, hw2.block j hlt2⟩) hgc3
            unfold irV at hrd
            have hq0 : (0 : Int) ≤ (q : Int) := by omega
            have hq1 : (q : Int) < (c.l.length : Int) := by omega
            have HIN : Hid _ := hinv
            have HHAS : Hid _ := rd_has c.l q hq (c.l[k]).d
            have hoq : Hid ((outB c.l (k + 1))[q]'(by rw [outB_len c.l (k + 1) (by omega)]; exact hq) = deadX (rdL (c.l.drop (q + 1))) c.l[q]) := outB_get hkq hq
            clear hinv hb2 hia3 hw2 eb3
            go_upto_region 12 with (first | (go_at_call 39; refine hrd.mono ?_; rintro e w3 ⟨⟨v3, rfl, a3, c3, rfl, hr3, hc3⟩, hb3'⟩))
            have HB3 : Hid _ := bl_then HB2.out hb3'
            have HR3 : Hid _ := hr3
            have HJ : Hid (∀ (w4 : World), Below w3.heap.size w3 w4 → w4.heap[w.heap.size]? = some (coO c pa pc (some ⟨b, o, none⟩) lc) ∧ w4.heap[Bo]? = some (.cells (bvs (outB c.l (k + 1))) 4) ∧ Below wO.heap.size wO w4) := fun w4 hw4 => by
              have hh := bl_then HB3.out hw4
              exact ⟨(hh.block _ (lt_of_some HBX.out)).trans HBX.out, (hh.block _ (lt_of_some HOU.out)).trans HOU.out, hh⟩
            clear hrd hb3' hr3 e0 e1 e2 e3 e4 e5 e6 e7 e8 j0 j1 j2 j3 j4
            have hoq2 := hoq.out
            have hrsl := rds_len (hargs c.l[q] (List.getElem_mem hq)) (by omega)
            generalize deadX (rdL (c.l.drop (q + 1))) c.l[q] = dq at HHAS hoq hoq2
            cases dq
            · obtain ⟨X, hX⟩ : ∃ X, (rdL (c.l.drop (q + 1))).contains (c.l[k]).d = X := ⟨_, rfl⟩
              have HX : Hid _ := hX
              have HI0 : Hid ((bb || ((readsL c.l[q]).contains (c.l[k]).d || X)) = F) := by show _ = _; rw [← HIN.out, HHAS.out, hX]; rfl
              clear hX HHAS HIN
              generalize readsL c.l[q] = rs at HR3 HI0 hc3 hrsl ⊢
              go_loopw [5, 8] (fun rd j wr => ∃ (p : Nat) (b2 : Bool), p ≤ rs.length ∧ j = .int .i64 p ∧ rd = .bool b2 ∧ (b2 || ((rs.drop p).contains (c.l[k]).d || X)) = F ∧ Below w3.heap.size w3 wr) (fun _ j _ => rs.length - (intOf j).toNat)
              case atStart => exact ⟨0, bb, Nat.zero_le _, rfl, rfl, HI0.out, Below.refl _ _⟩
              case round =>
                obtain ⟨p, b2, hp, rfl, rfl, hinv, hb4⟩ := hrel
                obtain ⟨g1, g2, g3⟩ := HJ.out wr hb4
                obtain ⟨j0, j1, j2, j3, j4⟩ := five g1
                have hoc := brow_cell g2 (k := q) (by rw [outB_len c.l (k + 1) (by omega)]; exact hq)
                rw [hoq2] at hoc
                have HG3 : Hid _ := g3
                have HB4 : Hid _ := hb4
                by_cases hpl : p < rs.length
                · obtain ⟨b5, o5, rfl, _, hb5, hc5⟩ := int_at HR3.out p hpl
                  have e9 := (hb4.cell (p := ⟨b5, o5 + p, none⟩) hb5).trans hc5
                  obtain ⟨e0, e1, e2, e3, e4, e5, e6, e7, e8⟩ := HIA.out.keep ((bl_then HBL.out g3).block b hb)
                  have hp0 : (0 : Int) ≤ (p : Int) := by omega
                  have hp1 : (p : Int) < (rs.length : Int) := by omega
                  have hdrop : Hid ((rs.drop p).contains (c.l[k]).d = (((c.l[k]).d == rs[p]) || (rs.drop (p + 1)).contains (c.l[k]).d)) := by show _ = _; rw [List.drop_eq_getElem_cons hpl, List.contains_cons]
                  have HIV : Hid _ := hinv
                  clear hinv g1 g2 g3 hb4 hc5
                  generalize rs[p] = rv at e9 hdrop
                  generalize (c.l[k]).d = dv at e2 hdrop HIV HX HFF HI0
                  by_cases heq : rv = dv
                  · have hN : Hid ((true || ((rs.drop (p + 1)).contains dv || X)) = F) := by show _ = _; rw [← HIV.out, hdrop.out, heq]; simp
                    have heq2 : (rv == dv) = true := by simpa using heq
                    clear heq
                    go_upto_region 14 with fail
                    go_quiet (fail)
                    go_wp2_with fail
                    go_roundw
                    case rel => exact ⟨p + 1, true, by omega, by go_num, rfl, hN.out, bl_then HB4.out (drewN_below _ _)⟩
                    case measure => simp [intOf]; omega
                  · have hN : Hid ((b2 || ((rs.drop (p + 1)).contains dv || X)) = F) := by show _ = _; rw [← HIV.out, hdrop.out, show (dv == rv) = false by rw [beq_eq_false_iff_ne]; exact fun e => heq e.symm]; rfl
                    have heq2 : (rv == dv) = false := by simpa using heq
                    clear heq
                    go_upto_region 14 with fail
                    go_quiet (fail)
                    go_wp2_with fail
                    go_roundw
                    case rel => exact ⟨p + 1, b2, by omega, by go_num, rfl, hN.out, bl_then HB4.out (drewN_below _ _)⟩
                    case measure => simp [intOf]; omega
                · have hN : Hid ((b2 || (rdL (c.l.drop (q + 1))).contains (c.l[k]).d) = F) := by
                    show _ = _
                    rw [HX.out, ← hinv, List.drop_of_length_le (by omega)]; simp
                  clear hinv g1 g2 g3 hb4
                  go_wp2_with fail
                  go_roundw
                  case rel => exact ⟨q + 1, b2, by omega, by omega, by go_num, rfl, hN.out, HG3.out⟩
                  case measure => simp [intOf]; omega
            · have hN : Hid ((bb || (rdL (c.l.drop (q + 1))).contains (c.l[k]).d) = F) := by show _ = _; rw [← HIN.out, HHAS.out]; rfl
              clear HHAS HIN
              generalize readsL c.l[q] = rs at HR3 hc3 hrsl ⊢
              go_loopw [5, 8] (fun rd j wr => j = .int .i64 0 ∧ rd = .bool bb ∧ Below w3.heap.size w3 wr) (fun _ _ _ => 0)
              case atStart => exact ⟨rfl, rfl, Below.refl _ _⟩
              case round =>
                obtain ⟨rfl, rfl, hb4⟩ := hrel
                obtain ⟨g1, g2, g3⟩ := HJ.out wr hb4
                obtain ⟨j0, j1, j2, j3, j4⟩ := five g1
                have hoc := brow_cell g2 (k := q) (by rw [outB_len c.l (k + 1) (by omega)]; exact hq)
                rw [hoq2] at hoc
                have HG3 : Hid _ := g3
                clear g1 g2 g3 hb4
                by_cases hz : 0 < rs.length
                · have hz1 : (0 : Int) < (rs.length : Int) := by omega
                  go_wp2_with fail
                  go_roundw
                  case rel => exact ⟨q + 1, bb, by omega, by omega, by go_num, rfl, hN.out, HG3.out⟩
                  case measure => simp [intOf]; omega
                · have hz1 : ¬ (0 : Int) < (rs.length : Int) := by omega
                  go_wp2_with fail
                  go_roundw
                  case rel => exact ⟨q + 1, bb, by omega, by omega, by go_num, rfl, hN.out, HG3.out⟩
                  case measure => simp [intOf]; omega
          · have hqe : q = c.l.length := by omega
            have hbF : bb = F := by rw [hqe, List.drop_length] at hinv; simpa [rdL] using hinv
            subst hbF
            have hob := (hb2.block _ (lt_of_some HOU.out)).trans HOU.out
            have hbb := (hb2.block _ (lt_of_some HBX.out)).trans HBX.out
            have hoc := brow_cell hob (k := k) (by rw [outB_len c.l (k + 1) (by omega)]; exact hkl)
            have hfr := brow_free hob
            have hset : (w2.setCell ⟨Bo, k, none⟩ (.bool (!bb))).heap[Bo]? = some (.cells (bvs (outB c.l k)) 4) := by
              rw [setCell_at hob, bvs_set, ← HDX.out, outB_set hkl]
            have hboxn : (w2.setCell ⟨Bo, k, none⟩ (.bool (!bb))).heap[w.heap.size]? = some (coO c pa pc (some ⟨b, o, none⟩) lc) := (setCell_other (by omega)).trans hbb
            have HR : Hid _ := HN.out _ hset hboxn (bl_set (bl_then HBL.out hb2) Bo k (.bool (!bb)) (by omega))
            clear hob hbb hset hboxn hinv hb2 HFF HDX
            go_wp2_with fail
            go_roundw
            case rel => exact HR.out
            case measure => simp [intOf]
      · have hdx : deadX (rdL (c.l.drop (k + 1))) c.l[k] = false := dead_not hid
        have HR : Hid _ := HN.out wO (by rw [outB_live hkl hdx]; exact hout) hbox hbl
        have hcs : (c.l[k]).kind < 1 ∨ ¬ (c.l[k]).kind < 1 ∧ 5 < (c.l[k]).kind := by omega
        clear hid hdx hout hbox hbl hia
        rcases hcs with hc1 | ⟨hc1, hc2⟩
        all_goals
          go_wp2_with fail
          go_roundw
          case rel => exact HR.out
          case measure => simp [intOf]
    · have em : m = c.l.length := by omega
      have e0 : outB c.l (c.l.length - m) = deadL c.l := by rw [em, Nat.sub_self]; rfl
      rw [e0] at hout
      have en : (c.l.length : Int) - 1 - m = -1 := by omega
      rw [en]
      have HOU2 : Hid _ := hout
      clear hout hbox hbl HOU e0
      go_wp2_with fail
      go_ret
      exact ⟨⟨Bo, _, rfl, by omega, HOU2.out⟩, HBL.out⟩
end Go.Proofs.Ytndmkfmpdnoliaa
