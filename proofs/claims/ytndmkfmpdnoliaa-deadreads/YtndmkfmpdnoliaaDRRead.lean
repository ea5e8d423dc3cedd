/- CONTRACT of the reference's Read. -/
import Derived.Test.YtndmkfmpdnoliaaDRDead
import Derived.Test.YtndmkfmpdnoliaaDPlaces
import Derived.Test.YtndmkfmpdnoliaaIRRight
namespace Go.Proofs.Ytndmkfmpdnoliaa
open Go.ChangeShapes Go.WideShapes Go.ChangeAt Go.RowKit

theorem rising_succ (n : Nat) (R : List Int) : rising (n + 1) R = rising n R ++ (if R.contains (n : Int) then [(n : Int)] else []) := by
  unfold rising
  rw [List.range_succ, List.map_append, List.filter_append]
  congr 1
  simp only [List.map_cons, List.map_nil, List.filter_cons, List.filter_nil]
set_option maxRecDepth 100000 in
set_option maxHeartbeats 8000000 in
theorem refRead_any (c : Co) (pa : Option Addr) (pc : Nat) (la : Option Addr) (lc : Nat) (n : Int) (w : World) (hin : CoIn w (fun _ => True) c pa pc la lc) (hok : CoOk c) (hps : c.ps.length ≤ 1000000) (hlm : c.l.length ≤ 1000000) :
    Calls Try.prog 21 #[.agg #[.string (bs c.name), .slice pa c.ps.length pc, .int .i64 c.regs, .int .i64 c.cells, .slice la c.l.length lc], .int .i64 n] w fun e w' => (∃ v, e = .returned v ∧ kInt.rd w' (fun b => w.heap.size ≤ b) v (readM c n)) ∧ Below w.heap.size w w' := by
  have hb0 : Below w.heap.size w (w.alloc (coO c pa pc la lc)) := bl_alloc (Below.refl _ _) _
  have h1 : (w.alloc (coO c pa pc la lc)).heap[w.heap.size]? = some (coO c pa pc la lc) := heap_alloc_new w _
  have hri := refRight_any c pa pc la lc (w.alloc (coO c pa pc la lc)) (coIn_on hin hb0) hok hps (by omega)
  have H1 : Hid _ := h1
  have HB0 : Hid _ := hb0
  clear hb0 h1
  unfold coV at hri
  have no : ∀ (P : Prop) [Decidable P], ¬ P → (if P then rising c.regs.toNat (rdL (c.l.drop n.toNat)) else []) = [] := fun P _ h => if_neg h
  by_cases hr : (rightR c).1 = 0
  rotate_left
  · have hr' : ((rightR c).1 == 0) = false := by simpa using hr
    have hr2 : ((rightR c).1 != 0) = true := by simpa using hr
    have HE : Hid (readM c n = []) := no _ fun h => hr h.1
    generalize (rightR c).1 = er at hri hr' hr2
    generalize (rightR c).2 = at0 at hri
    clear no hr
    go_enter Try.func21, Try.ntmps21
    go_wp2_with (first | (go_at_call 29; refine hri.mono ?_; rintro e w2 ⟨rfl, hb2⟩))
    go_ret
    exact ⟨⟨_, rfl, by rw [HE.out]; exact ⟨none, 0, rfl, trivial, Nat.le_refl _⟩⟩, bl_then HB0.out hb2⟩
  by_cases hn0 : 0 ≤ n
  rotate_left
  · have HE : Hid (readM c n = []) := no _ fun h => hn0 h.2.1
    have hn2 : n < 0 := by omega
    rw [hr] at hri
    generalize (rightR c).2 = at0 at hri
    clear no hr
    go_enter Try.func21, Try.ntmps21
    go_wp2_with (first | (go_at_call 29; refine hri.mono ?_; rintro e w2 ⟨rfl, hb2⟩))
    go_ret
    exact ⟨⟨_, rfl, by rw [HE.out]; exact ⟨none, 0, rfl, trivial, Nat.le_refl _⟩⟩, bl_then HB0.out hb2⟩
  by_cases hn1 : n ≤ (c.l.length : Int)
  rotate_left
  · have HE : Hid (readM c n = []) := no _ fun h => hn1 h.2.2
    rw [hr] at hri
    generalize (rightR c).2 = at0 at hri
    have hn2 : (c.l.length : Int) < n := by omega
    have hn3 : ¬ n < 0 := by omega
    clear no hr
    go_enter Try.func21, Try.ntmps21
    go_wp2_with (first | (go_at_call 29; refine hri.mono ?_; rintro e w2 ⟨rfl, hb2⟩; obtain ⟨k0, k1, k2, k3, k4⟩ := five ((hb2.block _ (lt_of_some H1.out)).trans H1.out)))
    go_ret
    exact ⟨⟨_, rfl, by rw [HE.out]; exact ⟨none, 0, rfl, trivial, Nat.le_refl _⟩⟩, bl_then HB0.out hb2⟩
  obtain ⟨a0, rfl⟩ : ∃ a0 : Nat, n = a0 := ⟨n.toNat, by omega⟩
  have hal : a0 ≤ c.l.length := by omega
  have hn3 : ¬ (a0 : Int) < 0 := by omega
  have hn4 : ¬ (c.l.length : Int) < (a0 : Int) := by omega
  have HE : Hid (readM c (a0 : Int) = rising c.regs.toNat (rdL (c.l.drop a0))) := if_pos ⟨hr, hn0, hn1⟩
  obtain ⟨rg, hrg⟩ : ∃ rg : Nat, c.regs = rg := ⟨c.regs.toNat, by have := (formB_parts (right_form hr)).2.2.2.2.2.1; omega⟩
  have hrgm : rg ≤ 10000 := by have := (formB_parts (right_form hr)).2.2.2.2.2.2.1; omega
  rw [hr] at hri
  generalize (rightR c).2 = at0 at hri
  have HRG : Hid _ := hrg
  clear no hr hrg
  go_enter Try.func21, Try.ntmps21
  go_upto_region 4 with (first | (go_at_call 29; refine hri.mono ?_; rintro e w2 ⟨rfl, hb2⟩; obtain ⟨k0, k1, k2, k3, k4⟩ := five ((hb2.block _ (lt_of_some H1.out)).trans H1.out)))
  have HB2 : Hid _ := bl_then HB0.out hb2
  have HX2 : Hid _ := (hb2.block _ (lt_of_some H1.out)).trans H1.out
  have hde := refDead_any (S := fun _ => True) c pa pc la lc w2 (coIn_on hin HB2.out).l hlm (fun x hx => (hok.ins x hx).2)
  clear hri hb2 hn3 hn4 hn0 hn1
  go_upto_region 7 with (first | (go_at_call 35; refine hde.mono ?_; rintro e w3 ⟨⟨Bd, cd, rfl, hBd, hdd⟩, hb3⟩))
  have HB3 : Hid _ := bl_then HB2.out hb3
  have HX3 : Hid (w3.heap[w.heap.size]? = some (coO c pa pc la lc)) := (hb3.block _ (lt_of_some HX2.out)).trans HX2.out
  have HD3 : Hid _ := hdd
  have HL3 : Hid _ := (coIn_on hin HB3.out).l
  have hdl := deadL_len c.l
  clear hde hb3 hdd k0 k1 k2 k3 k4 H1 HB0 HB2 HX2
  go_loopw [8, 9] (fun v r wr => ∃ p : Nat, p ≤ rg ∧ r = .int .i64 p ∧ wr.ownsRow w3.heap.size 3 1 v (rising p (rdL (c.l.drop a0))).length ((rising p (rdL (c.l.drop a0))).map (Value.int .i64)) ∧ Below w3.heap.size w3 wr) (fun _ r _ => rg - (intOf r).toNat)
  case atStart => exact ⟨0, Nat.zero_le _, rfl, World.ownsRow_nil _ _ _ _, Below.refl _ _⟩
  case round =>
    obtain ⟨wO, hwO⟩ : ∃ wO, wO = wr := ⟨wr, rfl⟩
    subst hwO
    obtain ⟨p, hp, rfl, hown, hbl⟩ := hrel
    rename_i u8 _
    have HO : Hid (wO.ownsRow w3.heap.size 3 1 u8 (rising p (rdL (c.l.drop a0))).length ((rising p (rdL (c.l.drop a0))).map (Value.int .i64))) := hown
    have HBO : Hid _ := hbl
    have HXO : Hid _ := (hbl.block _ (lt_of_some HX3.out)).trans HX3.out
    have HDO : Hid _ := (hbl.block _ (lt_of_some HD3.out)).trans HD3.out
    have HLO : Hid (kIr.row wO (fun _ => True) la c.l) := kIr.row_mono (by decide) HL3.out fun j _ hlt => ⟨trivial, hbl.block j hlt⟩
    obtain ⟨k0, k1, k2, k3, k4⟩ := five HXO.out
    have HRS : Hid _ := rising_succ p (rdL (c.l.drop a0))
    have hrlen := rising_len p (rdL (c.l.drop a0))
    clear hown
    rw [HRG.out] at k2
    by_cases hlt : p < rg
    · obtain ⟨F, hF⟩ : ∃ F, (rdL (c.l.drop a0)).contains (p : Int) = F := ⟨_, rfl⟩
      have HF : Hid _ := hF
      clear hF hbl
      have hp0 : (p : Int) < (rg : Int) := by omega
      go_upto_region 11 with fail
      go_loopw [10, 11] (fun isv i wr => ∃ (q : Nat) (bb : Bool), a0 ≤ q ∧ q ≤ c.l.length ∧ i = .int .i64 q ∧ isv = .bool bb ∧ (bb || (rdL (c.l.drop q)).contains (p : Int)) = F ∧ Below wO.heap.size wO wr) (fun _ i _ => c.l.length - (intOf i).toNat)
      case atStart => exact ⟨a0, false, Nat.le_refl _, hal, rfl, rfl, by rw [HF.out]; rfl, Below.refl _ _⟩
      case round =>
        obtain ⟨w5, hw5⟩ : ∃ w5, w5 = wr := ⟨wr, rfl⟩
        subst hw5
        obtain ⟨q, bb, hkq, hql, rfl, rfl, hinv, hb5⟩ := hrel
        obtain ⟨j0, j1, j2, j3, j4⟩ := five ((hb5.block _ (lt_of_some HXO.out)).trans HXO.out)
        have HB5 : Hid _ := hb5
        by_cases hq : q < c.l.length
        · obtain ⟨b3, o3, g3, gc3, rfl, _, hb3, hia3, hgc3, _, hrow3⟩ := ir_at HLO.out q hq
          obtain ⟨e0, e1, e2, e3, e4, e5, e6, e7, e8⟩ := hia3.keep (hb5.block b3 hb3)
          have hrd := refReads_any (S := fun _ => True) c.l[q] g3 gc3 w5 (kInt.row_mono (by decide) hrow3 fun j _ hlt2 => ⟨trivial, hb5.block j hlt2⟩) hgc3
          unfold irV at hrd
          have hq0 : (0 : Int) ≤ (q : Int) := by omega
          have hq1 : (q : Int) < (c.l.length : Int) := by omega
          have HIN : Hid _ := hinv
          have HHAS : Hid _ := rd_has c.l q hq (p : Int)
          have hoq := deadL_get c.l q hq
          have hrsl := rds_len (hok.ins c.l[q] (List.getElem_mem hq)).2 (by omega)
          clear hinv hb5 hia3
          go_upto_region 15 with (first | (go_at_call 39; refine hrd.mono ?_; rintro e w6 ⟨⟨v6, rfl, a6, c6, rfl, hr6, hc6⟩, hb6⟩))
          have HB6 : Hid _ := bl_then HB5.out hb6
          have HR6 : Hid _ := hr6
          clear hrd hb6 hr6 e0 e1 e2 e3 e4 e5 e6 e7 e8 j0 j1 j2 j3 j4
          generalize deadX (rdL (c.l.drop (q + 1))) c.l[q] = dq at HHAS hoq
          have HJ : Hid (∀ (w4 : World), Below w6.heap.size w6 w4 → w4.heap[w.heap.size]? = some (coO c pa pc (some ⟨b3, o3, none⟩) lc) ∧ w4.heap[Bd]? = some (.cells (bvs (deadL c.l)) 4) ∧ Below wO.heap.size wO w4) := fun w4 hw4 => by
            have hh := bl_then HB6.out hw4
            exact ⟨(hh.block _ (lt_of_some HXO.out)).trans HXO.out, (hh.block _ (lt_of_some HDO.out)).trans HDO.out, hh⟩
          cases dq
          · obtain ⟨X, hX⟩ : ∃ X, (rdL (c.l.drop (q + 1))).contains (p : Int) = X := ⟨_, rfl⟩
            have HX : Hid _ := hX
            have HI0 : Hid ((bb || ((readsL c.l[q]).contains (p : Int) || X)) = F) := by show _ = _; rw [← HIN.out, HHAS.out, hX]; rfl
            clear hX HHAS HIN
            generalize readsL c.l[q] = rs at HR6 HI0 hc6 hrsl ⊢
            go_loopw [10, 13] (fun isv j wr => ∃ (p2 : Nat) (b2 : Bool), p2 ≤ rs.length ∧ j = .int .i64 p2 ∧ isv = .bool b2 ∧ (b2 || ((rs.drop p2).contains (p : Int) || X)) = F ∧ Below w6.heap.size w6 wr) (fun _ j _ => rs.length - (intOf j).toNat)
            case atStart => exact ⟨0, bb, Nat.zero_le _, rfl, rfl, HI0.out, Below.refl _ _⟩
            case round =>
              obtain ⟨p2, b2, hp2, rfl, rfl, hinv, hb4⟩ := hrel
              obtain ⟨g1, g2, g3⟩ := HJ.out wr hb4
              obtain ⟨j0, j1, j2, j3, j4⟩ := five g1
              have hoc := brow_cell g2 (k := q) (by omega)
              rw [hoq] at hoc
              have HG3 : Hid _ := g3
              have HB4 : Hid _ := hb4
              by_cases hpl : p2 < rs.length
              · obtain ⟨b5, o5, rfl, _, hb5, hc5⟩ := int_at HR6.out p2 hpl
                have e9 := (hb4.cell (p := ⟨b5, o5 + p2, none⟩) hb5).trans hc5
                have hp20 : (0 : Int) ≤ (p2 : Int) := by omega
                have hp21 : (p2 : Int) < (rs.length : Int) := by omega
                have hdrop : Hid ((rs.drop p2).contains (p : Int) = ((p : Int) == rs[p2] || (rs.drop (p2 + 1)).contains (p : Int))) := by show _ = _; rw [List.drop_eq_getElem_cons hpl, List.contains_cons]
                have HIV : Hid _ := hinv
                clear hinv g1 g2 g3 hb4 hc5
                generalize rs[p2] = rv at e9 hdrop
                cases b2
                · by_cases heq : rv = (p : Int)
                  · have hN : Hid ((true || ((rs.drop (p2 + 1)).contains (p : Int) || X)) = F) := by show _ = _; rw [← HIV.out, hdrop.out, heq]; simp
                    have heq2 : (rv == (p : Int)) = true := by simpa using heq
                    clear heq
                    go_wp2_with fail
                    go_roundw
                    case rel => exact ⟨p2 + 1, true, by omega, by go_num, rfl, hN.out, HB4.out⟩
                    case measure => simp [intOf]; omega
                  · have hN : Hid ((false || ((rs.drop (p2 + 1)).contains (p : Int) || X)) = F) := by show _ = _; rw [← HIV.out, hdrop.out, show ((p : Int) == rv) = false by rw [beq_eq_false_iff_ne]; exact fun e => heq e.symm]; rfl
                    have heq2 : (rv == (p : Int)) = false := by simpa using heq
                    clear heq
                    go_wp2_with fail
                    go_roundw
                    case rel => exact ⟨p2 + 1, false, by omega, by go_num, rfl, hN.out, HB4.out⟩
                    case measure => simp [intOf]; omega
                · have hN : Hid ((true || ((rs.drop (p2 + 1)).contains (p : Int) || X)) = F) := by show _ = _; rw [← HIV.out]; rfl
                  go_wp2_with fail
                  go_roundw
                  case rel => exact ⟨p2 + 1, true, by omega, by go_num, rfl, hN.out, HB4.out⟩
                  case measure => simp [intOf]; omega
              · have hN : Hid ((b2 || (rdL (c.l.drop (q + 1))).contains (p : Int)) = F) := by
                  show _ = _
                  rw [HX.out, ← hinv, List.drop_of_length_le (by omega)]; simp
                clear hinv g1 g2 g3 hb4
                go_wp2_with fail
                go_roundw
                case rel => exact ⟨q + 1, b2, by omega, by omega, by go_num, rfl, hN.out, HG3.out⟩
                case measure => simp [intOf]; omega
          · have hN : Hid ((bb || (rdL (c.l.drop (q + 1))).contains (p : Int)) = F) := by show _ = _; rw [← HIN.out, HHAS.out]; rfl
            clear HHAS HIN
            generalize readsL c.l[q] = rs at HR6 hc6 hrsl ⊢
            go_loopw [10, 13] (fun isv j wr => j = .int .i64 0 ∧ isv = .bool bb ∧ Below w6.heap.size w6 wr) (fun _ _ _ => 0)
            case atStart => exact ⟨rfl, rfl, Below.refl _ _⟩
            case round =>
              obtain ⟨rfl, rfl, hb4⟩ := hrel
              obtain ⟨g1, g2, g3⟩ := HJ.out wr hb4
              obtain ⟨j0, j1, j2, j3, j4⟩ := five g1
              have hoc := brow_cell g2 (k := q) (by omega)
              rw [hoq] at hoc
              have HG3 : Hid _ := g3
              clear g1 g2 g3 hb4
              by_cases hz : 0 < rs.length
              · have hz1 : (0 : Int) < (rs.length : Int) := by omega
                go_wp2_with fail
                go_roundw
                case rel => exact ⟨q + 1, bb, by omega, by omega, by go_num, rfl, hN.out, HG3.out⟩
                case measure => simp [intOf]; omega
              · have hz1 : ¬ (0 : Int) < (rs.length : Int) := by omega
                go_wp2_with fail
                go_roundw
                case rel => exact ⟨q + 1, bb, by omega, by omega, by go_num, rfl, hN.out, HG3.out⟩
                case measure => simp [intOf]; omega
        · have hqe : q = c.l.length := by omega
          have hbF : bb = F := by rw [hqe, List.drop_length] at hinv; simpa [rdL] using hinv
          subst hbF
          rw [HF.out] at HRS
          have hownC := own_kept HO.out (Below.kept hb5 (fun _ => False)) (fun _ _ e => e)
          clear hinv hb5
          generalize rising p (rdL (c.l.drop a0)) = R at HRS hownC HO hrlen
          cases bb
          · rw [if_neg (by decide), List.append_nil] at HRS
            have HOC : Hid _ := hownC
            clear hownC
            go_wp2_with fail
            go_roundw
            case rel => exact ⟨p + 1, by omega, by go_num, by rw [HRS.out]; exact HOC.out, bl_then HBO.out HB5.out⟩
            case measure => simp [intOf]; omega
          · rw [if_pos rfl] at HRS
            have hownA : (w5.alloc (.cells #[.int .i64 (p : Int)] 3)).ownsRow w3.heap.size 3 1 u8 R.length (R.map (Value.int .i64)) := own_kept hownC (Kept.alloc w5 _ (fun _ => False)) (fun _ _ e => e)
            have hsrcA := src_it w5 (p : Int)
            have hsw := (bl_then HBO.out HB5.out).size
            have HOC : Hid _ := hownC
            clear hownC
            go_wp2_with (first | (at_builtin; refine wpList_append_src intt_info rfl Try.underlying29 (by decide) _ rfl _ _ rfl w3.heap.size u8 R.length _ rfl hownA _ 1 [.int .i64 (p : Int)] rfl hsrcA (by omega) (by simp; omega) ?_; intro y c2 w8 hown3 hgrow hat; refine Hid.out ?_) | go_in)
            all_goals refine Lib.hid ?_
            have HO3 : Hid _ := hown3
            have HB8 : Hid (Below w3.heap.size w3 w8) := by
              have hk3 := Kept.of_grown hgrow
              refine Kept.to_below ((Below.kept (bl_alloc (bl_then HBO.out HB5.out) (.cells #[.int .i64 (p : Int)] 3)) (fun i => w3.heap.size ≤ i)).trans (hk3.mono fun i _ e => ?_)) fun i hi => hi
              exact (World.ownsRow.lt HO.out i e).1
            clear hown3 hgrow hat hownA hsrcA
            go_wp2_with fail
            go_roundw
            case rel => exact ⟨p + 1, by omega, by go_num, by rw [HRS.out, List.map_append, List.length_append]; exact HO3.out, HB8.out⟩
            case measure => simp [intOf]; omega
    · obtain rfl : p = rg := by omega
      have hx := HO.out
      have hrd : kInt.rd wO (fun g => w.heap.size ≤ g) u8 (rising p (rdL (c.l.drop a0))) := kInt.own_rd (t := 3) (S := fun g => w.heap.size ≤ g) ⟨_, hx, it_lay _⟩ (fun g h => h) fun g hg => Nat.le_trans HB3.out.size (World.ownsRow.lt hx g hg).1
      have HRD : Hid _ := hrd
      have HEE : Hid (readM c (a0 : Int) = rising p (rdL (c.l.drop a0))) := by show _ = _; rw [HE.out, HRG.out]; rfl
      clear hrd hx HO hbl HRS
      go_wp2_with fail
      go_ret
      exact ⟨⟨_, rfl, by rw [HEE.out]; exact HRD.out⟩, bl_then HB3.out HBO.out⟩
end Go.Proofs.Ytndmkfmpdnoliaa
