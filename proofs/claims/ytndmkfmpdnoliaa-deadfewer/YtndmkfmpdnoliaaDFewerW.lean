/- THE WALK of DeadFewer. -/
import Derived.Test.YtndmkfmpdnoliaaDAwake
import Derived.Deep.QuietTactic
namespace Go.Proofs.Ytndmkfmpdnoliaa
open Go.ChangeShapes Go.WideShapes Go.ChangeAt Go.RowKit

theorem readM_not {c : Co} (h : (rightR c).1 ≠ 0) (n : Int) : readM c n = [] := if_neg fun h2 => h h2.1
theorem readM_at {c : Co} (h : (rightR c).1 = 0) (k : Nat) (hk : k ≤ c.l.length) : readM c (k : Int) = rising c.regs.toNat (rdL (c.l.drop k)) := if_pos ⟨h, by omega, by omega⟩
theorem readM_neg (c : Co) : readM c (-1) = [] := if_neg fun h => by omega
theorem readM_end (c : Co) : readM c (c.l.length : Int) = [] := by
  by_cases h : (rightR c).1 = 0
  · rw [readM_at h _ (Nat.le_refl _), List.drop_length]
    unfold rising
    rw [List.filter_eq_nil_iff]
    intro r _
    simp [rdL]
  · exact readM_not h _
theorem readM_len (c : Co) (h : (rightR c).1 = 0) (n : Int) : (readM c n).length ≤ 10000 := by
  have hr := (form_parts (right_form h)).2.2.2.2.2.2.1
  unfold readM
  split
  · have := rising_len c.regs.toNat (rdL (c.l.drop n.toNat)); omega
  · simp
theorem readM_sorted (c : Co) (n : Int) : (readM c n).Pairwise (· < ·) := by
  unfold readM
  split
  · exact rising_sorted _ _
  · exact List.Pairwise.nil
/-- Behind a place there are fewer. -/
theorem readM_less {c : Co} (h : (rightR c).1 = 0) (k : Nat) (hk : k ≤ c.l.length) : ∀ x ∈ readM c ((k : Int) + 1), x ∈ readM c (k : Int) := by
  intro x hx
  rw [readM_at h k hk]
  by_cases hk2 : k + 1 ≤ c.l.length
  · rw [show (k : Int) + 1 = ((k + 1 : Nat) : Int) by omega, readM_at h (k + 1) hk2, rising_mem] at hx
    rw [rising_mem]
    exact ⟨hx.1, rd_less c.l k hx.2⟩
  · have : readM c ((k : Int) + 1) = [] := if_neg fun h2 => by omega
    rw [this] at hx
    simp at hx
theorem i64_top {z : Int} (h : (Lit.int .i64 z).wf = true) : z ≤ 9223372036854775807 := by
  have : -9223372036854775808 ≤ z ∧ z ≤ 9223372036854775807 := by simpa [Lit.wf, IntKind.min, IntKind.max, IntKind.signed, IntKind.bits] using h
  exact this.2
/-- What is left of the one is among what is left of the other. -/
def Among (a b : List Int) (i j : Nat) : Prop := ∀ x ∈ b.drop i, x ∈ a.drop j
theorem Among.less {a b : List Int} {i j : Nat} (h : Among a b i j) (hb : b.Pairwise (· < ·)) (hi : i < b.length) (hj : j < a.length) (hlt : a[j] < b[i]) : Among a b i (j + 1) := by
  intro x hx
  have h1 := h x hx
  rw [List.drop_eq_getElem_cons hj] at h1
  rcases List.mem_cons.1 h1 with e | h2
  · rw [List.drop_eq_getElem_cons hi] at hx
    have hp := hb.drop (i := i)
    rw [List.drop_eq_getElem_cons hi, List.pairwise_cons] at hp
    rcases List.mem_cons.1 hx with e2 | h3
    · omega
    · have := hp.1 x h3; omega
  · exact h2
theorem Among.here {a b : List Int} {i j : Nat} (h : Among a b i j) (ha : a.Pairwise (· < ·)) (hi : i < b.length) (hn : ∀ hj : j < a.length, ¬ a[j] < b[i]) : ∃ hj : j < a.length, a[j] = b[i] := by
  have h1 := h b[i] (by rw [List.drop_eq_getElem_cons hi]; exact List.mem_cons_self)
  have hj : j < a.length := by
    rcases Nat.lt_or_ge j a.length with h2 | h2
    · exact h2
    · rw [List.drop_of_length_le h2] at h1; simp at h1
  refine ⟨hj, ?_⟩
  rw [List.drop_eq_getElem_cons hj] at h1
  rcases List.mem_cons.1 h1 with e | h2
  · exact e.symm
  · have hp := ha.drop (i := j)
    rw [List.drop_eq_getElem_cons hj, List.pairwise_cons] at hp
    have := hp.1 _ h2
    exact absurd this (hn hj)
theorem Among.next {a b : List Int} {i j : Nat} (h : Among a b i j) : Among a b (i + 1) j := fun x hx => h x (by
  rcases Nat.lt_or_ge i b.length with hi | hi
  · rw [List.drop_eq_getElem_cons hi]; exact List.mem_cons_of_mem _ hx
  · rw [List.drop_of_length_le (by omega)] at hx; simp at hx)
set_option maxRecDepth 100000 in
set_option maxHeartbeats 8000000 in
theorem dead_fewer {B : Nat} (c : Co) (pa : Option Addr) (pc : Nat) (la : Option Addr) (lc : Nat) (n : Int) (w : World) (hg : Glob B w) (hin : CoIn w (fun _ => True) c pa pc la lc) (hd64 : D64 c.l) (hn64 : n ≤ 9223372036854775807) :
    Calls Try.prog 8 #[coV c pa pc la lc, .int .i64 n] w fun e w' => e = .returned (.bool true) ∧ Below w.heap.size w w' := by
  have hx0 := heap_alloc_new w (coO c pa pc la lc)
  have hB0 := bl_alloc (Below.refl w.heap.size w) (coO c pa pc la lc)
  unfold coV
  go_enter Try.func8, Try.ntmps8
  go_upto_region 2 with (first | (go_at_call 16; refine (awake10_any _ (hg.alloc _)).mono ?_; rintro e w2 ⟨rfl, hb2⟩))
  have hB2 := bl_then hB0 hb2
  have hX2 : w2.heap[w.heap.size]? = some (coO c pa pc la lc) := (hb2.block _ (lt_of_some hx0)).trans hx0
  have hlt2 := lt_of_some hX2
  have hrow3 : kCo.row (w2.alloc (coO c pa pc la lc)) (fun _ => True) (some ⟨w2.heap.size, 0, none⟩) [c] := co_oneG (coIn_on hin (bl_alloc hB2 _)) trivial (heap_alloc_new w2 _)
  have hli := light_any _ _ [c] 1 hrow3
  have hB3 := bl_alloc hB2 (coO c pa pc la lc)
  have hX3 : (w2.alloc (coO c pa pc la lc)).heap[w.heap.size]? = some (coO c pa pc la lc) := (heap_alloc_old w2 _ hlt2).trans hX2
  obtain ⟨k0, k1, k2, k3, k4⟩ := co_block hX2
  have HX : Hid _ := hX3
  have HB : Hid _ := hB3
  clear hx0 hB0 hb2 hB2 hX2 hlt2 hrow3 hB3 hX3
  rcases nL : lightB [c] with _ | _ <;> rw [nL] at hli
  · go_upto_region 3 with (first | (go_at_call 11; refine hli.mono ?_; rintro e w4 ⟨rfl, hb4⟩))
    have hB4 := Lib.hid (bl_then HB.out hb4)
    clear hb4 hli
    go_wp2
    go_ret
    exact ⟨rfl, hB4.out⟩
  obtain ⟨l1, l2, hok, l4⟩ := light_oneG nL
  go_upto_region 3 with (first | (go_at_call 11; refine hli.mono ?_; rintro e w4 ⟨rfl, hb4⟩))
  have hB4 := bl_then HB.out hb4
  have hX4 : w4.heap[w.heap.size]? = some (coO c pa pc la lc) := (hb4.block _ (lt_of_some HX.out)).trans HX.out
  obtain ⟨k0, k1, k2, k3, k4⟩ := co_block hX4
  have HX4 : Hid _ := hX4
  have HB4 : Hid _ := hB4
  clear hB4 hb4 hli HX HB
  by_cases hn0 : n < 0
  · clear hX4
    go_wp2
    go_ret
    exact ⟨rfl, HB4.out⟩
  obtain ⟨m, rfl⟩ : ∃ m : Nat, n = m := ⟨n.toNat, by omega⟩
  clear hX4
  go_upto_region 6 with fail
  obtain ⟨k, hk, hkl⟩ : ∃ k : Nat, (m : Int) % ((c.l.length : Int) + 1) = (k : Int) ∧ k ≤ c.l.length := ⟨m % (c.l.length + 1), by simp, by have := Nat.mod_lt m (show 0 < c.l.length + 1 by omega); omega⟩
  rw [hk]
  have hrd := read_any c pa pc la lc (k : Int) w4 (coIn_on hin HB4.out) hok hd64 (hg.below HB4.out)
  unfold coV at hrd
  clear hk hn0 hn64
  go_upto_region 7 with (first | (go_at_call 20; refine hrd.mono ?_; rintro e w5 ⟨⟨v5, rfl, a5, c5, rfl, hr5, hc5⟩, hb5⟩))
  have HX5 : Hid _ := (hb5.block _ (lt_of_some HX4.out)).trans HX4.out
  have HB5 : Hid _ := bl_then HB4.out hb5
  obtain ⟨k0, k1, k2, k3, k4⟩ := five HX5.out
  have hrd2 := read_any c pa pc la lc ((k : Int) + 1) w5 (coIn_on hin HB5.out) hok hd64 (hg.below HB5.out)
  unfold coV at hrd2
  clear hrd hb5
  go_upto_region 8 with (first | (go_at_call 20; refine hrd2.mono ?_; rintro e w6 ⟨⟨v6, rfl, a6, c6, rfl, hr6, hc6⟩, hb6⟩))
  have HX6 : Hid _ := (hb6.block _ (lt_of_some HX5.out)).trans HX5.out
  have HB6 : Hid _ := bl_then HB5.out hb6
  have HR5 : Hid (kInt.row w6 (fun _ => True) a5 (readM c (k : Int))) := kInt.row_mono (by decide) hr5 fun j _ hlt => ⟨trivial, hb6.block j hlt⟩
  have HR6 : Hid (kInt.row w6 (fun _ => True) a6 (readM c ((k : Int) + 1))) := kInt.row_mono (by decide) hr6 fun j _ hlt => ⟨trivial, rfl⟩
  obtain ⟨k0, k1, k2, k3, k4⟩ := five HX6.out
  have hri := right_any c pa pc la lc w6 (coIn_on hin HB6.out) hok (hg.below HB6.out)
  unfold coV at hri
  have hre := fun (W : World) (hW : Below w.heap.size w W) => read_any c pa pc la lc (c.l.length : Int) W (coIn_on hin hW) hok hd64 (hg.below hW)
  have hrn := fun (W : World) (hW : Below w.heap.size w W) => read_any c pa pc la lc (-1) W (coIn_on hin hW) hok hd64 (hg.below hW)
  rw [readM_end] at hre
  rw [readM_neg] at hrn
  unfold coV at hre hrn
  have HRE : Hid _ := hre
  have HRN : Hid _ := hrn
  clear hrd2 hb6 hr5 hr6 hre hrn HX5 HB5 HX4 HB4
  by_cases hr : (rightR c).1 = 0
  · rw [hr] at hri
    generalize (rightR c).2 = at0 at hri
    have ha := readM_sorted c (k : Int)
    have hb := readM_sorted c ((k : Int) + 1)
    have hal := readM_len c hr (k : Int)
    have hbl := readM_len c hr ((k : Int) + 1)
    have hAm : Among (readM c (k : Int)) (readM c ((k : Int) + 1)) 0 0 := readM_less hr k hkl
    generalize readM c (k : Int) = A at HR5 ha hal hAm hc5 ⊢
    generalize readM c ((k : Int) + 1) = Bl at HR6 hb hbl hAm hc6 ⊢
    go_upto_region 13 with (first | (go_at_call 22; refine hri.mono ?_; rintro e w7 ⟨rfl, hb7⟩))
    have HB7 : Hid _ := bl_then HB6.out hb7
    have HX7 : Hid _ := (hb7.block _ (lt_of_some HX6.out)).trans HX6.out
    have HA7 : Hid (kInt.row w7 (fun _ => True) a5 A) := kInt.row_mono (by decide) HR5.out fun j _ hlt => ⟨trivial, hb7.block j hlt⟩
    have HL7 : Hid (kInt.row w7 (fun _ => True) a6 Bl) := kInt.row_mono (by decide) HR6.out fun j _ hlt => ⟨trivial, hb7.block j hlt⟩
    have HA : Hid _ := ha
    have HBs : Hid _ := hb
    have HAM : Hid _ := hAm
    clear hri hb7 HR5 HR6 HX6 HB6 ha hb hAm k0 k1 k2 k3 k4 hr
    go_loopw [12, 13] (fun j i wr => ∃ p q : Nat, i = .int .i64 p ∧ j = .int .i64 q ∧ p ≤ Bl.length ∧ q ≤ A.length ∧ Among A Bl p q ∧ Below w7.heap.size w7 wr) (fun _ i _ => Bl.length - (intOf i).toNat)
    case atStart => exact ⟨0, 0, rfl, rfl, Nat.zero_le _, Nat.zero_le _, HAM.out, Below.refl _ _⟩
    case round =>
      obtain ⟨p, q, rfl, rfl, hpl, hql, ham, hbw⟩ := hrel
      have HBW : Hid _ := hbw
      have HQM : Hid _ := ham
      clear ham
      by_cases hp : p < Bl.length
      · obtain ⟨b6, o6, rfl, _, hb6, hc6'⟩ := int_at HL7.out p hp
        have hp0 : (0 : Int) ≤ (p : Int) := by omega
        have hp1 : (p : Int) < (Bl.length : Int) := by omega
        have HC6 : Hid _ := hc6'
        clear hc6' hbw
        go_upto_region 15 with fail
        go_loopw [12] (fun j wr2 => ∃ q2 : Nat, j = .int .i64 q2 ∧ q2 ≤ A.length ∧ Among A Bl p q2 ∧ Below w7.heap.size w7 wr2) (fun j _ => A.length - (intOf j).toNat)
        case atStart => exact ⟨q, rfl, hql, HQM.out, HBW.out⟩
        case round =>
          obtain ⟨q2, rfl, hq2, ham2, hbw2⟩ := hrel
          have e6 := (hbw2.cell (p := ⟨b6, o6 + p, none⟩) hb6).trans HC6.out
          have HB2 : Hid _ := hbw2
          have hqa : q2 < A.length := by
            rcases Nat.lt_or_ge q2 A.length with h1 | h1
            · exact h1
            · exact (ham2.here HA.out hp fun hj => by omega).choose
          obtain ⟨b5, o5, rfl, _, hb5, hc5'⟩ := int_at HA7.out q2 hqa
          have e5 := (hbw2.cell (p := ⟨b5, o5 + q2, none⟩) hb5).trans hc5'
          have hq0 : (0 : Int) ≤ (q2 : Int) := by omega
          have hq1 : (q2 : Int) < (A.length : Int) := by omega
          by_cases hlt : A[q2] < Bl[p]
          · have HN : Hid _ := ham2.less HBs.out hp hqa hlt
            have hdl : decide (A[q2] < Bl[p]) = true := decide_eq_true hlt
            generalize A[q2] = av at e5 hlt hdl
            generalize Bl[p] = bv at e6 hlt hdl
            clear ham2 hbw2 hc5'
            go_upto_region 15 with fail
            go_quiet (fail)
            go_wp2_with fail
            go_roundw
            case rel => exact ⟨q2 + 1, by go_num, by omega, HN.out, bl_then HB2.out (drewN_below _ _)⟩
            case measure => simp [intOf]; omega
          · obtain ⟨_, heq⟩ := ham2.here HA.out hp fun _ => hlt
            have HN : Hid _ := ham2.next
            rw [heq] at e5 hlt
            have hdl : decide (Bl[p] < Bl[p]) = false := decide_eq_false hlt
            have hne : ((q2 : Int) == (A.length : Int)) = false := by rw [beq_eq_false_iff_ne]; omega
            generalize Bl[p] = bv at e5 e6 hlt hdl
            clear ham2 hbw2 hc5' heq
            go_upto_region 15 with fail
            go_quiet (fail)
            go_upto_region 17 with fail
            go_quiet (fail)
            go_wp2_with fail
            go_roundw
            case rel => exact ⟨p + 1, q2, by go_num, rfl, by omega, hq2, HN.out, bl_then HB2.out (drewN_below _ _)⟩
            case measure => simp [intOf]; omega
      · have HB2 : Hid _ := bl_then HB7.out hbw
        have hx := (hbw.block _ (lt_of_some HX7.out)).trans HX7.out
        obtain ⟨k0, k1, k2, k3, k4⟩ := five hx
        have hre := HRE.out wr HB2.out
        have HX8 : Hid _ := hx
        clear hbw hx
        go_wp2_with (first | (go_at_call 20; refine hre.mono ?_; clear hre; rintro e w8 ⟨⟨v8, rfl, a8, c8, rfl, _, _⟩, hb8⟩; have HB8 := Lib.hid (bl_then HB2.out hb8); have hx8 := (hb8.block _ (lt_of_some HX8.out)).trans HX8.out; obtain ⟨k0, k1, k2, k3, k4⟩ := five hx8) | (go_at_call 20; refine (HRN.out _ HB8.out).mono ?_; rintro e w9 ⟨⟨v9, rfl, a9, c9, rfl, _, _⟩, hb9⟩))
        go_ret
        exact ⟨rfl, bl_then HB8.out hb9⟩
  · have hA := readM_not hr (k : Int)
    have hB := readM_not hr ((k : Int) + 1)
    rw [hA, hB]
    have hr' : ((rightR c).1 == 0) = false := by simpa using hr
    have hr2 : ((rightR c).1 != 0) = true := by simpa using hr
    generalize (rightR c).1 = er at hri hr' hr2
    generalize (rightR c).2 = at0 at hri
    clear hA hB HR5 HR6 hr hc5 hc6
    go_wp2_with (first | (go_at_call 22; refine hri.mono ?_; rintro e w7 ⟨rfl, hb7⟩))
    go_ret
    exact ⟨rfl, bl_then HB6.out hb7⟩
end Go.Proofs.Ytndmkfmpdnoliaa
