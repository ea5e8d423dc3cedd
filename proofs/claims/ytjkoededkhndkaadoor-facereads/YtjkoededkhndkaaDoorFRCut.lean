/- CONTRACT of the reference's cut. -/
import Derived.Test.YtjkoededkhndkaaDoorFCutM
import Derived.Test.YtjkoededkhndkaaDoorFRRight
import Derived.Test.YtjkoededkhndkaaDoorFRText
import Derived.Deep.AppendSrc
import Derived.Deep.CutBlock
import Derived.Deep.QuietTactic
namespace Go.Proofs.YtjkoededkhndkaaDoor
open Go.ChangeShapes Go.WideShapes Go.ChangeAt Go.RowKit

theorem str_info : (Tryd.prog.info? 9).map (fun i => (i.zero, i.size, i.bytes)) = some (some (.string ByteArray.empty), 1, 16) := by kernel_rfl
theorem ext_mid (l : List UInt8) (n m : Nat) : (bs l).extract n m = bs ((l.drop n).take (m - n)) := by
  have h : ((bs l).extract n m).data.toList = (l.drop n).take (m - n) := by
    rw [ByteArray.data_extract, Array.toList_extract, List.extract_eq_take_drop, bs_list]
  rw [← bs_of ((bs l).extract n m), h]
theorem src_strC (w : World) (u : ByteArray) : Src Tryd.prog 1 39 (.slice (some ⟨w.heap.size, 0, none⟩) 1 1) 1 [.string u] (w.alloc (.cells #[.string u] 9)) :=
  Src.ofSlice _ Tryd.underlying39 ⟨w.heap.size, 0, none⟩ 1 1 [.string u] rfl (World.news_of_block (cs := #[.string u]) (t := 9) (fr := (0, 0)) (heap_alloc_new w _)) (by simp [Value.oneCell'])
abbrev strV (p : List UInt8) : Value := .string (bs p)
theorem str_lay {w : World} {S : Nat → Prop} : ∀ l : List (List UInt8), kStr.lay w S (l.map strV) l
  | [] => rfl
  | x :: l => ⟨[strV x], l.map strV, rfl, rfl, str_lay l⟩
/-- How far cut has come. -/
def CutAt (s : List UInt8) (b : UInt8) (f i : Nat) (D : List (List UInt8)) : Prop :=
  D.length ≤ i ∧ ((i = s.length + 1 ∧ D = cutL b s) ∨ (f ≤ i ∧ i ≤ s.length ∧ cutL b s = D ++ cutL b (s.drop f) ∧ b ∉ (s.drop f).take (i - f)))
theorem CutAt.start (s : List UInt8) (b : UInt8) : CutAt s b 0 0 [] := ⟨Nat.le_refl _, .inr ⟨Nat.le_refl _, Nat.zero_le _, rfl, by simp⟩⟩
theorem CutAt.on {s : List UInt8} {b : UInt8} {f i : Nat} {D : List (List UInt8)} (h : CutAt s b f i D) (hi : i < s.length) (hb : s[i] ≠ b) : CutAt s b f (i + 1) D := by
  obtain ⟨h1, h2 | ⟨h2, h3, h4, h5⟩⟩ := h
  · omega
  · refine ⟨by omega, .inr ⟨by omega, by omega, h4, ?_⟩⟩
    rw [show i + 1 - f = (i - f) + 1 by omega, List.take_add_one, List.getElem?_drop, show f + (i - f) = i by omega, List.getElem?_eq_getElem hi]
    intro hm
    rcases List.mem_append.1 hm with h | h
    · exact h5 h
    · have : b = s[i] := by simpa using h
      exact hb this.symm
theorem CutAt.cut {s : List UInt8} {b : UInt8} {f i : Nat} {D : List (List UInt8)} (h : CutAt s b f i D) (hi : i < s.length) (hb : s[i] = b) : CutAt s b (i + 1) (i + 1) (D ++ [(s.drop f).take (i - f)]) := by
  obtain ⟨h1, h2 | ⟨h2, h3, h4, h5⟩⟩ := h
  · omega
  · refine ⟨by simp; omega, .inr ⟨Nat.le_refl _, by omega, ?_, by simp⟩⟩
    have hc := cutL_at (b := b) (l := s.drop f) (n := i - f) (by rw [List.length_drop]; omega) (by rw [List.getElem_drop]; simpa [show f + (i - f) = i by omega] using hb) h5
    rw [h4, hc, List.drop_drop, show f + (i - f + 1) = i + 1 by omega]
    simp
theorem CutAt.last {s : List UInt8} {b : UInt8} {f : Nat} {D : List (List UInt8)} (h : CutAt s b f s.length D) : CutAt s b (s.length + 1) (s.length + 1) (D ++ [(s.drop f).take (s.length - f)]) := by
  obtain ⟨h1, h2 | ⟨h2, h3, h4, h5⟩⟩ := h
  · omega
  · refine ⟨by simp; omega, .inl ⟨rfl, ?_⟩⟩
    have e : (s.drop f).take (s.length - f) = s.drop f := List.take_of_length_le (by rw [List.length_drop]; exact Nat.le_refl _)
    rw [e] at h5
    rw [h4, cutL_no h5, e]
set_option maxRecDepth 100000 in
set_option maxHeartbeats 8000000 in
theorem rcut_any (s : List UInt8) (b : UInt8) (w : World) (hs : s.length ≤ 1000000) :
    Calls Tryd.prog 11 #[.string (bs s), .int .u8 (b.toNat : Int)] w fun e w' => (∃ v, e = .returned v ∧ kStr.rd w' (fun b => w.heap.size ≤ b) v (cutL b s)) ∧ Below w.heap.size w w' := by
  have hsz : (bs s).size = s.length := bs_size s
  go_enter Tryd.func11, Tryd.ntmps11
  go_upto_region 4 with fail
  go_loopw [5, 6, 7] (fun v f i wr => ∃ (q k : Nat) (D : List (List UInt8)), i = .int .i64 k ∧ f = .int .i64 q ∧ k ≤ s.length + 1 ∧ CutAt s b q k D ∧ wr.ownsRow w.heap.size 9 1 v D.length (D.map strV) ∧ Below w.heap.size w wr) (fun _ _ i _ => s.length + 1 - (intOf i).toNat)
  case atStart => exact ⟨0, 0, [], rfl, rfl, Nat.zero_le _, CutAt.start s b, World.ownsRow_nil _ _ _ _, Below.refl _ _⟩
  case round =>
    obtain ⟨q, k, D, rfl, rfl, hk, hC, hown, hbl⟩ := hrel
    rename_i u5 _ _
    have HO : Hid (wr.ownsRow w.heap.size 9 1 u5 D.length (D.map strV)) := hown
    have HB : Hid _ := hbl
    have HC : Hid (CutAt s b q k D) := hC
    have hDl := hC.1
    by_cases hlt : k < s.length
    · have hk0 : (0 : Int) ≤ (k : Int) := by omega
      have hk1 : (k : Int) < (s.length : Int) := by omega
      have hkn : ((k : Int) == (s.length : Int)) = false := by rw [beq_eq_false_iff_ne]; omega
      have hle : (k : Int) ≤ (s.length : Int) := by omega
      have hks : k < (bs s).size := by omega
      have hat := bs_at s k hks
      by_cases hb : s[k] = b
      · have hN : Hid _ := CutAt.cut HC.out hlt hb
        have hqk : q ≤ k := by
          rcases hC.2 with h | h
          · omega
          · exact h.1
        have hq0 : (0 : Int) ≤ (q : Int) := by omega
        have hq1 : (q : Int) ≤ (k : Int) := by omega
        have heq : (((s[k]).toNat : Int) == (b.toNat : Int)) = true := by rw [hb]; exact beq_self_eq_true _
        have hE : (bs s).extract q k = bs ((s.drop q).take (k - q)) := ext_mid s q k
        have hownA : (wr.alloc (.cells #[.string ((bs s).extract q k)] 9)).ownsRow w.heap.size 9 1 u5 D.length (D.map strV) := own_kept HO.out (Kept.alloc wr _ (fun _ => False)) (fun _ _ e => e)
        have hsrcA := src_strC wr ((bs s).extract q k)
        have hsw := hbl.size
        have HE : Hid _ := hE
        clear hC hown hbl hE
        go_wp2_with (first | (at_builtin; refine wpList_append_src str_info rfl Tryd.underlying39 (by decide) _ rfl _ _ rfl w.heap.size u5 D.length _ rfl hownA _ 1 [.string ((bs s).extract q k)] rfl hsrcA (by omega) (by simp; omega) ?_; intro y c2 w3 hown3 hgrow hat3; refine Hid.out ?_) | go_in)
        all_goals refine Lib.hid ?_
        have HO3 : Hid (w3.ownsRow w.heap.size 9 1 (.slice y (D.length + 1) c2) (D ++ [(s.drop q).take (k - q)]).length ((D ++ [(s.drop q).take (k - q)]).map strV)) := by
          show World.ownsRow _ _ _ _ _ _ _
          rw [HE.out] at hown3
          rw [List.map_append, List.length_append]
          exact hown3
        have HB3 : Hid (Below w.heap.size w w3) := by
          have hk3 := Kept.of_grown hgrow
          refine Kept.to_below ((Below.kept (bl_alloc HB.out (.cells #[.string ((bs s).extract q k)] 9)) (fun i => w.heap.size ≤ i)).trans (hk3.mono fun i _ e => ?_)) fun i hi => hi
          exact (World.ownsRow.lt HO.out i e).1
        clear hown3 hgrow hat3 hownA hsrcA
        go_wp2_with fail
        go_roundw
        case rel => exact ⟨k + 1, k + 1, _, by go_num, by go_num, by omega, hN.out, HO3.out, HB3.out⟩
        case measure => simp [intOf]; omega
      · have hN : Hid _ := CutAt.on HC.out hlt hb
        have hne : (((s[k]).toNat : Int) == (b.toNat : Int)) = false := by
          rw [beq_eq_false_iff_ne]
          exact fun e => hb (UInt8.toNat_inj.1 (by omega))
        clear hC hown hbl
        go_wp2_with fail
        go_roundw
        case rel => exact ⟨q, k + 1, D, by go_num, rfl, by omega, hN.out, HO.out, HB.out⟩
        case measure => simp [intOf]; omega
    · by_cases hkl : k = s.length
      · subst hkl
        have hN : Hid (CutAt s b (s.length + 1) (s.length + 1) (D ++ [(s.drop q).take (s.length - q)])) := by
          obtain ⟨a1, a2 | ⟨a2, a3, a4, a5⟩⟩ := hC
          · omega
          · refine ⟨by simp; omega, .inl ⟨rfl, ?_⟩⟩
            have e : (s.drop q).take (s.length - q) = s.drop q := List.take_of_length_le (by rw [List.length_drop]; exact Nat.le_refl _)
            rw [e] at a5
            rw [a4, cutL_no a5, e]
        obtain ⟨k, hkk⟩ : ∃ k, s.length = k := ⟨_, rfl⟩
        have hqk : q ≤ k := by
          rcases hC.2 with h | h
          · omega
          · omega
        have hq0 : (0 : Int) ≤ (q : Int) := by omega
        have hq1 : (q : Int) ≤ (k : Int) := by omega
        have hk0 : (k : Int) ≤ (s.length : Int) := by omega
        have hkn : ((k : Int) == (s.length : Int)) = true := by rw [hkk]; exact beq_self_eq_true _
        rw [hkk] at hN hDl ⊢
        have hE : (bs s).extract q k = bs ((s.drop q).take (k - q)) := ext_mid s q k
        have hownA : (wr.alloc (.cells #[.string ((bs s).extract q k)] 9)).ownsRow w.heap.size 9 1 u5 D.length (D.map strV) := own_kept HO.out (Kept.alloc wr _ (fun _ => False)) (fun _ _ e => e)
        have hsrcA := src_strC wr ((bs s).extract q k)
        have hsw := hbl.size
        have HE : Hid _ := hE
        clear hC hown hbl hE
        go_wp2_with (first | (at_builtin; refine wpList_append_src str_info rfl Tryd.underlying39 (by decide) _ rfl _ _ rfl w.heap.size u5 D.length _ rfl hownA _ 1 [.string ((bs s).extract q k)] rfl hsrcA (by omega) (by simp; omega) ?_; intro y c2 w3 hown3 hgrow hat3; refine Hid.out ?_) | go_in)
        all_goals refine Lib.hid ?_
        have HO3 : Hid (w3.ownsRow w.heap.size 9 1 (.slice y (D.length + 1) c2) (D ++ [(s.drop q).take (k - q)]).length ((D ++ [(s.drop q).take (k - q)]).map strV)) := by
          show World.ownsRow _ _ _ _ _ _ _
          rw [HE.out] at hown3
          rw [List.map_append, List.length_append]
          exact hown3
        have HB3 : Hid (Below w.heap.size w w3) := by
          have hk3 := Kept.of_grown hgrow
          refine Kept.to_below ((Below.kept (bl_alloc HB.out (.cells #[.string ((bs s).extract q k)] 9)) (fun i => w.heap.size ≤ i)).trans (hk3.mono fun i _ e => ?_)) fun i hi => hi
          exact (World.ownsRow.lt HO.out i e).1
        clear hown3 hgrow hat3 hownA hsrcA
        go_wp2_with fail
        go_roundw
        case rel => exact ⟨k + 1, k + 1, _, by go_num, by go_num, by omega, hN.out, HO3.out, HB3.out⟩
        case measure => simp [intOf]
      · have hkl2 : k = s.length + 1 := by omega
        have hD : D = cutL b s := by
          rcases hC.2 with h | h
          · exact h.2
          · omega
        have hnl : ¬ (k : Int) ≤ (s.length : Int) := by omega
        have hrd : kStr.rd wr (fun g => w.heap.size ≤ g) u5 (cutL b s) := by rw [← hD]; exact kStr.own_rd (t := 9) (S := fun g => w.heap.size ≤ g) ⟨_, HO.out, str_lay _⟩ (fun _ h => h) fun g hg => (World.ownsRow.lt HO.out g hg).1
        have HRD : Hid _ := hrd
        clear hC hown hbl hrd hD
        go_wp2_with fail
        go_ret
        exact ⟨⟨_, rfl, HRD.out⟩, HB.out⟩
end Go.Proofs.YtjkoededkhndkaaDoor
