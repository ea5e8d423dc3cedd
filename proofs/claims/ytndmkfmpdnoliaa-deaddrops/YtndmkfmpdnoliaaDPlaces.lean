/- CONTRACT of places. -/
import Derived.Test.YtndmkfmpdnoliaaDIdle
import Derived.Test.YtndmkfmpdnoliaaGClone
namespace Go.Proofs.Ytndmkfmpdnoliaa
open Go.ChangeShapes Go.WideShapes Go.ChangeAt Go.RowKit

/-- Where each one stands without the dead ones. -/
def plL (b : List Bool) : List Int := (List.range b.length).map fun i => ((live b i : Nat) : Int)
theorem plL_len (b : List Bool) : (plL b).length = b.length := by simp [plL]
theorem plL_get (b : List Bool) (k : Nat) (h : k < b.length) : (plL b)[k]'(by rw [plL_len]; exact h) = ((live b k : Nat) : Int) := by simp [plL]
theorem pl_take (b : List Bool) (k : Nat) (h : k < b.length) : (plL b).take (k + 1) = (plL b).take k ++ [((live b k : Nat) : Int)] := by
  rw [List.take_succ_eq_append_getElem (by rw [plL_len]; exact h), plL_get b k h]
theorem src_it (w : World) (u : Int) : Src Try.prog 1 29 (.slice (some ⟨w.heap.size, 0, none⟩) 1 1) 1 [.int .i64 u] (w.alloc (.cells #[.int .i64 u] 3)) :=
  Src.ofSlice _ Try.underlying29 ⟨w.heap.size, 0, none⟩ 1 1 [.int .i64 u] rfl (World.news_of_block (cs := #[.int .i64 u]) (t := 3) (fr := (0, 0)) (heap_alloc_new w _)) (by simp [Value.oneCell'])
theorem it_lay {w : World} {S : Nat → Prop} : ∀ l : List Int, kInt.lay w S (l.map (Value.int .i64)) l
  | [] => rfl
  | x :: l => ⟨[.int .i64 x], l.map (Value.int .i64), rfl, rfl, it_lay l⟩
set_option maxRecDepth 100000 in
set_option maxHeartbeats 2000000 in
theorem places_any (b : List Bool) (B c : Nat) (w : World) (h : w.heap[B]? = some (.cells (bvs b) 4)) (hl : b.length ≤ 1000000) :
    Calls Try.prog 58 #[.slice (some ⟨B, 0, none⟩) b.length c] w fun e w' => (∃ v, e = .returned v ∧ kInt.rd w' (fun g => w.heap.size ≤ g) v (plL b)) ∧ Below w.heap.size w w' := by
  have hB := lt_of_some h
  have HH : Hid _ := h
  go_enter Try.func58, Try.ntmps58
  go_wp2
  go_loopw [3, 4, 9] (fun v n i wr => ∃ k : Nat, k ≤ b.length ∧ i = .int .i64 k ∧ n = .int .i64 (live b k : Nat) ∧ wr.ownsRow w.heap.size 3 1 v k (((plL b).take k).map (Value.int .i64)) ∧ Below w.heap.size w wr) (fun _ _ i _ => b.length - (intOf i).toNat)
  case atStart => exact ⟨0, Nat.zero_le _, rfl, by rw [live_zero]; rfl, World.ownsRow_nil _ _ _ _, Below.refl _ _⟩
  case round =>
    obtain ⟨k, hk, rfl, rfl, hown, hbl⟩ := hrel
    rename_i u3 _ _
    have HO : Hid (wr.ownsRow w.heap.size 3 1 u3 k (((plL b).take k).map (Value.int .i64))) := hown
    have HB : Hid (Below w.heap.size w wr) := hbl
    clear hown
    by_cases hlt : k < b.length
    · have e0 := (hbl.cell (p := ⟨B, k, none⟩) hB).trans (brow_cell HH.out hlt)
      have HV : Hid (((plL b).take (k + 1)).map (Value.int .i64) = ((plL b).take k).map (Value.int .i64) ++ [.int .i64 ((live b k : Nat) : Int)]) := by show _ = _; rw [pl_take b k hlt, List.map_append]; rfl
      have HL : Hid _ := live_succ b k hlt
      have hll := live_le_n b k
      have hsw := hbl.size
      clear hbl
      have hownA : (wr.alloc (.cells #[.int .i64 ((live b k : Nat) : Int)] 3)).ownsRow w.heap.size 3 1 u3 k (((plL b).take k).map (Value.int .i64)) := own_kept HO.out (Kept.alloc wr _ (fun _ => False)) (fun _ _ e => e)
      have hsrcA := src_it wr ((live b k : Nat) : Int)
      generalize live b k = m at HV HL hll hownA hsrcA ⊢
      generalize b[k] = d at e0 HL
      go_wp2_with (first | (at_builtin; refine wpList_append_src intt_info rfl Try.underlying29 (by decide) _ rfl _ _ rfl w.heap.size u3 k _ rfl hownA _ 1 [.int .i64 (m : Int)] rfl hsrcA (by omega) (by simp; omega) ?_; intro y c2 w3 hown3 hgrow hat; refine Hid.out ?_) | go_in)
      all_goals refine Lib.hid ?_
      have HO3 : Hid _ := hown3
      have HB3 : Hid (Below w.heap.size w w3) := by
        have hk3 := Kept.of_grown hgrow
        refine Kept.to_below ((Below.kept (bl_alloc HB.out (.cells #[.int .i64 (m : Int)] 3)) (fun i => w.heap.size ≤ i)).trans (hk3.mono fun i _ e => ?_)) fun i hi => hi
        exact (World.ownsRow.lt HO.out i e).1
      clear hown3 hgrow hat hownA hsrcA
      cases d
      · go_wp2_with fail
        go_roundw
        case rel => exact ⟨k + 1, by omega, by go_num, by rw [HL.out]; go_num, by rw [HV.out]; exact HO3.out, HB3.out⟩
        case measure => simp [intOf]; omega
      · go_wp2_with fail
        go_roundw
        case rel => exact ⟨k + 1, by omega, by go_num, by rw [HL.out]; simp, by rw [HV.out]; exact HO3.out, HB3.out⟩
        case measure => simp [intOf]; omega
    · obtain rfl : k = b.length := by omega
      have hx : wr.ownsRow w.heap.size 3 1 u3 b.length ((plL b).map (Value.int .i64)) := by have := HO.out; rwa [List.take_of_length_le (by rw [plL_len]; omega)] at this
      have hrd : kInt.rd wr (fun g => w.heap.size ≤ g) u3 (plL b) := kInt.own_rd (t := 3) (S := fun g => w.heap.size ≤ g) ⟨_, by rw [plL_len]; exact hx, it_lay _⟩ (fun _ h => h) fun g hg => (World.ownsRow.lt hx g hg).1
      have HRD : Hid _ := hrd
      clear hrd hx HO
      go_wp2_with fail
      go_ret
      exact ⟨⟨_, rfl, HRD.out⟩, HB.out⟩
end Go.Proofs.Ytndmkfmpdnoliaa
