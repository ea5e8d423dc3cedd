/- CONTRACTS of maps.Keys and slices.Sorted at registers. -/
import Derived.Test.YtndmkfmpdnoliaaDKeys
import Derived.Test.YtndmkfmpdnoliaaDSet
import Derived.Test.YtndmkfmpdnoliaaDPlaces
namespace Go.Proofs.Ytndmkfmpdnoliaa
open Go.ChangeShapes Go.WideShapes Go.ChangeAt Go.RowKit Go.Maps Go.Sort Go.Shelf

theorem sortsT (m : Nat) : AnyZI.SortsIn Try.prog Try.sortedA_ren Fence.wide m :=
  ⟨fun blk off cap ss W hH hblk hsz => callsIn_wide.2 (AnyM.slices_Sort_int Try.sortA blk off cap ss W hH hblk hsz),
   fun p cap W => callsIn_wide.2 (AnyM.slices_Sort_int_none Try.sortA p cap W)⟩
/-- However the keys came: sorted they are the registers, rising. -/
theorem keys_rising {w : World} {b n m : Nat} {R : List Int} {D : DataW Unit} (hown : w.ownsMap Try.prog 3 unitElem b n D) (hr : ∀ r : Int, Maps.has D (.int .i64 r) = R.contains r) (hR : ∀ r ∈ R, 0 ≤ r ∧ r < (m : Int)) {ss : List Int} (hp : ss.Perm (intKeys D)) :
    ss.mergeSort (fun x y => decide (x ≤ y)) = rising m R := by
  have hs := rising_sorted m R
  have hc : CollectedI D (fun _ => false) (rising m R) := ⟨hs.imp fun h => by omega, fun x => by
    rw [rising_mem, hr x, List.contains_iff_mem]
    constructor
    · rintro ⟨_, h⟩; exact ⟨h, rfl⟩
    · rintro ⟨h, _⟩; exact ⟨hR x h, h⟩⟩
  have hq := hc.perm hown kint_law Try.underlying3 fun _ => rfl
  have e1 := mergeSort_of_perm_i (hp.trans hq.symm)
  have e2 : (rising m R).mergeSort leI = rising m R := List.mergeSort_of_pairwise (hs.imp fun h => by simp only [leI, decide_eq_true_eq]; omega)
  exact e1.trans e2
theorem keys_any (mb : Option Nat) (W : World) : Calls Try.prog 38 #[.map mb] W fun e w' => e = .returned (.func (.func 65) #[] #[.pointer (some ⟨W.heap.size, 0, none⟩)]) ∧ w' = W.alloc (.cells #[.map mb] 81) :=
  (callsIn_wide (n := 5)).1 (AnyZI.keys_in Try.keysA Fence.wide 5 trivial rfl mb W)
set_option maxHeartbeats 1000000 in
theorem sorted_any {w : World} {b n m : Nat} {R : List Int} (h : Reg w b n R) (hn : n ≤ 10000000000) (hR : ∀ r ∈ R, 0 ≤ r ∧ r < (m : Int)) :
    Calls Try.prog 37 #[.func (.func 65) #[] #[.pointer (some ⟨w.heap.size, 0, none⟩)]] (w.alloc (.cells #[.map (some b)] 81)) fun e w' => (∃ v, e = .returned v ∧ kInt.rd w' (fun j => w.heap.size ≤ j) v (rising m R)) ∧ Below w.heap.size w w' := by
  obtain ⟨D, hown, hr⟩ := h
  have hbl := hown.lt
  have hsz := hown.size_le
  have hseq : SeqGives Fence.wide 2 Try.prog 65 #[.pointer (some ⟨w.heap.size, 0, none⟩)] encZ (fun ss => ss.Perm (intKeys D)) (Maps.size D) (w.alloc (.cells #[.map (some b)] 81)) :=
    AnyZI.keys_gives (ρ := Try.keysA_ren) { Try.keysA with } Fence.wide _ trivial rfl (by omega) w.heap.size b n D _ (by simp) (by simp) (by
      obtain ⟨es, clock, hb, Ft, hs, hD⟩ := hown
      exact ⟨es, clock, (Below.heap_alloc _ _ b hbl).trans hb, Ft, hs, hD⟩)
  have cS := AnyZI.sorted_in Try.sortedA Fence.wide 5 trivial trivial trivial trivial rfl (by omega) (sortsT _) (enters_of Try.func64 (by kernel_rfl) rfl) 65 #[.pointer (some ⟨w.heap.size, 0, none⟩)] trivial (enters_of Try.func65 (by kernel_rfl) rfl) _ _ (by unfold maxLen; omega) (by omega) _ hseq
  change CallsIn _ _ Try.prog 37 _ _ _ at cS
  refine ((callsIn_wide (n := 5)).1 cS).mono fun e w' hh => ?_
  obtain ⟨v, ss, rfl, hS, hrow, _, hb⟩ := hh
  have hk := keys_rising hown hr hR hS
  rw [hk] at hrow
  have hlen : ss.length = (rising m R).length := by rw [← hk, List.length_mergeSort]
  rw [hlen] at hrow
  simp only [World.size_alloc] at hrow hb
  refine ⟨⟨v, rfl, kInt.own_rd (t := 3) (S := fun j => w.heap.size ≤ j) ⟨_, hrow, it_lay _⟩ (fun _ h => h) fun g hg => Nat.le_trans (Nat.le_succ _) (World.ownsRow.lt hrow g hg).1⟩, ?_⟩
  exact (bl_alloc (Below.refl w.heap.size w) _).trans (hb.mono (Nat.le_succ _))
end Go.Proofs.Ytndmkfmpdnoliaa
