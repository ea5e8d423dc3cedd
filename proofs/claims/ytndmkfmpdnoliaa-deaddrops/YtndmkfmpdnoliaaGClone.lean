/- CONTRACTS of slices.Clone at types and at numbers. -/
import Derived.Test.YtndmkfmpdnoliaaIApp
import Derived.Lib.Hide
namespace Go.Proofs.Ytndmkfmpdnoliaa
open Go.ChangeShapes Go.WideShapes Go.ChangeAt Go.RowKit

theorem tyy_info : (Try.prog.info? 77).map (fun i => (i.zero, i.size, i.bytes)) = some (some (.agg #[.bool false, .int .i64 0]), 2, 16) := by kernel_rfl
theorem intt_info : (Try.prog.info? 3).map (fun i => (i.zero, i.size, i.bytes)) = some (some (.int .i64 0), 1, 8) := by kernel_rfl
theorem tyy_lay {w w' : World} {S T : Nat → Prop} : ∀ {l : List Ty} {cs : List Value}, kTy.lay w S cs l → kTy.lay w' T cs l
  | [], _, h => h
  | x :: l, cs, h => by
    obtain ⟨ds, ys, rfl, hC, hr⟩ := h
    exact ⟨ds, ys, rfl, hC, tyy_lay hr⟩

set_option maxRecDepth 100000 in
set_option maxHeartbeats 1000000 in
theorem cloneT_any {S : Nat → Prop} (w : World) (a : Option Addr) (l : List Ty) (c : Nat) (h : kTy.row w S a l) (hl : l.length ≤ 1000000) :
    Calls Try.prog 33 #[.slice a l.length c] w fun e w' => (∃ v, e = .returned v ∧ kTy.rd w' (fun b => w.heap.size ≤ b) v l) ∧ Below w.heap.size w w' := by
  rcases a with _ | a
  · have hl0 : l = [] := by
      cases l with
      | nil => rfl
      | cons x l => obtain ⟨b, o, cs, e, _⟩ := h; cases e
    subst hl0
    have hq := fun w => Lib.run_eql_slice_nil (P := Try.prog) w 36 _ none 0 c 0 0 Try.underlying36
    go_enter Try.func33, Try.ntmps33
    go_wp2
    go_ret
    exact ⟨⟨_, rfl, none, 0, rfl, trivial, Nat.le_refl _⟩, Below.refl _ _⟩
  · have hr : kTy.row (w.alloc (.cells #[] 77)) S (some a) l := kTy.row_mono (by decide) h fun k hk hlt => ⟨hk, heap_alloc_old w _ hlt⟩
    obtain ⟨cs, hlay, hsrc⟩ := kTy.src (c := c) (tx := 36) Try.underlying36 hr
    have HL : Hid (kTy.lay (w.alloc (.cells #[] 77)) S cs l) := hlay
    clear hlay hr
    have hq := fun w => Lib.run_eql_slice_nil (P := Try.prog) w 36 _ (some a) l.length c 0 0 Try.underlying36
    have hof := own_fresh w w.heap.size 77 2 (Nat.le_refl _)
    go_enter Try.func33, Try.ntmps33
    go_wp2_with (first | (at_builtin; refine wpList_append_src tyy_info rfl Try.underlying36 (by decide) _ rfl _ _ rfl w.heap.size (Value.slice (some ⟨w.heap.size, 0, none⟩) 0 0) 0 [] rfl hof _ l.length cs rfl hsrc (by omega) (by simp) ?_; intro y c2 w2 hown hgrow hat; refine Hid.out ?_) | go_in)
    refine Lib.hid ?_
    have hown' : w2.ownsRow w.heap.size 77 2 (.slice y l.length c2) l.length cs := by simpa using hown
    have hb2 : Below w.heap.size w w2 := by
      refine Kept.to_below ((Kept.alloc w _ (fun k => w.heap.size ≤ k)).trans ((Kept.of_grown hgrow).mono fun k _ hk => ?_)) fun k hk => hk
      have : w.heap.size = k := by simpa [Value.ownBlock] using hk
      omega
    clear hown hgrow hat
    go_wp2
    go_ret
    exact ⟨⟨_, rfl, kTy.own_rd (t := 77) (S := fun b => w.heap.size ≤ b) ⟨cs, hown', tyy_lay HL.out⟩ (fun _ h => h) fun g hg => (hown'.lt g hg).1⟩, hb2⟩
theorem intt_lay {w w' : World} {S T : Nat → Prop} : ∀ {l : List Int} {cs : List Value}, kInt.lay w S cs l → kInt.lay w' T cs l
  | [], _, h => h
  | x :: l, cs, h => by
    obtain ⟨ds, ys, rfl, hC, hr⟩ := h
    exact ⟨ds, ys, rfl, hC, intt_lay hr⟩

set_option maxRecDepth 100000 in
set_option maxHeartbeats 1000000 in
theorem cloneI_any {S : Nat → Prop} (w : World) (a : Option Addr) (l : List Int) (c : Nat) (h : kInt.row w S a l) (hl : l.length ≤ 1000000) :
    Calls Try.prog 59 #[.slice a l.length c] w fun e w' => (∃ v, e = .returned v ∧ kInt.rd w' (fun b => w.heap.size ≤ b) v l) ∧ Below w.heap.size w w' := by
  rcases a with _ | a
  · have hl0 : l = [] := by
      cases l with
      | nil => rfl
      | cons x l => obtain ⟨b, o, cs, e, _⟩ := h; cases e
    subst hl0
    have hq := fun w => Lib.run_eql_slice_nil (P := Try.prog) w 29 _ none 0 c 0 0 Try.underlying29
    go_enter Try.func59, Try.ntmps59
    go_wp2
    go_ret
    exact ⟨⟨_, rfl, none, 0, rfl, trivial, Nat.le_refl _⟩, Below.refl _ _⟩
  · have hr : kInt.row (w.alloc (.cells #[] 3)) S (some a) l := kInt.row_mono (by decide) h fun k hk hlt => ⟨hk, heap_alloc_old w _ hlt⟩
    obtain ⟨cs, hlay, hsrc⟩ := kInt.src (c := c) (tx := 29) Try.underlying29 hr
    have HL : Hid (kInt.lay (w.alloc (.cells #[] 3)) S cs l) := hlay
    clear hlay hr
    have hq := fun w => Lib.run_eql_slice_nil (P := Try.prog) w 29 _ (some a) l.length c 0 0 Try.underlying29
    have hof := own_fresh w w.heap.size 3 1 (Nat.le_refl _)
    go_enter Try.func59, Try.ntmps59
    go_wp2_with (first | (at_builtin; refine wpList_append_src intt_info rfl Try.underlying29 (by decide) _ rfl _ _ rfl w.heap.size (Value.slice (some ⟨w.heap.size, 0, none⟩) 0 0) 0 [] rfl hof _ l.length cs rfl hsrc (by omega) (by simp) ?_; intro y c2 w2 hown hgrow hat; refine Hid.out ?_) | go_in)
    refine Lib.hid ?_
    have hown' : w2.ownsRow w.heap.size 3 1 (.slice y l.length c2) l.length cs := by simpa using hown
    have hb2 : Below w.heap.size w w2 := by
      refine Kept.to_below ((Kept.alloc w _ (fun k => w.heap.size ≤ k)).trans ((Kept.of_grown hgrow).mono fun k _ hk => ?_)) fun k hk => hk
      have : w.heap.size = k := by simpa [Value.ownBlock] using hk
      omega
    clear hown hgrow hat
    go_wp2
    go_ret
    exact ⟨⟨_, rfl, kInt.own_rd (t := 3) (S := fun b => w.heap.size ≤ b) ⟨cs, hown', intt_lay HL.out⟩ (fun _ h => h) fun g hg => (hown'.lt g hg).1⟩, hb2⟩
end Go.Proofs.Ytndmkfmpdnoliaa
