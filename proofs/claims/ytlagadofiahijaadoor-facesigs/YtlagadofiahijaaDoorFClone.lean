/- CONTRACT of slices.Clone at types. -/
import Derived.Test.YtlagadofiahijaaDoorFApp
import Derived.Lib.Hide
namespace Go.Proofs.YtlagadofiahijaaDoor
open Go.ChangeShapes Go.WideShapes Go.ChangeAt Go.RowKit

theorem ty_lay {w w' : World} {S T : Nat → Prop} : ∀ {l : List Ty} {cs : List Value}, kTy.lay w S cs l → kTy.lay w' T cs l
  | [], _, h => h
  | x :: l, cs, h => by
    obtain ⟨ds, ys, rfl, hC, hr⟩ := h
    exact ⟨ds, ys, rfl, hC, ty_lay hr⟩

set_option maxRecDepth 100000 in
set_option maxHeartbeats 1000000 in
theorem clone_any {S : Nat → Prop} (w : World) (a : Option Addr) (l : List Ty) (c : Nat) (h : kTy.row w S a l) (hl : l.length ≤ 1000000) :
    Calls Tryd.prog 16 #[.slice a l.length c] w fun e w' => (∃ v, e = .returned v ∧ kTy.rd w' (fun b => w.heap.size ≤ b) v l) ∧ Below w.heap.size w w' := by
  rcases a with _ | a
  · have hl0 : l = [] := by
      cases l with
      | nil => rfl
      | cons x l => obtain ⟨b, o, cs, e, _⟩ := h; cases e
    subst hl0
    have hq := fun w => Lib.run_eql_slice_nil (P := Tryd.prog) w 31 _ none 0 c 0 0 Tryd.underlying31
    go_enter Tryd.func16, Tryd.ntmps16
    go_wp2
    go_ret
    exact ⟨⟨_, rfl, none, 0, rfl, trivial, Nat.le_refl _⟩, Below.refl _ _⟩
  · have hr : kTy.row (w.alloc (.cells #[] 38)) S (some a) l := kTy.row_mono (by decide) h fun k hk hlt => ⟨hk, heap_alloc_old w _ hlt⟩
    obtain ⟨cs, hlay, hsrc⟩ := kTy.src (c := c) (tx := 31) Tryd.underlying31 hr
    have HL : Hid (kTy.lay (w.alloc (.cells #[] 38)) S cs l) := hlay
    clear hlay hr
    have hq := fun w => Lib.run_eql_slice_nil (P := Tryd.prog) w 31 _ (some a) l.length c 0 0 Tryd.underlying31
    have hof := own_fresh w w.heap.size 38 2 (Nat.le_refl _)
    go_enter Tryd.func16, Tryd.ntmps16
    go_wp2_with (first | (at_builtin; refine wpList_append_src ty_info rfl Tryd.underlying31 (by decide) _ rfl _ _ rfl w.heap.size (Value.slice (some ⟨w.heap.size, 0, none⟩) 0 0) 0 [] rfl hof _ l.length cs rfl hsrc (by omega) (by simp) ?_; intro y c2 w2 hown hgrow hat; refine Hid.out ?_) | go_in)
    refine Lib.hid ?_
    have hown' : w2.ownsRow w.heap.size 38 2 (.slice y l.length c2) l.length cs := by simpa using hown
    have hb2 : Below w.heap.size w w2 := by
      refine Kept.to_below ((Kept.alloc w _ (fun k => w.heap.size ≤ k)).trans ((Kept.of_grown hgrow).mono fun k _ hk => ?_)) fun k hk => hk
      have : w.heap.size = k := by simpa [Value.ownBlock] using hk
      omega
    clear hown hgrow hat
    go_wp2
    go_ret
    exact ⟨⟨_, rfl, kTy.own_rd (t := 38) (S := fun b => w.heap.size ≤ b) ⟨cs, hown', ty_lay HL.out⟩ (fun _ h => h) fun g hg => (hown'.lt g hg).1⟩, hb2⟩
end Go.Proofs.YtlagadofiahijaaDoor
