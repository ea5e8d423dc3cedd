/- CONTRACT of slices.Clone at words; whole outcomes as results. -/
import Derived.Test.YtmglmbeconndhaaIFuncs
namespace Go.Proofs.Ytmglmbeconndhaa
open Go.ChangeShapes Go.WideShapes Go.ChangeAt Go.RowKit

theorem wd_lay_any {w w' : World} {S T : Nat → Prop} : ∀ {l : List Nat} {cs : List Value}, kWd.lay w S cs l → kWd.lay w' T cs l
  | [], _, h => h
  | x :: l, cs, h => by
    obtain ⟨ds, ys, rfl, hC, hr⟩ := h
    exact ⟨ds, ys, rfl, hC, wd_lay_any hr⟩
set_option maxRecDepth 100000 in
set_option maxHeartbeats 1000000 in
theorem clone_any {S : Nat → Prop} (w : World) (a : Addr) (l : List Nat) (c : Nat) (h : kWd.row w S (some a) l) (hl : l.length ≤ 1000000) :
    Calls Try.prog 28 #[.slice (some a) l.length c] w fun e w' => (∃ y c2, e = .returned (.slice y l.length c2) ∧ kWd.row w' (fun b => w.heap.size ≤ b) y l ∧ l.length ≤ c2) ∧ Below w.heap.size w w' := by
  have hr : kWd.row (w.alloc (.cells #[] 34)) S (some a) l := kWd.row_mono (by decide) h fun k hk hlt => ⟨hk, heap_alloc_old w _ hlt⟩
  obtain ⟨cs, hlay, hsrc⟩ := kWd.src (c := c) (tx := 33) Try.underlying33 hr
  have HL : Hid (kWd.lay (w.alloc (.cells #[] 34)) S cs l) := hlay
  clear hlay hr
  have hq := fun w => Lib.run_eql_slice_nil (P := Try.prog) w 33 _ (some a) l.length c 0 0 Try.underlying33
  have hof := own_fresh w w.heap.size 34 1 (Nat.le_refl _)
  go_enter Try.func28, Try.ntmps28
  go_wp2_with (first | (at_builtin; refine wpList_append_src wd_info rfl Try.underlying33 (by decide) _ rfl _ _ rfl w.heap.size (Value.slice (some ⟨w.heap.size, 0, none⟩) 0 0) 0 [] rfl hof _ l.length cs rfl hsrc (by omega) (by simp) ?_; intro y c2 w2 hown hgrow hat; refine Hid.out ?_) | go_in)
  refine Lib.hid ?_
  have hown' : w2.ownsRow w.heap.size 34 1 (.slice y l.length c2) l.length cs := by simpa using hown
  have hb2 : Below w.heap.size w w2 := by
    refine Kept.to_below ((Kept.alloc w _ (fun k => w.heap.size ≤ k)).trans ((Kept.of_grown hgrow).mono fun k _ hk => ?_)) fun k hk => hk
    have : w.heap.size = k := by simpa [Value.ownBlock] using hk
    omega
  have hrd := kWd.own_rd (t := 34) (S := fun b => w.heap.size ≤ b) (T := fun b => w.heap.size ≤ b) (l := l) (v := .slice y l.length c2) ⟨cs, hown', wd_lay_any HL.out⟩ (fun _ h => h) fun g hg => (World.ownsRow.lt hown' g hg).1
  obtain ⟨y', c', e, hrow, hc⟩ := hrd
  obtain ⟨rfl, rfl⟩ : y = y' ∧ c2 = c' := by injection e with e1 e2 e3; exact ⟨e1, e3⟩
  have HR : Hid _ := hrow
  clear hown hgrow hat hown' hrow e
  go_wp2
  go_ret
  exact ⟨⟨y, c2, by simp, HR.out, hc⟩, hb2⟩
/-- Three results, the first out of its block. -/
theorem results_row3 {fn : Func} {tmps : Array Value} {W : World} {b K U V : Nat} {ty : TypeId} {cs : Array Value} {u x : Value} (hr : fn.results = #[ResultVar.cell K ty, ResultVar.tmp U, ResultVar.tmp V]) (ht : tmps.getD K undef = .pointer (some ⟨b, 0, none⟩)) (hu : tmps.getD U undef = u) (hx : tmps.getD V undef = x)
    (hl : (loadVar ty ⟨b, 0, none⟩).run Try.prog W = .ok (.agg cs) W) : (results fn tmps).run Try.prog W = .ok (.tuple #[.agg cs, u, x]) W := by
  simp only [Array.getD_eq_getD_getElem?] at ht hu hx
  simp only [results, hr]
  simp [ht, hu, hx, asAddr, hl]
theorem size_out : (Try.prog.info? 36).map (·.size) = some 2 := by kernel_rfl
theorem load_out {W : World} {b : Nat} {cs : Array Value} {t : TypeId} {f : Nat × Nat} (h : W.heap[b]? = some (.cells cs t f)) (hs : cs.size = 2) : (loadVar 36 ⟨b, 0, none⟩).run Try.prog W = .ok (.agg cs) W :=
  run_loadVar_row W b t 36 cs f _ h Try.underlying36 rfl (by rw [hs]; exact size_out)
end Go.Proofs.Ytmglmbeconndhaa
