/- CONTRACT of values. -/
import Derived.Test.YtndmkfmpdnoliaaIDeed1
import Derived.Test.YtndmkfmpdnoliaaIApp
namespace Go.Proofs.Ytndmkfmpdnoliaa
open Go.ChangeShapes Go.WideShapes Go.ChangeAt Go.RowKit

theorem wd_lay {w : World} {S : Nat → Prop} : ∀ l : List Nat, (∀ n ∈ l, n < 4294967296) → kWd.lay w S (l.map wv) l
  | [], _ => rfl
  | x :: l, h => ⟨[wv x], l.map wv, rfl, ⟨rfl, h x (by simp)⟩, wd_lay l fun n hn => h n (by simp [hn])⟩
theorem src_wd (w : World) (u : Nat) : Src Try.prog 1 23 (.slice (some ⟨w.heap.size, 0, none⟩) 1 1) 1 [.int .u32 (u : Int)] (w.alloc (.cells #[.int .u32 (u : Int)] 26)) := by
  have h := heap_alloc_new w (.cells #[.int .u32 (u : Int)] 26)
  refine Src.ofSlice _ Try.underlying23 ⟨w.heap.size, 0, none⟩ 1 1 [.int .u32 (u : Int)] (by simp) (fun j z hj => ?_) (fun z hz => ?_)
  · rcases j with _ | j
    · have : z = .int .u32 (u : Int) := by simpa using hj.symm
      subst this
      have e : (⟨w.heap.size, 0, none⟩ : Addr).add 0 = ⟨w.heap.size, 0, none⟩ := by unfold Addr.add; split <;> simp_all
      rw [e]
      simp only [World.cell?, h]
      rfl
    · simp at hj
  · have : z = .int .u32 (u : Int) := by simpa using hz
    subst this
    rfl
theorem vals_take (rg : List Nat) (l : List Int) (k : Nat) (hk : k < l.length) : ((l.take (k + 1)).map (at0 rg)).map wv = ((l.take k).map (at0 rg)).map wv ++ [wv (at0 rg l[k])] := by
  rw [List.take_add_one, List.getElem?_eq_getElem hk, List.map_append, List.map_append]; rfl
set_option maxRecDepth 100000 in
set_option maxHeartbeats 2000000 in
theorem values_any {R F G C : Nat} {fr : Fr} {S : Nat → Prop} (a : Option Addr) (c : Nat) (l : List Int) (w : World) (h : FrM w R F G C fr) (hr : kInt.row w S a l) (hl : l.length ≤ 1000000) (hin : ∀ i ∈ l, 0 ≤ i ∧ i < fr.regs.length) :
    Calls Try.prog 74 #[.pointer (some ⟨F, 0, none⟩), .slice a l.length c] w fun e w' => (∃ v, e = .returned v ∧ kWd.rd w' (fun b => w.heap.size ≤ b) v (l.map (at0 fr.regs))) ∧ Below w.heap.size w w' := by
  obtain ⟨rg, cl, nx, en, rs⟩ := fr
  simp only at *
  obtain ⟨f0, f1, f2, f3, f4, f5⟩ := h.cells6
  simp only at f1
  have hFl := lt_of_some h.f
  have hGl := lt_of_some h.g
  have HG : Hid _ := h.g
  have HRg : Hid (∀ n ∈ rg, n < 4294967296) := h.regs
  clear f0 f2 f3 f4 f5 h
  go_enter Try.func74, Try.ntmps74
  go_wp2
  go_loopw [5, 10] (fun v i wr => ∃ k : Nat, k ≤ l.length ∧ i = .int .i64 k ∧ wr.ownsRow w.heap.size 26 1 v k (((l.take k).map (at0 rg)).map wv) ∧ Below w.heap.size w wr) (fun _ i _ => l.length - (intOf i).toNat)
  case atStart => exact ⟨0, Nat.zero_le _, rfl, World.ownsRow_nil _ _ _ _, Below.refl _ _⟩
  case round =>
    obtain ⟨k, hk, rfl, hown, hbl⟩ := hrel
    rename_i u5 _
    have HO : Hid (wr.ownsRow w.heap.size 26 1 u5 k (((l.take k).map (at0 rg)).map wv)) := hown
    have HB : Hid (Below w.heap.size w wr) := hbl
    clear hown
    by_cases hlt : k < l.length
    · obtain ⟨b, o, rfl, hS, hb, h0⟩ := int_at hr k hlt
      obtain ⟨q, hq⟩ : ∃ q : Nat, l[k] = q := ⟨l[k].toNat, by have := hin _ (List.getElem_mem hlt); omega⟩
      have hql : q < rg.length := by have := (hin _ (List.getElem_mem hlt)).2; omega
      have e0 := (hbl.cell (p := ⟨b, o + k, none⟩) hb).trans h0
      have e1 := (hbl.cell (p := ⟨F, 1, none⟩) hFl).trans f1
      have e2 := (hbl.cell (p := ⟨G, q, none⟩) hGl).trans (row_cell HG.out hql)
      have i0 : (0 : Int) ≤ (q : Int) := by omega
      have i1 : (q : Int) < (rg.length : Int) := by omega
      have HV : Hid (((l.take (k + 1)).map (at0 rg)).map wv = ((l.take k).map (at0 rg)).map wv ++ [.int .u32 (rg[q] : Int)]) := by show _ = _; rw [vals_take rg l k hlt, hq, at0_lt hql]; rfl
      rw [hq] at e0
      have hsw := hbl.size
      clear h0 hbl
      have hownA : (wr.alloc (.cells #[.int .u32 (rg[q] : Int)] 26)).ownsRow w.heap.size 26 1 u5 k (((l.take k).map (at0 rg)).map wv) := own_kept HO.out (Kept.alloc wr _ (fun _ => False)) (fun _ _ e => e)
      have hsrcA := src_wd wr rg[q]
      go_wp2_with (first | (at_builtin; refine wpList_append_src wd_info rfl Try.underlying23 (by decide) _ rfl _ _ rfl w.heap.size u5 k _ rfl hownA _ 1 [.int .u32 (rg[q] : Int)] rfl hsrcA (by omega) (by simp; omega) ?_; intro y c2 w3 hown3 hgrow hat; refine Hid.out ?_) | go_in)
      refine Lib.hid ?_
      have HO3 : Hid _ := hown3
      have HB3 : Hid (Below w.heap.size w w3) := by
        have hk3 := Kept.of_grown hgrow
        refine Kept.to_below ((Below.kept (bl_alloc HB.out (.cells #[.int .u32 (rg[q] : Int)] 26)) (fun i => w.heap.size ≤ i)).trans (hk3.mono fun i _ e => ?_)) fun i hi => hi
        exact (World.ownsRow.lt HO.out i e).1
      clear hown3 hgrow hat hownA hsrcA
      go_wp2_with fail
      go_roundw
      case rel => exact ⟨k + 1, by omega, by go_num, by rw [HV.out]; exact HO3.out, HB3.out⟩
      case measure => simp [intOf]; omega
    · obtain rfl : k = l.length := by omega
      have hx : wr.ownsRow w.heap.size 26 1 u5 l.length ((l.map (at0 rg)).map wv) := by have := HO.out; rwa [List.take_length] at this
      have hbd : ∀ n ∈ l.map (at0 rg), n < 4294967296 := fun n hn => by
        obtain ⟨i, hi, rfl⟩ := List.mem_map.1 hn
        unfold at0
        rw [List.getD_eq_getElem?_getD]
        cases hh : rg[i.toNat]? with
        | none => decide
        | some z => exact HRg.out z (List.mem_of_getElem? hh)
      have hrd : kWd.rd wr (fun b => w.heap.size ≤ b) u5 (l.map (at0 rg)) := kWd.own_rd (t := 26) (S := fun b => w.heap.size ≤ b) ⟨_, by rw [List.length_map]; exact hx, wd_lay _ hbd⟩ (fun _ h => h) fun g hg => (World.ownsRow.lt hx g hg).1
      have HRD : Hid _ := hrd
      clear hrd hx hbd HO
      go_wp2_with fail
      go_ret
      exact ⟨⟨_, rfl, HRD.out⟩, HB.out⟩
end Go.Proofs.Ytndmkfmpdnoliaa
