/- CONTRACT of types: parameters without their names. -/
import Derived.Test.YtlagadofiahijaaDoorFSame
import Derived.Test.YtlagadofiahijaaDoorSFuAt
import Derived.Test.YtlagadofiahijaaDoorFApp
import Derived.Deep.QuietTactic
import Derived.Deep.CutBlock
namespace Go.Proofs.YtlagadofiahijaaDoor
open Go.ChangeShapes Go.WideShapes Go.ChangeAt Go.RowKit

def tysL (l : List Sh.Pa) : List Ty := l.map fun p => ⟨p.sec, p.len⟩
theorem tysL_len (l : List Sh.Pa) : (tysL l).length = l.length := by simp [tysL]
theorem tysL_take (l : List Sh.Pa) (k : Nat) (hk : k < l.length) : tysL (l.take (k + 1)) = tysL (l.take k) ++ [⟨l[k].sec, l[k].len⟩] := by
  unfold tysL
  rw [List.take_succ_eq_append_getElem hk, List.map_append]
  rfl
theorem pa_at {w : World} {S : Nat → Prop} {a : Option Addr} {l : List Sh.Pa} (h : Sh.kPa.row w S a l) (i : Nat) (hi : i < l.length) : ∃ b q, a = some ⟨b, q, none⟩ ∧ b < w.heap.size ∧ w.cell? ⟨b, q + i * 3, none⟩ = some (.string (bs l[i].name)) ∧ w.cell? ⟨b, q + i * 3 + 1, none⟩ = some (.bool l[i].sec) ∧ w.cell? ⟨b, q + i * 3 + 2, none⟩ = some (.int .i64 l[i].len) := by
  obtain ⟨b, q, cs, rfl, hS, hc, hC⟩ := Sh.kPa.row_at h i l[i] (List.getElem?_eq_getElem hi)
  have hC' : cs = _ := hC
  subst hC'
  have h0 := hc 0 _ rfl
  exact ⟨b, q, rfl, World.block_lt_of_cell? w _ h0, h0, hc 1 _ rfl, hc 2 _ rfl⟩
theorem src_ty (w : World) (s : Bool) (n : Int) : Src Tryd.prog 2 31 (.slice (some ⟨w.heap.size, 0, none⟩) 1 1) 1 [.bool s, .int .i64 n] (w.alloc (.cells #[.bool s, .int .i64 n] 38)) :=
  Src.ofSlice _ Tryd.underlying31 ⟨w.heap.size, 0, none⟩ 1 1 [.bool s, .int .i64 n] rfl (World.news_of_block (cs := #[.bool s, .int .i64 n]) (t := 38) (fr := (0, 0)) (heap_alloc_new w _)) (by simp [Value.oneCell'])
theorem ty_lay' {W W' : World} {S T : Nat → Prop} : ∀ {l : List Ty} {cs : List Value}, kTy.lay W S cs l → kTy.lay W' T cs l
  | [], _, h => h
  | y :: l, _, h => by
    obtain ⟨c1, ys, rfl, hC, hr⟩ := h
    exact ⟨c1, ys, rfl, hC, ty_lay' hr⟩
set_option maxRecDepth 100000 in
set_option maxHeartbeats 2000000 in
theorem types_any {S : Nat → Prop} (w : World) (a : Option Addr) (l : List Sh.Pa) (c : Nat) (h : Sh.kPa.row w S a l) (hl : l.length ≤ 1000000) :
    Calls Tryd.prog 15 #[.slice a l.length c] w fun e w' => (∃ v, e = .returned v ∧ kTy.rd w' (fun b => w.heap.size ≤ b) v (tysL l)) ∧ Below w.heap.size w w' := by
  go_enter Tryd.func15, Tryd.ntmps15
  go_upto_region 3 with fail
  go_loopw [3, 8] (fun v i wr => ∃ (k : Nat) (y : Option Addr) (cc : Nat) (xs : List Value), k ≤ l.length ∧ i = .int .i64 k ∧ v = .slice y k cc ∧ wr.ownsRow w.heap.size 38 2 (.slice y k cc) k xs ∧ kTy.lay w (fun _ => True) xs (tysL (l.take k)) ∧ Below w.heap.size w wr) (fun _ i _ => l.length - (intOf i).toNat)
  case atStart => exact ⟨0, none, 0, [], Nat.zero_le _, rfl, rfl, World.ownsRow_nil _ _ _ _, rfl, Below.refl _ _⟩
  case round =>
    obtain ⟨k, y, cc, xs, hk, rfl, rfl, hown, hlay, hbl⟩ := hrel
    have HB : Hid _ := hbl
    have HL : Hid _ := hlay
    have HO : Hid _ := hown
    by_cases hlt : k < l.length
    · obtain ⟨b, q, rfl, hb, p0, p1, p2⟩ := pa_at h k hlt
      have e0 := (hbl.cell (p := ⟨b, q + k * 3, none⟩) hb).trans p0
      have e1 := (hbl.cell (p := ⟨b, q + k * 3 + 1, none⟩) hb).trans p1
      have e2 := (hbl.cell (p := ⟨b, q + k * 3 + 2, none⟩) hb).trans p2
      have hT := tysL_take l k hlt
      generalize l[k].name = nm at e0
      generalize l[k].sec = sc at e1 hT
      generalize l[k].len = ln at e2 hT
      have HT : Hid _ := hT
      have hk1 : (k : Int) < (l.length : Int) := by omega
      have hbb := bl_alloc (bl_alloc hbl (.cells #[.string (bs nm), .bool sc, .int .i64 ln] 55)) (.cells #[.bool sc, .int .i64 ln] 38)
      have ho2 := own_kept (own_kept hown (Below.kept (bl_alloc (Below.refl wr.heap.size wr) (.cells #[.string (bs nm), .bool sc, .int .i64 ln] 55)) (fun _ => False)) fun _ _ h => h) (Below.kept (bl_alloc (Below.refl _ (wr.alloc (.cells #[.string (bs nm), .bool sc, .int .i64 ln] 55))) (.cells #[.bool sc, .int .i64 ln] 38)) (fun _ => False)) fun _ _ h => h
      have hsrc := src_ty (wr.alloc (.cells #[.string (bs nm), .bool sc, .int .i64 ln] 55)) sc ln
      rw [show (wr.alloc (.cells #[.string (bs nm), .bool sc, .int .i64 ln] 55)).heap.size = wr.heap.size + 1 by simp] at hsrc
      have hsz : w.heap.size ≤ ((wr.alloc (.cells #[.string (bs nm), .bool sc, .int .i64 ln] 55)).alloc (.cells #[.bool sc, .int .i64 ln] 38)).heap.size := hbb.size
      have HBB : Hid _ := hbb
      have HO2 : Hid _ := ho2
      clear hbl hlay hown p0 p1 p2 hb hT hbb
      go_wp2_with (first | (at_builtin; go_loud (refine wpList_append_src ty_info rfl Tryd.underlying31 (by decide) _ rfl _ _ rfl w.heap.size (Value.slice y k cc) k xs rfl ho2 _ 1 [.bool sc, .int .i64 ln] rfl hsrc (by omega) hsz ?_; intro y2 c2 w12 hown2 hgrow2 hat2; have HB12 : Hid (Below w.heap.size w w12) := (Kept.to_below ((Below.kept HBB.out (fun k => w.heap.size ≤ k)).trans ((Kept.of_grown hgrow2).mono fun k _ e => (World.ownsRow.lt HO2.out k e).1)) fun _ h => h); have HOW2 := Lib.hid hown2; clear hown2 hgrow2 hat2)))
      go_roundw
      case rel => exact ⟨k + 1, y2, c2, _, by omega, by go_num, rfl, HOW2.out, by rw [HT.out]; exact kTy.lay_snoc (x := ⟨sc, ln⟩) rfl HL.out, HB12.out⟩
      case measure => simp [intOf]; omega
    · obtain rfl : k = l.length := by omega
      rw [List.take_length] at HL
      have hrd : kTy.rd wr (fun b => w.heap.size ≤ b) (.slice y (tysL l).length cc) (tysL l) := kTy.own_rd (t := 38) (S := fun b => w.heap.size ≤ b) ⟨xs, by rw [tysL_len]; exact hown, ty_lay' HL.out⟩ (fun _ h => h) fun g hg => (World.ownsRow.lt hown g (by rw [tysL_len] at hg; exact hg)).1
      rw [tysL_len] at hrd
      have HR : Hid _ := hrd
      clear hbl hlay hown hrd
      go_wp2_with fail
      go_ret
      exact ⟨⟨_, rfl, HR.out⟩, HB.out⟩
end Go.Proofs.YtlagadofiahijaaDoor
