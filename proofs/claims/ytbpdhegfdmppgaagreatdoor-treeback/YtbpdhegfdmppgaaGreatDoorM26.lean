/- Texts of this proof, put together: SEachS. -/
import Derived.Test.YtbpdhegfdmppgaaGreatDoorM20
import Derived.Test.YtbpdhegfdmppgaaGreatDoorM19
import Derived.Laws.Rows
import Derived.Deep.MidRow

/- CONTRACT of each at statements, where stmtNode's holds of them. -/
namespace Go.Proofs.YtbpdhegfdmppgaaGreatDoor.Sh
open Go.ChangeShapes Go.WideShapes Go.ChangeAt Go.RowKit

theorem info_stmt : (Tryz.prog.info? 110).map (·.size) = some 18 := by kernel_rfl
abbrev zS : Array Value := #[.int .i64 0, .string ⟨#[]⟩, .bool false, .int .i64 0, .int .i64 0, .int .i64 0, .int .i64 0, .int .u32 0, .int .i64 0, .string ⟨#[]⟩, .slice none 0 0, .int .i64 0, .int .u32 0, .int .i64 0, .string ⟨#[]⟩, .slice none 0 0, .slice none 0 0, .slice none 0 0]
set_option maxRecDepth 100000 in
set_option maxHeartbeats 2000000 in
theorem eachS_any {B : Nat} {S : Nat → Prop} (w : World) (a : Option Addr) (l : List Sm) (c : Nat) (h : kSm.row w S a l) (hl : l.length ≤ 1000000) (hg : Glob B w)
    (hf : ∀ x ∈ l, ∀ (S' : Nat → Prop) (w1 : World) (v : Value), Glob B w1 → SmV w1 S' v x → Calls Tryz.prog 89 #[v] w1 (Shows NdV w1 (shS x))) :
    Calls Tryz.prog 88 #[.slice a l.length c, .func (.func 89) #[] #[]] w (Shows kNd.rd w (eachO shS l)) := by
  go_enter Tryz.func88, Tryz.ntmps88
  go_wp2_with fail
  go_loopw [5, 10] (fun v i wr => ∃ (k : Nat) (acc : List Nd), k ≤ l.length ∧ i = .int .i64 k ∧ eachO shS (l.take k) = some acc ∧ Nds w wr v acc) (fun _ i _ => l.length - (intOf i).toNat)
  case atStart => exact ⟨0, [], Nat.zero_le _, rfl, rfl, Nds.start w⟩
  case round =>
    obtain ⟨k, acc, hk, rfl, hacc, hN⟩ := hrel
    obtain ⟨y0, c0, rfl⟩ := kNd.own_form hN.1
    have hal : acc.length ≤ 1000000 := by have := eachO_len shS _ _ hacc; rw [this, List.length_take]; omega
    have HN : Hid (Nds w wr (.slice y0 acc.length c0) acc) := hN
    have HA : Hid (eachO shS (l.take k) = some acc) := hacc
    have hbl := hN.2
    have hsz := hbl.size
    clear hN hacc
    by_cases hlt : k < l.length
    · obtain ⟨b, o, cs, rfl, hSb, hcs, hC⟩ := kSm.row_at h k l[k] (List.getElem?_eq_getElem hlt)
      have hC : smC w S cs l[k] := hC
      have hcl := smC_len hC
      have hb : b < w.heap.size := World.block_lt_of_cell? w _ (hcs 0 cs[0] (List.getElem?_eq_getElem (by omega)))
      have hra : wr.rangeAt b (o + k * 18) cs := fun j v hj => (hbl.cell (p := ⟨b, o + k * 18 + j, none⟩) hb).trans (hcs j v hj)
      have hone : cs.toArray.all (·.oneCell') = true := by rw [List.all_toArray, List.all_eq_true]; exact smC_one hC
      obtain ⟨w1, hw1⟩ : ∃ w1, w1 = (wr.alloc (.cells zS 110)).setRow wr.heap.size cs.toArray := ⟨_, rfl⟩
      have hx1 : w1.heap[wr.heap.size]? = some (.cells cs.toArray 110 (0, 0)) := by rw [hw1]; exact setRow_at (heap_alloc_new wr _)
      have hb1 : Below wr.heap.size wr w1 := by rw [hw1]; exact Kept.to_below (setRow_kept _ (Kept.alloc wr _ (fun _ => False)) (Nat.le_refl _)) (fun _ h => h.elim)
      have hz1 : w1.heap.size = wr.heap.size + 1 := by rw [hw1]; simp [World.setRow]
      have hi18 : (Tryz.prog.info? 110).map (·.size) = some cs.length := by rw [hcl]; exact info_stmt
      have hia : (Tryz.prog.info? 110).map (·.size) = some cs.toArray.size := by simpa using hi18
      have hzs : zS.size = cs.toArray.size := by show 18 = _; rw [List.size_toArray, hcl]
      have HW1 : Hid (w1 = (wr.alloc (.cells zS 110)).setRow wr.heap.size cs.toArray) := hw1
      clear hw1
      have hk0 : (0 : Int) ≤ (k : Int) := by omega
      have hk1 : (k : Int) < (l.length : Int) := by omega
      have hc := hf l[k] (List.getElem_mem hlt) (fun b => S b ∧ b < w.heap.size) w1 (.agg cs.toArray) (hg.below (bl_then hbl hb1)) ⟨cs, rfl, smC_mono (fun i hi hlt => ⟨⟨hi, hlt⟩, by rw [hb1.block i (by omega)]; exact hbl.block i hlt⟩) hC⟩
      have HT : Hid (eachO shS (l.take (k + 1)) = (eachO shS (l.take k)).bind fun ys => (shS l[k]).map fun y => ys ++ [y]) := eachO_take shS l k hlt
      have HM : Hid (l[k] ∈ l) := List.getElem_mem hlt
      clear hf hC hcs
      generalize l[k] = x at hc HT HM
      cases hsx : shS x with
      | none =>
        rw [hsx] at hc
        have HF : Hid (eachO shS l = none) := eachO_none shS l x HM.out hsx
        clear hsx HT
        go_wp2_with (first | (refine wpList_load_mid rfl 110 (.tmp 12) rfl b (o + k * 18) rfl cs _ hra Tryz.underlying110 rfl hi18 ?_) | (refine wpList_store_row rfl 110 (.tmp 7) _ rfl wr.heap.size cs.toArray rfl rfl 110 zS (heap_alloc_new wr _) hia hzs hone ?_; rw [← HW1.out]) | (refine wpList_load_row rfl 110 (.tmp 7) rfl wr.heap.size rfl 110 cs.toArray (0, 0) _ hx1 Tryz.underlying110 rfl hia ?_) | (go_at_call 89; refine hc.mono ?_; rintro e w2 hG; obtain rfl := hG.bad rfl))
        exact ⟨rfl, .ofBad HF.out (bl_then (bl_then hbl hb1) hG.below)⟩
      | some z =>
        rw [hsx] at hc
        have HS : Hid (eachO shS (l.take (k + 1)) = some (acc ++ [z])) := by show _ = _; rw [HT.out, HA.out, hsx]; rfl
        clear hsx HT
        obtain ⟨il, wd, ks, p⟩ := z
        go_wp2_with (first | (refine wpList_load_mid rfl 110 (.tmp 12) rfl b (o + k * 18) rfl cs _ hra Tryz.underlying110 rfl hi18 ?_) | (refine wpList_store_row rfl 110 (.tmp 7) _ rfl wr.heap.size cs.toArray rfl rfl 110 zS (heap_alloc_new wr _) hia hzs hone ?_; rw [← HW1.out]) | (refine wpList_load_row rfl 110 (.tmp 7) rfl wr.heap.size rfl 110 cs.toArray (0, 0) _ hx1 Tryz.underlying110 rfl hia ?_) | (go_at_call 89; refine hc.mono ?_; rintro e w2 hG; obtain ⟨v2, rfl, a2, c2, rfl, hc2, hr2⟩ := hG.ok _ rfl; refine Hid.out ?_))
        refine Lib.hid ?_
        have hb2 : Below wr.heap.size wr w2 := bl_then hb1 hG.below
        have hN2 := HN.out.on hb2
        have hz2 := hb2.size
        obtain ⟨⟨xs, hown, hlay⟩, hbl2⟩ := hN2
        have HLT : Hid (∀ g, (Value.slice y0 acc.length c0).ownBlock = some g → w.heap.size ≤ g ∧ g < wr.heap.size) := kNd.own_lt HN.out.1
        have HC : Hid (kNd.C w2 (fun b => wr.heap.size ≤ b) [.bool il, .string (bs wd), .slice a2 ks.length c2, .int .i64 p] (.mk il wd ks p)) := by
          show ndC _ _ _ _
          rw [ndC]
          exact ⟨a2, c2, rfl, hc2, (ndR_row _ _ _ _).2 (kNd.row_mono (by decide) hr2 fun i hi _ => ⟨by have : w1.heap.size ≤ i := hi; omega, rfl⟩)⟩
        have HLAY : Hid (kNd.lay w2 (Own w.heap.size (.slice y0 acc.length c0)) xs acc) := hlay
        have HB2 : Hid (Below w.heap.size w w2) := hbl2
        have hsrc := src_blk w2 23 66 Tryz.underlying23 w2.heap.size 4 [.bool il, .string (bs wd), .slice a2 ks.length c2, .int .i64 p] rfl rfl (by simp [Value.oneCell'])
        have hown' : (w2.alloc (.cells #[.bool il, .string (bs wd), .slice a2 ks.length c2, .int .i64 p] 66)).ownsRow w.heap.size 66 4 (.slice y0 acc.length c0) acc.length xs := own_kept hown (Kept.alloc w2 _ (fun _ => False)) (fun _ _ h => h)
        clear hG hc hlay hown hbl2 hb2 hr2
        go_wp2_with (first | (at_builtin; refine wpList_append_src nd_info rfl Tryz.underlying23 (by decide) _ rfl _ _ rfl w.heap.size (Value.slice y0 acc.length c0) acc.length xs rfl hown' _ 1 [.bool il, .string (bs wd), .slice a2 ks.length c2, .int .i64 p] rfl hsrc (by omega) (by simp; omega) ?_; intro y3 c3 w3 hown3 hgrow3 hat3; refine Hid.out ?_) | go_in)
        refine Lib.hid ?_
        have HN3 : Hid (Nds w w3 (.slice y3 (acc.length + 1) c3) (acc ++ [.mk il wd ks p])) := Nds.app HB2.out HLAY.out HLT.out HC.out hsz hown3 hgrow3 hat3
        clear hown3 hgrow3 hat3 hsrc hown'
        go_wp2_with fail
        go_roundw
        case rel => exact ⟨k + 1, acc ++ [.mk il wd ks p], by omega, by go_num, HS.out, HN3.out⟩
        case measure => simp [intOf]; omega
    · have htk : l.take k = l := List.take_of_length_le (by omega)
      rw [htk] at HA
      go_wp2_with fail
      go_ret
      exact .ofOk HA.out hbl HN.out.rd
end Go.Proofs.YtbpdhegfdmppgaaGreatDoor.Sh
