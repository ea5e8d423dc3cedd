/- THE WALK of FaceFind. -/
import Derived.Test.YtkhlkemngejfeaaDoorFBackW
namespace Go.Proofs.YtkhlkemngejfeaaDoor
open Go.ChangeShapes Go.WideShapes Go.ChangeAt Go.RowKit Go.Shelf

theorem bl_drew {a b : World} (h : Below a.heap.size a b) : Below a.heap.size a b.drew := bl_then h ⟨rfl, rfl, rfl, Nat.le_refl _, fun _ _ => rfl⟩

set_option maxRecDepth 100000 in
set_option maxHeartbeats 2000000 in
theorem faceFind_walk {B : Nat} {S : Nat → Prop} (w : World) (a : Option Addr) (l : List Sg) (c : Nat) (nm : List UInt8) (h : kSg.row w S a l) (hlc : l.length ≤ c) (hg : Glob B w) :
    Calls Tryd.prog 9 #[.slice a l.length c, .string (bs nm)] w fun e w' => e = .returned (.bool true) ∧ Below w.heap.size w w' := by
  have ha := awake_any w hg
  rcases hlb : lightB l with _ | _
  · go_enter Tryd.func9, Tryd.ntmps9
    go_wp2_with (first | (go_at_call 10; refine ha.mono ?_; rintro e w1 ⟨rfl, hb1⟩; have hli := light_any w1 a l c (kSg.row_mono (T := S) (by decide) h fun b hb hlt => ⟨hb, hb1.block b hlt⟩); rw [hlb] at hli) | (go_at_call 17; refine hli.mono ?_; rintro e w2 ⟨rfl, hb2⟩))
    go_ret
    exact ⟨rfl, bl_then hb1 hb2⟩
  · obtain ⟨hl1, hl2⟩ := light_parts hlb
    by_cases hn : 200 < nm.length
    · have hn' : (200 : Int) < ((bs nm).size : Int) := by rw [bs_size]; omega
      go_enter Tryd.func9, Tryd.ntmps9
      go_wp2_with (first | (go_at_call 10; refine ha.mono ?_; rintro e w1 ⟨rfl, hb1⟩; have hli := light_any w1 a l c (kSg.row_mono (T := S) (by decide) h fun b hb hlt => ⟨hb, hb1.block b hlt⟩); rw [hlb] at hli) | (go_at_call 17; refine hli.mono ?_; rintro e w2 ⟨rfl, hb2⟩))
      go_ret
      exact ⟨rfl, bl_then hb1 hb2⟩
    · have hn' : ¬ (200 : Int) < ((bs nm).size : Int) := by rw [bs_size]; omega
      go_enter Tryd.func9, Tryd.ntmps9
      go_wp2_with (first | (go_at_call 10; refine ha.mono ?_; rintro e w1 ⟨rfl, hb1⟩; have hli := light_any w1 a l c (kSg.row_mono (T := S) (by decide) h fun b hb hlt => ⟨hb, hb1.block b hlt⟩); rw [hlb] at hli) | (go_at_call 17; refine hli.mono ?_; rintro e w2 ⟨rfl, hb2⟩; have hb12 := bl_then hb1 hb2; have hfd := find_any w2 a l c nm (kSg.row_mono (T := S) (by decide) h fun b hb hlt => ⟨hb, hb12.block b hlt⟩) (by omega) (fun x hx => by have := (hl2 x hx).2; omega)) | (go_at_call 15; refine hfd.mono ?_; rintro e w3 ⟨⟨v, rfl, hsg⟩, hb3⟩; obtain ⟨xa, xc, rfl, hxc, hxr⟩ := hsg; have hb13 := bl_then hb12 hb3))
      have HF : Hid (∀ k (hk : k < l.length), findR l nm = findR (l.drop k) nm → l[k].name = nm → findR l nm = some l[k]) := fun k hk h1 h2 => by rw [h1, findR_drop l nm k hk, if_pos h2]
      have HX : Hid (∀ y, findR l nm = some y → (findR l nm).getD noSg = y ∧ (findR l nm).isSome = true) := fun y hy => by rw [hy]; exact ⟨rfl, rfl⟩
      have HN : Hid (findR l nm = none → (findR l nm).getD noSg = noSg ∧ (findR l nm).isSome = false) := fun hy => by rw [hy]; exact ⟨rfl, rfl⟩
      generalize (findR l nm).getD noSg = x at HX HN hxr hxc
      generalize (findR l nm).isSome = is at HX HN
      have HXR : Hid (kTy.row w3 (fun b => w2.heap.size ≤ b) xa x.ps) := hxr
      have HB3 : Hid (Below w.heap.size w w3) := hb13
      have HL : Hid (∀ y ∈ l, y.name.length ≤ 200 ∧ y.ps.length ≤ 50) := hl2
      clear hxr ha hb12 hb13 hb1 hb2 hb3 hlb hl2
      go_loopw [9] (fun i wr => ∃ k : Nat, k ≤ l.length ∧ i = .int .i64 k ∧ findR l nm = findR (l.drop k) nm ∧ Kept (fun _ => False) (w3.alloc (Obj.cells #[Value.string (bs x.name), Value.slice xa x.ps.length xc, Value.bool x.sec] 33)) wr) (fun i _ => l.length - (intOf i).toNat)
      case atStart => exact ⟨0, Nat.zero_le _, rfl, rfl, Kept.refl _ _⟩
      case round =>
        obtain ⟨k, hk, rfl, hq, hkp⟩ := hrel
        have HQ : Hid (findR l nm = findR (l.drop k) nm) := hq
        have HK : Hid (Kept (fun _ => False) (w3.alloc (Obj.cells #[Value.string (bs x.name), Value.slice xa x.ps.length xc, Value.bool x.sec] 33)) wr) := hkp
        have HBW : Hid (Below w.heap.size w wr) := bl_then (bl_alloc HB3.out _) (Kept.to_below hkp fun _ h => h.elim)
        have hxs : wr.heap[w3.heap.size]? = some (Obj.cells #[Value.string (bs x.name), Value.slice xa x.ps.length xc, Value.bool x.sec] 33) := by
          rw [hkp.block _ (by simp) (fun h => h)]; exact heap_alloc_new w3 _
        have hxl : w3.heap.size < wr.heap.size := lt_of_some hxs
        obtain ⟨x0, x1, x2, xf0, xf1, xf2⟩ := cells3 hxs
        clear hq hkp
        by_cases hlt : k < l.length
        · obtain ⟨b, o, pa, pc, rfl, hSb, hb, h0, h1, h2, hpc, hrow⟩ := sg_at h k hlt
          have e0 := (HBW.out.cell (p := ⟨b, o + k * 3, none⟩) hb).trans h0
          have e1 := (HBW.out.cell (p := ⟨b, o + k * 3 + 1, none⟩) hb).trans h1
          have e2 := (HBW.out.cell (p := ⟨b, o + k * 3 + 2, none⟩) hb).trans h2
          by_cases hnm : l[k].name = nm
          · have heq : ((bs l[k].name).toList == (bs nm).toList) = true := by rw [bs_tl, bs_tl]; simpa using hnm
            obtain ⟨hx, his⟩ := HX.out _ (HF.out k hlt HQ.out hnm)
            subst hx his
            have hlk := HL.out _ (List.getElem_mem hlt)
            clear hnm
            have hkc : k < c := by omega
            have hrx : kSg.row (wr.alloc (Obj.cells #[Value.string (bs l[k].name), Value.slice xa l[k].ps.length xc, Value.bool l[k].sec] 33)).drew (fun _ => True) (some ⟨wr.heap.size, 0, none⟩) [l[k]] := by
              refine ⟨wr.heap.size, 0, [.string (bs l[k].name), .slice xa l[k].ps.length xc, .bool l[k].sec], rfl, trivial, fun j u hj => ?_, ⟨xa, xc, rfl, hxc, kTy.row_mono (by decide) HXR.out fun i hi hl2 => ⟨trivial, ?_⟩⟩, trivial⟩
              · exact cells_of (cs := [.string (bs l[k].name), .slice xa l[k].ps.length xc, .bool l[k].sec]) (t := 33) (f := (0, 0)) (w := (wr.alloc (Obj.cells #[Value.string (bs l[k].name), Value.slice xa l[k].ps.length xc, Value.bool l[k].sec] 33)).drew) (heap_alloc_new wr _) j u hj
              · show (wr.alloc _).heap[i]? = _
                rw [heap_alloc_old wr _ (by omega), HK.out.block i (by simp; omega) (fun h => h), heap_alloc_old w3 _ hl2]
            have hrl : kSg.row (wr.alloc (Obj.cells #[Value.string (bs l[k].name), Value.slice xa l[k].ps.length xc, Value.bool l[k].sec] 33)).drew (fun _ => True) (some ⟨b, o + k * 3, none⟩) [l[k]] := by
              have hbz := HBW.out.size
              refine ⟨b, o + k * 3, [.string (bs l[k].name), .slice pa l[k].ps.length pc, .bool l[k].sec], rfl, trivial, fun j u hj => ?_, ⟨pa, pc, rfl, hpc, kTy.row_mono (by decide) hrow fun i hi hl2 => ⟨trivial, ?_⟩⟩, trivial⟩
              · have hold : ∀ (y : Nat) (z : Value), w.cell? ⟨b, y, none⟩ = some z → (wr.alloc (Obj.cells #[Value.string (bs l[k].name), Value.slice xa l[k].ps.length xc, Value.bool l[k].sec] 33)).drew.cell? ⟨b, y, none⟩ = some z := fun y z hz => alloc_cell _ ((HBW.out.cell (p := ⟨b, y, none⟩) hb).trans hz)
                match j, hj with
                | 0, hj => cases hj; exact hold _ _ h0
                | 1, hj => cases hj; exact hold _ _ h1
                | 2, hj => cases hj; exact hold _ _ h2
                | j + 3, hj => simp at hj
              · show (wr.alloc _).heap[i]? = _
                rw [heap_alloc_old wr _ (by omega), HBW.out.block i hl2]
            have hsm := same_refl _ _ _ [l[k]] 1 (c - k) hrx hrl (by simp) (by intro y hy; rw [List.mem_singleton.1 hy]; omega)
            clear h0 h1 h2 hrow hrx hrl
            have hwk : IntKind.i64.wrap ((k : Int) + 1) = (k : Int) + 1 := by rw [IntKind.wrap_i64]; omega
            have hk0 : (0 : Int) ≤ (k : Int) := by omega
            have hk1 : (k : Int) ≤ (k : Int) + 1 := by omega
            have hk2 : (k : Int) + 1 ≤ (c : Int) := by omega
            go_wp2_with fail
            go_region_law ((refine step_call rfl 14 _ _ rfl #[.slice (some ⟨wr.heap.size, 0, none⟩) 1 1, .slice (some ⟨b, o + k * 3, none⟩) 1 (c - k)] (by simp [go_sem, Act.eval]; intro hck; omega) ?_; refine hsm.mono ?_; rintro e w5 ⟨rfl, hb5⟩))
            all_goals go_wp2_with fail
            all_goals go_ret
            all_goals exact ⟨rfl, bl_then (bl_drew (bl_alloc HBW.out _)) hb5⟩
          · have hne : ((bs l[k].name).toList == (bs nm).toList) = false := by rw [bs_tl, bs_tl]; simpa using hnm
            go_wp2_with fail
            go_roundw
            case rel => exact ⟨k + 1, by omega, by go_num, by rw [HQ.out, findR_drop l nm k hlt, if_neg hnm], HK.out⟩
            case measure => simp [intOf]; omega
        · obtain ⟨hx, his⟩ := HN.out (by rw [HQ.out, List.drop_of_length_le (by omega)]; rfl)
          subst hx his
          have hem : (bs noSg.name).toList.isEmpty = true := by rw [bs_tl]; rfl
          have hps : noSg.ps.length = 0 := rfl
          go_wp2_with fail
          go_ret
          exact ⟨rfl, HBW.out⟩
end Go.Proofs.YtkhlkemngejfeaaDoor
