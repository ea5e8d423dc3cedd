/- CONTRACTS of the statements' own Same and SameInts, at the same data that lie twice. -/
import Derived.Test.YtndmkfmpdnoliaaIParts
import Derived.Deep.Draws
import Derived.Deep.CutBlock
import Derived.Lib.Hide
namespace Go.Proofs.Ytndmkfmpdnoliaa
open Go.ChangeShapes Go.WideShapes Go.ChangeAt Go.RowKit

set_option maxRecDepth 100000 in
set_option maxHeartbeats 1000000 in
theorem sameInts_any {S T : Nat → Prop} (w : World) (a b : Option Addr) (l : List Int) (c d : Nat) (hR1 : kInt.row w S a l) (hR2 : kInt.row w T b l) (hl : l.length ≤ 1000000000) :
    Calls Try.prog 15 #[.slice a l.length c, .slice b l.length d] w fun e w' => e = .returned (.bool true) ∧ Below w.heap.size w w' := by
  go_enter Try.func15, Try.ntmps15
  go_wp2
  go_loopw [5] (fun i wr => ∃ k : Nat, k ≤ l.length ∧ i = .int .i64 k ∧ Below w.heap.size w wr) (fun i _ => l.length - (intOf i).toNat)
  case atStart => exact ⟨0, Nat.zero_le _, rfl, Below.refl _ _⟩
  case round =>
    obtain ⟨k, hk, rfl, hbl⟩ := hrel
    have HB : Hid (Below w.heap.size w wr) := hbl
    by_cases hlt : k < l.length
    · obtain ⟨b1, o1, rfl, hS1, hb1, h1⟩ := int_at hR1 k hlt
      obtain ⟨b2, o2, rfl, hS2, hb2, h2⟩ := int_at hR2 k hlt
      have e1 := (hbl.cell (p := ⟨b1, o1 + k, none⟩) hb1).trans h1
      have e2 := (hbl.cell (p := ⟨b2, o2 + k, none⟩) hb2).trans h2
      have hk0 : (0 : Int) ≤ (k : Int) := by omega
      have hk1 : (k : Int) < (l.length : Int) := by omega
      clear h1 h2 hbl
      go_wp2_with fail
      go_quiet (fail)
      go_wp2_with fail
      go_roundw
      case rel => exact ⟨k + 1, by omega, by go_num, bl_then HB.out (drewN_below _ _)⟩
      case measure => simp [intOf]; omega
    · clear hbl
      go_wp2_with fail
      go_ret
      exact ⟨rfl, HB.out⟩
theorem cells2' {w : World} {b : Nat} {x0 x1 : Value} {t : TypeId} (h : w.heap[b]? = some (.cells #[x0, x1] t)) : w.cell? ⟨b, 0, none⟩ = some x0 ∧ w.cell? ⟨b, 1, none⟩ = some x1 ∧ w.frozen? ⟨b, 0, none⟩ = false ∧ w.frozen? ⟨b, 1, none⟩ = false := by
  simp [World.cell?, World.frozen?, h]
set_option maxRecDepth 100000 in
set_option maxHeartbeats 1000000 in
theorem same_any {S T : Nat → Prop} (w : World) (r : Nat) (a b : Option Addr) (l : List Nat) (c d : Nat) (hR1 : kWd.row w S a l) (hR2 : kWd.row w T b l) (hl : l.length ≤ 1000000000) :
    Calls Try.prog 14 #[.agg #[.int .u32 (r : Int), .slice a l.length c], .agg #[.int .u32 (r : Int), .slice b l.length d]] w fun e w' => e = .returned (.bool true) ∧ Below w.heap.size w w' := by
  have hN1 : ((w.alloc (.cells #[.int .u32 (r : Int), .slice a l.length c] 28)).alloc (.cells #[.int .u32 (r : Int), .slice b l.length d] 28)).heap[w.heap.size]? = some (.cells #[.int .u32 (r : Int), .slice a l.length c] 28) := by
    rw [heap_alloc_old _ _ (by simp)]; exact heap_alloc_new w _
  have hN2 : ((w.alloc (.cells #[.int .u32 (r : Int), .slice a l.length c] 28)).alloc (.cells #[.int .u32 (r : Int), .slice b l.length d] 28)).heap[w.heap.size + 1]? = some (.cells #[.int .u32 (r : Int), .slice b l.length d] 28) := by
    have := heap_alloc_new (w.alloc (.cells #[.int .u32 (r : Int), .slice a l.length c] 28)) (.cells #[.int .u32 (r : Int), .slice b l.length d] 28)
    simpa using this
  have hB0 : Below w.heap.size w ((w.alloc (.cells #[.int .u32 (r : Int), .slice a l.length c] 28)).alloc (.cells #[.int .u32 (r : Int), .slice b l.length d] 28)) := bl_alloc (bl_alloc (Below.refl _ _) _) _
  have HZ : Hid (((w.alloc (.cells #[.int .u32 (r : Int), .slice a l.length c] 28)).alloc (.cells #[.int .u32 (r : Int), .slice b l.length d] 28)).heap.size = w.heap.size + 2) := by show _ = _; simp
  have HN1 : Hid _ := hN1
  have HN2 : Hid _ := hN2
  have HB0 : Hid _ := hB0
  clear hN1 hN2 hB0
  go_enter Try.func14, Try.ntmps14
  go_upto_region 4 with fail
  generalize World.alloc (World.alloc w _) _ = w2 at HN1 HN2 HB0 HZ ⊢
  go_loopw [5] (fun i wr => ∃ k : Nat, k ≤ l.length ∧ i = .int .i64 k ∧ Below w2.heap.size w2 wr) (fun i _ => l.length - (intOf i).toNat)
  case atStart => exact ⟨0, Nat.zero_le _, rfl, Below.refl _ _⟩
  case round =>
    obtain ⟨k, hk, rfl, hbl⟩ := hrel
    have HB : Hid (Below w2.heap.size w2 wr) := hbl
    have hsz := HZ.out
    obtain ⟨p0, p1, _, _⟩ := cells2' ((hbl.block w.heap.size (by omega)).trans HN1.out)
    obtain ⟨q0, q1, _, _⟩ := cells2' ((hbl.block (w.heap.size + 1) (by omega)).trans HN2.out)
    by_cases hlt : k < l.length
    · obtain ⟨b1, o1, rfl, hS1, hb1, h1, _⟩ := wd_at hR1 k hlt
      obtain ⟨b2, o2, rfl, hS2, hb2, h2, _⟩ := wd_at hR2 k hlt
      have hb := bl_then HB0.out hbl
      have e1 := (hb.cell (p := ⟨b1, o1 + k, none⟩) hb1).trans h1
      have e2 := (hb.cell (p := ⟨b2, o2 + k, none⟩) hb2).trans h2
      have hk0 : (0 : Int) ≤ (k : Int) := by omega
      have hk1 : (k : Int) < (l.length : Int) := by omega
      clear h1 h2 hbl hb hsz
      go_wp2_with fail
      go_quiet (fail)
      go_wp2_with fail
      go_roundw
      case rel => exact ⟨k + 1, by omega, by go_num, bl_then HB.out (drewN_below _ _)⟩
      case measure => simp [intOf]; omega
    · have hb := Lib.hid (bl_then HB0.out hbl)
      clear hbl hsz
      go_wp2_with fail
      go_ret
      exact ⟨rfl, hb.out⟩
end Go.Proofs.Ytndmkfmpdnoliaa
