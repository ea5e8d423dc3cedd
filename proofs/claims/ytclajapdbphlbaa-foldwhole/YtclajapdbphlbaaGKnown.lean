/- CONTRACT of Known. -/
import Derived.Test.YtclajapdbphlbaaGHeap
namespace Go.Proofs.Ytclajapdbphlbaa
open Go.ChangeShapes Go.WideShapes Go.ChangeAt Go.RowKit

set_option maxRecDepth 100000 in
set_option maxHeartbeats 1000000 in
theorem known_any {S : Nat → Prop} (x : Co) (pa : Option Addr) (pc : Nat) (la : Option Addr) (lc : Nat) (w : World) (h : kIr.row w S la x.l) (hl : x.l.length ≤ 1000000) :
    Calls Try.prog 15 #[.agg #[.string (bs x.name), .slice pa x.ps.length pc, .int .i64 x.regs, .int .i64 x.cells, .slice la x.l.length lc]] w fun e w' => e = .returned (.int .i64 (cnt x.l : Nat)) ∧ Below w.heap.size w w' := by
  have HB0 : Hid _ := bl_alloc (Below.refl w.heap.size w) (.cells #[.string (bs x.name), .slice pa x.ps.length pc, .int .i64 x.regs, .int .i64 x.cells, .slice la x.l.length lc] 25)
  go_enter Try.func15, Try.ntmps15
  go_wp2
  generalize w.alloc (.cells #[.string (bs x.name), .slice pa x.ps.length pc, .int .i64 x.regs, .int .i64 x.cells, .slice la x.l.length lc] 25) = w1 at HB0 ⊢
  go_loopw [3, 9] (fun n i wr => ∃ k : Nat, k ≤ x.l.length ∧ i = .int .i64 k ∧ n = .int .i64 (cnt (x.l.take k) : Nat) ∧ Below w.heap.size w wr) (fun _ i _ => x.l.length - (intOf i).toNat)
  case atStart => exact ⟨0, Nat.zero_le _, rfl, rfl, HB0.out⟩
  case round =>
    obtain ⟨k, hk, rfl, rfl, hbl⟩ := hrel
    have HB : Hid (Below w.heap.size w wr) := hbl
    by_cases hlt : k < x.l.length
    · obtain ⟨b, o, ga, gc, rfl, hS, hb, hia, hgc, hn, hrow⟩ := ir_at h k hlt
      have hia' := hia.keep (hbl.block b hb)
      obtain ⟨e0, e1, e2, e3, e4, e5, e6, e7, e8⟩ := hia'
      have HC := cnt_take x.l k hlt
      have hcl : cnt (x.l.take k) ≤ k := Nat.le_trans (cnt_le _) (List.length_take_le _ _)
      generalize x.l[k] = y at e0 e1 e2 e3 e4 e5 e6 e7 e8 HC
      have HC' : Hid _ := HC
      clear hia hrow hbl HC
      by_cases h1 : y.kind = 1
      · have HD : Hid (cnt (x.l.take (k + 1)) = cnt (x.l.take k) + 1) := by show _ = _; rw [HC'.out, if_pos h1]
        go_wp2_with fail
        go_roundw
        case rel => exact ⟨k + 1, by omega, by go_num, by rw [HD.out]; go_num, bl_alloc HB.out _⟩
        case measure => simp [intOf]; omega
      · have h1' : (y.kind == 1) = false := by simpa using h1
        have HD : Hid (cnt (x.l.take (k + 1)) = cnt (x.l.take k)) := by show _ = _; rw [HC'.out, if_neg h1]; rfl
        go_wp2_with fail
        go_roundw
        case rel => exact ⟨k + 1, by omega, by go_num, by rw [HD.out], bl_alloc HB.out _⟩
        case measure => simp [intOf]; omega
    · have HN : Hid (cnt (x.l.take k) = cnt x.l) := by show _ = _; rw [List.take_of_length_le (by omega)]
      clear hbl
      go_wp2_with fail
      go_ret
      exact ⟨by rw [HN.out]; rfl, HB.out⟩
end Go.Proofs.Ytclajapdbphlbaa
