/- CONTRACTS of Calls and of the document's Calls. -/
import Derived.Test.YtkbanngbchhgaaaNPart
import Derived.Test.YtkbanngbchhgaaaNMeet
import Derived.Test.YtkbanngbchhgaaaIRightR
namespace Go.Proofs.Ytkbanngbchhgaaa
open Go.ChangeShapes Go.WideShapes Go.ChangeAt Go.RowKit

theorem two_cells {w : World} {b : Nat} {x0 x1 : Value} {t : TypeId} (h : w.heap[b]? = some (.cells #[x0, x1] t)) : w.cell? ⟨b, 0, none⟩ = some x0 ∧ w.cell? ⟨b, 1, none⟩ = some x1 := by
  refine ⟨?_, ?_⟩ <;> simp [World.cell?, h]
/-- Does a call stand within a span, from a place on? -/
def callsL (s : Int × Int) : Nat → List Ir → Bool
  | _, [] => false
  | k, y :: l => if y.kind = 7 ∧ s.1 < (k : Int) ∧ (k : Int) < s.2 then true else callsL s (k + 1) l
theorem callsL_iff (s : Int × Int) : ∀ (l : List Ir) (k : Nat), callsL s k l = true ↔ ∃ i, ∃ hi : i < l.length, l[i].kind = 7 ∧ s.1 < ((k + i : Nat) : Int) ∧ ((k + i : Nat) : Int) < s.2
  | [], k => by
    constructor
    · intro h; cases h
    · rintro ⟨i, hi, _⟩; simp at hi
  | y :: l, k => by
    have ih := callsL_iff s l (k + 1)
    unfold callsL
    by_cases h : y.kind = 7 ∧ s.1 < (k : Int) ∧ (k : Int) < s.2
    · rw [if_pos h]
      exact ⟨fun _ => ⟨0, by simp, h⟩, fun _ => rfl⟩
    · rw [if_neg h, ih]
      constructor
      · rintro ⟨i, hi, h1, h2, h3⟩
        exact ⟨i + 1, by simpa using hi, h1, by omega, by omega⟩
      · rintro ⟨i, hi, h1, h2, h3⟩
        cases i with
        | zero => exact absurd ⟨h1, h2, h3⟩ h
        | succ i => exact ⟨i, by simpa using hi, h1, by omega, by omega⟩
theorem callsL_drop (s : Int × Int) (l : List Ir) (k : Nat) (h : k < l.length) : callsL s k (l.drop k) = if l[k].kind = 7 ∧ s.1 < (k : Int) ∧ (k : Int) < s.2 then true else callsL s (k + 1) (l.drop (k + 1)) := by
  rw [List.drop_eq_getElem_cons h]
  rfl
set_option maxRecDepth 100000 in
set_option maxHeartbeats 2000000 in
theorem calls_any (x : Co) (pa : Option Addr) (pc : Nat) (la : Option Addr) (lc : Nat) (s : Int × Int) (w : World) (hin : CoIn w (fun _ => True) x pa pc la lc) (hl : x.l.length ≤ 1000000) :
    Calls Try.prog 14 #[coV x pa pc la lc, spV s] w fun e w' => e = .returned (.bool (callsL s 0 x.l)) ∧ Below w.heap.size w w' := by
  obtain ⟨s0, s1⟩ := s
  unfold coV
  show Calls Try.prog 14 #[.agg #[.string (bs x.name), .slice pa x.ps.length pc, .int .i64 x.regs, .int .i64 x.cells, .slice la x.l.length lc], .agg #[.int .i64 s0, .int .i64 s1]] w _
  have hb0 := bl_alloc (bl_alloc (Below.refl w.heap.size w) (coO x pa pc la lc)) (.cells #[.int .i64 s0, .int .i64 s1] 26)
  have h1 : ((w.alloc (coO x pa pc la lc)).alloc (.cells #[.int .i64 s0, .int .i64 s1] 26)).heap[w.heap.size]? = some (coO x pa pc la lc) := by rw [heap_alloc_old _ _ (by simp)]; exact heap_alloc_new w _
  have h2 : ((w.alloc (coO x pa pc la lc)).alloc (.cells #[.int .i64 s0, .int .i64 s1] 26)).heap[w.heap.size + 1]? = some (.cells #[.int .i64 s0, .int .i64 s1] 26) := by
    have := heap_alloc_new (w.alloc (coO x pa pc la lc)) (.cells #[.int .i64 s0, .int .i64 s1] 26)
    simpa using this
  have HL : Hid (kIr.row w (fun _ => True) la x.l) := hin.l
  have H1 : Hid _ := h1
  have H2 : Hid _ := h2
  have H0 : Hid _ := hb0
  clear h1 h2 hb0 hin
  go_enter Try.func14, Try.ntmps14
  go_upto_region 1 with fail
  generalize World.alloc (World.alloc w _) _ = w1 at H1 H2 H0 ⊢
  obtain ⟨k0, k1, k2, k3, k4⟩ := co_block H1.out
  go_upto_region 2 with fail
  clear k0 k1 k2 k3 k4
  go_loopw [10] (fun i wr => ∃ k : Nat, k ≤ x.l.length ∧ i = .int .i64 k ∧ callsL (s0, s1) 0 x.l = callsL (s0, s1) k (x.l.drop k) ∧ Below w1.heap.size w1 wr) (fun i _ => x.l.length - (intOf i).toNat)
  case atStart => exact ⟨0, Nat.zero_le _, rfl, rfl, Below.refl _ _⟩
  case round =>
    obtain ⟨k, hk, rfl, hq, hbl⟩ := hrel
    have HQ : Hid _ := hq
    have HB : Hid _ := bl_then H0.out hbl
    have HBL : Hid _ := hbl
    obtain ⟨k0, k1, k2, k3, k4⟩ := co_block ((hbl.block _ (lt_of_some H1.out)).trans H1.out)
    have hs := (hbl.block _ (lt_of_some H2.out)).trans H2.out
    have s0c : wr.cell? ⟨w.heap.size + 1, 0, none⟩ = some (.int .i64 s0) := by simp [World.cell?, hs]
    have s1c : wr.cell? ⟨w.heap.size + 1, 1, none⟩ = some (.int .i64 s1) := by simp [World.cell?, hs]
    by_cases hlt : k < x.l.length
    · have hrow : kIr.row wr (fun _ => True) la x.l := kIr.row_mono (by decide) HL.out fun b hb hlt => ⟨trivial, HB.out.block b hlt⟩
      obtain ⟨b, o, ga, gc, rfl, hS, hb, hia, hgc, hn, hrw⟩ := ir_at hrow k hlt
      obtain ⟨e0, e1, e2, e3, e4, e5, e6, e7, e8⟩ := hia
      have hD := callsL_drop (s0, s1) x.l k hlt
      generalize x.l[k] = y at e0 e1 e2 e3 e4 e5 e6 e7 e8 hD hgc hn hrw
      have HD : Hid _ := hD
      have hk1 : (k : Int) < (x.l.length : Int) := by omega
      have s0d : ∀ o : Obj, (wr.alloc o).cell? ⟨w.heap.size + 1, 0, none⟩ = some (.int .i64 s0) := fun o => alloc_cell o s0c
      have s1d : ∀ o : Obj, (wr.alloc o).cell? ⟨w.heap.size + 1, 1, none⟩ = some (.int .i64 s1) := fun o => alloc_cell o s1c
      clear hbl hq hrow hS hb hD hgc hn hrw hs
      by_cases g1 : y.kind = 7
      · by_cases g2 : s0 < (k : Int)
        · by_cases g3 : (k : Int) < s1
          · have HR : Hid (callsL (s0, s1) 0 x.l = true) := by show _ = _; rw [HQ.out, HD.out, if_pos ⟨g1, g2, g3⟩]
            clear k0 k1 k2 k3
            go_wp2_with fail
            go_ret
            exact ⟨ret_bool HR.out.symm, bl_alloc HB.out _⟩
          · have HR : Hid (callsL (s0, s1) k (x.l.drop k) = callsL (s0, s1) (k + 1) (x.l.drop (k + 1))) := by show _ = _; rw [HD.out, if_neg fun h => g3 h.2.2]
            clear k0 k1 k2 k3
            go_wp2_with fail
            go_roundw
            case rel => exact ⟨k + 1, by omega, by go_num, by rw [HQ.out, HR.out], bl_alloc HBL.out _⟩
            case measure => simp [intOf]; omega
        · have HR : Hid (callsL (s0, s1) k (x.l.drop k) = callsL (s0, s1) (k + 1) (x.l.drop (k + 1))) := by show _ = _; rw [HD.out, if_neg fun h => g2 h.2.1]
          clear k0 k1 k2 k3
          go_wp2_with fail
          go_roundw
          case rel => exact ⟨k + 1, by omega, by go_num, by rw [HQ.out, HR.out], bl_alloc HBL.out _⟩
          case measure => simp [intOf]; omega
      · have g1' : (y.kind == 7) = false := by simpa using g1
        have HR : Hid (callsL (s0, s1) k (x.l.drop k) = callsL (s0, s1) (k + 1) (x.l.drop (k + 1))) := by show _ = _; rw [HD.out, if_neg fun h => g1 h.1]
        clear k0 k1 k2 k3
        go_wp2_with fail
        go_roundw
        case rel => exact ⟨k + 1, by omega, by go_num, by rw [HQ.out, HR.out], bl_alloc HBL.out _⟩
        case measure => simp [intOf]; omega
    · obtain rfl : k = x.l.length := by omega
      have HR : Hid (callsL (s0, s1) 0 x.l = false) := by show _ = _; rw [hq, List.drop_length]; rfl
      clear hbl hq hs
      go_wp2_with fail
      go_ret
      exact ⟨ret_bool HR.out.symm, HB.out⟩
set_option maxRecDepth 100000 in
set_option maxHeartbeats 2000000 in
theorem refCalls_any (x : Co) (pa : Option Addr) (pc : Nat) (la : Option Addr) (lc : Nat) (s : Int × Int) (w : World) (hin : CoIn w (fun _ => True) x pa pc la lc) (hl : x.l.length ≤ 1000000) :
    Calls Try.prog 15 #[coV x pa pc la lc, spV s] w fun e w' => e = .returned (.bool (callsL s 0 x.l)) ∧ Below w.heap.size w w' := by
  obtain ⟨s0, s1⟩ := s
  unfold coV
  show Calls Try.prog 15 #[.agg #[.string (bs x.name), .slice pa x.ps.length pc, .int .i64 x.regs, .int .i64 x.cells, .slice la x.l.length lc], .agg #[.int .i64 s0, .int .i64 s1]] w _
  have hb0 := bl_alloc (bl_alloc (Below.refl w.heap.size w) (coO x pa pc la lc)) (.cells #[.int .i64 s0, .int .i64 s1] 26)
  have h1 : ((w.alloc (coO x pa pc la lc)).alloc (.cells #[.int .i64 s0, .int .i64 s1] 26)).heap[w.heap.size]? = some (coO x pa pc la lc) := by rw [heap_alloc_old _ _ (by simp)]; exact heap_alloc_new w _
  have h2 : ((w.alloc (coO x pa pc la lc)).alloc (.cells #[.int .i64 s0, .int .i64 s1] 26)).heap[w.heap.size + 1]? = some (.cells #[.int .i64 s0, .int .i64 s1] 26) := by
    have := heap_alloc_new (w.alloc (coO x pa pc la lc)) (.cells #[.int .i64 s0, .int .i64 s1] 26)
    simpa using this
  have HL : Hid (kIr.row w (fun _ => True) la x.l) := hin.l
  have H1 : Hid _ := h1
  have H2 : Hid _ := h2
  have H0 : Hid _ := hb0
  clear h1 h2 hb0 hin
  go_enter Try.func15, Try.ntmps15
  go_upto_region 1 with fail
  generalize World.alloc (World.alloc w _) _ = w1 at H1 H2 H0 ⊢
  obtain ⟨k0, k1, k2, k3, k4⟩ := co_block H1.out
  go_upto_region 2 with fail
  clear k0 k1 k2 k3 k4
  go_loopw [5] (fun i wr => ∃ k : Nat, k ≤ x.l.length ∧ i = .int .i64 k ∧ callsL (s0, s1) 0 x.l = callsL (s0, s1) k (x.l.drop k) ∧ Below w1.heap.size w1 wr) (fun i _ => x.l.length - (intOf i).toNat)
  case atStart => exact ⟨0, Nat.zero_le _, rfl, rfl, Below.refl _ _⟩
  case round =>
    obtain ⟨k, hk, rfl, hq, hbl⟩ := hrel
    have HQ : Hid _ := hq
    have HB : Hid _ := bl_then H0.out hbl
    have HBL : Hid _ := hbl
    obtain ⟨k0, k1, k2, k3, k4⟩ := co_block ((hbl.block _ (lt_of_some H1.out)).trans H1.out)
    have hs := (hbl.block _ (lt_of_some H2.out)).trans H2.out
    have s0c : wr.cell? ⟨w.heap.size + 1, 0, none⟩ = some (.int .i64 s0) := by simp [World.cell?, hs]
    have s1c : wr.cell? ⟨w.heap.size + 1, 1, none⟩ = some (.int .i64 s1) := by simp [World.cell?, hs]
    by_cases hlt : k < x.l.length
    · have hrow : kIr.row wr (fun _ => True) la x.l := kIr.row_mono (by decide) HL.out fun b hb hlt => ⟨trivial, HB.out.block b hlt⟩
      obtain ⟨b, o, ga, gc, rfl, hS, hb, hia, hgc, hn, hrw⟩ := ir_at hrow k hlt
      obtain ⟨e0, e1, e2, e3, e4, e5, e6, e7, e8⟩ := hia
      have hD := callsL_drop (s0, s1) x.l k hlt
      generalize x.l[k] = y at e0 e1 e2 e3 e4 e5 e6 e7 e8 hD hgc hn hrw
      have HD : Hid _ := hD
      have hk1 : (k : Int) < (x.l.length : Int) := by omega
      clear hbl hq hrow hS hb hD hgc hn hrw hs
      by_cases g1 : y.kind = 7
      · by_cases g2 : s0 < (k : Int)
        · by_cases g3 : (k : Int) < s1
          · have HR : Hid (callsL (s0, s1) 0 x.l = true) := by show _ = _; rw [HQ.out, HD.out, if_pos ⟨g1, g2, g3⟩]
            clear k0 k1 k2 k3
            go_wp2_with fail
            go_ret
            exact ⟨ret_bool HR.out.symm, HB.out⟩
          · have HR : Hid (callsL (s0, s1) k (x.l.drop k) = callsL (s0, s1) (k + 1) (x.l.drop (k + 1))) := by show _ = _; rw [HD.out, if_neg fun h => g3 h.2.2]
            clear k0 k1 k2 k3
            go_wp2_with fail
            go_roundw
            case rel => exact ⟨k + 1, by omega, by go_num, by rw [HQ.out, HR.out], HBL.out⟩
            case measure => simp [intOf]; omega
        · have HR : Hid (callsL (s0, s1) k (x.l.drop k) = callsL (s0, s1) (k + 1) (x.l.drop (k + 1))) := by show _ = _; rw [HD.out, if_neg fun h => g2 h.2.1]
          clear k0 k1 k2 k3
          go_wp2_with fail
          go_roundw
          case rel => exact ⟨k + 1, by omega, by go_num, by rw [HQ.out, HR.out], HBL.out⟩
          case measure => simp [intOf]; omega
      · have g1' : (y.kind == 7) = false := by simpa using g1
        have HR : Hid (callsL (s0, s1) k (x.l.drop k) = callsL (s0, s1) (k + 1) (x.l.drop (k + 1))) := by show _ = _; rw [HD.out, if_neg fun h => g1 h.1]
        clear k0 k1 k2 k3
        go_wp2_with fail
        go_roundw
        case rel => exact ⟨k + 1, by omega, by go_num, by rw [HQ.out, HR.out], HBL.out⟩
        case measure => simp [intOf]; omega
    · obtain rfl : k = x.l.length := by omega
      have HR : Hid (callsL (s0, s1) 0 x.l = false) := by show _ = _; rw [hq, List.drop_length]; rfl
      clear hbl hq hs
      go_wp2_with fail
      go_ret
      exact ⟨ret_bool HR.out.symm, HB.out⟩
end Go.Proofs.Ytkbanngbchhgaaa
