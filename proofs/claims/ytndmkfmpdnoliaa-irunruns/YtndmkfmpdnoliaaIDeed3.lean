/- CONTRACTS of what instructions do: jump, end. -/
import Derived.Test.YtndmkfmpdnoliaaIDeed1
namespace Go.Proofs.Ytndmkfmpdnoliaa
open Go.ChangeShapes Go.WideShapes Go.ChangeAt Go.RowKit

/-- A frame's block has become another one; nothing else is touched. -/
structure SetF (w w' : World) (R F G C : Nat) (fr : Fr) : Prop where
  kept : Kept (fun k => k = F) w w'
  f : w'.heap[F]? = some (.cells #[.pointer (some ⟨R, 0, none⟩), .slice (some ⟨G, 0, none⟩) fr.regs.length fr.regs.length, .slice (some ⟨C, 0, none⟩) fr.cells.length fr.cells.length, .int .i64 (fr.next : Int), .bool fr.ended, .int .u32 (fr.result : Int)] 67)
set_option maxRecDepth 100000 in
set_option maxHeartbeats 2000000 in
theorem jump_any {R F G C : Nat} {fr : Fr} (x : Ir) (ga : Option Addr) (gc : Nat) (w : World) (h : FrM w R F G C fr) (c : Nat) (hc : x.c = c) :
    Calls Try.prog 49 #[.pointer (some ⟨F, 0, none⟩), irV x ga gc] w fun e w' => e = .returned (.tuple #[]) ∧ SetF w w' R F G C { fr with next := c } := by
  obtain ⟨kd, op, xd, xa, xb, xc, n, nm, ag⟩ := x
  obtain ⟨rg, cl, nx, en, rs⟩ := fr
  simp only at *
  subst hc
  have h1 := h.box (.cells #[.int .i64 kd, .int .i64 op, .int .i64 xd, .int .i64 xa, .int .i64 xb, .int .i64 (c : Int), .int .u32 (n : Int), .string (bs nm), .slice ga ag.length gc] 50)
  have hx := heap_alloc_new w (.cells #[.int .i64 kd, .int .i64 op, .int .i64 xd, .int .i64 xa, .int .i64 xb, .int .i64 (c : Int), .int .u32 (n : Int), .string (bs nm), .slice ga ag.length gc] 50)
  have hb1 := bl_alloc (Below.refl w.heap.size w) (.cells #[.int .i64 kd, .int .i64 op, .int .i64 xd, .int .i64 xa, .int .i64 xb, .int .i64 (c : Int), .int .u32 (n : Int), .string (bs nm), .slice ga ag.length gc] 50)
  obtain ⟨f0, f1, f2, f3, f4, f5⟩ := h1.cells6
  have fz := row_free h1.f 3
  have HB : Hid _ := hb1
  have HF : Hid _ := h1.f
  clear h h1 hx hb1
  unfold irV
  go_enter Try.func49, Try.ntmps49
  go_wp2_with fail
  go_end0
  exact ⟨rfl, (Below.kept HB.out _).trans (Kept.set _ F 3 _), setCell_at HF.out⟩
set_option maxRecDepth 100000 in
set_option maxHeartbeats 2000000 in
theorem end_any {R F G C : Nat} {fr : Fr} (x : Ir) (ga : Option Addr) (gc : Nat) (w : World) (h : FrM w R F G C fr) (a : Nat) (ha : x.a = a) (hal : a < fr.regs.length) :
    Calls Try.prog 51 #[.pointer (some ⟨F, 0, none⟩), irV x ga gc] w fun e w' => e = .returned (.tuple #[]) ∧ SetF w w' R F G C { fr with ended := true, result := fr.regs[a] } := by
  obtain ⟨kd, op, xd, xa, xb, xc, n, nm, ag⟩ := x
  obtain ⟨rg, cl, nx, en, rs⟩ := fr
  simp only at *
  subst ha
  have kal : a < rg.length := hal
  have h1 := h.box (.cells #[.int .i64 kd, .int .i64 op, .int .i64 xd, .int .i64 (a : Int), .int .i64 xb, .int .i64 xc, .int .u32 (n : Int), .string (bs nm), .slice ga ag.length gc] 50)
  have hx := heap_alloc_new w (.cells #[.int .i64 kd, .int .i64 op, .int .i64 xd, .int .i64 (a : Int), .int .i64 xb, .int .i64 xc, .int .u32 (n : Int), .string (bs nm), .slice ga ag.length gc] 50)
  have hb1 := bl_alloc (Below.refl w.heap.size w) (.cells #[.int .i64 kd, .int .i64 op, .int .i64 xd, .int .i64 (a : Int), .int .i64 xb, .int .i64 xc, .int .u32 (n : Int), .string (bs nm), .slice ga ag.length gc] 50)
  have hsz := lt_of_some h.f
  have hsz2 := lt_of_some h.g
  unfold irV
  go_enter Try.func51, Try.ntmps51
  go_wp2_with fail
  generalize w.alloc (.cells #[.int .i64 kd, .int .i64 op, .int .i64 xd, .int .i64 (a : Int), .int .i64 xb, .int .i64 xc, .int .u32 (n : Int), .string (bs nm), .slice ga ag.length gc] 50) = w1 at h1 hx hb1 ⊢
  obtain ⟨f0, f1, f2, f3, f4, f5⟩ := h1.cells6
  obtain ⟨x0, x1, x2, x3, x4, x5, x6, x7, x8⟩ := ir_block (x := ⟨kd, op, xd, a, xb, xc, n, nm, ag⟩) hx
  simp only at f1 f2 f3 f4 f5 x0 x1 x2 x3 x4 x5 x6 x7 x8
  have ga1 := row_cell h1.g kal
  have fz5 := row_free h1.f 5
  have fz4 := row_free h1.f 4
  have i0 : (0 : Int) ≤ (a : Int) := by omega
  have i1 : (a : Int) < (rg.length : Int) := by omega
  have nfg := h1.fg
  have nsf : w.heap.size ≠ F := by omega
  have HB : Hid _ := bl_then hb1 (drew_bl w1)
  have HF : Hid (w1.drew.heap[F]? = _) := h1.f
  have hk : ∀ v, (w1.drew.setCell ⟨F, 5, none⟩ v).cell? ⟨F, 1, none⟩ = some (.slice (some ⟨G, 0, none⟩) rg.length rg.length) := fun v => by
    have := setCell_at (o := 5) (v := v) HF.out
    simp [World.cell?, this]
  have hk4 : ∀ v, (w1.drew.setCell ⟨F, 5, none⟩ v).cell? ⟨F, 4, none⟩ = some (.bool en) ∧ (w1.drew.setCell ⟨F, 5, none⟩ v).frozen? ⟨F, 4, none⟩ = false := fun v => by
    have := setCell_at (o := 5) (v := v) HF.out
    exact ⟨by simp [World.cell?, this], by simp [World.frozen?, this]⟩
  obtain ⟨k40, k41⟩ := hk4 (.int .u32 (rg[a] : Int))
  have hS2 : ∀ v, (fun w' : World => w'.cell? ⟨F, 1, none⟩ = some (.slice (some ⟨G, 0, none⟩) rg.length rg.length) ∧ w'.cell? ⟨w.heap.size, 3, none⟩ = some (.int .i64 (a : Int)) ∧ w'.cell? ⟨G, a, none⟩ = some (.int .u32 (rg[a] : Int))) (w1.drew.setCell ⟨F, 5, none⟩ v) := fun v =>
    ⟨hk v, (World.cell?_of_block (setCell_other nsf)).trans x3, (World.cell?_of_block (setCell_other (Ne.symm nfg))).trans ga1⟩
  clear h h1 hx hb1 hk hk4
  go_region_held3 (fun w' => w'.cell? ⟨F, 1, none⟩ = some (.slice (some ⟨G, 0, none⟩) rg.length rg.length) ∧ w'.cell? ⟨w.heap.size, 3, none⟩ = some (.int .i64 (a : Int)) ∧ w'.cell? ⟨G, a, none⟩ = some (.int .u32 (rg[a] : Int)))
    (first | exact ⟨f1, x3, ga1⟩ | exact hS2 _)
    (fail)
  clear hS2
  go_wp2_with fail
  go_end0
  exact ⟨rfl, ((Below.kept HB.out _).trans (Kept.set _ F 5 _)).trans (Kept.set _ F 4 _), setCell_at (setCell_at HF.out)⟩
end Go.Proofs.Ytndmkfmpdnoliaa
