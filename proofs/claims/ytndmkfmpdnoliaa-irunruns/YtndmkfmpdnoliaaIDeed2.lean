/- CONTRACTS of what instructions do: number, copied, reckon, pick, load, store, end. Made by gen/gen_deed.py. -/
import Derived.Test.YtndmkfmpdnoliaaIDeed1
namespace Go.Proofs.Ytndmkfmpdnoliaa
open Go.ChangeShapes Go.WideShapes Go.ChangeAt Go.RowKit

set_option maxRecDepth 100000 in
set_option maxHeartbeats 4000000 in
theorem number_any {R F G C : Nat} {fr : Fr} (x : Ir) (ga : Option Addr) (gc : Nat) (w : World) (h : FrM w R F G C fr) (d : Nat) (hd : x.d = d) (hdl : d < fr.regs.length) :
    Calls Try.prog 42 #[.pointer (some ⟨F, 0, none⟩), irV x ga gc] w fun e w' => e = .returned (.tuple #[]) ∧ SetR w w' G (fr.regs.set d x.n) := by
  obtain ⟨kd, op, xd, xa, xb, xc, n, nm, ag⟩ := x
  obtain ⟨rg, cl, nx, en, rs⟩ := fr
  simp only at *
  subst hd
  have h1 := h.box (.cells #[.int .i64 kd, .int .i64 op, .int .i64 (d : Int), .int .i64 xa, .int .i64 xb, .int .i64 xc, .int .u32 (n : Int), .string (bs nm), .slice ga ag.length gc] 50)
  have hx := heap_alloc_new w (.cells #[.int .i64 kd, .int .i64 op, .int .i64 (d : Int), .int .i64 xa, .int .i64 xb, .int .i64 xc, .int .u32 (n : Int), .string (bs nm), .slice ga ag.length gc] 50)
  have hb1 := bl_alloc (Below.refl w.heap.size w) (.cells #[.int .i64 kd, .int .i64 op, .int .i64 (d : Int), .int .i64 xa, .int .i64 xb, .int .i64 xc, .int .u32 (n : Int), .string (bs nm), .slice ga ag.length gc] 50)
  have hsz := lt_of_some h.f
  have hsz2 := lt_of_some h.g
  have hsz3 := lt_of_some h.c
  have nsg : w.heap.size ≠ G := by omega
  have nsc : w.heap.size ≠ C := by omega
  unfold irV
  go_enter Try.func42, Try.ntmps42
  go_wp2_with fail
  generalize w.alloc (.cells #[.int .i64 kd, .int .i64 op, .int .i64 (d : Int), .int .i64 xa, .int .i64 xb, .int .i64 xc, .int .u32 (n : Int), .string (bs nm), .slice ga ag.length gc] 50) = w1 at h1 hx hb1 ⊢
  obtain ⟨f0, f1, f2, f3, f4, f5⟩ := h1.cells6
  obtain ⟨x0, x1, x2, x3, x4, x5, x6, x7, x8⟩ := ir_block (x := ⟨kd, op, d, xa, xb, xc, n, nm, ag⟩) hx
  simp only at f1 f2 f3 f4 f5 x0 x1 x2 x3 x4 x5 x6 x7 x8
  have gd := row_cell h1.g hdl
  have fz := row_free h1.g d
  have hd0 : (0 : Int) ≤ (d : Int) := by omega
  have hd1 : (d : Int) < (rg.length : Int) := by omega
  have HB : Hid _ := bl_then hb1 (drew_bl w1)
  have H1 : Hid _ := h1
  have nfg := h1.fg
  have nfc := h1.fc
  have ngc := h1.gc
  have hS : (fun w' => w'.cell? ⟨F, 1, none⟩ = some (.slice (some ⟨G, 0, none⟩) rg.length rg.length) ∧ w'.cell? ⟨w.heap.size, 2, none⟩ = some (.int .i64 (d : Int)) ∧ w'.cell? ⟨w.heap.size, 6, none⟩ = some (.int .u32 (n : Int))) w1.drew := ⟨f1, x2, x6⟩
  have hS2 : ∀ v, (fun w' => w'.cell? ⟨F, 1, none⟩ = some (.slice (some ⟨G, 0, none⟩) rg.length rg.length) ∧ w'.cell? ⟨w.heap.size, 2, none⟩ = some (.int .i64 (d : Int)) ∧ w'.cell? ⟨w.heap.size, 6, none⟩ = some (.int .u32 (n : Int))) (w1.drew.setCell ⟨G, d, none⟩ v) := fun v => ⟨(World.cell?_of_block (setCell_other nfg)).trans f1, (World.cell?_of_block (setCell_other nsg)).trans x2, (World.cell?_of_block (setCell_other nsg)).trans x6⟩
  clear h h1 hx hb1
  refine wp_region_held_drew (S := (fun w' => w'.cell? ⟨F, 1, none⟩ = some (.slice (some ⟨G, 0, none⟩) rg.length rg.length) ∧ w'.cell? ⟨w.heap.size, 2, none⟩ = some (.int .i64 (d : Int)) ∧ w'.cell? ⟨w.heap.size, 6, none⟩ = some (.int .u32 (n : Int)))) (by kernel_rfl) hS (fun hHeld => ?_)
  refine wpAnyH_take (i := 0) (v := ?_) rfl (by kernel_rfl) (by kernel_rfl) (by kernel_rfl) (fun _ _ _ h => h) (Or.inl ⟨by rfl, by intro w hSw; (try dsimp only at hSw); go_simp; all_goals with_reducible rfl⟩) hHeld ?_
  try simp only [Act.put]
  refine wpAnyH_take (i := 1) (v := ?_) rfl (by kernel_rfl) (by kernel_rfl) (by kernel_rfl) (fun _ _ _ h => h) (Or.inl ⟨by rfl, by intro w hSw; (try dsimp only at hSw); go_simp; all_goals with_reducible rfl⟩) hHeld ?_
  try simp only [Act.put]
  refine wpAnyH_take (i := 2) (v := ?_) rfl (by kernel_rfl) (by kernel_rfl) (by kernel_rfl) (fun _ _ _ h => h) (Or.inl ⟨by rfl, by intro w hSw; (try dsimp only at hSw); go_simp; all_goals with_reducible rfl⟩) hHeld ?_
  try simp only [Act.put]
  refine wpAnyH_take (i := 3) (v := ?_) rfl (by kernel_rfl) (by kernel_rfl) (by kernel_rfl) (fun _ _ _ h => h) (Or.inl ⟨by rfl, by intro w hSw; (try dsimp only at hSw); go_simp; all_goals with_reducible rfl⟩) hHeld ?_
  try simp only [Act.put]
  refine wpAnyH_take (i := 4) (v := ?_) rfl (by kernel_rfl) (by kernel_rfl) (by kernel_rfl) (fun _ _ _ h => h) (Or.inl ⟨by rfl, by intro w hSw; (try dsimp only at hSw); go_simp; all_goals with_reducible rfl⟩) hHeld ?_
  try simp only [Act.put]
  refine wpAnyH_take (i := 5) (v := ?_) rfl (by kernel_rfl) (by kernel_rfl) (by kernel_rfl) (fun _ _ _ h => h) (Or.inl ⟨by rfl, by intro w hSw; (try dsimp only at hSw); go_simp; all_goals with_reducible rfl⟩) hHeld ?_
  try simp only [Act.put]
  refine wpAnyH_take (i := 6) (v := ?_) rfl (by kernel_rfl) (by kernel_rfl) (by kernel_rfl) (fun _ _ _ h => h) (Or.inl ⟨by rfl, by intro w hSw; (try dsimp only at hSw); go_simp; all_goals with_reducible rfl⟩) hHeld ?_
  try simp only [Act.put]
  refine wpAnyH_take (i := 7) (v := ?_) rfl (by kernel_rfl) (by kernel_rfl) (by kernel_rfl) (fun _ _ _ h => h) (Or.inl ⟨by rfl, by intro w hSw; (try dsimp only at hSw); go_simp; all_goals with_reducible rfl⟩) hHeld ?_
  try simp only [Act.put]
  refine wpAnyH_take (i := 8) (v := ?_) rfl (by kernel_rfl) (by kernel_rfl) (by kernel_rfl) (fun _ _ _ h => h) (Or.inl ⟨by rfl, by intro w hSw; (try dsimp only at hSw); go_simp; all_goals with_reducible rfl⟩) hHeld ?_
  try simp only [Act.put]
  refine wpAnyH_ready (rs := [9]) (by kernel_rfl) (by simp) ?_
  refine AllReadyH.cons rfl (fun K hK => ?_) (AllReadyH.nil)
  go_simp
  refine hK.out _ _ (hS2 _) (fun hHeld => ?_)
  clear hK K
  try simp only [Act.put]
  refine wpAnyH_done (by kernel_rfl) ?_ _
  go_wp2_with fail
  go_end0
  exact ⟨rfl, SetR.of (n := n) HB.out (by exact H1.out.g)⟩
set_option maxRecDepth 100000 in
set_option maxHeartbeats 4000000 in
theorem copied_any {R F G C : Nat} {fr : Fr} (x : Ir) (ga : Option Addr) (gc : Nat) (w : World) (h : FrM w R F G C fr) (d : Nat) (hd : x.d = d) (hdl : d < fr.regs.length) (a : Nat) (ha : x.a = a) (hal : a < fr.regs.length) :
    Calls Try.prog 43 #[.pointer (some ⟨F, 0, none⟩), irV x ga gc] w fun e w' => e = .returned (.tuple #[]) ∧ SetR w w' G (fr.regs.set d fr.regs[a]) := by
  obtain ⟨kd, op, xd, xa, xb, xc, n, nm, ag⟩ := x
  obtain ⟨rg, cl, nx, en, rs⟩ := fr
  simp only at *
  subst hd
  subst ha
  have h1 := h.box (.cells #[.int .i64 kd, .int .i64 op, .int .i64 (d : Int), .int .i64 (a : Int), .int .i64 xb, .int .i64 xc, .int .u32 (n : Int), .string (bs nm), .slice ga ag.length gc] 50)
  have hx := heap_alloc_new w (.cells #[.int .i64 kd, .int .i64 op, .int .i64 (d : Int), .int .i64 (a : Int), .int .i64 xb, .int .i64 xc, .int .u32 (n : Int), .string (bs nm), .slice ga ag.length gc] 50)
  have hb1 := bl_alloc (Below.refl w.heap.size w) (.cells #[.int .i64 kd, .int .i64 op, .int .i64 (d : Int), .int .i64 (a : Int), .int .i64 xb, .int .i64 xc, .int .u32 (n : Int), .string (bs nm), .slice ga ag.length gc] 50)
  have hsz := lt_of_some h.f
  have hsz2 := lt_of_some h.g
  have hsz3 := lt_of_some h.c
  have nsg : w.heap.size ≠ G := by omega
  have nsc : w.heap.size ≠ C := by omega
  unfold irV
  go_enter Try.func43, Try.ntmps43
  go_wp2_with fail
  generalize w.alloc (.cells #[.int .i64 kd, .int .i64 op, .int .i64 (d : Int), .int .i64 (a : Int), .int .i64 xb, .int .i64 xc, .int .u32 (n : Int), .string (bs nm), .slice ga ag.length gc] 50) = w1 at h1 hx hb1 ⊢
  obtain ⟨f0, f1, f2, f3, f4, f5⟩ := h1.cells6
  obtain ⟨x0, x1, x2, x3, x4, x5, x6, x7, x8⟩ := ir_block (x := ⟨kd, op, d, a, xb, xc, n, nm, ag⟩) hx
  simp only at f1 f2 f3 f4 f5 x0 x1 x2 x3 x4 x5 x6 x7 x8
  have gd := row_cell h1.g hdl
  have fz := row_free h1.g d
  have hd0 : (0 : Int) ≤ (d : Int) := by omega
  have hd1 : (d : Int) < (rg.length : Int) := by omega
  have kal : a < rg.length := hal
  have ga := row_cell h1.g kal
  have aw : rg[a] < 4294967296 := h1.regs _ (List.getElem_mem kal)
  have ia0 : (0 : Int) ≤ (a : Int) := by omega
  have ia1 : (a : Int) < (rg.length : Int) := by omega
  have HB : Hid _ := bl_then hb1 (drew_bl w1)
  have H1 : Hid _ := h1
  have nfg := h1.fg
  have nfc := h1.fc
  have ngc := h1.gc
  have hS : (fun w' => w'.cell? ⟨F, 1, none⟩ = some (.slice (some ⟨G, 0, none⟩) rg.length rg.length) ∧ w'.cell? ⟨w.heap.size, 2, none⟩ = some (.int .i64 (d : Int)) ∧ w'.cell? ⟨w.heap.size, 3, none⟩ = some (.int .i64 (a : Int))) w1.drew := ⟨f1, x2, x3⟩
  have hS2 : ∀ v, (fun w' => w'.cell? ⟨F, 1, none⟩ = some (.slice (some ⟨G, 0, none⟩) rg.length rg.length) ∧ w'.cell? ⟨w.heap.size, 2, none⟩ = some (.int .i64 (d : Int)) ∧ w'.cell? ⟨w.heap.size, 3, none⟩ = some (.int .i64 (a : Int))) (w1.drew.setCell ⟨G, d, none⟩ v) := fun v => ⟨(World.cell?_of_block (setCell_other nfg)).trans f1, (World.cell?_of_block (setCell_other nsg)).trans x2, (World.cell?_of_block (setCell_other nsg)).trans x3⟩
  clear h h1 hx hb1
  refine wp_region_held_drew (S := (fun w' => w'.cell? ⟨F, 1, none⟩ = some (.slice (some ⟨G, 0, none⟩) rg.length rg.length) ∧ w'.cell? ⟨w.heap.size, 2, none⟩ = some (.int .i64 (d : Int)) ∧ w'.cell? ⟨w.heap.size, 3, none⟩ = some (.int .i64 (a : Int)))) (by kernel_rfl) hS (fun hHeld => ?_)
  refine wpAnyH_take (i := 0) (v := ?_) rfl (by kernel_rfl) (by kernel_rfl) (by kernel_rfl) (fun _ _ _ h => h) (Or.inl ⟨by rfl, by intro w hSw; (try dsimp only at hSw); go_simp; all_goals with_reducible rfl⟩) hHeld ?_
  try simp only [Act.put]
  refine wpAnyH_take (i := 1) (v := ?_) rfl (by kernel_rfl) (by kernel_rfl) (by kernel_rfl) (fun _ _ _ h => h) (Or.inl ⟨by rfl, by intro w hSw; (try dsimp only at hSw); go_simp; all_goals with_reducible rfl⟩) hHeld ?_
  try simp only [Act.put]
  refine wpAnyH_take (i := 2) (v := ?_) rfl (by kernel_rfl) (by kernel_rfl) (by kernel_rfl) (fun _ _ _ h => h) (Or.inl ⟨by rfl, by intro w hSw; (try dsimp only at hSw); go_simp; all_goals with_reducible rfl⟩) hHeld ?_
  try simp only [Act.put]
  refine wpAnyH_take (i := 3) (v := ?_) rfl (by kernel_rfl) (by kernel_rfl) (by kernel_rfl) (fun _ _ _ h => h) (Or.inl ⟨by rfl, by intro w hSw; (try dsimp only at hSw); go_simp; all_goals with_reducible rfl⟩) hHeld ?_
  try simp only [Act.put]
  refine wpAnyH_take (i := 4) (v := ?_) rfl (by kernel_rfl) (by kernel_rfl) (by kernel_rfl) (fun _ _ _ h => h) (Or.inl ⟨by rfl, by intro w hSw; (try dsimp only at hSw); go_simp; all_goals with_reducible rfl⟩) hHeld ?_
  try simp only [Act.put]
  refine wpAnyH_take (i := 5) (v := ?_) rfl (by kernel_rfl) (by kernel_rfl) (by kernel_rfl) (fun _ _ _ h => h) (Or.inl ⟨by rfl, by intro w hSw; (try dsimp only at hSw); go_simp; all_goals with_reducible rfl⟩) hHeld ?_
  try simp only [Act.put]
  refine wpAnyH_take (i := 6) (v := ?_) rfl (by kernel_rfl) (by kernel_rfl) (by kernel_rfl) (fun _ _ _ h => h) (Or.inl ⟨by rfl, by intro w hSw; (try dsimp only at hSw); go_simp; all_goals with_reducible rfl⟩) hHeld ?_
  try simp only [Act.put]
  refine wpAnyH_take (i := 7) (v := ?_) rfl (by kernel_rfl) (by kernel_rfl) (by kernel_rfl) (fun _ _ _ h => h) (Or.inl ⟨by rfl, by intro w hSw; (try dsimp only at hSw); go_simp; all_goals with_reducible rfl⟩) hHeld ?_
  try simp only [Act.put]
  refine wpAnyH_take (i := 8) (v := ?_) rfl (by kernel_rfl) (by kernel_rfl) (by kernel_rfl) (fun _ _ _ h => h) (Or.inl ⟨by rfl, by intro w hSw; (try dsimp only at hSw); go_simp; all_goals with_reducible rfl⟩) hHeld ?_
  try simp only [Act.put]
  refine wpAnyH_take (i := 9) (v := ?_) rfl (by kernel_rfl) (by kernel_rfl) (by kernel_rfl) (fun _ _ _ h => h) (Or.inl ⟨by rfl, by intro w hSw; (try dsimp only at hSw); go_simp; all_goals with_reducible rfl⟩) hHeld ?_
  try simp only [Act.put]
  refine wpAnyH_take (i := 10) (v := ?_) rfl (by kernel_rfl) (by kernel_rfl) (by kernel_rfl) (fun _ _ _ h => h) (Or.inl ⟨by rfl, by intro w hSw; (try dsimp only at hSw); go_simp; all_goals with_reducible rfl⟩) hHeld ?_
  try simp only [Act.put]
  refine wpAnyH_take (i := 11) (v := ?_) rfl (by kernel_rfl) (by kernel_rfl) (by kernel_rfl) (fun _ _ _ h => h) (Or.inl ⟨by rfl, by intro w hSw; (try dsimp only at hSw); go_simp; all_goals with_reducible rfl⟩) hHeld ?_
  try simp only [Act.put]
  refine wpAnyH_take (i := 12) (v := ?_) rfl (by kernel_rfl) (by kernel_rfl) (by kernel_rfl) (fun _ _ _ h => h) (Or.inl ⟨by rfl, by intro w hSw; (try dsimp only at hSw); go_simp; all_goals with_reducible rfl⟩) hHeld ?_
  try simp only [Act.put]
  refine wpAnyH_ready (rs := [13]) (by kernel_rfl) (by simp) ?_
  refine AllReadyH.cons rfl (fun K hK => ?_) (AllReadyH.nil)
  go_simp
  refine hK.out _ _ hHeld (fun hHeld => ?_)
  clear hK K
  try simp only [Act.put]
  refine wpAnyH_take (i := 14) (v := ?_) rfl (by kernel_rfl) (by kernel_rfl) (by kernel_rfl) (fun _ _ _ h => h) (Or.inl ⟨by rfl, by intro w hSw; (try dsimp only at hSw); go_simp; all_goals with_reducible rfl⟩) hHeld ?_
  try simp only [Act.put]
  refine wpAnyH_ready (rs := [15]) (by kernel_rfl) (by simp) ?_
  refine AllReadyH.cons rfl (fun K hK => ?_) (AllReadyH.nil)
  go_simp
  refine hK.out _ _ (hS2 _) (fun hHeld => ?_)
  clear hK K
  try simp only [Act.put]
  refine wpAnyH_done (by kernel_rfl) ?_ _
  go_wp2_with fail
  go_end0
  exact ⟨rfl, SetR.of (n := rg[a]) HB.out (by exact H1.out.g)⟩
set_option maxRecDepth 100000 in
set_option maxHeartbeats 4000000 in
theorem reckon_any {R F G C : Nat} {fr : Fr} (x : Ir) (ga : Option Addr) (gc : Nat) (w : World) (h : FrM w R F G C fr) (d : Nat) (hd : x.d = d) (hdl : d < fr.regs.length) (a : Nat) (ha : x.a = a) (hal : a < fr.regs.length) (b : Nat) (hb : x.b = b) (hbl : b < fr.regs.length) (v0 : Nat) (hv : (v0 : Int) = opz x.op (fr.regs[a] : Int) (fr.regs[b] : Int)) :
    Calls Try.prog 44 #[.pointer (some ⟨F, 0, none⟩), irV x ga gc] w fun e w' => e = .returned (.tuple #[]) ∧ SetR w w' G (fr.regs.set d v0) := by
  obtain ⟨kd, op, xd, xa, xb, xc, n, nm, ag⟩ := x
  obtain ⟨rg, cl, nx, en, rs⟩ := fr
  simp only at *
  subst hd
  subst ha
  subst hb
  have h1 := h.box (.cells #[.int .i64 kd, .int .i64 op, .int .i64 (d : Int), .int .i64 (a : Int), .int .i64 (b : Int), .int .i64 xc, .int .u32 (n : Int), .string (bs nm), .slice ga ag.length gc] 50)
  have hx := heap_alloc_new w (.cells #[.int .i64 kd, .int .i64 op, .int .i64 (d : Int), .int .i64 (a : Int), .int .i64 (b : Int), .int .i64 xc, .int .u32 (n : Int), .string (bs nm), .slice ga ag.length gc] 50)
  have hb1 := bl_alloc (Below.refl w.heap.size w) (.cells #[.int .i64 kd, .int .i64 op, .int .i64 (d : Int), .int .i64 (a : Int), .int .i64 (b : Int), .int .i64 xc, .int .u32 (n : Int), .string (bs nm), .slice ga ag.length gc] 50)
  have hsz := lt_of_some h.f
  have hsz2 := lt_of_some h.g
  have hsz3 := lt_of_some h.c
  have nsg : w.heap.size ≠ G := by omega
  have nsc : w.heap.size ≠ C := by omega
  unfold irV
  go_enter Try.func44, Try.ntmps44
  go_wp2_with fail
  generalize w.alloc (.cells #[.int .i64 kd, .int .i64 op, .int .i64 (d : Int), .int .i64 (a : Int), .int .i64 (b : Int), .int .i64 xc, .int .u32 (n : Int), .string (bs nm), .slice ga ag.length gc] 50) = w1 at h1 hx hb1 ⊢
  obtain ⟨f0, f1, f2, f3, f4, f5⟩ := h1.cells6
  obtain ⟨x0, x1, x2, x3, x4, x5, x6, x7, x8⟩ := ir_block (x := ⟨kd, op, d, a, b, xc, n, nm, ag⟩) hx
  simp only at f1 f2 f3 f4 f5 x0 x1 x2 x3 x4 x5 x6 x7 x8
  have gd := row_cell h1.g hdl
  have fz := row_free h1.g d
  have hd0 : (0 : Int) ≤ (d : Int) := by omega
  have hd1 : (d : Int) < (rg.length : Int) := by omega
  have kal : a < rg.length := hal
  have ga := row_cell h1.g kal
  have aw : rg[a] < 4294967296 := h1.regs _ (List.getElem_mem kal)
  have ia0 : (0 : Int) ≤ (a : Int) := by omega
  have ia1 : (a : Int) < (rg.length : Int) := by omega
  have kbl : b < rg.length := hbl
  have gb := row_cell h1.g kbl
  have bw : rg[b] < 4294967296 := h1.regs _ (List.getElem_mem kbl)
  have ib0 : (0 : Int) ≤ (b : Int) := by omega
  have ib1 : (b : Int) < (rg.length : Int) := by omega
  have hop := fun W => op_any op (rg[a] : Int) (rg[b] : Int) (by omega) (by omega) (by omega) (by omega) W
  rw [show opz op (rg[a] : Int) (rg[b] : Int) = (v0 : Int) from hv.symm] at hop
  clear hv
  have HB : Hid _ := bl_then hb1 (drew_bl w1)
  have H1 : Hid _ := h1
  have nfg := h1.fg
  have nfc := h1.fc
  have ngc := h1.gc
  have hS : (fun w' => w'.cell? ⟨F, 1, none⟩ = some (.slice (some ⟨G, 0, none⟩) rg.length rg.length) ∧ w'.cell? ⟨w.heap.size, 2, none⟩ = some (.int .i64 (d : Int)) ∧ w'.cell? ⟨w.heap.size, 3, none⟩ = some (.int .i64 (a : Int)) ∧ w'.cell? ⟨w.heap.size, 4, none⟩ = some (.int .i64 (b : Int)) ∧ w'.cell? ⟨w.heap.size, 1, none⟩ = some (.int .i64 op)) w1.drew := ⟨f1, x2, x3, x4, x1⟩
  have hS2 : ∀ v, (fun w' => w'.cell? ⟨F, 1, none⟩ = some (.slice (some ⟨G, 0, none⟩) rg.length rg.length) ∧ w'.cell? ⟨w.heap.size, 2, none⟩ = some (.int .i64 (d : Int)) ∧ w'.cell? ⟨w.heap.size, 3, none⟩ = some (.int .i64 (a : Int)) ∧ w'.cell? ⟨w.heap.size, 4, none⟩ = some (.int .i64 (b : Int)) ∧ w'.cell? ⟨w.heap.size, 1, none⟩ = some (.int .i64 op)) (w1.drew.setCell ⟨G, d, none⟩ v) := fun v => ⟨(World.cell?_of_block (setCell_other nfg)).trans f1, (World.cell?_of_block (setCell_other nsg)).trans x2, (World.cell?_of_block (setCell_other nsg)).trans x3, (World.cell?_of_block (setCell_other nsg)).trans x4, (World.cell?_of_block (setCell_other nsg)).trans x1⟩
  clear h h1 hx hb1
  refine wp_region_held_drew (S := (fun w' => w'.cell? ⟨F, 1, none⟩ = some (.slice (some ⟨G, 0, none⟩) rg.length rg.length) ∧ w'.cell? ⟨w.heap.size, 2, none⟩ = some (.int .i64 (d : Int)) ∧ w'.cell? ⟨w.heap.size, 3, none⟩ = some (.int .i64 (a : Int)) ∧ w'.cell? ⟨w.heap.size, 4, none⟩ = some (.int .i64 (b : Int)) ∧ w'.cell? ⟨w.heap.size, 1, none⟩ = some (.int .i64 op))) (by kernel_rfl) hS (fun hHeld => ?_)
  refine wpAnyH_take (i := 0) (v := ?_) rfl (by kernel_rfl) (by kernel_rfl) (by kernel_rfl) (fun _ _ _ h => h) (Or.inl ⟨by rfl, by intro w hSw; (try dsimp only at hSw); go_simp; all_goals with_reducible rfl⟩) hHeld ?_
  try simp only [Act.put]
  refine wpAnyH_take (i := 1) (v := ?_) rfl (by kernel_rfl) (by kernel_rfl) (by kernel_rfl) (fun _ _ _ h => h) (Or.inl ⟨by rfl, by intro w hSw; (try dsimp only at hSw); go_simp; all_goals with_reducible rfl⟩) hHeld ?_
  try simp only [Act.put]
  refine wpAnyH_take (i := 2) (v := ?_) rfl (by kernel_rfl) (by kernel_rfl) (by kernel_rfl) (fun _ _ _ h => h) (Or.inl ⟨by rfl, by intro w hSw; (try dsimp only at hSw); go_simp; all_goals with_reducible rfl⟩) hHeld ?_
  try simp only [Act.put]
  refine wpAnyH_take (i := 3) (v := ?_) rfl (by kernel_rfl) (by kernel_rfl) (by kernel_rfl) (fun _ _ _ h => h) (Or.inl ⟨by rfl, by intro w hSw; (try dsimp only at hSw); go_simp; all_goals with_reducible rfl⟩) hHeld ?_
  try simp only [Act.put]
  refine wpAnyH_take (i := 4) (v := ?_) rfl (by kernel_rfl) (by kernel_rfl) (by kernel_rfl) (fun _ _ _ h => h) (Or.inl ⟨by rfl, by intro w hSw; (try dsimp only at hSw); go_simp; all_goals with_reducible rfl⟩) hHeld ?_
  try simp only [Act.put]
  refine wpAnyH_take (i := 5) (v := ?_) rfl (by kernel_rfl) (by kernel_rfl) (by kernel_rfl) (fun _ _ _ h => h) (Or.inl ⟨by rfl, by intro w hSw; (try dsimp only at hSw); go_simp; all_goals with_reducible rfl⟩) hHeld ?_
  try simp only [Act.put]
  refine wpAnyH_take (i := 6) (v := ?_) rfl (by kernel_rfl) (by kernel_rfl) (by kernel_rfl) (fun _ _ _ h => h) (Or.inl ⟨by rfl, by intro w hSw; (try dsimp only at hSw); go_simp; all_goals with_reducible rfl⟩) hHeld ?_
  try simp only [Act.put]
  refine wpAnyH_take (i := 7) (v := ?_) rfl (by kernel_rfl) (by kernel_rfl) (by kernel_rfl) (fun _ _ _ h => h) (Or.inl ⟨by rfl, by intro w hSw; (try dsimp only at hSw); go_simp; all_goals with_reducible rfl⟩) hHeld ?_
  try simp only [Act.put]
  refine wpAnyH_take (i := 8) (v := ?_) rfl (by kernel_rfl) (by kernel_rfl) (by kernel_rfl) (fun _ _ _ h => h) (Or.inl ⟨by rfl, by intro w hSw; (try dsimp only at hSw); go_simp; all_goals with_reducible rfl⟩) hHeld ?_
  try simp only [Act.put]
  refine wpAnyH_take (i := 9) (v := ?_) rfl (by kernel_rfl) (by kernel_rfl) (by kernel_rfl) (fun _ _ _ h => h) (Or.inl ⟨by rfl, by intro w hSw; (try dsimp only at hSw); go_simp; all_goals with_reducible rfl⟩) hHeld ?_
  try simp only [Act.put]
  refine wpAnyH_take (i := 10) (v := ?_) rfl (by kernel_rfl) (by kernel_rfl) (by kernel_rfl) (fun _ _ _ h => h) (Or.inl ⟨by rfl, by intro w hSw; (try dsimp only at hSw); go_simp; all_goals with_reducible rfl⟩) hHeld ?_
  try simp only [Act.put]
  refine wpAnyH_take (i := 11) (v := ?_) rfl (by kernel_rfl) (by kernel_rfl) (by kernel_rfl) (fun _ _ _ h => h) (Or.inl ⟨by rfl, by intro w hSw; (try dsimp only at hSw); go_simp; all_goals with_reducible rfl⟩) hHeld ?_
  try simp only [Act.put]
  refine wpAnyH_take (i := 12) (v := ?_) rfl (by kernel_rfl) (by kernel_rfl) (by kernel_rfl) (fun _ _ _ h => h) (Or.inl ⟨by rfl, by intro w hSw; (try dsimp only at hSw); go_simp; all_goals with_reducible rfl⟩) hHeld ?_
  try simp only [Act.put]
  refine wpAnyH_take (i := 13) (v := ?_) rfl (by kernel_rfl) (by kernel_rfl) (by kernel_rfl) (fun _ _ _ h => h) (Or.inl ⟨by rfl, by intro w hSw; (try dsimp only at hSw); go_simp; all_goals with_reducible rfl⟩) hHeld ?_
  try simp only [Act.put]
  refine wpAnyH_take (i := 14) (v := ?_) rfl (by kernel_rfl) (by kernel_rfl) (by kernel_rfl) (fun _ _ _ h => h) (Or.inl ⟨by rfl, by intro w hSw; (try dsimp only at hSw); go_simp; all_goals with_reducible rfl⟩) hHeld ?_
  try simp only [Act.put]
  refine wpAnyH_take (i := 16) (v := ?_) rfl (by kernel_rfl) (by kernel_rfl) (by kernel_rfl) (fun _ _ _ h => h) (Or.inl ⟨by rfl, by intro w hSw; (try dsimp only at hSw); go_simp; all_goals with_reducible rfl⟩) hHeld ?_
  try simp only [Act.put]
  refine wpAnyH_take (i := 17) (v := ?_) rfl (by kernel_rfl) (by kernel_rfl) (by kernel_rfl) (fun _ _ _ h => h) (Or.inl ⟨by rfl, by intro w hSw; (try dsimp only at hSw); go_simp; all_goals with_reducible rfl⟩) hHeld ?_
  try simp only [Act.put]
  refine wpAnyH_take (i := 18) (v := ?_) rfl (by kernel_rfl) (by kernel_rfl) (by kernel_rfl) (fun _ _ _ h => h) (Or.inl ⟨by rfl, by intro w hSw; (try dsimp only at hSw); go_simp; all_goals with_reducible rfl⟩) hHeld ?_
  try simp only [Act.put]
  refine wpAnyH_take (i := 19) (v := ?_) rfl (by kernel_rfl) (by kernel_rfl) (by kernel_rfl) (fun _ _ _ h => h) (Or.inl ⟨by rfl, by intro w hSw; (try dsimp only at hSw); go_simp; all_goals with_reducible rfl⟩) hHeld ?_
  try simp only [Act.put]
  refine wpAnyH_take (i := 20) (v := ?_) rfl (by kernel_rfl) (by kernel_rfl) (by kernel_rfl) (fun _ _ _ h => h) (Or.inl ⟨by rfl, by intro w hSw; (try dsimp only at hSw); go_simp; all_goals with_reducible rfl⟩) hHeld ?_
  try simp only [Act.put]
  refine wpAnyH_take (i := 21) (v := ?_) rfl (by kernel_rfl) (by kernel_rfl) (by kernel_rfl) (fun _ _ _ h => h) (Or.inl ⟨by rfl, by intro w hSw; (try dsimp only at hSw); go_simp; all_goals with_reducible rfl⟩) hHeld ?_
  try simp only [Act.put]
  refine wpAnyH_take (i := 22) (v := ?_) rfl (by kernel_rfl) (by kernel_rfl) (by kernel_rfl) (fun _ _ _ h => h) (Or.inl ⟨by rfl, by intro w hSw; (try dsimp only at hSw); go_simp; all_goals with_reducible rfl⟩) hHeld ?_
  try simp only [Act.put]
  refine wpAnyH_ready (rs := [15, 23]) (by kernel_rfl) (by simp) ?_
  refine AllReadyH.cons rfl (fun K hK => ?_) (AllReadyH.cons rfl (fun K hK => ?_) (AllReadyH.nil))
  · go_simp
    refine hK.out _ _ hHeld (fun hHeld => ?_)
    clear hK K
    try simp only [Act.put]
    refine wpAnyH_ready (rs := [23]) (by kernel_rfl) (by simp) ?_
    refine AllReadyH.cons rfl (fun K hK => ?_) (AllReadyH.nil)
    go_simp
    refine hK.out _ _ hHeld (fun hHeld => ?_)
    clear hK K
    try simp only [Act.put]
    refine wpAnyH_ready (rs := [24]) (by kernel_rfl) (by simp) ?_
    refine AllReadyH.cons rfl (fun K hK => ?_) (AllReadyH.nil)
    go_simp
    go_at_call 71
    refine (hop _).mono ?_
    rintro e w3 ⟨rfl, hq⟩
    have hq' := hq.symm
    subst hq'
    refine hK.out _ _ hHeld (fun hHeld => ?_)
    clear hK K
    try simp only [Act.put]
    refine wpAnyH_take (i := 25) (v := ?_) rfl (by kernel_rfl) (by kernel_rfl) (by kernel_rfl) (fun _ _ _ h => h) (Or.inl ⟨by rfl, by intro w hSw; (try dsimp only at hSw); go_simp; all_goals with_reducible rfl⟩) hHeld ?_
    try simp only [Act.put]
    refine wpAnyH_take (i := 26) (v := ?_) rfl (by kernel_rfl) (by kernel_rfl) (by kernel_rfl) (fun _ _ _ h => h) (Or.inl ⟨by rfl, by intro w hSw; (try dsimp only at hSw); go_simp; all_goals with_reducible rfl⟩) hHeld ?_
    try simp only [Act.put]
    refine wpAnyH_take (i := 27) (v := ?_) rfl (by kernel_rfl) (by kernel_rfl) (by kernel_rfl) (fun _ _ _ h => h) (Or.inl ⟨by rfl, by intro w hSw; (try dsimp only at hSw); go_simp; all_goals with_reducible rfl⟩) hHeld ?_
    try simp only [Act.put]
    refine wpAnyH_take (i := 28) (v := ?_) rfl (by kernel_rfl) (by kernel_rfl) (by kernel_rfl) (fun _ _ _ h => h) (Or.inl ⟨by rfl, by intro w hSw; (try dsimp only at hSw); go_simp; all_goals with_reducible rfl⟩) hHeld ?_
    try simp only [Act.put]
    refine wpAnyH_ready (rs := [29]) (by kernel_rfl) (by simp) ?_
    refine AllReadyH.cons rfl (fun K hK => ?_) (AllReadyH.nil)
    go_simp
    refine hK.out _ _ (hS2 _) (fun hHeld => ?_)
    clear hK K
    try simp only [Act.put]
    refine wpAnyH_done (by kernel_rfl) ?_ _
    go_wp2_with fail
    go_end0
    exact ⟨rfl, SetR.of (n := v0) HB.out (by exact H1.out.g)⟩
  · go_simp
    refine hK.out _ _ hHeld (fun hHeld => ?_)
    clear hK K
    try simp only [Act.put]
    refine wpAnyH_ready (rs := [15]) (by kernel_rfl) (by simp) ?_
    refine AllReadyH.cons rfl (fun K hK => ?_) (AllReadyH.nil)
    go_simp
    refine hK.out _ _ hHeld (fun hHeld => ?_)
    clear hK K
    try simp only [Act.put]
    refine wpAnyH_ready (rs := [24]) (by kernel_rfl) (by simp) ?_
    refine AllReadyH.cons rfl (fun K hK => ?_) (AllReadyH.nil)
    go_simp
    go_at_call 71
    refine (hop _).mono ?_
    rintro e w3 ⟨rfl, hq⟩
    have hq' := hq.symm
    subst hq'
    refine hK.out _ _ hHeld (fun hHeld => ?_)
    clear hK K
    try simp only [Act.put]
    refine wpAnyH_take (i := 25) (v := ?_) rfl (by kernel_rfl) (by kernel_rfl) (by kernel_rfl) (fun _ _ _ h => h) (Or.inl ⟨by rfl, by intro w hSw; (try dsimp only at hSw); go_simp; all_goals with_reducible rfl⟩) hHeld ?_
    try simp only [Act.put]
    refine wpAnyH_take (i := 26) (v := ?_) rfl (by kernel_rfl) (by kernel_rfl) (by kernel_rfl) (fun _ _ _ h => h) (Or.inl ⟨by rfl, by intro w hSw; (try dsimp only at hSw); go_simp; all_goals with_reducible rfl⟩) hHeld ?_
    try simp only [Act.put]
    refine wpAnyH_take (i := 27) (v := ?_) rfl (by kernel_rfl) (by kernel_rfl) (by kernel_rfl) (fun _ _ _ h => h) (Or.inl ⟨by rfl, by intro w hSw; (try dsimp only at hSw); go_simp; all_goals with_reducible rfl⟩) hHeld ?_
    try simp only [Act.put]
    refine wpAnyH_take (i := 28) (v := ?_) rfl (by kernel_rfl) (by kernel_rfl) (by kernel_rfl) (fun _ _ _ h => h) (Or.inl ⟨by rfl, by intro w hSw; (try dsimp only at hSw); go_simp; all_goals with_reducible rfl⟩) hHeld ?_
    try simp only [Act.put]
    refine wpAnyH_ready (rs := [29]) (by kernel_rfl) (by simp) ?_
    refine AllReadyH.cons rfl (fun K hK => ?_) (AllReadyH.nil)
    go_simp
    refine hK.out _ _ (hS2 _) (fun hHeld => ?_)
    clear hK K
    try simp only [Act.put]
    refine wpAnyH_done (by kernel_rfl) ?_ _
    go_wp2_with fail
    go_end0
    exact ⟨rfl, SetR.of (n := v0) HB.out (by exact H1.out.g)⟩
set_option maxRecDepth 100000 in
set_option maxHeartbeats 4000000 in
theorem pick_any {R F G C : Nat} {fr : Fr} (x : Ir) (ga : Option Addr) (gc : Nat) (w : World) (h : FrM w R F G C fr) (d : Nat) (hd : x.d = d) (hdl : d < fr.regs.length) (a : Nat) (ha : x.a = a) (hal : a < fr.regs.length) (b : Nat) (hb : x.b = b) (hbl : b < fr.regs.length) (c : Nat) (hc : x.c = c) (hcl : c < fr.regs.length) (v0 : Nat) (hv : v0 = if fr.regs[a] = 0 then fr.regs[c] else fr.regs[b]) :
    Calls Try.prog 45 #[.pointer (some ⟨F, 0, none⟩), irV x ga gc] w fun e w' => e = .returned (.tuple #[]) ∧ SetR w w' G (fr.regs.set d v0) := by
  obtain ⟨kd, op, xd, xa, xb, xc, n, nm, ag⟩ := x
  obtain ⟨rg, cl, nx, en, rs⟩ := fr
  simp only at *
  subst hd
  subst ha
  subst hb
  subst hc
  have h1 := h.box (.cells #[.int .i64 kd, .int .i64 op, .int .i64 (d : Int), .int .i64 (a : Int), .int .i64 (b : Int), .int .i64 (c : Int), .int .u32 (n : Int), .string (bs nm), .slice ga ag.length gc] 50)
  have hx := heap_alloc_new w (.cells #[.int .i64 kd, .int .i64 op, .int .i64 (d : Int), .int .i64 (a : Int), .int .i64 (b : Int), .int .i64 (c : Int), .int .u32 (n : Int), .string (bs nm), .slice ga ag.length gc] 50)
  have hb1 := bl_alloc (Below.refl w.heap.size w) (.cells #[.int .i64 kd, .int .i64 op, .int .i64 (d : Int), .int .i64 (a : Int), .int .i64 (b : Int), .int .i64 (c : Int), .int .u32 (n : Int), .string (bs nm), .slice ga ag.length gc] 50)
  have hsz := lt_of_some h.f
  have hsz2 := lt_of_some h.g
  have hsz3 := lt_of_some h.c
  have nsg : w.heap.size ≠ G := by omega
  have nsc : w.heap.size ≠ C := by omega
  unfold irV
  go_enter Try.func45, Try.ntmps45
  go_wp2_with fail
  generalize w.alloc (.cells #[.int .i64 kd, .int .i64 op, .int .i64 (d : Int), .int .i64 (a : Int), .int .i64 (b : Int), .int .i64 (c : Int), .int .u32 (n : Int), .string (bs nm), .slice ga ag.length gc] 50) = w1 at h1 hx hb1 ⊢
  obtain ⟨f0, f1, f2, f3, f4, f5⟩ := h1.cells6
  obtain ⟨x0, x1, x2, x3, x4, x5, x6, x7, x8⟩ := ir_block (x := ⟨kd, op, d, a, b, c, n, nm, ag⟩) hx
  simp only at f1 f2 f3 f4 f5 x0 x1 x2 x3 x4 x5 x6 x7 x8
  have gd := row_cell h1.g hdl
  have fz := row_free h1.g d
  have hd0 : (0 : Int) ≤ (d : Int) := by omega
  have hd1 : (d : Int) < (rg.length : Int) := by omega
  have kal : a < rg.length := hal
  have ga := row_cell h1.g kal
  have aw : rg[a] < 4294967296 := h1.regs _ (List.getElem_mem kal)
  have ia0 : (0 : Int) ≤ (a : Int) := by omega
  have ia1 : (a : Int) < (rg.length : Int) := by omega
  have kbl : b < rg.length := hbl
  have gb := row_cell h1.g kbl
  have bw : rg[b] < 4294967296 := h1.regs _ (List.getElem_mem kbl)
  have ib0 : (0 : Int) ≤ (b : Int) := by omega
  have ib1 : (b : Int) < (rg.length : Int) := by omega
  have kcl : c < rg.length := hcl
  have gc := row_cell h1.g kcl
  have cw : rg[c] < 4294967296 := h1.regs _ (List.getElem_mem kcl)
  have ic0 : (0 : Int) ≤ (c : Int) := by omega
  have ic1 : (c : Int) < (rg.length : Int) := by omega
  have hsel : ∀ W, Calls Try.prog 72 #[.int .u32 (rg[a] : Int), .int .u32 (rg[b] : Int), .int .u32 (rg[c] : Int)] W fun e w2 => e = .returned (.int .u32 ((if rg[a] = 0 then rg[c] else rg[b] : Nat) : Int)) ∧ w2 = W := fun W => by
    refine (sel_any (rg[a] : Int) (rg[b] : Int) (rg[c] : Int) W).mono fun e w2 hh => ⟨hh.1.trans ?_, hh.2⟩
    by_cases hz : rg[a] = 0
    · rw [if_pos (by omega), if_pos hz]
    · rw [if_neg (by omega), if_neg hz]
  rw [show (if rg[a] = 0 then rg[c] else rg[b]) = v0 from hv.symm] at hsel
  clear hv
  have HB : Hid _ := bl_then hb1 (drew_bl w1)
  have H1 : Hid _ := h1
  have nfg := h1.fg
  have nfc := h1.fc
  have ngc := h1.gc
  have hS : (fun w' => w'.cell? ⟨F, 1, none⟩ = some (.slice (some ⟨G, 0, none⟩) rg.length rg.length) ∧ w'.cell? ⟨w.heap.size, 2, none⟩ = some (.int .i64 (d : Int)) ∧ w'.cell? ⟨w.heap.size, 3, none⟩ = some (.int .i64 (a : Int)) ∧ w'.cell? ⟨w.heap.size, 4, none⟩ = some (.int .i64 (b : Int)) ∧ w'.cell? ⟨w.heap.size, 5, none⟩ = some (.int .i64 (c : Int))) w1.drew := ⟨f1, x2, x3, x4, x5⟩
  have hS2 : ∀ v, (fun w' => w'.cell? ⟨F, 1, none⟩ = some (.slice (some ⟨G, 0, none⟩) rg.length rg.length) ∧ w'.cell? ⟨w.heap.size, 2, none⟩ = some (.int .i64 (d : Int)) ∧ w'.cell? ⟨w.heap.size, 3, none⟩ = some (.int .i64 (a : Int)) ∧ w'.cell? ⟨w.heap.size, 4, none⟩ = some (.int .i64 (b : Int)) ∧ w'.cell? ⟨w.heap.size, 5, none⟩ = some (.int .i64 (c : Int))) (w1.drew.setCell ⟨G, d, none⟩ v) := fun v => ⟨(World.cell?_of_block (setCell_other nfg)).trans f1, (World.cell?_of_block (setCell_other nsg)).trans x2, (World.cell?_of_block (setCell_other nsg)).trans x3, (World.cell?_of_block (setCell_other nsg)).trans x4, (World.cell?_of_block (setCell_other nsg)).trans x5⟩
  clear h h1 hx hb1
  refine wp_region_held_drew (S := (fun w' => w'.cell? ⟨F, 1, none⟩ = some (.slice (some ⟨G, 0, none⟩) rg.length rg.length) ∧ w'.cell? ⟨w.heap.size, 2, none⟩ = some (.int .i64 (d : Int)) ∧ w'.cell? ⟨w.heap.size, 3, none⟩ = some (.int .i64 (a : Int)) ∧ w'.cell? ⟨w.heap.size, 4, none⟩ = some (.int .i64 (b : Int)) ∧ w'.cell? ⟨w.heap.size, 5, none⟩ = some (.int .i64 (c : Int)))) (by kernel_rfl) hS (fun hHeld => ?_)
  refine wpAnyH_take (i := 0) (v := ?_) rfl (by kernel_rfl) (by kernel_rfl) (by kernel_rfl) (fun _ _ _ h => h) (Or.inl ⟨by rfl, by intro w hSw; (try dsimp only at hSw); go_simp; all_goals with_reducible rfl⟩) hHeld ?_
  try simp only [Act.put]
  refine wpAnyH_take (i := 1) (v := ?_) rfl (by kernel_rfl) (by kernel_rfl) (by kernel_rfl) (fun _ _ _ h => h) (Or.inl ⟨by rfl, by intro w hSw; (try dsimp only at hSw); go_simp; all_goals with_reducible rfl⟩) hHeld ?_
  try simp only [Act.put]
  refine wpAnyH_take (i := 2) (v := ?_) rfl (by kernel_rfl) (by kernel_rfl) (by kernel_rfl) (fun _ _ _ h => h) (Or.inl ⟨by rfl, by intro w hSw; (try dsimp only at hSw); go_simp; all_goals with_reducible rfl⟩) hHeld ?_
  try simp only [Act.put]
  refine wpAnyH_take (i := 3) (v := ?_) rfl (by kernel_rfl) (by kernel_rfl) (by kernel_rfl) (fun _ _ _ h => h) (Or.inl ⟨by rfl, by intro w hSw; (try dsimp only at hSw); go_simp; all_goals with_reducible rfl⟩) hHeld ?_
  try simp only [Act.put]
  refine wpAnyH_take (i := 4) (v := ?_) rfl (by kernel_rfl) (by kernel_rfl) (by kernel_rfl) (fun _ _ _ h => h) (Or.inl ⟨by rfl, by intro w hSw; (try dsimp only at hSw); go_simp; all_goals with_reducible rfl⟩) hHeld ?_
  try simp only [Act.put]
  refine wpAnyH_take (i := 5) (v := ?_) rfl (by kernel_rfl) (by kernel_rfl) (by kernel_rfl) (fun _ _ _ h => h) (Or.inl ⟨by rfl, by intro w hSw; (try dsimp only at hSw); go_simp; all_goals with_reducible rfl⟩) hHeld ?_
  try simp only [Act.put]
  refine wpAnyH_take (i := 6) (v := ?_) rfl (by kernel_rfl) (by kernel_rfl) (by kernel_rfl) (fun _ _ _ h => h) (Or.inl ⟨by rfl, by intro w hSw; (try dsimp only at hSw); go_simp; all_goals with_reducible rfl⟩) hHeld ?_
  try simp only [Act.put]
  refine wpAnyH_take (i := 7) (v := ?_) rfl (by kernel_rfl) (by kernel_rfl) (by kernel_rfl) (fun _ _ _ h => h) (Or.inl ⟨by rfl, by intro w hSw; (try dsimp only at hSw); go_simp; all_goals with_reducible rfl⟩) hHeld ?_
  try simp only [Act.put]
  refine wpAnyH_take (i := 8) (v := ?_) rfl (by kernel_rfl) (by kernel_rfl) (by kernel_rfl) (fun _ _ _ h => h) (Or.inl ⟨by rfl, by intro w hSw; (try dsimp only at hSw); go_simp; all_goals with_reducible rfl⟩) hHeld ?_
  try simp only [Act.put]
  refine wpAnyH_take (i := 9) (v := ?_) rfl (by kernel_rfl) (by kernel_rfl) (by kernel_rfl) (fun _ _ _ h => h) (Or.inl ⟨by rfl, by intro w hSw; (try dsimp only at hSw); go_simp; all_goals with_reducible rfl⟩) hHeld ?_
  try simp only [Act.put]
  refine wpAnyH_take (i := 10) (v := ?_) rfl (by kernel_rfl) (by kernel_rfl) (by kernel_rfl) (fun _ _ _ h => h) (Or.inl ⟨by rfl, by intro w hSw; (try dsimp only at hSw); go_simp; all_goals with_reducible rfl⟩) hHeld ?_
  try simp only [Act.put]
  refine wpAnyH_take (i := 11) (v := ?_) rfl (by kernel_rfl) (by kernel_rfl) (by kernel_rfl) (fun _ _ _ h => h) (Or.inl ⟨by rfl, by intro w hSw; (try dsimp only at hSw); go_simp; all_goals with_reducible rfl⟩) hHeld ?_
  try simp only [Act.put]
  refine wpAnyH_take (i := 12) (v := ?_) rfl (by kernel_rfl) (by kernel_rfl) (by kernel_rfl) (fun _ _ _ h => h) (Or.inl ⟨by rfl, by intro w hSw; (try dsimp only at hSw); go_simp; all_goals with_reducible rfl⟩) hHeld ?_
  try simp only [Act.put]
  refine wpAnyH_take (i := 14) (v := ?_) rfl (by kernel_rfl) (by kernel_rfl) (by kernel_rfl) (fun _ _ _ h => h) (Or.inl ⟨by rfl, by intro w hSw; (try dsimp only at hSw); go_simp; all_goals with_reducible rfl⟩) hHeld ?_
  try simp only [Act.put]
  refine wpAnyH_take (i := 15) (v := ?_) rfl (by kernel_rfl) (by kernel_rfl) (by kernel_rfl) (fun _ _ _ h => h) (Or.inl ⟨by rfl, by intro w hSw; (try dsimp only at hSw); go_simp; all_goals with_reducible rfl⟩) hHeld ?_
  try simp only [Act.put]
  refine wpAnyH_take (i := 16) (v := ?_) rfl (by kernel_rfl) (by kernel_rfl) (by kernel_rfl) (fun _ _ _ h => h) (Or.inl ⟨by rfl, by intro w hSw; (try dsimp only at hSw); go_simp; all_goals with_reducible rfl⟩) hHeld ?_
  try simp only [Act.put]
  refine wpAnyH_take (i := 17) (v := ?_) rfl (by kernel_rfl) (by kernel_rfl) (by kernel_rfl) (fun _ _ _ h => h) (Or.inl ⟨by rfl, by intro w hSw; (try dsimp only at hSw); go_simp; all_goals with_reducible rfl⟩) hHeld ?_
  try simp only [Act.put]
  refine wpAnyH_take (i := 18) (v := ?_) rfl (by kernel_rfl) (by kernel_rfl) (by kernel_rfl) (fun _ _ _ h => h) (Or.inl ⟨by rfl, by intro w hSw; (try dsimp only at hSw); go_simp; all_goals with_reducible rfl⟩) hHeld ?_
  try simp only [Act.put]
  refine wpAnyH_take (i := 19) (v := ?_) rfl (by kernel_rfl) (by kernel_rfl) (by kernel_rfl) (fun _ _ _ h => h) (Or.inl ⟨by rfl, by intro w hSw; (try dsimp only at hSw); go_simp; all_goals with_reducible rfl⟩) hHeld ?_
  try simp only [Act.put]
  refine wpAnyH_take (i := 20) (v := ?_) rfl (by kernel_rfl) (by kernel_rfl) (by kernel_rfl) (fun _ _ _ h => h) (Or.inl ⟨by rfl, by intro w hSw; (try dsimp only at hSw); go_simp; all_goals with_reducible rfl⟩) hHeld ?_
  try simp only [Act.put]
  refine wpAnyH_take (i := 22) (v := ?_) rfl (by kernel_rfl) (by kernel_rfl) (by kernel_rfl) (fun _ _ _ h => h) (Or.inl ⟨by rfl, by intro w hSw; (try dsimp only at hSw); go_simp; all_goals with_reducible rfl⟩) hHeld ?_
  try simp only [Act.put]
  refine wpAnyH_take (i := 23) (v := ?_) rfl (by kernel_rfl) (by kernel_rfl) (by kernel_rfl) (fun _ _ _ h => h) (Or.inl ⟨by rfl, by intro w hSw; (try dsimp only at hSw); go_simp; all_goals with_reducible rfl⟩) hHeld ?_
  try simp only [Act.put]
  refine wpAnyH_take (i := 24) (v := ?_) rfl (by kernel_rfl) (by kernel_rfl) (by kernel_rfl) (fun _ _ _ h => h) (Or.inl ⟨by rfl, by intro w hSw; (try dsimp only at hSw); go_simp; all_goals with_reducible rfl⟩) hHeld ?_
  try simp only [Act.put]
  refine wpAnyH_take (i := 25) (v := ?_) rfl (by kernel_rfl) (by kernel_rfl) (by kernel_rfl) (fun _ _ _ h => h) (Or.inl ⟨by rfl, by intro w hSw; (try dsimp only at hSw); go_simp; all_goals with_reducible rfl⟩) hHeld ?_
  try simp only [Act.put]
  refine wpAnyH_take (i := 26) (v := ?_) rfl (by kernel_rfl) (by kernel_rfl) (by kernel_rfl) (fun _ _ _ h => h) (Or.inl ⟨by rfl, by intro w hSw; (try dsimp only at hSw); go_simp; all_goals with_reducible rfl⟩) hHeld ?_
  try simp only [Act.put]
  refine wpAnyH_take (i := 27) (v := ?_) rfl (by kernel_rfl) (by kernel_rfl) (by kernel_rfl) (fun _ _ _ h => h) (Or.inl ⟨by rfl, by intro w hSw; (try dsimp only at hSw); go_simp; all_goals with_reducible rfl⟩) hHeld ?_
  try simp only [Act.put]
  refine wpAnyH_take (i := 28) (v := ?_) rfl (by kernel_rfl) (by kernel_rfl) (by kernel_rfl) (fun _ _ _ h => h) (Or.inl ⟨by rfl, by intro w hSw; (try dsimp only at hSw); go_simp; all_goals with_reducible rfl⟩) hHeld ?_
  try simp only [Act.put]
  refine wpAnyH_ready (rs := [13, 21, 29]) (by kernel_rfl) (by simp) ?_
  refine AllReadyH.cons rfl (fun K hK => ?_) (AllReadyH.cons rfl (fun K hK => ?_) (AllReadyH.cons rfl (fun K hK => ?_) (AllReadyH.nil)))
  · go_simp
    refine hK.out _ _ hHeld (fun hHeld => ?_)
    clear hK K
    try simp only [Act.put]
    refine wpAnyH_ready (rs := [21, 29]) (by kernel_rfl) (by simp) ?_
    refine AllReadyH.cons rfl (fun K hK => ?_) (AllReadyH.cons rfl (fun K hK => ?_) (AllReadyH.nil))
    · go_simp
      refine hK.out _ _ hHeld (fun hHeld => ?_)
      clear hK K
      try simp only [Act.put]
      refine wpAnyH_ready (rs := [29]) (by kernel_rfl) (by simp) ?_
      refine AllReadyH.cons rfl (fun K hK => ?_) (AllReadyH.nil)
      go_simp
      refine hK.out _ _ hHeld (fun hHeld => ?_)
      clear hK K
      try simp only [Act.put]
      refine wpAnyH_ready (rs := [30]) (by kernel_rfl) (by simp) ?_
      refine AllReadyH.cons rfl (fun K hK => ?_) (AllReadyH.nil)
      go_simp
      go_at_call 72
      refine (hsel _).mono ?_
      rintro e w3 ⟨rfl, hq⟩
      have hq' := hq.symm
      subst hq'
      refine hK.out _ _ hHeld (fun hHeld => ?_)
      clear hK K
      try simp only [Act.put]
      refine wpAnyH_take (i := 31) (v := ?_) rfl (by kernel_rfl) (by kernel_rfl) (by kernel_rfl) (fun _ _ _ h => h) (Or.inl ⟨by rfl, by intro w hSw; (try dsimp only at hSw); go_simp; all_goals with_reducible rfl⟩) hHeld ?_
      try simp only [Act.put]
      refine wpAnyH_ready (rs := [32]) (by kernel_rfl) (by simp) ?_
      refine AllReadyH.cons rfl (fun K hK => ?_) (AllReadyH.nil)
      go_simp
      refine hK.out _ _ (hS2 _) (fun hHeld => ?_)
      clear hK K
      try simp only [Act.put]
      refine wpAnyH_done (by kernel_rfl) ?_ _
      go_wp2_with fail
      go_end0
      exact ⟨rfl, SetR.of (n := v0) HB.out (by exact H1.out.g)⟩
    · go_simp
      refine hK.out _ _ hHeld (fun hHeld => ?_)
      clear hK K
      try simp only [Act.put]
      refine wpAnyH_ready (rs := [21]) (by kernel_rfl) (by simp) ?_
      refine AllReadyH.cons rfl (fun K hK => ?_) (AllReadyH.nil)
      go_simp
      refine hK.out _ _ hHeld (fun hHeld => ?_)
      clear hK K
      try simp only [Act.put]
      refine wpAnyH_ready (rs := [30]) (by kernel_rfl) (by simp) ?_
      refine AllReadyH.cons rfl (fun K hK => ?_) (AllReadyH.nil)
      go_simp
      go_at_call 72
      refine (hsel _).mono ?_
      rintro e w3 ⟨rfl, hq⟩
      have hq' := hq.symm
      subst hq'
      refine hK.out _ _ hHeld (fun hHeld => ?_)
      clear hK K
      try simp only [Act.put]
      refine wpAnyH_take (i := 31) (v := ?_) rfl (by kernel_rfl) (by kernel_rfl) (by kernel_rfl) (fun _ _ _ h => h) (Or.inl ⟨by rfl, by intro w hSw; (try dsimp only at hSw); go_simp; all_goals with_reducible rfl⟩) hHeld ?_
      try simp only [Act.put]
      refine wpAnyH_ready (rs := [32]) (by kernel_rfl) (by simp) ?_
      refine AllReadyH.cons rfl (fun K hK => ?_) (AllReadyH.nil)
      go_simp
      refine hK.out _ _ (hS2 _) (fun hHeld => ?_)
      clear hK K
      try simp only [Act.put]
      refine wpAnyH_done (by kernel_rfl) ?_ _
      go_wp2_with fail
      go_end0
      exact ⟨rfl, SetR.of (n := v0) HB.out (by exact H1.out.g)⟩
  · go_simp
    refine hK.out _ _ hHeld (fun hHeld => ?_)
    clear hK K
    try simp only [Act.put]
    refine wpAnyH_ready (rs := [13, 29]) (by kernel_rfl) (by simp) ?_
    refine AllReadyH.cons rfl (fun K hK => ?_) (AllReadyH.cons rfl (fun K hK => ?_) (AllReadyH.nil))
    · go_simp
      refine hK.out _ _ hHeld (fun hHeld => ?_)
      clear hK K
      try simp only [Act.put]
      refine wpAnyH_ready (rs := [29]) (by kernel_rfl) (by simp) ?_
      refine AllReadyH.cons rfl (fun K hK => ?_) (AllReadyH.nil)
      go_simp
      refine hK.out _ _ hHeld (fun hHeld => ?_)
      clear hK K
      try simp only [Act.put]
      refine wpAnyH_ready (rs := [30]) (by kernel_rfl) (by simp) ?_
      refine AllReadyH.cons rfl (fun K hK => ?_) (AllReadyH.nil)
      go_simp
      go_at_call 72
      refine (hsel _).mono ?_
      rintro e w3 ⟨rfl, hq⟩
      have hq' := hq.symm
      subst hq'
      refine hK.out _ _ hHeld (fun hHeld => ?_)
      clear hK K
      try simp only [Act.put]
      refine wpAnyH_take (i := 31) (v := ?_) rfl (by kernel_rfl) (by kernel_rfl) (by kernel_rfl) (fun _ _ _ h => h) (Or.inl ⟨by rfl, by intro w hSw; (try dsimp only at hSw); go_simp; all_goals with_reducible rfl⟩) hHeld ?_
      try simp only [Act.put]
      refine wpAnyH_ready (rs := [32]) (by kernel_rfl) (by simp) ?_
      refine AllReadyH.cons rfl (fun K hK => ?_) (AllReadyH.nil)
      go_simp
      refine hK.out _ _ (hS2 _) (fun hHeld => ?_)
      clear hK K
      try simp only [Act.put]
      refine wpAnyH_done (by kernel_rfl) ?_ _
      go_wp2_with fail
      go_end0
      exact ⟨rfl, SetR.of (n := v0) HB.out (by exact H1.out.g)⟩
    · go_simp
      refine hK.out _ _ hHeld (fun hHeld => ?_)
      clear hK K
      try simp only [Act.put]
      refine wpAnyH_ready (rs := [13]) (by kernel_rfl) (by simp) ?_
      refine AllReadyH.cons rfl (fun K hK => ?_) (AllReadyH.nil)
      go_simp
      refine hK.out _ _ hHeld (fun hHeld => ?_)
      clear hK K
      try simp only [Act.put]
      refine wpAnyH_ready (rs := [30]) (by kernel_rfl) (by simp) ?_
      refine AllReadyH.cons rfl (fun K hK => ?_) (AllReadyH.nil)
      go_simp
      go_at_call 72
      refine (hsel _).mono ?_
      rintro e w3 ⟨rfl, hq⟩
      have hq' := hq.symm
      subst hq'
      refine hK.out _ _ hHeld (fun hHeld => ?_)
      clear hK K
      try simp only [Act.put]
      refine wpAnyH_take (i := 31) (v := ?_) rfl (by kernel_rfl) (by kernel_rfl) (by kernel_rfl) (fun _ _ _ h => h) (Or.inl ⟨by rfl, by intro w hSw; (try dsimp only at hSw); go_simp; all_goals with_reducible rfl⟩) hHeld ?_
      try simp only [Act.put]
      refine wpAnyH_ready (rs := [32]) (by kernel_rfl) (by simp) ?_
      refine AllReadyH.cons rfl (fun K hK => ?_) (AllReadyH.nil)
      go_simp
      refine hK.out _ _ (hS2 _) (fun hHeld => ?_)
      clear hK K
      try simp only [Act.put]
      refine wpAnyH_done (by kernel_rfl) ?_ _
      go_wp2_with fail
      go_end0
      exact ⟨rfl, SetR.of (n := v0) HB.out (by exact H1.out.g)⟩
  · go_simp
    refine hK.out _ _ hHeld (fun hHeld => ?_)
    clear hK K
    try simp only [Act.put]
    refine wpAnyH_ready (rs := [13, 21]) (by kernel_rfl) (by simp) ?_
    refine AllReadyH.cons rfl (fun K hK => ?_) (AllReadyH.cons rfl (fun K hK => ?_) (AllReadyH.nil))
    · go_simp
      refine hK.out _ _ hHeld (fun hHeld => ?_)
      clear hK K
      try simp only [Act.put]
      refine wpAnyH_ready (rs := [21]) (by kernel_rfl) (by simp) ?_
      refine AllReadyH.cons rfl (fun K hK => ?_) (AllReadyH.nil)
      go_simp
      refine hK.out _ _ hHeld (fun hHeld => ?_)
      clear hK K
      try simp only [Act.put]
      refine wpAnyH_ready (rs := [30]) (by kernel_rfl) (by simp) ?_
      refine AllReadyH.cons rfl (fun K hK => ?_) (AllReadyH.nil)
      go_simp
      go_at_call 72
      refine (hsel _).mono ?_
      rintro e w3 ⟨rfl, hq⟩
      have hq' := hq.symm
      subst hq'
      refine hK.out _ _ hHeld (fun hHeld => ?_)
      clear hK K
      try simp only [Act.put]
      refine wpAnyH_take (i := 31) (v := ?_) rfl (by kernel_rfl) (by kernel_rfl) (by kernel_rfl) (fun _ _ _ h => h) (Or.inl ⟨by rfl, by intro w hSw; (try dsimp only at hSw); go_simp; all_goals with_reducible rfl⟩) hHeld ?_
      try simp only [Act.put]
      refine wpAnyH_ready (rs := [32]) (by kernel_rfl) (by simp) ?_
      refine AllReadyH.cons rfl (fun K hK => ?_) (AllReadyH.nil)
      go_simp
      refine hK.out _ _ (hS2 _) (fun hHeld => ?_)
      clear hK K
      try simp only [Act.put]
      refine wpAnyH_done (by kernel_rfl) ?_ _
      go_wp2_with fail
      go_end0
      exact ⟨rfl, SetR.of (n := v0) HB.out (by exact H1.out.g)⟩
    · go_simp
      refine hK.out _ _ hHeld (fun hHeld => ?_)
      clear hK K
      try simp only [Act.put]
      refine wpAnyH_ready (rs := [13]) (by kernel_rfl) (by simp) ?_
      refine AllReadyH.cons rfl (fun K hK => ?_) (AllReadyH.nil)
      go_simp
      refine hK.out _ _ hHeld (fun hHeld => ?_)
      clear hK K
      try simp only [Act.put]
      refine wpAnyH_ready (rs := [30]) (by kernel_rfl) (by simp) ?_
      refine AllReadyH.cons rfl (fun K hK => ?_) (AllReadyH.nil)
      go_simp
      go_at_call 72
      refine (hsel _).mono ?_
      rintro e w3 ⟨rfl, hq⟩
      have hq' := hq.symm
      subst hq'
      refine hK.out _ _ hHeld (fun hHeld => ?_)
      clear hK K
      try simp only [Act.put]
      refine wpAnyH_take (i := 31) (v := ?_) rfl (by kernel_rfl) (by kernel_rfl) (by kernel_rfl) (fun _ _ _ h => h) (Or.inl ⟨by rfl, by intro w hSw; (try dsimp only at hSw); go_simp; all_goals with_reducible rfl⟩) hHeld ?_
      try simp only [Act.put]
      refine wpAnyH_ready (rs := [32]) (by kernel_rfl) (by simp) ?_
      refine AllReadyH.cons rfl (fun K hK => ?_) (AllReadyH.nil)
      go_simp
      refine hK.out _ _ (hS2 _) (fun hHeld => ?_)
      clear hK K
      try simp only [Act.put]
      refine wpAnyH_done (by kernel_rfl) ?_ _
      go_wp2_with fail
      go_end0
      exact ⟨rfl, SetR.of (n := v0) HB.out (by exact H1.out.g)⟩
set_option maxRecDepth 100000 in
set_option maxHeartbeats 4000000 in
theorem load_any {R F G C : Nat} {fr : Fr} (x : Ir) (ga : Option Addr) (gc : Nat) (w : World) (h : FrM w R F G C fr) (d : Nat) (hd : x.d = d) (hdl : d < fr.regs.length) (hnl : x.n < fr.cells.length) :
    Calls Try.prog 46 #[.pointer (some ⟨F, 0, none⟩), irV x ga gc] w fun e w' => e = .returned (.tuple #[]) ∧ SetR w w' G (fr.regs.set d fr.cells[x.n]) := by
  obtain ⟨kd, op, xd, xa, xb, xc, n, nm, ag⟩ := x
  obtain ⟨rg, cl, nx, en, rs⟩ := fr
  simp only at *
  subst hd
  have h1 := h.box (.cells #[.int .i64 kd, .int .i64 op, .int .i64 (d : Int), .int .i64 xa, .int .i64 xb, .int .i64 xc, .int .u32 (n : Int), .string (bs nm), .slice ga ag.length gc] 50)
  have hx := heap_alloc_new w (.cells #[.int .i64 kd, .int .i64 op, .int .i64 (d : Int), .int .i64 xa, .int .i64 xb, .int .i64 xc, .int .u32 (n : Int), .string (bs nm), .slice ga ag.length gc] 50)
  have hb1 := bl_alloc (Below.refl w.heap.size w) (.cells #[.int .i64 kd, .int .i64 op, .int .i64 (d : Int), .int .i64 xa, .int .i64 xb, .int .i64 xc, .int .u32 (n : Int), .string (bs nm), .slice ga ag.length gc] 50)
  have hsz := lt_of_some h.f
  have hsz2 := lt_of_some h.g
  have hsz3 := lt_of_some h.c
  have nsg : w.heap.size ≠ G := by omega
  have nsc : w.heap.size ≠ C := by omega
  unfold irV
  go_enter Try.func46, Try.ntmps46
  go_wp2_with fail
  generalize w.alloc (.cells #[.int .i64 kd, .int .i64 op, .int .i64 (d : Int), .int .i64 xa, .int .i64 xb, .int .i64 xc, .int .u32 (n : Int), .string (bs nm), .slice ga ag.length gc] 50) = w1 at h1 hx hb1 ⊢
  obtain ⟨f0, f1, f2, f3, f4, f5⟩ := h1.cells6
  obtain ⟨x0, x1, x2, x3, x4, x5, x6, x7, x8⟩ := ir_block (x := ⟨kd, op, d, xa, xb, xc, n, nm, ag⟩) hx
  simp only at f1 f2 f3 f4 f5 x0 x1 x2 x3 x4 x5 x6 x7 x8
  have gd := row_cell h1.g hdl
  have fz := row_free h1.g d
  have hd0 : (0 : Int) ≤ (d : Int) := by omega
  have hd1 : (d : Int) < (rg.length : Int) := by omega
  have knl : n < cl.length := hnl
  have gn := row_cell h1.c knl
  have in0 : (0 : Int) ≤ (n : Int) := by omega
  have in1 : (n : Int) < (cl.length : Int) := by omega
  have HB : Hid _ := bl_then hb1 (drew_bl w1)
  have H1 : Hid _ := h1
  have nfg := h1.fg
  have nfc := h1.fc
  have ngc := h1.gc
  have hS : (fun w' => w'.cell? ⟨F, 1, none⟩ = some (.slice (some ⟨G, 0, none⟩) rg.length rg.length) ∧ w'.cell? ⟨F, 2, none⟩ = some (.slice (some ⟨C, 0, none⟩) cl.length cl.length) ∧ w'.cell? ⟨w.heap.size, 2, none⟩ = some (.int .i64 (d : Int)) ∧ w'.cell? ⟨w.heap.size, 6, none⟩ = some (.int .u32 (n : Int)) ∧ w'.cell? ⟨C, n, none⟩ = some (.int .u32 (cl[n] : Int))) w1.drew := ⟨f1, f2, x2, x6, gn⟩
  have hS2 : ∀ v, (fun w' => w'.cell? ⟨F, 1, none⟩ = some (.slice (some ⟨G, 0, none⟩) rg.length rg.length) ∧ w'.cell? ⟨F, 2, none⟩ = some (.slice (some ⟨C, 0, none⟩) cl.length cl.length) ∧ w'.cell? ⟨w.heap.size, 2, none⟩ = some (.int .i64 (d : Int)) ∧ w'.cell? ⟨w.heap.size, 6, none⟩ = some (.int .u32 (n : Int)) ∧ w'.cell? ⟨C, n, none⟩ = some (.int .u32 (cl[n] : Int))) (w1.drew.setCell ⟨G, d, none⟩ v) := fun v => ⟨(World.cell?_of_block (setCell_other nfg)).trans f1, (World.cell?_of_block (setCell_other nfg)).trans f2, (World.cell?_of_block (setCell_other nsg)).trans x2, (World.cell?_of_block (setCell_other nsg)).trans x6, (World.cell?_of_block (setCell_other ngc.symm)).trans gn⟩
  clear h h1 hx hb1
  refine wp_region_held_drew (S := (fun w' => w'.cell? ⟨F, 1, none⟩ = some (.slice (some ⟨G, 0, none⟩) rg.length rg.length) ∧ w'.cell? ⟨F, 2, none⟩ = some (.slice (some ⟨C, 0, none⟩) cl.length cl.length) ∧ w'.cell? ⟨w.heap.size, 2, none⟩ = some (.int .i64 (d : Int)) ∧ w'.cell? ⟨w.heap.size, 6, none⟩ = some (.int .u32 (n : Int)) ∧ w'.cell? ⟨C, n, none⟩ = some (.int .u32 (cl[n] : Int)))) (by kernel_rfl) hS (fun hHeld => ?_)
  refine wpAnyH_take (i := 0) (v := ?_) rfl (by kernel_rfl) (by kernel_rfl) (by kernel_rfl) (fun _ _ _ h => h) (Or.inl ⟨by rfl, by intro w hSw; (try dsimp only at hSw); go_simp; all_goals with_reducible rfl⟩) hHeld ?_
  try simp only [Act.put]
  refine wpAnyH_take (i := 1) (v := ?_) rfl (by kernel_rfl) (by kernel_rfl) (by kernel_rfl) (fun _ _ _ h => h) (Or.inl ⟨by rfl, by intro w hSw; (try dsimp only at hSw); go_simp; all_goals with_reducible rfl⟩) hHeld ?_
  try simp only [Act.put]
  refine wpAnyH_take (i := 2) (v := ?_) rfl (by kernel_rfl) (by kernel_rfl) (by kernel_rfl) (fun _ _ _ h => h) (Or.inl ⟨by rfl, by intro w hSw; (try dsimp only at hSw); go_simp; all_goals with_reducible rfl⟩) hHeld ?_
  try simp only [Act.put]
  refine wpAnyH_take (i := 3) (v := ?_) rfl (by kernel_rfl) (by kernel_rfl) (by kernel_rfl) (fun _ _ _ h => h) (Or.inl ⟨by rfl, by intro w hSw; (try dsimp only at hSw); go_simp; all_goals with_reducible rfl⟩) hHeld ?_
  try simp only [Act.put]
  refine wpAnyH_take (i := 4) (v := ?_) rfl (by kernel_rfl) (by kernel_rfl) (by kernel_rfl) (fun _ _ _ h => h) (Or.inl ⟨by rfl, by intro w hSw; (try dsimp only at hSw); go_simp; all_goals with_reducible rfl⟩) hHeld ?_
  try simp only [Act.put]
  refine wpAnyH_take (i := 5) (v := ?_) rfl (by kernel_rfl) (by kernel_rfl) (by kernel_rfl) (fun _ _ _ h => h) (Or.inl ⟨by rfl, by intro w hSw; (try dsimp only at hSw); go_simp; all_goals with_reducible rfl⟩) hHeld ?_
  try simp only [Act.put]
  refine wpAnyH_take (i := 6) (v := ?_) rfl (by kernel_rfl) (by kernel_rfl) (by kernel_rfl) (fun _ _ _ h => h) (Or.inl ⟨by rfl, by intro w hSw; (try dsimp only at hSw); go_simp; all_goals with_reducible rfl⟩) hHeld ?_
  try simp only [Act.put]
  refine wpAnyH_take (i := 7) (v := ?_) rfl (by kernel_rfl) (by kernel_rfl) (by kernel_rfl) (fun _ _ _ h => h) (Or.inl ⟨by rfl, by intro w hSw; (try dsimp only at hSw); go_simp; all_goals with_reducible rfl⟩) hHeld ?_
  try simp only [Act.put]
  refine wpAnyH_take (i := 8) (v := ?_) rfl (by kernel_rfl) (by kernel_rfl) (by kernel_rfl) (fun _ _ _ h => h) (Or.inl ⟨by rfl, by intro w hSw; (try dsimp only at hSw); go_simp; all_goals with_reducible rfl⟩) hHeld ?_
  try simp only [Act.put]
  refine wpAnyH_take (i := 9) (v := ?_) rfl (by kernel_rfl) (by kernel_rfl) (by kernel_rfl) (fun _ _ _ h => h) (Or.inl ⟨by rfl, by intro w hSw; (try dsimp only at hSw); go_simp; all_goals with_reducible rfl⟩) hHeld ?_
  try simp only [Act.put]
  refine wpAnyH_take (i := 10) (v := ?_) rfl (by kernel_rfl) (by kernel_rfl) (by kernel_rfl) (fun _ _ _ h => h) (Or.inl ⟨by rfl, by intro w hSw; (try dsimp only at hSw); go_simp; all_goals with_reducible rfl⟩) hHeld ?_
  try simp only [Act.put]
  refine wpAnyH_take (i := 11) (v := ?_) rfl (by kernel_rfl) (by kernel_rfl) (by kernel_rfl) (fun _ _ _ h => h) (Or.inl ⟨by rfl, by intro w hSw; (try dsimp only at hSw); go_simp; all_goals with_reducible rfl⟩) hHeld ?_
  try simp only [Act.put]
  refine wpAnyH_take (i := 12) (v := ?_) rfl (by kernel_rfl) (by kernel_rfl) (by kernel_rfl) (fun _ _ _ h => h) (Or.inl ⟨by rfl, by intro w hSw; (try dsimp only at hSw); go_simp; all_goals with_reducible rfl⟩) hHeld ?_
  try simp only [Act.put]
  refine wpAnyH_take (i := 13) (v := ?_) rfl (by kernel_rfl) (by kernel_rfl) (by kernel_rfl) (fun _ _ _ h => h) (Or.inl ⟨by rfl, by intro w hSw; (try dsimp only at hSw); go_simp; all_goals with_reducible rfl⟩) hHeld ?_
  try simp only [Act.put]
  refine wpAnyH_take (i := 14) (v := ?_) rfl (by kernel_rfl) (by kernel_rfl) (by kernel_rfl) (fun _ _ _ h => h) (Or.inl ⟨by rfl, by intro w hSw; (try dsimp only at hSw); go_simp; all_goals with_reducible rfl⟩) hHeld ?_
  try simp only [Act.put]
  refine wpAnyH_ready (rs := [15]) (by kernel_rfl) (by simp) ?_
  refine AllReadyH.cons rfl (fun K hK => ?_) (AllReadyH.nil)
  go_simp
  refine hK.out _ _ (hS2 _) (fun hHeld => ?_)
  clear hK K
  try simp only [Act.put]
  refine wpAnyH_done (by kernel_rfl) ?_ _
  go_wp2_with fail
  go_end0
  exact ⟨rfl, SetR.of (n := cl[n]) HB.out (by exact H1.out.g)⟩
set_option maxRecDepth 100000 in
set_option maxHeartbeats 4000000 in
theorem store_any {R F G C : Nat} {fr : Fr} (x : Ir) (ga : Option Addr) (gc : Nat) (w : World) (h : FrM w R F G C fr) (a : Nat) (ha : x.a = a) (hal : a < fr.regs.length) (hnl : x.n < fr.cells.length) :
    Calls Try.prog 47 #[.pointer (some ⟨F, 0, none⟩), irV x ga gc] w fun e w' => e = .returned (.tuple #[]) ∧ SetR w w' C (fr.cells.set x.n fr.regs[a]) := by
  obtain ⟨kd, op, xd, xa, xb, xc, n, nm, ag⟩ := x
  obtain ⟨rg, cl, nx, en, rs⟩ := fr
  simp only at *
  subst ha
  have h1 := h.box (.cells #[.int .i64 kd, .int .i64 op, .int .i64 xd, .int .i64 (a : Int), .int .i64 xb, .int .i64 xc, .int .u32 (n : Int), .string (bs nm), .slice ga ag.length gc] 50)
  have hx := heap_alloc_new w (.cells #[.int .i64 kd, .int .i64 op, .int .i64 xd, .int .i64 (a : Int), .int .i64 xb, .int .i64 xc, .int .u32 (n : Int), .string (bs nm), .slice ga ag.length gc] 50)
  have hb1 := bl_alloc (Below.refl w.heap.size w) (.cells #[.int .i64 kd, .int .i64 op, .int .i64 xd, .int .i64 (a : Int), .int .i64 xb, .int .i64 xc, .int .u32 (n : Int), .string (bs nm), .slice ga ag.length gc] 50)
  have hsz := lt_of_some h.f
  have hsz2 := lt_of_some h.g
  have hsz3 := lt_of_some h.c
  have nsg : w.heap.size ≠ G := by omega
  have nsc : w.heap.size ≠ C := by omega
  unfold irV
  go_enter Try.func47, Try.ntmps47
  go_wp2_with fail
  generalize w.alloc (.cells #[.int .i64 kd, .int .i64 op, .int .i64 xd, .int .i64 (a : Int), .int .i64 xb, .int .i64 xc, .int .u32 (n : Int), .string (bs nm), .slice ga ag.length gc] 50) = w1 at h1 hx hb1 ⊢
  obtain ⟨f0, f1, f2, f3, f4, f5⟩ := h1.cells6
  obtain ⟨x0, x1, x2, x3, x4, x5, x6, x7, x8⟩ := ir_block (x := ⟨kd, op, xd, a, xb, xc, n, nm, ag⟩) hx
  simp only at f1 f2 f3 f4 f5 x0 x1 x2 x3 x4 x5 x6 x7 x8
  have kal : a < rg.length := hal
  have ga := row_cell h1.g kal
  have aw : rg[a] < 4294967296 := h1.regs _ (List.getElem_mem kal)
  have ia0 : (0 : Int) ≤ (a : Int) := by omega
  have ia1 : (a : Int) < (rg.length : Int) := by omega
  have knl : n < cl.length := hnl
  have gn := row_cell h1.c knl
  have fz := row_free h1.c n
  have in0 : (0 : Int) ≤ (n : Int) := by omega
  have in1 : (n : Int) < (cl.length : Int) := by omega
  have HB : Hid _ := bl_then hb1 (drew_bl w1)
  have H1 : Hid _ := h1
  have nfg := h1.fg
  have nfc := h1.fc
  have ngc := h1.gc
  have hS : (fun w' => w'.cell? ⟨F, 1, none⟩ = some (.slice (some ⟨G, 0, none⟩) rg.length rg.length) ∧ w'.cell? ⟨F, 2, none⟩ = some (.slice (some ⟨C, 0, none⟩) cl.length cl.length) ∧ w'.cell? ⟨w.heap.size, 3, none⟩ = some (.int .i64 (a : Int)) ∧ w'.cell? ⟨w.heap.size, 6, none⟩ = some (.int .u32 (n : Int)) ∧ w'.cell? ⟨G, a, none⟩ = some (.int .u32 (rg[a] : Int))) w1.drew := ⟨f1, f2, x3, x6, ga⟩
  have hS2 : ∀ v, (fun w' => w'.cell? ⟨F, 1, none⟩ = some (.slice (some ⟨G, 0, none⟩) rg.length rg.length) ∧ w'.cell? ⟨F, 2, none⟩ = some (.slice (some ⟨C, 0, none⟩) cl.length cl.length) ∧ w'.cell? ⟨w.heap.size, 3, none⟩ = some (.int .i64 (a : Int)) ∧ w'.cell? ⟨w.heap.size, 6, none⟩ = some (.int .u32 (n : Int)) ∧ w'.cell? ⟨G, a, none⟩ = some (.int .u32 (rg[a] : Int))) (w1.drew.setCell ⟨C, n, none⟩ v) := fun v => ⟨(World.cell?_of_block (setCell_other nfc)).trans f1, (World.cell?_of_block (setCell_other nfc)).trans f2, (World.cell?_of_block (setCell_other nsc)).trans x3, (World.cell?_of_block (setCell_other nsc)).trans x6, (World.cell?_of_block (setCell_other ngc)).trans ga⟩
  clear h h1 hx hb1
  refine wp_region_held_drew (S := (fun w' => w'.cell? ⟨F, 1, none⟩ = some (.slice (some ⟨G, 0, none⟩) rg.length rg.length) ∧ w'.cell? ⟨F, 2, none⟩ = some (.slice (some ⟨C, 0, none⟩) cl.length cl.length) ∧ w'.cell? ⟨w.heap.size, 3, none⟩ = some (.int .i64 (a : Int)) ∧ w'.cell? ⟨w.heap.size, 6, none⟩ = some (.int .u32 (n : Int)) ∧ w'.cell? ⟨G, a, none⟩ = some (.int .u32 (rg[a] : Int)))) (by kernel_rfl) hS (fun hHeld => ?_)
  refine wpAnyH_take (i := 0) (v := ?_) rfl (by kernel_rfl) (by kernel_rfl) (by kernel_rfl) (fun _ _ _ h => h) (Or.inl ⟨by rfl, by intro w hSw; (try dsimp only at hSw); go_simp; all_goals with_reducible rfl⟩) hHeld ?_
  try simp only [Act.put]
  refine wpAnyH_take (i := 1) (v := ?_) rfl (by kernel_rfl) (by kernel_rfl) (by kernel_rfl) (fun _ _ _ h => h) (Or.inl ⟨by rfl, by intro w hSw; (try dsimp only at hSw); go_simp; all_goals with_reducible rfl⟩) hHeld ?_
  try simp only [Act.put]
  refine wpAnyH_take (i := 2) (v := ?_) rfl (by kernel_rfl) (by kernel_rfl) (by kernel_rfl) (fun _ _ _ h => h) (Or.inl ⟨by rfl, by intro w hSw; (try dsimp only at hSw); go_simp; all_goals with_reducible rfl⟩) hHeld ?_
  try simp only [Act.put]
  refine wpAnyH_take (i := 3) (v := ?_) rfl (by kernel_rfl) (by kernel_rfl) (by kernel_rfl) (fun _ _ _ h => h) (Or.inl ⟨by rfl, by intro w hSw; (try dsimp only at hSw); go_simp; all_goals with_reducible rfl⟩) hHeld ?_
  try simp only [Act.put]
  refine wpAnyH_take (i := 4) (v := ?_) rfl (by kernel_rfl) (by kernel_rfl) (by kernel_rfl) (fun _ _ _ h => h) (Or.inl ⟨by rfl, by intro w hSw; (try dsimp only at hSw); go_simp; all_goals with_reducible rfl⟩) hHeld ?_
  try simp only [Act.put]
  refine wpAnyH_take (i := 5) (v := ?_) rfl (by kernel_rfl) (by kernel_rfl) (by kernel_rfl) (fun _ _ _ h => h) (Or.inl ⟨by rfl, by intro w hSw; (try dsimp only at hSw); go_simp; all_goals with_reducible rfl⟩) hHeld ?_
  try simp only [Act.put]
  refine wpAnyH_take (i := 6) (v := ?_) rfl (by kernel_rfl) (by kernel_rfl) (by kernel_rfl) (fun _ _ _ h => h) (Or.inl ⟨by rfl, by intro w hSw; (try dsimp only at hSw); go_simp; all_goals with_reducible rfl⟩) hHeld ?_
  try simp only [Act.put]
  refine wpAnyH_take (i := 7) (v := ?_) rfl (by kernel_rfl) (by kernel_rfl) (by kernel_rfl) (fun _ _ _ h => h) (Or.inl ⟨by rfl, by intro w hSw; (try dsimp only at hSw); go_simp; all_goals with_reducible rfl⟩) hHeld ?_
  try simp only [Act.put]
  refine wpAnyH_take (i := 8) (v := ?_) rfl (by kernel_rfl) (by kernel_rfl) (by kernel_rfl) (fun _ _ _ h => h) (Or.inl ⟨by rfl, by intro w hSw; (try dsimp only at hSw); go_simp; all_goals with_reducible rfl⟩) hHeld ?_
  try simp only [Act.put]
  refine wpAnyH_take (i := 9) (v := ?_) rfl (by kernel_rfl) (by kernel_rfl) (by kernel_rfl) (fun _ _ _ h => h) (Or.inl ⟨by rfl, by intro w hSw; (try dsimp only at hSw); go_simp; all_goals with_reducible rfl⟩) hHeld ?_
  try simp only [Act.put]
  refine wpAnyH_take (i := 10) (v := ?_) rfl (by kernel_rfl) (by kernel_rfl) (by kernel_rfl) (fun _ _ _ h => h) (Or.inl ⟨by rfl, by intro w hSw; (try dsimp only at hSw); go_simp; all_goals with_reducible rfl⟩) hHeld ?_
  try simp only [Act.put]
  refine wpAnyH_take (i := 11) (v := ?_) rfl (by kernel_rfl) (by kernel_rfl) (by kernel_rfl) (fun _ _ _ h => h) (Or.inl ⟨by rfl, by intro w hSw; (try dsimp only at hSw); go_simp; all_goals with_reducible rfl⟩) hHeld ?_
  try simp only [Act.put]
  refine wpAnyH_take (i := 12) (v := ?_) rfl (by kernel_rfl) (by kernel_rfl) (by kernel_rfl) (fun _ _ _ h => h) (Or.inl ⟨by rfl, by intro w hSw; (try dsimp only at hSw); go_simp; all_goals with_reducible rfl⟩) hHeld ?_
  try simp only [Act.put]
  refine wpAnyH_take (i := 13) (v := ?_) rfl (by kernel_rfl) (by kernel_rfl) (by kernel_rfl) (fun _ _ _ h => h) (Or.inl ⟨by rfl, by intro w hSw; (try dsimp only at hSw); go_simp; all_goals with_reducible rfl⟩) hHeld ?_
  try simp only [Act.put]
  refine wpAnyH_take (i := 14) (v := ?_) rfl (by kernel_rfl) (by kernel_rfl) (by kernel_rfl) (fun _ _ _ h => h) (Or.inl ⟨by rfl, by intro w hSw; (try dsimp only at hSw); go_simp; all_goals with_reducible rfl⟩) hHeld ?_
  try simp only [Act.put]
  refine wpAnyH_ready (rs := [15]) (by kernel_rfl) (by simp) ?_
  refine AllReadyH.cons rfl (fun K hK => ?_) (AllReadyH.nil)
  go_simp
  refine hK.out _ _ (hS2 _) (fun hHeld => ?_)
  clear hK K
  try simp only [Act.put]
  refine wpAnyH_done (by kernel_rfl) ?_ _
  go_wp2_with fail
  go_end0
  exact ⟨rfl, SetR.of (n := rg[a]) HB.out (by exact H1.out.c)⟩
end Go.Proofs.Ytndmkfmpdnoliaa
