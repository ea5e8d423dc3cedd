/- CONTRACT of branch. Made by gen/gen_branch.py. -/
import Derived.Test.YtndmkfmpdnoliaaIDeed1
import Derived.Test.YtndmkfmpdnoliaaIApp
namespace Go.Proofs.Ytndmkfmpdnoliaa
open Go.ChangeShapes Go.WideShapes Go.ChangeAt Go.RowKit

theorem add_none (b o k : Nat) : (⟨b, o, none⟩ : Addr).add k = ⟨b, o + k, none⟩ := by unfold Addr.add; split <;> simp_all
theorem src_new (w : World) (u : Int) : Src Try.prog 1 29 (.slice (some ⟨w.heap.size, 0, none⟩) 1 1) 1 [.int .i64 u] (w.alloc (.cells #[.int .i64 u] 3)) := by
  have h := heap_alloc_new w (.cells #[.int .i64 u] 3)
  refine Src.ofSlice _ Try.underlying29 ⟨w.heap.size, 0, none⟩ 1 1 [.int .i64 u] (by simp) (fun j z hj => ?_) (fun z hz => ?_)
  · rcases j with _ | j
    · have : z = .int .i64 u := by simpa using hj.symm
      subst this
      rw [add_none]
      simp only [World.cell?, h]
      rfl
    · simp at hj
  · have : z = .int .i64 u := by simpa using hz
    subst this
    rfl
theorem br_lay (l : List Int) (b : Int) : (l ++ [b]).map (Value.int .i64) = l.map (Value.int .i64) ++ [.int .i64 b] := by simp
/-- A run and a frame behind a branch that is told. -/
theorem branch_done {w w2 w3 : World} {R KM DM F G C deep : Nat} {fr : Fr} {st : St} {v : Value} {b : Int} {y : Option Addr} {c2 : Nat} {t : TypeId} {f : Nat × Nat} (hb : Below w.heap.size w w2.drew) (h : FrM w2 R F G C fr) (hr : RnM w2 R KM DM deep st v) (hap : Apart F G C v)
    (hown : w3.ownsRow (R + 1) 3 1 (.slice y (st.br.length + 1) c2) (st.br.length + 1) (st.br.map (Value.int .i64) ++ [.int .i64 b])) (hg : (w2.drew.alloc (.cells #[.int .i64 b] t f)).grownBy w3 v.ownBlock)
    (hat : (Value.slice y (st.br.length + 1) c2).ownBlock = v.ownBlock ∨ (Value.slice y (st.br.length + 1) c2).ownBlock = some (w2.drew.alloc (.cells #[.int .i64 b] t f)).heap.size) (hle : st.br.length + 1 + st.left ≤ 60000 := by omega) :
    Did w (w3.setCell ⟨R, 4, none⟩ (.slice y (st.br.length + 1) c2)) R KM DM F G C deep v (.slice y (st.br.length + 1) c2) fr { st with br := st.br ++ [b] } := by
  have hold : ∀ k, k < w2.heap.size → v.ownBlock ≠ some k → w3.heap[k]? = w2.heap[k]? := fun k hk hv => by
    rw [hg.block k (by simp; omega) (fun e => hv e.symm)]; exact heap_alloc_old w2.drew _ hk
  have hw2 : w.heap.size ≤ w2.heap.size := hb.size
  have hRv : v.ownBlock ≠ some R := fun e => by have := (hr.own.lt R e).1; omega
  have hR3 := (hold R (lt_of_some hr.r) hRv).trans hr.r
  have hfr : Fresh w v (.slice y (st.br.length + 1) c2) := fun g e => by
    rcases hat with h1 | h1
    · exact .inl (h1.symm.trans e)
    · right
      rw [h1] at e
      have : (w2.drew.alloc (.cells #[.int .i64 b] t f)).heap.size = g := by simpa using e
      simp at this; omega
  have hapv : Apart F G C (.slice y (st.br.length + 1) c2) := fun g e => by
    rcases hat with h1 | h1
    · exact hap g (h1.symm.trans e)
    · rw [h1] at e
      have : (w2.drew.alloc (.cells #[.int .i64 b] t f)).heap.size = g := by simpa using e
      have a1 := lt_of_some h.f
      have a2 := lt_of_some h.g
      have a3 := lt_of_some h.c
      simp at this; omega
  have hRn : (Value.slice y (st.br.length + 1) c2).ownBlock ≠ some R := fun e => by have := (hown.lt R e).1; omega
  have nF := h.rf
  have nG := h.rg
  have nC := h.rc
  refine ⟨⟨?_, ?_, hr.left, by simpa using hle⟩, ⟨?_, ?_, ?_, h.fg, h.fc, h.gc, h.rf, h.rg, h.rc, h.regs, h.cells, h.res⟩, ?_, hfr, hapv⟩
  · exact setCell_at hR3
  · have h1 := own_kept hown (Kept.set w3 R 4 (.slice y (st.br.length + 1) c2)) (fun g hg e => hRn (by rw [hg, e]))
    simp only [List.length_append, List.length_cons, List.length_nil]
    rw [br_lay]; exact h1
  · rw [setCell_other (by omega), hold F (lt_of_some h.f) (fun e => (hap F e).1 rfl)]; exact h.f
  · rw [setCell_other (by omega), hold G (lt_of_some h.g) (fun e => (hap G e).2.1 rfl)]; exact h.g
  · rw [setCell_other (by omega), hold C (lt_of_some h.c) (fun e => (hap C e).2.2 rfl)]; exact h.c
  · refine ⟨hg.os.trans hb.os, hg.tape.trans hb.tape, hg.output.trans hb.output, ?_, fun k hk hm => ?_⟩
    · have := hg.size
      simp [World.setCell] at this ⊢; omega
    · rw [setCell_other (fun e => hm (.inl e)), hold k (by omega) (fun e => hm (.inr (.inr (.inr (.inr e)))))]
      exact hb.block k hk
theorem Did.next {w w1 : World} {R KM DM F G C deep : Nat} {v v' : Value} {fr : Fr} {st : St} (h : Did w w1 R KM DM F G C deep v v' fr st) {c : Nat} {x : Value} (hx : x = .int .i64 (c : Int)) : Did w (w1.setCell ⟨F, 3, none⟩ x) R KM DM F G C deep v v' { fr with next := c } st := by
  subst hx
  have nF := h.fr.rf
  refine ⟨⟨by rw [setCell_other (by omega)]; exact h.rn.r, own_kept h.rn.own (Kept.set w1 F 3 _) (fun g hg e => (h.apart g hg).1 e), h.rn.left, h.rn.br⟩, ⟨setCell_at h.fr.f, by rw [setCell_other (Ne.symm h.fr.fg)]; exact h.fr.g, by rw [setCell_other (Ne.symm h.fr.fc)]; exact h.fr.c, h.fr.fg, h.fr.fc, h.fr.gc, h.fr.rf, h.fr.rg, h.fr.rc, h.fr.regs, h.fr.cells, h.fr.res⟩, h.kept.set_in F 3 _ (.inr (.inl rfl)), h.fresh, h.apart⟩

set_option maxRecDepth 100000 in
set_option maxHeartbeats 4000000 in
theorem branch_one {R KM DM F G C deep : Nat} {fr : Fr} {st : St} {v : Value} (x : Ir) (ga : Option Addr) (gc : Nat) (w : World) (h : FrM w R F G C fr) (hr : RnM w R KM DM deep st v) (hap : Apart F G C v) (hle : st.br.length + 1 + st.left ≤ 60000) (a : Nat) (ha : x.a = a) (hal : a < fr.regs.length) (c : Nat) (hc : x.c = c) (hz : ¬ fr.regs[a] = 0) :
    Calls Try.prog 50 #[.pointer (some ⟨F, 0, none⟩), irV x ga gc] w fun e w' => e = .returned (.tuple #[]) ∧ ∃ v', Did w w' R KM DM F G C deep v v' fr { st with br := st.br ++ [1] } := by
  obtain ⟨kd, op, xd, xa, xb, xc, n, nm, ag⟩ := x
  obtain ⟨rg, cl, nx, en, rs⟩ := fr
  obtain ⟨lf, br, wg⟩ := st
  simp only at *
  subst ha
  subst hc
  have kal : a < rg.length := hal
  have kz : ¬ rg[a] = 0 := hz
  have h1 := h.box (.cells #[.int .i64 kd, .int .i64 op, .int .i64 xd, .int .i64 (a : Int), .int .i64 xb, .int .i64 (c : Int), .int .u32 (n : Int), .string (bs nm), .slice ga ag.length gc] 50)
  have hr1 := hr.box (.cells #[.int .i64 kd, .int .i64 op, .int .i64 xd, .int .i64 (a : Int), .int .i64 xb, .int .i64 (c : Int), .int .u32 (n : Int), .string (bs nm), .slice ga ag.length gc] 50)
  have hx := heap_alloc_new w (.cells #[.int .i64 kd, .int .i64 op, .int .i64 xd, .int .i64 (a : Int), .int .i64 xb, .int .i64 (c : Int), .int .u32 (n : Int), .string (bs nm), .slice ga ag.length gc] 50)
  have hb1 := bl_alloc (Below.refl w.heap.size w) (.cells #[.int .i64 kd, .int .i64 op, .int .i64 xd, .int .i64 (a : Int), .int .i64 xb, .int .i64 (c : Int), .int .u32 (n : Int), .string (bs nm), .slice ga ag.length gc] 50)
  have hFw := lt_of_some h.f
  have hGw := lt_of_some h.g
  have nrf : R < w.heap.size := lt_of_some hr.r
  have hapX : v.ownBlock ≠ some w.heap.size := fun e => by have := (hr.own.lt _ e).2; omega
  unfold irV
  go_enter Try.func50, Try.ntmps50
  go_wp2_with fail
  generalize w.alloc (.cells #[.int .i64 kd, .int .i64 op, .int .i64 xd, .int .i64 (a : Int), .int .i64 xb, .int .i64 (c : Int), .int .u32 (n : Int), .string (bs nm), .slice ga ag.length gc] 50) = w1 at h1 hr1 hx hb1 ⊢
  obtain ⟨f0, f1, f2, f3, f4, f5⟩ := h1.cells6
  obtain ⟨x0, x1, x2, x3, x4, x5, x6, x7, x8⟩ := ir_block (x := ⟨kd, op, xd, a, xb, c, n, nm, ag⟩) hx
  simp only at f1 f2 f3 f4 f5 x0 x1 x2 x3 x4 x5 x6 x7 x8
  have ga1 := row_cell h1.g kal
  have i0 : (0 : Int) ≤ (a : Int) := by omega
  have i1 : (a : Int) < (rg.length : Int) := by omega
  have kz' : ((rg[a] : Int) == 0) = false := by rw [beq_eq_false_iff_ne]; omega
  have HB0 : Hid _ := hb1
  have HX0 : Hid _ := hx
  have H1f0 : Hid _ := h1
  have H1r0 : Hid _ := hr1
  clear h hr h1 hr1 hx hb1
  go_quiet (fail)
  go_wp2_with fail
  have H1f : Hid (FrM (w1.drewN nq) R F G C ⟨rg, cl, nx, en, rs⟩) := ⟨H1f0.out.f, H1f0.out.g, H1f0.out.c, H1f0.out.fg, H1f0.out.fc, H1f0.out.gc, H1f0.out.rf, H1f0.out.rg, H1f0.out.rc, H1f0.out.regs, H1f0.out.cells, H1f0.out.res⟩
  have H1r : Hid (RnM (w1.drewN nq) R KM DM deep ⟨lf, br, wg⟩ v) := ⟨H1r0.out.r, own_kept H1r0.out.own (Below.kept (drewN_below w1 nq) (fun _ => False)) (fun _ _ e => e), H1r0.out.left, H1r0.out.br⟩
  have HB : Hid (Below w.heap.size w (w1.drewN nq).drew) := bl_then HB0.out (bl_then (drewN_below w1 nq) (drew_bl _))
  have HX : Hid ((w1.drewN nq).heap[w.heap.size]? = some (.cells #[.int .i64 kd, .int .i64 op, .int .i64 xd, .int .i64 (a : Int), .int .i64 xb, .int .i64 (c : Int), .int .u32 (n : Int), .string (bs nm), .slice ga ag.length gc] 50)) := HX0.out
  have hsz1 : w.heap.size < w1.heap.size := lt_of_some HX0.out
  clear HB0 HX0 H1f0 H1r0 f1 f2 f3 f4 f5 x0 x1 x2 x3 x4 x5 x6 x7 x8 ga1 f0
  generalize hw2 : w1.drewN nq = w2 at H1f H1r HB HX ⊢
  have hsz2 : w.heap.size < w2.heap.size := lt_of_some HX.out
  clear hw2 hsz1
  obtain ⟨f0, f1, f2, f3, f4, f5⟩ := H1f.out.cells6
  obtain ⟨r0, r1, r2, r3, r4, r5⟩ := H1r.out.cells6
  have r4a : ∀ o, (w2.alloc o).drew.cell? ⟨R, 4, none⟩ = some v := fun o => alloc_cell o r4
  have hFs : F < w2.drew.heap.size := lt_of_some H1f.out.f
  have hRs : R < w2.drew.heap.size := lt_of_some H1r.out.r
  have hXs : w.heap.size < w2.drew.heap.size := hsz2
  have nfr : F ≠ R := by have := H1f.out.rf; omega
  have hownA : ∀ o, (w2.drew.alloc o).ownsRow (R + 1) 3 1 v br.length (br.map (Value.int .i64)) := fun o => own_kept H1r.out.own (M := fun _ => False) ⟨rfl, rfl, rfl, by simp, fun k hk _ => heap_alloc_old w2.drew o hk⟩ (fun _ _ e => e)
  have hsrcA := src_new w2.drew
  have hRB : R + 1 ≤ w2.heap.size := hRs
  simp only at f1 f2 f3 f4 f5 r5
  refine wp_region_held_drew (S := (fun w' => w'.cell? ⟨F, 0, none⟩ = some (.pointer (some ⟨R, 0, none⟩)))) (by kernel_rfl) f0 (fun hHeld => ?_)
  refine wpAnyH_take (i := 0) (v := ?_) rfl (by kernel_rfl) (by kernel_rfl) (by kernel_rfl) (fun _ _ _ h => h) (Or.inl ⟨by rfl, by intro w hSw; (try dsimp only at hSw); go_simp; all_goals with_reducible rfl⟩) hHeld ?_
  try simp only [Act.put]
  refine wpAnyH_take (i := 1) (v := ?_) rfl (by kernel_rfl) (by kernel_rfl) (by kernel_rfl) (fun _ _ _ h => h) (Or.inl ⟨by rfl, by intro w hSw; (try dsimp only at hSw); go_simp; all_goals with_reducible rfl⟩) hHeld ?_
  try simp only [Act.put]
  refine wpAnyH_take (i := 2) (v := ?_) rfl (by kernel_rfl) (by kernel_rfl) (by kernel_rfl) (fun _ _ _ h => h) (Or.inl ⟨by rfl, by intro w hSw; (try dsimp only at hSw); go_simp; all_goals with_reducible rfl⟩) hHeld ?_
  try simp only [Act.put]
  refine wpAnyH_take (i := 3) (v := ?_) rfl (by kernel_rfl) (by kernel_rfl) (by kernel_rfl) (fun _ _ _ h => h) (Or.inl ⟨by rfl, by intro w hSw; (try dsimp only at hSw); go_simp; all_goals with_reducible rfl⟩) hHeld ?_
  try simp only [Act.put]
  refine wpAnyH_take (i := 4) (v := ?_) rfl (by kernel_rfl) (by kernel_rfl) (by kernel_rfl) (fun _ _ _ h => h) (Or.inl ⟨by rfl, by intro w hSw; (try dsimp only at hSw); go_simp; all_goals with_reducible rfl⟩) hHeld ?_
  try simp only [Act.put]
  refine wpAnyH_take (i := 5) (v := ?_) rfl (by kernel_rfl) (by kernel_rfl) (by kernel_rfl) (fun _ _ _ h => h) (Or.inl ⟨by rfl, by intro w hSw; (try dsimp only at hSw); go_simp; all_goals with_reducible rfl⟩) hHeld ?_
  try simp only [Act.put]
  refine wpAnyH_take (i := 6) (v := ?_) rfl (by kernel_rfl) (by kernel_rfl) (by kernel_rfl) (fun _ _ _ h => h) (Or.inl ⟨by rfl, by intro w hSw; (try dsimp only at hSw); go_simp; all_goals with_reducible rfl⟩) hHeld ?_
  try simp only [Act.put]
  refine wpAnyH_take (i := 7) (v := ?_) rfl (by kernel_rfl) (by kernel_rfl) (by kernel_rfl) (fun _ _ _ h => h) (Or.inl ⟨by rfl, by intro w hSw; (try dsimp only at hSw); go_simp; all_goals with_reducible rfl⟩) hHeld ?_
  try simp only [Act.put]
  refine wpAnyH_take (i := 8) (v := ?_) rfl (by kernel_rfl) (by kernel_rfl) (by kernel_rfl) (fun _ _ _ h => h) (Or.inl ⟨by rfl, by intro w hSw; (try dsimp only at hSw); go_simp; all_goals with_reducible rfl⟩) hHeld ?_
  try simp only [Act.put]
  refine wpAnyH_take (i := 9) (v := ?_) rfl (by kernel_rfl) (by kernel_rfl) (by kernel_rfl) (fun _ _ _ h => h) (Or.inl ⟨by rfl, by intro w hSw; (try dsimp only at hSw); go_simp; all_goals with_reducible rfl⟩) hHeld ?_
  try simp only [Act.put]
  refine wpAnyH_ready (rs := [10, 11]) (by kernel_rfl) (by simp) ?_
  refine AllReadyH.cons rfl (fun K hK => ?_) (AllReadyH.cons rfl (fun K hK => ?_) (AllReadyH.nil))
  · go_simp
    refine hK.out _ _ hHeld (fun hHeld => ?_)
    clear hK K
    try simp only [Act.put]
    refine wpAnyH_ready (rs := [11]) (by kernel_rfl) (by simp) ?_
    refine AllReadyH.cons rfl (fun K hK => ?_) (AllReadyH.nil)
    go_simp
    refine hK.out _ _ ((World.cell?_of_block (heap_alloc_old _ _ (by exact hFs))).trans f0) (fun hHeld => ?_)
    clear hK K
    try simp only [Act.put]
    refine wpAnyH_ready (rs := [12]) (by kernel_rfl) (by simp) ?_
    refine AllReadyH.cons rfl (fun K hK => ?_) AllReadyH.nil
    refine step_append_src int_info rfl Try.underlying29 (by decide) rfl _ _ rfl (R + 1) v br.length (br.map (Value.int .i64)) rfl (hownA (.cells #[.int .i64 1] 3)) _ 1 [.int .i64 1] rfl (hsrcA _) (by omega) (by simp; omega) ?_
    intro y c2 w3 hown3 hgrow hat
    have hF3 : w3.heap[F]? = (w2.drew.alloc (.cells #[.int .i64 1] 3)).heap[F]? := hgrow.block F (by simp; omega) (fun e => (hap F e.symm).1 rfl)
    have hR3 : w3.heap[R]? = (w2.drew.alloc (.cells #[.int .i64 1] 3)).heap[R]? := hgrow.block R (by simp; omega) (fun e => by have := (H1r.out.own.lt R e.symm).1; omega)
    rw [heap_alloc_old _ _ (by exact hFs)] at hF3
    rw [heap_alloc_old _ _ (by exact hRs)] at hR3
    have f30 : w3.cell? ⟨F, 0, none⟩ = some (.pointer (some ⟨R, 0, none⟩)) := (World.cell?_of_block hF3).trans f0
    refine hK.out _ _ f30 (fun hHeld => ?_)
    clear hK K
    try simp only [Act.put]
    refine wpAnyH_take (i := 13) (v := ?_) rfl (by kernel_rfl) (by kernel_rfl) (by kernel_rfl) (fun _ _ _ h => h) (Or.inl ⟨by rfl, by intro w hSw; (try dsimp only at hSw); go_simp; all_goals with_reducible rfl⟩) hHeld ?_
    try simp only [Act.put]
    refine wpAnyH_take (i := 14) (v := ?_) rfl (by kernel_rfl) (by kernel_rfl) (by kernel_rfl) (fun _ _ _ h => h) (Or.inl ⟨by rfl, by intro w hSw; (try dsimp only at hSw); go_simp; all_goals with_reducible rfl⟩) hHeld ?_
    try simp only [Act.put]
    have r34 : w3.cell? ⟨R, 4, none⟩ = some v := (World.cell?_of_block hR3).trans r4
    have z34 : w3.frozen? ⟨R, 4, none⟩ = false := row_free (hR3.trans H1r.out.r) 4
    refine wpAnyH_ready (rs := [15]) (by kernel_rfl) (by simp) ?_
    refine AllReadyH.cons rfl (fun K hK => ?_) (AllReadyH.nil)
    go_simp
    refine hK.out _ _ ((World.cell?_of_block (setCell_other nfr)).trans f30) (fun hHeld => ?_)
    clear hK K
    try simp only [Act.put]
    refine wpAnyH_done (by kernel_rfl) ?_ _
    have HS := branch_done (w := w) (b := 1) (t := 3) (f := (0, 0)) HB.out H1f.out H1r.out hap hown3 hgrow hat
    clear H1f H1r
    go_wp2_with fail
    refine bodyPost_ret (results_none rfl _ _ _) rfl ?_
    exact ⟨rfl, _, HS⟩
  · go_simp
    refine hK.out _ _ ((World.cell?_of_block (heap_alloc_old _ _ (by exact hFs))).trans f0) (fun hHeld => ?_)
    clear hK K
    try simp only [Act.put]
    refine wpAnyH_ready (rs := [10]) (by kernel_rfl) (by simp) ?_
    refine AllReadyH.cons rfl (fun K hK => ?_) (AllReadyH.nil)
    go_simp
    refine hK.out _ _ hHeld (fun hHeld => ?_)
    clear hK K
    try simp only [Act.put]
    refine wpAnyH_ready (rs := [12]) (by kernel_rfl) (by simp) ?_
    refine AllReadyH.cons rfl (fun K hK => ?_) AllReadyH.nil
    refine step_append_src int_info rfl Try.underlying29 (by decide) rfl _ _ rfl (R + 1) v br.length (br.map (Value.int .i64)) rfl (hownA (.cells #[.int .i64 1] 3)) _ 1 [.int .i64 1] rfl (hsrcA _) (by omega) (by simp; omega) ?_
    intro y c2 w3 hown3 hgrow hat
    have hF3 : w3.heap[F]? = (w2.drew.alloc (.cells #[.int .i64 1] 3)).heap[F]? := hgrow.block F (by simp; omega) (fun e => (hap F e.symm).1 rfl)
    have hR3 : w3.heap[R]? = (w2.drew.alloc (.cells #[.int .i64 1] 3)).heap[R]? := hgrow.block R (by simp; omega) (fun e => by have := (H1r.out.own.lt R e.symm).1; omega)
    rw [heap_alloc_old _ _ (by exact hFs)] at hF3
    rw [heap_alloc_old _ _ (by exact hRs)] at hR3
    have f30 : w3.cell? ⟨F, 0, none⟩ = some (.pointer (some ⟨R, 0, none⟩)) := (World.cell?_of_block hF3).trans f0
    refine hK.out _ _ f30 (fun hHeld => ?_)
    clear hK K
    try simp only [Act.put]
    refine wpAnyH_take (i := 13) (v := ?_) rfl (by kernel_rfl) (by kernel_rfl) (by kernel_rfl) (fun _ _ _ h => h) (Or.inl ⟨by rfl, by intro w hSw; (try dsimp only at hSw); go_simp; all_goals with_reducible rfl⟩) hHeld ?_
    try simp only [Act.put]
    refine wpAnyH_take (i := 14) (v := ?_) rfl (by kernel_rfl) (by kernel_rfl) (by kernel_rfl) (fun _ _ _ h => h) (Or.inl ⟨by rfl, by intro w hSw; (try dsimp only at hSw); go_simp; all_goals with_reducible rfl⟩) hHeld ?_
    try simp only [Act.put]
    have r34 : w3.cell? ⟨R, 4, none⟩ = some v := (World.cell?_of_block hR3).trans r4
    have z34 : w3.frozen? ⟨R, 4, none⟩ = false := row_free (hR3.trans H1r.out.r) 4
    refine wpAnyH_ready (rs := [15]) (by kernel_rfl) (by simp) ?_
    refine AllReadyH.cons rfl (fun K hK => ?_) (AllReadyH.nil)
    go_simp
    refine hK.out _ _ ((World.cell?_of_block (setCell_other nfr)).trans f30) (fun hHeld => ?_)
    clear hK K
    try simp only [Act.put]
    refine wpAnyH_done (by kernel_rfl) ?_ _
    have HS := branch_done (w := w) (b := 1) (t := 3) (f := (0, 0)) HB.out H1f.out H1r.out hap hown3 hgrow hat
    clear H1f H1r
    go_wp2_with fail
    refine bodyPost_ret (results_none rfl _ _ _) rfl ?_
    exact ⟨rfl, _, HS⟩
set_option maxRecDepth 100000 in
set_option maxHeartbeats 4000000 in
theorem branch_zero {R KM DM F G C deep : Nat} {fr : Fr} {st : St} {v : Value} (x : Ir) (ga : Option Addr) (gc : Nat) (w : World) (h : FrM w R F G C fr) (hr : RnM w R KM DM deep st v) (hap : Apart F G C v) (hle : st.br.length + 1 + st.left ≤ 60000) (a : Nat) (ha : x.a = a) (hal : a < fr.regs.length) (c : Nat) (hc : x.c = c) (hz : fr.regs[a] = 0) :
    Calls Try.prog 50 #[.pointer (some ⟨F, 0, none⟩), irV x ga gc] w fun e w' => e = .returned (.tuple #[]) ∧ ∃ v', Did w w' R KM DM F G C deep v v' { fr with next := c } { st with br := st.br ++ [0] } := by
  obtain ⟨kd, op, xd, xa, xb, xc, n, nm, ag⟩ := x
  obtain ⟨rg, cl, nx, en, rs⟩ := fr
  obtain ⟨lf, br, wg⟩ := st
  simp only at *
  subst ha
  subst hc
  have kal : a < rg.length := hal
  have kz : rg[a] = 0 := hz
  have h1 := h.box (.cells #[.int .i64 kd, .int .i64 op, .int .i64 xd, .int .i64 (a : Int), .int .i64 xb, .int .i64 (c : Int), .int .u32 (n : Int), .string (bs nm), .slice ga ag.length gc] 50)
  have hr1 := hr.box (.cells #[.int .i64 kd, .int .i64 op, .int .i64 xd, .int .i64 (a : Int), .int .i64 xb, .int .i64 (c : Int), .int .u32 (n : Int), .string (bs nm), .slice ga ag.length gc] 50)
  have hx := heap_alloc_new w (.cells #[.int .i64 kd, .int .i64 op, .int .i64 xd, .int .i64 (a : Int), .int .i64 xb, .int .i64 (c : Int), .int .u32 (n : Int), .string (bs nm), .slice ga ag.length gc] 50)
  have hb1 := bl_alloc (Below.refl w.heap.size w) (.cells #[.int .i64 kd, .int .i64 op, .int .i64 xd, .int .i64 (a : Int), .int .i64 xb, .int .i64 (c : Int), .int .u32 (n : Int), .string (bs nm), .slice ga ag.length gc] 50)
  have hFw := lt_of_some h.f
  have hGw := lt_of_some h.g
  have nrf : R < w.heap.size := lt_of_some hr.r
  have hapX : v.ownBlock ≠ some w.heap.size := fun e => by have := (hr.own.lt _ e).2; omega
  unfold irV
  go_enter Try.func50, Try.ntmps50
  go_wp2_with fail
  generalize w.alloc (.cells #[.int .i64 kd, .int .i64 op, .int .i64 xd, .int .i64 (a : Int), .int .i64 xb, .int .i64 (c : Int), .int .u32 (n : Int), .string (bs nm), .slice ga ag.length gc] 50) = w1 at h1 hr1 hx hb1 ⊢
  obtain ⟨f0, f1, f2, f3, f4, f5⟩ := h1.cells6
  obtain ⟨x0, x1, x2, x3, x4, x5, x6, x7, x8⟩ := ir_block (x := ⟨kd, op, xd, a, xb, c, n, nm, ag⟩) hx
  simp only at f1 f2 f3 f4 f5 x0 x1 x2 x3 x4 x5 x6 x7 x8
  have ga1 := row_cell h1.g kal
  have i0 : (0 : Int) ≤ (a : Int) := by omega
  have i1 : (a : Int) < (rg.length : Int) := by omega
  rw [kz] at ga1
  have HB0 : Hid _ := hb1
  have HX0 : Hid _ := hx
  have H1f0 : Hid _ := h1
  have H1r0 : Hid _ := hr1
  clear h hr h1 hr1 hx hb1
  go_quiet (fail)
  go_wp2_with fail
  have H1f : Hid (FrM (w1.drewN nq) R F G C ⟨rg, cl, nx, en, rs⟩) := ⟨H1f0.out.f, H1f0.out.g, H1f0.out.c, H1f0.out.fg, H1f0.out.fc, H1f0.out.gc, H1f0.out.rf, H1f0.out.rg, H1f0.out.rc, H1f0.out.regs, H1f0.out.cells, H1f0.out.res⟩
  have H1r : Hid (RnM (w1.drewN nq) R KM DM deep ⟨lf, br, wg⟩ v) := ⟨H1r0.out.r, own_kept H1r0.out.own (Below.kept (drewN_below w1 nq) (fun _ => False)) (fun _ _ e => e), H1r0.out.left, H1r0.out.br⟩
  have HB : Hid (Below w.heap.size w (w1.drewN nq).drew) := bl_then HB0.out (bl_then (drewN_below w1 nq) (drew_bl _))
  have HX : Hid ((w1.drewN nq).heap[w.heap.size]? = some (.cells #[.int .i64 kd, .int .i64 op, .int .i64 xd, .int .i64 (a : Int), .int .i64 xb, .int .i64 (c : Int), .int .u32 (n : Int), .string (bs nm), .slice ga ag.length gc] 50)) := HX0.out
  have hsz1 : w.heap.size < w1.heap.size := lt_of_some HX0.out
  clear HB0 HX0 H1f0 H1r0 f1 f2 f3 f4 f5 x0 x1 x2 x3 x4 x5 x6 x7 x8 ga1 f0
  generalize hw2 : w1.drewN nq = w2 at H1f H1r HB HX ⊢
  have hsz2 : w.heap.size < w2.heap.size := lt_of_some HX.out
  clear hw2 hsz1
  obtain ⟨f0, f1, f2, f3, f4, f5⟩ := H1f.out.cells6
  obtain ⟨r0, r1, r2, r3, r4, r5⟩ := H1r.out.cells6
  have r4a : ∀ o, (w2.alloc o).drew.cell? ⟨R, 4, none⟩ = some v := fun o => alloc_cell o r4
  have hFs : F < w2.drew.heap.size := lt_of_some H1f.out.f
  have hRs : R < w2.drew.heap.size := lt_of_some H1r.out.r
  have hXs : w.heap.size < w2.drew.heap.size := hsz2
  have nfr : F ≠ R := by have := H1f.out.rf; omega
  have hownA : ∀ o, (w2.drew.alloc o).ownsRow (R + 1) 3 1 v br.length (br.map (Value.int .i64)) := fun o => own_kept H1r.out.own (M := fun _ => False) ⟨rfl, rfl, rfl, by simp, fun k hk _ => heap_alloc_old w2.drew o hk⟩ (fun _ _ e => e)
  have hsrcA := src_new w2.drew
  have hRB : R + 1 ≤ w2.heap.size := hRs
  simp only at f1 f2 f3 f4 f5 r5
  refine wp_region_held_drew (S := (fun w' => w'.cell? ⟨F, 0, none⟩ = some (.pointer (some ⟨R, 0, none⟩)))) (by kernel_rfl) f0 (fun hHeld => ?_)
  refine wpAnyH_take (i := 0) (v := ?_) rfl (by kernel_rfl) (by kernel_rfl) (by kernel_rfl) (fun _ _ _ h => h) (Or.inl ⟨by rfl, by intro w hSw; (try dsimp only at hSw); go_simp; all_goals with_reducible rfl⟩) hHeld ?_
  try simp only [Act.put]
  refine wpAnyH_take (i := 1) (v := ?_) rfl (by kernel_rfl) (by kernel_rfl) (by kernel_rfl) (fun _ _ _ h => h) (Or.inl ⟨by rfl, by intro w hSw; (try dsimp only at hSw); go_simp; all_goals with_reducible rfl⟩) hHeld ?_
  try simp only [Act.put]
  refine wpAnyH_take (i := 2) (v := ?_) rfl (by kernel_rfl) (by kernel_rfl) (by kernel_rfl) (fun _ _ _ h => h) (Or.inl ⟨by rfl, by intro w hSw; (try dsimp only at hSw); go_simp; all_goals with_reducible rfl⟩) hHeld ?_
  try simp only [Act.put]
  refine wpAnyH_take (i := 3) (v := ?_) rfl (by kernel_rfl) (by kernel_rfl) (by kernel_rfl) (fun _ _ _ h => h) (Or.inl ⟨by rfl, by intro w hSw; (try dsimp only at hSw); go_simp; all_goals with_reducible rfl⟩) hHeld ?_
  try simp only [Act.put]
  refine wpAnyH_take (i := 4) (v := ?_) rfl (by kernel_rfl) (by kernel_rfl) (by kernel_rfl) (fun _ _ _ h => h) (Or.inl ⟨by rfl, by intro w hSw; (try dsimp only at hSw); go_simp; all_goals with_reducible rfl⟩) hHeld ?_
  try simp only [Act.put]
  refine wpAnyH_take (i := 5) (v := ?_) rfl (by kernel_rfl) (by kernel_rfl) (by kernel_rfl) (fun _ _ _ h => h) (Or.inl ⟨by rfl, by intro w hSw; (try dsimp only at hSw); go_simp; all_goals with_reducible rfl⟩) hHeld ?_
  try simp only [Act.put]
  refine wpAnyH_take (i := 6) (v := ?_) rfl (by kernel_rfl) (by kernel_rfl) (by kernel_rfl) (fun _ _ _ h => h) (Or.inl ⟨by rfl, by intro w hSw; (try dsimp only at hSw); go_simp; all_goals with_reducible rfl⟩) hHeld ?_
  try simp only [Act.put]
  refine wpAnyH_take (i := 7) (v := ?_) rfl (by kernel_rfl) (by kernel_rfl) (by kernel_rfl) (fun _ _ _ h => h) (Or.inl ⟨by rfl, by intro w hSw; (try dsimp only at hSw); go_simp; all_goals with_reducible rfl⟩) hHeld ?_
  try simp only [Act.put]
  refine wpAnyH_take (i := 8) (v := ?_) rfl (by kernel_rfl) (by kernel_rfl) (by kernel_rfl) (fun _ _ _ h => h) (Or.inl ⟨by rfl, by intro w hSw; (try dsimp only at hSw); go_simp; all_goals with_reducible rfl⟩) hHeld ?_
  try simp only [Act.put]
  refine wpAnyH_take (i := 9) (v := ?_) rfl (by kernel_rfl) (by kernel_rfl) (by kernel_rfl) (fun _ _ _ h => h) (Or.inl ⟨by rfl, by intro w hSw; (try dsimp only at hSw); go_simp; all_goals with_reducible rfl⟩) hHeld ?_
  try simp only [Act.put]
  refine wpAnyH_ready (rs := [10, 11]) (by kernel_rfl) (by simp) ?_
  refine AllReadyH.cons rfl (fun K hK => ?_) (AllReadyH.cons rfl (fun K hK => ?_) (AllReadyH.nil))
  · go_simp
    refine hK.out _ _ hHeld (fun hHeld => ?_)
    clear hK K
    try simp only [Act.put]
    refine wpAnyH_ready (rs := [11]) (by kernel_rfl) (by simp) ?_
    refine AllReadyH.cons rfl (fun K hK => ?_) (AllReadyH.nil)
    go_simp
    refine hK.out _ _ ((World.cell?_of_block (heap_alloc_old _ _ (by exact hFs))).trans f0) (fun hHeld => ?_)
    clear hK K
    try simp only [Act.put]
    refine wpAnyH_ready (rs := [12]) (by kernel_rfl) (by simp) ?_
    refine AllReadyH.cons rfl (fun K hK => ?_) AllReadyH.nil
    refine step_append_src int_info rfl Try.underlying29 (by decide) rfl _ _ rfl (R + 1) v br.length (br.map (Value.int .i64)) rfl (hownA (.cells #[.int .i64 0] 3)) _ 1 [.int .i64 0] rfl (hsrcA _) (by omega) (by simp; omega) ?_
    intro y c2 w3 hown3 hgrow hat
    have hF3 : w3.heap[F]? = (w2.drew.alloc (.cells #[.int .i64 0] 3)).heap[F]? := hgrow.block F (by simp; omega) (fun e => (hap F e.symm).1 rfl)
    have hR3 : w3.heap[R]? = (w2.drew.alloc (.cells #[.int .i64 0] 3)).heap[R]? := hgrow.block R (by simp; omega) (fun e => by have := (H1r.out.own.lt R e.symm).1; omega)
    rw [heap_alloc_old _ _ (by exact hFs)] at hF3
    rw [heap_alloc_old _ _ (by exact hRs)] at hR3
    have f30 : w3.cell? ⟨F, 0, none⟩ = some (.pointer (some ⟨R, 0, none⟩)) := (World.cell?_of_block hF3).trans f0
    refine hK.out _ _ f30 (fun hHeld => ?_)
    clear hK K
    try simp only [Act.put]
    refine wpAnyH_take (i := 13) (v := ?_) rfl (by kernel_rfl) (by kernel_rfl) (by kernel_rfl) (fun _ _ _ h => h) (Or.inl ⟨by rfl, by intro w hSw; (try dsimp only at hSw); go_simp; all_goals with_reducible rfl⟩) hHeld ?_
    try simp only [Act.put]
    refine wpAnyH_take (i := 14) (v := ?_) rfl (by kernel_rfl) (by kernel_rfl) (by kernel_rfl) (fun _ _ _ h => h) (Or.inl ⟨by rfl, by intro w hSw; (try dsimp only at hSw); go_simp; all_goals with_reducible rfl⟩) hHeld ?_
    try simp only [Act.put]
    have r34 : w3.cell? ⟨R, 4, none⟩ = some v := (World.cell?_of_block hR3).trans r4
    have z34 : w3.frozen? ⟨R, 4, none⟩ = false := row_free (hR3.trans H1r.out.r) 4
    refine wpAnyH_ready (rs := [15]) (by kernel_rfl) (by simp) ?_
    refine AllReadyH.cons rfl (fun K hK => ?_) (AllReadyH.nil)
    go_simp
    refine hK.out _ _ ((World.cell?_of_block (setCell_other nfr)).trans f30) (fun hHeld => ?_)
    clear hK K
    try simp only [Act.put]
    refine wpAnyH_done (by kernel_rfl) ?_ _
    have HS := branch_done (w := w) (b := 0) (t := 3) (f := (0, 0)) HB.out H1f.out H1r.out hap hown3 hgrow hat
    obtain ⟨g0, g1, g2, g3, g4, g5⟩ := HS.fr.cells6
    have gz := row_free HS.fr.f 3
    obtain ⟨y0, y1, y2, y3, y4, y5, y6, y7, y8⟩ := ir_block (x := ⟨kd, op, xd, a, xb, c, n, nm, ag⟩) (w := w3.setCell ⟨R, 4, none⟩ (.slice y (br.length + 1) c2)) (b := w.heap.size) (a := ga) (c := gc) (by rw [setCell_other (by omega), hgrow.block w.heap.size (by simp; omega) (fun e => hapX e.symm)]; exact (heap_alloc_old w2.drew _ hXs).trans HX.out)
    simp only at y5
    clear H1f H1r
    go_wp2_with fail
    go_end0
    exact ⟨rfl, _, HS.next rfl⟩
  · go_simp
    refine hK.out _ _ ((World.cell?_of_block (heap_alloc_old _ _ (by exact hFs))).trans f0) (fun hHeld => ?_)
    clear hK K
    try simp only [Act.put]
    refine wpAnyH_ready (rs := [10]) (by kernel_rfl) (by simp) ?_
    refine AllReadyH.cons rfl (fun K hK => ?_) (AllReadyH.nil)
    go_simp
    refine hK.out _ _ hHeld (fun hHeld => ?_)
    clear hK K
    try simp only [Act.put]
    refine wpAnyH_ready (rs := [12]) (by kernel_rfl) (by simp) ?_
    refine AllReadyH.cons rfl (fun K hK => ?_) AllReadyH.nil
    refine step_append_src int_info rfl Try.underlying29 (by decide) rfl _ _ rfl (R + 1) v br.length (br.map (Value.int .i64)) rfl (hownA (.cells #[.int .i64 0] 3)) _ 1 [.int .i64 0] rfl (hsrcA _) (by omega) (by simp; omega) ?_
    intro y c2 w3 hown3 hgrow hat
    have hF3 : w3.heap[F]? = (w2.drew.alloc (.cells #[.int .i64 0] 3)).heap[F]? := hgrow.block F (by simp; omega) (fun e => (hap F e.symm).1 rfl)
    have hR3 : w3.heap[R]? = (w2.drew.alloc (.cells #[.int .i64 0] 3)).heap[R]? := hgrow.block R (by simp; omega) (fun e => by have := (H1r.out.own.lt R e.symm).1; omega)
    rw [heap_alloc_old _ _ (by exact hFs)] at hF3
    rw [heap_alloc_old _ _ (by exact hRs)] at hR3
    have f30 : w3.cell? ⟨F, 0, none⟩ = some (.pointer (some ⟨R, 0, none⟩)) := (World.cell?_of_block hF3).trans f0
    refine hK.out _ _ f30 (fun hHeld => ?_)
    clear hK K
    try simp only [Act.put]
    refine wpAnyH_take (i := 13) (v := ?_) rfl (by kernel_rfl) (by kernel_rfl) (by kernel_rfl) (fun _ _ _ h => h) (Or.inl ⟨by rfl, by intro w hSw; (try dsimp only at hSw); go_simp; all_goals with_reducible rfl⟩) hHeld ?_
    try simp only [Act.put]
    refine wpAnyH_take (i := 14) (v := ?_) rfl (by kernel_rfl) (by kernel_rfl) (by kernel_rfl) (fun _ _ _ h => h) (Or.inl ⟨by rfl, by intro w hSw; (try dsimp only at hSw); go_simp; all_goals with_reducible rfl⟩) hHeld ?_
    try simp only [Act.put]
    have r34 : w3.cell? ⟨R, 4, none⟩ = some v := (World.cell?_of_block hR3).trans r4
    have z34 : w3.frozen? ⟨R, 4, none⟩ = false := row_free (hR3.trans H1r.out.r) 4
    refine wpAnyH_ready (rs := [15]) (by kernel_rfl) (by simp) ?_
    refine AllReadyH.cons rfl (fun K hK => ?_) (AllReadyH.nil)
    go_simp
    refine hK.out _ _ ((World.cell?_of_block (setCell_other nfr)).trans f30) (fun hHeld => ?_)
    clear hK K
    try simp only [Act.put]
    refine wpAnyH_done (by kernel_rfl) ?_ _
    have HS := branch_done (w := w) (b := 0) (t := 3) (f := (0, 0)) HB.out H1f.out H1r.out hap hown3 hgrow hat
    obtain ⟨g0, g1, g2, g3, g4, g5⟩ := HS.fr.cells6
    have gz := row_free HS.fr.f 3
    obtain ⟨y0, y1, y2, y3, y4, y5, y6, y7, y8⟩ := ir_block (x := ⟨kd, op, xd, a, xb, c, n, nm, ag⟩) (w := w3.setCell ⟨R, 4, none⟩ (.slice y (br.length + 1) c2)) (b := w.heap.size) (a := ga) (c := gc) (by rw [setCell_other (by omega), hgrow.block w.heap.size (by simp; omega) (fun e => hapX e.symm)]; exact (heap_alloc_old w2.drew _ hXs).trans HX.out)
    simp only at y5
    clear H1f H1r
    go_wp2_with fail
    go_end0
    exact ⟨rfl, _, HS.next rfl⟩
end Go.Proofs.Ytndmkfmpdnoliaa
