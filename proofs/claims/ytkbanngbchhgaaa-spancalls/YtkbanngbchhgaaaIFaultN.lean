/- CONTRACT of fault, where a register that is read is none. -/
import Derived.Test.YtkbanngbchhgaaaIFaultH
namespace Go.Proofs.Ytkbanngbchhgaaa
open Go.ChangeShapes Go.WideShapes Go.ChangeAt Go.RowKit

set_option maxRecDepth 100000 in
set_option maxHeartbeats 4000000 in
theorem fault_k {B : Nat} {S : Nat → Prop} (x : Co) (pa : Option Addr) (pc : Nat) (la : Option Addr) (lc : Nat) (i : Nat) (y : Ir) (ga : Option Addr) (gc : Nat) (w : World) (hr : kInt.row w S ga y.args) (hgc : y.args.length ≤ gc) (hag : y.args.length ≤ 1000000)
    (hn : y.name.length ≤ 1000000000) (hl : x.l.length ≤ 10000) (hi : i < x.l.length) (hc0 : 0 ≤ x.cells) (hc1 : x.cells ≤ 4096) (hg : Glob B w) (hkt : knownB y = false) :
    Calls Try.prog 31 #[coV x pa pc la lc, .int .i64 i, irV y ga gc] w fun e w' => e = .returned (.int .i64 (faultN x i y)) ∧ Below w.heap.size w w' := by
  have HFa : Hid (faultN x i y = if knownB y = false then 14 else if ((readsL y).all (inB x.regs) && (!writesB y || inB x.regs y.d)) = false then 15 else restN x i y) := rfl
  have HRe : Hid (restN x i y = if (y.kind = 5 ∨ y.kind = 6) ∧ x.cells ≤ y.n then 16 else if (y.kind = 8 ∨ y.kind = 9) ∧ (y.c ≤ i ∨ x.l.length ≤ y.c) then 17 else if i + 1 = x.l.length ∧ y.kind ≠ 10 then 18 else 0) := rfl
  have hkn := fun (w1 : World) (h : Glob B w1) => isKnown_any y ga gc w1 hn h
  have hrd := fun (w1 : World) (h : kInt.row w1 S ga y.args) => reads_any y ga gc w1 h hgc
  have hwr := fun (w1 : World) => writes_any y ga gc w1
  have hrl : (readsL y).length ≤ 1000000 := by
    unfold readsL
    split
    · simp
    · split
      · simp
      · split
        · simp
        · split
          · exact hag
          · simp
  generalize restN x i y = R at HFa HRe
  obtain ⟨nm, ps, rg, cl, l⟩ := x
  have hu := u32_small cl hc0 hc1
  rw [hkt] at HFa
  rw [hkt] at hkn
  generalize hwb : writesB y = wb at HFa hwr
  clear hrd hrl HRe
  obtain ⟨kd, op, d, xa, xb, xc, n, xn, ag⟩ := y
  unfold coV irV at *
  simp only at hr hl hi hc0 hc1 HFa hgc ⊢
  have HW0 := bl_alloc (bl_alloc (Below.refl w.heap.size w) (.cells #[.string (bs nm), .slice pa ps.length pc, .int .i64 rg, .int .i64 cl, .slice la l.length lc] 25)) (.cells #[.int .i64 kd, .int .i64 op, .int .i64 d, .int .i64 xa, .int .i64 xb, .int .i64 xc, .int .u32 (n : Int), .string (bs xn), .slice ga ag.length gc] 43)
  have HS := @faS_of w
  have hz0 : ((w.alloc (.cells #[.string (bs nm), .slice pa ps.length pc, .int .i64 rg, .int .i64 cl, .slice la l.length lc] 25)).alloc (.cells #[.int .i64 kd, .int .i64 op, .int .i64 d, .int .i64 xa, .int .i64 xb, .int .i64 xc, .int .u32 (n : Int), .string (bs xn), .slice ga ag.length gc] 43)).heap.size = w.heap.size + 2 := by simp
  have hkn0 := hkn _ ((hg.alloc (.cells #[.string (bs nm), .slice pa ps.length pc, .int .i64 rg, .int .i64 cl, .slice la l.length lc] 25)).alloc (.cells #[.int .i64 kd, .int .i64 op, .int .i64 d, .int .i64 xa, .int .i64 xb, .int .i64 xc, .int .u32 (n : Int), .string (bs xn), .slice ga ag.length gc] 43))
  clear hkn hn hag
  clear hwb hwr
  go_enter Try.func31, Try.ntmps31
  go_wp2_with (first | (go_at_call 36; refine hkn0.mono ?_; rintro e w1 ⟨rfl, hb1⟩; refine Hid.out ?_))
  refine Lib.hid ?_
  have hS1 := HS (w' := w1) (nm := nm) (s1 := .slice pa ps.length pc) (rg := rg) (cl := cl) (s2 := .slice la l.length lc) (kd := kd) (op := op) (d := d) (xa := xa) (xb := xb) (xc := xc) (n := n) (xn := xn) (s3 := .slice ga ag.length gc) (by rw [← hz0]; exact hb1)
  have hB1 := bl_then HW0 hb1
  have hsz1 : w.heap.size + 2 ≤ w1.heap.size := by rw [← hz0]; exact hb1.size
  clear HS HW0 hkn0 hb1
  obtain ⟨⟨q0, q1, q2, q3, q4⟩, p0, p1, p2, p3, p4, p5, p6, p7, p8⟩ := hS1
  go_wp2_with fail
  go_ret
  exact ⟨by rw [HFa.out]; rfl, hB1⟩
set_option maxRecDepth 100000 in
set_option maxHeartbeats 4000000 in
theorem fault_no {B : Nat} {S : Nat → Prop} (x : Co) (pa : Option Addr) (pc : Nat) (la : Option Addr) (lc : Nat) (i : Nat) (y : Ir) (ga : Option Addr) (gc : Nat) (w : World) (hr : kInt.row w S ga y.args) (hgc : y.args.length ≤ gc) (hag : y.args.length ≤ 1000000)
    (hn : y.name.length ≤ 1000000000) (hl : x.l.length ≤ 10000) (hi : i < x.l.length) (hc0 : 0 ≤ x.cells) (hc1 : x.cells ≤ 4096) (hg : Glob B w) (hkt : knownB y = true) (hra : (readsL y).all (inB x.regs) = false) :
    Calls Try.prog 31 #[coV x pa pc la lc, .int .i64 i, irV y ga gc] w fun e w' => e = .returned (.int .i64 (faultN x i y)) ∧ Below w.heap.size w w' := by
  have HFa : Hid (faultN x i y = if knownB y = false then 14 else if ((readsL y).all (inB x.regs) && (!writesB y || inB x.regs y.d)) = false then 15 else restN x i y) := rfl
  have HRe : Hid (restN x i y = if (y.kind = 5 ∨ y.kind = 6) ∧ x.cells ≤ y.n then 16 else if (y.kind = 8 ∨ y.kind = 9) ∧ (y.c ≤ i ∨ x.l.length ≤ y.c) then 17 else if i + 1 = x.l.length ∧ y.kind ≠ 10 then 18 else 0) := rfl
  have hkn := fun (w1 : World) (h : Glob B w1) => isKnown_any y ga gc w1 hn h
  have hrd := fun (w1 : World) (h : kInt.row w1 S ga y.args) => reads_any y ga gc w1 h hgc
  have hwr := fun (w1 : World) => writes_any y ga gc w1
  have hrl : (readsL y).length ≤ 1000000 := by
    unfold readsL
    split
    · simp
    · split
      · simp
      · split
        · simp
        · split
          · exact hag
          · simp
  generalize restN x i y = R at HFa HRe
  obtain ⟨nm, ps, rg, cl, l⟩ := x
  have hu := u32_small cl hc0 hc1
  rw [hkt, hra] at HFa
  rw [hkt] at hkn
  generalize hwb : writesB y = wb at HFa hwr
  generalize readsL y = rl at hrd hrl hra
  obtain ⟨kd, op, d, xa, xb, xc, n, xn, ag⟩ := y
  unfold coV irV at *
  simp only at hr hl hi hc0 hc1 HFa HRe hgc ⊢
  have HW0 := bl_alloc (bl_alloc (Below.refl w.heap.size w) (.cells #[.string (bs nm), .slice pa ps.length pc, .int .i64 rg, .int .i64 cl, .slice la l.length lc] 25)) (.cells #[.int .i64 kd, .int .i64 op, .int .i64 d, .int .i64 xa, .int .i64 xb, .int .i64 xc, .int .u32 (n : Int), .string (bs xn), .slice ga ag.length gc] 43)
  have HS := @faS_of w
  have hz0 : ((w.alloc (.cells #[.string (bs nm), .slice pa ps.length pc, .int .i64 rg, .int .i64 cl, .slice la l.length lc] 25)).alloc (.cells #[.int .i64 kd, .int .i64 op, .int .i64 d, .int .i64 xa, .int .i64 xb, .int .i64 xc, .int .u32 (n : Int), .string (bs xn), .slice ga ag.length gc] 43)).heap.size = w.heap.size + 2 := by simp
  have hkn0 := hkn _ ((hg.alloc (.cells #[.string (bs nm), .slice pa ps.length pc, .int .i64 rg, .int .i64 cl, .slice la l.length lc] 25)).alloc (.cells #[.int .i64 kd, .int .i64 op, .int .i64 d, .int .i64 xa, .int .i64 xb, .int .i64 xc, .int .u32 (n : Int), .string (bs xn), .slice ga ag.length gc] 43))
  clear hkn hn hag
  clear hwb hwr
  go_enter Try.func31, Try.ntmps31
  go_wp2_with (first | (go_at_call 36; refine hkn0.mono ?_; rintro e w1 ⟨rfl, hb1⟩; refine Hid.out ?_))
  refine Lib.hid ?_
  have hS1 := HS (w' := w1) (nm := nm) (s1 := .slice pa ps.length pc) (rg := rg) (cl := cl) (s2 := .slice la l.length lc) (kd := kd) (op := op) (d := d) (xa := xa) (xb := xb) (xc := xc) (n := n) (xn := xn) (s3 := .slice ga ag.length gc) (by rw [← hz0]; exact hb1)
  have hB1 := bl_then HW0 hb1
  have hsz1 : w.heap.size + 2 ≤ w1.heap.size := by rw [← hz0]; exact hb1.size
  clear HS HW0 hkn0 hb1
  have on : ∀ {w2 : World}, Below w1.heap.size w1 w2 → FaS w.heap.size nm (.slice pa ps.length pc) rg cl (.slice la l.length lc) kd op d xa xb xc n xn (.slice ga ag.length gc) w2 := fun {w2} hb => by
    have ce : ∀ b o, b < w1.heap.size → w2.cell? ⟨b, o, none⟩ = w1.cell? ⟨b, o, none⟩ := fun b o h => hb.cell (p := ⟨b, o, none⟩) h
    obtain ⟨⟨q0, q1, q2, q3, q4⟩, p0, p1, p2, p3, p4, p5, p6, p7, p8⟩ := hS1
    refine ⟨⟨?_, ?_, ?_, ?_, ?_⟩, ⟨?_, ?_, ?_, ?_, ?_, ?_, ?_, ?_, ?_⟩⟩ <;> rw [ce _ _ (by omega)] <;> assumption
  have ON : Hid (∀ {w2 : World}, Below w1.heap.size w1 w2 → FaS w.heap.size nm (.slice pa ps.length pc) rg cl (.slice la l.length lc) kd op d xa xb xc n xn (.slice ga ag.length gc) w2) := on
  clear on
  have B1 : Below w1.heap.size w1 w1.drew := ⟨rfl, rfl, rfl, Nat.le_refl _, fun _ _ => rfl⟩
  have S1 := ON.out B1
  have hrd1 := hrd w1.drew (kInt.row_mono (T := S) (by decide) hr fun b hb hlt => ⟨hb, hB1.block b hlt⟩)
  have hwi := fun (w2 : World) (v : Value) (hv : kInt.rd w2 (fun b => S b ∨ w1.drew.heap.size ≤ b) v rl) => (by obtain ⟨a, c, rfl, hr2, hc2⟩ := hv; exact ⟨a, c, rfl, within_any w2 a rl c rg hr2 hrl⟩ : ∃ a c, v = .slice a rl.length c ∧ Calls Try.prog 37 #[.slice a rl.length c, .int .i64 rg] w2 fun e w' => e = .returned (.bool (rl.all (inB rg))) ∧ w' = w2)
  have HB1 : Hid _ := hB1
  clear hB1 hr hrd
  rw [hra] at hwi
  go_wp2_with fail
  have hun : undef = Value.tuple #[] := rfl
  refine wp_region_held_drew (S := (fun w' => FaS w.heap.size nm (.slice pa ps.length pc) rg cl (.slice la l.length lc) kd op d xa xb xc n xn (.slice ga ag.length gc) w')) (by kernel_rfl) S1 (fun hHeld => ?_)
  refine wpAnyH_take (i := 0) (v := ?_) rfl (by kernel_rfl) (by kernel_rfl) (by kernel_rfl) (fun _ _ _ h => h) (Or.inl ⟨by rfl, by intro w hSw; (try dsimp only at hSw); go_simp; all_goals with_reducible rfl⟩) hHeld ?_
  try simp only [Act.put]
  refine wpAnyH_take (i := 2) (v := ?_) rfl (by kernel_rfl) (by kernel_rfl) (by kernel_rfl) (fun _ _ _ h => h) (Or.inl ⟨by rfl, by intro w hSw; (try dsimp only at hSw); go_simp; all_goals with_reducible rfl⟩) hHeld ?_
  try simp only [Act.put]
  refine wpAnyH_take (i := 3) (v := ?_) rfl (by kernel_rfl) (by kernel_rfl) (by kernel_rfl) (fun _ _ _ h => h) (Or.inl ⟨by rfl, by intro w hSw; (try dsimp only at hSw); go_simp; all_goals with_reducible rfl⟩) hHeld ?_
  try simp only [Act.put]
  refine wpAnyH_ready (rs := [1]) (by kernel_rfl) (by simp) ?_
  refine AllReadyH.cons rfl (fun K hK => ?_) AllReadyH.nil
  go_simp
  go_at_call 38
  refine hrd1.mono ?_
  rintro e w2 ⟨⟨v2, rfl, hv2⟩, hb2⟩
  obtain ⟨a2, c2, rfl, hwi2⟩ := hwi _ _ hv2
  have B2 := bl_then B1 hb2
  have S2 := ON.out B2
  clear hv2
  refine hK.out _ _ S2 (fun hHeld => ?_)
  clear hK K
  try simp only [Act.put]
  refine wpAnyH_ready (rs := [4]) (by kernel_rfl) (by simp) ?_
  refine AllReadyH.cons rfl (fun K hK => ?_) AllReadyH.nil
  go_simp
  go_at_call 37
  refine hwi2.mono ?_
  rintro e w3 ⟨rfl, hq⟩
  have hq' := hq.symm
  subst hq'
  refine hK.out _ _ S2 (fun hHeld => ?_)
  clear hK K
  try simp only [Act.put]
  refine wpAnyH_take (i := 5) (v := ?_) rfl (by kernel_rfl) (by kernel_rfl) (by kernel_rfl) (fun _ _ _ h => h) (Or.inl ⟨by rfl, by intro w hSw; (try dsimp only at hSw); go_simp; all_goals with_reducible rfl⟩) hHeld ?_
  try simp only [Act.put]
  refine wpAnyH_take (i := 6) (v := ?_) rfl (by kernel_rfl) (by kernel_rfl) (by kernel_rfl) (fun _ _ _ h => h) (Or.inl ⟨by rfl, by intro w hSw; (try dsimp only at hSw); go_simp; all_goals with_reducible rfl⟩) hHeld ?_
  try simp only [Act.put]
  refine wpAnyH_take (i := 7) (v := undef) rfl (by kernel_rfl) (by kernel_rfl) (by kernel_rfl) (fun _ _ _ h => h) (Or.inr ⟨by rfl, rfl⟩) hHeld ?_
  try simp only [Act.put]
  refine wpAnyH_ready (rs := [8]) (by kernel_rfl) (by simp) ?_
  refine AllReadyH.cons rfl (fun K hK => ?_) AllReadyH.nil
  go_simp
  refine hK.out _ _ S2 (fun hHeld => ?_)
  clear hK K
  try simp only [Act.put]
  refine wpAnyH_take (i := 9) (v := undef) rfl (by kernel_rfl) (by kernel_rfl) (by kernel_rfl) (fun _ _ _ h => h) (Or.inr ⟨by rfl, rfl⟩) hHeld ?_
  try simp only [Act.put]
  refine wpAnyH_take (i := 10) (v := undef) rfl (by kernel_rfl) (by kernel_rfl) (by kernel_rfl) (fun _ _ _ h => h) (Or.inr ⟨by rfl, rfl⟩) hHeld ?_
  try simp only [Act.put]
  refine wpAnyH_take (i := 11) (v := undef) rfl (by kernel_rfl) (by kernel_rfl) (by kernel_rfl) (fun _ _ _ h => h) (Or.inr ⟨by rfl, rfl⟩) hHeld ?_
  try simp only [Act.put]
  refine wpAnyH_take (i := 13) (v := undef) rfl (by kernel_rfl) (by kernel_rfl) (by kernel_rfl) (fun _ _ _ h => h) (Or.inr ⟨by rfl, rfl⟩) hHeld ?_
  try simp only [Act.put]
  refine wpAnyH_take (i := 14) (v := undef) rfl (by kernel_rfl) (by kernel_rfl) (by kernel_rfl) (fun _ _ _ h => h) (Or.inr ⟨by rfl, rfl⟩) hHeld ?_
  try simp only [Act.put]
  refine wpAnyH_ready (rs := [12]) (by kernel_rfl) (by simp) ?_
  refine AllReadyH.cons rfl (fun K hK => ?_) AllReadyH.nil
  go_simp
  refine hK.out _ _ S2 (fun hHeld => ?_)
  clear hK K
  try simp only [Act.put]
  refine wpAnyH_ready (rs := [15]) (by kernel_rfl) (by simp) ?_
  refine AllReadyH.cons rfl (fun K hK => ?_) AllReadyH.nil
  go_simp
  refine hK.out _ _ S2 (fun hHeld => ?_)
  clear hK K
  try simp only [Act.put]
  refine wpAnyH_take (i := 16) (v := undef) rfl (by kernel_rfl) (by kernel_rfl) (by kernel_rfl) (fun _ _ _ h => h) (Or.inr ⟨by rfl, rfl⟩) hHeld ?_
  try simp only [Act.put]
  refine wpAnyH_take (i := 17) (v := undef) rfl (by kernel_rfl) (by kernel_rfl) (by kernel_rfl) (fun _ _ _ h => h) (Or.inr ⟨by rfl, rfl⟩) hHeld ?_
  try simp only [Act.put]
  refine wpAnyH_take (i := 18) (v := ?_) rfl (by kernel_rfl) (by kernel_rfl) (by kernel_rfl) (fun _ _ _ h => h) (Or.inl ⟨by rfl, by intro w hSw; (try dsimp only at hSw); go_simp; all_goals with_reducible rfl⟩) hHeld ?_
  try simp only [Act.put]
  refine wpAnyH_take (i := 19) (v := ?_) rfl (by kernel_rfl) (by kernel_rfl) (by kernel_rfl) (fun _ _ _ h => h) (Or.inl ⟨by rfl, by intro w hSw; (try dsimp only at hSw); go_simp; all_goals with_reducible rfl⟩) hHeld ?_
  try simp only [Act.put]
  refine wpAnyH_done (by kernel_rfl) ?_ _
  clear hun
  obtain ⟨⟨q0, q1, q2, q3, q4⟩, p0, p1, p2, p3, p4, p5, p6, p7, p8⟩ := S2
  go_wp2_with fail
  go_ret
  exact ⟨by rw [HFa.out]; rfl, bl_then HB1.out B2⟩
end Go.Proofs.Ytkbanngbchhgaaa
