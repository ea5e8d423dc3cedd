/- CONTRACT of the statements' own Same, at any two functions. Made by gen/gen_same.py. -/
import Derived.Test.YtndmkfmpdnoliaaGKit
import Derived.Deep.Draws
import Derived.WalkSmall
import Derived.Laws.StructEq
namespace Go.Proofs.Ytndmkfmpdnoliaa
open Go.ChangeShapes Go.WideShapes Go.ChangeAt Go.RowKit

theorem tyy_fields : Try.prog.underlying 77 = some (.struct (Try.prog.fieldsOf 77)) := by kernel_rfl
theorem tyy_held : Try.prog.stoodInHeld 77 = false := by kernel_rfl
theorem neq_tys (b c : Bool) (n m : Int) (w : World) : (binOp .neq 77 (.agg #[.bool b, .int .i64 n]) (.agg #[.bool c, .int .i64 m])).run Try.prog w = .ok (.bool (!(b == c && n == m))) w := by
  rw [run_neq_struct, show (10000 : Nat) = 9999 + 1 from rfl, run_equalIn_agg w 9999 77 _ _ tyy_fields tyy_held]
  have u3 := Try.underlying3
  have a3 := Try.isAgg3
  have z3 := Try.sizeOf3
  have u4 := Try.underlying4
  have a4 := Try.isAgg4
  have z4 := Try.sizeOf4
  simp only [Program.fieldsOf, Try.underlying77]
  by_cases h : n = m
  · subst h
    cases b <;> cases c <;> go_simp
  · have h' : (n == m) = false := by simpa using h
    cases b <;> cases c <;> go_simp
theorem bs_neq {l m : List UInt8} (h : l ≠ m) : ((bs l).toList == (bs m).toList) = false ∧ ¬ (bs l).toList = (bs m).toList := by
  rw [bs_tl, bs_tl]; exact ⟨by simpa using h, h⟩
theorem bs_same (l : List UInt8) : ((bs l).toList == (bs l).toList) = true := by simp
theorem take_more {α : Type} {l m : List α} {k : Nat} (h : l.take k = m.take k) (hl : k < l.length) (hm : k < m.length) (he : l[k] = m[k]) : l.take (k + 1) = m.take (k + 1) := by
  rw [List.take_succ_eq_append_getElem hl, List.take_succ_eq_append_getElem hm, h, he]
theorem all_taken {α : Type} {l m : List α} {k : Nat} (h : l.take k = m.take k) (hl : ¬ k < l.length) (hm : l.length = m.length) : l = m := by
  rw [List.take_of_length_le (by omega), List.take_of_length_le (by omega)] at h; exact h
theorem nine {w : World} {b : Nat} {x0 x1 x2 x3 x4 x5 x6 x7 x8 : Value} {t : TypeId} (h : w.heap[b]? = some (.cells #[x0, x1, x2, x3, x4, x5, x6, x7, x8] t)) :
    w.cell? ⟨b, 0, none⟩ = some x0 ∧ w.cell? ⟨b, 1, none⟩ = some x1 ∧ w.cell? ⟨b, 2, none⟩ = some x2 ∧ w.cell? ⟨b, 3, none⟩ = some x3 ∧ w.cell? ⟨b, 4, none⟩ = some x4 ∧ w.cell? ⟨b, 5, none⟩ = some x5 ∧ w.cell? ⟨b, 6, none⟩ = some x6 ∧ w.cell? ⟨b, 7, none⟩ = some x7 ∧ w.cell? ⟨b, 8, none⟩ = some x8 := by
  refine ⟨?_, ?_, ?_, ?_, ?_, ?_, ?_, ?_, ?_⟩ <;> simp [World.cell?, h]
theorem two_box (w : World) (o1 o2 : Obj) : ((w.alloc o1).alloc o2).heap[w.heap.size]? = some o1 ∧ ((w.alloc o1).alloc o2).heap[w.heap.size + 1]? = some o2 ∧ Below w.heap.size w ((w.alloc o1).alloc o2) ∧ ((w.alloc o1).alloc o2).heap.size = w.heap.size + 2 := by
  refine ⟨by rw [heap_alloc_old _ _ (by simp)]; exact heap_alloc_new w o1, ?_, bl_alloc (bl_alloc (Below.refl _ _) _) _, by simp⟩
  have := heap_alloc_new (w.alloc o1) o2
  simpa using this
set_option maxRecDepth 100000 in
set_option maxHeartbeats 8000000 in
theorem same7_any {S T : Nat → Prop} (x y : Co) (pa : Option Addr) (pc : Nat) (la : Option Addr) (lc : Nat) (pb : Option Addr) (pd : Nat) (lb : Option Addr) (ld : Nat) (w : World) (hX : CoIn w S x pa pc la lc) (hY : CoIn w T y pb pd lb ld) (hl1 : x.l.length ≤ 1000000) (hp1 : x.ps.length ≤ 1000000) (hg1 : ∀ z ∈ x.l, z.args.length ≤ 1000000) :
    Calls Try.prog 19 #[coV x pa pc la lc, coV y pb pd lb ld] w fun e w' => e = .returned (.bool (decide (x = y))) ∧ Below w.heap.size w w' := by
  obtain ⟨_, _, hps1, hls1⟩ := hX
  obtain ⟨_, _, hps2, hls2⟩ := hY
  obtain ⟨n1, p1, r1, c1, l1⟩ := x
  obtain ⟨n2, p2, r2, c2, l2⟩ := y
  unfold coV
  simp only at hps1 hls1 hps2 hls2 hl1 hp1 hg1 ⊢
  have HD : Hid (decide ((⟨n1, p1, r1, c1, l1⟩ : Co) = ⟨n2, p2, r2, c2, l2⟩) = (decide (n1 = n2) && (decide (p1 = p2) && (decide (r1 = r2) && (decide (c1 = c2) && decide (l1 = l2)))))) := by
    show _ = _
    simp only [Co.mk.injEq, Bool.decide_and]
  have HB0 : Hid _ := (two_box w (.cells #[.string (bs n1), .slice pa p1.length pc, .int .i64 r1, .int .i64 c1, .slice la l1.length lc] 39) (.cells #[.string (bs n2), .slice pb p2.length pd, .int .i64 r2, .int .i64 c2, .slice lb l2.length ld] 39))
  generalize decide ((⟨n1, p1, r1, c1, l1⟩ : Co) = ⟨n2, p2, r2, c2, l2⟩) = ans at HD ⊢
  by_cases hne : n1 = n2
  rotate_left
  · have HF : Hid (ans = false) := by show _ = _; rw [HD.out]; simp [hne]
    obtain ⟨hq1, hq2⟩ := bs_neq hne
    go_enter Try.func19, Try.ntmps19
    go_wp2
    go_ret
    exact ⟨ret_bool HF.out.symm, HB0.out.2.2.1⟩
  subst hne
  have hnn := bs_same n1
  by_cases hpl : p1.length = p2.length
  rotate_left
  · have hx : ¬ p1 = p2 := fun e => hpl (by rw [e])
    have HF : Hid (ans = false) := by show _ = _; rw [HD.out]; simp [hx]
    have hq : (((p1.length : Nat) : Int) == ((p2.length : Nat) : Int)) = false := by rw [beq_eq_false_iff_ne]; omega
    clear hx
    go_enter Try.func19, Try.ntmps19
    go_wp2
    go_ret
    exact ⟨ret_bool HF.out.symm, HB0.out.2.2.1⟩
  rw [← hpl] at HB0 ⊢
  have HPL : Hid (p1.length = p2.length) := hpl
  clear hpl
  by_cases hrr : r1 = r2
  rotate_left
  · have hx : ¬ r1 = r2 := hrr
    have HF : Hid (ans = false) := by show _ = _; rw [HD.out]; simp [hx]
    have hq : (r1 == r2) = false := by rw [beq_eq_false_iff_ne]; omega
    clear hx
    go_enter Try.func19, Try.ntmps19
    go_wp2
    go_ret
    exact ⟨ret_bool HF.out.symm, HB0.out.2.2.1⟩
  subst hrr
  by_cases hcc : c1 = c2
  rotate_left
  · have hx : ¬ c1 = c2 := hcc
    have HF : Hid (ans = false) := by show _ = _; rw [HD.out]; simp [hx]
    have hq : (c1 == c2) = false := by rw [beq_eq_false_iff_ne]; omega
    clear hx
    go_enter Try.func19, Try.ntmps19
    go_wp2
    go_ret
    exact ⟨ret_bool HF.out.symm, HB0.out.2.2.1⟩
  subst hcc
  by_cases hll : l1.length = l2.length
  rotate_left
  · have hx : ¬ l1 = l2 := fun e => hll (by rw [e])
    have HF : Hid (ans = false) := by show _ = _; rw [HD.out]; simp [hx]
    have hq : (((l1.length : Nat) : Int) == ((l2.length : Nat) : Int)) = false := by rw [beq_eq_false_iff_ne]; omega
    clear hx
    go_enter Try.func19, Try.ntmps19
    go_wp2
    go_ret
    exact ⟨ret_bool HF.out.symm, HB0.out.2.2.1⟩
  rw [← hll] at HB0 ⊢
  have HLL : Hid (l1.length = l2.length) := hll
  clear hll
  go_enter Try.func19, Try.ntmps19
  go_upto_region 3 with fail
  generalize World.alloc (World.alloc w _) _ = w2 at HB0 ⊢
  obtain ⟨hx0, hy0, hB0, hz0⟩ := HB0.out
  have HX0 : Hid _ := hx0
  have HY0 : Hid _ := hy0
  have HBB : Hid _ := hB0
  have HZ : Hid _ := hz0
  clear HB0 hx0 hy0 hB0 hz0 hnn
  have HDD : Hid (ans = (decide (p1 = p2) && decide (l1 = l2))) := by show _ = _; rw [HD.out]; simp
  clear HD
  go_wp2
  go_loopw [5] (fun i wr => ∃ k : Nat, k ≤ p1.length ∧ i = .int .i64 k ∧ p1.take k = p2.take k ∧ Below w2.heap.size w2 wr) (fun i _ => p1.length - (intOf i).toNat)
  case atStart => exact ⟨0, Nat.zero_le _, rfl, rfl, Below.refl _ _⟩
  case round =>
    obtain ⟨k, hk, rfl, hq, hbl⟩ := hrel
    have HQ : Hid _ := hq
    have HB : Hid (Below w2.heap.size w2 wr) := hbl
    have hz := HZ.out
    obtain ⟨q0, q1, q2, q3, q4⟩ := five ((hbl.block w.heap.size (by omega)).trans HX0.out)
    obtain ⟨s0, s1, s2, s3, s4⟩ := five ((hbl.block (w.heap.size + 1) (by omega)).trans HY0.out)
    have hb := bl_then HBB.out hbl
    by_cases hlt : k < p1.length
    · have hlt2 : k < p2.length := by have := HPL.out; omega
      obtain ⟨b1, o1, rfl, _, hb1, h1, h2⟩ := ty_at hps1 k hlt
      obtain ⟨b2, o2, rfl, _, hb2, h3, h4⟩ := ty_at hps2 k hlt2
      have e1 := (hb.cell (p := ⟨b1, o1 + k * 2, none⟩) hb1).trans h1
      have e2 := (hb.cell (p := ⟨b1, o1 + k * 2 + 1, none⟩) hb1).trans h2
      have e3 := (hb.cell (p := ⟨b2, o2 + k * 2, none⟩) hb2).trans h3
      have e4 := (hb.cell (p := ⟨b2, o2 + k * 2 + 1, none⟩) hb2).trans h4
      have hnq := neq_tys p1[k].sec p2[k].sec p1[k].len p2[k].len
      have hk0 : (0 : Int) ≤ (k : Int) := by omega
      have hk1 : (k : Int) < (p1.length : Int) := by omega
      have HEQ : Hid ((p1[k].sec == p2[k].sec && p1[k].len == p2[k].len) = true → p1.take (k + 1) = p2.take (k + 1)) := fun h => by
        simp only [Bool.and_eq_true, beq_iff_eq] at h
        exact take_more HQ.out hlt hlt2 (by
          have h1 := h.1
          have h2 := h.2
          revert h1 h2
          cases p1[k]; cases p2[k]
          rintro rfl rfl
          rfl)
      have HNE : Hid ((p1[k].sec == p2[k].sec && p1[k].len == p2[k].len) = false → ans = false) := fun h => by
        rw [HDD.out]
        have : ¬ p1 = p2 := fun e => by subst e; simp at h
        simp [this]
      clear h1 h2 h3 h4 hbl hb hq
      generalize (p1[k].sec == p2[k].sec && p1[k].len == p2[k].len) = tst at hnq HEQ HNE
      generalize p1[k].sec = sc1 at e1 hnq
      generalize p2[k].sec = sc2 at e3 hnq
      generalize p1[k].len = ln1 at e2 hnq
      generalize p2[k].len = ln2 at e4 hnq
      cases tst
      · have HF := HNE.out rfl
        have HF' : Hid _ := HF
        clear HEQ HNE HF
        go_wp2_with fail
        go_quiet (fail)
        go_wp2_with fail
        go_ret
        exact ⟨ret_bool HF'.out.symm, bl_then (bl_then HBB.out HB.out) (drewN_below _ _)⟩
      · have HN := HEQ.out rfl
        have HN' : Hid _ := HN
        clear HEQ HNE HN
        go_wp2_with fail
        go_quiet (fail)
        go_wp2_with fail
        go_roundw
        case rel => exact ⟨k + 1, by omega, by go_num, HN'.out, bl_then HB.out (drewN_below _ _)⟩
        case measure => simp [intOf]; omega
    · have hpp := all_taken hq hlt HPL.out
      have HD3 : Hid (ans = decide (l1 = l2)) := by show _ = _; rw [HDD.out]; simp [hpp]
      have HWR : Hid _ := hb
      clear hbl hb hq hpp
      go_upto_region 8 with fail
      have HX1 : Hid _ := (HB.out.block w.heap.size (by omega)).trans HX0.out
      have HY1 : Hid _ := (HB.out.block (w.heap.size + 1) (by omega)).trans HY0.out
      obtain ⟨w3, hw3⟩ : ∃ x, x = wr := ⟨wr, rfl⟩
      subst hw3
      have hs3 := HB.out.size
      clear q0 q1 q2 q3 q4 s0 s1 s2 s3 s4 HB
      go_wp2
      go_loopw [6] (fun i wr => ∃ k : Nat, k ≤ l1.length ∧ i = .int .i64 k ∧ l1.take k = l2.take k ∧ Below w3.heap.size w3 wr) (fun i _ => l1.length - (intOf i).toNat)
      case atStart => exact ⟨0, Nat.zero_le _, rfl, rfl, Below.refl _ _⟩
      case round =>
        obtain ⟨k2, hk2, rfl, hq, hbl⟩ := hrel
        obtain ⟨wo, hwo⟩ : ∃ x, x = wr := ⟨wr, rfl⟩
        subst hwo
        have HQ2 : Hid _ := hq
        have HB2 : Hid (Below w3.heap.size w3 wo) := hbl
        obtain ⟨q0, q1, q2, q3, q4⟩ := five ((hbl.block w.heap.size (by omega)).trans HX1.out)
        obtain ⟨s0, s1, s2, s3, s4⟩ := five ((hbl.block (w.heap.size + 1) (by omega)).trans HY1.out)
        have hb := bl_then HWR.out hbl
        by_cases hlt : k2 < l1.length
        · have hlt2 : k2 < l2.length := by have := HLL.out; omega
          obtain ⟨b1, o1, ga, gc, rfl, _, hb1, hi1, hgc, hn1, hr1⟩ := ir_at hls1 k2 hlt
          obtain ⟨b2, o2, gb, gd, rfl, _, hb2, hi2, hgd, hn2, hr2⟩ := ir_at hls2 k2 hlt2
          obtain ⟨e0, e1, e2, e3, e4, e5, e6, e7, e8⟩ := hi1.keep (hb.block b1 hb1)
          obtain ⟨d0, d1, d2, d3, d4, d5, d6, d7, d8⟩ := hi2.keep (hb.block b2 hb2)
          have HEQ : Hid (l1[k2] = l2[k2] → l1.take (k2 + 1) = l2.take (k2 + 1)) := fun h => take_more HQ2.out hlt hlt2 h
          have HNE : Hid (l1[k2] ≠ l2[k2] → ans = false) := fun h => by
            rw [HD3.out]
            have : ¬ l1 = l2 := fun e => by subst e; exact h rfl
            simp [this]
          have hga := hg1 _ (List.getElem_mem hlt)
          have HR1 : Hid (kInt.row wo S ga l1[k2].args) := kInt.row_mono (by decide) hr1 fun b hb0 hlt => ⟨hb0, hb.block b hlt⟩
          have HR2 : Hid (kInt.row wo T gb l2[k2].args) := kInt.row_mono (by decide) hr2 fun b hb0 hlt => ⟨hb0, hb.block b hlt⟩
          have HBX : Hid _ := hb
          have hsA : w.heap.size + 1 < wo.heap.size := by have := hbl.size; omega
          have hsB : b2 < wo.heap.size := Nat.lt_of_lt_of_le hb2 hb.size
          clear hi1 hi2 hr1 hr2 hbl hb hq hgc hgd hn1 hn2
          generalize l1[k2] = y1 at e0 e1 e2 e3 e4 e5 e6 e7 e8 HEQ HNE HR1 hga
          generalize l2[k2] = y2 at d0 d1 d2 d3 d4 d5 d6 d7 d8 HEQ HNE HR2
          obtain ⟨k1', o1', d1', a1', b1', c1', m1', x1', g1'⟩ := y1
          obtain ⟨k2', o2', d2', a2', b2', c2', m2', x2', g2'⟩ := y2
          simp only at e0 e1 e2 e3 e4 e5 e6 e7 e8 d0 d1 d2 d3 d4 d5 d6 d7 d8 HR1 HR2 hga
          have H2B : Hid _ := two_box wo (.cells #[.int .i64 k1', .int .i64 o1', .int .i64 d1', .int .i64 a1', .int .i64 b1', .int .i64 c1', .int .u32 (m1' : Int), .string (bs x1'), .slice ga g1'.length gc] 50) (.cells #[.int .i64 k2', .int .i64 o2', .int .i64 d2', .int .i64 a2', .int .i64 b2', .int .i64 c2', .int .u32 (m2' : Int), .string (bs x2'), .slice gb g2'.length gd] 50)
          have hk0 : (0 : Int) ≤ (k2 : Int) := by omega
          have hk1 : (k2 : Int) < (l1.length : Int) := by omega
          go_upto_region 13 with fail
          generalize World.alloc (World.alloc wo _) _ = w4 at H2B ⊢
          clear e0 e1 e2 e3 e4 e5 e6 e7 e8 d0 d1 d2 d3 d4 d5 d6 d7 d8 q0 q1 q2 q3 q4 s0 s1 s2 s3 s4
          obtain ⟨hx4, hy4, hb4, hz4⟩ := H2B.out
          have HX4 : Hid _ := hx4
          have HY4 : Hid _ := hy4
          have HB4 : Hid _ := hb4
          clear H2B
          obtain ⟨e0, e1, e2, e3, e4, e5, e6, e7, e8⟩ := nine hx4
          obtain ⟨d0, d1, d2, d3, d4, d5, d6, d7, d8⟩ := nine hy4
          clear hx4 hy4 hb4
          by_cases hne : k1' = k2'
          rotate_left
          · have HF : Hid _ := HNE.out (fun e => absurd (congrArg Ir.kind e) hne)
            have hq : (k1' == k2') = false := by rw [beq_eq_false_iff_ne]; exact hne
            clear HEQ HNE
            go_wp2_with fail
            go_ret
            exact ⟨ret_bool HF.out.symm, bl_then HBX.out HB4.out⟩
          subst hne
          by_cases hne : o1' = o2'
          rotate_left
          · have HF : Hid _ := HNE.out (fun e => absurd (congrArg Ir.op e) hne)
            have hq : (o1' == o2') = false := by rw [beq_eq_false_iff_ne]; exact hne
            clear HEQ HNE
            go_wp2_with fail
            go_ret
            exact ⟨ret_bool HF.out.symm, bl_then HBX.out HB4.out⟩
          subst hne
          by_cases hne : d1' = d2'
          rotate_left
          · have HF : Hid _ := HNE.out (fun e => absurd (congrArg Ir.d e) hne)
            have hq : (d1' == d2') = false := by rw [beq_eq_false_iff_ne]; exact hne
            clear HEQ HNE
            go_wp2_with fail
            go_ret
            exact ⟨ret_bool HF.out.symm, bl_then HBX.out HB4.out⟩
          subst hne
          by_cases hne : a1' = a2'
          rotate_left
          · have HF : Hid _ := HNE.out (fun e => absurd (congrArg Ir.a e) hne)
            have hq : (a1' == a2') = false := by rw [beq_eq_false_iff_ne]; exact hne
            clear HEQ HNE
            go_wp2_with fail
            go_ret
            exact ⟨ret_bool HF.out.symm, bl_then HBX.out HB4.out⟩
          subst hne
          by_cases hne : b1' = b2'
          rotate_left
          · have HF : Hid _ := HNE.out (fun e => absurd (congrArg Ir.b e) hne)
            have hq : (b1' == b2') = false := by rw [beq_eq_false_iff_ne]; exact hne
            clear HEQ HNE
            go_wp2_with fail
            go_ret
            exact ⟨ret_bool HF.out.symm, bl_then HBX.out HB4.out⟩
          subst hne
          by_cases hne : c1' = c2'
          rotate_left
          · have HF : Hid _ := HNE.out (fun e => absurd (congrArg Ir.c e) hne)
            have hq : (c1' == c2') = false := by rw [beq_eq_false_iff_ne]; exact hne
            clear HEQ HNE
            go_wp2_with fail
            go_ret
            exact ⟨ret_bool HF.out.symm, bl_then HBX.out HB4.out⟩
          subst hne
          by_cases hne : m1' = m2'
          rotate_left
          · have HF : Hid _ := HNE.out (fun e => absurd (congrArg Ir.n e) hne)
            have hq : (((m1' : Nat) : Int) == ((m2' : Nat) : Int)) = false := by rw [beq_eq_false_iff_ne]; omega
            clear HEQ HNE
            go_wp2_with fail
            go_ret
            exact ⟨ret_bool HF.out.symm, bl_then HBX.out HB4.out⟩
          subst hne
          by_cases hne : x1' = x2'
          rotate_left
          · have HF : Hid _ := HNE.out (fun e => absurd (congrArg Ir.name e) hne)
            obtain ⟨hq1, hq2⟩ := bs_neq hne
            clear HEQ HNE
            go_wp2_with fail
            go_ret
            exact ⟨ret_bool HF.out.symm, bl_then HBX.out HB4.out⟩
          subst hne
          have hxs := bs_same x1'
          by_cases hgl : g1'.length = g2'.length
          rotate_left
          · have HF : Hid _ := HNE.out (fun e => hgl (congrArg (fun z : Ir => z.args.length) e))
            have hq : (((g1'.length : Nat) : Int) == ((g2'.length : Nat) : Int)) = false := by rw [beq_eq_false_iff_ne]; omega
            clear HEQ HNE
            go_wp2_with fail
            go_ret
            exact ⟨ret_bool HF.out.symm, bl_then HBX.out HB4.out⟩
          rw [← hgl] at d8 HY4
          have HGL : Hid (g1'.length = g2'.length) := hgl
          clear hgl
          go_upto_region 15 with fail
          clear e0 e1 e2 e3 e4 e5 e6 e7 e8 d0 d1 d2 d3 d4 d5 d6 d7 d8 hxs
          go_wp2
          go_loopw [9] (fun j wz => ∃ m : Nat, m ≤ g1'.length ∧ j = .int .i64 m ∧ g1'.take m = g2'.take m ∧ Below w4.heap.size w4 wz) (fun j _ => g1'.length - (intOf j).toNat)
          case atStart => exact ⟨0, Nat.zero_le _, rfl, rfl, Below.refl _ _⟩
          case round =>
            obtain ⟨m, hm, rfl, hq, hby⟩ := hrel
            have HY : Hid (Below w4.heap.size w4 wr) := hby
            obtain ⟨_, _, _, _, _, _, _, _, e8⟩ := nine ((hby.block wo.heap.size (lt_of_some HX4.out)).trans HX4.out)
            obtain ⟨_, _, _, _, _, _, _, _, d8⟩ := nine ((hby.block (wo.heap.size + 1) (lt_of_some HY4.out)).trans HY4.out)
            have hb5 := bl_then HB4.out hby
            by_cases hmt : m < g1'.length
            · have hmt2 : m < g2'.length := by have := HGL.out; omega
              obtain ⟨b3, o3, rfl, _, hb3, h1⟩ := int_at HR1.out m hmt
              obtain ⟨b4, o4, rfl, _, hb4, h2⟩ := int_at HR2.out m hmt2
              have t1 := (hb5.cell (p := ⟨b3, o3 + m, none⟩) hb3).trans h1
              have t2 := (hb5.cell (p := ⟨b4, o4 + m, none⟩) hb4).trans h2
              have HE3 : Hid (g1'[m] = g2'[m] → g1'.take (m + 1) = g2'.take (m + 1)) := fun h => take_more hq hmt hmt2 h
              have HN3 : Hid (g1'[m] ≠ g2'[m] → ans = false) := fun h => HNE.out fun e => h (by
                have e2 := congrArg Ir.args e
                simp only at e2
                subst e2
                rfl)
              have hm0 : (0 : Int) ≤ (m : Int) := by omega
              have hm1 : (m : Int) < (g1'.length : Int) := by omega
              clear h1 h2 hby hb5 hq HEQ HNE
              generalize g1'[m] = v1 at t1 HE3 HN3
              generalize g2'[m] = v2 at t2 HE3 HN3
              by_cases hv : v1 = v2
              · subst hv
                have HT : Hid _ := HE3.out rfl
                clear HE3 HN3
                go_wp2_with fail
                go_quiet (fail)
                go_wp2_with fail
                go_roundw
                case rel => exact ⟨m + 1, by omega, by go_num, HT.out, bl_then HY.out (drewN_below _ _)⟩
                case measure => simp [intOf]; omega
              · have HF : Hid _ := HN3.out hv
                have hv' : (v1 == v2) = false := by rw [beq_eq_false_iff_ne]; exact hv
                clear HE3 HN3
                go_wp2_with fail
                go_quiet (fail)
                go_wp2_with fail
                go_ret
                exact ⟨ret_bool HF.out.symm, bl_then (bl_then HBX.out (bl_then HB4.out HY.out)) (drewN_below _ _)⟩
            · have hgg := all_taken hq hmt HGL.out
              have HT : Hid _ := HEQ.out (by rw [hgg])
              have HW : Hid _ := hb5
              clear hby hb5 hq hgg HEQ HNE
              go_wp2_with fail
              go_roundw
              case rel => exact ⟨k2 + 1, by omega, by go_num, HT.out, bl_then HB2.out HW.out⟩
              case measure => simp [intOf]; omega
        · have hpp := all_taken hq hlt HLL.out
          have HF : Hid (ans = true) := by show _ = _; rw [HD3.out]; simp [hpp]
          have HWX : Hid _ := hb
          clear hbl hb hq hpp
          go_wp2_with fail
          go_ret
          exact ⟨ret_bool HF.out.symm, HWX.out⟩
end Go.Proofs.Ytndmkfmpdnoliaa
