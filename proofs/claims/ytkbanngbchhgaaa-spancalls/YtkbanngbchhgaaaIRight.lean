/- CONTRACTS of isKnown, hasForm, fault, Right. -/
import Derived.Test.YtkbanngbchhgaaaIFull
import Derived.Test.YtkbanngbchhgaaaISign
import Derived.Deep.RegionHeld3
import Derived.Lib.Hide
namespace Go.Proofs.Ytkbanngbchhgaaa
open Go.ChangeShapes Go.WideShapes Go.ChangeAt Go.RowKit

set_option maxHeartbeats 1000000 in
theorem isKnown_any {B : Nat} (x : Ir) (a : Option Addr) (c : Nat) (w : World) (hn : x.name.length ≤ 1000000000) (hg : Glob B w) :
    Calls Try.prog 36 #[irV x a c] w fun e w' => e = .returned (.bool (knownB x)) ∧ Below w.heap.size w w' := by
  obtain ⟨kd, op, d, xa, xb, xc, n, nm, ag⟩ := x
  unfold irV
  simp only [knownB] at *
  by_cases h3 : kd = 3
  · rw [if_pos h3]
    subst h3
    go_enter Try.func36, Try.ntmps36
    go_wp2_with (first | (go_at_call 44; refine (sign_any _ _).mono ?_; rintro e w1 ⟨rfl, hb1⟩))
    go_ret
    exact ⟨rfl, bl_then (bl_alloc (Below.refl _ _) _) hb1⟩
  rw [if_neg h3]
  have g3 : (kd == 3) = false := by simpa using h3
  by_cases h7 : kd = 7
  · rw [if_pos h7]
    subst h7
    by_cases h6 : ag.length ≤ 6
    · have h6' : (ag.length : Int) ≤ 6 := by omega
      have HF : Hid ((decide (ag.length ≤ 6) && fullB nm) = fullB nm) := by show _ = _; simp [h6]
      have hf := isFull_any nm (w.alloc (.cells #[.int .i64 7, .int .i64 op, .int .i64 d, .int .i64 xa, .int .i64 xb, .int .i64 xc, .int .u32 (n : Int), .string (bs nm), .slice a ag.length c] 43)) hn (hg.alloc _)
      go_enter Try.func36, Try.ntmps36
      go_wp2_with (first | (go_at_call 34; refine hf.mono ?_; rintro e w1 ⟨rfl, hb1⟩))
      go_ret
      exact ⟨ret_bool HF.out.symm, bl_then (bl_alloc (Below.refl _ _) _) hb1⟩
    · have h6' : ¬ (ag.length : Int) ≤ 6 := by omega
      have HF : Hid ((decide (ag.length ≤ 6) && fullB nm) = false) := by show _ = _; simp [h6]
      rw [HF.out]
      go_enter Try.func36, Try.ntmps36
      go_wp2
      go_ret
      exact ⟨rfl, bl_alloc (Below.refl _ _) _⟩
  rw [if_neg h7]
  have g7 : (kd == 7) = false := by simpa using h7
  by_cases h1 : 1 ≤ kd
  · by_cases h10 : kd ≤ 10
    · go_enter Try.func36, Try.ntmps36
      go_wp2
      go_ret
      exact ⟨ret_bool (by simp; omega), bl_alloc (Below.refl _ _) _⟩
    · go_enter Try.func36, Try.ntmps36
      go_wp2
      go_ret
      exact ⟨ret_bool (by simp; omega), bl_alloc (Below.refl _ _) _⟩
  · go_enter Try.func36, Try.ntmps36
    go_wp2
    go_ret
    exact ⟨ret_bool (by simp; omega), bl_alloc (Below.refl _ _) _⟩

/-- The value of a function. -/
def coV (x : Co) (pa : Option Addr) (pc : Nat) (la : Option Addr) (lc : Nat) : Value := .agg #[.string (bs x.name), .slice pa x.ps.length pc, .int .i64 x.regs, .int .i64 x.cells, .slice la x.l.length lc]
/-- Its block. -/
abbrev coO (x : Co) (pa : Option Addr) (pc : Nat) (la : Option Addr) (lc : Nat) : Obj := .cells #[.string (bs x.name), .slice pa x.ps.length pc, .int .i64 x.regs, .int .i64 x.cells, .slice la x.l.length lc] 25
abbrev irO (x : Ir) (a : Option Addr) (c : Nat) : Obj := .cells #[.int .i64 x.kind, .int .i64 x.op, .int .i64 x.d, .int .i64 x.a, .int .i64 x.b, .int .i64 x.c, .int .u32 (x.n : Int), .string (bs x.name), .slice a x.args.length c] 43
/-- A function lies in a block of its own. -/
theorem co_block {w : World} {b : Nat} {x : Co} {pa la : Option Addr} {pc lc : Nat} (h : w.heap[b]? = some (coO x pa pc la lc)) :
    w.cell? ⟨b, 0, none⟩ = some (.string (bs x.name)) ∧ w.cell? ⟨b, 1, none⟩ = some (.slice pa x.ps.length pc) ∧ w.cell? ⟨b, 2, none⟩ = some (.int .i64 x.regs) ∧ w.cell? ⟨b, 3, none⟩ = some (.int .i64 x.cells) ∧ w.cell? ⟨b, 4, none⟩ = some (.slice la x.l.length lc) := by
  refine ⟨?_, ?_, ?_, ?_, ?_⟩ <;> simp [World.cell?, h]
theorem ir_block {w : World} {b : Nat} {x : Ir} {a : Option Addr} {c : Nat} (h : w.heap[b]? = some (irO x a c)) :
    w.cell? ⟨b, 0, none⟩ = some (.int .i64 x.kind) ∧ w.cell? ⟨b, 1, none⟩ = some (.int .i64 x.op) ∧ w.cell? ⟨b, 2, none⟩ = some (.int .i64 x.d) ∧ w.cell? ⟨b, 3, none⟩ = some (.int .i64 x.a) ∧ w.cell? ⟨b, 4, none⟩ = some (.int .i64 x.b) ∧ w.cell? ⟨b, 5, none⟩ = some (.int .i64 x.c) ∧
      w.cell? ⟨b, 6, none⟩ = some (.int .u32 (x.n : Int)) ∧ w.cell? ⟨b, 7, none⟩ = some (.string (bs x.name)) ∧ w.cell? ⟨b, 8, none⟩ = some (.slice a x.args.length c) := by
  refine ⟨?_, ?_, ?_, ?_, ?_, ?_, ?_, ?_, ?_⟩ <;> simp [World.cell?, h]

theorem tyOk_drop (l : List Ty) (k : Nat) (hk : k < l.length) : (l.drop k).all tyOk = (tyOk l[k] && (l.drop (k + 1)).all tyOk) := by
  rw [List.drop_eq_getElem_cons hk, List.all_cons]
set_option maxRecDepth 100000 in
set_option maxHeartbeats 2000000 in
theorem hasForm_any {B : Nat} {S : Nat → Prop} (x : Co) (pa : Option Addr) (pc : Nat) (la : Option Addr) (lc : Nat) (w : World) (hr : kTy.row w S pa x.ps) (hn : x.name.length ≤ 1000000000) (hg : Glob B w) :
    Calls Try.prog 30 #[coV x pa pc la lc] w fun e w' => e = .returned (.bool (formB x)) ∧ Below w.heap.size w w' := by
  obtain ⟨nm, ps, rg, cl, l⟩ := x
  unfold coV
  simp only at hr hn ⊢
  have hf := isFull_any nm (w.alloc (.cells #[.string (bs nm), .slice pa ps.length pc, .int .i64 rg, .int .i64 cl, .slice la l.length lc] 25)) hn (hg.alloc _)
  have HM : Hid (formB ⟨nm, ps, rg, cl, l⟩ = (fullB nm && decide (ps.length ≤ 6) && decide (0 < l.length) && decide (l.length ≤ 10000) && ps.all tyOk && decide ((wordsN ps : Int) ≤ rg) && decide (rg ≤ 10000) && decide (cellsN ps ≤ cl) && decide (cl ≤ 4096))) := rfl
  rcases nf : fullB nm with _ | _ <;> rw [nf] at hf HM
  · go_enter Try.func30, Try.ntmps30
    go_wp2_with (first | (go_at_call 34; refine hf.mono ?_; rintro e w1 ⟨rfl, hb1⟩))
    go_ret
    exact ⟨ret_bool (by rw [HM.out]; simp), bl_then (bl_alloc (Below.refl _ _) _) hb1⟩
  have HW0 := bl_alloc (Below.refl w.heap.size w) (.cells #[.string (bs nm), .slice pa ps.length pc, .int .i64 rg, .int .i64 cl, .slice la l.length lc] 25)
  have hnew := heap_alloc_new w (.cells #[.string (bs nm), .slice pa ps.length pc, .int .i64 rg, .int .i64 cl, .slice la l.length lc] 25)
  have hblk : ∀ w1, Below (w.alloc (.cells #[.string (bs nm), .slice pa ps.length pc, .int .i64 rg, .int .i64 cl, .slice la l.length lc] 25)).heap.size (w.alloc (.cells #[.string (bs nm), .slice pa ps.length pc, .int .i64 rg, .int .i64 cl, .slice la l.length lc] 25)) w1 →
      w1.heap[w.heap.size]? = some (coO ⟨nm, ps, rg, cl, l⟩ pa pc la lc) := fun w1 hb => by rw [hb.block _ (by simp)]; exact hnew
  have HK : Hid (∀ w1, Below (w.alloc (.cells #[.string (bs nm), .slice pa ps.length pc, .int .i64 rg, .int .i64 cl, .slice la l.length lc] 25)).heap.size (w.alloc (.cells #[.string (bs nm), .slice pa ps.length pc, .int .i64 rg, .int .i64 cl, .slice la l.length lc] 25)) w1 →
      w1.heap[w.heap.size]? = some (coO ⟨nm, ps, rg, cl, l⟩ pa pc la lc)) := hblk
  clear hblk hnew
  by_cases h6 : 6 < ps.length
  · have h6' : (6 : Int) < (ps.length : Int) := by omega
    have HF : Hid (formB ⟨nm, ps, rg, cl, l⟩ = false) := by show _ = _; rw [HM.out]; simp; omega
    clear HM
    go_enter Try.func30, Try.ntmps30
    go_wp2_with (first | (go_at_call 34; refine hf.mono ?_; rintro e w1 ⟨rfl, hb1⟩; obtain ⟨q0, q1, q2, q3, q4⟩ := co_block (HK.out w1 hb1)))
    go_ret
    exact ⟨ret_bool HF.out.symm, bl_then HW0 hb1⟩
  have h6' : ¬ (6 : Int) < (ps.length : Int) := by omega
  by_cases hl0 : l.length = 0
  · obtain rfl : l = [] := List.eq_nil_of_length_eq_zero hl0
    have HF : Hid (formB ⟨nm, ps, rg, cl, []⟩ = false) := by show _ = _; rw [HM.out]; simp
    clear HM hl0
    rw [HF.out]
    go_enter Try.func30, Try.ntmps30
    go_wp2_with (first | (go_at_call 34; refine hf.mono ?_; rintro e w1 ⟨rfl, hb1⟩; obtain ⟨q0, q1, q2, q3, q4⟩ := co_block (HK.out w1 hb1)))
    go_ret
    exact ⟨rfl, bl_then HW0 hb1⟩
  have hl0' : ((l.length : Int) == 0) = false := by rw [beq_eq_false_iff_ne]; omega
  by_cases hlm : 10000 < l.length
  · have hlm' : (10000 : Int) < (l.length : Int) := by omega
    have HF : Hid (formB ⟨nm, ps, rg, cl, l⟩ = false) := by show _ = _; rw [HM.out]; simp; intros; omega
    clear HM
    go_enter Try.func30, Try.ntmps30
    go_wp2_with (first | (go_at_call 34; refine hf.mono ?_; rintro e w1 ⟨rfl, hb1⟩; obtain ⟨q0, q1, q2, q3, q4⟩ := co_block (HK.out w1 hb1)))
    go_ret
    exact ⟨ret_bool HF.out.symm, bl_then HW0 hb1⟩
  have hlm' : ¬ (10000 : Int) < (l.length : Int) := by omega
  have HM2 : Hid (formB ⟨nm, ps, rg, cl, l⟩ = (ps.all tyOk && decide ((wordsN ps : Int) ≤ rg) && decide (rg ≤ 10000) && decide (cellsN ps ≤ cl) && decide (cl ≤ 4096))) := by
    have a1 : decide (ps.length ≤ 6) = true := by simp; omega
    have a2 : decide (0 < l.length) = true := by rw [decide_eq_true_eq]; omega
    have a3 : decide (l.length ≤ 10000) = true := by rw [decide_eq_true_eq]; omega
    show _ = _; rw [HM.out, a1, a2, a3]; simp only [Bool.true_and]
  clear HM
  go_enter Try.func30, Try.ntmps30
  go_wp2_with (first | (go_at_call 34; refine hf.mono ?_; rintro e w1 ⟨rfl, hb1⟩; obtain ⟨q0, q1, q2, q3, q4⟩ := co_block (HK.out w1 hb1)))
  have HB1 : Hid (Below w.heap.size w w1) := bl_then HW0 hb1
  have hx1 : Hid (w1.heap[w.heap.size]? = some (coO ⟨nm, ps, rg, cl, l⟩ pa pc la lc)) := HK.out w1 hb1
  clear q0 q1 q2 q3 q4 hf HW0 HK hb1
  go_loopw [32] (fun i wr => ∃ k : Nat, k ≤ ps.length ∧ i = .int .i64 k ∧ ps.all tyOk = (ps.drop k).all tyOk ∧ Below w1.heap.size w1 wr) (fun i _ => ps.length - (intOf i).toNat)
  case atStart => exact ⟨0, Nat.zero_le _, rfl, rfl, Below.refl _ _⟩
  case round =>
    obtain ⟨k, hk, rfl, hq, hbl⟩ := hrel
    have HQ : Hid _ := hq
    have HB : Hid (Below w1.heap.size w1 wr) := hbl
    have hb2 := bl_then HB1.out hbl
    have hbx : wr.heap[w.heap.size]? = some (coO ⟨nm, ps, rg, cl, l⟩ pa pc la lc) := by rw [hbl.block _ (lt_of_some hx1.out)]; exact hx1.out
    obtain ⟨q0, q1, q2, q3, q4⟩ := co_block hbx
    clear hq hbl hbx
    by_cases hlt : k < ps.length
    · obtain ⟨b, o, rfl, hS, hb, h0, h1⟩ := ty_at hr k hlt
      have e0 := (hb2.cell (p := ⟨b, o + k * 2, none⟩) hb).trans h0
      have e1 := (hb2.cell (p := ⟨b, o + k * 2 + 1, none⟩) hb).trans h1
      have HD : Hid _ := tyOk_drop ps k hlt
      have HT : Hid (tyOk ps[k] = (decide (0 ≤ ps[k].len) && decide (ps[k].len ≤ 16))) := rfl
      have HB2 : Hid _ := hb2
      generalize ps[k].len = tl at e1 HT
      clear h0 h1 hb2
      by_cases t0 : tl < 0
      · go_wp2_with fail
        go_ret
        exact ⟨ret_bool (by rw [HM2.out, HQ.out, HD.out, HT.out]; simp; intros; omega), bl_alloc HB2.out _⟩
      · by_cases t1 : 16 < tl
        · go_wp2_with fail
          go_ret
          exact ⟨ret_bool (by rw [HM2.out, HQ.out, HD.out, HT.out]; simp; intros; omega), bl_alloc HB2.out _⟩
        · go_wp2_with fail
          go_roundw
          case rel => exact ⟨k + 1, by omega, by go_num, by rw [HQ.out, HD.out, HT.out]; simp; intros; omega, bl_alloc HB.out _⟩
          case measure => simp [intOf]; omega
    · have hall : ps.all tyOk = true := by rw [HQ.out, List.drop_of_length_le (by omega)]; rfl
      have hrm := room_any wr pa ps pc (kTy.row_mono (T := S) (by decide) hr fun b hb hlt => ⟨hb, hb2.block b hlt⟩) hall (by omega)
      have HM3 : Hid (formB ⟨nm, ps, rg, cl, l⟩ = (decide ((wordsN ps : Int) ≤ rg) && decide (rg ≤ 10000) && decide (cellsN ps ≤ cl) && decide (cl ≤ 4096))) := by show _ = _; rw [HM2.out, hall]; rfl
      have HB2 : Hid _ := hb2
      have hbx : wr.heap[w.heap.size]? = some (coO ⟨nm, ps, rg, cl, l⟩ pa pc la lc) := by rw [HB.out.block _ (lt_of_some hx1.out)]; exact hx1.out
      have HX : Hid _ := hbx
      generalize hgw : (wordsN ps : Nat) = nw at hrm HM3
      generalize hgc : cellsN ps = nc at hrm HM3
      clear hb2 hall hbx
      have fin : ∀ (w2 : World) (v : Bool), Below wr.heap.size wr w2 → v = formB ⟨nm, ps, rg, cl, l⟩ → Ending.returned (.bool v) = .returned (.bool (formB ⟨nm, ps, rg, cl, l⟩)) ∧ Below w.heap.size w w2 := fun w2 v hb hv => ⟨ret_bool hv, bl_then HB2.out hb⟩
      by_cases a1 : (nw : Int) ≤ rg <;> by_cases a2 : rg ≤ 10000 <;> by_cases a3 : nc ≤ cl <;> by_cases a4 : cl ≤ 4096
      all_goals
        go_wp2_with (first | (go_at_call 35; refine hrm.mono ?_; rintro e w2 ⟨rfl, hb3⟩; obtain ⟨r0, r1, r2, r3, r4⟩ := co_block (show w2.heap[w.heap.size]? = some (coO ⟨nm, ps, rg, cl, l⟩ pa pc la lc) by rw [hb3.block _ (lt_of_some HX.out)]; exact HX.out)))
        go_ret
        exact fin _ _ hb3 (by rw [HM3.out]; simp [a1, a2, a3, a4])
end Go.Proofs.Ytkbanngbchhgaaa
