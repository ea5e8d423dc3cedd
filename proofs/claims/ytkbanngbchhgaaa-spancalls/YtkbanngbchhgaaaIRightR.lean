/- CONTRACTS of fault, Right and functions. -/
import Derived.Test.YtkbanngbchhgaaaIFaultN
import Derived.Test.YtkbanngbchhgaaaIFaultR
import Derived.Test.YtkbanngbchhgaaaIFaultW
namespace Go.Proofs.Ytkbanngbchhgaaa
open Go.ChangeShapes Go.WideShapes Go.ChangeAt Go.RowKit

theorem fault_any {B : Nat} {S : Nat → Prop} (x : Co) (pa : Option Addr) (pc : Nat) (la : Option Addr) (lc : Nat) (i : Nat) (y : Ir) (ga : Option Addr) (gc : Nat) (w : World) (hr : kInt.row w S ga y.args) (hgc : y.args.length ≤ gc) (hag : y.args.length ≤ 1000000)
    (hn : y.name.length ≤ 1000000000) (hl : x.l.length ≤ 10000) (hi : i < x.l.length) (hc0 : 0 ≤ x.cells) (hc1 : x.cells ≤ 4096) (hg : Glob B w) :
    Calls Try.prog 31 #[coV x pa pc la lc, .int .i64 i, irV y ga gc] w fun e w' => e = .returned (.int .i64 (faultN x i y)) ∧ Below w.heap.size w w' := by
  rcases hk : knownB y with _ | _
  · exact fault_k x pa pc la lc i y ga gc w hr hgc hag hn hl hi hc0 hc1 hg hk
  rcases ha : (readsL y).all (inB x.regs) with _ | _
  · exact fault_no x pa pc la lc i y ga gc w hr hgc hag hn hl hi hc0 hc1 hg hk ha
  rcases hw : writesB y with _ | _
  · exact fault_nw x pa pc la lc i y ga gc w hr hgc hag hn hl hi hc0 hc1 hg hk ha hw
  · exact fault_w x pa pc la lc i y ga gc w hr hgc hag hn hl hi hc0 hc1 hg hk ha hw

/-- What is not too long to be gone through. -/
structure CoOk (x : Co) : Prop where
  name : x.name.length ≤ 1000000000
  ins : ∀ y ∈ x.l, y.name.length ≤ 1000000000 ∧ y.args.length ≤ 1000000
theorem formB_parts {x : Co} (h : formB x = true) : fullB x.name = true ∧ x.ps.length ≤ 6 ∧ 0 < x.l.length ∧ x.l.length ≤ 10000 ∧ x.ps.all tyOk = true ∧ (wordsN x.ps : Int) ≤ x.regs ∧ x.regs ≤ 10000 ∧ cellsN x.ps ≤ x.cells ∧ x.cells ≤ 4096 := by
  simp only [formB, Bool.and_eq_true, decide_eq_true_eq] at h
  obtain ⟨⟨⟨⟨⟨⟨⟨⟨h1, h2⟩, h3⟩, h4⟩, h5⟩, h6⟩, h7⟩, h8⟩, h9⟩ := h
  exact ⟨h1, h2, h3, h4, h5, h6, h7, h8, h9⟩
theorem faultFrom_drop (c : Co) (k : Nat) (hk : k < c.l.length) : faultFrom c k (c.l.drop k) = if faultN c k c.l[k] = 0 then faultFrom c (k + 1) (c.l.drop (k + 1)) else (faultN c k c.l[k], (k : Int)) := by
  rw [List.drop_eq_getElem_cons hk, faultFrom]
set_option maxRecDepth 100000 in
set_option maxHeartbeats 2000000 in
theorem right_any {B : Nat} {S : Nat → Prop} (x : Co) (pa : Option Addr) (pc : Nat) (la : Option Addr) (lc : Nat) (w : World) (hin : CoIn w S x pa pc la lc) (hok : CoOk x) (hg : Glob B w) :
    Calls Try.prog 21 #[coV x pa pc la lc] w fun e w' => e = .returned (.tuple #[.int .i64 (rightR x).1, .int .i64 (rightR x).2]) ∧ Below w.heap.size w w' := by
  have hgo : ∀ {w1 : World}, Below w.heap.size w w1 → Goes w w1 S S := fun {w1} hb b hS hlt => ⟨hS, hb.block b hlt⟩
  have HG : Hid (∀ {w1 : World}, Below w.heap.size w w1 → Goes w w1 S S) := hgo
  clear hgo
  have h0 := bl_alloc (Below.refl w.heap.size w) (coO x pa pc la lc)
  have hf := hasForm_any x pa pc la lc (w.alloc (coO x pa pc la lc)) (hin.mono (HG.out h0)).ps hok.name (hg.alloc _)
  have HR : Hid (rightR x = if formB x then faultFrom x 0 x.l else (6, -1)) := rfl
  have hnew : (w.alloc (coO x pa pc la lc)).heap[w.heap.size]? = some (coO x pa pc la lc) := heap_alloc_new w _
  rcases nf : formB x with _ | _ <;> rw [nf] at hf HR
  · unfold coV at hf ⊢
    go_enter Try.func21, Try.ntmps21
    go_wp2_with (first | (go_at_call 30; refine hf.mono ?_; rintro e w1 ⟨rfl, hb1⟩))
    go_ret2
    exact ⟨by rw [HR.out]; rfl, bl_then h0 hb1⟩
  have HP : Hid _ := formB_parts nf
  clear nf
  unfold coV at hf ⊢
  go_enter Try.func21, Try.ntmps21
  go_wp2_with (first | (go_at_call 30; refine hf.mono ?_; rintro e w1 ⟨rfl, hb1⟩; obtain ⟨q0, q1, q2, q3, q4⟩ := co_block (show w1.heap[w.heap.size]? = some (coO x pa pc la lc) by rw [hb1.block _ (lt_of_some hnew)]; exact hnew)))
  have HB1 : Hid (Below w.heap.size w w1) := bl_then h0 hb1
  have hx1 : Hid (w1.heap[w.heap.size]? = some (coO x pa pc la lc)) := by show _ = _; rw [hb1.block _ (lt_of_some hnew)]; exact hnew
  have HR2 : Hid (rightR x = faultFrom x 0 x.l) := HR.out
  clear q0 q1 q2 q3 q4 hf h0 hnew hb1 HR
  go_loopw [13] (fun i wr => ∃ k : Nat, k ≤ x.l.length ∧ i = .int .i64 k ∧ faultFrom x 0 x.l = faultFrom x k (x.l.drop k) ∧ Below w1.heap.size w1 wr) (fun i _ => x.l.length - (intOf i).toNat)
  case atStart => exact ⟨0, Nat.zero_le _, rfl, rfl, Below.refl _ _⟩
  case round =>
    obtain ⟨k, hk, rfl, hq, hbl⟩ := hrel
    have HQ : Hid _ := hq
    have HB : Hid (Below w1.heap.size w1 wr) := hbl
    have hb2 := bl_then HB1.out hbl
    have hbx : wr.heap[w.heap.size]? = some (coO x pa pc la lc) := by rw [hbl.block _ (lt_of_some hx1.out)]; exact hx1.out
    have hll : x.l.length ≤ 10000 := HP.out.2.2.2.1
    clear hq hbl
    by_cases hlt : k < x.l.length
    · obtain ⟨b, o, ga, gc, rfl, hSb, hb, hia, hgc, hn, hrow⟩ := ir_at hin.l k hlt
      have hia' := hia.keep (hb2.block b hb)
      have HD : Hid _ := faultFrom_drop x k hlt
      obtain ⟨o1, o2⟩ := hok.ins _ (List.getElem_mem hlt)
      have hfa := fault_any x pa pc (some ⟨b, o, none⟩) lc k x.l[k] ga gc (wr.alloc (irO x.l[k] ga gc)) (S := S) (kInt.row_mono (by decide) hrow (HG.out (bl_alloc hb2 _))) hgc o2 o1 hll hlt (by have := cellsN_bd x.ps HP.out.2.2.2.2.1; have := HP.out.2.2.2.2.2.2.2.1; omega) HP.out.2.2.2.2.2.2.2.2 ((hg.below hb2).alloc _)
      have hbx2 : (wr.alloc (irO x.l[k] ga gc)).heap[w.heap.size]? = some (coO x pa pc (some ⟨b, o, none⟩) lc) := by rw [heap_alloc_old _ _ (lt_of_some hbx)]; exact hbx
      obtain ⟨q0, q1, q2, q3, q4⟩ := co_block hbx
      generalize hgy : x.l[k] = y at hia' HD hfa hbx2
      obtain ⟨r0, r1, r2, r3, r4⟩ := co_block hbx2
      obtain ⟨e0, e1, e2, e3, e4, e5, e6, e7, e8⟩ := hia'
      have HB2 : Hid _ := hb2
      generalize hfn : faultN x k y = fn at HD hfa
      unfold coV irV at hfa
      clear hia hrow hgy hfn hb2 hbx hbx2 hin hn hgc
      by_cases h0 : fn = 0
      · subst h0
        go_wp2_with (first | (go_at_call 31; refine hfa.mono ?_; rintro e w3 ⟨rfl, hb3⟩))
        go_roundw
        case rel => exact ⟨k + 1, by omega, by go_num, by rw [HQ.out, HD.out]; rfl, bl_then (bl_alloc HB.out _) hb3⟩
        case measure => simp [intOf]; omega
      · have h0' : (fn == 0) = false := by simpa using h0
        have HD2 : Hid (faultFrom x k (x.l.drop k) = (fn, (k : Int))) := by show _ = _; rw [HD.out, if_neg h0]
        clear h0 HD
        go_wp2_with (first | (go_at_call 31; refine hfa.mono ?_; rintro e w3 ⟨rfl, hb3⟩))
        go_ret2
        exact ⟨by rw [HR2.out, HQ.out, HD2.out]; rfl, bl_then (bl_alloc HB2.out _) hb3⟩
    · have HN : Hid (faultFrom x 0 x.l = (0, -1)) := by show _ = _; rw [HQ.out, List.drop_of_length_le (by omega)]; rfl
      obtain ⟨q0, q1, q2, q3, q4⟩ := co_block hbx
      have HB2 : Hid _ := hb2
      clear hbx hb2
      go_wp2_with fail
      go_ret2
      exact ⟨by rw [HR2.out, HN.out]; rfl, HB2.out⟩
end Go.Proofs.Ytkbanngbchhgaaa
