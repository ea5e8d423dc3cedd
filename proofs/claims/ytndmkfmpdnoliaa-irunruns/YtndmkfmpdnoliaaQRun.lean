/- Put together of: ICall, ICallA, IDeed1B, ICallB, ICallC, ICallD, IFin, IFin2, IFuncs, IClone, IRun, IRunB, IRunC, IRunD, IBd. -/
import Derived.Test.YtndmkfmpdnoliaaIInner
import Derived.Test.YtndmkfmpdnoliaaIDeed1
/- CONTRACT of call. Made by gen/gen_call.py. -/
namespace Go.Proofs.Ytndmkfmpdnoliaa
open Go.ChangeShapes Go.WideShapes Go.ChangeAt Go.RowKit

theorem cells5 {w : World} {b : Nat} {x0 x1 x2 x3 x4 : Value} {t : TypeId} (h : w.heap[b]? = some (.cells #[x0, x1, x2, x3, x4] t)) :
    w.cell? ⟨b, 0, none⟩ = some x0 ∧ w.cell? ⟨b, 1, none⟩ = some x1 ∧ w.cell? ⟨b, 2, none⟩ = some x2 ∧ w.cell? ⟨b, 3, none⟩ = some x3 ∧ w.cell? ⟨b, 4, none⟩ = some x4 := by
  refine ⟨?_, ?_, ?_, ?_, ?_⟩ <;> simp [World.cell?, h]
set_option maxRecDepth 100000 in
set_option maxHeartbeats 8000000 in
theorem call_none {P : List Co} (hgood : Good P) {R KM DM F G C deep : Nat} {fr : Fr} {st : St} {v : Value} (x : Ir) (ga : Option Addr) (gc : Nat) (w : World) (hold : Old w R KM DM P) (h : FrM w R F G C fr) (hr : RnM w R KM DM deep st v) (ha : Apart F G C v) (hnm : x.name.length ≤ 1000000000) (d : Nat) (hd : x.d = d) (hlook : look P x.name = none) :
    Calls Try.prog 48 #[.pointer (some ⟨F, 0, none⟩), irV x ga gc] w fun e w' => e = .returned (.tuple #[]) ∧ ∃ v', Did w w' R KM DM F G C deep v v' fr { st with wrong := 8 } := by
  obtain ⟨kd, op, xd, xa, xb, xc, n, nm, ag⟩ := x
  simp only at *
  subst hd
  have h1 := h.box (.cells #[.int .i64 kd, .int .i64 op, .int .i64 (d : Int), .int .i64 xa, .int .i64 xb, .int .i64 xc, .int .u32 (n : Int), .string (bs nm), .slice ga ag.length gc] 50)
  have hr1 := hr.box (.cells #[.int .i64 kd, .int .i64 op, .int .i64 (d : Int), .int .i64 xa, .int .i64 xb, .int .i64 xc, .int .u32 (n : Int), .string (bs nm), .slice ga ag.length gc] 50)
  have hx := heap_alloc_new w (.cells #[.int .i64 kd, .int .i64 op, .int .i64 (d : Int), .int .i64 xa, .int .i64 xb, .int .i64 xc, .int .u32 (n : Int), .string (bs nm), .slice ga ag.length gc] 50)
  have hb1 := bl_alloc (Below.refl w.heap.size w) (.cells #[.int .i64 kd, .int .i64 op, .int .i64 (d : Int), .int .i64 xa, .int .i64 xb, .int .i64 xc, .int .u32 (n : Int), .string (bs nm), .slice ga ag.length gc] 50)
  have hRw := lt_of_some hr.r
  have hFw := lt_of_some h.f
  have nrf := h.rf
  have hold1 := hold.keep (w' := w.alloc (.cells #[.int .i64 kd, .int .i64 op, .int .i64 (d : Int), .int .i64 xa, .int .i64 xb, .int .i64 xc, .int .u32 (n : Int), .string (bs nm), .slice ga ag.length gc] 50)) fun k hk => hb1.block k (by omega)
  have HRw : Hid _ := hRw
  have HFw : Hid _ := hFw
  clear hRw hFw
  unfold irV
  go_enter Try.func48, Try.ntmps48
  go_wp2_with fail
  generalize w.alloc (.cells #[.int .i64 kd, .int .i64 op, .int .i64 (d : Int), .int .i64 xa, .int .i64 xb, .int .i64 xc, .int .u32 (n : Int), .string (bs nm), .slice ga ag.length gc] 50) = w1 at h1 hr1 hx hb1 hold1 ⊢
  obtain ⟨f0, f1, f2, f3, f4, f5⟩ := h1.cells6
  obtain ⟨r0, r1, r2, r3, r4, r5⟩ := hr1.cells6
  obtain ⟨x0, x1, x2, x3, x4, x5, x6, x7, x8⟩ := ir_block (x := ⟨kd, op, d, xa, xb, xc, n, nm, ag⟩) hx
  simp only at x0 x1 x2 x3 x4 x5 x6 x7 x8
  have hX1 : w.heap.size < w1.heap.size := lt_of_some hx
  have hF1 : F < w1.heap.size := lt_of_some h1.f
  have hR1 : R < w1.heap.size := lt_of_some hr1.r
  have hkn := known_look hold1 hgood nm hnm
  have hlk : ∀ W : World, W.heap[KM]? = w1.heap[KM]? → (Instr.lookup 52 (.map (some KM)) (.string (bs nm)) true).run Try.prog W = .ok (.tuple #[zeroV, .bool false]) W := by
    rcases hkn with ⟨_, e⟩ | ⟨c, _, _, _, _, e, _⟩
    · exact e
    · rw [hlook] at e; cases e
  have hlk1 := hlk w1.drew rfl
  have hlk2 := hlk (w1.alloc (.cells #[.string ⟨#[]⟩, .slice none 0 0, .int .i64 0, .int .i64 0, .slice none 0 0] 39)).drew (heap_alloc_old w1 _ (by have := hold1.km; omega))
  clear hlk hkn
  have hall : ∀ o, (fun w' => w'.cell? ⟨F, 0, none⟩ = some (.pointer (some ⟨R, 0, none⟩)) ∧ w'.cell? ⟨R, 0, none⟩ = some (.map (some KM)) ∧ w'.cell? ⟨w.heap.size, 7, none⟩ = some (.string (bs nm))) (w1.alloc o).drew := fun o => ⟨alloc_cell o f0, alloc_cell o r0, alloc_cell o x7⟩
  have HALL : Hid _ := hall
  have hd0 : (fun w' => w'.cell? ⟨F, 0, none⟩ = some (.pointer (some ⟨R, 0, none⟩)) ∧ w'.cell? ⟨R, 0, none⟩ = some (.map (some KM)) ∧ w'.cell? ⟨w.heap.size, 7, none⟩ = some (.string (bs nm))) w1.drew := ⟨f0, r0, x7⟩
  have HD0 : Hid _ := hd0
  clear hall hd0
  have H1f : Hid _ := h1
  have H1r : Hid _ := hr1
  have H1x : Hid _ := hx
  have HB1 : Hid _ := hb1
  have HO1 : Hid _ := hold1
  have HX1 : Hid _ := hX1
  clear h hr h1 hr1 hx hb1 hold1 hold f1 f2 f3 f4 f5 r1 r2 r3 r4 r5 x0 x1 x2 x3 x4 x5 x6 x8 hX1 hF1 hR1
  go_region_held3 (fun w' => w'.cell? ⟨F, 0, none⟩ = some (.pointer (some ⟨R, 0, none⟩)) ∧ w'.cell? ⟨R, 0, none⟩ = some (.map (some KM)) ∧ w'.cell? ⟨w.heap.size, 7, none⟩ = some (.string (bs nm)))
    (first | with_reducible exact HD0.out | with_reducible exact HALL.out _)
    (fail)
  all_goals
    have hb3 : Below w.heap.size w (w1.alloc (.cells #[.string ⟨#[]⟩, .slice none 0 0, .int .i64 0, .int .i64 0, .slice none 0 0] 39)).drew := bl_then (bl_alloc HB1.out _) (drew_bl _)
    have hb13 : Below w1.heap.size w1 (w1.alloc (.cells #[.string ⟨#[]⟩, .slice none 0 0, .int .i64 0, .int .i64 0, .slice none 0 0] 39)).drew := bl_then (bl_alloc (Below.refl _ _) _) (drew_bl _)
    have hN3 : (w1.alloc (.cells #[.string ⟨#[]⟩, .slice none 0 0, .int .i64 0, .int .i64 0, .slice none 0 0] 39)).drew.heap[w1.heap.size]? = some (.cells #[.string ⟨#[]⟩, .slice none 0 0, .int .i64 0, .int .i64 0, .slice none 0 0] 39) := heap_alloc_new w1 _
    generalize (w1.alloc (.cells #[.string ⟨#[]⟩, .slice none 0 0, .int .i64 0, .int .i64 0, .slice none 0 0] 39)).drew = w3 at hb3 hb13 hN3 ⊢
    have h3f : FrM w3 R F G C fr := ⟨(hb13.block F (lt_of_some H1f.out.f)).trans H1f.out.f, (hb13.block G (lt_of_some H1f.out.g)).trans H1f.out.g, (hb13.block C (lt_of_some H1f.out.c)).trans H1f.out.c, H1f.out.fg, H1f.out.fc, H1f.out.gc, H1f.out.rf, H1f.out.rg, H1f.out.rc, H1f.out.regs, H1f.out.cells, H1f.out.res⟩
    have h3r : RnM w3 R KM DM deep st v := ⟨(hb13.block R (lt_of_some H1r.out.r)).trans H1r.out.r, own_kept H1r.out.own (Below.kept hb13 (fun _ => False)) (fun _ _ e => e), H1r.out.left, H1r.out.br⟩
    have h3x : w3.heap[w.heap.size]? = some (.cells #[.int .i64 kd, .int .i64 op, .int .i64 (d : Int), .int .i64 xa, .int .i64 xb, .int .i64 xc, .int .u32 (n : Int), .string (bs nm), .slice ga ag.length gc] 50) := (hb13.block _ HX1.out).trans H1x.out
    have h3o : Old w3 R KM DM P := HO1.out.keep fun k hk => hb13.block k (by have := lt_of_some H1r.out.r; omega)
    have hb13k : ∀ b, b < R → w3.heap[b]? = w1.heap[b]? := fun b hb => hb13.block b (by have := lt_of_some H1r.out.r; omega)
    clear HALL HD0 H1f H1r H1x HO1 HB1 hlk1 hlk2 f0 r0 x7 hb13
    have hrm := room_any (S := fun _ => True) w3 none [] 0 trivial rfl (by simp)
    simp only [List.length_nil, wordsN, cellsN] at hrm
    obtain ⟨n0, n1, n2, n3, n4⟩ := cells5 hN3
    go_wp2_with (first | (go_at_call 24; refine hrm.mono ?_; rintro e w4 ⟨rfl, hb34⟩; refine Hid.out ?_))
    refine Lib.hid ?_
    have hb4 := bl_then hb3 hb34
    have h4f : FrM w4 R F G C fr := ⟨(hb34.block F (lt_of_some h3f.f)).trans h3f.f, (hb34.block G (lt_of_some h3f.g)).trans h3f.g, (hb34.block C (lt_of_some h3f.c)).trans h3f.c, h3f.fg, h3f.fc, h3f.gc, h3f.rf, h3f.rg, h3f.rc, h3f.regs, h3f.cells, h3f.res⟩
    have h4r : RnM w4 R KM DM deep st v := ⟨(hb34.block R (lt_of_some h3r.r)).trans h3r.r, own_kept h3r.own (Below.kept hb34 (fun _ => False)) (fun _ _ e => e), h3r.left, h3r.br⟩
    have h4x : w4.heap[w.heap.size]? = some (.cells #[.int .i64 kd, .int .i64 op, .int .i64 (d : Int), .int .i64 xa, .int .i64 xb, .int .i64 xc, .int .u32 (n : Int), .string (bs nm), .slice ga ag.length gc] 50) := (hb34.block _ (lt_of_some h3x)).trans h3x
    have h4N : w4.heap[w1.heap.size]? = some (.cells #[.string ⟨#[]⟩, .slice none 0 0, .int .i64 0, .int .i64 0, .slice none 0 0] 39) := (hb34.block _ (lt_of_some hN3)).trans hN3
    have h4o : Old w4 R KM DM P := h3o.keep fun k hk => hb34.block k (by have := lt_of_some h3r.r; omega)
    obtain ⟨f0, f1, f2, f3, f4, f5⟩ := h4f.cells6
    obtain ⟨r0, r1, r2, r3, r4, r5⟩ := h4r.cells6
    obtain ⟨x0, x1, x2, x3, x4, x5, x6, x7, x8⟩ := ir_block (x := ⟨kd, op, d, xa, xb, xc, n, nm, ag⟩) h4x
    have fz := row_free h4r.r 5
    simp only at x0 x1 x2 x3 x4 x5 x6 x7 x8
    have HDW : Hid _ := Did.wrong (e := 8) hb4 h4f h4r ha
    clear hb3 hb4 hb34 h3f h3r h3x h3o hN3 h4f h4r h4x h4N h4o hrm f1 f2 f3 f4 f5 r0 r1 r2 r4
    go_wp2_with fail
    go_end0
    exact ⟨rfl, v, HDW.out⟩
end Go.Proofs.Ytndmkfmpdnoliaa
/- CONTRACT of call. Made by gen/gen_call.py. -/
namespace Go.Proofs.Ytndmkfmpdnoliaa
open Go.ChangeShapes Go.WideShapes Go.ChangeAt Go.RowKit

set_option maxRecDepth 100000 in
set_option maxHeartbeats 8000000 in
theorem call_type1 {P : List Co} (hgood : Good P) {R KM DM F G C deep : Nat} {fr : Fr} {st : St} {v : Value} (x : Ir) (ga : Option Addr) (gc : Nat) (w : World) (hold : Old w R KM DM P) (h : FrM w R F G C fr) (hr : RnM w R KM DM deep st v) (ha : Apart F G C v) (hnm : x.name.length ≤ 1000000000) (d : Nat) (hd : x.d = d) (c : Co) (hc : c ∈ P) (hlook : look P x.name = some c) (hne : c.ps.length ≠ x.args.length) :
    Calls Try.prog 48 #[.pointer (some ⟨F, 0, none⟩), irV x ga gc] w fun e w' => e = .returned (.tuple #[]) ∧ ∃ v', Did w w' R KM DM F G C deep v v' fr { st with wrong := 10 } := by
  obtain ⟨kd, op, xd, xa, xb, xc, n, nm, ag⟩ := x
  simp only at *
  subst hd
  have h1 := h.box (.cells #[.int .i64 kd, .int .i64 op, .int .i64 (d : Int), .int .i64 xa, .int .i64 xb, .int .i64 xc, .int .u32 (n : Int), .string (bs nm), .slice ga ag.length gc] 50)
  have hr1 := hr.box (.cells #[.int .i64 kd, .int .i64 op, .int .i64 (d : Int), .int .i64 xa, .int .i64 xb, .int .i64 xc, .int .u32 (n : Int), .string (bs nm), .slice ga ag.length gc] 50)
  have hx := heap_alloc_new w (.cells #[.int .i64 kd, .int .i64 op, .int .i64 (d : Int), .int .i64 xa, .int .i64 xb, .int .i64 xc, .int .u32 (n : Int), .string (bs nm), .slice ga ag.length gc] 50)
  have hb1 := bl_alloc (Below.refl w.heap.size w) (.cells #[.int .i64 kd, .int .i64 op, .int .i64 (d : Int), .int .i64 xa, .int .i64 xb, .int .i64 xc, .int .u32 (n : Int), .string (bs nm), .slice ga ag.length gc] 50)
  have hRw := lt_of_some hr.r
  have hFw := lt_of_some h.f
  have nrf := h.rf
  have hold1 := hold.keep (w' := w.alloc (.cells #[.int .i64 kd, .int .i64 op, .int .i64 (d : Int), .int .i64 xa, .int .i64 xb, .int .i64 xc, .int .u32 (n : Int), .string (bs nm), .slice ga ag.length gc] 50)) fun k hk => hb1.block k (by omega)
  have HRw : Hid _ := hRw
  have HFw : Hid _ := hFw
  clear hRw hFw
  unfold irV
  go_enter Try.func48, Try.ntmps48
  go_wp2_with fail
  generalize w.alloc (.cells #[.int .i64 kd, .int .i64 op, .int .i64 (d : Int), .int .i64 xa, .int .i64 xb, .int .i64 xc, .int .u32 (n : Int), .string (bs nm), .slice ga ag.length gc] 50) = w1 at h1 hr1 hx hb1 hold1 ⊢
  obtain ⟨f0, f1, f2, f3, f4, f5⟩ := h1.cells6
  obtain ⟨r0, r1, r2, r3, r4, r5⟩ := hr1.cells6
  obtain ⟨x0, x1, x2, x3, x4, x5, x6, x7, x8⟩ := ir_block (x := ⟨kd, op, d, xa, xb, xc, n, nm, ag⟩) hx
  simp only at x0 x1 x2 x3 x4 x5 x6 x7 x8
  have hX1 : w.heap.size < w1.heap.size := lt_of_some hx
  have hF1 : F < w1.heap.size := lt_of_some h1.f
  have hR1 : R < w1.heap.size := lt_of_some hr1.r
  have hkn := known_look hold1 hgood nm hnm
  rw [hlook] at hkn
  obtain ⟨c9, pa, pc, la, lc, e9, _, hin1, hlk0⟩ : ∃ c9 pa pc la lc, some c = some c9 ∧ c9 ∈ P ∧ CoIn w1 (fun b => b < R) c9 pa pc la lc ∧ ∀ W : World, W.heap[KM]? = w1.heap[KM]? → (Instr.lookup 52 (.map (some KM)) (.string (bs nm)) true).run Try.prog W = .ok (.tuple #[coV c9 pa pc la lc, .bool true]) W := by
    rcases hkn with ⟨e, _⟩ | hh
    · cases e
    · exact hh
  obtain rfl : c = c9 := Option.some.inj e9
  unfold coV at hlk0
  have hlk1 := hlk0 w1.drew rfl
  have hlk2 := hlk0 (w1.alloc (.cells #[.string ⟨#[]⟩, .slice none 0 0, .int .i64 0, .int .i64 0, .slice none 0 0] 39)).drew (heap_alloc_old w1 _ (by have := hold1.km; omega))
  clear hlk0 hkn e9
  have HIN : Hid _ := hin1
  clear hin1
  have hall : ∀ o, (fun w' => w'.cell? ⟨F, 0, none⟩ = some (.pointer (some ⟨R, 0, none⟩)) ∧ w'.cell? ⟨R, 0, none⟩ = some (.map (some KM)) ∧ w'.cell? ⟨w.heap.size, 7, none⟩ = some (.string (bs nm))) (w1.alloc o).drew := fun o => ⟨alloc_cell o f0, alloc_cell o r0, alloc_cell o x7⟩
  have HALL : Hid _ := hall
  have hd0 : (fun w' => w'.cell? ⟨F, 0, none⟩ = some (.pointer (some ⟨R, 0, none⟩)) ∧ w'.cell? ⟨R, 0, none⟩ = some (.map (some KM)) ∧ w'.cell? ⟨w.heap.size, 7, none⟩ = some (.string (bs nm))) w1.drew := ⟨f0, r0, x7⟩
  have HD0 : Hid _ := hd0
  clear hall hd0
  have H1f : Hid _ := h1
  have H1r : Hid _ := hr1
  have H1x : Hid _ := hx
  have HB1 : Hid _ := hb1
  have HO1 : Hid _ := hold1
  have HX1 : Hid _ := hX1
  clear h hr h1 hr1 hx hb1 hold1 hold f1 f2 f3 f4 f5 r1 r2 r3 r4 r5 x0 x1 x2 x3 x4 x5 x6 x8 hX1 hF1 hR1
  go_region_held3 (fun w' => w'.cell? ⟨F, 0, none⟩ = some (.pointer (some ⟨R, 0, none⟩)) ∧ w'.cell? ⟨R, 0, none⟩ = some (.map (some KM)) ∧ w'.cell? ⟨w.heap.size, 7, none⟩ = some (.string (bs nm)))
    (first | with_reducible exact HD0.out | with_reducible exact HALL.out _)
    (fail)
  all_goals
    have hb3 : Below w.heap.size w (w1.alloc (.cells #[.string (bs c.name), .slice pa c.ps.length pc, .int .i64 c.regs, .int .i64 c.cells, .slice la c.l.length lc] 39)).drew := bl_then (bl_alloc HB1.out _) (drew_bl _)
    have hb13 : Below w1.heap.size w1 (w1.alloc (.cells #[.string (bs c.name), .slice pa c.ps.length pc, .int .i64 c.regs, .int .i64 c.cells, .slice la c.l.length lc] 39)).drew := bl_then (bl_alloc (Below.refl _ _) _) (drew_bl _)
    have hN3 : (w1.alloc (.cells #[.string (bs c.name), .slice pa c.ps.length pc, .int .i64 c.regs, .int .i64 c.cells, .slice la c.l.length lc] 39)).drew.heap[w1.heap.size]? = some (.cells #[.string (bs c.name), .slice pa c.ps.length pc, .int .i64 c.regs, .int .i64 c.cells, .slice la c.l.length lc] 39) := heap_alloc_new w1 _
    generalize (w1.alloc (.cells #[.string (bs c.name), .slice pa c.ps.length pc, .int .i64 c.regs, .int .i64 c.cells, .slice la c.l.length lc] 39)).drew = w3 at hb3 hb13 hN3 ⊢
    have h3f : FrM w3 R F G C fr := ⟨(hb13.block F (lt_of_some H1f.out.f)).trans H1f.out.f, (hb13.block G (lt_of_some H1f.out.g)).trans H1f.out.g, (hb13.block C (lt_of_some H1f.out.c)).trans H1f.out.c, H1f.out.fg, H1f.out.fc, H1f.out.gc, H1f.out.rf, H1f.out.rg, H1f.out.rc, H1f.out.regs, H1f.out.cells, H1f.out.res⟩
    have h3r : RnM w3 R KM DM deep st v := ⟨(hb13.block R (lt_of_some H1r.out.r)).trans H1r.out.r, own_kept H1r.out.own (Below.kept hb13 (fun _ => False)) (fun _ _ e => e), H1r.out.left, H1r.out.br⟩
    have h3x : w3.heap[w.heap.size]? = some (.cells #[.int .i64 kd, .int .i64 op, .int .i64 (d : Int), .int .i64 xa, .int .i64 xb, .int .i64 xc, .int .u32 (n : Int), .string (bs nm), .slice ga ag.length gc] 50) := (hb13.block _ HX1.out).trans H1x.out
    have h3o : Old w3 R KM DM P := HO1.out.keep fun k hk => hb13.block k (by have := lt_of_some H1r.out.r; omega)
    have hb13k : ∀ b, b < R → w3.heap[b]? = w1.heap[b]? := fun b hb => hb13.block b (by have := lt_of_some H1r.out.r; omega)
    clear HALL HD0 H1f H1r H1x HO1 HB1 hlk1 hlk2 f0 r0 x7 hb13
    have hin3 := HIN.out.mono (w' := w3) (T := fun b => b < R) fun b hb _ => ⟨hb, hb13k b hb⟩
    obtain ⟨z1, z2, z3, z4, z5, z6, z7, z8, z9⟩ := formB_parts (right_form (hgood.right c hc))
    have hrm := room_any w3 pa c.ps pc hin3.ps z5 (by omega)
    obtain ⟨n0, n1, n2, n3, n4⟩ := cells5 hN3
    go_wp2_with (first | (go_at_call 24; refine hrm.mono ?_; rintro e w4 ⟨rfl, hb34⟩; refine Hid.out ?_))
    refine Lib.hid ?_
    have hb4 := bl_then hb3 hb34
    have h4f : FrM w4 R F G C fr := ⟨(hb34.block F (lt_of_some h3f.f)).trans h3f.f, (hb34.block G (lt_of_some h3f.g)).trans h3f.g, (hb34.block C (lt_of_some h3f.c)).trans h3f.c, h3f.fg, h3f.fc, h3f.gc, h3f.rf, h3f.rg, h3f.rc, h3f.regs, h3f.cells, h3f.res⟩
    have h4r : RnM w4 R KM DM deep st v := ⟨(hb34.block R (lt_of_some h3r.r)).trans h3r.r, own_kept h3r.own (Below.kept hb34 (fun _ => False)) (fun _ _ e => e), h3r.left, h3r.br⟩
    have h4x : w4.heap[w.heap.size]? = some (.cells #[.int .i64 kd, .int .i64 op, .int .i64 (d : Int), .int .i64 xa, .int .i64 xb, .int .i64 xc, .int .u32 (n : Int), .string (bs nm), .slice ga ag.length gc] 50) := (hb34.block _ (lt_of_some h3x)).trans h3x
    have h4N : w4.heap[w1.heap.size]? = some (.cells #[.string (bs c.name), .slice pa c.ps.length pc, .int .i64 c.regs, .int .i64 c.cells, .slice la c.l.length lc] 39) := (hb34.block _ (lt_of_some hN3)).trans hN3
    have h4o : Old w4 R KM DM P := h3o.keep fun k hk => hb34.block k (by have := lt_of_some h3r.r; omega)
    obtain ⟨f0, f1, f2, f3, f4, f5⟩ := h4f.cells6
    obtain ⟨r0, r1, r2, r3, r4, r5⟩ := h4r.cells6
    obtain ⟨x0, x1, x2, x3, x4, x5, x6, x7, x8⟩ := ir_block (x := ⟨kd, op, d, xa, xb, xc, n, nm, ag⟩) h4x
    have fz := row_free h4r.r 5
    simp only at x0 x1 x2 x3 x4 x5 x6 x7 x8
    have hneq : ((c.ps.length : Int) == (ag.length : Int)) = false := by rw [beq_eq_false_iff_ne]; omega
    obtain ⟨n0, n1, n2, n3, n4⟩ := cells5 h4N
    have HDW : Hid _ := Did.wrong (e := 10) hb4 h4f h4r ha
    clear hb3 hb4 hb34 h3f h3r h3x h3o hN3 h4f h4r h4x h4N h4o hrm f1 f2 f3 f4 f5 r0 r1 r2 r4
    go_wp2_with fail
    go_end0
    exact ⟨rfl, v, HDW.out⟩
end Go.Proofs.Ytndmkfmpdnoliaa
/- How great a reckoned word is. -/
namespace Go.Proofs.Ytndmkfmpdnoliaa

theorem opz_lt (o : Int) (a b : Nat) (ha : a < 4294967296) (hb : b < 4294967296) : (opz o (a : Int) (b : Int)).toNat < 4294967296 := by
  have h : opz o (a : Int) (b : Int) < 4294967296 := by
    unfold opz
    split
    · exact Int.emod_lt_of_pos _ (by decide)
    split
    · exact Int.emod_lt_of_pos _ (by decide)
    split
    · exact Int.emod_lt_of_pos _ (by decide)
    split
    · rw [bits_and a b ha hb]; have := Nat.and_lt_two_pow (n := 32) a (show b < 2 ^ 32 by omega); omega
    split
    · rw [bits_or a b ha hb]; have := Nat.or_lt_two_pow (n := 32) (show a < 2 ^ 32 by omega) (show b < 2 ^ 32 by omega); omega
    split
    · rw [bits_xor a b ha hb]; have := Nat.xor_lt_two_pow (n := 32) (show a < 2 ^ 32 by omega) (show b < 2 ^ 32 by omega); omega
    split
    · exact Int.emod_lt_of_pos _ (by decide)
    split
    · have h1 : (a : Int) / 2 ^ ((b : Int) % 32).toNat ≤ a := Int.ediv_le_self _ (by omega)
      omega
    split
    · split <;> decide
    split
    · split <;> decide
    · decide
  omega
end Go.Proofs.Ytndmkfmpdnoliaa
/- CONTRACT of call. Made by gen/gen_call.py. -/
namespace Go.Proofs.Ytndmkfmpdnoliaa
open Go.ChangeShapes Go.WideShapes Go.ChangeAt Go.RowKit

set_option maxRecDepth 100000 in
set_option maxHeartbeats 8000000 in
theorem call_type2 {P : List Co} (hgood : Good P) {R KM DM F G C deep : Nat} {fr : Fr} {st : St} {v : Value} (x : Ir) (ga : Option Addr) (gc : Nat) (w : World) (hold : Old w R KM DM P) (h : FrM w R F G C fr) (hr : RnM w R KM DM deep st v) (ha : Apart F G C v) (hnm : x.name.length ≤ 1000000000) (d : Nat) (hd : x.d = d) (c : Co) (hc : c ∈ P) (hlook : look P x.name = some c) (heq : c.ps.length = x.args.length) (hcp : 0 < cellsN c.ps) :
    Calls Try.prog 48 #[.pointer (some ⟨F, 0, none⟩), irV x ga gc] w fun e w' => e = .returned (.tuple #[]) ∧ ∃ v', Did w w' R KM DM F G C deep v v' fr { st with wrong := 10 } := by
  obtain ⟨kd, op, xd, xa, xb, xc, n, nm, ag⟩ := x
  simp only at *
  subst hd
  have HEQ : Hid _ := heq
  clear heq
  have h1 := h.box (.cells #[.int .i64 kd, .int .i64 op, .int .i64 (d : Int), .int .i64 xa, .int .i64 xb, .int .i64 xc, .int .u32 (n : Int), .string (bs nm), .slice ga ag.length gc] 50)
  have hr1 := hr.box (.cells #[.int .i64 kd, .int .i64 op, .int .i64 (d : Int), .int .i64 xa, .int .i64 xb, .int .i64 xc, .int .u32 (n : Int), .string (bs nm), .slice ga ag.length gc] 50)
  have hx := heap_alloc_new w (.cells #[.int .i64 kd, .int .i64 op, .int .i64 (d : Int), .int .i64 xa, .int .i64 xb, .int .i64 xc, .int .u32 (n : Int), .string (bs nm), .slice ga ag.length gc] 50)
  have hb1 := bl_alloc (Below.refl w.heap.size w) (.cells #[.int .i64 kd, .int .i64 op, .int .i64 (d : Int), .int .i64 xa, .int .i64 xb, .int .i64 xc, .int .u32 (n : Int), .string (bs nm), .slice ga ag.length gc] 50)
  have hRw := lt_of_some hr.r
  have hFw := lt_of_some h.f
  have nrf := h.rf
  have hold1 := hold.keep (w' := w.alloc (.cells #[.int .i64 kd, .int .i64 op, .int .i64 (d : Int), .int .i64 xa, .int .i64 xb, .int .i64 xc, .int .u32 (n : Int), .string (bs nm), .slice ga ag.length gc] 50)) fun k hk => hb1.block k (by omega)
  have HRw : Hid _ := hRw
  have HFw : Hid _ := hFw
  clear hRw hFw
  unfold irV
  go_enter Try.func48, Try.ntmps48
  go_wp2_with fail
  generalize w.alloc (.cells #[.int .i64 kd, .int .i64 op, .int .i64 (d : Int), .int .i64 xa, .int .i64 xb, .int .i64 xc, .int .u32 (n : Int), .string (bs nm), .slice ga ag.length gc] 50) = w1 at h1 hr1 hx hb1 hold1 ⊢
  obtain ⟨f0, f1, f2, f3, f4, f5⟩ := h1.cells6
  obtain ⟨r0, r1, r2, r3, r4, r5⟩ := hr1.cells6
  obtain ⟨x0, x1, x2, x3, x4, x5, x6, x7, x8⟩ := ir_block (x := ⟨kd, op, d, xa, xb, xc, n, nm, ag⟩) hx
  simp only at x0 x1 x2 x3 x4 x5 x6 x7 x8
  have hX1 : w.heap.size < w1.heap.size := lt_of_some hx
  have hF1 : F < w1.heap.size := lt_of_some h1.f
  have hR1 : R < w1.heap.size := lt_of_some hr1.r
  have hkn := known_look hold1 hgood nm hnm
  rw [hlook] at hkn
  obtain ⟨c9, pa, pc, la, lc, e9, _, hin1, hlk0⟩ : ∃ c9 pa pc la lc, some c = some c9 ∧ c9 ∈ P ∧ CoIn w1 (fun b => b < R) c9 pa pc la lc ∧ ∀ W : World, W.heap[KM]? = w1.heap[KM]? → (Instr.lookup 52 (.map (some KM)) (.string (bs nm)) true).run Try.prog W = .ok (.tuple #[coV c9 pa pc la lc, .bool true]) W := by
    rcases hkn with ⟨e, _⟩ | hh
    · cases e
    · exact hh
  obtain rfl : c = c9 := Option.some.inj e9
  unfold coV at hlk0
  have hlk1 := hlk0 w1.drew rfl
  have hlk2 := hlk0 (w1.alloc (.cells #[.string ⟨#[]⟩, .slice none 0 0, .int .i64 0, .int .i64 0, .slice none 0 0] 39)).drew (heap_alloc_old w1 _ (by have := hold1.km; omega))
  clear hlk0 hkn e9
  have HIN : Hid _ := hin1
  clear hin1
  have hall : ∀ o, (fun w' => w'.cell? ⟨F, 0, none⟩ = some (.pointer (some ⟨R, 0, none⟩)) ∧ w'.cell? ⟨R, 0, none⟩ = some (.map (some KM)) ∧ w'.cell? ⟨w.heap.size, 7, none⟩ = some (.string (bs nm))) (w1.alloc o).drew := fun o => ⟨alloc_cell o f0, alloc_cell o r0, alloc_cell o x7⟩
  have HALL : Hid _ := hall
  have hd0 : (fun w' => w'.cell? ⟨F, 0, none⟩ = some (.pointer (some ⟨R, 0, none⟩)) ∧ w'.cell? ⟨R, 0, none⟩ = some (.map (some KM)) ∧ w'.cell? ⟨w.heap.size, 7, none⟩ = some (.string (bs nm))) w1.drew := ⟨f0, r0, x7⟩
  have HD0 : Hid _ := hd0
  clear hall hd0
  have H1f : Hid _ := h1
  have H1r : Hid _ := hr1
  have H1x : Hid _ := hx
  have HB1 : Hid _ := hb1
  have HO1 : Hid _ := hold1
  have HX1 : Hid _ := hX1
  clear h hr h1 hr1 hx hb1 hold1 hold f1 f2 f3 f4 f5 r1 r2 r3 r4 r5 x0 x1 x2 x3 x4 x5 x6 x8 hX1 hF1 hR1
  go_region_held3 (fun w' => w'.cell? ⟨F, 0, none⟩ = some (.pointer (some ⟨R, 0, none⟩)) ∧ w'.cell? ⟨R, 0, none⟩ = some (.map (some KM)) ∧ w'.cell? ⟨w.heap.size, 7, none⟩ = some (.string (bs nm)))
    (first | with_reducible exact HD0.out | with_reducible exact HALL.out _)
    (fail)
  all_goals
    have hb3 : Below w.heap.size w (w1.alloc (.cells #[.string (bs c.name), .slice pa c.ps.length pc, .int .i64 c.regs, .int .i64 c.cells, .slice la c.l.length lc] 39)).drew := bl_then (bl_alloc HB1.out _) (drew_bl _)
    have hb13 : Below w1.heap.size w1 (w1.alloc (.cells #[.string (bs c.name), .slice pa c.ps.length pc, .int .i64 c.regs, .int .i64 c.cells, .slice la c.l.length lc] 39)).drew := bl_then (bl_alloc (Below.refl _ _) _) (drew_bl _)
    have hN3 : (w1.alloc (.cells #[.string (bs c.name), .slice pa c.ps.length pc, .int .i64 c.regs, .int .i64 c.cells, .slice la c.l.length lc] 39)).drew.heap[w1.heap.size]? = some (.cells #[.string (bs c.name), .slice pa c.ps.length pc, .int .i64 c.regs, .int .i64 c.cells, .slice la c.l.length lc] 39) := heap_alloc_new w1 _
    generalize (w1.alloc (.cells #[.string (bs c.name), .slice pa c.ps.length pc, .int .i64 c.regs, .int .i64 c.cells, .slice la c.l.length lc] 39)).drew = w3 at hb3 hb13 hN3 ⊢
    have h3f : FrM w3 R F G C fr := ⟨(hb13.block F (lt_of_some H1f.out.f)).trans H1f.out.f, (hb13.block G (lt_of_some H1f.out.g)).trans H1f.out.g, (hb13.block C (lt_of_some H1f.out.c)).trans H1f.out.c, H1f.out.fg, H1f.out.fc, H1f.out.gc, H1f.out.rf, H1f.out.rg, H1f.out.rc, H1f.out.regs, H1f.out.cells, H1f.out.res⟩
    have h3r : RnM w3 R KM DM deep st v := ⟨(hb13.block R (lt_of_some H1r.out.r)).trans H1r.out.r, own_kept H1r.out.own (Below.kept hb13 (fun _ => False)) (fun _ _ e => e), H1r.out.left, H1r.out.br⟩
    have h3x : w3.heap[w.heap.size]? = some (.cells #[.int .i64 kd, .int .i64 op, .int .i64 (d : Int), .int .i64 xa, .int .i64 xb, .int .i64 xc, .int .u32 (n : Int), .string (bs nm), .slice ga ag.length gc] 50) := (hb13.block _ HX1.out).trans H1x.out
    have h3o : Old w3 R KM DM P := HO1.out.keep fun k hk => hb13.block k (by have := lt_of_some H1r.out.r; omega)
    have hb13k : ∀ b, b < R → w3.heap[b]? = w1.heap[b]? := fun b hb => hb13.block b (by have := lt_of_some H1r.out.r; omega)
    clear HALL HD0 H1f H1r H1x HO1 HB1 hlk1 hlk2 f0 r0 x7 hb13
    have hin3 := HIN.out.mono (w' := w3) (T := fun b => b < R) fun b hb _ => ⟨hb, hb13k b hb⟩
    obtain ⟨z1, z2, z3, z4, z5, z6, z7, z8, z9⟩ := formB_parts (right_form (hgood.right c hc))
    have hrm := room_any w3 pa c.ps pc hin3.ps z5 (by omega)
    obtain ⟨n0, n1, n2, n3, n4⟩ := cells5 hN3
    go_wp2_with (first | (go_at_call 24; refine hrm.mono ?_; rintro e w4 ⟨rfl, hb34⟩; refine Hid.out ?_))
    refine Lib.hid ?_
    have hb4 := bl_then hb3 hb34
    have h4f : FrM w4 R F G C fr := ⟨(hb34.block F (lt_of_some h3f.f)).trans h3f.f, (hb34.block G (lt_of_some h3f.g)).trans h3f.g, (hb34.block C (lt_of_some h3f.c)).trans h3f.c, h3f.fg, h3f.fc, h3f.gc, h3f.rf, h3f.rg, h3f.rc, h3f.regs, h3f.cells, h3f.res⟩
    have h4r : RnM w4 R KM DM deep st v := ⟨(hb34.block R (lt_of_some h3r.r)).trans h3r.r, own_kept h3r.own (Below.kept hb34 (fun _ => False)) (fun _ _ e => e), h3r.left, h3r.br⟩
    have h4x : w4.heap[w.heap.size]? = some (.cells #[.int .i64 kd, .int .i64 op, .int .i64 (d : Int), .int .i64 xa, .int .i64 xb, .int .i64 xc, .int .u32 (n : Int), .string (bs nm), .slice ga ag.length gc] 50) := (hb34.block _ (lt_of_some h3x)).trans h3x
    have h4N : w4.heap[w1.heap.size]? = some (.cells #[.string (bs c.name), .slice pa c.ps.length pc, .int .i64 c.regs, .int .i64 c.cells, .slice la c.l.length lc] 39) := (hb34.block _ (lt_of_some hN3)).trans hN3
    have h4o : Old w4 R KM DM P := h3o.keep fun k hk => hb34.block k (by have := lt_of_some h3r.r; omega)
    obtain ⟨f0, f1, f2, f3, f4, f5⟩ := h4f.cells6
    obtain ⟨r0, r1, r2, r3, r4, r5⟩ := h4r.cells6
    obtain ⟨x0, x1, x2, x3, x4, x5, x6, x7, x8⟩ := ir_block (x := ⟨kd, op, d, xa, xb, xc, n, nm, ag⟩) h4x
    have fz := row_free h4r.r 5
    simp only at x0 x1 x2 x3 x4 x5 x6 x7 x8
    rw [← HEQ.out] at x8
    obtain ⟨n0, n1, n2, n3, n4⟩ := cells5 h4N
    have HDW : Hid _ := Did.wrong (e := 10) hb4 h4f h4r ha
    clear hb3 hb4 hb34 h3f h3r h3x h3o hN3 h4f h4r h4x h4N h4o hrm f1 f2 f3 f4 f5 r0 r1 r2 r4
    go_wp2_with fail
    go_end0
    exact ⟨rfl, v, HDW.out⟩
end Go.Proofs.Ytndmkfmpdnoliaa
/- CONTRACT of call. Made by gen/gen_call.py. -/
namespace Go.Proofs.Ytndmkfmpdnoliaa
open Go.ChangeShapes Go.WideShapes Go.ChangeAt Go.RowKit

set_option maxRecDepth 100000 in
set_option maxHeartbeats 8000000 in
theorem call_deep {P : List Co} (hgood : Good P) {R KM DM F G C deep : Nat} {fr : Fr} {st : St} {v : Value} (x : Ir) (ga : Option Addr) (gc : Nat) (w : World) (hold : Old w R KM DM P) (h : FrM w R F G C fr) (hr : RnM w R KM DM deep st v) (ha : Apart F G C v) (hnm : x.name.length ≤ 1000000000) (d : Nat) (hd : x.d = d) (c : Co) (hc : c ∈ P) (hlook : look P x.name = some c) (heq : c.ps.length = x.args.length) (hcp : ¬ 0 < cellsN c.ps) (hdp : deep = 32) :
    Calls Try.prog 48 #[.pointer (some ⟨F, 0, none⟩), irV x ga gc] w fun e w' => e = .returned (.tuple #[]) ∧ ∃ v', Did w w' R KM DM F G C deep v v' fr { st with wrong := 19 } := by
  obtain ⟨kd, op, xd, xa, xb, xc, n, nm, ag⟩ := x
  simp only at *
  subst hd
  have HEQ : Hid _ := heq
  clear heq
  have h1 := h.box (.cells #[.int .i64 kd, .int .i64 op, .int .i64 (d : Int), .int .i64 xa, .int .i64 xb, .int .i64 xc, .int .u32 (n : Int), .string (bs nm), .slice ga ag.length gc] 50)
  have hr1 := hr.box (.cells #[.int .i64 kd, .int .i64 op, .int .i64 (d : Int), .int .i64 xa, .int .i64 xb, .int .i64 xc, .int .u32 (n : Int), .string (bs nm), .slice ga ag.length gc] 50)
  have hx := heap_alloc_new w (.cells #[.int .i64 kd, .int .i64 op, .int .i64 (d : Int), .int .i64 xa, .int .i64 xb, .int .i64 xc, .int .u32 (n : Int), .string (bs nm), .slice ga ag.length gc] 50)
  have hb1 := bl_alloc (Below.refl w.heap.size w) (.cells #[.int .i64 kd, .int .i64 op, .int .i64 (d : Int), .int .i64 xa, .int .i64 xb, .int .i64 xc, .int .u32 (n : Int), .string (bs nm), .slice ga ag.length gc] 50)
  have hRw := lt_of_some hr.r
  have hFw := lt_of_some h.f
  have nrf := h.rf
  have hold1 := hold.keep (w' := w.alloc (.cells #[.int .i64 kd, .int .i64 op, .int .i64 (d : Int), .int .i64 xa, .int .i64 xb, .int .i64 xc, .int .u32 (n : Int), .string (bs nm), .slice ga ag.length gc] 50)) fun k hk => hb1.block k (by omega)
  have HRw : Hid _ := hRw
  have HFw : Hid _ := hFw
  clear hRw hFw
  unfold irV
  go_enter Try.func48, Try.ntmps48
  go_wp2_with fail
  generalize w.alloc (.cells #[.int .i64 kd, .int .i64 op, .int .i64 (d : Int), .int .i64 xa, .int .i64 xb, .int .i64 xc, .int .u32 (n : Int), .string (bs nm), .slice ga ag.length gc] 50) = w1 at h1 hr1 hx hb1 hold1 ⊢
  obtain ⟨f0, f1, f2, f3, f4, f5⟩ := h1.cells6
  obtain ⟨r0, r1, r2, r3, r4, r5⟩ := hr1.cells6
  obtain ⟨x0, x1, x2, x3, x4, x5, x6, x7, x8⟩ := ir_block (x := ⟨kd, op, d, xa, xb, xc, n, nm, ag⟩) hx
  simp only at x0 x1 x2 x3 x4 x5 x6 x7 x8
  have hX1 : w.heap.size < w1.heap.size := lt_of_some hx
  have hF1 : F < w1.heap.size := lt_of_some h1.f
  have hR1 : R < w1.heap.size := lt_of_some hr1.r
  have hkn := known_look hold1 hgood nm hnm
  rw [hlook] at hkn
  obtain ⟨c9, pa, pc, la, lc, e9, _, hin1, hlk0⟩ : ∃ c9 pa pc la lc, some c = some c9 ∧ c9 ∈ P ∧ CoIn w1 (fun b => b < R) c9 pa pc la lc ∧ ∀ W : World, W.heap[KM]? = w1.heap[KM]? → (Instr.lookup 52 (.map (some KM)) (.string (bs nm)) true).run Try.prog W = .ok (.tuple #[coV c9 pa pc la lc, .bool true]) W := by
    rcases hkn with ⟨e, _⟩ | hh
    · cases e
    · exact hh
  obtain rfl : c = c9 := Option.some.inj e9
  unfold coV at hlk0
  have hlk1 := hlk0 w1.drew rfl
  have hlk2 := hlk0 (w1.alloc (.cells #[.string ⟨#[]⟩, .slice none 0 0, .int .i64 0, .int .i64 0, .slice none 0 0] 39)).drew (heap_alloc_old w1 _ (by have := hold1.km; omega))
  clear hlk0 hkn e9
  have HIN : Hid _ := hin1
  clear hin1
  have hall : ∀ o, (fun w' => w'.cell? ⟨F, 0, none⟩ = some (.pointer (some ⟨R, 0, none⟩)) ∧ w'.cell? ⟨R, 0, none⟩ = some (.map (some KM)) ∧ w'.cell? ⟨w.heap.size, 7, none⟩ = some (.string (bs nm))) (w1.alloc o).drew := fun o => ⟨alloc_cell o f0, alloc_cell o r0, alloc_cell o x7⟩
  have HALL : Hid _ := hall
  have hd0 : (fun w' => w'.cell? ⟨F, 0, none⟩ = some (.pointer (some ⟨R, 0, none⟩)) ∧ w'.cell? ⟨R, 0, none⟩ = some (.map (some KM)) ∧ w'.cell? ⟨w.heap.size, 7, none⟩ = some (.string (bs nm))) w1.drew := ⟨f0, r0, x7⟩
  have HD0 : Hid _ := hd0
  clear hall hd0
  have H1f : Hid _ := h1
  have H1r : Hid _ := hr1
  have H1x : Hid _ := hx
  have HB1 : Hid _ := hb1
  have HO1 : Hid _ := hold1
  have HX1 : Hid _ := hX1
  clear h hr h1 hr1 hx hb1 hold1 hold f1 f2 f3 f4 f5 r1 r2 r3 r4 r5 x0 x1 x2 x3 x4 x5 x6 x8 hX1 hF1 hR1
  go_region_held3 (fun w' => w'.cell? ⟨F, 0, none⟩ = some (.pointer (some ⟨R, 0, none⟩)) ∧ w'.cell? ⟨R, 0, none⟩ = some (.map (some KM)) ∧ w'.cell? ⟨w.heap.size, 7, none⟩ = some (.string (bs nm)))
    (first | with_reducible exact HD0.out | with_reducible exact HALL.out _)
    (fail)
  all_goals
    have hb3 : Below w.heap.size w (w1.alloc (.cells #[.string (bs c.name), .slice pa c.ps.length pc, .int .i64 c.regs, .int .i64 c.cells, .slice la c.l.length lc] 39)).drew := bl_then (bl_alloc HB1.out _) (drew_bl _)
    have hb13 : Below w1.heap.size w1 (w1.alloc (.cells #[.string (bs c.name), .slice pa c.ps.length pc, .int .i64 c.regs, .int .i64 c.cells, .slice la c.l.length lc] 39)).drew := bl_then (bl_alloc (Below.refl _ _) _) (drew_bl _)
    have hN3 : (w1.alloc (.cells #[.string (bs c.name), .slice pa c.ps.length pc, .int .i64 c.regs, .int .i64 c.cells, .slice la c.l.length lc] 39)).drew.heap[w1.heap.size]? = some (.cells #[.string (bs c.name), .slice pa c.ps.length pc, .int .i64 c.regs, .int .i64 c.cells, .slice la c.l.length lc] 39) := heap_alloc_new w1 _
    generalize (w1.alloc (.cells #[.string (bs c.name), .slice pa c.ps.length pc, .int .i64 c.regs, .int .i64 c.cells, .slice la c.l.length lc] 39)).drew = w3 at hb3 hb13 hN3 ⊢
    have h3f : FrM w3 R F G C fr := ⟨(hb13.block F (lt_of_some H1f.out.f)).trans H1f.out.f, (hb13.block G (lt_of_some H1f.out.g)).trans H1f.out.g, (hb13.block C (lt_of_some H1f.out.c)).trans H1f.out.c, H1f.out.fg, H1f.out.fc, H1f.out.gc, H1f.out.rf, H1f.out.rg, H1f.out.rc, H1f.out.regs, H1f.out.cells, H1f.out.res⟩
    have h3r : RnM w3 R KM DM deep st v := ⟨(hb13.block R (lt_of_some H1r.out.r)).trans H1r.out.r, own_kept H1r.out.own (Below.kept hb13 (fun _ => False)) (fun _ _ e => e), H1r.out.left, H1r.out.br⟩
    have h3x : w3.heap[w.heap.size]? = some (.cells #[.int .i64 kd, .int .i64 op, .int .i64 (d : Int), .int .i64 xa, .int .i64 xb, .int .i64 xc, .int .u32 (n : Int), .string (bs nm), .slice ga ag.length gc] 50) := (hb13.block _ HX1.out).trans H1x.out
    have h3o : Old w3 R KM DM P := HO1.out.keep fun k hk => hb13.block k (by have := lt_of_some H1r.out.r; omega)
    have hb13k : ∀ b, b < R → w3.heap[b]? = w1.heap[b]? := fun b hb => hb13.block b (by have := lt_of_some H1r.out.r; omega)
    clear HALL HD0 H1f H1r H1x HO1 HB1 hlk1 hlk2 f0 r0 x7 hb13
    have hin3 := HIN.out.mono (w' := w3) (T := fun b => b < R) fun b hb _ => ⟨hb, hb13k b hb⟩
    obtain ⟨z1, z2, z3, z4, z5, z6, z7, z8, z9⟩ := formB_parts (right_form (hgood.right c hc))
    have hrm := room_any w3 pa c.ps pc hin3.ps z5 (by omega)
    obtain ⟨n0, n1, n2, n3, n4⟩ := cells5 hN3
    go_wp2_with (first | (go_at_call 24; refine hrm.mono ?_; rintro e w4 ⟨rfl, hb34⟩; refine Hid.out ?_))
    refine Lib.hid ?_
    have hb4 := bl_then hb3 hb34
    have h4f : FrM w4 R F G C fr := ⟨(hb34.block F (lt_of_some h3f.f)).trans h3f.f, (hb34.block G (lt_of_some h3f.g)).trans h3f.g, (hb34.block C (lt_of_some h3f.c)).trans h3f.c, h3f.fg, h3f.fc, h3f.gc, h3f.rf, h3f.rg, h3f.rc, h3f.regs, h3f.cells, h3f.res⟩
    have h4r : RnM w4 R KM DM deep st v := ⟨(hb34.block R (lt_of_some h3r.r)).trans h3r.r, own_kept h3r.own (Below.kept hb34 (fun _ => False)) (fun _ _ e => e), h3r.left, h3r.br⟩
    have h4x : w4.heap[w.heap.size]? = some (.cells #[.int .i64 kd, .int .i64 op, .int .i64 (d : Int), .int .i64 xa, .int .i64 xb, .int .i64 xc, .int .u32 (n : Int), .string (bs nm), .slice ga ag.length gc] 50) := (hb34.block _ (lt_of_some h3x)).trans h3x
    have h4N : w4.heap[w1.heap.size]? = some (.cells #[.string (bs c.name), .slice pa c.ps.length pc, .int .i64 c.regs, .int .i64 c.cells, .slice la c.l.length lc] 39) := (hb34.block _ (lt_of_some hN3)).trans hN3
    have h4o : Old w4 R KM DM P := h3o.keep fun k hk => hb34.block k (by have := lt_of_some h3r.r; omega)
    obtain ⟨f0, f1, f2, f3, f4, f5⟩ := h4f.cells6
    obtain ⟨r0, r1, r2, r3, r4, r5⟩ := h4r.cells6
    obtain ⟨x0, x1, x2, x3, x4, x5, x6, x7, x8⟩ := ir_block (x := ⟨kd, op, d, xa, xb, xc, n, nm, ag⟩) h4x
    have fz := row_free h4r.r 5
    simp only at x0 x1 x2 x3 x4 x5 x6 x7 x8
    rw [← HEQ.out] at x8
    obtain ⟨n0, n1, n2, n3, n4⟩ := cells5 h4N
    have hdp' : ((deep : Int) == 32) = true := by rw [beq_iff_eq]; omega
    have HDW : Hid _ := Did.wrong (e := 19) hb4 h4f h4r ha
    clear hb3 hb4 hb34 h3f h3r h3x h3o hN3 h4f h4r h4x h4N h4o hrm f1 f2 f3 f4 f5 r0 r1 r2 r4
    go_wp2_with fail
    go_end0
    exact ⟨rfl, v, HDW.out⟩
end Go.Proofs.Ytndmkfmpdnoliaa
/- CONTRACT of call. Made by gen/gen_call.py. -/
namespace Go.Proofs.Ytndmkfmpdnoliaa
open Go.ChangeShapes Go.WideShapes Go.ChangeAt Go.RowKit

theorem call_done {w w4 w5 w6 : World} {R KM DM F G C deep : Nat} {fr : Fr} {st9 : St} {v v6 : Value} (hb4 : Below w.heap.size w w4) (h4f : FrM w4 R F G C fr) (hb5 : Below w4.heap.size w4 w5) (hran : Ran w5 w6 R KM DM deep v v6 st9) (ha : Apart F G C v) {d r : Nat} (hr9 : r < 4294967296) :
    Did w (w6.setCell ⟨G, d, none⟩ (.int .u32 (r : Int))) R KM DM F G C deep v v6 { fr with regs := fr.regs.set d r } st9 := by
  have k6 : ∀ k, k < w4.heap.size → k ≠ R → v.ownBlock ≠ some k → w6.heap[k]? = w4.heap[k]? := fun k hk n1 n2 => (hran.kept.block k (Nat.lt_of_lt_of_le hk hb5.size) (fun e => e.elim n1 n2)).trans (hb5.block k hk)
  have a1 := lt_of_some h4f.f
  have a2 := lt_of_some h4f.g
  have a3 := lt_of_some h4f.c
  have s4 := hb4.size
  have s5 := hb5.size
  have s6 := hran.kept.size
  have b1 := h4f.rf
  have b2 := h4f.rg
  have b3 := h4f.rc
  have hap : Apart F G C v6 := fun q e => by
    rcases hran.fresh q e with h | h
    · exact ha q h
    · omega
  have hf6 : FrM w6 R F G C fr := ⟨(k6 F a1 (by omega) fun e => (ha F e).1 rfl).trans h4f.f, (k6 G a2 (by omega) fun e => (ha G e).2.1 rfl).trans h4f.g, (k6 C a3 (by omega) fun e => (ha C e).2.2 rfl).trans h4f.c, h4f.fg, h4f.fc, h4f.gc, h4f.rf, h4f.rg, h4f.rc, h4f.regs, h4f.cells, h4f.res⟩
  have hd6 : Did w w6 R KM DM F G C deep v v6 fr st9 := by
    refine ⟨hran.rn, hf6, ⟨hran.kept.os.trans (hb5.os.trans hb4.os), hran.kept.tape.trans (hb5.tape.trans hb4.tape), hran.kept.output.trans (hb5.output.trans hb4.output), by omega, fun k hk hm => ?_⟩, fun q e => ?_, hap⟩
    · exact (k6 k (by omega) (fun e => hm (.inl e)) (fun e => hm (.inr (.inr (.inr (.inr e)))))).trans (hb4.block k hk)
    · rcases hran.fresh q e with h | h
      · exact .inl h
      · right; omega
  refine hd6.trans (Did.regs hf6 hran.rn hap (SetR.of (Below.refl _ _) hf6.g) (by simp) fun n hn => ?_)
  rcases List.mem_or_eq_of_mem_set hn with h | h
  · exact h4f.regs n h
  · omega
theorem words_all {l : List Ty} (hok : l.all tyOk = true) (h : cellsN l = 0) : wordsN l = l.length := by
  induction l with
  | nil => rfl
  | cons t l ih =>
    simp only [List.all_cons, Bool.and_eq_true] at hok
    have h1 := hok.1
    simp only [tyOk, Bool.and_eq_true, decide_eq_true_eq] at h1
    have h2 := (cellsN_bd l hok.2).1
    simp only [cellsN] at h
    have h3 : t.len = 0 := by omega
    have := ih hok.2 (by omega)
    simp only [wordsN, h3, if_true, List.length_cons]
    omega
set_option maxRecDepth 100000 in
set_option maxHeartbeats 8000000 in
theorem call_run {P : List Co} (hgood : Good P) {R KM DM F G C deep : Nat} {fr : Fr} {st : St} {v : Value} (x : Ir) (ga : Option Addr) (gc : Nat) (w : World) (hold : Old w R KM DM P) (h : FrM w R F G C fr) (hr : RnM w R KM DM deep st v) (ha : Apart F G C v) (hnm : x.name.length ≤ 1000000000) (d : Nat) (hd : x.d = d) (c : Co) (hc : c ∈ P) (hlook : look P x.name = some c) (heq : c.ps.length = x.args.length) (hcp : ¬ 0 < cellsN c.ps) (hdp : deep < 32) {g : Nat} (hfin : FinOk P g) (hle : st.wrong = 0 → st.left < g) (hdl : d < fr.regs.length) (hargs : kInt.row w (fun b => b < R) ga x.args) (hin : ∀ i ∈ x.args, 0 ≤ i ∧ i < fr.regs.length) (ha6 : x.args.length ≤ 1000000) :
    Calls Try.prog 48 #[.pointer (some ⟨F, 0, none⟩), irV x ga gc] w fun e w' => e = .returned (.tuple #[]) ∧ ∃ v', Did w w' R KM DM F G C deep v v' { fr with regs := fr.regs.set d (runF P g (deep + 1) c (startF c (x.args.map (at0 fr.regs))) st).1.result } (runF P g (deep + 1) c (startF c (x.args.map (at0 fr.regs))) st).2 := by
  obtain ⟨kd, op, xd, xa, xb, xc, n, nm, ag⟩ := x
  simp only at *
  subst hd
  have HEQ : Hid _ := heq
  have HARGS : Hid _ := hargs
  have HAIN : Hid _ := hin
  have hvl : ∀ q, v.ownBlock = some q → q < w.heap.size := fun q e => (World.ownsRow.lt hr.own q e).2
  have HVLT : Hid _ := hvl
  have HGW : Hid (G < w.heap.size) := lt_of_some h.g
  have hinn := fun (w5 : World) (pa : Option Addr) (pc : Nat) (la : Option Addr) (lc : Nat) (aa : Option Addr) (ac : Nat) (S : Nat → Prop) (a1 : Old w5 R KM DM P) (a2 : RnM w5 R KM DM deep st v) (a3 : CoIn w5 (fun b => b < R) c pa pc la lc) (a4 : ∀ b, S b → b ≠ R) (a5 : kWd.row w5 S aa (ag.map (at0 fr.regs))) (a6 : (ag.map (at0 fr.regs)).length ≤ ac) (a7 : ((ag.map (at0 fr.regs)).length : Int) = wordsN c.ps + cellsN c.ps) => inner_any hfin hgood c pa pc la lc (ag.map (at0 fr.regs)) aa ac w5 a1 a2 hc a3 a4 a5 a6 a7 hdp hle
  generalize runF P g (deep + 1) c (startF c (ag.map (at0 fr.regs))) st = res at hinn ⊢
  obtain ⟨fr9, st9⟩ := res
  simp only at hinn ⊢
  have HINN : Hid _ := hinn
  clear heq hargs hin hfin hle hinn hvl
  have h1 := h.box (.cells #[.int .i64 kd, .int .i64 op, .int .i64 (d : Int), .int .i64 xa, .int .i64 xb, .int .i64 xc, .int .u32 (n : Int), .string (bs nm), .slice ga ag.length gc] 50)
  have hr1 := hr.box (.cells #[.int .i64 kd, .int .i64 op, .int .i64 (d : Int), .int .i64 xa, .int .i64 xb, .int .i64 xc, .int .u32 (n : Int), .string (bs nm), .slice ga ag.length gc] 50)
  have hx := heap_alloc_new w (.cells #[.int .i64 kd, .int .i64 op, .int .i64 (d : Int), .int .i64 xa, .int .i64 xb, .int .i64 xc, .int .u32 (n : Int), .string (bs nm), .slice ga ag.length gc] 50)
  have hb1 := bl_alloc (Below.refl w.heap.size w) (.cells #[.int .i64 kd, .int .i64 op, .int .i64 (d : Int), .int .i64 xa, .int .i64 xb, .int .i64 xc, .int .u32 (n : Int), .string (bs nm), .slice ga ag.length gc] 50)
  have hRw := lt_of_some hr.r
  have hFw := lt_of_some h.f
  have nrf := h.rf
  have hold1 := hold.keep (w' := w.alloc (.cells #[.int .i64 kd, .int .i64 op, .int .i64 (d : Int), .int .i64 xa, .int .i64 xb, .int .i64 xc, .int .u32 (n : Int), .string (bs nm), .slice ga ag.length gc] 50)) fun k hk => hb1.block k (by omega)
  have HRw : Hid _ := hRw
  have HFw : Hid _ := hFw
  clear hRw hFw
  unfold irV
  go_enter Try.func48, Try.ntmps48
  go_wp2_with fail
  generalize w.alloc (.cells #[.int .i64 kd, .int .i64 op, .int .i64 (d : Int), .int .i64 xa, .int .i64 xb, .int .i64 xc, .int .u32 (n : Int), .string (bs nm), .slice ga ag.length gc] 50) = w1 at h1 hr1 hx hb1 hold1 ⊢
  obtain ⟨f0, f1, f2, f3, f4, f5⟩ := h1.cells6
  obtain ⟨r0, r1, r2, r3, r4, r5⟩ := hr1.cells6
  obtain ⟨x0, x1, x2, x3, x4, x5, x6, x7, x8⟩ := ir_block (x := ⟨kd, op, d, xa, xb, xc, n, nm, ag⟩) hx
  simp only at x0 x1 x2 x3 x4 x5 x6 x7 x8
  have hX1 : w.heap.size < w1.heap.size := lt_of_some hx
  have hF1 : F < w1.heap.size := lt_of_some h1.f
  have hR1 : R < w1.heap.size := lt_of_some hr1.r
  have hkn := known_look hold1 hgood nm hnm
  rw [hlook] at hkn
  obtain ⟨c9, pa, pc, la, lc, e9, _, hin1, hlk0⟩ : ∃ c9 pa pc la lc, some c = some c9 ∧ c9 ∈ P ∧ CoIn w1 (fun b => b < R) c9 pa pc la lc ∧ ∀ W : World, W.heap[KM]? = w1.heap[KM]? → (Instr.lookup 52 (.map (some KM)) (.string (bs nm)) true).run Try.prog W = .ok (.tuple #[coV c9 pa pc la lc, .bool true]) W := by
    rcases hkn with ⟨e, _⟩ | hh
    · cases e
    · exact hh
  obtain rfl : c = c9 := Option.some.inj e9
  unfold coV at hlk0
  have hlk1 := hlk0 w1.drew rfl
  have hlk2 := hlk0 (w1.alloc (.cells #[.string ⟨#[]⟩, .slice none 0 0, .int .i64 0, .int .i64 0, .slice none 0 0] 39)).drew (heap_alloc_old w1 _ (by have := hold1.km; omega))
  clear hlk0 hkn e9
  have HIN : Hid _ := hin1
  clear hin1
  have hall : ∀ o, (fun w' => w'.cell? ⟨F, 0, none⟩ = some (.pointer (some ⟨R, 0, none⟩)) ∧ w'.cell? ⟨R, 0, none⟩ = some (.map (some KM)) ∧ w'.cell? ⟨w.heap.size, 7, none⟩ = some (.string (bs nm))) (w1.alloc o).drew := fun o => ⟨alloc_cell o f0, alloc_cell o r0, alloc_cell o x7⟩
  have HALL : Hid _ := hall
  have hd0 : (fun w' => w'.cell? ⟨F, 0, none⟩ = some (.pointer (some ⟨R, 0, none⟩)) ∧ w'.cell? ⟨R, 0, none⟩ = some (.map (some KM)) ∧ w'.cell? ⟨w.heap.size, 7, none⟩ = some (.string (bs nm))) w1.drew := ⟨f0, r0, x7⟩
  have HD0 : Hid _ := hd0
  clear hall hd0
  have H1f : Hid _ := h1
  have H1r : Hid _ := hr1
  have H1x : Hid _ := hx
  have HB1 : Hid _ := hb1
  have HO1 : Hid _ := hold1
  have HX1 : Hid _ := hX1
  clear h hr h1 hr1 hx hb1 hold1 hold f1 f2 f3 f4 f5 r1 r2 r3 r4 r5 x0 x1 x2 x3 x4 x5 x6 x8 hX1 hF1 hR1
  go_region_held3 (fun w' => w'.cell? ⟨F, 0, none⟩ = some (.pointer (some ⟨R, 0, none⟩)) ∧ w'.cell? ⟨R, 0, none⟩ = some (.map (some KM)) ∧ w'.cell? ⟨w.heap.size, 7, none⟩ = some (.string (bs nm)))
    (first | with_reducible exact HD0.out | with_reducible exact HALL.out _)
    (fail)
  all_goals
    have hb3 : Below w.heap.size w (w1.alloc (.cells #[.string (bs c.name), .slice pa c.ps.length pc, .int .i64 c.regs, .int .i64 c.cells, .slice la c.l.length lc] 39)).drew := bl_then (bl_alloc HB1.out _) (drew_bl _)
    have hb13 : Below w1.heap.size w1 (w1.alloc (.cells #[.string (bs c.name), .slice pa c.ps.length pc, .int .i64 c.regs, .int .i64 c.cells, .slice la c.l.length lc] 39)).drew := bl_then (bl_alloc (Below.refl _ _) _) (drew_bl _)
    have hN3 : (w1.alloc (.cells #[.string (bs c.name), .slice pa c.ps.length pc, .int .i64 c.regs, .int .i64 c.cells, .slice la c.l.length lc] 39)).drew.heap[w1.heap.size]? = some (.cells #[.string (bs c.name), .slice pa c.ps.length pc, .int .i64 c.regs, .int .i64 c.cells, .slice la c.l.length lc] 39) := heap_alloc_new w1 _
    generalize (w1.alloc (.cells #[.string (bs c.name), .slice pa c.ps.length pc, .int .i64 c.regs, .int .i64 c.cells, .slice la c.l.length lc] 39)).drew = w3 at hb3 hb13 hN3 ⊢
    have h3f : FrM w3 R F G C fr := ⟨(hb13.block F (lt_of_some H1f.out.f)).trans H1f.out.f, (hb13.block G (lt_of_some H1f.out.g)).trans H1f.out.g, (hb13.block C (lt_of_some H1f.out.c)).trans H1f.out.c, H1f.out.fg, H1f.out.fc, H1f.out.gc, H1f.out.rf, H1f.out.rg, H1f.out.rc, H1f.out.regs, H1f.out.cells, H1f.out.res⟩
    have h3r : RnM w3 R KM DM deep st v := ⟨(hb13.block R (lt_of_some H1r.out.r)).trans H1r.out.r, own_kept H1r.out.own (Below.kept hb13 (fun _ => False)) (fun _ _ e => e), H1r.out.left, H1r.out.br⟩
    have h3x : w3.heap[w.heap.size]? = some (.cells #[.int .i64 kd, .int .i64 op, .int .i64 (d : Int), .int .i64 xa, .int .i64 xb, .int .i64 xc, .int .u32 (n : Int), .string (bs nm), .slice ga ag.length gc] 50) := (hb13.block _ HX1.out).trans H1x.out
    have h3o : Old w3 R KM DM P := HO1.out.keep fun k hk => hb13.block k (by have := lt_of_some H1r.out.r; omega)
    have hb13k : ∀ b, b < R → w3.heap[b]? = w1.heap[b]? := fun b hb => hb13.block b (by have := lt_of_some H1r.out.r; omega)
    clear HALL HD0 H1f H1r H1x HO1 HB1 hlk1 hlk2 f0 r0 x7 hb13
    have hin3 := HIN.out.mono (w' := w3) (T := fun b => b < R) fun b hb _ => ⟨hb, hb13k b hb⟩
    obtain ⟨z1, z2, z3, z4, z5, z6, z7, z8, z9⟩ := formB_parts (right_form (hgood.right c hc))
    have hrm := room_any w3 pa c.ps pc hin3.ps z5 (by omega)
    obtain ⟨n0, n1, n2, n3, n4⟩ := cells5 hN3
    go_wp2_with (first | (go_at_call 24; refine hrm.mono ?_; rintro e w4 ⟨rfl, hb34⟩; refine Hid.out ?_))
    refine Lib.hid ?_
    have hb4 := bl_then hb3 hb34
    have h4f : FrM w4 R F G C fr := ⟨(hb34.block F (lt_of_some h3f.f)).trans h3f.f, (hb34.block G (lt_of_some h3f.g)).trans h3f.g, (hb34.block C (lt_of_some h3f.c)).trans h3f.c, h3f.fg, h3f.fc, h3f.gc, h3f.rf, h3f.rg, h3f.rc, h3f.regs, h3f.cells, h3f.res⟩
    have h4r : RnM w4 R KM DM deep st v := ⟨(hb34.block R (lt_of_some h3r.r)).trans h3r.r, own_kept h3r.own (Below.kept hb34 (fun _ => False)) (fun _ _ e => e), h3r.left, h3r.br⟩
    have h4x : w4.heap[w.heap.size]? = some (.cells #[.int .i64 kd, .int .i64 op, .int .i64 (d : Int), .int .i64 xa, .int .i64 xb, .int .i64 xc, .int .u32 (n : Int), .string (bs nm), .slice ga ag.length gc] 50) := (hb34.block _ (lt_of_some h3x)).trans h3x
    have h4N : w4.heap[w1.heap.size]? = some (.cells #[.string (bs c.name), .slice pa c.ps.length pc, .int .i64 c.regs, .int .i64 c.cells, .slice la c.l.length lc] 39) := (hb34.block _ (lt_of_some hN3)).trans hN3
    have h4o : Old w4 R KM DM P := h3o.keep fun k hk => hb34.block k (by have := lt_of_some h3r.r; omega)
    obtain ⟨f0, f1, f2, f3, f4, f5⟩ := h4f.cells6
    obtain ⟨r0, r1, r2, r3, r4, r5⟩ := h4r.cells6
    obtain ⟨x0, x1, x2, x3, x4, x5, x6, x7, x8⟩ := ir_block (x := ⟨kd, op, d, xa, xb, xc, n, nm, ag⟩) h4x
    have fz := row_free h4r.r 5
    simp only at x0 x1 x2 x3 x4 x5 x6 x7 x8
    rw [← HEQ.out] at x8
    obtain ⟨n0, n1, n2, n3, n4⟩ := cells5 h4N
    have hdp0 : ((deep : Int) == 32) = false := by rw [beq_eq_false_iff_ne]; omega
    have hcp0 : cellsN c.ps = 0 := by have := (cellsN_bd c.ps z5).1; omega
    have hwl : (wordsN c.ps : Int) + cellsN c.ps = ag.length := by have := words_all z5 hcp0; have := HEQ.out; omega
    have hargs4 : kInt.row w4.drew (fun b => b < R) ga ag := kInt.row_mono (by decide) HARGS.out fun b hb hlt => ⟨hb, hb4.block b hlt⟩
    have hval := values_any ga gc ag w4.drew (⟨h4f.f, h4f.g, h4f.c, h4f.fg, h4f.fc, h4f.gc, h4f.rf, h4f.rg, h4f.rc, h4f.regs, h4f.cells, h4f.res⟩ : FrM w4.drew R F G C fr) hargs4 ha6 HAIN.out
    rw [← HEQ.out] at hval
    have hF4 := lt_of_some h4f.f
    have hG4 := lt_of_some h4f.g
    have hC4 := lt_of_some h4f.c
    have hR4 := lt_of_some h4r.r
    have hX4 := lt_of_some h4x
    have hN4 := lt_of_some h4N
    have hown4 := h4r.own
    have h4rd : RnM w4.drew R KM DM deep st v := ⟨h4r.r, own_kept h4r.own (Below.kept (drew_bl w4) (fun _ => False)) (fun _ _ e => e), h4r.left, h4r.br⟩
    have hinn := fun (w5 : World) (aa : Option Addr) (ac : Nat) (hrow : kWd.row w5 (fun b => w4.drew.heap.size ≤ b) aa (ag.map (at0 fr.regs))) (hac : (ag.map (at0 fr.regs)).length ≤ ac) (hb : Below w4.drew.heap.size w4.drew w5) => HINN.out w5 pa pc la lc aa ac (fun b => w4.drew.heap.size ≤ b) (h4o.keep fun k hk => hb.block k (Nat.lt_trans hk hR4)) (⟨(hb.block R hR4).trans h4r.r, own_kept h4rd.own (Below.kept hb (fun _ => False)) (fun _ _ e => e), h4r.left, h4r.br⟩ : RnM w5 R KM DM deep st v) (hin3.mono fun b hb2 hlt => ⟨hb2, (hb.block b (Nat.lt_trans hb2 hR4)).trans (hb34.block b (Nat.lt_trans hb2 (lt_of_some h3r.r)))⟩) (fun b hb2 e => by have h9 : w4.heap.size ≤ b := hb2; omega) hrow hac (by rw [List.length_map]; exact hwl.symm)
    simp only [List.length_map] at hinn
    rw [← HEQ.out] at hinn
    have hblk : ∀ W : World, W.heap[F]? = w4.heap[F]? → W.heap[w.heap.size]? = w4.heap[w.heap.size]? → W.heap[w1.heap.size]? = w4.heap[w1.heap.size]? → W.cell? ⟨F, 0, none⟩ = some (.pointer (some ⟨R, 0, none⟩)) ∧ W.cell? ⟨F, 1, none⟩ = some (.slice (some ⟨G, 0, none⟩) fr.regs.length fr.regs.length) ∧ W.cell? ⟨w.heap.size, 2, none⟩ = some (.int .i64 (d : Int)) ∧ W.cell? ⟨w.heap.size, 8, none⟩ = some (.slice ga c.ps.length gc) ∧ W.cell? ⟨w1.heap.size, 0, none⟩ = some (.string (bs c.name)) ∧ W.cell? ⟨w1.heap.size, 1, none⟩ = some (.slice pa c.ps.length pc) ∧ W.cell? ⟨w1.heap.size, 2, none⟩ = some (.int .i64 c.regs) ∧ W.cell? ⟨w1.heap.size, 3, none⟩ = some (.int .i64 c.cells) ∧ W.cell? ⟨w1.heap.size, 4, none⟩ = some (.slice la c.l.length lc) := fun W e1 e2 e3 => ⟨(World.cell?_of_block e1).trans f0, (World.cell?_of_block e1).trans f1, (World.cell?_of_block e2).trans x2, (World.cell?_of_block e2).trans x8, (World.cell?_of_block e3).trans n0, (World.cell?_of_block e3).trans n1, (World.cell?_of_block e3).trans n2, (World.cell?_of_block e3).trans n3, (World.cell?_of_block e3).trans n4⟩
    have HBLK : Hid _ := hblk
    have hS4 : w4.drew.cell? ⟨F, 0, none⟩ = some (.pointer (some ⟨R, 0, none⟩)) ∧ w4.drew.cell? ⟨F, 1, none⟩ = some (.slice (some ⟨G, 0, none⟩) fr.regs.length fr.regs.length) ∧ w4.drew.cell? ⟨w.heap.size, 2, none⟩ = some (.int .i64 (d : Int)) ∧ w4.drew.cell? ⟨w.heap.size, 8, none⟩ = some (.slice ga c.ps.length gc) ∧ w4.drew.cell? ⟨w1.heap.size, 0, none⟩ = some (.string (bs c.name)) ∧ w4.drew.cell? ⟨w1.heap.size, 1, none⟩ = some (.slice pa c.ps.length pc) ∧ w4.drew.cell? ⟨w1.heap.size, 2, none⟩ = some (.int .i64 c.regs) ∧ w4.drew.cell? ⟨w1.heap.size, 3, none⟩ = some (.int .i64 c.cells) ∧ w4.drew.cell? ⟨w1.heap.size, 4, none⟩ = some (.slice la c.l.length lc) := hblk w4.drew rfl rfl rfl
    have hXR : w.heap.size ≠ R := by have := HRw.out; omega
    have hNR : w1.heap.size ≠ R := by have := HRw.out; have := HX1.out; omega
    have hvlt : ∀ q, v.ownBlock = some q → q < w.heap.size := fun q e => HVLT.out q e
    have HS4 : Hid _ := hS4
    have gd := row_cell h4f.g hdl
    have i0 : (0 : Int) ≤ (d : Int) := by omega
    have i1 : (d : Int) < (fr.regs.length : Int) := by omega
    clear hblk hS4 hrm
    have hl5 : (List.map (at0 fr.regs) ag).length = c.ps.length := by rw [List.length_map]; exact HEQ.out.symm
    have hk6 : ∀ {w5 w6 : World} {v6 : Value}, Below w4.drew.heap.size w4.drew w5 → Ran w5 w6 R KM DM deep v v6 st9 → ∀ k, k < w4.heap.size → k ≠ R → v.ownBlock ≠ some k → w6.heap[k]? = w4.heap[k]? := fun {w5 w6 v6} hb hran k hk n1 n2 => (hran.kept.block k (Nat.lt_of_lt_of_le hk hb.size) (fun e => e.elim n1 n2)).trans (hb.block k hk)
    have HK6 : Hid _ := @hk6
    have nFR : F ≠ R := by have := h4f.rf; omega
    have nGR : G ≠ R := by have := h4f.rg; omega
    have nFG := h4f.fg
    have nXG : w.heap.size ≠ G := by have := HGW.out; omega
    have nNG : w1.heap.size ≠ G := by have := HGW.out; have := HX1.out; omega
    have vF : v.ownBlock ≠ some F := fun e => (ha F e).1 rfl
    have vG : v.ownBlock ≠ some G := fun e => (ha G e).2.1 rfl
    have vX : v.ownBlock ≠ some w.heap.size := fun e => by have := hvlt _ e; omega
    have vN : v.ownBlock ≠ some w1.heap.size := fun e => by have := hvlt _ e; have := HX1.out; omega
    have H4f : Hid _ := h4f
    have HB4 : Hid _ := hb4
    have hG4r := h4f.g
    have HG4 : Hid _ := hG4r
    clear hk6 hvlt h4f h4r h4x h4N h4o h4rd hb3 hb34 hb4 h3f h3r h3x h3o hN3 hin3 hargs4 hown4 r0 r1 r2 r4 r5 x0 x1 x3 x4 x5 x6 x7 f2 f3 f4 f5 fz gd hG4r hb13k
    go_wp2_with fail
    clear n0 n1 n2 n3 n4 f0 f1 x2 x8 r3
    go_region_held3 (fun w' => w'.cell? ⟨F, 0, none⟩ = some (.pointer (some ⟨R, 0, none⟩)) ∧ w'.cell? ⟨F, 1, none⟩ = some (.slice (some ⟨G, 0, none⟩) fr.regs.length fr.regs.length) ∧ w'.cell? ⟨w.heap.size, 2, none⟩ = some (.int .i64 (d : Int)) ∧ w'.cell? ⟨w.heap.size, 8, none⟩ = some (.slice ga c.ps.length gc) ∧ w'.cell? ⟨w1.heap.size, 0, none⟩ = some (.string (bs c.name)) ∧ w'.cell? ⟨w1.heap.size, 1, none⟩ = some (.slice pa c.ps.length pc) ∧ w'.cell? ⟨w1.heap.size, 2, none⟩ = some (.int .i64 c.regs) ∧ w'.cell? ⟨w1.heap.size, 3, none⟩ = some (.int .i64 c.cells) ∧ w'.cell? ⟨w1.heap.size, 4, none⟩ = some (.slice la c.l.length lc))
      (first | with_reducible exact HS4.out | with_reducible exact S5 | with_reducible exact S6 | with_reducible exact S7 _)
      (first | (go_at_call 74; refine hval.mono ?_; rintro e w5 ⟨⟨v5, rfl, hrd5⟩, hb5⟩; obtain ⟨aa, ac, rfl, hrow5, hcap5⟩ := hrd5; have S5 := HBLK.out w5 (hb5.block F hF4) (hb5.block _ hX4) (hb5.block _ hN4); have hinn5 := hinn w5 aa ac hrow5 (by have h9 := hcap5; rw [hl5] at h9; exact h9) hb5; rw [hl5]) | (go_at_call 73; refine hinn5.mono ?_; rintro e w6 ⟨rfl, hr9, v6, hran⟩; have S6 := HBLK.out w6 (HK6.out hb5 hran F hF4 nFR vF) (HK6.out hb5 hran _ hX4 hXR vX) (HK6.out hb5 hran _ hN4 hNR vN); have hG6 := (HK6.out hb5 hran G hG4 nGR vG).trans HG4.out; have gd6 := row_cell hG6 hdl; have fz6 := row_free hG6 d; have S7 := fun u => HBLK.out (w6.setCell ⟨G, d, none⟩ u) ((setCell_other nFG).trans (HK6.out hb5 hran F hF4 nFR vF)) ((setCell_other nXG).trans (HK6.out hb5 hran _ hX4 hXR vX)) ((setCell_other nNG).trans (HK6.out hb5 hran _ hN4 hNR vN))))
    have HFD : Hid _ := call_done (d := d) HB4.out H4f.out (bl_then (drew_bl w4) hb5) hran ha hr9
    clear S5 S6 S7 hran hb5 hinn5 hinn hval HINN HBLK HK6 H4f HB4 HS4 hrow5
    go_wp2_with fail
    go_end0
    exact ⟨rfl, v6, HFD.out⟩
end Go.Proofs.Ytndmkfmpdnoliaa
/- CONTRACTS of step and finish, by induction on what is left. -/
namespace Go.Proofs.Ytndmkfmpdnoliaa
open Go.ChangeShapes Go.WideShapes Go.ChangeAt Go.RowKit

theorem set_bd {l : List Nat} {k r : Nat} (h : ∀ n ∈ l, n < 4294967296) (hr : r < 4294967296) : ∀ n ∈ l.set k r, n < 4294967296 := fun n hn => by
  rcases List.mem_or_eq_of_mem_set hn with h1 | h1
  · exact h n h1
  · omega
/-- A deed, by its number. -/
theorem deed_any {P : List Co} {g : Nat} (hfin : FinOk P g) (hgood : Good P) {R KM DM F G C deep : Nat} {fr : Fr} {st : St} {v : Value} (c : Co) (i : Nat) (x : Ir) (ga : Option Addr) (gc : Nat) (w : World) (hold : Old w R KM DM P) (h : FrM w R F G C fr) (hr : RnM w R KM DM deep st v) (ha : Apart F G C v) (hx : IrOk c i x)
    (hregs : (fr.regs.length : Int) = c.regs) (hcells : (fr.cells.length : Int) = c.cells) (hargs : kInt.row w (fun b => b < R) ga x.args) (hxn : x.n < 4294967296) (hnm : x.name.length ≤ 1000000000) (hag : x.args.length ≤ 1000000) (hdeep : deep ≤ 32) (hle : st.wrong = 0 → st.left < g) (hbr : st.br.length + 1 + st.left ≤ 60000) (n : Nat) (hn : x.kind = n) (h1n : 1 ≤ n) (hn10 : n ≤ 10) :
    Calls Try.prog (deedF n) #[.pointer (some ⟨F, 0, none⟩), irV x ga gc] w fun e w' => e = .returned (.tuple #[]) ∧ ∃ v', Did w w' R KM DM F G C deep v v' (doIr P (runF P g) deep x fr st).1 (doIr P (runF P g) deep x fr st).2 := by
  have hD : writesB x = true → ∃ d : Nat, x.d = d ∧ d < fr.regs.length := fun hw => ⟨x.d.toNat, by have := hx.writes hw; omega, by have := hx.writes hw; omega⟩
  have hR : ∀ r ∈ readsL x, ∃ a : Nat, r = a ∧ a < fr.regs.length := fun r hr => ⟨r.toNat, by have := hx.reads r hr; omega, by have := hx.reads r hr; omega⟩
  have hrb : ∀ {a : Nat} (ha : a < fr.regs.length), fr.regs[a] < 4294967296 := fun ha => h.regs _ (List.getElem_mem ha)
  have : n = 1 ∨ n = 2 ∨ n = 3 ∨ n = 4 ∨ n = 5 ∨ n = 6 ∨ n = 7 ∨ n = 8 ∨ n = 9 ∨ n = 10 := by omega
  rcases this with rfl | rfl | rfl | rfl | rfl | rfl | rfl | rfl | rfl | rfl
  · obtain ⟨d, hd, hdl⟩ := hD (by simp [writesB, hn])
    refine (number_any x ga gc w h d hd hdl).mono fun e w' hh => ⟨hh.1, v, ?_⟩
    rw [doIr_1 hn, hd, Int.toNat_natCast]
    exact Did.regs h hr ha hh.2 (by simp) (set_bd h.regs hxn)
  · obtain ⟨d, hd, hdl⟩ := hD (by simp [writesB, hn])
    obtain ⟨a, ea, hal⟩ := hR x.a (by simp [readsL, hn])
    refine (copied_any x ga gc w h d hd hdl a ea hal).mono fun e w' hh => ⟨hh.1, v, ?_⟩
    rw [doIr_2 hn, hd, Int.toNat_natCast, ea, at0_lt hal]
    exact Did.regs h hr ha hh.2 (by simp) (set_bd h.regs (hrb hal))
  · obtain ⟨d, hd, hdl⟩ := hD (by simp [writesB, hn])
    obtain ⟨a, ea, hal⟩ := hR x.a (by simp [readsL, hn])
    obtain ⟨b, eb, hbl⟩ := hR x.b (by simp [readsL, hn])
    have hz := opz_bd x.op fr.regs[a] fr.regs[b] (hrb hal) (hrb hbl)
    refine (reckon_any x ga gc w h d hd hdl a ea hal b eb hbl _ hz).mono fun e w' hh => ⟨hh.1, v, ?_⟩
    rw [doIr_3 hn, hd, Int.toNat_natCast, ea, at0_lt hal, eb, at0_lt hbl]
    exact Did.regs h hr ha hh.2 (by simp) (set_bd h.regs (opz_lt x.op _ _ (hrb hal) (hrb hbl)))
  · obtain ⟨d, hd, hdl⟩ := hD (by simp [writesB, hn])
    obtain ⟨a, ea, hal⟩ := hR x.a (by simp [readsL, hn])
    obtain ⟨b, eb, hbl⟩ := hR x.b (by simp [readsL, hn])
    obtain ⟨c', ec, hcl⟩ := hR x.c (by simp [readsL, hn])
    refine (pick_any x ga gc w h d hd hdl a ea hal b eb hbl c' ec hcl _ rfl).mono fun e w' hh => ⟨hh.1, v, ?_⟩
    rw [doIr_4 hn, hd, Int.toNat_natCast, ea, at0_lt hal, eb, at0_lt hbl, ec, at0_lt hcl]
    exact Did.regs h hr ha hh.2 (by simp) (set_bd h.regs (by split; exact hrb hcl; exact hrb hbl))
  · obtain ⟨d, hd, hdl⟩ := hD (by simp [writesB, hn])
    have hnl : x.n < fr.cells.length := by have := hx.addr (.inl hn); omega
    refine (load_any x ga gc w h d hd hdl hnl).mono fun e w' hh => ⟨hh.1, v, ?_⟩
    rw [doIr_5 hn, hd, Int.toNat_natCast, List.getD_eq_getElem?_getD, List.getElem?_eq_getElem hnl, Option.getD_some]
    exact Did.regs h hr ha hh.2 (by simp) (set_bd h.regs (h.cells _ (List.getElem_mem hnl)))
  · obtain ⟨a, ea, hal⟩ := hR x.a (by simp [readsL, hn])
    have hnl : x.n < fr.cells.length := by have := hx.addr (.inr hn); omega
    refine (store_any x ga gc w h a ea hal hnl).mono fun e w' hh => ⟨hh.1, v, ?_⟩
    rw [doIr_6 hn, ea, at0_lt hal]
    exact Did.cells h hr ha hh.2 (by simp) (set_bd h.cells (hrb hal))
  · obtain ⟨d, hd, hdl⟩ := hD (by simp [writesB, hn])
    have hin : ∀ i ∈ x.args, 0 ≤ i ∧ i < fr.regs.length := fun i hi => by
      have := hx.reads i (by simp [readsL, hn]; exact hi)
      omega
    rw [doIr_7 hn]
    cases hl : look P x.name with
    | none => rw [callR_none hl]; exact call_none hgood x ga gc w hold h hr ha hnm d hd hl
    | some c' =>
      have hc' : c' ∈ P := List.mem_of_find?_eq_some hl
      rw [callR_some hl]
      by_cases a1 : c'.ps.length = x.args.length
      · by_cases a2 : 0 < cellsN c'.ps
        · rw [if_pos (.inr a2)]; exact call_type2 hgood x ga gc w hold h hr ha hnm d hd c' hc' hl a1 a2
        · rw [if_neg (fun e => e.elim (fun e => e a1) a2)]
          by_cases a3 : deep = 32
          · rw [if_pos a3]; exact call_deep hgood x ga gc w hold h hr ha hnm d hd c' hc' hl a1 a2 a3
          · rw [if_neg a3, hd, Int.toNat_natCast]
            exact call_run hgood x ga gc w hold h hr ha hnm d hd c' hc' hl a1 a2 (by omega) hfin hle hdl hargs hin hag
      · rw [if_pos (.inl a1)]; exact call_type1 hgood x ga gc w hold h hr ha hnm d hd c' hc' hl a1
  · obtain ⟨q, hq⟩ : ∃ q : Nat, x.c = q := ⟨x.c.toNat, by have := hx.jump (.inl hn); omega⟩
    refine (jump_any x ga gc w h q hq).mono fun e w' hh => ⟨hh.1, v, ?_⟩
    rw [doIr_8 hn, hq, Int.toNat_natCast]
    exact Did.frame h hr ha hh.2 rfl rfl h.res
  · obtain ⟨q, hq⟩ : ∃ q : Nat, x.c = q := ⟨x.c.toNat, by have := hx.jump (.inr hn); omega⟩
    obtain ⟨a, ea, hal⟩ := hR x.a (by simp [readsL, hn])
    rw [doIr_9 hn, ea, at0_lt hal, hq, Int.toNat_natCast]
    by_cases hz : fr.regs[a] = 0
    · rw [if_pos hz]; exact branch_zero x ga gc w h hr ha hbr a ea hal q hq hz
    · rw [if_neg hz]; exact branch_one x ga gc w h hr ha hbr a ea hal q hq hz
  · obtain ⟨a, ea, hal⟩ := hR x.a (by simp [readsL, hn])
    refine (end_any x ga gc w h a ea hal).mono fun e w' hh => ⟨hh.1, v, ?_⟩
    rw [doIr_10 (fun n a b e => by omega), ea, at0_lt hal]
    exact Did.frame h hr ha hh.2 rfl rfl (hrb hal)
end Go.Proofs.Ytndmkfmpdnoliaa
/- CONTRACTS of step and finish, for all that may be left. -/
namespace Go.Proofs.Ytndmkfmpdnoliaa
open Go.ChangeShapes Go.WideShapes Go.ChangeAt Go.RowKit

theorem step_ok {P : List Co} {g : Nat} (hfin : FinOk P g) (hgood : Good P) {R KM DM F G C deep : Nat} {fr : Fr} {st : St} {v : Value} (c : Co) (x : Ir) (ga : Option Addr) (gc : Nat) (w : World) (hold : Old w R KM DM P) (h : FrM w R F G C fr) (hr : RnM w R KM DM deep st v) (ha : Apart F G C v) (hfits : Fits c fr) (hx : IrOk c fr.next x)
    (hargs : kInt.row w (fun b => b < R) ga x.args) (hxn : x.n < 4294967296) (hnm : x.name.length ≤ 1000000000) (hag : x.args.length ≤ 1000000) (hdeep : deep ≤ 32) (hle : st.left ≤ g) (hnx : fr.next ≤ 1000000) :
    Calls Try.prog 52 #[.pointer (some ⟨F, 0, none⟩), irV x ga gc] w fun e w' => e = .returned (.tuple #[]) ∧ ∃ v', Did w w' R KM DM F G C deep v v' (stepR P (runF P g) deep x fr st).1 (stepR P (runF P g) deep x fr st).2 := by
  by_cases hz : st.left = 0
  · have e : stepR P (runF P g) deep x fr st = (fr, { st with wrong := 19 }) := by unfold stepR; rw [if_pos hz]
    rw [e]
    exact step_zero x ga gc w h hr ha hz
  · have e : stepR P (runF P g) deep x fr st = doIr P (runF P g) deep x { fr with next := fr.next + 1 } { st with left := st.left - 1 } := by unfold stepR; rw [if_neg hz]
    rw [e]
    obtain ⟨n, hn, h1n, hn10⟩ := known_kind hx.known
    refine step_more x ga gc w hold h hr ha hz n hn h1n hn10 hnx fun w5 ho5 hf5 hr5 hs5 hk5 => ?_
    have hb := hr.br
    refine deed_any hfin hgood c fr.next x ga gc w5 ho5 hf5 hr5 ha hx hfits.regs hfits.cells (kInt.row_mono (by decide) hargs fun b hb hlt => ⟨hb, hk5 b hlt (by omega) (by have := h.rf; omega)⟩) hxn hnm hag hdeep (fun _ => ?_) ?_ n hn h1n hn10
    · show st.left - 1 < g
      omega
    · show st.br.length + 1 + (st.left - 1) ≤ 60000
      omega
/-- How much there is left, off the memory. -/
def leftM (R : Nat) (w : World) : Nat :=
  match w.cell? ⟨R, 2, none⟩, w.cell? ⟨R, 5, none⟩ with
  | some (.int _ a), some (.int _ b) => 2 * (60000 - a).toNat + (if b = 0 then 1 else 0)
  | _, _ => 0
theorem leftM_of {w : World} {R KM DM deep : Nat} {st : St} {v : Value} (h : RnM w R KM DM deep st v) : leftM R w = 2 * st.left + (if st.wrong = 0 then 1 else 0) := by
  obtain ⟨r0, r1, r2, r3, r4, r5⟩ := h.cells6
  unfold leftM
  rw [r2, r5]
  have : (60000 - (60000 - (st.left : Int))).toNat = st.left := by omega
  simp only [this]
/-- How far finish has come. -/
structure FinAt (P : List Co) (w : World) (R KM DM F G C deep : Nat) (v : Value) (c : Co) (f : Nat) (fr : Fr) (st : St) (g : Nat) (fr' : Fr) (st' : St) (v' : Value) (wr : World) : Prop where
  same : runF P f deep c fr st = runF P g deep c fr' st'
  le : g ≤ f
  left : fr'.ended = false → st'.wrong = 0 → st'.left < g
  did : Did w wr R KM DM F G C deep v v' fr' st'
  fits : Fits c fr'
theorem did_refl {w : World} {R KM DM F G C deep : Nat} {v : Value} {fr : Fr} {st : St} (h : FrM w R F G C fr) (hr : RnM w R KM DM deep st v) (ha : Apart F G C v) : Did w w R KM DM F G C deep v v fr st := ⟨hr, h, Kept.refl _ _, fun _ e => .inl e, ha⟩

set_option maxRecDepth 100000 in
set_option maxHeartbeats 4000000 in
theorem fin_all {P : List Co} (hgood : Good P) : ∀ f, FinOk P f := by
  intro f
  induction f using Nat.strongRecOn with
  | ind f ih =>
  intro w R KM DM F G C deep fr st v c la lc hold h hr ha hc hfits hrow hdeep hle
  have h0 : FinAt P w R KM DM F G C deep v c f fr st f fr st v w := ⟨rfl, Nat.le_refl _, hle, did_refl h hr ha, hfits⟩
  have hRw := lt_of_some hr.r
  have habove := hr.above
  obtain ⟨z1, z2, z3, z4, z5, z6, z7, z8, z9⟩ := formB_parts (right_form (hgood.right c hc))
  have HOLD : Hid _ := hold
  have HROW : Hid _ := hrow
  have HRW : Hid _ := hRw
  have HAB : Hid _ := habove
  have HZ4 : Hid _ := z4
  clear h hr ha hfits hle hold hrow hRw habove z1 z2 z3 z4 z5 z6 z7 z8 z9
  generalize hres : runF P f deep c fr st = res
  have HRES : Hid _ := hres
  clear hres
  obtain ⟨frE, stE⟩ := res
  simp only
  go_enter Try.func27, Try.ntmps27
  go_wp2
  go_loopw [4] (fun _ wr => ∃ g fr' st' v', FinAt P w R KM DM F G C deep v c f fr st g fr' st' v' wr) (fun _ wr => leftM R wr)
  case atStart => exact ⟨f, fr, st, v, h0⟩
  case round =>
    obtain ⟨g, fr', st', v', hA⟩ := hrel
    have HA : Hid _ := hA
    obtain ⟨f0, f1, f2, f3, f4, f5⟩ := hA.did.fr.cells6
    obtain ⟨r0, r1, r2, r3, r4, r5⟩ := hA.did.rn.cells6
    clear hA h0 f1 f2 f5 r0 r1 r2 r3 r4
    rcases hen : fr'.ended with _ | _
    · rw [hen] at f4
      by_cases hw : st'.wrong = 0
      · rw [hw] at r5
        have hnx := HA.out.fits.next hen
        have hlg := HA.out.left hen hw
        obtain ⟨g', rfl⟩ : ∃ g', g = g' + 1 := ⟨g - 1, by omega⟩
        have hold' := HOLD.out.did HRW.out HA.out.did HAB.out
        have hrow' : kIr.row wr (fun b => b < R) la c.l := kIr.row_mono (by decide) HROW.out fun b hb hlt => ⟨hb, by
          have a1 := HA.out.did.fr.rf
          have a2 := HA.out.did.fr.rg
          have a3 := HA.out.did.fr.rc
          refine HA.out.did.kept.block b hlt ?_
          rintro (e | e | e | e | e)
          · omega
          · omega
          · omega
          · omega
          · have := HAB.out b e; omega⟩
        obtain ⟨b, o, ga, gc, rfl, hSb, hb, hia, hgc, hxn, hargs⟩ := ir_at hrow' fr'.next hnx
        have hixo := irOk_of (right_ir (hgood.right c hc) fr'.next hnx)
        obtain ⟨hk1, hk2⟩ := (hgood.ok c hc).ins _ (List.getElem_mem hnx)
        have hstep := step_ok (ih g' (by have := HA.out.le; omega)) hgood c c.l[fr'.next] ga gc wr hold' HA.out.did.fr HA.out.did.rn HA.out.did.apart HA.out.fits hixo hargs hxn hk1 hk2 hdeep (by omega) (by have := HZ4.out; omega)
        have hget : c.l.getD fr'.next noIr = c.l[fr'.next] := by rw [List.getD_eq_getElem?_getD, List.getElem?_eq_getElem hnx, Option.getD_some]
        have hsame : runF P f deep c fr st = runF P g' deep c (stepR P (runF P g') deep c.l[fr'.next] fr' st').1 (stepR P (runF P g') deep c.l[fr'.next] fr' st').2 := by
          rw [HA.out.same, runF_succ, if_neg (by rw [hen, hw]; simp), hget]
        have hfits' : st'.left ≠ 0 → Fits c (stepR P (runF P g') deep c.l[fr'.next] fr' st').1 := fun hz => step_fits HA.out.fits hen hixo hz
        have hz0 : st'.left = 0 → (stepR P (runF P g') deep c.l[fr'.next] fr' st').1 = fr' ∧ (stepR P (runF P g') deep c.l[fr'.next] fr' st').2.wrong = 19 ∧ (stepR P (runF P g') deep c.l[fr'.next] fr' st').2.left = 0 := fun hz => by unfold stepR; rw [if_pos hz]; exact ⟨rfl, rfl, hz⟩
        have hlt0 : st'.left ≠ 0 → (stepR P (runF P g') deep c.l[fr'.next] fr' st').2.left < st'.left := fun hz => step_left P g' deep c.l[fr'.next] fr' st' hz
        generalize stepR P (runF P g') deep c.l[fr'.next] fr' st' = sr at hstep hsame hfits' hz0 hlt0
        obtain ⟨fr2, st2⟩ := sr
        simp only at hstep hsame hfits' hz0 hlt0
        have HSA : Hid _ := hsame
        have HFI : Hid (Fits c fr2) := by
          by_cases hz : st'.left = 0
          · have := (hz0 hz).1; rw [this]; exact HA.out.fits
          · exact hfits' hz
        have HLE : Hid (fr2.ended = false → st2.wrong = 0 → st2.left < g') := fun _ h2 => by
          by_cases hz : st'.left = 0
          · have := (hz0 hz).2.1; omega
          · have := hlt0 hz; omega
        have HME : Hid (2 * st2.left + (if st2.wrong = 0 then 1 else 0) < 2 * st'.left + 1) := by
          show _ < _
          by_cases hz : st'.left = 0
          · obtain ⟨_, q1, q2⟩ := hz0 hz; rw [q1, q2]; simp
          · have := hlt0 hz; split <;> omega
        have HWR : Hid (leftM R wr = 2 * st'.left + 1) := by show _ = _; rw [leftM_of HA.out.did.rn, if_pos hw]
        obtain ⟨e0, e1, e2, e3, e4, e5, e6, e7, e8⟩ := hia
        have i0 : (0 : Int) ≤ (fr'.next : Int) := by omega
        have i1 : (fr'.next : Int) < (c.l.length : Int) := by omega
        unfold irV at hstep
        clear hsame hfits' hz0 hlt0 hold' hrow' hixo hargs hgc hget hk1 hk2 hxn hlg
        generalize c.l[fr'.next] = x at hstep e0 e1 e2 e3 e4 e5 e6 e7 e8
        go_wp2_with (first | (go_at_call 52; refine hstep.mono ?_; rintro e w6 ⟨rfl, v6, hd6⟩; refine Hid.out ?_))
        refine Lib.hid ?_
        have HD6 : Hid _ := hd6
        clear hd6 hstep e0 e1 e2 e3 e4 e5 e6 e7 e8 f0 f3 f4 r5
        go_wp2_with fail
        go_roundw
        case rel => exact ⟨g', fr2, st2, v6, HSA.out, by have := HA.out.le; omega, HLE.out, HA.out.did.trans HD6.out, HFI.out⟩
        case measure => rw [leftM_of HD6.out.rn, HWR.out]; exact HME.out
      · have hw' : (st'.wrong == 0) = false := by simpa using hw
        have hE := (HRES.out.symm.trans HA.out.same).trans (runF_stop P g deep c fr' st' (.inr hw))
        obtain ⟨rfl, rfl⟩ : frE = fr' ∧ stE = st' := ⟨congrArg Prod.fst hE, congrArg Prod.snd hE⟩
        have HD : Hid _ := HA.out.did
        clear HA HRES hE
        go_wp2_with fail
        go_end0
        exact ⟨rfl, v', HD.out⟩
    · rw [hen] at f4
      have hE := (HRES.out.symm.trans HA.out.same).trans (runF_stop P g deep c fr' st' (.inl hen))
      obtain ⟨rfl, rfl⟩ : frE = fr' ∧ stE = st' := ⟨congrArg Prod.fst hE, congrArg Prod.snd hE⟩
      have HD : Hid _ := HA.out.did
      clear HA HRES hE hen
      go_wp2_with fail
      go_end0
      exact ⟨rfl, v', HD.out⟩
end Go.Proofs.Ytndmkfmpdnoliaa
/- CONTRACT of functions. -/
namespace Go.Proofs.Ytndmkfmpdnoliaa
open Go.ChangeShapes Go.WideShapes Go.ChangeAt Go.RowKit Go.Maps
open Go.ChangeMaps (setBlock)

/-- The entries of the first functions of a list. -/
structure Ent (w : World) (S : Nat → Prop) (es : Array MapEntry) (l : List Co) : Prop where
  len : es.toList.length = l.length
  at_ : ∀ (k : Nat) (c : Co), l[k]? = some c → ∃ pa pc la lc n, es.toList[k]? = some (MapEntry.mk (.string (bs c.name)) (coV c pa pc la lc) n) ∧ CoIn w S c pa pc la lc
theorem Ent.mem {w : World} {S : Nat → Prop} {es : Array MapEntry} {l : List Co} (h : Ent w S es l) : ∀ x ∈ es.toList, ∃ c ∈ l, x.key = .string (bs c.name) := fun x hx => by
  obtain ⟨k, hk, rfl⟩ := List.getElem_of_mem hx
  have hl := h.len
  obtain ⟨pa, pc, la, lc, n, e1, _⟩ := h.at_ k (l[k]'(by omega)) (List.getElem?_eq_getElem (by omega))
  rw [List.getElem?_eq_getElem hk] at e1
  exact ⟨l[k]'(by omega), List.getElem_mem _, by rw [Option.some.inj e1]⟩
theorem Ent.snoc {w : World} {S : Nat → Prop} {es : Array MapEntry} {l : List Co} (h : Ent w S es l) {c : Co} {pa la : Option Addr} {pc lc n : Nat} (hc : CoIn w S c pa pc la lc) : Ent w S (es.push ⟨.string (bs c.name), coV c pa pc la lc, n⟩) (l ++ [c]) := by
  have hl := h.len
  refine ⟨by simp at hl ⊢; omega, fun k c' hk => ?_⟩
  rw [Array.toList_push]
  rcases Nat.lt_or_ge k l.length with h1 | h1
  · rw [List.getElem?_append_left h1] at hk
    obtain ⟨pa', pc', la', lc', n', e1, e2⟩ := h.at_ k c' hk
    exact ⟨pa', pc', la', lc', n', by rw [List.getElem?_append_left (by omega)]; exact e1, e2⟩
  · rw [List.getElem?_append_right h1] at hk
    have hk0 : k - l.length = 0 := by
      rcases Nat.eq_zero_or_pos (k - l.length) with h2 | h2
      · exact h2
      · rw [List.getElem?_eq_none (by simp; omega)] at hk; cases hk
    rw [hk0] at hk
    obtain rfl : c = c' := by simpa using hk
    refine ⟨pa, pc, la, lc, n, ?_, hc⟩
    rw [List.getElem?_append_right (by omega), show k - es.toList.length = 0 by omega]
    rfl
theorem look_ent {w W : World} {S : Nat → Prop} {es : Array MapEntry} {clock KM : Nat} {l : List Co} (h : Ent w S es l) (hb : W.heap[KM]? = some (.map es clock)) (hks : ∀ x ∈ es.toList, ∃ z, keyOf Try.prog 9 x.key = some z) {nm : List UInt8} {kl : Lit} (hkl : keyOf Try.prog 9 (.string (bs nm)) = some kl) :
    (nm ∉ l.map Co.name ∧ (Instr.lookup 52 (.map (some KM)) (.string (bs nm)) true).run Try.prog W = .ok (.tuple #[zeroV, .bool false]) W) ∨
    (nm ∈ l.map Co.name ∧ ∃ c' pa pc la lc, (∃ j : Nat, l[j]? = some c') ∧ c'.name = nm ∧ CoIn w S c' pa pc la lc ∧ (Instr.lookup 52 (.map (some KM)) (.string (bs nm)) true).run Try.prog W = .ok (.tuple #[coV c' pa pc la lc, .bool true]) W) := by
  rcases kStr_law.find W hkl es.toList hks with ⟨h1, h2⟩ | ⟨j, e0, h1, h2, h3⟩
  · left
    refine ⟨fun hn => ?_, look_none true kStr_law Try.underlying52 (zero_co W) hb hks hkl h2⟩
    obtain ⟨c, hc, rfl⟩ := List.mem_map.1 hn
    obtain ⟨k, hk, hkc⟩ := List.getElem_of_mem hc
    obtain ⟨pa, pc, la, lc, n, e1, _⟩ := h.at_ k c (by rw [List.getElem?_eq_getElem hk, hkc])
    exact h2 _ (List.mem_of_getElem? e1) rfl
  · right
    have hj : j < es.toList.length := by
      rcases Nat.lt_or_ge j es.toList.length with h | h
      · exact h
      · rw [List.getElem?_eq_none h] at h2; cases h2
    have hl := h.len
    obtain ⟨pa, pc, la, lc, n, f1, f2⟩ := h.at_ j (l[j]'(by omega)) (List.getElem?_eq_getElem (by omega))
    rw [h2] at f1
    have f1 := Option.some.inj f1
    subst f1
    have hnm : (l[j]'(by omega)).name = nm := bs_inj (by injection h3)
    refine ⟨by rw [← hnm]; exact List.mem_map_of_mem (List.getElem_mem _), l[j]'(by omega), pa, pc, la, lc, ⟨j, List.getElem?_eq_getElem (by omega)⟩, hnm, f2, ?_⟩
    simp [Instr.lookup, run_underlying Try.underlying52, MapKept.run_getObj_map hb, kStr_law.check W _ hkl, h1, Result.andThen]
theorem below_setBlock {w W : World} {KM : Nat} (hb : Below w.heap.size w W) (hK : w.heap.size ≤ KM) {es : Array MapEntry} {clock : Nat} (hm : W.heap[KM]? = some (.map es clock)) (o : Obj) : Below w.heap.size w (setBlock W KM o) :=
  ⟨hb.os, hb.tape, hb.output, by simpa [setBlock] using hb.size, fun k hk => (Go.ChangeMaps.heap_setBlock_other hm o (by omega)).trans (hb.block k hk)⟩
def rightsB (l : List Co) : Bool := l.all fun c => decide ((rightR c).1 = 0)
theorem rights_drop (l : List Co) (k : Nat) (hk : k < l.length) : rightsB (l.drop k) = (decide ((rightR l[k]).1 = 0) && rightsB (l.drop (k + 1))) := by
  unfold rightsB
  rw [List.drop_eq_getElem_cons hk, List.all_cons]
theorem names_take (l : List Co) (k : Nat) (hk : k < l.length) : (l.take (k + 1)).map Co.name = (l.take k).map Co.name ++ [l[k].name] := by
  rw [List.take_add_one, List.getElem?_eq_getElem hk, List.map_append]; simp
theorem nodup_snoc {ns : List (List UInt8)} {n : List UInt8} : (ns ++ [n]).Nodup ↔ ns.Nodup ∧ n ∉ ns := by
  rw [List.nodup_append]
  constructor
  · rintro ⟨h1, _, h3⟩
    exact ⟨h1, fun h => h3 n h n (by simp) rfl⟩
  · rintro ⟨h1, h2⟩
    exact ⟨h1, by simp, fun a ha b hb e => h2 (by simp at hb; rw [← hb, ← e]; exact ha)⟩
theorem nodup_take {l : List Co} (h : (l.map Co.name).Nodup) (k : Nat) : ((l.take k).map Co.name).Nodup := by
  rw [List.map_take]; exact h.sublist (List.take_sublist _ _)
/-- What functions tells. -/
def FnPost (w : World) (S : Nat → Prop) (l : List Co) (e : Ending) (w' : World) : Prop :=
  (rightsB l = false ∧ e = .returned (.tuple #[.map none, .int .i64 6])) ∨
  (rightsB l = true ∧ ¬ (l.map Co.name).Nodup ∧ e = .returned (.tuple #[.map none, .int .i64 9])) ∨
  (rightsB l = true ∧ (l.map Co.name).Nodup ∧ ∃ KM es clock, e = .returned (.tuple #[.map (some KM), .int .i64 0]) ∧ w.heap.size ≤ KM ∧ w'.heap[KM]? = some (.map es clock) ∧ Ent w S es l)

set_option maxRecDepth 100000 in
set_option maxHeartbeats 4000000 in
theorem functions_any {B : Nat} {S : Nat → Prop} (a : Option Addr) (l : List Co) (cp : Nat) (w : World) (h : kCo.row w S a l) (hok : ∀ c ∈ l, CoOk c) (hl : l.length ≤ 1000000) (hg : Glob B w) :
    Calls Try.prog 23 #[.slice a l.length cp] w fun e w' => FnPost w S l e w' ∧ Below w.heap.size w w' := by
  go_enter Try.func23, Try.ntmps23
  go_wp2
  go_loopw [15] (fun i wr => ∃ k : Nat, k ≤ l.length ∧ i = .int .i64 k ∧ rightsB l = rightsB (l.drop k) ∧ Below w.heap.size w wr) (fun i _ => l.length - (intOf i).toNat)
  case atStart => exact ⟨0, Nat.zero_le _, rfl, rfl, Below.refl _ _⟩
  case round =>
    obtain ⟨k, hk, rfl, hq, hbl⟩ := hrel
    have HQ : Hid _ := hq
    have HB : Hid (Below w.heap.size w wr) := hbl
    clear hq
    by_cases hlt : k < l.length
    · obtain ⟨b, o, pa, pc, la, lc, rfl, hSb, hb, hat, hin⟩ := co_at h k hlt
      have hat' := hat.keep (hbl.block b hb)
      have HD : Hid _ := rights_drop l k hlt
      have hri := right_any l[k] pa pc la lc (wr.alloc (coO l[k] pa pc la lc)) (S := S) (hin.mono fun b' hb' hlt' => ⟨hb', (bl_alloc hbl _).block b' hlt'⟩) (hok _ (List.getElem_mem hlt)) ((hg.below hbl).alloc _)
      generalize hc : l[k] = c at hat' HD hri
      obtain ⟨e0, e1, e2, e3, e4⟩ := hat'
      unfold coV at hri
      clear hat hin hbl hc
      by_cases h0 : (rightR c).1 = 0
      · rw [h0] at hri
        have HD2 : Hid (rightsB (l.drop k) = rightsB (l.drop (k + 1))) := by show _ = _; rw [HD.out, h0]; simp
        go_wp2_with (first | (go_at_call 22; refine hri.mono ?_; rintro e w3 ⟨rfl, hb3⟩))
        go_roundw
        case rel => exact ⟨k + 1, by omega, by go_num, by rw [HQ.out, HD2.out], bl_then (bl_alloc HB.out _) hb3⟩
        case measure => simp [intOf]; omega
      · have h0' : ((rightR c).1 == 0) = false := by simpa using h0
        have HD2 : Hid (rightsB (l.drop k) = false) := by show _ = _; rw [HD.out]; simp [h0]
        go_wp2_with (first | (go_at_call 22; refine hri.mono ?_; rintro e w3 ⟨rfl, hb3⟩))
        go_ret2
        exact ⟨.inl ⟨by rw [HQ.out, HD2.out], rfl⟩, bl_then (bl_alloc HB.out _) hb3⟩
    · have HRT : Hid (rightsB l = true) := by show _ = _; rw [HQ.out, List.drop_of_length_le (by omega)]; rfl
      have hmk := run_makeMap (P := Try.prog) 52 wr
      have hent0 : Ent w S #[] (l.take 0) := ⟨rfl, fun k c h => by simp at h⟩
      have hm0 := heap_alloc_new wr (.map #[] 0)
      clear HQ
      go_wp2_with fail
      have hsz := hbl.size
      have HB0 : Hid (Below w.heap.size w (wr.alloc (.map #[] 0))) := bl_alloc hbl _
      clear hbl hmk
      generalize hKM : wr.heap.size = KM at hm0 hsz ⊢
      generalize wr.alloc (.map #[] 0) = wm at hm0 HB0 ⊢
      clear hKM
      go_loopw [30] (fun i wr => ∃ (k : Nat) (es : Array MapEntry) (clock : Nat), k ≤ l.length ∧ i = .int .i64 k ∧ wr.heap[KM]? = some (.map es clock) ∧ Ent w S es (l.take k) ∧ ((l.take k).map Co.name).Nodup ∧ Below w.heap.size w wr) (fun i _ => l.length - (intOf i).toNat)
      case atStart => exact ⟨0, #[], 0, Nat.zero_le _, rfl, hm0, hent0, by simp, HB0.out⟩
      case round =>
        obtain ⟨k2, es, clock, hk2, rfl, hm, hent, hnd, hbl⟩ := hrel
        have HM : Hid _ := hm
        have HE : Hid _ := hent
        have HN : Hid _ := hnd
        have HB2 : Hid _ := hbl
        clear hm hent hnd
        by_cases hlt2 : k2 < l.length
        · obtain ⟨b, o, pa, pc, la, lc, rfl, hSb, hb, hat, hin⟩ := co_at h k2 hlt2
          have hat' := hat.keep (hbl.block b hb)
          have HIN : Hid _ := hin
          have hnl := (hok _ (List.getElem_mem hlt2)).name
          obtain ⟨kl, hkl⟩ := key_bs l[k2].name hnl
          have HNT : Hid _ := names_take l k2 hlt2
          have HTK : Hid (l.take (k2 + 1) = l.take k2 ++ [l[k2]]) := by show _ = _; rw [List.take_add_one, List.getElem?_eq_getElem hlt2]; rfl
          have hks : ∀ x ∈ es.toList, ∃ z, keyOf Try.prog 9 x.key = some z := fun x hx => by
            obtain ⟨c, hc, e⟩ := HE.out.mem x hx
            rw [e]; exact key_bs c.name (hok c (List.mem_of_mem_take hc)).name
          have HKS : Hid _ := hks
          have HKL : Hid _ := hkl
          clear hat hin hbl hks hkl
          generalize hc : l[k2] = c at hat' HIN HNT HTK HKL hnl
          obtain ⟨e0, e1, e2, e3, e4⟩ := hat'
          have hKM1 : (wr.alloc (coO c pa pc la lc)).heap[KM]? = some (.map es clock) := by rw [heap_alloc_old _ _ (lt_of_some HM.out)]; exact HM.out
          have hbx := heap_alloc_new wr (coO c pa pc la lc)
          have HBX : Hid _ := hbx
          have HK1 : Hid _ := hKM1
          rcases look_ent HE.out hKM1 HKS.out HKL.out with ⟨hno, hlk⟩ | ⟨hyes, c', pa', pc', la', lc', hj9, hn9, hi9, hlk⟩
          · have hKM2 : ((wr.alloc (coO c pa pc la lc)).alloc (.cells #[.string ⟨#[]⟩, .slice none 0 0, .int .i64 0, .int .i64 0, .slice none 0 0] 39)).heap[KM]? = some (.map es clock) := by rw [heap_alloc_old _ _ (lt_of_some hKM1)]; exact hKM1
            have hput := put_new kStr_law Try.underlying52 hKM2 HKS.out HKL.out (fun x hx e => by
              obtain ⟨c9, hc9, e9⟩ := HE.out.mem x hx
              rw [e9] at e
              exact hno (List.mem_map.2 ⟨c9, hc9, bs_inj (by injection e)⟩)) (coV c pa pc la lc)
            have hB3 := below_setBlock (bl_alloc (bl_alloc HB2.out (coO c pa pc la lc)) (.cells #[.string ⟨#[]⟩, .slice none 0 0, .int .i64 0, .int .i64 0, .slice none 0 0] 39)) hsz hKM2 (.map (es.push ⟨.string (bs c.name), coV c pa pc la lc, clock⟩) (clock + 1))
            have hM3 := Go.ChangeMaps.heap_setBlock_same hKM2 (.map (es.push ⟨.string (bs c.name), coV c pa pc la lc, clock⟩) (clock + 1))
            have HB3 : Hid _ := hB3
            have HM3 : Hid _ := hM3
            have HNO : Hid _ := hno
            have hbx2 : ((wr.alloc (coO c pa pc la lc)).alloc (.cells #[.string ⟨#[]⟩, .slice none 0 0, .int .i64 0, .int .i64 0, .slice none 0 0] 39)).heap[wr.heap.size]? = some (coO c pa pc la lc) := by rw [heap_alloc_old _ _ (by simp)]; exact hbx
            obtain ⟨y0, y1, y2, y3, y4⟩ := co_block hbx2
            have HENT : Hid (Ent w S (es.push ⟨.string (bs c.name), coV c pa pc la lc, clock⟩) (l.take (k2 + 1))) := by show Ent _ _ _ _; rw [HTK.out]; exact HE.out.snoc HIN.out
            have HND : Hid (((l.take (k2 + 1)).map Co.name).Nodup) := by show List.Nodup _; rw [HNT.out, nodup_snoc]; exact ⟨HN.out, hno⟩
            unfold coV at hput
            generalize hsb : setBlock ((wr.alloc (coO c pa pc la lc)).alloc (.cells #[.string ⟨#[]⟩, .slice none 0 0, .int .i64 0, .int .i64 0, .slice none 0 0] 39)) KM (.map (es.push ⟨.string (bs c.name), coV c pa pc la lc, clock⟩) (clock + 1)) = w9 at HB3 HM3
            have hput2 : (Instr.mapUpdate 52 (.map (some KM)) (.string (bs c.name)) (.agg #[.string (bs c.name), .slice pa c.ps.length pc, .int .i64 c.regs, .int .i64 c.cells, .slice la c.l.length lc])).run Try.prog ((wr.alloc (coO c pa pc la lc)).alloc (.cells #[.string ⟨#[]⟩, .slice none 0 0, .int .i64 0, .int .i64 0, .slice none 0 0] 39)) = .ok () w9 := by rw [← hsb]; exact hput
            clear hput hB3 hM3 hno hKM1 hKM2 hbx hbx2 hsb hc
            go_wp2_with fail
            go_roundw
            case rel => exact ⟨k2 + 1, _, _, by omega, by go_num, HM3.out, HENT.out, HND.out, HB3.out⟩
            case measure => simp [intOf]; omega
          · have HD : Hid (¬ (l.map Co.name).Nodup) := fun hh => by
              have := nodup_take hh (k2 + 1)
              rw [HNT.out, nodup_snoc] at this
              exact this.2 hyes
            unfold coV at hlk
            have HB3 : Hid _ := bl_alloc (bl_alloc HB2.out (coO c pa pc la lc)) (coO c' pa' pc' la' lc')
            clear hyes hKM1 hbx hc hj9 hn9 hi9
            go_wp2_with fail
            go_ret2
            exact ⟨.inr (.inl ⟨HRT.out, HD.out, rfl⟩), HB3.out⟩
        · have hke : l.take k2 = l := List.take_of_length_le (by omega)
          have hE := HE.out
          have hN := HN.out
          rw [hke] at hE hN
          have HE2 : Hid _ := hE
          have HN2 : Hid _ := hN
          clear hE hN hke hbl
          go_wp2_with fail
          go_ret2
          exact ⟨.inr (.inr ⟨HRT.out, HN2.out, KM, es, clock, rfl, hsz, HM.out, HE2.out⟩), HB2.out⟩
end Go.Proofs.Ytndmkfmpdnoliaa
/- CONTRACT of slices.Clone at words; whole outcomes as results. -/
namespace Go.Proofs.Ytndmkfmpdnoliaa
open Go.ChangeShapes Go.WideShapes Go.ChangeAt Go.RowKit

theorem wd_lay_any {w w' : World} {S T : Nat → Prop} : ∀ {l : List Nat} {cs : List Value}, kWd.lay w S cs l → kWd.lay w' T cs l
  | [], _, h => h
  | x :: l, cs, h => by
    obtain ⟨ds, ys, rfl, hC, hr⟩ := h
    exact ⟨ds, ys, rfl, hC, wd_lay_any hr⟩
set_option maxRecDepth 100000 in
set_option maxHeartbeats 1000000 in
theorem clone_any {S : Nat → Prop} (w : World) (a : Addr) (l : List Nat) (c : Nat) (h : kWd.row w S (some a) l) (hl : l.length ≤ 1000000) :
    Calls Try.prog 28 #[.slice (some a) l.length c] w fun e w' => (∃ y c2, e = .returned (.slice y l.length c2) ∧ kWd.row w' (fun b => w.heap.size ≤ b) y l ∧ l.length ≤ c2) ∧ Below w.heap.size w w' := by
  have hr : kWd.row (w.alloc (.cells #[] 26)) S (some a) l := kWd.row_mono (by decide) h fun k hk hlt => ⟨hk, heap_alloc_old w _ hlt⟩
  obtain ⟨cs, hlay, hsrc⟩ := kWd.src (c := c) (tx := 23) Try.underlying23 hr
  have HL : Hid (kWd.lay (w.alloc (.cells #[] 26)) S cs l) := hlay
  clear hlay hr
  have hq := fun w => Lib.run_eql_slice_nil (P := Try.prog) w 23 _ (some a) l.length c 0 0 Try.underlying23
  have hof := own_fresh w w.heap.size 26 1 (Nat.le_refl _)
  go_enter Try.func28, Try.ntmps28
  go_wp2_with (first | (at_builtin; refine wpList_append_src wd_info rfl Try.underlying23 (by decide) _ rfl _ _ rfl w.heap.size (Value.slice (some ⟨w.heap.size, 0, none⟩) 0 0) 0 [] rfl hof _ l.length cs rfl hsrc (by omega) (by simp) ?_; intro y c2 w2 hown hgrow hat; refine Hid.out ?_) | go_in)
  refine Lib.hid ?_
  have hown' : w2.ownsRow w.heap.size 26 1 (.slice y l.length c2) l.length cs := by simpa using hown
  have hb2 : Below w.heap.size w w2 := by
    refine Kept.to_below ((Kept.alloc w _ (fun k => w.heap.size ≤ k)).trans ((Kept.of_grown hgrow).mono fun k _ hk => ?_)) fun k hk => hk
    have : w.heap.size = k := by simpa [Value.ownBlock] using hk
    omega
  have hrd := kWd.own_rd (t := 26) (S := fun b => w.heap.size ≤ b) (T := fun b => w.heap.size ≤ b) (l := l) (v := .slice y l.length c2) ⟨cs, hown', wd_lay_any HL.out⟩ (fun _ h => h) fun g hg => (World.ownsRow.lt hown' g hg).1
  obtain ⟨y', c', e, hrow, hc⟩ := hrd
  obtain ⟨rfl, rfl⟩ : y = y' ∧ c2 = c' := by injection e with e1 e2 e3; exact ⟨e1, e3⟩
  have HR : Hid _ := hrow
  clear hown hgrow hat hown' hrow e
  go_wp2
  go_ret
  exact ⟨⟨y, c2, by simp, HR.out, hc⟩, hb2⟩
/-- Three results, the first out of its block. -/
theorem results_row3 {fn : Func} {tmps : Array Value} {W : World} {b K U V : Nat} {ty : TypeId} {cs : Array Value} {u x : Value} (hr : fn.results = #[ResultVar.cell K ty, ResultVar.tmp U, ResultVar.tmp V]) (ht : tmps.getD K undef = .pointer (some ⟨b, 0, none⟩)) (hu : tmps.getD U undef = u) (hx : tmps.getD V undef = x)
    (hl : (loadVar ty ⟨b, 0, none⟩).run Try.prog W = .ok (.agg cs) W) : (results fn tmps).run Try.prog W = .ok (.tuple #[.agg cs, u, x]) W := by
  simp only [Array.getD_eq_getD_getElem?] at ht hu hx
  simp only [results, hr]
  simp [ht, hu, hx, asAddr, hl]
theorem size_out : (Try.prog.info? 28).map (·.size) = some 2 := by kernel_rfl
theorem load_out {W : World} {b : Nat} {cs : Array Value} {t : TypeId} {f : Nat × Nat} (h : W.heap[b]? = some (.cells cs t f)) (hs : cs.size = 2) : (loadVar 28 ⟨b, 0, none⟩).run Try.prog W = .ok (.agg cs) W :=
  run_loadVar_row W b t 28 cs f _ h Try.underlying28 rfl (by rw [hs]; exact size_out)
end Go.Proofs.Ytndmkfmpdnoliaa
/- CONTRACT of Run. -/
namespace Go.Proofs.Ytndmkfmpdnoliaa
open Go.ChangeShapes Go.WideShapes Go.ChangeAt Go.RowKit

/-- What a run tells. -/
def RunTells (w w' : World) (e : Ending) (r : Nat × List Nat × List Int × Int) : Prop :=
  ∃ ya yc ba bc, e = .returned (.tuple #[.agg #[.int .u32 (r.1 : Int), .slice ya r.2.1.length yc], .slice ba r.2.2.1.length bc, .int .i64 r.2.2.2]) ∧ kWd.row w' (fun b => w.heap.size ≤ b) ya r.2.1 ∧ r.2.1.length ≤ yc ∧ kInt.row w' (fun b => w.heap.size ≤ b) ba r.2.2.1 ∧ r.2.2.1.length ≤ bc ∧ Below w.heap.size w w'
theorem RunTells.err {w w' : World} {n : Int} (hb : Below w.heap.size w w') : RunTells w w' (.returned (.tuple #[.agg #[.int .u32 0, .slice none 0 0], .slice none 0 0, .int .i64 n])) (0, [], [], n) :=
  ⟨none, 0, none, 0, rfl, trivial, Nat.le_refl _, trivial, Nat.le_refl _, hb⟩
theorem set2 {w : World} {b : Nat} {x0 x1 y0 y1 : Value} {e : TypeId} {f : Nat × Nat} (h : w.heap[b]? = some (.cells #[x0, x1] e f)) : ((w.setCell ⟨b, 0, none⟩ y0).setCell ⟨b, 1, none⟩ y1).heap[b]? = some (.cells #[y0, y1] e f) := setCell_at (setCell_at h)
theorem cells2 {w : World} {b : Nat} {x0 x1 : Value} {t : TypeId} (h : w.heap[b]? = some (.cells #[x0, x1] t)) : w.cell? ⟨b, 0, none⟩ = some x0 ∧ w.cell? ⟨b, 1, none⟩ = some x1 ∧ w.frozen? ⟨b, 0, none⟩ = false ∧ w.frozen? ⟨b, 1, none⟩ = false := by
  refine ⟨?_, ?_, ?_, ?_⟩ <;> simp [World.cell?, World.frozen?, h]
/-- The outcome's block. -/
abbrev outO : Obj := .cells #[.int .u32 0, .slice none 0 0] 28
theorem fn_six {w : World} {S : Nat → Prop} {l : List Co} {v : Value} (h : Calls Try.prog 23 #[v] w fun e w' => FnPost w S l e w' ∧ Below w.heap.size w w') (hr : rightsB l = false) : Calls Try.prog 23 #[v] w fun e w' => e = .returned (.tuple #[.map none, .int .i64 6]) ∧ Below w.heap.size w w' := by
  refine h.mono fun e w' hh => ⟨?_, hh.2⟩
  rcases hh.1 with ⟨_, e⟩ | ⟨e, _⟩ | ⟨e, _⟩
  · exact e
  · rw [hr] at e; cases e
  · rw [hr] at e; cases e
theorem fn_nine {w : World} {S : Nat → Prop} {l : List Co} {v : Value} (h : Calls Try.prog 23 #[v] w fun e w' => FnPost w S l e w' ∧ Below w.heap.size w w') (hr : rightsB l = true) (hn : ¬ (l.map Co.name).Nodup) : Calls Try.prog 23 #[v] w fun e w' => e = .returned (.tuple #[.map none, .int .i64 9]) ∧ Below w.heap.size w w' := by
  refine h.mono fun e w' hh => ⟨?_, hh.2⟩
  rcases hh.1 with ⟨e, _⟩ | ⟨_, _, e⟩ | ⟨_, e, _⟩
  · rw [hr] at e; cases e
  · exact e
  · exact absurd e hn
theorem fn_ok {w : World} {S : Nat → Prop} {l : List Co} {v : Value} (h : Calls Try.prog 23 #[v] w fun e w' => FnPost w S l e w' ∧ Below w.heap.size w w') (hr : rightsB l = true) (hn : (l.map Co.name).Nodup) : Calls Try.prog 23 #[v] w fun e w' => (∃ KM es clock, e = .returned (.tuple #[.map (some KM), .int .i64 0]) ∧ w.heap.size ≤ KM ∧ w'.heap[KM]? = some (.map es clock) ∧ Ent w S es l) ∧ Below w.heap.size w w' := by
  refine h.mono fun e w' hh => ⟨?_, hh.2⟩
  rcases hh.1 with ⟨e, _⟩ | ⟨_, e, _⟩ | ⟨_, _, e⟩
  · rw [hr] at e; cases e
  · exact absurd hn e
  · exact e
set_option maxRecDepth 100000 in
set_option maxHeartbeats 4000000 in
theorem run_early {B : Nat} {S : Nat → Prop} (a : Option Addr) (l : List Co) (cp : Nat) (nm : List UInt8) (va : Value) (w : World) (h : kCo.row w S a l) (hok : ∀ c ∈ l, CoOk c) (hl : l.length ≤ 1000000) (hg : Glob B w) (hbad : ¬ (rightsB l = true ∧ (l.map Co.name).Nodup)) :
    Calls Try.prog 12 #[.slice a l.length cp, .string (bs nm), va] w fun e w' => RunTells w w' e (0, [], [], if rightsB l = true then 9 else 6) := by
  have hb1 := bl_alloc (Below.refl w.heap.size w) outO
  have hfn := functions_any a l cp (w.alloc outO) (kCo.row_mono (T := S) (by decide) h fun b hb hlt => ⟨hb, hb1.block b hlt⟩) hok hl (hg.alloc _)
  have ho := heap_alloc_new w outO
  rcases hr : rightsB l with _ | _
  · have hf6 := fn_six hfn hr
    clear hfn
    go_enter Try.func12, Try.ntmps12
    go_wp2_with (first | (go_at_call 23; refine hf6.mono ?_; rintro e w2 ⟨rfl, hb2⟩; refine Hid.out ?_))
    refine Lib.hid ?_
    have ho2 : w2.heap[w.heap.size]? = some outO := (hb2.block _ (lt_of_some ho)).trans ho
    have HB2 : Hid _ := bl_then hb1 hb2
    obtain ⟨c0, c1, z0, z1⟩ := cells2 ho2
    clear hf6 hb1 hb2 ho
    go_wp2_with fail
    refine bodyPost_ret_by (results_row3 Try.results12 rfl rfl rfl (load_out (set2 ho2) rfl)) rfl ?_
    exact RunTells.err (bl_set (bl_set HB2.out _ _ _ (Nat.le_refl _)) _ _ _ (Nat.le_refl _))
  · have hf9 := fn_nine hfn hr (fun e => hbad ⟨hr, e⟩)
    clear hfn
    go_enter Try.func12, Try.ntmps12
    go_wp2_with (first | (go_at_call 23; refine hf9.mono ?_; rintro e w2 ⟨rfl, hb2⟩; refine Hid.out ?_))
    refine Lib.hid ?_
    have ho2 : w2.heap[w.heap.size]? = some outO := (hb2.block _ (lt_of_some ho)).trans ho
    have HB2 : Hid _ := bl_then hb1 hb2
    obtain ⟨c0, c1, z0, z1⟩ := cells2 ho2
    clear hf9 hb1 hb2 ho
    go_wp2_with fail
    refine bodyPost_ret_by (results_row3 Try.results12 rfl rfl rfl (load_out (set2 ho2) rfl)) rfl ?_
    exact RunTells.err (bl_set (bl_set HB2.out _ _ _ (Nat.le_refl _)) _ _ _ (Nat.le_refl _))
end Go.Proofs.Ytndmkfmpdnoliaa
/- CONTRACT of Run: a name that is none, arguments of another number. -/
namespace Go.Proofs.Ytndmkfmpdnoliaa
open Go.ChangeShapes Go.WideShapes Go.ChangeAt Go.RowKit Go.Maps

theorem ent_keys {w : World} {S : Nat → Prop} {es : Array MapEntry} {l : List Co} (h : Ent w S es l) (hok : ∀ c ∈ l, CoOk c) : ∀ x ∈ es.toList, ∃ z, keyOf Try.prog 9 x.key = some z := fun x hx => by
  obtain ⟨c, hc, e⟩ := h.mem x hx
  rw [e]; exact key_bs c.name (hok c hc).name
set_option maxRecDepth 100000 in
set_option maxHeartbeats 4000000 in
theorem run_none {B : Nat} {S : Nat → Prop} (a : Option Addr) (l : List Co) (cp : Nat) (nm : List UInt8) (va : Value) (w : World) (h : kCo.row w S a l) (hok : ∀ c ∈ l, CoOk c) (hl : l.length ≤ 1000000) (hg : Glob B w) (hr : rightsB l = true) (hnd : (l.map Co.name).Nodup) (hnm : nm.length ≤ 1000000000) (hlook : look l nm = none) :
    Calls Try.prog 12 #[.slice a l.length cp, .string (bs nm), va] w fun e w' => RunTells w w' e (0, [], [], 22) := by
  have hb1 := bl_alloc (Below.refl w.heap.size w) outO
  have hfn := fn_ok (functions_any a l cp (w.alloc outO) (kCo.row_mono (T := S) (by decide) h fun b hb hlt => ⟨hb, hb1.block b hlt⟩) hok hl (hg.alloc _)) hr hnd
  have ho := heap_alloc_new w outO
  obtain ⟨kl, hkl⟩ := key_bs nm hnm
  go_enter Try.func12, Try.ntmps12
  go_wp2_with (first | (go_at_call 23; refine hfn.mono ?_; rintro e w2 ⟨⟨KM, es, clock, rfl, hK, hm, hent⟩, hb2⟩; refine Hid.out ?_))
  refine Lib.hid ?_
  have ho2 : w2.heap[w.heap.size]? = some outO := (hb2.block _ (lt_of_some ho)).trans ho
  have HB2 : Hid _ := bl_then hb1 hb2
  have hlk : (Instr.lookup 52 (.map (some KM)) (.string (bs nm)) true).run Try.prog w2 = .ok (.tuple #[zeroV, .bool false]) w2 := by
    rcases look_ent hent hm (ent_keys hent hok) hkl with ⟨_, e⟩ | ⟨_, c', pa, pc, la, lc, ⟨j, hj⟩, rfl, _, _⟩
    · exact e
    · rw [look_of hnd hj] at hlook; cases hlook
  have ho3 : (w2.alloc (.cells #[.string ⟨#[]⟩, .slice none 0 0, .int .i64 0, .int .i64 0, .slice none 0 0] 39)).heap[w.heap.size]? = some outO := (heap_alloc_old w2 _ (lt_of_some ho2)).trans ho2
  obtain ⟨c0, c1, z0, z1⟩ := cells2 ho3
  have HB3 : Hid _ := bl_alloc HB2.out (.cells #[.string ⟨#[]⟩, .slice none 0 0, .int .i64 0, .int .i64 0, .slice none 0 0] 39)
  have HO3 : Hid _ := ho3
  clear hfn hb1 hb2 ho ho2 ho3 hm hent
  go_wp2_with fail
  refine bodyPost_ret_by (results_row3 Try.results12 rfl rfl rfl (load_out (set2 HO3.out) rfl)) rfl ?_
  exact RunTells.err (bl_set (bl_set HB3.out _ _ _ (Nat.le_refl _)) _ _ _ (Nat.le_refl _))
set_option maxRecDepth 100000 in
set_option maxHeartbeats 4000000 in
theorem run_arg {B : Nat} {S : Nat → Prop} (a : Option Addr) (l : List Co) (cp : Nat) (nm : List UInt8) (aa : Option Addr) (na ac : Nat) (w : World) (h : kCo.row w S a l) (hok : ∀ c ∈ l, CoOk c) (hl : l.length ≤ 1000000) (hg : Glob B w) (hr : rightsB l = true) (hnd : (l.map Co.name).Nodup) (hnm : nm.length ≤ 1000000000) (c : Co) (hlook : look l nm = some c) (hna : (na : Int) ≠ wordsN c.ps + cellsN c.ps) :
    Calls Try.prog 12 #[.slice a l.length cp, .string (bs nm), .slice aa na ac] w fun e w' => RunTells w w' e (0, [], [], 1) := by
  have hb1 := bl_alloc (Below.refl w.heap.size w) outO
  have hfn := fn_ok (functions_any a l cp (w.alloc outO) (kCo.row_mono (T := S) (by decide) h fun b hb hlt => ⟨hb, hb1.block b hlt⟩) hok hl (hg.alloc _)) hr hnd
  have ho := heap_alloc_new w outO
  obtain ⟨kl, hkl⟩ := key_bs nm hnm
  have hc : c ∈ l := List.mem_of_find?_eq_some hlook
  have hrc : (rightR c).1 = 0 := by have := List.all_eq_true.1 hr c hc; simpa using this
  obtain ⟨z1, z2, z3, z4, z5, z6, z7, z8, z9⟩ := formB_parts (right_form hrc)
  have hcb := cellsN_bd c.ps z5
  have hwb := wordsN_bd c.ps
  clear z1 z3 z4 z6 z7 z8 z9
  go_enter Try.func12, Try.ntmps12
  go_wp2_with (first | (go_at_call 23; refine hfn.mono ?_; rintro e w2 ⟨⟨KM, es, clock, rfl, hK, hm, hent⟩, hb2⟩; refine Hid.out ?_))
  refine Lib.hid ?_
  have ho2 : w2.heap[w.heap.size]? = some outO := (hb2.block _ (lt_of_some ho)).trans ho
  have HB2 : Hid _ := bl_then hb1 hb2
  obtain ⟨pa, pc, la, lc, hin, hlk⟩ : ∃ pa pc la lc, CoIn (w.alloc outO) S c pa pc la lc ∧ (Instr.lookup 52 (.map (some KM)) (.string (bs nm)) true).run Try.prog w2 = .ok (.tuple #[coV c pa pc la lc, .bool true]) w2 := by
    rcases look_ent hent hm (ent_keys hent hok) hkl with ⟨hno, _⟩ | ⟨_, c', pa, pc, la, lc, ⟨j, hj⟩, rfl, hin, e⟩
    · rw [look_nil (fun c' hc' e => hno (List.mem_map.2 ⟨c', hc', e⟩))] at hlook; cases hlook
    · rw [look_of hnd hj] at hlook
      obtain rfl : c' = c := Option.some.inj hlook
      exact ⟨pa, pc, la, lc, hin, e⟩
  have hw3 : ∀ b, b < (w.alloc outO).heap.size → (w2.alloc (coO c pa pc la lc)).heap[b]? = (w.alloc outO).heap[b]? := fun b hb => (heap_alloc_old w2 _ (Nat.lt_of_lt_of_le hb hb2.size)).trans (hb2.block b hb)
  have hin3 := hin.mono (w' := w2.alloc (coO c pa pc la lc)) (T := S) fun b hb hlt => ⟨hb, hw3 b hlt⟩
  have hrm := room_any (w2.alloc (coO c pa pc la lc)) pa c.ps pc hin3.ps z5 (by omega)
  have hbx := heap_alloc_new w2 (coO c pa pc la lc)
  obtain ⟨y0, y1, y2, y3, y4⟩ := co_block hbx
  have ho3 : (w2.alloc (coO c pa pc la lc)).heap[w.heap.size]? = some outO := (heap_alloc_old w2 _ (lt_of_some ho2)).trans ho2
  have HB3 : Hid _ := bl_alloc HB2.out (coO c pa pc la lc)
  have HO3 : Hid _ := ho3
  unfold coV at hlk
  have hsum : IntKind.i64.wrap ((wordsN c.ps : Int) + cellsN c.ps) = (wordsN c.ps : Int) + cellsN c.ps := Go.IntWalk.i64_in _ (by omega)
  have hne : ((na : Int) == (wordsN c.ps : Int) + cellsN c.ps) = false := by rw [beq_eq_false_iff_ne]; exact hna
  generalize (wordsN c.ps : Nat) = nw at hrm hsum hne
  generalize cellsN c.ps = ncl at hrm hsum hne
  clear hfn hb1 hb2 ho ho2 ho3 hm hent hin hin3 hw3 hbx hcb hwb hna z5 z2
  go_wp2_with (first | (go_at_call 24; refine hrm.mono ?_; rintro e w4 ⟨rfl, hb4⟩; refine Hid.out ?_))
  refine Lib.hid ?_
  have ho4 : w4.heap[w.heap.size]? = some outO := (hb4.block _ (lt_of_some HO3.out)).trans HO3.out
  obtain ⟨c0, c1, z0, z1⟩ := cells2 ho4
  have HB4 : Hid _ := bl_then HB3.out hb4
  have HO4 : Hid _ := ho4
  clear hrm hb4 ho4 y0 y1 y2 y3 y4 hlk
  go_wp2_with fail
  refine bodyPost_ret_by (results_row3 Try.results12 rfl rfl rfl (load_out (set2 HO4.out) rfl)) rfl ?_
  exact RunTells.err (bl_set (bl_set HB4.out _ _ _ (Nat.le_refl _)) _ _ _ (Nat.le_refl _))
end Go.Proofs.Ytndmkfmpdnoliaa
/- CONTRACT of Run: what is run. -/
namespace Go.Proofs.Ytndmkfmpdnoliaa
open Go.ChangeShapes Go.WideShapes Go.ChangeAt Go.RowKit Go.Maps

/-- What a run that was begun tells. -/
def toldR (c : Co) (res : Fr × St) : Nat × List Nat × List Int × Int := if res.2.wrong ≠ 0 then (0, [], [], res.2.wrong) else (res.1.result, res.1.cells.take (cellsN c.ps).toNat, res.2.br, 0)
theorem doIr_cells {P : List Co} {rec : Nat → Co → Fr → St → Fr × St} {d : Nat} {x : Ir} {fr : Fr} {st : St} : (doIr P rec d x fr st).1.cells.length = fr.cells.length := by
  by_cases k6 : x.kind = 6
  · rw [doIr_6 k6]; simp
  by_cases k7 : x.kind = 7
  · rw [doIr_7 k7]
    cases hl : look P x.name with
    | none => rw [callR_none hl]
    | some c =>
      rw [callR_some hl]
      by_cases a1 : c.ps.length ≠ x.args.length ∨ 0 < cellsN c.ps
      · rw [if_pos a1]
      · rw [if_neg a1]
        by_cases a2 : d = 32
        · rw [if_pos a2]
        · rw [if_neg a2]
  by_cases k9 : x.kind = 9
  · rw [doIr_9 k9]; split <;> rfl
  by_cases k1 : x.kind = 1
  · rw [doIr_1 k1]
  by_cases k2 : x.kind = 2
  · rw [doIr_2 k2]
  by_cases k3 : x.kind = 3
  · rw [doIr_3 k3]
  by_cases k4 : x.kind = 4
  · rw [doIr_4 k4]
  by_cases k5 : x.kind = 5
  · rw [doIr_5 k5]
  by_cases k8 : x.kind = 8
  · rw [doIr_8 k8]
  · rw [doIr_10 (fun n a b e => by omega)]
theorem runF_cells (P : List Co) : ∀ f d c fr st, (runF P f d c fr st).1.cells.length = fr.cells.length := by
  intro f
  induction f with
  | zero => intro d c fr st; rfl
  | succ f ih =>
    intro d c fr st
    rw [runF_succ]
    by_cases h : fr.ended = true ∨ st.wrong ≠ 0
    · rw [if_pos h]
    · rw [if_neg h, ih]
      unfold stepR
      by_cases hz : st.left = 0
      · rw [if_pos hz]
      · rw [if_neg hz, doIr_cells]
theorem wd_row {w : World} {C : Nat} {l : List Nat} (h : w.heap[C]? = some (.cells (wvs l) 26)) (hb : ∀ n ∈ l, n < 4294967296) (m : Nat) : kWd.row w (fun b => b = C) (some ⟨C, 0, none⟩) (l.take m) := by
  refine kWd.lay_row (S := fun b => b = C) (fun _ h => h) C rfl 0 (wd_lay (l.take m) fun n hn => hb n (List.mem_of_mem_take hn)) fun j u hj => ?_
  rw [Nat.zero_add]
  have hj2 : (l.map wv)[j]? = some u := by
    rw [List.map_take, List.getElem?_take] at hj
    split at hj
    · exact hj
    · cases hj
  simp only [World.cell?, h]
  simpa [wvs] using hj2
/-- Where branches lie. -/
def brA : Value → Option Addr
  | .slice a _ _ => a
  | _ => none
def brC : Value → Nat
  | .slice _ _ c => c
  | _ => 0
theorem int_lay {w : World} {S : Nat → Prop} : ∀ l : List Int, kInt.lay w S (l.map (Value.int .i64)) l
  | [] => rfl
  | x :: l => ⟨[.int .i64 x], l.map (Value.int .i64), rfl, rfl, int_lay l⟩
theorem br_row {w : World} {base N : Nat} {v : Value} {l : List Int} (h : w.ownsRow base 3 1 v l.length (l.map (Value.int .i64))) (hN : N ≤ base) : kInt.row w (fun b => N ≤ b) (brA v) l ∧ l.length ≤ brC v ∧ v = .slice (brA v) l.length (brC v) := by
  obtain ⟨a, c, e, hr, hc⟩ := kInt.own_rd (t := 3) (S := fun b => N ≤ b) (T := fun b => N ≤ b) (l := l) ⟨_, h, int_lay l⟩ (fun _ h => h) fun g hg => Nat.le_trans hN (World.ownsRow.lt h g hg).1
  subst e
  exact ⟨hr, hc, rfl⟩
set_option maxRecDepth 100000 in
set_option maxHeartbeats 8000000 in
theorem run_go {B : Nat} {S S' : Nat → Prop} (a : Option Addr) (l : List Co) (cp : Nat) (nm : List UInt8) (aa : Option Addr) (ar : List Nat) (ac : Nat) (w : World) (h : kCo.row w S a l) (hok : ∀ c ∈ l, CoOk c) (hl : l.length ≤ 1000000) (hg : Glob B w) (hr : rightsB l = true) (hnd : (l.map Co.name).Nodup) (hnm : nm.length ≤ 1000000000) (har : kWd.row w S' aa ar) (hac : ar.length ≤ ac) (c : Co) (hlook : look l nm = some c) (hna : (ar.length : Int) = wordsN c.ps + cellsN c.ps) :
    Calls Try.prog 12 #[.slice a l.length cp, .string (bs nm), .slice aa ar.length ac] w fun e w' => RunTells w w' e (toldR c (runF l 60001 0 c (startF c ar) ⟨60000, [], 0⟩)) := by
  have hb1 := bl_alloc (Below.refl w.heap.size w) outO
  have hfn := fn_ok (functions_any a l cp (w.alloc outO) (kCo.row_mono (T := S) (by decide) h fun b hb hlt => ⟨hb, hb1.block b hlt⟩) hok hl (hg.alloc _)) hr hnd
  have ho := heap_alloc_new w outO
  obtain ⟨kl, hkl⟩ := key_bs nm hnm
  have hc : c ∈ l := List.mem_of_find?_eq_some hlook
  have hgood : Good l := ⟨fun c hc => by have := List.all_eq_true.1 hr c hc; simpa using this, hok, hnd⟩
  obtain ⟨z1, z2, z3, z4, z5, z6, z7, z8, z9⟩ := formB_parts (right_form (hgood.right c hc))
  have hcb := cellsN_bd c.ps z5
  have hwb := wordsN_bd c.ps
  have hfits := start_fits (hgood.right c hc) hna
  have hfin := fun (w3 : World) (R KM DM F G C : Nat) (la : Option Addr) (lc : Nat) (a1 : Old w3 R KM DM l) (a2 : FrM w3 R F G C (startF c ar)) (a3 : RnM w3 R KM DM 0 ⟨60000, [], 0⟩ (.slice none 0 0)) (a5 : kIr.row w3 (fun b => b < R) la c.l) => fin_all hgood 60001 w3 R KM DM F G C 0 (startF c ar) ⟨60000, [], 0⟩ (.slice none 0 0) c la lc a1 a2 a3 (fun g e => by cases e) hc hfits a5 (by omega) (fun _ _ => by show 60000 < 60001; omega)
  have hcl : (startF c ar).cells.length = c.cells.toNat := by have := hfits.cells; omega
  have hcE := runF_cells l 60001 0 c (startF c ar) ⟨60000, [], 0⟩
  rw [hcl] at hcE
  generalize hres : runF l 60001 0 c (startF c ar) ⟨60000, [], 0⟩ = res at hfin hcE ⊢
  obtain ⟨frE, stE⟩ := res
  simp only at hfin hcE
  have HCE : Hid _ := hcE
  clear hcE
  have HFIN : Hid _ := hfin
  have HGOOD : Hid _ := hgood
  clear hfin hres hgood hcl hfits
  go_enter Try.func12, Try.ntmps12
  go_wp2_with (first | (go_at_call 23; refine hfn.mono ?_; rintro e w2 ⟨⟨KM, es, clock, rfl, hK, hm, hent⟩, hb2⟩; refine Hid.out ?_))
  refine Lib.hid ?_
  have ho2 : w2.heap[w.heap.size]? = some outO := (hb2.block _ (lt_of_some ho)).trans ho
  have HB2 : Hid _ := bl_then hb1 hb2
  obtain ⟨pa, pc, la, lc, hin, hlk⟩ : ∃ pa pc la lc, CoIn (w.alloc outO) S c pa pc la lc ∧ (Instr.lookup 52 (.map (some KM)) (.string (bs nm)) true).run Try.prog w2 = .ok (.tuple #[coV c pa pc la lc, .bool true]) w2 := by
    rcases look_ent hent hm (ent_keys hent hok) hkl with ⟨hno, _⟩ | ⟨_, c', pa, pc, la, lc, ⟨j, hj⟩, rfl, hin, e⟩
    · rw [look_nil (fun c' hc' e => hno (List.mem_map.2 ⟨c', hc', e⟩))] at hlook; cases hlook
    · rw [look_of hnd hj] at hlook
      obtain rfl : c' = c := Option.some.inj hlook
      exact ⟨pa, pc, la, lc, hin, e⟩
  have hw3 : ∀ b, b < (w.alloc outO).heap.size → (w2.alloc (coO c pa pc la lc)).heap[b]? = (w.alloc outO).heap[b]? := fun b hb => (heap_alloc_old w2 _ (Nat.lt_of_lt_of_le hb hb2.size)).trans (hb2.block b hb)
  have hin3 := hin.mono (w' := w2.alloc (coO c pa pc la lc)) (T := S) fun b hb hlt => ⟨hb, hw3 b hlt⟩
  have hrm := room_any (w2.alloc (coO c pa pc la lc)) pa c.ps pc hin3.ps z5 (by omega)
  have hbx := heap_alloc_new w2 (coO c pa pc la lc)
  obtain ⟨y0, y1, y2, y3, y4⟩ := co_block hbx
  have ho3 : (w2.alloc (coO c pa pc la lc)).heap[w.heap.size]? = some outO := (heap_alloc_old w2 _ (lt_of_some ho2)).trans ho2
  have hm3 : (w2.alloc (coO c pa pc la lc)).heap[KM]? = some (.map es clock) := (heap_alloc_old w2 _ (lt_of_some hm)).trans hm
  have hKl : KM < w2.heap.size := lt_of_some hm
  have hsz12 := hb2.size
  have HB3 : Hid _ := bl_alloc HB2.out (coO c pa pc la lc)
  have HO3 : Hid _ := ho3
  have HM3 : Hid _ := hm3
  have HBX : Hid _ := hbx
  have HW3 : Hid _ := hw3
  have HENT : Hid _ := hent
  have HIN : Hid _ := hin
  unfold coV at hlk
  have hsum : IntKind.i64.wrap ((wordsN c.ps : Int) + cellsN c.ps) = (wordsN c.ps : Int) + cellsN c.ps := Go.IntWalk.i64_in _ (by omega)
  have hne : ((ar.length : Int) == (wordsN c.ps : Int) + cellsN c.ps) = true := by rw [beq_iff_eq]; exact hna
  have HNA : Hid _ := hna
  have hdd := fun W => deeds_any W
  clear hfn hb1 hb2 ho ho2 ho3 hm hent hin hin3 hw3 hbx hna hm3
  go_wp2_with (first | (go_at_call 24; refine hrm.mono ?_; rintro e w4 ⟨rfl, hb4⟩; obtain ⟨q0, q1, q2, q3, q4⟩ := co_block (show w4.heap[w2.heap.size]? = some (coO c pa pc la lc) by rw [hb4.block _ (lt_of_some HBX.out)]; exact HBX.out)) | (go_at_call 25; refine (hdd _).mono ?_; rintro e w5 ⟨rfl, rfl⟩; refine Hid.out ?_))
  refine Lib.hid ?_
  have hz6 : ((w4.alloc (.map deedL.toArray 10)).alloc (.cells #[.map (some KM), .map (some w4.heap.size), .int .i64 0, .int .i64 0, .slice none 0 0, .int .i64 0] 62)).heap.size = w4.heap.size + 2 := by simp
  have hb46 : Below w4.heap.size w4 ((w4.alloc (.map deedL.toArray 10)).alloc (.cells #[.map (some KM), .map (some w4.heap.size), .int .i64 0, .int .i64 0, .slice none 0 0, .int .i64 0] 62)) := bl_alloc (bl_alloc (Below.refl _ _) _) _
  have hD6 : ((w4.alloc (.map deedL.toArray 10)).alloc (.cells #[.map (some KM), .map (some w4.heap.size), .int .i64 0, .int .i64 0, .slice none 0 0, .int .i64 0] 62)).heap[w4.heap.size]? = some (.map deedL.toArray 10) := (heap_alloc_old _ _ (by simp)).trans (heap_alloc_new w4 _)
  have hR6 : ((w4.alloc (.map deedL.toArray 10)).alloc (.cells #[.map (some KM), .map (some w4.heap.size), .int .i64 0, .int .i64 0, .slice none 0 0, .int .i64 0] 62)).heap[w4.heap.size + 1]? = some (.cells #[.map (some KM), .map (some w4.heap.size), .int .i64 0, .int .i64 0, .slice none 0 0, .int .i64 0] 62) := by
    have := heap_alloc_new (w4.alloc (.map deedL.toArray 10)) (.cells #[.map (some KM), .map (some w4.heap.size), .int .i64 0, .int .i64 0, .slice none 0 0, .int .i64 0] 62)
    simpa using this
  have hsz4 := hb4.size
  have hz3 : (w2.alloc (coO c pa pc la lc)).heap.size = w2.heap.size + 1 := by simp
  have hz1 : (w.alloc outO).heap.size = w.heap.size + 1 := by simp
  have h46 : ∀ b, b < w4.heap.size → ((w4.alloc (.map deedL.toArray 10)).alloc (.cells #[.map (some KM), .map (some w4.heap.size), .int .i64 0, .int .i64 0, .slice none 0 0, .int .i64 0] 62)).heap[b]? = w4.heap[b]? := fun b hb => hb46.block b hb
  have h16 : ∀ b, b < (w.alloc outO).heap.size → ((w4.alloc (.map deedL.toArray 10)).alloc (.cells #[.map (some KM), .map (some w4.heap.size), .int .i64 0, .int .i64 0, .slice none 0 0, .int .i64 0] 62)).heap[b]? = (w.alloc outO).heap[b]? := fun b hb => ((h46 b (by omega)).trans (hb4.block b (by omega))).trans (HW3.out b hb)
  have hM6 : ((w4.alloc (.map deedL.toArray 10)).alloc (.cells #[.map (some KM), .map (some w4.heap.size), .int .i64 0, .int .i64 0, .slice none 0 0, .int .i64 0] 62)).heap[KM]? = some (.map es clock) := ((h46 KM (by omega)).trans (hb4.block KM (by omega))).trans HM3.out
  have hX6 : ((w4.alloc (.map deedL.toArray 10)).alloc (.cells #[.map (some KM), .map (some w4.heap.size), .int .i64 0, .int .i64 0, .slice none 0 0, .int .i64 0] 62)).heap[w2.heap.size]? = some (coO c pa pc la lc) := ((h46 _ (by omega)).trans (hb4.block _ (by omega))).trans HBX.out
  have hO6 : ((w4.alloc (.map deedL.toArray 10)).alloc (.cells #[.map (some KM), .map (some w4.heap.size), .int .i64 0, .int .i64 0, .slice none 0 0, .int .i64 0] 62)).heap[w.heap.size]? = some outO := (h16 _ (by omega)).trans (heap_alloc_new w outO)
  have hgo6 : Goes (w.alloc outO) ((w4.alloc (.map deedL.toArray 10)).alloc (.cells #[.map (some KM), .map (some w4.heap.size), .int .i64 0, .int .i64 0, .slice none 0 0, .int .i64 0] 62)) S (fun b => b < w4.heap.size + 1) := fun b _ hlt => ⟨by omega, h16 b hlt⟩
  have hold6 : Old ((w4.alloc (.map deedL.toArray 10)).alloc (.cells #[.map (some KM), .map (some w4.heap.size), .int .i64 0, .int .i64 0, .slice none 0 0, .int .i64 0] 62)) (w4.heap.size + 1) KM w4.heap.size l := ⟨by omega, by omega, hD6, es, clock, hM6, HENT.out.len, fun k c' hk => by
    obtain ⟨pa', pc', la', lc', n', e1, e2⟩ := HENT.out.at_ k c' hk
    exact ⟨pa', pc', la', lc', n', e1, e2.mono hgo6⟩⟩
  have hin6 := HIN.out.mono hgo6
  have hrn6 : RnM ((w4.alloc (.map deedL.toArray 10)).alloc (.cells #[.map (some KM), .map (some w4.heap.size), .int .i64 0, .int .i64 0, .slice none 0 0, .int .i64 0] 62)) (w4.heap.size + 1) KM w4.heap.size 0 ⟨60000, [], 0⟩ (.slice none 0 0) := ⟨by simpa using hR6, World.ownsRow_nil _ _ _ _, Nat.le_refl _, Nat.le_refl _⟩
  have har6 : kWd.row ((w4.alloc (.map deedL.toArray 10)).alloc (.cells #[.map (some KM), .map (some w4.heap.size), .int .i64 0, .int .i64 0, .slice none 0 0, .int .i64 0] 62)) (fun b => b < w4.heap.size + 1 ∨ S' b) aa ar := kWd.row_mono (by decide) har fun b hb hlt => ⟨.inr hb, by rw [h16 b (by omega)]; exact heap_alloc_old w _ hlt⟩
  have hnr : c.regs = (c.regs.toNat : Int) := by omega
  have hnc : c.cells = (c.cells.toNat : Int) := by omega
  have hbeg := begin_any (w4.heap.size + 1) c.name c.ps c.regs.toNat c.cells.toNat c.l pa pc la lc ar aa ac ((w4.alloc (.map deedL.toArray 10)).alloc (.cells #[.map (some KM), .map (some w4.heap.size), .int .i64 0, .int .i64 0, .slice none 0 0, .int .i64 0] 62)) (S := fun b => b < w4.heap.size + 1 ∨ S' b) (kTy.row_mono (by decide) hin6.ps fun b hb _ => ⟨.inl hb, rfl⟩) har6 hac z2 z5 (by omega) (by omega) (by omega) (by omega) HNA.out (by omega)
  rw [← hnr, ← hnc] at hbeg
  clear hnr hnc
  obtain ⟨x0, x1, x2, x3, x4⟩ := co_block hX6
  have HB6 : Hid (Below w.heap.size w ((w4.alloc (.map deedL.toArray 10)).alloc (.cells #[.map (some KM), .map (some w4.heap.size), .int .i64 0, .int .i64 0, .slice none 0 0, .int .i64 0] 62))) := bl_then (bl_then HB3.out hb4) hb46
  have HOLD6 : Hid _ := hold6
  have HRN6 : Hid _ := hrn6
  have HX6 : Hid _ := hX6
  have HO6 : Hid _ := hO6
  have HROWS : Hid _ := hin6.l
  have HZ6 : Hid _ := hz6
  have hww4 : w.heap.size < w4.heap.size := by omega
  have hw24 : w2.heap.size < w4.heap.size := by omega
  clear hz6 hb46 hD6 hR6 h46 h16 hM6 hX6 hO6 hgo6 hold6 hin6 hrn6 har6 har hb4 HM3 HBX HW3 HENT HIN HO3 HB3 HB2 hrm hdd hlk y0 y1 y2 y3 y4 q0 q1 q2 q3 q4
  go_wp2_with (first | (go_at_call 26; refine hbeg.mono ?_; rintro e w7 ⟨⟨F, G, C, rfl, hF7, hFz, hGz, hCz⟩, hb7⟩; refine Hid.out ?_))
  refine Lib.hid ?_
  generalize ((w4.alloc (.map deedL.toArray 10)).alloc (.cells #[.map (some KM), .map (some w4.heap.size), .int .i64 0, .int .i64 0, .slice none 0 0, .int .i64 0] 62)) = w6 at hbeg HB6 HOLD6 HRN6 HX6 HO6 HROWS HZ6 hF7 hFz hGz hCz hb7 x0 x1 x2 x3 x4
  have hz6 : w6.heap.size = w4.heap.size + 2 := HZ6.out
  have hold7 := HOLD6.out.keep (w' := w7) fun k hk => hb7.block k (by omega)
  have hrn7 : RnM w7 (w4.heap.size + 1) KM w4.heap.size 0 ⟨60000, [], 0⟩ (.slice none 0 0) := ⟨(hb7.block _ (by omega)).trans HRN6.out.r, World.ownsRow_nil _ _ _ _, Nat.le_refl _, Nat.le_refl _⟩
  have hX7 : w7.heap[w2.heap.size]? = some (coO c pa pc la lc) := (hb7.block _ (by omega)).trans HX6.out
  have hO7 : w7.heap[w.heap.size]? = some outO := (hb7.block _ (by omega)).trans HO6.out
  have hs7 := hb7.size
  have hrow7 : kIr.row w7 (fun b => b < w4.heap.size + 1) la c.l := kIr.row_mono (by decide) HROWS.out fun b hb hlt => ⟨hb, hb7.block b hlt⟩
  have hfi := HFIN.out w7 (w4.heap.size + 1) KM w4.heap.size F G C la lc hold7 hF7 hrn7 hrow7
  have HB7 : Hid (Below w.heap.size w w7) := bl_then HB6.out (Kept.to_below (Below.kept hb7 (fun _ => False)) (fun _ e => e.elim))
  obtain ⟨v0, v1, v2, v3, v4⟩ := co_block hX7
  have HO7 : Hid _ := hO7
  clear hbeg hold7 hrn7 hX7 hO7 hrow7 x0 x1 x2 x3 x4 HOLD6 HRN6 HX6 HO6 HROWS HB6 hb7 hF7 HFIN
  go_wp2_with (first | (go_at_call 27; refine hfi.mono ?_; rintro e w8 ⟨rfl, vE, hd8⟩; refine Hid.out ?_))
  refine Lib.hid ?_
  have hRz : w4.heap.size + 1 < w7.heap.size := by omega
  have hb78 : ∀ k, k < w4.heap.size + 1 → w8.heap[k]? = w7.heap[k]? := fun k hk => hd8.kept.block k (by omega) (by
    have a1 := hd8.fr.rf
    have a2 := hd8.fr.rg
    have a3 := hd8.fr.rc
    rintro (e | e | e | e | e)
    · omega
    · omega
    · omega
    · omega
    · cases e)
  have hO8 : w8.heap[w.heap.size]? = some outO := (hb78 _ (by omega)).trans HO7.out
  have hB8 : Below w.heap.size w w8 := ⟨hd8.kept.os.trans HB7.out.os, hd8.kept.tape.trans HB7.out.tape, hd8.kept.output.trans HB7.out.output, Nat.le_trans HB7.out.size hd8.kept.size, fun k hk => (hb78 k (by omega)).trans (HB7.out.block k hk)⟩
  obtain ⟨f0, f1, f2, f3, f4, f5⟩ := hd8.fr.cells6
  obtain ⟨r0, r1, r2, r3, r4, r5⟩ := hd8.rn.cells6
  obtain ⟨c0, c1, u0, u1⟩ := cells2 hO8
  have HO8 : Hid _ := hO8
  have HB8 : Hid _ := hB8
  have HD8 : Hid _ := hd8
  have nRO : w4.heap.size + 1 ≠ w.heap.size := by omega
  have nFO : F ≠ w.heap.size := by have := hd8.fr.rf; omega
  clear hfi hd8 hb78 hO8 hB8 v0 v1 v2 v3 v4 hsum hne
  by_cases hw : stE.wrong = 0
  · rw [hw] at r5
    obtain ⟨m, hm⟩ : ∃ m : Nat, cellsN c.ps = m := ⟨(cellsN c.ps).toNat, by omega⟩
    have HT : Hid (toldR c (frE, stE) = (frE.result, frE.cells.take m, stE.br, 0)) := by show _ = _; unfold toldR; rw [if_neg (by simp [hw]), hm, Int.toNat_natCast]
    have hmn : m ≤ frE.cells.length := by have := HCE.out; omega
    have hcrow : kWd.row w8.drew (fun b => b = C) (some ⟨C, 0, none⟩) (frE.cells.take m) := wd_row (w := w8.drew) HD8.out.fr.c HD8.out.fr.cells m
    have hcln := clone_any w8.drew ⟨C, 0, none⟩ (frE.cells.take m) frE.cells.length hcrow (by rw [List.length_take]; omega)
    have hlt : (frE.cells.take m).length = m := by rw [List.length_take]; omega
    rw [hlt] at hcln
    have i1 : (m : Int) ≤ (frE.cells.length : Int) := by omega
    obtain ⟨hbr1, hbr2, hbr3⟩ := br_row (N := w.heap.size + 1) HD8.out.rn.own (by omega)
    have hS0 : w8.drew.cell? ⟨F, 5, none⟩ = some (.int .u32 (frE.result : Int)) ∧ w8.drew.cell? ⟨F, 2, none⟩ = some (.slice (some ⟨C, 0, none⟩) frE.cells.length frE.cells.length) ∧ w8.drew.cell? ⟨w4.heap.size + 1, 4, none⟩ = some vE := ⟨f5, f2, r4⟩
    have HS0 : Hid _ := hS0
    have hF8 : F < w8.heap.size := lt_of_some HD8.out.fr.f
    have hR8 : w4.heap.size + 1 < w8.heap.size := lt_of_some HD8.out.rn.r
    have hX8 : w.heap.size < w8.heap.size := lt_of_some HO8.out
    have HBR : Hid _ := hbr1
    have HBR3 : Hid _ := hbr3
    clear f0 f1 f2 f3 f4 f5 r0 r1 r2 r3 r4 hS0 hbr1 hbr3 hcrow
    go_wp2_with fail
    clear r5 c0 c1 u0 u1
    go_region_held3 (fun w' => w'.cell? ⟨F, 5, none⟩ = some (.int .u32 (frE.result : Int)) ∧ w'.cell? ⟨F, 2, none⟩ = some (.slice (some ⟨C, 0, none⟩) frE.cells.length frE.cells.length) ∧ w'.cell? ⟨w4.heap.size + 1, 4, none⟩ = some vE)
      (first | with_reducible exact HS0.out | with_reducible exact S9 | with_reducible exact S10 _ _)
      (first | (go_at_call 28; refine hcln.mono ?_; rintro e w9 ⟨⟨y, c2, rfl, hrow9, hc9⟩, hb9⟩; have S9 := (show w9.cell? ⟨F, 5, none⟩ = some (.int .u32 (frE.result : Int)) ∧ w9.cell? ⟨F, 2, none⟩ = some (.slice (some ⟨C, 0, none⟩) frE.cells.length frE.cells.length) ∧ w9.cell? ⟨w4.heap.size + 1, 4, none⟩ = some vE from ⟨(World.cell?_of_block (hb9.block F hF8)).trans HS0.out.1, (World.cell?_of_block (hb9.block F hF8)).trans HS0.out.2.1, (World.cell?_of_block (hb9.block _ hR8)).trans HS0.out.2.2⟩); have hO9 := (hb9.block w.heap.size hX8).trans HO8.out; obtain ⟨c0, c1, u0, u1⟩ := cells2 hO9; have S10 := (fun x1 x2 => show ((w9.setCell ⟨w.heap.size, 0, none⟩ x1).setCell ⟨w.heap.size, 1, none⟩ x2).cell? ⟨F, 5, none⟩ = some (.int .u32 (frE.result : Int)) ∧ ((w9.setCell ⟨w.heap.size, 0, none⟩ x1).setCell ⟨w.heap.size, 1, none⟩ x2).cell? ⟨F, 2, none⟩ = some (.slice (some ⟨C, 0, none⟩) frE.cells.length frE.cells.length) ∧ ((w9.setCell ⟨w.heap.size, 0, none⟩ x1).setCell ⟨w.heap.size, 1, none⟩ x2).cell? ⟨w4.heap.size + 1, 4, none⟩ = some vE from ⟨(World.cell?_of_block ((setCell_other nFO).trans (setCell_other nFO))).trans S9.1, (World.cell?_of_block ((setCell_other nFO).trans (setCell_other nFO))).trans S9.2.1, (World.cell?_of_block ((setCell_other nRO).trans (setCell_other nRO))).trans S9.2.2⟩)))
    have HRow9 : Hid _ := hrow9
    have HO9 : Hid _ := hO9
    have HB9 : Hid _ := hb9
    clear S9 S10 hrow9 hO9 hb9 hcln c0 c1 u0 u1 HS0
    go_wp2_with fail
    refine bodyPost_ret_by (results_row3 Try.results12 rfl rfl rfl (load_out (set2 HO9.out) rfl)) rfl ?_
    rw [HT.out]
    have hk9 : ∀ b, b ≠ w.heap.size → b < w9.heap.size → ((w9.setCell ⟨w.heap.size, 0, none⟩ (.int .u32 (frE.result : Int))).setCell ⟨w.heap.size, 1, none⟩ (.slice y m c2)).heap[b]? = w9.heap[b]? := fun b hb _ => (setCell_other hb).trans (setCell_other hb)
    refine ⟨y, c2, brA vE, brC vE, ?_, kWd.row_mono (by decide) HRow9.out fun b hb hlt9 => ⟨?_, hk9 b ?_ hlt9⟩, by rw [hlt]; exact hc9, kInt.row_mono (by decide) HBR.out fun b hb hlt8 => ⟨?_, ?_⟩, hbr2, bl_set (bl_set (bl_then (bl_then HB8.out (drew_bl _)) HB9.out) _ _ _ (Nat.le_refl _)) _ _ _ (Nat.le_refl _)⟩
    · simp only [hlt]
      rw [← HBR3.out]
      rfl
    · have : w8.heap.size ≤ b := hb
      omega
    · have : w8.heap.size ≤ b := hb
      omega
    · omega
    · have hs9 := HB9.out.size
      rw [hk9 b (by omega) (Nat.lt_of_lt_of_le hlt8 hs9)]
      exact HB9.out.block b hlt8
  · have hw' : (stE.wrong == 0) = false := by simpa using hw
    have HT : Hid (toldR c (frE, stE) = (0, [], [], stE.wrong)) := by show _ = _; unfold toldR; rw [if_pos hw]
    have hS2 : ∀ x y, ((w8.setCell ⟨w.heap.size, 0, none⟩ x).setCell ⟨w.heap.size, 1, none⟩ y).drew.cell? ⟨w4.heap.size + 1, 5, none⟩ = some (.int .i64 stE.wrong) := fun x y => (World.cell?_of_block ((setCell_other nRO).trans (setCell_other nRO))).trans r5
    have HS2 : Hid _ := hS2
    have hS0 : w8.drew.cell? ⟨w4.heap.size + 1, 5, none⟩ = some (.int .i64 stE.wrong) := r5
    have HS0 : Hid _ := hS0
    clear f0 f1 f2 f3 f4 f5 r0 r1 r2 r3 r4 hS2 hS0
    go_wp2_with fail
    go_region_held3 (fun w' => w'.cell? ⟨w4.heap.size + 1, 5, none⟩ = some (.int .i64 stE.wrong))
      (first | with_reducible exact HS0.out | with_reducible exact HS2.out _ _)
      (fail)
    go_wp2_with fail
    refine bodyPost_ret_by (results_row3 Try.results12 rfl rfl rfl (load_out (W := ((w8.setCell ⟨w.heap.size, 0, none⟩ (.int .u32 0)).setCell ⟨w.heap.size, 1, none⟩ (.slice none 0 0)).drew) (set2 HO8.out) rfl)) rfl ?_
    rw [HT.out]
    exact RunTells.err (bl_then (bl_set (bl_set HB8.out _ _ _ (Nat.le_refl _)) _ _ _ (Nat.le_refl _)) (drew_bl _))
end Go.Proofs.Ytndmkfmpdnoliaa
/- CONTRACT of Run, whatever is asked. -/
namespace Go.Proofs.Ytndmkfmpdnoliaa
open Go.ChangeShapes Go.WideShapes Go.ChangeAt Go.RowKit Go.Maps

theorem run_any {B : Nat} {S S' : Nat → Prop} (a : Option Addr) (l : List Co) (cp : Nat) (nm : List UInt8) (aa : Option Addr) (ar : List Nat) (ac : Nat) (w : World) (h : kCo.row w S a l) (hok : ∀ c ∈ l, CoOk c) (hl : l.length ≤ 1000000) (hg : Glob B w) (hnm : nm.length ≤ 1000000000) (har : kWd.row w S' aa ar) (hac : ar.length ≤ ac) :
    Calls Try.prog 12 #[.slice a l.length cp, .string (bs nm), .slice aa ar.length ac] w fun e w' => RunTells w w' e (runR l nm ar) := by
  have hrb : (l.all fun c => decide ((rightR c).1 = 0)) = rightsB l := rfl
  unfold runR
  rw [hrb]
  rcases hr : rightsB l with _ | _
  · rw [if_pos rfl]
    have := run_early a l cp nm (.slice aa ar.length ac) w h hok hl hg (fun e => by rw [hr] at e; cases e.1)
    rwa [hr] at this
  · rw [if_neg (by simp)]
    by_cases hnd : (l.map Co.name).Nodup
    · rw [if_pos hnd]
      cases hlook : look l nm with
      | none => exact run_none a l cp nm _ w h hok hl hg hr hnd hnm hlook
      | some c =>
        simp only
        by_cases hna : (ar.length : Int) = wordsN c.ps + cellsN c.ps
        · rw [if_neg (fun e => e hna)]
          have := run_go a l cp nm aa ar ac w h hok hl hg hr hnd hnm har hac c hlook hna
          refine this.mono fun e w' hh => ?_
          unfold toldR at hh
          exact hh
        · rw [if_pos hna]
          exact run_arg a l cp nm aa ar.length ac w h hok hl hg hr hnd hnm c hlook hna
    · rw [if_neg hnd]
      have := run_early a l cp nm (.slice aa ar.length ac) w h hok hl hg (fun e => hnd e.2)
      rwa [hr, if_pos rfl] at this
end Go.Proofs.Ytndmkfmpdnoliaa
/- PLAIN FACTS of the model: how many cells and branches a run tells at most. -/
namespace Go.Proofs.Ytndmkfmpdnoliaa

/-- Branches, and instructions that are left. -/
def both0 (st : St) : Nat := st.br.length + st.left
theorem callR_br {P : List Co} {rec : Nat → Co → Fr → St → Fr × St} {d : Nat} {x : Ir} {fr : Fr} {st : St} (h : ∀ d c fr st, both0 (rec d c fr st).2 ≤ both0 st) : both0 (callR P rec d x fr st).2 ≤ both0 st := by
  cases hl : look P x.name with
  | none => rw [callR_none hl]; exact Nat.le_refl _
  | some c =>
    rw [callR_some hl]
    by_cases a1 : c.ps.length ≠ x.args.length ∨ 0 < cellsN c.ps
    · rw [if_pos a1]; exact Nat.le_refl _
    · rw [if_neg a1]
      by_cases a2 : d = 32
      · rw [if_pos a2]; exact Nat.le_refl _
      · rw [if_neg a2]; exact h _ _ _ _
theorem doIr_br {P : List Co} {rec : Nat → Co → Fr → St → Fr × St} {d : Nat} {x : Ir} {fr : Fr} {st : St} (h : ∀ d c fr st, both0 (rec d c fr st).2 ≤ both0 st) : both0 (doIr P rec d x fr st).2 ≤ both0 st + 1 := by
  by_cases k7 : x.kind = 7
  · rw [doIr_7 k7]; exact Nat.le_succ_of_le (callR_br h)
  by_cases k9 : x.kind = 9
  · rw [doIr_9 k9]
    by_cases z : at0 fr.regs x.a = 0
    · rw [if_pos z]; simp only [both0, List.length_append, List.length_singleton]; omega
    · rw [if_neg z]; simp only [both0, List.length_append, List.length_singleton]; omega
  by_cases k1 : x.kind = 1
  · rw [doIr_1 k1]; exact Nat.le_succ _
  by_cases k2 : x.kind = 2
  · rw [doIr_2 k2]; exact Nat.le_succ _
  by_cases k3 : x.kind = 3
  · rw [doIr_3 k3]; exact Nat.le_succ _
  by_cases k4 : x.kind = 4
  · rw [doIr_4 k4]; exact Nat.le_succ _
  by_cases k5 : x.kind = 5
  · rw [doIr_5 k5]; exact Nat.le_succ _
  by_cases k6 : x.kind = 6
  · rw [doIr_6 k6]; exact Nat.le_succ _
  by_cases k8 : x.kind = 8
  · rw [doIr_8 k8]; exact Nat.le_succ _
  · rw [doIr_10 (fun n a b e => by omega)]; exact Nat.le_succ _
theorem runF_br (P : List Co) : ∀ f d c fr st, both0 (runF P f d c fr st).2 ≤ both0 st := by
  intro f
  induction f with
  | zero => intro d c fr st; exact Nat.le_refl _
  | succ f ih =>
    intro d c fr st
    rw [runF_succ]
    by_cases h : fr.ended = true ∨ st.wrong ≠ 0
    · rw [if_pos h]; exact Nat.le_refl _
    · rw [if_neg h]
      refine Nat.le_trans (ih _ _ _ _) ?_
      unfold stepR
      by_cases hz : st.left = 0
      · rw [if_pos hz]; exact Nat.le_refl _
      · rw [if_neg hz]
        refine Nat.le_trans (doIr_br ih) ?_
        simp only [both0]
        omega
theorem runR_bd (P : List Co) (nm : List UInt8) (ar : List Nat) : (runR P nm ar).2.1.length ≤ 4096 ∧ (runR P nm ar).2.2.1.length ≤ 60000 := by
  unfold runR
  by_cases h0 : (P.all fun c => decide ((rightR c).1 = 0)) = false
  · rw [if_pos h0]; simp
  rw [if_neg h0]
  by_cases h1 : (P.map Co.name).Nodup
  · rw [if_pos h1]
    cases hl : look P nm with
    | none => simp
    | some c =>
      have hr : (rightR c).1 = 0 := by
        have hm : c ∈ P := List.mem_of_find?_eq_some hl
        have ha : (P.all fun c => decide ((rightR c).1 = 0)) = true := by simpa using h0
        simpa using (List.all_eq_true.1 ha) c hm
      simp only
      by_cases h2 : (ar.length : Int) ≠ wordsN c.ps + cellsN c.ps
      · rw [if_pos h2]; simp
      · rw [if_neg h2]
        by_cases h3 : (runF P 60001 0 c (startF c ar) ⟨60000, [], 0⟩).2.wrong ≠ 0
        · rw [if_pos h3]; simp
        · rw [if_neg h3]
          have hb := runF_br P 60001 0 c (startF c ar) ⟨60000, [], 0⟩
          have hc := runF_cells P 60001 0 c (startF c ar) ⟨60000, [], 0⟩
          have hs := (start_fits hr (Classical.not_not.1 h2)).cells
          have hf := formB_parts (right_form hr)
          simp only [both0, List.length_nil] at hb
          simp only [List.length_take]
          omega
  · rw [if_neg h1]; simp
end Go.Proofs.Ytndmkfmpdnoliaa
