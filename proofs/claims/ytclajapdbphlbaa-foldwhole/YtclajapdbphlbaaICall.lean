/- CONTRACT of call. Made by gen/gen_call.py. -/
import Derived.Test.YtclajapdbphlbaaIInner
namespace Go.Proofs.Ytclajapdbphlbaa
open Go.ChangeShapes Go.WideShapes Go.ChangeAt Go.RowKit

theorem cells5 {w : World} {b : Nat} {x0 x1 x2 x3 x4 : Value} {t : TypeId} (h : w.heap[b]? = some (.cells #[x0, x1, x2, x3, x4] t)) :
    w.cell? ⟨b, 0, none⟩ = some x0 ∧ w.cell? ⟨b, 1, none⟩ = some x1 ∧ w.cell? ⟨b, 2, none⟩ = some x2 ∧ w.cell? ⟨b, 3, none⟩ = some x3 ∧ w.cell? ⟨b, 4, none⟩ = some x4 := by
  refine ⟨?_, ?_, ?_, ?_, ?_⟩ <;> simp [World.cell?, h]
set_option maxRecDepth 100000 in
set_option maxHeartbeats 8000000 in
theorem call_none {P : List Co} (hgood : Good P) {R KM DM F G C deep : Nat} {fr : Fr} {st : St} {v : Value} (x : Ir) (ga : Option Addr) (gc : Nat) (w : World) (hold : Old w R KM DM P) (h : FrM w R F G C fr) (hr : RnM w R KM DM deep st v) (ha : Apart F G C v) (hnm : x.name.length ≤ 1000000000) (d : Nat) (hd : x.d = d) (hlook : look P x.name = none) :
    Calls Try.prog 51 #[.pointer (some ⟨F, 0, none⟩), irV x ga gc] w fun e w' => e = .returned (.tuple #[]) ∧ ∃ v', Did w w' R KM DM F G C deep v v' fr { st with wrong := 8 } := by
  obtain ⟨kd, op, xd, xa, xb, xc, n, nm, ag⟩ := x
  simp only at *
  subst hd
  have h1 := h.box (.cells #[.int .i64 kd, .int .i64 op, .int .i64 (d : Int), .int .i64 xa, .int .i64 xb, .int .i64 xc, .int .u32 (n : Int), .string (bs nm), .slice ga ag.length gc] 36)
  have hr1 := hr.box (.cells #[.int .i64 kd, .int .i64 op, .int .i64 (d : Int), .int .i64 xa, .int .i64 xb, .int .i64 xc, .int .u32 (n : Int), .string (bs nm), .slice ga ag.length gc] 36)
  have hx := heap_alloc_new w (.cells #[.int .i64 kd, .int .i64 op, .int .i64 (d : Int), .int .i64 xa, .int .i64 xb, .int .i64 xc, .int .u32 (n : Int), .string (bs nm), .slice ga ag.length gc] 36)
  have hb1 := bl_alloc (Below.refl w.heap.size w) (.cells #[.int .i64 kd, .int .i64 op, .int .i64 (d : Int), .int .i64 xa, .int .i64 xb, .int .i64 xc, .int .u32 (n : Int), .string (bs nm), .slice ga ag.length gc] 36)
  have hRw := lt_of_some hr.r
  have hFw := lt_of_some h.f
  have nrf := h.rf
  have hold1 := hold.keep (w' := w.alloc (.cells #[.int .i64 kd, .int .i64 op, .int .i64 (d : Int), .int .i64 xa, .int .i64 xb, .int .i64 xc, .int .u32 (n : Int), .string (bs nm), .slice ga ag.length gc] 36)) fun k hk => hb1.block k (by omega)
  have HRw : Hid _ := hRw
  have HFw : Hid _ := hFw
  clear hRw hFw
  unfold irV
  go_enter Try.func51, Try.ntmps51
  go_wp2_with fail
  generalize w.alloc (.cells #[.int .i64 kd, .int .i64 op, .int .i64 (d : Int), .int .i64 xa, .int .i64 xb, .int .i64 xc, .int .u32 (n : Int), .string (bs nm), .slice ga ag.length gc] 36) = w1 at h1 hr1 hx hb1 hold1 ⊢
  obtain ⟨f0, f1, f2, f3, f4, f5⟩ := h1.cells6
  obtain ⟨r0, r1, r2, r3, r4, r5⟩ := hr1.cells6
  obtain ⟨x0, x1, x2, x3, x4, x5, x6, x7, x8⟩ := ir_block (x := ⟨kd, op, d, xa, xb, xc, n, nm, ag⟩) hx
  simp only at x0 x1 x2 x3 x4 x5 x6 x7 x8
  have hX1 : w.heap.size < w1.heap.size := lt_of_some hx
  have hF1 : F < w1.heap.size := lt_of_some h1.f
  have hR1 : R < w1.heap.size := lt_of_some hr1.r
  have hkn := known_look hold1 hgood nm hnm
  have hlk : ∀ W : World, W.heap[KM]? = w1.heap[KM]? → (Instr.lookup 60 (.map (some KM)) (.string (bs nm)) true).run Try.prog W = .ok (.tuple #[zeroV, .bool false]) W := by
    rcases hkn with ⟨_, e⟩ | ⟨c, _, _, _, _, e, _⟩
    · exact e
    · rw [hlook] at e; cases e
  have hlk1 := hlk w1.drew rfl
  have hlk2 := hlk (w1.alloc (.cells #[.string ⟨#[]⟩, .slice none 0 0, .int .i64 0, .int .i64 0, .slice none 0 0] 25)).drew (heap_alloc_old w1 _ (by have := hold1.km; omega))
  clear hlk hkn
  have hall : ∀ o, (fun w' => w'.cell? ⟨F, 0, none⟩ = some (.pointer (some ⟨R, 0, none⟩)) ∧ w'.cell? ⟨R, 0, none⟩ = some (.map (some KM)) ∧ w'.cell? ⟨w.heap.size, 7, none⟩ = some (.string (bs nm))) (w1.alloc o).drew := fun o => ⟨alloc_cell o f0, alloc_cell o r0, alloc_cell o x7⟩
  have HALL : Hid _ := hall
  have hd0 : (fun w' => w'.cell? ⟨F, 0, none⟩ = some (.pointer (some ⟨R, 0, none⟩)) ∧ w'.cell? ⟨R, 0, none⟩ = some (.map (some KM)) ∧ w'.cell? ⟨w.heap.size, 7, none⟩ = some (.string (bs nm))) w1.drew := ⟨f0, r0, x7⟩
  have HD0 : Hid _ := hd0
  clear hall hd0
  have H1f : Hid _ := h1
  have H1r : Hid _ := hr1
  have H1x : Hid _ := hx
  have HB1 : Hid _ := hb1
  have HO1 : Hid _ := hold1
  have HX1 : Hid _ := hX1
  clear h hr h1 hr1 hx hb1 hold1 hold f1 f2 f3 f4 f5 r1 r2 r3 r4 r5 x0 x1 x2 x3 x4 x5 x6 x8 hX1 hF1 hR1
  go_region_held3 (fun w' => w'.cell? ⟨F, 0, none⟩ = some (.pointer (some ⟨R, 0, none⟩)) ∧ w'.cell? ⟨R, 0, none⟩ = some (.map (some KM)) ∧ w'.cell? ⟨w.heap.size, 7, none⟩ = some (.string (bs nm)))
    (first | with_reducible exact HD0.out | with_reducible exact HALL.out _)
    (fail)
  all_goals
    have hb3 : Below w.heap.size w (w1.alloc (.cells #[.string ⟨#[]⟩, .slice none 0 0, .int .i64 0, .int .i64 0, .slice none 0 0] 25)).drew := bl_then (bl_alloc HB1.out _) (drew_bl _)
    have hb13 : Below w1.heap.size w1 (w1.alloc (.cells #[.string ⟨#[]⟩, .slice none 0 0, .int .i64 0, .int .i64 0, .slice none 0 0] 25)).drew := bl_then (bl_alloc (Below.refl _ _) _) (drew_bl _)
    have hN3 : (w1.alloc (.cells #[.string ⟨#[]⟩, .slice none 0 0, .int .i64 0, .int .i64 0, .slice none 0 0] 25)).drew.heap[w1.heap.size]? = some (.cells #[.string ⟨#[]⟩, .slice none 0 0, .int .i64 0, .int .i64 0, .slice none 0 0] 25) := heap_alloc_new w1 _
    generalize (w1.alloc (.cells #[.string ⟨#[]⟩, .slice none 0 0, .int .i64 0, .int .i64 0, .slice none 0 0] 25)).drew = w3 at hb3 hb13 hN3 ⊢
    have h3f : FrM w3 R F G C fr := ⟨(hb13.block F (lt_of_some H1f.out.f)).trans H1f.out.f, (hb13.block G (lt_of_some H1f.out.g)).trans H1f.out.g, (hb13.block C (lt_of_some H1f.out.c)).trans H1f.out.c, H1f.out.fg, H1f.out.fc, H1f.out.gc, H1f.out.rf, H1f.out.rg, H1f.out.rc, H1f.out.regs, H1f.out.cells, H1f.out.res⟩
    have h3r : RnM w3 R KM DM deep st v := ⟨(hb13.block R (lt_of_some H1r.out.r)).trans H1r.out.r, own_kept H1r.out.own (Below.kept hb13 (fun _ => False)) (fun _ _ e => e), H1r.out.left, H1r.out.br⟩
    have h3x : w3.heap[w.heap.size]? = some (.cells #[.int .i64 kd, .int .i64 op, .int .i64 (d : Int), .int .i64 xa, .int .i64 xb, .int .i64 xc, .int .u32 (n : Int), .string (bs nm), .slice ga ag.length gc] 36) := (hb13.block _ HX1.out).trans H1x.out
    have h3o : Old w3 R KM DM P := HO1.out.keep fun k hk => hb13.block k (by have := lt_of_some H1r.out.r; omega)
    have hb13k : ∀ b, b < R → w3.heap[b]? = w1.heap[b]? := fun b hb => hb13.block b (by have := lt_of_some H1r.out.r; omega)
    clear HALL HD0 H1f H1r H1x HO1 HB1 hlk1 hlk2 f0 r0 x7 hb13
    have hrm := room_any (S := fun _ => True) w3 none [] 0 trivial rfl (by simp)
    simp only [List.length_nil, wordsN, cellsN] at hrm
    obtain ⟨n0, n1, n2, n3, n4⟩ := cells5 hN3
    go_wp2_with (first | (go_at_call 27; refine hrm.mono ?_; rintro e w4 ⟨rfl, hb34⟩; refine Hid.out ?_))
    refine Lib.hid ?_
    have hb4 := bl_then hb3 hb34
    have h4f : FrM w4 R F G C fr := ⟨(hb34.block F (lt_of_some h3f.f)).trans h3f.f, (hb34.block G (lt_of_some h3f.g)).trans h3f.g, (hb34.block C (lt_of_some h3f.c)).trans h3f.c, h3f.fg, h3f.fc, h3f.gc, h3f.rf, h3f.rg, h3f.rc, h3f.regs, h3f.cells, h3f.res⟩
    have h4r : RnM w4 R KM DM deep st v := ⟨(hb34.block R (lt_of_some h3r.r)).trans h3r.r, own_kept h3r.own (Below.kept hb34 (fun _ => False)) (fun _ _ e => e), h3r.left, h3r.br⟩
    have h4x : w4.heap[w.heap.size]? = some (.cells #[.int .i64 kd, .int .i64 op, .int .i64 (d : Int), .int .i64 xa, .int .i64 xb, .int .i64 xc, .int .u32 (n : Int), .string (bs nm), .slice ga ag.length gc] 36) := (hb34.block _ (lt_of_some h3x)).trans h3x
    have h4N : w4.heap[w1.heap.size]? = some (.cells #[.string ⟨#[]⟩, .slice none 0 0, .int .i64 0, .int .i64 0, .slice none 0 0] 25) := (hb34.block _ (lt_of_some hN3)).trans hN3
    have h4o : Old w4 R KM DM P := h3o.keep fun k hk => hb34.block k (by have := lt_of_some h3r.r; omega)
    obtain ⟨f0, f1, f2, f3, f4, f5⟩ := h4f.cells6
    obtain ⟨r0, r1, r2, r3, r4, r5⟩ := h4r.cells6
    obtain ⟨x0, x1, x2, x3, x4, x5, x6, x7, x8⟩ := ir_block (x := ⟨kd, op, d, xa, xb, xc, n, nm, ag⟩) h4x
    have fz := row_free h4r.r 5
    simp only at x0 x1 x2 x3 x4 x5 x6 x7 x8
    have HDW : Hid _ := Did.wrong (e := 8) hb4 h4f h4r ha
    clear hb3 hb4 hb34 h3f h3r h3x h3o hN3 h4f h4r h4x h4N h4o hrm f1 f2 f3 f4 f5 r0 r1 r2 r4
    go_wp2_with fail
    go_end0
    exact ⟨rfl, v, HDW.out⟩
end Go.Proofs.Ytclajapdbphlbaa
