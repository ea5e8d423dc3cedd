/- CONTRACT of call. Made by gen/gen_call.py. -/
import Derived.Test.YtclajapdbphlbaaICall
namespace Go.Proofs.Ytclajapdbphlbaa
open Go.ChangeShapes Go.WideShapes Go.ChangeAt Go.RowKit

theorem call_done {w w4 w5 w6 : World} {R KM DM F G C deep : Nat} {fr : Fr} {st9 : St} {v v6 : Value} (hb4 : Below w.heap.size w w4) (h4f : FrM w4 R F G C fr) (hb5 : Below w4.heap.size w4 w5) (hran : Ran w5 w6 R KM DM deep v v6 st9) (ha : Apart F G C v) {d r : Nat} (hr9 : r < 4294967296) :
    Did w (w6.setCell ⟨G, d, none⟩ (.int .u32 (r : Int))) R KM DM F G C deep v v6 { fr with regs := fr.regs.set d r } st9 := by
  have k6 : ∀ k, k < w4.heap.size → k ≠ R → v.ownBlock ≠ some k → w6.heap[k]? = w4.heap[k]? := fun k hk n1 n2 => (hran.kept.block k (Nat.lt_of_lt_of_le hk hb5.size) (fun e => e.elim n1 n2)).trans (hb5.block k hk)
  have a1 := lt_of_some h4f.f
  have a2 := lt_of_some h4f.g
  have a3 := lt_of_some h4f.c
  have s4 := hb4.size
  have s5 := hb5.size
  have s6 := hran.kept.size
  have b1 := h4f.rf
  have b2 := h4f.rg
  have b3 := h4f.rc
  have hap : Apart F G C v6 := fun q e => by
    rcases hran.fresh q e with h | h
    · exact ha q h
    · omega
  have hf6 : FrM w6 R F G C fr := ⟨(k6 F a1 (by omega) fun e => (ha F e).1 rfl).trans h4f.f, (k6 G a2 (by omega) fun e => (ha G e).2.1 rfl).trans h4f.g, (k6 C a3 (by omega) fun e => (ha C e).2.2 rfl).trans h4f.c, h4f.fg, h4f.fc, h4f.gc, h4f.rf, h4f.rg, h4f.rc, h4f.regs, h4f.cells, h4f.res⟩
  have hd6 : Did w w6 R KM DM F G C deep v v6 fr st9 := by
    refine ⟨hran.rn, hf6, ⟨hran.kept.os.trans (hb5.os.trans hb4.os), hran.kept.tape.trans (hb5.tape.trans hb4.tape), hran.kept.output.trans (hb5.output.trans hb4.output), by omega, fun k hk hm => ?_⟩, fun q e => ?_, hap⟩
    · exact (k6 k (by omega) (fun e => hm (.inl e)) (fun e => hm (.inr (.inr (.inr (.inr e)))))).trans (hb4.block k hk)
    · rcases hran.fresh q e with h | h
      · exact .inl h
      · right; omega
  refine hd6.trans (Did.regs hf6 hran.rn hap (SetR.of (Below.refl _ _) hf6.g) (by simp) fun n hn => ?_)
  rcases List.mem_or_eq_of_mem_set hn with h | h
  · exact h4f.regs n h
  · omega
theorem words_all {l : List Ty} (hok : l.all tyOk = true) (h : cellsN l = 0) : wordsN l = l.length := by
  induction l with
  | nil => rfl
  | cons t l ih =>
    simp only [List.all_cons, Bool.and_eq_true] at hok
    have h1 := hok.1
    simp only [tyOk, Bool.and_eq_true, decide_eq_true_eq] at h1
    have h2 := (cellsN_bd l hok.2).1
    simp only [cellsN] at h
    have h3 : t.len = 0 := by omega
    have := ih hok.2 (by omega)
    simp only [wordsN, h3, if_true, List.length_cons]
    omega
set_option maxRecDepth 100000 in
set_option maxHeartbeats 8000000 in
theorem call_run {P : List Co} (hgood : Good P) {R KM DM F G C deep : Nat} {fr : Fr} {st : St} {v : Value} (x : Ir) (ga : Option Addr) (gc : Nat) (w : World) (hold : Old w R KM DM P) (h : FrM w R F G C fr) (hr : RnM w R KM DM deep st v) (ha : Apart F G C v) (hnm : x.name.length ≤ 1000000000) (d : Nat) (hd : x.d = d) (c : Co) (hc : c ∈ P) (hlook : look P x.name = some c) (heq : c.ps.length = x.args.length) (hcp : ¬ 0 < cellsN c.ps) (hdp : deep < 32) {g : Nat} (hfin : FinOk P g) (hle : st.wrong = 0 → st.left < g) (hdl : d < fr.regs.length) (hargs : kInt.row w (fun b => b < R) ga x.args) (hin : ∀ i ∈ x.args, 0 ≤ i ∧ i < fr.regs.length) (ha6 : x.args.length ≤ 1000000) :
    Calls Try.prog 51 #[.pointer (some ⟨F, 0, none⟩), irV x ga gc] w fun e w' => e = .returned (.tuple #[]) ∧ ∃ v', Did w w' R KM DM F G C deep v v' { fr with regs := fr.regs.set d (runF P g (deep + 1) c (startF c (x.args.map (at0 fr.regs))) st).1.result } (runF P g (deep + 1) c (startF c (x.args.map (at0 fr.regs))) st).2 := by
  obtain ⟨kd, op, xd, xa, xb, xc, n, nm, ag⟩ := x
  simp only at *
  subst hd
  have HEQ : Hid _ := heq
  have HARGS : Hid _ := hargs
  have HAIN : Hid _ := hin
  have hvl : ∀ q, v.ownBlock = some q → q < w.heap.size := fun q e => (World.ownsRow.lt hr.own q e).2
  have HVLT : Hid _ := hvl
  have HGW : Hid (G < w.heap.size) := lt_of_some h.g
  have hinn := fun (w5 : World) (pa : Option Addr) (pc : Nat) (la : Option Addr) (lc : Nat) (aa : Option Addr) (ac : Nat) (S : Nat → Prop) (a1 : Old w5 R KM DM P) (a2 : RnM w5 R KM DM deep st v) (a3 : CoIn w5 (fun b => b < R) c pa pc la lc) (a4 : ∀ b, S b → b ≠ R) (a5 : kWd.row w5 S aa (ag.map (at0 fr.regs))) (a6 : (ag.map (at0 fr.regs)).length ≤ ac) (a7 : ((ag.map (at0 fr.regs)).length : Int) = wordsN c.ps + cellsN c.ps) => inner_any hfin hgood c pa pc la lc (ag.map (at0 fr.regs)) aa ac w5 a1 a2 hc a3 a4 a5 a6 a7 hdp hle
  generalize runF P g (deep + 1) c (startF c (ag.map (at0 fr.regs))) st = res at hinn ⊢
  obtain ⟨fr9, st9⟩ := res
  simp only at hinn ⊢
  have HINN : Hid _ := hinn
  clear heq hargs hin hfin hle hinn hvl
  have h1 := h.box (.cells #[.int .i64 kd, .int .i64 op, .int .i64 (d : Int), .int .i64 xa, .int .i64 xb, .int .i64 xc, .int .u32 (n : Int), .string (bs nm), .slice ga ag.length gc] 36)
  have hr1 := hr.box (.cells #[.int .i64 kd, .int .i64 op, .int .i64 (d : Int), .int .i64 xa, .int .i64 xb, .int .i64 xc, .int .u32 (n : Int), .string (bs nm), .slice ga ag.length gc] 36)
  have hx := heap_alloc_new w (.cells #[.int .i64 kd, .int .i64 op, .int .i64 (d : Int), .int .i64 xa, .int .i64 xb, .int .i64 xc, .int .u32 (n : Int), .string (bs nm), .slice ga ag.length gc] 36)
  have hb1 := bl_alloc (Below.refl w.heap.size w) (.cells #[.int .i64 kd, .int .i64 op, .int .i64 (d : Int), .int .i64 xa, .int .i64 xb, .int .i64 xc, .int .u32 (n : Int), .string (bs nm), .slice ga ag.length gc] 36)
  have hRw := lt_of_some hr.r
  have hFw := lt_of_some h.f
  have nrf := h.rf
  have hold1 := hold.keep (w' := w.alloc (.cells #[.int .i64 kd, .int .i64 op, .int .i64 (d : Int), .int .i64 xa, .int .i64 xb, .int .i64 xc, .int .u32 (n : Int), .string (bs nm), .slice ga ag.length gc] 36)) fun k hk => hb1.block k (by omega)
  have HRw : Hid _ := hRw
  have HFw : Hid _ := hFw
  clear hRw hFw
  unfold irV
  go_enter Try.func51, Try.ntmps51
  go_wp2_with fail
  generalize w.alloc (.cells #[.int .i64 kd, .int .i64 op, .int .i64 (d : Int), .int .i64 xa, .int .i64 xb, .int .i64 xc, .int .u32 (n : Int), .string (bs nm), .slice ga ag.length gc] 36) = w1 at h1 hr1 hx hb1 hold1 ⊢
  obtain ⟨f0, f1, f2, f3, f4, f5⟩ := h1.cells6
  obtain ⟨r0, r1, r2, r3, r4, r5⟩ := hr1.cells6
  obtain ⟨x0, x1, x2, x3, x4, x5, x6, x7, x8⟩ := ir_block (x := ⟨kd, op, d, xa, xb, xc, n, nm, ag⟩) hx
  simp only at x0 x1 x2 x3 x4 x5 x6 x7 x8
  have hX1 : w.heap.size < w1.heap.size := lt_of_some hx
  have hF1 : F < w1.heap.size := lt_of_some h1.f
  have hR1 : R < w1.heap.size := lt_of_some hr1.r
  have hkn := known_look hold1 hgood nm hnm
  rw [hlook] at hkn
  obtain ⟨c9, pa, pc, la, lc, e9, _, hin1, hlk0⟩ : ∃ c9 pa pc la lc, some c = some c9 ∧ c9 ∈ P ∧ CoIn w1 (fun b => b < R) c9 pa pc la lc ∧ ∀ W : World, W.heap[KM]? = w1.heap[KM]? → (Instr.lookup 60 (.map (some KM)) (.string (bs nm)) true).run Try.prog W = .ok (.tuple #[coV c9 pa pc la lc, .bool true]) W := by
    rcases hkn with ⟨e, _⟩ | hh
    · cases e
    · exact hh
  obtain rfl : c = c9 := Option.some.inj e9
  unfold coV at hlk0
  have hlk1 := hlk0 w1.drew rfl
  have hlk2 := hlk0 (w1.alloc (.cells #[.string ⟨#[]⟩, .slice none 0 0, .int .i64 0, .int .i64 0, .slice none 0 0] 25)).drew (heap_alloc_old w1 _ (by have := hold1.km; omega))
  clear hlk0 hkn e9
  have HIN : Hid _ := hin1
  clear hin1
  have hall : ∀ o, (fun w' => w'.cell? ⟨F, 0, none⟩ = some (.pointer (some ⟨R, 0, none⟩)) ∧ w'.cell? ⟨R, 0, none⟩ = some (.map (some KM)) ∧ w'.cell? ⟨w.heap.size, 7, none⟩ = some (.string (bs nm))) (w1.alloc o).drew := fun o => ⟨alloc_cell o f0, alloc_cell o r0, alloc_cell o x7⟩
  have HALL : Hid _ := hall
  have hd0 : (fun w' => w'.cell? ⟨F, 0, none⟩ = some (.pointer (some ⟨R, 0, none⟩)) ∧ w'.cell? ⟨R, 0, none⟩ = some (.map (some KM)) ∧ w'.cell? ⟨w.heap.size, 7, none⟩ = some (.string (bs nm))) w1.drew := ⟨f0, r0, x7⟩
  have HD0 : Hid _ := hd0
  clear hall hd0
  have H1f : Hid _ := h1
  have H1r : Hid _ := hr1
  have H1x : Hid _ := hx
  have HB1 : Hid _ := hb1
  have HO1 : Hid _ := hold1
  have HX1 : Hid _ := hX1
  clear h hr h1 hr1 hx hb1 hold1 hold f1 f2 f3 f4 f5 r1 r2 r3 r4 r5 x0 x1 x2 x3 x4 x5 x6 x8 hX1 hF1 hR1
  go_region_held3 (fun w' => w'.cell? ⟨F, 0, none⟩ = some (.pointer (some ⟨R, 0, none⟩)) ∧ w'.cell? ⟨R, 0, none⟩ = some (.map (some KM)) ∧ w'.cell? ⟨w.heap.size, 7, none⟩ = some (.string (bs nm)))
    (first | with_reducible exact HD0.out | with_reducible exact HALL.out _)
    (fail)
  all_goals
    have hb3 : Below w.heap.size w (w1.alloc (.cells #[.string (bs c.name), .slice pa c.ps.length pc, .int .i64 c.regs, .int .i64 c.cells, .slice la c.l.length lc] 25)).drew := bl_then (bl_alloc HB1.out _) (drew_bl _)
    have hb13 : Below w1.heap.size w1 (w1.alloc (.cells #[.string (bs c.name), .slice pa c.ps.length pc, .int .i64 c.regs, .int .i64 c.cells, .slice la c.l.length lc] 25)).drew := bl_then (bl_alloc (Below.refl _ _) _) (drew_bl _)
    have hN3 : (w1.alloc (.cells #[.string (bs c.name), .slice pa c.ps.length pc, .int .i64 c.regs, .int .i64 c.cells, .slice la c.l.length lc] 25)).drew.heap[w1.heap.size]? = some (.cells #[.string (bs c.name), .slice pa c.ps.length pc, .int .i64 c.regs, .int .i64 c.cells, .slice la c.l.length lc] 25) := heap_alloc_new w1 _
    generalize (w1.alloc (.cells #[.string (bs c.name), .slice pa c.ps.length pc, .int .i64 c.regs, .int .i64 c.cells, .slice la c.l.length lc] 25)).drew = w3 at hb3 hb13 hN3 ⊢
    have h3f : FrM w3 R F G C fr := ⟨(hb13.block F (lt_of_some H1f.out.f)).trans H1f.out.f, (hb13.block G (lt_of_some H1f.out.g)).trans H1f.out.g, (hb13.block C (lt_of_some H1f.out.c)).trans H1f.out.c, H1f.out.fg, H1f.out.fc, H1f.out.gc, H1f.out.rf, H1f.out.rg, H1f.out.rc, H1f.out.regs, H1f.out.cells, H1f.out.res⟩
    have h3r : RnM w3 R KM DM deep st v := ⟨(hb13.block R (lt_of_some H1r.out.r)).trans H1r.out.r, own_kept H1r.out.own (Below.kept hb13 (fun _ => False)) (fun _ _ e => e), H1r.out.left, H1r.out.br⟩
    have h3x : w3.heap[w.heap.size]? = some (.cells #[.int .i64 kd, .int .i64 op, .int .i64 (d : Int), .int .i64 xa, .int .i64 xb, .int .i64 xc, .int .u32 (n : Int), .string (bs nm), .slice ga ag.length gc] 36) := (hb13.block _ HX1.out).trans H1x.out
    have h3o : Old w3 R KM DM P := HO1.out.keep fun k hk => hb13.block k (by have := lt_of_some H1r.out.r; omega)
    have hb13k : ∀ b, b < R → w3.heap[b]? = w1.heap[b]? := fun b hb => hb13.block b (by have := lt_of_some H1r.out.r; omega)
    clear HALL HD0 H1f H1r H1x HO1 HB1 hlk1 hlk2 f0 r0 x7 hb13
    have hin3 := HIN.out.mono (w' := w3) (T := fun b => b < R) fun b hb _ => ⟨hb, hb13k b hb⟩
    obtain ⟨z1, z2, z3, z4, z5, z6, z7, z8, z9⟩ := formB_parts (right_form (hgood.right c hc))
    have hrm := room_any w3 pa c.ps pc hin3.ps z5 (by omega)
    obtain ⟨n0, n1, n2, n3, n4⟩ := cells5 hN3
    go_wp2_with (first | (go_at_call 27; refine hrm.mono ?_; rintro e w4 ⟨rfl, hb34⟩; refine Hid.out ?_))
    refine Lib.hid ?_
    have hb4 := bl_then hb3 hb34
    have h4f : FrM w4 R F G C fr := ⟨(hb34.block F (lt_of_some h3f.f)).trans h3f.f, (hb34.block G (lt_of_some h3f.g)).trans h3f.g, (hb34.block C (lt_of_some h3f.c)).trans h3f.c, h3f.fg, h3f.fc, h3f.gc, h3f.rf, h3f.rg, h3f.rc, h3f.regs, h3f.cells, h3f.res⟩
    have h4r : RnM w4 R KM DM deep st v := ⟨(hb34.block R (lt_of_some h3r.r)).trans h3r.r, own_kept h3r.own (Below.kept hb34 (fun _ => False)) (fun _ _ e => e), h3r.left, h3r.br⟩
    have h4x : w4.heap[w.heap.size]? = some (.cells #[.int .i64 kd, .int .i64 op, .int .i64 (d : Int), .int .i64 xa, .int .i64 xb, .int .i64 xc, .int .u32 (n : Int), .string (bs nm), .slice ga ag.length gc] 36) := (hb34.block _ (lt_of_some h3x)).trans h3x
    have h4N : w4.heap[w1.heap.size]? = some (.cells #[.string (bs c.name), .slice pa c.ps.length pc, .int .i64 c.regs, .int .i64 c.cells, .slice la c.l.length lc] 25) := (hb34.block _ (lt_of_some hN3)).trans hN3
    have h4o : Old w4 R KM DM P := h3o.keep fun k hk => hb34.block k (by have := lt_of_some h3r.r; omega)
    obtain ⟨f0, f1, f2, f3, f4, f5⟩ := h4f.cells6
    obtain ⟨r0, r1, r2, r3, r4, r5⟩ := h4r.cells6
    obtain ⟨x0, x1, x2, x3, x4, x5, x6, x7, x8⟩ := ir_block (x := ⟨kd, op, d, xa, xb, xc, n, nm, ag⟩) h4x
    have fz := row_free h4r.r 5
    simp only at x0 x1 x2 x3 x4 x5 x6 x7 x8
    rw [← HEQ.out] at x8
    obtain ⟨n0, n1, n2, n3, n4⟩ := cells5 h4N
    have hdp0 : ((deep : Int) == 32) = false := by rw [beq_eq_false_iff_ne]; omega
    have hcp0 : cellsN c.ps = 0 := by have := (cellsN_bd c.ps z5).1; omega
    have hwl : (wordsN c.ps : Int) + cellsN c.ps = ag.length := by have := words_all z5 hcp0; have := HEQ.out; omega
    have hargs4 : kInt.row w4.drew (fun b => b < R) ga ag := kInt.row_mono (by decide) HARGS.out fun b hb hlt => ⟨hb, hb4.block b hlt⟩
    have hval := values_any ga gc ag w4.drew (⟨h4f.f, h4f.g, h4f.c, h4f.fg, h4f.fc, h4f.gc, h4f.rf, h4f.rg, h4f.rc, h4f.regs, h4f.cells, h4f.res⟩ : FrM w4.drew R F G C fr) hargs4 ha6 HAIN.out
    rw [← HEQ.out] at hval
    have hF4 := lt_of_some h4f.f
    have hG4 := lt_of_some h4f.g
    have hC4 := lt_of_some h4f.c
    have hR4 := lt_of_some h4r.r
    have hX4 := lt_of_some h4x
    have hN4 := lt_of_some h4N
    have hown4 := h4r.own
    have h4rd : RnM w4.drew R KM DM deep st v := ⟨h4r.r, own_kept h4r.own (Below.kept (drew_bl w4) (fun _ => False)) (fun _ _ e => e), h4r.left, h4r.br⟩
    have hinn := fun (w5 : World) (aa : Option Addr) (ac : Nat) (hrow : kWd.row w5 (fun b => w4.drew.heap.size ≤ b) aa (ag.map (at0 fr.regs))) (hac : (ag.map (at0 fr.regs)).length ≤ ac) (hb : Below w4.drew.heap.size w4.drew w5) => HINN.out w5 pa pc la lc aa ac (fun b => w4.drew.heap.size ≤ b) (h4o.keep fun k hk => hb.block k (Nat.lt_trans hk hR4)) (⟨(hb.block R hR4).trans h4r.r, own_kept h4rd.own (Below.kept hb (fun _ => False)) (fun _ _ e => e), h4r.left, h4r.br⟩ : RnM w5 R KM DM deep st v) (hin3.mono fun b hb2 hlt => ⟨hb2, (hb.block b (Nat.lt_trans hb2 hR4)).trans (hb34.block b (Nat.lt_trans hb2 (lt_of_some h3r.r)))⟩) (fun b hb2 e => by have h9 : w4.heap.size ≤ b := hb2; omega) hrow hac (by rw [List.length_map]; exact hwl.symm)
    simp only [List.length_map] at hinn
    rw [← HEQ.out] at hinn
    have hblk : ∀ W : World, W.heap[F]? = w4.heap[F]? → W.heap[w.heap.size]? = w4.heap[w.heap.size]? → W.heap[w1.heap.size]? = w4.heap[w1.heap.size]? → W.cell? ⟨F, 0, none⟩ = some (.pointer (some ⟨R, 0, none⟩)) ∧ W.cell? ⟨F, 1, none⟩ = some (.slice (some ⟨G, 0, none⟩) fr.regs.length fr.regs.length) ∧ W.cell? ⟨w.heap.size, 2, none⟩ = some (.int .i64 (d : Int)) ∧ W.cell? ⟨w.heap.size, 8, none⟩ = some (.slice ga c.ps.length gc) ∧ W.cell? ⟨w1.heap.size, 0, none⟩ = some (.string (bs c.name)) ∧ W.cell? ⟨w1.heap.size, 1, none⟩ = some (.slice pa c.ps.length pc) ∧ W.cell? ⟨w1.heap.size, 2, none⟩ = some (.int .i64 c.regs) ∧ W.cell? ⟨w1.heap.size, 3, none⟩ = some (.int .i64 c.cells) ∧ W.cell? ⟨w1.heap.size, 4, none⟩ = some (.slice la c.l.length lc) := fun W e1 e2 e3 => ⟨(World.cell?_of_block e1).trans f0, (World.cell?_of_block e1).trans f1, (World.cell?_of_block e2).trans x2, (World.cell?_of_block e2).trans x8, (World.cell?_of_block e3).trans n0, (World.cell?_of_block e3).trans n1, (World.cell?_of_block e3).trans n2, (World.cell?_of_block e3).trans n3, (World.cell?_of_block e3).trans n4⟩
    have HBLK : Hid _ := hblk
    have hS4 : w4.drew.cell? ⟨F, 0, none⟩ = some (.pointer (some ⟨R, 0, none⟩)) ∧ w4.drew.cell? ⟨F, 1, none⟩ = some (.slice (some ⟨G, 0, none⟩) fr.regs.length fr.regs.length) ∧ w4.drew.cell? ⟨w.heap.size, 2, none⟩ = some (.int .i64 (d : Int)) ∧ w4.drew.cell? ⟨w.heap.size, 8, none⟩ = some (.slice ga c.ps.length gc) ∧ w4.drew.cell? ⟨w1.heap.size, 0, none⟩ = some (.string (bs c.name)) ∧ w4.drew.cell? ⟨w1.heap.size, 1, none⟩ = some (.slice pa c.ps.length pc) ∧ w4.drew.cell? ⟨w1.heap.size, 2, none⟩ = some (.int .i64 c.regs) ∧ w4.drew.cell? ⟨w1.heap.size, 3, none⟩ = some (.int .i64 c.cells) ∧ w4.drew.cell? ⟨w1.heap.size, 4, none⟩ = some (.slice la c.l.length lc) := hblk w4.drew rfl rfl rfl
    have hXR : w.heap.size ≠ R := by have := HRw.out; omega
    have hNR : w1.heap.size ≠ R := by have := HRw.out; have := HX1.out; omega
    have hvlt : ∀ q, v.ownBlock = some q → q < w.heap.size := fun q e => HVLT.out q e
    have HS4 : Hid _ := hS4
    have gd := row_cell h4f.g hdl
    have i0 : (0 : Int) ≤ (d : Int) := by omega
    have i1 : (d : Int) < (fr.regs.length : Int) := by omega
    clear hblk hS4 hrm
    have hl5 : (List.map (at0 fr.regs) ag).length = c.ps.length := by rw [List.length_map]; exact HEQ.out.symm
    have hk6 : ∀ {w5 w6 : World} {v6 : Value}, Below w4.drew.heap.size w4.drew w5 → Ran w5 w6 R KM DM deep v v6 st9 → ∀ k, k < w4.heap.size → k ≠ R → v.ownBlock ≠ some k → w6.heap[k]? = w4.heap[k]? := fun {w5 w6 v6} hb hran k hk n1 n2 => (hran.kept.block k (Nat.lt_of_lt_of_le hk hb.size) (fun e => e.elim n1 n2)).trans (hb.block k hk)
    have HK6 : Hid _ := @hk6
    have nFR : F ≠ R := by have := h4f.rf; omega
    have nGR : G ≠ R := by have := h4f.rg; omega
    have nFG := h4f.fg
    have nXG : w.heap.size ≠ G := by have := HGW.out; omega
    have nNG : w1.heap.size ≠ G := by have := HGW.out; have := HX1.out; omega
    have vF : v.ownBlock ≠ some F := fun e => (ha F e).1 rfl
    have vG : v.ownBlock ≠ some G := fun e => (ha G e).2.1 rfl
    have vX : v.ownBlock ≠ some w.heap.size := fun e => by have := hvlt _ e; omega
    have vN : v.ownBlock ≠ some w1.heap.size := fun e => by have := hvlt _ e; have := HX1.out; omega
    have H4f : Hid _ := h4f
    have HB4 : Hid _ := hb4
    have hG4r := h4f.g
    have HG4 : Hid _ := hG4r
    clear hk6 hvlt h4f h4r h4x h4N h4o h4rd hb3 hb34 hb4 h3f h3r h3x h3o hN3 hin3 hargs4 hown4 r0 r1 r2 r4 r5 x0 x1 x3 x4 x5 x6 x7 f2 f3 f4 f5 fz gd hG4r hb13k
    go_wp2_with fail
    clear n0 n1 n2 n3 n4 f0 f1 x2 x8 r3
    go_region_held3 (fun w' => w'.cell? ⟨F, 0, none⟩ = some (.pointer (some ⟨R, 0, none⟩)) ∧ w'.cell? ⟨F, 1, none⟩ = some (.slice (some ⟨G, 0, none⟩) fr.regs.length fr.regs.length) ∧ w'.cell? ⟨w.heap.size, 2, none⟩ = some (.int .i64 (d : Int)) ∧ w'.cell? ⟨w.heap.size, 8, none⟩ = some (.slice ga c.ps.length gc) ∧ w'.cell? ⟨w1.heap.size, 0, none⟩ = some (.string (bs c.name)) ∧ w'.cell? ⟨w1.heap.size, 1, none⟩ = some (.slice pa c.ps.length pc) ∧ w'.cell? ⟨w1.heap.size, 2, none⟩ = some (.int .i64 c.regs) ∧ w'.cell? ⟨w1.heap.size, 3, none⟩ = some (.int .i64 c.cells) ∧ w'.cell? ⟨w1.heap.size, 4, none⟩ = some (.slice la c.l.length lc))
      (first | with_reducible exact HS4.out | with_reducible exact S5 | with_reducible exact S6 | with_reducible exact S7 _)
      (first | (go_at_call 71; refine hval.mono ?_; rintro e w5 ⟨⟨v5, rfl, hrd5⟩, hb5⟩; obtain ⟨aa, ac, rfl, hrow5, hcap5⟩ := hrd5; have S5 := HBLK.out w5 (hb5.block F hF4) (hb5.block _ hX4) (hb5.block _ hN4); have hinn5 := hinn w5 aa ac hrow5 (by have h9 := hcap5; rw [hl5] at h9; exact h9) hb5; rw [hl5]) | (go_at_call 70; refine hinn5.mono ?_; rintro e w6 ⟨rfl, hr9, v6, hran⟩; have S6 := HBLK.out w6 (HK6.out hb5 hran F hF4 nFR vF) (HK6.out hb5 hran _ hX4 hXR vX) (HK6.out hb5 hran _ hN4 hNR vN); have hG6 := (HK6.out hb5 hran G hG4 nGR vG).trans HG4.out; have gd6 := row_cell hG6 hdl; have fz6 := row_free hG6 d; have S7 := fun u => HBLK.out (w6.setCell ⟨G, d, none⟩ u) ((setCell_other nFG).trans (HK6.out hb5 hran F hF4 nFR vF)) ((setCell_other nXG).trans (HK6.out hb5 hran _ hX4 hXR vX)) ((setCell_other nNG).trans (HK6.out hb5 hran _ hN4 hNR vN))))
    have HFD : Hid _ := call_done (d := d) HB4.out H4f.out (bl_then (drew_bl w4) hb5) hran ha hr9
    clear S5 S6 S7 hran hb5 hinn5 hinn hval HINN HBLK HK6 H4f HB4 HS4 hrow5
    go_wp2_with fail
    go_end0
    exact ⟨rfl, v6, HFD.out⟩
end Go.Proofs.Ytclajapdbphlbaa
