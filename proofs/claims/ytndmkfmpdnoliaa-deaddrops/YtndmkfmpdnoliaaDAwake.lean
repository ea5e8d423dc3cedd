/- CONTRACTS of Drop and Read in the statements' form; of awake. -/
import Derived.Test.YtndmkfmpdnoliaaDRead
namespace Go.Proofs.Ytndmkfmpdnoliaa
open Go.ChangeShapes Go.WideShapes Go.ChangeAt Go.RowKit

theorem drop_l (c : Co) : (dropC c).l = freeL c.l := rfl
/-- Where nothing is wrong. -/
theorem drop_yesN {B : Nat} {S : Nat → Prop} (x : Co) (pa : Option Addr) (pc : Nat) (la : Option Addr) (lc : Nat) (w : World) (hin : CoIn w S x pa pc la lc) (hok : CoOk x) (hd : D64 x.l) (hg : Glob B w) (hr : (rightR x).1 = 0) :
    Calls Try.prog 17 #[.agg #[.string (bs x.name), .slice pa x.ps.length pc, .int .i64 x.regs, .int .i64 x.cells, .slice la x.l.length lc]] w fun e w' => ∃ qa qc ra rc, e = .returned (.tuple #[.agg #[.string (bs x.name), .slice qa x.ps.length qc, .int .i64 x.regs, .int .i64 x.cells, .slice ra (freeL x.l).length rc], .int .i64 0]) ∧ CoIn w' (fun b => w.heap.size ≤ b) (dropC x) qa qc ra rc ∧ Below w.heap.size w w' := by
  refine (drop_any x pa pc la lc w hin hok hd hg).mono fun e w' hh => ?_
  unfold DropPost at hh
  rw [dropT_ok hr] at hh
  obtain ⟨qa, qc, ra, rc, rfl, h1, h2⟩ := hh
  exact ⟨qa, qc, ra, rc, rfl, h1, h2⟩
theorem drop_no {B : Nat} {S : Nat → Prop} (x : Co) (pa : Option Addr) (pc : Nat) (la : Option Addr) (lc : Nat) (w : World) (hin : CoIn w S x pa pc la lc) (hok : CoOk x) (hd : D64 x.l) (hg : Glob B w) (hr : (rightR x).1 ≠ 0) :
    Calls Try.prog 17 #[.agg #[.string (bs x.name), .slice pa x.ps.length pc, .int .i64 x.regs, .int .i64 x.cells, .slice la x.l.length lc]] w fun e w' => ∃ qa qc ra rc, e = .returned (.tuple #[.agg #[.string ⟨#[]⟩, .slice qa 0 qc, .int .i64 0, .int .i64 0, .slice ra 0 rc], .int .i64 (rightR x).1]) ∧ CoIn w' (fun _ => True) noCo qa qc ra rc ∧ Below w.heap.size w w' := by
  refine (drop_any x pa pc la lc w hin hok hd hg).mono fun e w' hh => ?_
  unfold DropPost at hh
  rw [dropT_no hr] at hh
  obtain ⟨qa, qc, ra, rc, rfl, h1, h2⟩ := hh
  exact ⟨qa, qc, ra, rc, rfl, h1.mono fun b _ _ => ⟨trivial, rfl⟩, h2⟩
theorem free_mem {l : List Ir} {z : Ir} (h : z ∈ freeL l) : ∃ y ∈ l, z.name = y.name ∧ z.args = y.args ∧ z.d = y.d := by
  obtain ⟨k, hk, rfl⟩ := List.getElem_of_mem h
  obtain ⟨i, hi, _, _, e⟩ := free_of l k hk
  obtain ⟨_, _, s3, _, _, _, s7, s8⟩ := jmpX_same (live (deadL l)) l[i]
  exact ⟨l[i], List.getElem_mem hi, by rw [e]; exact s7, by rw [e]; exact s8, by rw [e]; exact s3⟩
theorem dropC_ok {c : Co} (h : CoOk c) : CoOk (dropC c) := ⟨h.name, fun z hz => by
  obtain ⟨y, hy, h1, h2, _⟩ := free_mem (l := c.l) hz
  rw [h1, h2]
  exact h.ins y hy⟩
theorem dropC_d64 {c : Co} (h : D64 c.l) : D64 (dropC c).l := fun z hz => by
  obtain ⟨y, hy, _, _, h3⟩ := free_mem (l := c.l) hz
  rw [h3]
  exact h y hy

/-- The one function. -/
def cD : Co := ⟨[97, 46, 102], [], 2, 0, [⟨1, 0, 0, 0, 0, 0, 5, [], []⟩, ⟨1, 0, 1, 0, 0, 0, 6, [], []⟩, ⟨10, 0, 0, 0, 0, 0, 0, [], []⟩]⟩
theorem right_cD : rightR cD = (0, -1) := by decide +kernel
theorem free_cD : (freeL cD.l).length = 2 := by decide +kernel
theorem read_cD : readM cD 0 = [0] := by decide +kernel
theorem cD_ok : CoOk cD := ⟨by decide, by decide⟩
theorem cD_d64 : D64 cD.l := by unfold D64 In64; decide
theorem cD_plain : PlainIr cD.l := by unfold PlainIr; decide
abbrev irsD : Obj := .cells #[.int .i64 1, .int .i64 0, .int .i64 0, .int .i64 0, .int .i64 0, .int .i64 0, .int .u32 5, .string ⟨#[]⟩, .slice none 0 0, .int .i64 1, .int .i64 0, .int .i64 1, .int .i64 0, .int .i64 0, .int .i64 0, .int .u32 6, .string ⟨#[]⟩, .slice none 0 0, .int .i64 10, .int .i64 0, .int .i64 0, .int .i64 0, .int .i64 0, .int .i64 0, .int .u32 0, .string ⟨#[]⟩, .slice none 0 0] 50
abbrev coD (b : Nat) : Obj := .cells #[.string ⟨#[97, 46, 102]⟩, .slice none 0 0, .int .i64 2, .int .i64 0, .slice (some ⟨b, 0, none⟩) 3 3] 39
theorem cD_in {w : World} {b : Nat} (h : w.heap[b]? = some irsD) : CoIn w (fun _ => True) cD none 0 (some ⟨b, 0, none⟩) 3 := ⟨Nat.le_refl _, Nat.le_refl _, trivial, irs_rowG cD_plain h⟩
theorem cD_drop {B : Nat} {w : World} {b : Nat} (hg : Glob B w) (h : w.heap[b]? = some irsD) : Calls Try.prog 17 #[.agg #[.string ⟨#[97, 46, 102]⟩, .slice none 0 0, .int .i64 2, .int .i64 0, .slice (some ⟨b, 0, none⟩) 3 3]] w fun e w' => ∃ qa qc ra rc, e = .returned (.tuple #[.agg #[.string ⟨#[97, 46, 102]⟩, .slice qa 0 qc, .int .i64 2, .int .i64 0, .slice ra 2 rc], .int .i64 0]) ∧ Below w.heap.size w w' := by
  have := drop_yesN cD none 0 (some ⟨b, 0, none⟩) 3 w (cD_in h) cD_ok cD_d64 hg (by rw [right_cD])
  refine this.mono fun e w' hh => ?_
  obtain ⟨qa, qc, ra, rc, rfl, _, h2⟩ := hh
  rw [free_cD]
  exact ⟨qa, qc, ra, rc, rfl, h2⟩
theorem cD_read {B : Nat} {w : World} {b : Nat} (hg : Glob B w) (h : w.heap[b]? = some irsD) : Calls Try.prog 20 #[.agg #[.string ⟨#[97, 46, 102]⟩, .slice none 0 0, .int .i64 2, .int .i64 0, .slice (some ⟨b, 0, none⟩) 3 3], .int .i64 0] w fun e w' => (∃ b o c, e = .returned (.slice (some ⟨b, o, none⟩) 1 c) ∧ w'.cell? ⟨b, o, none⟩ = some (.int .i64 0)) ∧ Below w.heap.size w w' := by
  have := read_any cD none 0 (some ⟨b, 0, none⟩) 3 0 w (cD_in h) cD_ok cD_d64 hg
  refine this.mono fun e w' hh => ?_
  obtain ⟨⟨v, rfl, a, c, rfl, h1, _⟩, h2⟩ := hh
  rw [read_cD] at h1 ⊢
  obtain ⟨b', o, rfl, _, _, hc⟩ := int_at h1 0 (by decide)
  exact ⟨⟨b', o, c, rfl, hc⟩, h2⟩
set_option maxRecDepth 100000 in
set_option maxHeartbeats 4000000 in
theorem awake10_any {B : Nat} (w : World) (hg : Glob B w) : Calls Try.prog 16 #[] w fun e w' => e = .returned (.bool true) ∧ Below w.heap.size w w' := by
  have HL : Hid _ := two_box' w irsD (coD w.heap.size)
  go_enter Try.func16, Try.ntmps16
  go_upto_region 2 with fail
  generalize World.alloc (World.alloc w _) _ = w1 at HL ⊢
  obtain ⟨h1, h2, hb1, hz1⟩ := HL.out
  have hfo := cD_drop (B := B) (b := w.heap.size) (hg.below hb1) h1
  obtain ⟨k0, k1, k2, k3, k4⟩ := five h2
  have HB1 : Hid _ := hb1
  have H1 : Hid _ := h1
  have H2 : Hid _ := h2
  clear h1 h2 HL hb1
  go_upto_region 3 with (first | (go_at_call 17; refine hfo.mono ?_; rintro e w2 ⟨qa, qc, ra, rc, rfl, hb2⟩))
  have hx3 := heap_alloc_new w2 (.cells #[.string ⟨#[97, 46, 102]⟩, .slice qa 0 qc, .int .i64 2, .int .i64 0, .slice ra 2 rc] 39)
  have hbb := bl_then hb2 (bl_alloc (Below.refl w2.heap.size w2) (.cells #[.string ⟨#[97, 46, 102]⟩, .slice qa 0 qc, .int .i64 2, .int .i64 0, .slice ra 2 rc] 39))
  generalize World.alloc w2 _ = w3 at hx3 hbb ⊢
  have h13 := (hbb.block _ (lt_of_some H1.out)).trans H1.out
  have h23 := (hbb.block _ (lt_of_some H2.out)).trans H2.out
  have hB3 := bl_then HB1.out hbb
  have hrd := cD_read (B := B) (b := w.heap.size) (hg.below hB3) h13
  obtain ⟨k0, k1, k2, k3, k4⟩ := five h23
  have HB3 : Hid _ := hB3
  have HX3 : Hid _ := hx3
  clear hfo hb2 hbb h13 h23 H1 H2 HB1 hB3
  go_upto_region 4 with (first | (go_at_call 20; refine hrd.mono ?_; rintro e w4 ⟨⟨b4, o4, c4, rfl, hc4⟩, hb4⟩))
  have hx4 := (hb4.block _ (lt_of_some HX3.out)).trans HX3.out
  obtain ⟨j0, j1, j2, j3, j4⟩ := five hx4
  have HB4 : Hid _ := bl_then HB3.out hb4
  clear hrd hb4 hx4 HX3 HB3 k0 k1 k2 k3 k4
  go_wp2
  go_ret
  exact ⟨rfl, HB4.out⟩
end Go.Proofs.Ytndmkfmpdnoliaa
