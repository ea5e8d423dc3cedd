/- CONTRACT of Run. -/
import Derived.Test.YtmglmbeconndhaaIClone
namespace Go.Proofs.Ytmglmbeconndhaa
open Go.ChangeShapes Go.WideShapes Go.ChangeAt Go.RowKit

/-- What a run tells. -/
def RunTells (w w' : World) (e : Ending) (r : Nat × List Nat × List Int × Int) : Prop :=
  ∃ ya yc ba bc, e = .returned (.tuple #[.agg #[.int .u32 (r.1 : Int), .slice ya r.2.1.length yc], .slice ba r.2.2.1.length bc, .int .i64 r.2.2.2]) ∧ kWd.row w' (fun b => w.heap.size ≤ b) ya r.2.1 ∧ r.2.1.length ≤ yc ∧ kInt.row w' (fun b => w.heap.size ≤ b) ba r.2.2.1 ∧ r.2.2.1.length ≤ bc ∧ Below w.heap.size w w'
theorem RunTells.err {w w' : World} {n : Int} (hb : Below w.heap.size w w') : RunTells w w' (.returned (.tuple #[.agg #[.int .u32 0, .slice none 0 0], .slice none 0 0, .int .i64 n])) (0, [], [], n) :=
  ⟨none, 0, none, 0, rfl, trivial, Nat.le_refl _, trivial, Nat.le_refl _, hb⟩
theorem set2 {w : World} {b : Nat} {x0 x1 y0 y1 : Value} {e : TypeId} {f : Nat × Nat} (h : w.heap[b]? = some (.cells #[x0, x1] e f)) : ((w.setCell ⟨b, 0, none⟩ y0).setCell ⟨b, 1, none⟩ y1).heap[b]? = some (.cells #[y0, y1] e f) := setCell_at (setCell_at h)
theorem cells2 {w : World} {b : Nat} {x0 x1 : Value} {t : TypeId} (h : w.heap[b]? = some (.cells #[x0, x1] t)) : w.cell? ⟨b, 0, none⟩ = some x0 ∧ w.cell? ⟨b, 1, none⟩ = some x1 ∧ w.frozen? ⟨b, 0, none⟩ = false ∧ w.frozen? ⟨b, 1, none⟩ = false := by
  refine ⟨?_, ?_, ?_, ?_⟩ <;> simp [World.cell?, World.frozen?, h]
/-- The outcome's block. -/
abbrev outO : Obj := .cells #[.int .u32 0, .slice none 0 0] 36
theorem fn_six {w : World} {S : Nat → Prop} {l : List Co} {v : Value} (h : Calls Try.prog 23 #[v] w fun e w' => FnPost w S l e w' ∧ Below w.heap.size w w') (hr : rightsB l = false) : Calls Try.prog 23 #[v] w fun e w' => e = .returned (.tuple #[.map none, .int .i64 6]) ∧ Below w.heap.size w w' := by
  refine h.mono fun e w' hh => ⟨?_, hh.2⟩
  rcases hh.1 with ⟨_, e⟩ | ⟨e, _⟩ | ⟨e, _⟩
  · exact e
  · rw [hr] at e; cases e
  · rw [hr] at e; cases e
theorem fn_nine {w : World} {S : Nat → Prop} {l : List Co} {v : Value} (h : Calls Try.prog 23 #[v] w fun e w' => FnPost w S l e w' ∧ Below w.heap.size w w') (hr : rightsB l = true) (hn : ¬ (l.map Co.name).Nodup) : Calls Try.prog 23 #[v] w fun e w' => e = .returned (.tuple #[.map none, .int .i64 9]) ∧ Below w.heap.size w w' := by
  refine h.mono fun e w' hh => ⟨?_, hh.2⟩
  rcases hh.1 with ⟨e, _⟩ | ⟨_, _, e⟩ | ⟨_, e, _⟩
  · rw [hr] at e; cases e
  · exact e
  · exact absurd e hn
theorem fn_ok {w : World} {S : Nat → Prop} {l : List Co} {v : Value} (h : Calls Try.prog 23 #[v] w fun e w' => FnPost w S l e w' ∧ Below w.heap.size w w') (hr : rightsB l = true) (hn : (l.map Co.name).Nodup) : Calls Try.prog 23 #[v] w fun e w' => (∃ KM es clock, e = .returned (.tuple #[.map (some KM), .int .i64 0]) ∧ w.heap.size ≤ KM ∧ w'.heap[KM]? = some (.map es clock) ∧ Ent w S es l) ∧ Below w.heap.size w w' := by
  refine h.mono fun e w' hh => ⟨?_, hh.2⟩
  rcases hh.1 with ⟨e, _⟩ | ⟨_, e, _⟩ | ⟨_, _, e⟩
  · rw [hr] at e; cases e
  · exact absurd hn e
  · exact e
set_option maxRecDepth 100000 in
set_option maxHeartbeats 4000000 in
theorem run_early {B : Nat} {S : Nat → Prop} (a : Option Addr) (l : List Co) (cp : Nat) (nm : List UInt8) (va : Value) (w : World) (h : kCo.row w S a l) (hok : ∀ c ∈ l, CoOk c) (hl : l.length ≤ 1000000) (hg : Glob B w) (hbad : ¬ (rightsB l = true ∧ (l.map Co.name).Nodup)) :
    Calls Try.prog 14 #[.slice a l.length cp, .string (bs nm), va] w fun e w' => RunTells w w' e (0, [], [], if rightsB l = true then 9 else 6) := by
  have hb1 := bl_alloc (Below.refl w.heap.size w) outO
  have hfn := functions_any a l cp (w.alloc outO) (kCo.row_mono (T := S) (by decide) h fun b hb hlt => ⟨hb, hb1.block b hlt⟩) hok hl (hg.alloc _)
  have ho := heap_alloc_new w outO
  rcases hr : rightsB l with _ | _
  · have hf6 := fn_six hfn hr
    clear hfn
    go_enter Try.func14, Try.ntmps14
    go_wp2_with (first | (go_at_call 23; refine hf6.mono ?_; rintro e w2 ⟨rfl, hb2⟩; refine Hid.out ?_))
    refine Lib.hid ?_
    have ho2 : w2.heap[w.heap.size]? = some outO := (hb2.block _ (lt_of_some ho)).trans ho
    have HB2 : Hid _ := bl_then hb1 hb2
    obtain ⟨c0, c1, z0, z1⟩ := cells2 ho2
    clear hf6 hb1 hb2 ho
    go_wp2_with fail
    refine bodyPost_ret_by (results_row3 Try.results14 rfl rfl rfl (load_out (set2 ho2) rfl)) rfl ?_
    exact RunTells.err (bl_set (bl_set HB2.out _ _ _ (Nat.le_refl _)) _ _ _ (Nat.le_refl _))
  · have hf9 := fn_nine hfn hr (fun e => hbad ⟨hr, e⟩)
    clear hfn
    go_enter Try.func14, Try.ntmps14
    go_wp2_with (first | (go_at_call 23; refine hf9.mono ?_; rintro e w2 ⟨rfl, hb2⟩; refine Hid.out ?_))
    refine Lib.hid ?_
    have ho2 : w2.heap[w.heap.size]? = some outO := (hb2.block _ (lt_of_some ho)).trans ho
    have HB2 : Hid _ := bl_then hb1 hb2
    obtain ⟨c0, c1, z0, z1⟩ := cells2 ho2
    clear hf9 hb1 hb2 ho
    go_wp2_with fail
    refine bodyPost_ret_by (results_row3 Try.results14 rfl rfl rfl (load_out (set2 ho2) rfl)) rfl ?_
    exact RunTells.err (bl_set (bl_set HB2.out _ _ _ (Nat.le_refl _)) _ _ _ (Nat.le_refl _))
end Go.Proofs.Ytmglmbeconndhaa
