/- CONTRACT of Run: a name that is none, arguments of another number. -/
import Derived.Test.YtmglmbeconndhaaIRun
namespace Go.Proofs.Ytmglmbeconndhaa
open Go.ChangeShapes Go.WideShapes Go.ChangeAt Go.RowKit Go.Maps

theorem ent_keys {w : World} {S : Nat → Prop} {es : Array MapEntry} {l : List Co} (h : Ent w S es l) (hok : ∀ c ∈ l, CoOk c) : ∀ x ∈ es.toList, ∃ z, keyOf Try.prog 9 x.key = some z := fun x hx => by
  obtain ⟨c, hc, e⟩ := h.mem x hx
  rw [e]; exact key_bs c.name (hok c hc).name
set_option maxRecDepth 100000 in
set_option maxHeartbeats 4000000 in
theorem run_none {B : Nat} {S : Nat → Prop} (a : Option Addr) (l : List Co) (cp : Nat) (nm : List UInt8) (va : Value) (w : World) (h : kCo.row w S a l) (hok : ∀ c ∈ l, CoOk c) (hl : l.length ≤ 1000000) (hg : Glob B w) (hr : rightsB l = true) (hnd : (l.map Co.name).Nodup) (hnm : nm.length ≤ 1000000000) (hlook : look l nm = none) :
    Calls Try.prog 14 #[.slice a l.length cp, .string (bs nm), va] w fun e w' => RunTells w w' e (0, [], [], 22) := by
  have hb1 := bl_alloc (Below.refl w.heap.size w) outO
  have hfn := fn_ok (functions_any a l cp (w.alloc outO) (kCo.row_mono (T := S) (by decide) h fun b hb hlt => ⟨hb, hb1.block b hlt⟩) hok hl (hg.alloc _)) hr hnd
  have ho := heap_alloc_new w outO
  obtain ⟨kl, hkl⟩ := key_bs nm hnm
  go_enter Try.func14, Try.ntmps14
  go_wp2_with (first | (go_at_call 23; refine hfn.mono ?_; rintro e w2 ⟨⟨KM, es, clock, rfl, hK, hm, hent⟩, hb2⟩; refine Hid.out ?_))
  refine Lib.hid ?_
  have ho2 : w2.heap[w.heap.size]? = some outO := (hb2.block _ (lt_of_some ho)).trans ho
  have HB2 : Hid _ := bl_then hb1 hb2
  have hlk : (Instr.lookup 58 (.map (some KM)) (.string (bs nm)) true).run Try.prog w2 = .ok (.tuple #[zeroV, .bool false]) w2 := by
    rcases look_ent hent hm (ent_keys hent hok) hkl with ⟨_, e⟩ | ⟨_, c', pa, pc, la, lc, ⟨j, hj⟩, rfl, _, _⟩
    · exact e
    · rw [look_of hnd hj] at hlook; cases hlook
  have ho3 : (w2.alloc (.cells #[.string ⟨#[]⟩, .slice none 0 0, .int .i64 0, .int .i64 0, .slice none 0 0] 25)).heap[w.heap.size]? = some outO := (heap_alloc_old w2 _ (lt_of_some ho2)).trans ho2
  obtain ⟨c0, c1, z0, z1⟩ := cells2 ho3
  have HB3 : Hid _ := bl_alloc HB2.out (.cells #[.string ⟨#[]⟩, .slice none 0 0, .int .i64 0, .int .i64 0, .slice none 0 0] 25)
  have HO3 : Hid _ := ho3
  clear hfn hb1 hb2 ho ho2 ho3 hm hent
  go_wp2_with fail
  refine bodyPost_ret_by (results_row3 Try.results14 rfl rfl rfl (load_out (set2 HO3.out) rfl)) rfl ?_
  exact RunTells.err (bl_set (bl_set HB3.out _ _ _ (Nat.le_refl _)) _ _ _ (Nat.le_refl _))
set_option maxRecDepth 100000 in
set_option maxHeartbeats 4000000 in
theorem run_arg {B : Nat} {S : Nat → Prop} (a : Option Addr) (l : List Co) (cp : Nat) (nm : List UInt8) (aa : Option Addr) (na ac : Nat) (w : World) (h : kCo.row w S a l) (hok : ∀ c ∈ l, CoOk c) (hl : l.length ≤ 1000000) (hg : Glob B w) (hr : rightsB l = true) (hnd : (l.map Co.name).Nodup) (hnm : nm.length ≤ 1000000000) (c : Co) (hlook : look l nm = some c) (hna : (na : Int) ≠ wordsN c.ps + cellsN c.ps) :
    Calls Try.prog 14 #[.slice a l.length cp, .string (bs nm), .slice aa na ac] w fun e w' => RunTells w w' e (0, [], [], 1) := by
  have hb1 := bl_alloc (Below.refl w.heap.size w) outO
  have hfn := fn_ok (functions_any a l cp (w.alloc outO) (kCo.row_mono (T := S) (by decide) h fun b hb hlt => ⟨hb, hb1.block b hlt⟩) hok hl (hg.alloc _)) hr hnd
  have ho := heap_alloc_new w outO
  obtain ⟨kl, hkl⟩ := key_bs nm hnm
  have hc : c ∈ l := List.mem_of_find?_eq_some hlook
  have hrc : (rightR c).1 = 0 := by have := List.all_eq_true.1 hr c hc; simpa using this
  obtain ⟨z1, z2, z3, z4, z5, z6, z7, z8, z9⟩ := formB_parts (right_form hrc)
  have hcb := cellsN_bd c.ps z5
  have hwb := wordsN_bd c.ps
  clear z1 z3 z4 z6 z7 z8 z9
  go_enter Try.func14, Try.ntmps14
  go_wp2_with (first | (go_at_call 23; refine hfn.mono ?_; rintro e w2 ⟨⟨KM, es, clock, rfl, hK, hm, hent⟩, hb2⟩; refine Hid.out ?_))
  refine Lib.hid ?_
  have ho2 : w2.heap[w.heap.size]? = some outO := (hb2.block _ (lt_of_some ho)).trans ho
  have HB2 : Hid _ := bl_then hb1 hb2
  obtain ⟨pa, pc, la, lc, hin, hlk⟩ : ∃ pa pc la lc, CoIn (w.alloc outO) S c pa pc la lc ∧ (Instr.lookup 58 (.map (some KM)) (.string (bs nm)) true).run Try.prog w2 = .ok (.tuple #[coV c pa pc la lc, .bool true]) w2 := by
    rcases look_ent hent hm (ent_keys hent hok) hkl with ⟨hno, _⟩ | ⟨_, c', pa, pc, la, lc, ⟨j, hj⟩, rfl, hin, e⟩
    · rw [look_nil (fun c' hc' e => hno (List.mem_map.2 ⟨c', hc', e⟩))] at hlook; cases hlook
    · rw [look_of hnd hj] at hlook
      obtain rfl : c' = c := Option.some.inj hlook
      exact ⟨pa, pc, la, lc, hin, e⟩
  have hw3 : ∀ b, b < (w.alloc outO).heap.size → (w2.alloc (coO c pa pc la lc)).heap[b]? = (w.alloc outO).heap[b]? := fun b hb => (heap_alloc_old w2 _ (Nat.lt_of_lt_of_le hb hb2.size)).trans (hb2.block b hb)
  have hin3 := hin.mono (w' := w2.alloc (coO c pa pc la lc)) (T := S) fun b hb hlt => ⟨hb, hw3 b hlt⟩
  have hrm := room_any (w2.alloc (coO c pa pc la lc)) pa c.ps pc hin3.ps z5 (by omega)
  have hbx := heap_alloc_new w2 (coO c pa pc la lc)
  obtain ⟨y0, y1, y2, y3, y4⟩ := co_block hbx
  have ho3 : (w2.alloc (coO c pa pc la lc)).heap[w.heap.size]? = some outO := (heap_alloc_old w2 _ (lt_of_some ho2)).trans ho2
  have HB3 : Hid _ := bl_alloc HB2.out (coO c pa pc la lc)
  have HO3 : Hid _ := ho3
  unfold coV at hlk
  have hsum : IntKind.i64.wrap ((wordsN c.ps : Int) + cellsN c.ps) = (wordsN c.ps : Int) + cellsN c.ps := Go.IntWalk.i64_in _ (by omega)
  have hne : ((na : Int) == (wordsN c.ps : Int) + cellsN c.ps) = false := by rw [beq_eq_false_iff_ne]; exact hna
  generalize (wordsN c.ps : Nat) = nw at hrm hsum hne
  generalize cellsN c.ps = ncl at hrm hsum hne
  clear hfn hb1 hb2 ho ho2 ho3 hm hent hin hin3 hw3 hbx hcb hwb hna z5 z2
  go_wp2_with (first | (go_at_call 24; refine hrm.mono ?_; rintro e w4 ⟨rfl, hb4⟩; refine Hid.out ?_))
  refine Lib.hid ?_
  have ho4 : w4.heap[w.heap.size]? = some outO := (hb4.block _ (lt_of_some HO3.out)).trans HO3.out
  obtain ⟨c0, c1, z0, z1⟩ := cells2 ho4
  have HB4 : Hid _ := bl_then HB3.out hb4
  have HO4 : Hid _ := ho4
  clear hrm hb4 ho4 y0 y1 y2 y3 y4 hlk
  go_wp2_with fail
  refine bodyPost_ret_by (results_row3 Try.results14 rfl rfl rfl (load_out (set2 HO4.out) rfl)) rfl ?_
  exact RunTells.err (bl_set (bl_set HB4.out _ _ _ (Nat.le_refl _)) _ _ _ (Nat.le_refl _))
end Go.Proofs.Ytmglmbeconndhaa
