/- CONTRACT of inner, given that of finish. -/
import Derived.Test.YtndmkfmpdnoliaaIModel
import Derived.Test.YtndmkfmpdnoliaaIBegin2
import Derived.Test.YtndmkfmpdnoliaaIValues
namespace Go.Proofs.Ytndmkfmpdnoliaa
open Go.ChangeShapes Go.WideShapes Go.ChangeAt Go.RowKit

/-- finish, for so much that is left. -/
def FinOk (P : List Co) (g : Nat) : Prop := ∀ (w : World) (R KM DM F G C deep : Nat) (fr : Fr) (st : St) (v : Value) (c : Co) (la : Option Addr) (lc : Nat), Old w R KM DM P → FrM w R F G C fr → RnM w R KM DM deep st v → Apart F G C v → c ∈ P → Fits c fr → kIr.row w (fun b => b < R) la c.l → deep ≤ 32 → (fr.ended = false → st.wrong = 0 → st.left < g) →
  Calls Try.prog 27 #[.pointer (some ⟨F, 0, none⟩), .slice la c.l.length lc] w fun e w' => e = .returned (.tuple #[]) ∧ ∃ v', Did w w' R KM DM F G C deep v v' (runF P g deep c fr st).1 (runF P g deep c fr st).2
/-- What a run within has done. -/
structure Ran (w w' : World) (R KM DM deep : Nat) (v v' : Value) (st : St) : Prop where
  rn : RnM w' R KM DM deep st v'
  kept : Kept (fun k => k = R ∨ v.ownBlock = some k) w w'
  fresh : Fresh w v v'
theorem RnM.deep {w w1 : World} {R KM DM deep d : Nat} {st : St} {v : Value} {y : Int} (hy : y = (d : Int)) (h : RnM w1 R KM DM deep st v) (hb : Below w.heap.size w w1) : RnM (w1.setCell ⟨R, 3, none⟩ (.int .i64 y)) R KM DM d st v ∧ Kept (fun k => k = R) w (w1.setCell ⟨R, 3, none⟩ (.int .i64 y)) := by
  subst hy
  exact ⟨⟨setCell_at h.r, own_kept h.own (Kept.set w1 R 3 _) (fun g hg e => by have := h.above g hg; omega), h.left, h.br⟩, (Below.kept hb _).trans (Kept.set w1 R 3 _)⟩

set_option maxRecDepth 100000 in
set_option maxHeartbeats 4000000 in
theorem inner_any {P : List Co} {g : Nat} (hfin : FinOk P g) (hgood : Good P) {R KM DM deep : Nat} {st : St} {v : Value} (c : Co) (pa : Option Addr) (pc : Nat) (la : Option Addr) (lc : Nat) (ar : List Nat) (aa : Option Addr) (ac : Nat) (w : World) (hold : Old w R KM DM P) (hr : RnM w R KM DM deep st v) (hc : c ∈ P) (hin : CoIn w (fun b => b < R) c pa pc la lc)
    {S : Nat → Prop} (hSR : ∀ b, S b → b ≠ R) (har : kWd.row w S aa ar) (hac : ar.length ≤ ac) (hlen : (ar.length : Int) = wordsN c.ps + cellsN c.ps) (hdeep : deep < 32) (hle : st.wrong = 0 → st.left < g) :
    Calls Try.prog 73 #[.pointer (some ⟨R, 0, none⟩), coV c pa pc la lc, .slice aa ar.length ac] w fun e w' => e = .returned (.int .u32 ((runF P g (deep + 1) c (startF c ar) st).1.result : Int)) ∧ (runF P g (deep + 1) c (startF c ar) st).1.result < 4294967296 ∧ ∃ v', Ran w w' R KM DM deep v v' (runF P g (deep + 1) c (startF c ar) st).2 := by
  obtain ⟨h1, h2, h3, h4, h5, h6, h7, h8, h9⟩ := formB_parts (right_form (hgood.right c hc))
  have hfits := start_fits (hgood.right c hc) hlen
  have hcp := (cellsN_bd c.ps h5).1
  obtain ⟨nm, ps, rg, cl, l⟩ := c
  simp only at h1 h2 h3 h4 h5 h6 h7 h8 h9 hlen hcp
  obtain ⟨nr, rfl⟩ : ∃ nr : Nat, rg = nr := ⟨rg.toNat, by omega⟩
  obtain ⟨nc, rfl⟩ : ∃ nc : Nat, cl = nc := ⟨cl.toNat, by omega⟩
  have hRw := lt_of_some hr.r
  have hr1 := hr.box (coO ⟨nm, ps, nr, nc, l⟩ pa pc la lc)
  have hb1 := bl_alloc (Below.refl w.heap.size w) (coO ⟨nm, ps, nr, nc, l⟩ pa pc la lc)
  obtain ⟨r0, r1, r2, r3, r4, r5⟩ := hr1.cells6
  have fz := row_free hr1.r 3
  obtain ⟨hr2, hk2⟩ := RnM.deep (d := deep + 1) (y := (deep : Int) + 1) (by omega) hr1 hb1
  have hX2 : ((w.alloc (coO ⟨nm, ps, nr, nc, l⟩ pa pc la lc)).setCell ⟨R, 3, none⟩ (.int .i64 ((deep : Int) + 1))).heap[w.heap.size]? = some (coO ⟨nm, ps, nr, nc, l⟩ pa pc la lc) := by rw [setCell_other (by omega)]; exact heap_alloc_new w _
  have hz2 : w.heap.size < ((w.alloc (coO ⟨nm, ps, nr, nc, l⟩ pa pc la lc)).setCell ⟨R, 3, none⟩ (.int .i64 ((deep : Int) + 1))).heap.size := lt_of_some hX2
  obtain ⟨x0, x1, x2, x3, x4⟩ := co_block hX2
  simp only at x0 x1 x2 x3 x4
  have hold2 : Old ((w.alloc (coO ⟨nm, ps, nr, nc, l⟩ pa pc la lc)).setCell ⟨R, 3, none⟩ (.int .i64 ((deep : Int) + 1))) R KM DM P := hold.keep fun k hk => hk2.block k (by omega) (by omega)
  have hgo2 : ∀ {T : Nat → Prop}, (∀ b, T b → b ≠ R) → Goes w ((w.alloc (coO ⟨nm, ps, nr, nc, l⟩ pa pc la lc)).setCell ⟨R, 3, none⟩ (.int .i64 ((deep : Int) + 1))) T T := fun hT b hb hlt => ⟨hb, hk2.block b hlt (hT b hb)⟩
  have hin2 := hin.mono (hgo2 (T := fun b => b < R) fun b hb => by omega)
  have hbeg := begin_any R nm ps nr nc l pa pc la lc ar aa ac _ (S := fun b => b < R ∨ S b) (kTy.row_mono (by decide) hin2.ps fun b hb _ => ⟨.inl hb, rfl⟩) (kWd.row_mono (by decide) har fun b hb hlt => ⟨.inr hb, hk2.block b hlt (hSR b hb)⟩) hac h2 h5 (by omega) (by omega) h8 (by omega) hlen (by omega : R < ((w.alloc (coO ⟨nm, ps, nr, nc, l⟩ pa pc la lc)).setCell ⟨R, 3, none⟩ (.int .i64 ((deep : Int) + 1))).heap.size)
  have HIN2 : Hid _ := hin2
  have HOLD2 : Hid _ := hold2
  have HR2 : Hid _ := hr2
  have HK2 : Hid _ := hk2
  have HX2 : Hid _ := hX2
  have HZ2 : Hid _ := hz2
  have HRw : Hid _ := hRw
  have HOWN : Hid _ := hr.own
  have hd1 : (deep : Int) + 1 ≤ 32 := by omega
  have hfin' := fun (w3 : World) (F G C : Nat) (a1 : Old w3 R KM DM P) (a2 : FrM w3 R F G C (startF ⟨nm, ps, nr, nc, l⟩ ar)) (a3 : RnM w3 R KM DM (deep + 1) st v) (a4 : Apart F G C v) (a5 : kIr.row w3 (fun b => b < R) la l) => hfin w3 R KM DM F G C (deep + 1) (startF ⟨nm, ps, nr, nc, l⟩ ar) st v ⟨nm, ps, nr, nc, l⟩ la lc a1 a2 a3 a4 hc hfits a5 (by omega) (fun _ hw => hle hw)
  generalize runF P g (deep + 1) ⟨nm, ps, nr, nc, l⟩ (startF ⟨nm, ps, nr, nc, l⟩ ar) st = res at hfin' ⊢
  obtain ⟨fr', st'⟩ := res
  simp only at hfin' ⊢
  have HFIN : Hid _ := hfin'
  clear hfin'
  clear r0 r1 r2 r4 r5 hr1 hb1 hr2 hk2 hX2 hold2 hgo2 hin2 hin hold hz2 hRw hr hfits hfin hle har hSR h1 h3 h4 h5 h6 h7 h8 h9 hcp hlen
  unfold coV
  go_enter Try.func73, Try.ntmps73
  go_wp2_with (first | (go_at_call 26; refine hbeg.mono ?_; rintro e w3 ⟨⟨F, G, C, rfl, hF3, hFz, hGz, hCz⟩, hb3⟩; refine Hid.out ?_))
  refine Lib.hid ?_
  generalize (w.alloc (coO ⟨nm, ps, nr, nc, l⟩ pa pc la lc)).setCell ⟨R, 3, none⟩ (.int .i64 ((deep : Int) + 1)) = w2 at HIN2 HOLD2 HR2 HK2 HX2 HZ2 hF3 hFz hGz hCz hb3 x0 x1 x2 x3 x4 hbeg
  have hRz : R < w2.heap.size := lt_of_some HR2.out.r
  have hold3 := HOLD2.out.keep (w' := w3) fun k hk => hb3.block k (by omega)
  have hr3 : RnM w3 R KM DM (deep + 1) st v := ⟨(hb3.block R hRz).trans HR2.out.r, own_kept HR2.out.own (Below.kept hb3 (fun _ => False)) (fun _ _ e => e), HR2.out.left, HR2.out.br⟩
  have hap3 : Apart F G C v := fun q hq => by have := (World.ownsRow.lt HOWN.out q hq).2; have := HZ2.out; omega
  have hX3 : w3.heap[w.heap.size]? = some (coO ⟨nm, ps, nr, nc, l⟩ pa pc la lc) := (hb3.block _ HZ2.out).trans HX2.out
  obtain ⟨y0, y1, y2, y3, y4⟩ := co_block hX3
  simp only at y0 y1 y2 y3 y4
  have hrow3 := kIr.row_mono (T := fun b => b < R) (by decide) HIN2.out.l (fun b hb hlt => ⟨hb, hb3.block b hlt⟩)
  have hfi := HFIN.out w3 F G C hold3 (by simpa [startF] using hF3) hr3 hap3 hrow3
  have HK3 : Hid (Kept (fun k => k = R) w w3) := (HK2.out.trans (Below.kept hb3 _))
  clear hbeg hold3 hr3 hX3 hrow3 x0 x1 x2 x3 x4 HOLD2 HR2 HX2 HIN2 HFIN HK2 hb3 hF3 r3 fz
  go_wp2_with (first | (go_at_call 27; refine hfi.mono ?_; rintro e w4 ⟨rfl, v', hd⟩; refine Hid.out ?_))
  refine Lib.hid ?_
  obtain ⟨f0, f1, f2, f3, f4, f5⟩ := hd.fr.cells6
  obtain ⟨r0, r1, r2, r3, r4, r5⟩ := hd.rn.cells6
  have fz := row_free hd.rn.r 3
  have nfr : ¬ F = R := by have := hd.fr.rf; omega
  have nrf : ¬ R = F := by have := hd.fr.rf; omega
  have HD : Hid _ := hd
  have hcast : (((deep + 1 : Nat) : Int)) = (deep : Int) + 1 := by omega
  rw [hcast] at r3
  have hwr : IntKind.i64.wrap ((deep : Int) + 1 - 1) = (deep : Int) := by rw [Go.IntWalk.i64_in _ (by omega)]; omega
  clear y0 y1 y2 y3 y4 hfi f0 f1 f2 f3 f4 r0 r1 r2 r4 r5 hd hcast
  go_wp2_with fail
  go_ret
  have hdp := RnM.deep (d := deep) (y := (deep : Int)) rfl HD.out.rn (Below.refl w4.heap.size w4)
  refine ⟨rfl, HD.out.fr.res, v', hdp.1, ?_, ?_⟩
  · refine ⟨HD.out.kept.os.trans HK3.out.os, HD.out.kept.tape.trans HK3.out.tape, HD.out.kept.output.trans HK3.out.output, ?_, fun k hk hm => ?_⟩
    · have a1 := HK3.out.size
      have a2 := HD.out.kept.size
      simp [World.setCell]; omega
    · rw [setCell_other (fun e => hm (.inl e))]
      have a1 := HK3.out.size
      have a0 := HZ2.out
      rw [HD.out.kept.block k (by omega) ?_]
      · exact HK3.out.block k hk (fun e => hm (.inl e))
      · rintro (e | e | e | e | e)
        · exact hm (.inl e)
        · omega
        · omega
        · omega
        · exact hm (.inr e)
  · intro q hq
    rcases HD.out.fresh q hq with e | e
    · exact .inl e
    · right
      have a1 := HK3.out.size
      omega
end Go.Proofs.Ytndmkfmpdnoliaa
