/- CONTRACTS of step and finish, for all that may be left. -/
import Derived.Test.YtmglmbeconndhaaIFin
namespace Go.Proofs.Ytmglmbeconndhaa
open Go.ChangeShapes Go.WideShapes Go.ChangeAt Go.RowKit

theorem step_ok {P : List Co} {g : Nat} (hfin : FinOk P g) (hgood : Good P) {R KM DM F G C deep : Nat} {fr : Fr} {st : St} {v : Value} (c : Co) (x : Ir) (ga : Option Addr) (gc : Nat) (w : World) (hold : Old w R KM DM P) (h : FrM w R F G C fr) (hr : RnM w R KM DM deep st v) (ha : Apart F G C v) (hfits : Fits c fr) (hx : IrOk c fr.next x)
    (hargs : kInt.row w (fun b => b < R) ga x.args) (hxn : x.n < 4294967296) (hnm : x.name.length ≤ 1000000000) (hag : x.args.length ≤ 1000000) (hdeep : deep ≤ 32) (hle : st.left ≤ g) (hnx : fr.next ≤ 1000000) :
    Calls Try.prog 49 #[.pointer (some ⟨F, 0, none⟩), irV x ga gc] w fun e w' => e = .returned (.tuple #[]) ∧ ∃ v', Did w w' R KM DM F G C deep v v' (stepR P (runF P g) deep x fr st).1 (stepR P (runF P g) deep x fr st).2 := by
  by_cases hz : st.left = 0
  · have e : stepR P (runF P g) deep x fr st = (fr, { st with wrong := 19 }) := by unfold stepR; rw [if_pos hz]
    rw [e]
    exact step_zero x ga gc w h hr ha hz
  · have e : stepR P (runF P g) deep x fr st = doIr P (runF P g) deep x { fr with next := fr.next + 1 } { st with left := st.left - 1 } := by unfold stepR; rw [if_neg hz]
    rw [e]
    obtain ⟨n, hn, h1n, hn10⟩ := known_kind hx.known
    refine step_more x ga gc w hold h hr ha hz n hn h1n hn10 hnx fun w5 ho5 hf5 hr5 hs5 hk5 => ?_
    have hb := hr.br
    refine deed_any hfin hgood c fr.next x ga gc w5 ho5 hf5 hr5 ha hx hfits.regs hfits.cells (kInt.row_mono (by decide) hargs fun b hb hlt => ⟨hb, hk5 b hlt (by omega) (by have := h.rf; omega)⟩) hxn hnm hag hdeep (fun _ => ?_) ?_ n hn h1n hn10
    · show st.left - 1 < g
      omega
    · show st.br.length + 1 + (st.left - 1) ≤ 60000
      omega
/-- How much there is left, off the memory. -/
def leftM (R : Nat) (w : World) : Nat :=
  match w.cell? ⟨R, 2, none⟩, w.cell? ⟨R, 5, none⟩ with
  | some (.int _ a), some (.int _ b) => 2 * (60000 - a).toNat + (if b = 0 then 1 else 0)
  | _, _ => 0
theorem leftM_of {w : World} {R KM DM deep : Nat} {st : St} {v : Value} (h : RnM w R KM DM deep st v) : leftM R w = 2 * st.left + (if st.wrong = 0 then 1 else 0) := by
  obtain ⟨r0, r1, r2, r3, r4, r5⟩ := h.cells6
  unfold leftM
  rw [r2, r5]
  have : (60000 - (60000 - (st.left : Int))).toNat = st.left := by omega
  simp only [this]
/-- How far finish has come. -/
structure FinAt (P : List Co) (w : World) (R KM DM F G C deep : Nat) (v : Value) (c : Co) (f : Nat) (fr : Fr) (st : St) (g : Nat) (fr' : Fr) (st' : St) (v' : Value) (wr : World) : Prop where
  same : runF P f deep c fr st = runF P g deep c fr' st'
  le : g ≤ f
  left : fr'.ended = false → st'.wrong = 0 → st'.left < g
  did : Did w wr R KM DM F G C deep v v' fr' st'
  fits : Fits c fr'
theorem did_refl {w : World} {R KM DM F G C deep : Nat} {v : Value} {fr : Fr} {st : St} (h : FrM w R F G C fr) (hr : RnM w R KM DM deep st v) (ha : Apart F G C v) : Did w w R KM DM F G C deep v v fr st := ⟨hr, h, Kept.refl _ _, fun _ e => .inl e, ha⟩

set_option maxRecDepth 100000 in
set_option maxHeartbeats 4000000 in
theorem fin_all {P : List Co} (hgood : Good P) : ∀ f, FinOk P f := by
  intro f
  induction f using Nat.strongRecOn with
  | ind f ih =>
  intro w R KM DM F G C deep fr st v c la lc hold h hr ha hc hfits hrow hdeep hle
  have h0 : FinAt P w R KM DM F G C deep v c f fr st f fr st v w := ⟨rfl, Nat.le_refl _, hle, did_refl h hr ha, hfits⟩
  have hRw := lt_of_some hr.r
  have habove := hr.above
  obtain ⟨z1, z2, z3, z4, z5, z6, z7, z8, z9⟩ := formB_parts (right_form (hgood.right c hc))
  have HOLD : Hid _ := hold
  have HROW : Hid _ := hrow
  have HRW : Hid _ := hRw
  have HAB : Hid _ := habove
  have HZ4 : Hid _ := z4
  clear h hr ha hfits hle hold hrow hRw habove z1 z2 z3 z4 z5 z6 z7 z8 z9
  generalize hres : runF P f deep c fr st = res
  have HRES : Hid _ := hres
  clear hres
  obtain ⟨frE, stE⟩ := res
  simp only
  go_enter Try.func27, Try.ntmps27
  go_wp2
  go_loopw [4] (fun _ wr => ∃ g fr' st' v', FinAt P w R KM DM F G C deep v c f fr st g fr' st' v' wr) (fun _ wr => leftM R wr)
  case atStart => exact ⟨f, fr, st, v, h0⟩
  case round =>
    obtain ⟨g, fr', st', v', hA⟩ := hrel
    have HA : Hid _ := hA
    obtain ⟨f0, f1, f2, f3, f4, f5⟩ := hA.did.fr.cells6
    obtain ⟨r0, r1, r2, r3, r4, r5⟩ := hA.did.rn.cells6
    clear hA h0 f1 f2 f5 r0 r1 r2 r3 r4
    rcases hen : fr'.ended with _ | _
    · rw [hen] at f4
      by_cases hw : st'.wrong = 0
      · rw [hw] at r5
        have hnx := HA.out.fits.next hen
        have hlg := HA.out.left hen hw
        obtain ⟨g', rfl⟩ : ∃ g', g = g' + 1 := ⟨g - 1, by omega⟩
        have hold' := HOLD.out.did HRW.out HA.out.did HAB.out
        have hrow' : kIr.row wr (fun b => b < R) la c.l := kIr.row_mono (by decide) HROW.out fun b hb hlt => ⟨hb, by
          have a1 := HA.out.did.fr.rf
          have a2 := HA.out.did.fr.rg
          have a3 := HA.out.did.fr.rc
          refine HA.out.did.kept.block b hlt ?_
          rintro (e | e | e | e | e)
          · omega
          · omega
          · omega
          · omega
          · have := HAB.out b e; omega⟩
        obtain ⟨b, o, ga, gc, rfl, hSb, hb, hia, hgc, hxn, hargs⟩ := ir_at hrow' fr'.next hnx
        have hixo := irOk_of (right_ir (hgood.right c hc) fr'.next hnx)
        obtain ⟨hk1, hk2⟩ := (hgood.ok c hc).ins _ (List.getElem_mem hnx)
        have hstep := step_ok (ih g' (by have := HA.out.le; omega)) hgood c c.l[fr'.next] ga gc wr hold' HA.out.did.fr HA.out.did.rn HA.out.did.apart HA.out.fits hixo hargs hxn hk1 hk2 hdeep (by omega) (by have := HZ4.out; omega)
        have hget : c.l.getD fr'.next noIr = c.l[fr'.next] := by rw [List.getD_eq_getElem?_getD, List.getElem?_eq_getElem hnx, Option.getD_some]
        have hsame : runF P f deep c fr st = runF P g' deep c (stepR P (runF P g') deep c.l[fr'.next] fr' st').1 (stepR P (runF P g') deep c.l[fr'.next] fr' st').2 := by
          rw [HA.out.same, runF_succ, if_neg (by rw [hen, hw]; simp), hget]
        have hfits' : st'.left ≠ 0 → Fits c (stepR P (runF P g') deep c.l[fr'.next] fr' st').1 := fun hz => step_fits HA.out.fits hen hixo hz
        have hz0 : st'.left = 0 → (stepR P (runF P g') deep c.l[fr'.next] fr' st').1 = fr' ∧ (stepR P (runF P g') deep c.l[fr'.next] fr' st').2.wrong = 19 ∧ (stepR P (runF P g') deep c.l[fr'.next] fr' st').2.left = 0 := fun hz => by unfold stepR; rw [if_pos hz]; exact ⟨rfl, rfl, hz⟩
        have hlt0 : st'.left ≠ 0 → (stepR P (runF P g') deep c.l[fr'.next] fr' st').2.left < st'.left := fun hz => step_left P g' deep c.l[fr'.next] fr' st' hz
        generalize stepR P (runF P g') deep c.l[fr'.next] fr' st' = sr at hstep hsame hfits' hz0 hlt0
        obtain ⟨fr2, st2⟩ := sr
        simp only at hstep hsame hfits' hz0 hlt0
        have HSA : Hid _ := hsame
        have HFI : Hid (Fits c fr2) := by
          by_cases hz : st'.left = 0
          · have := (hz0 hz).1; rw [this]; exact HA.out.fits
          · exact hfits' hz
        have HLE : Hid (fr2.ended = false → st2.wrong = 0 → st2.left < g') := fun _ h2 => by
          by_cases hz : st'.left = 0
          · have := (hz0 hz).2.1; omega
          · have := hlt0 hz; omega
        have HME : Hid (2 * st2.left + (if st2.wrong = 0 then 1 else 0) < 2 * st'.left + 1) := by
          show _ < _
          by_cases hz : st'.left = 0
          · obtain ⟨_, q1, q2⟩ := hz0 hz; rw [q1, q2]; simp
          · have := hlt0 hz; split <;> omega
        have HWR : Hid (leftM R wr = 2 * st'.left + 1) := by show _ = _; rw [leftM_of HA.out.did.rn, if_pos hw]
        obtain ⟨e0, e1, e2, e3, e4, e5, e6, e7, e8⟩ := hia
        have i0 : (0 : Int) ≤ (fr'.next : Int) := by omega
        have i1 : (fr'.next : Int) < (c.l.length : Int) := by omega
        unfold irV at hstep
        clear hsame hfits' hz0 hlt0 hold' hrow' hixo hargs hgc hget hk1 hk2 hxn hlg
        generalize c.l[fr'.next] = x at hstep e0 e1 e2 e3 e4 e5 e6 e7 e8
        go_wp2_with (first | (go_at_call 49; refine hstep.mono ?_; rintro e w6 ⟨rfl, v6, hd6⟩; refine Hid.out ?_))
        refine Lib.hid ?_
        have HD6 : Hid _ := hd6
        clear hd6 hstep e0 e1 e2 e3 e4 e5 e6 e7 e8 f0 f3 f4 r5
        go_wp2_with fail
        go_roundw
        case rel => exact ⟨g', fr2, st2, v6, HSA.out, by have := HA.out.le; omega, HLE.out, HA.out.did.trans HD6.out, HFI.out⟩
        case measure => rw [leftM_of HD6.out.rn, HWR.out]; exact HME.out
      · have hw' : (st'.wrong == 0) = false := by simpa using hw
        have hE := (HRES.out.symm.trans HA.out.same).trans (runF_stop P g deep c fr' st' (.inr hw))
        obtain ⟨rfl, rfl⟩ : frE = fr' ∧ stE = st' := ⟨congrArg Prod.fst hE, congrArg Prod.snd hE⟩
        have HD : Hid _ := HA.out.did
        clear HA HRES hE
        go_wp2_with fail
        go_end0
        exact ⟨rfl, v', HD.out⟩
    · rw [hen] at f4
      have hE := (HRES.out.symm.trans HA.out.same).trans (runF_stop P g deep c fr' st' (.inl hen))
      obtain ⟨rfl, rfl⟩ : frE = fr' ∧ stE = st' := ⟨congrArg Prod.fst hE, congrArg Prod.snd hE⟩
      have HD : Hid _ := HA.out.did
      clear HA HRES hE hen
      go_wp2_with fail
      go_end0
      exact ⟨rfl, v', HD.out⟩
end Go.Proofs.Ytmglmbeconndhaa
