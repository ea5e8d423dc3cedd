/- CONTRACT of functions. -/
import Derived.Test.YtmglmbeconndhaaIFin2
namespace Go.Proofs.Ytmglmbeconndhaa
open Go.ChangeShapes Go.WideShapes Go.ChangeAt Go.RowKit Go.Maps
open Go.ChangeMaps (setBlock)

/-- The entries of the first functions of a list. -/
structure Ent (w : World) (S : Nat → Prop) (es : Array MapEntry) (l : List Co) : Prop where
  len : es.toList.length = l.length
  at_ : ∀ (k : Nat) (c : Co), l[k]? = some c → ∃ pa pc la lc n, es.toList[k]? = some (MapEntry.mk (.string (bs c.name)) (coV c pa pc la lc) n) ∧ CoIn w S c pa pc la lc
theorem Ent.mem {w : World} {S : Nat → Prop} {es : Array MapEntry} {l : List Co} (h : Ent w S es l) : ∀ x ∈ es.toList, ∃ c ∈ l, x.key = .string (bs c.name) := fun x hx => by
  obtain ⟨k, hk, rfl⟩ := List.getElem_of_mem hx
  have hl := h.len
  obtain ⟨pa, pc, la, lc, n, e1, _⟩ := h.at_ k (l[k]'(by omega)) (List.getElem?_eq_getElem (by omega))
  rw [List.getElem?_eq_getElem hk] at e1
  exact ⟨l[k]'(by omega), List.getElem_mem _, by rw [Option.some.inj e1]⟩
theorem Ent.snoc {w : World} {S : Nat → Prop} {es : Array MapEntry} {l : List Co} (h : Ent w S es l) {c : Co} {pa la : Option Addr} {pc lc n : Nat} (hc : CoIn w S c pa pc la lc) : Ent w S (es.push ⟨.string (bs c.name), coV c pa pc la lc, n⟩) (l ++ [c]) := by
  have hl := h.len
  refine ⟨by simp at hl ⊢; omega, fun k c' hk => ?_⟩
  rw [Array.toList_push]
  rcases Nat.lt_or_ge k l.length with h1 | h1
  · rw [List.getElem?_append_left h1] at hk
    obtain ⟨pa', pc', la', lc', n', e1, e2⟩ := h.at_ k c' hk
    exact ⟨pa', pc', la', lc', n', by rw [List.getElem?_append_left (by omega)]; exact e1, e2⟩
  · rw [List.getElem?_append_right h1] at hk
    have hk0 : k - l.length = 0 := by
      rcases Nat.eq_zero_or_pos (k - l.length) with h2 | h2
      · exact h2
      · rw [List.getElem?_eq_none (by simp; omega)] at hk; cases hk
    rw [hk0] at hk
    obtain rfl : c = c' := by simpa using hk
    refine ⟨pa, pc, la, lc, n, ?_, hc⟩
    rw [List.getElem?_append_right (by omega), show k - es.toList.length = 0 by omega]
    rfl
theorem look_ent {w W : World} {S : Nat → Prop} {es : Array MapEntry} {clock KM : Nat} {l : List Co} (h : Ent w S es l) (hb : W.heap[KM]? = some (.map es clock)) (hks : ∀ x ∈ es.toList, ∃ z, keyOf Try.prog 9 x.key = some z) {nm : List UInt8} {kl : Lit} (hkl : keyOf Try.prog 9 (.string (bs nm)) = some kl) :
    (nm ∉ l.map Co.name ∧ (Instr.lookup 58 (.map (some KM)) (.string (bs nm)) true).run Try.prog W = .ok (.tuple #[zeroV, .bool false]) W) ∨
    (nm ∈ l.map Co.name ∧ ∃ c' pa pc la lc, (∃ j : Nat, l[j]? = some c') ∧ c'.name = nm ∧ CoIn w S c' pa pc la lc ∧ (Instr.lookup 58 (.map (some KM)) (.string (bs nm)) true).run Try.prog W = .ok (.tuple #[coV c' pa pc la lc, .bool true]) W) := by
  rcases kStr_law.find W hkl es.toList hks with ⟨h1, h2⟩ | ⟨j, e0, h1, h2, h3⟩
  · left
    refine ⟨fun hn => ?_, look_none true kStr_law Try.underlying58 (zero_co W) hb hks hkl h2⟩
    obtain ⟨c, hc, rfl⟩ := List.mem_map.1 hn
    obtain ⟨k, hk, hkc⟩ := List.getElem_of_mem hc
    obtain ⟨pa, pc, la, lc, n, e1, _⟩ := h.at_ k c (by rw [List.getElem?_eq_getElem hk, hkc])
    exact h2 _ (List.mem_of_getElem? e1) rfl
  · right
    have hj : j < es.toList.length := by
      rcases Nat.lt_or_ge j es.toList.length with h | h
      · exact h
      · rw [List.getElem?_eq_none h] at h2; cases h2
    have hl := h.len
    obtain ⟨pa, pc, la, lc, n, f1, f2⟩ := h.at_ j (l[j]'(by omega)) (List.getElem?_eq_getElem (by omega))
    rw [h2] at f1
    have f1 := Option.some.inj f1
    subst f1
    have hnm : (l[j]'(by omega)).name = nm := bs_inj (by injection h3)
    refine ⟨by rw [← hnm]; exact List.mem_map_of_mem (List.getElem_mem _), l[j]'(by omega), pa, pc, la, lc, ⟨j, List.getElem?_eq_getElem (by omega)⟩, hnm, f2, ?_⟩
    simp [Instr.lookup, run_underlying Try.underlying58, MapKept.run_getObj_map hb, kStr_law.check W _ hkl, h1, Result.andThen]
theorem below_setBlock {w W : World} {KM : Nat} (hb : Below w.heap.size w W) (hK : w.heap.size ≤ KM) {es : Array MapEntry} {clock : Nat} (hm : W.heap[KM]? = some (.map es clock)) (o : Obj) : Below w.heap.size w (setBlock W KM o) :=
  ⟨hb.os, hb.tape, hb.output, by simpa [setBlock] using hb.size, fun k hk => (Go.ChangeMaps.heap_setBlock_other hm o (by omega)).trans (hb.block k hk)⟩
def rightsB (l : List Co) : Bool := l.all fun c => decide ((rightR c).1 = 0)
theorem rights_drop (l : List Co) (k : Nat) (hk : k < l.length) : rightsB (l.drop k) = (decide ((rightR l[k]).1 = 0) && rightsB (l.drop (k + 1))) := by
  unfold rightsB
  rw [List.drop_eq_getElem_cons hk, List.all_cons]
theorem names_take (l : List Co) (k : Nat) (hk : k < l.length) : (l.take (k + 1)).map Co.name = (l.take k).map Co.name ++ [l[k].name] := by
  rw [List.take_add_one, List.getElem?_eq_getElem hk, List.map_append]; simp
theorem nodup_snoc {ns : List (List UInt8)} {n : List UInt8} : (ns ++ [n]).Nodup ↔ ns.Nodup ∧ n ∉ ns := by
  rw [List.nodup_append]
  constructor
  · rintro ⟨h1, _, h3⟩
    exact ⟨h1, fun h => h3 n h n (by simp) rfl⟩
  · rintro ⟨h1, h2⟩
    exact ⟨h1, by simp, fun a ha b hb e => h2 (by simp at hb; rw [← hb, ← e]; exact ha)⟩
theorem nodup_take {l : List Co} (h : (l.map Co.name).Nodup) (k : Nat) : ((l.take k).map Co.name).Nodup := by
  rw [List.map_take]; exact h.sublist (List.take_sublist _ _)
/-- What functions tells. -/
def FnPost (w : World) (S : Nat → Prop) (l : List Co) (e : Ending) (w' : World) : Prop :=
  (rightsB l = false ∧ e = .returned (.tuple #[.map none, .int .i64 6])) ∨
  (rightsB l = true ∧ ¬ (l.map Co.name).Nodup ∧ e = .returned (.tuple #[.map none, .int .i64 9])) ∨
  (rightsB l = true ∧ (l.map Co.name).Nodup ∧ ∃ KM es clock, e = .returned (.tuple #[.map (some KM), .int .i64 0]) ∧ w.heap.size ≤ KM ∧ w'.heap[KM]? = some (.map es clock) ∧ Ent w S es l)

set_option maxRecDepth 100000 in
set_option maxHeartbeats 4000000 in
theorem functions_any {B : Nat} {S : Nat → Prop} (a : Option Addr) (l : List Co) (cp : Nat) (w : World) (h : kCo.row w S a l) (hok : ∀ c ∈ l, CoOk c) (hl : l.length ≤ 1000000) (hg : Glob B w) :
    Calls Try.prog 23 #[.slice a l.length cp] w fun e w' => FnPost w S l e w' ∧ Below w.heap.size w w' := by
  go_enter Try.func23, Try.ntmps23
  go_wp2
  go_loopw [15] (fun i wr => ∃ k : Nat, k ≤ l.length ∧ i = .int .i64 k ∧ rightsB l = rightsB (l.drop k) ∧ Below w.heap.size w wr) (fun i _ => l.length - (intOf i).toNat)
  case atStart => exact ⟨0, Nat.zero_le _, rfl, rfl, Below.refl _ _⟩
  case round =>
    obtain ⟨k, hk, rfl, hq, hbl⟩ := hrel
    have HQ : Hid _ := hq
    have HB : Hid (Below w.heap.size w wr) := hbl
    clear hq
    by_cases hlt : k < l.length
    · obtain ⟨b, o, pa, pc, la, lc, rfl, hSb, hb, hat, hin⟩ := co_at h k hlt
      have hat' := hat.keep (hbl.block b hb)
      have HD : Hid _ := rights_drop l k hlt
      have hri := right_any l[k] pa pc la lc (wr.alloc (coO l[k] pa pc la lc)) (S := S) (hin.mono fun b' hb' hlt' => ⟨hb', (bl_alloc hbl _).block b' hlt'⟩) (hok _ (List.getElem_mem hlt)) ((hg.below hbl).alloc _)
      generalize hc : l[k] = c at hat' HD hri
      obtain ⟨e0, e1, e2, e3, e4⟩ := hat'
      unfold coV at hri
      clear hat hin hbl hc
      by_cases h0 : (rightR c).1 = 0
      · rw [h0] at hri
        have HD2 : Hid (rightsB (l.drop k) = rightsB (l.drop (k + 1))) := by show _ = _; rw [HD.out, h0]; simp
        go_wp2_with (first | (go_at_call 12; refine hri.mono ?_; rintro e w3 ⟨rfl, hb3⟩))
        go_roundw
        case rel => exact ⟨k + 1, by omega, by go_num, by rw [HQ.out, HD2.out], bl_then (bl_alloc HB.out _) hb3⟩
        case measure => simp [intOf]; omega
      · have h0' : ((rightR c).1 == 0) = false := by simpa using h0
        have HD2 : Hid (rightsB (l.drop k) = false) := by show _ = _; rw [HD.out]; simp [h0]
        go_wp2_with (first | (go_at_call 12; refine hri.mono ?_; rintro e w3 ⟨rfl, hb3⟩))
        go_ret2
        exact ⟨.inl ⟨by rw [HQ.out, HD2.out], rfl⟩, bl_then (bl_alloc HB.out _) hb3⟩
    · have HRT : Hid (rightsB l = true) := by show _ = _; rw [HQ.out, List.drop_of_length_le (by omega)]; rfl
      have hmk := run_makeMap (P := Try.prog) 58 wr
      have hent0 : Ent w S #[] (l.take 0) := ⟨rfl, fun k c h => by simp at h⟩
      have hm0 := heap_alloc_new wr (.map #[] 0)
      clear HQ
      go_wp2_with fail
      have hsz := hbl.size
      have HB0 : Hid (Below w.heap.size w (wr.alloc (.map #[] 0))) := bl_alloc hbl _
      clear hbl hmk
      generalize hKM : wr.heap.size = KM at hm0 hsz ⊢
      generalize wr.alloc (.map #[] 0) = wm at hm0 HB0 ⊢
      clear hKM
      go_loopw [30] (fun i wr => ∃ (k : Nat) (es : Array MapEntry) (clock : Nat), k ≤ l.length ∧ i = .int .i64 k ∧ wr.heap[KM]? = some (.map es clock) ∧ Ent w S es (l.take k) ∧ ((l.take k).map Co.name).Nodup ∧ Below w.heap.size w wr) (fun i _ => l.length - (intOf i).toNat)
      case atStart => exact ⟨0, #[], 0, Nat.zero_le _, rfl, hm0, hent0, by simp, HB0.out⟩
      case round =>
        obtain ⟨k2, es, clock, hk2, rfl, hm, hent, hnd, hbl⟩ := hrel
        have HM : Hid _ := hm
        have HE : Hid _ := hent
        have HN : Hid _ := hnd
        have HB2 : Hid _ := hbl
        clear hm hent hnd
        by_cases hlt2 : k2 < l.length
        · obtain ⟨b, o, pa, pc, la, lc, rfl, hSb, hb, hat, hin⟩ := co_at h k2 hlt2
          have hat' := hat.keep (hbl.block b hb)
          have HIN : Hid _ := hin
          have hnl := (hok _ (List.getElem_mem hlt2)).name
          obtain ⟨kl, hkl⟩ := key_bs l[k2].name hnl
          have HNT : Hid _ := names_take l k2 hlt2
          have HTK : Hid (l.take (k2 + 1) = l.take k2 ++ [l[k2]]) := by show _ = _; rw [List.take_add_one, List.getElem?_eq_getElem hlt2]; rfl
          have hks : ∀ x ∈ es.toList, ∃ z, keyOf Try.prog 9 x.key = some z := fun x hx => by
            obtain ⟨c, hc, e⟩ := HE.out.mem x hx
            rw [e]; exact key_bs c.name (hok c (List.mem_of_mem_take hc)).name
          have HKS : Hid _ := hks
          have HKL : Hid _ := hkl
          clear hat hin hbl hks hkl
          generalize hc : l[k2] = c at hat' HIN HNT HTK HKL hnl
          obtain ⟨e0, e1, e2, e3, e4⟩ := hat'
          have hKM1 : (wr.alloc (coO c pa pc la lc)).heap[KM]? = some (.map es clock) := by rw [heap_alloc_old _ _ (lt_of_some HM.out)]; exact HM.out
          have hbx := heap_alloc_new wr (coO c pa pc la lc)
          have HBX : Hid _ := hbx
          have HK1 : Hid _ := hKM1
          rcases look_ent HE.out hKM1 HKS.out HKL.out with ⟨hno, hlk⟩ | ⟨hyes, c', pa', pc', la', lc', hj9, hn9, hi9, hlk⟩
          · have hKM2 : ((wr.alloc (coO c pa pc la lc)).alloc (.cells #[.string ⟨#[]⟩, .slice none 0 0, .int .i64 0, .int .i64 0, .slice none 0 0] 25)).heap[KM]? = some (.map es clock) := by rw [heap_alloc_old _ _ (lt_of_some hKM1)]; exact hKM1
            have hput := put_new kStr_law Try.underlying58 hKM2 HKS.out HKL.out (fun x hx e => by
              obtain ⟨c9, hc9, e9⟩ := HE.out.mem x hx
              rw [e9] at e
              exact hno (List.mem_map.2 ⟨c9, hc9, bs_inj (by injection e)⟩)) (coV c pa pc la lc)
            have hB3 := below_setBlock (bl_alloc (bl_alloc HB2.out (coO c pa pc la lc)) (.cells #[.string ⟨#[]⟩, .slice none 0 0, .int .i64 0, .int .i64 0, .slice none 0 0] 25)) hsz hKM2 (.map (es.push ⟨.string (bs c.name), coV c pa pc la lc, clock⟩) (clock + 1))
            have hM3 := Go.ChangeMaps.heap_setBlock_same hKM2 (.map (es.push ⟨.string (bs c.name), coV c pa pc la lc, clock⟩) (clock + 1))
            have HB3 : Hid _ := hB3
            have HM3 : Hid _ := hM3
            have HNO : Hid _ := hno
            have hbx2 : ((wr.alloc (coO c pa pc la lc)).alloc (.cells #[.string ⟨#[]⟩, .slice none 0 0, .int .i64 0, .int .i64 0, .slice none 0 0] 25)).heap[wr.heap.size]? = some (coO c pa pc la lc) := by rw [heap_alloc_old _ _ (by simp)]; exact hbx
            obtain ⟨y0, y1, y2, y3, y4⟩ := co_block hbx2
            have HENT : Hid (Ent w S (es.push ⟨.string (bs c.name), coV c pa pc la lc, clock⟩) (l.take (k2 + 1))) := by show Ent _ _ _ _; rw [HTK.out]; exact HE.out.snoc HIN.out
            have HND : Hid (((l.take (k2 + 1)).map Co.name).Nodup) := by show List.Nodup _; rw [HNT.out, nodup_snoc]; exact ⟨HN.out, hno⟩
            unfold coV at hput
            generalize hsb : setBlock ((wr.alloc (coO c pa pc la lc)).alloc (.cells #[.string ⟨#[]⟩, .slice none 0 0, .int .i64 0, .int .i64 0, .slice none 0 0] 25)) KM (.map (es.push ⟨.string (bs c.name), coV c pa pc la lc, clock⟩) (clock + 1)) = w9 at HB3 HM3
            have hput2 : (Instr.mapUpdate 58 (.map (some KM)) (.string (bs c.name)) (.agg #[.string (bs c.name), .slice pa c.ps.length pc, .int .i64 c.regs, .int .i64 c.cells, .slice la c.l.length lc])).run Try.prog ((wr.alloc (coO c pa pc la lc)).alloc (.cells #[.string ⟨#[]⟩, .slice none 0 0, .int .i64 0, .int .i64 0, .slice none 0 0] 25)) = .ok () w9 := by rw [← hsb]; exact hput
            clear hput hB3 hM3 hno hKM1 hKM2 hbx hbx2 hsb hc
            go_wp2_with fail
            go_roundw
            case rel => exact ⟨k2 + 1, _, _, by omega, by go_num, HM3.out, HENT.out, HND.out, HB3.out⟩
            case measure => simp [intOf]; omega
          · have HD : Hid (¬ (l.map Co.name).Nodup) := fun hh => by
              have := nodup_take hh (k2 + 1)
              rw [HNT.out, nodup_snoc] at this
              exact this.2 hyes
            unfold coV at hlk
            have HB3 : Hid _ := bl_alloc (bl_alloc HB2.out (coO c pa pc la lc)) (coO c' pa' pc' la' lc')
            clear hyes hKM1 hbx hc hj9 hn9 hi9
            go_wp2_with fail
            go_ret2
            exact ⟨.inr (.inl ⟨HRT.out, HD.out, rfl⟩), HB3.out⟩
        · have hke : l.take k2 = l := List.take_of_length_le (by omega)
          have hE := HE.out
          have hN := HN.out
          rw [hke] at hE hN
          have HE2 : Hid _ := hE
          have HN2 : Hid _ := hN
          clear hE hN hke hbl
          go_wp2_with fail
          go_ret2
          exact ⟨.inr (.inr ⟨HRT.out, HN2.out, KM, es, clock, rfl, hsz, HM.out, HE2.out⟩), HB2.out⟩
end Go.Proofs.Ytmglmbeconndhaa
