/- CONTRACT of Run: what is run. -/
import Derived.Test.YtmglmbeconndhaaIRunB
namespace Go.Proofs.Ytmglmbeconndhaa
open Go.ChangeShapes Go.WideShapes Go.ChangeAt Go.RowKit Go.Maps

/-- What a run that was begun tells. -/
def toldR (c : Co) (res : Fr × St) : Nat × List Nat × List Int × Int := if res.2.wrong ≠ 0 then (0, [], [], res.2.wrong) else (res.1.result, res.1.cells.take (cellsN c.ps).toNat, res.2.br, 0)
theorem doIr_cells {P : List Co} {rec : Nat → Co → Fr → St → Fr × St} {d : Nat} {x : Ir} {fr : Fr} {st : St} : (doIr P rec d x fr st).1.cells.length = fr.cells.length := by
  by_cases k6 : x.kind = 6
  · rw [doIr_6 k6]; simp
  by_cases k7 : x.kind = 7
  · rw [doIr_7 k7]
    cases hl : look P x.name with
    | none => rw [callR_none hl]
    | some c =>
      rw [callR_some hl]
      by_cases a1 : c.ps.length ≠ x.args.length ∨ 0 < cellsN c.ps
      · rw [if_pos a1]
      · rw [if_neg a1]
        by_cases a2 : d = 32
        · rw [if_pos a2]
        · rw [if_neg a2]
  by_cases k9 : x.kind = 9
  · rw [doIr_9 k9]; split <;> rfl
  by_cases k1 : x.kind = 1
  · rw [doIr_1 k1]
  by_cases k2 : x.kind = 2
  · rw [doIr_2 k2]
  by_cases k3 : x.kind = 3
  · rw [doIr_3 k3]
  by_cases k4 : x.kind = 4
  · rw [doIr_4 k4]
  by_cases k5 : x.kind = 5
  · rw [doIr_5 k5]
  by_cases k8 : x.kind = 8
  · rw [doIr_8 k8]
  · rw [doIr_10 (fun n a b e => by omega)]
theorem runF_cells (P : List Co) : ∀ f d c fr st, (runF P f d c fr st).1.cells.length = fr.cells.length := by
  intro f
  induction f with
  | zero => intro d c fr st; rfl
  | succ f ih =>
    intro d c fr st
    rw [runF_succ]
    by_cases h : fr.ended = true ∨ st.wrong ≠ 0
    · rw [if_pos h]
    · rw [if_neg h, ih]
      unfold stepR
      by_cases hz : st.left = 0
      · rw [if_pos hz]
      · rw [if_neg hz, doIr_cells]
theorem wd_row {w : World} {C : Nat} {l : List Nat} (h : w.heap[C]? = some (.cells (wvs l) 34)) (hb : ∀ n ∈ l, n < 4294967296) (m : Nat) : kWd.row w (fun b => b = C) (some ⟨C, 0, none⟩) (l.take m) := by
  refine kWd.lay_row (S := fun b => b = C) (fun _ h => h) C rfl 0 (wd_lay (l.take m) fun n hn => hb n (List.mem_of_mem_take hn)) fun j u hj => ?_
  rw [Nat.zero_add]
  have hj2 : (l.map wv)[j]? = some u := by
    rw [List.map_take, List.getElem?_take] at hj
    split at hj
    · exact hj
    · cases hj
  simp only [World.cell?, h]
  simpa [wvs] using hj2
/-- Where branches lie. -/
def brA : Value → Option Addr
  | .slice a _ _ => a
  | _ => none
def brC : Value → Nat
  | .slice _ _ c => c
  | _ => 0
theorem int_lay {w : World} {S : Nat → Prop} : ∀ l : List Int, kInt.lay w S (l.map (Value.int .i64)) l
  | [] => rfl
  | x :: l => ⟨[.int .i64 x], l.map (Value.int .i64), rfl, rfl, int_lay l⟩
theorem br_row {w : World} {base N : Nat} {v : Value} {l : List Int} (h : w.ownsRow base 3 1 v l.length (l.map (Value.int .i64))) (hN : N ≤ base) : kInt.row w (fun b => N ≤ b) (brA v) l ∧ l.length ≤ brC v ∧ v = .slice (brA v) l.length (brC v) := by
  obtain ⟨a, c, e, hr, hc⟩ := kInt.own_rd (t := 3) (S := fun b => N ≤ b) (T := fun b => N ≤ b) (l := l) ⟨_, h, int_lay l⟩ (fun _ h => h) fun g hg => Nat.le_trans hN (World.ownsRow.lt h g hg).1
  subst e
  exact ⟨hr, hc, rfl⟩
set_option maxRecDepth 100000 in
set_option maxHeartbeats 8000000 in
theorem run_go {B : Nat} {S S' : Nat → Prop} (a : Option Addr) (l : List Co) (cp : Nat) (nm : List UInt8) (aa : Option Addr) (ar : List Nat) (ac : Nat) (w : World) (h : kCo.row w S a l) (hok : ∀ c ∈ l, CoOk c) (hl : l.length ≤ 1000000) (hg : Glob B w) (hr : rightsB l = true) (hnd : (l.map Co.name).Nodup) (hnm : nm.length ≤ 1000000000) (har : kWd.row w S' aa ar) (hac : ar.length ≤ ac) (c : Co) (hlook : look l nm = some c) (hna : (ar.length : Int) = wordsN c.ps + cellsN c.ps) :
    Calls Try.prog 14 #[.slice a l.length cp, .string (bs nm), .slice aa ar.length ac] w fun e w' => RunTells w w' e (toldR c (runF l 60001 0 c (startF c ar) ⟨60000, [], 0⟩)) := by
  have hb1 := bl_alloc (Below.refl w.heap.size w) outO
  have hfn := fn_ok (functions_any a l cp (w.alloc outO) (kCo.row_mono (T := S) (by decide) h fun b hb hlt => ⟨hb, hb1.block b hlt⟩) hok hl (hg.alloc _)) hr hnd
  have ho := heap_alloc_new w outO
  obtain ⟨kl, hkl⟩ := key_bs nm hnm
  have hc : c ∈ l := List.mem_of_find?_eq_some hlook
  have hgood : Good l := ⟨fun c hc => by have := List.all_eq_true.1 hr c hc; simpa using this, hok, hnd⟩
  obtain ⟨z1, z2, z3, z4, z5, z6, z7, z8, z9⟩ := formB_parts (right_form (hgood.right c hc))
  have hcb := cellsN_bd c.ps z5
  have hwb := wordsN_bd c.ps
  have hfits := start_fits (hgood.right c hc) hna
  have hfin := fun (w3 : World) (R KM DM F G C : Nat) (la : Option Addr) (lc : Nat) (a1 : Old w3 R KM DM l) (a2 : FrM w3 R F G C (startF c ar)) (a3 : RnM w3 R KM DM 0 ⟨60000, [], 0⟩ (.slice none 0 0)) (a5 : kIr.row w3 (fun b => b < R) la c.l) => fin_all hgood 60001 w3 R KM DM F G C 0 (startF c ar) ⟨60000, [], 0⟩ (.slice none 0 0) c la lc a1 a2 a3 (fun g e => by cases e) hc hfits a5 (by omega) (fun _ _ => by show 60000 < 60001; omega)
  have hcl : (startF c ar).cells.length = c.cells.toNat := by have := hfits.cells; omega
  have hcE := runF_cells l 60001 0 c (startF c ar) ⟨60000, [], 0⟩
  rw [hcl] at hcE
  generalize hres : runF l 60001 0 c (startF c ar) ⟨60000, [], 0⟩ = res at hfin hcE ⊢
  obtain ⟨frE, stE⟩ := res
  simp only at hfin hcE
  have HCE : Hid _ := hcE
  clear hcE
  have HFIN : Hid _ := hfin
  have HGOOD : Hid _ := hgood
  clear hfin hres hgood hcl hfits
  go_enter Try.func14, Try.ntmps14
  go_wp2_with (first | (go_at_call 23; refine hfn.mono ?_; rintro e w2 ⟨⟨KM, es, clock, rfl, hK, hm, hent⟩, hb2⟩; refine Hid.out ?_))
  refine Lib.hid ?_
  have ho2 : w2.heap[w.heap.size]? = some outO := (hb2.block _ (lt_of_some ho)).trans ho
  have HB2 : Hid _ := bl_then hb1 hb2
  obtain ⟨pa, pc, la, lc, hin, hlk⟩ : ∃ pa pc la lc, CoIn (w.alloc outO) S c pa pc la lc ∧ (Instr.lookup 58 (.map (some KM)) (.string (bs nm)) true).run Try.prog w2 = .ok (.tuple #[coV c pa pc la lc, .bool true]) w2 := by
    rcases look_ent hent hm (ent_keys hent hok) hkl with ⟨hno, _⟩ | ⟨_, c', pa, pc, la, lc, ⟨j, hj⟩, rfl, hin, e⟩
    · rw [look_nil (fun c' hc' e => hno (List.mem_map.2 ⟨c', hc', e⟩))] at hlook; cases hlook
    · rw [look_of hnd hj] at hlook
      obtain rfl : c' = c := Option.some.inj hlook
      exact ⟨pa, pc, la, lc, hin, e⟩
  have hw3 : ∀ b, b < (w.alloc outO).heap.size → (w2.alloc (coO c pa pc la lc)).heap[b]? = (w.alloc outO).heap[b]? := fun b hb => (heap_alloc_old w2 _ (Nat.lt_of_lt_of_le hb hb2.size)).trans (hb2.block b hb)
  have hin3 := hin.mono (w' := w2.alloc (coO c pa pc la lc)) (T := S) fun b hb hlt => ⟨hb, hw3 b hlt⟩
  have hrm := room_any (w2.alloc (coO c pa pc la lc)) pa c.ps pc hin3.ps z5 (by omega)
  have hbx := heap_alloc_new w2 (coO c pa pc la lc)
  obtain ⟨y0, y1, y2, y3, y4⟩ := co_block hbx
  have ho3 : (w2.alloc (coO c pa pc la lc)).heap[w.heap.size]? = some outO := (heap_alloc_old w2 _ (lt_of_some ho2)).trans ho2
  have hm3 : (w2.alloc (coO c pa pc la lc)).heap[KM]? = some (.map es clock) := (heap_alloc_old w2 _ (lt_of_some hm)).trans hm
  have hKl : KM < w2.heap.size := lt_of_some hm
  have hsz12 := hb2.size
  have HB3 : Hid _ := bl_alloc HB2.out (coO c pa pc la lc)
  have HO3 : Hid _ := ho3
  have HM3 : Hid _ := hm3
  have HBX : Hid _ := hbx
  have HW3 : Hid _ := hw3
  have HENT : Hid _ := hent
  have HIN : Hid _ := hin
  unfold coV at hlk
  have hsum : IntKind.i64.wrap ((wordsN c.ps : Int) + cellsN c.ps) = (wordsN c.ps : Int) + cellsN c.ps := Go.IntWalk.i64_in _ (by omega)
  have hne : ((ar.length : Int) == (wordsN c.ps : Int) + cellsN c.ps) = true := by rw [beq_iff_eq]; exact hna
  have HNA : Hid _ := hna
  have hdd := fun W => deeds_any W
  clear hfn hb1 hb2 ho ho2 ho3 hm hent hin hin3 hw3 hbx hna hm3
  go_wp2_with (first | (go_at_call 24; refine hrm.mono ?_; rintro e w4 ⟨rfl, hb4⟩; obtain ⟨q0, q1, q2, q3, q4⟩ := co_block (show w4.heap[w2.heap.size]? = some (coO c pa pc la lc) by rw [hb4.block _ (lt_of_some HBX.out)]; exact HBX.out)) | (go_at_call 25; refine (hdd _).mono ?_; rintro e w5 ⟨rfl, rfl⟩; refine Hid.out ?_))
  refine Lib.hid ?_
  have hz6 : ((w4.alloc (.map deedL.toArray 10)).alloc (.cells #[.map (some KM), .map (some w4.heap.size), .int .i64 0, .int .i64 0, .slice none 0 0, .int .i64 0] 66)).heap.size = w4.heap.size + 2 := by simp
  have hb46 : Below w4.heap.size w4 ((w4.alloc (.map deedL.toArray 10)).alloc (.cells #[.map (some KM), .map (some w4.heap.size), .int .i64 0, .int .i64 0, .slice none 0 0, .int .i64 0] 66)) := bl_alloc (bl_alloc (Below.refl _ _) _) _
  have hD6 : ((w4.alloc (.map deedL.toArray 10)).alloc (.cells #[.map (some KM), .map (some w4.heap.size), .int .i64 0, .int .i64 0, .slice none 0 0, .int .i64 0] 66)).heap[w4.heap.size]? = some (.map deedL.toArray 10) := (heap_alloc_old _ _ (by simp)).trans (heap_alloc_new w4 _)
  have hR6 : ((w4.alloc (.map deedL.toArray 10)).alloc (.cells #[.map (some KM), .map (some w4.heap.size), .int .i64 0, .int .i64 0, .slice none 0 0, .int .i64 0] 66)).heap[w4.heap.size + 1]? = some (.cells #[.map (some KM), .map (some w4.heap.size), .int .i64 0, .int .i64 0, .slice none 0 0, .int .i64 0] 66) := by
    have := heap_alloc_new (w4.alloc (.map deedL.toArray 10)) (.cells #[.map (some KM), .map (some w4.heap.size), .int .i64 0, .int .i64 0, .slice none 0 0, .int .i64 0] 66)
    simpa using this
  have hsz4 := hb4.size
  have hz3 : (w2.alloc (coO c pa pc la lc)).heap.size = w2.heap.size + 1 := by simp
  have hz1 : (w.alloc outO).heap.size = w.heap.size + 1 := by simp
  have h46 : ∀ b, b < w4.heap.size → ((w4.alloc (.map deedL.toArray 10)).alloc (.cells #[.map (some KM), .map (some w4.heap.size), .int .i64 0, .int .i64 0, .slice none 0 0, .int .i64 0] 66)).heap[b]? = w4.heap[b]? := fun b hb => hb46.block b hb
  have h16 : ∀ b, b < (w.alloc outO).heap.size → ((w4.alloc (.map deedL.toArray 10)).alloc (.cells #[.map (some KM), .map (some w4.heap.size), .int .i64 0, .int .i64 0, .slice none 0 0, .int .i64 0] 66)).heap[b]? = (w.alloc outO).heap[b]? := fun b hb => ((h46 b (by omega)).trans (hb4.block b (by omega))).trans (HW3.out b hb)
  have hM6 : ((w4.alloc (.map deedL.toArray 10)).alloc (.cells #[.map (some KM), .map (some w4.heap.size), .int .i64 0, .int .i64 0, .slice none 0 0, .int .i64 0] 66)).heap[KM]? = some (.map es clock) := ((h46 KM (by omega)).trans (hb4.block KM (by omega))).trans HM3.out
  have hX6 : ((w4.alloc (.map deedL.toArray 10)).alloc (.cells #[.map (some KM), .map (some w4.heap.size), .int .i64 0, .int .i64 0, .slice none 0 0, .int .i64 0] 66)).heap[w2.heap.size]? = some (coO c pa pc la lc) := ((h46 _ (by omega)).trans (hb4.block _ (by omega))).trans HBX.out
  have hO6 : ((w4.alloc (.map deedL.toArray 10)).alloc (.cells #[.map (some KM), .map (some w4.heap.size), .int .i64 0, .int .i64 0, .slice none 0 0, .int .i64 0] 66)).heap[w.heap.size]? = some outO := (h16 _ (by omega)).trans (heap_alloc_new w outO)
  have hgo6 : Goes (w.alloc outO) ((w4.alloc (.map deedL.toArray 10)).alloc (.cells #[.map (some KM), .map (some w4.heap.size), .int .i64 0, .int .i64 0, .slice none 0 0, .int .i64 0] 66)) S (fun b => b < w4.heap.size + 1) := fun b _ hlt => ⟨by omega, h16 b hlt⟩
  have hold6 : Old ((w4.alloc (.map deedL.toArray 10)).alloc (.cells #[.map (some KM), .map (some w4.heap.size), .int .i64 0, .int .i64 0, .slice none 0 0, .int .i64 0] 66)) (w4.heap.size + 1) KM w4.heap.size l := ⟨by omega, by omega, hD6, es, clock, hM6, HENT.out.len, fun k c' hk => by
    obtain ⟨pa', pc', la', lc', n', e1, e2⟩ := HENT.out.at_ k c' hk
    exact ⟨pa', pc', la', lc', n', e1, e2.mono hgo6⟩⟩
  have hin6 := HIN.out.mono hgo6
  have hrn6 : RnM ((w4.alloc (.map deedL.toArray 10)).alloc (.cells #[.map (some KM), .map (some w4.heap.size), .int .i64 0, .int .i64 0, .slice none 0 0, .int .i64 0] 66)) (w4.heap.size + 1) KM w4.heap.size 0 ⟨60000, [], 0⟩ (.slice none 0 0) := ⟨by simpa using hR6, World.ownsRow_nil _ _ _ _, Nat.le_refl _, Nat.le_refl _⟩
  have har6 : kWd.row ((w4.alloc (.map deedL.toArray 10)).alloc (.cells #[.map (some KM), .map (some w4.heap.size), .int .i64 0, .int .i64 0, .slice none 0 0, .int .i64 0] 66)) (fun b => b < w4.heap.size + 1 ∨ S' b) aa ar := kWd.row_mono (by decide) har fun b hb hlt => ⟨.inr hb, by rw [h16 b (by omega)]; exact heap_alloc_old w _ hlt⟩
  have hnr : c.regs = (c.regs.toNat : Int) := by omega
  have hnc : c.cells = (c.cells.toNat : Int) := by omega
  have hbeg := begin_any (w4.heap.size + 1) c.name c.ps c.regs.toNat c.cells.toNat c.l pa pc la lc ar aa ac ((w4.alloc (.map deedL.toArray 10)).alloc (.cells #[.map (some KM), .map (some w4.heap.size), .int .i64 0, .int .i64 0, .slice none 0 0, .int .i64 0] 66)) (S := fun b => b < w4.heap.size + 1 ∨ S' b) (kTy.row_mono (by decide) hin6.ps fun b hb _ => ⟨.inl hb, rfl⟩) har6 hac z2 z5 (by omega) (by omega) (by omega) (by omega) HNA.out (by omega)
  rw [← hnr, ← hnc] at hbeg
  clear hnr hnc
  obtain ⟨x0, x1, x2, x3, x4⟩ := co_block hX6
  have HB6 : Hid (Below w.heap.size w ((w4.alloc (.map deedL.toArray 10)).alloc (.cells #[.map (some KM), .map (some w4.heap.size), .int .i64 0, .int .i64 0, .slice none 0 0, .int .i64 0] 66))) := bl_then (bl_then HB3.out hb4) hb46
  have HOLD6 : Hid _ := hold6
  have HRN6 : Hid _ := hrn6
  have HX6 : Hid _ := hX6
  have HO6 : Hid _ := hO6
  have HROWS : Hid _ := hin6.l
  have HZ6 : Hid _ := hz6
  have hww4 : w.heap.size < w4.heap.size := by omega
  have hw24 : w2.heap.size < w4.heap.size := by omega
  clear hz6 hb46 hD6 hR6 h46 h16 hM6 hX6 hO6 hgo6 hold6 hin6 hrn6 har6 har hb4 HM3 HBX HW3 HENT HIN HO3 HB3 HB2 hrm hdd hlk y0 y1 y2 y3 y4 q0 q1 q2 q3 q4
  go_wp2_with (first | (go_at_call 26; refine hbeg.mono ?_; rintro e w7 ⟨⟨F, G, C, rfl, hF7, hFz, hGz, hCz⟩, hb7⟩; refine Hid.out ?_))
  refine Lib.hid ?_
  generalize ((w4.alloc (.map deedL.toArray 10)).alloc (.cells #[.map (some KM), .map (some w4.heap.size), .int .i64 0, .int .i64 0, .slice none 0 0, .int .i64 0] 66)) = w6 at hbeg HB6 HOLD6 HRN6 HX6 HO6 HROWS HZ6 hF7 hFz hGz hCz hb7 x0 x1 x2 x3 x4
  have hz6 : w6.heap.size = w4.heap.size + 2 := HZ6.out
  have hold7 := HOLD6.out.keep (w' := w7) fun k hk => hb7.block k (by omega)
  have hrn7 : RnM w7 (w4.heap.size + 1) KM w4.heap.size 0 ⟨60000, [], 0⟩ (.slice none 0 0) := ⟨(hb7.block _ (by omega)).trans HRN6.out.r, World.ownsRow_nil _ _ _ _, Nat.le_refl _, Nat.le_refl _⟩
  have hX7 : w7.heap[w2.heap.size]? = some (coO c pa pc la lc) := (hb7.block _ (by omega)).trans HX6.out
  have hO7 : w7.heap[w.heap.size]? = some outO := (hb7.block _ (by omega)).trans HO6.out
  have hs7 := hb7.size
  have hrow7 : kIr.row w7 (fun b => b < w4.heap.size + 1) la c.l := kIr.row_mono (by decide) HROWS.out fun b hb hlt => ⟨hb, hb7.block b hlt⟩
  have hfi := HFIN.out w7 (w4.heap.size + 1) KM w4.heap.size F G C la lc hold7 hF7 hrn7 hrow7
  have HB7 : Hid (Below w.heap.size w w7) := bl_then HB6.out (Kept.to_below (Below.kept hb7 (fun _ => False)) (fun _ e => e.elim))
  obtain ⟨v0, v1, v2, v3, v4⟩ := co_block hX7
  have HO7 : Hid _ := hO7
  clear hbeg hold7 hrn7 hX7 hO7 hrow7 x0 x1 x2 x3 x4 HOLD6 HRN6 HX6 HO6 HROWS HB6 hb7 hF7 HFIN
  go_wp2_with (first | (go_at_call 27; refine hfi.mono ?_; rintro e w8 ⟨rfl, vE, hd8⟩; refine Hid.out ?_))
  refine Lib.hid ?_
  have hRz : w4.heap.size + 1 < w7.heap.size := by omega
  have hb78 : ∀ k, k < w4.heap.size + 1 → w8.heap[k]? = w7.heap[k]? := fun k hk => hd8.kept.block k (by omega) (by
    have a1 := hd8.fr.rf
    have a2 := hd8.fr.rg
    have a3 := hd8.fr.rc
    rintro (e | e | e | e | e)
    · omega
    · omega
    · omega
    · omega
    · cases e)
  have hO8 : w8.heap[w.heap.size]? = some outO := (hb78 _ (by omega)).trans HO7.out
  have hB8 : Below w.heap.size w w8 := ⟨hd8.kept.os.trans HB7.out.os, hd8.kept.tape.trans HB7.out.tape, hd8.kept.output.trans HB7.out.output, Nat.le_trans HB7.out.size hd8.kept.size, fun k hk => (hb78 k (by omega)).trans (HB7.out.block k hk)⟩
  obtain ⟨f0, f1, f2, f3, f4, f5⟩ := hd8.fr.cells6
  obtain ⟨r0, r1, r2, r3, r4, r5⟩ := hd8.rn.cells6
  obtain ⟨c0, c1, u0, u1⟩ := cells2 hO8
  have HO8 : Hid _ := hO8
  have HB8 : Hid _ := hB8
  have HD8 : Hid _ := hd8
  have nRO : w4.heap.size + 1 ≠ w.heap.size := by omega
  have nFO : F ≠ w.heap.size := by have := hd8.fr.rf; omega
  clear hfi hd8 hb78 hO8 hB8 v0 v1 v2 v3 v4 hsum hne
  by_cases hw : stE.wrong = 0
  · rw [hw] at r5
    obtain ⟨m, hm⟩ : ∃ m : Nat, cellsN c.ps = m := ⟨(cellsN c.ps).toNat, by omega⟩
    have HT : Hid (toldR c (frE, stE) = (frE.result, frE.cells.take m, stE.br, 0)) := by show _ = _; unfold toldR; rw [if_neg (by simp [hw]), hm, Int.toNat_natCast]
    have hmn : m ≤ frE.cells.length := by have := HCE.out; omega
    have hcrow : kWd.row w8.drew (fun b => b = C) (some ⟨C, 0, none⟩) (frE.cells.take m) := wd_row (w := w8.drew) HD8.out.fr.c HD8.out.fr.cells m
    have hcln := clone_any w8.drew ⟨C, 0, none⟩ (frE.cells.take m) frE.cells.length hcrow (by rw [List.length_take]; omega)
    have hlt : (frE.cells.take m).length = m := by rw [List.length_take]; omega
    rw [hlt] at hcln
    have i1 : (m : Int) ≤ (frE.cells.length : Int) := by omega
    obtain ⟨hbr1, hbr2, hbr3⟩ := br_row (N := w.heap.size + 1) HD8.out.rn.own (by omega)
    have hS0 : w8.drew.cell? ⟨F, 5, none⟩ = some (.int .u32 (frE.result : Int)) ∧ w8.drew.cell? ⟨F, 2, none⟩ = some (.slice (some ⟨C, 0, none⟩) frE.cells.length frE.cells.length) ∧ w8.drew.cell? ⟨w4.heap.size + 1, 4, none⟩ = some vE := ⟨f5, f2, r4⟩
    have HS0 : Hid _ := hS0
    have hF8 : F < w8.heap.size := lt_of_some HD8.out.fr.f
    have hR8 : w4.heap.size + 1 < w8.heap.size := lt_of_some HD8.out.rn.r
    have hX8 : w.heap.size < w8.heap.size := lt_of_some HO8.out
    have HBR : Hid _ := hbr1
    have HBR3 : Hid _ := hbr3
    clear f0 f1 f2 f3 f4 f5 r0 r1 r2 r3 r4 hS0 hbr1 hbr3 hcrow
    go_wp2_with fail
    clear r5 c0 c1 u0 u1
    go_region_held3 (fun w' => w'.cell? ⟨F, 5, none⟩ = some (.int .u32 (frE.result : Int)) ∧ w'.cell? ⟨F, 2, none⟩ = some (.slice (some ⟨C, 0, none⟩) frE.cells.length frE.cells.length) ∧ w'.cell? ⟨w4.heap.size + 1, 4, none⟩ = some vE)
      (first | with_reducible exact HS0.out | with_reducible exact S9 | with_reducible exact S10 _ _)
      (first | (go_at_call 28; refine hcln.mono ?_; rintro e w9 ⟨⟨y, c2, rfl, hrow9, hc9⟩, hb9⟩; have S9 := (show w9.cell? ⟨F, 5, none⟩ = some (.int .u32 (frE.result : Int)) ∧ w9.cell? ⟨F, 2, none⟩ = some (.slice (some ⟨C, 0, none⟩) frE.cells.length frE.cells.length) ∧ w9.cell? ⟨w4.heap.size + 1, 4, none⟩ = some vE from ⟨(World.cell?_of_block (hb9.block F hF8)).trans HS0.out.1, (World.cell?_of_block (hb9.block F hF8)).trans HS0.out.2.1, (World.cell?_of_block (hb9.block _ hR8)).trans HS0.out.2.2⟩); have hO9 := (hb9.block w.heap.size hX8).trans HO8.out; obtain ⟨c0, c1, u0, u1⟩ := cells2 hO9; have S10 := (fun x1 x2 => show ((w9.setCell ⟨w.heap.size, 0, none⟩ x1).setCell ⟨w.heap.size, 1, none⟩ x2).cell? ⟨F, 5, none⟩ = some (.int .u32 (frE.result : Int)) ∧ ((w9.setCell ⟨w.heap.size, 0, none⟩ x1).setCell ⟨w.heap.size, 1, none⟩ x2).cell? ⟨F, 2, none⟩ = some (.slice (some ⟨C, 0, none⟩) frE.cells.length frE.cells.length) ∧ ((w9.setCell ⟨w.heap.size, 0, none⟩ x1).setCell ⟨w.heap.size, 1, none⟩ x2).cell? ⟨w4.heap.size + 1, 4, none⟩ = some vE from ⟨(World.cell?_of_block ((setCell_other nFO).trans (setCell_other nFO))).trans S9.1, (World.cell?_of_block ((setCell_other nFO).trans (setCell_other nFO))).trans S9.2.1, (World.cell?_of_block ((setCell_other nRO).trans (setCell_other nRO))).trans S9.2.2⟩)))
    have HRow9 : Hid _ := hrow9
    have HO9 : Hid _ := hO9
    have HB9 : Hid _ := hb9
    clear S9 S10 hrow9 hO9 hb9 hcln c0 c1 u0 u1 HS0
    go_wp2_with fail
    refine bodyPost_ret_by (results_row3 Try.results14 rfl rfl rfl (load_out (set2 HO9.out) rfl)) rfl ?_
    rw [HT.out]
    have hk9 : ∀ b, b ≠ w.heap.size → b < w9.heap.size → ((w9.setCell ⟨w.heap.size, 0, none⟩ (.int .u32 (frE.result : Int))).setCell ⟨w.heap.size, 1, none⟩ (.slice y m c2)).heap[b]? = w9.heap[b]? := fun b hb _ => (setCell_other hb).trans (setCell_other hb)
    refine ⟨y, c2, brA vE, brC vE, ?_, kWd.row_mono (by decide) HRow9.out fun b hb hlt9 => ⟨?_, hk9 b ?_ hlt9⟩, by rw [hlt]; exact hc9, kInt.row_mono (by decide) HBR.out fun b hb hlt8 => ⟨?_, ?_⟩, hbr2, bl_set (bl_set (bl_then (bl_then HB8.out (drew_bl _)) HB9.out) _ _ _ (Nat.le_refl _)) _ _ _ (Nat.le_refl _)⟩
    · simp only [hlt]
      rw [← HBR3.out]
      rfl
    · have : w8.heap.size ≤ b := hb
      omega
    · have : w8.heap.size ≤ b := hb
      omega
    · omega
    · have hs9 := HB9.out.size
      rw [hk9 b (by omega) (Nat.lt_of_lt_of_le hlt8 hs9)]
      exact HB9.out.block b hlt8
  · have hw' : (stE.wrong == 0) = false := by simpa using hw
    have HT : Hid (toldR c (frE, stE) = (0, [], [], stE.wrong)) := by show _ = _; unfold toldR; rw [if_pos hw]
    have hS2 : ∀ x y, ((w8.setCell ⟨w.heap.size, 0, none⟩ x).setCell ⟨w.heap.size, 1, none⟩ y).drew.cell? ⟨w4.heap.size + 1, 5, none⟩ = some (.int .i64 stE.wrong) := fun x y => (World.cell?_of_block ((setCell_other nRO).trans (setCell_other nRO))).trans r5
    have HS2 : Hid _ := hS2
    have hS0 : w8.drew.cell? ⟨w4.heap.size + 1, 5, none⟩ = some (.int .i64 stE.wrong) := r5
    have HS0 : Hid _ := hS0
    clear f0 f1 f2 f3 f4 f5 r0 r1 r2 r3 r4 hS2 hS0
    go_wp2_with fail
    go_region_held3 (fun w' => w'.cell? ⟨w4.heap.size + 1, 5, none⟩ = some (.int .i64 stE.wrong))
      (first | with_reducible exact HS0.out | with_reducible exact HS2.out _ _)
      (fail)
    go_wp2_with fail
    refine bodyPost_ret_by (results_row3 Try.results14 rfl rfl rfl (load_out (W := ((w8.setCell ⟨w.heap.size, 0, none⟩ (.int .u32 0)).setCell ⟨w.heap.size, 1, none⟩ (.slice none 0 0)).drew) (set2 HO8.out) rfl)) rfl ?_
    rw [HT.out]
    exact RunTells.err (bl_then (bl_set (bl_set HB8.out _ _ _ (Nat.le_refl _)) _ _ _ (Nat.le_refl _)) (drew_bl _))
end Go.Proofs.Ytmglmbeconndhaa
