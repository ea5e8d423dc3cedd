/- CONTRACT of the reference's Run. -/
import Derived.Test.YtndmkfmpdnoliaaRRun
import Derived.Test.YtndmkfmpdnoliaaQRun
import Derived.Test.YtndmkfmpdnoliaaIRef2
namespace Go.Proofs.Ytndmkfmpdnoliaa
open Go.ChangeShapes Go.WideShapes Go.ChangeAt Go.RowKit

theorem find_spec : ∀ (l : List Co) (nm : List UInt8) (k : Nat), (∃ c ∈ l, c.name = nm) → ∃ j, ∃ h : j < l.length, findI l nm k = ((k + j : Nat) : Int) ∧ l[j].name = nm ∧ ∀ i (hi : i < j), (l[i]'(Nat.lt_trans hi h)).name ≠ nm
  | [], _, _, ⟨c, hc, _⟩ => by simp at hc
  | c :: l, nm, k, ⟨d, hd, hdn⟩ => by
    by_cases h : c.name = nm
    · exact ⟨0, by simp, by rw [findI, if_pos h]; rfl, h, fun i hi => absurd hi (Nat.not_lt_zero _)⟩
    · have hd2 : d ∈ l := by
        rcases List.mem_cons.1 hd with e | e
        · exact absurd (e ▸ hdn) h
        · exact e
      obtain ⟨j, hj, h1, h2, h3⟩ := find_spec l nm (k + 1) ⟨d, hd2, hdn⟩
      refine ⟨j + 1, by simp; omega, by rw [findI, if_neg h, h1]; congr 1; omega, by simpa using h2, fun i hi => ?_⟩
      cases i with
      | zero => simpa using h
      | succ i => simpa using h3 i (by omega)
theorem names_apart (l : List Co) : (l.map Co.name).Nodup ↔ ∀ j (hj : j < l.length), (j : Int) ≤ findI l l[j].name 0 := by
  constructor
  · intro hn j hj
    refine Int.not_lt.1 fun hlt => ?_
    obtain ⟨m, hm, h1, h2, _⟩ := find_spec l l[j].name 0 ⟨l[j], List.getElem_mem hj, rfl⟩
    rw [h1] at hlt
    have hne := (List.pairwise_iff_getElem.1 hn) m j (by simpa using hm) (by simpa using hj) (by omega)
    simp only [List.getElem_map] at hne
    exact hne h2
  · intro h
    refine List.pairwise_iff_getElem.2 fun i j hi hj hij e => ?_
    simp only [List.getElem_map] at e
    rw [List.length_map] at hi hj
    obtain ⟨m, hm, h1, h2, h3⟩ := find_spec l l[j].name 0 ⟨l[j], List.getElem_mem hj, rfl⟩
    have hmi : ¬ i < m := fun hh => h3 i hh e
    have h4 := h j hj
    rw [h1] at h4
    omega
theorem runR_six {l : List Co} {nm : List UInt8} {ar : List Nat} {c : Co} (hc : c ∈ l) (h : (rightR c).1 ≠ 0) : runR l nm ar = (0, [], [], 6) := by
  unfold runR
  rw [if_pos]
  rw [List.all_eq_false]
  exact ⟨c, hc, by simpa using h⟩
theorem all_right {l : List Co} (h : ∀ c ∈ l, (rightR c).1 = 0) : ¬ (l.all (fun c => decide ((rightR c).1 = 0)) = false) := by
  rw [Bool.not_eq_false, List.all_eq_true]
  exact fun c hc => by simpa using h c hc
theorem runR_nine {l : List Co} {nm : List UInt8} {ar : List Nat} (h : ∀ c ∈ l, (rightR c).1 = 0) (hn : ¬ (l.map Co.name).Nodup) : runR l nm ar = (0, [], [], 9) := by
  unfold runR
  rw [if_neg (all_right h), if_neg hn]
theorem runR_none {l : List Co} {nm : List UInt8} {ar : List Nat} (h : ∀ c ∈ l, (rightR c).1 = 0) (hn : (l.map Co.name).Nodup) (hk : look l nm = none) : runR l nm ar = (0, [], [], 22) := by
  unfold runR
  rw [if_neg (all_right h), if_pos hn, hk]
theorem runR_args {l : List Co} {nm : List UInt8} {ar : List Nat} {c : Co} (h : ∀ c ∈ l, (rightR c).1 = 0) (hn : (l.map Co.name).Nodup) (hk : look l nm = some c) (ha : (ar.length : Int) ≠ wordsN c.ps + cellsN c.ps) : runR l nm ar = (0, [], [], 1) := by
  unfold runR
  rw [if_neg (all_right h), if_pos hn, hk]
  exact if_pos ha
theorem runR_go {l : List Co} {nm : List UInt8} {ar : List Nat} {c : Co} (h : ∀ c ∈ l, (rightR c).1 = 0) (hn : (l.map Co.name).Nodup) (hk : look l nm = some c) (ha : (ar.length : Int) = wordsN c.ps + cellsN c.ps) : runR l nm ar = toldR c (runF l 60001 0 c (startF c ar) ⟨60000, [], 0⟩) := by
  unfold runR
  rw [if_neg (all_right h), if_pos hn, hk]
  exact if_neg fun hh => hh ha
/-- What the reference's Run tells. -/
def RRunTells (w w' : World) (e : Ending) (r : Nat × List Nat × List Int × Int) : Prop :=
  ∃ ya yc ba bc, e = .returned (.tuple #[.agg #[.int .u32 (r.1 : Int), .slice ya r.2.1.length yc], .slice ba r.2.2.1.length bc, .int .i64 r.2.2.2]) ∧ kWd.row w' (fun _ => True) ya r.2.1 ∧ kInt.row w' (fun _ => True) ba r.2.2.1 ∧ Below w.heap.size w w'
theorem RRunTells.err {w w' : World} {n : Int} (hb : Below w.heap.size w w') : RRunTells w w' (.returned (.tuple #[.agg #[.int .u32 0, .slice none 0 0], .slice none 0 0, .int .i64 n])) (0, [], [], n) :=
  ⟨none, 0, none, 0, rfl, trivial, trivial, hb⟩
theorem RM.start {w : World} {s : Value} : RM w.heap.size s ⟨60000, [], 0⟩ (.slice none 0 0) (w.alloc (.cells #[s, .int .i64 60000, .slice none 0 0, .int .i64 0] 72)) :=
  ⟨heap_alloc_new w _, World.ownsRow_nil _ _ _ _, Nat.le_refl _, by simp⟩
theorem coIn_up {w w' : World} {S : Nat → Prop} {c : Co} {pa la : Option Addr} {pc lc : Nat} (hin : CoIn w S c pa pc la lc) (hb : Below w.heap.size w w') : CoIn w' (fun _ => True) c pa pc la lc := hin.mono fun b _ hlt => ⟨trivial, hb.block b hlt⟩
theorem co_up {w w' : World} {S : Nat → Prop} {a : Option Addr} {l : List Co} (h : kCo.row w S a l) (hb : Below w.heap.size w w') : kCo.row w' (fun _ => True) a l := kCo.row_mono (by decide) h fun b _ hlt => ⟨trivial, hb.block b hlt⟩
set_option maxRecDepth 100000 in
set_option maxHeartbeats 8000000 in
theorem refRun_any (a : Option Addr) (l : List Co) (cp : Nat) (nm : List UInt8) (aa : Option Addr) (ar : List Nat) (ac : Nat) (w : World) (h : kCo.row w (fun _ => True) a l) (hok : ∀ c ∈ l, CoOk c) (hsm : ∀ c ∈ l, c.ps.length ≤ 1000000 ∧ c.l.length ≤ 1000000) (hl : l.length ≤ 1000000) (har : kWd.row w (fun _ => True) aa ar) (hac : ar.length ≤ ac) :
    Calls Try.prog 13 #[.slice a l.length cp, .string (bs nm), .slice aa ar.length ac] w fun e w' => RRunTells w w' e (runR l nm ar) := by
  have hb1 := bl_alloc (Below.refl w.heap.size w) outO
  have ho1 := heap_alloc_new w outO
  go_enter Try.func13, Try.ntmps13
  go_upto_region 2 with fail
  generalize World.alloc w _ = w1 at hb1 ho1 ⊢
  have HB1 : Hid _ := hb1
  have HO1 : Hid _ := ho1
  clear hb1 ho1
  go_loopw [9] (fun i wr => ∃ k : Nat, k ≤ l.length ∧ i = .int .i64 k ∧ (∀ c ∈ l.take k, (rightR c).1 = 0) ∧ Below w1.heap.size w1 wr) (fun i _ => l.length - (intOf i).toNat)
  case atStart => exact ⟨0, Nat.zero_le _, rfl, fun c hc => by simp at hc, Below.refl _ _⟩
  case round =>
    obtain ⟨wO, hwO⟩ : ∃ wO, wO = wr := ⟨wr, rfl⟩
    subst hwO
    obtain ⟨k, hk, rfl, hq, hbl⟩ := hrel
    have HB : Hid _ := bl_then HB1.out hbl
    have HO : Hid _ := (hbl.block _ (lt_of_some HO1.out)).trans HO1.out
    have HBL : Hid _ := hbl
    clear hbl
    by_cases hlt : k < l.length
    · have hk0 : (0 : Int) ≤ (k : Int) := by omega
      have hk1 : (k : Int) < (l.length : Int) := by omega
      obtain ⟨b, o, pa, pc, la, lc, rfl, _, hb, hat, hin⟩ := co_at h k hlt
      obtain ⟨e0, e1, e2, e3, e4⟩ := hat.keep (HB.out.block b hb)
      have hmem := List.getElem_mem hlt
      have hri := refRight_any l[k] pa pc la lc wO (coIn_up hin HB.out) (hok _ hmem) (hsm _ hmem).1 (by have := (hsm _ hmem).2; omega)
      unfold coV at hri
      by_cases hr : (rightR l[k]).1 = 0
      · have HT : Hid (∀ c ∈ l.take (k + 1), (rightR c).1 = 0) := fun c hc => by
          rw [List.take_succ_eq_append_getElem hlt, List.mem_append] at hc
          rcases hc with hc | hc
          · exact hq c hc
          · rw [List.mem_singleton.1 hc]; exact hr
        rw [hr] at hri
        generalize (rightR l[k]).2 = at0 at hri
        generalize l[k] = x at e0 e1 e2 e3 e4 hri
        clear hq hin hat hr hmem HO1
        go_wp2_with (first | (go_at_call 29; refine hri.mono ?_; rintro e w2 ⟨rfl, hb2⟩))
        go_roundw
        case rel => exact ⟨k + 1, by omega, by go_num, HT.out, bl_then HBL.out hb2⟩
        case measure => simp [intOf]; omega
      · have HE : Hid _ := runR_six (nm := nm) (ar := ar) hmem hr
        have hr' : ((rightR l[k]).1 == 0) = false := by simpa using hr
        have hr2 : ((rightR l[k]).1 != 0) = true := by simpa using hr
        generalize (rightR l[k]).1 = er at hri hr' hr2
        generalize (rightR l[k]).2 = at0 at hri
        generalize l[k] = x at e0 e1 e2 e3 e4 hri
        clear hq hin hat hr hmem HO1
        go_wp2_with (first | (go_at_call 29; refine hri.mono ?_; rintro e w2 ⟨rfl, hb2⟩; have ho2 := (hb2.block _ (lt_of_some HO.out)).trans HO.out; obtain ⟨c0, c1, u0, u1⟩ := cells2 ho2))
        refine bodyPost_ret_by (results_row3 Try.results13 rfl rfl rfl (load_out (set2 ho2) rfl)) rfl ?_
        rw [HE.out]
        exact RRunTells.err (bl_set (bl_set (bl_then HB.out hb2) _ _ _ (Nat.le_refl _)) _ _ _ (Nat.le_refl _))
    · have hkl : k = l.length := by omega
      have HA : Hid (∀ c ∈ l, (rightR c).1 = 0) := by rw [hkl, List.take_of_length_le (Nat.le_refl _)] at hq; exact hq
      have hrow := co_up h HB.out
      clear hq HO1 HB1 hk HBL
      rw [hkl]
      go_upto_region 8 with fail
      clear hkl hlt k
      go_loopw [12] (fun i wr => ∃ k : Nat, k ≤ l.length ∧ i = .int .i64 k ∧ (∀ j (hj : j < l.length), j < k → (j : Int) ≤ findI l l[j].name 0) ∧ wr = wO) (fun i _ => l.length - (intOf i).toNat)
      case atStart => exact ⟨0, Nat.zero_le _, rfl, fun j _ h0 => absurd h0 (Nat.not_lt_zero _), rfl⟩
      case round =>
        obtain ⟨k, hk, rfl, hq, hw2⟩ := hrel
        rw [hw2]
        clear hw2
        by_cases hlt : k < l.length
        · have hk0 : (0 : Int) ≤ (k : Int) := by omega
          have hk1 : (k : Int) < (l.length : Int) := by omega
          obtain ⟨b, o, pa, pc, la, lc, ea, _, hb, hat, hin⟩ := co_at hrow k hlt
          obtain ⟨e0, _, _, _, _⟩ := hat
          have hfi := refFind_any (S := fun _ => True) a l cp l[k].name wO hrow hl
          rw [ea] at hfi ⊢
          have e0' : wO.cell? ⟨b, o + k * 5, none⟩ = some (.string (bs l[k].name)) := e0
          clear e0 hin
          by_cases hf : findI l l[k].name 0 < (k : Int)
          · have HE : Hid _ := runR_nine (nm := nm) (ar := ar) HA.out (fun hn => by have := (names_apart l).1 hn k hlt; omega)
            generalize findI l l[k].name 0 = fi at hfi hf
            generalize l[k] = x at e0' hfi
            obtain ⟨c0, c1, u0, u1⟩ := cells2 HO.out
            clear hq
            go_wp2_with (first | (go_at_call 30; refine hfi.mono ?_; rintro e w2 ⟨rfl, hw2⟩; rw [hw2]))
            refine bodyPost_ret_by (results_row3 Try.results13 rfl rfl rfl (load_out (set2 HO.out) rfl)) rfl ?_
            rw [HE.out]
            exact RRunTells.err (bl_set (bl_set HB.out _ _ _ (Nat.le_refl _)) _ _ _ (Nat.le_refl _))
          · have HT : Hid (∀ j (hj : j < l.length), j < k + 1 → (j : Int) ≤ findI l l[j].name 0) := fun j hj hjk => by
              by_cases hjk2 : j < k
              · exact hq j hj hjk2
              · obtain rfl : j = k := by omega
                exact Int.not_lt.1 hf
            generalize findI l l[k].name 0 = fi at hfi hf
            generalize l[k] = x at e0' hfi
            clear hq
            go_wp2_with (first | (go_at_call 30; refine hfi.mono ?_; rintro e w2 ⟨rfl, hw2⟩; rw [hw2]))
            go_roundw
            case rel => exact ⟨k + 1, by omega, by go_num, HT.out, trivial⟩
            case measure => simp [intOf]; omega
        · have hnd : Hid (l.map Co.name).Nodup := (names_apart l).2 fun j hj => hq j hj (by omega)
          have hkl : k = l.length := by omega
          clear hq hk
          rw [hkl]
          clear hkl hlt k
          have hfi := refFind_any (S := fun _ => True) a l cp nm wO hrow hl
          obtain ⟨c0, c1, u0, u1⟩ := cells2 HO.out
          rcases look_find l nm 0 with ⟨hk1, hk2⟩ | ⟨j, hj, hk1, hk2⟩
          · have HE : Hid _ := runR_none (ar := ar) HA.out hnd.out hk1
            rw [hk2] at hfi
            clear hk1 hk2
            go_wp2_with (first | (go_at_call 30; refine hfi.mono ?_; rintro e w2 ⟨rfl, hw2⟩; rw [hw2]))
            refine bodyPost_ret_by (results_row3 Try.results13 rfl rfl rfl (load_out (set2 HO.out) rfl)) rfl ?_
            rw [HE.out]
            exact RRunTells.err (bl_set (bl_set HB.out _ _ _ (Nat.le_refl _)) _ _ _ (Nat.le_refl _))
          rw [hk2, Nat.zero_add] at hfi
          have hj0 : (0 : Int) ≤ (j : Int) := by omega
          have hj1 : (j : Int) < (l.length : Int) := by omega
          obtain ⟨b, o, pa, pc, la, lc, ea, _, hb, hat, hin⟩ := co_at hrow j hj
          have hmem := List.getElem_mem hj
          have hrc := HA.out l[j] hmem
          obtain ⟨z1, z2, z3, z4, z5, z6, z7, z8, z9⟩ := formB_parts (right_form hrc)
          have hcb := cellsN_bd l[j].ps z5
          have hwb := wordsN_bd l[j].ps
          have hpl := (hsm _ hmem).1
          have HAT : Hid _ := hat
          obtain ⟨e0, e1, e2, e3, e4⟩ := hat
          have hwd := refWords_any wO pa l[j].ps pc hin.ps z5 hpl
          rw [ea] at hfi ⊢
          have e1' : wO.cell? ⟨b, o + j * 5 + 1, none⟩ = some (.slice pa l[j].ps.length pc) := e1
          clear hk2 z1 z2 z3 z4 z5 z6 z7 z8 z9
          by_cases hna : (ar.length : Int) = wordsN l[j].ps + cellsN l[j].ps
          rotate_left
          · have HE : Hid _ := runR_args HA.out hnd.out hk1 hna
            have hna' : ((ar.length : Int) == (wordsN l[j].ps : Int) + cellsN l[j].ps) = false := by simpa using hna
            clear hk1 hin e0 e1 e2 e3 e4
            generalize wordsN l[j].ps = n at hwd hna hna' hwb
            generalize cellsN l[j].ps = m at hwd hna hna' hcb
            clear hna
            go_wp2_with (first | (go_at_call 30; refine hfi.mono ?_; rintro e w2 ⟨rfl, hw2⟩; rw [hw2]) | (go_at_call 31; refine hwd.mono ?_; rintro e w3 ⟨rfl, hb3⟩; have ho3 := (hb3.block _ (lt_of_some HO.out)).trans HO.out; obtain ⟨c0, c1, u0, u1⟩ := cells2 ho3))
            refine bodyPost_ret_by (results_row3 Try.results13 rfl rfl rfl (load_out (set2 ho3) rfl)) rfl ?_
            rw [HE.out]
            exact RRunTells.err (bl_set (bl_set (bl_then HB.out hb3) _ _ _ (Nat.le_refl _)) _ _ _ (Nat.le_refl _))
          have HG : Hid _ := runR_go HA.out hnd.out hk1 hna
          have hna2 : ((ar.length : Int) == (wordsN l[j].ps : Int) + cellsN l[j].ps) = true := by simpa using hna
          have HNA : Hid _ := hna
          have HWO : Hid _ := hrow
          have HIN : Hid _ := hin
          have HAR : Hid (kWd.row wO (fun _ => True) aa ar) := kWd.row_mono (by decide) har fun b _ hlt => ⟨trivial, HB.out.block b hlt⟩
          clear hk1 hin e0 e1 e2 e3 e4
          obtain ⟨n, hn⟩ : ∃ n, wordsN l[j].ps = n := ⟨_, rfl⟩
          obtain ⟨m, hm⟩ : ∃ m, cellsN l[j].ps = m := ⟨_, rfl⟩
          rw [hn, hm] at hwd hna2
          rw [hn] at hwb
          rw [hm] at hcb
          have HM : Hid _ := hm
          clear hna hn hm
          go_upto_region 18 with (first | (go_at_call 30; refine hfi.mono ?_; rintro e w2 ⟨rfl, hw2⟩; rw [hw2]) | (go_at_call 31; refine hwd.mono ?_; rintro e w3 ⟨rfl, hb3⟩))
          have HB3 : Hid _ := bl_then HB.out hb3
          have HO3 : Hid _ := (hb3.block _ (lt_of_some HO.out)).trans HO.out
          have hX3 := lt_of_some HO3.out
          have hrow3 := co_up HWO.out hb3
          have hci := coIn_up HIN.out hb3
          have har3 : kWd.row w3 (fun _ => True) aa ar := kWd.row_mono (by decide) HAR.out fun b _ hlt => ⟨trivial, hb3.block b hlt⟩
          have hb38 := bl_alloc (Below.refl w3.heap.size w3) (.cells #[.slice a l.length cp, .int .i64 60000, .slice none 0 0, .int .i64 0] 72)
          have hrun := rrun_any (cp := cp) hrow3 hl HA.out (Nat.le_refl w3.heap.size) 60001 l[j] pa pc la lc aa ar ac 0 ⟨60000, [], 0⟩ (.slice none 0 0) (w3.alloc (.cells #[.slice a l.length cp, .int .i64 60000, .slice none 0 0, .int .i64 0] 72)) hmem hci HNA.out (kWd.row_mono (by decide) har3 fun b _ hlt => ⟨trivial, hb38.block b hlt⟩) hac (by omega) (by show 60000 < 60001; omega) rfl RM.start hb38
          have hO8 := (hb38.block _ hX3).trans HO3.out
          have hB8 := bl_then HB3.out hb38
          have HAT8 : Hid _ := HAT.out.keep ((bl_then hb3 hb38).block b hb)
          generalize runF l 60001 0 l[j] (startF l[j] ar) ⟨60000, [], 0⟩ = fin at hrun HG
          generalize l[j] = x at HAT8 hrun HG HM
          subst ea
          have HO8 : Hid _ := hO8
          have HB8 : Hid _ := hB8
          clear hfi hwd hrow3 hci har3 hb3 hrow h har hB8 hO8 hb38 e1' c0 c1 u0 u1
          go_upto_region 19 with fail
          generalize World.alloc w3 _ = w8 at hrun HO8 HB8 HAT8 ⊢
          obtain ⟨e0, e1, e2, e3, e4⟩ := HAT8.out
          obtain ⟨R, hR⟩ : ∃ R, w3.heap.size = R := ⟨_, rfl⟩
          rw [hR] at hrun hX3 ⊢
          have hX8 := lt_of_some HO8.out
          by_cases hw : fin.2.wrong = 0
          · have hrunE : Calls Try.prog 32 #[.pointer (some ⟨R, 0, none⟩), .agg #[.string (bs x.name), .slice pa x.ps.length pc, .int .i64 x.regs, .int .i64 x.cells, .slice la x.l.length lc], .slice aa ar.length ac, .int .i64 0] w8 fun e w' => ∃ C, e = .returned (.tuple #[.int .u32 (fin.1.result : Int), .slice (some ⟨C, 0, none⟩) (cellsN x.ps).toNat fin.1.cells.length]) ∧ ∃ v', RM R (.slice (some ⟨b, o, none⟩) l.length cp) fin.2 v' w' ∧ Kept (TR R (.slice none 0 0)) w8 w' ∧ w'.heap[C]? = some (.cells (wvs fin.1.cells) 26) ∧ fin.1.result < 4294967296 ∧ (∀ n ∈ fin.1.cells, n < 4294967296) ∧ cellsN x.ps ≤ fin.1.cells.length := by
              refine hrun.mono fun e w' hh => ?_
              obtain ⟨v', h1, h2, _, ⟨h4, _⟩ | ⟨_, C, h5, _, _, h6, h7, h8, h9⟩⟩ := hh
              · exact absurd hw h4
              · exact ⟨C, h5, v', h1, h2, h6, h7, h8, h9⟩
            rw [HM.out] at hrunE
            clear hrun
            go_upto_region 20 with (first | (go_at_call 32; refine hrunE.mono ?_; rintro e w9 ⟨C, rfl, v', hrm, hkp, hC, hres, hcl, hcn⟩))
            have HO9 : Hid (w9.heap[w.heap.size]? = some outO) := (hkp.block _ hX8 (fun e => by rcases e with e | e; omega; cases e)).trans HO8.out
            have HB9 : Hid (Below w.heap.size w w9) := Kept.to_below ((Below.kept HB8.out (fun i => w.heap.size ≤ i)).trans (hkp.mono fun i _ e => by rcases e with e | e; omega; cases e)) fun _ h => h
            have HT : Hid (toldR x fin = (fin.1.result, fin.1.cells.take m.toNat, fin.2.br, 0)) := by show _ = _; unfold toldR; rw [if_neg (by simp [hw]), HM.out]
            have HCX : Hid (C ≠ w.heap.size) := fun e => by
              rw [e, HO9.out] at hC
              have h1 := Option.some.inj hC
              injection h1 with h2 h3
              exact absurd h3 (by decide)
            obtain ⟨hbr1, hbr2, hbr3⟩ := br_row (N := R + 1) hrm.own (Nat.le_refl _)
            have HBR : Hid _ := hbr1
            have HBR3 : Hid _ := hbr3
            have HWD : Hid _ := wd_row hC hcl m.toNat
            have r2 : w9.cell? ⟨R, 2, none⟩ = some v' := by simp [World.cell?, hrm.r]
            have r3 : w9.cell? ⟨R, 3, none⟩ = some (.int .i64 0) := by simp [World.cell?, hrm.r, hw]
            have nRX : R ≠ w.heap.size := by omega
            have HS0 : Hid (w9.drew.cell? ⟨R, 2, none⟩ = some v') := r2
            have HS2 : Hid (∀ x y, ((w9.setCell ⟨w.heap.size, 0, none⟩ x).setCell ⟨w.heap.size, 1, none⟩ y).drew.cell? ⟨R, 2, none⟩ = some v') := fun x y => (World.cell?_of_block ((setCell_other nRX).trans (setCell_other nRX))).trans r2
            obtain ⟨c0, c1, u0, u1⟩ := cells2 HO9.out
            have hlt : (fin.1.cells.take m.toNat).length = m.toNat := by rw [List.length_take]; have := HM.out; omega
            clear hrunE hrm hkp hC hbr1 hbr2 hbr3 r2 hw hcl e0 e1 e2 e3 e4
            go_wp2_with fail
            go_region_held3 (fun w' => w'.cell? ⟨R, 2, none⟩ = some v')
              (first | with_reducible exact HS0.out | with_reducible exact HS2.out _ _)
              (fail)
            go_wp2_with fail
            refine bodyPost_ret_by (results_row3 Try.results13 rfl rfl rfl (load_out (W := ((w9.setCell ⟨w.heap.size, 0, none⟩ (.int .u32 (fin.1.result : Int))).setCell ⟨w.heap.size, 1, none⟩ (.slice (some ⟨C, 0, none⟩) m.toNat fin.1.cells.length)).drew) (set2 HO9.out) rfl)) rfl ?_
            rw [HG.out, HT.out]
            have hk9 : ∀ b, b ≠ w.heap.size → ((w9.setCell ⟨w.heap.size, 0, none⟩ (.int .u32 (fin.1.result : Int))).setCell ⟨w.heap.size, 1, none⟩ (.slice (some ⟨C, 0, none⟩) m.toNat fin.1.cells.length)).drew.heap[b]? = w9.heap[b]? := fun b hb => (setCell_other hb).trans (setCell_other hb)
            refine ⟨some ⟨C, 0, none⟩, fin.1.cells.length, brA v', brC v', ?_, kWd.row_mono (by decide) HWD.out fun b hb _ => ⟨trivial, hk9 b (by rw [hb]; exact HCX.out)⟩, kInt.row_mono (by decide) HBR.out fun b hb _ => ⟨trivial, hk9 b (by have h9 : R + 1 ≤ b := hb; omega)⟩, bl_then (bl_set (bl_set HB9.out _ _ _ (Nat.le_refl _)) _ _ _ (Nat.le_refl _)) (drew_bl _)⟩
            simp only [hlt]
            rw [← HBR3.out]
            rfl
          · have hrunE : Calls Try.prog 32 #[.pointer (some ⟨R, 0, none⟩), .agg #[.string (bs x.name), .slice pa x.ps.length pc, .int .i64 x.regs, .int .i64 x.cells, .slice la x.l.length lc], .slice aa ar.length ac, .int .i64 0] w8 fun e w' => e = .returned (.tuple #[.int .u32 0, .slice none 0 0]) ∧ ∃ v', RM R (.slice (some ⟨b, o, none⟩) l.length cp) fin.2 v' w' ∧ Kept (TR R (.slice none 0 0)) w8 w' := by
              refine hrun.mono fun e w' hh => ?_
              obtain ⟨v', h1, h2, _, ⟨_, h5⟩ | ⟨h4, _⟩⟩ := hh
              · exact ⟨h5, v', h1, h2⟩
              · exact absurd h4 hw
            clear hrun
            go_upto_region 20 with (first | (go_at_call 32; refine hrunE.mono ?_; rintro e w9 ⟨rfl, v', hrm, hkp⟩))
            have HO9 : Hid (w9.heap[w.heap.size]? = some outO) := (hkp.block _ hX8 (fun e => by rcases e with e | e; omega; cases e)).trans HO8.out
            have HB9 : Hid (Below w.heap.size w w9) := Kept.to_below ((Below.kept HB8.out (fun i => w.heap.size ≤ i)).trans (hkp.mono fun i _ e => by rcases e with e | e; omega; cases e)) fun _ h => h
            have HT : Hid (toldR x fin = (0, [], [], fin.2.wrong)) := by show _ = _; unfold toldR; rw [if_pos hw]
            have r3 : w9.cell? ⟨R, 3, none⟩ = some (.int .i64 fin.2.wrong) := by simp [World.cell?, hrm.r]
            have nRX : R ≠ w.heap.size := by omega
            have HS0 : Hid (w9.drew.cell? ⟨R, 3, none⟩ = some (.int .i64 fin.2.wrong)) := r3
            have HS2 : Hid (∀ x y, ((w9.setCell ⟨w.heap.size, 0, none⟩ x).setCell ⟨w.heap.size, 1, none⟩ y).drew.cell? ⟨R, 3, none⟩ = some (.int .i64 fin.2.wrong)) := fun x y => (World.cell?_of_block ((setCell_other nRX).trans (setCell_other nRX))).trans r3
            obtain ⟨c0, c1, u0, u1⟩ := cells2 HO9.out
            have hw' : (fin.2.wrong == 0) = false := by simpa using hw
            have hw2 : (fin.2.wrong != 0) = true := by simpa using hw
            clear hrunE hrm hkp e0 e1 e2 e3 e4
            go_wp2_with fail
            go_region_held3 (fun w' => w'.cell? ⟨R, 3, none⟩ = some (.int .i64 fin.2.wrong))
              (first | with_reducible exact HS0.out | with_reducible exact HS2.out _ _)
              (fail)
            go_wp2_with fail
            refine bodyPost_ret_by (results_row3 Try.results13 rfl rfl rfl (load_out (W := ((w9.setCell ⟨w.heap.size, 0, none⟩ (.int .u32 0)).setCell ⟨w.heap.size, 1, none⟩ (.slice none 0 0)).drew) (set2 HO9.out) rfl)) rfl ?_
            rw [HG.out, HT.out]
            exact RRunTells.err (bl_then (bl_set (bl_set HB9.out _ _ _ (Nat.le_refl _)) _ _ _ (Nat.le_refl _)) (drew_bl _))
end Go.Proofs.Ytndmkfmpdnoliaa
