/- PLAIN FACTS: what is told of functions is told of them without what is dead, too, but where there is no fuel. -/
import Derived.Test.YtndmkfmpdnoliaaDMath
import Derived.Test.YtndmkfmpdnoliaaIModel
namespace Go.Proofs.Ytndmkfmpdnoliaa

/-- It is through, or something is wrong. -/
def Done (r : Fr × St) : Prop := r.1.ended = true ∨ r.2.wrong ≠ 0
theorem runF_done (P : List Co) : ∀ f d c fr st, st.left < f → Done (runF P f d c fr st) := by
  intro f
  induction f with
  | zero => intro d c fr st h; omega
  | succ f ih =>
    intro d c fr st h
    rw [runF_succ]
    by_cases hs : fr.ended = true ∨ st.wrong ≠ 0
    · rw [if_pos hs]; exact hs
    · rw [if_neg hs]
      by_cases hz : st.left = 0
      · have e2 : stepR P (runF P f) d (c.l.getD fr.next noIr) fr st = (fr, { st with wrong := 19 }) := by unfold stepR; rw [if_pos hz]
        rw [e2, runF_stop _ _ _ _ _ _ (.inr (by show (19 : Int) ≠ 0; decide))]
        exact .inr (by show (19 : Int) ≠ 0; decide)
      · have := step_left P f d (c.l.getD fr.next noIr) fr st hz
        exact ih _ _ _ _ (by omega)
theorem at0_put {l : List Nat} {k n : Nat} (h : k < l.length) (r : Int) : at0 (l.set k n) r = if r.toNat = k then n else at0 l r := by
  unfold at0
  simp only [List.getD_eq_getElem?_getD, List.getElem?_set]
  split
  · rename_i e
    subst e
    rw [if_pos rfl]
    rfl
  · rename_i e
    rw [if_neg (fun h => e h.symm)]
/-- The same place of a function without what is dead. -/
structure SameAt (c : Co) (fr fr' : Fr) : Prop where
  next : fr'.next = live (deadL c.l) fr.next
  cells : fr'.cells = fr.cells
  ended : fr'.ended = fr.ended
  result : fr'.result = fr.result
  len : fr'.regs.length = fr.regs.length
  regs : fr.ended = false → ∀ r ∈ rdL (c.l.drop fr.next), at0 fr'.regs r = at0 fr.regs r
structure SameSt (st st' : St) : Prop where
  br : st'.br = st.br
  wrong : st'.wrong = st.wrong
  left : st.left ≤ st'.left
def SameEnd (r r' : Fr × St) : Prop := r'.1.cells = r.1.cells ∧ r'.1.result = r.1.result ∧ SameSt r.2 r'.2
theorem rd_on (l : List Ir) {i j : Nat} (h : i ≤ j) {r : Int} (hr : r ∈ rdL (l.drop j)) : r ∈ rdL (l.drop i) := by
  induction h with
  | refl => exact hr
  | step h ih => exact ih (rd_less l _ hr)
theorem look_drop (P : List Co) (nm : List UInt8) : look (P.map dropC) nm = (look P nm).map dropC := by
  unfold look
  rw [List.find?_map]
  rfl
theorem start_drop (c : Co) (ar : List Nat) : startF (dropC c) ar = startF c ar := rfl
theorem idle_does {P : List Co} {rec : Nat → Co → Fr → St → Fr × St} {d : Nat} {x : Ir} {fr : Fr} {st : St} (h : idleB x = true) : ∃ n, doIr P rec d x fr st = ({ fr with regs := fr.regs.set x.d.toNat n }, st) := by
  simp only [idleB, decide_eq_true_eq] at h
  by_cases k1 : x.kind = 1
  · exact ⟨_, doIr_1 k1⟩
  by_cases k2 : x.kind = 2
  · exact ⟨_, doIr_2 k2⟩
  by_cases k3 : x.kind = 3
  · exact ⟨_, doIr_3 k3⟩
  by_cases k4 : x.kind = 4
  · exact ⟨_, doIr_4 k4⟩
  · exact ⟨_, doIr_5 (by omega)⟩
/-- Calls do the same. -/
def RecDrop (P : List Co) (rec rec' : Nat → Co → Fr → St → Fr × St) (L : Nat) : Prop :=
  ∀ d c ar st st', c ∈ P → (ar.length : Int) = wordsN c.ps + cellsN c.ps → SameSt st st' → st.left < L → (rec d c (startF c ar) st).2.wrong ≠ 19 → SameEnd (rec d c (startF c ar) st) (rec' d (dropC c) (startF c ar) st')
theorem words_allD : ∀ {ps : List Ty}, ps.all tyOk = true → cellsN ps = 0 → wordsN ps = ps.length
  | [], _, _ => rfl
  | t :: ps, h, hc => by
    simp only [List.all_cons, Bool.and_eq_true, tyOk, decide_eq_true_eq] at h
    have hb := (cellsN_bd ps (by simpa [tyOk] using h.2)).1
    simp only [cellsN] at hc
    have ih := words_allD (ps := ps) (by simpa [tyOk] using h.2) (by omega)
    simp only [wordsN, List.length_cons]
    rw [if_pos (by omega), ih]; omega
theorem inner_lenD {c : Co} {n : Nat} (h : (rightR c).1 = 0) (hn : ¬ (c.ps.length ≠ n ∨ 0 < cellsN c.ps)) : (n : Int) = wordsN c.ps + cellsN c.ps := by
  obtain ⟨a1, a2, a3, a4, a5, a6, a7, a8, a9⟩ := form_parts (right_form h)
  have hc := (cellsN_bd c.ps a5).1
  have h0 : cellsN c.ps = 0 := by omega
  have hw : wordsN c.ps = c.ps.length := words_allD a5 h0
  omega
/-- An instruction that is not dead does the same. -/
theorem doIr_drop {P : List Co} (hP : ∀ c ∈ P, (rightR c).1 = 0) {rec rec' : Nat → Co → Fr → St → Fr × St} {L : Nat} (hr : RecDrop P rec rec' L) (d : Nat) {c : Co} {i : Nat} {x : Ir} (hx : IrOk c i x) {fr fr' : Fr} {st st' : St} (hlen : (fr.regs.length : Int) = c.regs) (hn : fr.next = i + 1) (he : fr.ended = false)
    (hA : SameAt c fr fr') (hrd : ∀ r ∈ readsL x, at0 fr'.regs r = at0 fr.regs r) (hS : SameSt st st') (hL : st.left < L) (hw : (doIr P rec d x fr st).2.wrong ≠ 19) :
    SameAt c (doIr P rec d x fr st).1 (doIr (P.map dropC) rec' d (jmpX (live (deadL c.l)) x) fr' st').1 ∧ SameSt (doIr P rec d x fr st).2 (doIr (P.map dropC) rec' d (jmpX (live (deadL c.l)) x) fr' st').2 := by
  have hregs := hA.regs he
  have put : ∀ n, (writesB x = true) → SameAt c { fr with regs := fr.regs.set x.d.toNat n } { fr' with regs := fr'.regs.set x.d.toNat n } := fun n hwr => by
    have hwx := hx.writes hwr
    refine ⟨hA.next, hA.cells, hA.ended, hA.result, by simp [hA.len], fun _ r hr => ?_⟩
    show at0 (fr'.regs.set _ n) r = at0 (fr.regs.set _ n) r
    rw [at0_put (by rw [hA.len]; omega), at0_put (by omega)]
    split
    · rfl
    · exact hregs r hr
  by_cases k8 : x.kind = 8
  · have hj := hx.jump (.inl k8)
    have hs := (jmpX_same (live (deadL c.l)) x).1
    have hc := jmpX_c (live (deadL c.l)) (x := x) (.inl k8)
    rw [doIr_8 k8, doIr_8 (by rw [hs]; exact k8), hc]
    refine ⟨⟨by simp, hA.cells, hA.ended, hA.result, hA.len, fun _ r hr => ?_⟩, hS⟩
    exact hregs r (rd_on c.l (i := fr.next) (j := x.c.toNat) (by rw [hn]; omega) hr)
  by_cases k9 : x.kind = 9
  · have hj := hx.jump (.inr k9)
    have hs := jmpX_same (live (deadL c.l)) x
    have hc := jmpX_c (live (deadL c.l)) (x := x) (.inr k9)
    rw [doIr_9 k9, doIr_9 (by rw [hs.1]; exact k9), hs.2.2.2.1, hc, hrd x.a (by simp [readsL, k9])]
    by_cases z : at0 fr.regs x.a = 0
    · rw [if_pos z, if_pos z]
      refine ⟨⟨by simp, hA.cells, hA.ended, hA.result, hA.len, fun _ r hr => ?_⟩, ⟨by show _ ++ _ = _ ++ _; rw [hS.br], hS.wrong, hS.left⟩⟩
      exact hregs r (rd_on c.l (i := fr.next) (j := x.c.toNat) (by rw [hn]; omega) hr)
    · rw [if_neg z, if_neg z]
      exact ⟨hA, ⟨by show _ ++ _ = _ ++ _; rw [hS.br], hS.wrong, hS.left⟩⟩
  rw [jmpX_not _ (by omega)]
  by_cases k1 : x.kind = 1
  · rw [doIr_1 k1, doIr_1 k1]
    exact ⟨put _ (by simp [writesB, k1]), hS⟩
  by_cases k2 : x.kind = 2
  · rw [doIr_2 k2, doIr_2 k2, hrd x.a (by simp [readsL, k2])]
    exact ⟨put _ (by simp [writesB, k2]), hS⟩
  by_cases k3 : x.kind = 3
  · rw [doIr_3 k3, doIr_3 k3, hrd x.a (by simp [readsL, k3]), hrd x.b (by simp [readsL, k3])]
    exact ⟨put _ (by simp [writesB, k3]), hS⟩
  by_cases k4 : x.kind = 4
  · rw [doIr_4 k4, doIr_4 k4, hrd x.a (by simp [readsL, k4]), hrd x.b (by simp [readsL, k4]), hrd x.c (by simp [readsL, k4])]
    exact ⟨put _ (by simp [writesB, k4]), hS⟩
  by_cases k5 : x.kind = 5
  · have e5 : fr'.cells.getD x.n 0 = fr.cells.getD x.n 0 := by rw [hA.cells]
    rw [doIr_5 k5, doIr_5 k5, e5]
    exact ⟨put _ (by simp [writesB, k5]), hS⟩
  by_cases k6 : x.kind = 6
  · rw [doIr_6 k6, doIr_6 k6, hrd x.a (by simp [readsL, k6])]
    exact ⟨⟨hA.next, by show fr'.cells.set _ _ = fr.cells.set _ _; rw [hA.cells], hA.ended, hA.result, hA.len, hA.regs⟩, hS⟩
  by_cases k7 : x.kind = 7
  · rw [doIr_7 k7] at hw
    rw [doIr_7 k7, doIr_7 k7]
    have hq := look_drop P x.name
    cases hl : look P x.name with
    | none =>
      rw [hl] at hq
      rw [callR_none hl, callR_none hq]
      exact ⟨hA, ⟨hS.br, rfl, hS.left⟩⟩
    | some c' =>
      rw [hl] at hq
      have hc' : c' ∈ P := List.mem_of_find?_eq_some hl
      rw [callR_some hl] at hw
      rw [callR_some hl, callR_some hq]
      by_cases a1 : c'.ps.length ≠ x.args.length ∨ 0 < cellsN c'.ps
      · rw [if_pos a1, if_pos (show (dropC c').ps.length ≠ x.args.length ∨ 0 < cellsN (dropC c').ps from a1)]
        exact ⟨hA, ⟨hS.br, rfl, hS.left⟩⟩
      · rw [if_neg a1] at hw
        rw [if_neg a1, if_neg (show ¬ ((dropC c').ps.length ≠ x.args.length ∨ 0 < cellsN (dropC c').ps) from a1)]
        by_cases a2 : d = 32
        · rw [if_pos a2] at hw
          exact absurd rfl hw
        · rw [if_neg a2] at hw
          rw [if_neg a2, if_neg a2, start_drop]
          have hargs : x.args.map (at0 fr'.regs) = x.args.map (at0 fr.regs) := List.map_congr_left fun r hr => hrd r (by simp [readsL, k7, hr])
          rw [hargs]
          obtain ⟨_, hres, hst⟩ := hr (d + 1) c' (x.args.map (at0 fr.regs)) st st' hc' (by rw [List.length_map]; exact inner_lenD (hP c' hc') a1) hS hL hw
          rw [hres]
          exact ⟨put _ (by simp [writesB, k7]), hst⟩
  · have h10 : ∀ n : Int, 1 ≤ n → n ≤ 9 → x.kind ≠ n := fun n a b e => by omega
    have k10 : x.kind = 10 := by
      obtain ⟨n, e, h1, h2⟩ := known_kind hx.known
      omega
    rw [doIr_10 h10, doIr_10 h10, hrd x.a (by simp [readsL, k10])]
    exact ⟨⟨hA.next, hA.cells, rfl, rfl, hA.len, fun e => by cases e⟩, hS⟩
theorem runF_drop {P : List Co} (hP : ∀ c ∈ P, (rightR c).1 = 0) : ∀ f g d c fr fr' st st', f ≤ g → c ∈ P → Fits c fr → SameAt c fr fr' → SameSt st st' → st.left < f → (runF P f d c fr st).2.wrong ≠ 19 → SameEnd (runF P f d c fr st) (runF (P.map dropC) g d (dropC c) fr' st') := by
  intro f
  induction f with
  | zero => intro g d c fr fr' st st' _ _ _ _ _ h; omega
  | succ f ih =>
    intro g d c fr fr' st st' hg hc hf hA hS hL hw
    rw [runF_succ] at hw ⊢
    by_cases h : fr.ended = true ∨ st.wrong ≠ 0
    · rw [if_pos h]
      rw [runF_stop (P.map dropC) g d (dropC c) fr' st' (by rw [hA.ended, hS.wrong]; exact h)]
      exact ⟨hA.cells, hA.result, hS⟩
    rw [if_neg h] at hw ⊢
    have he : fr.ended = false := by cases hh : fr.ended; rfl; exact absurd (.inl hh) h
    have hn := hf.next he
    have hget : c.l.getD fr.next noIr = c.l[fr.next] := by simp [List.getD, hn]
    rw [hget] at hw ⊢
    have hx : IrOk c fr.next c.l[fr.next] := irOk_of (right_ir (hP c hc) fr.next hn)
    by_cases hz : st.left = 0
    · have e2 : stepR P (runF P f) d c.l[fr.next] fr st = (fr, { st with wrong := 19 }) := by unfold stepR; rw [if_pos hz]
      rw [e2, runF_stop _ _ _ _ _ _ (.inr (by show (19 : Int) ≠ 0; decide))] at hw
      exact absurd rfl hw
    have hlt := step_left P f d c.l[fr.next] fr st hz
    have hfit := step_fits (P := P) (rec := runF P f) (d := d) (st := st) hf he hx hz
    have hrdl := rdL_drop c.l fr.next hn
    have hlive := live_succ (deadL c.l) fr.next (by rw [deadL_len]; exact hn)
    rw [deadL_get c.l fr.next hn] at hlive
    have e2 : stepR P (runF P f) d c.l[fr.next] fr st = doIr P (runF P f) d c.l[fr.next] { fr with next := fr.next + 1 } { st with left := st.left - 1 } := by unfold stepR; rw [if_neg hz]
    cases hdd : deadX (rdL (c.l.drop (fr.next + 1))) c.l[fr.next] with
    | true =>
      rw [hdd] at hrdl hlive
      simp only [if_true] at hrdl hlive
      have hid : idleB c.l[fr.next] = true ∧ (rdL (c.l.drop (fr.next + 1))).contains c.l[fr.next].d = false := by simpa [deadX] using hdd
      have hwr : writesB c.l[fr.next] = true := by
        have := hid.1
        simp only [idleB, decide_eq_true_eq] at this
        simp [writesB]; omega
      have hwx := hx.writes hwr
      obtain ⟨n, hdo⟩ := idle_does (P := P) (rec := runF P f) (d := d) (fr := { fr with next := fr.next + 1 }) (st := { st with left := st.left - 1 }) hid.1
      rw [e2, hdo] at hfit hw hlt ⊢
      refine ih g d c _ fr' _ st' (by omega) hc hfit ⟨?_, hA.cells, hA.ended, hA.result, by simp [hA.len], fun _ r hr => ?_⟩ ⟨hS.br, hS.wrong, by have := hS.left; show st.left - 1 ≤ _; omega⟩ (by show st.left - 1 < f; omega) hw
      · show fr'.next = live (deadL c.l) (fr.next + 1)
        rw [hlive]; exact hA.next
      · have hr' : r ∈ rdL (c.l.drop (fr.next + 1)) := hr
        have hrr := rd_range (hP c hc) hr'
        show at0 fr'.regs r = at0 (fr.regs.set _ n) r
        have hfr := hf.regs
        rw [at0_put (by omega), if_neg ?_]
        · exact hA.regs he r (by rw [hrdl]; exact hr')
        · intro e
          have : r = c.l[fr.next].d := by omega
          rw [this] at hr'
          have := hid.2
          simp [hr'] at this
    | false =>
      rw [hdd] at hrdl hlive
      simp only [Bool.false_eq_true, if_false] at hrdl hlive
      obtain ⟨g', rfl⟩ : ∃ g', g = g' + 1 := ⟨g - 1, by omega⟩
      have hgetd : (dropC c).l.getD fr'.next noIr = jmpX (live (deadL c.l)) c.l[fr.next] := by
        have := free_at c.l fr.next hn hdd
        rw [hA.next]
        show (freeL c.l).getD _ noIr = _
        rw [List.getD_eq_getElem?_getD, this]; rfl
      have hz' : st'.left ≠ 0 := by have := hS.left; omega
      have e3 : stepR (P.map dropC) (runF (P.map dropC) g') d (jmpX (live (deadL c.l)) c.l[fr.next]) fr' st' = doIr (P.map dropC) (runF (P.map dropC) g') d (jmpX (live (deadL c.l)) c.l[fr.next]) { fr' with next := fr'.next + 1 } { st' with left := st'.left - 1 } := by unfold stepR; rw [if_neg hz']
      rw [runF_succ, if_neg (by rw [hA.ended, hS.wrong]; exact h), hgetd, e3, e2]
      rw [e2] at hfit hw hlt
      have hw19 : (doIr P (runF P f) d c.l[fr.next] { fr with next := fr.next + 1 } { st with left := st.left - 1 }).2.wrong ≠ 19 := fun e => by
        rw [runF_stop _ _ _ _ _ _ (.inr (by rw [e]; decide))] at hw
        exact hw e
      have hstep := doIr_drop hP (rec := runF P f) (rec' := runF (P.map dropC) g') (L := f) (fun d c ar st st' hc hl hS hL hw => ih g' d c _ _ st st' (by omega) hc (start_fits (hP c hc) hl) ⟨(live_zero _).symm, rfl, rfl, rfl, rfl, fun _ _ _ => rfl⟩ hS hL hw) d hx (fr := { fr with next := fr.next + 1 }) (fr' := { fr' with next := fr'.next + 1 }) (st := { st with left := st.left - 1 }) (st' := { st' with left := st'.left - 1 }) hf.regs rfl he
        ⟨by show fr'.next + 1 = live (deadL c.l) (fr.next + 1); rw [hlive, hA.next], hA.cells, hA.ended, hA.result, hA.len, fun _ r hr => hA.regs he r (by rw [hrdl]; exact List.mem_append_right _ hr)⟩ (fun r hr => hA.regs he r (by rw [hrdl]; exact List.mem_append_left _ hr)) ⟨hS.br, hS.wrong, by have := hS.left; show st.left - 1 ≤ st'.left - 1; omega⟩ (by show st.left - 1 < f; omega) hw19
      exact ih g' d c _ _ _ _ (by omega) hc hfit hstep.1 hstep.2 (by omega) hw
theorem right_mapD {P : List Co} (h : (P.all fun c => decide ((rightR c).1 = 0)) = true) : ((P.map dropC).all fun c => decide ((rightR c).1 = 0)) = true := by
  rw [List.all_eq_true] at h ⊢
  intro c hc
  obtain ⟨c', hc', rfl⟩ := List.mem_map.1 hc
  have := h c' hc'
  simp only [decide_eq_true_eq] at this ⊢
  rw [right_drop this]
theorem runR_drop {P : List Co} (h : (P.all fun c => decide ((rightR c).1 = 0)) = true) (nm : List UInt8) (ar : List Nat) (hw : (runR P nm ar).2.2.2 ≠ 19) : runR (P.map dropC) nm ar = runR P nm ar := by
  have hP : ∀ c ∈ P, (rightR c).1 = 0 := fun c hc => by
    have := (List.all_eq_true.1 h) c hc
    simpa using this
  have hnm : (P.map dropC).map Co.name = P.map Co.name := by rw [List.map_map]; rfl
  unfold runR at hw ⊢
  rw [h] at hw
  rw [h, right_mapD h, hnm, look_drop]
  rw [if_neg (show ¬ (true = false) by decide)] at hw
  rw [if_neg (show ¬ (true = false) by decide), if_neg (show ¬ (true = false) by decide)]
  by_cases hnd : (P.map Co.name).Nodup
  · rw [if_pos hnd] at hw
    rw [if_pos hnd, if_pos hnd]
    cases hl : look P nm with
    | none => rfl
    | some c =>
      rw [hl] at hw
      have hc : c ∈ P := List.mem_of_find?_eq_some hl
      simp only [Option.map_some] at hw ⊢
      by_cases hna : (ar.length : Int) = wordsN c.ps + cellsN c.ps
      · rw [if_neg (show ¬ ((ar.length : Int) ≠ wordsN c.ps + cellsN c.ps) from fun h => h hna)] at hw
        rw [if_neg (show ¬ ((ar.length : Int) ≠ wordsN (dropC c).ps + cellsN (dropC c).ps) from fun h => h hna), if_neg (show ¬ ((ar.length : Int) ≠ wordsN c.ps + cellsN c.ps) from fun h => h hna)]
        have hw19 : (runF P 60001 0 c (startF c ar) ⟨60000, [], 0⟩).2.wrong ≠ 19 := fun e => by
          rw [if_pos (by rw [e]; decide)] at hw
          exact hw e
        obtain ⟨h1, h2, h3⟩ := runF_drop hP 60001 60001 0 c (startF c ar) (startF c ar) ⟨60000, [], 0⟩ ⟨60000, [], 0⟩ (Nat.le_refl _) hc (start_fits (hP c hc) hna) ⟨(live_zero _).symm, rfl, rfl, rfl, rfl, fun _ _ _ => rfl⟩ ⟨rfl, rfl, Nat.le_refl _⟩ (by show 60000 < 60001; decide) hw19
        rw [start_drop, h1, h2, h3.br, h3.wrong]
        rfl
      · rw [if_pos hna, if_pos (show (ar.length : Int) ≠ wordsN (dropC c).ps + cellsN (dropC c).ps from hna)]
  · rw [if_neg hnd, if_neg hnd]
end Go.Proofs.Ytndmkfmpdnoliaa
