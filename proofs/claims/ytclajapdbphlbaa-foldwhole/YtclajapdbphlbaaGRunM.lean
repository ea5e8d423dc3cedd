/- PLAIN FACTS: what a run tells is told of the folded functions, too. -/
import Derived.Test.YtclajapdbphlbaaGMath
import Derived.Test.YtclajapdbphlbaaIModel
namespace Go.Proofs.Ytclajapdbphlbaa

/-- The registers hold what is known. -/
def Holds (K : Kws) (regs : List Nat) : Prop := ∀ r n, 0 ≤ r → K r = some n → at0 regs r = n
theorem Holds.nil (regs : List Nat) : Holds kNone regs := fun r n _ h => by cases h
theorem at0_set {l : List Nat} {k n : Nat} (h : k < l.length) (r : Int) : at0 (l.set k n) r = if r.toNat = k then n else at0 l r := by
  unfold at0
  simp only [List.getD_eq_getElem?_getD, List.getElem?_set]
  split
  · rename_i e
    subst e
    rw [if_pos rfl]
    rfl
  · rename_i e
    rw [if_neg (fun h => e h.symm)]
theorem Holds.set {K : Kws} {regs : List Nat} (h : Holds K regs) {d : Int} {n : Nat} (hd : 0 ≤ d) (hl : d.toNat < regs.length) : Holds (kPut K d (some n)) (regs.set d.toNat n) := fun r m hr e => by
  rw [at0_set hl]
  unfold kPut at e
  by_cases hrd : r = d
  · rw [if_pos hrd] at e; rw [if_pos (by rw [hrd])]; exact Option.some.inj e
  · rw [if_neg hrd] at e; rw [if_neg (by omega)]; exact h r m hr e
theorem Holds.unset {K : Kws} {regs : List Nat} (h : Holds K regs) {d : Int} {n : Nat} (hd : 0 ≤ d) (hl : d.toNat < regs.length) : Holds (kPut K d none) (regs.set d.toNat n) := fun r m hr e => by
  rw [at0_set hl]
  unfold kPut at e
  by_cases hrd : r = d
  · rw [if_pos hrd] at e; cases e
  · rw [if_neg hrd] at e; rw [if_neg (by omega)]; exact h r m hr e
theorem Holds.drop {K : Kws} {regs : List Nat} (h : Holds K regs) (d : Int) : Holds (kPut K d none) regs := fun r m hr e => by
  unfold kPut at e
  by_cases hrd : r = d
  · rw [if_pos hrd] at e; cases e
  · rw [if_neg hrd] at e; exact h r m hr e
/-- What is worked out is what comes of it. -/
theorem worth_does {P : List Co} {rec : Nat → Co → Fr → St → Fr × St} {d : Nat} {c : Co} {i : Nat} {x : Ir} {K : Kws} {fr : Fr} {st : St} {n : Nat} (hx : IrOk c i x) (hm : mayW x = true) (hh : Holds K fr.regs) (hw : worth K x = some n) : doIr P rec d x fr st = ({ fr with regs := fr.regs.set x.d.toNat n }, st) := by
  have hrd := hx.reads
  rcases mayW_kind hm with h2 | h3 | h4
  · rw [worth_2 K h2] at hw
    rw [doIr_2 h2, hh x.a n (hrd x.a (by simp [readsL, h2])).1 hw]
  · rw [worth_3 K h3] at hw
    cases e1 : K x.a with
    | none => rw [e1] at hw; cases hw
    | some p =>
      cases e2 : K x.b with
      | none => rw [e1, e2] at hw; cases hw
      | some q =>
        rw [e1, e2] at hw
        have hn : (opz x.op (p : Int) (q : Int)).toNat = n := by injection hw
        rw [doIr_3 h3, hh x.a p (hrd x.a (by simp [readsL, h3])).1 e1, hh x.b q (hrd x.b (by simp [readsL, h3])).1 e2, hn]
  · rw [worth_4 K h4] at hw
    cases e1 : K x.a with
    | none => rw [e1] at hw; cases hw
    | some p =>
      rw [e1] at hw
      have hn : (if p = 0 then K x.c else K x.b) = some n := hw
      rw [doIr_4 h4, hh x.a p (hrd x.a (by simp [readsL, h4])).1 e1]
      by_cases hp : p = 0
      · rw [if_pos hp] at hn ⊢; rw [hh x.c n (hrd x.c (by simp [readsL, h4])).1 hn]
      · rw [if_neg hp] at hn ⊢; rw [hh x.b n (hrd x.b (by simp [readsL, h4])).1 hn]
theorem look_fold (P : List Co) (nm : List UInt8) : look (P.map foldC) nm = (look P nm).map foldC := by
  unfold look
  rw [List.find?_map]
  rfl
theorem start_fold (c : Co) (ar : List Nat) : startF (foldC c) ar = startF c ar := rfl
/-- Calls do the same. -/
def RecSame (P : List Co) (rec rec' : Nat → Co → Fr → St → Fr × St) : Prop := ∀ d c ar st, c ∈ P → (ar.length : Int) = wordsN c.ps + cellsN c.ps → rec' d (foldC c) (startF c ar) st = rec d c (startF c ar) st
theorem words_allF : ∀ {ps : List Ty}, ps.all tyOk = true → cellsN ps = 0 → wordsN ps = ps.length
  | [], _, _ => rfl
  | t :: ps, h, hc => by
    simp only [List.all_cons, Bool.and_eq_true, tyOk, decide_eq_true_eq] at h
    have hb := (cellsN_bd ps (by simpa [tyOk] using h.2)).1
    simp only [cellsN] at hc
    have ih := words_allF (ps := ps) (by simpa [tyOk] using h.2) (by omega)
    simp only [wordsN, List.length_cons]
    rw [if_pos (by omega), ih]; omega
theorem inner_lenF {c : Co} {n : Nat} (h : (rightR c).1 = 0) (hn : ¬ (c.ps.length ≠ n ∨ 0 < cellsN c.ps)) : (n : Int) = wordsN c.ps + cellsN c.ps := by
  obtain ⟨a1, a2, a3, a4, a5, a6, a7, a8, a9⟩ := formB_parts (right_form h)
  have hc := (cellsN_bd c.ps a5).1
  have h0 : cellsN c.ps = 0 := by omega
  have hw : wordsN c.ps = c.ps.length := words_allF a5 h0
  omega
theorem callR_fold {P : List Co} (hP : ∀ c ∈ P, (rightR c).1 = 0) {rec rec' : Nat → Co → Fr → St → Fr × St} (hr : RecSame P rec rec') (d : Nat) (x : Ir) (fr : Fr) (st : St) : callR (P.map foldC) rec' d x fr st = callR P rec d x fr st := by
  have hq := look_fold P x.name
  cases hl : look P x.name with
  | none =>
    rw [hl] at hq
    rw [callR_none hl, callR_none hq]
  | some c =>
    rw [hl] at hq
    have hc : c ∈ P := List.mem_of_find?_eq_some hl
    rw [callR_some hl, callR_some hq]
    by_cases a1 : c.ps.length ≠ x.args.length ∨ 0 < cellsN c.ps
    · rw [if_pos a1, if_pos (show (foldC c).ps.length ≠ x.args.length ∨ 0 < cellsN (foldC c).ps from a1)]
    · rw [if_neg a1, if_neg (show ¬ ((foldC c).ps.length ≠ x.args.length ∨ 0 < cellsN (foldC c).ps) from a1)]
      by_cases a2 : d = 32
      · rw [if_pos a2, if_pos a2]
      · rw [if_neg a2, if_neg a2, start_fold, hr _ c _ _ hc (by rw [List.length_map]; exact inner_lenF (hP c hc) a1)]
theorem doIr_same {P : List Co} (hP : ∀ c ∈ P, (rightR c).1 = 0) {rec rec' : Nat → Co → Fr → St → Fr × St} (hr : RecSame P rec rec') (d : Nat) (x : Ir) (fr : Fr) (st : St) : doIr (P.map foldC) rec' d x fr st = doIr P rec d x fr st := by
  by_cases k7 : x.kind = 7
  · rw [doIr_7 k7, doIr_7 k7, callR_fold hP hr]
  · by_cases k1 : x.kind = 1
    · rw [doIr_1 k1, doIr_1 k1]
    by_cases k2 : x.kind = 2
    · rw [doIr_2 k2, doIr_2 k2]
    by_cases k3 : x.kind = 3
    · rw [doIr_3 k3, doIr_3 k3]
    by_cases k4 : x.kind = 4
    · rw [doIr_4 k4, doIr_4 k4]
    by_cases k5 : x.kind = 5
    · rw [doIr_5 k5, doIr_5 k5]
    by_cases k6 : x.kind = 6
    · rw [doIr_6 k6, doIr_6 k6]
    by_cases k8 : x.kind = 8
    · rw [doIr_8 k8, doIr_8 k8]
    by_cases k9 : x.kind = 9
    · rw [doIr_9 k9, doIr_9 k9]
    · have h10 : ∀ n : Int, 1 ≤ n → n ≤ 9 → x.kind ≠ n := fun n a b e => by omega
      rw [doIr_10 h10, doIr_10 h10]
theorem doIr_fold {P : List Co} (hP : ∀ c ∈ P, (rightR c).1 = 0) {rec rec' : Nat → Co → Fr → St → Fr × St} (hr : RecSame P rec rec') (d : Nat) {c : Co} {i : Nat} {x : Ir} {K : Kws} (hx : IrOk c i x) (fr : Fr) (st : St) (hh : Holds K fr.regs) : doIr (P.map foldC) rec' d (foldX K x) fr st = doIr P rec d x fr st := by
  rcases foldX_or K x with e | ⟨hm, n, hw, e⟩
  · rw [e]; exact doIr_same hP hr d x fr st
  · rw [e, doIr_1 rfl, worth_does hx hm hh hw]
    rfl
/-- Behind an instruction the registers hold what is known there. -/
theorem holds_next {P : List Co} {rec : Nat → Co → Fr → St → Fr × St} {d : Nat} {c : Co} {x : Ir} {fr : Fr} {st : St} {i : Nat} (hi : i < c.l.length) (hxl : c.l[i] = x) (hx : IrOk c i x) (hl : (fr.regs.length : Int) = c.regs) (hn : fr.next = i + 1) (hh : Holds (knAt (begs c.l) c.l i) fr.regs) (he : (doIr P rec d x fr st).1.ended = false) :
    Holds (knAt (begs c.l) c.l (doIr P rec d x fr st).1.next) (doIr P rec d x fr st).1.regs := by
  have hw : writesB x = true → 0 ≤ x.d ∧ x.d.toNat < fr.regs.length := fun h => by have := hx.writes h; omega
  have hkn : knAt (begs c.l) c.l (i + 1) = ahead (begs c.l) (i + 1) (nextK (knAt (begs c.l) c.l i) x) := by
    rw [knAt, List.getD_eq_getElem?_getD, List.getElem?_eq_getElem hi, hxl]; rfl
  have on : ∀ {regs : List Nat}, Holds (nextK (knAt (begs c.l) c.l i) x) regs → Holds (knAt (begs c.l) c.l (i + 1)) regs := fun h => by
    rw [hkn]; unfold ahead
    split
    · exact Holds.nil _
    · exact h
  have jump : ∀ {j : Nat} (regs : List Nat), (begs c.l).getD j false = true → Holds (knAt (begs c.l) c.l j) regs := fun {j} regs h => by
    cases j with
    | zero => rw [knAt]; unfold ahead; rw [if_pos h]; exact Holds.nil _
    | succ j => rw [knAt]; unfold ahead; rw [if_pos h]; exact Holds.nil _
  generalize hK : knAt (begs c.l) c.l i = K at hh on hkn
  by_cases k1 : x.kind = 1
  · rw [doIr_1 k1]
    obtain ⟨h0, h1⟩ := hw (by simp [writesB, k1])
    show Holds (knAt _ _ fr.next) _
    rw [hn]
    exact on (by unfold nextK; rw [if_pos k1]; exact hh.set h0 h1)
  by_cases hm : mayW x = true
  · obtain ⟨h0, h1⟩ := hw (by have := mayW_kind hm; simp [writesB]; omega)
    cases hwo : worth K x with
    | some n =>
      rw [worth_does hx hm hh hwo]
      show Holds (knAt _ _ fr.next) _
      rw [hn]
      exact on (by rw [nextK_may K hm, hwo]; exact hh.set h0 h1)
    | none =>
      have go : ∃ n, doIr P rec d x fr st = ({ fr with regs := fr.regs.set x.d.toNat n }, st) := by
        rcases mayW_kind hm with h2 | h3 | h4
        · exact ⟨_, doIr_2 h2⟩
        · exact ⟨_, doIr_3 h3⟩
        · exact ⟨_, doIr_4 h4⟩
      obtain ⟨n, e⟩ := go
      rw [e]
      show Holds (knAt _ _ fr.next) _
      rw [hn]
      exact on (by rw [nextK_may K hm, hwo]; exact hh.unset h0 h1)
  have k2 : x.kind ≠ 2 := fun e => hm (mayW_yes (.inl e))
  have k3 : x.kind ≠ 3 := fun e => hm (mayW_yes (.inr (.inl e)))
  have k4 : x.kind ≠ 4 := fun e => hm (mayW_yes (.inr (.inr e)))
  have hmf : mayW x = false := by simpa using hm
  by_cases k5 : x.kind = 5
  · rw [doIr_5 k5]
    obtain ⟨h0, h1⟩ := hw (by simp [writesB, k5])
    show Holds (knAt _ _ fr.next) _
    rw [hn]
    exact on (by unfold nextK; rw [if_neg k1, if_pos (.inl k5)]; exact hh.unset h0 h1)
  by_cases k7 : x.kind = 7
  · rw [doIr_7 k7]
    obtain ⟨h0, h1⟩ := hw (by simp [writesB, k7])
    have hnx : nextK K x = kPut K x.d none := by unfold nextK; rw [if_neg k1, if_pos (.inr k7)]
    cases hlk : look P x.name with
    | none => rw [callR_none hlk]; show Holds (knAt _ _ fr.next) _; rw [hn]; exact on (by rw [hnx]; exact hh.drop _)
    | some c' =>
      rw [callR_some hlk]
      by_cases a1 : c'.ps.length ≠ x.args.length ∨ 0 < cellsN c'.ps
      · rw [if_pos a1]; show Holds (knAt _ _ fr.next) _; rw [hn]; exact on (by rw [hnx]; exact hh.drop _)
      · rw [if_neg a1]
        by_cases a2 : d = 32
        · rw [if_pos a2]; show Holds (knAt _ _ fr.next) _; rw [hn]; exact on (by rw [hnx]; exact hh.drop _)
        · rw [if_neg a2]; show Holds (knAt _ _ fr.next) _; rw [hn]; exact on (by rw [hnx]; exact hh.unset h0 h1)
  have hnx : nextK K x = K := by unfold nextK; rw [if_neg k1, if_neg (by omega), hmf]; rfl
  by_cases k6 : x.kind = 6
  · rw [doIr_6 k6]
    show Holds (knAt _ _ fr.next) _
    rw [hn]
    exact on (by rw [hnx]; exact hh)
  by_cases k8 : x.kind = 8
  · rw [doIr_8 k8]
    have hj := hx.jump (.inl k8)
    have := begs_jump hi (by rw [hxl]; exact .inl k8) (by rw [hxl]; omega)
    rw [hxl] at this
    exact jump _ this.1
  by_cases k9 : x.kind = 9
  · rw [doIr_9 k9]
    have hj := hx.jump (.inr k9)
    have := begs_jump hi (by rw [hxl]; exact .inr k9) (by rw [hxl]; omega)
    rw [hxl] at this
    by_cases z : at0 fr.regs x.a = 0
    · rw [if_pos z]; exact jump _ this.1
    · rw [if_neg z]; show Holds (knAt _ _ fr.next) _; rw [hn]; exact jump _ this.2
  · have h10 : ∀ n : Int, 1 ≤ n → n ≤ 9 → x.kind ≠ n := fun n a b e => by omega
    rw [doIr_10 h10] at he
    cases he
theorem runF_fold {P : List Co} (hP : ∀ c ∈ P, (rightR c).1 = 0) : ∀ f d c fr st, c ∈ P → Fits c fr → (fr.ended = false → Holds (knAt (begs c.l) c.l fr.next) fr.regs) → runF (P.map foldC) f d (foldC c) fr st = runF P f d c fr st := by
  intro f
  induction f with
  | zero => intro d c fr st _ _ _; rfl
  | succ f ih =>
    intro d c fr st hc hf hh
    rw [runF_succ, runF_succ]
    by_cases h : fr.ended = true ∨ st.wrong ≠ 0
    · rw [if_pos h, if_pos h]
    · rw [if_neg h, if_neg h]
      have he : fr.ended = false := by cases hh : fr.ended; rfl; exact absurd (.inl hh) h
      have hn := hf.next he
      have hget : c.l.getD fr.next noIr = c.l[fr.next] := by simp [List.getD, hn]
      have hgetf : (foldC c).l.getD fr.next noIr = foldX (knAt (begs c.l) c.l fr.next) c.l[fr.next] := by
        have := foldL_at c.l fr.next hn
        show (foldL c.l).getD fr.next noIr = _
        rw [List.getD_eq_getElem?_getD, this]; rfl
      have hx : IrOk c fr.next c.l[fr.next] := irOk_of (right_ir (hP c hc) fr.next hn)
      have hrec : RecSame P (runF P f) (runF (P.map foldC) f) := fun d' c' ar st' hc' hl => ih d' c' (startF c' ar) st' hc' (start_fits (hP c' hc') hl) fun _ => by
        show Holds (knAt _ _ 0) _
        rw [knAt]; unfold ahead; rw [if_pos (begs_zero c'.l)]; exact Holds.nil _
      have hstep : stepR (P.map foldC) (runF (P.map foldC) f) d ((foldC c).l.getD fr.next noIr) fr st = stepR P (runF P f) d (c.l.getD fr.next noIr) fr st := by
        rw [hget, hgetf]
        unfold stepR
        by_cases hz : st.left = 0
        · rw [if_pos hz, if_pos hz]
        · rw [if_neg hz, if_neg hz]
          exact doIr_fold hP hrec d hx _ _ (hh he)
      rw [hstep, hget]
      by_cases hz : st.left = 0
      · have e2 : stepR P (runF P f) d c.l[fr.next] fr st = (fr, { st with wrong := 19 }) := by unfold stepR; rw [if_pos hz]
        rw [e2]
        exact ih d c fr _ hc hf hh
      · refine ih d c _ _ hc (step_fits hf he hx hz) fun he2 => ?_
        have e2 : stepR P (runF P f) d c.l[fr.next] fr st = doIr P (runF P f) d c.l[fr.next] { fr with next := fr.next + 1 } { st with left := st.left - 1 } := by unfold stepR; rw [if_neg hz]
        rw [e2] at he2 ⊢
        exact holds_next hn rfl hx hf.regs rfl (hh he) he2
theorem right_map {P : List Co} (h : (P.all fun c => decide ((rightR c).1 = 0)) = true) : ((P.map foldC).all fun c => decide ((rightR c).1 = 0)) = true := by
  rw [List.all_eq_true] at h ⊢
  intro c hc
  obtain ⟨c', hc', rfl⟩ := List.mem_map.1 hc
  have := h c' hc'
  simp only [decide_eq_true_eq] at this ⊢
  rw [right_fold this]
theorem runR_fold {P : List Co} (h : (P.all fun c => decide ((rightR c).1 = 0)) = true) (nm : List UInt8) (ar : List Nat) : runR (P.map foldC) nm ar = runR P nm ar := by
  have hP : ∀ c ∈ P, (rightR c).1 = 0 := fun c hc => by
    have := (List.all_eq_true.1 h) c hc
    simpa using this
  have hnm : (P.map foldC).map Co.name = P.map Co.name := by rw [List.map_map]; rfl
  unfold runR
  rw [h, right_map h, hnm, look_fold]
  rw [if_neg (show ¬ (true = false) by decide), if_neg (show ¬ (true = false) by decide)]
  by_cases hnd : (P.map Co.name).Nodup
  · rw [if_pos hnd, if_pos hnd]
    cases hl : look P nm with
    | none => rfl
    | some c =>
      have hc : c ∈ P := List.mem_of_find?_eq_some hl
      simp only [Option.map_some]
      by_cases hna : (ar.length : Int) = wordsN c.ps + cellsN c.ps
      · have hr := runF_fold hP 60001 0 c (startF c ar) ⟨60000, [], 0⟩ hc (start_fits (hP c hc) hna) fun _ => by
          show Holds (knAt _ _ 0) _
          rw [knAt]; unfold ahead; rw [if_pos (begs_zero c.l)]; exact Holds.nil _
        rw [start_fold, hr]
        rfl
      · rw [if_pos hna, if_pos (show (ar.length : Int) ≠ wordsN (foldC c).ps + cellsN (foldC c).ps from hna)]
  · rw [if_neg hnd, if_neg hnd]
end Go.Proofs.Ytclajapdbphlbaa
