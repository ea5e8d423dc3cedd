/- PLAIN FACTS of the model: a register more and a cell more change nothing; functions of other names neither. -/
import Derived.Test.YtmglmbeconndhaaIRunD
namespace Go.Proofs.Ytmglmbeconndhaa

/-- A function with a register more and a cell more. -/
def extC (c : Co) : Co := { c with regs := c.regs + 1, cells := c.cells + 1 }
/-- A frame with a register more and a cell more. -/
def extF (fr : Fr) : Fr := { fr with regs := fr.regs ++ [0], cells := fr.cells ++ [0] }
theorem at0_ext (l : List Nat) (i : Int) : at0 (l ++ [0]) i = at0 l i := by
  unfold at0
  rcases Nat.lt_trichotomy i.toNat l.length with h | h | h
  · simp [List.getD, List.getElem?_append_left h]
  · simp [List.getD, h]
  · simp only [List.getD]
    rw [List.getElem?_eq_none (by simp; omega), List.getElem?_eq_none (by omega)]
theorem getD_ext (l : List Nat) (n : Nat) : (l ++ [0]).getD n 0 = l.getD n 0 := at0_ext l n
theorem set_ext {l : List Nat} {k : Nat} (h : k < l.length) (x : Nat) : (l ++ [0]).set k x = l.set k x ++ [0] := by
  rw [List.set_append_left _ _ h]
theorem fill_ext {l : List Nat} {n : Nat} (h : l.length ≤ n) : fill l (n + 1) = fill l n ++ [0] := by
  unfold fill
  rw [show n + 1 - l.length = n - l.length + 1 by omega, List.replicate_succ', List.append_assoc]
theorem faultN_of {c : Co} {i : Nat} {x : Ir} (h : IrOk c i x) : faultN c i x = 0 := by
  unfold faultN
  rw [if_neg (by rw [h.known]; simp), if_neg ?_, if_neg ?_, if_neg ?_, if_neg ?_]
  · rintro ⟨e, hk⟩
    exact hk (h.last e)
  · rintro ⟨e, hk⟩
    have := h.jump e
    omega
  · rintro ⟨e, hk⟩
    have := h.addr e
    omega
  · intro e
    have h1 : (readsL x).all (inB c.regs) = true := by
      rw [List.all_eq_true]
      intro r hr
      have := h.reads r hr
      simp only [inB, decide_eq_true_eq]
      exact this
    have h2 : (!writesB x || inB c.regs x.d) = true := by
      rcases hw : writesB x with _ | _
      · rfl
      · have := h.writes hw
        simp only [inB, Bool.not_true, Bool.false_or, decide_eq_true_eq]
        exact this
    rw [h1, h2] at e
    cases e
theorem irOk_ext {c : Co} {i : Nat} {x : Ir} (h : IrOk c i x) : IrOk (extC c) i x :=
  ⟨h.known, fun r hr => by have := h.reads r hr; exact ⟨this.1, by show r < c.regs + 1; omega⟩, fun hw => by have := h.writes hw; exact ⟨this.1, by show x.d < c.regs + 1; omega⟩,
    fun h5 => by have := h.addr h5; show (x.n : Int) < c.cells + 1; omega, h.jump, h.last⟩
theorem faultFrom_none {c : Co} : ∀ (l : List Ir) (i : Nat), (∀ k (h : k < l.length), faultN c (i + k) l[k] = 0) → faultFrom c i l = (0, -1)
  | [], _, _ => rfl
  | x :: l, i, h => by
    have h0 := h 0 (by simp)
    rw [faultFrom, if_pos (by simpa using h0)]
    refine faultFrom_none l (i + 1) fun k hk => ?_
    have := h (k + 1) (by simpa using hk)
    rw [show i + 1 + k = i + (k + 1) by omega]
    exact this
theorem right_all {c : Co} (hf : formB c = true) (h : ∀ k (hk : k < c.l.length), faultN c k c.l[k] = 0) : rightR c = (0, -1) := by
  unfold rightR
  rw [if_pos hf]
  exact faultFrom_none c.l 0 fun k hk => by rw [Nat.zero_add]; exact h k hk
theorem right_zero {c : Co} (h : (rightR c).1 = 0) : rightR c = (0, -1) := right_all (right_form h) fun k hk => right_ir h k hk
theorem formB_ext {c : Co} (h : formB c = true) (h1 : c.regs ≤ 9000) (h2 : c.cells ≤ 4000) : formB (extC c) = true := by
  obtain ⟨a1, a2, a3, a4, a5, a6, a7, a8, a9⟩ := formB_parts h
  have h' := h
  simp only [formB, Bool.and_eq_true, decide_eq_true_eq] at h' ⊢
  obtain ⟨⟨⟨⟨⟨⟨⟨⟨b1, b2⟩, b3⟩, b4⟩, b5⟩, b6⟩, b7⟩, b8⟩, b9⟩ := h'
  exact ⟨⟨⟨⟨⟨⟨⟨⟨b1, b2⟩, b3⟩, b4⟩, b5⟩, by show (wordsN c.ps : Int) ≤ c.regs + 1; omega⟩, by show c.regs + 1 ≤ 10000; omega⟩, by show cellsN c.ps ≤ c.cells + 1; omega⟩, by show c.cells + 1 ≤ 4096; omega⟩
theorem right_ext {c : Co} (h : (rightR c).1 = 0) (h1 : c.regs ≤ 9000) (h2 : c.cells ≤ 4000) : rightR (extC c) = (0, -1) :=
  right_all (formB_ext (right_form h) h1 h2) fun k hk => faultN_of (irOk_ext (irOk_of (right_ir h k hk)))
theorem start_ext {c : Co} {ar : List Nat} (h : (rightR c).1 = 0) (hl : (ar.length : Int) = wordsN c.ps + cellsN c.ps) : startF (extC c) ar = extF (startF c ar) := by
  obtain ⟨a1, a2, a3, a4, a5, a6, a7, a8, a9⟩ := formB_parts (right_form h)
  obtain ⟨e1, e2⟩ := splitA_len c.ps ar a5 hl
  have hc := (cellsN_bd c.ps a5).1
  unfold startF extF extC
  simp only
  rw [show (c.regs + 1).toNat = c.regs.toNat + 1 by omega, show (c.cells + 1).toNat = c.cells.toNat + 1 by omega, fill_ext (by omega), fill_ext (by omega)]
theorem look_ext (c : Co) (nm : List UInt8) : look [extC c] nm = (look [c] nm).map extC := by
  unfold look
  simp only [List.find?_cons, List.find?_nil]
  show (match (c.name == nm) with | true => some (extC c) | false => none) = _
  cases c.name == nm <;> rfl
theorem look_one {c c' : Co} {nm : List UInt8} (h : look [c] nm = some c') : c' = c := by
  unfold look at h
  simp only [List.find?_cons, List.find?_nil] at h
  cases hb : c.name == nm <;> rw [hb] at h <;> simp_all
/-- The same, a frame with a register more and a cell more beside it. -/
def both (r : Fr × St) : Fr × St := (extF r.1, r.2)
/-- Where it is called with as many as it wants, a right function. -/
theorem inner_len {c : Co} {n : Nat} (h : (rightR c).1 = 0) (hn : ¬ (c.ps.length ≠ n ∨ 0 < cellsN c.ps)) : (n : Int) = wordsN c.ps + cellsN c.ps := by
  obtain ⟨a1, a2, a3, a4, a5, a6, a7, a8, a9⟩ := formB_parts (right_form h)
  have hc := (cellsN_bd c.ps a5).1
  have h0 : cellsN c.ps = 0 := by omega
  have hw : wordsN c.ps = c.ps.length := words_all a5 h0
  omega
theorem doIr_ext {c : Co} (hr : (rightR c).1 = 0) {rec rec' : Nat → Co → Fr → St → Fr × St} (hrec : ∀ d fr st, Fits c fr → rec' d (extC c) (extF fr) st = both (rec d c fr st)) (d : Nat) {x : Ir} {i : Nat} (hx : IrOk c i x) (fr : Fr) (st : St) (hl : (fr.regs.length : Int) = c.regs) (hk : (fr.cells.length : Int) = c.cells) :
    doIr [extC c] rec' d x (extF fr) st = both (doIr [c] rec d x fr st) := by
  have hw : writesB x = true → x.d.toNat < fr.regs.length := fun h => by have := hx.writes h; omega
  by_cases k1 : x.kind = 1
  · rw [doIr_1 k1, doIr_1 k1]; simp only [both, extF]; rw [set_ext (hw (by simp [writesB, k1]))]
  by_cases k2 : x.kind = 2
  · rw [doIr_2 k2, doIr_2 k2]; simp only [both, extF, at0_ext]; rw [set_ext (hw (by simp [writesB, k2]))]
  by_cases k3 : x.kind = 3
  · rw [doIr_3 k3, doIr_3 k3]; simp only [both, extF, at0_ext]; rw [set_ext (hw (by simp [writesB, k3]))]
  by_cases k4 : x.kind = 4
  · rw [doIr_4 k4, doIr_4 k4]; simp only [both, extF, at0_ext]; rw [set_ext (hw (by simp [writesB, k4]))]
  by_cases k5 : x.kind = 5
  · rw [doIr_5 k5, doIr_5 k5]; simp only [both, extF, getD_ext]; rw [set_ext (hw (by simp [writesB, k5]))]
  by_cases k6 : x.kind = 6
  · rw [doIr_6 k6, doIr_6 k6]; simp only [both, extF, at0_ext]; rw [set_ext (by have := hx.addr (.inr k6); omega)]
  by_cases k7 : x.kind = 7
  · rw [doIr_7 k7, doIr_7 k7]
    have hq := look_ext c x.name
    cases hlk : look [c] x.name with
    | none =>
      rw [hlk] at hq
      rw [callR_none hlk, callR_none hq]; rfl
    | some c' =>
      rw [hlk] at hq
      obtain rfl := look_one hlk
      rw [callR_some hlk, callR_some hq]
      by_cases a1 : c'.ps.length ≠ x.args.length ∨ 0 < cellsN c'.ps
      · rw [if_pos a1, if_pos (show (extC c').ps.length ≠ x.args.length ∨ 0 < cellsN (extC c').ps from a1)]; rfl
      · rw [if_neg a1, if_neg (show ¬ ((extC c').ps.length ≠ x.args.length ∨ 0 < cellsN (extC c').ps) from a1)]
        by_cases a2 : d = 32
        · rw [if_pos a2, if_pos a2]; rfl
        · rw [if_neg a2, if_neg a2]
          have hlen : ((x.args.map (at0 fr.regs)).length : Int) = wordsN c'.ps + cellsN c'.ps := by rw [List.length_map]; exact inner_len hr a1
          have hm : x.args.map (at0 (extF fr).regs) = x.args.map (at0 fr.regs) := List.map_congr_left fun a _ => at0_ext fr.regs a
          rw [hm, start_ext hr hlen, hrec _ _ _ (start_fits hr hlen)]
          simp only [both, extF]
          rw [set_ext (hw (by simp [writesB, k7]))]
  by_cases k8 : x.kind = 8
  · rw [doIr_8 k8, doIr_8 k8]; rfl
  by_cases k9 : x.kind = 9
  · rw [doIr_9 k9, doIr_9 k9]
    rw [show at0 (extF fr).regs x.a = at0 fr.regs x.a from at0_ext fr.regs x.a]
    by_cases z : at0 fr.regs x.a = 0
    · rw [if_pos z, if_pos z]; rfl
    · rw [if_neg z, if_neg z]; rfl
  · have h10 : ∀ n : Int, 1 ≤ n → n ≤ 9 → x.kind ≠ n := fun n a b e => by omega
    rw [doIr_10 h10, doIr_10 h10]
    simp only [both, extF, at0_ext]
theorem runF_ext {c : Co} (hr : (rightR c).1 = 0) : ∀ f d fr st, Fits c fr → runF [extC c] f d (extC c) (extF fr) st = both (runF [c] f d c fr st) := by
  intro f
  induction f with
  | zero => intro d fr st _; rfl
  | succ f ih =>
    intro d fr st hf
    rw [runF_succ, runF_succ]
    by_cases h : fr.ended = true ∨ st.wrong ≠ 0
    · rw [if_pos h, if_pos (show (extF fr).ended = true ∨ st.wrong ≠ 0 from h)]; rfl
    · rw [if_neg h, if_neg (show ¬ ((extF fr).ended = true ∨ st.wrong ≠ 0) from h)]
      have he : fr.ended = false := by cases hh : fr.ended; rfl; exact absurd (.inl hh) h
      have hn := hf.next he
      have hget : c.l.getD fr.next noIr = c.l[fr.next] := by simp [List.getD, hn]
      have hx : IrOk c fr.next c.l[fr.next] := irOk_of (right_ir hr fr.next hn)
      show runF [extC c] f d (extC c) (stepR [extC c] (runF [extC c] f) d (c.l.getD fr.next noIr) (extF fr) st).1 (stepR [extC c] (runF [extC c] f) d (c.l.getD fr.next noIr) (extF fr) st).2 = _
      rw [hget]
      by_cases hz : st.left = 0
      · have e2 : stepR [extC c] (runF [extC c] f) d c.l[fr.next] (extF fr) st = both (stepR [c] (runF [c] f) d c.l[fr.next] fr st) := by unfold stepR; rw [if_pos hz, if_pos hz]; rfl
        rw [e2]
        have e3 : stepR [c] (runF [c] f) d c.l[fr.next] fr st = (fr, { st with wrong := 19 }) := by unfold stepR; rw [if_pos hz]
        rw [e3]
        exact ih d fr _ hf
      · have e2 : stepR [extC c] (runF [extC c] f) d c.l[fr.next] (extF fr) st = both (stepR [c] (runF [c] f) d c.l[fr.next] fr st) := by
          unfold stepR
          rw [if_neg hz, if_neg hz]
          exact doIr_ext hr (fun d fr st hh => ih d fr st hh) d hx { fr with next := fr.next + 1 } _ hf.regs hf.cells
        rw [e2]
        exact ih d _ _ (step_fits hf he hx hz)
theorem runR_of {P : List Co} {nm : List UInt8} {c : Co} {ar : List Nat} (ha : (P.all fun c => decide ((rightR c).1 = 0)) = true) (hn : (P.map Co.name).Nodup) (hl : look P nm = some c) :
    runR P nm ar = if (ar.length : Int) ≠ wordsN c.ps + cellsN c.ps then (0, [], [], 1)
      else if (runF P 60001 0 c (startF c ar) ⟨60000, [], 0⟩).2.wrong ≠ 0 then (0, [], [], (runF P 60001 0 c (startF c ar) ⟨60000, [], 0⟩).2.wrong)
      else ((runF P 60001 0 c (startF c ar) ⟨60000, [], 0⟩).1.result, (runF P 60001 0 c (startF c ar) ⟨60000, [], 0⟩).1.cells.take (cellsN c.ps).toNat, (runF P 60001 0 c (startF c ar) ⟨60000, [], 0⟩).2.br, 0) := by
  unfold runR
  rw [ha, if_neg (by simp), if_pos hn, hl]
theorem run_ext {c : Co} (hr : (rightR c).1 = 0) (h1 : c.regs ≤ 9000) (h2 : c.cells ≤ 4000) (ar : List Nat) : runR [extC c] c.name ar = runR [c] c.name ar := by
  have hl : look [c] c.name = some c := by simp [look]
  have hl' : look [extC c] c.name = some (extC c) := by rw [look_ext, hl]; rfl
  have ha : (([c] : List Co).all fun c => decide ((rightR c).1 = 0)) = true := by simp [hr]
  have ha' : (([extC c] : List Co).all fun c => decide ((rightR c).1 = 0)) = true := by simp [right_ext hr h1 h2]
  rw [runR_of ha (by simp) hl, runR_of ha' (by simp) hl']
  by_cases hn : (ar.length : Int) = wordsN c.ps + cellsN c.ps
  · have hn' : ¬ (ar.length : Int) ≠ wordsN (extC c).ps + cellsN (extC c).ps := fun e => e hn
    have hn2 : ¬ (ar.length : Int) ≠ wordsN c.ps + cellsN c.ps := fun e => e hn
    have hfit := (start_fits hr hn).cells
    have hform := formB_parts (right_form hr)
    have hcl : (cellsN c.ps).toNat ≤ (runF [c] 60001 0 c (startF c ar) ⟨60000, [], 0⟩).1.cells.length := by
      rw [runF_cells]
      omega
    have ht : (extF (runF [c] 60001 0 c (startF c ar) ⟨60000, [], 0⟩).1).cells.take (cellsN (extC c).ps).toNat = (runF [c] 60001 0 c (startF c ar) ⟨60000, [], 0⟩).1.cells.take (cellsN c.ps).toNat := List.take_append_of_le_length hcl
    rw [if_neg hn', if_neg hn2, start_ext hr hn, runF_ext hr _ _ _ _ (start_fits hr hn)]
    simp only [both]
    rw [ht]
    rfl
  · rw [if_pos hn, if_pos (show ¬ (ar.length : Int) = wordsN (extC c).ps + cellsN (extC c).ps from hn)]
end Go.Proofs.Ytmglmbeconndhaa
