/- PLAIN FACTS of the model: what right functions' instructions are; what a run keeps. -/
import Derived.Test.YtndmkfmpdnoliaaIStep
import Derived.Test.YtndmkfmpdnoliaaIOk
namespace Go.Proofs.Ytndmkfmpdnoliaa

/-- A frame that fits its function. -/
structure Fits (c : Co) (fr : Fr) : Prop where
  regs : (fr.regs.length : Int) = c.regs
  cells : (fr.cells.length : Int) = c.cells
  next : fr.ended = false → fr.next < c.l.length
/-- What a call does. -/
def callR (P : List Co) (rec : Nat → Co → Fr → St → Fr × St) (d : Nat) (x : Ir) (fr : Fr) (st : St) : Fr × St :=
  match look P x.name with
  | none => (fr, { st with wrong := 8 })
  | some c => if c.ps.length ≠ x.args.length ∨ 0 < cellsN c.ps then (fr, { st with wrong := 10 }) else if d = 32 then (fr, { st with wrong := 19 })
    else ({ fr with regs := fr.regs.set x.d.toNat (rec (d + 1) c (startF c (x.args.map (at0 fr.regs))) st).1.result }, (rec (d + 1) c (startF c (x.args.map (at0 fr.regs))) st).2)
theorem callR_none {P : List Co} {rec : Nat → Co → Fr → St → Fr × St} {d : Nat} {x : Ir} {fr : Fr} {st : St} (h : look P x.name = none) : callR P rec d x fr st = (fr, { st with wrong := 8 }) := by unfold callR; rw [h]
theorem callR_some {P : List Co} {rec : Nat → Co → Fr → St → Fr × St} {d : Nat} {x : Ir} {fr : Fr} {st : St} {c : Co} (h : look P x.name = some c) : callR P rec d x fr st = if c.ps.length ≠ x.args.length ∨ 0 < cellsN c.ps then (fr, { st with wrong := 10 }) else if d = 32 then (fr, { st with wrong := 19 })
    else ({ fr with regs := fr.regs.set x.d.toNat (rec (d + 1) c (startF c (x.args.map (at0 fr.regs))) st).1.result }, (rec (d + 1) c (startF c (x.args.map (at0 fr.regs))) st).2) := by unfold callR; rw [h]
theorem doIr_1 {P : List Co} {rec : Nat → Co → Fr → St → Fr × St} {d : Nat} {x : Ir} {fr : Fr} {st : St} (h : x.kind = 1) : doIr P rec d x fr st = ({ fr with regs := fr.regs.set x.d.toNat x.n }, st) := by unfold doIr; rw [if_pos h]
theorem doIr_2 {P : List Co} {rec : Nat → Co → Fr → St → Fr × St} {d : Nat} {x : Ir} {fr : Fr} {st : St} (h : x.kind = 2) : doIr P rec d x fr st = ({ fr with regs := fr.regs.set x.d.toNat (at0 fr.regs x.a) }, st) := by unfold doIr; rw [if_neg (by omega), if_pos h]
theorem doIr_3 {P : List Co} {rec : Nat → Co → Fr → St → Fr × St} {d : Nat} {x : Ir} {fr : Fr} {st : St} (h : x.kind = 3) : doIr P rec d x fr st = ({ fr with regs := fr.regs.set x.d.toNat (opz x.op (at0 fr.regs x.a) (at0 fr.regs x.b)).toNat }, st) := by unfold doIr; rw [if_neg (by omega), if_neg (by omega), if_pos h]
theorem doIr_4 {P : List Co} {rec : Nat → Co → Fr → St → Fr × St} {d : Nat} {x : Ir} {fr : Fr} {st : St} (h : x.kind = 4) : doIr P rec d x fr st = ({ fr with regs := fr.regs.set x.d.toNat (if at0 fr.regs x.a = 0 then at0 fr.regs x.c else at0 fr.regs x.b) }, st) := by unfold doIr; rw [if_neg (by omega), if_neg (by omega), if_neg (by omega), if_pos h]
theorem doIr_5 {P : List Co} {rec : Nat → Co → Fr → St → Fr × St} {d : Nat} {x : Ir} {fr : Fr} {st : St} (h : x.kind = 5) : doIr P rec d x fr st = ({ fr with regs := fr.regs.set x.d.toNat (fr.cells.getD x.n 0) }, st) := by unfold doIr; rw [if_neg (by omega), if_neg (by omega), if_neg (by omega), if_neg (by omega), if_pos h]
theorem doIr_6 {P : List Co} {rec : Nat → Co → Fr → St → Fr × St} {d : Nat} {x : Ir} {fr : Fr} {st : St} (h : x.kind = 6) : doIr P rec d x fr st = ({ fr with cells := fr.cells.set x.n (at0 fr.regs x.a) }, st) := by unfold doIr; rw [if_neg (by omega), if_neg (by omega), if_neg (by omega), if_neg (by omega), if_neg (by omega), if_pos h]
theorem doIr_7 {P : List Co} {rec : Nat → Co → Fr → St → Fr × St} {d : Nat} {x : Ir} {fr : Fr} {st : St} (h : x.kind = 7) : doIr P rec d x fr st = callR P rec d x fr st := by unfold doIr; rw [if_neg (by omega), if_neg (by omega), if_neg (by omega), if_neg (by omega), if_neg (by omega), if_neg (by omega), if_pos h]; rfl
theorem doIr_8 {P : List Co} {rec : Nat → Co → Fr → St → Fr × St} {d : Nat} {x : Ir} {fr : Fr} {st : St} (h : x.kind = 8) : doIr P rec d x fr st = ({ fr with next := x.c.toNat }, st) := by unfold doIr; rw [if_neg (by omega), if_neg (by omega), if_neg (by omega), if_neg (by omega), if_neg (by omega), if_neg (by omega), if_neg (by omega), if_pos h]
theorem doIr_9 {P : List Co} {rec : Nat → Co → Fr → St → Fr × St} {d : Nat} {x : Ir} {fr : Fr} {st : St} (h : x.kind = 9) : doIr P rec d x fr st = (if at0 fr.regs x.a = 0 then ({ fr with next := x.c.toNat }, { st with br := st.br ++ [0] }) else (fr, { st with br := st.br ++ [1] })) := by unfold doIr; rw [if_neg (by omega), if_neg (by omega), if_neg (by omega), if_neg (by omega), if_neg (by omega), if_neg (by omega), if_neg (by omega), if_neg (by omega), if_pos h]
theorem doIr_10 {P : List Co} {rec : Nat → Co → Fr → St → Fr × St} {d : Nat} {x : Ir} {fr : Fr} {st : St} (h : ∀ n : Int, 1 ≤ n → n ≤ 9 → x.kind ≠ n) : doIr P rec d x fr st = ({ fr with result := at0 fr.regs x.a, ended := true }, st) := by unfold doIr; rw [if_neg (h 1 (by decide) (by decide)), if_neg (h 2 (by decide) (by decide)), if_neg (h 3 (by decide) (by decide)), if_neg (h 4 (by decide) (by decide)), if_neg (h 5 (by decide) (by decide)), if_neg (h 6 (by decide) (by decide)), if_neg (h 7 (by decide) (by decide)), if_neg (h 8 (by decide) (by decide)), if_neg (h 9 (by decide) (by decide))]
theorem doIr_all {P : List Co} {rec : Nat → Co → Fr → St → Fr × St} {d : Nat} {x : Ir} {fr : Fr} {st : St} (Q : Fr × St → Prop) (h1 : ∀ l, Q ({ fr with regs := l }, st)) (h2 : ∀ l, Q ({ fr with cells := l }, st)) (h3 : Q (callR P rec d x fr st)) (h4 : ∀ n, Q ({ fr with next := n }, st)) (h5 : ∀ n b, Q ({ fr with next := n }, { st with br := b })) (h6 : ∀ b, Q (fr, { st with br := b })) (h7 : ∀ r, Q ({ fr with result := r, ended := true }, st)) : Q (doIr P rec d x fr st) := by
  by_cases k1 : x.kind = 1
  · rw [doIr_1 k1]; exact h1 _
  by_cases k2 : x.kind = 2
  · rw [doIr_2 k2]; exact h1 _
  by_cases k3 : x.kind = 3
  · rw [doIr_3 k3]; exact h1 _
  by_cases k4 : x.kind = 4
  · rw [doIr_4 k4]; exact h1 _
  by_cases k5 : x.kind = 5
  · rw [doIr_5 k5]; exact h1 _
  by_cases k6 : x.kind = 6
  · rw [doIr_6 k6]; exact h2 _
  by_cases k7 : x.kind = 7
  · rw [doIr_7 k7]; exact h3
  by_cases k8 : x.kind = 8
  · rw [doIr_8 k8]; exact h4 _
  by_cases k9 : x.kind = 9
  · rw [doIr_9 k9]
    by_cases z : at0 fr.regs x.a = 0
    · rw [if_pos z]; exact h5 _ _
    · rw [if_neg z]; exact h6 _
  · rw [doIr_10 (fun n a b e => by omega)]; exact h7 _
theorem callR_left {P : List Co} {rec : Nat → Co → Fr → St → Fr × St} {d : Nat} {x : Ir} {fr : Fr} {st : St} (h : ∀ d c fr st, (rec d c fr st).2.left ≤ st.left) : (callR P rec d x fr st).2.left ≤ st.left := by
  cases hl : look P x.name with
  | none => rw [callR_none hl]; exact Nat.le_refl _
  | some c =>
    rw [callR_some hl]
    by_cases a1 : c.ps.length ≠ x.args.length ∨ 0 < cellsN c.ps
    · rw [if_pos a1]; exact Nat.le_refl _
    · rw [if_neg a1]
      by_cases a2 : d = 32
      · rw [if_pos a2]; exact Nat.le_refl _
      · rw [if_neg a2]; exact h _ _ _ _
theorem doIr_left {P : List Co} {rec : Nat → Co → Fr → St → Fr × St} {d : Nat} {x : Ir} {fr : Fr} {st : St} (h : ∀ d c fr st, (rec d c fr st).2.left ≤ st.left) : (doIr P rec d x fr st).2.left ≤ st.left :=
  doIr_all (fun r => r.2.left ≤ st.left) (fun _ => Nat.le_refl _) (fun _ => Nat.le_refl _) (callR_left h) (fun _ => Nat.le_refl _) (fun _ _ => Nat.le_refl _) (fun _ => Nat.le_refl _) (fun _ => Nat.le_refl _)
theorem runF_succ (P : List Co) (f d : Nat) (c : Co) (fr : Fr) (st : St) : runF P (f + 1) d c fr st = if fr.ended = true ∨ st.wrong ≠ 0 then (fr, st) else runF P f d c (stepR P (runF P f) d (c.l.getD fr.next noIr) fr st).1 (stepR P (runF P f) d (c.l.getD fr.next noIr) fr st).2 := rfl
theorem runF_stop (P : List Co) (f d : Nat) (c : Co) (fr : Fr) (st : St) (h : fr.ended = true ∨ st.wrong ≠ 0) : runF P f d c fr st = (fr, st) := by
  cases f with
  | zero => rfl
  | succ f => rw [runF_succ, if_pos h]
theorem runF_left (P : List Co) : ∀ f d c fr st, (runF P f d c fr st).2.left ≤ st.left := by
  intro f
  induction f with
  | zero => intro d c fr st; exact Nat.le_refl _
  | succ f ih =>
    intro d c fr st
    rw [runF_succ]
    by_cases h : fr.ended = true ∨ st.wrong ≠ 0
    · rw [if_pos h]; exact Nat.le_refl _
    · rw [if_neg h]
      refine Nat.le_trans (ih _ _ _ _) ?_
      unfold stepR
      by_cases hz : st.left = 0
      · rw [if_pos hz]; exact Nat.le_refl _
      · rw [if_neg hz]
        exact Nat.le_trans (doIr_left ih) (Nat.sub_le _ _)
theorem step_left (P : List Co) (f d : Nat) (x : Ir) (fr : Fr) (st : St) (h : st.left ≠ 0) : (stepR P (runF P f) d x fr st).2.left < st.left := by
  unfold stepR
  rw [if_neg h]
  refine Nat.lt_of_le_of_lt (doIr_left (runF_left P f)) ?_
  show st.left - 1 < st.left
  omega
/-- A step of a right function leaves a frame that fits. -/
theorem step_fits {P : List Co} {rec : Nat → Co → Fr → St → Fr × St} {d : Nat} {c : Co} {fr : Fr} {st : St} {x : Ir} (h : Fits c fr) (he : fr.ended = false) (hx : IrOk c fr.next x) (hz : st.left ≠ 0) : Fits c (stepR P rec d x fr st).1 := by
  have hn := h.next he
  have hnext : x.kind ≠ 10 → fr.next + 1 < c.l.length := fun h1 => by
    rcases Nat.lt_or_ge (fr.next + 1) c.l.length with h2 | h2
    · exact h2
    · exact absurd (hx.last (by omega)) h1
  unfold stepR
  rw [if_neg hz]
  by_cases k10 : x.kind = 10
  · rw [doIr_10 (fun n a b e => by omega)]
    exact ⟨h.regs, h.cells, fun e => by cases e⟩
  have hN := hnext k10
  by_cases k8 : x.kind = 8
  · rw [doIr_8 k8]
    have := hx.jump (.inl k8)
    exact ⟨h.regs, h.cells, fun _ => by show x.c.toNat < _; omega⟩
  by_cases k9 : x.kind = 9
  · rw [doIr_9 k9]
    have := hx.jump (.inr k9)
    by_cases z : at0 fr.regs x.a = 0
    · rw [if_pos z]; exact ⟨h.regs, h.cells, fun _ => by show x.c.toNat < _; omega⟩
    · rw [if_neg z]; exact ⟨h.regs, h.cells, fun _ => hN⟩
  by_cases k7 : x.kind = 7
  · rw [doIr_7 k7]
    cases hl : look P x.name with
    | none => rw [callR_none hl]; exact ⟨h.regs, h.cells, fun _ => hN⟩
    | some c' =>
      rw [callR_some hl]
      by_cases a1 : c'.ps.length ≠ x.args.length ∨ 0 < cellsN c'.ps
      · rw [if_pos a1]; exact ⟨h.regs, h.cells, fun _ => hN⟩
      · rw [if_neg a1]
        by_cases a2 : d = 32
        · rw [if_pos a2]; exact ⟨h.regs, h.cells, fun _ => hN⟩
        · rw [if_neg a2]; exact ⟨by simpa using h.regs, h.cells, fun _ => hN⟩
  by_cases k6 : x.kind = 6
  · rw [doIr_6 k6]; exact ⟨h.regs, by simpa using h.cells, fun _ => hN⟩
  by_cases k1 : x.kind = 1
  · rw [doIr_1 k1]; exact ⟨by simpa using h.regs, h.cells, fun _ => hN⟩
  by_cases k2 : x.kind = 2
  · rw [doIr_2 k2]; exact ⟨by simpa using h.regs, h.cells, fun _ => hN⟩
  by_cases k3 : x.kind = 3
  · rw [doIr_3 k3]; exact ⟨by simpa using h.regs, h.cells, fun _ => hN⟩
  by_cases k4 : x.kind = 4
  · rw [doIr_4 k4]; exact ⟨by simpa using h.regs, h.cells, fun _ => hN⟩
  by_cases k5 : x.kind = 5
  · rw [doIr_5 k5]; exact ⟨by simpa using h.regs, h.cells, fun _ => hN⟩
  · obtain ⟨n, e, _, _⟩ := known_kind hx.known
    omega
theorem splitA_len : ∀ (ps : List Ty) (ar : List Nat), ps.all tyOk = true → (ar.length : Int) = wordsN ps + cellsN ps → (splitA ps ar).1.length = wordsN ps ∧ ((splitA ps ar).2.length : Int) = cellsN ps
  | [], _, _, _ => ⟨rfl, rfl⟩
  | t :: ps, ar, hok, hl => by
    simp only [List.all_cons, Bool.and_eq_true, tyOk, decide_eq_true_eq] at hok
    obtain ⟨⟨t0, t1⟩, hok⟩ := hok
    have hc := cellsN_bd ps (by simpa [tyOk] using hok)
    simp only [wordsN, cellsN] at hl ⊢
    by_cases hz : t.len = 0
    · rw [if_pos hz] at hl ⊢
      have := splitA_len ps ar.tail (by simpa [tyOk] using hok) (by rw [List.length_tail]; omega)
      rw [splitA, if_pos hz]
      simp only [List.length_cons]
      omega
    · rw [if_neg hz] at hl ⊢
      have := splitA_len ps (ar.drop t.len.toNat) (by simpa [tyOk] using hok) (by rw [List.length_drop]; omega)
      rw [splitA, if_neg hz]
      simp only [List.length_append, List.length_take]
      omega
theorem start_fits {c : Co} {ar : List Nat} (h : (rightR c).1 = 0) (hl : (ar.length : Int) = wordsN c.ps + cellsN c.ps) : Fits c (startF c ar) := by
  obtain ⟨h1, h2, h3, h4, h5, h6, h7, h8, h9⟩ := formB_parts (right_form h)
  obtain ⟨e1, e2⟩ := splitA_len c.ps ar h5 hl
  have hc := (cellsN_bd c.ps h5).1
  refine ⟨?_, ?_, fun _ => h3⟩
  · simp only [startF, fill, List.length_append, List.length_replicate]; omega
  · simp only [startF, fill, List.length_append, List.length_replicate]; omega
end Go.Proofs.Ytndmkfmpdnoliaa
