/- PLAIN FACTS: what comes of functions of one shape: one that branches, one that stores. -/
import Derived.Test.YtmglmbeconndhaaIRunD
namespace Go.Proofs.Ytmglmbeconndhaa

abbrev afN : List UInt8 := [97, 46, 102]
theorem one_run {c : Co} (hr : rightR c = (0, -1)) (ar : List Nat) (hl : (ar.length : Int) = wordsN c.ps + cellsN c.ps) {fr : Fr} {br : List Int} {left : Nat} (hrun : runF [c] 60001 0 c (startF c ar) ⟨60000, [], 0⟩ = (fr, ⟨left, br, 0⟩)) :
    runR [c] c.name ar = (fr.result, fr.cells.take (cellsN c.ps).toNat, br, 0) := by
  have ha : (([c] : List Co).all fun c => decide ((rightR c).1 = 0)) = true := by simp [hr]
  have hlk : look [c] c.name = some c := by simp [look]
  unfold runR
  rw [ha, if_neg (by simp), if_pos (by simp), hlk]
  simp only
  rw [if_neg (fun e => e hl), hrun]
  rfl

def goC (a b : Nat) : Co := ⟨afN, [⟨false, 0⟩], 2, 0, [⟨9, 0, 0, 0, 0, 3, 0, [], []⟩, ⟨1, 0, 1, 0, 0, 0, a, [], []⟩, ⟨8, 0, 0, 0, 0, 4, 0, [], []⟩, ⟨1, 0, 1, 0, 0, 0, b, [], []⟩, ⟨10, 0, 0, 1, 0, 0, 0, [], []⟩]⟩
theorem right_br (a b : Nat) : rightR (goC a b) = (0, -1) := by kernel_rfl
theorem step_1 {P : List Co} {rec : Nat → Co → Fr → St → Fr × St} {d : Nat} {x : Ir} {fr : Fr} {st : St} (h : x.kind = 1) (hz : st.left ≠ 0) : stepR P rec d x fr st = ({ fr with next := fr.next + 1, regs := fr.regs.set x.d.toNat x.n }, { st with left := st.left - 1 }) := by rw [stepR, if_neg hz, doIr_1 h]
theorem step_5 {P : List Co} {rec : Nat → Co → Fr → St → Fr × St} {d : Nat} {x : Ir} {fr : Fr} {st : St} (h : x.kind = 5) (hz : st.left ≠ 0) : stepR P rec d x fr st = ({ fr with next := fr.next + 1, regs := fr.regs.set x.d.toNat (fr.cells.getD x.n 0) }, { st with left := st.left - 1 }) := by rw [stepR, if_neg hz, doIr_5 h]
theorem step_6 {P : List Co} {rec : Nat → Co → Fr → St → Fr × St} {d : Nat} {x : Ir} {fr : Fr} {st : St} (h : x.kind = 6) (hz : st.left ≠ 0) : stepR P rec d x fr st = ({ fr with next := fr.next + 1, cells := fr.cells.set x.n (at0 fr.regs x.a) }, { st with left := st.left - 1 }) := by rw [stepR, if_neg hz, doIr_6 h]
theorem step_8 {P : List Co} {rec : Nat → Co → Fr → St → Fr × St} {d : Nat} {x : Ir} {fr : Fr} {st : St} (h : x.kind = 8) (hz : st.left ≠ 0) : stepR P rec d x fr st = ({ fr with next := x.c.toNat }, { st with left := st.left - 1 }) := by rw [stepR, if_neg hz, doIr_8 h]
theorem step_9 {P : List Co} {rec : Nat → Co → Fr → St → Fr × St} {d : Nat} {x : Ir} {fr : Fr} {st : St} (h : x.kind = 9) (hz : st.left ≠ 0) : stepR P rec d x fr st = if at0 fr.regs x.a = 0 then ({ fr with next := x.c.toNat }, { st with left := st.left - 1, br := st.br ++ [0] }) else ({ fr with next := fr.next + 1 }, { st with left := st.left - 1, br := st.br ++ [1] }) := by rw [stepR, if_neg hz, doIr_9 h]
theorem step_10 {P : List Co} {rec : Nat → Co → Fr → St → Fr × St} {d : Nat} {x : Ir} {fr : Fr} {st : St} (h : x.kind = 10) (hz : st.left ≠ 0) : stepR P rec d x fr st = ({ fr with next := fr.next + 1, result := at0 fr.regs x.a, ended := true }, { st with left := st.left - 1 }) := by rw [stepR, if_neg hz, doIr_10 (by intro n h1 h2 e; rw [h] at e; omega)]
theorem runF_step {P : List Co} {f d : Nat} {c : Co} {fr fr' : Fr} {st st' : St} {x : Ir} (he : fr.ended = false) (hw : st.wrong = 0) (hx : c.l[fr.next]? = some x) (hs : stepR P (runF P f) d x fr st = (fr', st')) : runF P (f + 1) d c fr st = runF P f d c fr' st' := by
  rw [runF_succ, if_neg (by rw [he, hw]; simp)]
  have : c.l.getD fr.next noIr = x := by simp [List.getD, hx]
  rw [this, hs]
theorem runF_end {P : List Co} {f d : Nat} {c : Co} {fr : Fr} {st : St} (h : fr.ended = true) : runF P f d c fr st = (fr, st) := runF_stop _ _ _ _ _ _ (.inl h)
theorem br_steps (a b x : Nat) : ∃ left, runF [goC a b] 60001 0 (goC a b) (startF (goC a b) [x]) ⟨60000, [], 0⟩ = (⟨[x, if x = 0 then b else a], [], 5, true, if x = 0 then b else a⟩, ⟨left, [if x = 0 then 0 else 1], 0⟩) := by
  have hs : startF (goC a b) [x] = ⟨[x, 0], [], 0, false, 0⟩ := rfl
  rw [hs]
  by_cases hx : x = 0
  · subst hx
    refine ⟨59997, ?_⟩
    rw [runF_step (x := ⟨9, 0, 0, 0, 0, 3, 0, [], []⟩) rfl rfl rfl (by rw [step_9 rfl (by decide), if_pos (show at0 [0, 0] 0 = 0 from rfl)])]
    rw [runF_step (x := ⟨1, 0, 1, 0, 0, 0, b, [], []⟩) rfl rfl rfl (by rw [step_1 rfl (by decide)])]
    rw [runF_step (x := ⟨10, 0, 0, 1, 0, 0, 0, [], []⟩) rfl rfl rfl (by rw [step_10 rfl (by decide)])]
    exact runF_end rfl
  · refine ⟨59996, ?_⟩
    rw [if_neg hx, if_neg hx]
    rw [runF_step (x := ⟨9, 0, 0, 0, 0, 3, 0, [], []⟩) rfl rfl rfl (by rw [step_9 rfl (by decide), if_neg (show ¬ at0 [x, 0] 0 = 0 from hx)])]
    rw [runF_step (x := ⟨1, 0, 1, 0, 0, 0, a, [], []⟩) rfl rfl rfl (by rw [step_1 rfl (by decide)])]
    rw [runF_step (x := ⟨8, 0, 0, 0, 0, 4, 0, [], []⟩) rfl rfl rfl (by rw [step_8 rfl (by decide)])]
    rw [runF_step (x := ⟨10, 0, 0, 1, 0, 0, 0, [], []⟩) rfl rfl rfl (by rw [step_10 rfl (by decide)])]
    exact runF_end rfl
theorem run_go_br (a b x : Nat) : runR [goC a b] afN [x] = (if x = 0 then b else a, [], [if x = 0 then 0 else 1], 0) := by
  obtain ⟨left, h⟩ := br_steps a b x
  exact one_run (right_br a b) [x] rfl h

/-- One that loads a cell, stores its word there, and tells what it loaded. -/
def stC (n k : Nat) : Co := ⟨afN, [⟨false, 0⟩, ⟨false, n⟩], 2, n, [⟨5, 0, 1, 0, 0, 0, k, [], []⟩, ⟨6, 0, 0, 0, 0, 0, k, [], []⟩, ⟨10, 0, 0, 1, 0, 0, 0, [], []⟩]⟩
theorem right_st : ∀ n k : Nat, 1 ≤ n → n ≤ 16 → k < n → rightR (stC n k) = (0, -1) := by
  have : ∀ n : Fin 17, ∀ k : Fin 17, 1 ≤ n.1 → k.1 < n.1 → rightR (stC n.1 k.1) = (0, -1) := by decide +kernel
  intro n k h1 h2 h3
  exact this ⟨n, by omega⟩ ⟨k, by omega⟩ h1 h3
theorem run_st (cs : List Nat) (k x : Nat) (h1 : 1 ≤ cs.length) (h2 : cs.length ≤ 16) (hk : k < cs.length) : runR [stC cs.length k] afN (x :: cs) = (cs[k], cs.set k x, [], 0) := by
  have hz : ¬ ((cs.length : Nat) : Int) = 0 := by omega
  have hs : startF (stC cs.length k) (x :: cs) = ⟨[x, 0], cs, 0, false, 0⟩ := by
    unfold startF stC
    simp only [splitA, if_true, if_neg hz, List.tail_cons, List.headD_cons, Int.toNat_natCast, List.take_length, List.append_nil]
    simp [fill]
  have hl : ((x :: cs).length : Int) = wordsN (stC cs.length k).ps + cellsN (stC cs.length k).ps := by
    simp only [stC, wordsN, cellsN, if_true, if_neg hz, List.length_cons]; omega
  have hg : cs.getD k 0 = cs[k] := by simp [List.getD, hk]
  have := one_run (c := stC cs.length k) (right_st _ k h1 h2 hk) (x :: cs) hl (fr := ⟨[x, cs[k]], cs.set k x, 3, true, cs[k]⟩) (br := []) (left := 59997) (by
    rw [hs]
    rw [runF_step (x := ⟨5, 0, 1, 0, 0, 0, k, [], []⟩) rfl rfl rfl (by rw [step_5 rfl (by decide)])]
    rw [runF_step (x := ⟨6, 0, 0, 0, 0, 0, k, [], []⟩) rfl rfl rfl (by rw [step_6 rfl (by decide)])]
    rw [runF_step (x := ⟨10, 0, 0, 1, 0, 0, 0, [], []⟩) rfl rfl rfl (by rw [step_10 rfl (by decide)])]
    rw [runF_end rfl]
    rw [← hg]
    rfl)
  refine this.trans ?_
  have hc : (cellsN (stC cs.length k).ps).toNat = cs.length := by simp only [stC, cellsN]; omega
  rw [hc]
  show (_, List.take cs.length (cs.set k x), _, _) = _
  rw [List.take_of_length_le (by simp)]
end Go.Proofs.Ytmglmbeconndhaa
