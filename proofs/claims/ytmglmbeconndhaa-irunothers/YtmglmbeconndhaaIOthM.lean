/- PLAIN FACTS of the model: a function more, that none calls, changes nothing. -/
import Derived.Test.YtmglmbeconndhaaIRunD
namespace Go.Proofs.Ytmglmbeconndhaa

abbrev zzN : List UInt8 := [122, 122, 46, 113]
/-- The function more. -/
def zzC : Co := ⟨zzN, [], 1, 0, [⟨10, 0, 0, 0, 0, 0, 0, [], []⟩]⟩
theorem right_zz : rightR zzC = (0, -1) := by decide +kernel
theorem look_zz {l : List Co} {nm : List UInt8} (h : nm ≠ zzN) : look (zzC :: l) nm = look l nm := by
  unfold look
  rw [List.find?_cons]
  have : (zzC.name == nm) = false := by
    show (zzN == nm) = false
    simpa using fun e => h e.symm
  rw [this]
theorem look_mem {l : List Co} {nm : List UInt8} {c : Co} (h : look l nm = some c) : c ∈ l := List.mem_of_find?_eq_some h
theorem callR_zz {l : List Co} {rec rec' : Nat → Co → Fr → St → Fr × St} {x : Ir} (hx : x.name ≠ zzN) (hrec : ∀ d c fr st, c ∈ l → rec' d c fr st = rec d c fr st) (d : Nat) (fr : Fr) (st : St) : callR (zzC :: l) rec' d x fr st = callR l rec d x fr st := by
  cases hl : look l x.name with
  | none => rw [callR_none hl, callR_none (by rw [look_zz hx, hl])]
  | some c =>
    rw [callR_some hl, callR_some (show look (zzC :: l) x.name = some c by rw [look_zz hx, hl])]
    rw [hrec _ _ _ _ (look_mem hl)]
theorem doIr_zz {l : List Co} {rec rec' : Nat → Co → Fr → St → Fr × St} {x : Ir} (hx : x.name ≠ zzN) (hrec : ∀ d c fr st, c ∈ l → rec' d c fr st = rec d c fr st) (d : Nat) (fr : Fr) (st : St) : doIr (zzC :: l) rec' d x fr st = doIr l rec d x fr st := by
  by_cases k7 : x.kind = 7
  · rw [doIr_7 k7, doIr_7 k7, callR_zz hx hrec]
  by_cases k1 : x.kind = 1
  · rw [doIr_1 k1, doIr_1 k1]
  by_cases k2 : x.kind = 2
  · rw [doIr_2 k2, doIr_2 k2]
  by_cases k3 : x.kind = 3
  · rw [doIr_3 k3, doIr_3 k3]
  by_cases k4 : x.kind = 4
  · rw [doIr_4 k4, doIr_4 k4]
  by_cases k5 : x.kind = 5
  · rw [doIr_5 k5, doIr_5 k5]
  by_cases k6 : x.kind = 6
  · rw [doIr_6 k6, doIr_6 k6]
  by_cases k8 : x.kind = 8
  · rw [doIr_8 k8, doIr_8 k8]
  by_cases k9 : x.kind = 9
  · rw [doIr_9 k9, doIr_9 k9]
  · have h10 : ∀ n : Int, 1 ≤ n → n ≤ 9 → x.kind ≠ n := fun n a b e => by omega
    rw [doIr_10 h10, doIr_10 h10]
theorem stepR_zz {l : List Co} {rec rec' : Nat → Co → Fr → St → Fr × St} {x : Ir} (hx : x.name ≠ zzN) (hrec : ∀ d c fr st, c ∈ l → rec' d c fr st = rec d c fr st) (d : Nat) (fr : Fr) (st : St) : stepR (zzC :: l) rec' d x fr st = stepR l rec d x fr st := by
  unfold stepR
  by_cases hz : st.left = 0
  · rw [if_pos hz, if_pos hz]
  · rw [if_neg hz, if_neg hz, doIr_zz hx hrec]
theorem runF_zz {l : List Co} (h : ∀ c ∈ l, ∀ y ∈ c.l, y.name ≠ zzN) : ∀ f d c fr st, c ∈ l → runF (zzC :: l) f d c fr st = runF l f d c fr st := by
  intro f
  induction f with
  | zero => intro d c fr st _; rfl
  | succ f ih =>
    intro d c fr st hc
    rw [runF_succ, runF_succ]
    have hx : (c.l.getD fr.next noIr).name ≠ zzN := by
      by_cases hn : fr.next < c.l.length
      · rw [show c.l.getD fr.next noIr = c.l[fr.next] by simp [List.getD, hn]]
        exact h c hc _ (List.getElem_mem hn)
      · rw [show c.l.getD fr.next noIr = noIr by simp [List.getD, List.getElem?_eq_none (Nat.le_of_not_lt hn)]]
        decide
    rw [stepR_zz hx ih, ih _ _ _ _ hc]
theorem run_zz {l : List Co} (h : ∀ c ∈ l, ∀ y ∈ c.l, y.name ≠ zzN) (hn : ∀ c ∈ l, c.name ≠ zzN) {nm : List UInt8} (hnm : nm ≠ zzN) (ar : List Nat) : runR (zzC :: l) nm ar = runR l nm ar := by
  have ha : ((zzC :: l).all fun c => decide ((rightR c).1 = 0)) = l.all fun c => decide ((rightR c).1 = 0) := by
    rw [List.all_cons, right_zz]; rfl
  have hnd : ((zzC :: l).map Co.name).Nodup ↔ (l.map Co.name).Nodup := by
    rw [List.map_cons, List.nodup_cons]
    constructor
    · exact fun h => h.2
    · intro h1
      refine ⟨fun hm => ?_, h1⟩
      obtain ⟨c, hc, e⟩ := List.mem_map.1 hm
      exact hn c hc e
  unfold runR
  rw [ha, look_zz hnm]
  by_cases h0 : (l.all fun c => decide ((rightR c).1 = 0)) = false
  · rw [if_pos h0, if_pos h0]
  · rw [if_neg h0, if_neg h0]
    by_cases h1 : (l.map Co.name).Nodup
    · rw [if_pos h1, if_pos (hnd.2 h1)]
      cases hl : look l nm with
      | none => rfl
      | some c =>
        simp only
        rw [runF_zz h _ _ _ _ _ (look_mem hl)]
    · rw [if_neg h1, if_neg (fun e => h1 (hnd.1 e))]
end Go.Proofs.Ytmglmbeconndhaa
