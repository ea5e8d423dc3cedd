/- PLAIN FACTS of the machine: what it tells are words and lists as they may be; a text that is one word. -/
import Derived.Test.YtbedhghcdhbkmaaBytes
namespace Go.Proofs.Ytbedhghcdhbkmaa

mutual
def Nd.good : Nd → Prop
  | .mk false wd ks _ => wordB wd = true ∧ ks = []
  | .mk true wd ks _ => wd = [] ∧ goodL ks
def goodL : List Nd → Prop
  | [] => True
  | x :: l => Nd.good x ∧ goodL l
end

theorem goodL_append : ∀ l m : List Nd, goodL l → goodL m → goodL (l ++ m)
  | [], _, _, h => h
  | _ :: l, m, ⟨h1, h2⟩, h => ⟨h1, goodL_append l m h2 h⟩
theorem good_head {x : Nd} {l : List Nd} (h : goodL (x :: l)) : Nd.good x := h.1

structure St.good (st : St) : Prop where
  word : st.word.all isPart = true
  top : goodL st.top.kids
  rest : ∀ f ∈ st.rest, goodL f.kids

theorem endWord_good {st : St} (h : st.good) (p : Nat) : (st.endWord p).good := by
  unfold St.endWord
  split
  · exact h
  · rename_i hw
    refine ⟨rfl, goodL_append _ _ h.top ⟨⟨?_, rfl⟩, trivial⟩, h.rest⟩
    unfold wordB
    rw [h.word]
    cases hx : st.word with
    | nil => exact absurd hx hw
    | cons _ _ => rfl

theorem take_good {st st' : St} {p : Nat} {b : UInt8} (hg : st.good) (h : st.take p b = .ok st') : st'.good := by
  unfold St.take at h
  split at h
  · rename_i hb
    cases h
    exact ⟨by rw [List.all_append, hg.word]; simpa using hb, hg.top, hg.rest⟩
  · have he := endWord_good hg p
    unfold St.act at h
    split at h
    · split at h
      · cases h
      · cases h
        refine ⟨he.word, trivial, fun f hf => ?_⟩
        rcases List.mem_cons.1 hf with rfl | hf
        · exact he.top
        · exact he.rest f hf
    · split at h
      · split at h
        · cases h
        · rename_i f r hr
          cases h
          refine ⟨he.word, goodL_append _ _ (he.rest f (by rw [hr]; simp)) ⟨⟨rfl, he.top⟩, trivial⟩, fun g hg' => he.rest g (by rw [hr]; simp [hg'])⟩
      · split at h
        · cases h; exact he
        · cases h

theorem run_good : ∀ (l : List UInt8) (p : Nat) (n : Bool) (st : St) (o : List Nd), st.good → run l p n st = .ok o → goodL o
  | [], p, n, st, o, hg, h => by
    have hr : run [] p n st = st.finish p := by cases n <;> rfl
    rw [hr] at h
    unfold St.finish at h
    split at h
    · cases h; exact (endWord_good hg p).top
    · cases h
  | b :: r, p, true, st, o, hg, h => run_good r (p + 1) (b != 10) st o hg h
  | b :: r, p, false, st, o, hg, h => by
    rcases ht : st.take p b with e | st'
    · rw [run_err ht] at h; cases h
    · rw [run_ok ht] at h
      exact run_good r (p + 1) (b == 59) st' o (take_good hg ht) h

theorem start_good : St.start.good := ⟨rfl, trivial, fun f hf => by cases hf⟩
theorem parse_good {l : List UInt8} {o : List Nd} (h : parse l = .ok o) : goodL o := by
  unfold parse at h
  split at h
  · cases h
  · exact run_good l 0 false _ o start_good h

theorem run_word : ∀ (l : List UInt8) (p : Nat) (wd : List UInt8) (t : Fr), l.all isPart = true → run l p false ⟨wd, t, []⟩ = .ok ((St.mk (wd ++ l) t []).endWord (p + l.length)).top.kids
  | [], p, wd, t, _ => by rw [List.append_nil]; rfl
  | b :: r, p, wd, t, h => by
    simp only [List.all_cons, Bool.and_eq_true] at h
    have ht : (St.mk wd t []).take p b = .ok ⟨wd ++ [b], t, []⟩ := by simp [St.take, h.1]
    have h59 : (b == 59) = false := by
      rw [beq_eq_false_iff_ne]
      rintro rfl
      exact absurd h.1 (by decide)
    rw [run_ok ht, h59, run_word r (p + 1) (wd ++ [b]) t h.2, List.append_assoc, List.length_cons, show p + 1 + r.length = p + (r.length + 1) by omega]
    rfl

theorem parse_word {l : List UInt8} (h : wordB l = true) (hl : l.length ≤ 16384) : parse l = .ok [.mk false l [] 0] := by
  unfold wordB at h
  simp only [Bool.and_eq_true] at h
  unfold parse
  rw [if_neg (by omega)]
  show run l 0 false ⟨[], ⟨0, []⟩, []⟩ = _
  rw [run_word l 0 [] ⟨0, []⟩ h.2, List.nil_append, Nat.zero_add]
  have hne : l ≠ [] := by rintro rfl; exact absurd h.1 (by decide)
  simp [St.endWord, hne]
end Go.Proofs.Ytbedhghcdhbkmaa
