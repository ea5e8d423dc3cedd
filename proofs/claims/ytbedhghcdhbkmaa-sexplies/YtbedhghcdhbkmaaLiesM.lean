/- PLAIN FACTS of the machine: a node's first byte stands at its place, one behind the other. -/
import Derived.Test.YtbedhghcdhbkmaaNodes
namespace Go.Proofs.Ytbedhghcdhbkmaa

/-- Nodes lie in a text from a place on; the last one begins ahead of hi. -/
inductive Lie (s : ByteArray) : Nat → List Nd → Nat → Prop
  | nil (lo : Nat) : Lie s lo [] lo
  | word (lo p hi : Nat) (wd : List UInt8) (l : List Nd) (h0 : lo ≤ p) (hne : wd ≠ []) (hp : p + wd.length ≤ s.size) (hw : (s.data.toList.drop p).take wd.length = wd) (hl : Lie s (p + 1) l hi) : Lie s lo (.mk false wd [] p :: l) hi
  | list (lo p m hi : Nat) (ks l : List Nd) (h0 : lo ≤ p) (hp : p < s.size) (hx : s[p] = 40) (hk : Lie s (p + 1) ks m) (hl : Lie s m l hi) : Lie s lo (.mk true [] ks p :: l) hi

theorem Lie.le {s : ByteArray} {lo hi : Nat} {l : List Nd} (h : Lie s lo l hi) : lo ≤ hi := by
  induction h with
  | nil => exact Nat.le_refl _
  | word lo p hi wd l h0 hne hp hw hl ih => omega
  | list lo p m hi ks l h0 hp hx hk hl ihk ihl => omega

theorem Lie.snocWord {s : ByteArray} {lo hi : Nat} {l : List Nd} (h : Lie s lo l hi) (p : Nat) (wd : List UInt8) (h0 : hi ≤ p) (hne : wd ≠ []) (hp : p + wd.length ≤ s.size) (hw : (s.data.toList.drop p).take wd.length = wd) : Lie s lo (l ++ [.mk false wd [] p]) (p + 1) := by
  induction h with
  | nil lo => exact .word lo p (p + 1) wd [] h0 hne hp hw (.nil _)
  | word lo p' hi wd' l h0' hne' hp' hw' hl ih => exact .word lo p' _ wd' _ h0' hne' hp' hw' (ih h0)
  | list lo p' m hi ks l h0' hp' hx hk hl ihk ihl => exact .list lo p' m _ ks _ h0' hp' hx hk (ihl h0)
theorem Lie.snocList {s : ByteArray} {lo hi : Nat} {l : List Nd} (h : Lie s lo l hi) (p m : Nat) (ks : List Nd) (h0 : hi ≤ p) (hp : p < s.size) (hx : s[p] = 40) (hk : Lie s (p + 1) ks m) : Lie s lo (l ++ [.mk true [] ks p]) m := by
  induction h with
  | nil lo => exact .list lo p m m ks [] h0 hp hx hk (.nil _)
  | word lo p' hi wd' l h0' hne' hp' hw' hl ih => exact .word lo p' _ wd' _ h0' hne' hp' hw' (ih h0)
  | list lo p' m' hi ks' l h0' hp' hx' hk' hl ihk ihl => exact .list lo p' m' _ ks' _ h0' hp' hx' hk' (ihl h0)

/-- The lists that go on lie so, the innermost one first. -/
def LieS (s : ByteArray) (t : Fr) : List Fr → Nat → Prop
  | [], hi => Lie s 0 t.kids hi
  | g :: r, hi => ∃ m, LieS s g r m ∧ m ≤ t.pos ∧ (∃ hp : t.pos < s.size, s[t.pos] = 40) ∧ Lie s (t.pos + 1) t.kids hi

theorem LieS.snoc {s : ByteArray} {t : Fr} {rs : List Fr} {hi hi' : Nat} (x : Nd) (h : LieS s t rs hi) (hx : ∀ lo l, Lie s lo l hi → Lie s lo (l ++ [x]) hi') : LieS s { t with kids := t.kids ++ [x] } rs hi' := by
  cases rs with
  | nil => exact hx _ _ h
  | cons g r =>
    obtain ⟨m, h1, h2, h3, h4⟩ := h
    exact ⟨m, h1, h2, h3, hx _ _ h4⟩

structure St.lie (s : ByteArray) (p : Nat) (st : St) : Prop where
  ex : ∃ hi, LieS s st.top st.rest hi ∧ hi + st.word.length ≤ p
  word : (s.data.toList.drop (p - st.word.length)).take st.word.length = st.word
  le : p ≤ s.size

theorem endWord_lie {s : ByteArray} {p : Nat} {st : St} (h : st.lie s p) : (st.endWord p).lie s p ∧ (st.endWord p).word = [] := by
  obtain ⟨⟨hi, h1, h2⟩, h3, h4⟩ := h
  unfold St.endWord
  split
  · rename_i hw
    exact ⟨⟨⟨hi, h1, h2⟩, h3, h4⟩, hw⟩
  · rename_i hw
    have hl := List.length_pos_iff.2 hw
    refine ⟨⟨⟨p - st.word.length + 1, ?_, by simp; omega⟩, by simp, h4⟩, rfl⟩
    have e : ((p : Int) - (st.word.length : Nat)) = ((p - st.word.length : Nat) : Int) := by omega
    rw [e]
    exact h1.snoc _ fun lo l hl' => hl'.snocWord (p - st.word.length) st.word (by omega) hw (by omega) h3

theorem take_lie {s : ByteArray} {p : Nat} {st st' : St} (hp : p < s.size) (hg : st.lie s p) (h : st.take p s[p] = .ok st') : st'.lie s (p + 1) := by
  unfold St.take at h
  split at h
  · cases h
    obtain ⟨⟨hi, h1, h2⟩, h3, h4⟩ := hg
    refine ⟨⟨hi, h1, by simp only [List.length_append, List.length_singleton]; omega⟩, ?_, by omega⟩
    simp only [List.length_append, List.length_singleton]
    rw [show p + 1 - (st.word.length + 1) = p - st.word.length by omega]
    have hl : st.word.length < (s.data.toList.drop (p - st.word.length)).length := by
      rw [List.length_drop]
      have : s.data.toList.length = s.size := rfl
      omega
    rw [List.take_succ_eq_append_getElem hl, h3, List.getElem_drop]
    have e : p - st.word.length + st.word.length = p := by omega
    have key : ∀ q (hq : q < s.data.toList.length), q = p → s.data.toList[q] = s[p] := by rintro q hq rfl; rfl
    rw [key _ _ e]
  · obtain ⟨he, hw⟩ := endWord_lie hg
    obtain ⟨⟨hi, h1, h2⟩, h3, h4⟩ := he
    rw [hw] at h2
    unfold St.act at h
    split at h
    · rename_i h40
      split at h
      · cases h
      · cases h
        refine ⟨⟨p + 1, ⟨hi, h1, by simpa using h2, ⟨hp, h40⟩, .nil _⟩, by rw [hw]; simp⟩, by rw [hw]; simp, by omega⟩
    · split at h
      · split at h
        · cases h
        · rename_i f r hr
          cases h
          rw [hr] at h1
          obtain ⟨m, q1, q2, ⟨q3, q3'⟩, q4⟩ := h1
          refine ⟨⟨hi, ?_, by rw [hw]; simp at *; omega⟩, by rw [hw]; simp, by omega⟩
          exact q1.snoc _ fun lo l hl => hl.snocList (st.endWord p).top.pos hi (st.endWord p).top.kids q2 q3 q3' q4
      · split at h
        · cases h
          exact ⟨⟨hi, h1, by rw [hw]; simp at *; omega⟩, by rw [hw]; simp, by omega⟩
        · cases h

theorem run_lie (s : ByteArray) (n : Nat) : ∀ (p : Nat) (nt : Bool) (st : St) (o : List Nd), s.size - p = n → (nt = true → st.word = []) → st.lie s p → run (s.data.toList.drop p) p nt st = .ok o → ∃ hi, Lie s 0 o hi := by
  induction n with
  | zero =>
    intro p nt st o hn _ hg h
    rw [drop_out s p (by omega), run_nil] at h
    have he := (endWord_lie hg).1
    unfold St.finish at h
    split at h
    · rename_i hr
      cases h
      obtain ⟨⟨hi, h1, _⟩, _, _⟩ := he
      have hr' : (st.endWord p).rest = [] := by
        unfold St.endWord
        split
        · exact hr
        · exact hr
      rw [hr'] at h1
      exact ⟨hi, h1⟩
    · cases h
  | succ n ih =>
    intro p nt st o hn hnt hg h
    have hp : p < s.size := by omega
    rw [drop_at s p hp] at h
    cases nt with
    | true =>
      have hw := hnt rfl
      rw [run_note] at h
      obtain ⟨⟨hi, h1, h2⟩, h3, h4⟩ := hg
      exact ih (p + 1) _ st o (by omega) (fun _ => hw) ⟨⟨hi, h1, by omega⟩, by rw [hw]; simp, by omega⟩ h
    | false =>
      rcases ht : st.take p s[p] with e | st'
      · rw [run_err ht] at h; cases h
      · rw [run_ok ht] at h
        refine ih (p + 1) _ st' o (by omega) (fun h59 => ?_) (take_lie hp hg ht) h
        rw [beq_iff_eq] at h59
        rw [h59] at ht
        have hnp : isPart 59 = false := by decide
        have hw := (endWord_lie hg).2
        simp only [St.take, hnp, Bool.false_eq_true, if_false, St.act] at ht
        simp at ht
        rw [← ht, hw]

theorem parse_lie {s : ByteArray} {o : List Nd} (h : parse s.data.toList = .ok o) : ∃ hi, Lie s 0 o hi := by
  unfold parse at h
  split at h
  · cases h
  · have hs : St.start.lie s 0 := ⟨⟨0, (Lie.nil 0 : Lie s 0 [] 0), by simp [St.start]⟩, by simp [St.start], Nat.zero_le _⟩
    exact run_lie s s.size 0 false St.start o (by omega) (fun h => by cases h) hs h
end Go.Proofs.Ytbedhghcdhbkmaa
