/- PLAIN FACTS of the machine: how much it tells; a list of nodes is the same as itself. -/
import Derived.Test.YtbedhghcdhbkmaaSame
namespace Go.Proofs.Ytbedhghcdhbkmaa

mutual
theorem same_self : ∀ x : Nd, Nd.same x x = true
  | .mk a b c d => by simp [Nd.same, same_refl c]
theorem same_refl : ∀ l : List Nd, sameL l l = true
  | [] => rfl
  | x :: l => by rw [sameL, same_self x, same_refl l]; rfl
end

theorem sizeL_append : ∀ l m : List Nd, sizeL (l ++ m) = sizeL l + sizeL m
  | [], m => by simp [sizeL]
  | x :: l, m => by simp only [List.cons_append, sizeL, sizeL_append l m]; omega

def frSize : List Fr → Nat
  | [] => 0
  | f :: r => sizeL f.kids + frSize r

def St.size (st : St) : Nat := sizeL st.top.kids + frSize st.rest + st.rest.length

theorem endWord_size (st : St) (p : Nat) : (st.endWord p).size + (st.endWord p).word.length ≤ st.size + st.word.length := by
  unfold St.endWord
  split
  · exact Nat.le_refl _
  · rename_i h
    have := List.length_pos_iff.2 h
    simp only [St.size, sizeL_append, sizeL, Nd.size, List.length_nil]
    omega
theorem endWord_word (st : St) (p : Nat) : (st.endWord p).word = [] := by
  unfold St.endWord
  split
  · assumption
  · rfl

theorem take_size {st st' : St} {p : Nat} {b : UInt8} (h : st.take p b = .ok st') : st'.size + st'.word.length ≤ st.size + st.word.length + 1 := by
  unfold St.take at h
  split at h
  · cases h
    simp only [St.size, List.length_append, List.length_singleton]
    omega
  · have he := endWord_size st p
    have hw := endWord_word st p
    rw [hw] at he
    unfold St.act at h
    split at h
    · split at h
      · cases h
      · cases h
        simp only [St.size, sizeL, frSize, List.length_cons, hw, List.length_nil] at *
        omega
    · split at h
      · split at h
        · cases h
        · rename_i hr
          cases h
          simp only [St.size, hr, frSize, sizeL_append, sizeL, Nd.size, List.length_cons, hw, List.length_nil] at *
          omega
      · split at h
        · cases h
          rw [hw]
          simp only [List.length_nil] at *
          omega
        · cases h

def outSize : Out → Nat | .ok l => sizeL l | .err _ _ => 0

theorem run_size : ∀ (l : List UInt8) (p : Nat) (n : Bool) (st : St), outSize (run l p n st) ≤ st.size + st.word.length + l.length
  | [], p, n, st => by
    have hr : run [] p n st = st.finish p := by cases n <;> rfl
    rw [hr]
    have he := endWord_size st p
    unfold St.finish
    split
    · simp only [outSize, St.size] at *
      omega
    · exact Nat.zero_le _
  | b :: r, p, true, st => by
    have := run_size r (p + 1) (b != 10) st
    have hr : run (b :: r) p true st = run r (p + 1) (b != 10) st := rfl
    rw [hr, List.length_cons]
    omega
  | b :: r, p, false, st => by
    rcases ht : st.take p b with e | st'
    · rw [run_err ht]; exact Nat.zero_le _
    · have h1 := run_size r (p + 1) (b == 59) st'
      have h2 := take_size ht
      rw [run_ok ht, List.length_cons]
      omega

theorem parse_out (l : List UInt8) : outSize (parse l) ≤ 16384 := by
  unfold parse
  split
  · exact Nat.zero_le _
  · have := run_size l 0 false St.start
    have e : St.start.size + St.start.word.length = 0 := rfl
    omega
end Go.Proofs.Ytbedhghcdhbkmaa
