/- WHAT A WALK BACKWARDS MAKES OF INSTRUCTIONS, in plain Lean, whatever the order of its places. -/
import Derived.Test.YtndmkfmpdnoliaaDIter
import Derived.Test.YtndmkfmpdnoliaaDMath
namespace Go.Proofs.Ytndmkfmpdnoliaa

def In64 (r : Int) : Prop := -9223372036854775808 ≤ r ∧ r ≤ 9223372036854775807
/-- What is asked of instructions. -/
structure BackOk (l : List Ir) : Prop where
  len : l.length ≤ 10000
  args : ∀ x ∈ l, x.args.length ≤ 1000000
  dst : ∀ x ∈ l, In64 x.d
  reg : ∀ x ∈ l, ∀ r ∈ readsL x, In64 r
def stB (l : List Ir) (s : List Bool × List Int) (k : Pl l.length) : List Bool × List Int :=
  if deadX s.2 (l[k.1]'k.2) then (s.1.set k.1 true, s.2) else (s.1, readsL (l[k.1]'k.2) ++ s.2)
def stF (l : List Ir) (pre : List (Pl l.length)) : List Bool × List Int := pre.foldl (stB l) (List.replicate l.length false, [])
theorem stF_snoc (l : List Ir) (pre : List (Pl l.length)) (x : Pl l.length) : stF l (pre ++ [x]) = stB l (stF l pre) x := by unfold stF; rw [List.foldl_append]; rfl
theorem stF_len (l : List Ir) (pre : List (Pl l.length)) : (stF l pre).1.length = l.length := by
  unfold stF
  suffices h : ∀ (pre : List (Pl l.length)) (s : List Bool × List Int), s.1.length = l.length → (pre.foldl (stB l) s).1.length = l.length from h pre _ (by simp)
  intro pre
  induction pre with
  | nil => intro s h; exact h
  | cons x pre ih =>
    intro s h
    refine ih _ ?_
    unfold stB
    split
    · simpa using h
    · exact h
theorem stF_downs (l : List Ir) : ∀ m, m ≤ l.length → stF l (downs l.length m) = (List.replicate (l.length - m) false ++ deadL (l.drop (l.length - m)), rdL (l.drop (l.length - m)))
  | 0, _ => by simp [downs, stF, deadL, rdL]
  | m + 1, h => by
    obtain ⟨k, hk⟩ : ∃ k : Nat, k + 1 + m = l.length := ⟨l.length - 1 - m, by omega⟩
    have hkl : k < l.length := by omega
    rw [downs_succ _ _ k hk, stF_snoc, stF_downs l m (by omega)]
    have e1 : l.length - m = k + 1 := by omega
    have e2 : l.length - (m + 1) = k := by omega
    rw [e1, e2]
    unfold stB
    have hr := rdL_drop l k hkl
    have hd : deadL (l.drop k) = deadX (rdL (l.drop (k + 1))) l[k] :: deadL (l.drop (k + 1)) := by rw [List.drop_eq_getElem_cons hkl, deadL]
    simp only
    cases hx : deadX (rdL (l.drop (k + 1))) l[k] with
    | true =>
      rw [hx] at hr hd
      rw [if_pos rfl, hd, hr, if_pos rfl]
      congr 1
      rw [List.replicate_succ', List.append_assoc, List.set_append_right _ _ (by simp)]
      simp
    | false =>
      rw [hx] at hr hd
      rw [if_neg (by simp), hd, hr, if_neg (by simp)]
      congr 1
      rw [List.replicate_succ', List.append_assoc]
      rfl
theorem stF_all (l : List Ir) : stF l (downs l.length l.length) = (deadL l, rdL l) := by
  rw [stF_downs l l.length (Nat.le_refl _)]
  simp
theorem readsL_len {x : Ir} {n : Nat} (h : x.args.length ≤ n) (hn : 3 ≤ n) : (readsL x).length ≤ n := by
  unfold readsL
  split
  · simp; omega
  split
  · simp; omega
  split
  · simp; omega
  split
  · exact h
  · simp
end Go.Proofs.Ytndmkfmpdnoliaa
