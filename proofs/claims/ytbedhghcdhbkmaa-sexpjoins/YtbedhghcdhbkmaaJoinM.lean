/- PLAIN FACTS of the machine: two texts with a line's end between. -/
import Derived.Test.YtbedhghcdhbkmaaSame
import Derived.Test.YtbedhghcdhbkmaaNodes
namespace Go.Proofs.Ytbedhghcdhbkmaa

mutual
def Nd.sh (d : Nat) : Nd → Nd
  | .mk a b c p => .mk a b (shL d c) (p + d)
def shL (d : Nat) : List Nd → List Nd
  | [] => []
  | x :: l => Nd.sh d x :: shL d l
end
theorem shL_append (d : Nat) : ∀ l m : List Nd, shL d (l ++ m) = shL d l ++ shL d m
  | [], m => rfl
  | x :: l, m => by simp only [List.cons_append, shL, shL_append d l m]

mutual
theorem alike_sh (d : Nat) : ∀ x : Nd, Nd.alike (Nd.sh d x) x = true
  | .mk a b c p => by simp [Nd.sh, Nd.alike, alike_shL d c]
theorem alike_shL (d : Nat) : ∀ l : List Nd, alikeL (shL d l) l = true
  | [] => rfl
  | x :: l => by simp [shL, alikeL, alike_sh d x, alike_shL d l]
end
mutual
theorem alike_self : ∀ x : Nd, Nd.alike x x = true
  | .mk a b c p => by simp [Nd.alike, alike_refl c]
theorem alike_refl : ∀ l : List Nd, alikeL l l = true
  | [] => rfl
  | x :: l => by simp [alikeL, alike_self x, alike_refl l]
end
theorem alike_app : ∀ l l' m m' : List Nd, alikeL l l' = true → alikeL m m' = true → alikeL (l ++ m) (l' ++ m') = true
  | [], [], _, _, _, h => h
  | x :: l, y :: l', m, m', h, h' => by
    simp only [alikeL, Bool.and_eq_true] at h
    simp only [List.cons_append, alikeL, h.1, alike_app l l' m m' h.2 h', Bool.and_true]
  | [], _ :: _, _, _, h, _ => by cases h
  | _ :: _, [], _, _, h, _ => by cases h

def shF (pre : List Nd) (z d : Nat) (bot : Bool) (f : Fr) : Fr := if bot then ⟨z, pre ++ shL d f.kids⟩ else ⟨f.pos + d, shL d f.kids⟩
def shS (pre : List Nd) (z d : Nat) : List Fr → List Fr
  | [] => []
  | f :: r => shF pre z d r.isEmpty f :: shS pre z d r
theorem shS_len (pre : List Nd) (z d : Nat) : ∀ r, (shS pre z d r).length = r.length
  | [] => rfl
  | _ :: r => by simp [shS, shS_len pre z d r]

def St.sh (pre : List Nd) (z d : Nat) (st : St) : St := ⟨st.word, shF pre z d st.rest.isEmpty st.top, shS pre z d st.rest⟩

theorem shF_put (pre : List Nd) (z d : Nat) (bot : Bool) (f : Fr) (x : Nd) : { shF pre z d bot f with kids := (shF pre z d bot f).kids ++ [Nd.sh d x] } = shF pre z d bot { f with kids := f.kids ++ [x] } := by
  cases bot <;> simp [shF, shL_append, shL, List.append_assoc]

theorem endWord_sh (pre : List Nd) (z d : Nat) (st : St) (p : Nat) : (st.sh pre z d).endWord (p + d) = (st.endWord p).sh pre z d := by
  unfold St.endWord
  by_cases h : st.word = []
  · rw [if_pos h, if_pos (by exact h)]
  · rw [if_neg h, if_neg (by exact h)]
    have e : (((p + d : Nat) : Int) - st.word.length) = ((p : Int) - st.word.length) + (d : Nat) := by omega
    have hp := shF_put pre z d st.rest.isEmpty st.top (.mk false st.word [] ((p : Int) - st.word.length))
    simp only [Nd.sh, shL] at hp
    simp only [St.sh]
    rw [e, hp]

theorem take_sh (pre : List Nd) (z d : Nat) (st : St) (p : Nat) (b : UInt8) : (st.sh pre z d).take (p + d) b = (match st.take p b with | .error e => .error e | .ok st' => .ok (st'.sh pre z d)) := by
  unfold St.take
  by_cases hb : isPart b = true
  · rw [if_pos hb, if_pos hb]; rfl
  · rw [if_neg hb, if_neg hb, endWord_sh]
    generalize st.endWord p = s1
    unfold St.act
    by_cases h40 : b = 40
    · rw [if_pos h40, if_pos h40]
      have hl : (s1.sh pre z d).rest.length = s1.rest.length := shS_len pre z d s1.rest
      rw [hl]
      by_cases h24 : 24 ≤ s1.rest.length
      · rw [if_pos h24, if_pos h24]
      · rw [if_neg h24, if_neg h24]
        simp [St.sh, shS, shF, shL]
    · rw [if_neg h40, if_neg h40]
      by_cases h41 : b = 41
      · rw [if_pos h41, if_pos h41]
        cases hr : s1.rest with
        | nil => simp [St.sh, hr, shS]
        | cons f r =>
          have hp := shF_put pre z d r.isEmpty f (.mk true [] s1.top.kids s1.top.pos)
          simp only [Nd.sh] at hp
          simp only [St.sh, hr, shS, List.isEmpty_cons]
          rw [← hp]
          simp [shF]
      · rw [if_neg h41, if_neg h41]
        by_cases hbl : b = 9 ∨ b = 10 ∨ b = 13 ∨ b = 32 ∨ b = 59
        · rw [if_pos hbl, if_pos hbl]
        · rw [if_neg hbl, if_neg hbl]

def Out.sh (pre : List Nd) (d : Nat) : Out → Out
  | .ok l => .ok (pre ++ shL d l)
  | .err e p => .err e (p + d)

theorem run_sh (pre : List Nd) (z d : Nat) : ∀ (l : List UInt8) (p : Nat) (n : Bool) (st : St), run l (p + d) n (st.sh pre z d) = (run l p n st).sh pre d
  | [], p, n, st => by
    rw [run_nil, run_nil]
    unfold St.finish
    cases hr : st.rest with
    | nil =>
      have h2 : (st.sh pre z d).rest = [] := by simp [St.sh, hr, shS]
      rw [h2, endWord_sh]
      have h3 : (st.endWord p).rest = [] := by unfold St.endWord; split <;> exact hr
      simp [Out.sh, St.sh, h3, shF]
    | cons f r =>
      have h2 : (st.sh pre z d).rest = shF pre z d r.isEmpty f :: shS pre z d r := by simp [St.sh, hr, shS]
      rw [h2]
      rfl
  | b :: r, p, true, st => by
    rw [run_note, run_note, ← run_sh pre z d r (p + 1) (b != 10) st, show p + d + 1 = p + 1 + d by omega]
  | b :: r, p, false, st => by
    have ht := take_sh pre z d st p b
    rcases h : st.take p b with e | st'
    · rw [h] at ht
      rw [run_err ht, run_err h]
      rfl
    · rw [h] at ht
      rw [run_ok ht, run_ok h, ← run_sh pre z d r (p + 1) (b == 59) st', show p + d + 1 = p + 1 + d by omega]

theorem run_app (b : List UInt8) : ∀ (a : List UInt8) (p : Nat) (n : Bool) (st : St) (la : List Nd), (n = true → st.word = []) → run a p n st = .ok la → ∃ q, run (a ++ 10 :: b) p n st = run b (p + a.length + 1) false ⟨[], ⟨q, la⟩, []⟩
  | [], p, n, st, la, hn, h => by
    rw [run_nil] at h
    unfold St.finish at h
    split at h
    · rename_i hr
      have hla : (st.endWord p).top.kids = la := by cases h; rfl
      have hrest : (st.endWord p).rest = [] := by unfold St.endWord; split <;> exact hr
      have hw : (st.endWord p).word = [] := by
        unfold St.endWord
        split
        · assumption
        · rfl
      have hst : st.endWord p = ⟨[], ⟨(st.endWord p).top.pos, la⟩, []⟩ := by
        rw [← hla]
        cases hx : st.endWord p
        rw [hx] at hrest hw
        simp only at hrest hw
        subst hrest hw
        rfl
      refine ⟨(st.endWord p).top.pos, ?_⟩
      cases n with
      | false =>
        have ht : st.take p 10 = .ok (st.endWord p) := by
          have h10 : isPart 10 = false := by decide
          simp [St.take, h10, St.act]
        rw [List.nil_append, run_ok ht, hst]
        rfl
      | true =>
        have hs : st.endWord p = st := by unfold St.endWord; rw [if_pos (hn rfl)]
        rw [hs] at hst ⊢
        rw [List.nil_append, run_note]
        conv => lhs; rw [hst]
        rfl
    · cases h
  | c :: a, p, true, st, la, hn, h => by
    obtain ⟨q, hq⟩ := run_app b a (p + 1) (c != 10) st la (fun _ => hn rfl) h
    exact ⟨q, by rw [List.cons_append, run_note, hq, List.length_cons, show p + 1 + a.length + 1 = p + (a.length + 1) + 1 by omega]⟩
  | c :: a, p, false, st, la, hn, h => by
    rcases ht : st.take p c with e | st'
    · rw [run_err ht] at h; cases h
    · rw [run_ok ht] at h
      obtain ⟨q, hq⟩ := run_app b a (p + 1) (c == 59) st' la (fun h59 => by
        rw [beq_iff_eq] at h59
        rw [h59] at ht
        have hnp : isPart 59 = false := by decide
        simp only [St.take, hnp, Bool.false_eq_true, if_false, St.act] at ht
        simp at ht
        rw [← ht]
        unfold St.endWord
        split
        · assumption
        · rfl) h
      exact ⟨q, by rw [List.cons_append, run_ok ht, hq, List.length_cons, show p + 1 + a.length + 1 = p + (a.length + 1) + 1 by omega]⟩

theorem parse_join {a b : List UInt8} {la : List Nd} (ha : a.length ≤ 8000) (hb : b.length ≤ 8000) (h : parse a = .ok la) : parse (a ++ 10 :: b) = (parse b).sh la (a.length + 1) := by
  unfold parse at h ⊢
  rw [if_neg (by omega)] at h
  rw [if_neg (by simp only [List.length_append, List.length_cons]; omega), if_neg (by omega)]
  obtain ⟨q, hq⟩ := run_app b a 0 false St.start la (fun h => by cases h) h
  have hs := run_sh la q (a.length + 1) b 0 false St.start
  have e1 : St.start.sh la q (a.length + 1) = ⟨[], ⟨q, la⟩, []⟩ := by simp [St.start, St.sh, shF, shL, shS]
  rw [hq, show 0 + a.length + 1 = 0 + (a.length + 1) by omega, ← e1, hs]
end Go.Proofs.Ytbedhghcdhbkmaa
