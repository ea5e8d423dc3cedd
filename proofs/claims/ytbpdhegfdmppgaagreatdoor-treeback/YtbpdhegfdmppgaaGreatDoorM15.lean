/- Texts of this proof, put together: LMass. -/
import Derived.Test.YtbpdhegfdmppgaaGreatDoorM8
import Derived.Test.YtbpdhegfdmppgaaGreatDoorM9
import Derived.Test.YtbpdhegfdmppgaaGreatDoorM14

/- HOW MUCH NODES ARE: what is parsed of a text is at most twice its bytes. Plain Lean. -/
namespace Go.Proofs.YtbpdhegfdmppgaaGreatDoor

mutual
/-- Nodes and the bytes of their words. -/
def Nd.ms : Nd → Nat
  | .mk _ wd ks _ => 1 + wd.length + msL ks
def msL : List Nd → Nat
  | [] => 0
  | x :: l => Nd.ms x + msL l
end
theorem msL_app : ∀ l m : List Nd, msL (l ++ m) = msL l + msL m
  | [], m => by simp [msL]
  | x :: l, m => by simp only [List.cons_append, msL, msL_app l m]; omega
mutual
theorem sz_ms : ∀ x : Nd, Nd.sz x ≤ Nd.ms x
  | .mk _ wd ks _ => by have := szL_ms ks; simp only [Nd.sz, Nd.ms]; omega
theorem szL_ms : ∀ l : List Nd, szL l ≤ msL l
  | [] => by simp [szL]
  | x :: l => by have := sz_ms x; have := szL_ms l; simp only [szL, msL]; omega
end
mutual
theorem wok_ms : ∀ x : Nd, Nd.ms x ≤ 1000000000 → Nd.wok x
  | .mk _ wd ks _, h => by simp only [Nd.ms] at h; simp only [Nd.wok]; exact ⟨by omega, wokL_ms ks (by omega)⟩
theorem wokL_ms : ∀ l : List Nd, msL l ≤ 1000000000 → wokL l
  | [], _ => by simp [wokL]
  | x :: l, h => by simp only [msL] at h; simp only [wokL]; exact ⟨wok_ms x (by omega), wokL_ms l (by omega)⟩
end

def frMs : List Fr → Nat
  | [] => 0
  | f :: r => msL f.kids + frMs r
def St.ms (st : St) : Nat := msL st.top.kids + frMs st.rest + st.rest.length
theorem endWord_ms (st : St) (p : Nat) : (st.endWord p).ms + 2 * (st.endWord p).word.length ≤ st.ms + 2 * st.word.length := by
  unfold St.endWord
  split
  · exact Nat.le_refl _
  · rename_i h
    have := List.length_pos_iff.2 h
    simp only [St.ms, msL_app, msL, Nd.ms, List.length_nil]
    omega
theorem endWord_none (st : St) (p : Nat) : (st.endWord p).word = [] := by
  unfold St.endWord
  split
  · assumption
  · rfl
theorem take_ms {st st' : St} {p : Nat} {b : UInt8} (h : st.take p b = .ok st') : st'.ms + 2 * st'.word.length ≤ st.ms + 2 * st.word.length + 2 := by
  unfold St.take at h
  split at h
  · cases h
    simp only [St.ms, List.length_append, List.length_singleton]
    omega
  · have he := endWord_ms st p
    have hw := endWord_none st p
    rw [hw] at he
    unfold St.act at h
    split at h
    · split at h
      · cases h
      · cases h
        simp only [St.ms, msL, frMs, List.length_cons, hw, List.length_nil] at *
        omega
    · split at h
      · split at h
        · cases h
        · rename_i hr
          cases h
          simp only [St.ms, hr, frMs, msL_app, msL, Nd.ms, List.length_cons, hw, List.length_nil] at *
          omega
      · split at h
        · cases h
          rw [hw]
          simp only [List.length_nil] at *
          omega
        · cases h
def outMs : Out → Nat | .ok l => msL l | .err _ _ => 0
theorem run_ms : ∀ (l : List UInt8) (p : Nat) (n : Bool) (st : St), outMs (run l p n st) ≤ st.ms + 2 * st.word.length + 2 * l.length
  | [], p, n, st => by
    have hr : run [] p n st = st.finish p := by cases n <;> rfl
    rw [hr]
    have he := endWord_ms st p
    unfold St.finish
    split
    · simp only [outMs, St.ms] at *
      omega
    · exact Nat.zero_le _
  | b :: r, p, true, st => by
    have := run_ms r (p + 1) (b != 10) st
    have hr : run (b :: r) p true st = run r (p + 1) (b != 10) st := rfl
    rw [hr, List.length_cons]
    omega
  | b :: r, p, false, st => by
    rcases ht : st.take p b with e | st'
    · rw [run_err ht]; exact Nat.zero_le _
    · have h1 := run_ms r (p + 1) (b == 59) st'
      have h2 := take_ms ht
      rw [run_ok ht, List.length_cons]
      omega
theorem parse_ms (l : List UInt8) : outMs (parse l) ≤ 32768 := by
  unfold parse
  split
  · exact Nat.zero_le _
  · have := run_ms l 0 false St.start
    have e : St.start.ms + 2 * St.start.word.length = 0 := rfl
    omega
theorem outL_ms (l : List UInt8) : msL (outL (parse l)) ≤ 32768 := by
  have := parse_ms l
  cases h : parse l with
  | ok o => rw [h] at this; exact this
  | err e p => exact Nat.zero_le _
end Go.Proofs.YtbpdhegfdmppgaaGreatDoor
