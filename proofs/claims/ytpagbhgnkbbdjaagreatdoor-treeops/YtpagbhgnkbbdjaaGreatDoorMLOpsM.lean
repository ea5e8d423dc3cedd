/- A TEXT OF ONE OP's SIGN, parsed and read: plain Lean. -/
import Derived.Test.YtpagbhgnkbbdjaaGreatDoorM23
import Derived.Test.YtpagbhgnkbbdjaaGreatDoorM3
namespace Go.Proofs.YtpagbhgnkbbdjaaGreatDoor

theorem run_part : ∀ (wd r : List UInt8) (p : Nat) (st : St), wd.all isPart = true → run (wd ++ r) p false st = run r (p + wd.length) false { st with word := st.word ++ wd }
  | [], r, p, st, _ => by simp
  | b :: wd, r, p, st, h => by
    simp only [List.all_cons, Bool.and_eq_true] at h
    have ht : st.take p b = .ok { st with word := st.word ++ [b] } := by rw [St.take, if_pos h.1]
    have h59 : (b == 59) = false := by
      cases hb : b == 59 with
      | false => rfl
      | true =>
        have : b = 59 := by simpa using hb
        rw [this] at h
        exact absurd h.1 (by decide)
    rw [List.cons_append, run_ok ht, h59, run_part wd r (p + 1) _ h.2]
    simp only [List.length_cons, List.append_assoc, List.singleton_append]
    rw [show p + 1 + wd.length = p + (wd.length + 1) by omega]
theorem run_gap (r : List UInt8) (p : Nat) (st : St) (h : st.word ≠ []) : run (32 :: r) p false st = run r (p + 1) false { word := [], top := { st.top with kids := st.top.kids ++ [.mk false st.word [] ((p : Int) - st.word.length)] }, rest := st.rest } := by
  have ht : st.take p 32 = .ok { word := [], top := { st.top with kids := st.top.kids ++ [.mk false st.word [] ((p : Int) - st.word.length)] }, rest := st.rest } := by
    rw [St.take, if_neg (by decide), St.endWord, if_neg h, St.act, if_neg (by decide), if_neg (by decide), if_pos (by decide)]
  rw [run_ok ht]
  rfl
def preT : List UInt8 := [40, 117, 110, 105, 116, 32, 97, 41, 32, 40, 102, 110, 32, 102, 32, 40, 41, 32, 112, 117, 98, 32, 40, 114, 101, 116, 32, 40]
def sufT : List UInt8 := [32, 120, 41, 41, 41]
def opsN (x : Nd) : List Nd := [.mk true [] [.mk false [117, 110, 105, 116] [] 1, .mk false [97] [] 6] 0, .mk true [] [.mk false [102, 110] [] 10, .mk false [102] [] 13, .mk true [] [] 15, .mk false [112, 117, 98] [] 18, .mk true [] [.mk false [114, 101, 116] [] 23, x] 22] 9]
def opsX (sg n : List UInt8) (p1 p2 : Int) : Nd := .mk true [] [.mk false sg [] 28, .mk false n [] p1, .mk false [120] [] p2] 27
theorem run_pre (r : List UInt8) : run (preT ++ r) 0 false St.start = run r 28 false ⟨[], ⟨27, []⟩, [⟨22, [.mk false [114, 101, 116] [] 23]⟩, ⟨9, [.mk false [102, 110] [] 10, .mk false [102] [] 13, .mk true [] [] 15, .mk false [112, 117, 98] [] 18]⟩, ⟨0, [.mk true [] [.mk false [117, 110, 105, 116] [] 1, .mk false [97] [] 6] 0]⟩]⟩ := by rfl
theorem word_parts {l : List UInt8} (h : wordB l = true) : l.all isPart = true ∧ l ≠ [] := by
  unfold wordB at h
  cases l with
  | nil => simp at h
  | cons b r => exact ⟨by simpa using h, by simp⟩
theorem run_suf (p : Nat) (sg wd : List UInt8) (h : wd ≠ []) : ∃ p1 p2, run sufT p false ⟨wd, ⟨27, [.mk false sg [] 28]⟩, [⟨22, [.mk false [114, 101, 116] [] 23]⟩, ⟨9, [.mk false [102, 110] [] 10, .mk false [102] [] 13, .mk true [] [] 15, .mk false [112, 117, 98] [] 18]⟩, ⟨0, [.mk true [] [.mk false [117, 110, 105, 116] [] 1, .mk false [97] [] 6] 0]⟩]⟩ = .ok (opsN (opsX sg wd p1 p2)) := by
  rw [sufT, run_gap _ _ _ h]
  exact ⟨(p : Int) - wd.length, ((p + 1 + 1 : Nat) : Int) - (([] ++ [120] : List UInt8).length : Nat), by rfl⟩
theorem ops_parse (sg n : List UInt8) (hs : wordB sg = true) (hn : wordB n = true) (hl : sg.length ≤ 100) (hl' : n.length ≤ 10) : ∃ p1 p2, parse (preT ++ (sg ++ (32 :: (n ++ sufT)))) = .ok (opsN (opsX sg n p1 p2)) := by
  obtain ⟨s1, s2⟩ := word_parts hs
  obtain ⟨n1, n2⟩ := word_parts hn
  have hlen : ¬ 16384 < (preT ++ (sg ++ (32 :: (n ++ sufT)))).length := by
    have e1 : preT.length = 28 := rfl
    have e2 : sufT.length = 5 := rfl
    simp only [List.length_append, List.length_cons, e1, e2]
    omega
  obtain ⟨p1, p2, h⟩ := run_suf (28 + sg.length + 1 + n.length) sg n n2
  refine ⟨p1, p2, ?_⟩
  rw [parse, if_neg hlen, run_pre, run_part sg _ _ _ s1, run_gap _ _ _ (by simpa using s2), run_part n _ _ _ n1]
  have e : ((28 + sg.length : Nat) : Int) - (([] ++ sg : List UInt8).length : Nat) = 28 := by simp
  simp only [e]
  exact h
theorem ops_good {x : Nd} {e : Ex} (h : rdE x = .ok e) : rdUnit (opsN x) = .ok ⟨[97], [], [⟨[102], [], false, [], e⟩]⟩ := by
  simp [opsN, rdUnit, rdBy, rdNext, rdEnter, rdSkipOf, rdText, rdNameOf, isName, isLow, rdEnd, begins, rdFuncs, rdFunc, rdParams, rdLabelOf, rdBody, h]
theorem ops_bad {x : Nd} {c p : Int} (h : rdE x = .bad c p) : rdUnit (opsN x) = .bad c p := by
  simp [opsN, rdUnit, rdBy, rdNext, rdEnter, rdSkipOf, rdText, rdNameOf, isName, isLow, rdEnd, begins, rdFuncs, rdFunc, rdParams, rdLabelOf, rdBody, h]
theorem opsX_good {sg n : List UInt8} {p1 p2 : Int} {v : Nat} (h : opOf sg ≠ 0) (hn : num n = some v) : rdE (opsX sg n p1 p2) = .ok (.mk 4 0 (opOf sg) [] [.mk 1 v 0 [] [], .mk 2 0 0 [120] []]) := by
  have e1 : ¬ sg = [97, 116] := fun e => h (by rw [e]; rfl)
  have e2 : ¬ sg = [115, 101, 108] := fun e => h (by rw [e]; rfl)
  have e3 : ¬ sg = [99, 97, 108, 108] := fun e => h (by rw [e]; rfl)
  have hx : num [120] = none := by rfl
  have hi : isName [120] = true := by rfl
  simp [opsX, rdE, rdParts, rdText, e1, e2, e3, h, rdN, hn, hx, hi, rdEnd]
theorem opsX_bad {sg n : List UInt8} {p1 p2 : Int} (h : opOf sg = 0) (e1 : ¬ sg = [97, 116]) (e2 : ¬ sg = [115, 101, 108]) (e3 : ¬ sg = [99, 97, 108, 108]) : rdE (opsX sg n p1 p2) = .bad 6 28 := by
  simp [opsX, rdE, rdParts, rdText, e1, e2, e3, h, Nd.pos]
end Go.Proofs.YtpagbhgnkbbdjaaGreatDoor
