/- Texts of this proof, put together: LSh. -/
import Derived.Test.YtpagbhgnkbbdjaaGreatDoorM15
import Derived.Test.YtpagbhgnkbbdjaaGreatDoorM20
import Derived.Test.YtpagbhgnkbbdjaaGreatDoorM22
import Derived.Lib.ParseIntBCases

/- FROM UNITS AS THEY ARE READ TO UNITS AS THEY ARE SHOWN ('sh'), and from nodes that are shown back ('ndB'); numbers, names and signs. Plain Lean. -/
namespace Go.Proofs.YtpagbhgnkbbdjaaGreatDoor

mutual
def Ex.sh : Ex → Sh.Ex
  | .mk k n o m l => .mk k n o m (exsSh l)
def exsSh : List Ex → List Sh.Ex
  | [] => []
  | x :: l => Ex.sh x :: exsSh l
end
theorem exsSh_len : ∀ l : List Ex, (exsSh l).length = l.length
  | [] => by rw [exsSh]; rfl
  | x :: l => by rw [exsSh, List.length_cons, List.length_cons, exsSh_len l]
mutual
def Sm.sh : Sm → Sh.Sm
  | .mk k m s len fr to ix e b els => .mk k m s len fr to ix.sh e.sh (smsSh b) (smsSh els)
def smsSh : List Sm → List Sh.Sm
  | [] => []
  | x :: l => Sm.sh x :: smsSh l
end
theorem smsSh_len : ∀ l : List Sm, (smsSh l).length = l.length
  | [] => by rw [smsSh]; rfl
  | x :: l => by rw [smsSh, List.length_cons, List.length_cons, smsSh_len l]
def Pa.sh (p : Pa) : Sh.Pa := ⟨p.name, p.sec, p.len⟩
def Fu.sh (f : Fu) : Sh.Fu := ⟨f.name, f.params.map Pa.sh, f.sec, smsSh f.body, f.result.sh⟩
def Un.sh (u : Un) : Sh.Un := ⟨u.name, u.imports, u.funcs.map Fu.sh⟩
mutual
def ndB : Sh.Nd → Nd
  | .mk a b c d => .mk a b (ndBs c) d
def ndBs : List Sh.Nd → List Nd
  | [] => []
  | x :: l => ndB x :: ndBs l
end
theorem ndBs_len : ∀ l : List Sh.Nd, (ndBs l).length = l.length
  | [] => by rw [ndBs]; rfl
  | x :: l => by rw [ndBs, List.length_cons, List.length_cons, ndBs_len l]
theorem ndBs_app : ∀ l m : List Sh.Nd, ndBs (l ++ m) = ndBs l ++ ndBs m
  | [], m => by rw [ndBs]; rfl
  | x :: l, m => by rw [List.cons_append, ndBs, ndBs, ndBs_app l m]; rfl
theorem alike_appd : ∀ l l' m m' : List Nd, alikeL l l' = true → alikeL m m' = true → alikeL (l ++ m) (l' ++ m') = true
  | [], [], m, m', _, h => h
  | x :: l, y :: l', m, m', h, h' => by
    simp only [alikeL, Bool.and_eq_true] at h
    simp only [List.cons_append, alikeL, Bool.and_eq_true]
    exact ⟨h.1, alike_appd l l' m m' h.2 h'⟩
  | [], _ :: _, _, _, h, _ => by simp [alikeL] at h
  | _ :: _, [], _, _, h, _ => by simp [alikeL] at h

/- Numbers. -/
theorem digit_back {c : UInt8} (h : 48 ≤ c.toNat ∧ c.toNat ≤ 57) : UInt8.ofNat (48 + (c.toNat - 48)) = c := by
  rw [show 48 + (c.toNat - 48) = c.toNat by omega]
  exact UInt8.ofNat_toNat
theorem parse_digits (M : Nat) : ∀ (l : List UInt8) (acc u : Nat), 1 ≤ acc → Lib.parseUintM M acc l = .ok u → Lib.decDigits u = Lib.decDigits acc ++ l
  | [], acc, u, _, h => by
    simp only [Lib.parseUintM] at h
    injection h with h
    rw [h]; simp
  | c :: r, acc, u, ha, h => by
    simp only [Lib.parseUintM] at h
    split at h
    · rename_i hc
      split at h
      · cases h
      · split at h
        · cases h
        · have ih := parse_digits M r _ u (by omega) h
          have e : Lib.decDigits (acc * 10 + (c.toNat - 48)) = Lib.decDigits acc ++ [c] := by
            rw [Lib.decDigits, dif_neg (by omega), show (acc * 10 + (c.toNat - 48)) / 10 = acc by omega, show (acc * 10 + (c.toNat - 48)) % 10 = c.toNat - 48 by omega, digit_back hc]
          rw [ih, e]; simp
    · cases h
theorem num_back {s : List UInt8} {v : Nat} (h : num s = some v) : Lib.decDigits v = s ∧ v ≤ 4294967295 := by
  unfold num at h
  split at h
  · cases h
  · rename_i hz
    split at h
    · rename_i u hu
      injection h with h
      subst h
      refine ⟨?_, by have := Lib.parseUintB_le hu; omega⟩
      unfold Lib.parseUintB at hu
      split at hu
      · cases hu
      · rename_i hs
        cases s with
        | nil => exact absurd rfl hs
        | cons c r =>
          simp only [Lib.parseUintM] at hu
          split at hu
          · rename_i hc
            rw [if_neg (by omega)] at hu
            split at hu
            · cases hu
            · cases r with
              | nil =>
                simp only [Lib.parseUintM] at hu
                injection hu with hu
                subst hu
                rw [Lib.decDigits, dif_pos (by omega), show 48 + (0 * 10 + (c.toNat - 48)) = 48 + (c.toNat - 48) by omega, digit_back hc]
              | cons d r =>
                have h48 : c.toNat ≠ 48 := fun e => hz ⟨by simp, by simp; exact UInt8.toNat_inj.1 e⟩
                have := parse_digits _ (d :: r) _ u (by omega) hu
                rw [this, Lib.decDigits, dif_pos (by omega), show 48 + (0 * 10 + (c.toNat - 48)) = 48 + (c.toNat - 48) by omega, digit_back hc]
                rfl
          · cases hu
    · cases h

/- Names and signs. -/
theorem isName_sh (l : List UInt8) : Sh.isName l = isName l := by cases l <;> rfl
theorem isFull_sh (l : List UInt8) : Sh.isFullB l = isFull l := by
  rw [Sh.isFullB, isFull, ← (Sh.cutB_lib 46 l).1, ← (Sh.cutB_lib 46 l).2, ← Sh.cutB_bool 46 l, isName_sh, isName_sh]
theorem sign_back {s : List UInt8} (h : opOf s ≠ 0) : Sh.signT (opOf s) = s := by
  unfold opOf at h ⊢
  repeat' split
  all_goals first | (subst_vars; rfl) | (exfalso; simp_all; done)
theorem lab_pub : Sh.shLab false = Sh.lf [112, 117, 98] := rfl
theorem lab_sec : Sh.shLab true = Sh.lf [115, 101, 99] := rfl
theorem shName_sh {s : List UInt8} (h : isName s = true) : Sh.shName s = some (Sh.lf s) := by rw [Sh.shName, isName_sh, if_pos h]
theorem ndB_lf (s : List UInt8) : ndB (Sh.lf s) = .mk false s [] 0 := by rw [Sh.lf, ndB, ndBs]
theorem ndB_ls (l : List Sh.Nd) : ndB (Sh.ls l) = .mk true [] (ndBs l) 0 := by rw [Sh.ls, ndB]
theorem alike_word (s : List UInt8) (p : Int) : Nd.alike (.mk false s [] p) (ndB (Sh.lf s)) = true := by rw [ndB_lf]; simp [Nd.alike, alikeL]
theorem alike_list {ks : List Nd} {l : List Sh.Nd} (p : Int) (h : alikeL ks (ndBs l) = true) : Nd.alike (.mk true [] ks p) (ndB (Sh.ls l)) = true := by rw [ndB_ls]; simp [Nd.alike, h]
theorem alike_cons {x : Nd} {l : List Nd} {y : Sh.Nd} {m : List Sh.Nd} (h : Nd.alike x (ndB y) = true) (k : alikeL l (ndBs m) = true) : alikeL (x :: l) (ndBs (y :: m)) = true := by rw [ndBs, alikeL, h, k]; rfl
theorem alike_nil : alikeL [] (ndBs []) = true := by rw [ndBs]; rfl

/- What is read of one node. -/
theorem okBind {α β : Type} {r : Res α} {f : α → Res β} {y : β} (h : r.bind f = .ok y) : ∃ x, r = .ok x ∧ f x = .ok y := by
  cases r with
  | ok x => exact ⟨x, rfl, h⟩
  | bad c p => cases h
theorem okText {n : Nd} {s : List UInt8} (h : rdText n = .ok s) : ∃ p, n = .mk false s [] p := by
  obtain ⟨il, wd, ks, p⟩ := n
  rw [rdText] at h
  split at h
  · cases h
  · rename_i hh
    obtain ⟨h1, h2⟩ : il = false ∧ ks = [] := by simpa using hh
    cases h
    subst h1 h2
    exact ⟨p, rfl⟩
theorem okEnter {n : Nd} {x : List Nd × Int} (h : rdEnter n = .ok x) : n = .mk true [] x.1 x.2 := by
  obtain ⟨il, wd, ks, p⟩ := n
  rw [rdEnter] at h
  split at h
  · cases h
  · rename_i hh
    obtain ⟨h1, h2⟩ : il = true ∧ wd = [] := by simpa using hh
    cases h
    subst h1 h2
    rfl
theorem okName {n : Nd} {s : List UInt8} (h : rdNameOf n = .ok s) : (∃ p, n = .mk false s [] p) ∧ isName s = true := by
  rw [rdNameOf] at h
  obtain ⟨t, ht, h⟩ := okBind h
  split at h
  · rename_i hn
    cases h
    exact ⟨okText ht, hn⟩
  · cases h
theorem okFull {n : Nd} {s : List UInt8} (h : rdFullOf n = .ok s) : (∃ p, n = .mk false s [] p) ∧ isFull s = true := by
  rw [rdFullOf] at h
  obtain ⟨t, ht, h⟩ := okBind h
  split at h
  · rename_i hn
    cases h
    exact ⟨okText ht, hn⟩
  · cases h
theorem okLabel {n : Nd} {b : Bool} (h : rdLabelOf n = .ok b) : ∃ p, n = .mk false (Sh.lab b) [] p := by
  rw [rdLabelOf] at h
  obtain ⟨t, ht, h⟩ := okBind h
  obtain ⟨p, rfl⟩ := okText ht
  split at h
  · rename_i hn
    cases h
    exact ⟨p, by rw [hn]; rfl⟩
  · split at h
    · rename_i hn
      cases h
      exact ⟨p, by rw [hn]; rfl⟩
    · cases h
theorem okWithin {lo hi : Nat} {n : Nd} {v : Nat} (h : rdWithinOf lo hi n = .ok v) : (∃ p, n = .mk false (Lib.decDigits v) [] p) ∧ lo ≤ v ∧ v ≤ hi := by
  rw [rdWithinOf] at h
  obtain ⟨t, ht, h⟩ := okBind h
  obtain ⟨p, rfl⟩ := okText ht
  split at h
  · rename_i w hw
    split at h
    · rename_i hb
      cases h
      exact ⟨⟨p, by rw [(num_back hw).1]⟩, hb⟩
    · cases h
  · cases h
theorem okSkip {w : List UInt8} {n : Nd} {u : Unit} (h : rdSkipOf w n = .ok u) : ∃ p, n = .mk false w [] p := by
  rw [rdSkipOf] at h
  obtain ⟨t, ht, h⟩ := okBind h
  obtain ⟨p, rfl⟩ := okText ht
  split at h
  · rename_i hn
    exact ⟨p, by rw [hn]⟩
  · cases h
theorem okNext {p : Int} {l : List Nd} {x : Nd × List Nd} (h : rdNext p l = .ok x) : l = x.1 :: x.2 := by
  cases l with
  | nil => cases h
  | cons n r => cases h; rfl
theorem okBy {α : Type} {f : Nd → Res α} {p : Int} {l : List Nd} {x : α × List Nd} (h : rdBy f p l = .ok x) : ∃ n, l = n :: x.2 ∧ f n = .ok x.1 := by
  rw [rdBy] at h
  obtain ⟨y, hy, h⟩ := okBind h
  obtain ⟨z, hz, h⟩ := okBind h
  cases h
  exact ⟨y.1, okNext hy, hz⟩
theorem okEnd {l : List Nd} {u : Unit} (h : rdEnd l = .ok u) : l = [] := by
  cases l with
  | nil => rfl
  | cons n r => cases h
theorem shNum_sh {v lo hi : Nat} (h : lo ≤ v ∧ v ≤ hi) : Sh.shNum (v : Int) (lo : Int) (hi : Int) = some (Sh.lf (Lib.decDigits v)) := by
  rw [Sh.shNum, if_pos ⟨by omega, by omega⟩]
  simp
end Go.Proofs.YtpagbhgnkbbdjaaGreatDoor
