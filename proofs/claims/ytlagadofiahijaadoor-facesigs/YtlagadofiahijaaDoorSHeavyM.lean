/- HOW MUCH EXPRESSIONS AND STATEMENTS ARE, as the statements' own Heavy and exprHeavy tell it (as far as 3000; f: how much deeper they may go). Plain Lean. -/
import Derived.Test.YtlagadofiahijaaDoorSSm
namespace Go.Proofs.YtlagadofiahijaaDoor.Sh

def exH : Nat → List Ex → Nat → Nat
  | 0, [], n => n
  | 0, _ :: _, n => if n ≤ 3000 then 3001 else n
  | _ + 1, [], n => n
  | f + 1, .mk _ _ _ name ks :: l, n => if n ≤ 3000 then exH (f + 1) l (n + 1 + min name.length 100000 + exH f ks 0) else n
termination_by f l _ => (f, l.length)
theorem exH_nil (f n : Nat) : exH f [] n = n := by cases f <;> rw [exH]
theorem exH_zero (x : Ex) (l : List Ex) (n : Nat) (h : n ≤ 3000) : exH 0 (x :: l) n = 3001 := by rw [exH, if_pos h]
theorem exH_stop (f : Nat) (l : List Ex) (n : Nat) (h : ¬ n ≤ 3000) : exH f l n = n := by
  cases l with
  | nil => exact exH_nil f n
  | cons x l =>
    cases f with
    | zero => rw [exH, if_neg h]
    | succ f => obtain ⟨k, m, o, nm, ks⟩ := x; rw [exH, if_neg h]
theorem exH_more (f : Nat) (k : Int) (m : Nat) (o : Int) (nm : List UInt8) (ks l : List Ex) (n : Nat) (h : n ≤ 3000) : exH (f + 1) (.mk k m o nm ks :: l) n = exH (f + 1) l (n + 1 + min nm.length 100000 + exH f ks 0) := by rw [exH, if_pos h]
theorem exH_ge : ∀ (f : Nat) (l : List Ex) (n : Nat), n ≤ exH f l n
  | 0, [], n => by rw [exH_nil]; exact Nat.le_refl _
  | 0, x :: l, n => by
    by_cases h : n ≤ 3000
    · rw [exH_zero x l n h]; omega
    · rw [exH_stop _ _ _ h]; exact Nat.le_refl _
  | f + 1, [], n => by rw [exH_nil]; exact Nat.le_refl _
  | f + 1, .mk k m o nm ks :: l, n => by
    by_cases h : n ≤ 3000
    · rw [exH_more _ _ _ _ _ _ _ _ h]
      have := exH_ge (f + 1) l (n + 1 + min nm.length 100000 + exH f ks 0)
      omega
    · rw [exH_stop _ _ _ h]; exact Nat.le_refl _
termination_by f l _ => (f, l.length)
theorem exH_le : ∀ (f : Nat) (l : List Ex) (n : Nat), exH f l n ≤ max n (103002 * (f + 1))
  | 0, [], n => by rw [exH_nil]; omega
  | 0, x :: l, n => by
    by_cases h : n ≤ 3000
    · rw [exH_zero x l n h]; omega
    · rw [exH_stop _ _ _ h]; omega
  | f + 1, [], n => by rw [exH_nil]; omega
  | f + 1, .mk k m o nm ks :: l, n => by
    by_cases h : n ≤ 3000
    · rw [exH_more _ _ _ _ _ _ _ _ h]
      have h1 := exH_le f ks 0
      have h2 := exH_le (f + 1) l (n + 1 + min nm.length 100000 + exH f ks 0)
      omega
    · rw [exH_stop _ _ _ h]; omega
termination_by f l _ => (f, l.length)
theorem exW_mk (k : Int) (m : Nat) (o : Int) (nm : List UInt8) (l : List Ex) : exW (.mk k m o nm l) = 1 + nm.length + exWs l := by rw [exW]
theorem exWs_nil : exWs [] = 0 := by rw [exWs]
theorem exWs_cons (x : Ex) (l : List Ex) : exWs (x :: l) = exW x + exWs l := by rw [exWs]
/-- What is not too heavy is no heavier than it is told. -/
theorem exH_tells : ∀ (f : Nat) (l : List Ex) (n : Nat), exH f l n ≤ 3000 → n + exWs l ≤ exH f l n
  | 0, [], n, _ => by rw [exH_nil, exWs_nil]; exact Nat.le_refl _
  | 0, x :: l, n, h => by
    by_cases hn : n ≤ 3000
    · rw [exH_zero x l n hn] at h; omega
    · rw [exH_stop _ _ _ hn] at h; omega
  | f + 1, [], n, _ => by rw [exH_nil, exWs_nil]; exact Nat.le_refl _
  | f + 1, .mk k m o nm ks :: l, n, h => by
    by_cases hn : n ≤ 3000
    · rw [exH_more _ _ _ _ _ _ _ _ hn] at h ⊢
      have h0 := exH_ge (f + 1) l (n + 1 + min nm.length 100000 + exH f ks 0)
      have h1 := exH_tells f ks 0 (by omega)
      have h2 := exH_tells (f + 1) l _ h
      rw [exWs_cons, exW_mk]
      omega
    · rw [exH_stop _ _ _ hn] at h; omega
termination_by f l _ => (f, l.length)
def smH : Nat → List Sm → Nat → Nat
  | 0, [], n => n
  | 0, _ :: _, n => if n ≤ 3000 then 3001 else n
  | _ + 1, [], n => n
  | f + 1, .mk _ name _ _ _ _ ix e body els :: l, n => if n ≤ 3000 then smH (f + 1) l (n + 1 + min name.length 100000 + exH (f + 1) [ix, e] 0 + smH f body 0 + smH f els 0) else n
termination_by f l _ => (f, l.length)
theorem smH_nil (f n : Nat) : smH f [] n = n := by cases f <;> rw [smH]
theorem smH_zero (x : Sm) (l : List Sm) (n : Nat) (h : n ≤ 3000) : smH 0 (x :: l) n = 3001 := by rw [smH, if_pos h]
theorem smH_stop (f : Nat) (l : List Sm) (n : Nat) (h : ¬ n ≤ 3000) : smH f l n = n := by
  cases l with
  | nil => exact smH_nil f n
  | cons x l =>
    cases f with
    | zero => rw [smH, if_neg h]
    | succ f => obtain ⟨k, nm, s, ln, fr, to, ix, e, bd, el⟩ := x; rw [smH, if_neg h]
theorem smH_more (f : Nat) (k : Int) (nm : List UInt8) (s : Bool) (ln fr to : Int) (ix e : Ex) (bd el l : List Sm) (n : Nat) (h : n ≤ 3000) : smH (f + 1) (.mk k nm s ln fr to ix e bd el :: l) n = smH (f + 1) l (n + 1 + min nm.length 100000 + exH (f + 1) [ix, e] 0 + smH f bd 0 + smH f el 0) := by rw [smH, if_pos h]
theorem smH_ge : ∀ (f : Nat) (l : List Sm) (n : Nat), n ≤ smH f l n
  | 0, [], n => by rw [smH_nil]; exact Nat.le_refl _
  | 0, x :: l, n => by
    by_cases h : n ≤ 3000
    · rw [smH_zero x l n h]; omega
    · rw [smH_stop _ _ _ h]; exact Nat.le_refl _
  | f + 1, [], n => by rw [smH_nil]; exact Nat.le_refl _
  | f + 1, .mk k nm s ln fr to ix e bd el :: l, n => by
    by_cases h : n ≤ 3000
    · rw [smH_more _ _ _ _ _ _ _ _ _ _ _ _ _ h]
      have := smH_ge (f + 1) l (n + 1 + min nm.length 100000 + exH (f + 1) [ix, e] 0 + smH f bd 0 + smH f el 0)
      omega
    · rw [smH_stop _ _ _ h]; exact Nat.le_refl _
termination_by f l _ => (f, l.length)
theorem smH_le : ∀ (f : Nat) (l : List Sm) (n : Nat), f ≤ 31 → smH f l n ≤ max n (4000000 * (2 ^ (f + 1) - 1))
  | 0, [], n, _ => by rw [smH_nil]; omega
  | 0, x :: l, n, _ => by
    by_cases h : n ≤ 3000
    · rw [smH_zero x l n h]; omega
    · rw [smH_stop _ _ _ h]; omega
  | f + 1, [], n, _ => by rw [smH_nil]; omega
  | f + 1, .mk k nm s ln fr to ix e bd el :: l, n, hf => by
    by_cases h : n ≤ 3000
    · rw [smH_more _ _ _ _ _ _ _ _ _ _ _ _ _ h]
      have h0 := exH_le (f + 1) [ix, e] 0
      have h1 := smH_le f bd 0 (by omega)
      have h2 := smH_le f el 0 (by omega)
      have h3 := smH_le (f + 1) l (n + 1 + min nm.length 100000 + exH (f + 1) [ix, e] 0 + smH f bd 0 + smH f el 0) hf
      have hp : 2 ^ (f + 1 + 1) = 2 * 2 ^ (f + 1) := by rw [Nat.pow_succ]; omega
      have hq : 1 ≤ 2 ^ (f + 1) := Nat.one_le_two_pow
      omega
    · rw [smH_stop _ _ _ h]; omega
termination_by f l _ => (f, l.length)
theorem smW_mk (k : Int) (nm : List UInt8) (s : Bool) (ln fr to : Int) (ix e : Ex) (bd el : List Sm) : smW (.mk k nm s ln fr to ix e bd el) = 1 + nm.length + exW ix + exW e + smWs bd + smWs el := by rw [smW]
theorem smWs_nil : smWs [] = 0 := by rw [smWs]
theorem smWs_cons (x : Sm) (l : List Sm) : smWs (x :: l) = smW x + smWs l := by rw [smWs]
theorem smH_tells : ∀ (f : Nat) (l : List Sm) (n : Nat), smH f l n ≤ 3000 → n + smWs l ≤ smH f l n
  | 0, [], n, _ => by rw [smH_nil, smWs_nil]; exact Nat.le_refl _
  | 0, x :: l, n, h => by
    by_cases hn : n ≤ 3000
    · rw [smH_zero x l n hn] at h; omega
    · rw [smH_stop _ _ _ hn] at h; omega
  | f + 1, [], n, _ => by rw [smH_nil, smWs_nil]; exact Nat.le_refl _
  | f + 1, .mk k nm s ln fr to ix e bd el :: l, n, h => by
    by_cases hn : n ≤ 3000
    · rw [smH_more _ _ _ _ _ _ _ _ _ _ _ _ _ hn] at h ⊢
      have h0 := smH_ge (f + 1) l (n + 1 + min nm.length 100000 + exH (f + 1) [ix, e] 0 + smH f bd 0 + smH f el 0)
      have h1 := exH_tells (f + 1) [ix, e] 0 (by omega)
      have h2 := smH_tells f bd 0 (by omega)
      have h3 := smH_tells f el 0 (by omega)
      have h4 := smH_tells (f + 1) l _ h
      rw [exWs_cons, exWs_cons, exWs_nil] at h1
      rw [smWs_cons, smW_mk]
      omega
    · rw [smH_stop _ _ _ hn] at h; omega
termination_by f l _ => (f, l.length)
end Go.Proofs.YtlagadofiahijaaDoor.Sh
