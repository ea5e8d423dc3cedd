/- THE FOLDED FUNCTION, in plain Lean: what is known, what becomes of an instruction; it is right, has as many instructions, and folded again is itself. -/
import Derived.Test.YtndmkfmpdnoliaaIOk
import Derived.Test.YtndmkfmpdnoliaaOp
namespace Go.Proofs.Ytndmkfmpdnoliaa

/-- What is known. -/
abbrev Kws := Int → Option Nat
def kNone : Kws := fun _ => none
def kPut (K : Kws) (d : Int) (n : Option Nat) : Kws := fun r => if r = d then n else K r
/-- What an instruction's D comes to, if it is known. -/
def worth (K : Kws) (x : Ir) : Option Nat :=
  if x.kind = 3 then (K x.a).bind fun p => (K x.b).bind fun q => some (opz x.op p q).toNat
  else if x.kind = 4 then (K x.a).bind fun p => if p = 0 then K x.c else K x.b
  else K x.a
def cIr (d : Int) (n : Nat) : Ir := ⟨1, 0, d, 0, 0, 0, n, [], []⟩
/-- One of the kinds that are worked out. -/
def mayW (x : Ir) : Bool := decide (x.kind = 2 ∨ x.kind = 3 ∨ x.kind = 4)
def foldX (K : Kws) (x : Ir) : Ir := if mayW x then (match worth K x with | some n => cIr x.d n | none => x) else x
def nextK (K : Kws) (x : Ir) : Kws :=
  if x.kind = 1 then kPut K x.d (some x.n) else if x.kind = 5 ∨ x.kind = 7 then kPut K x.d none else if mayW x then kPut K x.d (worth K x) else K
/-- Where blocks begin. -/
def begS (b : List Bool) (i : Nat) (x : Ir) : List Bool :=
  if x.kind = 8 ∨ x.kind = 9 then (b.set x.c.toNat true).set (i + 1) true else if x.kind = 10 then b.set (i + 1) true else b
def begF : Nat → List Ir → List Bool → List Bool
  | _, [], b => b
  | i, x :: l, b => begF (i + 1) l (begS b i x)
def beg0 (n : Nat) : List Bool := (List.replicate (n + 1) false).set 0 true
def begs (l : List Ir) : List Bool := begF 0 l (beg0 l.length)
def ahead (bs : List Bool) (i : Nat) (K : Kws) : Kws := if bs.getD i false = true then kNone else K
def foldF (bs : List Bool) : Nat → List Ir → Kws → List Ir
  | _, [], _ => []
  | i, x :: l, K => foldX (ahead bs i K) x :: foldF bs (i + 1) l (nextK (ahead bs i K) x)
def foldL (l : List Ir) : List Ir := foldF (begs l) 0 l kNone
def foldC (c : Co) : Co := { c with l := foldL c.l }
/-- What is told: the function and the error. -/
def noCo : Co := ⟨[], [], 0, 0, []⟩
def foldT (c : Co) : Co × Int := if (rightR c).1 = 0 then (foldC c, 0) else (noCo, (rightR c).1)
def cnt : List Ir → Nat
  | [] => 0
  | x :: l => (if x.kind = 1 then 1 else 0) + cnt l

theorem worth_3 (K : Kws) {x : Ir} (h : x.kind = 3) : worth K x = (K x.a).bind fun p => (K x.b).bind fun q => some (opz x.op p q).toNat := by unfold worth; rw [if_pos h]
theorem worth_4 (K : Kws) {x : Ir} (h : x.kind = 4) : worth K x = (K x.a).bind fun p => if p = 0 then K x.c else K x.b := by unfold worth; rw [if_neg (by omega), if_pos h]
theorem worth_2 (K : Kws) {x : Ir} (h : x.kind = 2) : worth K x = K x.a := by unfold worth; rw [if_neg (by omega), if_neg (by omega)]
theorem mayW_not {x : Ir} (h : x.kind ≠ 2) (h3 : x.kind ≠ 3) (h4 : x.kind ≠ 4) : mayW x = false := by simp [mayW, h, h3, h4]
theorem mayW_yes {x : Ir} (h : x.kind = 2 ∨ x.kind = 3 ∨ x.kind = 4) : mayW x = true := by simp [mayW, h]
theorem mayW_kind {x : Ir} (h : mayW x = true) : x.kind = 2 ∨ x.kind = 3 ∨ x.kind = 4 := by simpa [mayW] using h
theorem foldX_not (K : Kws) {x : Ir} (h : mayW x = false) : foldX K x = x := by unfold foldX; rw [h]; rfl
theorem foldX_none {K : Kws} {x : Ir} (h : worth K x = none) : foldX K x = x := by unfold foldX; rw [h]; split <;> rfl
theorem foldX_some {K : Kws} {x : Ir} {n : Nat} (hm : mayW x = true) (h : worth K x = some n) : foldX K x = cIr x.d n := by unfold foldX; rw [h, if_pos hm]
/-- Either as it was, or a number. -/
theorem foldX_or (K : Kws) (x : Ir) : foldX K x = x ∨ mayW x = true ∧ ∃ n, worth K x = some n ∧ foldX K x = cIr x.d n := by
  rcases hm : mayW x with _ | _
  · exact .inl (foldX_not K hm)
  · cases hw : worth K x with
    | none => exact .inl (foldX_none hw)
    | some n => exact .inr ⟨rfl, n, rfl, foldX_some hm hw⟩
theorem mayW_cIr (d : Int) (n : Nat) : mayW (cIr d n) = false := rfl
theorem nextK_cIr (K : Kws) (d : Int) (n : Nat) : nextK K (cIr d n) = kPut K d (some n) := rfl
theorem nextK_may (K : Kws) {x : Ir} (h : mayW x = true) : nextK K x = kPut K x.d (worth K x) := by
  have := mayW_kind h
  unfold nextK
  rw [if_neg (by omega), if_neg (by omega), if_pos h]
theorem nextK_fold (K : Kws) (x : Ir) : nextK K (foldX K x) = nextK K x := by
  rcases foldX_or K x with h | ⟨hm, n, hw, h⟩
  · rw [h]
  · rw [h, nextK_cIr, nextK_may K hm, hw]
theorem foldX_fold (K : Kws) (x : Ir) : foldX K (foldX K x) = foldX K x := by
  rcases foldX_or K x with h | ⟨hm, n, hw, h⟩
  · rw [h, h]
  · rw [h]; exact foldX_not K (mayW_cIr _ _)
theorem begS_fold (b : List Bool) (i : Nat) (K : Kws) (x : Ir) : begS b i (foldX K x) = begS b i x := by
  rcases foldX_or K x with h | ⟨hm, n, hw, h⟩
  · rw [h]
  · have := mayW_kind hm
    rw [h]
    unfold begS
    rw [if_neg (by simp [cIr]), if_neg (by simp [cIr]), if_neg (by omega), if_neg (by omega)]
theorem foldF_len (bs : List Bool) : ∀ (l : List Ir) (i : Nat) (K : Kws), (foldF bs i l K).length = l.length
  | [], _, _ => rfl
  | x :: l, i, K => by rw [foldF, List.length_cons, List.length_cons, foldF_len bs l]
theorem foldL_len (l : List Ir) : (foldL l).length = l.length := foldF_len _ _ _ _
theorem begF_fold (bs : List Bool) : ∀ (l : List Ir) (i : Nat) (K : Kws) (b : List Bool), begF i (foldF bs i l K) b = begF i l b
  | [], _, _, _ => rfl
  | x :: l, i, K, b => by rw [foldF, begF, begF, begS_fold, begF_fold bs l]
theorem begs_fold (l : List Ir) : begs (foldL l) = begs l := by
  unfold begs
  rw [foldL_len]
  exact begF_fold _ _ _ _ _
theorem foldF_fold (bs : List Bool) : ∀ (l : List Ir) (i : Nat) (K : Kws), foldF bs i (foldF bs i l K) K = foldF bs i l K
  | [], _, _ => rfl
  | x :: l, i, K => by rw [foldF, foldF, foldX_fold, nextK_fold, foldF_fold bs l]
theorem foldL_fold (l : List Ir) : foldL (foldL l) = foldL l := by
  unfold foldL
  rw [show begs (foldF (begs l) 0 l kNone) = begs l from begs_fold l]
  exact foldF_fold _ _ _ _
theorem foldC_fold (c : Co) : foldC (foldC c) = foldC c := by
  show Co.mk c.name c.ps c.regs c.cells (foldL (foldL c.l)) = Co.mk c.name c.ps c.regs c.cells (foldL c.l)
  rw [foldL_fold]
theorem cnt_append (l m : List Ir) : cnt (l ++ m) = cnt l + cnt m := by
  induction l with
  | nil => simp [cnt]
  | cons x l ih => simp only [List.cons_append, cnt, ih]; omega
theorem cnt_take (l : List Ir) (k : Nat) (hk : k < l.length) : cnt (l.take (k + 1)) = cnt (l.take k) + (if l[k].kind = 1 then 1 else 0) := by
  rw [List.take_add_one, List.getElem?_eq_getElem hk, cnt_append]; simp [cnt]
theorem cnt_le (l : List Ir) : cnt l ≤ l.length := by
  induction l with
  | nil => exact Nat.le_refl _
  | cons x l ih => simp only [cnt, List.length_cons]; split <;> omega
theorem cnt_fold (bs : List Bool) : ∀ (l : List Ir) (i : Nat) (K : Kws), cnt l ≤ cnt (foldF bs i l K)
  | [], _, _ => Nat.le_refl _
  | x :: l, i, K => by
    have ih := cnt_fold bs l (i + 1) (nextK (ahead bs i K) x)
    rw [foldF]
    simp only [cnt]
    rcases foldX_or (ahead bs i K) x with h | ⟨hm, n, hw, h⟩
    · rw [h]; omega
    · rw [h, if_pos (show (cIr x.d n).kind = 1 from rfl)]
      split <;> omega
theorem foldF_get (bs : List Bool) : ∀ (l : List Ir) (i : Nat) (K : Kws) (k : Nat) (h : k < l.length), ∃ K', (foldF bs i l K)[k]? = some (foldX K' l[k])
  | x :: l, i, K, 0, _ => ⟨_, rfl⟩
  | x :: l, i, K, k + 1, h => by
    obtain ⟨K', hK⟩ := foldF_get bs l (i + 1) (nextK (ahead bs i K) x) k (by simpa using h)
    exact ⟨K', by rw [foldF]; exact hK⟩
theorem irOk_fold {c : Co} {i : Nat} {x : Ir} (h : IrOk c i x) (K : Kws) : IrOk c i (foldX K x) := by
  rcases foldX_or K x with e | ⟨hm, n, hw, e⟩
  · rw [e]; exact h
  · have hk := mayW_kind hm
    rw [e]
    refine ⟨rfl, fun r hr => by simp [readsL, cIr] at hr, fun _ => h.writes (by unfold writesB; simp; omega), fun h5 => ?_, fun h8 => ?_, fun he => ?_⟩
    · simp [cIr] at h5
    · simp [cIr] at h8
    · have := h.last he; omega
theorem right_fold {c : Co} (h : (rightR c).1 = 0) : rightR (foldC c) = (0, -1) := by
  have hf := right_form h
  refine right_all ?_ fun k hk => ?_
  · unfold formB at hf ⊢
    have : (foldC c).l.length = c.l.length := foldL_len c.l
    rw [this]
    exact hf
  · have hk' : k < c.l.length := by rw [← foldL_len c.l]; exact hk
    obtain ⟨K, hK⟩ := foldF_get (begs c.l) c.l 0 kNone k hk'
    have hx := irOk_fold (irOk_of (right_ir h k hk')) K
    have e : (foldC c).l[k] = foldX K c.l[k] := by
      have := List.getElem?_eq_getElem hk
      have h2 : (foldC c).l[k]? = some (foldX K c.l[k]) := hK
      rw [this] at h2
      exact Option.some.inj h2
    rw [e]
    refine faultN_of ⟨hx.known, hx.reads, hx.writes, hx.addr, fun h8 => ?_, fun he => hx.last ?_⟩
    · have := hx.jump h8
      exact ⟨this.1, by show _ < (((foldC c).l.length : Nat) : Int); rw [show (foldC c).l.length = c.l.length from foldL_len c.l]; exact this.2⟩
    · rw [show (foldC c).l.length = c.l.length from foldL_len c.l] at he; exact he
theorem foldT_ok {c : Co} (h : (rightR c).1 = 0) : foldT c = (foldC c, 0) := if_pos h
theorem foldT_no {c : Co} (h : (rightR c).1 ≠ 0) : foldT c = (noCo, (rightR c).1) := if_neg h
theorem foldT_again {c : Co} (h : (rightR c).1 = 0) : foldT (foldC c) = (foldC c, 0) := by rw [foldT_ok (by rw [right_fold h]), foldC_fold]
theorem begS_len (b : List Bool) (i : Nat) (x : Ir) : (begS b i x).length = b.length := by
  unfold begS
  split
  · simp
  split
  · simp
  · rfl
theorem begF_len : ∀ (l : List Ir) (i : Nat) (b : List Bool), (begF i l b).length = b.length
  | [], _, _ => rfl
  | x :: l, i, b => by rw [begF, begF_len l, begS_len]
theorem begs_len (l : List Ir) : (begs l).length = l.length + 1 := by
  unfold begs
  rw [begF_len]; simp [beg0]
theorem set_stays {b : List Bool} {k : Nat} (h : b.getD k false = true) (j : Nat) : (b.set j true).getD k false = true := by
  simp only [List.getD_eq_getElem?_getD, List.getElem?_set] at h ⊢
  split
  · rename_i e; subst e
    split
    · rfl
    · rename_i hl; rw [List.getElem?_eq_none (by omega)] at h; cases h
  · exact h
theorem begS_stays {b : List Bool} {k : Nat} (h : b.getD k false = true) (i : Nat) (x : Ir) : (begS b i x).getD k false = true := by
  unfold begS
  split
  · exact set_stays (set_stays h _) _
  split
  · exact set_stays h _
  · exact h
theorem begF_stays {k : Nat} : ∀ (l : List Ir) (i : Nat) {b : List Bool}, b.getD k false = true → (begF i l b).getD k false = true
  | [], _, _, h => h
  | x :: l, i, b, h => by rw [begF]; exact begF_stays l (i + 1) (begS_stays h i x)
theorem begs_zero (l : List Ir) : (begs l).getD 0 false = true := begF_stays l 0 (by simp [beg0])
theorem set_here {b : List Bool} {j : Nat} (h : j < b.length) : (b.set j true).getD j false = true := by
  simp [List.getD_eq_getElem?_getD, h]
/-- Where a jump goes, and behind it, blocks begin. -/
theorem begF_jump : ∀ (l : List Ir) (i : Nat) (b : List Bool) (k : Nat) (hk : k < l.length), (l[k].kind = 8 ∨ l[k].kind = 9) → i + l.length < b.length → l[k].c.toNat < b.length →
    (begF i l b).getD l[k].c.toNat false = true ∧ (begF i l b).getD (i + k + 1) false = true
  | x :: l, i, b, 0, _, hx, hl, hc => by
    simp only [List.getElem_cons_zero, List.length_cons] at hx hc hl ⊢
    have e : begS b i x = (b.set x.c.toNat true).set (i + 1) true := if_pos hx
    rw [begF, e]
    exact ⟨begF_stays _ _ (set_stays (set_here hc) _), begF_stays _ _ (set_here (by simp; omega))⟩
  | x :: l, i, b, k + 1, hk, hx, hl, hc => by
    simp only [List.getElem_cons_succ, List.length_cons] at hx hc hl hk ⊢
    rw [begF]
    have := begF_jump l (i + 1) (begS b i x) k (by omega) hx (by rw [begS_len]; omega) (by rw [begS_len]; exact hc)
    rw [show i + (k + 1) + 1 = i + 1 + k + 1 by omega]
    exact this
theorem begs_jump {l : List Ir} {k : Nat} (hk : k < l.length) (hx : l[k].kind = 8 ∨ l[k].kind = 9) (hc : l[k].c.toNat < l.length) : (begs l).getD l[k].c.toNat false = true ∧ (begs l).getD (k + 1) false = true := by
  have h0 : (beg0 l.length).length = l.length + 1 := by simp [beg0]
  have := begF_jump l 0 (beg0 l.length) k hk hx (by rw [h0]; omega) (by rw [h0]; omega)
  rw [Nat.zero_add] at this
  exact this
/-- What is known ahead of each place. -/
def knAt (bs : List Bool) (l : List Ir) : Nat → Kws
  | 0 => ahead bs 0 kNone
  | i + 1 => ahead bs (i + 1) (nextK (knAt bs l i) (l.getD i ⟨0, 0, 0, 0, 0, 0, 0, [], []⟩))
theorem foldF_at (bs : List Bool) (L : List Ir) : ∀ (l : List Ir) (i : Nat) (K : Kws) (k : Nat) (h : k < l.length), (∀ j, l[j]? = L[i + j]?) → ahead bs i K = knAt bs L i → (foldF bs i l K)[k]? = some (foldX (knAt bs L (i + k)) l[k])
  | x :: l, i, K, 0, _, _, hK => by rw [foldF, hK]; rfl
  | x :: l, i, K, k + 1, h, hl, hK => by
    have h0 : L[i]? = some x := by have := hl 0; simpa using this.symm
    have := foldF_at bs L l (i + 1) (nextK (ahead bs i K) x) k (by simpa using h) (fun j => by have := hl (j + 1); rw [show i + 1 + j = i + (j + 1) by omega]; simpa using this) (by rw [knAt, hK, List.getD_eq_getElem?_getD, h0]; rfl)
    rw [foldF]
    rw [show i + (k + 1) = i + 1 + k by omega]
    exact this
theorem foldL_at (l : List Ir) (k : Nat) (h : k < l.length) : (foldL l)[k]? = some (foldX (knAt (begs l) l k) l[k]) := by
  have := foldF_at (begs l) l l 0 kNone k h (fun j => by rw [Nat.zero_add]) rfl
  rw [Nat.zero_add] at this
  exact this
end Go.Proofs.Ytndmkfmpdnoliaa
