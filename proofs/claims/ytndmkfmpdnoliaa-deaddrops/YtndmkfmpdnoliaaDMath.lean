/- WHAT IS DEAD, in plain Lean: a function without it; it is right, nothing of it is dead, and all that it reads is read as it was. -/
import Derived.Test.YtndmkfmpdnoliaaIOk
import Derived.Test.YtndmkfmpdnoliaaGMath
namespace Go.Proofs.Ytndmkfmpdnoliaa

/-- It does nothing but write its D. -/
def idleB (x : Ir) : Bool := decide (1 ≤ x.kind ∧ x.kind ≤ 5)
/-- Dead, where these are read behind it. -/
def deadX (R : List Int) (x : Ir) : Bool := idleB x && !R.contains x.d
/-- The registers that are read by what is not dead. -/
def rdL : List Ir → List Int
  | [] => []
  | x :: l => if deadX (rdL l) x then rdL l else readsL x ++ rdL l
def deadL : List Ir → List Bool
  | [] => []
  | x :: l => deadX (rdL l) x :: deadL l
/-- How many of the first ones are not dead. -/
def live : List Bool → Nat → Nat
  | [], _ => 0
  | _ :: _, 0 => 0
  | b :: l, n + 1 => (if b then 0 else 1) + live l n
def jmpX (P : Nat → Nat) (x : Ir) : Ir := if x.kind = 8 ∨ x.kind = 9 then { x with c := (P x.c.toNat : Nat) } else x
def keepL (P : Nat → Nat) : List Ir → List Ir
  | [] => []
  | x :: l => if deadX (rdL l) x then keepL P l else jmpX P x :: keepL P l
def freeL (l : List Ir) : List Ir := keepL (live (deadL l)) l
def dropC (c : Co) : Co := { c with l := freeL c.l }
def dropT (c : Co) : Co × Int := if (rightR c).1 = 0 then (dropC c, 0) else (noCo, (rightR c).1)
theorem dropT_ok {c : Co} (h : (rightR c).1 = 0) : dropT c = (dropC c, 0) := if_pos h
theorem dropT_no {c : Co} (h : (rightR c).1 ≠ 0) : dropT c = (noCo, (rightR c).1) := if_neg h

theorem live_zero (b : List Bool) : live b 0 = 0 := by cases b <;> rfl
theorem live_le : ∀ (b : List Bool) (n : Nat), live b n ≤ live b b.length
  | [], n => Nat.le_refl _
  | b :: l, 0 => by rw [live_zero]; exact Nat.zero_le _
  | b :: l, n + 1 => by
    have := live_le l n
    simp only [live, List.length_cons]
    omega
theorem live_le_n : ∀ (b : List Bool) (n : Nat), live b n ≤ n
  | [], n => Nat.zero_le _
  | b :: l, 0 => Nat.le_refl _
  | b :: l, n + 1 => by
    have := live_le_n l n
    simp only [live]
    split <;> omega
theorem live_succ : ∀ (b : List Bool) (n : Nat) (h : n < b.length), live b (n + 1) = live b n + (if b[n] then 0 else 1)
  | b :: l, 0, _ => by simp [live, live_zero]
  | b :: l, n + 1, h => by
    have := live_succ l n (by simpa using h)
    simp only [live, List.getElem_cons_succ] at this ⊢
    omega
theorem live_mono (b : List Bool) : ∀ {m n : Nat}, m ≤ n → live b m ≤ live b n := by
  induction b with
  | nil => intro m n _; exact Nat.le_refl _
  | cons b l ih =>
    intro m n h
    cases m with
    | zero => rw [live_zero]; exact Nat.zero_le _
    | succ m =>
      cases n with
      | zero => omega
      | succ n =>
        have := ih (m := m) (n := n) (by omega)
        simp only [live]
        omega
theorem live_none (n : Nat) : ∀ (k : Nat), k ≤ n → live (List.replicate n false) k = k := by
  induction n with
  | zero => intro k h; rw [show k = 0 by omega]; rfl
  | succ n ih =>
    intro k h
    cases k with
    | zero => rfl
    | succ k =>
      rw [List.replicate_succ, live, ih k (by omega)]
      simp; omega
theorem deadL_len : ∀ (l : List Ir), (deadL l).length = l.length
  | [] => rfl
  | x :: l => by rw [deadL, List.length_cons, List.length_cons, deadL_len l]
theorem deadL_at : ∀ (l : List Ir) (k : Nat) (h : k < l.length), (deadL l)[k]? = some (deadX (rdL (l.drop (k + 1))) l[k])
  | x :: l, 0, _ => rfl
  | x :: l, k + 1, h => deadL_at l k (by simpa using h)
theorem deadL_get (l : List Ir) (k : Nat) (h : k < l.length) : (deadL l)[k]'(by rw [deadL_len]; exact h) = deadX (rdL (l.drop (k + 1))) l[k] := by
  have := deadL_at l k h
  rw [List.getElem?_eq_getElem (by rw [deadL_len]; exact h)] at this
  exact Option.some.inj this
theorem rdL_drop (l : List Ir) (k : Nat) (h : k < l.length) : rdL (l.drop k) = if deadX (rdL (l.drop (k + 1))) l[k] then rdL (l.drop (k + 1)) else readsL l[k] ++ rdL (l.drop (k + 1)) := by
  rw [List.drop_eq_getElem_cons h, rdL]
theorem deadL_drop (l : List Ir) (k : Nat) : deadL (l.drop k) = (deadL l).drop k := by
  induction l generalizing k with
  | nil => simp [deadL]
  | cons x l ih =>
    cases k with
    | zero => rfl
    | succ k => exact ih k
theorem jmpX_same (P : Nat → Nat) (x : Ir) : (jmpX P x).kind = x.kind ∧ (jmpX P x).op = x.op ∧ (jmpX P x).d = x.d ∧ (jmpX P x).a = x.a ∧ (jmpX P x).b = x.b ∧ (jmpX P x).n = x.n ∧ (jmpX P x).name = x.name ∧ (jmpX P x).args = x.args := by
  unfold jmpX
  split <;> exact ⟨rfl, rfl, rfl, rfl, rfl, rfl, rfl, rfl⟩
theorem jmpX_not (P : Nat → Nat) {x : Ir} (h : ¬ (x.kind = 8 ∨ x.kind = 9)) : jmpX P x = x := if_neg h
theorem jmpX_c (P : Nat → Nat) {x : Ir} (h : x.kind = 8 ∨ x.kind = 9) : (jmpX P x).c = (P x.c.toNat : Nat) := by unfold jmpX; rw [if_pos h]
theorem readsL_jmp (P : Nat → Nat) (x : Ir) : readsL (jmpX P x) = readsL x := by
  unfold jmpX
  split
  · rename_i h
    unfold readsL
    rcases h with h | h <;> simp [h]
  · rfl
theorem idleB_jmp (P : Nat → Nat) (x : Ir) : idleB (jmpX P x) = idleB x := by unfold idleB; rw [(jmpX_same P x).1]
theorem deadX_jmp (R : List Int) (P : Nat → Nat) (x : Ir) : deadX R (jmpX P x) = deadX R x := by unfold deadX; rw [idleB_jmp, (jmpX_same P x).2.2.1]
theorem knownB_jmp (P : Nat → Nat) (x : Ir) : knownB (jmpX P x) = knownB x := by
  obtain ⟨a, b, c, d, e, f, g, h⟩ := jmpX_same P x
  unfold knownB
  rw [a, b, g, h]
theorem writesB_jmp (P : Nat → Nat) (x : Ir) : writesB (jmpX P x) = writesB x := by unfold writesB; rw [(jmpX_same P x).1]
theorem jmpX_jmp (P Q : Nat → Nat) (x : Ir) : jmpX Q (jmpX P x) = jmpX (fun n => Q (P n)) x := by
  by_cases h : x.kind = 8 ∨ x.kind = 9
  · unfold jmpX
    rw [if_pos h, if_pos h, if_pos (show ({ x with c := (P x.c.toNat : Nat) } : Ir).kind = 8 ∨ _ from h)]
    rfl
  · rw [jmpX_not P h, jmpX_not Q h, jmpX_not _ h]
theorem rdL_keep (P : Nat → Nat) : ∀ (l : List Ir), rdL (keepL P l) = rdL l
  | [] => rfl
  | x :: l => by
    have ih := rdL_keep P l
    rw [keepL, rdL]
    cases hd : deadX (rdL l) x with
    | true => simpa using ih
    | false => simp [rdL, ih, deadX_jmp, hd, readsL_jmp]
theorem deadL_keep (P : Nat → Nat) : ∀ (l : List Ir), deadL (keepL P l) = List.replicate (keepL P l).length false
  | [] => rfl
  | x :: l => by
    have ih := deadL_keep P l
    rw [keepL]
    cases hd : deadX (rdL l) x with
    | true => simpa using ih
    | false => simp [deadL, ih, rdL_keep, deadX_jmp, hd, List.replicate_succ]
theorem keepL_keep (P Q : Nat → Nat) : ∀ (l : List Ir), keepL Q (keepL P l) = keepL (fun n => Q (P n)) l
  | [] => rfl
  | x :: l => by
    have ih := keepL_keep P Q l
    rw [keepL, keepL]
    cases hd : deadX (rdL l) x with
    | true => simpa using ih
    | false => simp [keepL, ih, rdL_keep, deadX_jmp, hd, jmpX_jmp]
theorem keepL_len (P : Nat → Nat) : ∀ (l : List Ir), (keepL P l).length = live (deadL l) l.length
  | [] => rfl
  | x :: l => by
    have ih := keepL_len P l
    rw [keepL, deadL, List.length_cons, live]
    cases hd : deadX (rdL l) x with
    | true => simpa using ih
    | false => simp [ih]; omega
theorem keepL_at (P : Nat → Nat) : ∀ (l : List Ir) (k : Nat) (h : k < l.length), deadX (rdL (l.drop (k + 1))) l[k] = false → (keepL P l)[live (deadL l) k]? = some (jmpX P l[k])
  | x :: l, 0, h, hd => by
    have hd' : deadX (rdL l) x = false := hd
    rw [keepL, deadL, live, hd']
    rfl
  | x :: l, k + 1, h, hd => by
    have ih := keepL_at P l k (by simpa using h) hd
    rw [keepL, deadL, live]
    cases hx : deadX (rdL l) x with
    | true => simpa using ih
    | false => simp only [Bool.false_eq_true, if_false, List.getElem_cons_succ]; rw [Nat.add_comm, List.getElem?_cons_succ]; exact ih
theorem keepL_of (P : Nat → Nat) : ∀ (l : List Ir) (k : Nat), k < (keepL P l).length → ∃ i, ∃ h : i < l.length, deadX (rdL (l.drop (i + 1))) l[i] = false ∧ live (deadL l) i = k
  | [], k, h => by simp [keepL] at h
  | x :: l, k, h => by
    rw [keepL] at h
    cases hx : deadX (rdL l) x with
    | true =>
      rw [hx] at h
      obtain ⟨i, hi, h1, h2⟩ := keepL_of P l k (by simpa using h)
      exact ⟨i + 1, by simpa using hi, h1, by rw [deadL, live, hx]; simpa using h2⟩
    | false =>
      rw [hx] at h
      cases k with
      | zero => exact ⟨0, by simp, hx, by rw [live_zero]⟩
      | succ k =>
        obtain ⟨i, hi, h1, h2⟩ := keepL_of P l k (by simpa using h)
        exact ⟨i + 1, by simpa using hi, h1, by rw [deadL, live, hx]; simp; omega⟩
theorem free_len (l : List Ir) : (freeL l).length = live (deadL l) l.length := keepL_len _ l
theorem free_le (l : List Ir) : (freeL l).length ≤ l.length := by rw [free_len]; exact live_le_n _ _
theorem free_at (l : List Ir) (k : Nat) (h : k < l.length) (hd : deadX (rdL (l.drop (k + 1))) l[k] = false) : (freeL l)[live (deadL l) k]? = some (jmpX (live (deadL l)) l[k]) := keepL_at _ l k h hd
theorem free_of (l : List Ir) (k : Nat) (h : k < (freeL l).length) : ∃ i, ∃ hi : i < l.length, deadX (rdL (l.drop (i + 1))) l[i] = false ∧ live (deadL l) i = k ∧ (freeL l)[k] = jmpX (live (deadL l)) l[i] := by
  obtain ⟨i, hi, h1, h2⟩ := keepL_of _ l k h
  have := free_at l i hi h1
  rw [h2, List.getElem?_eq_getElem h] at this
  exact ⟨i, hi, h1, h2, Option.some.inj this⟩
/-- What is not dead has a place of its own. -/
theorem live_lt {l : List Ir} {i j : Nat} (hi : i < l.length) (hd : deadX (rdL (l.drop (i + 1))) l[i] = false) (h : i < j) : live (deadL l) i < live (deadL l) j := by
  have h1 := live_succ (deadL l) i (by rw [deadL_len]; exact hi)
  rw [deadL_get l i hi, hd] at h1
  have h2 := live_mono (deadL l) (show i + 1 ≤ j by omega)
  simp at h1
  omega
theorem dead_not {R : List Int} {x : Ir} (h : ¬ (1 ≤ x.kind ∧ x.kind ≤ 5)) : deadX R x = false := by simp [deadX, idleB, h]
theorem free_free (l : List Ir) : freeL (freeL l) = freeL l := by
  have h1 : freeL (freeL l) = keepL (fun n => live (deadL (freeL l)) (live (deadL l) n)) l := keepL_keep _ _ l
  rw [h1]
  have h2 : (fun n => live (deadL (freeL l)) (live (deadL l) n)) = live (deadL l) := by
    funext n
    have h3 : deadL (freeL l) = List.replicate (freeL l).length false := deadL_keep _ l
    rw [h3, live_none]
    rw [free_len]
    have := live_le (deadL l) n
    rw [deadL_len] at this
    exact this
  rw [h2]
  rfl
theorem rd_free (l : List Ir) : rdL (freeL l) = rdL l := rdL_keep _ l
theorem drop_drop (c : Co) : dropC (dropC c) = dropC c := by
  show { dropC c with l := freeL (freeL c.l) } = dropC c
  rw [free_free]
  rfl
theorem form_parts {x : Co} (h : formB x = true) : fullB x.name = true ∧ x.ps.length ≤ 6 ∧ 0 < x.l.length ∧ x.l.length ≤ 10000 ∧ x.ps.all tyOk = true ∧ (wordsN x.ps : Int) ≤ x.regs ∧ x.regs ≤ 10000 ∧ cellsN x.ps ≤ x.cells ∧ x.cells ≤ 4096 := by
  simp only [formB, Bool.and_eq_true, decide_eq_true_eq] at h
  obtain ⟨⟨⟨⟨⟨⟨⟨⟨h1, h2⟩, h3⟩, h4⟩, h5⟩, h6⟩, h7⟩, h8⟩, h9⟩ := h
  exact ⟨h1, h2, h3, h4, h5, h6, h7, h8, h9⟩
theorem right_drop {c : Co} (h : (rightR c).1 = 0) : rightR (dropC c) = (0, -1) := by
  have hf := right_form h
  obtain ⟨f1, f2, f3, f4, f5, f6, f7, f8, f9⟩ := form_parts hf
  have hir : ∀ k (hk : k < c.l.length), IrOk c k c.l[k] := fun k hk => irOk_of (right_ir h k hk)
  have hlast : deadX (rdL (c.l.drop (c.l.length - 1 + 1))) (c.l[c.l.length - 1]'(by omega)) = false := dead_not (by have := (hir (c.l.length - 1) (by omega)).last (by omega); omega)
  have hll : live (deadL c.l) (c.l.length - 1) < (freeL c.l).length := by
    have := live_lt (by omega) hlast (show c.l.length - 1 < c.l.length by omega)
    rw [free_len]
    exact this
  refine right_all ?_ fun k hk => ?_
  · have h0 : 0 < (freeL c.l).length := by omega
    have h1 : (freeL c.l).length ≤ 10000 := Nat.le_trans (free_le c.l) f4
    unfold formB at hf ⊢
    show (fullB c.name && decide (c.ps.length ≤ 6) && decide (0 < (freeL c.l).length) && decide ((freeL c.l).length ≤ 10000) && c.ps.all tyOk && decide ((wordsN c.ps : Int) ≤ c.regs) && decide (c.regs ≤ 10000) && decide (cellsN c.ps ≤ c.cells) && decide (c.cells ≤ 4096)) = true
    rw [decide_eq_true h0, decide_eq_true h1]
    rw [decide_eq_true f3, decide_eq_true f4] at hf
    exact hf
  · have hk' : k < (freeL c.l).length := hk
    obtain ⟨i, hi, hd, hlv, hx⟩ := free_of c.l k hk'
    have e : (dropC c).l[k]'hk = jmpX (live (deadL c.l)) c.l[i] := hx
    have hok := hir i hi
    obtain ⟨s1, s2, s3, s4, s5, s6, s7, s8⟩ := jmpX_same (live (deadL c.l)) c.l[i]
    rw [e]
    refine faultN_of ⟨by rw [knownB_jmp]; exact hok.known, fun r hr => hok.reads r (by rw [readsL_jmp] at hr; exact hr), fun hw => by rw [s3]; exact hok.writes (by rw [writesB_jmp] at hw; exact hw), fun h5 => by rw [s1] at h5; rw [s6]; exact hok.addr h5, fun h8 => ?_, fun he => ?_⟩
    · rw [s1] at h8
      rw [jmpX_c _ h8]
      have hj := hok.jump h8
      have h1 := live_lt hi hd (show i < c.l[i].c.toNat by omega)
      have h2 := live_mono (deadL c.l) (show c.l[i].c.toNat ≤ c.l.length - 1 by omega)
      have h3 : (dropC c).l.length = (freeL c.l).length := rfl
      rw [h3]
      omega
    · rw [s1]
      have he' : k + 1 = (freeL c.l).length := he
      have : i = c.l.length - 1 := by
        rcases Nat.lt_or_ge i (c.l.length - 1) with h1 | h1
        · have := live_lt hi hd h1
          omega
        · omega
      subst this
      exact hok.last (by omega)
theorem dropT_again {c : Co} (h : (rightR c).1 = 0) : dropT (dropC c) = (dropC c, 0) := by rw [dropT_ok (by rw [right_drop h]), drop_drop]

/-- The registers that are read, rising. -/
def rising (n : Nat) (R : List Int) : List Int := ((List.range n).map fun r => ((r : Nat) : Int)).filter fun r => R.contains r
def readM (c : Co) (at' : Int) : List Int := if (rightR c).1 = 0 ∧ 0 ≤ at' ∧ at' ≤ (c.l.length : Int) then rising c.regs.toNat (rdL (c.l.drop at'.toNat)) else []
theorem rising_mem {n : Nat} {R : List Int} {r : Int} : r ∈ rising n R ↔ (0 ≤ r ∧ r < n) ∧ r ∈ R := by
  unfold rising
  simp only [List.mem_filter, List.mem_map, List.mem_range, List.contains_iff_mem]
  constructor
  · rintro ⟨⟨k, h, rfl⟩, h2⟩; exact ⟨by omega, h2⟩
  · rintro ⟨h, h2⟩; exact ⟨⟨r.toNat, by omega, by omega⟩, h2⟩
theorem rising_sorted (n : Nat) (R : List Int) : (rising n R).Pairwise (· < ·) := by
  unfold rising
  refine List.Pairwise.filter _ ?_
  rw [List.pairwise_map]
  exact List.pairwise_lt_range.imp fun h => by omega
theorem rising_len (n : Nat) (R : List Int) : (rising n R).length ≤ n := by
  unfold rising
  refine Nat.le_trans (List.length_filter_le _ _) ?_
  simp
/-- Two rising lists of the same members are one. -/
theorem sorted_same : ∀ {l m : List Int}, l.Pairwise (· < ·) → m.Pairwise (· < ·) → (∀ r, r ∈ l ↔ r ∈ m) → l = m
  | [], [], _, _, _ => rfl
  | [], y :: m, _, _, h => by have := (h y).2 (by simp); simp at this
  | x :: l, [], _, _, h => by have := (h x).1 (by simp); simp at this
  | x :: l, y :: m, hl, hm, h => by
    rw [List.pairwise_cons] at hl hm
    have e : x = y := by
      rcases List.mem_cons.1 ((h x).1 (by simp)) with h1 | h1
      · exact h1
      · rcases List.mem_cons.1 ((h y).2 (by simp)) with h2 | h2
        · exact h2.symm
        · have := hm.1 x h1; have := hl.1 y h2; omega
    subst e
    rw [sorted_same hl.2 hm.2 fun r => ?_]
    constructor
    · intro hr
      rcases List.mem_cons.1 ((h r).1 (List.mem_cons_of_mem _ hr)) with h1 | h1
      · have := hl.1 r hr; omega
      · exact h1
    · intro hr
      rcases List.mem_cons.1 ((h r).2 (List.mem_cons_of_mem _ hr)) with h1 | h1
      · have := hm.1 r hr; omega
      · exact h1
theorem rdL_mem : ∀ {l : List Ir} {r : Int}, r ∈ rdL l → ∃ x ∈ l, r ∈ readsL x
  | [], r, h => by simp [rdL] at h
  | x :: l, r, h => by
    rw [rdL] at h
    split at h
    · obtain ⟨y, hy, h2⟩ := rdL_mem h
      exact ⟨y, List.mem_cons_of_mem _ hy, h2⟩
    · rcases List.mem_append.1 h with h1 | h1
      · exact ⟨x, by simp, h1⟩
      · obtain ⟨y, hy, h2⟩ := rdL_mem h1
        exact ⟨y, List.mem_cons_of_mem _ hy, h2⟩
theorem rd_range {c : Co} (h : (rightR c).1 = 0) {k : Nat} {r : Int} (hr : r ∈ rdL (c.l.drop k)) : 0 ≤ r ∧ r < c.regs := by
  obtain ⟨x, hx, hr2⟩ := rdL_mem hr
  obtain ⟨i, hi, rfl⟩ := List.getElem_of_mem (List.mem_of_mem_drop hx)
  exact (irOk_of (right_ir h i hi)).reads r hr2
theorem rd_less (l : List Ir) (k : Nat) {r : Int} (h : r ∈ rdL (l.drop (k + 1))) : r ∈ rdL (l.drop k) := by
  rcases Nat.lt_or_ge k l.length with hk | hk
  · rw [rdL_drop l k hk]
    split
    · exact h
    · exact List.mem_append_right _ h
  · rw [List.drop_of_length_le (by omega)] at h
    simp [rdL] at h
end Go.Proofs.Ytndmkfmpdnoliaa
