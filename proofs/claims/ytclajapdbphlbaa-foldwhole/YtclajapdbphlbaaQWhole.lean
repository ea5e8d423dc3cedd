/- Put together of: GWholeM, GWholeH, QGWholeC. -/
import Derived.Test.YtclajapdbphlbaaGRefM
import Derived.Test.YtclajapdbphlbaaGRunM
import Derived.Test.YtclajapdbphlbaaGAwake
import Derived.Test.YtclajapdbphlbaaIApp2
import Derived.Test.YtclajapdbphlbaaQRun
/- PLAIN FACTS: a function of numbers alone, without branches. -/
namespace Go.Proofs.Ytclajapdbphlbaa

def binX (i : Nat) (o : Int) : Ir := ⟨3, o, ((i % 2 : Nat) : Int), 0, 1, 0, 0, [], []⟩
def binL : Nat → List Int → List Ir
  | _, [] => []
  | i, o :: t => binX i o :: binL (i + 1) t
def retX : Ir := ⟨10, 0, 0, 1, 0, 0, 0, [], []⟩
def wL (n : Nat) (ops : List Int) : List Ir := cIr 0 n :: cIr 1 7 :: (binL 0 ops ++ [retX])
def wC (n : Nat) (ops : List Int) : Co := ⟨[97, 46, 102], [], 2, 0, wL n ops⟩
/-- The two registers behind an op. -/
def reg1 (i : Nat) (o : Int) (s : Nat × Nat) : Nat × Nat := if i % 2 = 0 then ((opz o (s.1 : Int) (s.2 : Int)).toNat, s.2) else (s.1, (opz o (s.1 : Int) (s.2 : Int)).toNat)
def regs2 : Nat → List Int → Nat × Nat → Nat × Nat
  | _, [], s => s
  | i, o :: t, s => regs2 (i + 1) t (reg1 i o s)
def conL : Nat → List Int → Nat × Nat → List Ir
  | _, [], _ => []
  | i, o :: t, s => cIr ((i % 2 : Nat) : Int) (opz o (s.1 : Int) (s.2 : Int)).toNat :: conL (i + 1) t (reg1 i o s)
def lastOf : List Ir → Nat → Nat
  | [], v => v
  | x :: l, v => lastOf l (if x.kind = 1 ∧ x.d = 1 then x.n else v)
theorem binL_len : ∀ (ops : List Int) (i : Nat), (binL i ops).length = ops.length
  | [], _ => rfl
  | o :: t, i => by rw [binL, List.length_cons, binL_len t, List.length_cons]
theorem conL_len : ∀ (ops : List Int) (i : Nat) (s : Nat × Nat), (conL i ops s).length = ops.length
  | [], _, _ => rfl
  | o :: t, i, s => by rw [conL, List.length_cons, conL_len t, List.length_cons]
theorem wL_len (n : Nat) (ops : List Int) : (wL n ops).length = ops.length + 3 := by
  simp only [wL, List.length_cons, List.length_append, binL_len, List.length_nil]
theorem binL_snoc : ∀ (ops : List Int) (i : Nat) (o : Int), binL i (ops ++ [o]) = binL i ops ++ [binX (i + ops.length) o]
  | [], i, o => rfl
  | p :: t, i, o => by
    rw [List.cons_append, binL, binL, binL_snoc t (i + 1) o, List.length_cons, List.cons_append, show i + 1 + t.length = i + (t.length + 1) by omega]
theorem binL_mem : ∀ (ops : List Int) (i : Nat), ∀ x ∈ binL i ops, ∃ j o, o ∈ ops ∧ x = binX j o
  | [], _, x, h => by cases h
  | o :: t, i, x, h => by
    rw [binL] at h
    rcases List.mem_cons.1 h with rfl | h
    · exact ⟨i, o, by simp, rfl⟩
    · obtain ⟨j, p, hp, e⟩ := binL_mem t (i + 1) x h
      exact ⟨j, p, by simp [hp], e⟩
theorem wL_mem {n : Nat} {ops : List Int} {x : Ir} (h : x ∈ wL n ops) : x = cIr 0 n ∨ x = cIr 1 7 ∨ x = retX ∨ ∃ j o, o ∈ ops ∧ x = binX j o := by
  simp only [wL, List.mem_cons, List.mem_append, List.not_mem_nil, or_false] at h
  rcases h with h | h | h | h
  · exact .inl h
  · exact .inr (.inl h)
  · exact .inr (.inr (.inr (binL_mem _ _ _ h)))
  · exact .inr (.inr (.inl h))
theorem wL_last (n : Nat) (ops : List Int) (k : Nat) (hk : k < (wL n ops).length) (h : k + 1 = (wL n ops).length) : (wL n ops)[k] = retX := by
  have e : wL n ops = (cIr 0 n :: cIr 1 7 :: binL 0 ops) ++ [retX] := rfl
  have hl : (cIr 0 n :: cIr 1 7 :: binL 0 ops).length = k := by
    rw [wL_len] at h; simp only [List.length_cons, binL_len]; omega
  have h2 : (wL n ops)[k]? = some retX := by
    rw [e, ← hl, List.getElem?_append_right (Nat.le_refl _), Nat.sub_self]; rfl
  rw [List.getElem?_eq_getElem hk] at h2
  exact Option.some.inj h2
theorem wL_mid (n : Nat) (ops : List Int) (k : Nat) (hk : k < (wL n ops).length) (h : k + 1 < (wL n ops).length) : (wL n ops)[k].kind = 1 ∨ (wL n ops)[k].kind = 3 := by
  have e : wL n ops = (cIr 0 n :: cIr 1 7 :: binL 0 ops) ++ [retX] := rfl
  have hl : k < (cIr 0 n :: cIr 1 7 :: binL 0 ops).length := by
    rw [wL_len] at h; simp only [List.length_cons, binL_len]; omega
  have h2 : (wL n ops)[k]? = (cIr 0 n :: cIr 1 7 :: binL 0 ops)[k]? := by rw [e, List.getElem?_append_left hl]
  rw [List.getElem?_eq_getElem hk, List.getElem?_eq_getElem hl] at h2
  rw [Option.some.inj h2]
  have hm := List.getElem_mem hl
  generalize (cIr 0 n :: cIr 1 7 :: binL 0 ops)[k] = y at hm
  rcases List.mem_cons.1 hm with rfl | hm
  · exact .inl rfl
  rcases List.mem_cons.1 hm with rfl | hm
  · exact .inl rfl
  · obtain ⟨j, o, _, rfl⟩ := binL_mem _ _ _ hm
    exact .inr rfl
theorem right_wC {n : Nat} {ops : List Int} (ho : ∀ o ∈ ops, 1 ≤ o ∧ o ≤ 10) (hl : ops.length ≤ 200) : rightR (wC n ops) = (0, -1) := by
  have hlen : (wC n ops).l.length = ops.length + 3 := wL_len n ops
  refine right_all ?_ fun k hk => faultN_of ?_
  · simp only [formB, Bool.and_eq_true, decide_eq_true_eq, hlen]
    refine ⟨⟨⟨⟨⟨⟨⟨⟨rfl, ?_⟩, ?_⟩, ?_⟩, rfl⟩, ?_⟩, ?_⟩, ?_⟩, ?_⟩
    · show 0 ≤ 6; decide
    · omega
    · omega
    · show (0 : Int) ≤ 2; decide
    · show (2 : Int) ≤ 10000; decide
    · show (0 : Int) ≤ 0; decide
    · show (0 : Int) ≤ 4096; decide
  · have hlast : k + 1 = (wC n ops).l.length → (wC n ops).l[k].kind = 10 := fun h => by
      show (wL n ops)[k].kind = 10
      rw [wL_last n ops k hk h]; rfl
    have hm : (wC n ops).l[k] ∈ wL n ops := List.getElem_mem hk
    generalize (wC n ops).l[k] = x at hm hlast
    rcases wL_mem hm with rfl | rfl | rfl | ⟨j, o, hoo, rfl⟩
    · exact ⟨rfl, fun r hr => by simp [readsL, cIr] at hr, fun _ => by simp [cIr, wC], fun h => by simp [cIr] at h, fun h => by simp [cIr] at h, hlast⟩
    · exact ⟨rfl, fun r hr => by simp [readsL, cIr] at hr, fun _ => by simp [cIr, wC], fun h => by simp [cIr] at h, fun h => by simp [cIr] at h, hlast⟩
    · exact ⟨rfl, fun r hr => by simp [readsL, retX] at hr; subst hr; simp [wC], fun h => by simp [writesB, retX] at h, fun h => by simp [retX] at h, fun h => by simp [retX] at h, hlast⟩
    · have h1 := ho o hoo
      refine ⟨by simp [knownB, binX, h1], fun r hr => ?_, fun _ => ?_, fun h => by simp [binX] at h, fun h => by simp [binX] at h, hlast⟩
      · simp [readsL, binX] at hr
        rcases hr with rfl | rfl <;> simp [wC]
      · simp only [binX, wC]
        have : j % 2 < 2 := Nat.mod_lt _ (by decide)
        omega
theorem wL_beg (n : Nat) (ops : List Int) (k : Nat) (h1 : 1 ≤ k) (h2 : k < ops.length + 3) : (begs (wL n ops)).getD k false = false := by
  have hc : ∀ x ∈ wL n ops, x.kind = 8 ∨ x.kind = 9 → 0 ≤ x.c := fun x hx h => by
    rcases wL_mem hx with rfl | rfl | rfl | ⟨j, o, _, rfl⟩ <;> simp [cIr, retX, binX] at h
  rw [← rBeg_eq hc k (by rw [wL_len]; omega)]
  obtain ⟨m, rfl⟩ : ∃ m, k = m + 1 := ⟨k - 1, by omega⟩
  have hlt : m < (wL n ops).length := by rw [wL_len]; omega
  have hk := wL_mid n ops m hlt (by rw [wL_len]; omega)
  rw [rBeg, List.getD_eq_getElem?_getD, List.getElem?_eq_getElem hlt]
  have e1 : endB (wL n ops)[m] = false := by unfold endB; rcases hk with h | h <;> simp [h]
  have e2 : ((wL n ops).any fun x => hitB x (m + 1)) = false := by
    rw [List.any_eq_false]
    intro x hx
    rcases wL_mem hx with rfl | rfl | rfl | ⟨j, o, _, rfl⟩ <;> simp [hitB, cIr, retX, binX]
  show (endB (wL n ops)[m] || _) = false
  rw [e1, e2]; rfl
theorem reg1_put {K : Kws} {i : Nat} {o : Int} {s : Nat × Nat} (h0 : K 0 = some s.1) (h1 : K 1 = some s.2) : kPut K ((i % 2 : Nat) : Int) (some (opz o (s.1 : Int) (s.2 : Int)).toNat) 0 = some (reg1 i o s).1 ∧ kPut K ((i % 2 : Nat) : Int) (some (opz o (s.1 : Int) (s.2 : Int)).toNat) 1 = some (reg1 i o s).2 := by
  unfold kPut reg1
  rcases Nat.mod_two_eq_zero_or_one i with h | h
  · rw [h]; simp [h1]
  · rw [h]; simp [h0]
theorem fold_bins (bs : List Bool) : ∀ (ops : List Int) (j i : Nat) (s : Nat × Nat) (K : Kws), (∀ m, i ≤ m → m < i + ops.length + 1 → bs.getD m false = false) → K 0 = some s.1 → K 1 = some s.2 → foldF bs i (binL j ops ++ [retX]) K = conL j ops s ++ [retX]
  | [], j, i, s, K, hb, h0, h1 => by
    show foldF bs i [retX] K = [retX]
    have e : ahead bs i K = K := if_neg (by rw [hb i (Nat.le_refl _) (by simp)]; decide)
    rw [foldF, e, foldX_not K (show mayW retX = false from rfl)]
    rfl
  | o :: t, j, i, s, K, hb, h0, h1 => by
    have e : ahead bs i K = K := if_neg (by rw [hb i (Nat.le_refl _) (by simp only [List.length_cons]; omega)]; decide)
    have hm : mayW (binX j o) = true := rfl
    have hw : worth K (binX j o) = some (opz o (s.1 : Int) (s.2 : Int)).toNat := by
      rw [worth_3 K rfl]
      show ((K 0).bind fun p => (K 1).bind fun q => some (opz o p q).toNat) = _
      rw [h0, h1]; rfl
    obtain ⟨p0, p1⟩ := reg1_put (i := j) (o := o) h0 h1
    rw [binL, List.cons_append, foldF, e, foldX_some hm hw, nextK_may K hm, hw, conL, List.cons_append]
    have ih := fold_bins bs t (j + 1) (i + 1) (reg1 j o s) (kPut K ((j % 2 : Nat) : Int) (some (opz o (s.1 : Int) (s.2 : Int)).toNat)) (fun m h2 h3 => hb m (by omega) (by simp only [List.length_cons]; omega)) p0 p1
    rw [← ih]
    rfl
theorem fold_wL (n : Nat) (ops : List Int) : foldL (wL n ops) = cIr 0 n :: cIr 1 7 :: (conL 0 ops (n, 7) ++ [retX]) := by
  have hb := wL_beg n ops
  unfold foldL
  generalize begs (wL n ops) = bs at hb ⊢
  have e1 : ∀ K, ahead bs 1 K = K := fun K => if_neg (by rw [hb 1 (Nat.le_refl _) (by omega)]; decide)
  have hA : ∀ K : Kws, ahead bs 0 kNone = kNone := fun K => by unfold ahead; split <;> rfl
  unfold wL
  rw [foldF, foldF, hA kNone, foldX_not _ (mayW_cIr 0 n), nextK_cIr, e1, foldX_not _ (mayW_cIr 1 7), nextK_cIr]
  rw [fold_bins bs ops 0 (0 + 1 + 1) (n, 7) _ (fun m h2 h3 => hb m (by omega) (by omega)) (by simp [kPut]) (by simp [kPut])]
theorem cnt_con : ∀ (ops : List Int) (i : Nat) (s : Nat × Nat), cnt (conL i ops s ++ [retX]) = ops.length
  | [], _, _ => rfl
  | o :: t, i, s => by rw [conL, List.cons_append, cnt, cnt_con t, if_pos (show (cIr _ _).kind = 1 from rfl), List.length_cons]; omega
theorem cnt_wL (n : Nat) (ops : List Int) : cnt (foldL (wL n ops)) = ops.length + 2 := by
  rw [fold_wL, cnt, cnt, cnt_con, if_pos (show (cIr _ _).kind = 1 from rfl), if_pos (show (cIr _ _).kind = 1 from rfl)]; omega
theorem last_con : ∀ (ops : List Int) (i : Nat) (s : Nat × Nat), lastOf (conL i ops s ++ [retX]) s.2 = (regs2 i ops s).2
  | [], _, _ => rfl
  | o :: t, i, s => by
    rw [conL, List.cons_append, lastOf, regs2, ← last_con t (i + 1) (reg1 i o s)]
    congr 1
    unfold reg1
    rcases Nat.mod_two_eq_zero_or_one i with h | h
    · rw [h]; simp [cIr]
    · rw [h]; simp [cIr]
theorem last_wL (n : Nat) (ops : List Int) : lastOf (foldL (wL n ops)) 0 = (regs2 0 ops (n, 7)).2 := by
  rw [fold_wL, lastOf, lastOf]
  exact last_con ops 0 (n, 7)
theorem lastOf_snoc : ∀ (l : List Ir) (x : Ir) (v : Nat), lastOf (l ++ [x]) v = if x.kind = 1 ∧ x.d = 1 then x.n else lastOf l v
  | [], _, _ => rfl
  | y :: l, x, v => by rw [List.cons_append, lastOf, lastOf_snoc l x]; rfl
theorem run_bins {c : Co} : ∀ (ops : List Int) (j : Nat) (s : Nat × Nat) (k f left : Nat), c.l.drop k = binL j ops ++ [retX] → ops.length + 1 ≤ left → ops.length + 2 ≤ f →
    ∃ fr, runF [c] f 0 c ⟨[s.1, s.2], [], k, false, 0⟩ ⟨left, [], 0⟩ = (fr, ⟨left - (ops.length + 1), [], 0⟩) ∧ fr.result = (regs2 j ops s).2 ∧ fr.cells = []
  | [], j, s, k, f, left, hd, hl, hf => by
    obtain ⟨f, rfl⟩ : ∃ g, f = g + 2 := ⟨f - 2, by simp at hf; omega⟩
    have hg : c.l.getD k noIr = retX := by
      have := congrArg (fun l : List Ir => l[0]?) hd
      simp only [List.getElem?_drop, Nat.add_zero] at this
      rw [List.getD_eq_getElem?_getD, this]; rfl
    rw [runF_succ, if_neg (by simp)]
    show ∃ fr, runF [c] (f + 1) 0 c (stepR [c] (runF [c] (f + 1)) 0 (c.l.getD k noIr) _ _).1 (stepR [c] (runF [c] (f + 1)) 0 (c.l.getD k noIr) _ _).2 = _ ∧ _
    rw [hg]
    unfold stepR
    rw [if_neg (show ¬ left = 0 by simp at hl; omega), doIr_10 (by intro m h1 h2 e; have : (10 : Int) = m := e; omega)]
    rw [runF_stop _ _ _ _ _ _ (.inl rfl)]
    exact ⟨_, rfl, rfl, rfl⟩
  | o :: t, j, s, k, f, left, hd, hl, hf => by
    simp only [List.length_cons] at hl hf
    obtain ⟨f, rfl⟩ : ∃ g, f = g + 1 := ⟨f - 1, by omega⟩
    have hg : c.l.getD k noIr = binX j o := by
      have := congrArg (fun l : List Ir => l[0]?) hd
      simp only [List.getElem?_drop, Nat.add_zero] at this
      rw [List.getD_eq_getElem?_getD, this]; rfl
    have hd2 : c.l.drop (k + 1) = binL (j + 1) t ++ [retX] := by
      have := congrArg List.tail hd
      rw [List.tail_drop] at this
      exact this
    rw [runF_succ, if_neg (by simp)]
    show ∃ fr, runF [c] f 0 c (stepR [c] (runF [c] f) 0 (c.l.getD k noIr) _ _).1 (stepR [c] (runF [c] f) 0 (c.l.getD k noIr) _ _).2 = _ ∧ _
    rw [hg]
    unfold stepR
    rw [if_neg (show ¬ left = 0 by omega), doIr_3 rfl]
    have e : ([s.1, s.2] : List Nat).set (binX j o).d.toNat (opz (binX j o).op (at0 [s.1, s.2] (binX j o).a : Int) (at0 [s.1, s.2] (binX j o).b : Int)).toNat = [(reg1 j o s).1, (reg1 j o s).2] := by
      show ([s.1, s.2] : List Nat).set (((j % 2 : Nat) : Int)).toNat (opz o (s.1 : Int) (s.2 : Int)).toNat = _
      unfold reg1
      rcases Nat.mod_two_eq_zero_or_one j with h | h
      · rw [h]; simp
      · rw [h]; simp
    obtain ⟨fr, h1, h2, h3⟩ := run_bins t (j + 1) (reg1 j o s) (k + 1) f (left - 1) hd2 (by omega) (by omega)
    refine ⟨fr, ?_, h2, h3⟩
    simp only [e]
    rw [h1]
    simp only [List.length_cons]
    rw [show left - 1 - (t.length + 1) = left - (t.length + 1 + 1) by omega]
theorem run_wC {n : Nat} {ops : List Int} (ho : ∀ o ∈ ops, 1 ≤ o ∧ o ≤ 10) (hl : ops.length ≤ 200) : runR [wC n ops] [97, 46, 102] [] = ((regs2 0 ops (n, 7)).2, [], [], 0) := by
  have hr : (([wC n ops] : List Co).all fun c => decide ((rightR c).1 = 0)) = true := by rw [List.all_cons, right_wC ho hl]; rfl
  have hlk : look [wC n ops] [97, 46, 102] = some (wC n ops) := rfl
  have hs : startF (wC n ops) [] = ⟨[0, 0], [], 0, false, 0⟩ := rfl
  have hn : ((([] : List Nat).length : Nat) : Int) = wordsN (wC n ops).ps + cellsN (wC n ops).ps := rfl
  have e1 : ∀ g, stepR [wC n ops] (runF [wC n ops] g) 0 ((wC n ops).l.getD 0 noIr) ⟨[0, 0], [], 0, false, 0⟩ ⟨60000, [], 0⟩ = (⟨[n, 0], [], 1, false, 0⟩, ⟨59999, [], 0⟩) := fun g => by
    show stepR _ _ _ (cIr 0 n) _ _ = _
    rw [stepR, if_neg (by decide), doIr_1 rfl]; rfl
  have e2 : ∀ g, stepR [wC n ops] (runF [wC n ops] g) 0 ((wC n ops).l.getD 1 noIr) ⟨[n, 0], [], 1, false, 0⟩ ⟨59999, [], 0⟩ = (⟨[n, 7], [], 2, false, 0⟩, ⟨59998, [], 0⟩) := fun g => by
    show stepR _ _ _ (cIr 1 7) _ _ = _
    rw [stepR, if_neg (by decide), doIr_1 rfl]; rfl
  obtain ⟨fr, h1, h2, h3⟩ := run_bins (c := wC n ops) ops 0 (n, 7) 2 59999 59998 rfl (by omega) (by omega)
  have hrun : runF [wC n ops] 60001 0 (wC n ops) ⟨[0, 0], [], 0, false, 0⟩ ⟨60000, [], 0⟩ = (fr, ⟨59998 - (ops.length + 1), [], 0⟩) := by
    rw [show (60001 : Nat) = 59999 + 1 + 1 from rfl, runF_succ, if_neg (by simp)]
    simp only [e1]
    rw [runF_succ, if_neg (by simp)]
    simp only [e2]
    exact h1
  unfold runR
  rw [hr, if_neg (show ¬ (true = false) by decide), if_pos (by simp), hlk]
  simp only
  rw [if_neg (fun e => e hn), hs, hrun]
  simp [h2, h3]
end Go.Proofs.Ytclajapdbphlbaa
/- HEAP FACTS of FoldWhole: the function that is written out, in its box. -/
namespace Go.Proofs.Ytclajapdbphlbaa
open Go.ChangeShapes Go.WideShapes Go.ChangeAt Go.RowKit

/-- At a step of a region that draws its order. -/
theorem step_append_big {e t tx : TypeId} {size bytes : Nat} {z : Value} (hinfo : (Try.prog.info? e).map (fun i => (i.zero, i.size, i.bytes)) = some (some z, size, bytes)) (hzc : z.cells.size = size) (ht : Try.prog.underlying t = some (.slice e)) (hby : bytes ≤ 128) {ops : Array Oper} {o : Oper} {a : Act} {w : World} {K : Act → World → Prop} {Q : Exit → Act → World → Prop} {E : Prop} (hgd : o.guard = none) (s x : Operand)
    (ho : o.op = .call { callee := .builtin .append, args := #[s, x], argTypes := #[t, tx] }) (base : Nat) (v : Value) (n : Nat) (xs : List Value) (hs : a.eval s = v) (hown : w.ownsRow base e size v n xs)
    (u : Value) (m : Nat) (news : List Value) (hx : a.eval x = u) (hsrc : Src Try.prog size tx u m news w) (hlen : n + m ≤ 1000000000) (hbase : base ≤ w.heap.size)
    (h : ∀ y c w', w'.ownsRow base e size (.slice y (n + m) c) (n + m) (xs ++ news) → w.grownBy w' v.ownBlock → ((Value.slice y (n + m) c).ownBlock = v.ownBlock ∨ (Value.slice y (n + m) c).ownBlock = some w.heap.size) → K (a.put o.dst (.slice y (n + m) c)) w') :
    if Region.wanted o (yielded ops a.tmps) = true then Oper.wp Try.prog o a w K Q else E := by
  have hw : Region.wanted o (yielded ops a.tmps) = true := by simp [Region.wanted, hgd]
  rw [if_pos hw]
  obtain ⟨y, c, w', hr, h2, h3, h4⟩ := run_append_big hinfo hzc ht hby w o.type base v n xs hown u m news hsrc hlen hbase
  unfold Oper.wp execOp
  simp only [ho, resolve, invoke, builtin, Sem.run_bind, Sem.run_pure, Result.andThen_ok, List.map_toArray, List.map_cons, List.map_nil, hs, hx, hr]
  exact h y c w' h2 h3 h4

abbrev boxW (v : Value) : Obj := .cells #[.string ⟨#[97, 46, 102]⟩, .slice none 0 0, .int .i64 2, .int .i64 0, v] 25
abbrev irsW (n : Nat) : Obj := .cells #[.int .i64 1, .int .i64 0, .int .i64 0, .int .i64 0, .int .i64 0, .int .i64 0, .int .u32 (n : Int), .string ⟨#[]⟩, .slice none 0 0, .int .i64 1, .int .i64 0, .int .i64 1, .int .i64 0, .int .i64 0, .int .i64 0, .int .u32 7, .string ⟨#[]⟩, .slice none 0 0] 36
/-- What is written so far: the row is the call's own, and apart from the box. -/
structure WA (w : World) (m : Nat) (o : List Ir) (x : Option Addr) (c : Nat) (wr : World) : Prop where
  len : o.length = m
  out : kIr.own 36 wr (fun _ => False) w.heap.size (.slice x m c) o
  box : wr.heap[w.heap.size + 1]? = some (boxW (.slice x m c))
  apart : (Value.slice x m c).ownBlock ≠ some (w.heap.size + 1)
  below : Below w.heap.size w wr
theorem WA.start (w : World) (n : Nat) (hn : n < 4294967296) : WA w 2 [cIr 0 n, cIr 1 7] (some ⟨w.heap.size, 0, none⟩) 2 ((w.alloc (irsW n)).alloc (boxW (.slice (some ⟨w.heap.size, 0, none⟩) 2 2))) := by
  obtain ⟨h1, h2, h3, h4⟩ := two_box' w (irsW n) (boxW (.slice (some ⟨w.heap.size, 0, none⟩) 2 2))
  refine ⟨rfl, ⟨irsCells [cIr 0 n, cIr 1 7], ⟨rfl, .inr ⟨w.heap.size, 2, _, rfl, Nat.le_refl _, h1, Nat.le_refl _, by decide, rfl, rfl⟩⟩, irs_lay ?_⟩, h2, ?_, h3⟩
  · intro x hx
    simp at hx
    rcases hx with rfl | rfl
    · exact ⟨rfl, hn⟩
    · exact ⟨rfl, by decide⟩
  · intro e
    have : w.heap.size = w.heap.size + 1 := Option.some.inj e
    omega
theorem WA.grown {w w0 w1 wr : World} {m : Nat} {o : List Ir} {x : Option Addr} {c : Nat} (h : WA w m o x c wr) (hk : Kept (fun _ => False) wr w0) (hg : w0.grownBy w1 (Value.slice x m c).ownBlock) :
    w1.heap[w.heap.size + 1]? = some (boxW (.slice x m c)) ∧ ∀ b, b < w.heap.size → w1.heap[b]? = w.heap[b]? := by
  have hlv : ∀ g, (Value.slice x m c).ownBlock = some g → w.heap.size ≤ g := fun g hg => (kIr.own_lt h.out g hg).1
  have hb := lt_of_some h.box
  have hs := hk.size
  have hsw := h.below.size
  refine ⟨(hg.block _ (by omega) h.apart.symm).trans ((hk.block _ hb (fun e => e)).trans h.box), fun b hlt => (hg.block _ (by omega) ?_).trans ((hk.block _ (by omega) (fun e => e)).trans (h.below.block b hlt))⟩
  intro e
  have := hlv _ e.symm
  omega
theorem WA.push {w w0 w1 wr : World} {m : Nat} {o : List Ir} {x y : Option Addr} {c c1 : Nat} {cs : List Value} {z : Ir} (h : WA w m o x c wr) (hk : Kept (fun _ => False) wr w0) (hcs : kIr.lay wr (fun _ => False) cs o)
    (hown1 : w1.ownsRow w.heap.size 36 9 (.slice y (m + 1) c1) (m + 1) (cs ++ irCells z none 0)) (hg : w0.grownBy w1 (Value.slice x m c).ownBlock) (hat : (Value.slice y (m + 1) c1).ownBlock = (Value.slice x m c).ownBlock ∨ (Value.slice y (m + 1) c1).ownBlock = some w0.heap.size) (hz : z.args = []) (hzn : z.n < 4294967296) :
    WA w (m + 1) (o ++ [z]) y c1 (w1.setCell ⟨w.heap.size + 1, 4, none⟩ (.slice y (m + 1) c1)) := by
  have hlv : ∀ g, (Value.slice x m c).ownBlock = some g → w.heap.size ≤ g := fun g hg => (kIr.own_lt h.out g hg).1
  have hb := lt_of_some h.box
  have hs := hk.size
  have hne : (Value.slice y (m + 1) c1).ownBlock ≠ some (w.heap.size + 1) := fun e => by
    rcases hat with e1 | e1
    · exact h.apart (e1 ▸ e)
    · rw [e1] at e; have := Option.some.inj e; omega
  have hset := Kept.set w1 (w.heap.size + 1) 4 (.slice y (m + 1) c1)
  have hk1 : Kept (fun j => (Value.slice x m c).ownBlock = some j) wr w1 := (hk.mono fun _ _ e => e.elim).trans (Kept.of_grown hg)
  refine ⟨by simp [h.len], ⟨cs ++ irCells z none 0, ?_, kIr.lay_snoc ⟨none, 0, rfl, by rw [hz]; exact Nat.le_refl _, hzn, by rw [hz]; trivial⟩ (kIr.lay_mono hcs fun _ e => e.elim)⟩, ?_, hne, ?_⟩
  · rw [show (o ++ [z]).length = m + 1 by simp [h.len]]
    exact own_kept hown1 hset fun g hg e => hne (by rw [hg, e])
  · rw [setCell_at (h.grown hk hg).1]; rfl
  · refine Kept.to_below (((Below.kept h.below (fun i => w.heap.size ≤ i)).trans (hk1.mono fun i _ e => hlv i e)).trans (hset.mono fun i _ e => ?_)) fun _ hi => hi
    omega
theorem WA.cells {w wr : World} {m : Nat} {o : List Ir} {x : Option Addr} {c : Nat} (h : WA w m o x c wr) : ∃ cs, wr.ownsRow w.heap.size 36 9 (.slice x m c) m cs ∧ kIr.lay wr (fun _ => False) cs o := by
  obtain ⟨cs, h1, h2⟩ := h.out
  exact ⟨cs, by rw [← h.len]; rw [← h.len] at h1; exact h1, h2⟩
theorem src_at {w0 : World} {g : Nat} {z : Ir} (h : w0.heap[g]? = some (.cells (irCells z none 0).toArray 36)) : Src Try.prog 9 23 (.slice (some ⟨g, 0, none⟩) 1 1) 1 (irCells z none 0) w0 :=
  Src.ofSlice _ Try.underlying23 ⟨g, 0, none⟩ 1 1 (irCells z none 0) rfl (World.news_of_block (cs := (irCells z none 0).toArray) (t := 36) (fr := (0, 0)) h) (by simp [irCells, Value.oneCell'])
end Go.Proofs.Ytclajapdbphlbaa
/- CONTRACTS that FoldWhole calls, at the function that it writes. -/
namespace Go.Proofs.Ytclajapdbphlbaa
open Go.ChangeShapes Go.WideShapes Go.ChangeAt Go.RowKit

theorem wC_ok (n : Nat) (l : List Int) : CoOk (wC n l) := ⟨by show (3 : Nat) ≤ 1000000000; decide, fun z hz => by
  rcases wL_mem hz with rfl | rfl | rfl | ⟨j, o, _, rfl⟩ <;> exact ⟨Nat.zero_le _, Nat.zero_le _⟩⟩
theorem wC_len (n : Nat) (l : List Int) : (wC n l).l.length = 2 + l.length + 1 := by
  have := wL_len n l
  show (wL n l).length = _
  omega
theorem wF_len (n : Nat) (l : List Int) : (foldC (wC n l)).l.length = 2 + l.length + 1 := (foldL_len _).trans (wC_len n l)
theorem wC_in {w : World} {n : Nat} {l : List Int} {y : Option Addr} {c1 : Nat} (hr : kIr.row w (fun _ => True) y (wL n l)) (hc : (wL n l).length ≤ c1) : CoIn w (fun _ => True) (wC n l) none 0 y c1 := ⟨Nat.le_refl _, hc, trivial, hr⟩
theorem wC_fold {B : Nat} {w : World} {n : Nat} {l : List Int} {y : Option Addr} {c1 : Nat} (ho : ∀ o ∈ l, 1 ≤ o ∧ o ≤ 10) (hl : l.length ≤ 200) (hg : Glob B w) (hr : kIr.row w (fun _ => True) y (wL n l)) (hc : (wL n l).length ≤ c1) :
    Calls Try.prog 12 #[.agg #[.string ⟨#[97, 46, 102]⟩, .slice none 0 0, .int .i64 2, .int .i64 0, .slice y (2 + l.length + 1) c1]] w fun e w' => ∃ qa qc ra rc, e = .returned (.tuple #[.agg #[.string ⟨#[97, 46, 102]⟩, .slice qa 0 qc, .int .i64 2, .int .i64 0, .slice ra (2 + l.length + 1) rc], .int .i64 0]) ∧ kIr.row w' (fun _ => True) ra (foldL (wL n l)) ∧ Below w.heap.size w w' := by
  have h := fold_yes (wC n l) none 0 y c1 w (wC_in hr hc) (wC_ok n l) hg (by rw [right_wC ho hl])
  rw [wC_len] at h
  refine h.mono fun e w' hh => ?_
  obtain ⟨qa, qc, ra, rc, rfl, h1, h2⟩ := hh
  exact ⟨qa, qc, ra, rc, rfl, h1.l, h2⟩
theorem wC_known {w : World} {n : Nat} {l : List Int} {qa ra : Option Addr} {qc rc : Nat} (hl : l.length ≤ 200) (hr : kIr.row w (fun _ => True) ra (foldL (wL n l))) :
    Calls Try.prog 15 #[.agg #[.string ⟨#[97, 46, 102]⟩, .slice qa 0 qc, .int .i64 2, .int .i64 0, .slice ra (2 + l.length + 1) rc]] w fun e w' => e = .returned (.int .i64 ((l.length : Int) + 2)) ∧ Below w.heap.size w w' := by
  have h := known_any (foldC (wC n l)) qa qc ra rc w hr (by rw [wF_len]; omega)
  rw [wF_len] at h
  refine h.mono fun e w' hh => ?_
  obtain ⟨rfl, hb⟩ := hh
  refine ⟨?_, hb⟩
  have e : cnt (foldC (wC n l)).l = l.length + 2 := cnt_wL n l
  rw [e, Int.natCast_add]
  rfl
theorem wC_run {B : Nat} {w : World} {b n : Nat} {l : List Int} {y : Option Addr} {c1 : Nat} (ho : ∀ o ∈ l, 1 ≤ o ∧ o ≤ 10) (hl : l.length ≤ 200) (hg : Glob B w) (h : w.heap[b]? = some (boxW (.slice y (2 + l.length + 1) c1))) (hr : kIr.row w (fun _ => True) y (wL n l)) (hc : (wL n l).length ≤ c1) :
    Calls Try.prog 16 #[.slice (some ⟨b, 0, none⟩) 1 1, .string ⟨#[97, 46, 102]⟩, .slice none 0 0] w fun e w' => ∃ ya yc ba bc, e = .returned (.tuple #[.agg #[.int .u32 ((regs2 0 l (n, 7)).2 : Int), .slice ya 0 yc], .slice ba 0 bc, .int .i64 0]) ∧ Below w.heap.size w w' := by
  have hO : coO (wC n l) none 0 y c1 = boxW (.slice y (2 + l.length + 1) c1) := by
    show Obj.cells #[_, _, _, _, .slice y (wC n l).l.length c1] _ _ = _
    rw [wC_len]
    rfl
  have hrow : kCo.row w (fun _ => True) (some ⟨b, 0, none⟩) [wC n l] := co_oneG (wC_in hr hc) trivial (by rw [hO]; exact h)
  have hr := run_any (S' := fun _ => True) (some ⟨b, 0, none⟩) [wC n l] 1 [97, 46, 102] none [] 0 w hrow (fun c h => by rw [List.mem_singleton] at h; rw [h]; exact wC_ok n l) (by show (1 : Nat) ≤ 1000000; decide) hg (by decide) trivial (Nat.le_refl _)
  rw [run_wC ho hl] at hr
  refine hr.mono fun e w' hh => ?_
  obtain ⟨ya, yc, ba, bc, rfl, _, _, _, _, hb⟩ := hh
  exact ⟨ya, yc, ba, bc, rfl, hb⟩
end Go.Proofs.Ytclajapdbphlbaa
