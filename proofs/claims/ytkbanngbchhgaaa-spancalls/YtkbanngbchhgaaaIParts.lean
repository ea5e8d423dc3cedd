/- CONTRACTS of room, within, reads, writes. -/
import Derived.Test.YtkbanngbchhgaaaIData
namespace Go.Proofs.Ytkbanngbchhgaaa
open Go.ChangeShapes Go.WideShapes Go.ChangeAt Go.RowKit

theorem wordsN_append (l m : List Ty) : wordsN (l ++ m) = wordsN l + wordsN m := by
  induction l with
  | nil => simp [wordsN]
  | cons t l ih => simp only [List.cons_append, wordsN, ih]; omega
theorem cellsN_append (l m : List Ty) : cellsN (l ++ m) = cellsN l + cellsN m := by
  induction l with
  | nil => simp [cellsN]
  | cons t l ih => simp only [List.cons_append, cellsN, ih]; omega
theorem wordsN_take (l : List Ty) (k : Nat) (hk : k < l.length) : wordsN (l.take (k + 1)) = wordsN (l.take k) + (if l[k].len = 0 then 1 else 0) := by
  rw [List.take_add_one, List.getElem?_eq_getElem hk, wordsN_append]; simp [wordsN]
theorem cellsN_take (l : List Ty) (k : Nat) (hk : k < l.length) : cellsN (l.take (k + 1)) = cellsN (l.take k) + l[k].len := by
  rw [List.take_add_one, List.getElem?_eq_getElem hk, cellsN_append]; simp [cellsN]
theorem cellsN_bd : ∀ (l : List Ty), l.all tyOk = true → 0 ≤ cellsN l ∧ cellsN l ≤ 16 * l.length
  | [], _ => by simp [cellsN]
  | t :: l, h => by
    simp only [List.all_cons, Bool.and_eq_true, tyOk, decide_eq_true_eq] at h
    have := cellsN_bd l h.2
    simp only [cellsN, List.length_cons]; omega
theorem wordsN_bd : ∀ (l : List Ty), wordsN l ≤ l.length
  | [] => by simp [wordsN]
  | t :: l => by
    have := wordsN_bd l
    simp only [wordsN, List.length_cons]; split <;> omega
theorem all_take {l : List Ty} (h : l.all tyOk = true) (k : Nat) : (l.take k).all tyOk = true := by
  rw [List.all_eq_true] at h ⊢
  exact fun x hx => h x (List.mem_of_mem_take hx)

set_option maxRecDepth 100000 in
set_option maxHeartbeats 1000000 in
theorem room_any {S : Nat → Prop} (w : World) (a : Option Addr) (l : List Ty) (c : Nat) (h : kTy.row w S a l) (hok : l.all tyOk = true) (hl : l.length ≤ 1000000) :
    Calls Try.prog 35 #[.slice a l.length c] w fun e w' => e = .returned (.tuple #[.int .i64 (wordsN l : Nat), .int .i64 (cellsN l)]) ∧ Below w.heap.size w w' := by
  go_enter Try.func35, Try.ntmps35
  go_wp2
  go_loopw [2, 3, 8] (fun n m i wr => ∃ k : Nat, k ≤ l.length ∧ i = .int .i64 k ∧ n = .int .i64 (wordsN (l.take k) : Nat) ∧ m = .int .i64 (cellsN (l.take k)) ∧ Below w.heap.size w wr) (fun _ _ i _ => l.length - (intOf i).toNat)
  case atStart => exact ⟨0, Nat.zero_le _, rfl, rfl, rfl, Below.refl _ _⟩
  case round =>
    obtain ⟨k, hk, rfl, rfl, rfl, hbl⟩ := hrel
    have HB : Hid (Below w.heap.size w wr) := hbl
    by_cases hlt : k < l.length
    · obtain ⟨b, o, rfl, hS, hb, h0, h1⟩ := ty_at h k hlt
      have e0 := (hbl.cell (p := ⟨b, o + k * 2, none⟩) hb).trans h0
      have e1 := (hbl.cell (p := ⟨b, o + k * 2 + 1, none⟩) hb).trans h1
      have hty : tyOk l[k] = true := (List.all_eq_true.1 hok) _ (List.getElem_mem hlt)
      simp only [tyOk, Bool.and_eq_true, decide_eq_true_eq] at hty
      obtain ⟨t0, t1⟩ := hty
      have HW := wordsN_take l k hlt
      have HC := cellsN_take l k hlt
      have hw1 := wordsN_bd (l.take k)
      have hc1 := cellsN_bd (l.take k) (all_take hok k)
      have hlen : (l.take k).length ≤ k := by rw [List.length_take]; omega
      have hw2 : wordsN (l.take k) ≤ 1000000 := by omega
      have hc2 : 0 ≤ cellsN (l.take k) ∧ cellsN (l.take k) ≤ 16000000 := by omega
      generalize hgw : wordsN (l.take k) = nw at HW hw2
      generalize hgc : cellsN (l.take k) = nc at HC hc2
      have HW' : Hid _ := HW
      have HC' : Hid _ := HC
      obtain ⟨hc2a, hc2b⟩ := hc2
      generalize hgt : l[k].len = tl at e1 t0 t1 HW HC HW' HC'
      clear h0 h1 hbl HW HC hw1 hc1 hlen hgt
      by_cases hz : tl = 0
      · subst hz
        go_wp2_with fail
        go_roundw
        case rel => exact ⟨k + 1, by omega, by go_num, by rw [HW'.out]; simp, by rw [HC'.out]; simp, bl_alloc HB.out _⟩
        case measure => simp [intOf]; omega
      · have hz' : (tl == 0) = false := by simpa using hz
        go_wp2_with fail
        go_roundw
        case rel => exact ⟨k + 1, by omega, by go_num, by rw [HW'.out]; simp [hz], by rw [HC'.out], bl_alloc HB.out _⟩
        case measure => simp [intOf]; omega
    · obtain rfl : k = l.length := by omega
      rw [List.take_length] 
      go_wp2_with fail
      go_ret2
      exact ⟨rfl, HB.out⟩

theorem inB_drop (r : Int) (l : List Int) (k : Nat) (hk : k < l.length) : (l.drop k).all (inB r) = (inB r l[k] && (l.drop (k + 1)).all (inB r)) := by
  rw [List.drop_eq_getElem_cons hk, List.all_cons]
set_option maxRecDepth 100000 in
set_option maxHeartbeats 1000000 in
theorem within_any {S : Nat → Prop} (w : World) (a : Option Addr) (l : List Int) (c : Nat) (r : Int) (h : kInt.row w S a l) (hl : l.length ≤ 1000000) :
    Calls Try.prog 37 #[.slice a l.length c, .int .i64 r] w fun e w' => e = .returned (.bool (l.all (inB r))) ∧ w' = w := by
  go_enter Try.func37, Try.ntmps37
  go_wp2
  go_loop [9] (fun i => ∃ k : Nat, k ≤ l.length ∧ i = .int .i64 k ∧ l.all (inB r) = (l.drop k).all (inB r)) (fun i => l.length - (intOf i).toNat)
  case atStart => exact ⟨0, Nat.zero_le _, rfl, rfl⟩
  case round =>
    obtain ⟨k, hk, rfl, hq⟩ := hrel
    have HQ : Hid _ := hq
    clear hq
    by_cases hlt : k < l.length
    · obtain ⟨b, o, rfl, hS, hb, h0⟩ := int_at h k hlt
      have HD : Hid _ := inB_drop r l k hlt
      have HI : Hid (inB r l[k] = decide (0 ≤ l[k] ∧ l[k] < r)) := rfl
      generalize l[k] = x at h0 HD HI
      by_cases h1 : x < 0
      · go_wp2_with fail
        go_ret
        exact ⟨ret_bool (by rw [HQ.out, HD.out, HI.out]; simp; omega), rfl⟩
      · by_cases h2 : r ≤ x
        · go_wp2_with fail
          go_ret
          exact ⟨ret_bool (by rw [HQ.out, HD.out, HI.out]; simp; omega), rfl⟩
        · go_wp2_with fail
          go_round
          case rel => exact ⟨k + 1, by omega, by go_num, by rw [HQ.out, HD.out, HI.out]; simp; omega⟩
          case measure => simp [intOf]; omega
    · go_wp2_with fail
      go_ret
      exact ⟨ret_bool (by rw [HQ.out, List.drop_of_length_le (by omega)]; rfl), rfl⟩

/-- The value of an instruction. -/
def irV (x : Ir) (a : Option Addr) (c : Nat) : Value := .agg #[.int .i64 x.kind, .int .i64 x.op, .int .i64 x.d, .int .i64 x.a, .int .i64 x.b, .int .i64 x.c, .int .u32 (x.n : Int), .string (bs x.name), .slice a x.args.length c]
theorem writes_any (x : Ir) (a : Option Addr) (c : Nat) (w : World) :
    Calls Try.prog 39 #[irV x a c] w fun e w' => e = .returned (.bool (writesB x)) ∧ Below w.heap.size w w' := by
  obtain ⟨kd, op, d, xa, xb, xc, n, nm, ag⟩ := x
  unfold irV
  simp only [writesB]
  by_cases h1 : kd = 1
  · subst h1
    go_enter Try.func39, Try.ntmps39
    go_wp2
    go_ret
    exact ⟨rfl, bl_alloc (Below.refl _ _) _⟩
  by_cases h2 : kd = 2
  · subst h2
    go_enter Try.func39, Try.ntmps39
    go_wp2
    go_ret
    exact ⟨rfl, bl_alloc (Below.refl _ _) _⟩
  by_cases h3 : kd = 3
  · subst h3
    go_enter Try.func39, Try.ntmps39
    go_wp2
    go_ret
    exact ⟨rfl, bl_alloc (Below.refl _ _) _⟩
  by_cases h4 : kd = 4
  · subst h4
    go_enter Try.func39, Try.ntmps39
    go_wp2
    go_ret
    exact ⟨rfl, bl_alloc (Below.refl _ _) _⟩
  by_cases h5 : kd = 5
  · subst h5
    go_enter Try.func39, Try.ntmps39
    go_wp2
    go_ret
    exact ⟨rfl, bl_alloc (Below.refl _ _) _⟩
  by_cases h7 : kd = 7
  · subst h7
    go_enter Try.func39, Try.ntmps39
    go_wp2
    go_ret
    exact ⟨rfl, bl_alloc (Below.refl _ _) _⟩
  have g1 : (kd == 1) = false := by simpa using h1
  have g2 : (kd == 2) = false := by simpa using h2
  have g3 : (kd == 3) = false := by simpa using h3
  have g4 : (kd == 4) = false := by simpa using h4
  have g5 : (kd == 5) = false := by simpa using h5
  have g7 : (kd == 7) = false := by simpa using h7
  go_enter Try.func39, Try.ntmps39
  go_wp2
  go_ret
  exact ⟨ret_bool (by simp; omega), bl_alloc (Below.refl _ _) _⟩
/-- What reads tells: a slice that lies in new blocks or where the arguments lie. -/
def ReadsAt (w w' : World) (S : Nat → Prop) (v : Value) (l : List Int) : Prop := kInt.rd w' (fun b => S b ∨ w.heap.size ≤ b) v l
theorem ints_new {w : World} {b : Nat} {T : Nat → Prop} (hT : T b) : ∀ (l : List Int) (cs : Array Value) (t : TypeId) (f : Nat × Nat) (o : Nat), w.heap[b]? = some (.cells cs t f) → (∀ j (hj : j < l.length), cs[o + j]? = some (.int .i64 l[j])) → kInt.row w T (some ⟨b, o, none⟩) l
  | [], _, _, _, _, _, _ => trivial
  | x :: l, cs, t, f, o, hb, h => by
    refine ⟨b, o, [.int .i64 x], rfl, hT, fun j u hj => ?_, rfl, ints_new hT l cs t f (o + 1) hb fun j hj => ?_⟩
    · have h0 := h 0 (by simp)
      rcases j with _ | j
      · have : u = .int .i64 x := by simpa using hj.symm
        subst this
        simp [World.cell?, hb] at h0 ⊢
        exact h0
      · simp at hj
    · have := h (j + 1) (by simpa using hj)
      rw [show o + 1 + j = o + (j + 1) by omega]
      simpa using this
theorem new_ints {S : Nat → Prop} (w : World) (o1 : Obj) (l : List Int) (t : TypeId) : kInt.rd ((w.alloc o1).alloc (.cells (l.map (Value.int .i64)).toArray t)) (fun b => S b ∨ w.heap.size ≤ b) (.slice (some ⟨w.heap.size + 1, 0, none⟩) l.length l.length) l := by
  have hb : ((w.alloc o1).alloc (.cells (l.map (Value.int .i64)).toArray t)).heap[w.heap.size + 1]? = some (.cells (l.map (Value.int .i64)).toArray t) := by
    have := heap_alloc_new (w.alloc o1) (.cells (l.map (Value.int .i64)).toArray t)
    simpa using this
  exact ⟨_, _, rfl, ints_new (.inr (by omega)) l _ _ _ 0 hb (fun j hj => by simp [hj]), Nat.le_refl _⟩
set_option maxHeartbeats 1000000 in
theorem reads_any {S : Nat → Prop} (x : Ir) (a : Option Addr) (c : Nat) (w : World) (hr : kInt.row w S a x.args) (hc : x.args.length ≤ c) :
    Calls Try.prog 38 #[irV x a c] w fun e w' => (∃ v, e = .returned v ∧ ReadsAt w w' S v (readsL x)) ∧ Below w.heap.size w w' := by
  obtain ⟨kd, op, d, xa, xb, xc, n, nm, ag⟩ := x
  unfold irV
  simp only [readsL] at *
  by_cases h1 : kd = 2 ∨ kd = 6 ∨ kd = 9 ∨ kd = 10
  · rw [if_pos h1]
    rcases h1 with rfl | rfl | rfl | rfl
    all_goals
      go_enter Try.func38, Try.ntmps38
      go_wp2
      go_ret
      exact ⟨⟨_, rfl, new_ints w _ [xa] 3⟩, bl_alloc (bl_alloc (Below.refl _ _) _) _⟩
  rw [if_neg h1]
  have g2 : (kd == 2) = false := by simp; omega
  have g6 : (kd == 6) = false := by simp; omega
  have g9 : (kd == 9) = false := by simp; omega
  have g10 : (kd == 10) = false := by simp; omega
  by_cases h3 : kd = 3
  · rw [if_pos h3]
    subst h3
    go_enter Try.func38, Try.ntmps38
    go_wp2
    go_ret
    exact ⟨⟨_, rfl, new_ints w _ [xa, xb] 3⟩, bl_alloc (bl_alloc (Below.refl _ _) _) _⟩
  rw [if_neg h3]
  have g3 : (kd == 3) = false := by simpa using h3
  by_cases h4 : kd = 4
  · rw [if_pos h4]
    subst h4
    go_enter Try.func38, Try.ntmps38
    go_wp2
    go_ret
    exact ⟨⟨_, rfl, new_ints w _ [xa, xb, xc] 3⟩, bl_alloc (bl_alloc (Below.refl _ _) _) _⟩
  rw [if_neg h4]
  have g4 : (kd == 4) = false := by simpa using h4
  by_cases h7 : kd = 7
  · rw [if_pos h7]
    subst h7
    go_enter Try.func38, Try.ntmps38
    go_wp2
    go_ret
    exact ⟨⟨_, rfl, ⟨a, c, rfl, kInt.row_mono (by decide) hr fun b hb hlt => ⟨.inl hb, heap_alloc_old w _ hlt⟩, hc⟩⟩, bl_alloc (Below.refl _ _) _⟩
  rw [if_neg h7]
  have g7 : (kd == 7) = false := by simpa using h7
  go_enter Try.func38, Try.ntmps38
  go_wp2
  go_ret
  exact ⟨⟨_, rfl, ⟨none, 0, rfl, trivial, Nat.le_refl _⟩⟩, bl_alloc (Below.refl _ _) _⟩
end Go.Proofs.Ytkbanngbchhgaaa
