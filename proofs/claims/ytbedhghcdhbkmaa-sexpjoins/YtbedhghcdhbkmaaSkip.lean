/- WHAT THE MACHINE DOES with blanks, words, brackets; the contract of carlingref02.skip. -/
import Derived.Test.YtbedhghcdhbkmaaBytes
namespace Go.Proofs.Ytbedhghcdhbkmaa
open Go.ChangeShapes Go.WideShapes Go.ChangeAt Go.RowKit

theorem drop_at (s : ByteArray) (p : Nat) (h : p < s.size) : s.data.toList.drop p = s[p] :: s.data.toList.drop (p + 1) := by
  rw [List.drop_eq_getElem_cons (by simpa using h)]; rfl
theorem drop_out (s : ByteArray) (p : Nat) (h : ¬ p < s.size) : s.data.toList.drop p = [] := List.drop_of_length_le (by have : s.data.toList.length = s.size := rfl; omega)

theorem run_note {b : UInt8} {r : List UInt8} {p : Nat} {st : St} : run (b :: r) p true st = run r (p + 1) (b != 10) st := rfl

theorem blank_step {b : UInt8} {r : List UInt8} {p : Nat} {t : Fr} {rs : List Fr} (h : b = 9 ∨ b = 10 ∨ b = 13 ∨ b = 32) : run (b :: r) p false ⟨[], t, rs⟩ = run r (p + 1) false ⟨[], t, rs⟩ := by
  have ht : (St.mk [] t rs).take p b = .ok ⟨[], t, rs⟩ := by rcases h with rfl | rfl | rfl | rfl <;> rfl
  have h59 : (b == 59) = false := by rcases h with rfl | rfl | rfl | rfl <;> rfl
  rw [run_ok ht, h59]
theorem semi_step {r : List UInt8} {p : Nat} {t : Fr} {rs : List Fr} : run (59 :: r) p false ⟨[], t, rs⟩ = run r (p + 1) true ⟨[], t, rs⟩ := rfl
theorem note_step {b : UInt8} {r : List UInt8} {p : Nat} {st : St} (h : b ≠ 10) : run (b :: r) p true st = run r (p + 1) true st := by
  have : (b != 10) = true := by simpa using h
  rw [run_note, this]
theorem note_nl {r : List UInt8} {p : Nat} {t : Fr} {rs : List Fr} : run (10 :: r) p true ⟨[], t, rs⟩ = run (10 :: r) p false ⟨[], t, rs⟩ := rfl
theorem note_end {p : Nat} {st : St} : run [] p true st = run [] p false st := rfl

/-- How many bytes of blanks stand ahead (n: within a note). -/
def skipL : Bool → List UInt8 → Nat
  | _, [] => 0
  | true, b :: r => 1 + skipL (b != 10) r
  | false, b :: r => if b = 59 then 1 + skipL true r else if b = 9 ∨ b = 10 ∨ b = 13 ∨ b = 32 then 1 + skipL false r else 0

theorem skip_le : ∀ (l : List UInt8) (n : Bool), skipL n l ≤ l.length
  | [], n => by cases n <;> exact Nat.le_refl _
  | b :: r, true => by have := skip_le r (b != 10); simp only [skipL, List.length_cons]; omega
  | b :: r, false => by
    have h1 := skip_le r true
    have h2 := skip_le r false
    simp only [skipL, List.length_cons]
    split
    · omega
    · split <;> omega

theorem skip_run : ∀ (l : List UInt8) (n : Bool) (p : Nat) (t : Fr) (rs : List Fr), run l p n ⟨[], t, rs⟩ = run (l.drop (skipL n l)) (p + skipL n l) false ⟨[], t, rs⟩
  | [], n, p, t, rs => by cases n <;> rfl
  | b :: r, true, p, t, rs => by
    rw [run_note, skip_run r (b != 10) (p + 1) t rs]
    have e : skipL true (b :: r) = skipL (b != 10) r + 1 := by simp only [skipL]; omega
    rw [e, List.drop_succ_cons, show p + (skipL (b != 10) r + 1) = p + 1 + skipL (b != 10) r by omega]
  | b :: r, false, p, t, rs => by
    by_cases h59 : b = 59
    · subst h59
      have e : skipL false (59 :: r) = skipL true r + 1 := by simp only [skipL]; rw [if_pos trivial]; omega
      rw [semi_step, skip_run r true (p + 1) t rs, e, List.drop_succ_cons, show p + (skipL true r + 1) = p + 1 + skipL true r by omega]
    · by_cases hb : b = 9 ∨ b = 10 ∨ b = 13 ∨ b = 32
      · have e : skipL false (b :: r) = skipL false r + 1 := by simp only [skipL]; rw [if_neg h59, if_pos hb]; omega
        rw [blank_step hb, skip_run r false (p + 1) t rs, e, List.drop_succ_cons, show p + (skipL false r + 1) = p + 1 + skipL false r by omega]
      · have e : skipL false (b :: r) = 0 := by simp only [skipL]; rw [if_neg h59, if_neg hb]
        rw [e]; rfl

def blankB (b : UInt8) : Bool := b == 9 || b == 10 || b == 13 || b == 32 || b == 59

theorem skip_stop : ∀ (l : List UInt8) (n : Bool) (b : UInt8) (r : List UInt8), l.drop (skipL n l) = b :: r → blankB b = false
  | [], n, b, r, h => by cases n <;> cases h
  | c :: l, true, b, r, h => by
    have e : skipL true (c :: l) = skipL (c != 10) l + 1 := by simp only [skipL]; omega
    rw [e, List.drop_succ_cons] at h
    exact skip_stop l _ b r h
  | c :: l, false, b, r, h => by
    by_cases h59 : c = 59
    · have e : skipL false (c :: l) = skipL true l + 1 := by simp only [skipL]; rw [if_pos h59]; omega
      rw [e, List.drop_succ_cons] at h
      exact skip_stop l _ b r h
    · by_cases hb : c = 9 ∨ c = 10 ∨ c = 13 ∨ c = 32
      · have e : skipL false (c :: l) = skipL false l + 1 := by simp only [skipL]; rw [if_neg h59, if_pos hb]; omega
        rw [e, List.drop_succ_cons] at h
        exact skip_stop l _ b r h
      · have e : skipL false (c :: l) = 0 := by simp only [skipL]; rw [if_neg h59, if_neg hb]
        rw [e] at h
        cases h
        unfold blankB
        simp only [Bool.or_eq_false_iff, beq_eq_false_iff_ne]
        exact ⟨⟨⟨⟨fun e => hb (.inl e), fun e => hb (.inr (.inl e))⟩, fun e => hb (.inr (.inr (.inl e)))⟩, fun e => hb (.inr (.inr (.inr e)))⟩, h59⟩

def skipTo (s : ByteArray) (n : Bool) (a : Nat) : Nat := a + skipL n (s.data.toList.drop a)

theorem skipTo_le (s : ByteArray) (n : Bool) (a : Nat) (h : a ≤ s.size) : a ≤ skipTo s n a ∧ skipTo s n a ≤ s.size := by
  have := skip_le (s.data.toList.drop a) n
  have hl : s.data.toList.length = s.size := rfl
  rw [List.length_drop, hl] at this
  unfold skipTo
  omega
theorem skipTo_note (s : ByteArray) (a : Nat) (h : a < s.size) : skipTo s true a = skipTo s (s[a] != 10) (a + 1) := by
  unfold skipTo
  rw [drop_at s a h]
  simp only [skipL]
  omega
theorem skipTo_semi (s : ByteArray) (a : Nat) (h : a < s.size) (hx : s[a] = 59) : skipTo s false a = skipTo s true (a + 1) := by
  unfold skipTo
  rw [drop_at s a h]
  simp only [skipL]
  rw [if_pos hx]
  omega
theorem skipTo_blank (s : ByteArray) (a : Nat) (h : a < s.size) (hx : s[a] = 9 ∨ s[a] = 10 ∨ s[a] = 13 ∨ s[a] = 32) : skipTo s false a = skipTo s false (a + 1) := by
  have h59 : s[a] ≠ 59 := by rcases hx with h | h | h | h <;> rw [h] <;> decide
  unfold skipTo
  rw [drop_at s a h]
  simp only [skipL]
  rw [if_neg h59, if_pos hx]
  omega
theorem skipTo_stay (s : ByteArray) (a : Nat) (h : a < s.size) (hx : blankB s[a] = false) : skipTo s false a = a := by
  unfold blankB at hx
  simp only [Bool.or_eq_false_iff, beq_eq_false_iff_ne] at hx
  obtain ⟨⟨⟨⟨h9, h10⟩, h13⟩, h32⟩, h59⟩ := hx
  unfold skipTo
  rw [drop_at s a h]
  simp only [skipL]
  rw [if_neg h59, if_neg (by rintro (h | h | h | h) <;> contradiction)]
  rfl
theorem skipTo_end (s : ByteArray) (n : Bool) (a : Nat) (h : ¬ a < s.size) : skipTo s n a = a := by
  unfold skipTo
  rw [drop_out s a h]
  cases n <;> rfl
theorem skipTo_nl (s : ByteArray) (a : Nat) (h : a < s.size) (hx : s[a] = 10) : skipTo s true a = skipTo s false a := by
  rw [skipTo_note s a h, skipTo_blank s a h (.inr (.inl hx)), hx]; rfl

theorem ret_int {k : IntKind} {a b : Int} (h : a = b) : Ending.returned (.int k a) = .returned (.int k b) := by rw [h]

theorem byte_is {b : UInt8} (c : UInt8) : ((b.toNat : Int) = (c.toNat : Int)) ↔ b = c := by rw [← UInt8.toNat_inj]; omega
theorem beq_byte (b c : UInt8) : ((b.toNat : Int) == (c.toNat : Int)) = (b == c) := by
  rw [Bool.eq_iff_iff]
  simp only [beq_iff_eq]
  exact byte_is c

set_option maxHeartbeats 1600000 in
theorem skip_any (s : ByteArray) (a : Nat) (w : World) (hs : s.size ≤ 20000) (ha : a ≤ s.size) : Calls Try.prog 30 #[.string s, .int .i64 a] w fun e w' => e = .returned (.int .i64 (skipTo s false a)) ∧ w' = w := by
  obtain ⟨Z, hZ⟩ : ∃ Z, skipTo s false a = Z := ⟨_, rfl⟩
  rw [hZ]
  go_enter Try.func30, Try.ntmps30
  go_wp2_with fail
  go_loop [1] (fun i => ∃ q : Nat, a ≤ q ∧ q ≤ s.size ∧ i = .int .i64 q ∧ skipTo s false q = Z) (fun i => s.size - (intOf i).toNat)
  case atStart => exact ⟨a, Nat.le_refl _, ha, rfl, hZ⟩
  case round =>
    obtain ⟨q, hq0, hq1, rfl, hps0⟩ := hrel
    have hps : Hid (skipTo s false q = Z) := hps0
    clear hps0 hZ
    by_cases hlt : q < s.size
    · by_cases h59 : s[q] = 59
      · have e59 : ((s[q].toNat : Int) == 59) = true := by rw [show (59 : Int) = ((59 : UInt8).toNat : Int) from rfl, beq_byte, h59]; rfl
        have e59' : (s[q].toNat : Int) = 59 := by simpa using e59
        go_wp2_with fail
        go_loop [1] (fun i => ∃ q' : Nat, q ≤ q' ∧ q' ≤ s.size ∧ i = .int .i64 q' ∧ (q < q' → skipTo s true q' = Z)) (fun i => s.size - (intOf i).toNat)
        case atStart => exact ⟨q, Nat.le_refl _, hq1, rfl, fun h => absurd h (Nat.lt_irrefl _)⟩
        case round =>
          obtain ⟨q', hq0', hq1', rfl, hnt⟩ := hrel
          have HN : Hid (q < q' → skipTo s true q' = Z) := hnt
          clear hnt
          by_cases hlt' : q' < s.size
          · by_cases h10 : s[q'] = 10
            · have e10 : ((s[q'].toNat : Int) != 10) = false := by rw [show (10 : Int) = ((10 : UInt8).toNat : Int) from rfl, bne, beq_byte, h10]; rfl
              have hqq : q < q' := by
                rcases Nat.lt_or_ge q q' with h | h
                · exact h
                · have : q' = q := by omega
                  subst this
                  rw [h59] at h10
                  exact absurd h10 (by decide)
              go_wp2_with fail
              go_round
              case rel => exact ⟨q', by omega, hq1', rfl, (skipTo_nl s q' hlt' h10).symm.trans (HN.out hqq)⟩
              case measure => simp [intOf]; omega
            · have e10 : ((s[q'].toNat : Int) != 10) = true := by rw [show (10 : Int) = ((10 : UInt8).toNat : Int) from rfl, bne, beq_byte]; simpa using h10
              go_wp2_with fail
              go_round
              case rel =>
                refine ⟨q' + 1, by omega, by omega, by go_num, fun _ => ?_⟩
                rcases Nat.lt_or_ge q q' with h | h
                · have e := (skipTo_note s q' hlt').symm.trans (HN.out h); rw [show (s[q'] != 10) = true by simpa using h10] at e; exact e
                · have : q' = q := by omega
                  subst this
                  exact (skipTo_semi s q' hlt h59).symm.trans hps.out
              case measure => simp [intOf]; omega
          · have hqq : q < q' := by omega
            go_wp2_with fail
            go_round
            case rel => exact ⟨q', by omega, hq1', rfl, (skipTo_end s false q' hlt').trans ((skipTo_end s true q' hlt').symm.trans (HN.out hqq))⟩
            case measure => simp [intOf]; omega
      · have e59 : ((s[q].toNat : Int) == 59) = false := by rw [show (59 : Int) = ((59 : UInt8).toNat : Int) from rfl, beq_byte]; simpa using h59
        by_cases hbl : s[q] = 9 ∨ s[q] = 10 ∨ s[q] = 13 ∨ s[q] = 32
        · have hb4 : Hid (skipTo s false (q + 1) = Z) := (skipTo_blank s q hlt hbl).symm.trans hps.out
          have c9 := beq_byte s[q] 9
          have c10 := beq_byte s[q] 10
          have c13 := beq_byte s[q] 13
          have c32 := beq_byte s[q] 32
          have hor : ((s[q].toNat : Int) == 9) = true ∨ (((s[q].toNat : Int) == 9) = false ∧ ((s[q].toNat : Int) == 10) = true) ∨ (((s[q].toNat : Int) == 9) = false ∧ ((s[q].toNat : Int) == 10) = false ∧ ((s[q].toNat : Int) == 13) = true) ∨
              (((s[q].toNat : Int) == 9) = false ∧ ((s[q].toNat : Int) == 10) = false ∧ ((s[q].toNat : Int) == 13) = false ∧ ((s[q].toNat : Int) == 32) = true) := by
            rcases hbl with h | h | h | h <;> rw [h] <;> simp
          clear c9 c10 c13 c32 hbl h59
          rcases hor with h9 | ⟨h9, h10⟩ | ⟨h9, h10, h13⟩ | ⟨h9, h10, h13, h32⟩
          all_goals
            go_wp2_with fail
            go_round
            case rel => exact ⟨q + 1, by omega, by omega, by go_num, hb4.out⟩
            case measure => simp [intOf]; omega
        · have hn : blankB s[q] = false := by
            unfold blankB
            simp only [Bool.or_eq_false_iff, beq_eq_false_iff_ne]
            refine ⟨⟨⟨⟨fun e => hbl (.inl e), fun e => hbl (.inr (.inl e))⟩, fun e => hbl (.inr (.inr (.inl e)))⟩, fun e => hbl (.inr (.inr (.inr e)))⟩, h59⟩
          have h9 : ((s[q].toNat : Int) == 9) = false := by rw [show (9 : Int) = ((9 : UInt8).toNat : Int) from rfl, beq_byte]; simpa using fun e => hbl (.inl e)
          have h10 : ((s[q].toNat : Int) == 10) = false := by rw [show (10 : Int) = ((10 : UInt8).toNat : Int) from rfl, beq_byte]; simpa using fun e => hbl (.inr (.inl e))
          have h13 : ((s[q].toNat : Int) == 13) = false := by rw [show (13 : Int) = ((13 : UInt8).toNat : Int) from rfl, beq_byte]; simpa using fun e => hbl (.inr (.inr (.inl e)))
          have h32 : ((s[q].toNat : Int) == 32) = false := by rw [show (32 : Int) = ((32 : UInt8).toNat : Int) from rfl, beq_byte]; simpa using fun e => hbl (.inr (.inr (.inr e)))
          clear hbl h59
          go_wp2_with fail
          go_ret
          exact ⟨ret_int (by rw [← hps.out, skipTo_stay s q hlt hn]), rfl⟩
    · go_wp2_with fail
      go_ret
      exact ⟨ret_int (by rw [← hps.out, skipTo_end s false q hlt]), rfl⟩
end Go.Proofs.Ytbedhghcdhbkmaa
