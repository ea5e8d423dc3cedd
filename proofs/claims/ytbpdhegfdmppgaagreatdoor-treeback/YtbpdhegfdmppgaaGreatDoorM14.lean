/- Texts of this proof, put together: Parse, LiesM. -/
import Derived.Test.YtbpdhegfdmppgaaGreatDoorM13
import Derived.WalkSmall
import Derived.Lib.OthersKept

/- THE CONTRACT of Parse: what it tells is what the machine of the plain mathematics tells, for every text. -/
namespace Go.Proofs.YtbpdhegfdmppgaaGreatDoor
open Go.ChangeShapes Go.WideShapes Go.ChangeAt Go.RowKit

theorem byte_eq {b : UInt8} {n : Nat} (hn : n < 256) (h : b.toNat = n) : b = UInt8.ofNat n := by
  rw [← UInt8.toNat_inj, h]
  simp
  omega

theorem take_any {F : Nat → Prop} {N m : Nat} {w : World} {st : St} {vw : Value} {row : Array Value} {vs : List Value} (p : Nat) (b : UInt8)
    (h : Inv F N m w st vw row vs) (hm : m ≤ 99999) (hp : p ≤ 100000) (hwp : st.word.length ≤ p) :
    Calls Tryz.prog 53 #[.int .i32 b.toNat, .int .i64 p, .pointer (some ⟨N, 0, none⟩), .pointer (some ⟨N + 4, 0, none⟩), .pointer (some ⟨N + 2, 0, none⟩), .pointer (some ⟨N + 3, 0, none⟩)] w fun e w' => KeptN N w w' ∧
      ((∃ e0, st.take p b = .error e0 ∧ e = .returned (.int .i64 e0)) ∨ (∃ st' F' vw' row' vs', st.take p b = .ok st' ∧ e = .returned (.int .i64 0) ∧ Inv F' N (m + 2) w' st' vw' row' vs')) := by
  by_cases hb : isPart b = true
  · refine (take_part p b h (by omega) hb).mono ?_
    rintro e w' ⟨rfl, hk, vw', row', vs', hI⟩
    exact ⟨hk, .inr ⟨_, F, vw', row', vs', by simp [St.take, hb], rfl, hI.up (by omega)⟩⟩
  · have hb' : isPart b = false := by simpa using hb
    have ht : st.take p b = (st.endWord p).act p b := by simp [St.take, hb']
    have hr : rPart (b.toNat : Int) = false := by rw [rPart_byte]; exact hb'
    by_cases h40 : b = 40
    · subst h40
      by_cases hd : 24 ≤ st.rest.length
      · refine (take_deep p h (by omega) hp hwp hd).mono ?_
        rintro e w' ⟨rfl, hk⟩
        exact ⟨hk, .inl ⟨4, by rw [ht]; simp [St.act, rest_endWord, hd], rfl⟩⟩
      · refine (take_open p h (by omega) hp hwp (by omega)).mono ?_
        rintro e w' ⟨rfl, hk, vw', row', vs', hI⟩
        exact ⟨hk, .inr ⟨_, F, vw', row', vs', by rw [ht]; unfold St.act; rw [if_pos rfl, if_neg (by rw [rest_endWord]; exact hd)], rfl, hI.up (by omega)⟩⟩
    · by_cases h41 : b = 41
      · subst h41
        cases hd : st.rest with
        | nil =>
          refine (take_none p h (by omega) hp hwp hd).mono ?_
          rintro e w' ⟨rfl, hk⟩
          exact ⟨hk, .inl ⟨3, by rw [ht]; simp [St.act, rest_endWord, hd], rfl⟩⟩
        | cons f r =>
          refine (take_close p f r h hm hp hwp hd).mono ?_
          rintro e w' ⟨rfl, hk, F', vw', row', vs', hI⟩
          exact ⟨hk, .inr ⟨_, F', vw', row', vs', by rw [ht]; simp [St.act, rest_endWord, hd], rfl, hI⟩⟩
      · by_cases hbl : b = 9 ∨ b = 10 ∨ b = 13 ∨ b = 32 ∨ b = 59
        · refine (take_blank p (b.toNat : Int) h (by omega) hp hwp (by rcases hbl with rfl | rfl | rfl | rfl | rfl <;> simp)).mono ?_
          rintro e w' ⟨rfl, hk, vw', row', vs', hI⟩
          exact ⟨hk, .inr ⟨_, F, vw', row', vs', by rw [ht]; simp [St.act, h40, h41, hbl], rfl, hI.up (by omega)⟩⟩
        · have ne : ∀ n : Nat, n < 256 → b ≠ UInt8.ofNat n → ((b.toNat : Int) == (n : Int)) = false := fun n hn hne => by
            rw [beq_eq_false_iff_ne]
            intro e
            exact hne (byte_eq hn (by omega))
          have hbl' : b ≠ 9 ∧ b ≠ 10 ∧ b ≠ 13 ∧ b ≠ 32 ∧ b ≠ 59 := ⟨fun e => hbl (.inl e), fun e => hbl (.inr (.inl e)), fun e => hbl (.inr (.inr (.inl e))), fun e => hbl (.inr (.inr (.inr (.inl e)))), fun e => hbl (.inr (.inr (.inr (.inr e))))⟩
          refine (take_bad p (b.toNat : Int) h (by omega) hp hwp hr (ne 40 (by omega) h40) (ne 41 (by omega) h41) (ne 9 (by omega) hbl'.1) (ne 10 (by omega) hbl'.2.1) (ne 13 (by omega) hbl'.2.2.1) (ne 32 (by omega) hbl'.2.2.2.1) (ne 59 (by omega) hbl'.2.2.2.2)).mono ?_
          rintro e w' ⟨rfl, hk⟩
          exact ⟨hk, .inl ⟨2, by rw [ht]; simp [St.act, h40, h41, hbl], rfl⟩⟩

theorem take_any_err {F : Nat → Prop} {N m : Nat} {w : World} {st : St} {vw : Value} {row : Array Value} {vs : List Value} (p : Nat) (b : UInt8) (e0 : Int)
    (h : Inv F N m w st vw row vs) (hm : m ≤ 99999) (hp : p ≤ 100000) (hwp : st.word.length ≤ p) (ht : st.take p b = .error e0) :
    Calls Tryz.prog 53 #[.int .i32 b.toNat, .int .i64 p, .pointer (some ⟨N, 0, none⟩), .pointer (some ⟨N + 4, 0, none⟩), .pointer (some ⟨N + 2, 0, none⟩), .pointer (some ⟨N + 3, 0, none⟩)] w fun e w' => e = .returned (.int .i64 e0) ∧ KeptN N w w' := by
  refine (take_any p b h hm hp hwp).mono ?_
  rintro e w' ⟨hk, ⟨e1, ht', rfl⟩ | ⟨st', F', vw', row', vs', ht', _⟩⟩
  · rw [ht] at ht'; cases ht'; exact ⟨rfl, hk⟩
  · rw [ht] at ht'; cases ht'

theorem take_any_ok {F : Nat → Prop} {N m : Nat} {w : World} {st st' : St} {vw : Value} {row : Array Value} {vs : List Value} (p : Nat) (b : UInt8)
    (h : Inv F N m w st vw row vs) (hm : m ≤ 99999) (hp : p ≤ 100000) (hwp : st.word.length ≤ p) (ht : st.take p b = .ok st') :
    Calls Tryz.prog 53 #[.int .i32 b.toNat, .int .i64 p, .pointer (some ⟨N, 0, none⟩), .pointer (some ⟨N + 4, 0, none⟩), .pointer (some ⟨N + 2, 0, none⟩), .pointer (some ⟨N + 3, 0, none⟩)] w fun e w' => e = .returned (.int .i64 0) ∧ KeptN N w w' ∧
      ∃ F' vw' row' vs', Inv F' N (m + 2) w' st' vw' row' vs' := by
  refine (take_any p b h hm hp hwp).mono ?_
  rintro e w' ⟨hk, ⟨e1, ht', rfl⟩ | ⟨st'', F', vw', row', vs', ht', rfl, hI⟩⟩
  · rw [ht] at ht'; cases ht'
  · rw [ht] at ht'; cases ht'; exact ⟨rfl, hk, F', vw', row', vs', hI⟩

theorem take_word {st st' : St} {p : Nat} {b : UInt8} (h : st.take p b = .ok st') (hw : st.word.length ≤ p) : st'.word.length ≤ p + 1 := by
  unfold St.take at h
  split at h
  · cases h; simp; omega
  · have hz := word_endWord st p
    unfold St.act at h
    split at h
    · split at h
      · cases h
      · cases h; simp [hz]
    · split at h
      · split at h
        · cases h
        · cases h; simp [hz]
      · split at h
        · cases h; simp [hz]
        · cases h

theorem take_err {st : St} {p : Nat} {b : UInt8} {e : Int} (h : st.take p b = .error e) : e = 2 ∨ e = 3 ∨ e = 4 := by
  unfold St.take at h
  split at h
  · cases h
  · unfold St.act at h
    split at h
    · split at h
      · cases h; simp
      · cases h
    · split at h
      · split at h
        · cases h; simp
        · cases h
      · split at h
        · cases h
        · cases h; simp

/-- A letter of more than one byte: all its bytes are great. -/
theorem decode_bytes (s : ByteArray) (p : Nat) (h : p < s.size) (ha : 128 ≤ (s[p]'h).toNat) : ∀ j, j < (Utf8.decode s p).2 → ∃ hj : p + j < s.size, 128 ≤ (s[p + j]'hj).toNat := by
  have hn : ¬ (s[p]'h).toNat < 128 := by omega
  have g : ∀ k, (p + k < s.size) → ((s.get! (p + k)).toNat / 64 == 2) = true → ∃ hj : p + k < s.size, 128 ≤ (s[p + k]'hj).toNat := fun k hk h2 => ⟨hk, by
    have e := get_at s (p + k) hk
    rw [Nat.add_zero] at e
    rw [e] at h2
    simp only [beq_iff_eq] at h2
    omega⟩
  intro j hj
  match j with
  | 0 => exact ⟨h, ha⟩
  | j + 1 =>
    simp only [Utf8.decode, get_at s p h, hn, if_false] at hj
    split at hj
    · rename_i hc
      simp only [Bool.and_eq_true, decide_eq_true_eq] at hc
      split at hj
      · match j with
        | 0 => exact g 1 hc.2.1 hc.2.2
        | j + 1 => exact absurd hj (by simp)
      · exact absurd hj (by simp)
    · split at hj
      · rename_i hc
        simp only [Bool.and_eq_true, decide_eq_true_eq] at hc
        split at hj
        · match j with
          | 0 => exact g 1 hc.1.2.1 hc.1.2.2
          | 1 => exact g 2 hc.2.1 hc.2.2
          | j + 2 => exact absurd hj (by simp)
        · exact absurd hj (by simp)
      · split at hj
        · rename_i hc
          simp only [Bool.and_eq_true, decide_eq_true_eq] at hc
          split at hj
          · match j with
            | 0 => exact g 1 hc.1.1.2.1 hc.1.1.2.2
            | 1 => exact g 2 hc.1.2.1 hc.1.2.2
            | 2 => exact g 3 hc.2.1 hc.2.2
            | j + 3 => exact absurd hj (by simp)
          · exact absurd hj (by simp)
        · exact absurd hj (by simp)

theorem drop_cons (s : ByteArray) (p : Nat) (h : p < s.size) : s.data.toList.drop p = s[p] :: s.data.toList.drop (p + 1) := by
  rw [List.drop_eq_getElem_cons (by simpa using h)]; rfl
theorem drop_end (s : ByteArray) (p : Nat) (h : ¬ p < s.size) : s.data.toList.drop p = [] := List.drop_of_length_le (by have : s.data.toList.length = s.size := rfl; omega)

/-- In a note great bytes are passed by. -/
theorem run_great (s : ByteArray) (st : St) (n : Nat) : ∀ p, (∀ j, j < n → ∃ hj : p + j < s.size, 128 ≤ (s[p + j]'hj).toNat) → run (s.data.toList.drop p) p true st = run (s.data.toList.drop (p + n)) (p + n) true st := by
  induction n with
  | zero => intro p _; rfl
  | succ n ih =>
    intro p h
    have h00 := h 0 (by omega)
    simp only [Nat.add_zero] at h00
    obtain ⟨h0, h1⟩ := h00
    rw [drop_cons s p h0]
    have hne : (s[p] != 10) = true := by
      simp only [bne_iff_ne, ne_eq, ← UInt8.toNat_inj]
      intro e
      rw [e] at h1
      exact absurd h1 (by decide)
    have hrun : run (s[p] :: s.data.toList.drop (p + 1)) p true st = run (s.data.toList.drop (p + 1)) (p + 1) (s[p] != 10) st := rfl
    rw [hrun, hne]
    have hih := ih (p + 1) fun j hj => (by
      obtain ⟨q0, q1⟩ := h (j + 1) (by omega)
      have key : ∀ a b : Nat, a = b → (∃ hj : a < s.size, 128 ≤ (s[a]'hj).toNat) → ∃ hj : b < s.size, 128 ≤ (s[b]'hj).toNat := by rintro a _ rfl h; exact h
      exact key _ _ (by omega) ⟨q0, q1⟩)
    have e : p + 1 + n = p + (n + 1) := by omega
    rw [e] at hih
    exact hih

theorem Kept.iterAt (w : World) (k : Nat) (s : ByteArray) (p : Nat) : Kept (fun b => b = k) w (w.iterAt k s p) :=
  ⟨rfl, rfl, rfl, by rw [Lib.iterAt_size]; exact Nat.le_refl _, fun b _ hb => Lib.iterAt_other w k b s p hb⟩

theorem Inv.iter {F : Nat → Prop} {N m k p : Nat} {w : World} {st : St} {vw : Value} {row : Array Value} {vs : List Value} {s : ByteArray} (h : Inv F N m w st vw row vs) (hk : w.heap[k]? = some (.stringIter s p)) (p' : Nat) :
    Inv F N m (w.iterAt k s p') st vw row vs := by
  have hK := Kept.iterAt w k s p'
  have nk : ∀ b c e f, w.heap[b]? = some (Obj.cells c e f) → b ≠ k := fun b c e f hb => by rintro rfl; rw [hk] at hb; cases hb
  have same : ∀ b c e f, w.heap[b]? = some (Obj.cells c e f) → (w.iterAt k s p').heap[b]? = some (Obj.cells c e f) := fun b c e f hb => by rw [hK.block b (lt_of_some hb) (nk b c e f hb)]; exact hb
  have sameC : ∀ b, isC w b → (w.iterAt k s p').heap[b]? = w.heap[b]? := fun b hb => by obtain ⟨c, e, f, hc⟩ := hb; rw [same b c e f hc, hc]
  have kC : ∀ v ∈ vs, ∀ g, v.ownBlock = some g → isC w g := by
    have key : ∀ fs vs, Fs F w (N + 5) row fs vs → ∀ v ∈ vs, ∀ g, v.ownBlock = some g → isC w g := by
      intro fs
      induction fs with
      | nil => intro vs hf v hv; cases vs with
        | nil => cases hv
        | cons _ _ => exact hf.elim
      | cons f r ih =>
        intro vs hf v hv g hg
        cases vs with
        | nil => cases hv
        | cons u vs =>
          obtain ⟨_, _, _, _, ⟨xs, ho, _⟩, _, ht⟩ := hf
          rcases List.mem_cons.1 hv with rfl | hv
          · exact isC_own ho hg
          · exact ih vs ht v hv g hg
    exact key _ _ h.fs
  refine { hw := same _ _ _ _ h.hw, ow := own_kept h.ow hK fun g hg e => ?_, hr := same _ _ _ _ h.hr, rs := h.rs, ho := same _ _ _ _ h.ho, hp := same _ _ _ _ h.hp, he := same _ _ _ _ h.he, dp := h.dp, fs := ?_, F0 := fun b hb => ?_, FC := fun b hb => ?_, fw := h.fw, bw := h.bw, bk := h.bk }
  · subst e
    obtain ⟨c, e, f, hc⟩ := isC_own h.ow hg
    exact nk _ c e f hc rfl
  · exact Fs.keep h.fs (fun _ _ => rfl) (fun b hF _ => ⟨hF, sameC b (h.FC b hF)⟩) fun v hv g hg => ⟨sameC g (kC v hv g hg), (Fs.base h.fs v hv g hg).2.2⟩
  · exact ⟨(h.F0 b hb).1, by rw [Lib.iterAt_size]; exact (h.F0 b hb).2⟩
  · have := h.FC b hb
    unfold isC at this ⊢
    rw [sameC b (h.FC b hb)]
    exact this

theorem int10 (b : UInt8) : ((b.toNat : Int) != 10) = (b != 10) := by
  rw [Bool.eq_iff_iff]
  simp only [bne_iff_ne, ne_eq, ← UInt8.toNat_inj]
  have : UInt8.toNat 10 = 10 := rfl
  omega
theorem int59 (b : UInt8) : ((b.toNat : Int) == 59) = (b == 59) := by
  rw [Bool.eq_iff_iff]
  simp only [beq_iff_eq, ← UInt8.toNat_inj]
  have : UInt8.toNat 59 = 59 := rfl
  omega

def outE : Out → Int | .ok _ => 0 | .err e _ => e
def outP : Out → Int | .ok _ => -1 | .err _ p => p
def outL : Out → List Nd | .ok l => l | .err _ _ => []

theorem parse_long (s : ByteArray) (w : World) (h : 16384 < s.size) : Calls Tryz.prog 10 #[.string s] w fun e w' => e = .returned (.tuple #[.slice none 0 0, .int .i64 5, .int .i64 0]) ∧ w' = w := by
  have hl : (16384 : Int) < (s.size : Int) := by omega
  go_enter Tryz.func10, Tryz.ntmps10
  go_wp2_with fail
  go_ret3
  exact ⟨rfl, rfl⟩

theorem Inv.alloc_iter {F : Nat → Prop} {N m : Nat} {w : World} {st : St} {vw : Value} {row : Array Value} {vs : List Value} (h : Inv F N m w st vw row vs) (o : Obj) : Inv F N m (w.alloc o) st vw row vs := by
  have hB : Below w.heap.size w (w.alloc o) := (Below.refl _ _).alloc (Nat.le_refl _) _
  have same : ∀ b x, w.heap[b]? = some x → (w.alloc o).heap[b]? = some x := fun b x hb => by rw [hB.block b (lt_of_some hb)]; exact hb
  refine { hw := same _ _ h.hw, ow := h.ow.alloc _, hr := same _ _ h.hr, rs := h.rs, ho := same _ _ h.ho, hp := same _ _ h.hp, he := same _ _ h.he, dp := h.dp, fs := ?_, F0 := fun b hb => ?_, FC := fun b hb => ?_, fw := h.fw, bw := h.bw, bk := h.bk }
  · exact Fs.keep h.fs (fun _ _ => rfl) (fun b hF hlt => ⟨hF, hB.block b hlt⟩) fun v hv g hg => ⟨hB.block g (Fs.base h.fs v hv g hg).2.1, (Fs.base h.fs v hv g hg).2.2⟩
  · exact ⟨(h.F0 b hb).1, Nat.lt_of_lt_of_le (h.F0 b hb).2 hB.size⟩
  · obtain ⟨c, e, f, hc⟩ := h.FC b hb
    exact ⟨c, e, f, same _ _ hc⟩

set_option maxRecDepth 100000 in
set_option maxHeartbeats 3200000 in
theorem parse_short (s : ByteArray) (w : World) (h : s.size ≤ 16384) : Calls Tryz.prog 10 #[.string s] w fun e w' => Below w.heap.size w w' ∧
    ∃ v, e = .returned (.tuple #[v, .int .i64 (outE (run s.data.toList 0 false St.start)), .int .i64 (outP (run s.data.toList 0 false St.start))]) ∧ Rd (fun b => w.heap.size ≤ b) w' v (outL (run s.data.toList 0 false St.start)) := by
  obtain ⟨O, hO⟩ : ∃ O, run s.data.toList 0 false St.start = O := ⟨_, rfl⟩
  rw [hO]
  have HO : Hid (run s.data.toList 0 false St.start = O) := hO
  clear hO
  have hl : ¬ (16384 : Int) < (s.size : Int) := by omega
  go_enter Tryz.func10, Tryz.ntmps10
  go_wp2_with (go_at_call 26; refine (reader_any w).mono ?_; rintro e w1 ⟨rfl, hb1, row1, hI1⟩)
  obtain ⟨N, hNe⟩ : ∃ N, w.heap.size = N := ⟨_, rfl⟩
  obtain ⟨K, hKe⟩ : ∃ K, w1.heap.size = K := ⟨_, rfl⟩
  have HK : Hid (w1.heap.size = K) := hKe
  have HN : Hid (w.heap.size = N) := hNe
  have hNK : N + 5 ≤ K := by have := hI1.lt; omega
  simp only [hNe, hKe] at hI1 hb1 ⊢
  clear hNe hKe
  go_loopw [7] (fun note wr => ∃ (pos : Nat) (nt : Bool) (st : St) (F : Nat → Prop) (vw : Value) (row : Array Value) (vs : List Value), pos ≤ s.size ∧ note = .bool nt ∧ wr.heap[K]? = some (.stringIter s pos) ∧ Inv F N (2 * pos) wr st vw row vs ∧ st.word.length ≤ pos ∧ Below N w wr ∧
      run (s.data.toList.drop pos) pos nt st = O) (fun _ wr => s.size - wr.iterPos K)
  case atStart =>
    refine ⟨0, false, St.start, _, _, _, _, Nat.zero_le _, rfl, ?_, hI1.alloc_iter _, Nat.le_refl _, hb1.alloc ?_ _, HO.out⟩
    · rw [← HK.out]; exact World.iter_heap w1 s 0
    · have := hb1.size; have := HN.out; omega
  case round =>
    obtain ⟨pos, nt, st, F, vw, row, vs, hpos, rfl, hit, hI, hwl, hbw, hrun⟩ := hrel
    have HR : Hid (run (s.data.toList.drop pos) pos nt st = O) := hrun
    clear hrun
    by_cases hp : pos < s.size
    · have hdc := drop_cons s pos hp
      have hlt : K < wr.heap.size := lt_of_some hit
      by_cases ha : s[pos].toNat < 128
      · have hnx : ∀ ty, (Instr.next (.pointer (some ⟨K, 0, none⟩)) true ty).run Tryz.prog wr = _ := fun ty => Lib.run_next_ascii_at wr K s pos ty hit hp ha
        have hI2 := hI.iter hit (pos + 1)
        have hit2 := Lib.iterAt_heap wr K s pos (pos + 1) hit
        have hbw2 := Lib.below_iterAt hbw (k := K) (by omega) s (pos + 1)
        cases nt with
        | true =>
          have HD : Hid (run (s.data.toList.drop (pos + 1)) (pos + 1) (s[pos] != 10) st = O) := by
            have := HR.out
            rw [hdc] at this
            exact this
          clear hdc
          go_wp2_with fail
          go_roundw
          case rel => exact ⟨pos + 1, _, st, F, vw, row, vs, by omega, rfl, hit2, hI2.up (by omega), by omega, hbw2, by rw [int10]; exact HD.out⟩
          case measure => simp only [iterPos_of hit2, iterPos_of hit]; omega
        | false =>
          rcases hst : st.take pos s[pos] with e0 | st'
          · have HD : Hid (O = .err e0 pos) := by
              have := HR.out
              rw [hdc, run_err hst] at this
              exact this.symm
            have HE := take_err hst
            clear hdc
            have he0 : (e0 != 0) = true := by rcases HE with rfl | rfl | rfl <;> rfl
            have hc := take_any_err pos s[pos] e0 hI2 (by omega) (by omega) hwl hst
            clear HE hst
            go_wp2_with (go_at_call 53; refine hc.mono ?_; rintro e w2 ⟨rfl, hk2⟩)
            go_ret3
            rw [HD.out]
            refine ⟨?_, .slice none 0 0, rfl, none, 0, rfl, .nil _, Nat.le_refl _⟩
            rw [HN.out]
            exact hbw2.trans (hk2.below (by have := hI2.lt; omega))
          · have HD : Hid (run (s.data.toList.drop (pos + 1)) (pos + 1) (s[pos] == 59) st' = O) := by
              have := HR.out
              rw [hdc, run_ok hst] at this
              exact this
            have hw' := take_word hst hwl
            have hc := take_any_ok pos s[pos] hI2 (by omega) (by omega) hwl hst
            clear hdc hst
            go_wp2_with (go_at_call 53; refine hc.mono ?_; rintro e w2 ⟨rfl, hk2, F', vw', row', vs', hI'⟩)
            have hit3 := hk2.iter hit2
            go_roundw
            case rel => exact ⟨pos + 1, _, st', F', vw', row', vs', by omega, rfl, hit3, hI'.up (by omega), hw', hbw2.trans (hk2.below (by have := hI2.lt; omega)), by rw [int59]; exact HD.out⟩
            case measure => simp only [iterPos_of hit3, iterPos_of hit]; omega
      · have hnx : ∀ ty, (Instr.next (.pointer (some ⟨K, 0, none⟩)) true ty).run Tryz.prog wr = _ := fun ty => Lib.run_next_any_at wr K s pos ty hit hp
        have hgr := decode_high s pos hp (by omega)
        have hby := decode_bytes s pos hp (by omega)
        have hI2 := hI.iter hit (pos + (Utf8.decode s pos).2)
        have hit2 := Lib.iterAt_heap wr K s pos (pos + (Utf8.decode s pos).2) hit
        have hbw2 := Lib.below_iterAt hbw (k := K) (by omega) s (pos + (Utf8.decode s pos).2)
        obtain ⟨W, hW⟩ : ∃ W, (Utf8.decode s pos).2 = W := ⟨_, rfl⟩
        obtain ⟨R, hR⟩ : ∃ R, (Utf8.decode s pos).1 = R := ⟨_, rfl⟩
        simp only [hW, hR] at hnx hgr hby hI2 hit2 hbw2
        obtain ⟨hR1, hW1⟩ := hgr
        have hfit : pos + W ≤ s.size := by
          obtain ⟨q, _⟩ := hby (W - 1) (by omega)
          omega
        cases nt with
        | true =>
          have HD : Hid (run (s.data.toList.drop (pos + W)) (pos + W) true st = O) := by
            have := HR.out
            rw [run_great s st W pos hby] at this
            exact this
          have hne : ((R : Int) != 10) = true := by simp only [bne_iff_ne, ne_eq]; omega
          clear hdc hW hR hby
          go_wp2_with fail
          go_roundw
          case rel => exact ⟨pos + W, _, st, F, vw, row, vs, hfit, rfl, hit2, hI2.up (by omega), by omega, hbw2, HD.out⟩
          case measure => simp only [iterPos_of hit2, iterPos_of hit]; omega
        | false =>
          have HD : Hid (O = .err 2 pos) := by
            have := HR.out
            have hnp := isPart_high s[pos] (by omega)
            rw [hdc] at this
            have hst : st.take pos s[pos] = .error 2 := by
              have ne : ∀ c : UInt8, c.toNat < 128 → s[pos] ≠ c := fun c hc e => by rw [e] at ha; exact ha hc
              simp [St.take, hnp, St.act, ne 40 (by decide), ne 41 (by decide), ne 9 (by decide), ne 10 (by decide), ne 13 (by decide), ne 32 (by decide), ne 59 (by decide)]
            rw [run_err hst] at this
            exact this.symm
          have ne : ∀ n : Nat, n < 128 → ((R : Int) == (n : Int)) = false := fun n hn => by rw [beq_eq_false_iff_ne]; omega
          have hc := take_bad pos (R : Int) hI2 (by omega) (by omega) hwl (rPart_high _ (by omega)) (ne 40 (by omega)) (ne 41 (by omega)) (ne 9 (by omega)) (ne 10 (by omega)) (ne 13 (by omega)) (ne 32 (by omega)) (ne 59 (by omega))
          clear hdc hW hR hby ne
          go_wp2_with (go_at_call 53; refine hc.mono ?_; rintro e w2 ⟨rfl, hk2⟩)
          go_ret3
          rw [HD.out]
          refine ⟨?_, .slice none 0 0, rfl, none, 0, rfl, .nil _, Nat.le_refl _⟩
          rw [HN.out]
          exact hbw2.trans (hk2.below (by have := hI2.lt; omega))
    · have hnx : ∀ ty, (Instr.next (.pointer (some ⟨K, 0, none⟩)) true ty).run Tryz.prog wr = _ := fun ty => Lib.run_next_end_at wr K s pos ty hit hp
      obtain rfl : pos = s.size := by omega
      have hfin : run (s.data.toList.drop s.size) s.size nt st = st.finish s.size := by rw [drop_end s s.size hp]; rfl
      have HF : Hid (O = st.finish s.size) := (HR.out.symm.trans hfin)
      clear hfin
      by_cases hd : st.rest = []
      · have hc := end_done s.size hI (by omega) (by omega) hwl hd
        have HF' : Hid (O = .ok (st.endWord s.size).top.kids) := by have := HF.out; simp only [St.finish, hd] at this; exact this
        clear hd HF
        go_wp2_with (go_at_call 54; refine hc.mono ?_; rintro e w2 ⟨v, rfl, hk2, hrd⟩)
        go_ret3
        rw [HF'.out]
        refine ⟨?_, v, rfl, ?_⟩
        · rw [HN.out]
          exact hbw.trans (hk2.below (by have := hI.lt; omega))
        · rw [HN.out]; exact hrd
      · have hc := end_open s.size hI hd
        have HF' : Hid (O = .err 3 s.size) := by
          have := HF.out
          unfold St.finish at this
          split at this
          · contradiction
          · exact this
        clear hd HF
        go_wp2_with (go_at_call 54; refine hc.mono ?_; rintro e w2 ⟨rfl, rfl⟩)
        go_ret3
        rw [HF'.out]
        refine ⟨?_, .slice none 0 0, rfl, none, 0, rfl, .nil _, Nat.le_refl _⟩
        rw [HN.out]
        exact hbw

theorem parse_any (s : ByteArray) (w : World) : Calls Tryz.prog 10 #[.string s] w fun e w' => Below w.heap.size w w' ∧
    ∃ v, e = .returned (.tuple #[v, .int .i64 (outE (parse s.data.toList)), .int .i64 (outP (parse s.data.toList))]) ∧ Rd (fun b => w.heap.size ≤ b) w' v (outL (parse s.data.toList)) := by
  have hl : s.data.toList.length = s.size := rfl
  by_cases h : 16384 < s.size
  · have hp : parse s.data.toList = .err 5 0 := by unfold parse; rw [hl, if_pos h]
    rw [hp]
    refine (parse_long s w h).mono ?_
    rintro e w' ⟨rfl, rfl⟩
    exact ⟨Below.refl _ _, .slice none 0 0, rfl, none, 0, rfl, .nil _, Nat.le_refl _⟩
  · have hp : parse s.data.toList = run s.data.toList 0 false St.start := by unfold parse; rw [hl, if_neg h]
    rw [hp]
    exact parse_short s w (by omega)
end Go.Proofs.YtbpdhegfdmppgaaGreatDoor

/- PLAIN FACTS of the machine: a node's first byte stands at its place, one behind the other. -/
namespace Go.Proofs.YtbpdhegfdmppgaaGreatDoor

theorem run_nil {p : Nat} {n : Bool} {st : St} : run [] p n st = st.finish p := by cases n <;> rfl

/-- Nodes lie in a text from a place on; the last one begins ahead of hi. -/
inductive Lie (s : ByteArray) : Nat → List Nd → Nat → Prop
  | nil (lo : Nat) : Lie s lo [] lo
  | word (lo p hi : Nat) (wd : List UInt8) (l : List Nd) (h0 : lo ≤ p) (hne : wd ≠ []) (hp : p + wd.length ≤ s.size) (hw : (s.data.toList.drop p).take wd.length = wd) (hl : Lie s (p + 1) l hi) : Lie s lo (.mk false wd [] p :: l) hi
  | list (lo p m hi : Nat) (ks l : List Nd) (h0 : lo ≤ p) (hp : p < s.size) (hx : s[p] = 40) (hk : Lie s (p + 1) ks m) (hl : Lie s m l hi) : Lie s lo (.mk true [] ks p :: l) hi

theorem Lie.le {s : ByteArray} {lo hi : Nat} {l : List Nd} (h : Lie s lo l hi) : lo ≤ hi := by
  induction h with
  | nil => exact Nat.le_refl _
  | word lo p hi wd l h0 hne hp hw hl ih => omega
  | list lo p m hi ks l h0 hp hx hk hl ihk ihl => omega

/-- The lists that go on lie so, the innermost one first. -/
def LieS (s : ByteArray) (t : Fr) : List Fr → Nat → Prop
  | [], hi => Lie s 0 t.kids hi
  | g :: r, hi => ∃ m, LieS s g r m ∧ m ≤ t.pos ∧ (∃ hp : t.pos < s.size, s[t.pos] = 40) ∧ Lie s (t.pos + 1) t.kids hi

theorem LieS.snoc {s : ByteArray} {t : Fr} {rs : List Fr} {hi hi' : Nat} (x : Nd) (h : LieS s t rs hi) (hx : ∀ lo l, Lie s lo l hi → Lie s lo (l ++ [x]) hi') : LieS s { t with kids := t.kids ++ [x] } rs hi' := by
  cases rs with
  | nil => exact hx _ _ h
  | cons g r =>
    obtain ⟨m, h1, h2, h3, h4⟩ := h
    exact ⟨m, h1, h2, h3, hx _ _ h4⟩

structure St.lie (s : ByteArray) (p : Nat) (st : St) : Prop where
  ex : ∃ hi, LieS s st.top st.rest hi ∧ hi + st.word.length ≤ p
  word : (s.data.toList.drop (p - st.word.length)).take st.word.length = st.word
  le : p ≤ s.size

end Go.Proofs.YtbpdhegfdmppgaaGreatDoor
