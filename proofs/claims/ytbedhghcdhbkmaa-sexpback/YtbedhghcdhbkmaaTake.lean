/- THE CONTRACT of the reader's third closure: one rune is read on. -/
import Derived.Test.YtbedhghcdhbkmaaEnds
import Derived.Test.YtbedhghcdhbkmaaBytes
namespace Go.Proofs.Ytbedhghcdhbkmaa
open Go.ChangeShapes Go.WideShapes Go.ChangeAt Go.RowKit

theorem Try.info5 : (Try.prog.info? 5).map (fun i => (i.zero, i.size, i.bytes)) = some (some (.int .u8 0), 1, 1) := by kernel_rfl

theorem word_news (w : World) (x : Value) (t : TypeId) : ∀ j u, [x][j]? = some u → (w.alloc (.cells #[x] t)).cell? ((⟨w.heap.size, 0, none⟩ : Addr).add j) = some u :=
  World.news_of_block (cs := #[x]) (t := t) (fr := (0, 0)) (heap_alloc_new w _)

/-- A byte of a word. -/
theorem take_part {F : Nat → Prop} {N m : Nat} {w : World} {st : St} {vw : Value} {row : Array Value} {vs : List Value} (p : Nat) (b : UInt8)
    (h : Inv F N m w st vw row vs) (hm : m ≤ 100000) (hb : isPart b = true) :
    Calls Try.prog 28 #[.int .i32 b.toNat, .int .i64 p, .pointer (some ⟨N, 0, none⟩), .pointer (some ⟨N + 4, 0, none⟩), .pointer (some ⟨N + 2, 0, none⟩), .pointer (some ⟨N + 3, 0, none⟩)] w fun e w' => e = .returned (.int .i64 0) ∧
      KeptN N w w' ∧ ∃ vw' row' vs', Inv F N (m + 1) w' { st with word := st.word ++ [b] } vw' row' vs' := by
  obtain ⟨i0, hi0, hz0, hz1, hz2⟩ := info_parts Try.info5
  have cW := cell_of_one h.hw
  have fW := free_of_one h.hw
  have hN := h.lt
  have hbw := h.bw
  have hne : vw.ownBlock ≠ some N := fun e => by have := (h.ow.lt N e).1; omega
  have hr : rPart (b.toNat : Int) = true := by rw [rPart_byte]; exact hb
  have hb0 : (0 : Int) ≤ (b.toNat : Int) := by omega
  have hb1 : (b.toNat : Int) ≤ 255 := by have := b.toNat_lt; omega
  go_enter Try.func28, Try.ntmps28
  go_wp2_with (first | (go_at_call 24; refine (inWord_any _ _).mono ?_; rintro e w' ⟨rfl, hq⟩; have hq' := hq.symm; subst hq') | (at_builtin; refine wpList_append_lies _ rfl _ _ 44 rfl (N + 5) 5 i0 (.int .u8 0) 1 1 Try.underlying44 hi0 hz0 hz1 hz2 rfl (by omega) vw st.word.length (st.word.map byteV) rfl (h.ow.alloc _) ⟨w.heap.size, 0, none⟩ 1 1 [byteV b] rfl rfl (word_news w (byteV b) 5) (by simp [Value.oneCell', byteV]) (by omega) (by unfold maxLen; omega) (by omega) (by simp; omega) (w.heap.size + 1) (by simp) ?_; intro g cap w1 hown1 hgrow hat hlt; have d1 := (hgrow.cell_far ⟨N, 0, none⟩ (by simp; omega) hne.symm).trans (alloc_cell _ cW); have d2 := (hgrow.frozen_far ⟨N, 0, none⟩ (by simp; omega) hne.symm).trans ((frozen?_alloc_cells _ _ _ _).trans fW)))
  go_ret
  have hK0 : Kept (fun k => k = N ∨ vw.ownBlock = some k) w w1 := (Kept.alloc w _ _).trans ((Kept.of_grown hgrow).mono fun k _ hk => .inr hk)
  have hK : Kept (fun k => k = N ∨ vw.ownBlock = some k) w (w1.setCell ⟨N, 0, none⟩ (.slice (some ⟨g, 0, none⟩) (st.word.length + 1) cap)) := hK0.trans ((Kept.set w1 N 0 _).mono fun k _ hk => .inl hk)
  have hgN : g ≠ N := by
    rcases hat with e | e
    · rintro rfl; exact hne e
    · omega
  refine ⟨rfl, hK.mono fun k _ hk => ?_, .slice (some ⟨g, 0, none⟩) (st.word.length + 1) cap, row, vs, ?_⟩
  · rcases hk with rfl | e
    · exact ⟨Nat.le_refl _, _, _, _, h.hw⟩
    · exact ⟨by have := (h.ow.lt k e).1; omega, isC_own h.ow e⟩
  · refine h.reword (word := st.word ++ [b]) hK (setCell_at (c := #[vw]) ?_) ?_ ?_ (by omega) (by simp; omega)
    · rw [hgrow.block N (by simp; omega) hne.symm, heap_alloc_old w _ (by omega)]; exact h.hw
    · have : ((st.word ++ [b]).map byteV) = st.word.map byteV ++ [byteV b] := by simp
      rw [this, List.length_append]
      exact own_kept hown1 (Kept.set w1 N 0 _) fun g' hg' e => by
        simp only [Value.ownBlock, Option.some.injEq] at hg'
        exact hgN (hg'.trans e)
    · intro g' hg'
      simp only [Value.ownBlock, Option.some.injEq] at hg'
      subst hg'
      rcases hat with e | e
      · exact .inl e
      · exact .inr (by omega)

theorem rest_endWord (st : St) (p : Nat) : (st.endWord p).rest = st.rest := by unfold St.endWord; split <;> rfl
theorem word_endWord (st : St) (p : Nat) : (st.endWord p).word = [] := by
  unfold St.endWord
  split
  · assumption
  · rfl

/-- A rune that is none of those that may stand in a text. -/
theorem take_bad {F : Nat → Prop} {N m : Nat} {w : World} {st : St} {vw : Value} {row : Array Value} {vs : List Value} (p : Nat) (r : Int)
    (h : Inv F N m w st vw row vs) (hm : m ≤ 100000) (hp : p ≤ 100000) (hwp : st.word.length ≤ p) (hr : rPart r = false) (h40 : (r == 40) = false) (h41 : (r == 41) = false) (h9 : (r == 9) = false) (h10 : (r == 10) = false) (h13 : (r == 13) = false) (h32 : (r == 32) = false) (h59 : (r == 59) = false) :
    Calls Try.prog 28 #[.int .i32 r, .int .i64 p, .pointer (some ⟨N, 0, none⟩), .pointer (some ⟨N + 4, 0, none⟩), .pointer (some ⟨N + 2, 0, none⟩), .pointer (some ⟨N + 3, 0, none⟩)] w fun e w' => e = .returned (.int .i64 2) ∧
      KeptN N w w' := by
  have cE := cell_of_one h.he
  go_enter Try.func28, Try.ntmps28
  go_wp2_with (first | (go_at_call 24; refine (inWord_any _ _).mono ?_; rintro e w' ⟨rfl, hq⟩; have hq' := hq.symm; subst hq') | (go_at_call 27; refine (endWord_inv p h hm hp hwp).mono ?_; rintro e w1 ⟨rfl, hk1, vw1, row1, vs1, hI1⟩))
  go_ret
  exact ⟨rfl, hk1⟩

/-- A blank. -/
theorem take_blank {F : Nat → Prop} {N m : Nat} {w : World} {st : St} {vw : Value} {row : Array Value} {vs : List Value} (p : Nat) (r : Int)
    (h : Inv F N m w st vw row vs) (hm : m ≤ 100000) (hp : p ≤ 100000) (hwp : st.word.length ≤ p) (hb : r = 9 ∨ r = 10 ∨ r = 13 ∨ r = 32 ∨ r = 59) :
    Calls Try.prog 28 #[.int .i32 r, .int .i64 p, .pointer (some ⟨N, 0, none⟩), .pointer (some ⟨N + 4, 0, none⟩), .pointer (some ⟨N + 2, 0, none⟩), .pointer (some ⟨N + 3, 0, none⟩)] w fun e w' => e = .returned (.int .i64 0) ∧
      KeptN N w w' ∧ ∃ vw' row' vs', Inv F N (m + 1) w' (st.endWord p) vw' row' vs' := by
  have cE := cell_of_one h.he
  have hr : rPart r = false := by unfold rPart; simp only [decide_eq_false_iff_not]; omega
  rcases hb with rfl | rfl | rfl | rfl | rfl
  all_goals
    go_enter Try.func28, Try.ntmps28
    go_wp2_with (first | (go_at_call 24; refine (inWord_any _ _).mono ?_; rintro e w' ⟨rfl, hq⟩; have hq' := hq.symm; subst hq') | (go_at_call 27; refine (endWord_inv p h hm hp hwp).mono ?_; rintro e w1 ⟨rfl, hk1, vw1, row1, vs1, hI1⟩))
    go_ret
    exact ⟨rfl, hk1, _, _, _, hI1⟩

/-- A bracket that would stand too deep. -/
theorem take_deep {F : Nat → Prop} {N m : Nat} {w : World} {st : St} {vw : Value} {row : Array Value} {vs : List Value} (p : Nat)
    (h : Inv F N m w st vw row vs) (hm : m ≤ 100000) (hp : p ≤ 100000) (hwp : st.word.length ≤ p) (hd : 24 ≤ st.rest.length) :
    Calls Try.prog 28 #[.int .i32 40, .int .i64 p, .pointer (some ⟨N, 0, none⟩), .pointer (some ⟨N + 4, 0, none⟩), .pointer (some ⟨N + 2, 0, none⟩), .pointer (some ⟨N + 3, 0, none⟩)] w fun e w' => e = .returned (.int .i64 4) ∧
      KeptN N w w' := by
  have cE := cell_of_one h.he
  have hr : rPart 40 = false := by decide
  have hlen := rest_endWord st p
  have hd1 : (24 : Int) < (st.rest.length : Int) + 1 := by omega
  go_enter Try.func28, Try.ntmps28
  go_wp2_with (first | (go_at_call 24; refine (inWord_any _ _).mono ?_; rintro e w' ⟨rfl, hq⟩; have hq' := hq.symm; subst hq') | (go_at_call 27; refine (endWord_inv p h hm hp hwp).mono ?_; rintro e w1 ⟨rfl, hk1, vw1, row1, vs1, hI1⟩; have cO := cell_of_one hI1.ho; rw [hlen] at cO))
  go_ret
  exact ⟨rfl, hk1⟩

/-- A bracket that closes nothing. -/
theorem take_none {F : Nat → Prop} {N m : Nat} {w : World} {st : St} {vw : Value} {row : Array Value} {vs : List Value} (p : Nat)
    (h : Inv F N m w st vw row vs) (hm : m ≤ 100000) (hp : p ≤ 100000) (hwp : st.word.length ≤ p) (hd : st.rest = []) :
    Calls Try.prog 28 #[.int .i32 41, .int .i64 p, .pointer (some ⟨N, 0, none⟩), .pointer (some ⟨N + 4, 0, none⟩), .pointer (some ⟨N + 2, 0, none⟩), .pointer (some ⟨N + 3, 0, none⟩)] w fun e w' => e = .returned (.int .i64 3) ∧
      KeptN N w w' := by
  have cE := cell_of_one h.he
  have hr : rPart 41 = false := by decide
  have hlen : (st.endWord p).rest.length = 0 := by rw [rest_endWord, hd]; rfl
  go_enter Try.func28, Try.ntmps28
  go_wp2_with (first | (go_at_call 24; refine (inWord_any _ _).mono ?_; rintro e w' ⟨rfl, hq⟩; have hq' := hq.symm; subst hq') | (go_at_call 27; refine (endWord_inv p h hm hp hwp).mono ?_; rintro e w1 ⟨rfl, hk1, vw1, row1, vs1, hI1⟩; have cO := cell_of_one hI1.ho; rw [hlen] at cO))
  go_ret
  exact ⟨rfl, hk1⟩
end Go.Proofs.Ytbedhghcdhbkmaa
