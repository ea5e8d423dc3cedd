/- Texts of this proof, put together: Take, Take2, Take3. -/
import Derived.Test.YtbpdhegfdmppgaaGreatDoorM11
import Derived.Test.YtbpdhegfdmppgaaGreatDoorM3

/- THE CONTRACT of the reader's third closure: one rune is read on. -/
namespace Go.Proofs.YtbpdhegfdmppgaaGreatDoor
open Go.ChangeShapes Go.WideShapes Go.ChangeAt Go.RowKit

theorem Tryz.info5 : (Tryz.prog.info? 5).map (fun i => (i.zero, i.size, i.bytes)) = some (some (.int .u8 0), 1, 1) := by kernel_rfl

theorem word_news (w : World) (x : Value) (t : TypeId) : ∀ j u, [x][j]? = some u → (w.alloc (.cells #[x] t)).cell? ((⟨w.heap.size, 0, none⟩ : Addr).add j) = some u :=
  World.news_of_block (cs := #[x]) (t := t) (fr := (0, 0)) (heap_alloc_new w _)

/-- A byte of a word. -/
theorem take_part {F : Nat → Prop} {N m : Nat} {w : World} {st : St} {vw : Value} {row : Array Value} {vs : List Value} (p : Nat) (b : UInt8)
    (h : Inv F N m w st vw row vs) (hm : m ≤ 100000) (hb : isPart b = true) :
    Calls Tryz.prog 53 #[.int .i32 b.toNat, .int .i64 p, .pointer (some ⟨N, 0, none⟩), .pointer (some ⟨N + 4, 0, none⟩), .pointer (some ⟨N + 2, 0, none⟩), .pointer (some ⟨N + 3, 0, none⟩)] w fun e w' => e = .returned (.int .i64 0) ∧
      KeptN N w w' ∧ ∃ vw' row' vs', Inv F N (m + 1) w' { st with word := st.word ++ [b] } vw' row' vs' := by
  obtain ⟨i0, hi0, hz0, hz1, hz2⟩ := info_parts Tryz.info5
  have cW := cell_of_one h.hw
  have fW := free_of_one h.hw
  have hN := h.lt
  have hbw := h.bw
  have hne : vw.ownBlock ≠ some N := fun e => by have := (h.ow.lt N e).1; omega
  have hr : rPart (b.toNat : Int) = true := by rw [rPart_byte]; exact hb
  have hb0 : (0 : Int) ≤ (b.toNat : Int) := by omega
  have hb1 : (b.toNat : Int) ≤ 255 := by have := b.toNat_lt; omega
  go_enter Tryz.func53, Tryz.ntmps53
  go_wp2_with (first | (go_at_call 50; refine (inWord_any _ _).mono ?_; rintro e w' ⟨rfl, hq⟩; have hq' := hq.symm; subst hq') | (at_builtin; refine wpList_append_lies _ rfl _ _ 84 rfl (N + 5) 5 i0 (.int .u8 0) 1 1 Tryz.underlying84 hi0 hz0 hz1 hz2 rfl (by omega) vw st.word.length (st.word.map byteV) rfl (h.ow.alloc _) ⟨w.heap.size, 0, none⟩ 1 1 [byteV b] rfl rfl (word_news w (byteV b) 5) (by simp [Value.oneCell', byteV]) (by omega) (by unfold maxLen; omega) (by omega) (by simp; omega) (w.heap.size + 1) (by simp) ?_; intro g cap w1 hown1 hgrow hat hlt; have d1 := (hgrow.cell_far ⟨N, 0, none⟩ (by simp; omega) hne.symm).trans (alloc_cell _ cW); have d2 := (hgrow.frozen_far ⟨N, 0, none⟩ (by simp; omega) hne.symm).trans ((frozen?_alloc_cells _ _ _ _).trans fW)))
  go_ret
  have hK0 : Kept (fun k => k = N ∨ vw.ownBlock = some k) w w1 := (Kept.alloc w _ _).trans ((Kept.of_grown hgrow).mono fun k _ hk => .inr hk)
  have hK : Kept (fun k => k = N ∨ vw.ownBlock = some k) w (w1.setCell ⟨N, 0, none⟩ (.slice (some ⟨g, 0, none⟩) (st.word.length + 1) cap)) := hK0.trans ((Kept.set w1 N 0 _).mono fun k _ hk => .inl hk)
  have hgN : g ≠ N := by
    rcases hat with e | e
    · rintro rfl; exact hne e
    · omega
  refine ⟨rfl, hK.mono fun k _ hk => ?_, .slice (some ⟨g, 0, none⟩) (st.word.length + 1) cap, row, vs, ?_⟩
  · rcases hk with rfl | e
    · exact ⟨Nat.le_refl _, _, _, _, h.hw⟩
    · exact ⟨by have := (h.ow.lt k e).1; omega, isC_own h.ow e⟩
  · refine h.reword (word := st.word ++ [b]) hK (setCell_at (c := #[vw]) ?_) ?_ ?_ (by omega) (by simp; omega)
    · rw [hgrow.block N (by simp; omega) hne.symm, heap_alloc_old w _ (by omega)]; exact h.hw
    · have : ((st.word ++ [b]).map byteV) = st.word.map byteV ++ [byteV b] := by simp
      rw [this, List.length_append]
      exact own_kept hown1 (Kept.set w1 N 0 _) fun g' hg' e => by
        simp only [Value.ownBlock, Option.some.injEq] at hg'
        exact hgN (hg'.trans e)
    · intro g' hg'
      simp only [Value.ownBlock, Option.some.injEq] at hg'
      subst hg'
      rcases hat with e | e
      · exact .inl e
      · exact .inr (by omega)

theorem rest_endWord (st : St) (p : Nat) : (st.endWord p).rest = st.rest := by unfold St.endWord; split <;> rfl
theorem word_endWord (st : St) (p : Nat) : (st.endWord p).word = [] := by
  unfold St.endWord
  split
  · assumption
  · rfl

/-- A rune that is none of those that may stand in a text. -/
theorem take_bad {F : Nat → Prop} {N m : Nat} {w : World} {st : St} {vw : Value} {row : Array Value} {vs : List Value} (p : Nat) (r : Int)
    (h : Inv F N m w st vw row vs) (hm : m ≤ 100000) (hp : p ≤ 100000) (hwp : st.word.length ≤ p) (hr : rPart r = false) (h40 : (r == 40) = false) (h41 : (r == 41) = false) (h9 : (r == 9) = false) (h10 : (r == 10) = false) (h13 : (r == 13) = false) (h32 : (r == 32) = false) (h59 : (r == 59) = false) :
    Calls Tryz.prog 53 #[.int .i32 r, .int .i64 p, .pointer (some ⟨N, 0, none⟩), .pointer (some ⟨N + 4, 0, none⟩), .pointer (some ⟨N + 2, 0, none⟩), .pointer (some ⟨N + 3, 0, none⟩)] w fun e w' => e = .returned (.int .i64 2) ∧
      KeptN N w w' := by
  have cE := cell_of_one h.he
  go_enter Tryz.func53, Tryz.ntmps53
  go_wp2_with (first | (go_at_call 50; refine (inWord_any _ _).mono ?_; rintro e w' ⟨rfl, hq⟩; have hq' := hq.symm; subst hq') | (go_at_call 52; refine (endWord_inv p h hm hp hwp).mono ?_; rintro e w1 ⟨rfl, hk1, vw1, row1, vs1, hI1⟩))
  go_ret
  exact ⟨rfl, hk1⟩

/-- A blank. -/
theorem take_blank {F : Nat → Prop} {N m : Nat} {w : World} {st : St} {vw : Value} {row : Array Value} {vs : List Value} (p : Nat) (r : Int)
    (h : Inv F N m w st vw row vs) (hm : m ≤ 100000) (hp : p ≤ 100000) (hwp : st.word.length ≤ p) (hb : r = 9 ∨ r = 10 ∨ r = 13 ∨ r = 32 ∨ r = 59) :
    Calls Tryz.prog 53 #[.int .i32 r, .int .i64 p, .pointer (some ⟨N, 0, none⟩), .pointer (some ⟨N + 4, 0, none⟩), .pointer (some ⟨N + 2, 0, none⟩), .pointer (some ⟨N + 3, 0, none⟩)] w fun e w' => e = .returned (.int .i64 0) ∧
      KeptN N w w' ∧ ∃ vw' row' vs', Inv F N (m + 1) w' (st.endWord p) vw' row' vs' := by
  have cE := cell_of_one h.he
  have hr : rPart r = false := by unfold rPart; simp only [decide_eq_false_iff_not]; omega
  rcases hb with rfl | rfl | rfl | rfl | rfl
  all_goals
    go_enter Tryz.func53, Tryz.ntmps53
    go_wp2_with (first | (go_at_call 50; refine (inWord_any _ _).mono ?_; rintro e w' ⟨rfl, hq⟩; have hq' := hq.symm; subst hq') | (go_at_call 52; refine (endWord_inv p h hm hp hwp).mono ?_; rintro e w1 ⟨rfl, hk1, vw1, row1, vs1, hI1⟩))
    go_ret
    exact ⟨rfl, hk1, _, _, _, hI1⟩

/-- A bracket that would stand too deep. -/
theorem take_deep {F : Nat → Prop} {N m : Nat} {w : World} {st : St} {vw : Value} {row : Array Value} {vs : List Value} (p : Nat)
    (h : Inv F N m w st vw row vs) (hm : m ≤ 100000) (hp : p ≤ 100000) (hwp : st.word.length ≤ p) (hd : 24 ≤ st.rest.length) :
    Calls Tryz.prog 53 #[.int .i32 40, .int .i64 p, .pointer (some ⟨N, 0, none⟩), .pointer (some ⟨N + 4, 0, none⟩), .pointer (some ⟨N + 2, 0, none⟩), .pointer (some ⟨N + 3, 0, none⟩)] w fun e w' => e = .returned (.int .i64 4) ∧
      KeptN N w w' := by
  have cE := cell_of_one h.he
  have hr : rPart 40 = false := by decide
  have hlen := rest_endWord st p
  have hd1 : (24 : Int) < (st.rest.length : Int) + 1 := by omega
  go_enter Tryz.func53, Tryz.ntmps53
  go_wp2_with (first | (go_at_call 50; refine (inWord_any _ _).mono ?_; rintro e w' ⟨rfl, hq⟩; have hq' := hq.symm; subst hq') | (go_at_call 52; refine (endWord_inv p h hm hp hwp).mono ?_; rintro e w1 ⟨rfl, hk1, vw1, row1, vs1, hI1⟩; have cO := cell_of_one hI1.ho; rw [hlen] at cO))
  go_ret
  exact ⟨rfl, hk1⟩

/-- A bracket that closes nothing. -/
theorem take_none {F : Nat → Prop} {N m : Nat} {w : World} {st : St} {vw : Value} {row : Array Value} {vs : List Value} (p : Nat)
    (h : Inv F N m w st vw row vs) (hm : m ≤ 100000) (hp : p ≤ 100000) (hwp : st.word.length ≤ p) (hd : st.rest = []) :
    Calls Tryz.prog 53 #[.int .i32 41, .int .i64 p, .pointer (some ⟨N, 0, none⟩), .pointer (some ⟨N + 4, 0, none⟩), .pointer (some ⟨N + 2, 0, none⟩), .pointer (some ⟨N + 3, 0, none⟩)] w fun e w' => e = .returned (.int .i64 3) ∧
      KeptN N w w' := by
  have cE := cell_of_one h.he
  have hr : rPart 41 = false := by decide
  have hlen : (st.endWord p).rest.length = 0 := by rw [rest_endWord, hd]; rfl
  go_enter Tryz.func53, Tryz.ntmps53
  go_wp2_with (first | (go_at_call 50; refine (inWord_any _ _).mono ?_; rintro e w' ⟨rfl, hq⟩; have hq' := hq.symm; subst hq') | (go_at_call 52; refine (endWord_inv p h hm hp hwp).mono ?_; rintro e w1 ⟨rfl, hk1, vw1, row1, vs1, hI1⟩; have cO := cell_of_one hI1.ho; rw [hlen] at cO))
  go_ret
  exact ⟨rfl, hk1⟩
end Go.Proofs.YtbpdhegfdmppgaaGreatDoor

/- THE CONTRACT of the reader's third closure, brackets. -/
namespace Go.Proofs.YtbpdhegfdmppgaaGreatDoor
open Go.ChangeShapes Go.WideShapes Go.ChangeAt Go.RowKit

theorem Inv.push {F : Nat → Prop} {N m p : Nat} {w w' : World} {st : St} {vw : Value} {row row' : Array Value} {vs : List Value} (h : Inv F N m w st vw row vs) (hD : st.rest.length < 24)
    (hk : Kept (fun k => k = N + 1 ∨ k = N + 2) w w') (hr' : w'.heap[N + 1]? = some (.cells row' 66 (0, 0))) (rs' : row'.size = 100)
    (hlow : ∀ i, i < (st.rest.length + 1) * 4 → row'[i]? = row[i]?)
    (h0 : row'[(st.rest.length + 1) * 4]? = some (.bool true)) (h1 : row'[(st.rest.length + 1) * 4 + 1]? = some (.string ⟨#[]⟩)) (h2 : row'[(st.rest.length + 1) * 4 + 2]? = some (.slice none 0 0)) (h3 : row'[(st.rest.length + 1) * 4 + 3]? = some (.int .i64 p))
    (ho' : w'.heap[N + 2]? = some (.cells #[.slice (some ⟨N + 1, 0, none⟩) (st.rest.length + 1 + 1) 25] 23 (0, 0))) :
    Inv F N m w' { word := st.word, top := ⟨p, []⟩, rest := st.top :: st.rest } vw row' (.slice none 0 0 :: vs) := by
  have hN := h.lt
  have hwb := h.ow.lt
  have same : ∀ k, k < w.heap.size → k ≠ N + 1 → k ≠ N + 2 → w'.heap[k]? = w.heap[k]? := fun k hk1 h1 h2 => hk.block k hk1 fun x => x.elim h1 h2
  have hsz := hk.size
  refine { hw := ?_, ow := ?_, hr := hr', rs := rs', ho := ho', hp := ?_, he := ?_, dp := by simp only [List.length_cons]; omega, fs := ?_, F0 := ?_, FC := ?_, fw := ?_, bw := h.bw, bk := ?_ }
  · rw [same N (by omega) (by omega) (by omega)]; exact h.hw
  · exact own_kept h.ow hk fun g hg hm => by have := (hwb g hg).1; omega
  · rw [same (N + 3) (by omega) (by omega) (by omega)]; exact h.hp
  · rw [same (N + 4) (by omega) (by omega) (by omega)]; exact h.he
  · refine ⟨by simpa using h0, by simpa using h1, by simpa using h2, by simpa using h3, Kids.none _ _ _, fun g hg => by simp [Value.ownBlock] at hg, ?_⟩
    refine Fs.keep h.fs (fun i hi => hlow i (by simpa using hi)) (fun b hF hb => ⟨hF, same b hb (by have := (h.F0 b hF).1; omega) (by have := (h.F0 b hF).1; omega)⟩) fun v hv g hg => ?_
    obtain ⟨q1, q2, q3⟩ := Fs.base h.fs v hv g hg
    exact ⟨same g q2 (by omega) (by omega), q3⟩
  · exact fun b hF => ⟨(h.F0 b hF).1, by have := (h.F0 b hF).2; omega⟩
  · intro b hF
    unfold isC
    rw [same b (h.F0 b hF).2 (by have := (h.F0 b hF).1; omega) (by have := (h.F0 b hF).1; omega)]
    exact h.FC b hF
  · intro g hg
    refine ⟨(h.fw g hg).1, fun u hu e => ?_⟩
    rcases List.mem_cons.1 hu with rfl | hu
    · simp [Value.ownBlock] at e
    · exact (h.fw g hg).2 u hu e
  · intro f hf
    rcases List.mem_cons.1 hf with rfl | hf
    · exact Nat.zero_le _
    · exact h.bk f hf

/-- Behind the append of a zero node within the row's room. -/
theorem push_facts {w : World} {b D : Nat} {row : Array Value} {z0 z1 z2 z3 : Value} (o : Obj) (hb : w.heap[b]? = some (.cells row 66 (0, 0))) :
    Kept (fun k => k = b) w ((w.alloc o).drew.setCells b (0 + (D + 1) * 4) [z0, z1, z2, z3]) ∧ ∃ row2, ((w.alloc o).drew.setCells b (0 + (D + 1) * 4) [z0, z1, z2, z3]).heap[b]? = some (.cells row2 66 (0, 0)) ∧ row2.size = row.size ∧
      ∀ i, i < (D + 1) * 4 → row2[i]? = row[i]? := by
  have h1 : (w.alloc o).drew.heap[b]? = some (.cells row 66 (0, 0)) := (heap_alloc_old w o (lt_of_some hb)).trans hb
  refine ⟨?_, _, setCell_at (setCell_at (setCell_at (setCell_at h1))), by simp, fun i hi => ?_⟩
  · exact ((Kept.alloc w o _).drew).trans ((((Kept.set _ b _ _).trans (Kept.set _ b _ _)).trans (Kept.set _ b _ _)).trans (Kept.set _ b _ _))
  · rw [Array.getElem?_setIfInBounds_ne (by omega), Array.getElem?_setIfInBounds_ne (by omega), Array.getElem?_setIfInBounds_ne (by omega), Array.getElem?_setIfInBounds_ne (by omega)]

theorem push_there {w : World} {b D : Nat} {row : Array Value} (hb : w.heap[b]? = some (.cells row 66 (0, 0))) (hs : row.size = 100) (hD : D < 24) :
    ∃ u0 u1 u2 u3, w.cell? ⟨b, (D + 1) * 4, none⟩ = some u0 ∧ w.cell? ⟨b, (D + 1) * 4 + 1, none⟩ = some u1 ∧ w.cell? ⟨b, (D + 1) * 4 + 2, none⟩ = some u2 ∧ w.cell? ⟨b, (D + 1) * 4 + 3, none⟩ = some u3 ∧ ∀ o, w.frozen? ⟨b, o, none⟩ = false := by
  have e : ∀ i (hi : i < row.size), w.cell? ⟨b, i, none⟩ = some row[i] := fun i hi => by simp [World.cell?, hb, hi]
  exact ⟨_, _, _, _, e _ (by omega), e _ (by omega), e _ (by omega), e _ (by omega), fun o => by simp [World.frozen?, hb]⟩

theorem KeptN.trans' {N : Nat} {a b c : World} {P : Prop} (h : KeptN N a b) (k : KeptN N b c ∧ P) : KeptN N a c ∧ P := ⟨h.trans k.1, k.2⟩

theorem push_end {F : Nat → Prop} {N m p D : Nat} {w1 w2 w3 : World} {st : St} {vw : Value} {row1 row2 : Array Value} {vs : List Value} (h : Inv F N m w1 st vw row1 vs) (HD : st.rest.length = D) (hd24 : D < 24)
    (hK2 : Kept (fun k => k = N + 1) w1 w2) (hR2 : w2.heap[N + 1]? = some (.cells row2 66 (0, 0))) (hS2 : row2.size = row1.size) (hL2 : ∀ i, i < (D + 1) * 4 → row2[i]? = row1[i]?)
    (hO2 : w2.heap[N + 2]? = some (.cells #[.slice (some ⟨N + 1, 0, none⟩) (D + 1) 25] 23 (0, 0)))
    (hw3 : w3 = ((((w2.setCell ⟨N + 1, (D + 1) * 4, none⟩ (.bool true)).setCell ⟨N + 1, (D + 1) * 4 + 1, none⟩ (.string ⟨#[]⟩)).setCell ⟨N + 1, (D + 1) * 4 + 2, none⟩ (.slice none 0 0)).setCell ⟨N + 1, (D + 1) * 4 + 3, none⟩ (.int .i64 p)).setCell ⟨N + 2, 0, none⟩ (.slice (some ⟨N + 1, 0, none⟩) (D + 1 + 1) 25) ∨
      w3 = ((((w2.setCell ⟨N + 2, 0, none⟩ (.slice (some ⟨N + 1, 0, none⟩) (D + 1 + 1) 25)).setCell ⟨N + 1, (D + 1) * 4, none⟩ (.bool true)).setCell ⟨N + 1, (D + 1) * 4 + 1, none⟩ (.string ⟨#[]⟩)).setCell ⟨N + 1, (D + 1) * 4 + 2, none⟩ (.slice none 0 0)).setCell ⟨N + 1, (D + 1) * 4 + 3, none⟩ (.int .i64 p)) :
    KeptN N w1 w3 ∧ ∃ vw' row' vs', Inv F N m w3 { word := st.word, top := ⟨p, []⟩, rest := st.top :: st.rest } vw' row' vs' := by
  have hrs := h.rs
  have set1 : ∀ (w : World) (o : Nat) (v : Value), Kept (fun k => k = N + 1 ∨ k = N + 2) w (w.setCell ⟨N + 1, o, none⟩ v) := fun w o v => (Kept.set w (N + 1) o v).mono fun k _ hk => .inl hk
  have set2 : ∀ (w : World) (o : Nat) (v : Value), Kept (fun k => k = N + 1 ∨ k = N + 2) w (w.setCell ⟨N + 2, o, none⟩ v) := fun w o v => (Kept.set w (N + 2) o v).mono fun k _ hk => .inr hk
  have hK : Kept (fun k => k = N + 1 ∨ k = N + 2) w1 w3 := by
    refine (hK2.mono fun k _ hk => .inl hk).trans ?_
    rcases hw3 with rfl | rfl
    · exact ((((set1 _ _ _).trans (set1 _ _ _)).trans (set1 _ _ _)).trans (set1 _ _ _)).trans (set2 _ _ _)
    · exact ((((set2 _ _ _).trans (set1 _ _ _)).trans (set1 _ _ _)).trans (set1 _ _ _)).trans (set1 _ _ _)
  have hR : w3.heap[N + 1]? = some (.cells ((((row2.setIfInBounds ((D + 1) * 4) (.bool true)).setIfInBounds ((D + 1) * 4 + 1) (.string ⟨#[]⟩)).setIfInBounds ((D + 1) * 4 + 2) (.slice none 0 0)).setIfInBounds ((D + 1) * 4 + 3) (.int .i64 p)) 66 (0, 0)) := by
    rcases hw3 with rfl | rfl
    · rw [setCell_other (by omega)]
      exact setCell_at (setCell_at (setCell_at (setCell_at hR2)))
    · exact setCell_at (setCell_at (setCell_at (setCell_at (by rw [setCell_other (by omega)]; exact hR2))))
  have hO : w3.heap[N + 2]? = some (.cells #[.slice (some ⟨N + 1, 0, none⟩) (D + 1 + 1) 25] 23 (0, 0)) := by
    rcases hw3 with rfl | rfl
    · refine setCell_at (c := #[.slice (some ⟨N + 1, 0, none⟩) (D + 1) 25]) ?_
      rw [setCell_other (by omega), setCell_other (by omega), setCell_other (by omega), setCell_other (by omega)]
      exact hO2
    · rw [setCell_other (by omega), setCell_other (by omega), setCell_other (by omega), setCell_other (by omega)]
      exact setCell_at hO2
  refine ⟨hK.mono fun k _ hk => ⟨by omega, by rcases hk with rfl | rfl; exact ⟨_, _, _, h.hr⟩; exact ⟨_, _, _, h.ho⟩⟩, vw, _, _, h.push (by omega) hK hR (by simp; omega) (fun i hi => ?_) ?_ ?_ ?_ ?_ (by rw [HD]; exact hO)⟩
  · rw [Array.getElem?_setIfInBounds_ne (by omega), Array.getElem?_setIfInBounds_ne (by omega), Array.getElem?_setIfInBounds_ne (by omega), Array.getElem?_setIfInBounds_ne (by omega)]
    exact hL2 i (by omega)
  · rw [HD, Array.getElem?_setIfInBounds_ne (by omega), Array.getElem?_setIfInBounds_ne (by omega), Array.getElem?_setIfInBounds_ne (by omega), Array.getElem?_setIfInBounds_self_of_lt (by omega)]
  · rw [HD, Array.getElem?_setIfInBounds_ne (by omega), Array.getElem?_setIfInBounds_ne (by omega), Array.getElem?_setIfInBounds_self_of_lt (by simp; omega)]
  · rw [HD, Array.getElem?_setIfInBounds_ne (by omega), Array.getElem?_setIfInBounds_self_of_lt (by simp; omega)]
  · rw [HD, Array.getElem?_setIfInBounds_self_of_lt (by simp; omega)]

attribute [local go_sem ↓] Go.wp_at_zero Go.wp_at_succ

set_option maxRecDepth 100000 in
set_option maxHeartbeats 3200000 in
/-- A bracket that opens a list. -/
theorem take_open {F : Nat → Prop} {N m : Nat} {w : World} {st : St} {vw : Value} {row : Array Value} {vs : List Value} (p : Nat)
    (h : Inv F N m w st vw row vs) (hm : m ≤ 100000) (hp : p ≤ 100000) (hwp : st.word.length ≤ p) (hd : st.rest.length < 24) :
    Calls Tryz.prog 53 #[.int .i32 40, .int .i64 p, .pointer (some ⟨N, 0, none⟩), .pointer (some ⟨N + 4, 0, none⟩), .pointer (some ⟨N + 2, 0, none⟩), .pointer (some ⟨N + 3, 0, none⟩)] w fun e w' => e = .returned (.int .i64 0) ∧
      KeptN N w w' ∧ ∃ vw' row' vs', Inv F N (m + 1) w' { word := (st.endWord p).word, top := ⟨p, []⟩, rest := (st.endWord p).top :: (st.endWord p).rest } vw' row' vs' := by
  obtain ⟨i0, hi0, hz0, hz1, hz2⟩ := info_parts Tryz.info66
  have cE := cell_of_one h.he
  have hr : rPart 40 = false := by decide
  obtain ⟨D, hD⟩ : ∃ D, (st.endWord p).rest.length = D := ⟨_, rfl⟩
  have hd24 : D < 24 := by rw [← hD, rest_endWord]; exact hd
  have HD : Hid ((st.endWord p).rest.length = D) := hD
  clear hD hd
  have hd0 : (0 : Int) ≤ (D : Int) + 1 := by omega
  have hd1 : ¬ (24 : Int) < (D : Int) + 1 := by omega
  have hd2 : (D : Int) + 1 < (D : Int) + 1 + 1 := by omega
  go_enter Tryz.func53, Tryz.ntmps53
  go_wp2_with (first | (go_at_call 50; refine (inWord_any _ _).mono ?_; rintro e w' ⟨rfl, hq⟩; have hq' := hq.symm; subst hq') | (go_at_call 52; refine (endWord_inv p h hm hp hwp).mono ?_; rintro e w1 ⟨rfl, hk1, vw1, row1, vs1, hI1⟩; have hO : w1.heap[N + 2]? = some (.cells #[.slice (some ⟨N + 1, 0, none⟩) (D + 1) 25] 23 (0, 0)) := (by rw [← HD.out]; exact hI1.ho); have cO := cell_of_one hO; have fO := free_of_one hO))
  have cO' : ∀ c t, (w1.alloc (.cells c t)).cell? ⟨N + 2, 0, none⟩ = some (.slice (some ⟨N + 1, 0, none⟩) (D + 1) 25) := fun c t => alloc_cell _ cO
  have hRow := hI1.hr
  have hsp : Hid (∀ j, j < 4 → ∀ c t, ((w1.alloc (.cells c t)).drew.cell? ⟨N + 1, 0 + (D + 1) * 4 + j, none⟩).isSome = true ∧ (w1.alloc (.cells c t)).drew.frozen? ⟨N + 1, 0 + (D + 1) * 4 + j, none⟩ = false) := fun j hj c t => by
    have hs := hI1.rs
    have e : w1.cell? ⟨N + 1, 0 + (D + 1) * 4 + j, none⟩ = some (row1[0 + (D + 1) * 4 + j]'(by omega)) := by
      have : 0 + (D + 1) * 4 + j < row1.size := by omega
      simp [World.cell?, hRow]
    exact ⟨by show ((w1.alloc (.cells c t)).cell? _).isSome = true; rw [alloc_cell _ e]; rfl, (frozen?_alloc_cells _ _ _ _).trans (by simp [World.frozen?, hRow])⟩
  clear hRow
  go_region_law ((refine step_append_room rfl (.tmp 27) (.tmp 31) 23 rfl 66 i0 4 Tryz.underlying23 hi0 hz1 (N + 1) 0 (D + 1) 25 (by rfl) ⟨w1.heap.size, 0, none⟩ 1 1 [.bool false, .string ⟨#[]⟩, .slice none 0 0, .int .i64 0] (by rfl) (by rfl) (World.news_of_block (cs := #[.bool false, .string ⟨#[]⟩, .slice none 0 0, .int .i64 0]) (t := 66) (fr := (0, 0)) (heap_alloc_new w1 _)) (by simp [Value.oneCell']) (by omega) (fun j hj => hsp.out j hj _ _) ?_; obtain ⟨hK2, row2, hR2, hS2, hL2⟩ := push_facts (D := D) (z0 := .bool false) (z1 := .string ⟨#[]⟩) (z2 := .slice none 0 0) (z3 := .int .i64 0) (Obj.cells #[.bool false, .string ⟨#[]⟩, .slice none 0 0, .int .i64 0] 66) hI1.hr; generalize World.setCells _ _ _ _ = w2 at hK2 hR2 ⊢; obtain ⟨u0, u1, u2, u3, q0, q1, q2, q3, q4⟩ := push_there hR2 (hS2.trans hI1.rs) hd24; have hO2 : w2.heap[N + 2]? = some (.cells #[.slice (some ⟨N + 1, 0, none⟩) (D + 1) 25] 23 (0, 0)) := (hK2.block _ (lt_of_some hO) (by omega)).trans hO; have cO2 := cell_of_one hO2; have fO2 := free_of_one hO2))
  all_goals
    go_wp2_with fail
    go_ret
    refine ⟨rfl, hk1.trans' (push_end (p := p) hI1 HD.out hd24 hK2 hR2 hS2 hL2 hO2 ?_)⟩
    first | (refine Or.inl ?_; with_reducible rfl) | (refine Or.inr ?_; with_reducible rfl)
end Go.Proofs.YtbpdhegfdmppgaaGreatDoor

/- THE CONTRACT of the reader's third closure: a bracket that closes a list; of the fourth: the end. -/
namespace Go.Proofs.YtbpdhegfdmppgaaGreatDoor
open Go.ChangeShapes Go.WideShapes Go.ChangeAt Go.RowKit

theorem Inv.pop {F : Nat → Prop} {N m : Nat} {w w' : World} {st : St} {vw v : Value} {row : Array Value} {vs : List Value} {f : Fr} {r : List Fr} (h : Inv F N m w st vw row (v :: vs)) (hst : st.rest = f :: r)
    (hk : Kept (fun k => k = N + 2) w w') (ho' : w'.heap[N + 2]? = some (.cells #[.slice (some ⟨N + 1, 0, none⟩) (r.length + 1) 25] 23 (0, 0))) :
    Inv (fun b => F b ∨ v.ownBlock = some b) N m w' { word := st.word, top := f, rest := r } vw row vs := by
  have hN := h.lt
  have hwb := h.ow.lt
  have hfs := h.fs
  rw [hst] at hfs
  obtain ⟨_, _, _, _, hkids, hdis, htail⟩ := hfs
  have hdp := h.dp
  have hbk := h.bk
  rw [hst] at hdp hbk
  have same : ∀ k, k < w.heap.size → k ≠ N + 2 → w'.heap[k]? = w.heap[k]? := fun k hk1 h1 => hk.block k hk1 h1
  have hsz := hk.size
  have vb := hkids.base
  refine { hw := ?_, ow := ?_, hr := ?_, rs := h.rs, ho := ho', hp := ?_, he := ?_, dp := by show r.length < 25; simp only [List.length_cons] at hdp; omega, fs := ?_, F0 := ?_, FC := ?_, fw := ?_, bw := h.bw, bk := fun g hg => hbk g (by simp only [List.mem_cons] at hg ⊢; exact .inr hg) }
  · rw [same N (by omega) (by omega)]; exact h.hw
  · exact own_kept h.ow hk fun g hg hm => by have := (hwb g hg).1; omega
  · rw [same (N + 1) (by omega) (by omega)]; exact h.hr
  · rw [same (N + 3) (by omega) (by omega)]; exact h.hp
  · rw [same (N + 4) (by omega) (by omega)]; exact h.he
  · refine Fs.keep htail (fun i _ => rfl) (fun b hF hb => ⟨.inl hF, same b hb (by have := (h.F0 b hF).1; omega)⟩) fun u hu g hg => ?_
    obtain ⟨q1, q2, q3⟩ := Fs.base htail u hu g hg
    exact ⟨same g q2 (by omega), fun x => x.elim q3 fun e => (hdis g e).2 u hu hg⟩
  · rintro b (hF | e)
    · exact ⟨(h.F0 b hF).1, by have := (h.F0 b hF).2; omega⟩
    · exact ⟨(vb b e).1, by have := (vb b e).2; omega⟩
  · intro b hb
    have hC : isC w b := by
      rcases hb with hF | e
      · exact h.FC b hF
      · obtain ⟨_, ho0, _⟩ := hkids
        exact isC_own ho0 e
    have hb5 : N + 5 ≤ b ∧ b < w.heap.size := by
      rcases hb with hF | e
      · exact h.F0 b hF
      · exact vb b e
    unfold isC
    rw [same b hb5.2 (by omega)]
    exact hC
  · intro g hg
    obtain ⟨q1, q2⟩ := h.fw g hg
    exact ⟨fun x => x.elim q1 fun e => q2 v (by simp) e, fun u hu => q2 u (by simp [hu])⟩

theorem close_facts {F : Nat → Prop} {N m D : Nat} {w1 : World} {st : St} {vw1 : Value} {row1 : Array Value} {vs1 : List Value} {f : Fr} {r : List Fr} (hI1 : Inv F N m w1 st vw1 row1 vs1) (HR : st.rest = f :: r) (HD : r.length = D) :
    ∃ va vc vs2, Hid (st.top.kids.length ≤ vc) ∧ Hid (Inv F N m w1 st vw1 row1 (.slice va st.top.kids.length vc :: vs2)) ∧ Row (fun b => F b ∨ (Value.slice va st.top.kids.length vc).ownBlock = some b) w1 va st.top.kids ∧
      w1.cell? ⟨N + 2, 0, none⟩ = some (.slice (some ⟨N + 1, 0, none⟩) (D + 1 + 1) 25) ∧ w1.frozen? ⟨N + 2, 0, none⟩ = false ∧
      w1.cell? ⟨N + 1, (D + 1) * 4, none⟩ = some (.bool true) ∧ w1.cell? ⟨N + 1, (D + 1) * 4 + 1, none⟩ = some (.string ⟨#[]⟩) ∧ w1.cell? ⟨N + 1, (D + 1) * 4 + 2, none⟩ = some (.slice va st.top.kids.length vc) ∧
      w1.cell? ⟨N + 1, (D + 1) * 4 + 3, none⟩ = some (.int .i64 st.top.pos) ∧ w1.cell? ⟨N + 3, 0, none⟩ = some (.func (.func 51) #[] #[.pointer (some ⟨N + 2, 0, none⟩)]) ∧ N + 5 ≤ w1.heap.size := by
  obtain ⟨v, vs2, rfl⟩ := hI1.top
  have hO : w1.heap[N + 2]? = some (.cells #[.slice (some ⟨N + 1, 0, none⟩) (D + 1 + 1) 25] 23 (0, 0)) := by have := hI1.ho; rw [HR, List.length_cons, HD] at this; exact this
  have hfs := hI1.fs
  rw [HR] at hfs
  obtain ⟨f0, f1, f2, f3, hkids, hdis, htail⟩ := hfs
  obtain ⟨va, vc, rfl, hrow, hcap⟩ := hkids.rd (T := fun b => F b ∨ v.ownBlock = some b) (fun b hb => .inl hb) fun g hg => .inr hg
  rw [List.length_cons, HD] at f0 f1 f2 f3
  have hR := hI1.hr
  exact ⟨va, vc, vs2, hcap, hI1, hrow, cell_of_one hO, free_of_one hO, by simp [World.cell?, hR, f0], by simp [World.cell?, hR, f1], by simp [World.cell?, hR, f2], by simp [World.cell?, hR, f3], cell_of_one hI1.hp, hI1.lt⟩

theorem close_pop {F : Nat → Prop} {N m D : Nat} {w1 : World} {st : St} {vw v : Value} {row : Array Value} {vs : List Value} {f : Fr} {r : List Fr} {va : Option Addr} {ks : List Nd} (o : Obj) (h : Inv F N m w1 st vw row (v :: vs)) (HR : st.rest = f :: r) (HD : r.length = D)
    (hrow : Row (fun b => F b ∨ v.ownBlock = some b) w1 va ks) :
    KeptN N w1 ((w1.alloc o).setCell ⟨N + 2, 0, none⟩ (.slice (some ⟨N + 1, 0, none⟩) (D + 1) 25)) ∧
    Inv (fun b => F b ∨ v.ownBlock = some b) N m ((w1.alloc o).setCell ⟨N + 2, 0, none⟩ (.slice (some ⟨N + 1, 0, none⟩) (D + 1) 25)) { word := st.word, top := f, rest := r } vw row vs ∧
    Row (fun b => F b ∨ v.ownBlock = some b) ((w1.alloc o).setCell ⟨N + 2, 0, none⟩ (.slice (some ⟨N + 1, 0, none⟩) (D + 1) 25)) va ks := by
  have hk : Kept (fun k => k = N + 2) w1 ((w1.alloc o).setCell ⟨N + 2, 0, none⟩ (.slice (some ⟨N + 1, 0, none⟩) (D + 1) 25)) := (Kept.alloc w1 o _).trans (Kept.set _ (N + 2) 0 _)
  have hN := h.lt
  have hI := h.pop HR hk (by rw [HD]; exact setCell_at (c := #[.slice (some ⟨N + 1, 0, none⟩) (st.rest.length + 1) 25]) (by rw [heap_alloc_old w1 o (by omega)]; exact h.ho))
  refine ⟨hk.mono fun k _ e => ⟨by omega, by subst e; exact ⟨_, _, _, h.ho⟩⟩, hI, hrow.mono fun b hb hlt => ⟨hb, hk.block b hlt ?_⟩⟩
  have := (hI.F0 b hb).1
  omega

theorem end_facts {F : Nat → Prop} {N m : Nat} {w1 : World} {st : St} {vw1 : Value} {row1 : Array Value} {vs1 : List Value} (hI1 : Inv F N m w1 st vw1 row1 vs1) (HR : st.rest = []) :
    ∃ v, Rd (fun b => N ≤ b) w1 v st.top.kids ∧ w1.cell? ⟨N + 2, 0, none⟩ = some (.slice (some ⟨N + 1, 0, none⟩) 1 25) ∧ w1.cell? ⟨N + 1, 2, none⟩ = some v := by
  obtain ⟨v, vs2, rfl⟩ := hI1.top
  have hO : w1.heap[N + 2]? = some (.cells #[.slice (some ⟨N + 1, 0, none⟩) 1 25] 23 (0, 0)) := by have := hI1.ho; rw [HR] at this; exact this
  have hfs := hI1.fs
  rw [HR] at hfs
  obtain ⟨f0, f1, f2, f3, hkids, hdis, htail⟩ := hfs
  have hR := hI1.hr
  have F0 := hI1.F0
  refine ⟨v, hkids.rd (fun b hb => by have := (F0 b hb).1; omega) (fun g hg => by have := (hkids.base g hg).1; omega), cell_of_one hO, ?_⟩
  simpa [World.cell?, hR] using f2

set_option maxRecDepth 100000 in
set_option maxHeartbeats 3200000 in
/-- A bracket that closes a list. -/
theorem take_close {F : Nat → Prop} {N m : Nat} {w : World} {st : St} {vw : Value} {row : Array Value} {vs : List Value} (p : Nat) (f : Fr) (r : List Fr)
    (h : Inv F N m w st vw row vs) (hm : m ≤ 99999) (hp : p ≤ 100000) (hwp : st.word.length ≤ p) (hd : st.rest = f :: r) :
    Calls Tryz.prog 53 #[.int .i32 41, .int .i64 p, .pointer (some ⟨N, 0, none⟩), .pointer (some ⟨N + 4, 0, none⟩), .pointer (some ⟨N + 2, 0, none⟩), .pointer (some ⟨N + 3, 0, none⟩)] w fun e w' => e = .returned (.int .i64 0) ∧
      KeptN N w w' ∧ ∃ F' vw' row' vs', Inv F' N (m + 2) w' { word := (st.endWord p).word, top := { f with kids := f.kids ++ [.mk true [] (st.endWord p).top.kids (st.endWord p).top.pos] }, rest := r } vw' row' vs' := by
  have cE := cell_of_one h.he
  have hr : rPart 41 = false := by decide
  have hrest : (st.endWord p).rest = f :: r := by rw [rest_endWord]; exact hd
  obtain ⟨D, hD⟩ : ∃ D, r.length = D := ⟨_, rfl⟩
  have HD : Hid (r.length = D) := hD
  have HR : Hid ((st.endWord p).rest = f :: r) := hrest
  have hd24 : D < 24 := by have := h.dp; rw [hd] at this; simp only [List.length_cons] at this; omega
  clear hD hd hrest
  have hd0 : (0 : Int) ≤ (D : Int) + 1 := by omega
  have hd1 : (D : Int) + 1 < (D : Int) + 1 + 1 := by omega
  have hd2 : (D : Int) + 1 ≤ 25 := by omega
  have hd3 : ¬ ((D : Int) + 1 = 0) := by omega
  go_enter Tryz.func53, Tryz.ntmps53
  go_wp2_with (first | (go_at_call 50; refine (inWord_any _ _).mono ?_; rintro e w' ⟨rfl, hq⟩; have hq' := hq.symm; subst hq') | (go_at_call 52; refine (endWord_inv p h (by omega) hp hwp).mono ?_; rintro e w1 ⟨rfl, hk1, vw1, row1, vs1, hI1⟩; obtain ⟨va, vc, vs2, HCAP, HI, hrow, cO, fO, g0, g1, g2, g3, cP, hlt⟩ := close_facts hI1 HR.out HD.out; clear hI1; have cO' : ∀ c t, (w1.alloc (.cells c t)).cell? ⟨N + 2, 0, none⟩ = some (.slice (some ⟨N + 1, 0, none⟩) (D + 1 + 1) 25) := fun c t => alloc_cell _ cO; have cP' : ∀ c t, (w1.alloc (.cells c t)).cell? ⟨N + 3, 0, none⟩ = some (.func (.func 51) #[] #[.pointer (some ⟨N + 2, 0, none⟩)]) := fun c t => alloc_cell _ cP; have fO' : ∀ c t, (w1.alloc (.cells c t)).frozen? ⟨N + 2, 0, none⟩ = false := fun c t => (frozen?_alloc_cells _ _ _ _).trans fO; have hne : w1.heap.size ≠ N + 2 := (by omega); have hne' : N + 2 ≠ w1.heap.size := (by omega); obtain ⟨hk2, hI2, hrow2⟩ := close_pop (.cells #[.bool true, .string ⟨#[]⟩, .slice va (st.endWord p).top.kids.length vc, .int .i64 (st.endWord p).top.pos] 66) HI.out HR.out HD.out hrow) | (go_at_call 51; refine (put_inv true [] (st.endWord p).top.kids _ va _ vc hI2 (by omega) hrow2 rfl HCAP.out).mono ?_; rintro e w3 ⟨rfl, hk3, row3, vs3, hI3⟩))
  go_ret
  exact ⟨rfl, (hk1.trans hk2).trans hk3, _, _, _, _, hI3⟩

/-- The end: a list still goes on. -/
theorem end_open {F : Nat → Prop} {N m : Nat} {w : World} {st : St} {vw : Value} {row : Array Value} {vs : List Value} (p : Nat)
    (h : Inv F N m w st vw row vs) (hd : st.rest ≠ []) :
    Calls Tryz.prog 54 #[.int .i64 p, .pointer (some ⟨N + 2, 0, none⟩), .pointer (some ⟨N + 4, 0, none⟩)] w fun e w' => e = .returned (.tuple #[.slice none 0 0, .int .i64 3]) ∧ w' = w := by
  have cO := cell_of_one h.ho
  have hl : (0 : Int) < (st.rest.length : Int) := by have := List.length_pos_iff.2 hd; omega
  go_enter Tryz.func54, Tryz.ntmps54
  go_wp2_with fail
  go_ret2
  exact ⟨rfl, rfl⟩

theorem end_done {F : Nat → Prop} {N m : Nat} {w : World} {st : St} {vw : Value} {row : Array Value} {vs : List Value} (p : Nat)
    (h : Inv F N m w st vw row vs) (hm : m ≤ 100000) (hp : p ≤ 100000) (hwp : st.word.length ≤ p) (hd : st.rest = []) :
    Calls Tryz.prog 54 #[.int .i64 p, .pointer (some ⟨N + 2, 0, none⟩), .pointer (some ⟨N + 4, 0, none⟩)] w fun e w' => ∃ v, e = .returned (.tuple #[v, .int .i64 0]) ∧
      KeptN N w w' ∧ Rd (fun b => N ≤ b) w' v (st.endWord p).top.kids := by
  have hO : w.heap[N + 2]? = some (.cells #[.slice (some ⟨N + 1, 0, none⟩) 1 25] 23 (0, 0)) := by have := h.ho; rw [hd] at this; exact this
  have cO := cell_of_one hO
  have cE := cell_of_one h.he
  go_enter Tryz.func54, Tryz.ntmps54
  go_wp2_with (go_at_call 52; refine (endWord_inv p h hm hp hwp).mono ?_; rintro e w1 ⟨rfl, hk1, vw1, row1, vs1, hI1⟩; obtain ⟨v, hv, hO1, hc⟩ := end_facts hI1 ((rest_endWord st p).trans hd))
  go_ret2
  exact ⟨v, rfl, hk1, hv⟩
end Go.Proofs.YtbpdhegfdmppgaaGreatDoor
