/- THE CONTRACT of the reader's third closure, brackets. -/
import Derived.Test.YtbedhghcdhbkmaaTake
namespace Go.Proofs.Ytbedhghcdhbkmaa
open Go.ChangeShapes Go.WideShapes Go.ChangeAt Go.RowKit

theorem Inv.push {F : Nat → Prop} {N m p : Nat} {w w' : World} {st : St} {vw : Value} {row row' : Array Value} {vs : List Value} (h : Inv F N m w st vw row vs) (hD : st.rest.length < 24)
    (hk : Kept (fun k => k = N + 1 ∨ k = N + 2) w w') (hr' : w'.heap[N + 1]? = some (.cells row' 37 (0, 0))) (rs' : row'.size = 100)
    (hlow : ∀ i, i < (st.rest.length + 1) * 4 → row'[i]? = row[i]?)
    (h0 : row'[(st.rest.length + 1) * 4]? = some (.bool true)) (h1 : row'[(st.rest.length + 1) * 4 + 1]? = some (.string ⟨#[]⟩)) (h2 : row'[(st.rest.length + 1) * 4 + 2]? = some (.slice none 0 0)) (h3 : row'[(st.rest.length + 1) * 4 + 3]? = some (.int .i64 p))
    (ho' : w'.heap[N + 2]? = some (.cells #[.slice (some ⟨N + 1, 0, none⟩) (st.rest.length + 1 + 1) 25] 23 (0, 0))) :
    Inv F N m w' { word := st.word, top := ⟨p, []⟩, rest := st.top :: st.rest } vw row' (.slice none 0 0 :: vs) := by
  have hN := h.lt
  have hwb := h.ow.lt
  have same : ∀ k, k < w.heap.size → k ≠ N + 1 → k ≠ N + 2 → w'.heap[k]? = w.heap[k]? := fun k hk1 h1 h2 => hk.block k hk1 fun x => x.elim h1 h2
  have hsz := hk.size
  refine { hw := ?_, ow := ?_, hr := hr', rs := rs', ho := ho', hp := ?_, he := ?_, dp := by simp only [List.length_cons]; omega, fs := ?_, F0 := ?_, FC := ?_, fw := ?_, bw := h.bw, bk := ?_ }
  · rw [same N (by omega) (by omega) (by omega)]; exact h.hw
  · exact own_kept h.ow hk fun g hg hm => by have := (hwb g hg).1; omega
  · rw [same (N + 3) (by omega) (by omega) (by omega)]; exact h.hp
  · rw [same (N + 4) (by omega) (by omega) (by omega)]; exact h.he
  · refine ⟨by simpa using h0, by simpa using h1, by simpa using h2, by simpa using h3, Kids.none _ _ _, fun g hg => by simp [Value.ownBlock] at hg, ?_⟩
    refine Fs.keep h.fs (fun i hi => hlow i (by simpa using hi)) (fun b hF hb => ⟨hF, same b hb (by have := (h.F0 b hF).1; omega) (by have := (h.F0 b hF).1; omega)⟩) fun v hv g hg => ?_
    obtain ⟨q1, q2, q3⟩ := Fs.base h.fs v hv g hg
    exact ⟨same g q2 (by omega) (by omega), q3⟩
  · exact fun b hF => ⟨(h.F0 b hF).1, by have := (h.F0 b hF).2; omega⟩
  · intro b hF
    unfold isC
    rw [same b (h.F0 b hF).2 (by have := (h.F0 b hF).1; omega) (by have := (h.F0 b hF).1; omega)]
    exact h.FC b hF
  · intro g hg
    refine ⟨(h.fw g hg).1, fun u hu e => ?_⟩
    rcases List.mem_cons.1 hu with rfl | hu
    · simp [Value.ownBlock] at e
    · exact (h.fw g hg).2 u hu e
  · intro f hf
    rcases List.mem_cons.1 hf with rfl | hf
    · exact Nat.zero_le _
    · exact h.bk f hf

/-- Behind the append of a zero node within the row's room. -/
theorem push_facts {w : World} {b D : Nat} {row : Array Value} {z0 z1 z2 z3 : Value} (o : Obj) (hb : w.heap[b]? = some (.cells row 37 (0, 0))) :
    Kept (fun k => k = b) w ((w.alloc o).drew.setCells b (0 + (D + 1) * 4) [z0, z1, z2, z3]) ∧ ∃ row2, ((w.alloc o).drew.setCells b (0 + (D + 1) * 4) [z0, z1, z2, z3]).heap[b]? = some (.cells row2 37 (0, 0)) ∧ row2.size = row.size ∧
      ∀ i, i < (D + 1) * 4 → row2[i]? = row[i]? := by
  have h1 : (w.alloc o).drew.heap[b]? = some (.cells row 37 (0, 0)) := (heap_alloc_old w o (lt_of_some hb)).trans hb
  refine ⟨?_, _, setCell_at (setCell_at (setCell_at (setCell_at h1))), by simp, fun i hi => ?_⟩
  · exact ((Kept.alloc w o _).drew).trans ((((Kept.set _ b _ _).trans (Kept.set _ b _ _)).trans (Kept.set _ b _ _)).trans (Kept.set _ b _ _))
  · rw [Array.getElem?_setIfInBounds_ne (by omega), Array.getElem?_setIfInBounds_ne (by omega), Array.getElem?_setIfInBounds_ne (by omega), Array.getElem?_setIfInBounds_ne (by omega)]

theorem push_there {w : World} {b D : Nat} {row : Array Value} (hb : w.heap[b]? = some (.cells row 37 (0, 0))) (hs : row.size = 100) (hD : D < 24) :
    ∃ u0 u1 u2 u3, w.cell? ⟨b, (D + 1) * 4, none⟩ = some u0 ∧ w.cell? ⟨b, (D + 1) * 4 + 1, none⟩ = some u1 ∧ w.cell? ⟨b, (D + 1) * 4 + 2, none⟩ = some u2 ∧ w.cell? ⟨b, (D + 1) * 4 + 3, none⟩ = some u3 ∧ ∀ o, w.frozen? ⟨b, o, none⟩ = false := by
  have e : ∀ i (hi : i < row.size), w.cell? ⟨b, i, none⟩ = some row[i] := fun i hi => by simp [World.cell?, hb, hi]
  exact ⟨_, _, _, _, e _ (by omega), e _ (by omega), e _ (by omega), e _ (by omega), fun o => by simp [World.frozen?, hb]⟩

theorem KeptN.trans' {N : Nat} {a b c : World} {P : Prop} (h : KeptN N a b) (k : KeptN N b c ∧ P) : KeptN N a c ∧ P := ⟨h.trans k.1, k.2⟩

theorem push_end {F : Nat → Prop} {N m p D : Nat} {w1 w2 w3 : World} {st : St} {vw : Value} {row1 row2 : Array Value} {vs : List Value} (h : Inv F N m w1 st vw row1 vs) (HD : st.rest.length = D) (hd24 : D < 24)
    (hK2 : Kept (fun k => k = N + 1) w1 w2) (hR2 : w2.heap[N + 1]? = some (.cells row2 37 (0, 0))) (hS2 : row2.size = row1.size) (hL2 : ∀ i, i < (D + 1) * 4 → row2[i]? = row1[i]?)
    (hO2 : w2.heap[N + 2]? = some (.cells #[.slice (some ⟨N + 1, 0, none⟩) (D + 1) 25] 23 (0, 0)))
    (hw3 : w3 = ((((w2.setCell ⟨N + 1, (D + 1) * 4, none⟩ (.bool true)).setCell ⟨N + 1, (D + 1) * 4 + 1, none⟩ (.string ⟨#[]⟩)).setCell ⟨N + 1, (D + 1) * 4 + 2, none⟩ (.slice none 0 0)).setCell ⟨N + 1, (D + 1) * 4 + 3, none⟩ (.int .i64 p)).setCell ⟨N + 2, 0, none⟩ (.slice (some ⟨N + 1, 0, none⟩) (D + 1 + 1) 25) ∨
      w3 = ((((w2.setCell ⟨N + 2, 0, none⟩ (.slice (some ⟨N + 1, 0, none⟩) (D + 1 + 1) 25)).setCell ⟨N + 1, (D + 1) * 4, none⟩ (.bool true)).setCell ⟨N + 1, (D + 1) * 4 + 1, none⟩ (.string ⟨#[]⟩)).setCell ⟨N + 1, (D + 1) * 4 + 2, none⟩ (.slice none 0 0)).setCell ⟨N + 1, (D + 1) * 4 + 3, none⟩ (.int .i64 p)) :
    KeptN N w1 w3 ∧ ∃ vw' row' vs', Inv F N m w3 { word := st.word, top := ⟨p, []⟩, rest := st.top :: st.rest } vw' row' vs' := by
  have hrs := h.rs
  have set1 : ∀ (w : World) (o : Nat) (v : Value), Kept (fun k => k = N + 1 ∨ k = N + 2) w (w.setCell ⟨N + 1, o, none⟩ v) := fun w o v => (Kept.set w (N + 1) o v).mono fun k _ hk => .inl hk
  have set2 : ∀ (w : World) (o : Nat) (v : Value), Kept (fun k => k = N + 1 ∨ k = N + 2) w (w.setCell ⟨N + 2, o, none⟩ v) := fun w o v => (Kept.set w (N + 2) o v).mono fun k _ hk => .inr hk
  have hK : Kept (fun k => k = N + 1 ∨ k = N + 2) w1 w3 := by
    refine (hK2.mono fun k _ hk => .inl hk).trans ?_
    rcases hw3 with rfl | rfl
    · exact ((((set1 _ _ _).trans (set1 _ _ _)).trans (set1 _ _ _)).trans (set1 _ _ _)).trans (set2 _ _ _)
    · exact ((((set2 _ _ _).trans (set1 _ _ _)).trans (set1 _ _ _)).trans (set1 _ _ _)).trans (set1 _ _ _)
  have hR : w3.heap[N + 1]? = some (.cells ((((row2.setIfInBounds ((D + 1) * 4) (.bool true)).setIfInBounds ((D + 1) * 4 + 1) (.string ⟨#[]⟩)).setIfInBounds ((D + 1) * 4 + 2) (.slice none 0 0)).setIfInBounds ((D + 1) * 4 + 3) (.int .i64 p)) 37 (0, 0)) := by
    rcases hw3 with rfl | rfl
    · rw [setCell_other (by omega)]
      exact setCell_at (setCell_at (setCell_at (setCell_at hR2)))
    · exact setCell_at (setCell_at (setCell_at (setCell_at (by rw [setCell_other (by omega)]; exact hR2))))
  have hO : w3.heap[N + 2]? = some (.cells #[.slice (some ⟨N + 1, 0, none⟩) (D + 1 + 1) 25] 23 (0, 0)) := by
    rcases hw3 with rfl | rfl
    · refine setCell_at (c := #[.slice (some ⟨N + 1, 0, none⟩) (D + 1) 25]) ?_
      rw [setCell_other (by omega), setCell_other (by omega), setCell_other (by omega), setCell_other (by omega)]
      exact hO2
    · rw [setCell_other (by omega), setCell_other (by omega), setCell_other (by omega), setCell_other (by omega)]
      exact setCell_at hO2
  refine ⟨hK.mono fun k _ hk => ⟨by omega, by rcases hk with rfl | rfl; exact ⟨_, _, _, h.hr⟩; exact ⟨_, _, _, h.ho⟩⟩, vw, _, _, h.push (by omega) hK hR (by simp; omega) (fun i hi => ?_) ?_ ?_ ?_ ?_ (by rw [HD]; exact hO)⟩
  · rw [Array.getElem?_setIfInBounds_ne (by omega), Array.getElem?_setIfInBounds_ne (by omega), Array.getElem?_setIfInBounds_ne (by omega), Array.getElem?_setIfInBounds_ne (by omega)]
    exact hL2 i (by omega)
  · rw [HD, Array.getElem?_setIfInBounds_ne (by omega), Array.getElem?_setIfInBounds_ne (by omega), Array.getElem?_setIfInBounds_ne (by omega), Array.getElem?_setIfInBounds_self_of_lt (by omega)]
  · rw [HD, Array.getElem?_setIfInBounds_ne (by omega), Array.getElem?_setIfInBounds_ne (by omega), Array.getElem?_setIfInBounds_self_of_lt (by simp; omega)]
  · rw [HD, Array.getElem?_setIfInBounds_ne (by omega), Array.getElem?_setIfInBounds_self_of_lt (by simp; omega)]
  · rw [HD, Array.getElem?_setIfInBounds_self_of_lt (by simp; omega)]

attribute [local go_sem ↓] Go.wp_at_zero Go.wp_at_succ

set_option maxRecDepth 100000 in
set_option maxHeartbeats 3200000 in
/-- A bracket that opens a list. -/
theorem take_open {F : Nat → Prop} {N m : Nat} {w : World} {st : St} {vw : Value} {row : Array Value} {vs : List Value} (p : Nat)
    (h : Inv F N m w st vw row vs) (hm : m ≤ 100000) (hp : p ≤ 100000) (hwp : st.word.length ≤ p) (hd : st.rest.length < 24) :
    Calls Try.prog 28 #[.int .i32 40, .int .i64 p, .pointer (some ⟨N, 0, none⟩), .pointer (some ⟨N + 4, 0, none⟩), .pointer (some ⟨N + 2, 0, none⟩), .pointer (some ⟨N + 3, 0, none⟩)] w fun e w' => e = .returned (.int .i64 0) ∧
      KeptN N w w' ∧ ∃ vw' row' vs', Inv F N (m + 1) w' { word := (st.endWord p).word, top := ⟨p, []⟩, rest := (st.endWord p).top :: (st.endWord p).rest } vw' row' vs' := by
  obtain ⟨i0, hi0, hz0, hz1, hz2⟩ := info_parts Try.info37
  have cE := cell_of_one h.he
  have hr : rPart 40 = false := by decide
  obtain ⟨D, hD⟩ : ∃ D, (st.endWord p).rest.length = D := ⟨_, rfl⟩
  have hd24 : D < 24 := by rw [← hD, rest_endWord]; exact hd
  have HD : Hid ((st.endWord p).rest.length = D) := hD
  clear hD hd
  have hd0 : (0 : Int) ≤ (D : Int) + 1 := by omega
  have hd1 : ¬ (24 : Int) < (D : Int) + 1 := by omega
  have hd2 : (D : Int) + 1 < (D : Int) + 1 + 1 := by omega
  go_enter Try.func28, Try.ntmps28
  go_wp2_with (first | (go_at_call 24; refine (inWord_any _ _).mono ?_; rintro e w' ⟨rfl, hq⟩; have hq' := hq.symm; subst hq') | (go_at_call 27; refine (endWord_inv p h hm hp hwp).mono ?_; rintro e w1 ⟨rfl, hk1, vw1, row1, vs1, hI1⟩; have hO : w1.heap[N + 2]? = some (.cells #[.slice (some ⟨N + 1, 0, none⟩) (D + 1) 25] 23 (0, 0)) := (by rw [← HD.out]; exact hI1.ho); have cO := cell_of_one hO; have fO := free_of_one hO))
  have cO' : ∀ c t, (w1.alloc (.cells c t)).cell? ⟨N + 2, 0, none⟩ = some (.slice (some ⟨N + 1, 0, none⟩) (D + 1) 25) := fun c t => alloc_cell _ cO
  have hRow := hI1.hr
  have hsp : Hid (∀ j, j < 4 → ∀ c t, ((w1.alloc (.cells c t)).drew.cell? ⟨N + 1, 0 + (D + 1) * 4 + j, none⟩).isSome = true ∧ (w1.alloc (.cells c t)).drew.frozen? ⟨N + 1, 0 + (D + 1) * 4 + j, none⟩ = false) := fun j hj c t => by
    have hs := hI1.rs
    have e : w1.cell? ⟨N + 1, 0 + (D + 1) * 4 + j, none⟩ = some (row1[0 + (D + 1) * 4 + j]'(by omega)) := by
      have : 0 + (D + 1) * 4 + j < row1.size := by omega
      simp [World.cell?, hRow]
    exact ⟨by show ((w1.alloc (.cells c t)).cell? _).isSome = true; rw [alloc_cell _ e]; rfl, (frozen?_alloc_cells _ _ _ _).trans (by simp [World.frozen?, hRow])⟩
  clear hRow
  go_region_law ((refine step_append_room rfl (.tmp 27) (.tmp 31) 23 rfl 37 i0 4 Try.underlying23 hi0 hz1 (N + 1) 0 (D + 1) 25 (by rfl) ⟨w1.heap.size, 0, none⟩ 1 1 [.bool false, .string ⟨#[]⟩, .slice none 0 0, .int .i64 0] (by rfl) (by rfl) (World.news_of_block (cs := #[.bool false, .string ⟨#[]⟩, .slice none 0 0, .int .i64 0]) (t := 37) (fr := (0, 0)) (heap_alloc_new w1 _)) (by simp [Value.oneCell']) (by omega) (fun j hj => hsp.out j hj _ _) ?_; obtain ⟨hK2, row2, hR2, hS2, hL2⟩ := push_facts (D := D) (z0 := .bool false) (z1 := .string ⟨#[]⟩) (z2 := .slice none 0 0) (z3 := .int .i64 0) (Obj.cells #[.bool false, .string ⟨#[]⟩, .slice none 0 0, .int .i64 0] 37) hI1.hr; generalize World.setCells _ _ _ _ = w2 at hK2 hR2 ⊢; obtain ⟨u0, u1, u2, u3, q0, q1, q2, q3, q4⟩ := push_there hR2 (hS2.trans hI1.rs) hd24; have hO2 : w2.heap[N + 2]? = some (.cells #[.slice (some ⟨N + 1, 0, none⟩) (D + 1) 25] 23 (0, 0)) := (hK2.block _ (lt_of_some hO) (by omega)).trans hO; have cO2 := cell_of_one hO2; have fO2 := free_of_one hO2))
  all_goals
    go_wp2_with fail
    go_ret
    refine ⟨rfl, hk1.trans' (push_end (p := p) hI1 HD.out hd24 hK2 hR2 hS2 hL2 hO2 ?_)⟩
    first | (refine Or.inl ?_; with_reducible rfl) | (refine Or.inr ?_; with_reducible rfl)
end Go.Proofs.Ytbedhghcdhbkmaa
