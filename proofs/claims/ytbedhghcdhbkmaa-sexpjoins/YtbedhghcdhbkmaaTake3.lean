/- THE CONTRACT of the reader's third closure: a bracket that closes a list; of the fourth: the end. -/
import Derived.Test.YtbedhghcdhbkmaaTake2
namespace Go.Proofs.Ytbedhghcdhbkmaa
open Go.ChangeShapes Go.WideShapes Go.ChangeAt Go.RowKit

theorem Inv.pop {F : Nat → Prop} {N m : Nat} {w w' : World} {st : St} {vw v : Value} {row : Array Value} {vs : List Value} {f : Fr} {r : List Fr} (h : Inv F N m w st vw row (v :: vs)) (hst : st.rest = f :: r)
    (hk : Kept (fun k => k = N + 2) w w') (ho' : w'.heap[N + 2]? = some (.cells #[.slice (some ⟨N + 1, 0, none⟩) (r.length + 1) 25] 23 (0, 0))) :
    Inv (fun b => F b ∨ v.ownBlock = some b) N m w' { word := st.word, top := f, rest := r } vw row vs := by
  have hN := h.lt
  have hwb := h.ow.lt
  have hfs := h.fs
  rw [hst] at hfs
  obtain ⟨_, _, _, _, hkids, hdis, htail⟩ := hfs
  have hdp := h.dp
  have hbk := h.bk
  rw [hst] at hdp hbk
  have same : ∀ k, k < w.heap.size → k ≠ N + 2 → w'.heap[k]? = w.heap[k]? := fun k hk1 h1 => hk.block k hk1 h1
  have hsz := hk.size
  have vb := hkids.base
  refine { hw := ?_, ow := ?_, hr := ?_, rs := h.rs, ho := ho', hp := ?_, he := ?_, dp := by show r.length < 25; simp only [List.length_cons] at hdp; omega, fs := ?_, F0 := ?_, FC := ?_, fw := ?_, bw := h.bw, bk := fun g hg => hbk g (by simp only [List.mem_cons] at hg ⊢; exact .inr hg) }
  · rw [same N (by omega) (by omega)]; exact h.hw
  · exact own_kept h.ow hk fun g hg hm => by have := (hwb g hg).1; omega
  · rw [same (N + 1) (by omega) (by omega)]; exact h.hr
  · rw [same (N + 3) (by omega) (by omega)]; exact h.hp
  · rw [same (N + 4) (by omega) (by omega)]; exact h.he
  · refine Fs.keep htail (fun i _ => rfl) (fun b hF hb => ⟨.inl hF, same b hb (by have := (h.F0 b hF).1; omega)⟩) fun u hu g hg => ?_
    obtain ⟨q1, q2, q3⟩ := Fs.base htail u hu g hg
    exact ⟨same g q2 (by omega), fun x => x.elim q3 fun e => (hdis g e).2 u hu hg⟩
  · rintro b (hF | e)
    · exact ⟨(h.F0 b hF).1, by have := (h.F0 b hF).2; omega⟩
    · exact ⟨(vb b e).1, by have := (vb b e).2; omega⟩
  · intro b hb
    have hC : isC w b := by
      rcases hb with hF | e
      · exact h.FC b hF
      · obtain ⟨_, ho0, _⟩ := hkids
        exact isC_own ho0 e
    have hb5 : N + 5 ≤ b ∧ b < w.heap.size := by
      rcases hb with hF | e
      · exact h.F0 b hF
      · exact vb b e
    unfold isC
    rw [same b hb5.2 (by omega)]
    exact hC
  · intro g hg
    obtain ⟨q1, q2⟩ := h.fw g hg
    exact ⟨fun x => x.elim q1 fun e => q2 v (by simp) e, fun u hu => q2 u (by simp [hu])⟩

theorem close_facts {F : Nat → Prop} {N m D : Nat} {w1 : World} {st : St} {vw1 : Value} {row1 : Array Value} {vs1 : List Value} {f : Fr} {r : List Fr} (hI1 : Inv F N m w1 st vw1 row1 vs1) (HR : st.rest = f :: r) (HD : r.length = D) :
    ∃ va vc vs2, Hid (Inv F N m w1 st vw1 row1 (.slice va st.top.kids.length vc :: vs2)) ∧ Row (fun b => F b ∨ (Value.slice va st.top.kids.length vc).ownBlock = some b) w1 va st.top.kids ∧
      w1.cell? ⟨N + 2, 0, none⟩ = some (.slice (some ⟨N + 1, 0, none⟩) (D + 1 + 1) 25) ∧ w1.frozen? ⟨N + 2, 0, none⟩ = false ∧
      w1.cell? ⟨N + 1, (D + 1) * 4, none⟩ = some (.bool true) ∧ w1.cell? ⟨N + 1, (D + 1) * 4 + 1, none⟩ = some (.string ⟨#[]⟩) ∧ w1.cell? ⟨N + 1, (D + 1) * 4 + 2, none⟩ = some (.slice va st.top.kids.length vc) ∧
      w1.cell? ⟨N + 1, (D + 1) * 4 + 3, none⟩ = some (.int .i64 st.top.pos) ∧ w1.cell? ⟨N + 3, 0, none⟩ = some (.func (.func 26) #[] #[.pointer (some ⟨N + 2, 0, none⟩)]) ∧ N + 5 ≤ w1.heap.size := by
  obtain ⟨v, vs2, rfl⟩ := hI1.top
  have hO : w1.heap[N + 2]? = some (.cells #[.slice (some ⟨N + 1, 0, none⟩) (D + 1 + 1) 25] 23 (0, 0)) := by have := hI1.ho; rw [HR, List.length_cons, HD] at this; exact this
  have hfs := hI1.fs
  rw [HR] at hfs
  obtain ⟨f0, f1, f2, f3, hkids, hdis, htail⟩ := hfs
  obtain ⟨va, vc, rfl, hrow⟩ := hkids.rd (T := fun b => F b ∨ v.ownBlock = some b) (fun b hb => .inl hb) fun g hg => .inr hg
  rw [List.length_cons, HD] at f0 f1 f2 f3
  have hR := hI1.hr
  exact ⟨va, vc, vs2, hI1, hrow, cell_of_one hO, free_of_one hO, by simp [World.cell?, hR, f0], by simp [World.cell?, hR, f1], by simp [World.cell?, hR, f2], by simp [World.cell?, hR, f3], cell_of_one hI1.hp, hI1.lt⟩

theorem close_pop {F : Nat → Prop} {N m D : Nat} {w1 : World} {st : St} {vw v : Value} {row : Array Value} {vs : List Value} {f : Fr} {r : List Fr} {va : Option Addr} {ks : List Nd} (o : Obj) (h : Inv F N m w1 st vw row (v :: vs)) (HR : st.rest = f :: r) (HD : r.length = D)
    (hrow : Row (fun b => F b ∨ v.ownBlock = some b) w1 va ks) :
    KeptN N w1 ((w1.alloc o).setCell ⟨N + 2, 0, none⟩ (.slice (some ⟨N + 1, 0, none⟩) (D + 1) 25)) ∧
    Inv (fun b => F b ∨ v.ownBlock = some b) N m ((w1.alloc o).setCell ⟨N + 2, 0, none⟩ (.slice (some ⟨N + 1, 0, none⟩) (D + 1) 25)) { word := st.word, top := f, rest := r } vw row vs ∧
    Row (fun b => F b ∨ v.ownBlock = some b) ((w1.alloc o).setCell ⟨N + 2, 0, none⟩ (.slice (some ⟨N + 1, 0, none⟩) (D + 1) 25)) va ks := by
  have hk : Kept (fun k => k = N + 2) w1 ((w1.alloc o).setCell ⟨N + 2, 0, none⟩ (.slice (some ⟨N + 1, 0, none⟩) (D + 1) 25)) := (Kept.alloc w1 o _).trans (Kept.set _ (N + 2) 0 _)
  have hN := h.lt
  have hI := h.pop HR hk (by rw [HD]; exact setCell_at (c := #[.slice (some ⟨N + 1, 0, none⟩) (st.rest.length + 1) 25]) (by rw [heap_alloc_old w1 o (by omega)]; exact h.ho))
  refine ⟨hk.mono fun k _ e => ⟨by omega, by subst e; exact ⟨_, _, _, h.ho⟩⟩, hI, hrow.mono fun b hb hlt => ⟨hb, hk.block b hlt ?_⟩⟩
  have := (hI.F0 b hb).1
  omega

theorem end_facts {F : Nat → Prop} {N m : Nat} {w1 : World} {st : St} {vw1 : Value} {row1 : Array Value} {vs1 : List Value} (hI1 : Inv F N m w1 st vw1 row1 vs1) (HR : st.rest = []) :
    ∃ v, Rd (fun b => N ≤ b) w1 v st.top.kids ∧ w1.cell? ⟨N + 2, 0, none⟩ = some (.slice (some ⟨N + 1, 0, none⟩) 1 25) ∧ w1.cell? ⟨N + 1, 2, none⟩ = some v := by
  obtain ⟨v, vs2, rfl⟩ := hI1.top
  have hO : w1.heap[N + 2]? = some (.cells #[.slice (some ⟨N + 1, 0, none⟩) 1 25] 23 (0, 0)) := by have := hI1.ho; rw [HR] at this; exact this
  have hfs := hI1.fs
  rw [HR] at hfs
  obtain ⟨f0, f1, f2, f3, hkids, hdis, htail⟩ := hfs
  have hR := hI1.hr
  have F0 := hI1.F0
  refine ⟨v, hkids.rd (fun b hb => by have := (F0 b hb).1; omega) (fun g hg => by have := (hkids.base g hg).1; omega), cell_of_one hO, ?_⟩
  simpa [World.cell?, hR] using f2

set_option maxRecDepth 100000 in
set_option maxHeartbeats 3200000 in
/-- A bracket that closes a list. -/
theorem take_close {F : Nat → Prop} {N m : Nat} {w : World} {st : St} {vw : Value} {row : Array Value} {vs : List Value} (p : Nat) (f : Fr) (r : List Fr)
    (h : Inv F N m w st vw row vs) (hm : m ≤ 99999) (hp : p ≤ 100000) (hwp : st.word.length ≤ p) (hd : st.rest = f :: r) :
    Calls Try.prog 28 #[.int .i32 41, .int .i64 p, .pointer (some ⟨N, 0, none⟩), .pointer (some ⟨N + 4, 0, none⟩), .pointer (some ⟨N + 2, 0, none⟩), .pointer (some ⟨N + 3, 0, none⟩)] w fun e w' => e = .returned (.int .i64 0) ∧
      KeptN N w w' ∧ ∃ F' vw' row' vs', Inv F' N (m + 2) w' { word := (st.endWord p).word, top := { f with kids := f.kids ++ [.mk true [] (st.endWord p).top.kids (st.endWord p).top.pos] }, rest := r } vw' row' vs' := by
  have cE := cell_of_one h.he
  have hr : rPart 41 = false := by decide
  have hrest : (st.endWord p).rest = f :: r := by rw [rest_endWord]; exact hd
  obtain ⟨D, hD⟩ : ∃ D, r.length = D := ⟨_, rfl⟩
  have HD : Hid (r.length = D) := hD
  have HR : Hid ((st.endWord p).rest = f :: r) := hrest
  have hd24 : D < 24 := by have := h.dp; rw [hd] at this; simp only [List.length_cons] at this; omega
  clear hD hd hrest
  have hd0 : (0 : Int) ≤ (D : Int) + 1 := by omega
  have hd1 : (D : Int) + 1 < (D : Int) + 1 + 1 := by omega
  have hd2 : (D : Int) + 1 ≤ 25 := by omega
  have hd3 : ¬ ((D : Int) + 1 = 0) := by omega
  go_enter Try.func28, Try.ntmps28
  go_wp2_with (first | (go_at_call 24; refine (inWord_any _ _).mono ?_; rintro e w' ⟨rfl, hq⟩; have hq' := hq.symm; subst hq') | (go_at_call 27; refine (endWord_inv p h (by omega) hp hwp).mono ?_; rintro e w1 ⟨rfl, hk1, vw1, row1, vs1, hI1⟩; obtain ⟨va, vc, vs2, HI, hrow, cO, fO, g0, g1, g2, g3, cP, hlt⟩ := close_facts hI1 HR.out HD.out; clear hI1; have cO' : ∀ c t, (w1.alloc (.cells c t)).cell? ⟨N + 2, 0, none⟩ = some (.slice (some ⟨N + 1, 0, none⟩) (D + 1 + 1) 25) := fun c t => alloc_cell _ cO; have cP' : ∀ c t, (w1.alloc (.cells c t)).cell? ⟨N + 3, 0, none⟩ = some (.func (.func 26) #[] #[.pointer (some ⟨N + 2, 0, none⟩)]) := fun c t => alloc_cell _ cP; have fO' : ∀ c t, (w1.alloc (.cells c t)).frozen? ⟨N + 2, 0, none⟩ = false := fun c t => (frozen?_alloc_cells _ _ _ _).trans fO; have hne : w1.heap.size ≠ N + 2 := (by omega); have hne' : N + 2 ≠ w1.heap.size := (by omega); obtain ⟨hk2, hI2, hrow2⟩ := close_pop (.cells #[.bool true, .string ⟨#[]⟩, .slice va (st.endWord p).top.kids.length vc, .int .i64 (st.endWord p).top.pos] 37) HI.out HR.out HD.out hrow) | (go_at_call 26; refine (put_inv true [] (st.endWord p).top.kids _ va _ vc hI2 (by omega) hrow2 rfl).mono ?_; rintro e w3 ⟨rfl, hk3, row3, vs3, hI3⟩))
  go_ret
  exact ⟨rfl, (hk1.trans hk2).trans hk3, _, _, _, _, hI3⟩

/-- The end: a list still goes on. -/
theorem end_open {F : Nat → Prop} {N m : Nat} {w : World} {st : St} {vw : Value} {row : Array Value} {vs : List Value} (p : Nat)
    (h : Inv F N m w st vw row vs) (hd : st.rest ≠ []) :
    Calls Try.prog 29 #[.int .i64 p, .pointer (some ⟨N + 2, 0, none⟩), .pointer (some ⟨N + 4, 0, none⟩)] w fun e w' => e = .returned (.tuple #[.slice none 0 0, .int .i64 3]) ∧ w' = w := by
  have cO := cell_of_one h.ho
  have hl : (0 : Int) < (st.rest.length : Int) := by have := List.length_pos_iff.2 hd; omega
  go_enter Try.func29, Try.ntmps29
  go_wp2_with fail
  go_ret2
  exact ⟨rfl, rfl⟩

theorem end_done {F : Nat → Prop} {N m : Nat} {w : World} {st : St} {vw : Value} {row : Array Value} {vs : List Value} (p : Nat)
    (h : Inv F N m w st vw row vs) (hm : m ≤ 100000) (hp : p ≤ 100000) (hwp : st.word.length ≤ p) (hd : st.rest = []) :
    Calls Try.prog 29 #[.int .i64 p, .pointer (some ⟨N + 2, 0, none⟩), .pointer (some ⟨N + 4, 0, none⟩)] w fun e w' => ∃ v, e = .returned (.tuple #[v, .int .i64 0]) ∧
      KeptN N w w' ∧ Rd (fun b => N ≤ b) w' v (st.endWord p).top.kids := by
  have hO : w.heap[N + 2]? = some (.cells #[.slice (some ⟨N + 1, 0, none⟩) 1 25] 23 (0, 0)) := by have := h.ho; rw [hd] at this; exact this
  have cO := cell_of_one hO
  have cE := cell_of_one h.he
  go_enter Try.func29, Try.ntmps29
  go_wp2_with (go_at_call 27; refine (endWord_inv p h hm hp hwp).mono ?_; rintro e w1 ⟨rfl, hk1, vw1, row1, vs1, hI1⟩; obtain ⟨v, hv, hO1, hc⟩ := end_facts hI1 ((rest_endWord st p).trans hd))
  go_ret2
  exact ⟨v, rfl, hk1, hv⟩
end Go.Proofs.Ytbedhghcdhbkmaa
