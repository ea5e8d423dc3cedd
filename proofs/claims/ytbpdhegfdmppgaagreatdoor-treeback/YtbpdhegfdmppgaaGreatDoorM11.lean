/- Texts of this proof, put together: Ends. -/
import Derived.Test.YtbpdhegfdmppgaaGreatDoorM10
import Derived.Laws.BytesString

/- CONTRACTS of the reader's second closure: a word that ends is put. -/
namespace Go.Proofs.YtbpdhegfdmppgaaGreatDoor
open Go.ChangeShapes Go.WideShapes Go.ChangeAt Go.RowKit

theorem Inv.reword {F : Nat → Prop} {N m m' : Nat} {w w' : World} {st : St} {vw vw' : Value} {row : Array Value} {vs : List Value} {word : List UInt8} (h : Inv F N m w st vw row vs)
    (hk : Kept (fun k => k = N ∨ vw.ownBlock = some k) w w') (hw' : w'.heap[N]? = some (.cells #[vw'] 84 (0, 0))) (ow' : w'.ownsRow (N + 5) 5 1 vw' word.length (word.map byteV))
    (hat : ∀ g, vw'.ownBlock = some g → vw.ownBlock = some g ∨ w.heap.size ≤ g) (hm : m ≤ m') (hl : word.length ≤ m') : Inv F N m' w' { st with word := word } vw' row vs := by
  have hN := h.lt
  have hwb := h.ow.lt
  have same : ∀ k, k < w.heap.size → k ≠ N → vw.ownBlock ≠ some k → w'.heap[k]? = w.heap[k]? := fun k hk1 h1 h2 => hk.block k hk1 fun x => x.elim h1 h2
  have five : ∀ k, k < N + 5 → N < k → w'.heap[k]? = w.heap[k]? := fun k h1 h2 => same k (by omega) (by omega) fun e => by have := (hwb k e).1; omega
  have hsz := hk.size
  refine { hw := hw', ow := ow', hr := ?_, rs := h.rs, ho := ?_, hp := ?_, he := ?_, dp := h.dp, fs := ?_, F0 := ?_, FC := ?_, fw := ?_, bw := hl, bk := ?_ }
  · rw [five (N + 1) (by omega) (by omega)]; exact h.hr
  · rw [five (N + 2) (by omega) (by omega)]; exact h.ho
  · rw [five (N + 3) (by omega) (by omega)]; exact h.hp
  · rw [five (N + 4) (by omega) (by omega)]; exact h.he
  · refine Fs.keep h.fs (fun _ _ => rfl) (fun b hF hb => ⟨hF, same b hb (by have := (h.F0 b hF).1; omega) fun e => (h.fw b e).1 hF⟩) fun v hv g hg => ?_
    obtain ⟨q1, q2, q3⟩ := Fs.base h.fs v hv g hg
    exact ⟨same g q2 (by omega) fun e => (h.fw g e).2 v hv hg, q3⟩
  · exact fun b hF => ⟨(h.F0 b hF).1, by have := (h.F0 b hF).2; omega⟩
  · intro b hF
    unfold isC
    rw [same b (h.F0 b hF).2 (by have := (h.F0 b hF).1; omega) fun e => (h.fw b e).1 hF]
    exact h.FC b hF
  · intro g hg
    rcases hat g hg with e | e
    · exact h.fw g e
    · exact ⟨fun hF => by have := (h.F0 g hF).2; omega, fun u hu e' => by have := (Fs.base h.fs u hu g e').2.1; omega⟩
  · intro f hf
    have := h.bk f hf
    omega

theorem Inv.top {F : Nat → Prop} {N m : Nat} {w : World} {st : St} {vw : Value} {row : Array Value} {vs : List Value} (h : Inv F N m w st vw row vs) : ∃ v vs', vs = v :: vs' := by
  cases vs with
  | nil => exact h.fs.elim
  | cons v vs => exact ⟨v, vs, rfl⟩

theorem Inv.up {F : Nat → Prop} {N m m' : Nat} {w : World} {st : St} {vw : Value} {row : Array Value} {vs : List Value} (h : Inv F N m w st vw row vs) (hm : m ≤ m') : Inv F N m' w st vw row vs :=
  { h with bw := Nat.le_trans h.bw hm, bk := fun f hf => Nat.le_trans (h.bk f hf) hm }

theorem put_inv {F : Nat → Prop} {N m : Nat} {w : World} {st : St} {vw : Value} {row : Array Value} {vs : List Value} (il : Bool) (wd : List UInt8) (ks : List Nd) (p : Int) (a : Option Addr) (k c : Nat)
    (h : Inv F N m w st vw row vs) (hm : m ≤ 100000) (hk : Row F w a ks) (hkl : k = ks.length) (hcap : ks.length ≤ c) :
    Calls Tryz.prog 51 #[.agg #[.bool il, .string (bs wd), .slice a k c, .int .i64 p], .pointer (some ⟨N + 2, 0, none⟩)] w fun e w' => e = .returned (.tuple #[]) ∧
      KeptN N w w' ∧ ∃ row' vs', Inv F N (m + 1) w' (st.put (.mk il wd ks p)) vw row' vs' := by
  subst hkl
  obtain ⟨v, vs', rfl⟩ := h.top
  have hf := h.fs
  obtain ⟨h0, h1, h2, h3, hkids, hdis, htail⟩ := hf
  obtain ⟨xs, hown, hlay⟩ := hkids
  have hN := h.lt
  have hbk := h.bk st.top (by simp)
  refine (put_any (N + 2) (N + 1) st.rest.length st.top.kids.length (N + 5) row v xs il (bs wd) a ks.length c p w h.ho h.hr h.rs h.dp h2 hown hN (by omega) (fun e => by have := (hown.lt _ e).1; omega) (fun e => by have := (hown.lt _ e).1; omega)).mono ?_
  rintro e w' ⟨rfl, hl⟩
  exact ⟨rfl, h.put hlay hk hcap hl⟩

set_option maxRecDepth 100000 in
theorem endWord_inv {F : Nat → Prop} {N m : Nat} {w : World} {st : St} {vw : Value} {row : Array Value} {vs : List Value} (p : Nat)
    (h : Inv F N m w st vw row vs) (hm : m ≤ 100000) (hp : p ≤ 100000) (hwp : st.word.length ≤ p) :
    Calls Tryz.prog 52 #[.int .i64 p, .pointer (some ⟨N, 0, none⟩), .pointer (some ⟨N + 3, 0, none⟩)] w fun e w' => e = .returned (.tuple #[]) ∧
      KeptN N w w' ∧ ∃ vw' row' vs', Inv F N (m + 1) w' (st.endWord p) vw' row' vs' := by
  have cW := cell_of_one h.hw
  have fW := free_of_one h.hw
  have cP := cell_of_one h.hp
  by_cases hw0 : st.word = []
  · have he : st.endWord p = st := by simp [St.endWord, hw0]
    rw [he]
    have ow := h.ow
    rw [hw0] at ow
    obtain ⟨va, vc, rfl⟩ : ∃ va vc, vw = .slice va 0 vc := by
      rcases ow.2 with ⟨rfl, _⟩ | ⟨g, cap, cur, rfl, _⟩
      · exact ⟨_, _, rfl⟩
      · exact ⟨_, _, rfl⟩
    go_enter Tryz.func52, Tryz.ntmps52
    go_wp2_with fail
    go_end0
    exact ⟨rfl, KeptN.refl _ _, _, _, _, h.up (by omega)⟩
  · have hpos : 0 < st.word.length := List.length_pos_iff.2 hw0
    obtain ⟨g, cap, rfl, hg, hglt⟩ := h.ow.form hpos
    have hcells : ∀ j (hj : j < st.word.length), w.cell? ((⟨g, 0, none⟩ : Addr).add j) = some (.int .u8 (st.word[j].toNat : Int)) := fun j hj => by
      refine h.ow.cells (g := g) rfl j _ ?_
      simp [byteV, hj]
    have hcv := run_convert_bytes_back (P := Tryz.prog) w 84 9 5 ⟨g, 0, none⟩ cap st.word Tryz.underlying84 Tryz.underlying5 Tryz.underlying9 hcells
    have hl0 : (0 : Int) < (st.word.length : Int) := by omega
    go_enter Tryz.func52, Tryz.ntmps52
    go_wp2_with (go_at_call 51; refine (put_inv false st.word [] _ none 0 0 h hm (.nil _) rfl (Nat.le_refl _)).mono ?_; rintro e w1 ⟨rfl, hk1, row1, vs1, hI1⟩; have cW1 := cell_of_one hI1.hw; have fW1 := free_of_one hI1.hw)
    go_end0
    have hE : st.endWord p = { st.put (.mk false st.word [] ((p : Int) - st.word.length)) with word := [] } := by simp [St.endWord, hw0, St.put]
    have hK : Kept (fun k => k = N ∨ (Value.slice (some ⟨g, 0, none⟩) st.word.length cap).ownBlock = some k) w1 (w1.setCell ⟨N, 0, none⟩ (.slice (some ⟨g, 0, none⟩) 0 cap)) := (Kept.set w1 N 0 _).mono fun k _ hk => .inl hk
    refine ⟨rfl, hk1.trans (hK.mono fun k _ hk => ?_), .slice (some ⟨g, 0, none⟩) 0 cap, row1, vs1, ?_⟩
    · rcases hk with rfl | hk
      · exact ⟨Nat.le_refl _, _, _, _, hI1.hw⟩
      · exact ⟨by simp only [Value.ownBlock, Option.some.injEq] at hk; omega, isC_own hI1.ow hk⟩
    · rw [hE]
      refine hI1.reword (word := []) hK (setCell_at hI1.hw) ?_ (fun g' hg' => .inl hg') (Nat.le_refl _) (Nat.zero_le _)
      have ow := hI1.ow
      rcases ow.2 with ⟨h0, _⟩ | ⟨g', cap', cur, hv, hb, hh, hn, hc, hs, htk⟩
      · cases h0
      · simp only [Value.slice.injEq, Option.some.injEq, Addr.mk.injEq, and_true] at hv
        obtain ⟨rfl, _, rfl⟩ := hv
        exact ⟨by simp, .inr ⟨g, cap, cur, rfl, hb, by rw [setCell_other (by omega)]; exact hh, Nat.zero_le _, hc, hs, by simp⟩⟩
end Go.Proofs.YtbpdhegfdmppgaaGreatDoor
