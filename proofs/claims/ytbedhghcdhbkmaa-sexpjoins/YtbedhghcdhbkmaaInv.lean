/- THE READER's STATE IN MEMORY: what its closures keep. -/
import Derived.Test.YtbedhghcdhbkmaaPut
namespace Go.Proofs.Ytbedhghcdhbkmaa
open Go.RowKit

def byteV (b : UInt8) : Value := .int .u8 b.toNat

/-- The lists that go on, the innermost one first; vs: where their nodes lie. -/
def Fs (F : Nat → Prop) (w : World) (base : Nat) (row : Array Value) : List Fr → List Value → Prop
  | [], [] => True
  | f :: r, v :: vs => row[r.length * 4]? = some (.bool (!r.isEmpty)) ∧ row[r.length * 4 + 1]? = some (.string ⟨#[]⟩) ∧ row[r.length * 4 + 2]? = some v ∧ row[r.length * 4 + 3]? = some (.int .i64 f.pos) ∧
      Kids F w base v f.kids ∧ (∀ g, v.ownBlock = some g → ¬ F g ∧ ∀ u ∈ vs, u.ownBlock ≠ some g) ∧ Fs F w base row r vs
  | _, _ => False

theorem Kids.base {F : Nat → Prop} {w : World} {base : Nat} {v : Value} {l : List Nd} (h : Kids F w base v l) : ∀ g, v.ownBlock = some g → base ≤ g ∧ g < w.heap.size := by
  obtain ⟨xs, ho, _⟩ := h
  exact ho.lt

theorem Fs.keep {F F' : Nat → Prop} {w w' : World} {base : Nat} {row row' : Array Value} : ∀ {fs : List Fr} {vs : List Value}, Fs F w base row fs vs → (∀ i, i < fs.length * 4 → row'[i]? = row[i]?) →
    (∀ b, F b → b < w.heap.size → F' b ∧ w'.heap[b]? = w.heap[b]?) → (∀ v ∈ vs, ∀ g, v.ownBlock = some g → w'.heap[g]? = w.heap[g]? ∧ ¬ F' g) → Fs F' w' base row' fs vs
  | [], [], _, _, _, _ => trivial
  | f :: r, v :: vs, h, hr, hF, hv => by
    obtain ⟨h0, h1, h2, h3, hk, hd, ht⟩ := h
    simp only [List.length_cons] at hr
    refine ⟨by rw [hr _ (by omega)]; exact h0, by rw [hr _ (by omega)]; exact h1, by rw [hr _ (by omega)]; exact h2, by rw [hr _ (by omega)]; exact h3, ?_, ?_, ?_⟩
    · exact hk.keep hF fun g hg => (hv v (by simp) g hg).1
    · exact fun g hg => ⟨(hv v (by simp) g hg).2, (hd g hg).2⟩
    · exact Fs.keep ht (fun i hi => hr i (by omega)) hF fun u hu => hv u (by simp [hu])
  | [], _ :: _, h, _, _, _ => h.elim
  | _ :: _, [], h, _, _, _ => h.elim

theorem Fs.base {F : Nat → Prop} {w : World} {base : Nat} {row : Array Value} : ∀ {fs : List Fr} {vs : List Value}, Fs F w base row fs vs → ∀ v ∈ vs, ∀ g, v.ownBlock = some g → base ≤ g ∧ g < w.heap.size ∧ ¬ F g
  | [], [], _, v, hv, _, _ => by cases hv
  | f :: r, u :: vs, h, v, hv, g, hg => by
    obtain ⟨h0, h1, h2, h3, hk, hd, ht⟩ := h
    rcases List.mem_cons.1 hv with rfl | hv
    · exact ⟨(hk.base g hg).1, (hk.base g hg).2, (hd g hg).1⟩
    · exact Fs.base ht v hv g hg
  | [], _ :: _, h, _, _, _, _ => h.elim
  | _ :: _, [], h, _, _, _, _ => h.elim

/-- A block of cells. -/
def isC (w : World) (k : Nat) : Prop := ∃ c e f, w.heap[k]? = some (.cells c e f)
/-- Kept, but for blocks of cells from N on. -/
def KeptN (N : Nat) (w w' : World) : Prop := Kept (fun k => N ≤ k ∧ isC w k) w w'
theorem KeptN.refl (N : Nat) (w : World) : KeptN N w w := Kept.refl _ _
theorem KeptN.trans {N : Nat} {a b c : World} (h : KeptN N a b) (k : KeptN N b c) : KeptN N a c :=
  ⟨k.os.trans h.os, k.tape.trans h.tape, k.output.trans h.output, Nat.le_trans h.size k.size, fun i hi hm => (k.block i (Nat.lt_of_lt_of_le hi h.size) fun hx => hm ⟨hx.1, by
    have := h.block i hi hm
    unfold isC at hx ⊢
    rw [this] at hx
    exact hx.2⟩).trans (h.block i hi hm)⟩
theorem KeptN.below {N : Nat} {a b : World} (h : KeptN N a b) (hN : N ≤ a.heap.size) : Below N a b := Kept.below h hN fun _ hk => hk.1
theorem KeptN.iter {N k p : Nat} {a b : World} {s : ByteArray} (h : KeptN N a b) (hi : a.heap[k]? = some (.stringIter s p)) : b.heap[k]? = some (.stringIter s p) := by
  rw [h.block k (lt_of_some hi) fun hx => by obtain ⟨c, e, f, hc⟩ := hx.2; rw [hi] at hc; cases hc]
  exact hi

theorem isC_own {w : World} {base : Nat} {e : TypeId} {size : Nat} {v : Value} {n g : Nat} {xs : List Value} (h : w.ownsRow base e size v n xs) (hg : v.ownBlock = some g) : isC w g := by
  rcases h.2 with ⟨rfl, _⟩ | ⟨g', cap, cur, rfl, _, hh, _⟩
  · cases hg
  · simp only [Value.ownBlock, Option.some.injEq] at hg
    subst hg
    exact ⟨_, _, _, hh⟩

structure Inv (F : Nat → Prop) (N m : Nat) (w : World) (st : St) (vw : Value) (row : Array Value) (vs : List Value) : Prop where
  hw : w.heap[N]? = some (.cells #[vw] 44 (0, 0))
  ow : w.ownsRow (N + 5) 5 1 vw st.word.length (st.word.map byteV)
  hr : w.heap[N + 1]? = some (.cells row 37 (0, 0))
  rs : row.size = 100
  ho : w.heap[N + 2]? = some (.cells #[.slice (some ⟨N + 1, 0, none⟩) (st.rest.length + 1) 25] 23 (0, 0))
  hp : w.heap[N + 3]? = some (.cells #[.func (.func 26) #[] #[.pointer (some ⟨N + 2, 0, none⟩)]] 51 (0, 0))
  he : w.heap[N + 4]? = some (.cells #[.func (.func 27) #[] #[.pointer (some ⟨N, 0, none⟩), .pointer (some ⟨N + 3, 0, none⟩)]] 52 (0, 0))
  dp : st.rest.length < 25
  fs : Fs F w (N + 5) row (st.top :: st.rest) vs
  F0 : ∀ b, F b → N + 5 ≤ b ∧ b < w.heap.size
  FC : ∀ b, F b → isC w b
  fw : ∀ g, vw.ownBlock = some g → ¬ F g ∧ ∀ u ∈ vs, u.ownBlock ≠ some g
  bw : st.word.length ≤ m
  bk : ∀ f ∈ st.top :: st.rest, f.kids.length ≤ m

theorem Inv.lt {F : Nat → Prop} {N m : Nat} {w : World} {st : St} {vw : Value} {row : Array Value} {vs : List Value} (h : Inv F N m w st vw row vs) : N + 5 ≤ w.heap.size := by
  have := lt_of_some h.he
  omega

theorem Inv.put {F : Nat → Prop} {N m : Nat} {w w' : World} {st : St} {vw v : Value} {row : Array Value} {vs : List Value} {xs : List Value} {il : Bool} {wd : List UInt8} {ks : List Nd} {p : Int} {a : Option Addr} {c : Nat}
    (h : Inv F N m w st vw row (v :: vs)) (hlay : Lay F w xs st.top.kids) (hk : Row F w a ks)
    (hl : PutLeft (N + 1) st.rest.length st.top.kids.length (N + 5) row v xs [.bool il, .string (bs wd), .slice a ks.length c, .int .i64 p] w w') :
    KeptN N w w' ∧ ∃ row' vs', Inv F N (m + 1) w' (st.put (.mk il wd ks p)) vw row' vs' := by
  obtain ⟨g, cap, ho, hob, hat, hkp⟩ := hl
  obtain ⟨h0, h1, h2, h3, hkids, hdis, htail⟩ := h.fs
  have hN := h.lt
  have hvb := hkids.base
  have hbk := h.bk
  have same : ∀ k, k < w.heap.size → k ≠ N + 1 → v.ownBlock ≠ some k → w'.heap[k]? = w.heap[k]? := fun k hk h1 h2 => hkp.block k hk fun x => x.elim h1 h2
  have small : ∀ k, N ≤ k → k < N + 5 → v.ownBlock ≠ some k := fun k h1 h2 e => by have := (hvb k e).1; omega
  have five : ∀ k, k < N + 5 → N ≤ k → k ≠ N + 1 → w'.heap[k]? = w.heap[k]? := fun k h1 h2 h3 => same k (by omega) h3 (small k h2 h1)
  have hlt : g < w'.heap.size := (ho.lt g rfl).2
  have gF : ¬ F g := by
    intro hF
    rcases hat with e | e
    · exact (hdis g e).1 hF
    · have := (h.F0 g hF).2; omega
  have FK : ∀ b, F b → b < w.heap.size → F b ∧ w'.heap[b]? = w.heap[b]? := fun b hF hb => ⟨hF, same b hb (by have := (h.F0 b hF).1; omega) fun e => (hdis b e).1 hF⟩
  have hsz := hkp.size
  refine ⟨hkp.mono fun k _ hm => ?_, row.setIfInBounds (st.rest.length * 4 + 2) (.slice (some ⟨g, 0, none⟩) (st.top.kids.length + 1) cap), .slice (some ⟨g, 0, none⟩) (st.top.kids.length + 1) cap :: vs, ?_⟩
  · rcases hm with rfl | e
    · exact ⟨by omega, _, _, _, h.hr⟩
    · obtain ⟨_, ho0, _⟩ := hkids
      exact ⟨by have := (hvb k e).1; omega, isC_own ho0 e⟩
  refine { hw := ?_, ow := ?_, hr := hob, rs := by simpa using h.rs, ho := ?_, hp := ?_, he := ?_, dp := h.dp, fs := ?_, F0 := ?_, FC := ?_, fw := ?_, bw := ?_, bk := ?_ }
  · rw [five N (by omega) (by omega) (by omega)]; exact h.hw
  · refine own_kept h.ow hkp fun g' hg' hm => ?_
    rcases hm with rfl | e
    · have := (h.ow.lt _ hg').1; omega
    · exact (h.fw g' hg').2 v (by simp) e
  · rw [five (N + 2) (by omega) (by omega) (by omega)]; exact h.ho
  · rw [five (N + 3) (by omega) (by omega) (by omega)]; exact h.hp
  · rw [five (N + 4) (by omega) (by omega) (by omega)]; exact h.he
  · have hdp := h.dp
    have hrs := h.rs
    refine ⟨?_, ?_, ?_, ?_, ?_, ?_, ?_⟩
    · rw [Array.getElem?_setIfInBounds_ne (by simp only [St.put]; omega)]; exact h0
    · rw [Array.getElem?_setIfInBounds_ne (by simp only [St.put]; omega)]; exact h1
    · simp only [St.put]; rw [Array.getElem?_setIfInBounds_self_of_lt (by omega)]
    · rw [Array.getElem?_setIfInBounds_ne (by simp only [St.put]; omega)]; exact h3
    · simp only [St.put]
      refine ⟨xs ++ [.bool il, .string (bs wd), .slice a ks.length c, .int .i64 p], by simpa using ho, (hlay.mono FK).snoc il wd ks p a c (hk.mono FK)⟩
    · intro g' hg'
      simp only [Value.ownBlock, Option.some.injEq] at hg'
      subst hg'
      refine ⟨gF, fun u hu e => ?_⟩
      rcases hat with e' | e'
      · exact (hdis g e').2 u hu e
      · have := (Fs.base htail u hu g e).2.1; omega
    · refine Fs.keep htail (fun i hi => ?_) FK fun u hu g' hg' => ?_
      · simp only [St.put] at hi
        rw [Array.getElem?_setIfInBounds_ne (by omega)]
      · obtain ⟨q1, q2, q3⟩ := Fs.base htail u hu g' hg'
        exact ⟨same g' q2 (by omega) fun e => (hdis g' e).2 u hu hg', q3⟩
  · exact fun b hF => ⟨(h.F0 b hF).1, by have := (h.F0 b hF).2; omega⟩
  · intro b hF
    unfold isC
    rw [(FK b hF (h.F0 b hF).2).2]
    exact h.FC b hF
  · intro g' hg'
    obtain ⟨q1, q2⟩ := h.fw g' hg'
    refine ⟨q1, fun u hu e => ?_⟩
    rcases List.mem_cons.1 hu with rfl | hu
    · simp only [Value.ownBlock, Option.some.injEq] at e
      subst e
      rcases hat with e' | e'
      · exact q2 v (by simp) e'
      · have := (h.ow.lt _ hg').2; omega
    · exact q2 u (by simp [hu]) e
  · have := h.bw; simp only [St.put]; omega
  · intro f hf
    simp only [St.put] at hf
    rcases List.mem_cons.1 hf with rfl | hf
    · have := hbk st.top (by simp)
      simp only [List.length_append, List.length_cons, List.length_nil]
      omega
    · have := hbk f (by simp [hf]); omega
end Go.Proofs.Ytbedhghcdhbkmaa
