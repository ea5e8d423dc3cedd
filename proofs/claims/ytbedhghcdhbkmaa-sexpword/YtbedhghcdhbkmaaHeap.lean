/- WHERE NODES LIE IN MEMORY: 'Rd S w v l': in w the slice v reads as the nodes l, all of its rows in blocks of S; a row under way ('Kids'). -/
import Derived.Test.YtbedhghcdhbkmaaMath
import Derived.WalkKit
import Derived.Below
import Derived.Deep.AppendLies
namespace Go.Proofs.Ytbedhghcdhbkmaa
open Go.RowKit

def bs (l : List UInt8) : ByteArray := ⟨l.toArray⟩
theorem bs_of (s : ByteArray) : bs s.data.toList = s := by cases s; simp [bs]
theorem bs_list (l : List UInt8) : (bs l).data.toList = l := by simp [bs]
theorem bs_size (l : List UInt8) : (bs l).size = l.length := by simp [bs, ByteArray.size]
theorem bs_inj {a b : List UInt8} (h : bs a = bs b) : a = b := by rw [← bs_list a, h, bs_list]

/-- From an address on the nodes l lie, four cells each. -/
inductive Row (S : Nat → Prop) (w : World) : Option Addr → List Nd → Prop
  | nil (a : Option Addr) : Row S w a []
  | cons (b o : Nat) (il : Bool) (wd : List UInt8) (ks : List Nd) (p : Int) (r : List Nd) (a : Option Addr) (c : Nat)
      (hS : S b) (h0 : w.cell? ⟨b, o, none⟩ = some (.bool il)) (h1 : w.cell? ⟨b, o + 1, none⟩ = some (.string (bs wd)))
      (h2 : w.cell? ⟨b, o + 2, none⟩ = some (.slice a ks.length c)) (h3 : w.cell? ⟨b, o + 3, none⟩ = some (.int .i64 p))
      (hk : Row S w a ks) (hr : Row S w (some ⟨b, o + 4, none⟩) r) : Row S w (some ⟨b, o, none⟩) (.mk il wd ks p :: r)

/-- The slice v reads as the nodes l. -/
def Rd (S : Nat → Prop) (w : World) (v : Value) (l : List Nd) : Prop := ∃ a c, v = .slice a l.length c ∧ Row S w a l

theorem Row.mono {S T : Nat → Prop} {w w' : World} {a : Option Addr} {l : List Nd} (h : Row S w a l) (hS : ∀ b, S b → b < w.heap.size → T b ∧ w'.heap[b]? = w.heap[b]?) : Row T w' a l := by
  induction h with
  | nil a => exact .nil a
  | cons b o il wd ks p r a c hb h0 h1 h2 h3 hk hr ihk ihr =>
    have hlt : b < w.heap.size := World.block_lt_of_cell? w _ h0
    obtain ⟨hT, he⟩ := hS b hb hlt
    have ce : ∀ o, w'.cell? ⟨b, o, none⟩ = w.cell? ⟨b, o, none⟩ := fun o => World.cell?_of_block he
    exact .cons b o il wd ks p r a c hT (by rw [ce]; exact h0) (by rw [ce]; exact h1) (by rw [ce]; exact h2) (by rw [ce]; exact h3) ihk ihr

theorem Rd.mono {S T : Nat → Prop} {w w' : World} {v : Value} {l : List Nd} (h : Rd S w v l) (hS : ∀ b, S b → b < w.heap.size → T b ∧ w'.heap[b]? = w.heap[b]?) : Rd T w' v l := by
  obtain ⟨a, c, rfl, hr⟩ := h
  exact ⟨a, c, rfl, hr.mono hS⟩
theorem Rd.below {S : Nat → Prop} {w w' : World} {v : Value} {l : List Nd} (h : Rd S w v l) (hb : Below w.heap.size w w') : Rd S w' v l :=
  h.mono fun b hS hlt => ⟨hS, hb.block b hlt⟩
theorem Row.keep {S : Nat → Prop} {w w' : World} {a : Option Addr} {l : List Nd} (h : Row S w a l) (hb : Below w.heap.size w w') : Row S w' a l :=
  h.mono fun b hS hlt => ⟨hS, hb.block b hlt⟩
theorem Rd.any {S : Nat → Prop} {w : World} {v : Value} {l : List Nd} (h : Rd S w v l) : Rd (fun _ => True) w v l := h.mono fun _ _ _ => ⟨trivial, rfl⟩

/-- One node of a row. -/
theorem Row.at_ {S : Nat → Prop} {w : World} {a : Option Addr} {l : List Nd} (h : Row S w a l) : ∀ (k : Nat) (il : Bool) (wd : List UInt8) (ks : List Nd) (p : Int), l[k]? = some (.mk il wd ks p) →
    ∃ b o a' c, a = some ⟨b, o, none⟩ ∧ S b ∧ w.cell? ⟨b, o + k * 4, none⟩ = some (.bool il) ∧ w.cell? ⟨b, o + k * 4 + 1, none⟩ = some (.string (bs wd)) ∧
      w.cell? ⟨b, o + k * 4 + 2, none⟩ = some (.slice a' ks.length c) ∧ w.cell? ⟨b, o + k * 4 + 3, none⟩ = some (.int .i64 p) ∧ Row S w a' ks := by
  induction h with
  | nil a => intro k il wd ks p h; simp at h
  | cons b o il wd ks p r a c hb h0 h1 h2 h3 hk hr ihk ihr =>
    intro k il' wd' ks' p' h
    cases k with
    | zero =>
      simp only [List.getElem?_cons_zero, Option.some.injEq, Nd.mk.injEq] at h
      obtain ⟨rfl, rfl, rfl, rfl⟩ := h
      exact ⟨b, o, a, c, rfl, hb, by simpa using h0, by simpa using h1, by simpa using h2, by simpa using h3, hk⟩
    | succ k =>
      obtain ⟨b', o', a', c', hA, hS, q0, q1, q2, q3, q4⟩ := ihr k il' wd' ks' p' (by simpa using h)
      simp only [Option.some.injEq, Addr.mk.injEq, and_true] at hA
      obtain ⟨rfl, rfl⟩ := hA
      have e : o + 4 + k * 4 = o + (k + 1) * 4 := by omega
      rw [e] at q0 q1 q2 q3
      exact ⟨b, o, a', c', rfl, hS, q0, q1, q2, q3, q4⟩

/-- The cells of nodes whose lists' own rows lie in S. -/
inductive Lay (S : Nat → Prop) (w : World) : List Value → List Nd → Prop
  | nil : Lay S w [] []
  | cons (il : Bool) (wd : List UInt8) (ks : List Nd) (p : Int) (a : Option Addr) (c : Nat) (xs : List Value) (l : List Nd) (hk : Row S w a ks) (hl : Lay S w xs l) :
      Lay S w (.bool il :: .string (bs wd) :: .slice a ks.length c :: .int .i64 p :: xs) (.mk il wd ks p :: l)

theorem Lay.mono {S T : Nat → Prop} {w w' : World} {xs : List Value} {l : List Nd} (h : Lay S w xs l) (hS : ∀ b, S b → b < w.heap.size → T b ∧ w'.heap[b]? = w.heap[b]?) : Lay T w' xs l := by
  induction h with
  | nil => exact .nil
  | cons il wd ks p a c xs l hk hl ih => exact .cons il wd ks p a c xs l (hk.mono hS) ih

theorem Lay.snoc {S : Nat → Prop} {w : World} {xs : List Value} {l : List Nd} (h : Lay S w xs l) (il : Bool) (wd : List UInt8) (ks : List Nd) (p : Int) (a : Option Addr) (c : Nat) (hk : Row S w a ks) :
    Lay S w (xs ++ [.bool il, .string (bs wd), .slice a ks.length c, .int .i64 p]) (l ++ [.mk il wd ks p]) := by
  induction h with
  | nil => exact .cons il wd ks p a c [] [] hk .nil
  | cons il' wd' ks' p' a' c' xs l hk' hl ih => exact .cons il' wd' ks' p' a' c' _ _ hk' ih

/-- Out of the cells that lie in a row: the row. -/
theorem Lay.row {S T : Nat → Prop} {w : World} {xs : List Value} {l : List Nd} (h : Lay S w xs l) (hST : ∀ b, S b → T b) (g : Nat) (hg : T g) :
    ∀ o, (∀ j u, xs[j]? = some u → w.cell? ⟨g, o + j, none⟩ = some u) → Row T w (some ⟨g, o, none⟩) l := by
  induction h with
  | nil => intro o _; exact .nil _
  | cons il wd ks p a c xs l hk hl ih =>
    intro o hc
    refine .cons g o il wd ks p l a c hg (by simpa using hc 0 _ rfl) (hc 1 _ rfl) (hc 2 _ rfl) (hc 3 _ rfl) (hk.mono fun b hb _ => ⟨hST b hb, rfl⟩) ?_
    refine ih (o + 4) fun j u hj => ?_
    have := hc (j + 4) u (by simpa using hj)
    rw [← this]
    congr 2
    omega

/-- A list of nodes under way: v owns its row, and the nodes' own lists lie in S. -/
def Kids (S : Nat → Prop) (w : World) (base : Nat) (v : Value) (l : List Nd) : Prop := ∃ xs, w.ownsRow base 37 4 v l.length xs ∧ Lay S w xs l

theorem Kids.rd {S T : Nat → Prop} {w : World} {base : Nat} {v : Value} {l : List Nd} (h : Kids S w base v l) (hST : ∀ b, S b → T b) (hT : ∀ g, v.ownBlock = some g → T g) : Rd T w v l := by
  obtain ⟨xs, ho, hl⟩ := h
  rcases ho.2 with ⟨rfl, h0⟩ | ⟨g, cap, cur, rfl, hb, hg, hn, hm, hs, htk⟩
  · have : l = [] := List.eq_nil_of_length_eq_zero h0
    subst this
    exact ⟨none, 0, rfl, .nil _⟩
  · refine ⟨some ⟨g, 0, none⟩, cap, rfl, hl.row hST g (hT g rfl) 0 fun j u hj => ?_⟩
    have := ho.cells (g := g) rfl j u hj
    have e : (⟨g, 0, none⟩ : Addr).add j = ⟨g, 0 + j, none⟩ := by unfold Addr.add; split <;> simp_all
    rw [e] at this
    exact this

theorem Kids.keep {S T : Nat → Prop} {w w' : World} {base : Nat} {v : Value} {l : List Nd} (h : Kids S w base v l) (hS : ∀ b, S b → b < w.heap.size → T b ∧ w'.heap[b]? = w.heap[b]?)
    (hv : ∀ g, v.ownBlock = some g → w'.heap[g]? = w.heap[g]?) : Kids T w' base v l := by
  obtain ⟨xs, ho, hl⟩ := h
  refine ⟨xs, ⟨ho.1, ?_⟩, hl.mono hS⟩
  rcases ho.2 with h0 | ⟨g, cap, cur, rfl, hb, hg, rest⟩
  · exact .inl h0
  · exact .inr ⟨g, cap, cur, rfl, hb, by rw [hv g rfl]; exact hg, rest⟩

theorem Kids.none (S : Nat → Prop) (w : World) (base : Nat) : Kids S w base (.slice none 0 0) [] := ⟨[], World.ownsRow_nil _ _ _ _, .nil⟩
end Go.Proofs.Ytbedhghcdhbkmaa
