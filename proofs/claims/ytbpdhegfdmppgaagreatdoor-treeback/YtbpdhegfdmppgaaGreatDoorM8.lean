/- Texts of this proof, put together: TKind, TExpr. -/
import Derived.Test.YtbpdhegfdmppgaaGreatDoorM7
import Derived.Deep.AppendLies
import Derived.OwnWalk

/- HOW DATA LIE IN MEMORY, whatever their sort ('Kind'): rows of them; rows under way that one is appended to. -/
namespace Go.Proofs.YtbpdhegfdmppgaaGreatDoor
open Go.ChangeShapes Go.WideShapes Go.ChangeAt Go.RowKit

/-- Another world, in which the blocks of S are as they were, and count as T. -/
def Goes (w w' : World) (S T : Nat → Prop) : Prop := ∀ b, S b → b < w.heap.size → T b ∧ w'.heap[b]? = w.heap[b]?

structure Kind (α : Type) where
  n : Nat
  C : World → (Nat → Prop) → List Value → α → Prop
  len : ∀ {w S cs x}, C w S cs x → cs.length = n
  one : ∀ {w S cs x}, C w S cs x → ∀ u ∈ cs, u.oneCell' = true
  mono : ∀ {w w' S T cs x}, C w S cs x → Goes w w' S T → C w' T cs x

section
variable {α : Type} (K : Kind α)

/-- From an address on the data l lie. -/
def Kind.row (w : World) (S : Nat → Prop) : Option Addr → List α → Prop
  | _, [] => True
  | a, x :: l => ∃ b o cs, a = some ⟨b, o, none⟩ ∧ S b ∧ (∀ j u, cs[j]? = some u → w.cell? ⟨b, o + j, none⟩ = some u) ∧ K.C w S cs x ∧ Kind.row w S (some ⟨b, o + K.n, none⟩) l

theorem Kind.row_mono (hn : 0 < K.n) {w w' : World} {S T : Nat → Prop} : ∀ {l : List α} {a : Option Addr}, K.row w S a l → Goes w w' S T → K.row w' T a l
  | [], _, _, _ => trivial
  | x :: l, a, h, hg => by
    obtain ⟨b, o, cs, rfl, hS, hc, hC, hr⟩ := h
    have hl := K.len hC
    have hlt : b < w.heap.size := World.block_lt_of_cell? w _ (hc 0 cs[0] (List.getElem?_eq_getElem (by omega)))
    obtain ⟨hT, he⟩ := hg b hS hlt
    exact ⟨b, o, cs, rfl, hT, fun j u hj => by rw [World.cell?_of_block he]; exact hc j u hj, K.mono hC hg, Kind.row_mono hn hr hg⟩

/-- The cells of data, one behind the other. -/
def Kind.lay (w : World) (S : Nat → Prop) : List Value → List α → Prop
  | xs, [] => xs = []
  | xs, x :: l => ∃ cs ys, xs = cs ++ ys ∧ K.C w S cs x ∧ Kind.lay w S ys l
theorem Kind.lay_mono {w w' : World} {S T : Nat → Prop} : ∀ {l : List α} {xs : List Value}, K.lay w S xs l → Goes w w' S T → K.lay w' T xs l
  | [], _, h, _ => h
  | x :: l, xs, h, hg => by
    obtain ⟨cs, ys, rfl, hC, hr⟩ := h
    exact ⟨cs, ys, rfl, K.mono hC hg, Kind.lay_mono hr hg⟩
theorem Kind.lay_snoc {w : World} {S : Nat → Prop} {cs : List Value} {x : α} (hC : K.C w S cs x) : ∀ {l : List α} {xs : List Value}, K.lay w S xs l → K.lay w S (xs ++ cs) (l ++ [x])
  | [], xs, h => by cases h; exact ⟨cs, [], by simp, hC, rfl⟩
  | y :: l, xs, h => by
    obtain ⟨ds, ys, rfl, hD, hr⟩ := h
    exact ⟨ds, ys ++ cs, by simp, hD, Kind.lay_snoc hC hr⟩
theorem Kind.lay_row {w : World} {S T : Nat → Prop} (hST : ∀ b, S b → T b) (g : Nat) (hg : T g) : ∀ {l : List α} {xs : List Value} (o : Nat), K.lay w S xs l → (∀ j u, xs[j]? = some u → w.cell? ⟨g, o + j, none⟩ = some u) → K.row w T (some ⟨g, o, none⟩) l
  | [], _, _, _, _ => trivial
  | x :: l, xs, o, h, hc => by
    obtain ⟨cs, ys, rfl, hC, hr⟩ := h
    have hl := K.len hC
    refine ⟨g, o, cs, rfl, hg, fun j u hj => hc j u ?_, K.mono hC fun b hb _ => ⟨hST b hb, rfl⟩, Kind.lay_row hST g hg (o + K.n) hr fun j u hj => ?_⟩
    · have hlt : j < cs.length := by
        rcases Nat.lt_or_ge j cs.length with h | h
        · exact h
        · rw [List.getElem?_eq_none h] at hj; cases hj
      rw [List.getElem?_append_left hlt]; exact hj
    · have := hc (K.n + j) u (by rw [List.getElem?_append_right (by omega), hl, Nat.add_sub_cancel_left]; exact hj)
      rw [Nat.add_assoc]; exact this

/-- A list under way: v owns its row; what its data hold lies in S. -/
def Kind.own (t : TypeId) (w : World) (S : Nat → Prop) (base : Nat) (v : Value) (l : List α) : Prop := ∃ xs, w.ownsRow base t K.n v l.length xs ∧ K.lay w S xs l

/-- The slice v reads as the data l. -/
def Kind.rd (w : World) (S : Nat → Prop) (v : Value) (l : List α) : Prop := ∃ a c, v = .slice a l.length c ∧ K.row w S a l ∧ l.length ≤ c

theorem Kind.own_rd {t : TypeId} {w : World} {S T : Nat → Prop} {base : Nat} {v : Value} {l : List α} (h : K.own t w S base v l) (hST : ∀ b, S b → T b) (hT : ∀ g, v.ownBlock = some g → T g) : K.rd w T v l := by
  obtain ⟨xs, ho, hl⟩ := h
  rcases ho.2 with ⟨rfl, h0⟩ | ⟨g, cap, cur, rfl, hb, hg, hn, hm, hs, htk⟩
  · have : l = [] := List.eq_nil_of_length_eq_zero h0
    subst this
    exact ⟨none, 0, rfl, trivial, Nat.le_refl _⟩
  · refine ⟨some ⟨g, 0, none⟩, cap, rfl, K.lay_row hST g (hT g rfl) 0 hl fun j u hj => ?_, hn⟩
    have := ho.cells (g := g) rfl j u hj
    have e : (⟨g, 0, none⟩ : Addr).add j = ⟨g, 0 + j, none⟩ := by unfold Addr.add; split <;> simp_all
    rw [e] at this
    exact this
theorem Kind.own_none (t : TypeId) (w : World) (S : Nat → Prop) (base : Nat) : K.own t w S base (.slice none 0 0) [] := ⟨[], World.ownsRow_nil _ _ _ _, rfl⟩
theorem Kind.own_form {t : TypeId} {w : World} {S : Nat → Prop} {base : Nat} {v : Value} {l : List α} (h : K.own t w S base v l) : ∃ x c, v = .slice x l.length c := by
  obtain ⟨xs, ho, _⟩ := h
  rcases ho.2 with ⟨rfl, h0⟩ | ⟨g, cap, cur, rfl, _⟩
  · exact ⟨Option.none, 0, by rw [h0]⟩
  · exact ⟨_, _, rfl⟩
/-- The blocks that a list under way may lean on. -/
def Own (base : Nat) (v : Value) (b : Nat) : Prop := base ≤ b ∧ v.ownBlock ≠ some b
/-- It stands while nothing of it is written. -/
theorem Kind.own_keep {t : TypeId} {w w' : World} {base : Nat} {v : Value} {l : List α} {M : Nat → Prop} (h : K.own t w (Own base v) base v l) (hk : Kept M w w') (hM : ∀ k, M k → k < base) : K.own t w' (Own base v) base v l := by
  obtain ⟨xs, ho, hl⟩ := h
  refine ⟨xs, own_kept ho hk fun g hg m => ?_, K.lay_mono hl fun b hb hlt => ⟨hb, hk.block b hlt fun m => ?_⟩⟩
  · have := hM g m; have := (ho.lt g hg).1; omega
  · have := hM b m; have := hb.1; omega
/-- Behind an append. -/
theorem Kind.own_append {t : TypeId} {w w0 w' : World} {base : Nat} {v v' : Value} {l : List α} {xs cs : List Value} {x : α} {n : Nat} (hxs : K.lay w (Own base v) xs l) (hC : K.C w (Own base v) cs x) (h0 : ∀ k, k < w.heap.size → w0.heap[k]? = w.heap[k]?) (hsz : w.heap.size ≤ w0.heap.size)
    (hown : w'.ownsRow base t K.n v' n (xs ++ cs)) (hn : n = l.length + 1) (hg : w0.grownBy w' v.ownBlock) (hv : ∀ b, v'.ownBlock = some b → v.ownBlock = some b ∨ w0.heap.size ≤ b) : K.own t w' (Own base v') base v' (l ++ [x]) := by
  have hgo : Goes w w' (Own base v) (Own base v') := fun b hb hlt => ⟨⟨hb.1, fun e => ?_⟩, by rw [hg.block b (by omega) fun e => hb.2 e.symm]; exact h0 b hlt⟩
  · exact ⟨xs ++ cs, by simpa [hn] using hown, K.lay_snoc (K.mono hC hgo) (K.lay_mono hxs hgo)⟩
  · rcases hv b e with h | h
    · exact hb.2 h
    · omega
end

/-- Strings. -/
def kStr : Kind (List UInt8) where
  n := 1
  C := fun _ _ cs s => cs = [.string (bs s)]
  len := fun h => by rw [h]; rfl
  one := fun h => by rw [h]; simp [Value.oneCell']
  mono := fun h _ => h

mutual
def exC (w : World) (S : Nat → Prop) : List Value → Ex → Prop
  | cs, .mk kind n op name l => ∃ a c, cs = [.int .i64 kind, .int .u32 n, .int .i64 op, .string (bs name), .slice a l.length c] ∧ l.length ≤ c ∧ exR w S a l
def exR (w : World) (S : Nat → Prop) : Option Addr → List Ex → Prop
  | _, [] => True
  | a, x :: l => ∃ b o cs, a = some ⟨b, o, none⟩ ∧ S b ∧ (∀ j u, cs[j]? = some u → w.cell? ⟨b, o + j, none⟩ = some u) ∧ exC w S cs x ∧ exR w S (some ⟨b, o + 5, none⟩) l
end
theorem exC_len {w : World} {S : Nat → Prop} {cs : List Value} {x : Ex} (h : exC w S cs x) : cs.length = 5 := by
  cases x with
  | mk kind n op name l =>
    rw [exC] at h
    obtain ⟨a, c, rfl, _⟩ := h
    rfl
theorem exC_one {w : World} {S : Nat → Prop} {cs : List Value} {x : Ex} (h : exC w S cs x) : ∀ u ∈ cs, u.oneCell' = true := by
  cases x with
  | mk kind n op name l =>
    rw [exC] at h
    obtain ⟨a, c, rfl, _⟩ := h
    simp [Value.oneCell']
mutual
theorem exC_mono {w w' : World} {S T : Nat → Prop} (hg : Goes w w' S T) : ∀ {x : Ex} {cs : List Value}, exC w S cs x → exC w' T cs x
  | .mk kind n op name l, cs, h => by
    rw [exC] at h ⊢
    obtain ⟨a, c, rfl, hc, hr⟩ := h
    exact ⟨a, c, rfl, hc, exR_mono hg hr⟩
theorem exR_mono {w w' : World} {S T : Nat → Prop} (hg : Goes w w' S T) : ∀ {l : List Ex} {a : Option Addr}, exR w S a l → exR w' T a l
  | [], _, _ => by rw [exR]; trivial
  | x :: l, a, h => by
    rw [exR] at h ⊢
    obtain ⟨b, o, cs, rfl, hS, hc, hC, hr⟩ := h
    have hl := exC_len hC
    have hlt : b < w.heap.size := World.block_lt_of_cell? w _ (hc 0 cs[0] (List.getElem?_eq_getElem (by omega)))
    obtain ⟨hT, he⟩ := hg b hS hlt
    exact ⟨b, o, cs, rfl, hT, fun j u hj => by rw [World.cell?_of_block he]; exact hc j u hj, exC_mono hg hC, exR_mono hg hr⟩
end
def kEx : Kind Ex where
  n := 5
  C := exC
  len := exC_len
  one := exC_one
  mono := fun h hg => exC_mono hg h
theorem exR_row (w : World) (S : Nat → Prop) : ∀ (l : List Ex) (a : Option Addr), exR w S a l ↔ kEx.row w S a l
  | [], a => by rw [exR]; rfl
  | x :: l, a => by
    rw [exR]
    constructor
    · rintro ⟨b, o, cs, h1, h2, h3, h4, h5⟩
      exact ⟨b, o, cs, h1, h2, h3, h4, (exR_row w S l _).1 h5⟩
    · rintro ⟨b, o, cs, h1, h2, h3, h4, h5⟩
      exact ⟨b, o, cs, h1, h2, h3, h4, (exR_row w S l _).2 h5⟩
/-- The value of an expression. -/
def ExV (w : World) (S : Nat → Prop) (v : Value) : Ex → Prop
  | .mk kind n op name l => ∃ a c, v = .agg #[.int .i64 kind, .int .u32 n, .int .i64 op, .string (bs name), .slice a l.length c] ∧ l.length ≤ c ∧ exR w S a l
theorem ExV.mono {w w' : World} {S T : Nat → Prop} {v : Value} {x : Ex} (h : ExV w S v x) (hg : Goes w w' S T) : ExV w' T v x := by
  cases x with
  | mk kind n op name l =>
    obtain ⟨a, c, rfl, hc, hr⟩ := h
    exact ⟨a, c, rfl, hc, exR_mono hg hr⟩

mutual
def Nd.sz : Nd → Nat
  | .mk _ _ ks _ => 1 + szL ks
def szL : List Nd → Nat
  | [] => 0
  | x :: l => Nd.sz x + szL l
end

/-- What a call that reads a node gives. -/
structure Gives {α : Type} (V : World → (Nat → Prop) → Value → α → Prop) (w : World) (res : Res α) (e : Ending) (w' : World) : Prop where
  below : Below w.heap.size w w'
  ok : ∀ x, res = .ok x → ∃ v, e = .returned v ∧ V w' (fun b => w.heap.size ≤ b) v x
  bad : ∀ c q, res = .bad c q → e = .panicked (flt c q)
theorem Gives.ofOk {α : Type} {V : World → (Nat → Prop) → Value → α → Prop} {w w' : World} {res : Res α} {x : α} {v : Value} (h : res = .ok x) (hb : Below w.heap.size w w') (hv : V w' (fun b => w.heap.size ≤ b) v x) : Gives V w res (.returned v) w' :=
  ⟨hb, fun y e => by rw [h] at e; cases e; exact ⟨v, rfl, hv⟩, fun c q e => by rw [h] at e; cases e⟩
theorem Gives.ofBad {α : Type} {V : World → (Nat → Prop) → Value → α → Prop} {w w' : World} {res : Res α} {c q : Int} (h : res = .bad c q) (hb : Below w.heap.size w w') : Gives V w res (.panicked (flt c q)) w' :=
  ⟨hb, fun y e => (by rw [h] at e; cases e), fun c q e => (by rw [h] at e; cases e; rfl)⟩
/-- What a method that reads of what is left of a list gives. -/
structure Takes {α : Type} (V : World → (Nat → Prop) → Value → α → Prop) (B : Nat) (w : World) (r : Nat) (p : Int) (res : Res (α × List Nd)) (e : Ending) (w' : World) : Prop where
  kept : Kept (fun k => k = r) w w'
  ok : ∀ x l', res = .ok (x, l') → Rs B w' r l' p ∧ ∃ v, e = .returned v ∧ V w' (fun b => w.heap.size ≤ b) v x
  bad : ∀ c q, res = .bad c q → e = .panicked (flt c q)
theorem Takes.ofOk {α : Type} {V : World → (Nat → Prop) → Value → α → Prop} {B : Nat} {w w' : World} {r : Nat} {p : Int} {res : Res (α × List Nd)} {x : α} {l : List Nd} {v : Value} (h : res = .ok (x, l)) (hk : Kept (fun k => k = r) w w') (hr : Rs B w' r l p) (hv : V w' (fun b => w.heap.size ≤ b) v x) : Takes V B w r p res (.returned v) w' :=
  ⟨hk, fun y l' e => by rw [h] at e; cases e; exact ⟨hr, v, rfl, hv⟩, fun c q e => by rw [h] at e; cases e⟩
theorem Takes.ofBad {α : Type} {V : World → (Nat → Prop) → Value → α → Prop} {B : Nat} {w w' : World} {r : Nat} {p : Int} {res : Res (α × List Nd)} {c q : Int} (h : res = .bad c q) (hk : Kept (fun k => k = r) w w') : Takes V B w r p res (.panicked (flt c q)) w' :=
  ⟨hk, fun y l' e => (by rw [h] at e; cases e), fun c q e => (by rw [h] at e; cases e; rfl)⟩
theorem Kind.own_lt {α : Type} (K : Kind α) {t : TypeId} {w : World} {S : Nat → Prop} {base : Nat} {v : Value} {l : List α} (h : K.own t w S base v l) : ∀ g, v.ownBlock = some g → base ≤ g ∧ g < w.heap.size := by
  obtain ⟨xs, ho, _⟩ := h
  exact fun g hg => ho.lt g hg
/-- Later changes that touch new blocks alone. -/
theorem Kept.past {M M' : Nat → Prop} {a b c : World} (h : Kept M a b) (k : Kept M' b c) (hM : ∀ i, M' i → a.heap.size ≤ i) : Kept M a c :=
  ⟨k.os.trans h.os, k.tape.trans h.tape, k.output.trans h.output, Nat.le_trans h.size k.size, fun i hi hm => (k.block i (Nat.lt_of_lt_of_le hi h.size) fun m => by have := hM i m; omega).trans (h.block i hi hm)⟩
/-- Behind an append to a list under way. -/
theorem Kind.append_all {α : Type} (K : Kind α) {t : TypeId} {w1 w3 : World} {N : Nat} {v : Value} {acc : List α} {xs cs : List Value} {x : α} {o : Obj} {g cap : Nat} (hlay : K.lay w1 (Own N v) xs acc) (hC : K.C w1 (Own N v) cs x)
    (hown : w3.ownsRow N t K.n (.slice (some ⟨g, 0, none⟩) (acc.length + 1) cap) (acc.length + 1) (xs ++ cs)) (hgrow : (w1.alloc o).grownBy w3 v.ownBlock) (hat : v.ownBlock = some g ∨ g = w1.heap.size + 1) :
    K.own t w3 (Own N (.slice (some ⟨g, 0, none⟩) (acc.length + 1) cap)) N (.slice (some ⟨g, 0, none⟩) (acc.length + 1) cap) (acc ++ [x]) ∧ Kept (fun k => v.ownBlock = some k) w1 w3 := by
  refine ⟨K.own_append hlay hC (fun k hk => heap_alloc_old w1 o hk) (by simp) hown rfl hgrow fun b e => ?_, (Kept.alloc w1 o _).trans (Kept.of_grown hgrow)⟩
  have eb : g = b := by simpa [Value.ownBlock] using e
  subst eb
  rcases hat with h | h
  · exact .inl h
  · exact .inr (by simp; omega)
end Go.Proofs.YtbpdhegfdmppgaaGreatDoor

/- CONTRACTS of readExpr at a node that is a word, or no expression. -/
namespace Go.Proofs.YtbpdhegfdmppgaaGreatDoor
open Go.ChangeShapes Go.WideShapes Go.ChangeAt Go.RowKit

theorem box4 {w : World} {b : Nat} {x0 x1 x2 x3 : Value} {t : TypeId} (h : w.heap[b]? = some (.cells #[x0, x1, x2, x3] t (0, 0))) :
    w.cell? ⟨b, 0, none⟩ = some x0 ∧ w.cell? ⟨b, 1, none⟩ = some x1 ∧ w.cell? ⟨b, 2, none⟩ = some x2 ∧ w.cell? ⟨b, 3, none⟩ = some x3 ∧ (∀ i, w.frozen? ⟨b, i, none⟩ = false) ∧ b < w.heap.size := by
  refine ⟨?_, ?_, ?_, ?_, fun i => ?_, lt_of_some h⟩ <;> simp [World.cell?, World.frozen?, h]
theorem box5 {w : World} {b : Nat} {x0 x1 x2 x3 x4 : Value} {t : TypeId} (h : w.heap[b]? = some (.cells #[x0, x1, x2, x3, x4] t (0, 0))) :
    w.cell? ⟨b, 0, none⟩ = some x0 ∧ w.cell? ⟨b, 1, none⟩ = some x1 ∧ w.cell? ⟨b, 2, none⟩ = some x2 ∧ w.cell? ⟨b, 3, none⟩ = some x3 ∧ w.cell? ⟨b, 4, none⟩ = some x4 ∧ (∀ i, w.frozen? ⟨b, i, none⟩ = false) ∧ b < w.heap.size := by
  refine ⟨?_, ?_, ?_, ?_, ?_, fun i => ?_, lt_of_some h⟩ <;> simp [World.cell?, World.frozen?, h]
theorem keep_box {M : Nat → Prop} {w w2 : World} {b : Nat} {o : Obj} (h : w.heap[b]? = some o) (hk : Kept M w w2) (hM : ¬ M b) : w2.heap[b]? = some o := (hk.block b (lt_of_some h) hM).trans h
theorem below_keep {w w2 : World} {b : Nat} {o : Obj} (h : w.heap[b]? = some o) (hk : Below w.heap.size w w2) : w2.heap[b]? = some o := (hk.block b (lt_of_some h)).trans h
theorem two_at (w : World) (o1 o2 : Obj) : ((w.alloc o1).alloc o2).heap[w.heap.size]? = some o1 ∧ ((w.alloc o1).alloc o2).heap[w.heap.size + 1]? = some o2 := by
  refine ⟨at_old (heap_alloc_new w o1), ?_⟩
  have := heap_alloc_new (w.alloc o1) o2
  simpa using this
theorem two_below (w : World) (o1 o2 : Obj) : Below w.heap.size w ((w.alloc o1).alloc o2) := ((Below.refl _ _).alloc (Nat.le_refl _) _).alloc (by simp) _
theorem cells5 {w : World} {b : Nat} {x0 x1 x2 x3 x4 : Value} {t : TypeId} {f : Nat × Nat} (h : w.heap[b]? = some (.cells #[x0, x1, x2, x3, x4] t f)) :
    w.cell? ⟨b, 0, none⟩ = some x0 ∧ w.cell? ⟨b, 1, none⟩ = some x1 ∧ w.cell? ⟨b, 2, none⟩ = some x2 ∧ w.cell? ⟨b, 3, none⟩ = some x3 ∧ w.cell? ⟨b, 4, none⟩ = some x4 := by
  simp [World.cell?, h]
theorem results5 {fn : Func} {tmps : Array Value} {W : World} {b : Nat} {v0 v1 v2 v3 v4 : Value} {t : TypeId} {f : Nat × Nat} (hr : fn.results = #[ResultVar.cell 2 45]) (ht : tmps[2]?.getD undef = .pointer (some ⟨b, 0, none⟩))
    (h : W.heap[b]? = some (.cells #[v0, v1, v2, v3, v4] t f)) : (results fn tmps).run Tryz.prog W = .ok (.agg #[v0, v1, v2, v3, v4]) W := by
  obtain ⟨e0, e1, e2, e3, e4⟩ := cells5 h
  simp only [results, hr]
  simp [go_sem, ht, e0, e1, e2, e3, e4]
theorem set5_at {w : World} {b : Nat} {x0 x1 x2 x3 x4 v0 v1 v2 v3 v4 : Value} {t : TypeId} {f : Nat × Nat} (h : w.heap[b]? = some (.cells #[x0, x1, x2, x3, x4] t f)) :
    (((((w.setCell ⟨b, 0, none⟩ v0).setCell ⟨b, 1, none⟩ v1).setCell ⟨b, 2, none⟩ v2).setCell ⟨b, 3, none⟩ v3).setCell ⟨b, 4, none⟩ v4).heap[b]? = some (.cells #[v0, v1, v2, v3, v4] t f) := by
  rw [setCell_at (setCell_at (setCell_at (setCell_at (setCell_at h))))]; rfl
/-- A whole expression is laid into a block. -/
theorem set5_all {w w3 : World} {b : Nat} {x0 x1 x2 x3 x4 : Value} (v0 v1 v2 v3 v4 : Value) {t : TypeId} {M : Nat → Prop} (h : w3.heap[b]? = some (.cells #[x0, x1, x2, x3, x4] t (0, 0))) (hb : Kept M w w3) (hw : w.heap.size ≤ b) :
    (((((w3.setCell ⟨b, 0, none⟩ v0).setCell ⟨b, 1, none⟩ v1).setCell ⟨b, 2, none⟩ v2).setCell ⟨b, 3, none⟩ v3).setCell ⟨b, 4, none⟩ v4).heap[b]? = some (.cells #[v0, v1, v2, v3, v4] t (0, 0)) ∧
    Kept M w (((((w3.setCell ⟨b, 0, none⟩ v0).setCell ⟨b, 1, none⟩ v1).setCell ⟨b, 2, none⟩ v2).setCell ⟨b, 3, none⟩ v3).setCell ⟨b, 4, none⟩ v4) ∧
    Kept (fun k => k = b) w3 (((((w3.setCell ⟨b, 0, none⟩ v0).setCell ⟨b, 1, none⟩ v1).setCell ⟨b, 2, none⟩ v2).setCell ⟨b, 3, none⟩ v3).setCell ⟨b, 4, none⟩ v4) :=
  ⟨set5_at h, ((((hb.set_new _ _ _ hw).set_new _ _ _ hw).set_new _ _ _ hw).set_new _ _ _ hw).set_new _ _ _ hw,
    (((((Kept.refl (fun k => k = b) w3).set_in _ _ _ rfl).set_in _ _ _ rfl).set_in _ _ _ rfl).set_in _ _ _ rfl).set_in _ _ _ rfl⟩
theorem none_below {a b : World} (h : Kept (fun _ => False) a b) : Below a.heap.size a b := h.to_below fun _ e => e.elim
theorem Below.then {a b c : World} (h : Below a.heap.size a b) (k : Below b.heap.size b c) : Below a.heap.size a c := h.trans (k.mono h.size)

set_option maxHeartbeats 1000000 in
/-- A word that is a number. -/
theorem expr_num {B : Nat} (wd : List UInt8) (q : Int) (a : Option Addr) (c v : Nat) (w : World) (hg : Glob B w) (hw : wd.length ≤ 1000000000) (hv : num wd = some v) :
    Calls Tryz.prog 115 #[.agg #[.bool false, .string (bs wd), .slice a 0 c, .int .i64 q]] w fun e w' => e = .returned (.agg #[.int .i64 1, .int .u32 v, .int .i64 0, .string ⟨#[]⟩, .slice none 0 0]) ∧ Below w.heap.size w w' := by
  have HN : Hid (num wd = some v) := hv
  clear hv
  go_enter Tryz.func115, Tryz.ntmps115
  go_wp2_with (first | (go_at_call 94; refine (text_ok _ _ _ _ _).mono ?_; rintro e w2 ⟨rfl, hb2⟩; have n2 := below_keep (two_at w _ _).1 hb2; have x2 := below_keep (two_at w _ _).2 hb2; obtain ⟨p20, p21, p22, p23, pz2, ps2⟩ := box4 n2; obtain ⟨y20, y21, y22, y23, y24, yz2, ys2⟩ := box5 x2) | (go_at_call 124; refine (number_bs wd _ hw ((hg.below (two_below w _ _)).below hb2)).mono ?_; rw [HN.out]; simp only [Option.getD, Option.isSome]; rintro e w3 ⟨rfl, hb3⟩; have n3 := below_keep n2 hb3; have x3 := below_keep x2 hb3; obtain ⟨p30, p31, p32, p33, pz3, ps3⟩ := box4 n3; obtain ⟨y30, y31, y32, y33, y34, yz3, ys3⟩ := box5 x3))
  obtain ⟨hE, hB, hK⟩ := set5_all (M := (fun _ => False)) (.int .i64 1) (.int .u32 v) (.int .i64 0) (.string ⟨#[]⟩) (.slice none 0 0) x3 (Below.kept (Below.then (Below.then (two_below w _ _) hb2) hb3) _) (by omega)
  generalize World.setCell _ _ _ = W at hE hB hK ⊢
  refine bodyPost_ret_by (v := .agg #[.int .i64 1, .int .u32 v, .int .i64 0, .string ⟨#[]⟩, .slice none 0 0]) (results5 Tryz.results115 rfl hE) rfl ?_
  exact ⟨rfl, none_below hB⟩
set_option maxHeartbeats 1000000 in
/-- A word that is a name. -/
theorem expr_name {B : Nat} (wd : List UInt8) (q : Int) (a : Option Addr) (c : Nat) (w : World) (hg : Glob B w) (hw : wd.length ≤ 1000000000) (hv : num wd = none) (hn : isName wd = true) :
    Calls Tryz.prog 115 #[.agg #[.bool false, .string (bs wd), .slice a 0 c, .int .i64 q]] w fun e w' => e = .returned (.agg #[.int .i64 2, .int .u32 0, .int .i64 0, .string (bs wd), .slice none 0 0]) ∧ Below w.heap.size w w' := by
  have HN : Hid (num wd = none) := hv
  clear hv
  go_enter Tryz.func115, Tryz.ntmps115
  go_wp2_with (first | (go_at_call 94; refine (text_ok _ _ _ _ _).mono ?_; rintro e w2 ⟨rfl, hb2⟩; have n2 := below_keep (two_at w _ _).1 hb2; have x2 := below_keep (two_at w _ _).2 hb2; obtain ⟨p20, p21, p22, p23, pz2, ps2⟩ := box4 n2; obtain ⟨y20, y21, y22, y23, y24, yz2, ys2⟩ := box5 x2) | (go_at_call 124; refine (number_bs wd _ hw ((hg.below (two_below w _ _)).below hb2)).mono ?_; rw [HN.out]; simp only [Option.getD, Option.isSome]; rintro e w3 ⟨rfl, hb3⟩; have n3 := below_keep n2 hb3; have x3 := below_keep x2 hb3; obtain ⟨p30, p31, p32, p33, pz3, ps3⟩ := box4 n3; obtain ⟨y30, y31, y32, y33, y34, yz3, ys3⟩ := box5 x3) | (go_at_call 22; refine (name_bs wd _).mono ?_; rintro e w4 ⟨rfl, hq⟩; have hq' := hq.symm; subst hq') | (go_at_call 92; refine (refuse_any _ _ _ _ _ _ _).mono ?_; rintro e w9 ⟨rfl, hb9⟩))
  obtain ⟨hE, hB, hK⟩ := set5_all (M := (fun _ => False)) (.int .i64 2) (.int .u32 0) (.int .i64 0) (.string (bs wd)) (.slice none 0 0) x3 (Below.kept (Below.then (Below.then (two_below w _ _) hb2) hb3) _) (by omega)
  generalize World.setCell _ _ _ = W at hE hB hK ⊢
  refine bodyPost_ret_by (v := .agg #[.int .i64 2, .int .u32 0, .int .i64 0, .string (bs wd), .slice none 0 0]) (results5 Tryz.results115 rfl hE) rfl ?_
  exact ⟨rfl, none_below hB⟩
set_option maxHeartbeats 1000000 in
/-- A word that is neither. -/
theorem expr_none {B : Nat} (wd : List UInt8) (q : Int) (a : Option Addr) (c : Nat) (w : World) (hg : Glob B w) (hw : wd.length ≤ 1000000000) (hv : num wd = none) (hn : isName wd = false) :
    Calls Tryz.prog 115 #[.agg #[.bool false, .string (bs wd), .slice a 0 c, .int .i64 q]] w fun e w' => e = .panicked (flt 6 q) ∧ Below w.heap.size w w' := by
  have HN : Hid (num wd = none) := hv
  clear hv
  go_enter Tryz.func115, Tryz.ntmps115
  go_wp2_with (first | (go_at_call 94; refine (text_ok _ _ _ _ _).mono ?_; rintro e w2 ⟨rfl, hb2⟩; have n2 := below_keep (two_at w _ _).1 hb2; have x2 := below_keep (two_at w _ _).2 hb2; obtain ⟨p20, p21, p22, p23, pz2, ps2⟩ := box4 n2; obtain ⟨y20, y21, y22, y23, y24, yz2, ys2⟩ := box5 x2) | (go_at_call 124; refine (number_bs wd _ hw ((hg.below (two_below w _ _)).below hb2)).mono ?_; rw [HN.out]; simp only [Option.getD, Option.isSome]; rintro e w3 ⟨rfl, hb3⟩; have n3 := below_keep n2 hb3; have x3 := below_keep x2 hb3; obtain ⟨p30, p31, p32, p33, pz3, ps3⟩ := box4 n3; obtain ⟨y30, y31, y32, y33, y34, yz3, ys3⟩ := box5 x3) | (go_at_call 22; refine (name_bs wd _).mono ?_; rintro e w4 ⟨rfl, hq⟩; have hq' := hq.symm; subst hq') | (go_at_call 92; refine (refuse_any _ _ _ _ _ _ _).mono ?_; rintro e w9 ⟨rfl, hb9⟩))
  exact ⟨rfl, rfl, Below.then (Below.then (Below.then (two_below w _ _) hb2) hb3) hb9⟩
/-- A word that has nodes. -/
theorem expr_kids (wd : List UInt8) (q : Int) (a : Option Addr) (n c : Nat) (w : World) :
    Calls Tryz.prog 115 #[.agg #[.bool false, .string (bs wd), .slice a (n + 1) c, .int .i64 q]] w fun e w' => e = .panicked (flt 6 q) ∧ Below w.heap.size w w' := by
  go_enter Tryz.func115, Tryz.ntmps115
  go_wp2_with (go_at_call 94; refine (text_kids _ _ _ _ _ _).mono ?_; rintro e w2 ⟨rfl, hb2⟩)
  exact ⟨rfl, rfl, Below.then (two_below w _ _) hb2⟩
/-- A list that has a word. -/
theorem expr_odd (x : UInt8) (wd : List UInt8) (q : Int) (a : Option Addr) (n c : Nat) (w : World) :
    Calls Tryz.prog 115 #[.agg #[.bool true, .string (bs (x :: wd)), .slice a n c, .int .i64 q]] w fun e w' => e = .panicked (flt 6 q) ∧ Below w.heap.size w w' := by
  go_enter Tryz.func115, Tryz.ntmps115
  go_wp2_with (go_at_call 55; refine (enter_bad _ _ _ _ _ _ (by simp)).mono ?_; rintro e w2 ⟨rfl, hb2⟩)
  exact ⟨rfl, rfl, Below.then (two_below w _ _) hb2⟩
end Go.Proofs.YtbpdhegfdmppgaaGreatDoor
