/- FUNCTIONS THAT ARE WRITTEN OUT, in memory; functions that lie in a box; Light of one function. -/
import Derived.Test.YtclajapdbphlbaaGFold
import Derived.Test.YtclajapdbphlbaaILight
namespace Go.Proofs.Ytclajapdbphlbaa
open Go.ChangeShapes Go.WideShapes Go.ChangeAt Go.RowKit

/-- The cells of instructions without arguments. -/
def irsCells : List Ir → List Value
  | [] => []
  | x :: l => irCells x none 0 ++ irsCells l
def PlainIr (l : List Ir) : Prop := ∀ x ∈ l, x.args = [] ∧ x.n < 4294967296
theorem irs_lay {w : World} {S : Nat → Prop} : ∀ {l : List Ir}, PlainIr l → kIr.lay w S (irsCells l) l
  | [], _ => rfl
  | x :: l, h => by
    have hx := h x (by simp)
    exact ⟨irCells x none 0, irsCells l, rfl, ⟨none, 0, rfl, by rw [hx.1]; exact Nat.le_refl _, hx.2, by rw [hx.1]; trivial⟩, irs_lay fun y hy => h y (by simp [hy])⟩
theorem cells_of' {w : World} {b : Nat} {cs : List Value} {t : TypeId} {f : Nat × Nat} (h : w.heap[b]? = some (.cells cs.toArray t f)) : ∀ j u, cs[j]? = some u → w.cell? ⟨b, 0 + j, none⟩ = some u := fun j u hj => by
  simp [World.cell?, h, hj]
theorem irs_rowG {w : World} {b : Nat} {l : List Ir} (hl : PlainIr l) (h : w.heap[b]? = some (.cells (irsCells l).toArray 36)) : kIr.row w (fun _ => True) (some ⟨b, 0, none⟩) l :=
  kIr.lay_row (S := fun _ => True) (fun _ h => h) b trivial 0 (irs_lay hl) (cells_of' h)
theorem two_box' (w : World) (o1 o2 : Obj) : ((w.alloc o1).alloc o2).heap[w.heap.size]? = some o1 ∧ ((w.alloc o1).alloc o2).heap[w.heap.size + 1]? = some o2 ∧ Below w.heap.size w ((w.alloc o1).alloc o2) ∧ ((w.alloc o1).alloc o2).heap.size = w.heap.size + 2 := by
  refine ⟨by rw [heap_alloc_old _ _ (by simp)]; exact heap_alloc_new w o1, ?_, bl_alloc (bl_alloc (Below.refl _ _) _) _, by simp⟩
  have := heap_alloc_new (w.alloc o1) o2
  simpa using this
theorem co_oneG {w : World} {S : Nat → Prop} {b : Nat} {c : Co} {pa la : Option Addr} {pc lc : Nat} (hin : CoIn w S c pa pc la lc) (hS : S b) (h : w.heap[b]? = some (coO c pa pc la lc)) : kCo.row w S (some ⟨b, 0, none⟩) [c] :=
  kCo.lay_row (S := S) (fun _ h => h) b hS 0 ⟨coCells c pa pc la lc, [], rfl, ⟨pa, pc, la, lc, rfl, hin⟩, rfl⟩ (cells_of' h)
theorem coIn_on {w w' : World} {S : Nat → Prop} {c : Co} {pa la : Option Addr} {pc lc : Nat} (hin : CoIn w S c pa pc la lc) (hb : Below w.heap.size w w') : CoIn w' (fun _ => True) c pa pc la lc := hin.mono fun b _ hlt => ⟨trivial, hb.block b hlt⟩
theorem light_oneG {c : Co} (h : lightB [c] = true) : c.ps.length ≤ 20 ∧ c.l.length ≤ 3000 ∧ CoOk c ∧ ∀ z ∈ c.l, z.args.length ≤ 20 := by
  have hok := (light_all h).2 c (by simp)
  simp only [lightB, List.all_cons, List.all_nil, Bool.and_true, Bool.and_eq_true, coLight, coLight0, decide_eq_true_eq, List.all_eq_true] at h
  refine ⟨by omega, by omega, hok, fun z hz => ?_⟩
  have := h.2.2 z hz
  simp only [irLight, Bool.and_eq_true, decide_eq_true_eq] at this
  omega
theorem foldX_args (K : Kws) {x : Ir} {n : Nat} (h : x.args.length ≤ n) : (foldX K x).args.length ≤ n ∧ (foldX K x).name.length ≤ x.name.length := by
  rcases foldX_or K x with e | ⟨_, m, _, e⟩
  · rw [e]; exact ⟨h, Nat.le_refl _⟩
  · rw [e]; exact ⟨Nat.zero_le _, Nat.zero_le _⟩
theorem foldL_mem {l : List Ir} {z : Ir} (h : z ∈ foldL l) : ∃ y ∈ l, ∃ K, z = foldX K y := by
  obtain ⟨k, hk, rfl⟩ := List.getElem_of_mem h
  have hk' : k < l.length := by rw [← foldL_len l]; exact hk
  obtain ⟨K, hK⟩ := foldF_get (begs l) l 0 kNone k hk'
  refine ⟨l[k], List.getElem_mem hk', K, ?_⟩
  have h2 : (foldL l)[k]? = some (foldX K l[k]) := hK
  rw [List.getElem?_eq_getElem hk] at h2
  exact Option.some.inj h2
theorem foldC_ok {c : Co} (h : CoOk c) : CoOk (foldC c) := ⟨h.name, fun z hz => by
  obtain ⟨y, hy, K, rfl⟩ := foldL_mem hz
  have h1 := h.ins y hy
  have h2 := foldX_args K h1.2
  exact ⟨by omega, h2.1⟩⟩
/-- Where nothing is wrong. -/
theorem fold_yes {B : Nat} {S : Nat → Prop} (x : Co) (pa : Option Addr) (pc : Nat) (la : Option Addr) (lc : Nat) (w : World) (hin : CoIn w S x pa pc la lc) (hok : CoOk x) (hg : Glob B w) (hr : (rightR x).1 = 0) :
    Calls Try.prog 12 #[.agg #[.string (bs x.name), .slice pa x.ps.length pc, .int .i64 x.regs, .int .i64 x.cells, .slice la x.l.length lc]] w fun e w' => ∃ qa qc ra rc, e = .returned (.tuple #[.agg #[.string (bs x.name), .slice qa x.ps.length qc, .int .i64 x.regs, .int .i64 x.cells, .slice ra x.l.length rc], .int .i64 0]) ∧ CoIn w' (fun _ => True) (foldC x) qa qc ra rc ∧ Below w.heap.size w w' := by
  refine (fold_any x pa pc la lc w hin hok hg).mono fun e w' hh => ?_
  unfold FoldPost at hh
  rw [foldT_ok hr] at hh
  obtain ⟨qa, qc, ra, rc, rfl, h1, h2⟩ := hh
  refine ⟨qa, qc, ra, rc, ?_, h1.mono fun b _ _ => ⟨trivial, rfl⟩, h2⟩
  have hl : (foldC x).l.length = x.l.length := foldL_len x.l
  unfold coV
  rw [hl]
  rfl
theorem fold_no {B : Nat} {S : Nat → Prop} (x : Co) (pa : Option Addr) (pc : Nat) (la : Option Addr) (lc : Nat) (w : World) (hin : CoIn w S x pa pc la lc) (hok : CoOk x) (hg : Glob B w) (hr : (rightR x).1 ≠ 0) :
    Calls Try.prog 12 #[.agg #[.string (bs x.name), .slice pa x.ps.length pc, .int .i64 x.regs, .int .i64 x.cells, .slice la x.l.length lc]] w fun e w' => ∃ qa qc ra rc, e = .returned (.tuple #[.agg #[.string ⟨#[]⟩, .slice qa 0 qc, .int .i64 0, .int .i64 0, .slice ra 0 rc], .int .i64 (rightR x).1]) ∧ CoIn w' (fun _ => True) noCo qa qc ra rc ∧ Below w.heap.size w w' := by
  refine (fold_any x pa pc la lc w hin hok hg).mono fun e w' hh => ?_
  unfold FoldPost at hh
  rw [foldT_no hr] at hh
  obtain ⟨qa, qc, ra, rc, rfl, h1, h2⟩ := hh
  exact ⟨qa, qc, ra, rc, rfl, h1.mono fun b _ _ => ⟨trivial, rfl⟩, h2⟩
end Go.Proofs.Ytclajapdbphlbaa
