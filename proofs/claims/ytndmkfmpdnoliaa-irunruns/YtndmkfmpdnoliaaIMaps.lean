/- MAPS: looked into and put into; the map of deeds; the map of functions. -/
import Derived.Test.YtndmkfmpdnoliaaIDeed1
import Derived.Maps.Own
namespace Go.Proofs.Ytndmkfmpdnoliaa
open Go.ChangeShapes Go.WideShapes Go.ChangeAt Go.RowKit Go.Maps
open Go.ChangeMaps (setBlock)
open Go.WideMaps

theorem kStr_law : Keyed Try.prog 9 := string_keyed Try.underlying9
theorem kInt_law : Keyed Try.prog 3 := int_keyed Try.underlying3
theorem key_bs (l : List UInt8) (hl : l.length ≤ 1000000000) : ∃ z, keyOf Try.prog 9 (.string (bs l)) = some z :=
  ⟨_, keyOf_string_mk (P := Try.prog) (k := 9) Try.underlying9 (s := bs l) (by rw [bs_size]; unfold maxLen; omega)⟩

section
variable {k e t : TypeId} {w : World} {b : Nat} {es : Array MapEntry} {clock : Nat} {key : Value} {kl : Lit}
/-- No entry bears the key. -/
theorem look_none (c : Bool) (K : Keyed Try.prog k) (ht : Try.prog.underlying t = some (.map k e)) {z : Value} (hz : (zeroValue e).run Try.prog w = .ok z w) (hb : w.heap[b]? = some (.map es clock)) (hk : ∀ x ∈ es.toList, ∃ l, keyOf Try.prog k x.key = some l) (hkey : keyOf Try.prog k key = some kl) (hno : ∀ x ∈ es.toList, x.key ≠ key) :
    (Instr.lookup t (.map (some b)) key c).run Try.prog w = .ok (if c then .tuple #[z, .bool false] else z) w := by
  rcases K.find w hkey es.toList hk with ⟨h1, h2⟩ | ⟨j, e0, h1, h2, h3⟩
  · simp [Instr.lookup, run_underlying ht, MapKept.run_getObj_map hb, K.check w _ hkey, h1, hz, Result.andThen]
  · exact absurd h3 (hno e0 (List.mem_of_getElem? h2))
/-- All entries that bear the key have the same element. -/
theorem look_some (c : Bool) (K : Keyed Try.prog k) (ht : Try.prog.underlying t = some (.map k e)) (hb : w.heap[b]? = some (.map es clock)) (hk : ∀ x ∈ es.toList, ∃ l, keyOf Try.prog k x.key = some l) (hkey : keyOf Try.prog k key = some kl) {v : Value} (hin : ∃ x ∈ es.toList, x.key = key) (hv : ∀ x ∈ es.toList, x.key = key → x.val = v) :
    (Instr.lookup t (.map (some b)) key c).run Try.prog w = .ok (if c then .tuple #[v, .bool true] else v) w := by
  rcases K.find w hkey es.toList hk with ⟨h1, h2⟩ | ⟨j, e0, h1, h2, h3⟩
  · obtain ⟨x, hx, hxk⟩ := hin
    exact absurd hxk (h2 x hx)
  · rw [hv e0 (List.mem_of_getElem? h2) h3] at h1
    simp [Instr.lookup, run_underlying ht, MapKept.run_getObj_map hb, K.check w _ hkey, h1, Result.andThen]
/-- A key that is new. -/
theorem put_new (K : Keyed Try.prog k) (ht : Try.prog.underlying t = some (.map k e)) (hb : w.heap[b]? = some (.map es clock)) (hk : ∀ x ∈ es.toList, ∃ l, keyOf Try.prog k x.key = some l) (hkey : keyOf Try.prog k key = some kl) (hno : ∀ x ∈ es.toList, x.key ≠ key) (v : Value) :
    (Instr.mapUpdate t (.map (some b)) key v).run Try.prog w = .ok () (setBlock w b (.map (es.push ⟨key, v, clock⟩) (clock + 1))) := by
  rcases K.find w hkey es.toList hk with ⟨h1, h2⟩ | ⟨j, e0, h1, h2, h3⟩
  · simp [Instr.mapUpdate, run_underlying ht, MapKept.run_getObj_map hb, K.check w false hkey, h1, MapKept.run_setObj_map _ hb, Result.andThen, setBlock]
  · exact absurd h3 (hno e0 (List.mem_of_getElem? h2))
end
theorem key_int (n : Int) (h : (Lit.int .i64 n).wf = true) : keyOf Try.prog 3 (.int .i64 n) = some (.int .i64 n) := keyOf_int_mk Try.underlying3 h
/-- The entry of a deed. -/
def deedE (k : Nat) (f : FuncId) : MapEntry := ⟨.int .i64 (k + 1 : Nat), .func (.func f) #[] #[], k⟩
/-- The deeds. -/
def deedL : List MapEntry := [deedE 0 42, deedE 1 43, deedE 2 44, deedE 3 45, deedE 4 46, deedE 5 47, deedE 6 48, deedE 7 49, deedE 8 50, deedE 9 51]
def deedF : Nat → FuncId
  | 1 => 42 | 2 => 43 | 3 => 44 | 4 => 45 | 5 => 46 | 6 => 47 | 7 => 48 | 8 => 49 | 9 => 50 | _ => 51
theorem deedL_keys : ∀ x ∈ deedL, ∃ n : Nat, x.key = .int .i64 (n : Int) ∧ 1 ≤ n ∧ n ≤ 10 ∧ x.val = .func (.func (deedF n)) #[] #[] := by
  intro x hx
  simp only [deedL, List.mem_cons, List.not_mem_nil, or_false] at hx
  rcases hx with rfl | rfl | rfl | rfl | rfl | rfl | rfl | rfl | rfl | rfl
  · exact ⟨1, rfl, by decide, by decide, rfl⟩
  · exact ⟨2, rfl, by decide, by decide, rfl⟩
  · exact ⟨3, rfl, by decide, by decide, rfl⟩
  · exact ⟨4, rfl, by decide, by decide, rfl⟩
  · exact ⟨5, rfl, by decide, by decide, rfl⟩
  · exact ⟨6, rfl, by decide, by decide, rfl⟩
  · exact ⟨7, rfl, by decide, by decide, rfl⟩
  · exact ⟨8, rfl, by decide, by decide, rfl⟩
  · exact ⟨9, rfl, by decide, by decide, rfl⟩
  · exact ⟨10, rfl, by decide, by decide, rfl⟩
theorem wf_small (n : Nat) (h : n ≤ 10) : (Lit.int .i64 (n : Int)).wf = true := WalkArith.wf_i64 (by omega)
theorem deed_keyed {l : List MapEntry} (h : ∀ x ∈ l, x ∈ deedL) : ∀ x ∈ l, ∃ z, keyOf Try.prog 3 x.key = some z := fun x hx => by
  obtain ⟨n, hn, _, h10, _⟩ := deedL_keys x (h x hx)
  exact ⟨_, by rw [hn]; exact key_int n (wf_small n h10)⟩
theorem deed_at : ∀ n : Nat, 1 ≤ n → n ≤ 10 → ∃ x ∈ deedL, x.key = .int .i64 (n : Int) := by
  intro n h1 h10
  have : n = 1 ∨ n = 2 ∨ n = 3 ∨ n = 4 ∨ n = 5 ∨ n = 6 ∨ n = 7 ∨ n = 8 ∨ n = 9 ∨ n = 10 := by omega
  rcases this with rfl | rfl | rfl | rfl | rfl | rfl | rfl | rfl | rfl | rfl
  · exact ⟨deedE 0 42, by simp [deedL], rfl⟩
  · exact ⟨deedE 1 43, by simp [deedL], rfl⟩
  · exact ⟨deedE 2 44, by simp [deedL], rfl⟩
  · exact ⟨deedE 3 45, by simp [deedL], rfl⟩
  · exact ⟨deedE 4 46, by simp [deedL], rfl⟩
  · exact ⟨deedE 5 47, by simp [deedL], rfl⟩
  · exact ⟨deedE 6 48, by simp [deedL], rfl⟩
  · exact ⟨deedE 7 49, by simp [deedL], rfl⟩
  · exact ⟨deedE 8 50, by simp [deedL], rfl⟩
  · exact ⟨deedE 9 51, by simp [deedL], rfl⟩
/-- What a deed's number finds. -/
theorem deed_look {w : World} {DM : Nat} (h : w.heap[DM]? = some (.map deedL.toArray 10)) (n : Nat) (h1 : 1 ≤ n) (h10 : n ≤ 10) : (Instr.lookup 59 (.map (some DM)) (.int .i64 (n : Int)) false).run Try.prog w = .ok (.func (.func (deedF n)) #[] #[]) w := by
  refine look_some false kInt_law Try.underlying59 h (deed_keyed fun x hx => by simpa using hx) (key_int n (wf_small n h10)) (by obtain ⟨x, hx, hk⟩ := deed_at n h1 h10; exact ⟨x, by simpa using hx, hk⟩) fun x hx hk => ?_
  obtain ⟨m, hm, _, _, hv⟩ := deedL_keys x (by simpa using hx)
  rw [hm] at hk
  have : (m : Int) = (n : Int) := by injection hk
  have : m = n := by omega
  rw [hv, this]
theorem push_set (a : Array Obj) (x y : Obj) : (a.push x).setIfInBounds a.size y = a.push y := by
  apply Array.toList_inj.1
  simp
theorem deed_put (w : World) (n : Nat) (k : Int) (hk : k = ((n + 1 : Nat) : Int)) (h : n < 10) (v : Value) (hv : deedL[n]? = some ⟨.int .i64 ((n + 1 : Nat) : Int), v, n⟩) : (Instr.mapUpdate 59 (.map (some w.heap.size)) (.int .i64 k) v).run Try.prog (w.alloc (.map (deedL.take n).toArray n)) = .ok () (w.alloc (.map (deedL.take (n + 1)).toArray (n + 1))) := by
  subst hk
  have hb := heap_alloc_new w (.map (deedL.take n).toArray n)
  have hlt : ∀ m (x : MapEntry), deedL[m]? = some x → x.key = .int .i64 ((m + 1 : Nat) : Int) := by
    intro m x hx
    have hm : m < 10 := by
      rcases Nat.lt_or_ge m 10 with h1 | h1
      · exact h1
      · rw [List.getElem?_eq_none (by simp [deedL]; omega)] at hx; cases hx
    have : m = 0 ∨ m = 1 ∨ m = 2 ∨ m = 3 ∨ m = 4 ∨ m = 5 ∨ m = 6 ∨ m = 7 ∨ m = 8 ∨ m = 9 := by omega
    rcases this with rfl | rfl | rfl | rfl | rfl | rfl | rfl | rfl | rfl | rfl <;> (simp [deedL] at hx; subst hx; rfl)
  rw [put_new kInt_law Try.underlying59 hb (deed_keyed fun x hx => List.mem_of_mem_take (by simpa using hx)) (key_int _ (wf_small _ (by omega))) (fun x hx e => ?_) v]
  · congr 1
    have e1 : (deedL.take n).toArray.push ⟨.int .i64 ((n + 1 : Nat) : Int), v, n⟩ = (deedL.take (n + 1)).toArray := by rw [List.take_add_one, hv]; simp
    rw [e1]
    unfold setBlock World.alloc
    rw [push_set]
  · have hx' : x ∈ deedL.take n := by simpa using hx
    obtain ⟨m, hm, rfl⟩ := List.getElem_of_mem hx'
    have hm2 : m < n := by rw [List.length_take] at hm; omega
    rw [List.getElem_take] at e
    have := hlt m _ (List.getElem?_eq_getElem (by rw [List.length_take] at hm; omega))
    rw [this] at e
    have : ((m + 1 : Nat) : Int) = ((n + 1 : Nat) : Int) := by injection e
    omega
set_option maxRecDepth 100000 in
theorem deeds_any (w : World) : Calls Try.prog 25 #[] w fun e w' => e = .returned (.map (some w.heap.size)) ∧ w' = w.alloc (.map deedL.toArray 10) := by
  have hmk : (Instr.makeMap 59 none).run Try.prog w = .ok (.map (some w.heap.size)) (w.alloc (.map (deedL.take 0).toArray 0)) := run_makeMap _ w
  have p0 := deed_put w 0 1 rfl (by decide) _ rfl
  have p1 := deed_put w 1 2 rfl (by decide) _ rfl
  have p2 := deed_put w 2 3 rfl (by decide) _ rfl
  have p3 := deed_put w 3 4 rfl (by decide) _ rfl
  have p4 := deed_put w 4 5 rfl (by decide) _ rfl
  have p5 := deed_put w 5 6 rfl (by decide) _ rfl
  have p6 := deed_put w 6 7 rfl (by decide) _ rfl
  have p7 := deed_put w 7 8 rfl (by decide) _ rfl
  have p8 := deed_put w 8 9 rfl (by decide) _ rfl
  have p9 := deed_put w 9 10 rfl (by decide) _ rfl
  have hfin : deedL.take (9 + 1) = deedL := rfl
  rw [hfin] at p9
  generalize hd0 : (deedL.take 0).toArray = d0 at hmk p0
  generalize (deedL.take (0 + 1)).toArray = d1 at p0 p1
  generalize (deedL.take (1 + 1)).toArray = d2 at p1 p2
  generalize (deedL.take (2 + 1)).toArray = d3 at p2 p3
  generalize (deedL.take (3 + 1)).toArray = d4 at p3 p4
  generalize (deedL.take (4 + 1)).toArray = d5 at p4 p5
  generalize (deedL.take (5 + 1)).toArray = d6 at p5 p6
  generalize (deedL.take (6 + 1)).toArray = d7 at p6 p7
  generalize (deedL.take (7 + 1)).toArray = d8 at p7 p8
  generalize (deedL.take (8 + 1)).toArray = d9 at p8 p9
  generalize deedL.toArray = d10 at p9 ⊢
  clear hfin hd0
  simp only [Nat.reduceAdd] at p0 p1 p2 p3 p4 p5 p6 p7 p8 p9
  go_enter Try.func25, Try.ntmps25
  go_wp2
  go_ret
  exact ⟨rfl, rfl⟩
end Go.Proofs.Ytndmkfmpdnoliaa
