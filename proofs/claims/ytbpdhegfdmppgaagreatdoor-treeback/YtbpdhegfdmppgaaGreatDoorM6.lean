/- Texts of this proof, put together: TLib, TRest, TName. -/
import Derived.Test.YtbpdhegfdmppgaaGreatDoorM2
import Derived.Test.YtbpdhegfdmppgaaGreatDoorM3
import Derived.Test.YtbpdhegfdmppgaaGreatDoorM4
import Derived.WalkKit
import Derived.BigCall
import Derived.Laws.NewBlocks
import Derived.Test.YtbpdhegfdmppgaaGreatDoorM5

/- FRAMES; what holds of the library's own variables wherever the program goes ('Glob'); the library's contracts, laid at this program. -/
namespace Go.Proofs.YtbpdhegfdmppgaaGreatDoor
open Go.ChangeShapes Go.WideShapes Go.ChangeAt Go.RowKit Go.Shelf


theorem Kept.alloc_r {M : Nat → Prop} {a b : World} (h : Kept M a b) (o : Obj) : Kept M a (b.alloc o) := h.trans (Kept.alloc b o M)
theorem Kept.set_new {M : Nat → Prop} {a b : World} (h : Kept M a b) (k o : Nat) (v : Value) (hk : a.heap.size ≤ k) : Kept M a (b.setCell ⟨k, o, none⟩ v) :=
  ⟨h.os, h.tape, h.output, by simpa [World.setCell] using h.size, fun i hi hm => by rw [setCell_other (by omega)]; exact h.block i hi hm⟩
theorem Kept.set_in {M : Nat → Prop} {a b : World} (h : Kept M a b) (k o : Nat) (v : Value) (hk : M k) : Kept M a (b.setCell ⟨k, o, none⟩ v) :=
  ⟨h.os, h.tape, h.output, by simpa [World.setCell] using h.size, fun i hi hm => by rw [setCell_other (fun e => hm (by rw [e]; exact hk))]; exact h.block i hi hm⟩
theorem Below.to_kept {a b c : World} {M : Nat → Prop} (h : Kept M a b) (k : Below b.heap.size b c) : Kept M a c := h.trans (Below.kept k M)
theorem Kept.cell {M : Nat → Prop} {a b : World} (h : Kept M a b) {k o : Nat} {v : Value} (hk : ¬ M k) (hc : a.cell? ⟨k, o, none⟩ = some v) : b.cell? ⟨k, o, none⟩ = some v := by
  rw [World.cell?_of_block (w := a) (h.block k (World.block_lt_of_cell? a _ hc) hk)]; exact hc
theorem Kept.to_below {M : Nat → Prop} {a b : World} (h : Kept M a b) (hM : ∀ k, M k → a.heap.size ≤ k) : Below a.heap.size a b := h.below (Nat.le_refl _) hM

/-- What holds of the library's variables when a call begins. -/
structure Start (W : World) : Prop where
  errS : ∃ te pe, W.cell? ⟨Tryz.laysPu_ren.g 0, 0, none⟩ = some (.iface te pe)
  errR : ∃ te pe, W.cell? ⟨Tryz.laysPu_ren.g 1, 0, none⟩ = some (.iface te pe)
  maxl : ∃ m, W.cell? ⟨Tryz.laysCut_ren.g 1, 0, none⟩ = some (.int .i64 m)
/-- All blocks of a world of that sort are as they were; they lie below B. -/
def Glob (B : Nat) (w : World) : Prop := ∃ W : World, Start W ∧ W.heap.size ≤ B ∧ B ≤ w.heap.size ∧ ∀ k, k < W.heap.size → w.heap[k]? = W.heap[k]?
theorem Glob.keep {B : Nat} {w w' : World} {M : Nat → Prop} (h : Glob B w) (hk : Kept M w w') (hM : ∀ k, M k → B ≤ k) : Glob B w' := by
  obtain ⟨W, hs, hB, hB', hw⟩ := h
  refine ⟨W, hs, hB, Nat.le_trans hB' hk.size, fun k hlt => (hk.block k (by omega) fun m => ?_).trans (hw k hlt)⟩
  have := hM k m
  omega
theorem Glob.below {B : Nat} {w w' : World} (h : Glob B w) (hk : Below w.heap.size w w') : Glob B w' := h.keep (Below.kept hk (fun _ => False)) fun _ e => e.elim
theorem Glob.le {B : Nat} {w : World} (h : Glob B w) : B ≤ w.heap.size := by
  obtain ⟨W, hs, hB, hB', hw⟩ := h
  exact hB'
theorem Glob.cell {B : Nat} {w : World} (h : Glob B w) : ∃ W, Start W ∧ ∀ b o v, W.cell? ⟨b, o, none⟩ = some v → w.cell? ⟨b, o, none⟩ = some v := by
  obtain ⟨W, hs, hB, hB', hw⟩ := h
  exact ⟨W, hs, fun b o v hc => by rw [World.cell?_of_block (w := W) (hw b (World.block_lt_of_cell? W _ hc))]; exact hc⟩
theorem Glob.errS {B : Nat} {w : World} (h : Glob B w) : ∃ te pe, w.cell? ⟨Tryz.laysPu_ren.g 0, 0, none⟩ = some (.iface te pe) := by
  obtain ⟨W, hs, hc⟩ := h.cell
  obtain ⟨te, pe, h1⟩ := hs.errS
  exact ⟨te, pe, hc _ _ _ h1⟩
theorem Glob.errR {B : Nat} {w : World} (h : Glob B w) : ∃ te pe, w.cell? ⟨Tryz.laysPu_ren.g 1, 0, none⟩ = some (.iface te pe) := by
  obtain ⟨W, hs, hc⟩ := h.cell
  obtain ⟨te, pe, h1⟩ := hs.errR
  exact ⟨te, pe, hc _ _ _ h1⟩
theorem Glob.maxl {B : Nat} {w : World} (h : Glob B w) : ∃ m, w.cell? ⟨Tryz.laysCut_ren.g 1, 0, none⟩ = some (.int .i64 m) := by
  obtain ⟨W, hs, hc⟩ := h.cell
  obtain ⟨m, h1⟩ := hs.maxl
  exact ⟨m, hc _ _ _ h1⟩
theorem drewN_below (w : World) (n : Nat) : Below w.heap.size w (w.drewN n) := ⟨rfl, rfl, rfl, Nat.le_refl _, fun _ _ => rfl⟩
end Go.Proofs.YtbpdhegfdmppgaaGreatDoor

/- CONTRACTS of what reads a list's nodes one behind the other: giveUp, refuse, text, enter, and the methods more, next, nextOf, end of what is left of a list. -/
namespace Go.Proofs.YtbpdhegfdmppgaaGreatDoor
open Go.ChangeShapes Go.WideShapes Go.ChangeAt Go.RowKit

/-- What a call gives up with. -/
def flt (c p : Int) : List PanicEntry := [{ v := .iface 94 (.agg #[.int .i64 c, .int .i64 p]), recovered := false }]

/-- What is left of a list: the nodes l, of a list at p. All nodes lie below B. -/
structure Rs (B : Nat) (w : World) (r : Nat) (l : List Nd) (p : Int) : Prop where
  own : B ≤ r
  glob : Glob B w
  wok : wokL l
  row : ∃ a c, w.heap[r]? = some (.cells #[.slice a l.length c, .int .i64 p] 97 (0, 0)) ∧ Row (fun b => b < B) w a l ∧ l.length ≤ c

theorem Rs.lt {B : Nat} {w : World} {r : Nat} {l : List Nd} {p : Int} (h : Rs B w r l p) : r < w.heap.size := by
  obtain ⟨a, c, hh, _⟩ := h.row
  exact lt_of_some hh
theorem Rs.keep {B : Nat} {w w' : World} {r : Nat} {l : List Nd} {p : Int} {M : Nat → Prop} (h : Rs B w r l p) (hk : Kept M w w') (hM : ∀ k, M k → B ≤ k) (hr : ¬ M r) : Rs B w' r l p := by
  obtain ⟨a, c, hh, hrow, hc⟩ := h.row
  refine ⟨h.own, h.glob.keep hk hM, h.wok, a, c, by rw [hk.block r (lt_of_some hh) hr]; exact hh, hrow.mono fun b hb hlt => ⟨hb, hk.block b hlt fun m => ?_⟩, hc⟩
  have := hM b m
  omega
theorem Rs.below {B : Nat} {w w' : World} {r : Nat} {l : List Nd} {p : Int} (h : Rs B w r l p) (hk : Below w.heap.size w w') : Rs B w' r l p :=
  h.keep (Below.kept hk (fun _ => False)) (fun _ e => e.elim) id

theorem cells2 {w : World} {b : Nat} {x0 x1 : Value} {t : TypeId} (h : w.heap[b]? = some (.cells #[x0, x1] t (0, 0))) :
    w.cell? ⟨b, 0, none⟩ = some x0 ∧ w.cell? ⟨b, 1, none⟩ = some x1 ∧ w.frozen? ⟨b, 0, none⟩ = false ∧ w.frozen? ⟨b, 1, none⟩ = false := by
  simp [World.cell?, World.frozen?, h]

theorem giveUp_any (c p : Int) (w : World) : Calls Tryz.prog 93 #[.int .i64 c, .int .i64 p] w fun e w' => e = .panicked (flt c p) ∧ w' = w := by
  go_enter Tryz.func93, Tryz.ntmps93
  go_wp2
  exact ⟨rfl, rfl, rfl⟩
theorem more_any (r : Nat) (a : Option Addr) (n c : Nat) (w : World) (h0 : w.cell? ⟨r, 0, none⟩ = some (.slice a n c)) : Calls Tryz.prog 62 #[.pointer (some ⟨r, 0, none⟩)] w fun e w' => e = .returned (.bool (decide (0 < n))) ∧ w' = w := by
  go_enter Tryz.func62, Tryz.ntmps62
  go_wp2
  go_ret
  exact ⟨rfl, rfl⟩
theorem refuse_any (il : Bool) (s : ByteArray) (a : Option Addr) (n c : Nat) (p : Int) (w : World) : Calls Tryz.prog 92 #[.agg #[.bool il, .string s, .slice a n c, .int .i64 p]] w fun e w' => e = .panicked (flt 6 p) ∧ Below w.heap.size w w' := by
  go_enter Tryz.func92, Tryz.ntmps92
  go_wp2_with (go_at_call 93; refine (giveUp_any _ _ _).mono ?_; rintro e w' ⟨rfl, rfl⟩)
  exact ⟨rfl, rfl, (Below.refl _ _).alloc (Nat.le_refl _) _⟩

theorem text_ok (s : ByteArray) (a : Option Addr) (c : Nat) (p : Int) (w : World) : Calls Tryz.prog 94 #[.agg #[.bool false, .string s, .slice a 0 c, .int .i64 p]] w fun e w' => e = .returned (.string s) ∧ Below w.heap.size w w' := by
  go_enter Tryz.func94, Tryz.ntmps94
  go_wp2_with fail
  go_ret
  exact ⟨rfl, (Below.refl _ _).alloc (Nat.le_refl _) _⟩
theorem text_list (s : ByteArray) (a : Option Addr) (n c : Nat) (p : Int) (w : World) : Calls Tryz.prog 94 #[.agg #[.bool true, .string s, .slice a n c, .int .i64 p]] w fun e w' => e = .panicked (flt 6 p) ∧ Below w.heap.size w w' := by
  go_enter Tryz.func94, Tryz.ntmps94
  go_wp2_with (go_at_call 92; refine (refuse_any _ _ _ _ _ _ _).mono ?_; rintro e w' ⟨rfl, hb⟩)
  exact ⟨rfl, rfl, ((Below.refl _ _).alloc (Nat.le_refl _) _).trans (hb.mono (by simp))⟩
theorem text_kids (s : ByteArray) (a : Option Addr) (n c : Nat) (p : Int) (w : World) : Calls Tryz.prog 94 #[.agg #[.bool false, .string s, .slice a (n + 1) c, .int .i64 p]] w fun e w' => e = .panicked (flt 6 p) ∧ Below w.heap.size w w' := by
  have hn : (0 : Int) < (n : Int) + 1 := by omega
  go_enter Tryz.func94, Tryz.ntmps94
  go_wp2_with (go_at_call 92; refine (refuse_any _ _ _ _ _ _ _).mono ?_; rintro e w' ⟨rfl, hb⟩)
  exact ⟨rfl, rfl, ((Below.refl _ _).alloc (Nat.le_refl _) _).trans (hb.mono (by simp))⟩
/-- What text tells of a node. -/
theorem text_any (il : Bool) (wd : List UInt8) (ks : List Nd) (q : Int) (a : Option Addr) (c : Nat) (w : World) : Calls Tryz.prog 94 #[.agg #[.bool il, .string (bs wd), .slice a ks.length c, .int .i64 q]] w fun e w' =>
    (match rdText (.mk il wd ks q) with | .ok s => e = .returned (.string (bs s)) | .bad x y => e = .panicked (flt x y)) ∧ Below w.heap.size w w' := by
  cases il with
  | true => exact text_list _ _ _ _ _ _
  | false =>
    cases ks with
    | nil => exact text_ok _ _ _ _ _
    | cons n l => exact text_kids _ _ _ _ _ _

theorem next_none (r : Nat) (a : Option Addr) (c : Nat) (p : Int) (w : World) (hr : r < w.heap.size) (h0 : w.cell? ⟨r, 0, none⟩ = some (.slice a 0 c)) (h1 : w.cell? ⟨r, 1, none⟩ = some (.int .i64 p)) :
    Calls Tryz.prog 56 #[.pointer (some ⟨r, 0, none⟩)] w fun e w' => e = .panicked (flt 6 p) ∧ Below w.heap.size w w' := by
  go_enter Tryz.func56, Tryz.ntmps56
  go_wp2_with (first | (go_at_call 62; refine (more_any _ _ _ _ _ (alloc_cell _ h0)).mono ?_; rintro e w' ⟨rfl, hq⟩; have hq' := hq.symm; subst hq') | (go_at_call 93; refine (giveUp_any _ _ _).mono ?_; rintro e w' ⟨rfl, hq⟩; have hq' := hq.symm; subst hq'))
  exact ⟨rfl, rfl, (Below.refl _ _).alloc (Nat.le_refl _) _⟩
theorem next_some (r b o : Nat) (n c : Nat) (il : Bool) (s : ByteArray) (a' : Option Addr) (n' c' : Nat) (p' : Int) (w : World) (h0 : w.cell? ⟨r, 0, none⟩ = some (.slice (some ⟨b, o, none⟩) (n + 1) c))
   (hz : w.frozen? ⟨r, 0, none⟩ = false) (hr : r < w.heap.size) (hb : b < w.heap.size)
   (g0 : w.cell? ⟨b, o, none⟩ = some (.bool il)) (g1 : w.cell? ⟨b, o + 1, none⟩ = some (.string s)) (g2 : w.cell? ⟨b, o + 2, none⟩ = some (.slice a' n' c')) (g3 : w.cell? ⟨b, o + 3, none⟩ = some (.int .i64 p')) :
    Calls Tryz.prog 56 #[.pointer (some ⟨r, 0, none⟩)] w fun e w' => e = .returned (.agg #[.bool il, .string s, .slice a' n' c', .int .i64 p']) ∧
      ∃ o1 o2, w' = ((w.setCell ⟨r, 0, none⟩ (.slice (some ⟨b, if c = 1 then o else o + 4, none⟩) n (c - 1))).alloc o1).alloc o2 := by
  have hn : (0 : Int) < (n : Int) + 1 := by omega
  have hr1 : r < w.heap.size + 1 := by omega
  have hb1 : b < w.heap.size + 1 := by omega
  go_enter Tryz.func56, Tryz.ntmps56
  go_wp2_with (first | (go_at_call 62; refine (more_any _ _ _ _ _ (alloc_cell _ h0)).mono ?_; rintro e w' ⟨rfl, hq⟩; have hq' := hq.symm; subst hq'))
  all_goals refine bodyPost_ret_by (by simp [results, Tryz.results56, go_sem]; rfl) rfl ?_
  all_goals exact ⟨rfl, _, _, rfl⟩

/-- The node that is read now. -/
theorem next_ok {B : Nat} {w : World} {r : Nat} {l : List Nd} {p : Int} (il : Bool) (wd : List UInt8) (ks : List Nd) (q : Int) (h : Rs B w r (.mk il wd ks q :: l) p) :
    Calls Tryz.prog 56 #[.pointer (some ⟨r, 0, none⟩)] w fun e w' => ∃ a c, e = .returned (.agg #[.bool il, .string (bs wd), .slice a ks.length c, .int .i64 q]) ∧ Row (fun b => b < B) w' a ks ∧ ks.length ≤ c ∧ Rs B w' r l p ∧ Kept (fun k => k = r) w w' := by
  obtain ⟨a, c, hh, hrow, hc⟩ := h.row
  have hB := h.own
  have hlt := h.lt
  obtain ⟨c0, c1, z0, _⟩ := cells2 hh
  cases hrow with
  | cons b o _ _ _ _ _ a' c' hc' hS h0 h1 h2 h3 hk hr =>
    have hb := World.block_lt_of_cell? w _ h0
    refine (next_some r b o l.length c il (bs wd) a' ks.length c' q w (by simpa using c0) z0 hlt hb h0 h1 h2 h3).mono ?_
    rintro e w' ⟨rfl, o1, o2, rfl⟩
    have hkp : Kept (fun k => k = r) w (((w.setCell ⟨r, 0, none⟩ (.slice (some ⟨b, if c = 1 then o else o + 4, none⟩) l.length (c - 1))).alloc o1).alloc o2) := ((Kept.set w r 0 _).alloc_r o1).alloc_r o2
    have hfar : ∀ (b : Nat), b < B → b < w.heap.size → b < B ∧ (((w.setCell ⟨r, 0, none⟩ (.slice (some ⟨b, if c = 1 then o else o + 4, none⟩) l.length (c - 1))).alloc o1).alloc o2).heap[b]? = w.heap[b]? := fun k hk hlt' => ⟨hk, by
      have := ((Kept.set w r 0 (.slice (some ⟨k, if c = 1 then o else o + 4, none⟩) l.length (c - 1))).alloc_r o1).alloc_r o2
      exact this.block k hlt' (by omega)⟩
    have hfar' : ∀ (k : Nat), k < B → k < w.heap.size → k < B ∧ (((w.setCell ⟨r, 0, none⟩ (.slice (some ⟨b, if c = 1 then o else o + 4, none⟩) l.length (c - 1))).alloc o1).alloc o2).heap[k]? = w.heap[k]? := fun k hk hlt' => ⟨hk, hkp.block k hlt' (by omega)⟩
    refine ⟨a', c', rfl, hk.mono hfar', hc', ⟨hB, h.glob.keep hkp (fun k e => by omega), h.wok.2, some ⟨b, if c = 1 then o else o + 4, none⟩, c - 1, ?_, ?_, by simp only [List.length_cons] at hc; omega⟩, hkp⟩
    · rw [heap_alloc_old _ o2 (by simp [World.setCell]; omega), heap_alloc_old _ o1 (by simp [World.setCell]; omega), setCell_at hh]
      rfl
    · by_cases h1 : c = 1
      · have : l = [] := List.eq_nil_of_length_eq_zero (by simp only [List.length_cons] at hc; omega)
        subst this
        exact .nil _
      · rw [if_neg h1] at hfar' ⊢
        exact hr.mono hfar'
theorem next_bad {B : Nat} {w : World} {r : Nat} {p : Int} (h : Rs B w r [] p) :
    Calls Tryz.prog 56 #[.pointer (some ⟨r, 0, none⟩)] w fun e w' => e = .panicked (flt 6 p) ∧ Below w.heap.size w w' := by
  obtain ⟨a, c, hh, hrow, hc⟩ := h.row
  obtain ⟨c0, c1, z0, _⟩ := cells2 hh
  exact next_none r a c p w h.lt c0 c1

theorem more_rs {B : Nat} {w : World} {r : Nat} {l : List Nd} {p : Int} (h : Rs B w r l p) : Calls Tryz.prog 62 #[.pointer (some ⟨r, 0, none⟩)] w fun e w' => e = .returned (.bool (decide (0 < l.length))) ∧ w' = w := by
  obtain ⟨a, c, hh, hrow, hc⟩ := h.row
  obtain ⟨c0, c1, z0, _⟩ := cells2 hh
  exact more_any r a _ c w c0

/-- The list that a node is. -/
theorem enter_ok {B : Nat} {w : World} (ks : List Nd) (q : Int) (a : Option Addr) (c : Nat) (hB : B ≤ w.heap.size) (hg : Glob B w) (hw : wokL ks) (hr : Row (fun b => b < B) w a ks) (hc : ks.length ≤ c) :
    Calls Tryz.prog 55 #[.agg #[.bool true, .string ⟨#[]⟩, .slice a ks.length c, .int .i64 q]] w fun e w' => ∃ r, e = .returned (.pointer (some ⟨r, 0, none⟩)) ∧ w.heap.size ≤ r ∧ Rs B w' r ks q ∧ Below w.heap.size w w' := by
  go_enter Tryz.func55, Tryz.ntmps55
  go_wp2_with fail
  go_ret
  have hb : Below w.heap.size w (((w.alloc (.cells #[.bool true, .string ⟨#[]⟩, .slice a ks.length c, .int .i64 q] 66)).alloc (.cells #[.slice a ks.length c, .int .i64 q] 97))) := ((Below.refl _ _).alloc (Nat.le_refl _) _).alloc (by simp) _
  refine ⟨w.heap.size + 1, rfl, by omega, ⟨by omega, hg.below hb, hw, a, c, ?_, hr.mono fun b hb' hlt => ⟨hb', hb.block b hlt⟩, hc⟩, hb⟩
  have := heap_alloc_new (w.alloc (.cells #[.bool true, .string ⟨#[]⟩, .slice a ks.length c, .int .i64 q] 66)) (.cells #[.slice a ks.length c, .int .i64 q] 97)
  simpa using this
theorem enter_bad {w : World} (il : Bool) (wd : List UInt8) (n : Nat) (q : Int) (a : Option Addr) (c : Nat) (h : (!il || !wd.isEmpty) = true) :
    Calls Tryz.prog 55 #[.agg #[.bool il, .string (bs wd), .slice a n c, .int .i64 q]] w fun e w' => e = .panicked (flt 6 q) ∧ Below w.heap.size w w' := by
  cases il with
  | false =>
    go_enter Tryz.func55, Tryz.ntmps55
    go_wp2_with (go_at_call 92; refine (refuse_any _ _ _ _ _ _ _).mono ?_; rintro e w' ⟨rfl, hb⟩)
    exact ⟨rfl, rfl, ((Below.refl _ _).alloc (Nat.le_refl _) _).trans (hb.mono (by simp))⟩
  | true =>
    cases wd with
    | nil => simp at h
    | cons x l =>
      have hne : (bs (x :: l)).toList.isEmpty = false := by rw [ByteArray.toList_eq, bs_list]; simp
      clear h
      generalize bs (x :: l) = s at hne ⊢
      go_enter Tryz.func55, Tryz.ntmps55
      go_wp2_with (go_at_call 92; refine (refuse_any _ _ _ _ _ _ _).mono ?_; rintro e w' ⟨rfl, hb⟩)
      exact ⟨rfl, rfl, ((Below.refl _ _).alloc (Nat.le_refl _) _).trans (hb.mono (by simp))⟩
end Go.Proofs.YtbpdhegfdmppgaaGreatDoor

/- CONTRACTS of what tells names: isLetter, isBehind, Name. -/
namespace Go.Proofs.YtbpdhegfdmppgaaGreatDoor
open Go.ChangeShapes Go.WideShapes Go.ChangeAt Go.RowKit

theorem isLetter_any (b : UInt8) (w : World) : Calls Tryz.prog 47 #[.int .u8 b.toNat] w fun e w' => e = .returned (.bool (isLow b)) ∧ w' = w := by
  go_enter Tryz.func47, Tryz.ntmps47
  go_wp2
  all_goals go_ret
  all_goals refine ⟨ret_bool ?_, rfl⟩
  all_goals (rw [Bool.eq_iff_iff]; simp only [isLow, Bool.and_eq_true, decide_eq_true_eq, UInt8.le_iff_toNat_le, Bool.false_eq_true, false_iff] at *; simp at *; omega)
theorem isBehind_any (b : UInt8) (w : World) : Calls Tryz.prog 48 #[.int .u8 b.toNat] w fun e w' => e = .returned (.bool (isBeh b)) ∧ w' = w := by
  go_enter Tryz.func48, Tryz.ntmps48
  go_wp2
  all_goals go_ret
  all_goals refine ⟨ret_bool ?_, rfl⟩
  all_goals (rw [Bool.eq_iff_iff]; simp only [isBeh, Bool.or_eq_true, Bool.and_eq_true, decide_eq_true_eq, UInt8.le_iff_toNat_le, beq_iff_eq, ← UInt8.toNat_inj, true_iff] at *; simp at *; omega)

/-- May a byte stand in a name at a place? -/
def fits (k : Nat) (b : UInt8) : Bool := isLow b || (k != 0 && isBeh b)
/-- Do the bytes fit, from a place on? -/
def fitsFrom : Nat → List UInt8 → Bool
  | _, [] => true
  | k, b :: l => fits k b && fitsFrom (k + 1) l
theorem fits_behind : ∀ (k : Nat) (l : List UInt8), fitsFrom (k + 1) l = l.all fun c => isLow c || isBeh c
  | _, [] => rfl
  | k, b :: l => by simp [fitsFrom, fits, fits_behind (k + 1) l]
theorem isName_fits (l : List UInt8) : isName l = (decide (0 < l.length) && decide (l.length ≤ 12) && fitsFrom 0 l) := by
  cases l with
  | nil => rfl
  | cons b r =>
    have h : decide (r.length ≤ 11) = decide (r.length + 1 ≤ 12) := by simp
    simp [isName, fitsFrom, fits, fits_behind, Bool.and_assoc]
theorem fits_at (s : ByteArray) (k : Nat) (h : k < s.size) : fitsFrom k (s.data.toList.drop k) = (fits k s[k] && fitsFrom (k + 1) (s.data.toList.drop (k + 1))) := by
  have h' : k < s.data.toList.length := by simpa using h
  rw [List.drop_eq_getElem_cons h']
  rfl

set_option maxHeartbeats 1000000 in
theorem name_any (s : ByteArray) (w : World) : Calls Tryz.prog 22 #[.string s] w fun e w' => e = .returned (.bool (isName s.data.toList)) ∧ w' = w := by
  have hl : s.data.toList.length = s.size := rfl
  by_cases h0 : s.size = 0
  · have hn : s.data.toList = [] := List.eq_nil_of_length_eq_zero (hl.trans h0)
    have hs : s = ⟨#[]⟩ := (ba_nil s).2 hn
    subst hs
    go_enter Tryz.func22, Tryz.ntmps22
    go_wp2
    go_ret
    exact ⟨rfl, rfl⟩
  · have hne : s.toList.isEmpty = false := by rw [ByteArray.toList_eq]; cases h : s.data.toList with
      | nil => rw [h] at hl; simp at hl; omega
      | cons => rfl
    rw [isName_fits, hl]
    by_cases h12 : 12 < s.size
    · have h12' : (12 : Int) < (s.size : Int) := by omega
      have hf : (decide (0 < s.size) && decide (s.size ≤ 12) && fitsFrom 0 s.data.toList) = false := by simp; omega
      rw [hf]
      go_enter Tryz.func22, Tryz.ntmps22
      go_wp2
      go_ret
      exact ⟨rfl, rfl⟩
    · have h12' : ¬ (12 : Int) < (s.size : Int) := by omega
      have hf : (decide (0 < s.size) && decide (s.size ≤ 12) && fitsFrom 0 s.data.toList) = fitsFrom 0 s.data.toList := by simp; omega
      rw [hf]
      clear hf hl h0
      go_enter Tryz.func22, Tryz.ntmps22
      go_wp2
      go_loop [13] (fun i => ∃ k : Nat, k ≤ s.size ∧ i = .int .i64 k ∧ fitsFrom 0 s.data.toList = fitsFrom k (s.data.toList.drop k)) (fun i => s.size - (intOf i).toNat)
      case atStart => exact ⟨0, Nat.zero_le _, rfl, rfl⟩
      case round =>
        obtain ⟨k, hk, rfl, hq⟩ := hrel
        have HQ : Hid (fitsFrom 0 s.data.toList = fitsFrom k (s.data.toList.drop k)) := hq
        clear hq
        by_cases hlt : k < s.size
        · have HA : Hid _ := fits_at s k hlt
          rcases hlo : isLow s[k] with _ | _
          · by_cases hk0 : k = 0
            · subst hk0
              go_wp2_with (first | (go_at_call 47; refine (isLetter_any _ _).mono ?_; rintro e w' ⟨rfl, rfl⟩) | (go_at_call 48; refine (isBehind_any _ _).mono ?_; rintro e w' ⟨rfl, rfl⟩))
              go_ret
              exact ⟨ret_bool (by rw [HQ.out, HA.out]; simp [fits, hlo]), rfl⟩
            · have hk0' : ¬ (k : Int) = 0 := by omega
              rcases hbe : isBeh s[k] with _ | _
              · go_wp2_with (first | (go_at_call 47; refine (isLetter_any _ _).mono ?_; rintro e w' ⟨rfl, rfl⟩) | (go_at_call 48; refine (isBehind_any _ _).mono ?_; rintro e w' ⟨rfl, rfl⟩))
                go_ret
                exact ⟨ret_bool (by rw [HQ.out, HA.out]; simp [fits, hlo, hbe]), rfl⟩
              · go_wp2_with (first | (go_at_call 47; refine (isLetter_any _ _).mono ?_; rintro e w' ⟨rfl, rfl⟩) | (go_at_call 48; refine (isBehind_any _ _).mono ?_; rintro e w' ⟨rfl, rfl⟩))
                go_round
                case rel => exact ⟨k + 1, by omega, by go_num, by rw [HQ.out, HA.out]; simp [fits, hlo, hbe, hk0]⟩
                case measure => simp [intOf]; omega
          · go_wp2_with (first | (go_at_call 47; refine (isLetter_any _ _).mono ?_; rintro e w' ⟨rfl, rfl⟩) | (go_at_call 48; refine (isBehind_any _ _).mono ?_; rintro e w' ⟨rfl, rfl⟩))
            go_round
            case rel => exact ⟨k + 1, by omega, by go_num, by rw [HQ.out, HA.out]; simp [fits, hlo]⟩
            case measure => simp [intOf]; omega
        · go_wp2_with fail
          go_ret
          exact ⟨ret_bool (by rw [HQ.out, List.drop_of_length_le (by have : s.data.toList.length = s.size := rfl; omega)]; rfl), rfl⟩
end Go.Proofs.YtbpdhegfdmppgaaGreatDoor
