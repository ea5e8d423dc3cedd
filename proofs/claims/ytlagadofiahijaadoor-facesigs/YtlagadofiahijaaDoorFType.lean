/- CONTRACTS of strconv.Atoi (its number alone), guessType, strconv.AppendInt (1 to 99), Same's parts. -/
import Derived.Test.YtlagadofiahijaaDoorFMay
namespace Go.Proofs.YtlagadofiahijaaDoor
open Go.ChangeShapes Go.WideShapes Go.ChangeAt Go.RowKit Go.Shelf

/-- What Atoi says the number is, whatever else it says. -/
def atoiV (l : List UInt8) : Int := match Lib.atoiAll l with
  | .ok v => v
  | .«syntax» => 0
  | .range => Lib.atoiSat l
/-- The type that a word says. -/
def gTy (s : List UInt8) : Ty := ⟨Lib.hasPrefix s [115, 101, 99], atoiV (Lib.trimPrefix (Lib.trimPrefix s [115, 101, 99]) [112, 117, 98])⟩

theorem atoi_v {B : Nat} (l : List UInt8) (w : World) (hl : l.length ≤ 1000000000) (hg : Glob B w) :
    Calls Tryd.prog 30 #[.string (bs l)] w fun e w' => (∃ er, e = .returned (.tuple #[.int .i64 (atoiV l), er])) ∧ Below w.heap.size w w' := by
  obtain ⟨te, pe, hS⟩ := hg.errS
  obtain ⟨te2, pe2, hR⟩ := hg.errR
  cases h : Lib.atoiAll l with
  | ok v =>
    refine (Any.strconv_Atoi_ok Tryd.laysAtoi (bs l) (by rw [bs_size]; omega) v (by rw [bs_list]; exact h) w).mono ?_
    rintro e w' ⟨rfl, hw⟩
    refine ⟨⟨_, by rw [atoiV, h]⟩, ?_⟩
    rcases hw with rfl | ⟨t, rfl⟩
    · exact Below.refl _ _
    · exact Lib.bytesWorld_below _ _ _
  | «syntax» =>
    refine (Any.strconv_Atoi_syntax Tryd.laysAtoi (bs l) (by rw [bs_size]; omega) (by rw [bs_list]; exact h) _ w hS (.inr ⟨te, pe, rfl⟩)).mono ?_
    rintro e w' ⟨N, rfl, _, _, hb⟩
    exact ⟨⟨_, by rw [atoiV, h]⟩, hb⟩
  | range =>
    refine (Any.strconv_Atoi_range Tryd.laysAtoi (bs l) (by rw [bs_size]; omega) (by rw [bs_list]; exact h) _ w hR (.inr ⟨te2, pe2, rfl⟩)).mono ?_
    rintro e w' ⟨N, rfl, _, _, hb⟩
    exact ⟨⟨_, by rw [atoiV, h, bs_list]⟩, hb⟩
theorem cutPrefix_bs (l : List UInt8) (p : List UInt8) (w : World) :
    Calls Tryd.prog 29 #[.string (bs l), .string (bs p)] w fun e w' => e = .returned (.tuple #[.string (bs (Lib.trimPrefix l p)), .bool (Lib.hasPrefix l p)]) ∧ w' = w := by
  have := Any.strings_CutPrefix Tryd.laysCutPrefix (bs l) (bs p) w
  rw [bs_list, bs_list] at this
  exact this
theorem trimPrefix_bs (l : List UInt8) (p : List UInt8) (w : World) :
    Calls Tryd.prog 31 #[.string (bs l), .string (bs p)] w fun e w' => e = .returned (.string (bs (Lib.trimPrefix l p))) ∧ w' = w := by
  have := Any.strings_TrimPrefix Tryd.laysTrimPrefix (bs l) (bs p) w
  rw [bs_list, bs_list] at this
  exact this
theorem trimPrefix_len (l p : List UInt8) : (Lib.trimPrefix l p).length ≤ l.length := by
  unfold Lib.trimPrefix; split <;> simp

theorem cells2 {w : World} {b : Nat} {x0 x1 : Value} {t : TypeId} (h : w.heap[b]? = some (.cells #[x0, x1] t (0, 0))) :
    w.cell? ⟨b, 0, none⟩ = some x0 ∧ w.cell? ⟨b, 1, none⟩ = some x1 ∧ w.frozen? ⟨b, 0, none⟩ = false ∧ w.frozen? ⟨b, 1, none⟩ = false := by
  refine ⟨?_, ?_, ?_, ?_⟩ <;> simp [World.cell?, World.frozen?, h]
theorem set2 {w : World} {b : Nat} {x0 x1 y0 y1 : Value} {e : TypeId} {f : Nat × Nat} (h : w.heap[b]? = some (.cells #[x0, x1] e f)) : ((w.setCell ⟨b, 0, none⟩ y0).setCell ⟨b, 1, none⟩ y1).heap[b]? = some (.cells #[y0, y1] e f) :=
  set_over (set_over h)

set_option maxRecDepth 100000 in
set_option maxHeartbeats 1000000 in
theorem guessType_any {B : Nat} (s : List UInt8) (w : World) (hs : s.length ≤ 1000000000) (hg : Glob B w) :
    Calls Tryd.prog 24 #[.string (bs s)] w fun e w' => e = .returned (.agg #[.bool (gTy s).sec, .int .i64 (gTy s).len]) ∧ Below w.heap.size w w' := by
  have h1 := trimPrefix_len s [115, 101, 99]
  have h2 := trimPrefix_len (Lib.trimPrefix s [115, 101, 99]) [112, 117, 98]
  have HG : Hid (gTy s = ⟨Lib.hasPrefix s [115, 101, 99], atoiV (Lib.trimPrefix (Lib.trimPrefix s [115, 101, 99]) [112, 117, 98])⟩) := rfl
  have hc := cutPrefix_bs s [115, 101, 99]
  have ht := trimPrefix_bs (Lib.trimPrefix s [115, 101, 99]) [112, 117, 98]
  have ha := fun W (hW : Glob B W) => atoi_v (B := B) (Lib.trimPrefix (Lib.trimPrefix s [115, 101, 99]) [112, 117, 98]) W (by omega) hW
  generalize atoiV (Lib.trimPrefix (Lib.trimPrefix s [115, 101, 99]) [112, 117, 98]) = n at ha HG
  generalize Lib.trimPrefix (Lib.trimPrefix s [115, 101, 99]) [112, 117, 98] = y at ha ht
  generalize Lib.trimPrefix s [115, 101, 99] = x at hc ht
  generalize Lib.hasPrefix s [115, 101, 99] = z at hc HG
  have b1 : bs [115, 101, 99] = ⟨#[115, 101, 99]⟩ := rfl
  have b2 : bs [112, 117, 98] = ⟨#[112, 117, 98]⟩ := rfl
  rw [b1] at hc
  rw [b2] at ht
  clear b1 b2 h1 h2
  have hg2 : ∀ o, Glob B (w.alloc o) := fun o => hg.alloc o
  go_enter Tryd.func24, Tryd.ntmps24
  go_wp2_with (first | (go_at_call 29; refine (hc _).mono ?_; rintro e w1 ⟨rfl, hq⟩; have hq' := hq.symm; subst hq') | (go_at_call 31; refine (ht _).mono ?_; rintro e w2 ⟨rfl, hq⟩; have hq' := hq.symm; subst hq') | (go_at_call 30; refine (ha _ (hg2 _)).mono ?_; rintro e w3 ⟨⟨er, rfl⟩, hb⟩; refine Hid.out ?_))
  refine Lib.hid ?_
  have hres : w3.heap[w.heap.size]? = some (Obj.cells #[Value.bool false, Value.int IntKind.i64 0] 38) := by
    rw [hb.block _ (by simp)]; exact heap_alloc_new w _
  have HB : Hid (Below w.heap.size w w3) := bl_then (bl_alloc (Below.refl _ _) _) hb
  obtain ⟨c0, c1, f0, f1⟩ := cells2 hres
  clear hb hg2 hc ht ha
  go_wp2
  refine bodyPost_ret_by (results_row Tryd.results24 rfl (load_type (set2 hres) rfl)) rfl ?_
  exact ⟨by rw [HG.out], bl_set (bl_set HB.out _ _ _ (Nat.le_refl _)) _ _ _ (Nat.le_refl _)⟩
end Go.Proofs.YtlagadofiahijaaDoor
