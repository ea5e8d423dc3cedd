/- What holds of the library's own variable; CONTRACT of isFull. -/
import Derived.Test.YtkbanngbchhgaaaIParts
import Derived.Test.YtkbanngbchhgaaaICut
import Derived.Lib.IndexMore
import Derived.Lib.Hide
import Derived.Lib.Strings
namespace Go.Proofs.Ytkbanngbchhgaaa
open Go.ChangeShapes Go.WideShapes Go.ChangeAt Go.RowKit Go.Shelf

/-- The library's variable holds some number; its block lies below B. -/
def Glob (B : Nat) (w : World) : Prop := (∃ m, w.cell? ⟨Try.laysCut_ren.g 1, 0, none⟩ = some (.int .i64 m)) ∧ Try.laysCut_ren.g 1 < B ∧ B ≤ w.heap.size
theorem Glob.keep {B : Nat} {w w' : World} {M : Nat → Prop} (h : Glob B w) (hk : Kept M w w') (hM : ∀ k, M k → B ≤ k) : Glob B w' := by
  obtain ⟨⟨m, hm⟩, hB, hB'⟩ := h
  exact ⟨⟨m, hk.cell (fun e => by have := hM _ e; omega) hm⟩, hB, Nat.le_trans hB' hk.size⟩
theorem Glob.below {B : Nat} {w w' : World} (h : Glob B w) (hk : Below w.heap.size w w') : Glob B w' := h.keep (Below.kept hk (fun _ => False)) fun _ e => e.elim
theorem Glob.alloc {B : Nat} {w : World} (h : Glob B w) (o : Obj) : Glob B (w.alloc o) := h.below ((Below.refl _ _).alloc (Nat.le_refl _) o)

theorem cutB_lib (b : UInt8) (l : List UInt8) : (Lib.cut l [b]).1 = (cutB b l).1 ∧ (Lib.cut l [b]).2.1 = (cutB b l).2 ∧ ((Lib.cut l [b]).2.2 = false → (cutB b l).2 = []) := by
  have key : ∀ l : List UInt8, (Lib.index l [b] = -1 ∧ cutB b l = (l, [])) ∨ (∃ k : Nat, Lib.index l [b] = (k : Int) ∧ cutB b l = (l.take k, l.drop (k + 1))) := by
    intro l
    induction l with
    | nil => left; exact ⟨rfl, rfl⟩
    | cons c l ih =>
      by_cases hc : c = b
      · right
        refine ⟨0, ?_, ?_⟩
        · rw [Lib.index, if_pos (by simp [hc])]; rfl
        · rw [cutB, if_pos hc]; rfl
      · have hp : ¬ ([b].isPrefixOf (c :: l) = true) := by simp [List.isPrefixOf]; exact fun e => hc e.symm
        rcases ih with ⟨h1, h2⟩ | ⟨k, h1, h2⟩
        · left
          exact ⟨by rw [Lib.index, if_neg hp, h1]; rfl, by rw [cutB, if_neg hc, h2]⟩
        · right
          refine ⟨k + 1, ?_, ?_⟩
          · have hk : ¬ ((Lib.index l [b] == -1) = true) := by rw [h1]; simp
            rw [Lib.index, if_neg hp, if_neg hk, h1]; omega
          · rw [cutB, if_neg hc, h2]; rfl
  rcases key l with ⟨h1, h2⟩ | ⟨k, h1, h2⟩
  · rw [Lib.cut, if_neg (by omega), h2]; exact ⟨rfl, rfl, fun _ => rfl⟩
  · rw [Lib.cut, if_pos (by omega), h2, h1]; exact ⟨rfl, rfl, fun h => by cases h⟩
/-- strings.Cut at a byte. -/
theorem cut_any {B : Nat} (b : UInt8) (l : List UInt8) (w : World) (hl : l.length ≤ 1000000000) (hg : Glob B w) :
    Calls Try.prog 42 #[.string (bs l), .string ⟨#[b]⟩] w fun e w' => ∃ z, e = .returned (.tuple #[.string (bs (cutB b l).1), .string (bs (cutB b l).2), .bool z]) ∧ (z = false → (cutB b l).2 = []) ∧ Below w.heap.size w w' := by
  obtain ⟨⟨m, hm⟩, _⟩ := hg
  refine (Any.strings_Cut Try.laysCut (bs l) ⟨#[b]⟩ m w (by rw [bs_size]; omega) hm).mono fun e w' h => ?_
  obtain ⟨h1, n, h2⟩ := h
  have hz := (cutB_lib b l).2.2
  rw [bs_list] at h1
  change e = .returned (.tuple #[.string ⟨(Lib.cut l [b]).1.toArray⟩, .string ⟨(Lib.cut l [b]).2.1.toArray⟩, .bool (Lib.cut l [b]).2.2]) at h1
  rw [(cutB_lib b l).1, (cutB_lib b l).2.1] at h1
  exact ⟨_, h1, hz, by rw [h2]; exact drewN_below w n⟩

set_option maxHeartbeats 1000000 in
theorem isFull_any {B : Nat} (s : List UInt8) (w : World) (hl : s.length ≤ 1000000000) (hg : Glob B w) :
    Calls Try.prog 34 #[.string (bs s)] w fun e w' => e = .returned (.bool (fullB s)) ∧ Below w.heap.size w w' := by
  have hc := cut_any 46 s w hl hg
  have HM : Hid (fullB s = (isName (cutB 46 s).1 && isName (cutB 46 s).2)) := rfl
  have hx := name_bs (cutB 46 s).1
  have hy := name_bs (cutB 46 s).2
  have hnil : ∀ {t : List UInt8}, t = [] → isName t = false := fun h => by rw [h]; rfl
  generalize (cutB 46 s).1 = x at hc HM hx
  generalize (cutB 46 s).2 = y at hc HM hy
  go_enter Try.func34, Try.ntmps34
  go_wp2_with (first | (go_at_call 42; refine hc.mono ?_; rintro e w1 ⟨z, rfl, hz, hb1⟩; refine Hid.out ?_))
  refine Lib.hid ?_
  rcases z with _ | _
  · go_wp2_with fail
    go_ret
    exact ⟨ret_bool (by rw [HM.out, hnil (hz (by simp))]; simp), hb1⟩
  · clear hz
    rcases nx : isName x with _ | _ <;> rw [nx] at hx HM
    · go_wp2_with (first | (go_at_call 43; refine (hx _).mono ?_; rintro e w2 ⟨rfl, hq⟩; have hq' := hq.symm; subst hq'))
      go_ret
      exact ⟨ret_bool (by rw [HM.out]; rfl), hb1⟩
    · go_wp2_with (first | (go_at_call_of 43 (Value.string (bs x)); refine (hx _).mono ?_; rintro e w2 ⟨rfl, hq⟩; have hq' := hq.symm; subst hq') | (go_at_call_of 43 (Value.string (bs y)); refine (hy _).mono ?_; rintro e w3 ⟨rfl, hq⟩; have hq' := hq.symm; subst hq'))
      go_ret
      exact ⟨ret_bool (by rw [HM.out]; rfl), hb1⟩
end Go.Proofs.Ytkbanngbchhgaaa
