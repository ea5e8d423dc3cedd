/- WHAT THE STATEMENTS' WALKS SHARE. -/
import Derived.Test.YtbedhghcdhbkmaaAwake
import Derived.Test.YtbedhghcdhbkmaaFacts
import Derived.Test.YtbedhghcdhbkmaaGood
namespace Go.Proofs.Ytbedhghcdhbkmaa
open Go.RowKit

theorem outL_size (o : Out) : sizeL (outL o) = outSize o := by cases o <;> rfl
theorem parse_size16 (l : List UInt8) : sizeL (outL (parse l)) ≤ 16384 := by rw [outL_size]; exact parse_out l
theorem parse_size (l : List UInt8) : sizeL (outL (parse l)) ≤ 1000000000 := by have := parse_size16 l; omega

theorem run_errs : ∀ (l : List UInt8) (p : Nat) (n : Bool) (st : St) (e : Int) (q : Nat), run l p n st = .err e q → (e = 2 ∨ e = 3 ∨ e = 4) ∧ p ≤ q ∧ (q < p + l.length ∨ q = p + l.length ∧ e = 3)
  | [], p, n, st, e, q, h => by
    have hr : run [] p n st = st.finish p := by cases n <;> rfl
    rw [hr] at h
    unfold St.finish at h
    split at h
    · cases h
    · cases h; exact ⟨.inr (.inl rfl), Nat.le_refl _, .inr ⟨rfl, rfl⟩⟩
  | b :: r, p, true, st, e, q, h => by
    have := run_errs r (p + 1) (b != 10) st e q h
    rw [List.length_cons]
    omega
  | b :: r, p, false, st, e, q, h => by
    rcases ht : st.take p b with e' | st'
    · rw [run_err ht] at h
      cases h
      exact ⟨take_err ht, Nat.le_refl _, .inl (by rw [List.length_cons]; omega)⟩
    · rw [run_ok ht] at h
      have := run_errs r (p + 1) (b == 59) st' e q h
      rw [List.length_cons]
      omega

theorem parse_errs {l : List UInt8} {e : Int} {q : Nat} (h : parse l = .err e q) : (e = 5 ∧ q = 0 ∧ 16384 < l.length) ∨ (l.length ≤ 16384 ∧ (e = 2 ∨ e = 3 ∨ e = 4) ∧ (q < l.length ∨ q = l.length ∧ e = 3)) := by
  unfold parse at h
  split at h
  · cases h; exact .inl ⟨rfl, rfl, by assumption⟩
  · have := run_errs l 0 false _ e q h
    exact .inr ⟨by omega, this.1, by omega⟩

/-- Parse, where what it tells is known. -/
theorem parse_ok {s : ByteArray} {l : List Nd} (h : parse s.data.toList = .ok l) (w : World) : Calls Try.prog 10 #[.string s] w fun e w' => Below w.heap.size w w' ∧
    ∃ x c, e = .returned (.tuple #[.slice x l.length c, .int .i64 0, .int .i64 (-1)]) ∧ Row (fun b => w.heap.size ≤ b) w' x l := by
  refine (parse_any s w).mono ?_
  rintro e w' ⟨hb, v, rfl, hr⟩
  rw [h] at hr ⊢
  obtain ⟨x, c, rfl, hr⟩ := hr
  exact ⟨hb, x, c, rfl, hr⟩
theorem parse_bad {s : ByteArray} {er : Int} {q : Nat} (h : parse s.data.toList = .err er q) (w : World) : Calls Try.prog 10 #[.string s] w fun e w' => Below w.heap.size w w' ∧
    ∃ x c, e = .returned (.tuple #[.slice x 0 c, .int .i64 er, .int .i64 q]) := by
  refine (parse_any s w).mono ?_
  rintro e w' ⟨hb, v, rfl, hr⟩
  rw [h] at hr ⊢
  obtain ⟨x, c, rfl, hr⟩ := hr
  exact ⟨hb, x, c, rfl⟩
end Go.Proofs.Ytbedhghcdhbkmaa
