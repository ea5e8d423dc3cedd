/- THE CONTRACT of sexp.Print. -/
import Derived.Test.YtbedhghcdhbkmaaPrint3
namespace Go.Proofs.Ytbedhghcdhbkmaa
open Go.ChangeShapes Go.WideShapes Go.ChangeAt Go.RowKit

theorem convert_text {w : World} {base : Nat} {v : Value} {t : List UInt8} (h : TextOwn w base v t) : (convert 44 9 v).run Try.prog w = .ok (.string (bs t)) w := by
  have h' : w.ownsRow base 5 1 v t.length (byteCells (bs t)) := h
  rcases h.2 with ⟨rfl, h0⟩ | ⟨g, cap, cur, rfl, _⟩
  · have : t = [] := List.eq_nil_of_length_eq_zero h0
    subst this
    rw [run_convert_bytes_string w 44 9 5 none 0 0 Try.underlying44 Try.underlying5 Try.underlying9]
    rfl
  · refine run_convert_bytes_back (P := Try.prog) w 44 9 5 ⟨g, 0, none⟩ cap t Try.underlying44 Try.underlying5 Try.underlying9 fun j hj => ?_
    refine h'.cells (g := g) rfl j _ ?_
    rw [byteCells_bs]
    simp [hj]

def prE : Option (List UInt8) → Int | none => 6 | some _ => 0
def prS : Option (List UInt8) → List UInt8 | none => [] | some u => u

theorem retS {a b : ByteArray} {i j : Int} (h : a = b) (h' : i = j) : Ending.returned (.tuple #[.string a, .int .i64 i]) = .returned (.tuple #[.string b, .int .i64 j]) := by rw [h, h']

theorem print_any (l : List Nd) (S : Nat → Prop) (a : Option Addr) (c : Nat) (w : World) (hr : Row S w a l) (hw : wtL l ≤ 1000000000) :
    Calls Try.prog 14 #[.slice a l.length c] w fun e w' => e = .returned (.tuple #[.string (bs (prS (pGo 10 0 true l))), .int .i64 (prE (pGo 10 0 true l))]) ∧ Below w.heap.size w w' := by
  have hc := nodes_out (sizeL l) w.heap.size w (.slice none 0 0) [] l a c 0 10 (Nat.le_refl _) (World.ownsRow_nil _ _ _ _) (Nat.le_refl _) (by simpa using hw) (by omega) (hr.mono fun b _ hlt => ⟨hlt, rfl⟩)
  rw [show ((0 : Nat) : Int) = 0 from rfl, show ((UInt8.toNat 10 : Nat) : Int) = 10 from rfl] at hc
  rcases hp : pGo 10 0 true l with _ | u
  · rw [hp] at hc
    go_enter Try.func14, Try.ntmps14
    go_wp2_with (go_at_call 22; refine hc.mono ?_; rintro e w1 hout; obtain ⟨rfl, hk⟩ := hout.fails)
    go_ret2
    exact ⟨retS rfl rfl, hk.below (Nat.le_refl _) fun g hg => by simp [Value.ownBlock] at hg⟩
  · rw [hp] at hc
    go_enter Try.func14, Try.ntmps14
    go_wp2_with (go_at_call 22; refine hc.mono ?_; rintro e w1 hout; obtain ⟨v, rfl, hk, ht, hm⟩ := hout.tells; have hcv := convert_text ht)
    go_ret2
    exact ⟨retS rfl rfl, hk.below (Nat.le_refl _) fun g hg => by simp [Value.ownBlock] at hg⟩
end Go.Proofs.Ytbedhghcdhbkmaa
