/- THE CONTRACT of the statements' own awake: true. -/
import Derived.Test.YtbedhghcdhbkmaaPrint4
import Derived.Test.YtbedhghcdhbkmaaParse
namespace Go.Proofs.Ytbedhghcdhbkmaa
open Go.ChangeShapes Go.WideShapes Go.ChangeAt Go.RowKit

def awT : ByteArray := ⟨#[40, 108, 101, 116, 32, 120, 32, 40, 43, 32, 49, 32, 121, 41, 41, 32, 122]⟩
def awL : List Nd := [.mk true [] [.mk false [108, 101, 116] [] 1, .mk false [120] [] 5, .mk true [] [.mk false [43] [] 8, .mk false [49] [] 10, .mk false [121] [] 12] 7] 0, .mk false [122] [] 16]

theorem aw_parse : parse awT.data.toList = .ok awL := by kernel_rfl
theorem aw_print : pGo 10 0 true awL = some [40, 108, 101, 116, 32, 120, 32, 40, 43, 32, 49, 32, 121, 41, 41, 10, 122] := by kernel_rfl
theorem aw_wt : wtL awL ≤ 1000000000 := by decide

theorem parse_awake (w : World) : Calls Try.prog 10 #[.string ⟨#[40, 108, 101, 116, 32, 120, 32, 40, 43, 32, 49, 32, 121, 41, 41, 32, 122]⟩] w fun e w' => Below w.heap.size w w' ∧
    ∃ b o c, e = .returned (.tuple #[.slice (some ⟨b, o, none⟩) 2 c, .int .i64 0, .int .i64 (-1)]) ∧ Row (fun b => w.heap.size ≤ b) w' (some ⟨b, o, none⟩) awL ∧ w'.cell? ⟨b, o + 4 + 3, none⟩ = some (.int .i64 16) := by
  refine (parse_any awT w).mono ?_
  rintro e w' ⟨hb, v, rfl, hrd⟩
  rw [aw_parse] at hrd ⊢
  obtain ⟨a, c, rfl, hr⟩ := hrd
  obtain ⟨b, o, a', c', ha, _, _, _, _, h3, _⟩ := hr.at_ 1 false [122] [] 16 rfl
  subst ha
  exact ⟨hb, b, o, c, rfl, hr, by simpa using h3⟩

theorem print_awake (a : Option Addr) (c : Nat) (S : Nat → Prop) (w : World) (hr : Row S w a awL) : Calls Try.prog 14 #[.slice a 2 c] w fun e w' => e = .returned (.tuple #[.string ⟨#[40, 108, 101, 116, 32, 120, 32, 40, 43, 32, 49, 32, 121, 41, 41, 10, 122]⟩, .int .i64 0]) ∧ Below w.heap.size w w' := by
  have h := print_any awL S a c w hr aw_wt
  rw [aw_print] at h
  exact h

set_option maxHeartbeats 1600000 in
theorem awake_any (w : World) : Calls Try.prog 9 #[] w fun e w' => e = .returned (.bool true) ∧ Below w.heap.size w w' := by
  go_enter Try.func9, Try.ntmps9
  go_wp2_with (first | (go_at_call 10; refine (parse_awake _).mono ?_; rintro e w1 ⟨hb1, b, o, c, rfl, hr, h16⟩) | (go_at_call 14; refine (print_awake _ _ _ _ hr).mono ?_; rintro e w2 ⟨rfl, hb2⟩; have h16' := (hb2.cell (World.block_lt_of_cell? w1 _ h16)).trans h16))
  go_ret
  exact ⟨rfl, hb1.trans (hb2.mono hb1.size)⟩
end Go.Proofs.Ytbedhghcdhbkmaa
