/- CONTRACT of the reference's find. -/
import Derived.Test.YtndmkfmpdnoliaaIRName
namespace Go.Proofs.Ytndmkfmpdnoliaa
open Go.ChangeShapes Go.WideShapes Go.ChangeAt Go.RowKit

/-- The place of a name; -1: there is none. -/
def findI : List Co → List UInt8 → Nat → Int
  | [], _, _ => -1
  | c :: l, nm, k => if c.name = nm then (k : Int) else findI l nm (k + 1)
theorem findI_drop (l : List Co) (nm : List UInt8) (k : Nat) (hk : k < l.length) : findI (l.drop k) nm k = if l[k].name = nm then (k : Int) else findI (l.drop (k + 1)) nm (k + 1) := by
  rw [List.drop_eq_getElem_cons hk, findI]
set_option maxRecDepth 100000 in
set_option maxHeartbeats 1000000 in
theorem refFind_any {S : Nat → Prop} (a : Option Addr) (l : List Co) (cp : Nat) (nm : List UInt8) (w : World) (h : kCo.row w S a l) (hl : l.length ≤ 1000000) :
    Calls Try.prog 30 #[.slice a l.length cp, .string (bs nm)] w fun e w' => e = .returned (.int .i64 (findI l nm 0)) ∧ w' = w := by
  go_enter Try.func30, Try.ntmps30
  go_wp2
  go_loop [5] (fun i => ∃ k : Nat, k ≤ l.length ∧ i = .int .i64 k ∧ findI l nm 0 = findI (l.drop k) nm k) (fun i => l.length - (intOf i).toNat)
  case atStart => exact ⟨0, Nat.zero_le _, rfl, rfl⟩
  case round =>
    obtain ⟨k, hk, rfl, hq⟩ := hrel
    have HQ : Hid (findI l nm 0 = findI (l.drop k) nm k) := hq
    clear hq
    by_cases hlt : k < l.length
    · obtain ⟨b, o, pa, pc, la, lc, rfl, _, hb, hat, _⟩ := co_at h k hlt
      obtain ⟨e0, e1, e2, e3, e4⟩ := hat
      have HD : Hid _ := findI_drop l nm k hlt
      generalize l[k] = x at e0 e1 e2 e3 e4 HD
      have hk0 : (0 : Int) ≤ (k : Int) := by omega
      have hk1 : (k : Int) < (l.length : Int) := by omega
      have t1 := bs_tl x.name
      have t2 := bs_tl nm
      clear e1 e2 e3 e4
      by_cases hz : x.name = nm
      · have HE : Hid (findI l nm 0 = k) := by show _ = _; rw [HQ.out, HD.out, if_pos hz]
        have hz1 : (bs x.name).toList = (bs nm).toList := by rw [t1, t2, hz]
        have hz2 : ((bs x.name).toList == (bs nm).toList) = true := by rw [hz1]; simp
        clear t1 t2 hz
        go_wp2_with fail
        go_ret
        exact ⟨congrArg (fun z => Ending.returned (Value.int .i64 z)) HE.out.symm, rfl⟩
      · have hz2 : ((bs x.name).toList == (bs nm).toList) = false := by rw [t1, t2]; simpa using hz
        have hz3 : ¬ (bs x.name).toList = (bs nm).toList := by rw [t1, t2]; exact hz
        clear t1 t2
        go_wp2_with fail
        go_round
        case rel => exact ⟨k + 1, by omega, by go_num, by rw [HQ.out, HD.out, if_neg hz]⟩
        case measure => simp [intOf]; omega
    · have HE : Hid (findI l nm 0 = -1) := by show _ = _; rw [HQ.out, List.drop_of_length_le (by omega)]; rfl
      go_wp2_with fail
      go_ret
      exact ⟨congrArg (fun z => Ending.returned (Value.int .i64 z)) HE.out.symm, rfl⟩
end Go.Proofs.Ytndmkfmpdnoliaa
