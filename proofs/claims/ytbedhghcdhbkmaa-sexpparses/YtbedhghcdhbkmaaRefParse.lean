/- THE CONTRACT of carlingref02.Parse. -/
import Derived.Test.YtbedhghcdhbkmaaNodes
import Derived.Test.YtbedhghcdhbkmaaParse
namespace Go.Proofs.Ytbedhghcdhbkmaa
open Go.ChangeShapes Go.WideShapes Go.ChangeAt Go.RowKit

set_option maxRecDepth 100000 in
theorem refParse_any (s : ByteArray) (hs : s.size ≤ 20000) (w : World) : Calls Try.prog 11 #[.string s] w fun e w' => Below w.heap.size w w' ∧
    ∃ v, e = .returned (.tuple #[v, .int .i64 (outE (parse s.data.toList)), .int .i64 (outP (parse s.data.toList))]) ∧ Rd (fun b => w.heap.size ≤ b) w' v (outL (parse s.data.toList)) := by
  have hl : s.data.toList.length = s.size := rfl
  by_cases h : 16384 < s.size
  · have hp : parse s.data.toList = .err 5 0 := by unfold parse; rw [hl, if_pos h]
    rw [hp]
    have h' : (16384 : Int) < (s.size : Int) := by omega
    go_enter Try.func11, Try.ntmps11
    go_wp2_with fail
    go_ret3
    exact ⟨Below.refl _ _, .slice none 0 0, rfl, none, 0, rfl, .nil _⟩
  · have hp : parse s.data.toList = run s.data.toList 0 false St.start := by unfold parse; rw [hl, if_neg h]
    obtain ⟨O, hO⟩ : ∃ O, parse s.data.toList = O := ⟨_, rfl⟩
    rw [hO]
    have HO : Hid (run s.data.toList 0 false St.start = O) := hp.symm.trans hO
    clear hO hp
    have h' : ¬ (16384 : Int) < (s.size : Int) := by omega
    have hn := nodes_any s hs s.size 0 0 w (by omega) (by omega) (by omega)
    go_enter Try.func11, Try.ntmps11
    go_wp2_with (go_at_call 21; refine hn.mono ?_; rintro e w1 ⟨hb, x, n, c, er, p, rfl, hp, hcase⟩)
    · have her : (er != 0) = true := by assumption
      go_ret3
      rcases hcase with ⟨_, hc⟩ | ⟨rfl, _⟩
      · have e : O = .err er p := HO.out.symm.trans (hc ⟨0, []⟩ [] rfl)
        rw [e]
        exact ⟨hb, .slice none 0 0, rfl, none, 0, rfl, .nil _⟩
      · exact absurd her (by decide)
    · have her : (er != 0) = false := by assumption
      go_ret3
      rcases hcase with ⟨hne, _⟩ | ⟨rfl, l, rfl, hrow, _, _, h3, _, h5⟩
      · exact absurd her (by simpa using hne)
      · have e : O = .ok l := by
          refine HO.out.symm.trans ((h5 ⟨0, []⟩ [] rfl).trans ?_)
          rw [h3 trivial, drop_out s s.size (by omega), run_nil]
          simp [St.finish, St.endWord]
        rw [e]
        exact ⟨hb, .slice x l.length c, rfl, x, c, rfl, hrow⟩
end Go.Proofs.Ytbedhghcdhbkmaa
