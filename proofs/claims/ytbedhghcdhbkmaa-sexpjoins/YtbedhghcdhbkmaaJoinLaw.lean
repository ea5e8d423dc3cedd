/- THE WALK of the statement SexpJoins. -/
import Derived.Test.YtbedhghcdhbkmaaLaw
import Derived.Test.YtbedhghcdhbkmaaAlike
import Derived.Test.YtbedhghcdhbkmaaJoinM
import Derived.Test.YtbedhghcdhbkmaaJoin
namespace Go.Proofs.Ytbedhghcdhbkmaa
open Go.ChangeShapes Go.WideShapes Go.ChangeAt Go.RowKit

theorem join_data (a b : ByteArray) : (a ++ ⟨#[10]⟩ ++ b).data.toList = a.data.toList ++ 10 :: b.data.toList := by
  simp [ByteArray.data_append]

theorem alike_at {N M : List Nd} {S T : Nat → Prop} {a b : Option Addr} {c d L L' : Nat} {w : World} (hL : L = N.length) (hL' : L' = M.length) (hs : sizeL N ≤ 1000000000) (hr : Row S w a N) (hr' : Row T w b M) :
    Calls Try.prog 18 #[.slice a L c, .slice b L' d] w fun e w' => e = .returned (.bool (alikeL N M)) ∧ ∃ d, w' = w.drewN d := by
  subst hL hL'
  exact alike_any 1000000000 (Nat.le_refl _) N M S T a b c d w hs hr hr'

set_option maxRecDepth 100000 in
set_option maxHeartbeats 3200000 in
theorem joins_walk (a0 a1 : ByteArray) (w : World) : Calls Try.prog 7 #[.string a0, .string a1] w fun e w' => e = .returned (.bool true) ∧ Below w.heap.size w w' := by
  have hln0 : a0.data.toList.length = a0.size := rfl
  have hln1 : a1.data.toList.length = a1.size := rfl
  by_cases h0 : 8000 < a0.size
  · have hl : (8000 : Int) < (a0.size : Int) := by omega
    clear hln0 hln1
    go_enter Try.func7, Try.ntmps7
    go_wp2_with (go_at_call 9; refine (awake_any _).mono ?_; rintro e w1 ⟨rfl, hb1⟩)
    go_ret
    exact ⟨rfl, hb1⟩
  · have hl : ¬ (8000 : Int) < (a0.size : Int) := by omega
    by_cases h1 : 8000 < a1.size
    · have hl1 : (8000 : Int) < (a1.size : Int) := by omega
      clear hln0 hln1
      go_enter Try.func7, Try.ntmps7
      go_wp2_with (go_at_call 9; refine (awake_any _).mono ?_; rintro e w1 ⟨rfl, hb1⟩)
      go_ret
      exact ⟨rfl, hb1⟩
    · have hl1 : ¬ (8000 : Int) < (a1.size : Int) := by omega
      rcases hO : parse a0.data.toList with l | ⟨er, q⟩
      · have hJ := parse_join (b := a1.data.toList) (by omega) (by omega) hO
        rw [← join_data] at hJ
        rcases hP : parse a1.data.toList with m | ⟨er, q⟩
        · rw [hP] at hJ
          have hz0 := parse_size16 a0.data.toList
          have hz1 := parse_size16 a1.data.toList
          rw [hO] at hz0
          rw [hP] at hz1
          have hll := len_size l
          have hlm := len_size m
          simp only [outL] at hz0 hz1
          have hal : alikeL (l ++ shL (a0.data.toList.length + 1) m) (l ++ m) = true := alike_app _ _ _ _ (alike_refl _) (alike_shL _ _)
          have hsn := parse_size (a0 ++ ⟨#[10]⟩ ++ a1).data.toList
          rw [hJ] at hsn
          obtain ⟨N, hN⟩ : ∃ N, l ++ shL (a0.data.toList.length + 1) m = N := ⟨_, rfl⟩
          have hJ' : parse (a0 ++ ⟨#[10]⟩ ++ a1).data.toList = .ok N := by rw [hJ, ← hN]; rfl
          rw [hN] at hal
          have hsN : sizeL N ≤ 1000000000 := by rw [← hN]; exact hsn
          clear hJ hN hsn hln0 hln1
          go_enter Try.func7, Try.ntmps7
          go_wp2_with (first
            | (go_at_call 9; refine (awake_any _).mono ?_; rintro e w1 ⟨rfl, hb1⟩)
            | (go_at_call_of 10 (Value.string a0); refine (parse_ok hO _).mono ?_; rintro e w2 ⟨hb2, x2, c2, rfl, hr2⟩)
            | (go_at_call_of 10 (Value.string a1); refine (parse_ok hP _).mono ?_; rintro e w3 ⟨hb3, x3, c3, rfl, hr3⟩)
            | (go_at_call 10; refine (parse_ok hJ' _).mono ?_; rintro e w4 ⟨hb4, x4, c4, rfl, hr4⟩; have hrl : Row (fun b => b < w4.heap.size) (w4.alloc (.cells #[] 37)) x2 l := (((hr2.keep hb3).keep hb4).mono (T := fun b => b < w4.heap.size) (w' := w4.alloc (.cells #[] 37)) fun b _ hb => ⟨hb, heap_alloc_old w4 _ hb⟩); have hrm : Row (fun b => b < w4.heap.size) w4 x3 m := ((hr3.keep hb4).mono fun b _ hb => ⟨hb, rfl⟩))
            | (at_builtin; refine wpList_append_rows rfl (.tmp 68) (.tmp 69) rfl w4.heap.size _ 0 [] rfl (World.ownsRow_made (size := 4) w4 #[] 0 (Nat.le_refl _) (Nat.zero_le _) rfl) (fun b => b < w4.heap.size) x2 l c2 rfl hrl (by omega) (by simp) ?_; intro v5 w5 ys5 hl5 ho5 hg5; have hB5 : Below w4.heap.size (w4.alloc (.cells #[] 37)) w5 := grown_below hg5 (by simp) (fun k hk => by simp only [Value.ownBlock] at hk; cases hk; exact Nat.le_refl _))
            | (at_builtin; refine wpList_append_rows rfl (.tmp 70) (.tmp 71) rfl w4.heap.size v5 (0 + l.length) ([] ++ ys5) rfl ho5 (fun b => b < w4.heap.size) x3 m c3 rfl (hrm.mono fun b hb _ => ⟨hb, (hB5.block b hb).trans (heap_alloc_old w4 _ hb)⟩) (by omega) (by have := hB5.size; simp at this; omega) ?_; intro v6 w6 ys6 hl6 ho6 hg6; have hB6 : Below w4.heap.size w5 w6 := grown_below hg6 (by have := hB5.size; simp at this; omega) (fun k hk => (ho5.lt k hk).1); obtain ⟨x6, c6, L6, hL6, rfl, hr6⟩ := join_rows hl5 hl6 (hB5.trans hB6) hB6 ho6; have hB46 : Below w4.heap.size w4 w6 := (((Below.refl _ _).alloc (Nat.le_refl _) _).trans hB5).trans hB6)
            | (go_at_call 18; refine (alike_at rfl hL6.out hsN (hr4.keep hB46) hr6).mono ?_; rintro e w7 ⟨rfl, d7, rfl⟩; rw [hal]))
          go_ret
          exact ⟨rfl, below_drewN (hb1.trans ((hb2.mono hb1.size).trans ((hb3.mono (Nat.le_trans hb1.size hb2.size)).trans ((hb4.mono (Nat.le_trans (Nat.le_trans hb1.size hb2.size) hb3.size)).trans (hB46.mono (Nat.le_trans (Nat.le_trans (Nat.le_trans hb1.size hb2.size) hb3.size) hb4.size)))))) _⟩
        · rw [hP] at hJ
          have he : (er != 0) = true := by rcases parse_errs hP with ⟨rfl, _⟩ | ⟨_, rfl | rfl | rfl, _⟩ <;> rfl
          have hq : q ≤ 8000 := by rcases parse_errs hP with ⟨_, rfl, _⟩ | ⟨_, _, h | ⟨h, _⟩⟩ <;> omega
          have hJ' : parse (a0 ++ ⟨#[10]⟩ ++ a1).data.toList = .err er (q + a0.size + 1) := by rw [hJ]; rfl
          clear hJ hln0 hln1
          go_enter Try.func7, Try.ntmps7
          go_wp2_with (first
            | (go_at_call 9; refine (awake_any _).mono ?_; rintro e w1 ⟨rfl, hb1⟩)
            | (go_at_call_of 10 (Value.string a0); refine (parse_ok hO _).mono ?_; rintro e w2 ⟨hb2, x2, c2, rfl, hr2⟩)
            | (go_at_call_of 10 (Value.string a1); refine (parse_bad hP _).mono ?_; rintro e w3 ⟨hb3, x3, c3, rfl⟩)
            | (go_at_call 10; refine (parse_bad hJ' _).mono ?_; rintro e w4 ⟨hb4, x4, c4, rfl⟩))
          go_ret
          exact ⟨rfl, hb1.trans ((hb2.mono hb1.size).trans ((hb3.mono (Nat.le_trans hb1.size hb2.size)).trans (hb4.mono (Nat.le_trans (Nat.le_trans hb1.size hb2.size) hb3.size))))⟩
      · clear hln0 hln1
        have he0 : True := trivial
        go_enter Try.func7, Try.ntmps7
        have he : (er != 0) = true := by rcases parse_errs hO with ⟨rfl, _⟩ | ⟨_, rfl | rfl | rfl, _⟩ <;> rfl
        go_wp2_with (first
          | (go_at_call 9; refine (awake_any _).mono ?_; rintro e w1 ⟨rfl, hb1⟩)
          | (go_at_call_of 10 (Value.string a0); refine (parse_bad hO _).mono ?_; rintro e w2 ⟨hb2, x2, c2, rfl⟩)
          | (go_at_call_of 10 (Value.string a1); refine (parse_any a1 _).mono ?_; rintro e w3 ⟨hb3, v3, rfl, _⟩)
          | (go_at_call 10; refine (parse_any _ _).mono ?_; rintro e w4 ⟨hb4, v4, rfl, _⟩))
        go_ret
        exact ⟨rfl, hb1.trans ((hb2.mono hb1.size).trans ((hb3.mono (Nat.le_trans hb1.size hb2.size)).trans (hb4.mono (Nat.le_trans (Nat.le_trans hb1.size hb2.size) hb3.size))))⟩
end Go.Proofs.Ytbedhghcdhbkmaa
