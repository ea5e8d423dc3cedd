/- THE WALK of TreeAgain. -/
import Derived.Test.YtpagbhgnkbbdjaaGreatDoorM43
import Derived.Test.YtpagbhgnkbbdjaaGreatDoorMLPos
namespace Go.Proofs.YtpagbhgnkbbdjaaGreatDoor
open Go.ChangeShapes Go.WideShapes Go.ChangeAt Go.RowKit

theorem run_code : ∀ (l : List UInt8) (p : Nat) (n : Bool) (st : St) (e : Int) (q : Nat), run l p n st = .err e q → e ≠ 0
  | [], p, n, st, e, q, h => by
    have hr : run [] p n st = st.finish p := by cases n <;> rfl
    rw [hr] at h
    unfold St.finish at h
    split at h
    · cases h
    · cases h; decide
  | b :: r, p, true, st, e, q, h => run_code r (p + 1) (b != 10) st e q h
  | b :: r, p, false, st, e, q, h => by
    rcases ht : st.take p b with c | st'
    · rw [run_err ht] at h
      cases h
      rcases take_err ht with h | h | h <;> rw [h] <;> decide
    · rw [run_ok ht] at h
      exact run_code r (p + 1) (b == 59) st' e q h
theorem parse_code {l : List UInt8} {e : Int} {q : Nat} (h : parse l = .err e q) : e ≠ 0 := by
  unfold parse at h
  split at h
  · cases h; decide
  · exact run_code _ _ _ _ _ _ h
theorem parse_to {s : ByteArray} {l : List Nd} (h : parse s.data.toList = .ok l) (w : World) : Calls Tryz.prog 16 #[.string s] w fun e w1 => Below w.heap.size w w1 ∧ ∃ a c, e = .returned (.tuple #[.slice a l.length c, .int .i64 0, .int .i64 (-1)]) ∧ Row (fun b => w.heap.size ≤ b) w1 a l ∧ l.length ≤ c := by
  refine (parse_any s w).mono ?_
  rintro e w1 ⟨hb, v, rfl, hrd⟩
  rw [h] at hrd ⊢
  obtain ⟨a, c, rfl, hr, hc⟩ := hrd
  exact ⟨hb, a, c, rfl, hr, hc⟩
theorem parse_not {s : ByteArray} {e : Int} {q : Nat} (h : parse s.data.toList = .err e q) (w : World) : Calls Tryz.prog 16 #[.string s] w fun r w1 => Below w.heap.size w w1 ∧ ∃ a c, r = .returned (.tuple #[.slice a 0 c, .int .i64 e, .int .i64 q]) := by
  refine (parse_any s w).mono ?_
  rintro r w1 ⟨hb, v, rfl, hrd⟩
  rw [h] at hrd ⊢
  obtain ⟨a, c, rfl, -, -⟩ := hrd
  exact ⟨hb, a, c, rfl⟩
theorem parse_le {s : ByteArray} {l : List Nd} (h : parse s.data.toList = .ok l) : msL l ≤ 32768 := by
  have := outL_ms s.data.toList
  rw [h] at this
  exact this
theorem show_then {B : Nat} {S : Nat → Prop} {w : World} {l : List Nd} {u : Un} {v : Value} (hu : rdUnit l = .ok u) (hm : msL l ≤ 32768) (hs : Sh.Glob B w) (hv : UnV w S v u) :
    ∃ a1 c1 a2 c2, v = .agg #[.string (bs u.name), .slice a1 u.imports.length c1, .slice a2 u.funcs.length c2] ∧ ∀ w1, Below w.heap.size w w1 → Calls Tryz.prog 21 #[.agg #[.string (bs u.name), .slice a1 u.imports.length c1, .slice a2 u.funcs.length c2]] w1 fun e w' => Below w1.heap.size w1 w' ∧ ∃ x k m, e = .returned (.tuple #[.slice x m.length k, .int .i64 0]) ∧ Row (fun b => w1.heap.size ≤ b) w' x m ∧ alikeL l m = true := by
  obtain ⟨⟨m, hm1, hal⟩, hf⟩ := rdUnit_ok hu (by omega)
  obtain ⟨a1, c1, a2, c2, rfl, hO⟩ := hv.sh hs hf
  have e : u.sh.funcs.length = u.funcs.length := by simp [Un.sh]
  refine ⟨a1, c1, a2, c2, by rw [e]; rfl, fun w1 hb => ?_⟩
  rw [← e]
  refine (Sh.nodes_some u.sh.name u.sh.imports u.sh.funcs a1 c1 a2 c2 w1 (hO.on hb) m hm1).mono ?_
  rintro e w' ⟨⟨v, rfl, hrd⟩, hb'⟩
  obtain ⟨a, c, rfl, hr, -⟩ := rd_back hrd
  exact ⟨hb', a, c, _, rfl, hr, hal⟩
section
set_option maxRecDepth 100000
set_option maxHeartbeats 4000000
theorem again_long {B : Nat} (s : ByteArray) (w : World) (hg : Glob B w) (hs : Sh.Glob B w) (hlen : 16384 < s.size) : Calls Tryz.prog 6 #[.string s] w fun e w' => e = .returned (.bool true) ∧ Below w.heap.size w w' := by
  have HA := Lib.hid (awake_any w hg hs)
  have hl : (16384 : Int) < (s.size : Int) := by omega
  clear hg hs
  go_enter Tryz.func6, Tryz.ntmps6
  go_wp2_with (go_at_call 15; refine HA.out.mono ?_; rintro e w1 ⟨rfl, hb1⟩)
  go_ret
  exact ⟨rfl, hb1⟩
theorem again_not {B : Nat} (s : ByteArray) (w : World) (hg : Glob B w) (hs : Sh.Glob B w) (hlen : ¬ 16384 < s.size) (c : Int) (q : Nat) (hp : parse s.data.toList = .err c q) : Calls Tryz.prog 6 #[.string s] w fun e w' => e = .returned (.bool true) ∧ Below w.heap.size w w' := by
  have HA := Lib.hid (awake_any w hg hs)
  have hl : ¬ (16384 : Int) < (s.size : Int) := by omega
  have HP := Lib.hid (fun w => parse_not hp w)
  have HU : Hid (∀ w1 a c, Below w.heap.size w w1 → _) := fun w1 a c hb => unit_bad (B := w1.heap.size) [] a c ((hg.below hb).raise (Nat.le_trans hg.le hb.size) (Nat.le_refl _)) trivial (.nil _) (Nat.zero_le _) (Nat.zero_le _) 6 0 rfl
  have hc := parse_code hp
  have hc' : (c != 0) = true := by simpa using hc
  clear hg hs hp
  go_enter Tryz.func6, Tryz.ntmps6
  go_wp2_with (first | (go_at_call 15; refine HA.out.mono ?_; rintro e w1 ⟨rfl, hb1⟩; refine Hid.out ?_))
  refine Lib.hid ?_
  go_wp2_with (first | (go_at_call 16; refine (HP.out _).mono ?_; rintro e w2 ⟨hb2, a, k, rfl⟩; refine Hid.out ?_))
  refine Lib.hid ?_
  have hU := HU.out w2 a k (Below.then hb1 hb2)
  go_wp2_with (first | (go_at_call 17; refine hU.mono ?_; rintro e w3 ⟨rfl, hb3⟩))
  go_ret
  exact ⟨rfl, Below.then (Below.then hb1 hb2) (Below.then hb3 (one_below _ _))⟩
theorem again_bad {B : Nat} (s : ByteArray) (w : World) (hg : Glob B w) (hs : Sh.Glob B w) (hlen : ¬ 16384 < s.size) (l : List Nd) (hp : parse s.data.toList = .ok l) (c q : Int) (hu : rdUnit l = .bad c q) (hc : c = 5 ∨ c = 6) (hq : 0 ≤ q) (hq' : q ≤ s.size) : Calls Tryz.prog 6 #[.string s] w fun e w' => e = .returned (.bool true) ∧ Below w.heap.size w w' := by
  have HA := Lib.hid (awake_any w hg hs)
  have hl : ¬ (16384 : Int) < (s.size : Int) := by omega
  have HP := Lib.hid (fun w => parse_to hp w)
  have HU : Hid (∀ w1 w2 a k, Below w.heap.size w w1 → Below w1.heap.size w1 w2 → Row (fun b => w1.heap.size ≤ b) w2 a l → l.length ≤ k → Calls Tryz.prog 17 #[.slice a l.length k] w2 fun e w' => e = .returned (.tuple #[.agg #[.string ⟨#[]⟩, .slice none 0 0, .slice none 0 0], .int .i64 c, .int .i64 q]) ∧ Below w2.heap.size w2 w') := fun w1 w2 a k hb1 hb2 hr hk => by
    refine (read_then l a k (hg.below hb1) hb2 hr hk (Nat.le_trans (parse_le hp) (by omega))).mono ?_
    rintro e w' ⟨hb, -, hbad⟩
    exact ⟨hbad _ _ hu, hb⟩
  clear hg hs hp hu
  rcases hc with rfl | rfl
  all_goals
    go_enter Tryz.func6, Tryz.ntmps6
    go_wp2_with (first | (go_at_call 15; refine HA.out.mono ?_; rintro e w1 ⟨rfl, hb1⟩; refine Hid.out ?_))
    refine Lib.hid ?_
    go_wp2_with (first | (go_at_call 16; refine (HP.out _).mono ?_; rintro e w2 ⟨hb2, a, k, rfl, hr, hk⟩; refine Hid.out ?_))
    refine Lib.hid ?_
    have hU := HU.out w1 w2 a k hb1 hb2 hr hk
    clear hr HA HP HU
    go_wp2_with (first | (go_at_call 17; refine hU.mono ?_; rintro e w3 ⟨rfl, hb3⟩))
    go_ret
    exact ⟨rfl, Below.then (Below.then hb1 hb2) (Below.then hb3 (one_below _ _))⟩
theorem again_good {B : Nat} (s : ByteArray) (w : World) (hg : Glob B w) (hs : Sh.Glob B w) (hlen : ¬ 16384 < s.size) (l : List Nd) (hp : parse s.data.toList = .ok l) (u : Un) (hu : rdUnit l = .ok u) : Calls Tryz.prog 6 #[.string s] w fun e w' => e = .returned (.bool true) ∧ Below w.heap.size w w' := by
  have HA := Lib.hid (awake_any w hg hs)
  have hl : ¬ (16384 : Int) < (s.size : Int) := by omega
  have HP := Lib.hid (fun w => parse_to hp w)
  have HU : Hid (∀ w1 w2 a k, Below w.heap.size w w1 → Below w1.heap.size w1 w2 → Row (fun b => w1.heap.size ≤ b) w2 a l → l.length ≤ k → Calls Tryz.prog 17 #[.slice a l.length k] w2 fun e w3 => Below w2.heap.size w2 w3 ∧ ∃ a1 c1 a2 c2, e = .returned (.tuple #[.agg #[.string (bs u.name), .slice a1 u.imports.length c1, .slice a2 u.funcs.length c2], .int .i64 0, .int .i64 (-1)]) ∧ ∀ w4, Below w3.heap.size w3 w4 → Calls Tryz.prog 21 #[.agg #[.string (bs u.name), .slice a1 u.imports.length c1, .slice a2 u.funcs.length c2]] w4 fun e w' => Below w4.heap.size w4 w' ∧ ∃ x k m, e = .returned (.tuple #[.slice x m.length k, .int .i64 0]) ∧ Row (fun b => w4.heap.size ≤ b) w' x m ∧ alikeL l m = true) := fun w1 w2 a k hb1 hb2 hr hk => by
    refine (read_then l a k (hg.below hb1) hb2 hr hk (Nat.le_trans (parse_le hp) (by omega))).mono ?_
    rintro e w3 ⟨hb3, hok, -⟩
    obtain ⟨v, rfl, hv⟩ := hok _ hu
    obtain ⟨a1, c1, a2, c2, rfl, hN⟩ := show_then hu (parse_le hp) (((hs.below hb1).below hb2).below hb3) hv
    exact ⟨hb3, a1, c1, a2, c2, rfl, hN⟩
  have HL : Hid (sizeL l ≤ 32768) := Nat.le_trans (sizeL_ms l) (parse_le hp)
  clear hg hs hp hu
  go_enter Tryz.func6, Tryz.ntmps6
  go_wp2_with (first | (go_at_call 15; refine HA.out.mono ?_; rintro e w1 ⟨rfl, hb1⟩; refine Hid.out ?_))
  refine Lib.hid ?_
  go_wp2_with (first | (go_at_call 16; refine (HP.out _).mono ?_; rintro e w2 ⟨hb2, a, k, rfl, hr, hk⟩; refine Hid.out ?_))
  refine Lib.hid ?_
  have hU := HU.out w1 w2 a k hb1 hb2 hr hk
  have HR := Lib.hid hr
  clear hr HA HP HU
  go_wp2_with (first | (go_at_call 17; refine hU.mono ?_; rintro e w3 ⟨hb3, a1, c1, a2, c2, rfl, hN⟩; refine Hid.out ?_))
  refine Lib.hid ?_
  have HN := Lib.hid hN
  clear hN hU
  go_wp2_with (first | (go_at_call 21; refine (HN.out _ (one_below w3 _)).mono ?_; rintro e w5 ⟨hb5, x, j, m, rfl, hr5, hal⟩; refine Hid.out ?_))
  refine Lib.hid ?_
  have HB : Hid (Below w2.heap.size w2 w5) := Below.then hb3 (Below.then (one_below w3 _) hb5)
  have hA := alike_any 32768 (by omega) l m _ _ a x k j w5 HL.out (HR.out.keep HB.out) hr5
  rw [hal] at hA
  clear HN hr5 hal
  go_wp2_with (first | (go_at_call 27; refine hA.mono ?_; rintro e w6 ⟨rfl, d, rfl⟩))
  go_ret
  exact ⟨rfl, Below.then (Below.then (Below.then hb1 hb2) HB.out) (drewN_below _ _)⟩
theorem again_walk {B : Nat} (s : ByteArray) (w : World) (hg : Glob B w) (hs : Sh.Glob B w) : Calls Tryz.prog 6 #[.string s] w fun e w' => e = .returned (.bool true) ∧ Below w.heap.size w w' := by
  by_cases hlen : 16384 < s.size
  · exact again_long s w hg hs hlen
  · cases hp : parse s.data.toList with
    | err c q => exact again_not s w hg hs hlen c q hp
    | ok l =>
      cases hu : rdUnit l with
      | ok u => exact again_good s w hg hs hlen l hp u hu
      | bad c q =>
        obtain ⟨hi, hL⟩ := parse_lie hp
        obtain ⟨h1, h2, h3⟩ := fair_unit (N := (s.size : Int)) (by omega) (lie_pin hL) c q hu
        exact again_bad s w hg hs hlen l hp c q hu h1 h2 h3
end
end Go.Proofs.YtpagbhgnkbbdjaaGreatDoor
