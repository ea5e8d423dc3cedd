/- THE CONTRACT of carlingref02.Size: where it tells no more than the bound, the nodes are no more than it tells. -/
import Derived.Test.YtbedhghcdhbkmaaSame
namespace Go.Proofs.Ytbedhghcdhbkmaa
open Go.ChangeShapes Go.WideShapes Go.ChangeAt Go.RowKit

mutual
def Nd.ww : Nd → Nat
  | .mk _ wd ks _ => 1 + wd.length + wwL ks
def wwL : List Nd → Nat
  | [] => 0
  | x :: l => Nd.ww x + wwL l
end

theorem ww_at : ∀ (l : List Nd) (k : Nat) (x : Nd), l[k]? = some x → wwL (l.take (k + 1)) = wwL (l.take k) + Nd.ww x
  | [], k, x, h => by simp at h
  | y :: l, 0, x, h => by
    simp only [List.getElem?_cons_zero, Option.some.injEq] at h
    subst h
    simp [wwL]
  | y :: l, k + 1, x, h => by
    have := ww_at l k x (by simpa using h)
    simp only [List.take_succ_cons, wwL, this]
    omega

set_option maxRecDepth 100000 in
set_option maxHeartbeats 3200000 in
theorem size_any (n : Nat) : ∀ (l : List Nd) (S : Nat → Prop) (a : Option Addr) (c deep : Nat) (most : Int) (w : World), sizeL l ≤ n → Row S w a l → deep ≤ 41 → -10000000 ≤ most → most ≤ 3000 →
    Calls Try.prog 13 #[.slice a l.length c, .int .i64 most, .int .i64 deep] w fun e w' => ∃ r : Int, e = .returned (.int .i64 r) ∧ w' = w ∧ 0 ≤ r ∧ r ≤ (43 - (deep : Int)) * 200000 ∧ (r ≤ most → (wwL l : Int) ≤ r) := by
  induction n using Nat.strongRecOn with
  | _ n ih =>
    intro l S a c deep most w hn hra hd hm0 hm1
    go_enter Try.func13, Try.ntmps13
    go_wp2_with fail
    go_loop [7, 8] (fun x i => ∃ (k : Nat) (r : Int), k ≤ l.length ∧ i = .int .i64 k ∧ x = .int .i64 r ∧ (k : Int) ≤ r ∧ r ≤ (43 - (deep : Int)) * 200000 ∧ (r ≤ most → (wwL (l.take k) : Int) ≤ r)) (fun _ i => l.length - (intOf i).toNat)
    case atStart => exact ⟨0, 0, Nat.zero_le _, rfl, rfl, by simp, by omega, fun _ => by simp [wwL]⟩
    case round =>
      obtain ⟨k, r, hk, rfl, rfl, hkr, hr1, hr2⟩ := hrel
      have hr0 : 0 ≤ r := by omega
      have HR : Hid (r ≤ most → (wwL (l.take k) : Int) ≤ r) := hr2
      clear hr2
      by_cases hlt : k < l.length
      · by_cases hrm : r ≤ most
        · obtain ⟨il, wd, ks, p, hx⟩ := nd_eta l[k]
          have hx' : l[k]? = some (.mk il wd ks p) := by rw [List.getElem?_eq_getElem hlt, hx]
          have hsz := size_at l k il wd ks p hx'
          have hww : Hid (wwL (l.take (k + 1)) = wwL (l.take k) + Nd.ww (.mk il wd ks p)) := ww_at l k _ hx'
          obtain ⟨xb, xo, xa, xc, rfl, hxS, y0, y1, y2, y3, yr⟩ := hra.at_ k il wd ks p hx'
          have hk0 : (0 : Int) ≤ (k : Int) := by omega
          have hk1 : (k : Int) < (l.length : Int) := by omega
          have hbs : (bs wd).size = wd.length := bs_size wd
          clear hx hx'
          have hdd : ((43 : Int) - (deep : Int)) * 200000 ≥ 400000 := by omega
          by_cases hdeep : deep ≤ 40
          · have hd40 : ¬ (40 : Int) < (deep : Int) := by omega
            by_cases hwl : wd.length ≤ 100000
            · have hwl' : (wd.length : Int) ≤ 100000 := by omega
              have hc := ih (sizeL ks) (by omega) ks S xa xc (deep + 1) (most - (r + 1 + wd.length)) w (Nat.le_refl _) yr (by omega) (by omega) (by omega)
              rw [show ((deep + 1 : Nat) : Int) = (deep : Int) + 1 by omega] at hc
              clear ih
              go_wp2_with (go_at_call 13; refine hc.mono ?_; rintro e w' ⟨r', rfl, hq, hr'0, hr'1, hr'2⟩; have hq' := hq.symm; subst hq'; have HR' : Hid (r' ≤ most - (r + 1 + wd.length) → (wwL ks : Int) ≤ r') := hr'2; clear hr'2)
              go_round
              case rel =>
                refine ⟨k + 1, r + 1 + wd.length + r', by omega, by go_num, by go_num, by omega, by omega, fun h => ?_⟩
                have h1 := HR.out hrm
                have h2 := HR'.out (by omega)
                rw [hww.out]
                simp only [Nd.ww]
                omega
              case measure => simp [intOf]; omega
            · have hwl' : ¬ (wd.length : Int) ≤ 100000 := by omega
              have hwl2 : (100000 : Int) < (wd.length : Int) := by omega
              have hc := ih (sizeL ks) (by omega) ks S xa xc (deep + 1) (most - (r + 1 + 100000)) w (Nat.le_refl _) yr (by omega) (by omega) (by omega)
              rw [show ((deep + 1 : Nat) : Int) = (deep : Int) + 1 by omega] at hc
              clear ih
              go_wp2_with (go_at_call 13; refine hc.mono ?_; rintro e w' ⟨r', rfl, hq, hr'0, hr'1, hr'2⟩; have hq' := hq.symm; subst hq'; clear hr'2)
              go_round
              case rel => exact ⟨k + 1, r + 1 + 100000 + r', by omega, by go_num, by go_num, by omega, by omega, fun h => by omega⟩
              case measure => simp [intOf]; omega
          · have hd40 : (40 : Int) < (deep : Int) := by omega
            by_cases hwl : wd.length ≤ 100000
            · have hwl' : (wd.length : Int) ≤ 100000 := by omega
              clear ih
              go_wp2_with fail
              go_ret
              exact ⟨most + 1, rfl, rfl, by omega, by omega, fun h => by omega⟩
            · have hwl' : ¬ (wd.length : Int) ≤ 100000 := by omega
              have hwl2 : (100000 : Int) < (wd.length : Int) := by omega
              clear ih
              go_wp2_with fail
              go_ret
              exact ⟨most + 1, rfl, rfl, by omega, by omega, fun h => by omega⟩
        · go_wp2_with fail
          go_ret
          exact ⟨r, rfl, rfl, hr0, hr1, fun h => by omega⟩
      · go_wp2_with fail
        go_ret
        refine ⟨r, rfl, rfl, hr0, hr1, fun h => ?_⟩
        have := HR.out h
        rw [List.take_of_length_le (by omega)] at this
        exact this
end Go.Proofs.Ytbedhghcdhbkmaa
