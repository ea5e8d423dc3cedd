/- Texts of this proof, put together: Same. -/
import Derived.Test.YtbpdhegfdmppgaaGreatDoorRows
import Derived.Test.YtbpdhegfdmppgaaGreatDoorM2
import Derived.ProofKit
import Derived.OpenShut
import Derived.WalkLawsBesides
import Derived.Deep.QuietTactic
import Derived.BigQuiet
import Derived.Deep.Draws
import Derived.WalkSmall

/- CONTRACTS of what compares nodes: carlingref02.Same, Alike. -/
namespace Go.Proofs.YtbpdhegfdmppgaaGreatDoor
open Go.ChangeShapes Go.WideShapes Go.ChangeAt Go.RowKit

mutual
def Nd.same : Nd → Nd → Bool
  | .mk a b c d, .mk a' b' c' d' => a == a' && (b == b' && (d == d' && sameL c c'))
def sameL : List Nd → List Nd → Bool
  | [], [] => true
  | x :: l, y :: m => Nd.same x y && sameL l m
  | _, _ => false
end
mutual
def Nd.alike : Nd → Nd → Bool
  | .mk a b c _, .mk a' b' c' _ => a == a' && (b == b' && alikeL c c')
def alikeL : List Nd → List Nd → Bool
  | [], [] => true
  | x :: l, y :: m => Nd.alike x y && alikeL l m
  | _, _ => false
end
mutual
def Nd.size : Nd → Nat
  | .mk _ _ c _ => 1 + sizeL c
def sizeL : List Nd → Nat
  | [] => 0
  | x :: l => Nd.size x + sizeL l
end

theorem sameL_len : ∀ (l m : List Nd), l.length ≠ m.length → sameL l m = false
  | [], [], h => absurd rfl h
  | x :: l, y :: m, h => by rw [sameL, sameL_len l m (by simpa using h)]; simp
  | [], _ :: _, _ => rfl
  | _ :: _, [], _ => rfl

theorem size_at : ∀ (l : List Nd) (k : Nat) (il : Bool) (wd : List UInt8) (ks : List Nd) (p : Int), l[k]? = some (.mk il wd ks p) → sizeL ks < sizeL l
  | [], k, _, _, _, _, h => by simp at h
  | x :: l, 0, il, wd, ks, p, h => by
    simp only [List.getElem?_cons_zero, Option.some.injEq] at h
    subst h
    simp only [sizeL, Nd.size]
    omega
  | x :: l, k + 1, il, wd, ks, p, h => by
    have := size_at l k il wd ks p (by simpa using h)
    simp only [sizeL]
    omega

/-- From place k on. -/
theorem same_drop (l m : List Nd) (k : Nat) (a b : Nd) (h1 : l[k]? = some a) (h2 : m[k]? = some b) : sameL (l.drop k) (m.drop k) = (Nd.same a b && sameL (l.drop (k + 1)) (m.drop (k + 1))) := by
  obtain ⟨k1, e1⟩ := List.getElem?_eq_some_iff.1 h1
  obtain ⟨k2, e2⟩ := List.getElem?_eq_some_iff.1 h2
  rw [List.drop_eq_getElem_cons k1, List.drop_eq_getElem_cons k2, e1, e2, sameL]
theorem nd_eta (a : Nd) : ∃ il wd ks p, a = .mk il wd ks p := by cases a; exact ⟨_, _, _, _, rfl⟩

theorem ret_b {a b : Bool} (h : a = b) : Ending.returned (.bool a) = .returned (.bool b) := by rw [h]

theorem len_size : ∀ (l : List Nd), l.length ≤ sizeL l
  | [] => Nat.le_refl _
  | .mk _ _ _ _ :: l => by have := len_size l; simp only [List.length_cons, sizeL, Nd.size]; omega

theorem Row.drewN {S : Nat → Prop} {w : World} {a : Option Addr} {l : List Nd} (h : Row S w a l) (n : Nat) : Row S (w.drewN n) a l := h.mono fun _ hb _ => ⟨hb, rfl⟩

theorem bs_eq {a b : List UInt8} : ((bs a).toList == (bs b).toList) = (a == b) := by rw [ByteArray.toList_eq, ByteArray.toList_eq, bs_list, bs_list]

set_option maxRecDepth 100000 in
set_option maxHeartbeats 12800000 in
theorem same_any (n : Nat) : n ≤ 1000000000 → ∀ (l m : List Nd) (S T : Nat → Prop) (a b : Option Addr) (c d : Nat) (w : World), sizeL l ≤ n → Row S w a l → Row T w b m →
    Calls Tryz.prog 17 #[.slice a l.length c, .slice b m.length d] w fun e w' => e = .returned (.bool (sameL l m)) ∧ ∃ d, w' = w.drewN d := by
  induction n using Nat.strongRecOn with
  | _ n ih =>
    intro hn9 l m S T a b c d w hn hra hrb
    have hls := len_size l
    by_cases hne : l.length = m.length
    · go_enter Tryz.func17, Tryz.ntmps17
      go_wp2_with fail
      go_loopw [5] (fun i wr => ∃ k dd : Nat, k ≤ l.length ∧ i = .int .i64 k ∧ wr = w.drewN dd ∧ sameL l m = sameL (l.drop k) (m.drop k)) (fun i _ => l.length - (intOf i).toNat)
      case atStart => exact ⟨0, 0, Nat.zero_le _, rfl, rfl, rfl⟩
      case round =>
        obtain ⟨k, dd, hk, rfl, hwr, hsm⟩ := hrel
        have HW : Hid (wr = w.drewN dd) := hwr
        have hra : Row S wr a l := by rw [hwr]; exact hra.drewN dd
        have hrb : Row T wr b m := by rw [hwr]; exact hrb.drewN dd
        clear hwr
        have HS : Hid (sameL l m = sameL (l.drop k) (m.drop k)) := hsm
        have HL : Hid (l.length = m.length) := hne
        clear hsm
        by_cases hlt : k < l.length
        · obtain ⟨il, wd, ks, p, hx⟩ := nd_eta l[k]
          obtain ⟨il', wd', ks', p', hy⟩ := nd_eta (m[k]'(by omega))
          have hx' : l[k]? = some (.mk il wd ks p) := by rw [List.getElem?_eq_getElem hlt, hx]
          have hy' : m[k]? = some (.mk il' wd' ks' p') := by rw [List.getElem?_eq_getElem (by omega), hy]
          have HX : Hid (sameL (l.drop k) (m.drop k) = _) := same_drop l m k _ _ hx' hy'
          have hsz := size_at l k il wd ks p hx'
          obtain ⟨xb, xo, xa, xc, rfl, hxS, x0, x1, x2, x3, xr⟩ := hra.at_ k il wd ks p hx'
          obtain ⟨yb, yo, ya, yc, rfl, hyS, y0, y1, y2, y3, yr⟩ := hrb.at_ k il' wd' ks' p' hy'
          clear hx hy hx' hy'
          have hk0 : (0 : Int) ≤ (k : Int) := by omega
          have hk1 : (k : Int) < (l.length : Int) := by omega
          have hk2 : (k : Int) < (m.length : Int) := by omega
          clear hne
          by_cases h1 : il = il'
          · by_cases h2 : wd = wd'
            · by_cases h3 : p = p'
              · subst h1 h2 h3
                have hc := ih (sizeL ks) (by omega) (by omega) ks ks' S T xa ya xc yc
                have HX' : Hid (sameL l m = (sameL ks ks' && sameL (l.drop (k + 1)) (m.drop (k + 1)))) := by show _ = _; rw [HS.out, HX.out]; simp [Nd.same]
                clear HX HS
                rcases hss : sameL ks ks' with _ | _
                · rw [hss] at hc
                  go_wp2_with fail
                  go_quiet ((go_at_call 17; exact Calls.quiet_of (hc _ (Nat.le_refl _) (xr.drewN _) (yr.drewN _))))
                  go_wp2_with fail
                  go_ret
                  exact ⟨ret_b (by rw [HX'.out, hss]; rfl), dd + nq, by rw [HW.out, World.drewN_drewN]⟩
                · rw [hss] at hc
                  go_wp2_with fail
                  go_quiet ((go_at_call 17; exact Calls.quiet_of (hc _ (Nat.le_refl _) (xr.drewN _) (yr.drewN _))))
                  go_wp2_with fail
                  go_roundw
                  case rel => exact ⟨k + 1, dd + nq, by omega, by go_num, by rw [HW.out, World.drewN_drewN], by rw [HX'.out, hss]; rfl⟩
                  case measure => simp [intOf]; omega
              · have hp3 : (p != p') = true := by simpa using h3
                have HX' : Hid (sameL l m = false) := by show _ = _; rw [HS.out, HX.out]; simp [Nd.same, h3]
                subst h1 h2
                clear HX HS ih
                go_wp2_with fail
                go_quiet (fail)
                go_wp2_with fail
                go_ret
                exact ⟨ret_b (by rw [HX'.out]), dd + nq, by rw [HW.out, World.drewN_drewN]⟩
            · have hp2 : ((bs wd).toList == (bs wd').toList) = false := by rw [bs_eq]; simpa using h2
              have HX' : Hid (sameL l m = false) := by show _ = _; rw [HS.out, HX.out]; simp [Nd.same, h2]
              subst h1
              clear HX HS ih
              go_wp2_with fail
              go_quiet (fail)
              go_wp2_with fail
              go_ret
              exact ⟨ret_b (by rw [HX'.out]), dd + nq, by rw [HW.out, World.drewN_drewN]⟩
          · have HX' : Hid (sameL l m = false) := by show _ = _; rw [HS.out, HX.out]; simp [Nd.same, h1]
            clear HX HS ih hra hrb hsz xr yr x1 x2 x3 y1 y2 y3
            cases il <;> cases il'
            · exact absurd rfl h1
            · clear h1
              go_wp2_with fail
              go_quiet (fail)
              go_wp2_with fail
              go_ret
              exact ⟨ret_b (by rw [HX'.out]), dd + nq, by rw [HW.out, World.drewN_drewN]⟩
            · clear h1
              go_wp2_with fail
              go_quiet (fail)
              go_wp2_with fail
              go_ret
              exact ⟨ret_b (by rw [HX'.out]), dd + nq, by rw [HW.out, World.drewN_drewN]⟩
            · exact absurd rfl h1
        · go_wp2_with fail
          go_ret
          exact ⟨ret_b (by rw [HS.out, List.drop_of_length_le (by omega), List.drop_of_length_le (by omega)]; rfl), dd, HW.out⟩
    · have hne' : ((l.length : Int) != (m.length : Int)) = true := by simp only [bne_iff_ne, ne_eq]; omega
      go_enter Tryz.func17, Tryz.ntmps17
      go_wp2_with fail
      go_ret
      exact ⟨ret_b (sameL_len l m hne).symm, 0, rfl⟩
end Go.Proofs.YtbpdhegfdmppgaaGreatDoor
