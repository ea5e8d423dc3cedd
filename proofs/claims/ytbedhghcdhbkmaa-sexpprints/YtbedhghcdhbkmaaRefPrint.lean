/- CONTRACTS of carlingref02.text, Print. -/
import Derived.Test.YtbedhghcdhbkmaaPrint4
namespace Go.Proofs.Ytbedhghcdhbkmaa
open Go.ChangeShapes Go.WideShapes Go.ChangeAt Go.RowKit

theorem bs_app (u v : List UInt8) : bs u ++ bs v = bs (u ++ v) := by
  rw [← bs_of (bs u ++ bs v)]
  congr 1
theorem bs_one (c : UInt8) : (⟨#[c]⟩ : ByteArray) = bs [c] := rfl

theorem refWord_bs (wd : List UInt8) (w : World) (h : wd.length ≤ 1000000000) : Calls Try.prog 17 #[.string (bs wd)] w fun e w' => e = .returned (.bool (wordB wd)) ∧ w' = w := by
  have := refWord_any (bs wd) w (by rw [bs_size]; unfold maxLen; omega)
  rw [bs_list] at this
  exact this

def prB : Option (List UInt8) → Bool | none => false | some _ => true

theorem retT {a b : ByteArray} {i j : Bool} (h : a = b) (h' : i = j) : Ending.returned (.tuple #[.string a, .bool i]) = .returned (.tuple #[.string b, .bool j]) := by rw [h, h']
theorem str_eq {a b : ByteArray} (h : a = b) : Value.string a = .string b := by rw [h]

theorem paren (u z : List UInt8) : bs u ++ ⟨#[40]⟩ ++ bs z ++ ⟨#[41]⟩ = bs (u ++ (40 :: (z ++ [41]))) := by
  rw [bs_one, bs_one, bs_app, bs_app, bs_app]
  congr 1
  simp

set_option maxRecDepth 100000 in
set_option maxHeartbeats 6400000 in
theorem text_any (n : Nat) : ∀ (l : List Nd) (S : Nat → Prop) (a : Option Addr) (c deep : Nat) (sep : UInt8) (w : World), sizeL l ≤ n → Row S w a l → wtL l ≤ 1000000000 → deep ≤ 24 →
    Calls Try.prog 23 #[.slice a l.length c, .string (bs [sep]), .int .i64 deep] w fun e w' => e = .returned (.tuple #[.string (bs (prS (pGo sep deep true l))), .bool (prB (pGo sep deep true l))]) ∧ w' = w := by
  induction n using Nat.strongRecOn with
  | _ n ih =>
    intro l S a c deep sep w hn hra hwt hd
    have hls := len_size l
    have hlw := wt_size l
    obtain ⟨O, hO⟩ : ∃ O, pGo sep deep true l = O := ⟨_, rfl⟩
    rw [hO]
    have HO : Hid (pGo sep deep true l = O) := hO
    clear hO
    have hsep : (bs [sep]).size = 1 := bs_size [sep]
    go_enter Try.func23, Try.ntmps23
    go_wp2_with fail
    go_loop [8, 9] (fun tx i => ∃ (k : Nat) (u : List UInt8), k ≤ l.length ∧ i = .int .i64 k ∧ tx = .string (bs u) ∧ u.length + wtL (l.drop k) ≤ wtL l ∧ O = (pGo sep deep (k == 0) (l.drop k)).map (u ++ ·)) (fun _ i => l.length - (intOf i).toNat)
    case atStart => exact ⟨0, [], Nat.zero_le _, rfl, rfl, by simp, by rw [← HO.out]; simp⟩
    case round =>
      obtain ⟨k, u, hk, rfl, rfl, hul, hOk⟩ := hrel
      have HK : Hid (O = (pGo sep deep (k == 0) (l.drop k)).map (u ++ ·)) := hOk
      clear hOk
      have hus : (bs u).size = u.length := bs_size u
      by_cases hlt : k < l.length
      · obtain ⟨il, wd, ks, p, hx⟩ := nd_eta l[k]
        have hx' : l[k]? = some (.mk il wd ks p) := by rw [List.getElem?_eq_getElem hlt, hx]
        have HG : Hid (l[k]? = some (.mk il wd ks p)) := hx'
        have hsz := size_at l k il wd ks p hx'
        have hwk := wt_at l k _ hx'
        obtain ⟨xb, xo, xa, xc, rfl, hxS, y0, y1, y2, y3, yr⟩ := hra.at_ k il wd ks p hx'
        have hksl := len_size ks
        have hdk := wt_drop l k
        have hk0 : (0 : Int) ≤ (k : Int) := by omega
        have hk1 : (k : Int) < (l.length : Int) := by omega
        have h1z : (k + 1 == 0) = false := by simp
        have hws : (bs wd).size = wd.length := bs_size wd
        simp only [Nd.wt] at hwk
        -- what the words so far are, with what parts them
        obtain ⟨U, hU, hUl, hsepw⟩ : ∃ U : List UInt8, (U = (if (k == 0) = true then u else u ++ [sep])) ∧ U.length ≤ u.length + 1 ∧ ((k = 0 ∧ U = u) ∨ (0 < k ∧ U = u ++ [sep])) := by
          refine ⟨_, rfl, ?_, ?_⟩
          · split <;> simp
          · by_cases h : k = 0
            · exact .inl ⟨h, by simp [h]⟩
            · exact .inr ⟨by omega, by simp [h]⟩
        have HF : Hid (O = match pN deep (.mk il wd ks p) with | none => none | some z => (pGo sep deep (k + 1 == 0) (l.drop (k + 1))).map ((U ++ z) ++ ·)) := by
          show _ = _
          rw [HK.out, go_at l k _ HG.out, h1z, hU]
          rcases pN deep (.mk il wd ks p) with _ | z
          · rfl
          · rcases pGo sep deep false (l.drop (k + 1)) with _ | b
            · rfl
            · cases k <;> simp
        have hUs : (bs U).size = U.length := bs_size U
        have hap : bs u ++ bs [sep] = bs (u ++ [sep]) := bs_app u [sep]
        clear hx hx' HK HG hU h1z
        cases il with
        | false =>
          by_cases hks : 0 < ks.length
          · have hz : (0 : Int) < (ks.length : Int) := by omega
            have HN : Hid (O = none) := by
              show _ = _
              rw [HF.out]
              simp only [pN]
              rw [if_neg fun h => by have := h.1; cases ks with
                | nil => simp at hks
                | cons _ _ => cases this]
            clear HF ih
            rcases hsepw with ⟨hkz, rfl⟩ | ⟨hkz, rfl⟩
            · have hkz' : ¬ (0 : Int) < (k : Int) := by omega
              clear hkz
              go_wp2_with fail
              go_ret2
              exact ⟨retT (by rw [HN.out]; rfl) (by rw [HN.out]; rfl), rfl⟩
            · have hkz' : (0 : Int) < (k : Int) := by omega
              go_wp2_with fail
              go_ret2
              exact ⟨retT (by rw [HN.out]; rfl) (by rw [HN.out]; rfl), rfl⟩
          · have hz : ¬ (0 : Int) < (ks.length : Int) := by omega
            have hk0 : ks = [] := List.eq_nil_of_length_eq_zero (by omega)
            subst hk0
            have hW := fun w => refWord_bs wd w (by omega)
            rcases hwb : wordB wd with _ | _
            · have HN : Hid (O = none) := by
                show _ = _
                rw [HF.out]
                simp only [pN]
                rw [if_neg fun h => by have := h.2; rw [hwb] at this; cases this]
              simp only [hwb] at hW
              clear HF ih hwb
              rcases hsepw with ⟨hkz, rfl⟩ | ⟨hkz, rfl⟩
              · have hkz' : ¬ (0 : Int) < (k : Int) := by omega
                clear hkz
                go_wp2_with (go_at_call 17; refine (hW _).mono ?_; rintro e w' ⟨rfl, hq⟩; have hq' := hq.symm; subst hq')
                go_ret2
                exact ⟨retT (by rw [HN.out]; rfl) (by rw [HN.out]; rfl), rfl⟩
              · have hkz' : (0 : Int) < (k : Int) := by omega
                go_wp2_with (go_at_call 17; refine (hW _).mono ?_; rintro e w' ⟨rfl, hq⟩; have hq' := hq.symm; subst hq')
                go_ret2
                exact ⟨retT (by rw [HN.out]; rfl) (by rw [HN.out]; rfl), rfl⟩
            · have HN : Hid (O = (pGo sep deep (k + 1 == 0) (l.drop (k + 1))).map ((U ++ wd) ++ ·)) := by
                show _ = _
                rw [HF.out]
                simp only [pN]
                rw [if_pos ⟨rfl, hwb⟩]
              simp only [hwb] at hW
              clear HF ih hwb
              rcases hsepw with ⟨hkz, rfl⟩ | ⟨hkz, rfl⟩
              · have hkz' : ¬ (0 : Int) < (k : Int) := by omega
                clear hkz
                go_wp2_with (go_at_call 17; refine (hW _).mono ?_; rintro e w' ⟨rfl, hq⟩; have hq' := hq.symm; subst hq')
                go_round
                case rel => exact ⟨k + 1, _, by omega, by go_num, str_eq (bs_app _ _), by simp only [List.length_append]; omega, HN.out⟩
                case measure => simp [intOf]; omega
              · have hkz' : (0 : Int) < (k : Int) := by omega
                go_wp2_with (go_at_call 17; refine (hW _).mono ?_; rintro e w' ⟨rfl, hq⟩; have hq' := hq.symm; subst hq')
                go_round
                case rel => exact ⟨k + 1, _, by omega, by go_num, str_eq (bs_app _ _), by simp only [List.length_append, List.length_singleton] at *; omega, HN.out⟩
                case measure => simp [intOf]; omega
        | true =>
          by_cases hd24 : deep = 24
          · have e24 : ((deep : Int) == 24) = true := by rw [beq_iff_eq]; omega
            have HN : Hid (O = none) := by
              show _ = _
              rw [HF.out]
              simp only [pN]
              rw [if_neg fun h => by have := h.2; omega]
            clear HF ih hd24
            rcases hsepw with ⟨hkz, rfl⟩ | ⟨hkz, rfl⟩
            · have hkz' : ¬ (0 : Int) < (k : Int) := by omega
              clear hkz
              go_wp2_with fail
              go_ret2
              exact ⟨retT (by rw [HN.out]; rfl) (by rw [HN.out]; rfl), rfl⟩
            · have hkz' : (0 : Int) < (k : Int) := by omega
              go_wp2_with fail
              go_ret2
              exact ⟨retT (by rw [HN.out]; rfl) (by rw [HN.out]; rfl), rfl⟩
          · have e24 : ((deep : Int) == 24) = false := by rw [beq_eq_false_iff_ne]; omega
            by_cases hw : wd = []
            · subst hw
              have hbs0 : (bs []).toList = [] := by rw [ByteArray.toList_eq]; rfl
              have hc := fun w yr => ih (sizeL ks) (by omega) ks S xa xc (deep + 1) 32 w (Nat.le_refl _) yr (by omega) (by omega)
              simp only [show ((deep + 1 : Nat) : Int) = (deep : Int) + 1 by omega] at hc
              rcases hpg : pGo 32 (deep + 1) true ks with _ | z
              · have HN : Hid (O = none) := by
                  show _ = _
                  rw [HF.out]
                  simp only [pN]
                  rw [if_pos ⟨trivial, by omega⟩, hpg]
                simp only [hpg, prS, prB] at hc
                clear HF ih hpg hd24
                rcases hsepw with ⟨hkz, rfl⟩ | ⟨hkz, rfl⟩
                · have hkz' : ¬ (0 : Int) < (k : Int) := by omega
                  clear hkz
                  go_wp2_with (go_at_call 23; refine (hc _ yr).mono ?_; rintro e w' ⟨rfl, hq⟩; have hq' := hq.symm; subst hq')
                  go_ret2
                  exact ⟨retT (by rw [HN.out]; rfl) (by rw [HN.out]; rfl), rfl⟩
                · have hkz' : (0 : Int) < (k : Int) := by omega
                  go_wp2_with (go_at_call 23; refine (hc _ yr).mono ?_; rintro e w' ⟨rfl, hq⟩; have hq' := hq.symm; subst hq')
                  go_ret2
                  exact ⟨retT (by rw [HN.out]; rfl) (by rw [HN.out]; rfl), rfl⟩
              · have HN : Hid (O = (pGo sep deep (k + 1 == 0) (l.drop (k + 1))).map ((U ++ (40 :: (z ++ [41]))) ++ ·)) := by
                  show _ = _
                  rw [HF.out]
                  simp only [pN]
                  rw [if_pos ⟨trivial, by omega⟩, hpg]
                have hzl := print_len_of hpg
                have hzs : (bs z).size = z.length := bs_size z
                simp only [hpg, prS, prB] at hc
                clear HF ih hpg hd24
                rcases hsepw with ⟨hkz, rfl⟩ | ⟨hkz, rfl⟩
                · have hkz' : ¬ (0 : Int) < (k : Int) := by omega
                  clear hkz
                  go_wp2_with (go_at_call 23; refine (hc _ yr).mono ?_; rintro e w' ⟨rfl, hq⟩; have hq' := hq.symm; subst hq')
                  go_round
                  case rel => exact ⟨k + 1, _, by omega, by go_num, str_eq (paren _ _), by simp only [List.length_append, List.length_cons, List.length_nil] at *; omega, HN.out⟩
                  case measure => simp [intOf]; omega
                · have hkz' : (0 : Int) < (k : Int) := by omega
                  go_wp2_with (go_at_call 23; refine (hc _ yr).mono ?_; rintro e w' ⟨rfl, hq⟩; have hq' := hq.symm; subst hq')
                  go_round
                  case rel => exact ⟨k + 1, _, by omega, by go_num, str_eq (paren _ _), by simp only [List.length_append, List.length_cons, List.length_nil] at *; omega, HN.out⟩
                  case measure => simp [intOf]; omega
            · have HN : Hid (O = none) := by
                show _ = _
                rw [HF.out]
                simp only [pN]
                rw [if_neg fun h => hw h.1]
              have hbs2 : (bs wd).toList.isEmpty = false := by rw [ByteArray.toList_eq, bs_list]; cases wd with
                | nil => exact absurd rfl hw
                | cons _ _ => rfl
              clear HF ih hd24
              rcases hsepw with ⟨hkz, rfl⟩ | ⟨hkz, rfl⟩
              · have hkz' : ¬ (0 : Int) < (k : Int) := by omega
                clear hkz
                go_wp2_with fail
                go_ret2
                exact ⟨retT (by rw [HN.out]; rfl) (by rw [HN.out]; rfl), rfl⟩
              · have hkz' : (0 : Int) < (k : Int) := by omega
                go_wp2_with fail
                go_ret2
                exact ⟨retT (by rw [HN.out]; rfl) (by rw [HN.out]; rfl), rfl⟩
      · have HF : Hid (O = some u) := by show _ = _; rw [HK.out, List.drop_of_length_le (by omega)]; simp [pGo]
        go_wp2_with fail
        go_ret2
        exact ⟨retT (by rw [HF.out]; rfl) (by rw [HF.out]; rfl), rfl⟩

theorem refPrint_any (l : List Nd) (S : Nat → Prop) (a : Option Addr) (c : Nat) (w : World) (hr : Row S w a l) (hw : wtL l ≤ 1000000000) :
    Calls Try.prog 15 #[.slice a l.length c] w fun e w' => e = .returned (.tuple #[.string (bs (prS (pGo 10 0 true l))), .int .i64 (prE (pGo 10 0 true l))]) ∧ w' = w := by
  have hc := text_any (sizeL l) l S a c 0 10 w (Nat.le_refl _) hr hw (by omega)
  rw [show ((0 : Nat) : Int) = 0 from rfl] at hc
  rcases hp : pGo 10 0 true l with _ | u
  · simp only [hp, prS, prB] at hc
    go_enter Try.func15, Try.ntmps15
    go_wp2_with (go_at_call 23; refine hc.mono ?_; rintro e w' ⟨rfl, hq⟩; have hq' := hq.symm; subst hq')
    go_ret2
    exact ⟨retS rfl rfl, rfl⟩
  · simp only [hp, prS, prB] at hc
    go_enter Try.func15, Try.ntmps15
    go_wp2_with (go_at_call 23; refine hc.mono ?_; rintro e w' ⟨rfl, hq⟩; have hq' := hq.symm; subst hq')
    go_ret2
    exact ⟨retS rfl rfl, rfl⟩
end Go.Proofs.Ytbedhghcdhbkmaa
