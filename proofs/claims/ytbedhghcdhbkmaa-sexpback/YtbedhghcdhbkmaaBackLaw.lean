/- WHAT IS PRINTED IS PARSED AS IT WAS, but for places; the walk of the statement SexpBack. -/
import Derived.Test.YtbedhghcdhbkmaaPrintLaw
import Derived.Test.YtbedhghcdhbkmaaAlike
import Derived.Test.YtbedhghcdhbkmaaNodes
namespace Go.Proofs.Ytbedhghcdhbkmaa
open Go.ChangeShapes Go.WideShapes Go.ChangeAt Go.RowKit

/-- What may follow a word. -/
def Stops (r : List UInt8) : Prop := ∀ b r', r = b :: r' → isPart b = false

theorem wordL_app : ∀ (wd r : List UInt8), wd.all isPart = true → Stops r → wordL (wd ++ r) = wd.length
  | [], r, _, h => by
    cases r with
    | nil => rfl
    | cons b r => simp [wordL, h b r rfl]
  | c :: wd, r, ha, h => by
    simp only [List.all_cons, Bool.and_eq_true] at ha
    simp only [List.cons_append, wordL, ha.1, if_true, wordL_app wd r ha.2 h, List.length_cons]
    omega

theorem word_back (wd r : List UInt8) (p : Nat) (t : Fr) (rs : List Fr) (hw : wordB wd = true) (hr : Stops r) :
    run (wd ++ r) p false ⟨[], t, rs⟩ = run r (p + wd.length) false ⟨[], { t with kids := t.kids ++ [.mk false wd [] p] }, rs⟩ := by
  unfold wordB at hw
  simp only [Bool.and_eq_true] at hw
  have hne : wd ≠ [] := by rintro rfl; exact absurd hw.1 (by decide)
  rw [word_run, wordL_app wd r hw.2 hr, List.drop_left, List.take_left, List.nil_append, word_put r _ wd t rs hne hr]
  have e : (((p + wd.length : Nat) : Int) - (wd.length : Nat)) = (p : Int) := by omega
  rw [e]

theorem blank_sep {sep : UInt8} (h : sep = 10 ∨ sep = 32) : (sep = 9 ∨ sep = 10 ∨ sep = 13 ∨ sep = 32) ∧ isPart sep = false := by
  rcases h with rfl | rfl
  · exact ⟨.inr (.inl rfl), by decide⟩
  · exact ⟨.inr (.inr (.inr rfl)), by decide⟩

theorem go_stops {sep : UInt8} {deep : Nat} {l : List Nd} {u r : List UInt8} (hs : isPart sep = false) (h : pGo sep deep false l = some u) (hr : Stops r) : Stops (u ++ r) := by
  cases l with
  | nil => simp only [pGo] at h; cases h; exact hr
  | cons x l =>
    simp only [pGo] at h
    rcases hx : pN deep x with _ | a
    · rw [hx] at h; cases h
    · rcases hl : pGo sep deep false l with _ | b
      · rw [hx, hl] at h; cases h
      · rw [hx, hl] at h
        cases h
        intro c r' e
        simp at e
        rw [← e.1]
        exact hs

mutual
theorem node_back (deep : Nat) : ∀ (x : Nd) (u r : List UInt8) (p : Nat) (t : Fr) (rs : List Fr), pN deep x = some u → rs.length = deep → Stops r →
    ∃ x', Nd.alike x x' = true ∧ run (u ++ r) p false ⟨[], t, rs⟩ = run r (p + u.length) false ⟨[], { t with kids := t.kids ++ [x'] }, rs⟩
  | .mk false wd ks q, u, r, p, t, rs, h, hd, hr => by
    simp only [pN] at h
    split at h
    · rename_i hc
      cases h
      have hk : ks = [] := by simpa using hc.1
      subst hk
      exact ⟨.mk false wd [] p, by simp [Nd.alike, alikeL], word_back wd r p t rs hc.2 hr⟩
    · cases h
  | .mk true wd ks q, u, r, p, t, rs, h, hd, hr => by
    simp only [pN] at h
    split at h
    · rename_i hc
      obtain ⟨rfl, hd24⟩ := hc
      rcases hg : pGo 32 (deep + 1) true ks with _ | v
      · rw [hg] at h; cases h
      · rw [hg] at h
        cases h
        obtain ⟨l', ha, hrun⟩ := list_back 32 (deep + 1) true ks v (41 :: r) (p + 1) ⟨p, []⟩ (t :: rs) (.inr rfl) hg (by simp [hd]) (fun b r' e => by cases e; decide)
        refine ⟨.mk true [] l' p, by simp [Nd.alike, ha], ?_⟩
        have h1 : (St.mk [] t rs).take p 40 = .ok ⟨[], ⟨p, []⟩, t :: rs⟩ := by
          simp only [St.take, isPart40]
          simp only [St.endWord, if_true, St.act]
          simp
          omega
        have h2 : (St.mk [] ⟨p, l'⟩ (t :: rs)).take (p + 1 + v.length) 41 = .ok ⟨[], { t with kids := t.kids ++ [.mk true [] l' p] }, rs⟩ := by
          simp only [St.take, isPart41]
          simp [St.endWord, St.act]
        have e : (40 :: (v ++ [41])) ++ r = 40 :: (v ++ 41 :: r) := by simp
        rw [e, run_ok h1]
        have h3 : ((40 : UInt8) == 59) = false := by decide
        have h4 : ((41 : UInt8) == 59) = false := by decide
        rw [h3, hrun, List.nil_append, run_ok h2, h4]
        simp only [List.length_cons, List.length_append, List.length_nil]
        rw [show p + 1 + v.length + 1 = p + (v.length + (0 + 1) + 1) by omega]
    · cases h
theorem list_back (sep : UInt8) (deep : Nat) (f : Bool) : ∀ (l : List Nd) (u r : List UInt8) (p : Nat) (t : Fr) (rs : List Fr), (sep = 10 ∨ sep = 32) → pGo sep deep f l = some u → rs.length = deep → Stops r →
    ∃ l', alikeL l l' = true ∧ run (u ++ r) p false ⟨[], t, rs⟩ = run r (p + u.length) false ⟨[], { t with kids := t.kids ++ l' }, rs⟩
  | [], u, r, p, t, rs, _, h, _, _ => by
    simp only [pGo] at h
    cases h
    exact ⟨[], rfl, by simp⟩
  | x :: l, u, r, p, t, rs, hs, h, hd, hr => by
    obtain ⟨hsb, hsp⟩ := blank_sep hs
    simp only [pGo] at h
    rcases hx : pN deep x with _ | a
    · rw [hx] at h; cases h
    · rcases hl : pGo sep deep false l with _ | b
      · rw [hx, hl] at h; cases h
      · rw [hx, hl] at h
        cases h
        have key : ∀ q, ∃ l', alikeL (x :: l) l' = true ∧ run (a ++ (b ++ r)) q false ⟨[], t, rs⟩ = run r (q + (a.length + b.length)) false ⟨[], { t with kids := t.kids ++ l' }, rs⟩ := by
          intro q
          obtain ⟨x', ha, h1⟩ := node_back deep x a (b ++ r) q t rs hx hd (go_stops hsp hl hr)
          obtain ⟨l', hb, h2⟩ := list_back sep deep false l b r (q + a.length) { t with kids := t.kids ++ [x'] } rs hs hl hd hr
          refine ⟨x' :: l', by simp [alikeL, ha, hb], ?_⟩
          rw [h1, h2, show q + a.length + b.length = q + (a.length + b.length) by omega]
          simp
        cases f with
        | true =>
          obtain ⟨l', h1, h2⟩ := key p
          exact ⟨l', h1, by simpa using h2⟩
        | false =>
          obtain ⟨l', h1, h2⟩ := key (p + 1)
          refine ⟨l', h1, ?_⟩
          have e : (if false = true then [] else [sep]) ++ (a ++ b) ++ r = sep :: (a ++ (b ++ r)) := by simp
          rw [e, blank_step hsb, h2]
          have e2 : p + 1 + (a.length + b.length) = p + ((if false = true then [] else [sep]) ++ (a ++ b)).length := by simp; omega
          rw [e2]
end

theorem parse_print {l : List Nd} {u : List UInt8} (h : pGo 10 0 true l = some u) (hu : u.length ≤ 16384) : ∃ l', parse u = .ok l' ∧ alikeL l l' = true := by
  obtain ⟨l', ha, hrun⟩ := list_back 10 0 true l u [] 0 ⟨0, []⟩ [] (.inl rfl) h rfl (fun b r' e => by cases e)
  refine ⟨l', ?_, ha⟩
  unfold parse
  rw [if_neg (by omega)]
  rw [List.append_nil] at hrun
  refine (show run u 0 false St.start = _ from hrun).trans ?_
  rw [run_nil]
  simp [St.finish, St.endWord]

set_option maxRecDepth 100000 in
set_option maxHeartbeats 3200000 in
theorem back_walk (l : List Nd) (a : Option Addr) (c : Nat) (w : World) (hr : Row (fun _ => True) w a l) :
    Calls Try.prog 5 #[.slice a l.length c] w fun e w' => e = .returned (.bool true) ∧ Below w.heap.size w w' := by
  have hP := fun w hr hw => print_any l (fun _ => True) a c w hr hw
  rcases hO : pGo 10 0 true l with _ | u
  · simp only [hO, prS, prE] at hP
    have hb0 : bs [] = ⟨#[]⟩ := rfl
    simp only [hb0] at hP
    clear hO hb0
    go_enter Try.func5, Try.ntmps5
    go_wp2_with (first
        | (go_at_call 9; refine (awake_any _).mono ?_; rintro e w2 ⟨rfl, hb2⟩)
        | (go_at_call 13; refine (size_law l _ a c w2 (hr.keep hb2)).mono ?_; rintro e w3 ⟨r, rfl, hq, hwt⟩; have hq' := hq.symm; subst hq'; have HW : Hid (r ≤ 3000 → wtL l ≤ 9000) := hwt; clear hwt)
        | (go_at_call 14; refine (hP _ (hr.keep hb2) (by have := HW.out (by omega); omega)).mono ?_; rintro e w4 ⟨rfl, hb4⟩))
    all_goals go_ret
    all_goals first | exact ⟨rfl, hb2.trans (hb4.mono hb2.size)⟩ | exact ⟨rfl, hb2⟩
  · simp only [hO, prS, prE] at hP
    by_cases hu : u.length ≤ 16384
    · obtain ⟨m, hm, hal⟩ := parse_print hO hu
      have hus : (bs u).size = u.length := bs_size u
      have hu' : ¬ (16384 : Int) < (u.length : Int) := by omega
      have hm' : parse (bs u).data.toList = .ok m := by rw [bs_list]; exact hm
      clear hO hm
      go_enter Try.func5, Try.ntmps5
      go_wp2_with (first
        | (go_at_call 9; refine (awake_any _).mono ?_; rintro e w2 ⟨rfl, hb2⟩)
        | (go_at_call 13; refine (size_law l _ a c w2 (hr.keep hb2)).mono ?_; rintro e w3 ⟨r, rfl, hq, hwt⟩; have hq' := hq.symm; subst hq'; have HW : Hid (r ≤ 3000 → wtL l ≤ 9000) := hwt; clear hwt)
        | (go_at_call 14; refine (hP _ (hr.keep hb2) (by have := HW.out (by omega); omega)).mono ?_; rintro e w4 ⟨rfl, hb4⟩)
        | (go_at_call 10; refine (parse_ok hm' _).mono ?_; rintro e w5 ⟨hb5, x5, c5, rfl, hr5⟩)
        | (go_at_call 18; refine (alike_any 1000000000 (Nat.le_refl _) l m _ _ a x5 c c5 w5 (by have := HW.out (by omega); have := wt_size l; omega) (((hr.keep hb2).keep hb4).keep hb5) hr5).mono ?_; rintro e w6 ⟨rfl, d6, rfl⟩; rw [hal]))
      all_goals go_ret
      all_goals first | exact ⟨rfl, below_drewN (hb2.trans ((hb4.mono hb2.size).trans (hb5.mono (Nat.le_trans hb2.size hb4.size)))) _⟩ | exact ⟨rfl, hb2⟩
    · have hus : (bs u).size = u.length := bs_size u
      have hu' : (16384 : Int) < (u.length : Int) := by omega
      have hm' : parse (bs u).data.toList = .err 5 0 := by rw [bs_list]; unfold parse; rw [if_pos (by omega)]
      clear hO
      go_enter Try.func5, Try.ntmps5
      go_wp2_with (first
        | (go_at_call 9; refine (awake_any _).mono ?_; rintro e w2 ⟨rfl, hb2⟩)
        | (go_at_call 13; refine (size_law l _ a c w2 (hr.keep hb2)).mono ?_; rintro e w3 ⟨r, rfl, hq, hwt⟩; have hq' := hq.symm; subst hq'; have HW : Hid (r ≤ 3000 → wtL l ≤ 9000) := hwt; clear hwt)
        | (go_at_call 14; refine (hP _ (hr.keep hb2) (by have := HW.out (by omega); omega)).mono ?_; rintro e w4 ⟨rfl, hb4⟩)
        | (go_at_call 10; refine (parse_bad hm' _).mono ?_; rintro e w5 ⟨hb5, x5, c5, rfl⟩))
      all_goals go_ret
      all_goals first | exact ⟨rfl, hb2.trans ((hb4.mono hb2.size).trans (hb5.mono (Nat.le_trans hb2.size hb4.size)))⟩ | exact ⟨rfl, hb2⟩
end Go.Proofs.Ytbedhghcdhbkmaa
