/- Texts of this proof, put together: LPrintM. -/
import Derived.Test.YtbpdhegfdmppgaaGreatDoorM14
import Derived.Test.YtbpdhegfdmppgaaGreatDoorM43
import Derived.Test.YtbpdhegfdmppgaaGreatDoorM9

/- WHAT IS PRINTED IS PARSED AS IT WAS, but for places: plain Lean (the same as in stage 2's texts, without its walks). -/
namespace Go.Proofs.YtbpdhegfdmppgaaGreatDoor
open Go.ChangeShapes Go.WideShapes Go.ChangeAt Go.RowKit

theorem isPart40 : isPart 40 = false := by decide
theorem isPart41 : isPart 41 = false := by decide
theorem blank_step {b : UInt8} {r : List UInt8} {p : Nat} {t : Fr} {rs : List Fr} (h : b = 9 ∨ b = 10 ∨ b = 13 ∨ b = 32) : run (b :: r) p false ⟨[], t, rs⟩ = run r (p + 1) false ⟨[], t, rs⟩ := by
  have ht : (St.mk [] t rs).take p b = .ok ⟨[], t, rs⟩ := by rcases h with rfl | rfl | rfl | rfl <;> rfl
  have h59 : (b == 59) = false := by rcases h with rfl | rfl | rfl | rfl <;> rfl
  rw [run_ok ht, h59]
/-- How many bytes of a word stand ahead. -/
def wordL : List UInt8 → Nat
  | [] => 0
  | b :: r => if isPart b then 1 + wordL r else 0
theorem word_run : ∀ (l : List UInt8) (p : Nat) (wd : List UInt8) (t : Fr) (rs : List Fr), run l p false ⟨wd, t, rs⟩ = run (l.drop (wordL l)) (p + wordL l) false ⟨wd ++ l.take (wordL l), t, rs⟩
  | [], p, wd, t, rs => by simp [wordL]
  | b :: r, p, wd, t, rs => by
    by_cases hb : isPart b = true
    · have e : wordL (b :: r) = wordL r + 1 := by simp only [wordL, hb, if_true]; omega
      have ht : (St.mk wd t rs).take p b = .ok ⟨wd ++ [b], t, rs⟩ := by simp [St.take, hb]
      have h59 : (b == 59) = false := by
        rw [beq_eq_false_iff_ne]
        rintro rfl
        exact absurd hb (by decide)
      rw [run_ok ht, h59, word_run r (p + 1) (wd ++ [b]) t rs, e, List.drop_succ_cons, List.take_succ_cons, show p + (wordL r + 1) = p + 1 + wordL r by omega, List.append_assoc]
      rfl
    · have e : wordL (b :: r) = 0 := by simp [wordL, hb]
      rw [e]; simp

/-- A word that ends is put, whatever comes. -/
theorem word_put (l : List UInt8) (p : Nat) (wd : List UInt8) (t : Fr) (rs : List Fr) (hw : wd ≠ []) (hl : ∀ b r, l = b :: r → isPart b = false) :
    run l p false ⟨wd, t, rs⟩ = run l p false ⟨[], { t with kids := t.kids ++ [.mk false wd [] ((p : Int) - wd.length)] }, rs⟩ := by
  have e1 : (St.mk wd t rs).endWord p = ⟨[], { t with kids := t.kids ++ [.mk false wd [] ((p : Int) - wd.length)] }, rs⟩ := by simp [St.endWord, hw]
  have e2 : (St.mk [] { t with kids := t.kids ++ [.mk false wd [] ((p : Int) - wd.length)] } rs).endWord p = ⟨[], { t with kids := t.kids ++ [.mk false wd [] ((p : Int) - wd.length)] }, rs⟩ := by simp [St.endWord]
  cases l with
  | nil =>
    rw [run_nil, run_nil]
    unfold St.finish
    cases rs with
    | nil => simp only [e1, e2]
    | cons _ _ => rfl
  | cons b r =>
    have hb := hl b r rfl
    have h1 : (St.mk wd t rs).take p b = (St.mk [] { t with kids := t.kids ++ [.mk false wd [] ((p : Int) - wd.length)] } rs).take p b := by
      simp only [St.take, hb, e1, e2, Bool.false_eq_true, if_false]
    rcases h : (St.mk wd t rs).take p b with e | st'
    · rw [run_err h, run_err (h1 ▸ h)]
    · rw [run_ok h, run_ok (h1 ▸ h)]


/-- What may follow a word. -/
def Stops (r : List UInt8) : Prop := ∀ b r', r = b :: r' → isPart b = false

theorem wordL_app : ∀ (wd r : List UInt8), wd.all isPart = true → Stops r → wordL (wd ++ r) = wd.length
  | [], r, _, h => by
    cases r with
    | nil => rfl
    | cons b r => simp [wordL, h b r rfl]
  | c :: wd, r, ha, h => by
    simp only [List.all_cons, Bool.and_eq_true] at ha
    simp only [List.cons_append, wordL, ha.1, if_true, wordL_app wd r ha.2 h, List.length_cons]
    omega

theorem word_back (wd r : List UInt8) (p : Nat) (t : Fr) (rs : List Fr) (hw : wordB wd = true) (hr : Stops r) :
    run (wd ++ r) p false ⟨[], t, rs⟩ = run r (p + wd.length) false ⟨[], { t with kids := t.kids ++ [.mk false wd [] p] }, rs⟩ := by
  unfold wordB at hw
  simp only [Bool.and_eq_true] at hw
  have hne : wd ≠ [] := by rintro rfl; exact absurd hw.1 (by decide)
  rw [word_run, wordL_app wd r hw.2 hr, List.drop_left, List.take_left, List.nil_append, word_put r _ wd t rs hne hr]
  have e : (((p + wd.length : Nat) : Int) - (wd.length : Nat)) = (p : Int) := by omega
  rw [e]

theorem blank_sep {sep : UInt8} (h : sep = 10 ∨ sep = 32) : (sep = 9 ∨ sep = 10 ∨ sep = 13 ∨ sep = 32) ∧ isPart sep = false := by
  rcases h with rfl | rfl
  · exact ⟨.inr (.inl rfl), by decide⟩
  · exact ⟨.inr (.inr (.inr rfl)), by decide⟩

theorem go_stops {sep : UInt8} {deep : Nat} {l : List Nd} {u r : List UInt8} (hs : isPart sep = false) (h : pGo sep deep false l = some u) (hr : Stops r) : Stops (u ++ r) := by
  cases l with
  | nil => simp only [pGo] at h; cases h; exact hr
  | cons x l =>
    simp only [pGo] at h
    rcases hx : pN deep x with _ | a
    · rw [hx] at h; cases h
    · rcases hl : pGo sep deep false l with _ | b
      · rw [hx, hl] at h; cases h
      · rw [hx, hl] at h
        cases h
        intro c r' e
        simp at e
        rw [← e.1]
        exact hs

mutual
theorem node_back (deep : Nat) : ∀ (x : Nd) (u r : List UInt8) (p : Nat) (t : Fr) (rs : List Fr), pN deep x = some u → rs.length = deep → Stops r →
    ∃ x', Nd.alike x x' = true ∧ run (u ++ r) p false ⟨[], t, rs⟩ = run r (p + u.length) false ⟨[], { t with kids := t.kids ++ [x'] }, rs⟩
  | .mk false wd ks q, u, r, p, t, rs, h, hd, hr => by
    simp only [pN] at h
    split at h
    · rename_i hc
      cases h
      have hk : ks = [] := by simpa using hc.1
      subst hk
      exact ⟨.mk false wd [] p, by simp [Nd.alike, alikeL], word_back wd r p t rs hc.2 hr⟩
    · cases h
  | .mk true wd ks q, u, r, p, t, rs, h, hd, hr => by
    simp only [pN] at h
    split at h
    · rename_i hc
      obtain ⟨rfl, hd24⟩ := hc
      rcases hg : pGo 32 (deep + 1) true ks with _ | v
      · rw [hg] at h; cases h
      · rw [hg] at h
        cases h
        obtain ⟨l', ha, hrun⟩ := list_back 32 (deep + 1) true ks v (41 :: r) (p + 1) ⟨p, []⟩ (t :: rs) (.inr rfl) hg (by simp [hd]) (fun b r' e => by cases e; decide)
        refine ⟨.mk true [] l' p, by simp [Nd.alike, ha], ?_⟩
        have h1 : (St.mk [] t rs).take p 40 = .ok ⟨[], ⟨p, []⟩, t :: rs⟩ := by
          simp only [St.take, isPart40]
          simp only [St.endWord, if_true, St.act]
          simp
          omega
        have h2 : (St.mk [] ⟨p, l'⟩ (t :: rs)).take (p + 1 + v.length) 41 = .ok ⟨[], { t with kids := t.kids ++ [.mk true [] l' p] }, rs⟩ := by
          simp only [St.take, isPart41]
          simp [St.endWord, St.act]
        have e : (40 :: (v ++ [41])) ++ r = 40 :: (v ++ 41 :: r) := by simp
        rw [e, run_ok h1]
        have h3 : ((40 : UInt8) == 59) = false := by decide
        have h4 : ((41 : UInt8) == 59) = false := by decide
        rw [h3, hrun, List.nil_append, run_ok h2, h4]
        simp only [List.length_cons, List.length_append, List.length_nil]
        rw [show p + 1 + v.length + 1 = p + (v.length + (0 + 1) + 1) by omega]
    · cases h
theorem list_back (sep : UInt8) (deep : Nat) (f : Bool) : ∀ (l : List Nd) (u r : List UInt8) (p : Nat) (t : Fr) (rs : List Fr), (sep = 10 ∨ sep = 32) → pGo sep deep f l = some u → rs.length = deep → Stops r →
    ∃ l', alikeL l l' = true ∧ run (u ++ r) p false ⟨[], t, rs⟩ = run r (p + u.length) false ⟨[], { t with kids := t.kids ++ l' }, rs⟩
  | [], u, r, p, t, rs, _, h, _, _ => by
    simp only [pGo] at h
    cases h
    exact ⟨[], rfl, by simp⟩
  | x :: l, u, r, p, t, rs, hs, h, hd, hr => by
    obtain ⟨hsb, hsp⟩ := blank_sep hs
    simp only [pGo] at h
    rcases hx : pN deep x with _ | a
    · rw [hx] at h; cases h
    · rcases hl : pGo sep deep false l with _ | b
      · rw [hx, hl] at h; cases h
      · rw [hx, hl] at h
        cases h
        have key : ∀ q, ∃ l', alikeL (x :: l) l' = true ∧ run (a ++ (b ++ r)) q false ⟨[], t, rs⟩ = run r (q + (a.length + b.length)) false ⟨[], { t with kids := t.kids ++ l' }, rs⟩ := by
          intro q
          obtain ⟨x', ha, h1⟩ := node_back deep x a (b ++ r) q t rs hx hd (go_stops hsp hl hr)
          obtain ⟨l', hb, h2⟩ := list_back sep deep false l b r (q + a.length) { t with kids := t.kids ++ [x'] } rs hs hl hd hr
          refine ⟨x' :: l', by simp [alikeL, ha, hb], ?_⟩
          rw [h1, h2, show q + a.length + b.length = q + (a.length + b.length) by omega]
          simp
        cases f with
        | true =>
          obtain ⟨l', h1, h2⟩ := key p
          exact ⟨l', h1, by simpa using h2⟩
        | false =>
          obtain ⟨l', h1, h2⟩ := key (p + 1)
          refine ⟨l', h1, ?_⟩
          have e : (if false = true then [] else [sep]) ++ (a ++ b) ++ r = sep :: (a ++ (b ++ r)) := by simp
          rw [e, blank_step hsb, h2]
          have e2 : p + 1 + (a.length + b.length) = p + ((if false = true then [] else [sep]) ++ (a ++ b)).length := by simp; omega
          rw [e2]
end

theorem parse_print {l : List Nd} {u : List UInt8} (h : pGo 10 0 true l = some u) (hu : u.length ≤ 16384) : ∃ l', parse u = .ok l' ∧ alikeL l l' = true := by
  obtain ⟨l', ha, hrun⟩ := list_back 10 0 true l u [] 0 ⟨0, []⟩ [] (.inl rfl) h rfl (fun b r' e => by cases e)
  refine ⟨l', ?_, ha⟩
  unfold parse
  rw [if_neg (by omega)]
  rw [List.append_nil] at hrun
  refine (show run u 0 false St.start = _ from hrun).trans ?_
  rw [run_nil]
  simp [St.finish, St.endWord]

end Go.Proofs.YtbpdhegfdmppgaaGreatDoor
