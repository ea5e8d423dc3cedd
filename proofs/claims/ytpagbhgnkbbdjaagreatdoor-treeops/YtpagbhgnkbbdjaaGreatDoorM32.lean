/- Texts of this proof, put together: LAgain. -/
import Derived.Test.YtpagbhgnkbbdjaaGreatDoorM23
import Derived.Test.YtpagbhgnkbbdjaaGreatDoorM31

/- THE NODES OF WHAT IS READ are those that were read, but for places; and it is no more than they are. Plain Lean. -/
namespace Go.Proofs.YtpagbhgnkbbdjaaGreatDoor

def EOk (n : Nd) (e : Ex) : Prop := ∃ y, Sh.shE e.sh = some y ∧ Nd.alike n (ndB y) = true ∧ Sh.exW e.sh ≤ Nd.ms n ∧ Sh.exOk e.sh
def EsOk (l : List Nd) (es : List Ex) : Prop := ∃ ys, Sh.shEs (exsSh es) = some ys ∧ alikeL l (ndBs ys) = true ∧ Sh.exWs (exsSh es) ≤ msL l ∧ Sh.exOks (exsSh es)
theorem EsOk.nil : EsOk [] [] := ⟨[], by rw [exsSh, Sh.shEs], alike_nil, by rw [exsSh, Sh.exWs]; exact Nat.zero_le _, by rw [exsSh, Sh.exOks]; trivial⟩
theorem EsOk.cons {n : Nd} {e : Ex} {l : List Nd} {es : List Ex} (h : EOk n e) (k : EsOk l es) : EsOk (n :: l) (e :: es) := by
  obtain ⟨y, h1, h2, h3, h4⟩ := h
  obtain ⟨ys, k1, k2, k3, k4⟩ := k
  refine ⟨y :: ys, by rw [exsSh, Sh.shEs, h1, k1]; rfl, alike_cons h2 k2, ?_, ?_⟩
  · rw [exsSh, Sh.exWs, msL]; omega
  · rw [exsSh, Sh.exOks]; exact ⟨h4, k4⟩

theorem rdN_zero (p : Int) (l : List Nd) : rdN p 0 l = .ok ([], l) := by rw [rdN]
theorem rdN_none (p : Int) (k : Nat) : rdN p (k + 1) [] = .bad 6 p := by rw [rdN]
theorem rdN_more (p : Int) (k : Nat) (n : Nd) (r : List Nd) : rdN p (k + 1) (n :: r) = (rdE n).bind fun e => (rdN p k r).bind fun x => .ok (e :: x.1, x.2) := by rw [rdN]
theorem rdN_ok {k : Nat} (H : ∀ n : Nd, Nd.sz n ≤ k → ∀ e, rdE n = .ok e → EOk n e) (p : Int) : ∀ (j : Nat) (l : List Nd) (x : List Ex × List Nd), szL l ≤ k → rdN p j l = .ok x → x.1.length = j ∧ ∃ l1, l = l1 ++ x.2 ∧ EsOk l1 x.1
  | 0, l, x, _, h => by
    rw [rdN_zero] at h
    cases h
    exact ⟨rfl, [], rfl, EsOk.nil⟩
  | j + 1, [], x, _, h => by rw [rdN_none] at h; cases h
  | j + 1, n :: r, x, hs, h => by
    rw [rdN_more] at h
    replace h := okBind h
    obtain ⟨e, he, h⟩ := h
    replace h := okBind h
    obtain ⟨y, hy, h⟩ := h
    cases h
    simp only [szL] at hs
    obtain ⟨h1, l1, rfl, h2⟩ := rdN_ok H p j r y (by omega) hy
    exact ⟨by simp [h1], n :: l1, rfl, EsOk.cons (H n (by omega) e he) h2⟩
theorem rdArgs_none (i : Nat) : rdArgs i [] = .ok [] := by rw [rdArgs]
theorem rdArgs_more (i : Nat) (n : Nd) (r : List Nd) : rdArgs i (n :: r) = if 6 ≤ i then .bad 5 n.pos else (rdE n).bind fun e => (rdArgs (i + 1) r).bind fun x => .ok (e :: x) := by rw [rdArgs]
theorem rdArgs_ok {k : Nat} (H : ∀ n : Nd, Nd.sz n ≤ k → ∀ e, rdE n = .ok e → EOk n e) : ∀ (l : List Nd) (i : Nat) (es : List Ex), i ≤ 6 → szL l ≤ k → rdArgs i l = .ok es → i + es.length ≤ 6 ∧ EsOk l es
  | [], i, es, hi, _, h => by
    rw [rdArgs_none] at h
    cases h
    exact ⟨hi, EsOk.nil⟩
  | n :: r, i, es, hi, hs, h => by
    rw [rdArgs_more] at h
    split at h
    · cases h
    · replace h := okBind h
      obtain ⟨e, he, h⟩ := h
      replace h := okBind h
      obtain ⟨y, hy, h⟩ := h
      cases h
      simp only [szL] at hs
      obtain ⟨h1, h2⟩ := rdArgs_ok H r (i + 1) y (by omega) (by omega) hy
      exact ⟨by simp; omega, EsOk.cons (H n (by omega) e he) h2⟩

theorem exSh_mk (k : Int) (n : Nat) (o : Int) (m : List UInt8) (l : List Ex) : (Ex.mk k n o m l).sh = .mk k n o m (exsSh l) := by rw [Ex.sh]
theorem rdParts_ok {k : Nat} (H : ∀ n : Nd, Nd.sz n ≤ k → ∀ e, rdE n = .ok e → EOk n e) (p : Int) (ks : List Nd) (hs : szL ks ≤ k) (e : Ex) (h : rdParts p ks = .ok e) : EOk (.mk true [] ks p) e := by
  cases ks with
  | nil => rw [rdParts] at h; cases h
  | cons first r =>
    rw [rdParts.eq_def] at h
    dsimp only at h
    replace h := okBind h
    obtain ⟨s, ht, h⟩ := h
    obtain ⟨q, rfl⟩ := okText ht
    have hsr : szL r ≤ k := by simp only [szL] at hs; omega
    split at h
    · rename_i hat
      subst hat
      cases r with
      | nil => cases h
      | cons nm r' =>
        replace h := okBind h
        obtain ⟨a, ha, h⟩ := h
        replace h := okBind h
        obtain ⟨x, hx, h⟩ := h
        replace h := okBind h
        obtain ⟨u, hu, h⟩ := h
        cases h
        obtain ⟨⟨q1, rfl⟩, hn⟩ := okName ha
        obtain ⟨hl, l1, rfl, ys, y1, y2, y3, y4⟩ := rdN_ok H p 1 r' x (by simp only [szL] at hsr; omega) hx
        have he := okEnd hu
        rw [he] at *
        rw [List.append_nil] at *
        refine ⟨Sh.fm [97, 116] (Sh.lf a :: ys), ?_, ?_, ?_, ?_⟩
        · rw [exSh_mk, Sh.shE]
          simp [exsSh_len, hl, shName_sh hn, y1]
        · exact alike_list p (alike_cons (alike_word _ _) (alike_cons (alike_word _ _) y2))
        · rw [exSh_mk, Sh.exW]; simp only [Nd.ms, msL, List.length_nil]; omega
        · rw [exSh_mk, Sh.exOk]; exact ⟨by omega, y4⟩
    · split at h
      · rename_i hsel
        subst hsel
        replace h := okBind h
        obtain ⟨x, hx, h⟩ := h
        replace h := okBind h
        obtain ⟨u, hu, h⟩ := h
        cases h
        obtain ⟨hl, l1, rfl, ys, y1, y2, y3, y4⟩ := rdN_ok H p 3 r x hsr hx
        have he := okEnd hu
        rw [he] at *
        rw [List.append_nil] at *
        refine ⟨Sh.fm [115, 101, 108] ys, ?_, ?_, ?_, ?_⟩
        · rw [exSh_mk, Sh.shE]
          simp [exsSh_len, hl, y1]
        · exact alike_list p (alike_cons (alike_word _ _) y2)
        · rw [exSh_mk, Sh.exW]; simp only [Nd.ms, msL, List.length_nil]; omega
        · rw [exSh_mk, Sh.exOk]; exact ⟨by omega, y4⟩
      · split at h
        · rename_i hcall
          subst hcall
          cases r with
          | nil => cases h
          | cons nm r' =>
            replace h := okBind h
            obtain ⟨a, ha, h⟩ := h
            replace h := okBind h
            obtain ⟨x, hx, h⟩ := h
            cases h
            obtain ⟨⟨q1, rfl⟩, hn⟩ := okFull ha
            obtain ⟨hl, ys, y1, y2, y3, y4⟩ := rdArgs_ok H r' 0 x (by omega) (by simp only [szL] at hsr; omega) hx
            refine ⟨Sh.fm [99, 97, 108, 108] (Sh.lf a :: ys), ?_, ?_, ?_, ?_⟩
            · rw [exSh_mk, Sh.shE]
              have hl' : x.length ≤ 6 := by omega
              simp [exsSh_len, isFull_sh, hn, hl', y1]
            · exact alike_list p (alike_cons (alike_word _ _) (alike_cons (alike_word _ _) y2))
            · rw [exSh_mk, Sh.exW]; simp only [Nd.ms, msL, List.length_nil]; omega
            · rw [exSh_mk, Sh.exOk]; exact ⟨by omega, y4⟩
        · split at h
          · cases h
          · rename_i hop
            replace h := okBind h
            obtain ⟨x, hx, h⟩ := h
            replace h := okBind h
            obtain ⟨u, hu, h⟩ := h
            cases h
            obtain ⟨hl, l1, rfl, ys, y1, y2, y3, y4⟩ := rdN_ok H p 2 r x hsr hx
            have he := okEnd hu
            rw [he] at *
            rw [List.append_nil] at *
            have hne : s ≠ [] := fun e => hop (by rw [e]; rfl)
            refine ⟨Sh.fm s ys, ?_, ?_, ?_, ?_⟩
            · rw [exSh_mk, Sh.shE, sign_back hop]
              simp [exsSh_len, hl, hne, y1]
            · exact alike_list p (alike_cons (alike_word _ _) y2)
            · rw [exSh_mk, Sh.exW]; simp only [Nd.ms, msL, List.length_nil]; omega
            · rw [exSh_mk, Sh.exOk]; exact ⟨by omega, y4⟩

theorem rdE_list (wd : List UInt8) (ks : List Nd) (p : Int) : rdE (.mk true wd ks p) = if !wd.isEmpty then .bad 6 p else rdParts p ks := by rw [rdE]
theorem rdE_word (wd : List UInt8) (ks : List Nd) (p : Int) : rdE (.mk false wd ks p) = if !ks.isEmpty then .bad 6 p else
    match num wd with
    | some v => .ok (.mk 1 v 0 [] [])
    | none => if isName wd then .ok (.mk 2 0 0 wd []) else .bad 6 p := by rw [rdE]; rfl
theorem rdE_ok : ∀ (k : Nat) (n : Nd), Nd.sz n ≤ k → ∀ e, rdE n = .ok e → EOk n e
  | 0, .mk il wd ks p, hs, e, h => by simp only [Nd.sz] at hs; omega
  | k + 1, .mk true wd ks p, hs, e, h => by
    rw [rdE_list] at h
    split at h
    · cases h
    · rename_i hw
      obtain rfl : wd = [] := by simpa using hw
      exact rdParts_ok (rdE_ok k) p ks (by simp only [Nd.sz] at hs; omega) e h
  | k + 1, .mk false wd ks p, hs, e, h => by
    rw [rdE_word] at h
    split at h
    · cases h
    · rename_i hk
      obtain rfl : ks = [] := by simpa using hk
      split at h
      · rename_i v hv
        cases h
        obtain ⟨hd, hb⟩ := num_back hv
        refine ⟨Sh.lf wd, ?_, alike_word _ _, ?_, ?_⟩
        · rw [exSh_mk, exsSh, Sh.shE]
          simp [hd]
        · rw [exSh_mk, exsSh, Sh.exW, Sh.exWs]; simp only [Nd.ms, List.length_nil]; omega
        · rw [exSh_mk, exsSh, Sh.exOk, Sh.exOks]; exact ⟨hb, trivial⟩
      · split at h
        · rename_i hn
          cases h
          refine ⟨Sh.lf wd, ?_, alike_word _ _, ?_, ?_⟩
          · rw [exSh_mk, exsSh, Sh.shE]
            simp [shName_sh hn]
          · rw [exSh_mk, exsSh, Sh.exW, Sh.exWs]; simp only [Nd.ms]; omega
          · rw [exSh_mk, exsSh, Sh.exOk, Sh.exOks]; exact ⟨by omega, trivial⟩
        · cases h
theorem rdE_all {n : Nd} {e : Ex} (h : rdE n = .ok e) : EOk n e := rdE_ok _ n (Nat.le_refl _) e h

/- Statements. -/
def SOk (ks : List Nd) (s : Sm) : Prop := ∃ ys, Sh.shS s.sh = some (Sh.ls ys) ∧ alikeL ks (ndBs ys) = true ∧ Sh.smW s.sh ≤ msL ks ∧ Sh.smOk s.sh
def SsOk (l : List Nd) (b : List Sm) : Prop := ∃ ys, Sh.shSs (smsSh b) = some ys ∧ alikeL l (ndBs ys) = true ∧ Sh.smWs (smsSh b) ≤ msL l ∧ Sh.smOks (smsSh b)
theorem SsOk.nil : SsOk [] [] := ⟨[], by rw [smsSh, Sh.shSs], alike_nil, by rw [smsSh, Sh.smWs]; exact Nat.zero_le _, by rw [smsSh, Sh.smOks]; trivial⟩
theorem SsOk.cons {ks : List Nd} {p : Int} {s : Sm} {l : List Nd} {b : List Sm} (h : SOk ks s) (k : SsOk l b) : SsOk (.mk true [] ks p :: l) (s :: b) := by
  obtain ⟨y, h1, h2, h3, h4⟩ := h
  obtain ⟨ys, k1, k2, k3, k4⟩ := k
  refine ⟨Sh.ls y :: ys, by rw [smsSh, Sh.shSs, h1, k1]; rfl, alike_cons (alike_list p h2) k2, ?_, ?_⟩
  · rw [smsSh, Sh.smWs, msL, Nd.ms]; omega
  · rw [smsSh, Sh.smOks]; exact ⟨h4, k4⟩
theorem smSh_mk (k : Int) (m : List UInt8) (s : Bool) (len fr to : Int) (ix e : Ex) (b els : List Sm) : (Sm.mk k m s len fr to ix e b els).sh = .mk k m s len fr to ix.sh e.sh (smsSh b) (smsSh els) := by rw [Sm.sh]
theorem none_sh : Ex.none.sh = Sh.Ex.none := by rw [Ex.none, exSh_mk, exsSh]; rfl
theorem none_nil : Sh.Ex.none.isNil = true := rfl
theorem none_w : Sh.exW Sh.Ex.none = 1 := by rw [Sh.Ex.none, Sh.exW, Sh.exWs]; rfl
theorem none_ok : Sh.exOk Sh.Ex.none := by rw [Sh.Ex.none, Sh.exOk, Sh.exOks]; exact ⟨Nat.zero_le _, trivial⟩
theorem sms_nil : smsSh [] = [] := by rw [smsSh]
theorem ws_nil : Sh.smWs [] = 0 := by rw [Sh.smWs]
theorem oks_nil : Sh.smOks [] = True := by rw [Sh.smOks]
theorem smOk_mk (k : Int) (m : List UInt8) (s : Bool) (len fr to : Int) (ix e : Sh.Ex) (b els : List Sh.Sm) : Sh.smOk (.mk k m s len fr to ix e b els) = (Sh.exOk ix ∧ Sh.exOk e ∧ Sh.smOks b ∧ Sh.smOks els) := by rw [Sh.smOk]
theorem smW_mk (k : Int) (m : List UInt8) (s : Bool) (len fr to : Int) (ix e : Sh.Ex) (b els : List Sh.Sm) : Sh.smW (.mk k m s len fr to ix e b els) = 1 + m.length + Sh.exW ix + Sh.exW e + Sh.smWs b + Sh.smWs els := by rw [Sh.smW]

theorem rdSs_none : rdSs [] = .ok [] := by rw [rdSs]
theorem rdSs_more (n : Nd) (r : List Nd) : rdSs (n :: r) = (rdS n).bind fun s => (rdSs r).bind fun x => .ok (s :: x) := by rw [rdSs]
theorem rdS_mk (il : Bool) (wd : List UInt8) (ks : List Nd) (p : Int) : rdS (.mk il wd ks p) = if !il || !wd.isEmpty then .bad 6 p else rdSt p ks := by rw [rdS]
theorem rdBlock_mk (il : Bool) (wd : List UInt8) (ks : List Nd) (p : Int) : rdBlock (.mk il wd ks p) = if !il || !wd.isEmpty then .bad 6 p else rdSs ks := by rw [rdBlock]
theorem rdSs_ok {k : Nat} (H : ∀ (p : Int) (ks : List Nd), szL ks ≤ k → ∀ s, rdSt p ks = .ok s → SOk ks s) : ∀ (l : List Nd) (b : List Sm), szL l ≤ k → rdSs l = .ok b → SsOk l b
  | [], b, _, h => by rw [rdSs_none] at h; cases h; exact SsOk.nil
  | .mk il wd ks p :: r, b, hs, h => by
    rw [rdSs_more] at h
    replace h := okBind h
    obtain ⟨s, hx, h⟩ := h
    replace h := okBind h
    obtain ⟨y, hy, h⟩ := h
    cases h
    rw [rdS_mk] at hx
    split at hx
    · cases hx
    · rename_i hh
      obtain ⟨rfl, rfl⟩ : il = true ∧ wd = [] := by simpa using hh
      simp only [szL, Nd.sz] at hs
      exact SsOk.cons (H p ks (by omega) s hx) (rdSs_ok H r y (by omega) hy)
theorem rdBlock_ok {k : Nat} (H : ∀ (p : Int) (ks : List Nd), szL ks ≤ k → ∀ s, rdSt p ks = .ok s → SOk ks s) {n : Nd} {b : List Sm} (hs : Nd.sz n ≤ k) (h : rdBlock n = .ok b) : ∃ ks p, n = .mk true [] ks p ∧ SsOk ks b := by
  obtain ⟨il, wd, ks, p⟩ := n
  rw [rdBlock_mk] at h
  split at h
  · cases h
  · rename_i hh
    obtain ⟨rfl, rfl⟩ : il = true ∧ wd = [] := by simpa using hh
    simp only [Nd.sz] at hs
    exact ⟨ks, p, rfl, rdSs_ok H ks b (by omega) h⟩
theorem rdSt_ok : ∀ (k : Nat) (p : Int) (ks : List Nd), szL ks ≤ k → ∀ s, rdSt p ks = .ok s → SOk ks s
  | k, p, [], hs, s, h => by rw [rdSt] at h; cases h
  | 0, p, .mk il wd l q :: r, hs, s, h => by simp only [szL, Nd.sz] at hs; omega
  | k + 1, p, first :: r, hs, s, h => by
    rw [rdSt.eq_def] at h
    dsimp only at h
    replace h := okBind h
    obtain ⟨t, ht, h⟩ := h
    obtain ⟨q, rfl⟩ := okText ht
    have hsr : szL r ≤ k := by simp only [szL, Nd.sz] at hs; omega
    split at h
    · rename_i hk
      subst hk
      replace h := okBind h
      obtain ⟨a, ha, h⟩ := h
      replace h := okBind h
      obtain ⟨b, hb, h⟩ := h
      replace h := okBind h
      obtain ⟨u, hu, h⟩ := h
      cases h
      obtain ⟨n1, rfl, h1⟩ := okBy ha
      obtain ⟨n2, e2, h2⟩ := okBy hb
      rw [e2, okEnd hu]
      obtain ⟨⟨q1, rfl⟩, hn⟩ := okName h1
      obtain ⟨y, y1, y2, y3, y4⟩ := rdE_all h2
      refine ⟨[Sh.lf [108, 101, 116], Sh.lf a.1, y], ?_, ?_, ?_, ?_⟩
      · rw [smSh_mk, Sh.shS]; simp [shName_sh hn, y1, none_sh, none_nil, sms_nil, Sh.fm]
      · exact alike_cons (alike_word _ _) (alike_cons (alike_word _ _) (alike_cons y2 alike_nil))
      · rw [smSh_mk, smW_mk, none_sh, none_w, sms_nil, ws_nil]; simp only [Nd.ms, msL, List.length_cons, List.length_nil]; omega
      · rw [smSh_mk, smOk_mk, none_sh, sms_nil, oks_nil]; exact ⟨none_ok, y4, trivial, trivial⟩
    · split at h
      · rename_i hk
        subst hk
        replace h := okBind h
        obtain ⟨a, ha, h⟩ := h
        replace h := okBind h
        obtain ⟨b, hb, h⟩ := h
        replace h := okBind h
        obtain ⟨u, hu, h⟩ := h
        cases h
        obtain ⟨n1, rfl, h1⟩ := okBy ha
        obtain ⟨n2, e2, h2⟩ := okBy hb
        rw [e2, okEnd hu]
        obtain ⟨⟨q1, rfl⟩, hn⟩ := okName h1
        obtain ⟨y, y1, y2, y3, y4⟩ := rdE_all h2
        refine ⟨[Sh.lf [115, 101, 116], Sh.lf a.1, y], ?_, ?_, ?_, ?_⟩
        · rw [smSh_mk, Sh.shS]; simp [shName_sh hn, y1, none_sh, none_nil, sms_nil, Sh.fm]
        · exact alike_cons (alike_word _ _) (alike_cons (alike_word _ _) (alike_cons y2 alike_nil))
        · rw [smSh_mk, smW_mk, none_sh, none_w, sms_nil, ws_nil]; simp only [Nd.ms, msL, List.length_cons, List.length_nil]; omega
        · rw [smSh_mk, smOk_mk, none_sh, sms_nil, oks_nil]; exact ⟨none_ok, y4, trivial, trivial⟩
      · split at h
        · rename_i hk
          subst hk
          replace h := okBind h
          obtain ⟨a, ha, h⟩ := h
          replace h := okBind h
          obtain ⟨b, hb, h⟩ := h
          replace h := okBind h
          obtain ⟨c, hc, h⟩ := h
          replace h := okBind h
          obtain ⟨u, hu, h⟩ := h
          cases h
          obtain ⟨n1, rfl, h1⟩ := okBy ha
          obtain ⟨n2, e2, h2⟩ := okBy hb
          obtain ⟨n3, e3, h3⟩ := okBy hc
          rw [e2, e3, okEnd hu]
          obtain ⟨⟨q1, rfl⟩, hn⟩ := okName h1
          obtain ⟨q2, rfl⟩ := okLabel h2
          obtain ⟨⟨q3, rfl⟩, hv⟩ := okWithin h3
          refine ⟨[Sh.lf [110, 101, 119], Sh.lf a.1, Sh.shLab b.1, Sh.lf (Lib.decDigits c.1)], ?_, ?_, ?_, ?_⟩
          · have hnum : Sh.shNum (c.1 : Int) 1 16 = some (Sh.lf (Lib.decDigits c.1)) := shNum_sh hv
            rw [smSh_mk, Sh.shS]; simp [shName_sh hn, hnum, none_sh, none_nil, sms_nil, Sh.fm]
          · exact alike_cons (alike_word _ _) (alike_cons (alike_word _ _) (alike_cons (alike_word _ _) (alike_cons (alike_word _ _) alike_nil)))
          · rw [smSh_mk, smW_mk, none_sh, none_w, sms_nil, ws_nil]; simp only [Nd.ms, msL, List.length_cons, List.length_nil]; omega
          · rw [smSh_mk, smOk_mk, none_sh, sms_nil, oks_nil]; exact ⟨none_ok, none_ok, trivial, trivial⟩
        · split at h
          · rename_i hk
            subst hk
            replace h := okBind h
            obtain ⟨a, ha, h⟩ := h
            replace h := okBind h
            obtain ⟨b, hb, h⟩ := h
            replace h := okBind h
            obtain ⟨c, hc, h⟩ := h
            replace h := okBind h
            obtain ⟨u, hu, h⟩ := h
            cases h
            obtain ⟨n1, rfl, h1⟩ := okBy ha
            obtain ⟨n2, e2, h2⟩ := okBy hb
            obtain ⟨n3, e3, h3⟩ := okBy hc
            rw [e2, e3, okEnd hu]
            obtain ⟨⟨q1, rfl⟩, hn⟩ := okName h1
            obtain ⟨y, y1, y2, y3, y4⟩ := rdE_all h2
            obtain ⟨z, z1, z2, z3, z4⟩ := rdE_all h3
            refine ⟨[Sh.lf [112, 117, 116], Sh.lf a.1, y, z], ?_, ?_, ?_, ?_⟩
            · rw [smSh_mk, Sh.shS]; simp [shName_sh hn, y1, z1, sms_nil, Sh.fm]
            · exact alike_cons (alike_word _ _) (alike_cons (alike_word _ _) (alike_cons y2 (alike_cons z2 alike_nil)))
            · rw [smSh_mk, smW_mk, sms_nil, ws_nil]; simp only [Nd.ms, msL, List.length_cons, List.length_nil]; omega
            · rw [smSh_mk, smOk_mk, sms_nil, oks_nil]; exact ⟨y4, z4, trivial, trivial⟩
          · split at h
            · rename_i hk
              subst hk
              cases r with
              | nil => cases h
              | cons n1 r1 =>
                replace h := okBind h
                obtain ⟨a, h1, h⟩ := h
                cases r1 with
                | nil => cases h
                | cons n2 r2 =>
                  replace h := okBind h
                  obtain ⟨b, h2, h⟩ := h
                  cases r2 with
                  | nil => cases h
                  | cons n3 r3 =>
                    replace h := okBind h
                    obtain ⟨c, h3, h⟩ := h
                    replace h := okBind h
                    obtain ⟨d, h4, h⟩ := h
                    cases h
                    obtain ⟨⟨q1, rfl⟩, hn⟩ := okName h1
                    obtain ⟨⟨q2, rfl⟩, hb⟩ := okWithin h2
                    obtain ⟨⟨q3, rfl⟩, hc⟩ := okWithin h3
                    obtain ⟨ys, y1, y2, y3, y4⟩ := rdSs_ok (rdSt_ok k) r3 d (by simp only [szL, Nd.sz] at hsr; omega) h4
                    refine ⟨Sh.lf [102, 111, 114] :: Sh.lf a :: Sh.lf (Lib.decDigits b) :: Sh.lf (Lib.decDigits c) :: ys, ?_, ?_, ?_, ?_⟩
                    · have hnb : Sh.shNum (b : Int) 0 64 = some (Sh.lf (Lib.decDigits b)) := shNum_sh hb
                      have hnc : Sh.shNum (c : Int) 0 64 = some (Sh.lf (Lib.decDigits c)) := shNum_sh hc
                      rw [smSh_mk, Sh.shS]; simp [shName_sh hn, hnb, hnc, y1, none_sh, none_nil, sms_nil, Sh.fm]
                    · exact alike_cons (alike_word _ _) (alike_cons (alike_word _ _) (alike_cons (alike_word _ _) (alike_cons (alike_word _ _) y2)))
                    · rw [smSh_mk, smW_mk, none_sh, none_w, sms_nil, ws_nil]; simp only [Nd.ms, msL, List.length_cons, List.length_nil]; omega
                    · rw [smSh_mk, smOk_mk, none_sh, sms_nil, oks_nil]; exact ⟨none_ok, none_ok, y4, trivial⟩
            · split at h
              · rename_i hk
                subst hk
                cases r with
                | nil => cases h
                | cons n1 r1 =>
                  replace h := okBind h
                  obtain ⟨e, h1, h⟩ := h
                  cases r1 with
                  | nil => cases h
                  | cons n2 r2 =>
                    replace h := okBind h
                    obtain ⟨a, h2, h⟩ := h
                    cases r2 with
                    | nil => cases h
                    | cons n3 r3 =>
                      replace h := okBind h
                      obtain ⟨b, h3, h⟩ := h
                      replace h := okBind h
                      obtain ⟨u, hu, h⟩ := h
                      cases h
                      obtain rfl := okEnd hu
                      simp only [szL] at hsr
                      obtain ⟨y, y1, y2, y3, y4⟩ := rdE_all h1
                      obtain ⟨ka, pa, rfl, ya, a1, a2, a3, a4⟩ := rdBlock_ok (rdSt_ok k) (by omega) h2
                      obtain ⟨kb, pb, rfl, yb, b1, b2, b3, b4⟩ := rdBlock_ok (rdSt_ok k) (by omega) h3
                      refine ⟨[Sh.lf [105, 102], y, Sh.ls ya, Sh.ls yb], ?_, ?_, ?_, ?_⟩
                      · rw [smSh_mk, Sh.shS]; simp [y1, a1, b1, none_sh, none_nil, Sh.fm]
                      · exact alike_cons (alike_word _ _) (alike_cons y2 (alike_cons (alike_list _ a2) (alike_cons (alike_list _ b2) alike_nil)))
                      · rw [smSh_mk, smW_mk, none_sh, none_w]; simp only [Nd.ms, msL, List.length_cons, List.length_nil]; omega
                      · rw [smSh_mk, smOk_mk, none_sh]; exact ⟨none_ok, y4, a4, b4⟩
              · cases h
theorem rdSt_all {p : Int} {ks : List Nd} {s : Sm} (h : rdSt p ks = .ok s) : SOk ks s := rdSt_ok _ p ks (Nat.le_refl _) s h

/- Parameters, functions, units. -/
theorem rdParam_ok {p : Int} {l : List Nd} {x : Pa} (h : rdParam p l = .ok x) : ∃ y, Sh.shP x.sh = some (Sh.ls y) ∧ alikeL l (ndBs y) = true := by
  rw [rdParam] at h
  replace h := okBind h
  obtain ⟨a, ha, h⟩ := h
  replace h := okBind h
  obtain ⟨b, hb, h⟩ := h
  obtain ⟨n1, rfl, h1⟩ := okBy ha
  obtain ⟨n2, e2, h2⟩ := okBy hb
  rw [e2]
  obtain ⟨⟨q1, rfl⟩, hn⟩ := okName h1
  obtain ⟨q2, rfl⟩ := okLabel h2
  obtain ⟨b1, b2⟩ := b
  cases b2 with
  | nil =>
    cases h
    refine ⟨[Sh.lf a.1, Sh.shLab b1], ?_, ?_⟩
    · simp [Sh.shP, Pa.sh, shName_sh hn]
    · exact alike_cons (alike_word _ _) (alike_cons (alike_word _ _) alike_nil)
  | cons n r =>
    replace h := okBind h
    obtain ⟨c, hc, h⟩ := h
    replace h := okBind h
    obtain ⟨u, hu, h⟩ := h
    cases h
    obtain rfl := okEnd hu
    obtain ⟨⟨q3, rfl⟩, hv⟩ := okWithin hc
    refine ⟨[Sh.lf a.1, Sh.shLab b1, Sh.lf (Lib.decDigits c)], ?_, ?_⟩
    · have hnum : Sh.shNum (c : Int) 1 16 = some (Sh.lf (Lib.decDigits c)) := shNum_sh hv
      have h0 : ¬ (c : Int) = 0 := by omega
      simp [Sh.shP, Pa.sh, shName_sh hn, hnum]
      omega
    · exact alike_cons (alike_word _ _) (alike_cons (alike_word _ _) (alike_cons (alike_word _ _) alike_nil))
theorem rdParams_ok : ∀ (l : List Nd) (i : Nat) (ps : List Pa), i ≤ 6 → rdParams i l = .ok ps → i + ps.length ≤ 6 ∧ ∃ ys, Sh.eachO Sh.shP (ps.map Pa.sh) = some ys ∧ alikeL l (ndBs ys) = true
  | [], i, ps, hi, h => by
    rw [rdParams] at h
    cases h
    exact ⟨hi, [], rfl, alike_nil⟩
  | n :: r, i, ps, hi, h => by
    rw [rdParams] at h
    split at h
    · cases h
    · replace h := okBind h
      obtain ⟨x, hx, h⟩ := h
      replace h := okBind h
      obtain ⟨a, ha, h⟩ := h
      replace h := okBind h
      obtain ⟨y, hy, h⟩ := h
      cases h
      obtain ⟨h1, ys, h2, h3⟩ := rdParams_ok r (i + 1) y (by omega) hy
      obtain ⟨z, z1, z2⟩ := rdParam_ok ha
      refine ⟨by simp; omega, Sh.ls z :: ys, ?_, ?_⟩
      · rw [List.map_cons, Sh.eachO, z1, h2]; rfl
      · rw [okEnter hx]; exact alike_cons (alike_list _ z2) h3
theorem rdBody_ok (p : Int) : ∀ (l : List Nd) (z : List Sm × Ex × List Nd), rdBody p l = .ok z → ∃ l1 ys r, l = l1 ++ z.2.2 ∧ Sh.shSs (smsSh z.1) = some ys ∧ Sh.shE z.2.1.sh = some r ∧ alikeL l1 (ndBs (ys ++ [Sh.fm [114, 101, 116] [r]])) = true ∧ Sh.smWs (smsSh z.1) ≤ msL l ∧ Sh.exW z.2.1.sh ≤ msL l ∧ Sh.smOks (smsSh z.1) ∧ Sh.exOk z.2.1.sh
  | [], z, h => by rw [rdBody] at h; cases h
  | n :: r, z, h => by
    rw [rdBody] at h
    replace h := okBind h
    obtain ⟨x, hx, h⟩ := h
    replace h := okBind h
    obtain ⟨y, hy, h⟩ := h
    replace h := okBind h
    obtain ⟨s, hs, h⟩ := h
    have en := okEnter hx
    have ey := okNext hy
    obtain ⟨q, eq⟩ := okText hs
    split at h
    · rename_i hr
      replace h := okBind h
      obtain ⟨e, he, h⟩ := h
      replace h := okBind h
      obtain ⟨u, hu, h⟩ := h
      cases h
      obtain ⟨n2, e2, h2⟩ := okBy he
      rw [okEnd hu] at e2
      obtain ⟨t, t1, t2, t3, t4⟩ := rdE_all h2
      have hn : n = .mk true [] [.mk false [114, 101, 116] [] q, n2] x.2 := by rw [en, ey, eq, e2, hr]
      refine ⟨[n], [], t, rfl, by rw [sms_nil, Sh.shSs], t1, ?_, ?_, ?_, ?_, t4⟩
      · rw [hn]
        exact alike_cons (alike_list _ (alike_cons (alike_word _ _) (alike_cons t2 alike_nil))) alike_nil
      · rw [sms_nil, ws_nil]; exact Nat.zero_le _
      · rw [hn]; simp only [msL, Nd.ms]; omega
      · rw [sms_nil, oks_nil]; trivial
    · replace h := okBind h
      obtain ⟨a, ha, h⟩ := h
      replace h := okBind h
      obtain ⟨b, hb, h⟩ := h
      cases h
      obtain ⟨l1, ys, t, rfl, h1, h2, h3, h4, h5, h6, h7⟩ := rdBody_ok p r b hb
      obtain ⟨t, t1, t2, t3, t4⟩ := rdSt_all ha
      refine ⟨n :: l1, Sh.ls t :: ys, _, rfl, by rw [smsSh, Sh.shSs, t1, h1]; rfl, h2, ?_, ?_, ?_, ?_, h7⟩
      · rw [en]; exact alike_cons (alike_list _ t2) h3
      · rw [smsSh, Sh.smWs, en]; simp only [msL, Nd.ms]; omega
      · simp only [msL]; omega
      · rw [smsSh, Sh.smOks]; exact ⟨t4, h6⟩
theorem rdFunc_ok {n : Nd} {f : Fu} (h : rdFunc n = .ok f) (hm : Nd.ms n ≤ 100000) : (∃ y, Sh.shF f.sh = some y ∧ Nd.alike n (ndB y) = true) ∧ Sh.FuFits f.sh := by
  rw [rdFunc] at h
  replace h := okBind h
  obtain ⟨x, hx, h⟩ := h
  replace h := okBind h
  obtain ⟨a, ha, h⟩ := h
  replace h := okBind h
  obtain ⟨b, hb, h⟩ := h
  replace h := okBind h
  obtain ⟨c, hc, h⟩ := h
  replace h := okBind h
  obtain ⟨ps, hps, h⟩ := h
  replace h := okBind h
  obtain ⟨d, hd, h⟩ := h
  replace h := okBind h
  obtain ⟨z, hz, h⟩ := h
  replace h := okBind h
  obtain ⟨u, hu, h⟩ := h
  cases h
  have en := okEnter hx
  obtain ⟨n1, e1, h1⟩ := okBy ha
  obtain ⟨n2, e2, h2⟩ := okBy hb
  obtain ⟨n3, e3, h3⟩ := okBy hc
  obtain ⟨n4, e4, h4⟩ := okBy hd
  obtain ⟨q1, rfl⟩ := okSkip h1
  obtain ⟨⟨q2, rfl⟩, hn⟩ := okName h2
  have e5 := okEnter h3
  obtain ⟨q4, rfl⟩ := okLabel h4
  obtain ⟨hl, ys, y1, y2⟩ := rdParams_ok _ 0 ps (by omega) hps
  obtain ⟨l1, zs, r, el, z1, z2, z3, z4, z5, z6, z7⟩ := rdBody_ok _ _ z hz
  rw [okEnd hu, List.append_nil] at el
  have hn' : n = .mk true [] (.mk false [102, 110] [] q1 :: .mk false b.1 [] q2 :: n3 :: .mk false (Sh.lab d.1) [] q4 :: l1) x.2 := by rw [en, e1, e2, e3, e4, el]
  have hms : msL d.2 ≤ 100000 := by rw [hn', ← el] at hm; simp only [Nd.ms, msL] at hm; omega
  refine ⟨⟨Sh.fm [102, 110] (Sh.lf b.1 :: Sh.ls ys :: Sh.shLab d.1 :: zs ++ [Sh.fm [114, 101, 116] [r]]), ?_, ?_⟩, ⟨by show Sh.smWs (smsSh z.1) ≤ 100000; omega, by show Sh.exW z.2.1.sh ≤ 1000000; omega, z6, z7⟩⟩
  · have hl' : ps.length ≤ 6 := by omega
    rw [Sh.shF]
    simp [Fu.sh, hl', shName_sh hn, y1, z1, z2]
  · rw [hn', e5]
    exact alike_list _ (alike_cons (alike_word _ _) (alike_cons (alike_word _ _) (alike_cons (alike_list _ y2) (alike_cons (alike_word _ _) z3))))
theorem rdFuncs_ok : ∀ (l : List Nd) (i : Nat) (fs : List Fu), i ≤ 16 → msL l ≤ 100000 → rdFuncs i l = .ok fs → i + fs.length ≤ 16 ∧ (∃ ys, Sh.eachO Sh.shF (fs.map Fu.sh) = some ys ∧ alikeL l (ndBs ys) = true) ∧ ∀ f ∈ fs.map Fu.sh, Sh.FuFits f
  | [], i, fs, hi, _, h => by
    rw [rdFuncs] at h
    cases h
    exact ⟨hi, ⟨[], rfl, alike_nil⟩, fun f hf => by cases hf⟩
  | n :: r, i, fs, hi, hm, h => by
    rw [rdFuncs] at h
    split at h
    · cases h
    · replace h := okBind h
      obtain ⟨a, ha, h⟩ := h
      replace h := okBind h
      obtain ⟨y, hy, h⟩ := h
      cases h
      simp only [msL] at hm
      obtain ⟨h1, ⟨ys, h2, h3⟩, h4⟩ := rdFuncs_ok r (i + 1) y (by omega) (by omega) hy
      obtain ⟨⟨z, z1, z2⟩, hf⟩ := rdFunc_ok ha (by omega)
      refine ⟨by simp; omega, ⟨z :: ys, ?_, alike_cons z2 h3⟩, fun f hm => ?_⟩
      · rw [List.map_cons, Sh.eachO, z1, h2]; rfl
      · rw [List.map_cons] at hm
        rcases List.mem_cons.1 hm with rfl | hm
        · exact hf
        · exact h4 f hm
theorem rdNames_ok : ∀ (l : List Nd) (i : Nat) (ns : List (List UInt8)), i ≤ 7 → rdNames i l = .ok ns → i + ns.length ≤ 7 ∧ ∃ ys, Sh.eachO Sh.shName ns = some ys ∧ alikeL l (ndBs ys) = true
  | [], i, ns, hi, h => by
    rw [rdNames] at h
    cases h
    exact ⟨hi, [], rfl, alike_nil⟩
  | n :: r, i, ns, hi, h => by
    rw [rdNames] at h
    split at h
    · cases h
    · replace h := okBind h
      obtain ⟨a, ha, h⟩ := h
      replace h := okBind h
      obtain ⟨y, hy, h⟩ := h
      cases h
      obtain ⟨h1, ys, h2, h3⟩ := rdNames_ok r (i + 1) y (by omega) hy
      obtain ⟨⟨q, rfl⟩, hn⟩ := okName ha
      refine ⟨by simp; omega, Sh.lf a :: ys, ?_, alike_cons (alike_word _ _) h3⟩
      rw [Sh.eachO, shName_sh hn, h2]; rfl
/-- What is read of nodes shows as these nodes, but for places. -/
theorem rdUnit_ok {l : List Nd} {u : Un} (h : rdUnit l = .ok u) (hm : msL l ≤ 100000) : (∃ m, Sh.shU u.sh = some m ∧ alikeL l (ndBs m) = true) ∧ ∀ f ∈ u.sh.funcs, Sh.FuFits f := by
  rw [rdUnit] at h
  replace h := okBind h
  obtain ⟨x, hx, h⟩ := h
  replace h := okBind h
  obtain ⟨a, ha, h⟩ := h
  replace h := okBind h
  obtain ⟨b, hb, h⟩ := h
  replace h := okBind h
  obtain ⟨v, hv, h⟩ := h
  obtain ⟨n0, e0, h0⟩ := okBy hx
  obtain ⟨n1, e1, h1⟩ := okBy ha
  obtain ⟨n2, e2, h2⟩ := okBy hb
  have en := okEnter h0
  obtain ⟨q1, rfl⟩ := okSkip h1
  obtain ⟨⟨q2, rfl⟩, hn⟩ := okName h2
  have hh : n0 = .mk true [] [.mk false [117, 110, 105, 116] [] q1, .mk false b.1 [] q2] x.1.2 := by rw [en, e1, e2, okEnd hv]
  have hal : Nd.alike n0 (ndB (Sh.fm [117, 110, 105, 116] [Sh.lf b.1])) = true := by rw [hh]; exact alike_list _ (alike_cons (alike_word _ _) (alike_cons (alike_word _ _) alike_nil))
  split at h
  · replace h := okBind h
    obtain ⟨i, hi, h⟩ := h
    replace h := okBind h
    obtain ⟨im, him, h⟩ := h
    replace h := okBind h
    obtain ⟨fs, hfs, h⟩ := h
    cases h
    obtain ⟨n3, e3, h3⟩ := okBy hi
    have en3 := okEnter h3
    rw [rdImports] at him
    replace him := okBind him
    obtain ⟨c, hc, him⟩ := him
    replace him := okBind him
    obtain ⟨d, hd, him⟩ := him
    replace him := okBind him
    obtain ⟨y, hy, him⟩ := him
    cases him
    obtain ⟨n4, e4, h4⟩ := okBy hc
    obtain ⟨n5, e5, h5⟩ := okBy hd
    obtain ⟨q4, rfl⟩ := okSkip h4
    obtain ⟨⟨q5, rfl⟩, hn5⟩ := okName h5
    obtain ⟨k1, ys, k2, k3⟩ := rdNames_ok _ 1 y (by omega) hy
    have hms : msL i.2 ≤ 100000 := by rw [e0, e3] at hm; simp only [msL] at hm; omega
    obtain ⟨f1, ⟨zs, f2, f3⟩, f4⟩ := rdFuncs_ok _ 0 fs (by omega) hms hfs
    refine ⟨⟨Sh.fm [117, 110, 105, 116] [Sh.lf b.1] :: Sh.fm [105, 109, 112, 111, 114, 116] (Sh.lf d.1 :: ys) :: zs, ?_, ?_⟩, f4⟩
    · have g1 : y.length + 1 ≤ 7 := by omega
      have g2 : fs.length ≤ 16 := by omega
      have g3 : Sh.eachO Sh.shName (d.1 :: y) = some (Sh.lf d.1 :: ys) := by rw [Sh.eachO, shName_sh hn5, k2]; rfl
      rw [Sh.shU]
      simp [Un.sh, g1, g2, shName_sh hn, g3, f2]
    · rw [e0, e3]
      refine alike_cons hal (alike_cons ?_ f3)
      rw [en3, e4, e5]
      exact alike_list _ (alike_cons (alike_word _ _) (alike_cons (alike_word _ _) k3))
  · replace h := okBind h
    obtain ⟨fs, hfs, h⟩ := h
    cases h
    have hms : msL x.2 ≤ 100000 := by rw [e0] at hm; simp only [msL] at hm; omega
    obtain ⟨f1, ⟨zs, f2, f3⟩, f4⟩ := rdFuncs_ok _ 0 fs (by omega) hms hfs
    refine ⟨⟨Sh.fm [117, 110, 105, 116] [Sh.lf b.1] :: zs, ?_, ?_⟩, f4⟩
    · have g2 : fs.length ≤ 16 := by omega
      rw [Sh.shU]
      simp [Un.sh, g2, shName_sh hn, Sh.eachO, f2]
    · rw [e0]; exact alike_cons hal f3
end Go.Proofs.YtpagbhgnkbbdjaaGreatDoor
