/- Texts of this proof, put together: LAgain, LBackM, LBackE, LBackS, LBackU. -/
import Derived.Test.YtbpdhegfdmppgaaGreatDoorM21
import Derived.Test.YtbpdhegfdmppgaaGreatDoorM29

/- THE NODES OF WHAT IS READ are those that were read, but for places; and it is no more than they are. Plain Lean. -/
namespace Go.Proofs.YtbpdhegfdmppgaaGreatDoor

def EOk (n : Nd) (e : Ex) : Prop := ∃ y, Sh.shE e.sh = some y ∧ Nd.alike n (ndB y) = true ∧ Sh.exW e.sh ≤ Nd.ms n ∧ Sh.exOk e.sh
def EsOk (l : List Nd) (es : List Ex) : Prop := ∃ ys, Sh.shEs (exsSh es) = some ys ∧ alikeL l (ndBs ys) = true ∧ Sh.exWs (exsSh es) ≤ msL l ∧ Sh.exOks (exsSh es)
theorem EsOk.nil : EsOk [] [] := ⟨[], by rw [exsSh, Sh.shEs], alike_nil, by rw [exsSh, Sh.exWs]; exact Nat.zero_le _, by rw [exsSh, Sh.exOks]; trivial⟩
theorem EsOk.cons {n : Nd} {e : Ex} {l : List Nd} {es : List Ex} (h : EOk n e) (k : EsOk l es) : EsOk (n :: l) (e :: es) := by
  obtain ⟨y, h1, h2, h3, h4⟩ := h
  obtain ⟨ys, k1, k2, k3, k4⟩ := k
  refine ⟨y :: ys, by rw [exsSh, Sh.shEs, h1, k1]; rfl, alike_cons h2 k2, ?_, ?_⟩
  · rw [exsSh, Sh.exWs, msL]; omega
  · rw [exsSh, Sh.exOks]; exact ⟨h4, k4⟩

theorem rdN_zero (p : Int) (l : List Nd) : rdN p 0 l = .ok ([], l) := by rw [rdN]
theorem rdN_more (p : Int) (k : Nat) (n : Nd) (r : List Nd) : rdN p (k + 1) (n :: r) = (rdE n).bind fun e => (rdN p k r).bind fun x => .ok (e :: x.1, x.2) := by rw [rdN]
theorem rdArgs_none (i : Nat) : rdArgs i [] = .ok [] := by rw [rdArgs]
theorem rdArgs_more (i : Nat) (n : Nd) (r : List Nd) : rdArgs i (n :: r) = if 6 ≤ i then .bad 5 n.pos else (rdE n).bind fun e => (rdArgs (i + 1) r).bind fun x => .ok (e :: x) := by rw [rdArgs]
theorem exSh_mk (k : Int) (n : Nat) (o : Int) (m : List UInt8) (l : List Ex) : (Ex.mk k n o m l).sh = .mk k n o m (exsSh l) := by rw [Ex.sh]
theorem rdE_list (wd : List UInt8) (ks : List Nd) (p : Int) : rdE (.mk true wd ks p) = if !wd.isEmpty then .bad 6 p else rdParts p ks := by rw [rdE]
theorem rdE_word (wd : List UInt8) (ks : List Nd) (p : Int) : rdE (.mk false wd ks p) = if !ks.isEmpty then .bad 6 p else
    match num wd with
    | some v => .ok (.mk 1 v 0 [] [])
    | none => if isName wd then .ok (.mk 2 0 0 wd []) else .bad 6 p := by rw [rdE]; rfl
/- Statements. -/
def SOk (ks : List Nd) (s : Sm) : Prop := ∃ ys, Sh.shS s.sh = some (Sh.ls ys) ∧ alikeL ks (ndBs ys) = true ∧ Sh.smW s.sh ≤ msL ks ∧ Sh.smOk s.sh
def SsOk (l : List Nd) (b : List Sm) : Prop := ∃ ys, Sh.shSs (smsSh b) = some ys ∧ alikeL l (ndBs ys) = true ∧ Sh.smWs (smsSh b) ≤ msL l ∧ Sh.smOks (smsSh b)
theorem SsOk.nil : SsOk [] [] := ⟨[], by rw [smsSh, Sh.shSs], alike_nil, by rw [smsSh, Sh.smWs]; exact Nat.zero_le _, by rw [smsSh, Sh.smOks]; trivial⟩
theorem SsOk.cons {ks : List Nd} {p : Int} {s : Sm} {l : List Nd} {b : List Sm} (h : SOk ks s) (k : SsOk l b) : SsOk (.mk true [] ks p :: l) (s :: b) := by
  obtain ⟨y, h1, h2, h3, h4⟩ := h
  obtain ⟨ys, k1, k2, k3, k4⟩ := k
  refine ⟨Sh.ls y :: ys, by rw [smsSh, Sh.shSs, h1, k1]; rfl, alike_cons (alike_list p h2) k2, ?_, ?_⟩
  · rw [smsSh, Sh.smWs, msL, Nd.ms]; omega
  · rw [smsSh, Sh.smOks]; exact ⟨h4, k4⟩
theorem smSh_mk (k : Int) (m : List UInt8) (s : Bool) (len fr to : Int) (ix e : Ex) (b els : List Sm) : (Sm.mk k m s len fr to ix e b els).sh = .mk k m s len fr to ix.sh e.sh (smsSh b) (smsSh els) := by rw [Sm.sh]
theorem none_sh : Ex.none.sh = Sh.Ex.none := by rw [Ex.none, exSh_mk, exsSh]; rfl
theorem none_nil : Sh.Ex.none.isNil = true := rfl
theorem sms_nil : smsSh [] = [] := by rw [smsSh]
theorem smOk_mk (k : Int) (m : List UInt8) (s : Bool) (len fr to : Int) (ix e : Sh.Ex) (b els : List Sh.Sm) : Sh.smOk (.mk k m s len fr to ix e b els) = (Sh.exOk ix ∧ Sh.exOk e ∧ Sh.smOks b ∧ Sh.smOks els) := by rw [Sh.smOk]
theorem smW_mk (k : Int) (m : List UInt8) (s : Bool) (len fr to : Int) (ix e : Sh.Ex) (b els : List Sh.Sm) : Sh.smW (.mk k m s len fr to ix e b els) = 1 + m.length + Sh.exW ix + Sh.exW e + Sh.smWs b + Sh.smWs els := by rw [Sh.smW]

theorem rdSs_none : rdSs [] = .ok [] := by rw [rdSs]
theorem rdSs_more (n : Nd) (r : List Nd) : rdSs (n :: r) = (rdS n).bind fun s => (rdSs r).bind fun x => .ok (s :: x) := by rw [rdSs]
theorem rdS_mk (il : Bool) (wd : List UInt8) (ks : List Nd) (p : Int) : rdS (.mk il wd ks p) = if !il || !wd.isEmpty then .bad 6 p else rdSt p ks := by rw [rdS]
theorem rdBlock_mk (il : Bool) (wd : List UInt8) (ks : List Nd) (p : Int) : rdBlock (.mk il wd ks p) = if !il || !wd.isEmpty then .bad 6 p else rdSs ks := by rw [rdBlock]
/- Parameters, functions, units. -/
end Go.Proofs.YtbpdhegfdmppgaaGreatDoor

/- WHAT IS SHOWN IS READ AS IT WAS, wherever the nodes lie: numbers and expressions. Plain Lean. -/
namespace Go.Proofs.YtbpdhegfdmppgaaGreatDoor

/- Numbers. -/
theorem pm_app (M : Nat) : ∀ (l r : List UInt8) (acc a : Nat), Lib.parseUintM M acc l = .ok a → Lib.parseUintM M acc (l ++ r) = Lib.parseUintM M a r
  | [], r, acc, a, h => by
    simp only [Lib.parseUintM] at h
    injection h with h
    rw [h]; rfl
  | c :: l, r, acc, a, h => by
    simp only [Lib.parseUintM, List.cons_append] at h ⊢
    split at h
    · split at h
      · cases h
      · split at h
        · cases h
        · rename_i h1 h2 h3
          rw [if_pos h1, if_neg h2, if_neg h3]
          exact pm_app M l r _ a h
    · cases h
theorem digit_nat {u : Nat} (h : u < 10) : (UInt8.ofNat (48 + u)).toNat = 48 + u := by
  rw [UInt8.toNat_ofNat']
  omega
theorem pm_digits : ∀ (u : Nat), u ≤ 4294967295 → Lib.parseUintM 4294967295 0 (Lib.decDigits u) = .ok u := by
  intro u
  induction u using Nat.strongRecOn with
  | _ u ih =>
    intro hu
    by_cases h : u < 10
    · rw [Lib.decDigits, dif_pos h]
      have hd := digit_nat h
      simp only [Lib.parseUintM]
      rw [hd, if_pos (by omega), if_neg (by omega), if_neg (by omega)]
      congr 1
      omega
    · rw [Lib.decDigits, dif_neg h, pm_app _ _ _ _ _ (ih (u / 10) (by omega) (by omega))]
      have hd : (UInt8.ofNat (48 + u % 10)).toNat = 48 + u % 10 := digit_nat (by omega)
      simp only [Lib.parseUintM]
      rw [hd, if_pos (by omega), if_neg (by omega), if_neg (by omega)]
      congr 1
      omega
theorem dec_ne (u : Nat) : Lib.decDigits u ≠ [] := by
  rw [Lib.decDigits]
  split <;> simp
theorem dec_head : ∀ (u : Nat), 1 ≤ u → (Lib.decDigits u).head? ≠ some 48 := by
  intro u
  induction u using Nat.strongRecOn with
  | _ u ih =>
    intro hu
    by_cases h : u < 10
    · rw [Lib.decDigits, dif_pos h]
      simp only [List.head?_cons, ne_eq, Option.some.injEq]
      intro e
      have := congrArg UInt8.toNat e
      rw [digit_nat h] at this
      have h48 : (48 : UInt8).toNat = 48 := rfl
      omega
    · have e : (Lib.decDigits (u / 10) ++ [UInt8.ofNat (48 + u % 10)]).head? = (Lib.decDigits (u / 10)).head? := by
        cases hd : Lib.decDigits (u / 10) with
        | nil => exact absurd hd (dec_ne _)
        | cons c r => rfl
      rw [Lib.decDigits, dif_neg h, e]
      exact ih (u / 10) (by omega) (by omega)
theorem num_dec {u : Nat} (h : u ≤ 4294967295) : num (Lib.decDigits u) = some u := by
  unfold num
  have h0 : ¬ (1 < (Lib.decDigits u).length ∧ (Lib.decDigits u).head? = some 48) := by
    rintro ⟨h1, h2⟩
    by_cases hu : u < 10
    · rw [Lib.decDigits, dif_pos hu] at h1; simp at h1
    · exact dec_head u (by omega) h2
  have hp : Lib.parseUintB 32 (Lib.decDigits u) = .ok u := by rw [Lib.parseUintB, if_neg (dec_ne u)]; exact pm_digits u h
  rw [if_neg h0, hp]
theorem num_name {s : List UInt8} (h : isName s = true) : num s = none := by
  unfold num
  split
  · rfl
  · cases s with
    | nil => cases h
    | cons b r =>
      have hb : isLow b = true := by simp only [isName, Bool.and_eq_true] at h; exact h.1.2
      have hn : ¬ (48 ≤ b.toNat ∧ b.toNat ≤ 57) := by
        simp only [isLow, Bool.and_eq_true, decide_eq_true_eq, UInt8.le_iff_toNat_le] at hb
        have e : (97 : UInt8).toNat = 97 := rfl
        omega
      have hp : Lib.parseUintB 32 (b :: r) = .syntax := by rw [Lib.parseUintB, if_neg (by simp), Lib.parseUintM, if_neg hn]
      rw [hp]

/- Nodes that are like those that are shown. -/
theorem like_lf {s : List UInt8} {n : Nd} (h : Nd.alike (ndB (Sh.lf s)) n = true) : ∃ p, n = .mk false s [] p := by
  obtain ⟨il, wd, ks, p⟩ := n
  rw [ndB_lf] at h
  simp only [Nd.alike, Bool.and_eq_true, beq_iff_eq] at h
  obtain ⟨rfl, rfl, hk⟩ := h
  cases ks with
  | nil => exact ⟨p, rfl⟩
  | cons x l => simp [alikeL] at hk
theorem like_ls {l : List Sh.Nd} {n : Nd} (h : Nd.alike (ndB (Sh.ls l)) n = true) : ∃ ks p, n = .mk true [] ks p ∧ alikeL (ndBs l) ks = true := by
  obtain ⟨il, wd, ks, p⟩ := n
  rw [ndB_ls] at h
  simp only [Nd.alike, Bool.and_eq_true, beq_iff_eq] at h
  obtain ⟨rfl, rfl, hk⟩ := h
  exact ⟨ks, p, rfl, hk⟩
theorem like_cons {y : Sh.Nd} {m : List Sh.Nd} {ns : List Nd} (h : alikeL (ndBs (y :: m)) ns = true) : ∃ n r, ns = n :: r ∧ Nd.alike (ndB y) n = true ∧ alikeL (ndBs m) r = true := by
  rw [ndBs] at h
  cases ns with
  | nil => simp [alikeL] at h
  | cons n r =>
    simp only [alikeL, Bool.and_eq_true] at h
    exact ⟨n, r, rfl, h.1, h.2⟩
theorem like_nil {ns : List Nd} (h : alikeL (ndBs []) ns = true) : ns = [] := by
  rw [ndBs] at h
  cases ns with
  | nil => rfl
  | cons n r => simp [alikeL] at h
theorem like_app : ∀ {l m : List Sh.Nd} {ns : List Nd}, alikeL (ndBs (l ++ m)) ns = true → ∃ a b, ns = a ++ b ∧ alikeL (ndBs l) a = true ∧ alikeL (ndBs m) b = true
  | [], m, ns, h => ⟨[], ns, rfl, alike_nil, h⟩
  | y :: l, m, ns, h => by
    rw [List.cons_append] at h
    obtain ⟨n, r, rfl, h1, h2⟩ := like_cons h
    obtain ⟨a, b, rfl, h3, h4⟩ := like_app h2
    exact ⟨n :: a, b, rfl, by rw [ndBs, alikeL, h1, h3]; rfl, h4⟩
/-- Expressions, read one by one. -/
inductive Reads : List Nd → List Ex → Prop
  | nil : Reads [] []
  | cons {n : Nd} {e : Ex} {ns : List Nd} {es : List Ex} (h : rdE n = .ok e) (r : Reads ns es) : Reads (n :: ns) (e :: es)
theorem Reads.N {ns : List Nd} {es : List Ex} (h : Reads ns es) (p : Int) : rdN p es.length ns = .ok (es, []) := by
  induction h with
  | nil => exact rdN_zero p []
  | cons h r ih => rw [List.length_cons, rdN_more, h, Res.bind_ok, ih]; rfl
theorem Reads.args {ns : List Nd} {es : List Ex} (h : Reads ns es) : ∀ (i : Nat), i + es.length ≤ 6 → rdArgs i ns = .ok es := by
  induction h with
  | nil => intro i _; exact rdArgs_none i
  | cons h r ih =>
    intro i hi
    rw [List.length_cons] at hi
    rw [rdArgs_more, if_neg (by omega), h, Res.bind_ok, ih (i + 1) (by omega)]; rfl
theorem shName_ok {s : List UInt8} {y : Sh.Nd} (h : Sh.shName s = some y) : isName s = true ∧ y = Sh.lf s := by
  rw [Sh.shName, isName_sh] at h
  split at h
  · rename_i hn; cases h; exact ⟨hn, rfl⟩
  · cases h
theorem rdText_word (s : List UInt8) (p : Int) : rdText (.mk false s [] p) = .ok s := rfl
theorem rdName_word {s : List UInt8} (h : isName s = true) (p : Int) : rdNameOf (.mk false s [] p) = .ok s := by rw [rdNameOf, rdText_word, Res.bind_ok, if_pos h]
theorem rdFull_word {s : List UInt8} (h : isFull s = true) (p : Int) : rdFullOf (.mk false s [] p) = .ok s := by rw [rdFullOf, rdText_word, Res.bind_ok, if_pos h]
theorem op_sign {op : Int} (h : Sh.signT op ≠ []) : opOf (Sh.signT op) = op ∧ Sh.signT op ≠ [97, 116] ∧ Sh.signT op ≠ [115, 101, 108] ∧ Sh.signT op ≠ [99, 97, 108, 108] ∧ op ≠ 0 := by
  unfold Sh.signT at h ⊢
  repeat' split
  all_goals first | (subst_vars; exact ⟨rfl, by decide, by decide, by decide, by decide⟩) | (exfalso; simp_all; done)
end Go.Proofs.YtbpdhegfdmppgaaGreatDoor

/- WHAT IS SHOWN IS READ AS IT WAS: expressions and statements. Plain Lean. -/
namespace Go.Proofs.YtbpdhegfdmppgaaGreatDoor

mutual
theorem bkE : ∀ (e : Sh.Ex) (y : Sh.Nd), Sh.shE e = some y → Sh.exOk e → ∀ n, Nd.alike (ndB y) n = true → ∃ e', rdE n = .ok e' ∧ e'.sh = e
  | .mk kind m op name l, y, h, ho, n, ha => by
    rw [Sh.exOk] at ho
    rw [Sh.shE] at h
    split at h
    · rename_i hk
      split at h
      · rename_i hc
        obtain ⟨rfl, rfl, rfl⟩ := hc
        cases h
        obtain ⟨p, rfl⟩ := like_lf ha
        exact ⟨.mk 1 m 0 [] [], by rw [rdE_word, num_dec ho.1]; rfl, by rw [exSh_mk, exsSh, hk]⟩
      · cases h
    · split at h
      · rename_i hk
        split at h
        · rename_i hc
          obtain ⟨rfl, rfl, rfl⟩ := hc
          obtain ⟨hn, rfl⟩ := shName_ok h
          obtain ⟨p, rfl⟩ := like_lf ha
          exact ⟨.mk 2 0 0 name [], by rw [rdE_word, num_name hn]; simp [hn], by rw [exSh_mk, exsSh, hk]⟩
        · cases h
      · split at h
        · rename_i hk
          split at h
          · rename_i hc
            obtain ⟨rfl, rfl, hl⟩ := hc
            cases hs : Sh.shName name with
            | none => rw [hs] at h; cases h
            | some a =>
              cases hb : Sh.shEs l with
              | none => rw [hs, hb] at h; cases h
              | some b =>
                rw [hs, hb] at h
                cases h
                obtain ⟨hn, rfl⟩ := shName_ok hs
                obtain ⟨ks, p, rfl, ha1⟩ := like_ls ha
                obtain ⟨n0, r0, rfl, a0, ha2⟩ := like_cons ha1
                obtain ⟨n1, r1, rfl, a1, ha3⟩ := like_cons ha2
                obtain ⟨q0, rfl⟩ := like_lf a0
                obtain ⟨q1, rfl⟩ := like_lf a1
                obtain ⟨l', hr, hl'⟩ := bkEs l b hb ho.2 r1 ha3
                have hlen : l'.length = 1 := by rw [← exsSh_len, hl']; exact hl
                have hN := hr.N p
                rw [hlen] at hN
                refine ⟨.mk 3 0 0 name l', ?_, by rw [exSh_mk, hl', hk]⟩
                rw [rdE_list, if_neg (by simp), rdParts.eq_def]
                dsimp only
                rw [rdText_word, Res.bind_ok, if_pos rfl, rdName_word hn, Res.bind_ok, hN, Res.bind_ok]
                rfl
          · cases h
        · split at h
          · rename_i hk
            split at h
            · rename_i hc
              obtain ⟨hs, rfl, rfl, hl⟩ := hc
              cases hb : Sh.shEs l with
              | none => rw [hb] at h; cases h
              | some b =>
                rw [hb] at h
                cases h
                obtain ⟨ks, p, rfl, ha1⟩ := like_ls ha
                obtain ⟨n0, r0, rfl, a0, ha2⟩ := like_cons ha1
                obtain ⟨q0, rfl⟩ := like_lf a0
                obtain ⟨l', hr, hl'⟩ := bkEs l b hb ho.2 r0 ha2
                have hlen : l'.length = 2 := by rw [← exsSh_len, hl']; exact hl
                have hN := hr.N p
                rw [hlen] at hN
                obtain ⟨s1, s2, s3, s4, s5⟩ := op_sign hs
                refine ⟨.mk 4 0 op [] l', ?_, by rw [exSh_mk, hl', hk]⟩
                rw [rdE_list, if_neg (by simp), rdParts.eq_def]
                dsimp only
                rw [rdText_word, Res.bind_ok, if_neg s2, if_neg s3, if_neg s4, s1, if_neg s5, hN, Res.bind_ok]
                rfl
            · cases h
          · split at h
            · rename_i hk
              split at h
              · rename_i hc
                obtain ⟨rfl, rfl, rfl, hl⟩ := hc
                cases hb : Sh.shEs l with
                | none => rw [hb] at h; cases h
                | some b =>
                  rw [hb] at h
                  cases h
                  obtain ⟨ks, p, rfl, ha1⟩ := like_ls ha
                  obtain ⟨n0, r0, rfl, a0, ha2⟩ := like_cons ha1
                  obtain ⟨q0, rfl⟩ := like_lf a0
                  obtain ⟨l', hr, hl'⟩ := bkEs l b hb ho.2 r0 ha2
                  have hlen : l'.length = 3 := by rw [← exsSh_len, hl']; exact hl
                  have hN := hr.N p
                  rw [hlen] at hN
                  refine ⟨.mk 5 0 0 [] l', ?_, by rw [exSh_mk, hl', hk]⟩
                  rw [rdE_list, if_neg (by simp), rdParts.eq_def]
                  dsimp only
                  rw [rdText_word, Res.bind_ok, if_neg (by decide), if_pos rfl, hN, Res.bind_ok]
                  rfl
              · cases h
            · split at h
              · rename_i hk
                split at h
                · rename_i hc
                  obtain ⟨rfl, rfl, hf, hl⟩ := hc
                  cases hb : Sh.shEs l with
                  | none => rw [hb] at h; cases h
                  | some b =>
                    rw [hb] at h
                    cases h
                    obtain ⟨ks, p, rfl, ha1⟩ := like_ls ha
                    obtain ⟨n0, r0, rfl, a0, ha2⟩ := like_cons ha1
                    obtain ⟨n1, r1, rfl, a1, ha3⟩ := like_cons ha2
                    obtain ⟨q0, rfl⟩ := like_lf a0
                    obtain ⟨q1, rfl⟩ := like_lf a1
                    obtain ⟨l', hr, hl'⟩ := bkEs l b hb ho.2 r1 ha3
                    have hlen : l'.length ≤ 6 := by rw [← exsSh_len, hl']; exact hl
                    rw [isFull_sh] at hf
                    refine ⟨.mk 6 0 0 name l', ?_, by rw [exSh_mk, hl', hk]⟩
                    rw [rdE_list, if_neg (by simp), rdParts.eq_def]
                    dsimp only
                    rw [rdText_word, Res.bind_ok, if_neg (by decide), if_neg (by decide), if_pos rfl, rdFull_word hf, Res.bind_ok, hr.args 0 (by omega), Res.bind_ok]
                · cases h
              · cases h
theorem bkEs : ∀ (l : List Sh.Ex) (ys : List Sh.Nd), Sh.shEs l = some ys → Sh.exOks l → ∀ ns, alikeL (ndBs ys) ns = true → ∃ l', Reads ns l' ∧ exsSh l' = l
  | [], ys, h, _, ns, ha => by
    rw [Sh.shEs] at h
    cases h
    obtain rfl := like_nil ha
    exact ⟨[], .nil, by rw [exsSh]⟩
  | e :: l, ys, h, ho, ns, ha => by
    rw [Sh.exOks] at ho
    rw [Sh.shEs] at h
    cases hy : Sh.shE e with
    | none => rw [hy] at h; cases h
    | some y =>
      cases hb : Sh.shEs l with
      | none => rw [hy, hb] at h; cases h
      | some b =>
        rw [hy, hb] at h
        cases h
        obtain ⟨n, r, rfl, a0, ha1⟩ := like_cons ha
        obtain ⟨e', h1, h2⟩ := bkE e y hy ho.1 n a0
        obtain ⟨l', h3, h4⟩ := bkEs l b hb ho.2 r ha1
        exact ⟨e' :: l', .cons h1 h3, by rw [exsSh, h2, h4]⟩
end
end Go.Proofs.YtbpdhegfdmppgaaGreatDoor

/- WHAT IS SHOWN IS READ AS IT WAS: statements. Plain Lean. -/
namespace Go.Proofs.YtbpdhegfdmppgaaGreatDoor

theorem nil_none {x : Sh.Ex} (h : x.isNil = true) : x = Sh.Ex.none := by
  obtain ⟨k, n, o, m, l⟩ := x
  simp only [Sh.Ex.isNil, Bool.and_eq_true, decide_eq_true_eq, List.isEmpty_iff] at h
  obtain ⟨rfl, rfl, rfl, rfl, rfl⟩ := h
  rfl
theorem bind_some {α β : Type} {x : Option α} {f : α → Option β} {y : β} (h : x.bind f = some y) : ∃ a, x = some a ∧ f a = some y := by
  cases x with
  | none => cases h
  | some a => exact ⟨a, rfl, h⟩
theorem map_some {α β : Type} {x : Option α} {f : α → β} {y : β} (h : x.map f = some y) : ∃ a, x = some a ∧ f a = y := by
  cases x with
  | none => cases h
  | some a => exact ⟨a, rfl, by cases h; rfl⟩
theorem shNum_ok {z lo hi : Int} {y : Sh.Nd} (h : Sh.shNum z lo hi = some y) : lo ≤ z ∧ z ≤ hi ∧ y = Sh.lf (Lib.decDigits z.toNat) := by
  rw [Sh.shNum] at h
  split at h
  · rename_i hh; cases h; exact ⟨hh.1, hh.2, rfl⟩
  · cases h
theorem rdWithin_word {lo hi v : Nat} (h1 : lo ≤ v) (h2 : v ≤ hi) (h3 : v ≤ 4294967295) (p : Int) : rdWithinOf lo hi (.mk false (Lib.decDigits v) [] p) = .ok v := by
  rw [rdWithinOf, rdText_word, Res.bind_ok, num_dec h3]
  simp [h1, h2]
theorem rdLabel_word (b : Bool) (p : Int) : rdLabelOf (.mk false (Sh.lab b) [] p) = .ok b := by
  rw [rdLabelOf, rdText_word, Res.bind_ok]
  cases b <;> rfl
theorem rdBy_one {α : Type} {f : Nd → Res α} {p : Int} {n : Nd} {r : List Nd} {x : α} (h : f n = .ok x) : rdBy f p (n :: r) = .ok (x, r) := by
  show ((f n).bind fun y => Res.ok (y, r)) = _
  rw [h]; rfl
theorem toNat_sh {z : Int} (h : 0 ≤ z) : ((z.toNat : Nat) : Int) = z := Int.toNat_of_nonneg h
/-- Statements, read one by one; none begins with ret. -/
inductive ReadsS : List Nd → List Sm → Prop
  | nil : ReadsS [] []
  | cons {ks : List Nd} {p : Int} {s : Sm} {ns : List Nd} {ss : List Sm} (h : rdSt p ks = .ok s) (hw : ∃ t q r, ks = .mk false t [] q :: r ∧ t ≠ [114, 101, 116]) (r : ReadsS ns ss) : ReadsS (.mk true [] ks p :: ns) (s :: ss)
theorem ReadsS.ss {ns : List Nd} {ss : List Sm} (h : ReadsS ns ss) : rdSs ns = .ok ss := by
  induction h with
  | nil => exact rdSs_none
  | cons h _ r ih => rw [rdSs_more, rdS_mk, if_neg (by simp), h, Res.bind_ok, ih]; rfl
theorem ReadsS.block {ks : List Nd} {p : Int} {ss : List Sm} (h : ReadsS ks ss) : rdBlock (.mk true [] ks p) = .ok ss := by rw [rdBlock_mk, if_neg (by simp), h.ss]
mutual
theorem bkS : ∀ (s : Sh.Sm) (y : Sh.Nd), Sh.shS s = some y → Sh.smOk s → ∀ n, Nd.alike (ndB y) n = true → ∃ ks p s', n = .mk true [] ks p ∧ rdSt p ks = .ok s' ∧ s'.sh = s ∧ ∃ t q r, ks = .mk false t [] q :: r ∧ t ≠ [114, 101, 116]
  | .mk kind name sec len fr to ix e body els, y, h, ho, n, ha => by
    rw [smOk_mk] at ho
    rw [Sh.shS] at h
    split at h
    · rename_i hk
      replace h := bind_some h
      obtain ⟨a, h1, h⟩ := h
      replace h := bind_some h
      obtain ⟨b, h2, h⟩ := h
      split at h
      · rename_i hc
        obtain ⟨rfl, rfl, rfl, rfl, hi, rfl, rfl⟩ := hc
        cases h
        obtain ⟨hn, rfl⟩ := shName_ok h1
        obtain ⟨ks, p, rfl, ha1⟩ := like_ls ha
        obtain ⟨n0, r0, rfl, a0, ha2⟩ := like_cons ha1
        obtain ⟨n1, r1, rfl, a1, ha3⟩ := like_cons ha2
        obtain ⟨n2, r2, rfl, a2, ha4⟩ := like_cons ha3
        obtain rfl := like_nil ha4
        obtain ⟨q0, rfl⟩ := like_lf a0
        obtain ⟨q1, rfl⟩ := like_lf a1
        obtain ⟨e', h3, h4⟩ := bkE e b h2 ho.2.1 n2 a2
        refine ⟨_, p, .mk 1 name false 0 0 0 .none e' [] [], rfl, ?_, by rw [smSh_mk, none_sh, sms_nil, h4, hk, nil_none hi], _, _, _, rfl, by decide⟩
        rw [rdSt.eq_def]
        dsimp only
        rw [rdText_word, Res.bind_ok, if_pos rfl, rdBy_one (rdName_word hn q1), Res.bind_ok, rdBy_one h3, Res.bind_ok]
        rfl
      · cases h
    · split at h
      · rename_i hk
        replace h := bind_some h
        obtain ⟨a, h1, h⟩ := h
        replace h := bind_some h
        obtain ⟨b, h2, h⟩ := h
        split at h
        · rename_i hc
          obtain ⟨rfl, rfl, rfl, rfl, hi, rfl, rfl⟩ := hc
          cases h
          obtain ⟨hn, rfl⟩ := shName_ok h1
          obtain ⟨ks, p, rfl, ha1⟩ := like_ls ha
          obtain ⟨n0, r0, rfl, a0, ha2⟩ := like_cons ha1
          obtain ⟨n1, r1, rfl, a1, ha3⟩ := like_cons ha2
          obtain ⟨n2, r2, rfl, a2, ha4⟩ := like_cons ha3
          obtain rfl := like_nil ha4
          obtain ⟨q0, rfl⟩ := like_lf a0
          obtain ⟨q1, rfl⟩ := like_lf a1
          obtain ⟨e', h3, h4⟩ := bkE e b h2 ho.2.1 n2 a2
          refine ⟨_, p, .mk 3 name false 0 0 0 .none e' [] [], rfl, ?_, by rw [smSh_mk, none_sh, sms_nil, h4, hk, nil_none hi], _, _, _, rfl, by decide⟩
          rw [rdSt.eq_def]
          dsimp only
          rw [rdText_word, Res.bind_ok, if_neg (by decide), if_pos rfl, rdBy_one (rdName_word hn q1), Res.bind_ok, rdBy_one h3, Res.bind_ok]
          rfl
        · cases h
      · split at h
        · rename_i hk
          replace h := bind_some h
          obtain ⟨a, h1, h⟩ := h
          replace h := bind_some h
          obtain ⟨b, h2, h⟩ := h
          split at h
          · rename_i hc
            obtain ⟨rfl, rfl, hi, hi', rfl, rfl⟩ := hc
            cases h
            obtain ⟨hn, rfl⟩ := shName_ok h1
            obtain ⟨l1, l2, rfl⟩ := shNum_ok h2
            obtain ⟨ks, p, rfl, ha1⟩ := like_ls ha
            obtain ⟨n0, r0, rfl, a0, ha2⟩ := like_cons ha1
            obtain ⟨n1, r1, rfl, a1, ha3⟩ := like_cons ha2
            obtain ⟨n2, r2, rfl, a2, ha4⟩ := like_cons ha3
            obtain ⟨n3, r3, rfl, a3, ha5⟩ := like_cons ha4
            obtain rfl := like_nil ha5
            obtain ⟨q0, rfl⟩ := like_lf a0
            obtain ⟨q1, rfl⟩ := like_lf a1
            obtain ⟨q2, rfl⟩ := like_lf a2
            obtain ⟨q3, rfl⟩ := like_lf a3
            refine ⟨_, p, .mk 2 name sec len.toNat 0 0 .none .none [] [], rfl, ?_, by rw [smSh_mk, none_sh, sms_nil, hk, nil_none hi, nil_none hi', toNat_sh (by omega)], _, _, _, rfl, by decide⟩
            rw [rdSt.eq_def]
            dsimp only
            rw [rdText_word, Res.bind_ok, if_neg (by decide), if_neg (by decide), if_pos rfl, rdBy_one (rdName_word hn q1), Res.bind_ok, rdBy_one (rdLabel_word sec q2), Res.bind_ok, rdBy_one (rdWithin_word (by omega) (by omega) (by omega) q3), Res.bind_ok]
            rfl
          · cases h
        · split at h
          · rename_i hk
            replace h := bind_some h
            obtain ⟨a, h1, h⟩ := h
            replace h := bind_some h
            obtain ⟨b, h2, h⟩ := h
            replace h := bind_some h
            obtain ⟨c, h2', h⟩ := h
            split at h
            · rename_i hc
              obtain ⟨rfl, rfl, rfl, rfl, rfl, rfl⟩ := hc
              cases h
              obtain ⟨hn, rfl⟩ := shName_ok h1
              obtain ⟨ks, p, rfl, ha1⟩ := like_ls ha
              obtain ⟨n0, r0, rfl, a0, ha2⟩ := like_cons ha1
              obtain ⟨n1, r1, rfl, a1, ha3⟩ := like_cons ha2
              obtain ⟨n2, r2, rfl, a2, ha4⟩ := like_cons ha3
              obtain ⟨n3, r3, rfl, a3, ha5⟩ := like_cons ha4
              obtain rfl := like_nil ha5
              obtain ⟨q0, rfl⟩ := like_lf a0
              obtain ⟨q1, rfl⟩ := like_lf a1
              obtain ⟨x', h3, h4⟩ := bkE ix b h2 ho.1 n2 a2
              obtain ⟨e', h5, h6⟩ := bkE e c h2' ho.2.1 n3 a3
              refine ⟨_, p, .mk 4 name false 0 0 0 x' e' [] [], rfl, ?_, by rw [smSh_mk, sms_nil, h4, h6, hk], _, _, _, rfl, by decide⟩
              rw [rdSt.eq_def]
              dsimp only
              rw [rdText_word, Res.bind_ok, if_neg (by decide), if_neg (by decide), if_neg (by decide), if_pos rfl, rdBy_one (rdName_word hn q1), Res.bind_ok, rdBy_one h3, Res.bind_ok, rdBy_one h5, Res.bind_ok]
              rfl
            · cases h
          · split at h
            · rename_i hk
              replace h := bind_some h
              obtain ⟨a, h1, h⟩ := h
              replace h := bind_some h
              obtain ⟨b, h2, h⟩ := h
              replace h := bind_some h
              obtain ⟨c, h3, h⟩ := h
              replace h := bind_some h
              obtain ⟨d, h4, h⟩ := h
              split at h
              · rename_i hc
                obtain ⟨rfl, rfl, hi, hi', rfl⟩ := hc
                cases h
                obtain ⟨hn, rfl⟩ := shName_ok h1
                obtain ⟨l1, l2, rfl⟩ := shNum_ok h2
                obtain ⟨l3, l4, rfl⟩ := shNum_ok h3
                obtain ⟨ks, p, rfl, ha1⟩ := like_ls ha
                obtain ⟨n0, r0, rfl, a0, ha2⟩ := like_cons ha1
                obtain ⟨n1, r1, rfl, a1, ha3⟩ := like_cons ha2
                obtain ⟨n2, r2, rfl, a2, ha4⟩ := like_cons ha3
                obtain ⟨n3, r3, rfl, a3, ha5⟩ := like_cons ha4
                obtain ⟨q0, rfl⟩ := like_lf a0
                obtain ⟨q1, rfl⟩ := like_lf a1
                obtain ⟨q2, rfl⟩ := like_lf a2
                obtain ⟨q3, rfl⟩ := like_lf a3
                obtain ⟨l', h5, h6⟩ := bkSs body d h4 ho.2.2.1 r3 ha5
                refine ⟨_, p, .mk 5 name false 0 fr.toNat to.toNat .none .none l' [], rfl, ?_, by rw [smSh_mk, none_sh, sms_nil, h6, hk, nil_none hi, nil_none hi', toNat_sh (by omega), toNat_sh (by omega)], _, _, _, rfl, by decide⟩
                rw [rdSt.eq_def]
                dsimp only
                rw [rdText_word, Res.bind_ok, if_neg (by decide), if_neg (by decide), if_neg (by decide), if_neg (by decide), if_pos rfl, rdName_word hn q1, Res.bind_ok, rdWithin_word (by omega) (by omega) (by omega) q2, Res.bind_ok, rdWithin_word (by omega) (by omega) (by omega) q3, Res.bind_ok, h5.ss, Res.bind_ok]
              · cases h
            · split at h
              · rename_i hk
                replace h := bind_some h
                obtain ⟨a, h1, h⟩ := h
                replace h := bind_some h
                obtain ⟨b, h2, h⟩ := h
                replace h := bind_some h
                obtain ⟨c, h3, h⟩ := h
                split at h
                · rename_i hc
                  obtain ⟨rfl, rfl, rfl, rfl, rfl, hi⟩ := hc
                  cases h
                  obtain ⟨ks, p, rfl, ha1⟩ := like_ls ha
                  obtain ⟨n0, r0, rfl, a0, ha2⟩ := like_cons ha1
                  obtain ⟨n1, r1, rfl, a1, ha3⟩ := like_cons ha2
                  obtain ⟨n2, r2, rfl, a2, ha4⟩ := like_cons ha3
                  obtain ⟨n3, r3, rfl, a3, ha5⟩ := like_cons ha4
                  obtain rfl := like_nil ha5
                  obtain ⟨q0, rfl⟩ := like_lf a0
                  obtain ⟨e', h4, h5⟩ := bkE e a h1 ho.2.1 n1 a1
                  obtain ⟨k2, p2, rfl, b2⟩ := like_ls a2
                  obtain ⟨k3, p3, rfl, b3⟩ := like_ls a3
                  obtain ⟨l2, h6, h7⟩ := bkSs body b h2 ho.2.2.1 k2 b2
                  obtain ⟨l3, h8, h9⟩ := bkSs els c h3 ho.2.2.2 k3 b3
                  refine ⟨_, p, .mk 6 [] false 0 0 0 .none e' l2 l3, rfl, ?_, by rw [smSh_mk, none_sh, h5, h7, h9, hk, nil_none hi], _, _, _, rfl, by decide⟩
                  rw [rdSt.eq_def]
                  dsimp only
                  rw [rdText_word, Res.bind_ok, if_neg (by decide), if_neg (by decide), if_neg (by decide), if_neg (by decide), if_neg (by decide), if_pos rfl, h4, Res.bind_ok, h6.block, Res.bind_ok, h8.block, Res.bind_ok]
                  rfl
                · cases h
              · cases h
theorem bkSs : ∀ (l : List Sh.Sm) (ys : List Sh.Nd), Sh.shSs l = some ys → Sh.smOks l → ∀ ns, alikeL (ndBs ys) ns = true → ∃ l', ReadsS ns l' ∧ smsSh l' = l
  | [], ys, h, _, ns, ha => by
    rw [Sh.shSs] at h
    cases h
    obtain rfl := like_nil ha
    exact ⟨[], .nil, by rw [smsSh]⟩
  | s :: l, ys, h, ho, ns, ha => by
    rw [Sh.smOks] at ho
    rw [Sh.shSs] at h
    replace h := bind_some h
    obtain ⟨y, h1, h⟩ := h
    obtain ⟨b, h2, rfl⟩ := map_some h
    obtain ⟨n, r, rfl, a0, ha1⟩ := like_cons ha
    obtain ⟨ks, p, s', rfl, h3, h4, h5⟩ := bkS s y h1 ho.1 n a0
    obtain ⟨l', h6, h7⟩ := bkSs l b h2 ho.2 r ha1
    exact ⟨s' :: l', .cons h3 h5 h6, by rw [smsSh, h4, h7]⟩
end
end Go.Proofs.YtbpdhegfdmppgaaGreatDoor

/- WHAT IS SHOWN IS READ AS IT WAS: functions and units. Plain Lean. -/
namespace Go.Proofs.YtbpdhegfdmppgaaGreatDoor

theorem bkP {x : Sh.Pa} {y : Sh.Nd} (h : Sh.shP x = some y) {n : Nd} (ha : Nd.alike (ndB y) n = true) : ∃ ks p x', n = .mk true [] ks p ∧ rdParam p ks = .ok x' ∧ x'.sh = x := by
  obtain ⟨name, sec, len⟩ := x
  rw [Sh.shP] at h
  replace h := bind_some h
  obtain ⟨a, h1, h⟩ := h
  obtain ⟨hn, rfl⟩ := shName_ok h1
  split at h
  · rename_i hl
    cases h
    obtain ⟨ks, p, rfl, ha1⟩ := like_ls ha
    obtain ⟨n0, r0, rfl, a0, ha2⟩ := like_cons ha1
    obtain ⟨n1, r1, rfl, a1, ha3⟩ := like_cons ha2
    obtain rfl := like_nil ha3
    obtain ⟨q0, rfl⟩ := like_lf a0
    obtain ⟨q1, rfl⟩ := like_lf a1
    refine ⟨_, p, ⟨name, sec, 0⟩, rfl, ?_, ?_⟩
    · rw [rdParam, rdBy_one (rdName_word hn q0), Res.bind_ok, rdBy_one (rdLabel_word sec q1), Res.bind_ok]
    · have hl' : len = 0 := hl
      rw [hl']; rfl
  · obtain ⟨b, h2, rfl⟩ := map_some h
    obtain ⟨l1, l2, rfl⟩ := shNum_ok h2
    have g1 : (1 : Int) ≤ len := l1
    have g2 : len ≤ 16 := l2
    obtain ⟨ks, p, rfl, ha1⟩ := like_ls ha
    obtain ⟨n0, r0, rfl, a0, ha2⟩ := like_cons ha1
    obtain ⟨n1, r1, rfl, a1, ha3⟩ := like_cons ha2
    obtain ⟨n2, r2, rfl, a2, ha4⟩ := like_cons ha3
    obtain rfl := like_nil ha4
    obtain ⟨q0, rfl⟩ := like_lf a0
    obtain ⟨q1, rfl⟩ := like_lf a1
    obtain ⟨q2, rfl⟩ := like_lf a2
    refine ⟨_, p, ⟨name, sec, len.toNat⟩, rfl, ?_, ?_⟩
    · rw [rdParam, rdBy_one (rdName_word hn q0), Res.bind_ok, rdBy_one (rdLabel_word sec q1), Res.bind_ok]
      show ((rdWithinOf 1 16 (.mk false (Lib.decDigits len.toNat) [] q2)).bind _) = _
      rw [rdWithin_word (by omega) (by omega) (by omega) q2]
      rfl
    · show Sh.Pa.mk name sec ((len.toNat : Nat) : Int) = _
      rw [toNat_sh (by omega)]
theorem bkPs : ∀ (l : List Sh.Pa) (ys : List Sh.Nd), Sh.eachO Sh.shP l = some ys → ∀ (ns : List Nd) (i : Nat), alikeL (ndBs ys) ns = true → i + l.length ≤ 6 → ∃ l', rdParams i ns = .ok l' ∧ l'.map Pa.sh = l
  | [], ys, h, ns, i, ha, _ => by
    rw [Sh.eachO] at h
    cases h
    obtain rfl := like_nil ha
    exact ⟨[], by rw [rdParams], rfl⟩
  | x :: l, ys, h, ns, i, ha, hi => by
    rw [Sh.eachO] at h
    replace h := bind_some h
    obtain ⟨y, h1, h⟩ := h
    obtain ⟨b, h2, rfl⟩ := map_some h
    obtain ⟨n, r, rfl, a0, ha1⟩ := like_cons ha
    obtain ⟨ks, p, x', rfl, h3, h4⟩ := bkP h1 a0
    rw [List.length_cons] at hi
    obtain ⟨l', h5, h6⟩ := bkPs l b h2 r (i + 1) ha1 (by omega)
    refine ⟨x' :: l', ?_, by rw [List.map_cons, h4, h6]⟩
    rw [rdParams, if_neg (by omega)]
    show ((rdParam p ks).bind _) = _
    rw [h3, Res.bind_ok, h5, Res.bind_ok]
theorem body_back {ns : List Nd} {ss : List Sm} (h : ReadsS ns ss) (p q q' : Int) {ne : Nd} {e : Ex} (he : rdE ne = .ok e) : rdBody p (ns ++ [.mk true [] [.mk false [114, 101, 116] [] q, ne] q']) = .ok (ss, e, []) := by
  induction h with
  | nil =>
    rw [List.nil_append, rdBody]
    show ((rdBy rdE q' [ne]).bind _) = _
    rw [rdBy_one he, Res.bind_ok]
    rfl
  | cons h hw r ih =>
    obtain ⟨t, q1, r1, rfl, hne⟩ := hw
    rw [List.cons_append, rdBody]
    show (if t = [114, 101, 116] then _ else _) = _
    rw [if_neg hne, h, Res.bind_ok, ih, Res.bind_ok]
theorem enter_list (ks : List Nd) (p : Int) : rdEnter (.mk true [] ks p) = .ok (ks, p) := rfl
theorem bkF {f : Sh.Fu} {y : Sh.Nd} (h : Sh.shF f = some y) (ho : Sh.smOks f.body ∧ Sh.exOk f.result) {n : Nd} (ha : Nd.alike (ndB y) n = true) : ∃ f', rdFunc n = .ok f' ∧ f'.sh = f ∧ ∃ q r p, n = .mk true [] (.mk false [102, 110] [] q :: r) p := by
  obtain ⟨name, params, sec, body, result⟩ := f
  rw [Sh.shF] at h
  split at h
  · rename_i hl
    replace h := bind_some h
    obtain ⟨a, h1, h⟩ := h
    replace h := bind_some h
    obtain ⟨ps, h2, h⟩ := h
    replace h := bind_some h
    obtain ⟨b, h3, h⟩ := h
    obtain ⟨r, h4, rfl⟩ := map_some h
    obtain ⟨hn, rfl⟩ := shName_ok h1
    obtain ⟨ks, p, rfl, ha1⟩ := like_ls ha
    obtain ⟨n0, r0, rfl, a0, ha2⟩ := like_cons ha1
    obtain ⟨q0, rfl⟩ := like_lf a0
    obtain ⟨n1, r1, rfl, a1, ha3⟩ := like_cons (y := Sh.lf name) (m := Sh.ls ps :: Sh.shLab sec :: (b ++ [Sh.fm [114, 101, 116] [r]])) ha2
    obtain ⟨n2, r2, rfl, a2, ha4⟩ := like_cons ha3
    obtain ⟨n3, r3, rfl, a3, ha5⟩ := like_cons ha4
    obtain ⟨q1, rfl⟩ := like_lf a1
    obtain ⟨k2, p2, rfl, b2⟩ := like_ls a2
    obtain ⟨q3, rfl⟩ := like_lf a3
    obtain ⟨c1, c2, rfl, d1, d2⟩ := like_app ha5
    obtain ⟨n4, r4, rfl, a4, ha6⟩ := like_cons d2
    obtain rfl := like_nil ha6
    obtain ⟨k4, p4, rfl, b4⟩ := like_ls a4
    obtain ⟨n5, r5, rfl, a5, b5⟩ := like_cons b4
    obtain ⟨n6, r6, rfl, a6, b6⟩ := like_cons b5
    obtain rfl := like_nil b6
    obtain ⟨q5, rfl⟩ := like_lf a5
    obtain ⟨ps', g1, g2⟩ := bkPs params ps h2 k2 0 b2 (by have : params.length ≤ 6 := hl; omega)
    obtain ⟨ss, g3, g4⟩ := bkSs body b h3 ho.1 c1 d1
    obtain ⟨e', g5, g6⟩ := bkE result r h4 ho.2 n6 a6
    refine ⟨⟨name, ps', sec, ss, e'⟩, ?_, by rw [Fu.sh, g2, g4, g6], _, _, _, rfl⟩
    rw [rdFunc, enter_list, Res.bind_ok]
    dsimp only
    rw [rdBy_one (x := ()) rfl, Res.bind_ok, rdBy_one (rdName_word hn q1), Res.bind_ok, rdBy_one (x := (k2, p2)) rfl, Res.bind_ok, g1, Res.bind_ok, rdBy_one (rdLabel_word sec q3), Res.bind_ok, body_back g3 p q5 p4 g5, Res.bind_ok]
    rfl
  · cases h
theorem bkFs : ∀ (l : List Sh.Fu) (ys : List Sh.Nd), Sh.eachO Sh.shF l = some ys → (∀ f ∈ l, Sh.smOks f.body ∧ Sh.exOk f.result) → ∀ (ns : List Nd) (i : Nat), alikeL (ndBs ys) ns = true → i + l.length ≤ 16 → (∃ l', rdFuncs i ns = .ok l' ∧ l'.map Fu.sh = l) ∧ begins [105, 109, 112, 111, 114, 116] ns = false
  | [], ys, h, _, ns, i, ha, _ => by
    rw [Sh.eachO] at h
    cases h
    obtain rfl := like_nil ha
    exact ⟨⟨[], by rw [rdFuncs], rfl⟩, rfl⟩
  | x :: l, ys, h, ho, ns, i, ha, hi => by
    rw [Sh.eachO] at h
    replace h := bind_some h
    obtain ⟨y, h1, h⟩ := h
    obtain ⟨b, h2, rfl⟩ := map_some h
    obtain ⟨n, r, rfl, a0, ha1⟩ := like_cons ha
    obtain ⟨x', h3, h4, q, r1, p, hn⟩ := bkF h1 (ho x (by simp)) a0
    rw [List.length_cons] at hi
    obtain ⟨⟨l', h5, h6⟩, -⟩ := bkFs l b h2 (fun f hf => ho f (by simp [hf])) r (i + 1) ha1 (by omega)
    refine ⟨⟨x' :: l', ?_, by rw [List.map_cons, h4, h6]⟩, by rw [hn]; rfl⟩
    rw [rdFuncs, if_neg (by omega), h3, Res.bind_ok, h5, Res.bind_ok]
theorem bkNs : ∀ (l : List (List UInt8)) (ys : List Sh.Nd), Sh.eachO Sh.shName l = some ys → ∀ (ns : List Nd) (i : Nat), alikeL (ndBs ys) ns = true → i + l.length ≤ 7 → rdNames i ns = .ok l
  | [], ys, h, ns, i, ha, _ => by
    rw [Sh.eachO] at h
    cases h
    obtain rfl := like_nil ha
    rw [rdNames]
  | x :: l, ys, h, ns, i, ha, hi => by
    rw [Sh.eachO] at h
    replace h := bind_some h
    obtain ⟨y, h1, h⟩ := h
    obtain ⟨b, h2, rfl⟩ := map_some h
    obtain ⟨n, r, rfl, a0, ha1⟩ := like_cons ha
    obtain ⟨hn, rfl⟩ := shName_ok h1
    obtain ⟨q, rfl⟩ := like_lf a0
    rw [List.length_cons] at hi
    rw [rdNames, if_neg (by omega), rdName_word hn q, Res.bind_ok, bkNs l b h2 r (i + 1) ha1 (by omega), Res.bind_ok]
/-- Nodes that are like those that a unit shows are read as that unit. -/
theorem bkU {u : Sh.Un} {m : List Sh.Nd} (h : Sh.shU u = some m) (ho : ∀ f ∈ u.funcs, Sh.smOks f.body ∧ Sh.exOk f.result) {l : List Nd} (ha : alikeL (ndBs m) l = true) : ∃ u', rdUnit l = .ok u' ∧ u'.sh = u := by
  obtain ⟨name, imports, funcs⟩ := u
  rw [Sh.shU] at h
  split at h
  · rename_i hl
    obtain ⟨hl1, hl2⟩ : imports.length ≤ 7 ∧ funcs.length ≤ 16 := hl
    replace h := bind_some h
    obtain ⟨a, h1, h⟩ := h
    replace h := bind_some h
    obtain ⟨im, h2, h⟩ := h
    obtain ⟨fs, h3, rfl⟩ := map_some h
    obtain ⟨hn, rfl⟩ := shName_ok h1
    obtain ⟨c1, c2, rfl, d1, d2⟩ := like_app ha
    obtain ⟨n0, r0, rfl, a0, d3⟩ := like_cons d1
    obtain ⟨k0, p0, rfl, b0⟩ := like_ls a0
    obtain ⟨n1, r1, rfl, a1, b1⟩ := like_cons b0
    obtain ⟨n2, r2, rfl, a2, b2⟩ := like_cons b1
    obtain rfl := like_nil b2
    obtain ⟨q1, rfl⟩ := like_lf a1
    obtain ⟨q2, rfl⟩ := like_lf a2
    obtain ⟨⟨fs', g1, g2⟩, g3⟩ := bkFs funcs fs h3 ho c2 0 d2 (by omega)
    by_cases hi : imports = []
    · have hi' : (if (Sh.Un.mk name imports funcs).imports = [] then ([] : List Sh.Nd) else [Sh.fm [105, 109, 112, 111, 114, 116] im]) = [] := if_pos hi
      rw [hi'] at d3
      obtain rfl := like_nil d3
      subst hi
      refine ⟨⟨name, [], fs'⟩, ?_, by rw [Un.sh, g2]⟩
      show ((rdBy rdEnter 0 (.mk true [] [.mk false [117, 110, 105, 116] [] q1, .mk false name [] q2] p0 :: c2)).bind _) = _
      rw [rdBy_one (x := ([.mk false [117, 110, 105, 116] [] q1, .mk false name [] q2], p0)) rfl, Res.bind_ok]
      dsimp only
      rw [rdBy_one (x := ()) rfl, Res.bind_ok, rdBy_one (rdName_word hn q2), Res.bind_ok]
      show (if begins [105, 109, 112, 111, 114, 116] c2 = true then _ else _) = _
      rw [g3, if_neg (by decide), g1, Res.bind_ok]
    · have hi' : (if (Sh.Un.mk name imports funcs).imports = [] then ([] : List Sh.Nd) else [Sh.fm [105, 109, 112, 111, 114, 116] im]) = [Sh.fm [105, 109, 112, 111, 114, 116] im] := if_neg hi
      rw [hi'] at d3
      obtain ⟨n3, r3, rfl, a3, d4⟩ := like_cons d3
      obtain rfl := like_nil d4
      obtain ⟨k3, p3, rfl, b3⟩ := like_ls a3
      obtain ⟨n4, r4, rfl, a4, b4⟩ := like_cons b3
      obtain ⟨q4, rfl⟩ := like_lf a4
      cases imports with
      | nil => exact absurd rfl hi
      | cons i0 is =>
        have h2' : Sh.eachO Sh.shName (i0 :: is) = some im := h2
        rw [Sh.eachO] at h2'
        replace h2' := bind_some h2'
        obtain ⟨y, e1, e2⟩ := h2'
        obtain ⟨b, e3, rfl⟩ := map_some e2
        obtain ⟨n5, r5, rfl, a5, b5⟩ := like_cons b4
        obtain ⟨hn5, rfl⟩ := shName_ok e1
        obtain ⟨q5, rfl⟩ := like_lf a5
        rw [List.length_cons] at hl1
        have g4 := bkNs is b e3 r5 1 b5 (by omega)
        refine ⟨⟨name, i0 :: is, fs'⟩, ?_, by rw [Un.sh, g2]⟩
        show ((rdBy rdEnter 0 (.mk true [] [.mk false [117, 110, 105, 116] [] q1, .mk false name [] q2] p0 :: .mk true [] (.mk false [105, 109, 112, 111, 114, 116] [] q4 :: .mk false i0 [] q5 :: r5) p3 :: c2)).bind _) = _
        rw [rdBy_one (x := ([.mk false [117, 110, 105, 116] [] q1, .mk false name [] q2], p0)) rfl, Res.bind_ok]
        dsimp only
        rw [rdBy_one (x := ()) rfl, Res.bind_ok, rdBy_one (rdName_word hn q2), Res.bind_ok]
        dsimp only
        rw [show (rdEnd ([] : List Nd)) = .ok () from rfl, Res.bind_ok, if_pos (show begins [105, 109, 112, 111, 114, 116] (.mk true [] (.mk false [105, 109, 112, 111, 114, 116] [] q4 :: .mk false i0 [] q5 :: r5) p3 :: c2) = true from rfl), rdBy_one (x := ((.mk false [105, 109, 112, 111, 114, 116] [] q4 :: .mk false i0 [] q5 :: r5), p3)) rfl, Res.bind_ok]
        dsimp only
        rw [rdImports, rdBy_one (x := ()) rfl, Res.bind_ok, rdBy_one (rdName_word hn5 q5), Res.bind_ok, g4, Res.bind_ok, Res.bind_ok, g1, Res.bind_ok]
  · cases h
end Go.Proofs.YtbpdhegfdmppgaaGreatDoor
