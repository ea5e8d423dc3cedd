/- Texts of this proof, put together: LBridge. -/
import Derived.Test.YtbpdhegfdmppgaaGreatDoorM30
import Derived.Test.YtbpdhegfdmppgaaGreatDoorM36
import Derived.Test.YtbpdhegfdmppgaaGreatDoorM37

/- UNITS AND NODES IN MEMORY, as they are read and as they are shown: the same cells. -/
namespace Go.Proofs.YtbpdhegfdmppgaaGreatDoor
open Go.ChangeShapes Go.WideShapes Go.ChangeAt Go.RowKit

mutual
theorem exC_sh {w : World} {S : Nat → Prop} : ∀ {x : Ex} {cs : List Value}, exC w S cs x → Sh.exC w S cs x.sh
  | .mk kind n op name l, cs, h => by
    rw [exC] at h
    rw [exSh_mk, Sh.exC]
    obtain ⟨a, c, rfl, hc, hr⟩ := h
    exact ⟨a, c, by simp only [exsSh_len]; rfl, by rw [exsSh_len]; exact hc, exR_sh hr⟩
theorem exR_sh {w : World} {S : Nat → Prop} : ∀ {l : List Ex} {a : Option Addr}, exR w S a l → Sh.exR w S a (exsSh l)
  | [], _, _ => by rw [exsSh, Sh.exR]; trivial
  | x :: l, a, h => by
    rw [exR] at h
    rw [exsSh, Sh.exR]
    obtain ⟨b, o, cs, rfl, hS, hc, hC, hr⟩ := h
    exact ⟨b, o, cs, rfl, hS, hc, exC_sh hC, exR_sh hr⟩
end
mutual
theorem smC_sh {w : World} {S : Nat → Prop} : ∀ {x : Sm} {cs : List Value}, smC w S cs x → Sh.smC w S cs x.sh
  | .mk kind name sec len fr to (.mk k1 n1 o1 m1 l1) (.mk k2 n2 o2 m2 l2) body els, cs, h => by
    rw [smC_mk] at h
    rw [smSh_mk, exSh_mk, exSh_mk, Sh.smC_mk]
    obtain ⟨a1, c1, a2, c2, a3, c3, a4, c4, rfl, h1, h2, h3, h4, r1, r2, r3, r4⟩ := h
    exact ⟨a1, c1, a2, c2, a3, c3, a4, c4, by simp only [exsSh_len, smsSh_len]; rfl, by rw [exsSh_len]; exact h1, by rw [exsSh_len]; exact h2, by rw [smsSh_len]; exact h3, by rw [smsSh_len]; exact h4, exR_sh r1, exR_sh r2, smR_sh r3, smR_sh r4⟩
theorem smR_sh {w : World} {S : Nat → Prop} : ∀ {l : List Sm} {a : Option Addr}, smR w S a l → Sh.smR w S a (smsSh l)
  | [], _, _ => by rw [smsSh, Sh.smR]; trivial
  | x :: l, a, h => by
    rw [smR] at h
    rw [smsSh, Sh.smR]
    obtain ⟨b, o, cs, rfl, hS, hc, hC, hr⟩ := h
    exact ⟨b, o, cs, rfl, hS, hc, smC_sh hC, smR_sh hr⟩
end
theorem paR_sh {w : World} {S : Nat → Prop} : ∀ {l : List Pa} {a : Option Addr}, kPa.row w S a l → Sh.kPa.row w S a (l.map Pa.sh)
  | [], _, _ => trivial
  | x :: l, a, h => by
    obtain ⟨b, o, cs, rfl, hS, hc, hC, hr⟩ := h
    exact ⟨b, o, cs, rfl, hS, hc, hC, paR_sh hr⟩
theorem strR_sh {w : World} {S : Nat → Prop} : ∀ {l : List (List UInt8)} {a : Option Addr}, kStr.row w S a l → Sh.kStr.row w S a l
  | [], _, _ => trivial
  | x :: l, a, h => by
    obtain ⟨b, o, cs, rfl, hS, hc, hC, hr⟩ := h
    exact ⟨b, o, cs, rfl, hS, hc, hC, strR_sh hr⟩
theorem fuC_sh {w : World} {S : Nat → Prop} {x : Fu} {cs : List Value} (h : fuC w S cs x) : Sh.fuC w S cs x.sh := by
  obtain ⟨name, params, sec, body, k, n, o, m, l⟩ := x
  obtain ⟨a1, c1, a2, c2, a3, c3, rfl, h1, h2, h3, r1, r2, r3⟩ := h
  have e : (Fu.mk name params sec body (.mk k n o m l)).sh = ⟨name, params.map Pa.sh, sec, smsSh body, .mk k n o m (exsSh l)⟩ := by rw [Fu.sh, exSh_mk]
  rw [e]
  exact ⟨a1, c1, a2, c2, a3, c3, by simp only [exsSh_len, smsSh_len, List.length_map]; rfl, by rw [List.length_map]; exact h1, by rw [smsSh_len]; exact h2, by rw [exsSh_len]; exact h3, paR_sh r1, smR_sh r2, exR_sh r3⟩
theorem fuR_sh {w : World} {S : Nat → Prop} : ∀ {l : List Fu} {a : Option Addr}, kFu.row w S a l → Sh.kFu.row w S a (l.map Fu.sh)
  | [], _, _ => trivial
  | x :: l, a, h => by
    obtain ⟨b, o, cs, rfl, hS, hc, hC, hr⟩ := h
    exact ⟨b, o, cs, rfl, hS, hc, fuC_sh hC, fuR_sh hr⟩
/-- A unit that was read, as one to be shown. -/
theorem UnV.sh {B : Nat} {S : Nat → Prop} {w : World} {v : Value} {u : Un} (h : UnV w S v u) (hg : Sh.Glob B w) (hf : ∀ f ∈ u.sh.funcs, Sh.FuFits f) :
    ∃ a1 c1 a2 c2, v = .agg #[.string (Sh.bs u.sh.name), .slice a1 u.sh.imports.length c1, .slice a2 u.sh.funcs.length c2] ∧ Sh.UnOk B S w a1 u.sh.imports a2 u.sh.funcs := by
  obtain ⟨a1, c1, a2, c2, rfl, h1, h2, r1, r2⟩ := h
  refine ⟨a1, c1, a2, c2, ?_, ⟨hg, strR_sh r1, fuR_sh r2, hf⟩⟩
  have e : u.sh.funcs.length = u.funcs.length := by simp [Un.sh]
  rw [e]
  rfl
mutual
theorem ndC_back {w : World} {S : Nat → Prop} : ∀ {x : Sh.Nd} {cs : List Value}, Sh.ndC w S cs x → ∃ il wd ks p a c, x = .mk il wd ks p ∧ cs = [.bool il, .string (bs wd), .slice a ks.length c, .int .i64 p] ∧ ks.length ≤ c ∧ Row S w a (ndBs ks)
  | .mk il wd ks p, cs, h => by
    rw [Sh.ndC] at h
    obtain ⟨a, c, rfl, hc, hr⟩ := h
    exact ⟨il, wd, ks, p, a, c, rfl, rfl, hc, ndR_back hr⟩
theorem ndR_back {w : World} {S : Nat → Prop} : ∀ {l : List Sh.Nd} {a : Option Addr}, Sh.ndR w S a l → Row S w a (ndBs l)
  | [], _, _ => by rw [ndBs]; exact .nil _
  | x :: l, a, h => by
    rw [Sh.ndR] at h
    obtain ⟨b, o, cs, rfl, hS, hc, hC, hr⟩ := h
    obtain ⟨il, wd, ks, p, a', c, rfl, rfl, hk, hkr⟩ := ndC_back hC
    rw [ndBs, ndB]
    exact .cons b o il wd (ndBs ks) p (ndBs l) a' c (by rw [ndBs_len]; exact hk) hS (hc 0 _ rfl) (hc 1 _ rfl) (by rw [ndBs_len]; exact hc 2 _ rfl) (hc 3 _ rfl) hkr (ndR_back hr)
end
theorem rd_back {w : World} {S : Nat → Prop} {v : Value} {l : List Sh.Nd} (h : Sh.kNd.rd w S v l) : Rd S w v (ndBs l) := by
  obtain ⟨a, c, rfl, hr, hc⟩ := h
  exact ⟨a, c, by rw [ndBs_len], ndR_back ((Sh.ndR_row w S l a).2 hr), by rw [ndBs_len]; exact hc⟩
theorem Glob.raise {B B' : Nat} {w : World} (h : Glob B w) (h1 : B ≤ B') (h2 : B' ≤ w.heap.size) : Glob B' w := by
  obtain ⟨W, hs, hB, hB', hw⟩ := h
  exact ⟨W, hs, by omega, h2, hw⟩
end Go.Proofs.YtbpdhegfdmppgaaGreatDoor
