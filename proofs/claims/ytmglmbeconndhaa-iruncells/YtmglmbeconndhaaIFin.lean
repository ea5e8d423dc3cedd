/- CONTRACTS of step and finish, by induction on what is left. -/
import Derived.Test.YtmglmbeconndhaaICallA
import Derived.Test.YtmglmbeconndhaaIDeed1B
import Derived.Test.YtmglmbeconndhaaICallB
import Derived.Test.YtmglmbeconndhaaICallC
import Derived.Test.YtmglmbeconndhaaICallD
namespace Go.Proofs.Ytmglmbeconndhaa
open Go.ChangeShapes Go.WideShapes Go.ChangeAt Go.RowKit

theorem set_bd {l : List Nat} {k r : Nat} (h : ∀ n ∈ l, n < 4294967296) (hr : r < 4294967296) : ∀ n ∈ l.set k r, n < 4294967296 := fun n hn => by
  rcases List.mem_or_eq_of_mem_set hn with h1 | h1
  · exact h n h1
  · omega
/-- A deed, by its number. -/
theorem deed_any {P : List Co} {g : Nat} (hfin : FinOk P g) (hgood : Good P) {R KM DM F G C deep : Nat} {fr : Fr} {st : St} {v : Value} (c : Co) (i : Nat) (x : Ir) (ga : Option Addr) (gc : Nat) (w : World) (hold : Old w R KM DM P) (h : FrM w R F G C fr) (hr : RnM w R KM DM deep st v) (ha : Apart F G C v) (hx : IrOk c i x)
    (hregs : (fr.regs.length : Int) = c.regs) (hcells : (fr.cells.length : Int) = c.cells) (hargs : kInt.row w (fun b => b < R) ga x.args) (hxn : x.n < 4294967296) (hnm : x.name.length ≤ 1000000000) (hag : x.args.length ≤ 1000000) (hdeep : deep ≤ 32) (hle : st.wrong = 0 → st.left < g) (hbr : st.br.length + 1 + st.left ≤ 60000) (n : Nat) (hn : x.kind = n) (h1n : 1 ≤ n) (hn10 : n ≤ 10) :
    Calls Try.prog (deedF n) #[.pointer (some ⟨F, 0, none⟩), irV x ga gc] w fun e w' => e = .returned (.tuple #[]) ∧ ∃ v', Did w w' R KM DM F G C deep v v' (doIr P (runF P g) deep x fr st).1 (doIr P (runF P g) deep x fr st).2 := by
  have hD : writesB x = true → ∃ d : Nat, x.d = d ∧ d < fr.regs.length := fun hw => ⟨x.d.toNat, by have := hx.writes hw; omega, by have := hx.writes hw; omega⟩
  have hR : ∀ r ∈ readsL x, ∃ a : Nat, r = a ∧ a < fr.regs.length := fun r hr => ⟨r.toNat, by have := hx.reads r hr; omega, by have := hx.reads r hr; omega⟩
  have hrb : ∀ {a : Nat} (ha : a < fr.regs.length), fr.regs[a] < 4294967296 := fun ha => h.regs _ (List.getElem_mem ha)
  have : n = 1 ∨ n = 2 ∨ n = 3 ∨ n = 4 ∨ n = 5 ∨ n = 6 ∨ n = 7 ∨ n = 8 ∨ n = 9 ∨ n = 10 := by omega
  rcases this with rfl | rfl | rfl | rfl | rfl | rfl | rfl | rfl | rfl | rfl
  · obtain ⟨d, hd, hdl⟩ := hD (by simp [writesB, hn])
    refine (number_any x ga gc w h d hd hdl).mono fun e w' hh => ⟨hh.1, v, ?_⟩
    rw [doIr_1 hn, hd, Int.toNat_natCast]
    exact Did.regs h hr ha hh.2 (by simp) (set_bd h.regs hxn)
  · obtain ⟨d, hd, hdl⟩ := hD (by simp [writesB, hn])
    obtain ⟨a, ea, hal⟩ := hR x.a (by simp [readsL, hn])
    refine (copied_any x ga gc w h d hd hdl a ea hal).mono fun e w' hh => ⟨hh.1, v, ?_⟩
    rw [doIr_2 hn, hd, Int.toNat_natCast, ea, at0_lt hal]
    exact Did.regs h hr ha hh.2 (by simp) (set_bd h.regs (hrb hal))
  · obtain ⟨d, hd, hdl⟩ := hD (by simp [writesB, hn])
    obtain ⟨a, ea, hal⟩ := hR x.a (by simp [readsL, hn])
    obtain ⟨b, eb, hbl⟩ := hR x.b (by simp [readsL, hn])
    have hz := opz_bd x.op fr.regs[a] fr.regs[b] (hrb hal) (hrb hbl)
    refine (reckon_any x ga gc w h d hd hdl a ea hal b eb hbl _ hz).mono fun e w' hh => ⟨hh.1, v, ?_⟩
    rw [doIr_3 hn, hd, Int.toNat_natCast, ea, at0_lt hal, eb, at0_lt hbl]
    exact Did.regs h hr ha hh.2 (by simp) (set_bd h.regs (opz_lt x.op _ _ (hrb hal) (hrb hbl)))
  · obtain ⟨d, hd, hdl⟩ := hD (by simp [writesB, hn])
    obtain ⟨a, ea, hal⟩ := hR x.a (by simp [readsL, hn])
    obtain ⟨b, eb, hbl⟩ := hR x.b (by simp [readsL, hn])
    obtain ⟨c', ec, hcl⟩ := hR x.c (by simp [readsL, hn])
    refine (pick_any x ga gc w h d hd hdl a ea hal b eb hbl c' ec hcl _ rfl).mono fun e w' hh => ⟨hh.1, v, ?_⟩
    rw [doIr_4 hn, hd, Int.toNat_natCast, ea, at0_lt hal, eb, at0_lt hbl, ec, at0_lt hcl]
    exact Did.regs h hr ha hh.2 (by simp) (set_bd h.regs (by split; exact hrb hcl; exact hrb hbl))
  · obtain ⟨d, hd, hdl⟩ := hD (by simp [writesB, hn])
    have hnl : x.n < fr.cells.length := by have := hx.addr (.inl hn); omega
    refine (load_any x ga gc w h d hd hdl hnl).mono fun e w' hh => ⟨hh.1, v, ?_⟩
    rw [doIr_5 hn, hd, Int.toNat_natCast, List.getD_eq_getElem?_getD, List.getElem?_eq_getElem hnl, Option.getD_some]
    exact Did.regs h hr ha hh.2 (by simp) (set_bd h.regs (h.cells _ (List.getElem_mem hnl)))
  · obtain ⟨a, ea, hal⟩ := hR x.a (by simp [readsL, hn])
    have hnl : x.n < fr.cells.length := by have := hx.addr (.inr hn); omega
    refine (store_any x ga gc w h a ea hal hnl).mono fun e w' hh => ⟨hh.1, v, ?_⟩
    rw [doIr_6 hn, ea, at0_lt hal]
    exact Did.cells h hr ha hh.2 (by simp) (set_bd h.cells (hrb hal))
  · obtain ⟨d, hd, hdl⟩ := hD (by simp [writesB, hn])
    have hin : ∀ i ∈ x.args, 0 ≤ i ∧ i < fr.regs.length := fun i hi => by
      have := hx.reads i (by simp [readsL, hn]; exact hi)
      omega
    rw [doIr_7 hn]
    cases hl : look P x.name with
    | none => rw [callR_none hl]; exact call_none hgood x ga gc w hold h hr ha hnm d hd hl
    | some c' =>
      have hc' : c' ∈ P := List.mem_of_find?_eq_some hl
      rw [callR_some hl]
      by_cases a1 : c'.ps.length = x.args.length
      · by_cases a2 : 0 < cellsN c'.ps
        · rw [if_pos (.inr a2)]; exact call_type2 hgood x ga gc w hold h hr ha hnm d hd c' hc' hl a1 a2
        · rw [if_neg (fun e => e.elim (fun e => e a1) a2)]
          by_cases a3 : deep = 32
          · rw [if_pos a3]; exact call_deep hgood x ga gc w hold h hr ha hnm d hd c' hc' hl a1 a2 a3
          · rw [if_neg a3, hd, Int.toNat_natCast]
            exact call_run hgood x ga gc w hold h hr ha hnm d hd c' hc' hl a1 a2 (by omega) hfin hle hdl hargs hin hag
      · rw [if_pos (.inl a1)]; exact call_type1 hgood x ga gc w hold h hr ha hnm d hd c' hc' hl a1
  · obtain ⟨q, hq⟩ : ∃ q : Nat, x.c = q := ⟨x.c.toNat, by have := hx.jump (.inl hn); omega⟩
    refine (jump_any x ga gc w h q hq).mono fun e w' hh => ⟨hh.1, v, ?_⟩
    rw [doIr_8 hn, hq, Int.toNat_natCast]
    exact Did.frame h hr ha hh.2 rfl rfl h.res
  · obtain ⟨q, hq⟩ : ∃ q : Nat, x.c = q := ⟨x.c.toNat, by have := hx.jump (.inr hn); omega⟩
    obtain ⟨a, ea, hal⟩ := hR x.a (by simp [readsL, hn])
    rw [doIr_9 hn, ea, at0_lt hal, hq, Int.toNat_natCast]
    by_cases hz : fr.regs[a] = 0
    · rw [if_pos hz]; exact branch_zero x ga gc w h hr ha hbr a ea hal q hq hz
    · rw [if_neg hz]; exact branch_one x ga gc w h hr ha hbr a ea hal q hq hz
  · obtain ⟨a, ea, hal⟩ := hR x.a (by simp [readsL, hn])
    refine (end_any x ga gc w h a ea hal).mono fun e w' hh => ⟨hh.1, v, ?_⟩
    rw [doIr_10 (fun n a b e => by omega), ea, at0_lt hal]
    exact Did.frame h hr ha hh.2 rfl rfl (hrb hal)
end Go.Proofs.Ytmglmbeconndhaa
