/- THE CONTRACT of the statement's own lies. -/
import Derived.Test.YtbedhghcdhbkmaaLiesM
import Derived.Test.YtbedhghcdhbkmaaSame
import Derived.WalkSmall
namespace Go.Proofs.Ytbedhghcdhbkmaa
open Go.ChangeShapes Go.WideShapes Go.ChangeAt Go.RowKit

/-- From place k on. -/
theorem Lie.cons_inv {s : ByteArray} {lo hi : Nat} {x : Nd} {l : List Nd} (h : Lie s lo (x :: l) hi) :
    (∃ p wd, x = .mk false wd [] (p : Nat) ∧ lo ≤ p ∧ wd ≠ [] ∧ p + wd.length ≤ s.size ∧ (s.data.toList.drop p).take wd.length = wd ∧ Lie s (p + 1) l hi) ∨
    (∃ p m ks, x = .mk true [] ks (p : Nat) ∧ lo ≤ p ∧ (∃ hp : p < s.size, s[p] = 40) ∧ Lie s (p + 1) ks m ∧ Lie s m l hi) := by
  cases h with
  | word _ p _ wd _ h0 hne hp hw hl => exact .inl ⟨p, wd, rfl, h0, hne, hp, hw, hl⟩
  | list _ p m _ ks _ h0 hp hx hk hl => exact .inr ⟨p, m, ks, rfl, h0, ⟨hp, hx⟩, hk, hl⟩
theorem Lie.nil_inv {s : ByteArray} {lo hi : Nat} (h : Lie s lo [] hi) : lo = hi := by cases h; rfl

theorem Lie.bound {s : ByteArray} {lo hi : Nat} {l : List Nd} (h : Lie s lo l hi) : lo ≤ s.size → hi ≤ s.size := by
  induction h with
  | nil => exact id
  | word lo p hi wd l h0 hne hp hw hl ih => intro _; have := List.length_pos_iff.2 hne; exact ih (by omega)
  | list lo p m hi ks l h0 hp hx hk hl ihk ihl => intro _; exact ihl (ihk (by omega))

set_option maxRecDepth 100000 in
set_option maxHeartbeats 6400000 in
theorem lies_any (s : ByteArray) (hs : s.size ≤ 20000) (n : Nat) : n ≤ 1000000000 → ∀ (l : List Nd) (S : Nat → Prop) (a : Option Addr) (c lo hi : Nat) (w : World), sizeL l ≤ n → Row S w a l → lo ≤ s.size → Lie s lo l hi →
    Calls Try.prog 19 #[.string s, .slice a l.length c, .int .i64 lo] w fun e w' => e = .returned (.int .i64 hi) ∧ Below w.heap.size w w' := by
  induction n using Nat.strongRecOn with
  | _ n ih =>
    intro hn9 l S a c lo hi w hn hra hlo hlie
    have hls := len_size l
    have hhi := hlie.bound hlo
    obtain ⟨B, hB⟩ : ∃ B, w.heap.size = B := ⟨_, rfl⟩
    have HB : Hid (w.heap.size = B) := hB
    have hra' : Row (fun b => b < B) w a l := hra.mono fun b _ hb => ⟨by omega, rfl⟩
    rw [hB]
    clear hB hra
    go_enter Try.func19, Try.ntmps19
    go_wp2_with fail
    go_loopw [2, 7] (fun f i wr => ∃ k q : Nat, k ≤ l.length ∧ i = .int .i64 k ∧ f = .int .i64 q ∧ q ≤ s.size ∧ Lie s q (l.drop k) hi ∧ Below B w wr ∧ B ≤ wr.heap.size) (fun _ i _ => l.length - (intOf i).toNat)
    case atStart => exact ⟨0, lo, Nat.zero_le _, rfl, rfl, hlo, hlie, Below.refl _ _, by rw [HB.out]; exact Nat.le_refl _⟩
    case round =>
      obtain ⟨k, q, hk, rfl, rfl, hq, hl, hbw, hBs⟩ := hrel
      by_cases hlt : k < l.length
      · obtain ⟨il, wd, ks, p, hx⟩ := nd_eta l[k]
        have hx' : l[k]? = some (.mk il wd ks p) := by rw [List.getElem?_eq_getElem hlt, hx]
        have hsz := size_at l k il wd ks p hx'
        obtain ⟨xb, xo, xa, xc, rfl, hxS, y0, y1, y2, y3, yr⟩ := (hra'.mono (T := fun b => b < B) (w' := wr) fun b hb _ => ⟨hb, hbw.block b hb⟩).at_ k il wd ks p hx'
        rw [List.drop_eq_getElem_cons hlt, hx] at hl
        have hk0 : (0 : Int) ≤ (k : Int) := by omega
        have hk1 : (k : Int) < (l.length : Int) := by omega
        clear hx hx'
        rcases hl.cons_inv with ⟨P, wd', he, h1, h2, h3, h4, h5⟩ | ⟨P, m, ks', he, h1, ⟨hp, h2⟩, h3, h4⟩
        · cases he
          have hwl := List.length_pos_iff.2 h2
          have hp1 : ¬ (P : Int) < (q : Int) := by omega
          have hp2 : ¬ (s.size : Int) ≤ (P : Int) := by omega
          have hbs : ((bs wd).size : Int) = (wd.length : Int) := by rw [bs_size]
          have hsub : IntKind.i64.wrap ((s.size : Int) - (P : Int)) = (s.size : Int) - (P : Int) := by rw [IntKind.wrap_i64]; omega
          have hadd : IntKind.i64.wrap ((P : Int) + (wd.length : Int)) = (P : Int) + (wd.length : Int) := by rw [IntKind.wrap_i64]; omega
          have hgt : decide ((s.size : Int) - (P : Int) < (wd.length : Int)) = false := by rw [decide_eq_false_iff_not]; omega
          have hgt' : ¬ (s.size : Int) - (P : Int) < (wd.length : Int) := by omega
          have hsl := slice_str s P wd.length h3
          have heq : ((s.extract P (P + wd.length)).toList == (bs wd).toList) = true := by rw [extract_bs, h4]; simp
          clear ih h4 hsz yr
          go_wp2_with fail
          go_quiet (fail)
          go_wp2_with fail
          go_roundw
          case rel => exact ⟨k + 1, P + 1, by omega, by go_num, by go_num, by omega, h5, below_drewN (hbw.alloc hBs _) _, by simp; omega⟩
          case measure => simp [intOf]; omega
        · cases he
          have hm := h3.bound (by omega)
          have hPm := h3.le
          have e40 : ((s[P].toNat : Int) != 40) = false := by rw [show (40 : Int) = ((40 : UInt8).toNat : Int) from rfl, bne, beq_byte, h2]; rfl
          have hp1 : ¬ (P : Int) < (q : Int) := by omega
          have hp2 : ¬ (s.size : Int) ≤ (P : Int) := by omega
          have hm0 : ¬ (m : Int) < 0 := by omega
          have hc := ih (sizeL ks) (by omega) (by omega) ks (fun b => b < B) xa xc (P + 1) m (wr.alloc (Obj.cells #[.bool true, .string (bs []), .slice xa ks.length xc, .int .i64 P] 37)) (Nat.le_refl _) (yr.mono fun b hb hlt' => ⟨hb, heap_alloc_old wr _ hlt'⟩) (by omega) h3
          rw [show ((P + 1 : Nat) : Int) = (P : Int) + 1 by omega] at hc
          have H2 : Hid (s[P] = 40) := h2
          clear h2 ih
          go_wp2_with (go_at_call 19; refine hc.mono ?_; rintro e w2 ⟨rfl, hb2⟩)
          have hbB : Below B w w2 := (hbw.alloc hBs _).trans (hb2.mono (by simp; omega))
          go_roundw
          case rel => exact ⟨k + 1, m, by omega, by go_num, rfl, hm, h4, hbB, by have := hb2.size; simp at this; omega⟩
          case measure => simp [intOf]; omega
      · rw [List.drop_of_length_le (by omega)] at hl
        have hqe := hl.nil_inv
        subst hqe
        go_wp2_with fail
        go_ret
        exact ⟨rfl, hbw⟩
end Go.Proofs.Ytbedhghcdhbkmaa
