/- Texts of this proof, put together: LWeigh. -/
import Derived.Test.YtbpdhegfdmppgaaGreatDoorM30
import Derived.Test.YtbpdhegfdmppgaaGreatDoorM43

/- HOW MUCH THE NODES OF A UNIT ARE, that is not too heavy. Plain Lean. -/
namespace Go.Proofs.YtbpdhegfdmppgaaGreatDoor

theorem dec_len : ∀ (k u : Nat), u < 10 ^ (k + 1) → (Lib.decDigits u).length ≤ k + 1
  | 0, u, h => by rw [Lib.decDigits, dif_pos (by omega)]; simp
  | k + 1, u, h => by
    by_cases hu : u < 10
    · rw [Lib.decDigits, dif_pos hu]; simp
    · rw [Lib.decDigits, dif_neg hu, List.length_append, List.length_singleton]
      have := dec_len k (u / 10) (by rw [Nat.pow_succ] at h; omega)
      omega
theorem dec_ten {u : Nat} (h : u ≤ 4294967295) : (Lib.decDigits u).length ≤ 10 := dec_len 9 u (by omega)
theorem sign_len (op : Int) : (Sh.signT op).length ≤ 2 := by
  unfold Sh.signT
  repeat' split
  all_goals simp
theorem name_len {s : List UInt8} (h : isName s = true) : s.length ≤ 12 := by
  cases s with
  | nil => simp
  | cons b r =>
    simp only [isName, Bool.and_eq_true, decide_eq_true_eq] at h
    rw [List.length_cons]
    omega
theorem ms_lf (s : List UInt8) : Nd.ms (ndB (Sh.lf s)) = 1 + s.length := by rw [ndB_lf, Nd.ms, msL]; omega
theorem ms_ls (l : List Sh.Nd) : Nd.ms (ndB (Sh.ls l)) = 1 + msL (ndBs l) := by rw [ndB_ls, Nd.ms, List.length_nil]
theorem ms_cons (y : Sh.Nd) (l : List Sh.Nd) : msL (ndBs (y :: l)) = Nd.ms (ndB y) + msL (ndBs l) := by rw [ndBs, msL]
theorem ms_nil : msL (ndBs []) = 0 := by rw [ndBs, msL]
theorem ms_fm (s : List UInt8) (l : List Sh.Nd) : Nd.ms (ndB (Sh.fm s l)) = 2 + s.length + msL (ndBs l) := by rw [Sh.fm, ms_ls, ms_cons, ms_lf]; omega
theorem ms_lab (b : Bool) : Nd.ms (ndB (Sh.shLab b)) = 4 := by rw [Sh.shLab, ms_lf]; cases b <;> rfl
mutual
theorem shE_ms : ∀ (e : Sh.Ex) (y : Sh.Nd), Sh.shE e = some y → Sh.exOk e → Nd.ms (ndB y) ≤ 20 * Sh.exW e
  | .mk kind m op name l, y, h, ho => by
    rw [Sh.exOk] at ho
    rw [Sh.exW]
    rw [Sh.shE] at h
    split at h
    · split at h
      · cases h
        rw [ms_lf]
        have := dec_ten ho.1
        omega
      · cases h
    · split at h
      · split at h
        · obtain ⟨hn, rfl⟩ := shName_ok h
          rw [ms_lf]
          omega
        · cases h
      · split at h
        · split at h
          · replace h := bind_some h
            obtain ⟨a, h1, h⟩ := h
            obtain ⟨b, h2, rfl⟩ := map_some h
            obtain ⟨hn, rfl⟩ := shName_ok h1
            have := shEs_ms l b h2 ho.2
            rw [ms_fm, ms_cons, ms_lf]
            simp only [List.length_cons, List.length_nil]
            omega
          · cases h
        · split at h
          · split at h
            · obtain ⟨b, h2, rfl⟩ := map_some h
              have := shEs_ms l b h2 ho.2
              have := sign_len op
              rw [ms_fm]
              omega
            · cases h
          · split at h
            · split at h
              · obtain ⟨b, h2, rfl⟩ := map_some h
                have := shEs_ms l b h2 ho.2
                rw [ms_fm]
                simp only [List.length_cons, List.length_nil]
                omega
              · cases h
            · split at h
              · split at h
                · obtain ⟨b, h2, rfl⟩ := map_some h
                  have := shEs_ms l b h2 ho.2
                  rw [ms_fm, ms_cons, ms_lf]
                  simp only [List.length_cons, List.length_nil]
                  omega
                · cases h
              · cases h
theorem shEs_ms : ∀ (l : List Sh.Ex) (ys : List Sh.Nd), Sh.shEs l = some ys → Sh.exOks l → msL (ndBs ys) ≤ 20 * Sh.exWs l
  | [], ys, h, _ => by rw [Sh.shEs] at h; cases h; rw [ms_nil]; omega
  | e :: l, ys, h, ho => by
    rw [Sh.exOks] at ho
    rw [Sh.shEs] at h
    replace h := bind_some h
    obtain ⟨y, h1, h⟩ := h
    obtain ⟨b, h2, rfl⟩ := map_some h
    have := shE_ms e y h1 ho.1
    have := shEs_ms l b h2 ho.2
    rw [ms_cons, Sh.exWs]
    omega
end
theorem num_ms {z lo hi : Int} {y : Sh.Nd} (h : Sh.shNum z lo hi = some y) (hh : hi ≤ 64) : Nd.ms (ndB y) ≤ 11 := by
  obtain ⟨h1, h2, rfl⟩ := shNum_ok h
  rw [ms_lf]
  have := dec_ten (u := z.toNat) (by omega)
  omega
mutual
theorem shS_ms : ∀ (s : Sh.Sm) (y : Sh.Nd), Sh.shS s = some y → Sh.smOk s → Nd.ms (ndB y) ≤ 60 * Sh.smW s
  | .mk kind name sec len fr to ix e body els, y, h, ho => by
    rw [smOk_mk] at ho
    rw [smW_mk]
    rw [Sh.shS] at h
    split at h
    · replace h := bind_some h
      obtain ⟨a, h1, h⟩ := h
      replace h := bind_some h
      obtain ⟨b, h2, h⟩ := h
      split at h
      · cases h
        obtain ⟨hn, rfl⟩ := shName_ok h1
        have := shE_ms e b h2 ho.2.1
        rw [ms_fm, ms_cons, ms_lf, ms_cons, ms_nil]
        simp only [List.length_cons, List.length_nil]
        omega
      · cases h
    · split at h
      · replace h := bind_some h
        obtain ⟨a, h1, h⟩ := h
        replace h := bind_some h
        obtain ⟨b, h2, h⟩ := h
        split at h
        · cases h
          obtain ⟨hn, rfl⟩ := shName_ok h1
          have := shE_ms e b h2 ho.2.1
          rw [ms_fm, ms_cons, ms_lf, ms_cons, ms_nil]
          simp only [List.length_cons, List.length_nil]
          omega
        · cases h
      · split at h
        · replace h := bind_some h
          obtain ⟨a, h1, h⟩ := h
          replace h := bind_some h
          obtain ⟨b, h2, h⟩ := h
          split at h
          · cases h
            obtain ⟨hn, rfl⟩ := shName_ok h1
            have := num_ms h2 (by omega)
            rw [ms_fm, ms_cons, ms_lf, ms_cons, ms_lab, ms_cons, ms_nil]
            simp only [List.length_cons, List.length_nil]
            omega
          · cases h
        · split at h
          · replace h := bind_some h
            obtain ⟨a, h1, h⟩ := h
            replace h := bind_some h
            obtain ⟨b, h2, h⟩ := h
            replace h := bind_some h
            obtain ⟨c, h3, h⟩ := h
            split at h
            · cases h
              obtain ⟨hn, rfl⟩ := shName_ok h1
              have := shE_ms ix b h2 ho.1
              have := shE_ms e c h3 ho.2.1
              rw [ms_fm, ms_cons, ms_lf, ms_cons, ms_cons, ms_nil]
              simp only [List.length_cons, List.length_nil]
              omega
            · cases h
          · split at h
            · replace h := bind_some h
              obtain ⟨a, h1, h⟩ := h
              replace h := bind_some h
              obtain ⟨b, h2, h⟩ := h
              replace h := bind_some h
              obtain ⟨c, h3, h⟩ := h
              replace h := bind_some h
              obtain ⟨d, h4, h⟩ := h
              split at h
              · cases h
                obtain ⟨hn, rfl⟩ := shName_ok h1
                have := num_ms h2 (by omega)
                have := num_ms h3 (by omega)
                have := shSs_ms body d h4 ho.2.2.1
                rw [ms_fm, ms_cons, ms_lf, ms_cons, ms_cons]
                simp only [List.length_cons, List.length_nil]
                omega
              · cases h
            · split at h
              · replace h := bind_some h
                obtain ⟨a, h1, h⟩ := h
                replace h := bind_some h
                obtain ⟨b, h2, h⟩ := h
                replace h := bind_some h
                obtain ⟨c, h3, h⟩ := h
                split at h
                · cases h
                  have := shE_ms e a h1 ho.2.1
                  have := shSs_ms body b h2 ho.2.2.1
                  have := shSs_ms els c h3 ho.2.2.2
                  rw [ms_fm, ms_cons, ms_cons, ms_ls, ms_cons, ms_ls, ms_nil]
                  simp only [List.length_cons, List.length_nil]
                  omega
                · cases h
              · cases h
theorem shSs_ms : ∀ (l : List Sh.Sm) (ys : List Sh.Nd), Sh.shSs l = some ys → Sh.smOks l → msL (ndBs ys) ≤ 60 * Sh.smWs l
  | [], ys, h, _ => by rw [Sh.shSs] at h; cases h; rw [ms_nil]; omega
  | s :: l, ys, h, ho => by
    rw [Sh.smOks] at ho
    rw [Sh.shSs] at h
    replace h := bind_some h
    obtain ⟨y, h1, h⟩ := h
    obtain ⟨b, h2, rfl⟩ := map_some h
    have := shS_ms s y h1 ho.1
    have := shSs_ms l b h2 ho.2
    rw [ms_cons, Sh.smWs]
    omega
end
theorem shP_ms {x : Sh.Pa} {y : Sh.Nd} (h : Sh.shP x = some y) : Nd.ms (ndB y) ≤ 40 := by
  rw [Sh.shP] at h
  replace h := bind_some h
  obtain ⟨a, h1, h⟩ := h
  obtain ⟨hn, rfl⟩ := shName_ok h1
  have := name_len hn
  split at h
  · cases h
    rw [ms_ls, ms_cons, ms_lf, ms_cons, ms_lab, ms_nil]
    omega
  · obtain ⟨b, h2, rfl⟩ := map_some h
    have := num_ms h2 (by omega)
    rw [ms_ls, ms_cons, ms_lf, ms_cons, ms_lab, ms_cons, ms_nil]
    omega
theorem each_ms {α : Type} {f : α → Option Sh.Nd} {k : Nat} : ∀ (l : List α) (ys : List Sh.Nd), Sh.eachO f l = some ys → (∀ x ∈ l, ∀ y, f x = some y → Nd.ms (ndB y) ≤ k) → msL (ndBs ys) ≤ k * l.length
  | [], ys, h, _ => by rw [Sh.eachO] at h; cases h; rw [ms_nil]; omega
  | x :: l, ys, h, hk => by
    rw [Sh.eachO] at h
    replace h := bind_some h
    obtain ⟨y, h1, h⟩ := h
    obtain ⟨b, h2, rfl⟩ := map_some h
    have h3 := hk x (by simp) y h1
    have h4 := each_ms l b h2 fun z hz => hk z (by simp [hz])
    rw [ms_cons, List.length_cons, Nat.mul_succ]
    omega
theorem ms_app (l m : List Sh.Nd) : msL (ndBs (l ++ m)) = msL (ndBs l) + msL (ndBs m) := by rw [ndBs_app, msL_app]
theorem shF_ms {f : Sh.Fu} {y : Sh.Nd} (h : Sh.shF f = some y) (ho : Sh.smOks f.body ∧ Sh.exOk f.result) (hw : Sh.smWs f.body ≤ 3000 ∧ Sh.exW f.result ≤ 3000) : Nd.ms (ndB y) ≤ 300000 := by
  rw [Sh.shF] at h
  split at h
  · rename_i hl
    replace h := bind_some h
    obtain ⟨a, h1, h⟩ := h
    replace h := bind_some h
    obtain ⟨ps, h2, h⟩ := h
    replace h := bind_some h
    obtain ⟨b, h3, h⟩ := h
    obtain ⟨r, h4, rfl⟩ := map_some h
    obtain ⟨hn, rfl⟩ := shName_ok h1
    have := name_len hn
    have := each_ms (k := 40) f.params ps h2 fun x _ y hy => shP_ms hy
    have := shSs_ms f.body b h3 ho.1
    have := shE_ms f.result r h4 ho.2
    rw [ms_fm, List.cons_append, List.cons_append, List.cons_append, ms_cons, ms_lf, ms_cons, ms_ls, ms_cons, ms_lab, ms_app, ms_cons, ms_fm, ms_cons, ms_nil]
    simp only [List.length_cons, List.length_nil]
    omega
  · cases h
/-- The nodes of a unit that is light. -/
theorem shU_ms {u : Sh.Un} {m : List Sh.Nd} (h : Sh.shU u = some m) (ho : ∀ f ∈ u.funcs, Sh.smOks f.body ∧ Sh.exOk f.result) (hw : ∀ f ∈ u.funcs, Sh.smWs f.body ≤ 3000 ∧ Sh.exW f.result ≤ 3000) : msL (ndBs m) ≤ 10000000 := by
  rw [Sh.shU] at h
  split at h
  · rename_i hl
    replace h := bind_some h
    obtain ⟨a, h1, h⟩ := h
    replace h := bind_some h
    obtain ⟨im, h2, h⟩ := h
    obtain ⟨fs, h3, rfl⟩ := map_some h
    obtain ⟨hn, rfl⟩ := shName_ok h1
    have := name_len hn
    have := each_ms (k := 13) u.imports im h2 fun x _ y hy => by obtain ⟨hn, rfl⟩ := shName_ok hy; have := name_len hn; rw [ms_lf]; omega
    have := each_ms (k := 300000) u.funcs fs h3 fun x hx y hy => shF_ms hy (ho x hx) (hw x hx)
    rw [ms_app, ms_cons, ms_fm, ms_cons, ms_lf, ms_nil]
    split
    · rw [ms_nil]
      simp only [List.length_cons, List.length_nil]
      omega
    · rw [ms_cons, ms_fm, ms_nil]
      simp only [List.length_cons, List.length_nil]
      omega
  · cases h
mutual
theorem wt_ms : ∀ x : Nd, Nd.wt x ≤ 3 * Nd.ms x
  | .mk _ wd ks _ => by have := wtL_ms ks; simp only [Nd.wt, Nd.ms]; omega
theorem wtL_ms : ∀ l : List Nd, wtL l ≤ 3 * msL l
  | [] => by simp [wtL]
  | x :: l => by have := wt_ms x; have := wtL_ms l; simp only [wtL, msL]; omega
end
end Go.Proofs.YtbpdhegfdmppgaaGreatDoor
