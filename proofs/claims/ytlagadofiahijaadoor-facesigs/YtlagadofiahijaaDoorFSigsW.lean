/- THE WALK of FaceSigs. -/
import Derived.Test.YtlagadofiahijaaDoorGRSigs
import Derived.Test.YtlagadofiahijaaDoorGRFind
import Derived.Test.YtlagadofiahijaaDoorFSame
import Derived.Test.YtlagadofiahijaaDoorFAwake
import Derived.Test.YtlagadofiahijaaDoorSLight
namespace Go.Proofs.YtlagadofiahijaaDoor
open Go.ChangeShapes Go.WideShapes Go.ChangeAt Go.RowKit Go.Shelf

theorem bl_drew {a b : World} (h : Below a.heap.size a b) : Below a.heap.size a b.drew := bl_then h ⟨rfl, rfl, rfl, Nat.le_refl _, fun _ _ => rfl⟩
theorem sigsL_ps {u : Sh.Un} (h : ∀ f ∈ u.funcs, f.params.length ≤ 3000) : ∀ x ∈ sigsL u, x.ps.length ≤ 1000000 := fun x hx => by
  obtain ⟨f, hf, rfl⟩ := List.mem_map.1 hx
  show (tysL f.params).length ≤ _
  rw [tysL_len]
  have := h f hf
  omega

abbrev sgO (x : Sg) (a : Option Addr) (c : Nat) : Obj := .cells #[.string (bs x.name), .slice a x.ps.length c, .bool x.sec] 33
theorem one_row {w : World} {g : Nat} {x : Sg} {a : Option Addr} {c : Nat} (h : w.heap[g]? = some (sgO x a c)) (hc : x.ps.length ≤ c) (hr : kTy.row w (fun _ => True) a x.ps) : kSg.row w (fun _ => True) (some ⟨g, 0, none⟩) [x] :=
  ⟨g, 0, [.string (bs x.name), .slice a x.ps.length c, .bool x.sec], rfl, trivial, fun j u hj => cells_of (cs := [.string (bs x.name), .slice a x.ps.length c, .bool x.sec]) (t := 33) (f := (0, 0)) (w := w) h j u hj, ⟨a, c, rfl, hc, hr⟩, trivial⟩
theorem found_ps {l : List Sg} (nm : List UInt8) (h : ∀ x ∈ l, x.ps.length ≤ 1000000) : ((findR l nm).getD noSg).ps.length ≤ 1000000 := by
  rcases hf : findR l nm with _ | y
  · exact Nat.zero_le _
  · exact h y (List.mem_of_find?_eq_some hf)
theorem ty_on {w : World} {S : Nat → Prop} {a : Option Addr} {l : List Ty} (o : Obj) (h : kTy.row w S a l) : kTy.row (w.alloc o) (fun _ => True) a l := kTy.row_mono (by decide) h fun b _ hlt => ⟨trivial, heap_alloc_old w o hlt⟩

set_option maxRecDepth 100000 in
set_option maxHeartbeats 4000000 in
theorem faceSigs_walk {B : Nat} {S : Nat → Prop} (w : World) (u : Sh.Un) (a1 : Option Addr) (c1 : Nat) (a2 : Option Addr) (c2 : Nat) (nm : List UInt8) (r1 : kStr.row w S a1 u.imports) (r2 : Sh.kFu.row w S a2 u.funcs) (hg : Glob B w) :
    Calls Tryd.prog 3 #[.agg #[.string (bs u.name), .slice a1 u.imports.length c1, .slice a2 u.funcs.length c2], .string (bs nm)] w fun e w' => e = .returned (.bool true) ∧ Below w.heap.size w w' := by
  have hb0 := bl_alloc (Below.refl w.heap.size w) (unO u.name a1 u.imports.length c1 a2 u.funcs.length c2)
  have hx0 := heap_alloc_new w (unO u.name a1 u.imports.length c1 a2 u.funcs.length c2)
  have ha := awake_any (w.alloc (unO u.name a1 u.imports.length c1 a2 u.funcs.length c2)) (hg.below hb0)
  have HX : Hid (∀ W, Below (w.alloc (unO u.name a1 u.imports.length c1 a2 u.funcs.length c2)).heap.size (w.alloc (unO u.name a1 u.imports.length c1 a2 u.funcs.length c2)) W → W.heap[w.heap.size]? = some (unO u.name a1 u.imports.length c1 a2 u.funcs.length c2)) := fun W hW => (hW.block _ (by simp)).trans hx0
  go_enter Tryd.func3, Tryd.ntmps3
  go_wp2_with (go_at_call 4; refine ha.mono ?_; rintro e w1 ⟨rfl, hb1'⟩; refine Hid.out ?_)
  refine Lib.hid ?_
  have hb1 := bl_then hb0 hb1'
  obtain ⟨k0, k1, k2, _, _, _⟩ := cells3 (HX.out w1 hb1')
  have R1 : ∀ W, Below w.heap.size w W → kStr.row W S a1 u.imports := fun W hW => kStr.row_mono (by decide) r1 fun b hb hlt => ⟨hb, hW.block b hlt⟩
  have R2 : ∀ W, Below w.heap.size w W → Sh.kFu.row W S a2 u.funcs := fun W hW => Sh.kFu.row_mono (by show 0 < 9; omega) r2 fun b hb hlt => ⟨hb, hW.block b hlt⟩
  have hli := Sh.light_any w1 u.name u.imports u.funcs a1 c1 a2 c2 (R1 w1 hb1) (R2 w1 hb1)
  have HR2 : Hid _ := R2
  clear ha r1 r2 R1 R2
  go_wp2_with (go_at_call 5; refine hli.mono ?_; rintro e w2 ⟨hb2, b, rfl, hlo⟩; refine Hid.out ?_)
  refine Lib.hid ?_
  have hb12 := bl_then hb1 hb2
  have hb12' := bl_then hb1' hb2
  obtain ⟨l0, l1, l2, _, _, _⟩ := cells3 (HX.out w2 hb12')
  clear hli hb1 hb2 hb1' k0 k1 k2
  rcases b with _ | _
  · go_wp2_with fail
    go_ret
    exact ⟨rfl, hb12⟩
  · obtain ⟨hok, hfl, hul⟩ := hlo rfl
    by_cases hn : 1000 < nm.length
    · have hn' : (1000 : Int) < ((bs nm).size : Int) := by rw [bs_size]; omega
      go_wp2_with fail
      go_ret
      exact ⟨rfl, hb12⟩
    · have hn' : ¬ (1000 : Int) < ((bs nm).size : Int) := by rw [bs_size]; omega
      have hP : ∀ f ∈ u.funcs, f.params.length ≤ 1000000 ∧ f.name.length ≤ 1000000 := fun f hf => by have := hok f hf; obtain ⟨_, _, h3, h4⟩ := this; exact ⟨by omega, by omega⟩
      have hps := sigsL_ps (u := u) fun f hf => (hok f hf).2.2.1
      have hll : (sigsL u).length ≤ 1000000000 := by rw [sigsL_len]; omega
      have hs1 := sigs_any w2 u a1 c1 a2 c2 (HR2.out w2 hb12) (by omega) hP (by omega)
      have HOK : Hid _ := hok
      have HPP : Hid _ := hP
      clear hok hP hlo
      go_wp2_with (first
        | (go_at_call 6; refine hs1.mono ?_; rintro e w3 ⟨⟨v3, rfl, ya, yc, rfl, hr3, hc3⟩, hb3⟩; have hb13 := bl_then hb12 hb3; obtain ⟨m0, m1, m2, _, _, _⟩ := cells3 (HX.out w3 (bl_then hb12' hb3)); have hs2 := refSigs_any w3 u a1 c1 a2 c2 (HR2.out w3 hb13) (by omega) HPP.out (by omega))
        | (go_at_call 7; refine hs2.mono ?_; rintro e w4 ⟨⟨v4, rfl, za, zc, rfl, hr4, hc4⟩, hb4⟩; have hb14 := bl_then hb13 hb4; have hr3' := kSg.row_mono (w := w3) (w' := w4) (by decide) hr3 (fun b hb hlt => ⟨hb, hb4.block b hlt⟩); have hs3 := same_refl w4 ya za (sigsL u) yc zc hr3' hr4 (by omega) (fun x hx => by have := hps x hx; omega))
        | (go_at_call 8; refine hs3.mono ?_; rintro e w5 ⟨rfl, hb5⟩; have hb15 := bl_then hb14 hb5; have hfd := find_any w5 ya (sigsL u) yc nm (kSg.row_mono (by decide) hr3' fun b hb hlt => ⟨hb, hb5.block b hlt⟩) hll hps)
        | (go_at_call 9; refine hfd.mono ?_; rintro e w6 ⟨⟨v6, rfl, xa, xc, rfl, hxc, hxr⟩, hb6⟩; refine Hid.out ?_))
      refine Lib.hid ?_
      have hxp := found_ps nm hps
      have hb16 := bl_then hb15 hb6
      have hr4' : kSg.row w6 (fun b => w3.heap.size ≤ b) za (sigsL u) := kSg.row_mono (by decide) hr4 fun b hb hlt => ⟨hb, (hb6.block b (by have := hb5.size; omega)).trans (hb5.block b hlt)⟩
      have hfr := fun o => refFind_any (w6.alloc o) za (sigsL u) zc nm (kSg.row_mono (S := fun b => w3.heap.size ≤ b) (T := fun b => w3.heap.size ≤ b) (by decide) hr4' fun b hb hlt => ⟨hb, heap_alloc_old w6 o hlt⟩) hll
      generalize (findR (sigsL u) nm).getD noSg = x at hxc hxr hfr hxp ⊢
      generalize (findR (sigsL u) nm).isSome = is at hfr ⊢
      have hfr0 := hfr (sgO x xa xc)
      have HXR : Hid _ := hxr
      have HB6 : Hid _ := hb16
      clear hfr hs1 hs2 hs3 hfd hb3 hb4 hb5 hb6 hb13 hb14 hb15 hb16 hb12 hb12' hr3 hr3' hr4 hr4' l0 l1 l2 m0 m1 m2 hxr
      go_upto_region 10 with (go_at_call 10; refine hfr0.mono ?_; rintro e w7 ⟨⟨v7, rfl, qa, qc, rfl, hqc, hqr⟩, hb7⟩)
      have hz7 : w6.heap.size < w7.heap.size := by have := hb7.size; simp at this; omega
      have hx7 : w7.heap[w6.heap.size]? = some (sgO x xa xc) := (hb7.block _ (by simp)).trans (heap_alloc_new w6 _)
      have hx8 := (heap_alloc_old w7 (sgO x qa qc) hz7).trans hx7
      have hy8 := heap_alloc_new w7 (sgO x qa qc)
      have hrx : kTy.row (w7.alloc (sgO x qa qc)) (fun _ => True) xa x.ps := kTy.row_mono (by decide) HXR.out fun b _ hlt => ⟨trivial, (heap_alloc_old w7 _ (by omega)).trans ((hb7.block b (by simp; omega)).trans (heap_alloc_old w6 _ hlt))⟩
      have hry := ty_on (sgO x qa qc) hqr
      have hb8 : Below w.heap.size w (w7.alloc (sgO x qa qc)) := bl_alloc (bl_then (bl_alloc HB6.out _) hb7) _
      clear hb7 hx7 hqr hfr0
      generalize w7.alloc (sgO x qa qc) = w8 at hx8 hy8 hrx hry hb8 ⊢
      obtain ⟨k0, k1, k2, _, _, _⟩ := cells3 hx8
      obtain ⟨l0, l1, l2, _, _, _⟩ := cells3 hy8
      have n0 := fun o => alloc_cell o l0
      have n1 := fun o => alloc_cell o l1
      have n2 := fun o => alloc_cell o l2
      have hsm := same_refl ((w8.alloc (sgO x xa xc)).alloc (sgO x qa qc)) (some ⟨w8.heap.size, 0, none⟩) (some ⟨w8.heap.size + 1, 0, none⟩) [x] 1 1
        (one_row ((heap_alloc_old (w8.alloc (sgO x xa xc)) (sgO x qa qc) (by simp)).trans (heap_alloc_new w8 _)) hxc (ty_on _ (ty_on _ hrx)))
        (one_row (by have h := heap_alloc_new (w8.alloc (sgO x xa xc)) (sgO x qa qc); simpa using h) hqc (ty_on _ (ty_on _ hry))) (by simp) (by intro y hy; rw [List.mem_singleton.1 hy]; omega)
      have HB8 : Hid _ := hb8
      clear hx8 hy8 hrx hry hb8
      go_wp2_with (go_at_call 8; refine hsm.mono ?_; rintro e w9 ⟨rfl, hb9⟩)
      go_ret
      exact ⟨by simp, bl_then (bl_alloc (bl_alloc HB8.out _) _) hb9⟩
end Go.Proofs.YtlagadofiahijaaDoor
