/- Texts of this proof, put together: LSh. -/
import Derived.Test.YtbpdhegfdmppgaaGreatDoorM15
import Derived.Test.YtbpdhegfdmppgaaGreatDoorM19
import Derived.Test.YtbpdhegfdmppgaaGreatDoorM20
import Derived.Lib.ParseIntBCases

/- FROM UNITS AS THEY ARE READ TO UNITS AS THEY ARE SHOWN ('sh'), and from nodes that are shown back ('ndB'); numbers, names and signs. Plain Lean. -/
namespace Go.Proofs.YtbpdhegfdmppgaaGreatDoor

mutual
def Ex.sh : Ex → Sh.Ex
  | .mk k n o m l => .mk k n o m (exsSh l)
def exsSh : List Ex → List Sh.Ex
  | [] => []
  | x :: l => Ex.sh x :: exsSh l
end
theorem exsSh_len : ∀ l : List Ex, (exsSh l).length = l.length
  | [] => by rw [exsSh]; rfl
  | x :: l => by rw [exsSh, List.length_cons, List.length_cons, exsSh_len l]
mutual
def Sm.sh : Sm → Sh.Sm
  | .mk k m s len fr to ix e b els => .mk k m s len fr to ix.sh e.sh (smsSh b) (smsSh els)
def smsSh : List Sm → List Sh.Sm
  | [] => []
  | x :: l => Sm.sh x :: smsSh l
end
theorem smsSh_len : ∀ l : List Sm, (smsSh l).length = l.length
  | [] => by rw [smsSh]; rfl
  | x :: l => by rw [smsSh, List.length_cons, List.length_cons, smsSh_len l]
def Pa.sh (p : Pa) : Sh.Pa := ⟨p.name, p.sec, p.len⟩
def Fu.sh (f : Fu) : Sh.Fu := ⟨f.name, f.params.map Pa.sh, f.sec, smsSh f.body, f.result.sh⟩
def Un.sh (u : Un) : Sh.Un := ⟨u.name, u.imports, u.funcs.map Fu.sh⟩
mutual
def ndB : Sh.Nd → Nd
  | .mk a b c d => .mk a b (ndBs c) d
def ndBs : List Sh.Nd → List Nd
  | [] => []
  | x :: l => ndB x :: ndBs l
end
theorem ndBs_len : ∀ l : List Sh.Nd, (ndBs l).length = l.length
  | [] => by rw [ndBs]; rfl
  | x :: l => by rw [ndBs, List.length_cons, List.length_cons, ndBs_len l]
theorem ndBs_app : ∀ l m : List Sh.Nd, ndBs (l ++ m) = ndBs l ++ ndBs m
  | [], m => by rw [ndBs]; rfl
  | x :: l, m => by rw [List.cons_append, ndBs, ndBs, ndBs_app l m]; rfl
/- Numbers. -/
/- Names and signs. -/
theorem isName_sh (l : List UInt8) : Sh.isName l = isName l := by cases l <;> rfl
theorem isFull_sh (l : List UInt8) : Sh.isFullB l = isFull l := by
  rw [Sh.isFullB, isFull, ← (Sh.cutB_lib 46 l).1, ← (Sh.cutB_lib 46 l).2, ← Sh.cutB_bool 46 l, isName_sh, isName_sh]
theorem ndB_lf (s : List UInt8) : ndB (Sh.lf s) = .mk false s [] 0 := by rw [Sh.lf, ndB, ndBs]
theorem ndB_ls (l : List Sh.Nd) : ndB (Sh.ls l) = .mk true [] (ndBs l) 0 := by rw [Sh.ls, ndB]
theorem alike_list {ks : List Nd} {l : List Sh.Nd} (p : Int) (h : alikeL ks (ndBs l) = true) : Nd.alike (.mk true [] ks p) (ndB (Sh.ls l)) = true := by rw [ndB_ls]; simp [Nd.alike, h]
theorem alike_cons {x : Nd} {l : List Nd} {y : Sh.Nd} {m : List Sh.Nd} (h : Nd.alike x (ndB y) = true) (k : alikeL l (ndBs m) = true) : alikeL (x :: l) (ndBs (y :: m)) = true := by rw [ndBs, alikeL, h, k]; rfl
theorem alike_nil : alikeL [] (ndBs []) = true := by rw [ndBs]; rfl

/- What is read of one node. -/
end Go.Proofs.YtbpdhegfdmppgaaGreatDoor
