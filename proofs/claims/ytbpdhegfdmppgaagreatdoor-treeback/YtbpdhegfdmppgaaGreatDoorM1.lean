/- Texts of this proof, put together: Math. -/


/- PLAIN MATHEMATICS of texts of words and brackets, no Go in sight: nodes; a machine that reads a text byte by byte. -/
namespace Go.Proofs.YtbpdhegfdmppgaaGreatDoor

inductive Nd where
  | mk (isList : Bool) (word : List UInt8) (kids : List Nd) (pos : Int)

def isPart (b : UInt8) : Bool :=
  b == 95 || b == 46 || b == 43 || b == 45 || b == 42 || b == 38 || b == 124 || b == 94 || b == 60 || b == 62 || b == 61 || (97 ≤ b && b ≤ 122) || (48 ≤ b && b ≤ 57)

structure Fr where
  pos : Nat
  kids : List Nd

structure St where
  word : List UInt8
  top : Fr
  rest : List Fr

def St.put (st : St) (n : Nd) : St := { st with top := { st.top with kids := st.top.kids ++ [n] } }
def St.endWord (st : St) (p : Nat) : St :=
  if st.word = [] then st else { word := [], top := { st.top with kids := st.top.kids ++ [.mk false st.word [] ((p : Int) - st.word.length)] }, rest := st.rest }

def St.act (st : St) (p : Nat) (b : UInt8) : Except Int St :=
  if b = 40 then (if 24 ≤ st.rest.length then .error 4 else .ok { word := st.word, top := ⟨p, []⟩, rest := st.top :: st.rest })
  else if b = 41 then
    match st.rest with
    | [] => .error 3
    | f :: r => .ok { word := st.word, top := { f with kids := f.kids ++ [.mk true [] st.top.kids st.top.pos] }, rest := r }
  else if b = 9 ∨ b = 10 ∨ b = 13 ∨ b = 32 ∨ b = 59 then .ok st
  else .error 2

def St.take (st : St) (p : Nat) (b : UInt8) : Except Int St :=
  if isPart b then .ok { st with word := st.word ++ [b] } else (st.endWord p).act p b

inductive Out where
  | ok (l : List Nd)
  | err (e : Int) (p : Nat)

def St.finish (st : St) (p : Nat) : Out :=
  match st.rest with
  | [] => .ok (st.endWord p).top.kids
  | _ :: _ => .err 3 p

def run : List UInt8 → Nat → Bool → St → Out
  | [], p, _, st => st.finish p
  | b :: r, p, true, st => run r (p + 1) (b != 10) st
  | b :: r, p, false, st =>
    match st.take p b with
    | .error e => .err e p
    | .ok st' => run r (p + 1) (b == 59) st'

def St.start : St := ⟨[], ⟨0, []⟩, []⟩

def parse (l : List UInt8) : Out := if 16384 < l.length then .err 5 0 else run l 0 false St.start
theorem run_err {b : UInt8} {r : List UInt8} {p : Nat} {st : St} {e : Int} (h : st.take p b = .error e) : run (b :: r) p false st = .err e p := by
  show (match st.take p b with | .error e => Out.err e p | .ok st' => run r (p + 1) (b == 59) st') = _
  rw [h]
theorem run_ok {b : UInt8} {r : List UInt8} {p : Nat} {st st' : St} (h : st.take p b = .ok st') : run (b :: r) p false st = run r (p + 1) (b == 59) st' := by
  show (match st.take p b with | .error e => Out.err e p | .ok st' => run r (p + 1) (b == 59) st') = _
  rw [h]

end Go.Proofs.YtbpdhegfdmppgaaGreatDoor
