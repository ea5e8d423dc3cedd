/- CONTRACT of Run, whatever is asked. -/
import Derived.Test.YtmglmbeconndhaaIRunC
namespace Go.Proofs.Ytmglmbeconndhaa
open Go.ChangeShapes Go.WideShapes Go.ChangeAt Go.RowKit Go.Maps

theorem run_any {B : Nat} {S S' : Nat → Prop} (a : Option Addr) (l : List Co) (cp : Nat) (nm : List UInt8) (aa : Option Addr) (ar : List Nat) (ac : Nat) (w : World) (h : kCo.row w S a l) (hok : ∀ c ∈ l, CoOk c) (hl : l.length ≤ 1000000) (hg : Glob B w) (hnm : nm.length ≤ 1000000000) (har : kWd.row w S' aa ar) (hac : ar.length ≤ ac) :
    Calls Try.prog 14 #[.slice a l.length cp, .string (bs nm), .slice aa ar.length ac] w fun e w' => RunTells w w' e (runR l nm ar) := by
  have hrb : (l.all fun c => decide ((rightR c).1 = 0)) = rightsB l := rfl
  unfold runR
  rw [hrb]
  rcases hr : rightsB l with _ | _
  · rw [if_pos rfl]
    have := run_early a l cp nm (.slice aa ar.length ac) w h hok hl hg (fun e => by rw [hr] at e; cases e.1)
    rwa [hr] at this
  · rw [if_neg (by simp)]
    by_cases hnd : (l.map Co.name).Nodup
    · rw [if_pos hnd]
      cases hlook : look l nm with
      | none => exact run_none a l cp nm _ w h hok hl hg hr hnd hnm hlook
      | some c =>
        simp only
        by_cases hna : (ar.length : Int) = wordsN c.ps + cellsN c.ps
        · rw [if_neg (fun e => e hna)]
          have := run_go a l cp nm aa ar ac w h hok hl hg hr hnd hnm har hac c hlook hna
          refine this.mono fun e w' hh => ?_
          unfold toldR at hh
          exact hh
        · rw [if_pos hna]
          exact run_arg a l cp nm aa ar.length ac w h hok hl hg hr hnd hnm c hlook hna
    · rw [if_neg hnd]
      have := run_early a l cp nm (.slice aa ar.length ac) w h hok hl hg (fun e => hnd e.2)
      rwa [hr, if_pos rfl] at this
end Go.Proofs.Ytmglmbeconndhaa
