/- How great a reckoned word is. -/
import Derived.Test.YtclajapdbphlbaaIDeed1
namespace Go.Proofs.Ytclajapdbphlbaa

theorem opz_lt (o : Int) (a b : Nat) (ha : a < 4294967296) (hb : b < 4294967296) : (opz o (a : Int) (b : Int)).toNat < 4294967296 := by
  have h : opz o (a : Int) (b : Int) < 4294967296 := by
    unfold opz
    split
    · exact Int.emod_lt_of_pos _ (by decide)
    split
    · exact Int.emod_lt_of_pos _ (by decide)
    split
    · exact Int.emod_lt_of_pos _ (by decide)
    split
    · rw [bits_and a b ha hb]; have := Nat.and_lt_two_pow (n := 32) a (show b < 2 ^ 32 by omega); omega
    split
    · rw [bits_or a b ha hb]; have := Nat.or_lt_two_pow (n := 32) (show a < 2 ^ 32 by omega) (show b < 2 ^ 32 by omega); omega
    split
    · rw [bits_xor a b ha hb]; have := Nat.xor_lt_two_pow (n := 32) (show a < 2 ^ 32 by omega) (show b < 2 ^ 32 by omega); omega
    split
    · exact Int.emod_lt_of_pos _ (by decide)
    split
    · have h1 : (a : Int) / 2 ^ ((b : Int) % 32).toNat ≤ a := Int.ediv_le_self _ (by omega)
      omega
    split
    · split <;> decide
    split
    · split <;> decide
    · decide
  omega
end Go.Proofs.Ytclajapdbphlbaa
