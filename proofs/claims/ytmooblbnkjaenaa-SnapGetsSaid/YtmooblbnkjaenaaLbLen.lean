/- How many bits a number has: the contract of bits.Len64. -/
import Derived.Test.YtmooblbnkjaenaaProg
import Derived.Lib.Strings
import Derived.Lib.Slices
import Derived.Lib.Small
import Derived.Lib.Walk
import Derived.Lib.BitFns
namespace Go.Proofs.Ytmooblbnkjaenaa
open Go
set_option maxRecDepth 20000

/- the highest eight bits, looked up, and those below -/
theorem top8 (x s : Nat) (K y : Int) (hK : K = (s : Int)) (y0 : 0 ≤ y) (y1 : y ≤ 255) (hy : y.toNat = x / 2 ^ s) (hs : 2 ^ s ≤ x ∨ s = 0) (h64 : s ≤ 64) (hx : x < 18446744073709551616) :
    (K + ((Lib.len8 y + 9223372036854775808) % 18446744073709551616 - 9223372036854775808) + 9223372036854775808) % 18446744073709551616 - 9223372036854775808 = (Lib.bitLen x : Int) := by
  have l := Lib.bitLen_le8' y y0 y1
  have e : (s : Int) + (Lib.bitLen y.toNat : Int) = (Lib.bitLen x : Int) := by
    rw [hy]
    rcases hs with hs | hs
    · have := Lib.bitLen_shift s x hs (by omega)
      omega
    · subst hs; simp
  rw [Lib.len8_of y y0 y1]
  omega
set_option maxHeartbeats 1000000 in
set_option maxRecDepth 100000 in
theorem len64_any (x : Nat) (h : x < 18446744073709551616) (w : World) :
    Calls Try.prog 29 #[.int .u64 (x : Int)] w fun e w' => e = .returned (.int .i64 (Lib.bitLen x : Int)) ∧ w = w' := by
  go_enter Try.func29, Try.ntmps29
  go_wp2
  all_goals (go_ret; refine ⟨congrArg Ending.returned (congrArg (Value.int IntKind.i64) ?_), rfl⟩)
  · exact top8 x 56 56 _ rfl (by omega) (by omega) (by omega) (.inl (by omega)) (by omega) h
  · exact top8 x 48 48 _ rfl (by omega) (by omega) (by omega) (.inl (by omega)) (by omega) h
  · exact top8 x 40 40 _ rfl (by omega) (by omega) (by omega) (.inl (by omega)) (by omega) h
  · exact top8 x 32 32 _ rfl (by omega) (by omega) (by omega) (.inl (by omega)) (by omega) h
  · exact top8 x 24 24 _ rfl (by omega) (by omega) (by omega) (.inl (by omega)) (by omega) h
  · exact top8 x 16 16 _ rfl (by omega) (by omega) (by omega) (.inl (by omega)) (by omega) h
  · exact top8 x 8 8 _ rfl (by omega) (by omega) (by omega) (.inl (by omega)) (by omega) h
  · have := top8 x 0 0 ((x : Int) % 256) rfl (by omega) (by omega) (by omega) (.inr rfl) (by omega) h
    omega
end Go.Proofs.Ytmooblbnkjaenaa
