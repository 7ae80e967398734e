/- The document's whole number below a number: its contracts. -/
import Derived.Test.YtjbhbehjcmapeaaE
import Derived.Test.YtjbhbehjcmapeaaI
import Derived.Deep.QuietTactic
import Derived.BigQuiet
namespace Go.Proofs.Ytjbhbehjcmapeaa
open Go Go.RowKit Rl

def vm (E F : Nat) : Nat := if E = 0 then F else F + 4503599627370496
def ve (E : Nat) : Int := if E = 0 then -1074 else (E : Int) - 1075
set_option maxHeartbeats 400000 in
theorem value_any (s : Bool) (E F : Nat) (hE : E < 2048) (hF : F < 4503599627370496) (w : World) :
    Calls Try.prog 39 #[pt s E F] w fun e w' => e = .returned (.tuple #[.int .u64 (vm E F : Int), .int .i64 (ve E)]) ∧ Below w.heap.size w w' := by
  unfold vm ve
  by_cases z : E = 0
  · subst z
    rw [if_pos rfl, if_pos rfl]
    go_enter Try.func39, Try.ntmps39
    go_wp2
    go_ret2
    exact ⟨rfl, ((Below.refl _ _).alloc (Nat.le_refl _) _)⟩
  · rw [if_neg z, if_neg z]
    have hz : ((E : Int) == 0) = false := by simp; omega
    go_enter Try.func39, Try.ntmps39
    go_wp2
    go_region
    go_wp2
    go_ret2
    exact ⟨rfl, ((Below.refl _ _).alloc (Nat.le_refl _) _).drew⟩
end Go.Proofs.Ytjbhbehjcmapeaa
