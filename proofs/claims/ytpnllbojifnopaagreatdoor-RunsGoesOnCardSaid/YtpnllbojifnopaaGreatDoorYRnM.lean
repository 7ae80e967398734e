/- A fresh engine of any pattern. -/
import Derived.Test.YtpnllbojifnopaaGreatDoorYRnL
namespace Go.Proofs.YtpnllbojifnopaaGreatDoor
open Go Go.RowKit Go.Maps Pk Rl
set_option maxRecDepth 20000
theorem cov_nums {L : List Nd} {win : Int} (h : (cov L win).m = 0) : (cov L win).a < 4294967296 ∧ (cov L win).b < 4294967296 ∧ ∀ e ∈ (cov L win).E, e.1 < 32 ∧ e.2.1 < 32 := by
  unfold cov at h ⊢
  by_cases h0 : mp L win ≠ 0
  · rw [if_pos h0] at h
    exact absurd h h0
  · rw [if_neg h0] at h ⊢
    by_cases h1 : 64 < (wed 33 L (cnt 33 L)).length
    · rw [if_pos h1] at h
      exact absurd h (by decide)
    · rw [if_neg h1]
      have T := mp_top (show mp L win = 0 by omega)
      have hc := T.cn
      have ok := au_ok 33 L T.fm T.fr 0
      have hn := (au_cn 33 L T.fm T.fr).p 0
      have hp : 2 ^ cnt 33 L ≤ 4294967296 := Nat.le_trans (Nat.pow_le_pow_right (by omega) (show cnt 33 L ≤ 32 by omega)) (by decide)
      refine ⟨Nat.lt_of_lt_of_le (lt_pow_of fun i hi => ?_) hp, Nat.lt_of_lt_of_le (lt_pow_of fun i hi => ?_) hp, fun e he => ?_⟩
      · have := ok.fr i hi
        rw [hn] at this
        omega
      · have := ok.lr i hi
        rw [hn] at this
        omega
      · have := wed_mem.1 he
        omega
end Go.Proofs.YtpnllbojifnopaaGreatDoor
