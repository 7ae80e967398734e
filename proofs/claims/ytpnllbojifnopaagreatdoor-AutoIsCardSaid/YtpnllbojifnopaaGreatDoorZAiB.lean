/- Bits of a set, by halving. -/
import Derived.Test.YtpnllbojifnopaaGreatDoorZB3
import Derived.Test.YtpnllbojifnopaaGreatDoorZNC
namespace Go.Proofs.YtpnllbojifnopaaGreatDoor
open Go Go.RowKit Go.Maps Pk Rl
set_option maxRecDepth 20000
theorem half_bit (x i : Nat) : (x / 2 ^ i) % 2 = if x.testBit i then 1 else 0 := by
  rw [Nat.testBit_eq_decide_div_mod_eq]
  have := Nat.mod_lt (x / 2 ^ i) (by omega : 2 > 0)
  by_cases c : x / 2 ^ i % 2 = 1
  · rw [if_pos (decide_eq_true c), c]
  · rw [if_neg (by simp [c])]; omega
theorem half_next (x i : Nat) : x / 2 ^ i / 2 = x / 2 ^ (i + 1) := by rw [Nat.pow_succ, Nat.div_div_eq_div_mul]
set_option maxHeartbeats 2000000 in
theorem rbit_any (x n : Nat) (w : World) (hx : x < 18446744073709551616) (hn : n < 1000000) : Calls Tryz.prog 67 #[.int .u64 (x : Int), .int .i64 (n : Int)] w fun e w' => e = .returned (.bool (x.testBit n)) ∧ w' = w := by
  have HH := Lib.hid (half_bit x)
  have HN := Lib.hid (half_next x)
  have X0 : Hid (x = x / 2 ^ 0) := Lib.hid (by simp)
  go_enter Tryz.func67, Tryz.ntmps67
  go_wp2_with fail
  go_loopw [0, 5] (fun v0 v5 W => ∃ (i y : Nat), v0 = .int .u64 (y : Int) ∧ v5 = .int .i64 (i : Int) ∧ i ≤ n ∧ y < 18446744073709551616 ∧ Hid (y = x / 2 ^ i ∧ W = w)) (fun _ v5 _ => n - (intOf v5).toNat)
  case atStart => exact ⟨0, x, rfl, rfl, by omega, hx, Lib.hid ⟨X0.out, rfl⟩⟩
  case round =>
    obtain ⟨i, y, rfl, rfl, hi, hy, H⟩ := hrel
    have hww := H.out.2
    have HY := Lib.hid H.out.1
    clear H
    subst hww
    by_cases ci : i < n
    · have d1 : ((y : Int).tdiv 2) = ((y / 2 : Nat) : Int) := by rw [Int.tdiv_eq_ediv_of_nonneg (by omega)]; omega
      have N2 := Lib.hid (show y / 2 = x / 2 ^ (i + 1) by rw [HY.out, HN.out])
      have hy2 : y / 2 < 18446744073709551616 := by omega
      go_wp2_with fail
      go_roundw
      case rel => exact ⟨i + 1, y / 2, by simp, by go_num, by omega, hy2, Lib.hid ⟨N2.out, by first | rfl | trivial⟩⟩
      case measure => simp [intOf]; omega
    · obtain rfl : i = n := by omega
      have d1 : ((y : Int).tmod 2) = ((y % 2 : Nat) : Int) := by rw [Int.tmod_eq_emod_of_nonneg (by omega)]; omega
      have h2 := HH.out i
      rw [← HY.out] at h2
      cases hb : x.testBit i
      · rw [hb] at h2
        simp only [Bool.false_eq_true, if_false] at h2
        go_wp2_with fail
        go_ret
        refine ⟨ret_bool ?_, by first | rfl | trivial⟩
        rw [hb]
      · rw [hb] at h2
        simp only [if_true] at h2
        go_wp2_with fail
        go_ret
        refine ⟨ret_bool ?_, by first | rfl | trivial⟩
        rw [hb]
end Go.Proofs.YtpnllbojifnopaaGreatDoor
