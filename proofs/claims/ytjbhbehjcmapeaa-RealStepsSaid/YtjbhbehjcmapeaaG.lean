/- Places in the row: their range, that they tell the bits, and the next one's. -/
import Derived.Test.YtjbhbehjcmapeaaFrom
namespace Go.Proofs.Ytjbhbehjcmapeaa
open Go Rl

theorem nan_iff (b : Nat) : nan b = true ↔ 9218868437227405312 < b % 9223372036854775808 := by unfold nan; rw [decide_eq_true_iff]
theorem ky_nan (b : Nat) (h : nan b = true) : ky b = 18444492273895866368 := by
  unfold ky bt
  rw [h]
  simp only [if_true]
  rw [if_neg (by omega)]
theorem ky_num (b : Nat) (hb : b < 18446744073709551616) (h : nan b = false) : 4503599627370495 ≤ ky b ∧ ky b ≤ 18442240474082181120 ∧ ((9223372036854775808 ≤ b ∧ ky b = 18446744073709551615 - b) ∨ (b < 9223372036854775808 ∧ ky b = b + 9223372036854775808)) := by
  have g := of_decide_eq_false (show decide (9218868437227405312 < b % 9223372036854775808) = false from h)
  unfold ky bt
  rw [h]
  clear h
  simp only [Bool.false_eq_true, if_false]
  split <;> omega
theorem ky_same (a b : Nat) (ha : a < 18446744073709551616) (hb : b < 18446744073709551616) : bt a = bt b ↔ ky a = ky b := by
  cases h1 : nan a <;> cases h2 : nan b
  · obtain ⟨_, _, k1⟩ := ky_num a ha h1
    obtain ⟨_, _, k2⟩ := ky_num b hb h2
    unfold bt
    rw [h1, h2]
    simp only [Bool.false_eq_true, if_false]
    omega
  · obtain ⟨l1, l2, k1⟩ := ky_num a ha h1
    have k2 := ky_nan b h2
    have g := of_decide_eq_false (show decide (9218868437227405312 < a % 9223372036854775808) = false from h1)
    unfold bt
    rw [h1, h2]
    simp only [Bool.false_eq_true, if_false, if_true]
    omega
  · obtain ⟨l1, l2, k1⟩ := ky_num b hb h2
    have k2 := ky_nan a h1
    have g := of_decide_eq_false (show decide (9218868437227405312 < b % 9223372036854775808) = false from h2)
    unfold bt
    rw [h1, h2]
    simp only [Bool.false_eq_true, if_false, if_true]
    omega
  · have k1 := ky_nan a h1
    have k2 := ky_nan b h2
    unfold bt
    rw [h1, h2, k1, k2]
    simp
theorem at_num (k : Nat) (h1 : 4503599627370495 ≤ k) (h2 : k ≤ 18442240474082181120) : nan (at_ k) = false ∧ ky (at_ k) = k := by
  have n : nan (at_ k) = false := by
    unfold nan
    apply decide_eq_false
    unfold at_
    split <;> omega
  refine ⟨n, ?_⟩
  obtain ⟨l1, l2, k1⟩ := ky_num (at_ k) (at_lt k (by omega)) n
  generalize ky (at_ k) = x at l1 l2 k1
  unfold at_ at k1
  split at k1 <;> omega
theorem up_end (b : Nat) (hb : 18442240474082181120 ≤ ky b) : up b = 9221120237041090560 := by
  unfold up; rw [if_pos hb]
theorem nan_end : nan 9221120237041090560 = true := by decide
theorem up_num (b : Nat) (hb : b < 18446744073709551616) (h : ky b < 18442240474082181120) : nan (up b) = false ∧ ky (up b) = ky b + 1 := by
  have n : nan b = false := by
    cases e : nan b
    · rfl
    · have := ky_nan b e; omega
  obtain ⟨l1, l2, k1⟩ := ky_num b hb n
  unfold up
  rw [if_neg (by omega)]
  exact at_num _ (by omega) (by omega)
theorem cls_nan (b : Nat) (h : nan b = true) : cls b = 4 := by unfold cls; rw [if_pos h]
end Go.Proofs.Ytjbhbehjcmapeaa
