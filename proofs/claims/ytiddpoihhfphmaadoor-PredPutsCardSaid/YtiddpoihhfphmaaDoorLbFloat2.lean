/- Plain facts on numbers with a point that moves: cutting them to whole ones, and the nearest one of a whole number. No program. -/
import Derived.Test.YtiddpoihhfphmaaDoorLbFloat
namespace Rl

/- a whole one in parts of 2^-1074 -/
def K : Nat := 1074
def Q : Nat := 2 ^ K
theorem Q_pos : 0 < Q := by unfold Q; exact Nat.two_pow_pos _
theorem Q_K : Q = 2 ^ K := by unfold Q; exact Eq.refl _

theorem log_lt (n : Nat) : n < 2 ^ (n.log2 + 2) := Nat.lt_trans Nat.lt_log2_self (Nat.pow_lt_pow_right (by omega) (by omega))
theorem cut_zero (s : Bool) (n d : Nat) : Ieee.Toward.zero.cut s n d = n / 2 ^ d := by
  unfold Ieee.Toward.cut
  simp only [Nat.shiftLeft_eq, Nat.one_mul, Bool.toNat_false, Nat.add_zero]
  by_cases h : d ≤ n.log2 + 2
  · rw [Nat.min_eq_left h]
  · rw [Nat.min_eq_right (by omega), Nat.div_eq_of_lt (log_lt n), Nat.div_eq_of_lt]
    exact Nat.lt_trans (log_lt n) (Nat.pow_lt_pow_right (by omega) (by omega))

theorem cut_scale (m k j : Nat) : (m * 2 ^ (k - j)) / 2 ^ (j - k) = m * 2 ^ k / 2 ^ j := by
  by_cases h : j ≤ k
  · rw [show j - k = 0 by omega, Nat.pow_zero, Nat.div_one]
    have e : m * 2 ^ k = m * 2 ^ (k - j) * 2 ^ j := by rw [Nat.mul_assoc, ← Nat.pow_add, Nat.sub_add_cancel h]
    rw [e, Nat.mul_div_cancel _ (Nat.two_pow_pos _)]
  · rw [show k - j = 0 by omega, Nat.pow_zero, Nat.mul_one]
    have e : 2 ^ j = 2 ^ (j - k) * 2 ^ k := by rw [← Nat.pow_add, Nat.sub_add_cancel (by omega)]
    rw [e, Nat.mul_div_mul_right _ _ (Nat.two_pow_pos _)]

/- cut to a whole number -/
def tv (b : Nat) : Int := if 9223372036854775808 ≤ b then -((M (b % 9223372036854775808) / Q : Nat) : Int) else ((M (b % 9223372036854775808) / Q : Nat) : Int)
theorem toInt_eq (w : Nat) (h : w < 18446744073709551616) (hr : w % 9223372036854775808 < 9218868437227405312) : (Ieee.double.read w).toInt .zero = some (tv w) := by
  obtain ⟨m, k, e, em⟩ := read_num w h hr
  rw [e]
  unfold Ieee.Datum.toInt Ieee.Datum.integral
  simp only [cut_zero, Nat.shiftLeft_eq, signed_eq, Nat.pow_zero, Nat.mul_one, Option.some.injEq]
  rw [show (-1074 + (k : Int)).toNat = k - K by unfold K; omega, show (-(-1074 + (k : Int))).toNat = K - k by unfold K; omega, cut_scale, em, ← Q_K]
  unfold neg tv
  by_cases a : 9223372036854775808 ≤ w <;> simp [a]

theorem M_63 : M 4890909195324358656 = 9223372036854775808 * Q := by decide +kernel
theorem M_53 : M 4845873199050653696 = 9007199254740992 * Q := by decide +kernel
theorem S_eq (b : Nat) : S b = if 9223372036854775808 ≤ b then -((M (b % 9223372036854775808) : Nat) : Int) else ((M (b % 9223372036854775808) : Nat) : Int) := rfl

/- ### the nearest one of a whole number -/
theorem M_norm (e x : Nat) (h1 : 4503599627370496 ≤ x) (h2 : x < 9007199254740992) : M (e * 4503599627370496 + x) = x * 2 ^ e := by
  unfold M
  rw [if_neg (by omega), show (e * 4503599627370496 + x) % 4503599627370496 = x - 4503599627370496 by omega, show (e * 4503599627370496 + x) / 4503599627370496 - 1 = e by omega, show 4503599627370496 + (x - 4503599627370496) = x by omega]
theorem cut_even_zero (s : Bool) (n : Nat) : Ieee.Toward.even.cut s n 0 = n := by
  unfold Ieee.Toward.cut
  simp [Nat.mod_one]
theorem log_ge (n : Nat) (h : 0 < n) : 2 ^ n.log2 ≤ n := Nat.log2_self_le (by omega)

theorem near_small (s : Bool) (m : Nat) (h : 0 < m) (hL : m.log2 ≤ 52) :
    ∃ r, Ieee.double.nearest s m 0 = Ieee.double.word s r ∧ M r = m * Q ∧ r < 9218868437227405312 := by
  have g1 := log_ge m h
  have g2 := Nat.lt_log2_self (n := m)
  have x1 : 4503599627370496 ≤ m * 2 ^ (52 - m.log2) := by
    have := Nat.mul_le_mul_right (2 ^ (52 - m.log2)) g1
    rw [← Nat.pow_add, show m.log2 + (52 - m.log2) = 52 by omega] at this
    exact this
  have x2 : m * 2 ^ (52 - m.log2) < 9007199254740992 := by
    have := Nat.mul_lt_mul_of_pos_right g2 (Nat.two_pow_pos (52 - m.log2))
    rw [← Nat.pow_add, show m.log2 + 1 + (52 - m.log2) = 53 by omega] at this
    exact this
  refine ⟨(m.log2 + 1022) * 4503599627370496 + m * 2 ^ (52 - m.log2), ?_, ?_, by omega⟩
  · unfold Ieee.Format.nearest
    rw [if_neg (by omega)]
    simp only [bi, ir, lp]
    have f : (Ieee.double.fractionBits : Int) = 52 := rfl
    have l : max (0 + (m.log2 : Int) - Ieee.double.fractionBits) (-1074) = (m.log2 : Int) - 52 := by rw [f]; omega
    rw [l, show (0 - ((m.log2 : Int) - 52)).toNat = 52 - m.log2 by omega, show ((m.log2 : Int) - 52 - 0).toNat = 0 by omega, cut_even_zero, Nat.shiftLeft_eq, show ((m.log2 : Int) - 52 - -1074).toNat = m.log2 + 1022 by omega, Nat.min_eq_left (by omega)]
  · rw [M_norm _ _ x1 x2, Nat.mul_assoc, ← Nat.pow_add, show 52 - m.log2 + (m.log2 + 1022) = K by unfold K; omega, ← Q_K]

theorem near_great (s : Bool) (m : Nat) (hL : 52 < m.log2) (hM : m.log2 ≤ 63) :
    ∃ c, Ieee.double.nearest s m 0 = Ieee.double.word s ((m.log2 + 1022) * 4503599627370496 + c) ∧ 4503599627370496 ≤ m / 2 ^ (m.log2 - 52) ∧ m / 2 ^ (m.log2 - 52) < 9007199254740992 ∧
      (c = m / 2 ^ (m.log2 - 52) ∨ c = m / 2 ^ (m.log2 - 52) + 1) ∧ (m % 2 ^ (m.log2 - 52) = 0 → c = m / 2 ^ (m.log2 - 52)) := by
  have h : 0 < m := by
    by_cases z : m = 0
    · subst z; simp at hL
    · omega
  have g1 := log_ge m h
  have g2 := Nat.lt_log2_self (n := m)
  have p := Nat.two_pow_pos (m.log2 - 52)
  have x1 : 4503599627370496 ≤ m / 2 ^ (m.log2 - 52) := by
    rw [Nat.le_div_iff_mul_le p, show 4503599627370496 = 2 ^ 52 by decide, ← Nat.pow_add, show 52 + (m.log2 - 52) = m.log2 by omega]; exact g1
  have x2 : m / 2 ^ (m.log2 - 52) < 9007199254740992 := by
    rw [Nat.div_lt_iff_lt_mul p, show 9007199254740992 = 2 ^ 53 by decide, ← Nat.pow_add, show 53 + (m.log2 - 52) = m.log2 + 1 by omega]; exact g2
  have e : ∃ c, Ieee.Toward.even.cut s m (m.log2 - 52) = c ∧ (c = m / 2 ^ (m.log2 - 52) ∨ c = m / 2 ^ (m.log2 - 52) + 1) ∧ (m % 2 ^ (m.log2 - 52) = 0 → c = m / 2 ^ (m.log2 - 52)) := by
    refine ⟨_, rfl, ?_, ?_⟩
    · unfold Ieee.Toward.cut
      simp only [Nat.shiftLeft_eq, Nat.one_mul]
      rw [Nat.min_eq_left (by omega)]
      generalize (decide (2 ^ (m.log2 - 52) < 2 * (m % 2 ^ (m.log2 - 52))) || 2 ^ (m.log2 - 52) == 2 * (m % 2 ^ (m.log2 - 52)) && m / 2 ^ (m.log2 - 52) % 2 == 1) = b
      cases b
      · left; simp
      · right; simp
    · intro z
      unfold Ieee.Toward.cut
      simp only [Nat.shiftLeft_eq, Nat.one_mul]
      rw [Nat.min_eq_left (by omega), z]
      have n1 : decide (2 ^ (m.log2 - 52) < 2 * 0) = false := by simp
      have n2 : (2 ^ (m.log2 - 52) == 2 * 0) = false := by rw [beq_eq_false_iff_ne]; omega
      rw [n1, n2]; simp
  obtain ⟨c, ec, c1, c2⟩ := e
  refine ⟨c, ?_, x1, x2, c1, c2⟩
  unfold Ieee.Format.nearest
  rw [if_neg (by omega)]
  simp only [bi, ir, lp]
  have f : (Ieee.double.fractionBits : Int) = 52 := rfl
  have l : max (0 + (m.log2 : Int) - Ieee.double.fractionBits) (-1074) = (m.log2 : Int) - 52 := by rw [f]; omega
  rw [l, show (0 - ((m.log2 : Int) - 52)).toNat = 0 by omega, show ((m.log2 : Int) - 52 - 0).toNat = m.log2 - 52 by omega, Nat.shiftLeft_zero, ec, show ((m.log2 : Int) - 52 - -1074).toNat = m.log2 + 1022 by omega, Nat.min_eq_left (by omega)]

theorem near_exact (s : Bool) (m : Nat) (h : 0 < m) (hM : m.log2 ≤ 63) (hd : m.log2 ≤ 52 ∨ m % 2 ^ (m.log2 - 52) = 0) :
    ∃ r, Ieee.double.nearest s m 0 = Ieee.double.word s r ∧ M r = m * Q ∧ r < 9218868437227405312 := by
  by_cases hL : m.log2 ≤ 52
  · exact near_small s m h hL
  · obtain ⟨c, e, x1, x2, _, c2⟩ := near_great s m (by omega) hM
    have z := hd.resolve_left hL
    rw [c2 z] at e
    refine ⟨_, e, ?_, by omega⟩
    rw [M_norm _ _ x1 x2]
    have d : m = m / 2 ^ (m.log2 - 52) * 2 ^ (m.log2 - 52) := by
      have := Nat.div_add_mod m (2 ^ (m.log2 - 52))
      rw [z, Nat.mul_comm] at this; omega
    rw [show m.log2 + 1022 = (m.log2 - 52) + K by unfold K; omega, Nat.pow_add, ← Nat.mul_assoc, ← d, ← Q_K]
end Rl
