/- The document's whole number below a number, and its Against: their contracts. -/
import Derived.Test.YtjbhbehjcmapeaaL
namespace Go.Proofs.Ytjbhbehjcmapeaa
open Go Go.RowKit Rl

/- sizes by parts -/
theorem M_low (F : Nat) (h : F < 4503599627370496) : M F = F := by unfold M; rw [if_pos h]
theorem M_parts (E F : Nat) (hE : 0 < E) (hF : F < 4503599627370496) : M (E * 4503599627370496 + F) = (F + 4503599627370496) * 2 ^ (E - 1) := by
  unfold M
  rw [if_neg (by omega), show (E * 4503599627370496 + F) % 4503599627370496 = F by omega, show (E * 4503599627370496 + F) / 4503599627370496 = E by omega, Nat.add_comm F]
theorem cut_mod (m k j : Nat) (h : k ≤ j) : m * 2 ^ k % 2 ^ j = 0 ↔ m % 2 ^ (j - k) = 0 := by
  have e : 2 ^ j = 2 ^ (j - k) * 2 ^ k := by rw [← Nat.pow_add, Nat.sub_add_cancel h]
  rw [e, Nat.mul_mod_mul_right]
  have p := Nat.two_pow_pos k
  constructor
  · intro z
    rcases Nat.mul_eq_zero.1 z with z | z <;> omega
  · intro z; rw [z, Nat.zero_mul]

structure Fl (s : Bool) (E F T : Nat) (X : Bool) : Prop where
  plus_out : s = false → 9223372036854775808 ≤ T → ∀ w, Floored s E F w 0 false 1
  plus_in : s = false → T < 9223372036854775808 → ∀ w, Floored s E F w (T : Int) X 0
  minus_out : s = true → 9223372036854775808 < T + (if X then 0 else 1) → ∀ w, Floored s E F w 0 false (-1)
  minus_in : s = true → X = true → T ≤ 9223372036854775808 → ∀ w, Floored s E F w (-(T : Int)) true 0
  minus_rest : s = true → X = false → T < 9223372036854775808 → ∀ w, Floored s E F w (-((T + 1 : Nat) : Int)) false 0

theorem floor_small (s : Bool) (E F m0 N : Nat) (hE : E ≠ 2047) (V : Valued s E F m0 (-(N : Int))) (h0 : 0 < m0) (h1 : m0 < 9007199254740992) (hN : N ≤ 1074) :
    Fl s E F (m0 / 2 ^ N) (decide (m0 % 2 ^ N = 0)) := by
  have l : m0 / 2 ^ N < 9007199254740992 := Nat.lt_of_le_of_lt (Nat.div_le_self _ _) h1
  refine ⟨fun hs h => by omega, fun hs _ w => ?_, fun hs h => ?_, fun hs hx _ w => ?_, fun hs hx _ w => ?_⟩
  · subst hs; exact floor_down_plus E F m0 N _ _ hE V h0 h1 hN (Lib.hid rfl) (Lib.hid rfl) w
  · exfalso
    generalize m0 / 2 ^ N = t at l h
    split at h <;> omega
  · subst hs; exact floor_down_minus E F m0 N _ hE V h0 h1 hN (Lib.hid rfl) (Lib.hid hx) w
  · subst hs; exact floor_down_rest E F m0 N _ hE V h0 h1 hN (Lib.hid rfl) (Lib.hid hx) w

theorem floor_great (s : Bool) (E F m0 N : Nat) (hE : E ≠ 2047) (V : Valued s E F m0 (N : Int)) (h0 : 0 < m0) (h1 : m0 < 9007199254740992) (hN : N ≤ 1074) :
    Fl s E F (m0 * 2 ^ N) true := by
  refine ⟨fun hs h w => ?_, fun hs h w => ?_, fun hs h w => ?_, fun hs _ h w => ?_, fun _ hx => by cases hx⟩
  · subst hs; exact floor_up_out E F m0 N _ hE V h0 h1 hN (Lib.hid rfl) h w
  · subst hs; exact floor_up_in E F m0 N _ hE V h0 h1 hN (Lib.hid rfl) h w
  · subst hs; exact floor_up_outm E F m0 N _ hE V h0 h1 hN (Lib.hid rfl) (by simpa using h) w
  · subst hs; exact floor_up_inm E F m0 N _ hE V h0 h1 hN (Lib.hid rfl) h w

theorem floor_any (s : Bool) (E F : Nat) (hE : E < 2048) (hF : F < 4503599627370496) :
    Fl s E F (M (E * 4503599627370496 + F) / Q) (decide (M (E * 4503599627370496 + F) % Q = 0)) := by
  have V0 : Valued s E F (vm E F) (ve E) := Lib.hid (fun w => value_any s E F hE hF w)
  by_cases e0 : E = 0
  · subst e0
    rw [show vm 0 F = F by unfold vm; rw [if_pos rfl], show ve 0 = -((1074 : Nat) : Int) by decide] at V0
    rw [show 0 * 4503599627370496 + F = F by omega, M_low F hF]
    by_cases z : F = 0
    · subst z
      have Z := fun w => floor_zero s 0 0 _ (by omega) V0 w
      rw [Nat.zero_div, Nat.zero_mod]
      refine ⟨fun _ h => by omega, fun _ _ w => Z w, fun _ h => by simp at h, fun _ _ _ w => Z w, fun _ hx => by simp at hx⟩
    · rw [Q_K]
      exact floor_small s 0 F F K (by omega) V0 (by omega) (by omega) (Nat.le_refl _)
  · have em : vm E F = F + 4503599627370496 := by unfold vm; rw [if_neg e0]
    have ee : ve E = (E : Int) - 1075 := by unfold ve; rw [if_neg e0]
    rw [em, ee] at V0
    rw [M_parts E F (by omega) hF]
    by_cases lo : E < 1075
    · have V1 : Valued s E F (F + 4503599627370496) (-((1075 - E : Nat) : Int)) := by
        rw [show (-((1075 - E : Nat) : Int)) = (E : Int) - 1075 by omega]; exact V0
      have t := floor_small s E F (F + 4503599627370496) (1075 - E) (by omega) V1 (by omega) (by omega) (by omega)
      have a : (F + 4503599627370496) * 2 ^ (E - 1) / Q = (F + 4503599627370496) / 2 ^ (1075 - E) := by
        rw [Q_K, ← cut_scale, show E - 1 - K = 0 by unfold K; omega, show K - (E - 1) = 1075 - E by unfold K; omega, Nat.pow_zero, Nat.mul_one]
      have b : decide ((F + 4503599627370496) * 2 ^ (E - 1) % Q = 0) = decide ((F + 4503599627370496) % 2 ^ (1075 - E) = 0) := by
        rw [decide_eq_decide, Q_K, cut_mod _ _ _ (by unfold K; omega), show K - (E - 1) = 1075 - E by unfold K; omega]
      rw [a, b]
      exact t
    · have a0 : (F + 4503599627370496) * 2 ^ (E - 1) = (F + 4503599627370496) * 2 ^ (E - 1075) * Q := by
        rw [Nat.mul_assoc, Q_K, ← Nat.pow_add, show E - 1075 + K = E - 1 by unfold K; omega]
      have a : (F + 4503599627370496) * 2 ^ (E - 1) / Q = (F + 4503599627370496) * 2 ^ (E - 1075) := by rw [a0, Nat.mul_div_cancel _ Q_pos]
      have b : decide ((F + 4503599627370496) * 2 ^ (E - 1) % Q = 0) = true := by rw [a0, Nat.mul_mod_left]; rfl
      rw [a, b]
      by_cases i : E = 2047
      · subst i
        have I := fun w => floor_inf s F w
        have g : 9223372036854775808 < (F + 4503599627370496) * 2 ^ (2047 - 1075) := by
          have p := Nat.pow_le_pow_right (show 0 < 2 by omega) (show 12 ≤ 2047 - 1075 by omega)
          have q := Nat.mul_le_mul (show 4503599627370496 ≤ F + 4503599627370496 by omega) p
          generalize (F + 4503599627370496) * 2 ^ (2047 - 1075) = x at q
          omega
        generalize (F + 4503599627370496) * 2 ^ (2047 - 1075) = x at g
        refine ⟨fun hs _ w => ?_, fun _ h => by omega, fun hs _ w => ?_, fun _ _ h => by omega, fun _ hx => by cases hx⟩
        · subst hs; exact I w
        · subst hs; exact I w
      · have V1 : Valued s E F (F + 4503599627370496) ((E - 1075 : Nat) : Int) := by
          rw [show ((E - 1075 : Nat) : Int) = (E : Int) - 1075 by omega]; exact V0
        exact floor_great s E F (F + 4503599627370496) (E - 1075) i V1 (by omega) (by omega) (by omega)
end Go.Proofs.Ytjbhbehjcmapeaa
