/- The document's whole number below a number: its loops. -/
import Derived.Test.YtiddpoihhfphmaaDoorLbRefCmp
import Derived.Test.YtiddpoihhfphmaaDoorLbFloat2
import Derived.Deep.QuietTactic
import Derived.BigQuiet
namespace Go.Proofs.YtiddpoihhfphmaaDoor
open Go Go.RowKit Rl
set_option maxRecDepth 20000

def vm (E F : Nat) : Nat := if E = 0 then F else F + 4503599627370496
def vx (E : Nat) : Int := if E = 0 then -1074 else (E : Int) - 1075
set_option maxHeartbeats 400000 in
theorem value_any (s : Bool) (E F : Nat) (hE : E < 2048) (hF : F < 4503599627370496) (w : World) :
    Calls Tryd.prog 85 #[pt s E F] w fun e w' => e = .returned (.tuple #[.int .u64 (vm E F : Int), .int .i64 (vx E)]) ∧ Below w.heap.size w w' := by
  unfold vm vx
  by_cases z : E = 0
  · subst z
    rw [if_pos rfl, if_pos rfl]
    go_enter Tryd.func85, Tryd.ntmps85
    go_wp2
    go_ret2
    exact ⟨rfl, ((Below.refl _ _).alloc (Nat.le_refl _) _)⟩
  · rw [if_neg z, if_neg z]
    have hz : ((E : Int) == 0) = false := by simp; omega
    go_enter Tryd.func85, Tryd.ntmps85
    go_wp2
    go_region
    go_wp2
    go_ret2
    exact ⟨rfl, ((Below.refl _ _).alloc (Nat.le_refl _) _).drew⟩

theorem half_ex (m i : Nat) : decide (m % 2 ^ (i + 1) = 0) = (decide (m % 2 ^ i = 0) && !decide (m / 2 ^ i % 2 = 1)) := by
  rw [Nat.pow_succ, Nat.mod_mul]
  have p := Nat.two_pow_pos i
  rcases Nat.mod_two_eq_zero_or_one (m / 2 ^ i) with h | h
  · rw [h]; simp
  · rw [h]; simp
theorem half_div (m i : Nat) : m / 2 ^ (i + 1) = m / 2 ^ i / 2 := by rw [Nat.pow_succ, Nat.div_div_eq_div_mul]
abbrev Valued (s : Bool) (E F m : Nat) (e : Int) : Prop := Hid (∀ w : World, Calls Tryd.prog 85 #[pt s E F] w fun r w' => r = .returned (.tuple #[.int .u64 (m : Int), .int .i64 e]) ∧ Below w.heap.size w w')
abbrev Floored (s : Bool) (E F : Nat) (w : World) (d : Int) (x : Bool) (k : Int) : Prop := Calls Tryd.prog 68 #[pt s E F] w fun r w' => r = .returned (.tuple #[.int .i64 d, .bool x, .int .i64 k]) ∧ Below w.heap.size w w'
theorem ret3 {d d' : Int} {x : Bool} {k : Int} (h : d = d') : Ending.returned (.tuple #[.int .i64 d, .bool x, .int .i64 k]) = .returned (.tuple #[.int .i64 d', .bool x, .int .i64 k]) := by rw [h]

theorem neg_back (t : Nat) (h : t ≤ 9223372036854775808) : RowKit.wrap64 (IntKind.u64.wrap (-(t : Int))) = -(t : Int) := by
  rw [IntKind.wrap_u64]
  unfold RowKit.wrap64
  omega

theorem floor_inf (s : Bool) (F : Nat) (w : World) : Floored s 2047 F w 0 false (if s then -1 else 1) := by
  have B0 := Lib.hid ((Below.refl w.heap.size w).alloc (Nat.le_refl _) (cells3 s 2047 F))
  cases s
  · simp only [Bool.false_eq_true, if_false]
    go_enter Tryd.func68, Tryd.ntmps68
    go_wp2
    go_ret3
    exact ⟨rfl, B0.out⟩
  · simp only [if_true]
    go_enter Tryd.func68, Tryd.ntmps68
    go_wp2
    go_ret3
    exact ⟨rfl, B0.out⟩

theorem floor_zero (s : Bool) (E F : Nat) (e : Int) (hE : E ≠ 2047) (V : Valued s E F 0 e) (w : World) : Floored s E F w 0 true 0 := by
  have hE' : ((E : Int) == 2047) = false := by simp; omega
  have B0 := Lib.hid ((Below.refl w.heap.size w).alloc (Nat.le_refl _) (cells3 s E F))
  clear hE
  cases s
  all_goals
    go_enter Tryd.func68, Tryd.ntmps68
    go_wp2_with fail
    refine (V.out _).mono ?_
    rintro e w1 ⟨rfl, b1⟩
    have B1 := Lib.hid (B0.out.trans (b1.mono B0.out.size))
    clear b1
    go_wp2
    go_ret3
    exact ⟨rfl, B1.out⟩

set_option maxHeartbeats 1000000 in
set_option maxRecDepth 100000 in
theorem floor_down_plus (E F m0 N T : Nat) (X : Bool) (hE : E ≠ 2047) (V : Valued false E F m0 (-(N : Int))) (h0 : 0 < m0) (h1 : m0 < 9007199254740992) (hN2 : N ≤ 1074) (hT : Hid (m0 / 2 ^ N = T)) (hX : Hid (decide (m0 % 2 ^ N = 0) = X)) (w : World) : Floored false E F w (T : Int) X 0 := by
  have hE' : ((E : Int) == 2047) = false := by simp; omega
  have hm : ((m0 : Int) == 0) = false := by simp; omega
  have B0 := Lib.hid ((Below.refl w.heap.size w).alloc (Nat.le_refl _) (cells3 false E F))
  clear hE
  go_enter Tryd.func68, Tryd.ntmps68
  go_wp2_with fail
  refine (V.out _).mono ?_
  rintro e w1 ⟨rfl, b1⟩
  have B1 := Lib.hid (B0.out.trans (b1.mono B0.out.size))
  obtain ⟨c0, c1, c2⟩ := three _ _ _ _ _ b1
  clear b1
  go_wp2
  go_loop [6, 7, 8] (fun m e x => ∃ i : Nat, i ≤ N ∧ m = .int .u64 ((m0 / 2 ^ i : Nat) : Int) ∧ e = .int .i64 (-(N : Int) + (i : Int)) ∧ x = .bool (decide (m0 % 2 ^ i = 0))) (fun _ e _ => (-(intOf e)).toNat)
  case atStart => exact ⟨0, Nat.zero_le _, by simp, by simp, by simp [Nat.mod_one]⟩
  case round =>
    obtain ⟨i, hi, rfl, rfl, rfl⟩ := hrel
    have hd := Lib.hid (half_div m0 i)
    have hh := Lib.hid (half_ex m0 i)
    have hl : m0 / 2 ^ i < 9007199254740992 := Nat.lt_of_le_of_lt (Nat.div_le_self _ _) h1
    by_cases hlt : i < N
    · have hneg : decide (-(N : Int) + (i : Int) < 0) = true := by simp; omega
      generalize m0 / 2 ^ i = y at hd hh hl
      generalize decide (m0 % 2 ^ i = 0) = z at hh
      by_cases odd : y % 2 = 1
      · have ho : ((y : Int) % 2 == 1) = true := by rw [beq_iff_eq]; omega
        have hz := Lib.hid (show decide (m0 % 2 ^ (i + 1) = 0) = false by rw [hh.out, decide_eq_true odd]; simp)
        clear odd hh
        go_wp2
        go_round
        case rel => exact ⟨i + 1, by omega, by rw [hd.out]; go_num, by go_num, by rw [hz.out]⟩
        case measure => simp [intOf]; omega
      · have ho : ((y : Int) % 2 == 1) = false := by rw [beq_eq_false_iff_ne]; omega
        have hz := Lib.hid (show decide (m0 % 2 ^ (i + 1) = 0) = z by rw [hh.out, decide_eq_false odd]; simp)
        clear odd hh
        go_wp2
        go_round
        case rel => exact ⟨i + 1, by omega, by rw [hd.out]; go_num, by go_num, by rw [hz.out]⟩
        case measure => simp [intOf]; omega
    · obtain rfl : i = N := by omega
      have hneg : decide (-(i : Int) + (i : Int) < 0) = false := by simp; omega
      clear hd hh
      rw [hT.out] at hl
      rw [hT.out, hX.out]
      have hy : decide ((9223372036854775808 : Int) ≤ (T : Int)) = false := by simp; omega
      go_wp2
      go_loop [6, 7] (fun m e => m = .int .u64 (T : Int) ∧ e = .int .i64 0) (fun _ _ => 0)
      case atStart => exact ⟨rfl, by go_num⟩
      case round =>
        obtain ⟨rfl, rfl⟩ := hrel
        go_wp2
        go_ret3
        exact ⟨rfl, B1.out⟩

set_option maxHeartbeats 1000000 in
set_option maxRecDepth 100000 in
theorem floor_down_minus (E F m0 N T : Nat) (hE : E ≠ 2047) (V : Valued true E F m0 (-(N : Int))) (h0 : 0 < m0) (h1 : m0 < 9007199254740992) (hN2 : N ≤ 1074) (hT : Hid (m0 / 2 ^ N = T)) (hX : Hid (decide (m0 % 2 ^ N = 0) = true)) (w : World) : Floored true E F w (-(T : Int)) true 0 := by
  have hE' : ((E : Int) == 2047) = false := by simp; omega
  have hm : ((m0 : Int) == 0) = false := by simp; omega
  have B0 := Lib.hid ((Below.refl w.heap.size w).alloc (Nat.le_refl _) (cells3 true E F))
  clear hE
  go_enter Tryd.func68, Tryd.ntmps68
  go_wp2_with fail
  refine (V.out _).mono ?_
  rintro e w1 ⟨rfl, b1⟩
  have B1 := Lib.hid (B0.out.trans (b1.mono B0.out.size))
  obtain ⟨c0, c1, c2⟩ := three _ _ _ _ _ b1
  clear b1
  go_wp2
  go_loop [6, 7, 8] (fun m e x => ∃ i : Nat, i ≤ N ∧ m = .int .u64 ((m0 / 2 ^ i : Nat) : Int) ∧ e = .int .i64 (-(N : Int) + (i : Int)) ∧ x = .bool (decide (m0 % 2 ^ i = 0))) (fun _ e _ => (-(intOf e)).toNat)
  case atStart => exact ⟨0, Nat.zero_le _, by simp, by simp, by simp [Nat.mod_one]⟩
  case round =>
    obtain ⟨i, hi, rfl, rfl, rfl⟩ := hrel
    have hd := Lib.hid (half_div m0 i)
    have hh := Lib.hid (half_ex m0 i)
    have hl : m0 / 2 ^ i < 9007199254740992 := Nat.lt_of_le_of_lt (Nat.div_le_self _ _) h1
    by_cases hlt : i < N
    · have hneg : decide (-(N : Int) + (i : Int) < 0) = true := by simp; omega
      generalize m0 / 2 ^ i = y at hd hh hl
      generalize decide (m0 % 2 ^ i = 0) = z at hh
      by_cases odd : y % 2 = 1
      · have ho : ((y : Int) % 2 == 1) = true := by rw [beq_iff_eq]; omega
        have hz := Lib.hid (show decide (m0 % 2 ^ (i + 1) = 0) = false by rw [hh.out, decide_eq_true odd]; simp)
        clear odd hh
        go_wp2
        go_round
        case rel => exact ⟨i + 1, by omega, by rw [hd.out]; go_num, by go_num, by rw [hz.out]⟩
        case measure => simp [intOf]; omega
      · have ho : ((y : Int) % 2 == 1) = false := by rw [beq_eq_false_iff_ne]; omega
        have hz := Lib.hid (show decide (m0 % 2 ^ (i + 1) = 0) = z by rw [hh.out, decide_eq_false odd]; simp)
        clear odd hh
        go_wp2
        go_round
        case rel => exact ⟨i + 1, by omega, by rw [hd.out]; go_num, by go_num, by rw [hz.out]⟩
        case measure => simp [intOf]; omega
    · obtain rfl : i = N := by omega
      have hneg : decide (-(i : Int) + (i : Int) < 0) = false := by simp; omega
      clear hd hh
      rw [hT.out] at hl
      rw [hT.out, hX.out]
      have hy : decide ((9223372036854775808 : Int) < (T : Int)) = false := by simp; omega
      go_wp2
      go_loop [6, 7] (fun m e => m = .int .u64 (T : Int) ∧ e = .int .i64 0) (fun _ _ => 0)
      case atStart => exact ⟨rfl, by go_num⟩
      case round =>
        obtain ⟨rfl, rfl⟩ := hrel
        go_wp2
        go_ret3
        exact ⟨ret3 (neg_back _ (by omega)), B1.out⟩

set_option maxHeartbeats 1000000 in
set_option maxRecDepth 100000 in
theorem floor_down_rest (E F m0 N T : Nat) (hE : E ≠ 2047) (V : Valued true E F m0 (-(N : Int))) (h0 : 0 < m0) (h1 : m0 < 9007199254740992) (hN2 : N ≤ 1074) (hT : Hid (m0 / 2 ^ N = T)) (hX : Hid (decide (m0 % 2 ^ N = 0) = false)) (w : World) : Floored true E F w (-((T + 1 : Nat) : Int)) false 0 := by
  have hE' : ((E : Int) == 2047) = false := by simp; omega
  have hm : ((m0 : Int) == 0) = false := by simp; omega
  have B0 := Lib.hid ((Below.refl w.heap.size w).alloc (Nat.le_refl _) (cells3 true E F))
  clear hE
  go_enter Tryd.func68, Tryd.ntmps68
  go_wp2_with fail
  refine (V.out _).mono ?_
  rintro e w1 ⟨rfl, b1⟩
  have B1 := Lib.hid (B0.out.trans (b1.mono B0.out.size))
  obtain ⟨c0, c1, c2⟩ := three _ _ _ _ _ b1
  clear b1
  go_wp2
  go_loop [6, 7, 8] (fun m e x => ∃ i : Nat, i ≤ N ∧ m = .int .u64 ((m0 / 2 ^ i : Nat) : Int) ∧ e = .int .i64 (-(N : Int) + (i : Int)) ∧ x = .bool (decide (m0 % 2 ^ i = 0))) (fun _ e _ => (-(intOf e)).toNat)
  case atStart => exact ⟨0, Nat.zero_le _, by simp, by simp, by simp [Nat.mod_one]⟩
  case round =>
    obtain ⟨i, hi, rfl, rfl, rfl⟩ := hrel
    have hd := Lib.hid (half_div m0 i)
    have hh := Lib.hid (half_ex m0 i)
    have hl : m0 / 2 ^ i < 9007199254740992 := Nat.lt_of_le_of_lt (Nat.div_le_self _ _) h1
    by_cases hlt : i < N
    · have hneg : decide (-(N : Int) + (i : Int) < 0) = true := by simp; omega
      generalize m0 / 2 ^ i = y at hd hh hl
      generalize decide (m0 % 2 ^ i = 0) = z at hh
      by_cases odd : y % 2 = 1
      · have ho : ((y : Int) % 2 == 1) = true := by rw [beq_iff_eq]; omega
        have hz := Lib.hid (show decide (m0 % 2 ^ (i + 1) = 0) = false by rw [hh.out, decide_eq_true odd]; simp)
        clear odd hh
        go_wp2
        go_round
        case rel => exact ⟨i + 1, by omega, by rw [hd.out]; go_num, by go_num, by rw [hz.out]⟩
        case measure => simp [intOf]; omega
      · have ho : ((y : Int) % 2 == 1) = false := by rw [beq_eq_false_iff_ne]; omega
        have hz := Lib.hid (show decide (m0 % 2 ^ (i + 1) = 0) = z by rw [hh.out, decide_eq_false odd]; simp)
        clear odd hh
        go_wp2
        go_round
        case rel => exact ⟨i + 1, by omega, by rw [hd.out]; go_num, by go_num, by rw [hz.out]⟩
        case measure => simp [intOf]; omega
    · obtain rfl : i = N := by omega
      have hneg : decide (-(i : Int) + (i : Int) < 0) = false := by simp; omega
      clear hd hh
      rw [hT.out] at hl
      rw [hT.out, hX.out]
      have hy : decide ((9223372036854775808 : Int) < (T : Int) + 1) = false := by simp; omega
      go_wp2
      go_loop [6, 7] (fun m e => m = .int .u64 (T : Int) ∧ e = .int .i64 0) (fun _ _ => 0)
      case atStart => exact ⟨rfl, by go_num⟩
      case round =>
        obtain ⟨rfl, rfl⟩ := hrel
        go_wp2
        go_ret3
        exact ⟨ret3 (neg_back (T + 1) (by omega)), B1.out⟩

set_option maxHeartbeats 1000000 in
set_option maxRecDepth 100000 in
theorem floor_up_out (E F m0 N T : Nat) (hE : E ≠ 2047) (V : Valued false E F m0 (N : Int)) (h0 : 0 < m0) (h1 : m0 < 9007199254740992) (hN2 : N ≤ 1074) (hT : Hid (m0 * 2 ^ N = T)) (hb : 9223372036854775808 ≤ m0 * 2 ^ N) (w : World) : Floored false E F w 0 false 1 := by
  have hE' : ((E : Int) == 2047) = false := by simp; omega
  have hm : ((m0 : Int) == 0) = false := by simp; omega
  have B0 := Lib.hid ((Below.refl w.heap.size w).alloc (Nat.le_refl _) (cells3 false E F))
  clear hE
  go_enter Tryd.func68, Tryd.ntmps68
  go_wp2_with fail
  refine (V.out _).mono ?_
  rintro e w1 ⟨rfl, b1⟩
  have B1 := Lib.hid (B0.out.trans (b1.mono B0.out.size))
  obtain ⟨c0, c1, c2⟩ := three _ _ _ _ _ b1
  clear b1
  go_wp2
  go_loop [6, 7, 8] (fun m e x => m = .int .u64 (m0 : Int) ∧ e = .int .i64 (N : Int) ∧ x = .bool true) (fun _ _ _ => 0)
  case atStart => exact ⟨rfl, rfl, rfl⟩
  case round =>
    obtain ⟨rfl, rfl, rfl⟩ := hrel
    go_wp2
    go_loop [6, 7] (fun m e => ∃ i : Nat, i ≤ N ∧ m0 * 2 ^ i < 18446744073709551616 ∧ m = .int .u64 ((m0 * 2 ^ i : Nat) : Int) ∧ e = .int .i64 ((N : Int) - (i : Int))) (fun _ e => (intOf e).toNat)
    case atStart => exact ⟨0, Nat.zero_le _, by simp; omega, by simp, by simp⟩
    case round =>
      obtain ⟨i, hi, hlt, rfl, rfl⟩ := hrel
      have hd := Lib.hid (show m0 * 2 ^ (i + 1) = m0 * 2 ^ i * 2 by rw [Nat.pow_succ, Nat.mul_assoc])
      by_cases hend : i < N
      · have hpos : decide ((0 : Int) < (N : Int) - (i : Int)) = true := by simp; omega
        by_cases big : 9223372036854775808 ≤ m0 * 2 ^ i
        · generalize m0 * 2 ^ i = y at hd hlt big
          have hy : decide ((9223372036854775808 : Int) ≤ (y : Int)) = true := by simp; omega
          go_wp2
          go_ret3
          exact ⟨rfl, B1.out⟩
        · generalize m0 * 2 ^ i = y at hd hlt big
          have hy : decide ((9223372036854775808 : Int) ≤ (y : Int)) = false := by simp; omega
          go_wp2
          go_round
          case rel => exact ⟨i + 1, by omega, by rw [hd.out]; omega, by rw [hd.out]; go_num, by go_num⟩
          case measure => simp [intOf]; omega
      · obtain rfl : i = N := by omega
        have hpos : decide ((0 : Int) < (i : Int) - (i : Int)) = false := by simp
        rw [hT.out] at hb hlt
        rw [hT.out]
        clear hd
        have hy : decide ((9223372036854775808 : Int) ≤ (T : Int)) = true := by simp; omega
        go_wp2
        go_ret3
        exact ⟨rfl, B1.out⟩

set_option maxHeartbeats 1000000 in
set_option maxRecDepth 100000 in
theorem floor_up_in (E F m0 N T : Nat) (hE : E ≠ 2047) (V : Valued false E F m0 (N : Int)) (h0 : 0 < m0) (h1 : m0 < 9007199254740992) (hN2 : N ≤ 1074) (hT : Hid (m0 * 2 ^ N = T)) (hb : m0 * 2 ^ N < 9223372036854775808) (w : World) : Floored false E F w (T : Int) true 0 := by
  have hE' : ((E : Int) == 2047) = false := by simp; omega
  have hm : ((m0 : Int) == 0) = false := by simp; omega
  have B0 := Lib.hid ((Below.refl w.heap.size w).alloc (Nat.le_refl _) (cells3 false E F))
  clear hE
  go_enter Tryd.func68, Tryd.ntmps68
  go_wp2_with fail
  refine (V.out _).mono ?_
  rintro e w1 ⟨rfl, b1⟩
  have B1 := Lib.hid (B0.out.trans (b1.mono B0.out.size))
  obtain ⟨c0, c1, c2⟩ := three _ _ _ _ _ b1
  clear b1
  go_wp2
  go_loop [6, 7, 8] (fun m e x => m = .int .u64 (m0 : Int) ∧ e = .int .i64 (N : Int) ∧ x = .bool true) (fun _ _ _ => 0)
  case atStart => exact ⟨rfl, rfl, rfl⟩
  case round =>
    obtain ⟨rfl, rfl, rfl⟩ := hrel
    go_wp2
    go_loop [6, 7] (fun m e => ∃ i : Nat, i ≤ N ∧ m0 * 2 ^ i < 18446744073709551616 ∧ m = .int .u64 ((m0 * 2 ^ i : Nat) : Int) ∧ e = .int .i64 ((N : Int) - (i : Int))) (fun _ e => (intOf e).toNat)
    case atStart => exact ⟨0, Nat.zero_le _, by simp; omega, by simp, by simp⟩
    case round =>
      obtain ⟨i, hi, hlt, rfl, rfl⟩ := hrel
      have hd := Lib.hid (show m0 * 2 ^ (i + 1) = m0 * 2 ^ i * 2 by rw [Nat.pow_succ, Nat.mul_assoc])
      by_cases hend : i < N
      · have hpos : decide ((0 : Int) < (N : Int) - (i : Int)) = true := by simp; omega
        by_cases big : 9223372036854775808 ≤ m0 * 2 ^ i
        · exfalso
          have p := Nat.pow_le_pow_right (show 0 < 2 by omega) (show i + 1 ≤ N by omega)
          have q := Nat.mul_le_mul_left m0 p
          rw [hd.out] at q
          omega
        · generalize m0 * 2 ^ i = y at hd hlt big
          have hy : decide ((9223372036854775808 : Int) ≤ (y : Int)) = false := by simp; omega
          go_wp2
          go_round
          case rel => exact ⟨i + 1, by omega, by rw [hd.out]; omega, by rw [hd.out]; go_num, by go_num⟩
          case measure => simp [intOf]; omega
      · obtain rfl : i = N := by omega
        have hpos : decide ((0 : Int) < (i : Int) - (i : Int)) = false := by simp
        rw [hT.out] at hb hlt
        rw [hT.out]
        clear hd
        have hy : decide ((9223372036854775808 : Int) ≤ (T : Int)) = false := by simp; omega
        go_wp2
        go_ret3
        exact ⟨rfl, B1.out⟩

set_option maxHeartbeats 1000000 in
set_option maxRecDepth 100000 in
theorem floor_up_outm (E F m0 N T : Nat) (hE : E ≠ 2047) (V : Valued true E F m0 (N : Int)) (h0 : 0 < m0) (h1 : m0 < 9007199254740992) (hN2 : N ≤ 1074) (hT : Hid (m0 * 2 ^ N = T)) (hb : 9223372036854775808 < m0 * 2 ^ N) (w : World) : Floored true E F w 0 false (-1) := by
  have hE' : ((E : Int) == 2047) = false := by simp; omega
  have hm : ((m0 : Int) == 0) = false := by simp; omega
  have B0 := Lib.hid ((Below.refl w.heap.size w).alloc (Nat.le_refl _) (cells3 true E F))
  clear hE
  go_enter Tryd.func68, Tryd.ntmps68
  go_wp2_with fail
  refine (V.out _).mono ?_
  rintro e w1 ⟨rfl, b1⟩
  have B1 := Lib.hid (B0.out.trans (b1.mono B0.out.size))
  obtain ⟨c0, c1, c2⟩ := three _ _ _ _ _ b1
  clear b1
  go_wp2
  go_loop [6, 7, 8] (fun m e x => m = .int .u64 (m0 : Int) ∧ e = .int .i64 (N : Int) ∧ x = .bool true) (fun _ _ _ => 0)
  case atStart => exact ⟨rfl, rfl, rfl⟩
  case round =>
    obtain ⟨rfl, rfl, rfl⟩ := hrel
    go_wp2
    go_loop [6, 7] (fun m e => ∃ i : Nat, i ≤ N ∧ m0 * 2 ^ i < 18446744073709551616 ∧ m = .int .u64 ((m0 * 2 ^ i : Nat) : Int) ∧ e = .int .i64 ((N : Int) - (i : Int))) (fun _ e => (intOf e).toNat)
    case atStart => exact ⟨0, Nat.zero_le _, by simp; omega, by simp, by simp⟩
    case round =>
      obtain ⟨i, hi, hlt, rfl, rfl⟩ := hrel
      have hd := Lib.hid (show m0 * 2 ^ (i + 1) = m0 * 2 ^ i * 2 by rw [Nat.pow_succ, Nat.mul_assoc])
      by_cases hend : i < N
      · have hpos : decide ((0 : Int) < (N : Int) - (i : Int)) = true := by simp; omega
        by_cases big : 9223372036854775808 ≤ m0 * 2 ^ i
        · generalize m0 * 2 ^ i = y at hd hlt big
          have hy : decide ((9223372036854775808 : Int) ≤ (y : Int)) = true := by simp; omega
          go_wp2
          go_ret3
          exact ⟨rfl, B1.out⟩
        · generalize m0 * 2 ^ i = y at hd hlt big
          have hy : decide ((9223372036854775808 : Int) ≤ (y : Int)) = false := by simp; omega
          go_wp2
          go_round
          case rel => exact ⟨i + 1, by omega, by rw [hd.out]; omega, by rw [hd.out]; go_num, by go_num⟩
          case measure => simp [intOf]; omega
      · obtain rfl : i = N := by omega
        have hpos : decide ((0 : Int) < (i : Int) - (i : Int)) = false := by simp
        rw [hT.out] at hb hlt
        rw [hT.out]
        clear hd
        have hy : decide ((9223372036854775808 : Int) < (T : Int)) = true := by simp; omega
        go_wp2
        go_ret3
        exact ⟨rfl, B1.out⟩

set_option maxHeartbeats 1000000 in
set_option maxRecDepth 100000 in
theorem floor_up_inm (E F m0 N T : Nat) (hE : E ≠ 2047) (V : Valued true E F m0 (N : Int)) (h0 : 0 < m0) (h1 : m0 < 9007199254740992) (hN2 : N ≤ 1074) (hT : Hid (m0 * 2 ^ N = T)) (hb : m0 * 2 ^ N ≤ 9223372036854775808) (w : World) : Floored true E F w (-(T : Int)) true 0 := by
  have hE' : ((E : Int) == 2047) = false := by simp; omega
  have hm : ((m0 : Int) == 0) = false := by simp; omega
  have B0 := Lib.hid ((Below.refl w.heap.size w).alloc (Nat.le_refl _) (cells3 true E F))
  clear hE
  go_enter Tryd.func68, Tryd.ntmps68
  go_wp2_with fail
  refine (V.out _).mono ?_
  rintro e w1 ⟨rfl, b1⟩
  have B1 := Lib.hid (B0.out.trans (b1.mono B0.out.size))
  obtain ⟨c0, c1, c2⟩ := three _ _ _ _ _ b1
  clear b1
  go_wp2
  go_loop [6, 7, 8] (fun m e x => m = .int .u64 (m0 : Int) ∧ e = .int .i64 (N : Int) ∧ x = .bool true) (fun _ _ _ => 0)
  case atStart => exact ⟨rfl, rfl, rfl⟩
  case round =>
    obtain ⟨rfl, rfl, rfl⟩ := hrel
    go_wp2
    go_loop [6, 7] (fun m e => ∃ i : Nat, i ≤ N ∧ m0 * 2 ^ i < 18446744073709551616 ∧ m = .int .u64 ((m0 * 2 ^ i : Nat) : Int) ∧ e = .int .i64 ((N : Int) - (i : Int))) (fun _ e => (intOf e).toNat)
    case atStart => exact ⟨0, Nat.zero_le _, by simp; omega, by simp, by simp⟩
    case round =>
      obtain ⟨i, hi, hlt, rfl, rfl⟩ := hrel
      have hd := Lib.hid (show m0 * 2 ^ (i + 1) = m0 * 2 ^ i * 2 by rw [Nat.pow_succ, Nat.mul_assoc])
      by_cases hend : i < N
      · have hpos : decide ((0 : Int) < (N : Int) - (i : Int)) = true := by simp; omega
        by_cases big : 9223372036854775808 ≤ m0 * 2 ^ i
        · exfalso
          have p := Nat.pow_le_pow_right (show 0 < 2 by omega) (show i + 1 ≤ N by omega)
          have q := Nat.mul_le_mul_left m0 p
          rw [hd.out] at q
          omega
        · generalize m0 * 2 ^ i = y at hd hlt big
          have hy : decide ((9223372036854775808 : Int) ≤ (y : Int)) = false := by simp; omega
          go_wp2
          go_round
          case rel => exact ⟨i + 1, by omega, by rw [hd.out]; omega, by rw [hd.out]; go_num, by go_num⟩
          case measure => simp [intOf]; omega
      · obtain rfl : i = N := by omega
        have hpos : decide ((0 : Int) < (i : Int) - (i : Int)) = false := by simp
        rw [hT.out] at hb hlt
        rw [hT.out]
        clear hd
        have hy : decide ((9223372036854775808 : Int) < (T : Int)) = false := by simp; omega
        go_wp2
        go_ret3
        exact ⟨ret3 (neg_back _ (by omega)), B1.out⟩


end Go.Proofs.YtiddpoihhfphmaaDoor
