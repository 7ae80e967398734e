/- Contracts, joined: LbFloat, LbBits, LbReal. -/
import Ieee.Arith
import Derived.Test.YtpnllbojifnopaaGreatDoorProg
import Derived.WalkKit
import Derived.WalkLawsBesides
import Derived.Lib.Hide
import Derived.Deep.LoopGhost
/- Plain facts on the bits of numbers with a point that moves: how the model orders them, in whole numbers. No program. -/
namespace Rl

def nan (b : Nat) : Bool := decide (9218868437227405312 < b % 9223372036854775808)
def neg (b : Nat) : Bool := decide (9223372036854775808 ≤ b)
/- the place in the row of all, 0 and -0 as one -/
def sv (b : Nat) : Int := if 9223372036854775808 ≤ b then -((b % 9223372036854775808 : Nat) : Int) else (b : Int)
/- the size, in parts of 2^-1074 -/
def M (r : Nat) : Nat := if r < 4503599627370496 then r else (4503599627370496 + r % 4503599627370496) * 2 ^ (r / 4503599627370496 - 1)

theorem M_succ (r : Nat) : M r < M (r + 1) := by
  unfold M
  by_cases h1 : r + 1 < 4503599627370496
  · rw [if_pos (by omega), if_pos h1]; omega
  · by_cases h2 : r < 4503599627370496
    · have e : r + 1 = 4503599627370496 := by omega
      rw [if_pos h2, if_neg h1, e]; simp; omega
    · rw [if_neg h2, if_neg h1]
      have hp : 0 < 2 ^ (r / 4503599627370496 - 1) := Nat.two_pow_pos _
      by_cases h3 : r % 4503599627370496 + 1 < 4503599627370496
      · have e1 : (r + 1) / 4503599627370496 = r / 4503599627370496 := by omega
        have e2 : (r + 1) % 4503599627370496 = r % 4503599627370496 + 1 := by omega
        rw [e1, e2]
        exact Nat.mul_lt_mul_of_pos_right (by omega) hp
      · have e1 : (r + 1) / 4503599627370496 - 1 = (r / 4503599627370496 - 1) + 1 := by omega
        have e2 : (r + 1) % 4503599627370496 = 0 := by omega
        rw [e1, e2, Nat.pow_succ, Nat.mul_comm (2 ^ _) 2, ← Nat.mul_assoc]
        exact Nat.mul_lt_mul_of_pos_right (by omega) hp

theorem M_lt {a b : Nat} (h : a < b) : M a < M b := by
  induction b with
  | zero => omega
  | succ n ih =>
    by_cases e : a = n
    · subst e; exact M_succ a
    · exact Nat.lt_trans (ih (by omega)) (M_succ n)
theorem M_iff (a b : Nat) : M a < M b ↔ a < b := by
  constructor
  · intro h
    by_cases l : a < b
    · exact l
    · by_cases e : a = b
      · subst e; omega
      · have := M_lt (show b < a by omega); omega
  · exact M_lt
theorem M_eq (a b : Nat) : M a = M b ↔ a = b := by
  constructor
  · intro h
    by_cases l : a < b
    · have := M_lt l; omega
    · by_cases l2 : b < a
      · have := M_lt l2; omega
      · omega
  · rintro rfl; rfl
theorem M_zero : M 0 = 0 := by unfold M; simp

theorem sw : Ieee.double.signWeight = 9223372036854775808 := by decide
theorem bi : Ieee.double.binade = 4503599627370496 := by decide
theorem ir : Ieee.double.infRung = 9218868437227405312 := by decide
theorem lp : Ieee.double.leastPlace = -1074 := by decide

theorem sign_eq (w : Nat) (h : w < 18446744073709551616) : (w / 9223372036854775808 % 2 == 1) = neg w := by
  unfold neg
  rw [Bool.eq_iff_iff]; simp; omega

theorem read_num (w : Nat) (h : w < 18446744073709551616) (hr : w % 9223372036854775808 < 9218868437227405312) :
    ∃ m k : Nat, Ieee.double.read w = .number (neg w) m (-1074 + (k : Int)) ∧ m * 2 ^ k = M (w % 9223372036854775808) := by
  unfold Ieee.Format.read M
  simp only [sw, bi, ir, lp, sign_eq w h]
  by_cases h1 : w % 9223372036854775808 < 4503599627370496
  · rw [if_pos h1, if_pos h1]; exact ⟨_, 0, rfl, by simp⟩
  · rw [if_neg h1, if_neg h1, if_pos hr]; exact ⟨_, _, rfl, rfl⟩
theorem read_inf (w : Nat) (h : w < 18446744073709551616) (hr : w % 9223372036854775808 = 9218868437227405312) : Ieee.double.read w = .infinity (neg w) := by
  unfold Ieee.Format.read
  simp only [sw, bi, ir, lp, sign_eq w h]
  rw [if_neg (by omega), if_neg (by omega), if_pos hr]
theorem read_nan (w : Nat) (h : w < 18446744073709551616) (hr : nan w = true) : ∃ f, Ieee.double.read w = .nan (neg w) f := by
  unfold nan at hr
  have hr := of_decide_eq_true hr
  unfold Ieee.Format.read
  simp only [sw, bi, ir, lp, sign_eq w h]
  rw [if_neg (by omega), if_neg (by omega), if_neg (by omega)]
  exact ⟨_, rfl⟩

theorem order_nan_l (x y : Nat) (hx : x < 18446744073709551616) (h : nan x = true) : Ieee.double.order x y = none := by
  obtain ⟨f, e⟩ := read_nan x hx h
  unfold Ieee.Format.order
  rw [e]; rfl
theorem order_nan_r (x y : Nat) (hy : y < 18446744073709551616) (h : nan y = true) : Ieee.double.order x y = none := by
  obtain ⟨f, e⟩ := read_nan y hy h
  unfold Ieee.Format.order
  rw [e]; cases Ieee.double.read x <;> rfl

theorem signed_eq (s : Bool) (m k : Nat) : Ieee.signed s m k = if s then -((m * 2 ^ k : Nat) : Int) else ((m * 2 ^ k : Nat) : Int) := by
  unfold Ieee.signed
  rw [Nat.shiftLeft_eq]
theorem cmp_scale (a b : Int) (p : Nat) (hp : 0 < p) : compare (a * p) (b * p) = compare a b := by
  have hp' : (0 : Int) < p := by omega
  rcases Int.lt_trichotomy a b with h | h | h
  · rw [Int.compare_eq_lt.2 h, Int.compare_eq_lt.2 (Int.mul_lt_mul_of_pos_right h hp')]
  · subst h; simp
  · rw [Int.compare_eq_gt.2 h, Int.compare_eq_gt.2 (Int.mul_lt_mul_of_pos_right h hp')]
theorem signed_scale (s : Bool) (m k j : Nat) (h : j ≤ k) : Ieee.signed s m (k - j) * ((2 ^ j : Nat) : Int) = Ieee.signed s m k := by
  rw [signed_eq, signed_eq]
  have e : m * 2 ^ (k - j) * 2 ^ j = m * 2 ^ k := by
    rw [Nat.mul_assoc, ← Nat.pow_add, Nat.sub_add_cancel h]
  cases s
  · simp only [Bool.false_eq_true, if_false]; rw [← Int.natCast_mul, e]
  · simp only [if_true]; rw [Int.neg_mul, ← Int.natCast_mul, e]

theorem order_num (s t : Bool) (m n k j : Nat) :
    Ieee.Datum.order (.number s m (-1074 + (k : Int))) (.number t n (-1074 + (j : Int))) = some (compare (Ieee.signed s m k) (Ieee.signed t n j)) := by
  unfold Ieee.Datum.order
  simp only
  have e : min (-1074 + (k : Int)) (-1074 + (j : Int)) = -1074 + ((min k j : Nat) : Int) := by omega
  rw [e, show (-1074 + (k : Int) - (-1074 + ((min k j : Nat) : Int))).toNat = k - min k j by omega, show (-1074 + (j : Int) - (-1074 + ((min k j : Nat) : Int))).toNat = j - min k j by omega]
  rw [← cmp_scale _ _ (2 ^ min k j) (Nat.two_pow_pos _), signed_scale _ _ _ _ (Nat.min_le_left ..), signed_scale _ _ _ _ (Nat.min_le_right ..)]

/- the size with its sign -/
def S (b : Nat) : Int := if 9223372036854775808 ≤ b then -((M (b % 9223372036854775808) : Nat) : Int) else ((M (b % 9223372036854775808) : Nat) : Int)
theorem S_lt (x y : Nat) (hx : x < 18446744073709551616) (hy : y < 18446744073709551616) : S x < S y ↔ sv x < sv y := by
  unfold S sv
  have a := M_iff (x % 9223372036854775808) (y % 9223372036854775808)
  have b := M_iff (y % 9223372036854775808) (x % 9223372036854775808)
  have c := M_iff 0 (x % 9223372036854775808)
  have d := M_iff 0 (y % 9223372036854775808)
  rw [M_zero] at c d
  split <;> split <;> omega
theorem cmp_of_lt {a b c d : Int} (h : a < b ↔ c < d) (g : b < a ↔ d < c) : compare a b = compare c d := by
  rcases Int.lt_trichotomy c d with l | l | l
  · rw [Int.compare_eq_lt.2 l, Int.compare_eq_lt.2 (h.2 l)]
  · have : a = b := by omega
    subst l; subst this; simp
  · rw [Int.compare_eq_gt.2 l, Int.compare_eq_gt.2 (g.2 l)]

theorem order_eq (x y : Nat) (hx : x < 18446744073709551616) (hy : y < 18446744073709551616) (nx : nan x = false) (ny : nan y = false) :
    Ieee.double.order x y = some (compare (sv x) (sv y)) := by
  have rx : x % 9223372036854775808 ≤ 9218868437227405312 := by unfold nan at nx; have := of_decide_eq_false nx; omega
  have ry : y % 9223372036854775808 ≤ 9218868437227405312 := by unfold nan at ny; have := of_decide_eq_false ny; omega
  by_cases fx : x % 9223372036854775808 = 9218868437227405312
  · by_cases fy : y % 9223372036854775808 = 9218868437227405312
    · unfold Ieee.Format.order
      rw [read_inf x hx fx, read_inf y hy fy]
      unfold Ieee.Datum.order
      simp only [Option.some.injEq]
      unfold neg sv
      by_cases a : 9223372036854775808 ≤ x <;> by_cases b : 9223372036854775808 ≤ y
      · rw [if_pos a, if_pos b, fx, fy]; simp [a, b]
      · rw [if_pos a, if_neg b, fx, show y = 9218868437227405312 by omega]; simp [a]; decide
      · rw [if_neg a, if_pos b, fy, show x = 9218868437227405312 by omega]; simp [b]; decide
      · rw [if_neg a, if_neg b, show x = 9218868437227405312 by omega, show y = 9218868437227405312 by omega]; simp
    · obtain ⟨m, k, e, _⟩ := read_num y hy (by omega)
      unfold Ieee.Format.order
      rw [read_inf x hx fx, e]
      unfold Ieee.Datum.order
      simp only [Option.some.injEq]
      unfold neg
      by_cases a : 9223372036854775808 ≤ x
      · rw [decide_eq_true a, if_pos rfl]
        exact (Int.compare_eq_lt.2 (by unfold sv; (repeat' split) <;> omega)).symm
      · rw [decide_eq_false a, if_neg (by simp)]
        exact (Int.compare_eq_gt.2 (by unfold sv; (repeat' split) <;> omega)).symm
  · obtain ⟨m, k, e, em⟩ := read_num x hx (by omega)
    by_cases fy : y % 9223372036854775808 = 9218868437227405312
    · unfold Ieee.Format.order
      rw [read_inf y hy fy, e]
      unfold Ieee.Datum.order
      simp only [Option.some.injEq]
      unfold neg
      by_cases a : 9223372036854775808 ≤ y
      · rw [decide_eq_true a, if_pos rfl]
        exact (Int.compare_eq_gt.2 (by unfold sv; (repeat' split) <;> omega)).symm
      · rw [decide_eq_false a, if_neg (by simp)]
        exact (Int.compare_eq_lt.2 (by unfold sv; (repeat' split) <;> omega)).symm
    · obtain ⟨n, j, e', en⟩ := read_num y hy (by omega)
      unfold Ieee.Format.order
      rw [e, e', order_num, Option.some.injEq]
      have ex : Ieee.signed (neg x) m k = S x := by rw [signed_eq, em]; unfold neg S; by_cases a : 9223372036854775808 ≤ x <;> simp [a]
      have ey : Ieee.signed (neg y) n j = S y := by rw [signed_eq, en]; unfold neg S; by_cases a : 9223372036854775808 ≤ y <;> simp [a]
      rw [ex, ey]
      exact cmp_of_lt (S_lt x y hx hy) (S_lt y x hy hx)
end Rl

/- Bits of 64 and of 8, and what is returned. -/
namespace Go.Proofs.YtpnllbojifnopaaGreatDoor
open Go Go.RowKit
set_option maxRecDepth 20000


/- ### bits of 64 -/
theorem ofInt64 (a : Nat) (ha : a < 18446744073709551616) : (BitVec.ofInt 64 (a : Int)).toNat = a := by
  rw [BitVec.ofInt_natCast, BitVec.toNat_ofNat]; exact Nat.mod_eq_of_lt (by omega)

theorem and64 (a b : Nat) (ha : a < 18446744073709551616) (hb : b < 18446744073709551616) : bits .and .u64 (a : Int) (b : Int) = ((a &&& b : Nat) : Int) := by
  have hx : a &&& b < 2 ^ 64 := Nat.and_lt_two_pow _ (by omega)
  show IntKind.u64.wrap ((BitVec.ofInt 64 (a : Int) &&& BitVec.ofInt 64 (b : Int)).toNat : Int) = _
  rw [BitVec.toNat_and, ofInt64 a ha, ofInt64 b hb, IntKind.wrap_u64]
  omega

theorem or64 (a b : Nat) (ha : a < 18446744073709551616) (hb : b < 18446744073709551616) : bits .or .u64 (a : Int) (b : Int) = ((a ||| b : Nat) : Int) := by
  have hx : a ||| b < 2 ^ 64 := Nat.or_lt_two_pow (by omega) (by omega)
  show IntKind.u64.wrap ((BitVec.ofInt 64 (a : Int) ||| BitVec.ofInt 64 (b : Int)).toNat : Int) = _
  rw [BitVec.toNat_or, ofInt64 a ha, ofInt64 b hb, IntKind.wrap_u64]
  omega

theorem not64 (a : Nat) (ha : a < 18446744073709551616) : bits .xor .u64 IntKind.u64.max (a : Int) = ((18446744073709551615 - a : Nat) : Int) := by
  show IntKind.u64.wrap ((BitVec.allOnes 64 ^^^ BitVec.ofInt 64 (a : Int)).toNat : Int) = _
  rw [BitVec.allOnes_xor, BitVec.toNat_not, ofInt64 a ha, IntKind.wrap_u64]
  omega

theorem top_and_lo (a : Nat) (h : a < 9223372036854775808) : a &&& 9223372036854775808 = 0 := by
  apply Nat.eq_of_testBit_eq
  intro i
  rw [Nat.testBit_and, show (9223372036854775808 : Nat) = 2 ^ 63 by decide, Nat.testBit_two_pow]
  by_cases e : 63 = i
  · subst e; rw [Nat.testBit_lt_two_pow (by omega)]; simp
  · simp [e]

theorem top_and_hi (a : Nat) (h : 9223372036854775808 ≤ a) (h2 : a < 18446744073709551616) : a &&& 9223372036854775808 = 9223372036854775808 := by
  apply Nat.eq_of_testBit_eq
  intro i
  rw [Nat.testBit_and, show (9223372036854775808 : Nat) = 2 ^ 63 by decide, Nat.testBit_two_pow]
  by_cases e : 63 = i
  · subst e; rw [Nat.testBit_eq_decide_div_mod_eq, decide_eq_true (by omega)]; simp
  · simp [e]

theorem top_or (a : Nat) (h : a < 9223372036854775808) : a ||| 9223372036854775808 = a + 9223372036854775808 := by
  have := Nat.two_pow_add_eq_or_of_lt (b := a) (i := 63) (by omega) 1
  rw [show 2 ^ 63 * 1 = 9223372036854775808 by decide] at this
  rw [Nat.or_comm]; omega

theorem top_xor (a : Nat) (h : a < 9223372036854775808) : a ^^^ 9223372036854775808 = a + 9223372036854775808 := by
  rw [← top_or a h]
  apply Nat.eq_of_testBit_eq
  intro i
  rw [Nat.testBit_xor, Nat.testBit_or, show (9223372036854775808 : Nat) = 2 ^ 63 by decide, Nat.testBit_two_pow]
  by_cases e : 63 = i
  · subst e; rw [Nat.testBit_lt_two_pow (by omega)]; simp
  · simp [e]

theorem top_xor_hi (a : Nat) (h : 9223372036854775808 ≤ a) (h2 : a < 18446744073709551616) : a ^^^ 9223372036854775808 = a - 9223372036854775808 := by
  have := top_xor (a - 9223372036854775808) (by omega)
  rw [show a - 9223372036854775808 + 9223372036854775808 = a by omega] at this
  have e : (a - 9223372036854775808 ^^^ 9223372036854775808) ^^^ 9223372036854775808 = a - 9223372036854775808 := by rw [Nat.xor_assoc, Nat.xor_self, Nat.xor_zero]
  rw [this] at e; exact e


theorem ret_u64 {a b : Int} (h : a = b) : Ending.returned (.int .u64 a) = .returned (.int .u64 b) := by rw [h]
theorem ret_i64 {a b : Int} (h : a = b) : Ending.returned (.int .i64 a) = .returned (.int .i64 b) := by rw [h]
theorem or64_one (n : Nat) (h : n < 18446744073709551616) : bits .or .u64 (n : Int) 1 = ((n ||| 1 : Nat) : Int) := or64 n 1 h (by omega)

theorem not_i64 (n : Int) (h0 : -9223372036854775808 ≤ n) (h1 : n ≤ 9223372036854775807) : bits .xor .i64 (-1) n = -n - 1 := by
  show IntKind.i64.wrap ((BitVec.ofInt 64 (-1) ^^^ BitVec.ofInt 64 n).toNat : Int) = _
  have e1 : BitVec.ofInt 64 (-1) = BitVec.allOnes 64 := by decide
  rw [e1, BitVec.allOnes_xor, BitVec.toNat_not, BitVec.toNat_ofInt]
  simp [IntKind.wrap, IntKind.bits, IntKind.signed]
  omega


theorem or_u8 (m : Nat) : bits .or .u8 ((m : Int) % 256) 128 = ((m % 128 + 128 : Nat) : Int) := by
  have all : ∀ j : Fin 256, bits .or .u8 (j.val : Int) 128 = ((j.val % 128 + 128 : Nat) : Int) := by decide +kernel
  have := all ⟨m % 256, Nat.mod_lt _ (by omega)⟩
  simp only at this
  rw [show ((m : Int) % 256) = ((m % 256 : Nat) : Int) by omega, this]
  omega

theorem andNot_u8 (c : Int) (h0 : 0 ≤ c) (h1 : c < 256) : bits .andNot .u8 c 128 = ((c.toNat % 128 : Nat) : Int) := by
  have all : ∀ j : Fin 256, bits .andNot .u8 (j.val : Int) 128 = ((j.val % 128 : Nat) : Int) := by decide +kernel
  have := all ⟨c.toNat, by omega⟩
  simp only at this
  rw [show ((c.toNat : Nat) : Int) = c by omega] at this
  exact this

theorem and64_one (n : Nat) (h : n < 18446744073709551616) : bits .and .u64 (n : Int) 1 = ((n % 2 : Nat) : Int) := by
  rw [← Nat.and_one_is_mod]; exact and64 n 1 h (by omega)
theorem nat_of {a : Int} (h : (Lit.int .u64 a).wf = true) : ∃ b : Nat, a = (b : Int) ∧ b < 18446744073709551616 := by
  have h1 : 0 ≤ a ∧ a ≤ 18446744073709551615 := by simpa [Lit.wf, IntKind.min, IntKind.max, IntKind.signed, IntKind.bits] using h
  exact ⟨a.toNat, by omega, by omega⟩
end Go.Proofs.YtpnllbojifnopaaGreatDoor

/- The contracts of real.Bits and real.From; a number by its bits. -/
namespace Go.Proofs.YtpnllbojifnopaaGreatDoor
open Go Go.RowKit Rl
set_option maxRecDepth 20000

/- ### what the calls answer, as plain functions of the bits -/
def bt (b : Nat) : Nat := if nan b then 9221120237041090560 else b
theorem bt_lt (b : Nat) (h : b < 18446744073709551616) : bt b < 18446744073709551616 := by unfold bt; split <;> omega
theorem ne_nan (b : Nat) (h : b < 18446744073709551616) (n : nan b = true) : (FloatKind.f64.format.order b b != some .eq) = true := by
  rw [show FloatKind.f64.format.order b b = none from order_nan_l b b h n]; rfl
theorem ne_num (b : Nat) (h : b < 18446744073709551616) (n : nan b = false) : (FloatKind.f64.format.order b b != some .eq) = false := by
  rw [show FloatKind.f64.format.order b b = _ from order_eq b b h h n n]; simp
theorem run13 (b : Nat) (w : World) : (callFunc 128 #[.float .f64 b]).run Tryz.prog w = .ok (.value (.int .u64 b)) w := by
  rw [run_callFunc_extern Tryz.func128 (by kernel_rfl) (by kernel_rfl) (by kernel_rfl) (e := Extern.MathFloatBits.float64bits) (by kernel_rfl)]; rfl
theorem run15 (b : Nat) (w : World) : (callFunc 105 #[.int .u64 (b : Int)]).run Tryz.prog w = .ok (.value (.float .f64 b)) w := by
  rw [run_callFunc_extern Tryz.func105 (by kernel_rfl) (by kernel_rfl) (by kernel_rfl) (e := Extern.MathFloatBits.float64frombits) (by kernel_rfl)]; rfl
theorem notOne_any (b : Nat) (h : b < 18446744073709551616) (v : Bool) (hv : nan b = v) (w : World) :
    Calls Tryz.prog 150 #[.float .f64 b] w fun e w' => e = .returned (.bool v) ∧ w = w' := by
  cases v
  · have hn := ne_num b h hv
    clear hv
    go_enter Tryz.func150, Tryz.ntmps150
    go_wp2
    go_ret
    exact ⟨rfl, rfl⟩
  · have hn := ne_nan b h hv
    clear hv
    go_enter Tryz.func150, Tryz.ntmps150
    go_wp2
    go_ret
    exact ⟨rfl, rfl⟩

theorem bits_any (b : Nat) (h : b < 18446744073709551616) (w : World) :
    Calls Tryz.prog 130 #[.float .f64 b] w fun e w' => e = .returned (.int .u64 (bt b : Int)) ∧ w = w' := by
  cases hv : nan b
  · have H := Lib.hid (notOne_any b h false hv w)
    have E := Lib.hid (show bt b = b by unfold bt; rw [hv]; simp)
    clear hv
    rw [E.out]
    have r13 := run13 b
    go_enter Tryz.func130, Tryz.ntmps130
    go_wp2_with fail
    refine H.out.mono ?_
    rintro e w' ⟨rfl, rfl⟩
    go_wp2
    go_ret
    exact ⟨rfl, rfl⟩
  · have H := Lib.hid (notOne_any b h true hv w)
    have E := Lib.hid (show bt b = 9221120237041090560 by unfold bt; rw [hv]; simp)
    clear hv
    rw [E.out]
    go_enter Tryz.func130, Tryz.ntmps130
    go_wp2_with fail
    refine H.out.mono ?_
    rintro e w' ⟨rfl, rfl⟩
    go_wp2
    go_ret
    exact ⟨rfl, rfl⟩


theorem bt_bt (b : Nat) : bt (bt b) = bt b := by
  by_cases h : nan b = true
  · rw [show bt b = 9221120237041090560 by unfold bt; rw [if_pos h]]; decide +kernel
  · rw [show bt b = b by unfold bt; rw [if_neg h]]; unfold bt; rw [if_neg h]
end Go.Proofs.YtpnllbojifnopaaGreatDoor
