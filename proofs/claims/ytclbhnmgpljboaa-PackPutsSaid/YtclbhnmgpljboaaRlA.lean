/- The contracts of the program's functions on bits, places in the row and classes. -/
import Derived.Test.YtclbhnmgpljboaaProg
import Derived.Test.YtclbhnmgpljboaaRlMath
import Derived.WalkKit
import Derived.WalkLawsBesides
import Derived.Lib.Hide
import Derived.Deep.LoopGhost
namespace Go.Proofs.Ytclbhnmgpljboaa
open Go Go.RowKit Rl

/- ### bits of 64 -/
theorem ofInt64 (a : Nat) (ha : a < 18446744073709551616) : (BitVec.ofInt 64 (a : Int)).toNat = a := by
  rw [BitVec.ofInt_natCast, BitVec.toNat_ofNat]; exact Nat.mod_eq_of_lt (by omega)
theorem and64 (a b : Nat) (ha : a < 18446744073709551616) (hb : b < 18446744073709551616) : bits .and .u64 (a : Int) (b : Int) = ((a &&& b : Nat) : Int) := by
  have hx : a &&& b < 2 ^ 64 := Nat.and_lt_two_pow _ (by omega)
  show IntKind.u64.wrap ((BitVec.ofInt 64 (a : Int) &&& BitVec.ofInt 64 (b : Int)).toNat : Int) = _
  rw [BitVec.toNat_and, ofInt64 a ha, ofInt64 b hb, IntKind.wrap_u64]
  omega
theorem or64 (a b : Nat) (ha : a < 18446744073709551616) (hb : b < 18446744073709551616) : bits .or .u64 (a : Int) (b : Int) = ((a ||| b : Nat) : Int) := by
  have hx : a ||| b < 2 ^ 64 := Nat.or_lt_two_pow (by omega) (by omega)
  show IntKind.u64.wrap ((BitVec.ofInt 64 (a : Int) ||| BitVec.ofInt 64 (b : Int)).toNat : Int) = _
  rw [BitVec.toNat_or, ofInt64 a ha, ofInt64 b hb, IntKind.wrap_u64]
  omega
theorem not64 (a : Nat) (ha : a < 18446744073709551616) : bits .xor .u64 IntKind.u64.max (a : Int) = ((18446744073709551615 - a : Nat) : Int) := by
  show IntKind.u64.wrap ((BitVec.allOnes 64 ^^^ BitVec.ofInt 64 (a : Int)).toNat : Int) = _
  rw [BitVec.allOnes_xor, BitVec.toNat_not, ofInt64 a ha, IntKind.wrap_u64]
  omega
theorem top_and_lo (a : Nat) (h : a < 9223372036854775808) : a &&& 9223372036854775808 = 0 := by
  apply Nat.eq_of_testBit_eq
  intro i
  rw [Nat.testBit_and, show (9223372036854775808 : Nat) = 2 ^ 63 by decide, Nat.testBit_two_pow]
  by_cases e : 63 = i
  · subst e; rw [Nat.testBit_lt_two_pow (by omega)]; simp
  · simp [e]
theorem top_and_hi (a : Nat) (h : 9223372036854775808 ≤ a) (h2 : a < 18446744073709551616) : a &&& 9223372036854775808 = 9223372036854775808 := by
  apply Nat.eq_of_testBit_eq
  intro i
  rw [Nat.testBit_and, show (9223372036854775808 : Nat) = 2 ^ 63 by decide, Nat.testBit_two_pow]
  by_cases e : 63 = i
  · subst e; rw [Nat.testBit_eq_decide_div_mod_eq, decide_eq_true (by omega)]; simp
  · simp [e]
theorem top_or (a : Nat) (h : a < 9223372036854775808) : a ||| 9223372036854775808 = a + 9223372036854775808 := by
  have := Nat.two_pow_add_eq_or_of_lt (b := a) (i := 63) (by omega) 1
  rw [show 2 ^ 63 * 1 = 9223372036854775808 by decide] at this
  rw [Nat.or_comm]; omega
theorem top_xor (a : Nat) (h : a < 9223372036854775808) : a ^^^ 9223372036854775808 = a + 9223372036854775808 := by
  rw [← top_or a h]
  apply Nat.eq_of_testBit_eq
  intro i
  rw [Nat.testBit_xor, Nat.testBit_or, show (9223372036854775808 : Nat) = 2 ^ 63 by decide, Nat.testBit_two_pow]
  by_cases e : 63 = i
  · subst e; rw [Nat.testBit_lt_two_pow (by omega)]; simp
  · simp [e]
theorem top_xor_hi (a : Nat) (h : 9223372036854775808 ≤ a) (h2 : a < 18446744073709551616) : a ^^^ 9223372036854775808 = a - 9223372036854775808 := by
  have := top_xor (a - 9223372036854775808) (by omega)
  rw [show a - 9223372036854775808 + 9223372036854775808 = a by omega] at this
  have e : (a - 9223372036854775808 ^^^ 9223372036854775808) ^^^ 9223372036854775808 = a - 9223372036854775808 := by rw [Nat.xor_assoc, Nat.xor_self, Nat.xor_zero]
  rw [this] at e; exact e

/- ### what the calls answer, as plain functions of the bits -/
def bt (b : Nat) : Nat := if nan b then 9221120237041090560 else b
def ky (b : Nat) : Nat := if 9223372036854775808 ≤ bt b then 18446744073709551615 - bt b else bt b + 9223372036854775808
def at_ (k : Nat) : Nat := if k < 9223372036854775808 then 18446744073709551615 - k else k - 9223372036854775808
def up (b : Nat) : Nat := if 18442240474082181120 ≤ ky b then 9221120237041090560 else at_ (ky b + 1)
def c3 (x y : Int) : Int := if x < y then -1 else if y < x then 1 else 0
theorem bt_lt (b : Nat) (h : b < 18446744073709551616) : bt b < 18446744073709551616 := by unfold bt; split <;> omega
theorem ky_lt (b : Nat) (h : b < 18446744073709551616) : ky b < 18446744073709551616 := by have := bt_lt b h; unfold ky; split <;> omega
theorem at_lt (k : Nat) (h : k < 18446744073709551616) : at_ k < 18446744073709551616 := by unfold at_; split <;> omega
theorem up_lt (b : Nat) : up b < 18446744073709551616 := by unfold up; split; omega; exact at_lt _ (by omega)

theorem ne_nan (b : Nat) (h : b < 18446744073709551616) (n : nan b = true) : (FloatKind.f64.format.order b b != some .eq) = true := by
  rw [show FloatKind.f64.format.order b b = none from order_nan_l b b h n]; rfl
theorem ne_num (b : Nat) (h : b < 18446744073709551616) (n : nan b = false) : (FloatKind.f64.format.order b b != some .eq) = false := by
  rw [show FloatKind.f64.format.order b b = _ from order_eq b b h h n n]; simp

theorem run13 (b : Nat) (w : World) : (callFunc 26 #[.float .f64 b]).run Try.prog w = .ok (.value (.int .u64 b)) w := by
  rw [run_callFunc_extern Try.func26 (by kernel_rfl) (by kernel_rfl) (by kernel_rfl) (e := Extern.MathFloatBits.float64bits) (by kernel_rfl)]; rfl
theorem run15 (b : Nat) (w : World) : (callFunc 8 #[.int .u64 (b : Int)]).run Try.prog w = .ok (.value (.float .f64 b)) w := by
  rw [run_callFunc_extern Try.func8 (by kernel_rfl) (by kernel_rfl) (by kernel_rfl) (e := Extern.MathFloatBits.float64frombits) (by kernel_rfl)]; rfl

theorem notOne_any (b : Nat) (h : b < 18446744073709551616) (v : Bool) (hv : nan b = v) (w : World) :
    Calls Try.prog 36 #[.float .f64 b] w fun e w' => e = .returned (.bool v) ∧ w = w' := by
  cases v
  · have hn := ne_num b h hv
    clear hv
    go_enter Try.func36, Try.ntmps36
    go_wp2
    go_ret
    exact ⟨rfl, rfl⟩
  · have hn := ne_nan b h hv
    clear hv
    go_enter Try.func36, Try.ntmps36
    go_wp2
    go_ret
    exact ⟨rfl, rfl⟩

theorem bits_any (b : Nat) (h : b < 18446744073709551616) (w : World) :
    Calls Try.prog 31 #[.float .f64 b] w fun e w' => e = .returned (.int .u64 (bt b : Int)) ∧ w = w' := by
  cases hv : nan b
  · have H := Lib.hid (notOne_any b h false hv w)
    have E := Lib.hid (show bt b = b by unfold bt; rw [hv]; simp)
    clear hv
    rw [E.out]
    have r13 := run13 b
    go_enter Try.func31, Try.ntmps31
    go_wp2_with fail
    refine H.out.mono ?_
    rintro e w' ⟨rfl, rfl⟩
    go_wp2
    go_ret
    exact ⟨rfl, rfl⟩
  · have H := Lib.hid (notOne_any b h true hv w)
    have E := Lib.hid (show bt b = 9221120237041090560 by unfold bt; rw [hv]; simp)
    clear hv
    rw [E.out]
    go_enter Try.func31, Try.ntmps31
    go_wp2_with fail
    refine H.out.mono ?_
    rintro e w' ⟨rfl, rfl⟩
    go_wp2
    go_ret
    exact ⟨rfl, rfl⟩
end Go.Proofs.Ytclbhnmgpljboaa
