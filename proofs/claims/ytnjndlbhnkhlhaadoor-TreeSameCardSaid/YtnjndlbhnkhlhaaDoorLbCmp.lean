/- The contracts of cmp.Compare, real.Same and real.Compare; comparing numbers with a point. -/
import Derived.Test.YtnjndlbhnkhlhaaDoorLbReal
namespace Go.Proofs.YtnjndlbhnkhlhaaDoor
open Go Go.RowKit Rl
set_option maxRecDepth 20000

def ky (b : Nat) : Nat := if 9223372036854775808 ≤ bt b then 18446744073709551615 - bt b else bt b + 9223372036854775808
def c3 (x y : Int) : Int := if x < y then -1 else if y < x then 1 else 0
theorem c3_lt {a b : Int} (h : a < b) : c3 a b = -1 := by unfold c3; rw [if_pos h]
theorem c3_gt {a b : Int} (h : b < a) : c3 a b = 1 := by unfold c3; rw [if_neg (by omega), if_pos h]
theorem c3_eq (a : Int) : c3 a a = 0 := by unfold c3; rw [if_neg (by omega), if_neg (by omega)]
theorem same_any (a b : Nat) (ha : a < 18446744073709551616) (hb : b < 18446744073709551616) (v : Bool) (hv : decide (bt a = bt b) = v) (w : World) :
    Calls Tryd.prog 63 #[.float .f64 a, .float .f64 b] w fun e w' => e = .returned (.bool v) ∧ w = w' := by
  have H := Lib.hid (bits_any a ha w)
  have G := Lib.hid (bits_any b hb w)
  generalize bt a = x at H hv
  generalize bt b = y at G hv
  have hv' : ((x : Int) == (y : Int)) = v := by rw [← hv, Bool.eq_iff_iff, beq_iff_eq, decide_eq_true_iff]; exact Int.ofNat_inj
  clear hv
  go_enter Tryd.func63, Tryd.ntmps63
  go_wp2_with fail
  refine H.out.mono ?_
  rintro e w' ⟨rfl, rfl⟩
  go_wp2_with fail
  refine G.out.mono ?_
  rintro e w' ⟨rfl, rfl⟩
  go_wp2
  go_ret
  exact ⟨rfl, rfl⟩

/- ### comparing floats -/
theorem tlt (x y : Nat) (hx : x < 18446744073709551616) (hy : y < 18446744073709551616) (nx : nan x = false) (ny : nan y = false) : (FloatKind.f64.format.order x y == some .lt) = decide (sv x < sv y) := by
  rw [show FloatKind.f64.format.order x y = _ from order_eq x y hx hy nx ny, Bool.eq_iff_iff]; simp [Int.compare_eq_lt]
theorem tgt (x y : Nat) (hx : x < 18446744073709551616) (hy : y < 18446744073709551616) (nx : nan x = false) (ny : nan y = false) : (FloatKind.f64.format.order x y == some .gt) = decide (sv y < sv x) := by
  rw [show FloatKind.f64.format.order x y = _ from order_eq x y hx hy nx ny, Bool.eq_iff_iff]; simp [Int.compare_eq_gt]
theorem teq (x y : Nat) (hx : x < 18446744073709551616) (hy : y < 18446744073709551616) (nx : nan x = false) (ny : nan y = false) : (FloatKind.f64.format.order x y == some .eq) = decide (sv x = sv y) := by
  rw [show FloatKind.f64.format.order x y = _ from order_eq x y hx hy nx ny, Bool.eq_iff_iff]; simp
theorem tnan (x y : Nat) (hx : x < 18446744073709551616) (hy : y < 18446744073709551616) (h : (nan x || nan y) = true) (o : Ordering) : (FloatKind.f64.format.order x y == some o) = false := by
  cases hn : nan x
  · rw [show FloatKind.f64.format.order x y = _ from order_nan_r x y hy (by rw [hn] at h; simpa using h)]; rfl
  · rw [show FloatKind.f64.format.order x y = _ from order_nan_l x y hx hn]; rfl

/- which of two comes first, as numbers; of a NaN: none -/
def cv (a b : Nat) : Int := if (nan a || nan b) = true then 0 else c3 (sv a) (sv b)
def co (a b : Nat) : Bool := !(nan a || nan b)

end Go.Proofs.YtnjndlbhnkhlhaaDoor
