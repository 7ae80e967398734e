/- The contracts of cmp.Compare, real.Same and real.Compare; comparing numbers with a point. -/
import Derived.Test.YtiddpoihhfphmaaDoorLbReal
namespace Go.Proofs.YtiddpoihhfphmaaDoor
open Go Go.RowKit Rl
set_option maxRecDepth 20000

def ky (b : Nat) : Nat := if 9223372036854775808 ≤ bt b then 18446744073709551615 - bt b else bt b + 9223372036854775808
def c3 (x y : Int) : Int := if x < y then -1 else if y < x then 1 else 0
theorem c3_lt {a b : Int} (h : a < b) : c3 a b = -1 := by unfold c3; rw [if_pos h]
theorem c3_gt {a b : Int} (h : b < a) : c3 a b = 1 := by unfold c3; rw [if_neg (by omega), if_pos h]
theorem c3_eq (a : Int) : c3 a a = 0 := by unfold c3; rw [if_neg (by omega), if_neg (by omega)]
theorem cmpI_any (x y : Int) (w : World) :
    Calls Tryd.prog 71 #[.int .i64 x, .int .i64 y] w fun e w' => e = .returned (.int .i64 (c3 x y)) ∧ w = w' := by
  unfold c3
  by_cases a : x < y
  · rw [if_pos a]
    have h1 : decide (x < y) = true := by simp; omega
    go_enter Tryd.func71, Tryd.ntmps71
    go_wp2_with go_in
    go_ret
    exact ⟨rfl, rfl⟩
  · have h1 : decide (x < y) = false := by simp; omega
    rw [if_neg a]
    by_cases c : y < x
    · rw [if_pos c]
      have h2 : decide (y < x) = true := by simp; omega
      go_enter Tryd.func71, Tryd.ntmps71
      go_wp2_with go_in
      go_ret
      exact ⟨rfl, rfl⟩
    · rw [if_neg c]
      have h2 : decide (y < x) = false := by simp; omega
      go_enter Tryd.func71, Tryd.ntmps71
      go_wp2_with go_in
      go_ret
      exact ⟨rfl, rfl⟩

theorem same_any (a b : Nat) (ha : a < 18446744073709551616) (hb : b < 18446744073709551616) (v : Bool) (hv : decide (bt a = bt b) = v) (w : World) :
    Calls Tryd.prog 83 #[.float .f64 a, .float .f64 b] w fun e w' => e = .returned (.bool v) ∧ w = w' := by
  have H := Lib.hid (bits_any a ha w)
  have G := Lib.hid (bits_any b hb w)
  generalize bt a = x at H hv
  generalize bt b = y at G hv
  have hv' : ((x : Int) == (y : Int)) = v := by rw [← hv, Bool.eq_iff_iff, beq_iff_eq, decide_eq_true_iff]; exact Int.ofNat_inj
  clear hv
  go_enter Tryd.func83, Tryd.ntmps83
  go_wp2_with fail
  refine H.out.mono ?_
  rintro e w' ⟨rfl, rfl⟩
  go_wp2_with fail
  refine G.out.mono ?_
  rintro e w' ⟨rfl, rfl⟩
  go_wp2
  go_ret
  exact ⟨rfl, rfl⟩

/- ### comparing floats -/
theorem tlt (x y : Nat) (hx : x < 18446744073709551616) (hy : y < 18446744073709551616) (nx : nan x = false) (ny : nan y = false) : (FloatKind.f64.format.order x y == some .lt) = decide (sv x < sv y) := by
  rw [show FloatKind.f64.format.order x y = _ from order_eq x y hx hy nx ny, Bool.eq_iff_iff]; simp [Int.compare_eq_lt]
theorem tgt (x y : Nat) (hx : x < 18446744073709551616) (hy : y < 18446744073709551616) (nx : nan x = false) (ny : nan y = false) : (FloatKind.f64.format.order x y == some .gt) = decide (sv y < sv x) := by
  rw [show FloatKind.f64.format.order x y = _ from order_eq x y hx hy nx ny, Bool.eq_iff_iff]; simp [Int.compare_eq_gt]
theorem teq (x y : Nat) (hx : x < 18446744073709551616) (hy : y < 18446744073709551616) (nx : nan x = false) (ny : nan y = false) : (FloatKind.f64.format.order x y == some .eq) = decide (sv x = sv y) := by
  rw [show FloatKind.f64.format.order x y = _ from order_eq x y hx hy nx ny, Bool.eq_iff_iff]; simp
theorem tnan (x y : Nat) (hx : x < 18446744073709551616) (hy : y < 18446744073709551616) (h : (nan x || nan y) = true) (o : Ordering) : (FloatKind.f64.format.order x y == some o) = false := by
  cases hn : nan x
  · rw [show FloatKind.f64.format.order x y = _ from order_nan_r x y hy (by rw [hn] at h; simpa using h)]; rfl
  · rw [show FloatKind.f64.format.order x y = _ from order_nan_l x y hx hn]; rfl

/- which of two comes first, as numbers; of a NaN: none -/
def cv (a b : Nat) : Int := if (nan a || nan b) = true then 0 else c3 (sv a) (sv b)
def co (a b : Nat) : Bool := !(nan a || nan b)
theorem compare_any (a b : Nat) (ha : a < 18446744073709551616) (hb : b < 18446744073709551616) (w : World) :
    Calls Tryd.prog 73 #[.float .f64 a, .float .f64 b] w fun e w' => e = .returned (.tuple #[.int .i64 (cv a b), .bool (co a b)]) ∧ w = w' := by
  by_cases n : (nan a || nan b) = true
  · have t1 := tnan a b ha hb n .lt
    have t2 := tnan a b ha hb n .gt
    have t3 := tnan a b ha hb n .eq
    rw [show cv a b = 0 by unfold cv; rw [if_pos n], show co a b = false by unfold co; rw [n]; rfl]
    clear n
    go_enter Tryd.func73, Tryd.ntmps73
    go_wp2
    go_ret2
    exact ⟨rfl, rfl⟩
  · have na : nan a = false := by cases h : nan a <;> simp_all
    have nb : nan b = false := by cases h : nan b <;> simp_all
    rw [show cv a b = c3 (sv a) (sv b) by unfold cv; rw [if_neg n], show co a b = true by unfold co; rw [na, nb]; rfl]
    have t1 := tlt a b ha hb na nb
    have t2 := tgt a b ha hb na nb
    have t3 := teq a b ha hb na nb
    clear n na nb
    generalize sv a = x at t1 t2 t3
    generalize sv b = y at t1 t2 t3
    unfold c3
    by_cases l : x < y
    · rw [if_pos l]
      rw [decide_eq_true l] at t1
      clear t2 t3
      go_enter Tryd.func73, Tryd.ntmps73
      go_wp2
      go_ret2
      exact ⟨rfl, rfl⟩
    · rw [if_neg l]
      rw [decide_eq_false l] at t1
      by_cases g : y < x
      · rw [if_pos g]
        rw [decide_eq_true g] at t2
        clear t3
        go_enter Tryd.func73, Tryd.ntmps73
        go_wp2
        go_ret2
        exact ⟨rfl, rfl⟩
      · rw [if_neg g]
        rw [decide_eq_false g] at t2
        rw [decide_eq_true (by omega)] at t3
        go_enter Tryd.func73, Tryd.ntmps73
        go_wp2
        go_ret2
        exact ⟨rfl, rfl⟩

end Go.Proofs.YtiddpoihhfphmaaDoor
