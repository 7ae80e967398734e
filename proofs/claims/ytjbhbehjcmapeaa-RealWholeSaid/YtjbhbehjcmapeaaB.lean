/- The contracts of the program's functions on places in the row, comparisons and classes. -/
import Derived.Test.YtjbhbehjcmapeaaA
namespace Go.Proofs.Ytjbhbehjcmapeaa
open Go Go.RowKit Rl

theorem ret_u64 {a b : Int} (h : a = b) : Ending.returned (.int .u64 a) = .returned (.int .u64 b) := by rw [h]

theorem key_any (b : Nat) (h : b < 18446744073709551616) (w : World) :
    Calls Try.prog 23 #[.float .f64 b] w fun e w' => e = .returned (.int .u64 (ky b : Int)) ∧ w = w' := by
  have H := Lib.hid (bits_any b h w)
  have L := bt_lt b h
  have E := Lib.hid (show ky b = if 9223372036854775808 ≤ bt b then 18446744073709551615 - bt b else bt b + 9223372036854775808 from rfl)
  rw [E.out]; clear E
  generalize bt b = t at H L
  have hs : IntKind.u64.signed = false := rfl
  by_cases c : 9223372036854775808 ≤ t
  · have h1 : (bits .and .u64 (t : Int) 9223372036854775808 != 0) = true := by
      rw [show (9223372036854775808 : Int) = ((9223372036854775808 : Nat) : Int) from rfl, and64 _ _ L (by omega), top_and_hi t c L]; rfl
    have h2 := Lib.hid (not64 t L)
    rw [if_pos c]
    go_enter Try.func23, Try.ntmps23
    go_wp2_with fail
    refine H.out.mono ?_
    rintro e w' ⟨rfl, rfl⟩
    go_wp2
    go_ret
    exact ⟨ret_u64 h2.out, rfl⟩
  · have h1 : (bits .and .u64 (t : Int) 9223372036854775808 != 0) = false := by
      rw [show (9223372036854775808 : Int) = ((9223372036854775808 : Nat) : Int) from rfl, and64 _ _ L (by omega), top_and_lo t (by omega)]; rfl
    have h2 := Lib.hid (or64 t 9223372036854775808 L (by omega))
    have h3 := Lib.hid (top_or t (by omega))
    rw [if_neg c]
    go_enter Try.func23, Try.ntmps23
    go_wp2_with fail
    refine H.out.mono ?_
    rintro e w' ⟨rfl, rfl⟩
    go_wp2
    go_ret
    exact ⟨ret_u64 (by rw [← h3.out]; exact h2.out), rfl⟩

theorem atKey_any (k : Nat) (h : k < 18446744073709551616) (w : World) :
    Calls Try.prog 36 #[.int .u64 (k : Int)] w fun e w' => e = .returned (.float .f64 (at_ k)) ∧ w = w' := by
  have hs : IntKind.u64.signed = false := rfl
  by_cases c : k < 9223372036854775808
  · have h1 : (bits .and .u64 (k : Int) 9223372036854775808 == 0) = true := by
      rw [show (9223372036854775808 : Int) = ((9223372036854775808 : Nat) : Int) from rfl, and64 _ _ h (by omega), top_and_lo k c]; rfl
    have h2 := not64 k h
    have r15 := run15 (18446744073709551615 - k)
    rw [show at_ k = 18446744073709551615 - k by unfold at_; rw [if_pos c]]
    go_enter Try.func36, Try.ntmps36
    go_wp2
    go_ret
    exact ⟨rfl, rfl⟩
  · have h1 : (bits .and .u64 (k : Int) 9223372036854775808 == 0) = false := by
      rw [show (9223372036854775808 : Int) = ((9223372036854775808 : Nat) : Int) from rfl, and64 _ _ h (by omega), top_and_hi k (by omega) h]; rfl
    have h2 : bits .xor .u64 (k : Int) 9223372036854775808 = ((k - 9223372036854775808 : Nat) : Int) := by
      rw [show (9223372036854775808 : Int) = ((9223372036854775808 : Nat) : Int) from rfl, bits_xor_u64_nat _ _ h (by omega), top_xor_hi k (by omega) h]
    have r15 := run15 (k - 9223372036854775808)
    rw [show at_ k = k - 9223372036854775808 by unfold at_; rw [if_neg c]]
    go_enter Try.func36, Try.ntmps36
    go_wp2
    go_ret
    exact ⟨rfl, rfl⟩

theorem up_any (b : Nat) (h : b < 18446744073709551616) (w : World) :
    Calls Try.prog 24 #[.float .f64 b] w fun e w' => e = .returned (.float .f64 (up b)) ∧ w = w' := by
  have H := Lib.hid (key_any b h w)
  have L := ky_lt b h
  have E := Lib.hid (show up b = if 18442240474082181120 ≤ ky b then 9221120237041090560 else at_ (ky b + 1) from rfl)
  rw [E.out]; clear E
  generalize ky b = k at H L
  by_cases c : 18442240474082181120 ≤ k
  · have h1 : decide ((18442240474082181120 : Int) ≤ (k : Int)) = true := by simp; omega
    have r15 : ∀ w, (callFunc 15 #[.int .u64 9221120237041090560]).run Try.prog w = .ok (.value (.float .f64 9221120237041090560)) w := run15 9221120237041090560
    rw [if_pos c]
    go_enter Try.func24, Try.ntmps24
    go_wp2_with fail
    refine H.out.mono ?_
    rintro e w' ⟨rfl, rfl⟩
    go_wp2
    go_ret
    exact ⟨rfl, rfl⟩
  · have h1 : decide ((18442240474082181120 : Int) ≤ (k : Int)) = false := by simp; omega
    have G := Lib.hid (atKey_any (k + 1) (by omega) w)
    rw [if_neg c]
    go_enter Try.func24, Try.ntmps24
    go_wp2_with fail
    refine H.out.mono ?_
    rintro e w' ⟨rfl, rfl⟩
    go_wp2_with fail
    refine G.out.mono ?_
    rintro e w' ⟨rfl, rfl⟩
    go_wp2
    go_ret
    exact ⟨rfl, rfl⟩

theorem cmpU_any (x y : Nat) (w : World) :
    Calls Try.prog 32 #[.int .u64 (x : Int), .int .u64 (y : Int)] w fun e w' => e = .returned (.int .i64 (c3 x y)) ∧ w = w' := by
  unfold c3
  by_cases a : (x : Int) < y
  · rw [if_pos a]
    have h1 : decide (x < y) = true := by simp; omega
    go_enter Try.func32, Try.ntmps32
    go_wp2_with go_in
    go_ret
    exact ⟨rfl, rfl⟩
  · have h1 : decide (x < y) = false := by simp; omega
    rw [if_neg a]
    by_cases c : (y : Int) < x
    · rw [if_pos c]
      have h2 : decide (y < x) = true := by simp; omega
      go_enter Try.func32, Try.ntmps32
      go_wp2_with go_in
      go_ret
      exact ⟨rfl, rfl⟩
    · rw [if_neg c]
      have h2 : decide (y < x) = false := by simp; omega
      go_enter Try.func32, Try.ntmps32
      go_wp2_with go_in
      go_ret
      exact ⟨rfl, rfl⟩

theorem order_any (a b : Nat) (ha : a < 18446744073709551616) (hb : b < 18446744073709551616) (w : World) :
    Calls Try.prog 18 #[.float .f64 a, .float .f64 b] w fun e w' => e = .returned (.int .i64 (c3 (ky a) (ky b))) ∧ w = w' := by
  have H := Lib.hid (key_any a ha w)
  have G := Lib.hid (key_any b hb w)
  have C := Lib.hid (cmpU_any (ky a) (ky b) w)
  go_enter Try.func18, Try.ntmps18
  go_wp2_with fail
  refine H.out.mono ?_
  rintro e w' ⟨rfl, rfl⟩
  go_wp2_with fail
  refine G.out.mono ?_
  rintro e w' ⟨rfl, rfl⟩
  go_wp2_with fail
  refine C.out.mono ?_
  rintro e w' ⟨rfl, rfl⟩
  go_wp2
  go_ret
  exact ⟨rfl, rfl⟩

theorem same_any (a b : Nat) (ha : a < 18446744073709551616) (hb : b < 18446744073709551616) (v : Bool) (hv : decide (bt a = bt b) = v) (w : World) :
    Calls Try.prog 20 #[.float .f64 a, .float .f64 b] w fun e w' => e = .returned (.bool v) ∧ w = w' := by
  have H := Lib.hid (bits_any a ha w)
  have G := Lib.hid (bits_any b hb w)
  generalize bt a = x at H hv
  generalize bt b = y at G hv
  have hv' : ((x : Int) == (y : Int)) = v := by rw [← hv, Bool.eq_iff_iff, beq_iff_eq, decide_eq_true_iff]; exact Int.ofNat_inj
  clear hv
  go_enter Try.func20, Try.ntmps20
  go_wp2_with fail
  refine H.out.mono ?_
  rintro e w' ⟨rfl, rfl⟩
  go_wp2_with fail
  refine G.out.mono ?_
  rintro e w' ⟨rfl, rfl⟩
  go_wp2
  go_ret
  exact ⟨rfl, rfl⟩

/- ### comparing floats -/
theorem tlt (x y : Nat) (hx : x < 18446744073709551616) (hy : y < 18446744073709551616) (nx : nan x = false) (ny : nan y = false) : (FloatKind.f64.format.order x y == some .lt) = decide (sv x < sv y) := by
  rw [show FloatKind.f64.format.order x y = _ from order_eq x y hx hy nx ny, Bool.eq_iff_iff]; simp [Int.compare_eq_lt]
theorem tgt (x y : Nat) (hx : x < 18446744073709551616) (hy : y < 18446744073709551616) (nx : nan x = false) (ny : nan y = false) : (FloatKind.f64.format.order x y == some .gt) = decide (sv y < sv x) := by
  rw [show FloatKind.f64.format.order x y = _ from order_eq x y hx hy nx ny, Bool.eq_iff_iff]; simp [Int.compare_eq_gt]
theorem teq (x y : Nat) (hx : x < 18446744073709551616) (hy : y < 18446744073709551616) (nx : nan x = false) (ny : nan y = false) : (FloatKind.f64.format.order x y == some .eq) = decide (sv x = sv y) := by
  rw [show FloatKind.f64.format.order x y = _ from order_eq x y hx hy nx ny, Bool.eq_iff_iff]; simp
theorem tnan (x y : Nat) (hx : x < 18446744073709551616) (hy : y < 18446744073709551616) (h : (nan x || nan y) = true) (o : Ordering) : (FloatKind.f64.format.order x y == some o) = false := by
  cases hn : nan x
  · rw [show FloatKind.f64.format.order x y = _ from order_nan_r x y hy (by rw [hn] at h; simpa using h)]; rfl
  · rw [show FloatKind.f64.format.order x y = _ from order_nan_l x y hx hn]; rfl

/- which of two comes first, as numbers; of a NaN: none -/
def cv (a b : Nat) : Int := if (nan a || nan b) = true then 0 else c3 (sv a) (sv b)
def co (a b : Nat) : Bool := !(nan a || nan b)
theorem compare_any (a b : Nat) (ha : a < 18446744073709551616) (hb : b < 18446744073709551616) (w : World) :
    Calls Try.prog 16 #[.float .f64 a, .float .f64 b] w fun e w' => e = .returned (.tuple #[.int .i64 (cv a b), .bool (co a b)]) ∧ w = w' := by
  by_cases n : (nan a || nan b) = true
  · have t1 := tnan a b ha hb n .lt
    have t2 := tnan a b ha hb n .gt
    have t3 := tnan a b ha hb n .eq
    rw [show cv a b = 0 by unfold cv; rw [if_pos n], show co a b = false by unfold co; rw [n]; rfl]
    clear n
    go_enter Try.func16, Try.ntmps16
    go_wp2
    go_ret2
    exact ⟨rfl, rfl⟩
  · have na : nan a = false := by cases h : nan a <;> simp_all
    have nb : nan b = false := by cases h : nan b <;> simp_all
    rw [show cv a b = c3 (sv a) (sv b) by unfold cv; rw [if_neg n], show co a b = true by unfold co; rw [na, nb]; rfl]
    have t1 := tlt a b ha hb na nb
    have t2 := tgt a b ha hb na nb
    have t3 := teq a b ha hb na nb
    clear n na nb
    generalize sv a = x at t1 t2 t3
    generalize sv b = y at t1 t2 t3
    unfold c3
    by_cases l : x < y
    · rw [if_pos l]
      rw [decide_eq_true l] at t1
      clear t2 t3
      go_enter Try.func16, Try.ntmps16
      go_wp2
      go_ret2
      exact ⟨rfl, rfl⟩
    · rw [if_neg l]
      rw [decide_eq_false l] at t1
      by_cases g : y < x
      · rw [if_pos g]
        rw [decide_eq_true g] at t2
        clear t3
        go_enter Try.func16, Try.ntmps16
        go_wp2
        go_ret2
        exact ⟨rfl, rfl⟩
      · rw [if_neg g]
        rw [decide_eq_false g] at t2
        rw [decide_eq_true (by omega)] at t3
        go_enter Try.func16, Try.ntmps16
        go_wp2
        go_ret2
        exact ⟨rfl, rfl⟩

def cls (b : Nat) : Int := if nan b = true then 4 else if b % 9223372036854775808 = 0 then 0 else if b % 9223372036854775808 < 4503599627370496 then 1 else if b % 9223372036854775808 = 9218868437227405312 then 3 else 2
theorem sv_zero : sv 0 = 0 := by decide
theorem sv_a : sv 9227875636482146304 = -4503599627370496 := by decide
theorem sv_b : sv 4503599627370496 = 4503599627370496 := by decide
theorem sv_c : sv 18442240474082181119 = -9218868437227405311 := by decide
theorem sv_d : sv 9218868437227405311 = 9218868437227405311 := by decide
theorem class_any (b : Nat) (h : b < 18446744073709551616) (w : World) :
    Calls Try.prog 25 #[.float .f64 b] w fun e w' => e = .returned (.int .i64 (cls b)) ∧ w = w' := by
  cases hn : nan b
  · have H := Lib.hid (notOne_any b h false hn w)
    have t1 := teq b 0 h (by omega) hn (by decide)
    have t2 := tgt b 9227875636482146304 h (by omega) hn (by decide)
    have t3 := tlt b 4503599627370496 h (by omega) hn (by decide)
    have t4 := tlt b 18442240474082181119 h (by omega) hn (by decide)
    have t5 := tgt b 9218868437227405311 h (by omega) hn (by decide)
    rw [sv_zero] at t1
    rw [sv_a] at t2
    rw [sv_b] at t3
    rw [sv_c] at t4
    rw [sv_d] at t5
    have hr : b % 9223372036854775808 ≤ 9218868437227405312 := by unfold nan at hn; have := of_decide_eq_false hn; omega
    have e : sv b = (b % 9223372036854775808 : Nat) ∨ sv b = -((b % 9223372036854775808 : Nat) : Int) := by unfold sv; split <;> omega
    unfold cls
    rw [hn, if_neg (by simp)]
    clear hn
    generalize sv b = s at t1 t2 t3 t4 t5 e
    generalize b % 9223372036854775808 = r at hr e
    by_cases c1 : r = 0
    · rw [if_pos c1]
      rw [decide_eq_true (by omega)] at t1
      clear t2 t3 t4 t5 c1 e hr
      go_enter Try.func25, Try.ntmps25
      go_wp2_with fail
      refine H.out.mono ?_
      rintro e w' ⟨rfl, rfl⟩
      go_wp2
      go_ret
      exact ⟨rfl, rfl⟩
    · rw [if_neg c1]
      rw [decide_eq_false (by omega)] at t1
      by_cases c2 : r < 4503599627370496
      · rw [if_pos c2]
        rw [decide_eq_true (by omega)] at t2 t3
        clear t4 t5 c1 c2 e hr
        go_enter Try.func25, Try.ntmps25
        go_wp2_with fail
        refine H.out.mono ?_
        rintro e w' ⟨rfl, rfl⟩
        go_wp2
        go_ret
        exact ⟨rfl, rfl⟩
      · rw [if_neg c2]
        by_cases c3 : r = 9218868437227405312
        · rw [if_pos c3]
          rcases e with e | e
          · rw [decide_eq_true (by omega)] at t2
            rw [decide_eq_false (by omega)] at t3
            rw [decide_eq_false (by omega)] at t4
            rw [decide_eq_true (by omega)] at t5
            clear c1 c2 c3 e hr
            go_enter Try.func25, Try.ntmps25
            go_wp2_with fail
            refine H.out.mono ?_
            rintro e w' ⟨rfl, rfl⟩
            go_wp2
            go_ret
            exact ⟨rfl, rfl⟩
          · rw [decide_eq_false (by omega)] at t2
            rw [decide_eq_true (by omega)] at t4
            clear t3 t5 c1 c2 c3 e hr
            go_enter Try.func25, Try.ntmps25
            go_wp2_with fail
            refine H.out.mono ?_
            rintro e w' ⟨rfl, rfl⟩
            go_wp2
            go_ret
            exact ⟨rfl, rfl⟩
        · rw [if_neg c3]
          rcases e with e | e
          · rw [decide_eq_true (by omega)] at t2
            rw [decide_eq_false (by omega)] at t3
            rw [decide_eq_false (by omega)] at t4
            rw [decide_eq_false (by omega)] at t5
            clear c1 c2 c3 e hr
            go_enter Try.func25, Try.ntmps25
            go_wp2_with fail
            refine H.out.mono ?_
            rintro e w' ⟨rfl, rfl⟩
            go_wp2
            go_ret
            exact ⟨rfl, rfl⟩
          · rw [decide_eq_false (by omega)] at t2
            rw [decide_eq_false (by omega)] at t4
            rw [decide_eq_false (by omega)] at t5
            clear t3 c1 c2 c3 e hr
            go_enter Try.func25, Try.ntmps25
            go_wp2_with fail
            refine H.out.mono ?_
            rintro e w' ⟨rfl, rfl⟩
            go_wp2
            go_ret
            exact ⟨rfl, rfl⟩
  · have H := Lib.hid (notOne_any b h true hn w)
    rw [show cls b = 4 by unfold cls; rw [if_pos hn]]
    clear hn
    go_enter Try.func25, Try.ntmps25
    go_wp2_with fail
    refine H.out.mono ?_
    rintro e w' ⟨rfl, rfl⟩
    go_wp2
    go_ret
    exact ⟨rfl, rfl⟩

theorem from_any (b : Nat) (h : b < 18446744073709551616) (w : World) :
    Calls Try.prog 9 #[.int .u64 (b : Int)] w fun e w' => e = .returned (.tuple #[.float .f64 (if bt b = b then b else 0), .bool (decide (bt b = b))]) ∧ w = w' := by
  have H := Lib.hid (bits_any b h w)
  generalize bt b = x at H
  have r15 := run15 b
  by_cases c : x = b
  · rw [if_pos c, decide_eq_true c]
    have hc : (x != b) = false := by simp [c]
    clear c
    go_enter Try.func9, Try.ntmps9
    go_wp2_with fail
    refine H.out.mono ?_
    rintro e w' ⟨rfl, rfl⟩
    go_wp2
    go_ret2
    exact ⟨rfl, rfl⟩
  · rw [if_neg c, decide_eq_false c]
    have hc : (x != b) = true := by simp [c]
    clear c
    go_enter Try.func9, Try.ntmps9
    go_wp2_with fail
    refine H.out.mono ?_
    rintro e w' ⟨rfl, rfl⟩
    go_wp2
    go_ret2
    exact ⟨rfl, rfl⟩
end Go.Proofs.Ytjbhbehjcmapeaa
