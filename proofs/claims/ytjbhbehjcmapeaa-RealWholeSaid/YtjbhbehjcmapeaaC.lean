/- The chapter's examples hold; the NaN and infinity. -/
import Derived.Test.YtjbhbehjcmapeaaB
namespace Go.Proofs.Ytjbhbehjcmapeaa
open Go Go.RowKit Rl

theorem cmpI_any (x y : Int) (w : World) :
    Calls Try.prog 34 #[.int .i64 x, .int .i64 y] w fun e w' => e = .returned (.int .i64 (c3 x y)) ∧ w = w' := by
  unfold c3
  by_cases a : x < y
  · rw [if_pos a]
    have h1 : decide (x < y) = true := by simp; omega
    go_enter Try.func34, Try.ntmps34
    go_wp2_with go_in
    go_ret
    exact ⟨rfl, rfl⟩
  · have h1 : decide (x < y) = false := by simp; omega
    rw [if_neg a]
    by_cases c : y < x
    · rw [if_pos c]
      have h2 : decide (y < x) = true := by simp; omega
      go_enter Try.func34, Try.ntmps34
      go_wp2_with go_in
      go_ret
      exact ⟨rfl, rfl⟩
    · rw [if_neg c]
      have h2 : decide (y < x) = false := by simp; omega
      go_enter Try.func34, Try.ntmps34
      go_wp2_with go_in
      go_ret
      exact ⟨rfl, rfl⟩

theorem nan_any (w : World) : Calls Try.prog 27 #[] w fun e w' => e = .returned (.float .f64 9221120237041090561) ∧ w = w' := by
  have r15 : ∀ w, (callFunc 15 #[.int .u64 9221120237041090561]).run Try.prog w = .ok (.value (.float .f64 9221120237041090561)) w := run15 9221120237041090561
  go_enter Try.func27, Try.ntmps27
  go_wp2
  go_ret
  exact ⟨rfl, rfl⟩

theorem inf_any (w : World) : Calls Try.prog 28 #[.int .i64 1] w fun e w' => e = .returned (.float .f64 9218868437227405312) ∧ w = w' := by
  have r15 : ∀ w, (callFunc 15 #[.int .u64 9218868437227405312]).run Try.prog w = .ok (.value (.float .f64 9218868437227405312)) w := run15 9218868437227405312
  go_enter Try.func28, Try.ntmps28
  go_wp2
  go_ret
  exact ⟨rfl, rfl⟩

theorem against_fixed (w : World) : Calls Try.prog 21 #[.int .i64 9007199254740993, .float .f64 4845873199050653696] w fun e w' => e = .returned (.tuple #[.int .i64 1, .bool true]) ∧ w = w' := by
  have H := Lib.hid (notOne_any 4845873199050653696 (by omega) false (by decide) w)
  have t1 : (FloatKind.f64.format.order 4845873199050653696 4890909195324358656 == some .gt) = false := by decide +kernel
  have t2 : (FloatKind.f64.format.order 4845873199050653696 4890909195324358656 == some .eq) = false := by decide +kernel
  have t3 : (FloatKind.f64.format.order 4845873199050653696 14114281232179134464 == some .lt) = false := by decide +kernel
  have hc : ∀ w, (convert 23 2 (.float .f64 4845873199050653696)).run Try.prog w = .ok (.int .i64 9007199254740992) w := fun w =>
    run_convert_float_int w 23 2 .f64 .i64 4845873199050653696 9007199254740992 (by kernel_rfl) Try.underlying2 (by kernel_rfl)
  have C := Lib.hid (cmpI_any 9007199254740993 9007199254740992 w)
  rw [show c3 9007199254740993 9007199254740992 = 1 by decide] at C
  go_enter Try.func21, Try.ntmps21
  go_wp2_with fail
  refine H.out.mono ?_
  rintro e w' ⟨rfl, rfl⟩
  go_wp2_with fail
  refine C.out.mono ?_
  rintro e w' ⟨rfl, rfl⟩
  go_wp2
  go_ret2
  exact ⟨rfl, rfl⟩

theorem fixed_any (w : World) : Calls Try.prog 12 #[] w fun e w' => e = .returned (.bool true) ∧ w = w' := by
  have r15 : ∀ w, (callFunc 15 #[.int .u64 9223372036854775808]).run Try.prog w = .ok (.value (.float .f64 9223372036854775808)) w := run15 9223372036854775808
  have C := Lib.hid (compare_any 9223372036854775808 0 (by omega) (by omega) w)
  rw [show cv 9223372036854775808 0 = 0 by decide +kernel, show co 9223372036854775808 0 = true by decide +kernel] at C
  have A := Lib.hid (against_fixed w)
  have O := Lib.hid (order_any 9223372036854775808 0 (by omega) (by omega) w)
  rw [show c3 (ky 9223372036854775808) (ky 0) = -1 by decide +kernel] at O
  have U := Lib.hid (up_any 0 (by omega) w)
  rw [show up 0 = 1 by decide +kernel] at U
  have B := Lib.hid (bits_any 1 (by omega) w)
  rw [show bt 1 = 1 by decide +kernel] at B
  go_enter Try.func12, Try.ntmps12
  go_wp2_with fail
  refine C.out.mono ?_
  rintro e w' ⟨rfl, rfl⟩
  go_wp2_with fail
  refine A.out.mono ?_
  rintro e w' ⟨rfl, rfl⟩
  go_wp2_with fail
  refine O.out.mono ?_
  rintro e w' ⟨rfl, rfl⟩
  go_wp2_with fail
  refine U.out.mono ?_
  rintro e w' ⟨rfl, rfl⟩
  go_wp2_with fail
  refine B.out.mono ?_
  rintro e w' ⟨rfl, rfl⟩
  go_wp2
  go_ret
  exact ⟨rfl, rfl⟩
end Go.Proofs.Ytjbhbehjcmapeaa
