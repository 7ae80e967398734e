/- The contracts of the program's Against and Whole. -/
import Derived.Test.YtjbhbehjcmapeaaH
namespace Go.Proofs.Ytjbhbehjcmapeaa
open Go Go.RowKit Rl

theorem rng_of (b : Nat) (hb : b < 18446744073709551616) (h1 : ¬ 4890909195324358656 ≤ sv b) (h2 : ¬ sv b < -4890909195324358656) : Rng b := by
  unfold Rng
  unfold sv at h1 h2
  split at h1 <;> split at h2 <;> omega

theorem conv_any (b : Nat) (hb : b < 18446744073709551616) (h : Rng b) (w : World) : (convert 23 2 (.float .f64 b)).run Try.prog w = .ok (.int .i64 (tv b)) w :=
  run_convert_float_int w 23 2 .f64 .i64 b (tv b) (by kernel_rfl) Try.underlying2 (tv_conv b hb h)

set_option maxHeartbeats 1000000 in
theorem against_any (n : Int) (b : Nat) (h1 : -9223372036854775808 ≤ n) (h2 : n ≤ 9223372036854775807) (hb : b < 18446744073709551616) (w : World) :
    Calls Try.prog 21 #[.int .i64 n, .float .f64 b] w fun e w' => e = .returned (.tuple #[.int .i64 (ag n b), .bool (!nan b)]) ∧ w = w' := by
  cases hn : nan b
  · have H := Lib.hid (notOne_any b hb false hn w)
    have t1 := tgt b 4890909195324358656 hb (by omega) hn (by decide)
    have t2 := teq b 4890909195324358656 hb (by omega) hn (by decide)
    have t3 := tlt b 14114281232179134464 hb (by omega) hn (by decide)
    rw [sv_63] at t1 t2
    rw [sv_m63] at t3
    by_cases c1 : 4890909195324358656 ≤ sv b
    · rw [ag_high n b hb hn h2 c1]
      clear hn t3
      by_cases c2 : 4890909195324358656 < sv b
      · rw [decide_eq_true c2] at t1
        rw [decide_eq_false (by omega)] at t2
        clear c1 c2
        go_enter Try.func21, Try.ntmps21
        go_wp2_with fail
        refine H.out.mono ?_
        rintro e w' ⟨rfl, rfl⟩
        go_wp2
        go_ret2
        exact ⟨rfl, rfl⟩
      · rw [decide_eq_false c2] at t1
        rw [decide_eq_true (by omega)] at t2
        clear c1 c2
        go_enter Try.func21, Try.ntmps21
        go_wp2_with fail
        refine H.out.mono ?_
        rintro e w' ⟨rfl, rfl⟩
        go_wp2
        go_ret2
        exact ⟨rfl, rfl⟩
    · rw [decide_eq_false (by omega)] at t1 t2
      by_cases c2 : sv b < -4890909195324358656
      · rw [ag_low n b hb hn h1 c2]
        rw [decide_eq_true c2] at t3
        clear c1 c2 hn
        go_enter Try.func21, Try.ntmps21
        go_wp2_with fail
        refine H.out.mono ?_
        rintro e w' ⟨rfl, rfl⟩
        go_wp2
        go_ret2
        exact ⟨rfl, rfl⟩
      · rw [decide_eq_false c2] at t3
        have R := rng_of b hb c1 c2
        have hc := fun w => conv_any b hb R w
        clear c1 c2
        by_cases c3' : n = tv b
        · obtain ⟨f1, f2, f3⟩ := tv_back b R
          have C := Lib.hid (compare_any (floatOfInt .f64 (tv b)) b f1 hb w)
          have E := Lib.hid (show cv (floatOfInt .f64 (tv b)) b = ag n b by
            unfold cv ag
            rw [f2, hn, if_neg (by simp), if_neg (by simp), c3_S _ _ f1 hb, f3, c3'])
          have E2 := Lib.hid (show co (floatOfInt .f64 (tv b)) b = true by unfold co; rw [f2, hn]; rfl)
          rw [E.out, E2.out] at C
          clear f1 f2 f3 hn R E E2
          subst c3'
          generalize ag (tv b) b = z at C
          have hz : (tv b != tv b) = false := by simp
          generalize tv b = t at hc C hz
          go_enter Try.func21, Try.ntmps21
          go_wp2_with fail
          refine H.out.mono ?_
          rintro e w' ⟨rfl, rfl⟩
          go_wp2_with fail
          refine C.out.mono ?_
          rintro e w' ⟨rfl, rfl⟩
          go_wp2
          go_ret2
          exact ⟨rfl, rfl⟩
        · have E := ag_cut n b c3' hn
          have C := Lib.hid (cmpI_any n (tv b) w)
          rw [E] at C
          have hz : (n != tv b) = true := by simp [c3']
          clear E c3' hn R
          generalize ag n b = z at C
          generalize tv b = t at hc C hz
          go_enter Try.func21, Try.ntmps21
          go_wp2_with fail
          refine H.out.mono ?_
          rintro e w' ⟨rfl, rfl⟩
          go_wp2_with fail
          refine C.out.mono ?_
          rintro e w' ⟨rfl, rfl⟩
          go_wp2
          go_ret2
          exact ⟨rfl, rfl⟩
  · have H := Lib.hid (notOne_any b hb true hn w)
    rw [show ag n b = 0 by unfold ag; rw [if_pos hn]]
    clear hn
    go_enter Try.func21, Try.ntmps21
    go_wp2_with fail
    refine H.out.mono ?_
    rintro e w' ⟨rfl, rfl⟩
    go_wp2
    go_ret2
    exact ⟨rfl, rfl⟩
end Go.Proofs.Ytjbhbehjcmapeaa
