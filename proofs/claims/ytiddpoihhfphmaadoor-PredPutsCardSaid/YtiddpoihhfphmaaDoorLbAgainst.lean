/- Whole numbers against numbers with a point: the contract of real.Against. -/
import Derived.Test.YtiddpoihhfphmaaDoorLbCmp
import Derived.Test.YtiddpoihhfphmaaDoorLbFloat2
namespace Go.Proofs.YtiddpoihhfphmaaDoor
open Go Go.RowKit Rl
set_option maxRecDepth 20000

theorem fi_of (n : Int) (r : Nat) (e : Ieee.double.nearest (decide (n < 0)) n.natAbs 0 = Ieee.double.word (decide (n < 0)) r) (hM : M r = n.natAbs * Q) (hr : r < 9218868437227405312) :
    floatOfInt .f64 n < 18446744073709551616 ∧ nan (floatOfInt .f64 n) = false ∧ S (floatOfInt .f64 n) = n * Q := by
  have e1 : floatOfInt .f64 n = Ieee.double.word (decide (n < 0)) r := e
  rw [e1]
  unfold Ieee.Format.word
  rw [sw]
  by_cases c : n < 0
  · rw [decide_eq_true c, if_pos rfl]
    refine ⟨by omega, by unfold nan; apply decide_eq_false; omega, ?_⟩
    rw [S_eq, if_pos (by omega), show (9223372036854775808 + r) % 9223372036854775808 = r by omega, hM, Int.natCast_mul, ← Int.neg_mul]
    congr 1
    omega
  · rw [decide_eq_false c, if_neg (by simp)]
    refine ⟨by omega, by unfold nan; apply decide_eq_false; omega, ?_⟩
    rw [S_eq, if_neg (by omega), show r % 9223372036854775808 = r by omega, hM, Int.natCast_mul]
    congr 1
    omega
theorem fi_zero : floatOfInt .f64 0 = 0 := by decide +kernel
theorem fi_exact (n : Int) (h : n = 0 ∨ (n.natAbs.log2 ≤ 63 ∧ (n.natAbs.log2 ≤ 52 ∨ n.natAbs % 2 ^ (n.natAbs.log2 - 52) = 0))) :
    floatOfInt .f64 n < 18446744073709551616 ∧ nan (floatOfInt .f64 n) = false ∧ S (floatOfInt .f64 n) = n * Q := by
  by_cases z : n = 0
  · subst z
    rw [fi_zero]
    refine ⟨by omega, by decide, ?_⟩
    rw [S_eq, if_neg (by omega), Nat.zero_mod, M_zero]; simp
  · obtain ⟨h1, h2⟩ := h.resolve_left z
    obtain ⟨r, e, hM, hr⟩ := near_exact (decide (n < 0)) n.natAbs (by omega) h1 h2
    exact fi_of n r e hM hr

theorem T_exact (r : Nat) (h : M r / Q ≤ 9223372036854775808) : M r / Q = 0 ∨ ((M r / Q).log2 ≤ 63 ∧ ((M r / Q).log2 ≤ 52 ∨ M r / Q % 2 ^ ((M r / Q).log2 - 52) = 0)) := by
  by_cases z : M r / Q = 0
  · exact .inl z
  · right
    by_cases s : M r / Q < 9007199254740992
    · have : (M r / Q).log2 < 53 := (Nat.log2_lt z).2 s
      exact ⟨by omega, .inl (by omega)⟩
    · have g : M 4845873199050653696 ≤ M r := by
        rw [M_53, ← Nat.le_div_iff_mul_le Q_pos]; omega
      have g2 : 4845873199050653696 ≤ r := by
        by_cases l : r < 4845873199050653696
        · have := M_lt l; omega
        · omega
      have x1 : 4503599627370496 ≤ 4503599627370496 + r % 4503599627370496 := by omega
      have x2 : 4503599627370496 + r % 4503599627370496 < 9007199254740992 := by omega
      have e : M r / Q = (4503599627370496 + r % 4503599627370496) * 2 ^ (r / 4503599627370496 - 1075) := by
        have : M r = (4503599627370496 + r % 4503599627370496) * 2 ^ (r / 4503599627370496 - 1075) * Q := by
          unfold M
          rw [if_neg (by omega), Nat.mul_assoc, Q_K, ← Nat.pow_add, show r / 4503599627370496 - 1075 + K = r / 4503599627370496 - 1 by unfold K; omega]
        rw [this, Nat.mul_div_cancel _ Q_pos]
      rw [e] at z h ⊢
      generalize 4503599627370496 + r % 4503599627370496 = x at x1 x2 z h e
      generalize r / 4503599627370496 - 1075 = j at z h e
      have L : (x * 2 ^ j).log2 = 52 + j := by
        rw [Nat.log2_eq_iff z]
        refine ⟨?_, ?_⟩
        · rw [Nat.pow_add]; exact Nat.mul_le_mul_right _ x1
        · rw [show 52 + j + 1 = 53 + j by omega, Nat.pow_add]; exact Nat.mul_lt_mul_of_pos_right x2 (Nat.two_pow_pos _)
      have l63 : (x * 2 ^ j).log2 < 64 := (Nat.log2_lt z).2 (by omega)
      refine ⟨by omega, .inr ?_⟩
      rw [L, show 52 + j - 52 = j by omega, Nat.mul_mod_left]

/- those that are whole numbers of 64 bits when they are cut -/
def Rng (b : Nat) : Prop := (b < 9223372036854775808 ∧ b < 4890909195324358656) ∨ (9223372036854775808 ≤ b ∧ b % 9223372036854775808 ≤ 4890909195324358656)
theorem Rng.size {b : Nat} (h : Rng b) : M (b % 9223372036854775808) / Q ≤ 9223372036854775808 ∧ (b < 9223372036854775808 → M (b % 9223372036854775808) / Q < 9223372036854775808) := by
  rcases h with ⟨h1, h2⟩ | ⟨h1, h2⟩
  · have := M_lt (show b % 9223372036854775808 < 4890909195324358656 by omega)
    rw [M_63] at this
    have t := (Nat.div_lt_iff_lt_mul Q_pos).2 this
    exact ⟨by omega, fun _ => t⟩
  · refine ⟨?_, fun h => by omega⟩
    have : M (b % 9223372036854775808) ≤ M 4890909195324358656 := by
      by_cases e : b % 9223372036854775808 = 4890909195324358656
      · rw [e]; exact Nat.le_refl _
      · have := M_lt (show b % 9223372036854775808 < 4890909195324358656 by omega); omega
    rw [M_63] at this
    have t := Nat.div_le_div_right (c := Q) this
    rw [Nat.mul_div_cancel _ Q_pos] at t
    exact t
theorem tv_range (b : Nat) (h : Rng b) : -9223372036854775808 ≤ tv b ∧ tv b ≤ 9223372036854775807 := by
  obtain ⟨s1, s2⟩ := h.size
  unfold tv
  generalize M (b % 9223372036854775808) / Q = t at s1 s2
  split <;> omega
theorem tv_conv (b : Nat) (hb : b < 18446744073709551616) (h : Rng b) : floatToIntVal .f64 b .i64 = some (tv b) := by
  have r := tv_range b h
  have e : (FloatKind.f64.decode b).toInt .zero = some (tv b) := toInt_eq b hb (by unfold Rng at h; omega)
  unfold floatToIntVal
  rw [e]
  simp only
  rw [if_pos]
  exact ⟨r.1, r.2⟩
theorem tv_back (b : Nat) (h : Rng b) : floatOfInt .f64 (tv b) < 18446744073709551616 ∧ nan (floatOfInt .f64 (tv b)) = false ∧ S (floatOfInt .f64 (tv b)) = tv b * Q := by
  apply fi_exact
  have t := T_exact (b % 9223372036854775808) h.size.1
  have a : (tv b).natAbs = M (b % 9223372036854775808) / Q := by
    unfold tv
    generalize M (b % 9223372036854775808) / Q = t
    split <;> omega
  rw [a]
  rcases t with t | t
  · left
    rw [t] at a
    omega
  · exact .inr t

theorem c3_S (x y : Nat) (hx : x < 18446744073709551616) (hy : y < 18446744073709551616) : c3 (sv x) (sv y) = c3 (S x) (S y) := by
  have a := S_lt x y hx hy
  have b := S_lt y x hy hx
  unfold c3
  simp only [a, b]

/- n compared with a number, exactly -/
def ag (n : Int) (b : Nat) : Int := if nan b = true then 0 else c3 (n * Q) (S b)

theorem mulQ {a b : Int} (h : a ≤ b) : a * Q ≤ b * Q := Int.mul_le_mul_of_nonneg_right h (by omega)
theorem mulQ_lt {a b : Int} (h : a < b) : a * Q < b * Q := Int.mul_lt_mul_of_pos_right h (by have := Q_pos; omega)
theorem tv_cut (b : Nat) : (0 ≤ S b ∧ b < 9223372036854775808 ∧ tv b * Q ≤ S b ∧ S b < (tv b + 1) * Q) ∨ (S b ≤ 0 ∧ 9223372036854775808 ≤ b ∧ S b ≤ tv b * Q ∧ (tv b - 1) * Q < S b) := by
  have d := Nat.div_add_mod (M (b % 9223372036854775808)) Q
  have m := Nat.mod_lt (M (b % 9223372036854775808)) Q_pos
  rw [Nat.mul_comm] at d
  have d' : ((M (b % 9223372036854775808) / Q : Nat) : Int) * Q + ((M (b % 9223372036854775808) % Q : Nat) : Int) = ((M (b % 9223372036854775808) : Nat) : Int) := by
    rw [← Int.natCast_mul, ← Int.natCast_add, d]
  rw [S_eq]
  unfold tv
  generalize M (b % 9223372036854775808) / Q = t at d'
  generalize M (b % 9223372036854775808) % Q = u at d' m
  generalize M (b % 9223372036854775808) = x at d'
  clear d
  by_cases c : 9223372036854775808 ≤ b
  · right
    rw [if_pos c, if_pos c, Int.sub_mul, Int.neg_mul]
    omega
  · left
    rw [if_neg c, if_neg c, Int.add_mul]
    omega
theorem ag_cut (n : Int) (b : Nat) (h : n ≠ tv b) (hn : nan b = false) : c3 n (tv b) = ag n b := by
  unfold ag
  rw [hn, if_neg (by simp)]
  have t := tv_cut b
  by_cases l : n < tv b
  · rw [c3_lt l, c3_lt]
    have a := mulQ (show n ≤ tv b - 1 by omega)
    have a2 := mulQ_lt l
    omega
  · rw [c3_gt (show tv b < n by omega), c3_gt]
    have a := mulQ (show tv b + 1 ≤ n by omega)
    have a2 := mulQ_lt (show tv b < n by omega)
    omega
theorem sv_63 : sv 4890909195324358656 = 4890909195324358656 := by decide
theorem sv_m63 : sv 14114281232179134464 = -4890909195324358656 := by decide
theorem ag_high (n : Int) (b : Nat) (hb : b < 18446744073709551616) (hn : nan b = false) (h1 : n ≤ 9223372036854775807) (h : 4890909195324358656 ≤ sv b) : ag n b = -1 := by
  unfold ag
  rw [hn, if_neg (by simp), c3_lt]
  have l : b < 9223372036854775808 := by unfold sv at h; split at h <;> omega
  have e : sv b = b := by unfold sv; rw [if_neg (by omega)]
  have g : M 4890909195324358656 ≤ M (b % 9223372036854775808) := by
    by_cases e : b % 9223372036854775808 = 4890909195324358656
    · rw [e]; exact Nat.le_refl _
    · have := M_lt (show 4890909195324358656 < b % 9223372036854775808 by omega); omega
  rw [M_63] at g
  rw [S_eq, if_neg (by omega)]
  have a := mulQ_lt (show n < 9223372036854775808 by omega)
  generalize M (b % 9223372036854775808) = x at g
  have g' : (9223372036854775808 : Int) * Q ≤ (x : Int) := by
    have := Int.ofNat_le.2 g
    rw [Int.natCast_mul] at this
    exact this
  omega
theorem ag_low (n : Int) (b : Nat) (hb : b < 18446744073709551616) (hn : nan b = false) (h1 : -9223372036854775808 ≤ n) (h : sv b < -4890909195324358656) : ag n b = 1 := by
  unfold ag
  rw [hn, if_neg (by simp), c3_gt]
  have l : 9223372036854775808 ≤ b := by unfold sv at h; split at h <;> omega
  have e : sv b = -((b % 9223372036854775808 : Nat) : Int) := by unfold sv; rw [if_pos l]
  have g := M_lt (show 4890909195324358656 < b % 9223372036854775808 by omega)
  rw [M_63] at g
  rw [S_eq, if_pos l]
  have a := mulQ (show -9223372036854775808 ≤ n by omega)
  rw [Int.neg_mul] at a
  generalize M (b % 9223372036854775808) = x at g
  have g' : (9223372036854775808 : Int) * Q < (x : Int) := by
    have := Int.ofNat_lt.2 g
    rw [Int.natCast_mul] at this
    exact this
  omega

theorem rng_of (b : Nat) (hb : b < 18446744073709551616) (h1 : ¬ 4890909195324358656 ≤ sv b) (h2 : ¬ sv b < -4890909195324358656) : Rng b := by
  unfold Rng
  unfold sv at h1 h2
  split at h1 <;> split at h2 <;> omega

theorem conv_any (b : Nat) (hb : b < 18446744073709551616) (h : Rng b) (w : World) : (convert 55 2 (.float .f64 b)).run Tryd.prog w = .ok (.int .i64 (tv b)) w :=
  run_convert_float_int w 55 2 .f64 .i64 b (tv b) (by kernel_rfl) Tryd.underlying2 (tv_conv b hb h)

set_option maxHeartbeats 1000000 in
theorem against_any (n : Int) (b : Nat) (h1 : -9223372036854775808 ≤ n) (h2 : n ≤ 9223372036854775807) (hb : b < 18446744073709551616) (w : World) :
    Calls Tryd.prog 72 #[.int .i64 n, .float .f64 b] w fun e w' => e = .returned (.tuple #[.int .i64 (ag n b), .bool (!nan b)]) ∧ w = w' := by
  cases hn : nan b
  · have H := Lib.hid (notOne_any b hb false hn w)
    have t1 := tgt b 4890909195324358656 hb (by omega) hn (by decide)
    have t2 := teq b 4890909195324358656 hb (by omega) hn (by decide)
    have t3 := tlt b 14114281232179134464 hb (by omega) hn (by decide)
    rw [sv_63] at t1 t2
    rw [sv_m63] at t3
    by_cases c1 : 4890909195324358656 ≤ sv b
    · rw [ag_high n b hb hn h2 c1]
      clear hn t3
      by_cases c2 : 4890909195324358656 < sv b
      · rw [decide_eq_true c2] at t1
        rw [decide_eq_false (by omega)] at t2
        clear c1 c2
        go_enter Tryd.func72, Tryd.ntmps72
        go_wp2_with fail
        refine H.out.mono ?_
        rintro e w' ⟨rfl, rfl⟩
        go_wp2
        go_ret2
        exact ⟨rfl, rfl⟩
      · rw [decide_eq_false c2] at t1
        rw [decide_eq_true (by omega)] at t2
        clear c1 c2
        go_enter Tryd.func72, Tryd.ntmps72
        go_wp2_with fail
        refine H.out.mono ?_
        rintro e w' ⟨rfl, rfl⟩
        go_wp2
        go_ret2
        exact ⟨rfl, rfl⟩
    · rw [decide_eq_false (by omega)] at t1 t2
      by_cases c2 : sv b < -4890909195324358656
      · rw [ag_low n b hb hn h1 c2]
        rw [decide_eq_true c2] at t3
        clear c1 c2 hn
        go_enter Tryd.func72, Tryd.ntmps72
        go_wp2_with fail
        refine H.out.mono ?_
        rintro e w' ⟨rfl, rfl⟩
        go_wp2
        go_ret2
        exact ⟨rfl, rfl⟩
      · rw [decide_eq_false c2] at t3
        have R := rng_of b hb c1 c2
        have hc := fun w => conv_any b hb R w
        clear c1 c2
        by_cases c3' : n = tv b
        · obtain ⟨f1, f2, f3⟩ := tv_back b R
          have C := Lib.hid (compare_any (floatOfInt .f64 (tv b)) b f1 hb w)
          have E := Lib.hid (show cv (floatOfInt .f64 (tv b)) b = ag n b by
            unfold cv ag
            rw [f2, hn, if_neg (by simp), if_neg (by simp), c3_S _ _ f1 hb, f3, c3'])
          have E2 := Lib.hid (show co (floatOfInt .f64 (tv b)) b = true by unfold co; rw [f2, hn]; rfl)
          rw [E.out, E2.out] at C
          clear f1 f2 f3 hn R E E2
          subst c3'
          generalize ag (tv b) b = z at C
          have hz : (tv b != tv b) = false := by simp
          generalize tv b = t at hc C hz
          go_enter Tryd.func72, Tryd.ntmps72
          go_wp2_with fail
          refine H.out.mono ?_
          rintro e w' ⟨rfl, rfl⟩
          go_wp2_with fail
          refine C.out.mono ?_
          rintro e w' ⟨rfl, rfl⟩
          go_wp2
          go_ret2
          exact ⟨rfl, rfl⟩
        · have E := ag_cut n b c3' hn
          have C := Lib.hid (cmpI_any n (tv b) w)
          rw [E] at C
          have hz : (n != tv b) = true := by simp [c3']
          clear E c3' hn R
          generalize ag n b = z at C
          generalize tv b = t at hc C hz
          go_enter Tryd.func72, Tryd.ntmps72
          go_wp2_with fail
          refine H.out.mono ?_
          rintro e w' ⟨rfl, rfl⟩
          go_wp2_with fail
          refine C.out.mono ?_
          rintro e w' ⟨rfl, rfl⟩
          go_wp2
          go_ret2
          exact ⟨rfl, rfl⟩
  · have H := Lib.hid (notOne_any b hb true hn w)
    rw [show ag n b = 0 by unfold ag; rw [if_pos hn]]
    clear hn
    go_enter Tryd.func72, Tryd.ntmps72
    go_wp2_with fail
    refine H.out.mono ?_
    rintro e w' ⟨rfl, rfl⟩
    go_wp2
    go_ret2
    exact ⟨rfl, rfl⟩
end Go.Proofs.YtiddpoihhfphmaaDoor
