/- RealWhole holds: for any whole number of 64 bits the statement's function returns true. No conditions. -/
import Derived.Test.YtjbhbehjcmapeaaI
namespace Go.Proofs.Ytjbhbehjcmapeaa
open Go Go.ChangeShapes Go.WideShapes Go.ChangeAt Go.RowKit Rl

theorem log_small (m : Nat) (h : m < 9007199254740992) : m.log2 ≤ 52 := by
  by_cases z : m = 0
  · subst z; simp
  · have : m.log2 < 53 := (Nat.log2_lt z).2 h
    omega
/- a number whose size is so many whole ones -/
theorem whole_facts (b : Nat) (q : Int) (hS : S b = q * Q) (hq1 : -9223372036854775808 < q) (hq2 : q < 9223372036854775808) : Rng b ∧ tv b = q ∧ M (b % 9223372036854775808) % Q = 0 := by
  rw [S_eq] at hS
  have mm : M (b % 9223372036854775808) = q.natAbs * Q := by
    by_cases c : 9223372036854775808 ≤ b
    · rw [if_pos c] at hS
      have := congrArg Int.natAbs hS
      rw [Int.natAbs_neg, Int.natAbs_mul] at this
      simpa using this
    · rw [if_neg c] at hS
      have := congrArg Int.natAbs hS
      rw [Int.natAbs_mul] at this
      simpa using this
  have l : b % 9223372036854775808 < 4890909195324358656 := by
    rw [← M_iff, M_63, mm]
    exact Nat.mul_lt_mul_of_pos_right (by omega) Q_pos
  have d : M (b % 9223372036854775808) / Q = q.natAbs := by rw [mm, Nat.mul_div_cancel _ Q_pos]
  refine ⟨by unfold Rng; omega, ?_, by rw [mm, Nat.mul_mod_left]⟩
  unfold tv
  rw [d]
  rw [mm] at hS
  have p : (0 : Int) < Q := by have := Q_pos; omega
  by_cases c : 9223372036854775808 ≤ b
  · rw [if_pos c] at hS ⊢
    rw [Int.natCast_mul, ← Int.neg_mul] at hS
    exact Int.eq_of_mul_eq_mul_right (by omega) hS
  · rw [if_neg c] at hS ⊢
    rw [Int.natCast_mul] at hS
    exact Int.eq_of_mul_eq_mul_right (by omega) hS

theorem small_facts (q : Int) (h1 : -9007199254740992 < q) (h2 : q < 9007199254740992) :
    floatOfInt .f64 q < 18446744073709551616 ∧ nan (floatOfInt .f64 q) = false ∧ S (floatOfInt .f64 q) = q * Q ∧ Rng (floatOfInt .f64 q) ∧ tv (floatOfInt .f64 q) = q ∧ M (floatOfInt .f64 q % 9223372036854775808) % Q = 0 := by
  have l := log_small q.natAbs (by omega)
  obtain ⟨a, b, c⟩ := fi_exact q (.inr ⟨by omega, .inl l⟩)
  exact ⟨a, b, c, whole_facts _ q c (by omega) (by omega)⟩

theorem great_facts (n : Int) (h1 : -9223372036854775808 ≤ n) (h2 : n ≤ 9223372036854775807) (h3 : n ≤ -9007199254740992 ∨ 9007199254740992 ≤ n) :
    ∃ r, floatOfInt .f64 n = (if n < 0 then 9223372036854775808 + r else r) ∧ 4845873199050653696 ≤ r ∧ r ≤ 4890909195324358656 := by
  have z : n.natAbs ≠ 0 := by omega
  have l1 : 53 ≤ n.natAbs.log2 := by
    rw [Nat.le_log2 z]; omega
  have l2 : n.natAbs.log2 < 64 := (Nat.log2_lt z).2 (by omega)
  obtain ⟨c, e, x1, x2, y1, y2⟩ := near_great (decide (n < 0)) n.natAbs (by omega) (by omega)
  refine ⟨(n.natAbs.log2 + 1022) * 4503599627370496 + c, ?_, by omega, ?_⟩
  · have e1 : floatOfInt .f64 n = Ieee.double.word (decide (n < 0)) ((n.natAbs.log2 + 1022) * 4503599627370496 + c) := e
    rw [e1]
    unfold Ieee.Format.word
    rw [sw]
    by_cases s : n < 0 <;> simp only [s, decide_true, decide_false, if_true, if_false, Bool.false_eq_true]
  · by_cases t : n.natAbs.log2 = 63
    · have g := log_ge n.natAbs (by omega)
      rw [t] at g
      have m : n.natAbs = 9223372036854775808 := by omega
      have w : c = n.natAbs / 2 ^ (n.natAbs.log2 - 52) := y2 (by rw [t, m])
      rw [t, m] at w
      rw [t]
      omega
    · omega
theorem great_whole (r : Nat) (h : 4845873199050653696 ≤ r) : M r % Q = 0 := by
  unfold M
  rw [if_neg (by omega), show r / 4503599627370496 - 1 = (r / 4503599627370496 - 1075) + K by unfold K; omega, Nat.pow_add, ← Nat.mul_assoc, ← Q_K, Nat.mul_mod_left]

theorem sv_of_S (x y : Nat) (hx : x < 18446744073709551616) (hy : y < 18446744073709551616) (h : S x = S y) : sv x = sv y := by
  have a := S_lt x y hx hy
  have b := S_lt y x hy hx
  omega
theorem rng_sv (b : Nat) (h : Rng b) : -4890909195324358656 ≤ sv b ∧ sv b < 4890909195324358656 := by
  unfold Rng at h
  unfold sv
  split <;> omega
theorem tv_S (b : Nat) (h : M (b % 9223372036854775808) % Q = 0) : tv b * Q = S b := by
  have d := Nat.div_add_mod (M (b % 9223372036854775808)) Q
  rw [h, Nat.mul_comm, Nat.add_zero] at d
  have d' : ((M (b % 9223372036854775808) / Q : Nat) : Int) * Q = ((M (b % 9223372036854775808) : Nat) : Int) := by rw [← Int.natCast_mul, d]
  rw [S_eq]
  unfold tv
  split
  · rw [Int.neg_mul, d']
  · exact d'

abbrev Wh (b : Nat) (n : Int) (o : Bool) (w : World) : Prop := Calls Try.prog 26 #[.float .f64 b] w fun e w' => e = .returned (.tuple #[.int .i64 n, .bool o]) ∧ w = w'
set_option maxHeartbeats 400000 in
theorem whole_in (b : Nat) (hb : b < 18446744073709551616) (hn : nan b = false) (R : Rng b) (hm : M (b % 9223372036854775808) % Q = 0) (w : World) : Wh b (tv b) true w := by
  have t1 := tgt b 14114281232179134464 hb (by omega) hn (by decide)
  have t2 := teq b 14114281232179134464 hb (by omega) hn (by decide)
  have t3 := tlt b 4890909195324358656 hb (by omega) hn (by decide)
  obtain ⟨v1, v2⟩ := rng_sv b R
  rw [sv_m63] at t1 t2
  rw [sv_63, decide_eq_true v2] at t3
  have hc := fun w => conv_any b hb R w
  obtain ⟨f1, f2, f3⟩ := tv_back b R
  rw [tv_S b hm] at f3
  have t4 : (FloatKind.f64.format.order (floatOfInt .f64 (tv b)) b != some .eq) = false := by
    rw [bne, teq _ b f1 hb f2 hn, decide_eq_true (sv_of_S _ _ f1 hb f3)]; rfl
  clear f1 f2 f3 hn R hm v2
  generalize tv b = t at hc t4
  by_cases c : -4890909195324358656 < sv b
  · rw [decide_eq_true c] at t1
    rw [decide_eq_false (by omega)] at t2
    clear c v1
    go_enter Try.func26, Try.ntmps26
    go_wp2
    go_ret2
    exact ⟨rfl, rfl⟩
  · rw [decide_eq_false c] at t1
    rw [decide_eq_true (by omega)] at t2
    clear c v1
    go_enter Try.func26, Try.ntmps26
    go_wp2
    go_ret2
    exact ⟨rfl, rfl⟩
theorem whole_out (b : Nat) (hb : b < 18446744073709551616) (hn : nan b = false) (h : sv b = 4890909195324358656) (w : World) : Wh b 0 false w := by
  have t1 := tgt b 14114281232179134464 hb (by omega) hn (by decide)
  have t3 := tlt b 4890909195324358656 hb (by omega) hn (by decide)
  rw [sv_m63, h, decide_eq_true (by omega)] at t1
  rw [sv_63, h, decide_eq_false (by omega)] at t3
  clear hn h
  go_enter Try.func26, Try.ntmps26
  go_wp2
  go_ret2
  exact ⟨rfl, rfl⟩

theorem rem_small (n : Int) : -9007199254740992 < n.tmod 9007199254740992 ∧ n.tmod 9007199254740992 < 9007199254740992 := by
  have a := Int.tmod_lt_of_pos n (show (0 : Int) < 9007199254740992 by omega)
  have b := Int.lt_tmod_of_pos n (show (0 : Int) < 9007199254740992 by omega)
  omega
theorem rem_back (n : Int) (w : World) : (convert 23 2 (.float .f64 (floatOfInt .f64 (n.tmod 9007199254740992)))).run Try.prog w = .ok (.int .i64 (n.tmod 9007199254740992)) w := by
  obtain ⟨a, b⟩ := rem_small n
  obtain ⟨f1, _, _, R, t, _⟩ := small_facts _ a b
  have := conv_any _ f1 R w
  rw [t] at this
  exact this

abbrev WholeTrue (n : Int) (w : World) : Prop := Calls Try.prog 7 #[.int .i64 n] w fun e w' => e = .returned (.bool true) ∧ Below w.heap.size w w'
abbrev Ags (n : Int) (b : Nat) (c : Int) : Prop := Hid (∀ w : World, Calls Try.prog 21 #[.int .i64 n, .float .f64 b] w fun e w' => e = .returned (.tuple #[.int .i64 c, .bool true]) ∧ w = w')
set_option maxHeartbeats 1000000 in
theorem whole_small (n : Int) (b : Nat) (h1 : -9007199254740992 < n) (h2 : n < 9007199254740992) (e : floatOfInt .f64 n = b) (A : Ags n b 0) (W : Hid (∀ w, Wh b n true w)) (w : World) : WholeTrue n w := by
  have rb := fun w => rem_back n w
  have d1 : decide (-9007199254740992 < n) = true := by simp; omega
  have d2 : decide (n < 9007199254740992) = true := by simp; omega
  go_enter Try.func7, Try.ntmps7
  go_wp2_with fail
  refine (A.out _).mono ?_
  rintro e w' ⟨rfl, rfl⟩
  go_wp2_with fail
  refine (W.out _).mono ?_
  rintro e w' ⟨rfl, rfl⟩
  go_wp2_with fail
  refine (fixed_any _).mono ?_
  rintro e w' ⟨rfl, rfl⟩
  go_wp2
  go_ret
  exact ⟨rfl, Below.refl _ _⟩

set_option maxHeartbeats 1000000 in
theorem whole_great (n : Int) (b : Nat) (h0 : -9223372036854775808 ≤ n) (h3 : n ≤ 9223372036854775807) (h : n ≤ -9007199254740992 ∨ 9007199254740992 ≤ n) (e : floatOfInt .f64 n = b) (c : Int) (A : Ags n b c) (m : Int) (o : Bool) (W : Hid (∀ w, Wh b m o w)) (t : (FloatKind.f64.format.order b 4890909195324358656 == some .lt) = o) (w : World) : WholeTrue n w := by
  have rb := fun w => rem_back n w
  by_cases s : n ≤ -9007199254740992
  · have d1 : decide (-9007199254740992 < n) = false := by simp; omega
    clear h
    go_enter Try.func7, Try.ntmps7
    go_wp2_with fail
    refine (A.out _).mono ?_
    rintro e w' ⟨rfl, rfl⟩
    go_wp2_with fail
    refine (W.out _).mono ?_
    rintro e w' ⟨rfl, rfl⟩
    go_wp2_with fail
    refine (fixed_any _).mono ?_
    rintro e w' ⟨rfl, rfl⟩
    go_wp2
    go_ret
    exact ⟨rfl, Below.refl _ _⟩
  · have d1 : decide (-9007199254740992 < n) = true := by simp; omega
    have d2 : decide (n < 9007199254740992) = false := by simp; omega
    clear h
    go_enter Try.func7, Try.ntmps7
    go_wp2_with fail
    refine (A.out _).mono ?_
    rintro e w' ⟨rfl, rfl⟩
    go_wp2_with fail
    refine (W.out _).mono ?_
    rintro e w' ⟨rfl, rfl⟩
    go_wp2_with fail
    refine (fixed_any _).mono ?_
    rintro e w' ⟨rfl, rfl⟩
    go_wp2
    go_ret
    exact ⟨rfl, Below.refl _ _⟩

theorem whole_walk (n : Int) (h1 : -9223372036854775808 ≤ n) (h2 : n ≤ 9223372036854775807) (w : World) : WholeTrue n w := by
  by_cases s : n ≤ -9007199254740992 ∨ 9007199254740992 ≤ n
  · obtain ⟨r, e, r1, r2⟩ := great_facts n h1 h2 s
    have z := great_whole r r1
    obtain ⟨b, hb⟩ : ∃ b, (if n < 0 then 9223372036854775808 + r else r) = b := ⟨_, rfl⟩
    have k : b % 9223372036854775808 = r ∧ b < 18446744073709551616 ∧ (9223372036854775808 ≤ b ↔ n < 0) := by
      rw [← hb]; split <;> omega
    obtain ⟨k1, k2, k3⟩ := k
    rw [hb] at e
    clear hb
    have hn : nan b = false := by unfold nan; apply decide_eq_false; omega
    have A : Ags n b (ag n b) := Lib.hid (fun w => by
      have := against_any n b h1 h2 k2 w
      rw [hn] at this
      exact this)
    have t := tlt b 4890909195324358656 k2 (by omega) hn (by decide)
    rw [sv_63] at t
    by_cases c : sv b < 4890909195324358656
    · rw [decide_eq_true c] at t
      have R : Rng b := by
        unfold Rng
        unfold sv at c
        split at c <;> omega
      exact whole_great n b h1 h2 s e _ A (tv b) true (Lib.hid (fun w => whole_in b k2 hn R (by rw [k1]; exact z) w)) t w
    · rw [decide_eq_false c] at t
      have c' : sv b = 4890909195324358656 := by
        unfold sv at c ⊢
        split at c <;> rename_i g
        · omega
        · rw [if_neg g]; omega
      exact whole_great n b h1 h2 s e _ A 0 false (Lib.hid (fun w => whole_out b k2 hn c' w)) t w
  · obtain ⟨f1, f2, f3, R, t, z⟩ := small_facts n (by omega) (by omega)
    have A : Ags n (floatOfInt .f64 n) 0 := Lib.hid (fun w => by
      have := against_any n _ h1 h2 f1 w
      rw [f2, show ag n (floatOfInt .f64 n) = 0 by unfold ag; rw [f2, if_neg (by simp), f3, c3_eq]] at this
      exact this)
    have W : Hid (∀ w, Wh (floatOfInt .f64 n) n true w) := Lib.hid (fun w => by
      have := whole_in _ f1 f2 R z w
      rw [t] at this
      exact this)
    exact whole_small n _ (by omega) (by omega) rfl A W w

theorem int_of {a : Int} (h : (Lit.int .i64 a).wf = true) : -9223372036854775808 ≤ a ∧ a ≤ 9223372036854775807 := by
  simpa [Lit.wf, IntKind.min, IntKind.max, IntKind.signed, IntKind.bits] using h

set_option maxRecDepth 100000 in
theorem whole_lifted (os : Os) (started : os.Started) (H : Type) (enc : TypeId × Value → H) :
    ReturnsInHanded {} Try.checked os 7 .any (Rows.realWholeSpec.pre6 enc Try.prog Try.f7 Rows.realWholeRow.domain false) (Rows.realWholeSpec.post enc Try.prog Try.f7 false true false false) := by
  refine returnsInHanded_of_change (C := Try.checked) own started (by kernel_rfl) Try.func7
    (ChangeSpec.witness6 (enc := enc) (C := Try.checked) false ⟨#[], #[.int .i64 0], []⟩ 8 (by kernel_rfl) (by kernel_rfl) (by kernel_rfl) (by kernel_rfl)) ?_
  intro W base args ds gs before hval0 hW hcnd _
  have hval : ∀ (j : Nat) t v, Try.f7.params[j]? = some t → args[j]? = some v → Value.okWide Try.prog W .any base t v := hval0
  have hW' := hW
  obtain ⟨p, q, hA0, hV, rfl, hfz, hnd⟩ := hW
  have hA : DataW.TrodAll enc Try.prog W 0 (fun _ => true) true Try.f7.params.toList args.toList ds p := hA0
  rw [Try.params7] at hA hval
  obtain ⟨v0, vs0, d0, ds0, p0, q0, hargs, rfl, rfl, h0, r0⟩ := trodAll_cons hA
  obtain ⟨rfl, rfl, rfl⟩ := trodAll_nil r0
  obtain rfl : args = #[v0] := by cases args; simp_all
  obtain ⟨rfl, rfl⟩ := trodVars_none hV
  obtain ⟨a0, rfl, rfl, rfl, w0⟩ := open_int Try.underlying2 (hval 0 2 v0 rfl rfl) h0
  clear hA0 hval0
  refine (whole_walk a0 (int_of w0).1 (int_of w0).2 W).mono fun e W' ⟨he, bel⟩ => ?_
  subst he
  exact ⟨_, rfl, _, _, _, [], _, [], hW', trodAll_mk1 (shut_bool Try.underlying4 _), (trodAll_cons_mk (shut_int Try.underlying2 w0) trodAll_mk0), rfl, bel.frame _, fun h => by cases h⟩

theorem whole_holds : Rows.RealWholeSaid :=
  OpenClaim.holds_of_wide 7 Try.f7 rfl rfl rfl rfl rfl rfl rfl ⟨rfl, rfl, rfl, rfl, rfl⟩ rfl rfl rfl rfl rfl (by kernel_rfl) Try.func7 (by kernel_rfl)
    (of_decide_eq_true (by kernel_rfl)) (by unfold Func.isWrapper; first | (rw [if_pos (by decide +kernel)]; kernel_rfl) | (rw [if_neg (by decide +kernel)]; exact ⟨rfl, rfl⟩))
    (fun os started H enc _ => whole_lifted os started H enc)
#print axioms whole_holds
end Go.Proofs.Ytjbhbehjcmapeaa
