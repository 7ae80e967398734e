/- RealSteps holds: for any number of 64 bits and any count of 8 the statement's function returns true. No conditions. -/
import Derived.Test.YtjbhbehjcmapeaaRow
namespace Go.Proofs.Ytjbhbehjcmapeaa
open Go Go.ChangeShapes Go.WideShapes Go.ChangeAt Go.RowKit Rl

def it (b : Nat) : Nat → Nat
  | 0 => b
  | j + 1 => up (it b j)
theorem it_lt (b : Nat) (h : b < 18446744073709551616) : ∀ j, it b j < 18446744073709551616
  | 0 => h
  | _ + 1 => up_lt _
theorem it_nan (b : Nat) (n : nan b = true) : ∀ j, nan (it b j) = true
  | 0 => n
  | j + 1 => by
    have h := it_nan b n j
    show nan (up (it b j)) = true
    rw [up_end _ (by rw [ky_nan _ h]; omega)]
    exact nan_end
theorem it_num (b : Nat) (hb : b < 18446744073709551616) (n : nan b = false) : ∀ j, (ky b + j ≤ 18442240474082181120 → nan (it b j) = false ∧ ky (it b j) = ky b + j) ∧ (18442240474082181120 < ky b + j → nan (it b j) = true)
  | 0 => by
    obtain ⟨l1, l2, _⟩ := ky_num b hb n
    exact ⟨fun _ => ⟨n, rfl⟩, fun h => by omega⟩
  | j + 1 => by
    obtain ⟨i1, i2⟩ := it_num b hb n j
    show (_ → nan (up (it b j)) = false ∧ ky (up (it b j)) = _) ∧ (_ → nan (up (it b j)) = true)
    refine ⟨fun h => ?_, fun h => ?_⟩
    · obtain ⟨n1, k1⟩ := i1 (by omega)
      obtain ⟨n2, k2⟩ := up_num (it b j) (it_lt b hb j) (by omega)
      exact ⟨n2, by omega⟩
    · have e : 18442240474082181120 ≤ ky (it b j) := by
        by_cases c : ky b + j ≤ 18442240474082181120
        · rw [(i1 c).2]; omega
        · rw [ky_nan _ (i2 (by omega))]; omega
      rw [up_end _ e]; exact nan_end

abbrev StepsTrue (b n : Nat) (w : World) : Prop := Calls Try.prog 8 #[.int .u64 (b : Int), .int .u8 (n : Int)] w fun e w' => e = .returned (.bool true) ∧ Below w.heap.size w w'
abbrev NaNd : Prop := Hid (∀ w : World, Calls Try.prog 27 #[] w fun e w' => e = .returned (.float .f64 9221120237041090561) ∧ w = w')
abbrev Infd : Prop := Hid (∀ w : World, Calls Try.prog 28 #[.int .i64 1] w fun e w' => e = .returned (.float .f64 9218868437227405312) ∧ w = w')
abbrev KeyL (a : Nat) (k : Int) : Prop := Hid (∀ w : World, Calls Try.prog 23 #[.float .f64 a] w fun e w' => e = .returned (.int .u64 k) ∧ w = w')
theorem key_nan : KeyL 9221120237041090561 18444492273895866368 := by
  have := fun w => key_any 9221120237041090561 (by omega) w
  rw [show ky 9221120237041090561 = 18444492273895866368 by decide +kernel] at this
  exact Lib.hid this
theorem key_inf : KeyL 9218868437227405312 18442240474082181120 := by
  have := fun w => key_any 9218868437227405312 (by omega) w
  rw [show ky 9218868437227405312 = 18442240474082181120 by decide +kernel] at this
  exact Lib.hid this

set_option maxHeartbeats 1000000 in
set_option maxRecDepth 100000 in
theorem steps_t1 (b n p : Nat) (hn : n < 256) (hp : p ≤ 18444492273895866368) (R : Hid (∀ j, Upped (it b j) (it b (j + 1)))) (K1 : Keyed b p) (X : Fixed) (N : NaNd) (_I : Infd) (KN : KeyL 9221120237041090561 18444492273895866368) (_KI : KeyL 9218868437227405312 18442240474082181120) (ht : 18444492273895866368 - p < n) (L : Classed (it b n) 4) (w : World) : StepsTrue b n w := by
  have r1 := run15 b
  have h1 : decide ((18444492273895866368 : Int) - (p : Int) < (n : Int)) = true := by simp; omega
  go_enter Try.func8, Try.ntmps8
  go_wp2_with fail
  refine (K1.out _).mono ?_
  rintro e w' ⟨rfl, rfl⟩
  go_wp2
  go_loop [7, 15] (fun y i => ∃ j : Nat, j ≤ n ∧ i = .int .u8 j ∧ y = .float .f64 (it b j)) (fun _ i => n - (intOf i).toNat)
  case atStart => exact ⟨0, Nat.zero_le _, rfl, rfl⟩
  case round =>
    obtain ⟨j, hj, rfl, rfl⟩ := hrel
    by_cases hlt : j < n
    · have RR := Lib.hid (R.out j).out
      go_wp2_with fail
      refine (RR.out _).mono ?_
      rintro e w' ⟨rfl, rfl⟩
      go_wp2
      go_round
      case rel => exact ⟨j + 1, by omega, by go_num, rfl⟩
      case measure => simp [intOf]; omega
    · obtain rfl : j = n := by omega
      go_wp2_with fail
      refine (N.out _).mono ?_
      rintro e w' ⟨rfl, rfl⟩
      go_wp2_with fail
      refine (KN.out _).mono ?_
      rintro e w' ⟨rfl, rfl⟩
      go_wp2_with fail
      refine (X.out _).mono ?_
      rintro e w' ⟨rfl, rfl⟩
      go_wp2_with fail
      refine (L.out _).mono ?_
      rintro e w' ⟨rfl, rfl⟩
      go_wp2
      go_ret
      exact ⟨rfl, Below.refl _ _⟩

set_option maxHeartbeats 1000000 in
set_option maxRecDepth 100000 in
theorem steps_t2 (b n p : Nat) (hn : n < 256) (hp : p ≤ 18444492273895866368) (R : Hid (∀ j, Upped (it b j) (it b (j + 1)))) (K1 : Keyed b p) (X : Fixed) (N : NaNd) (I : Infd) (KN : KeyL 9221120237041090561 18444492273895866368) (KI : KeyL 9218868437227405312 18442240474082181120) (ht : n ≤ 18444492273895866368 - p) (hi : 18442240474082181120 < p + n) (L : Classed (it b n) 4) (w : World) : StepsTrue b n w := by
  have r1 := run15 b
  have h1 : decide ((18444492273895866368 : Int) - (p : Int) < (n : Int)) = false := by simp; omega
  have h2 : decide ((18442240474082181120 : Int) < (p : Int) + (n : Int)) = true := by simp; omega
  go_enter Try.func8, Try.ntmps8
  go_wp2_with fail
  refine (K1.out _).mono ?_
  rintro e w' ⟨rfl, rfl⟩
  go_wp2
  go_loop [7, 15] (fun y i => ∃ j : Nat, j ≤ n ∧ i = .int .u8 j ∧ y = .float .f64 (it b j)) (fun _ i => n - (intOf i).toNat)
  case atStart => exact ⟨0, Nat.zero_le _, rfl, rfl⟩
  case round =>
    obtain ⟨j, hj, rfl, rfl⟩ := hrel
    by_cases hlt : j < n
    · have RR := Lib.hid (R.out j).out
      go_wp2_with fail
      refine (RR.out _).mono ?_
      rintro e w' ⟨rfl, rfl⟩
      go_wp2
      go_round
      case rel => exact ⟨j + 1, by omega, by go_num, rfl⟩
      case measure => simp [intOf]; omega
    · obtain rfl : j = n := by omega
      go_wp2_with fail
      refine (N.out _).mono ?_
      rintro e w' ⟨rfl, rfl⟩
      go_wp2_with fail
      refine (KN.out _).mono ?_
      rintro e w' ⟨rfl, rfl⟩
      go_wp2_with fail
      refine (I.out _).mono ?_
      rintro e w' ⟨rfl, rfl⟩
      go_wp2_with fail
      refine (KI.out _).mono ?_
      rintro e w' ⟨rfl, rfl⟩
      go_wp2_with fail
      refine (X.out _).mono ?_
      rintro e w' ⟨rfl, rfl⟩
      go_wp2_with fail
      refine (L.out _).mono ?_
      rintro e w' ⟨rfl, rfl⟩
      go_wp2
      go_ret
      exact ⟨rfl, Below.refl _ _⟩

set_option maxHeartbeats 1000000 in
set_option maxRecDepth 100000 in
theorem steps_t3 (b n p : Nat) (hn : n < 256) (hp : p ≤ 18444492273895866368) (R : Hid (∀ j, Upped (it b j) (it b (j + 1)))) (K1 : Keyed b p) (X : Fixed) (N : NaNd) (I : Infd) (KN : KeyL 9221120237041090561 18444492273895866368) (KI : KeyL 9218868437227405312 18442240474082181120) (ht : n ≤ 18444492273895866368 - p) (hi : p + n ≤ 18442240474082181120) (K2 : Keyed (it b n) (p + n)) (w : World) : StepsTrue b n w := by
  have r1 := run15 b
  have h1 : decide ((18444492273895866368 : Int) - (p : Int) < (n : Int)) = false := by simp; omega
  have h2 : decide ((18442240474082181120 : Int) < (p : Int) + (n : Int)) = false := by simp; omega
  go_enter Try.func8, Try.ntmps8
  go_wp2_with fail
  refine (K1.out _).mono ?_
  rintro e w' ⟨rfl, rfl⟩
  go_wp2
  go_loop [7, 15] (fun y i => ∃ j : Nat, j ≤ n ∧ i = .int .u8 j ∧ y = .float .f64 (it b j)) (fun _ i => n - (intOf i).toNat)
  case atStart => exact ⟨0, Nat.zero_le _, rfl, rfl⟩
  case round =>
    obtain ⟨j, hj, rfl, rfl⟩ := hrel
    by_cases hlt : j < n
    · have RR := Lib.hid (R.out j).out
      go_wp2_with fail
      refine (RR.out _).mono ?_
      rintro e w' ⟨rfl, rfl⟩
      go_wp2
      go_round
      case rel => exact ⟨j + 1, by omega, by go_num, rfl⟩
      case measure => simp [intOf]; omega
    · obtain rfl : j = n := by omega
      go_wp2_with fail
      refine (N.out _).mono ?_
      rintro e w' ⟨rfl, rfl⟩
      go_wp2_with fail
      refine (KN.out _).mono ?_
      rintro e w' ⟨rfl, rfl⟩
      go_wp2_with fail
      refine (I.out _).mono ?_
      rintro e w' ⟨rfl, rfl⟩
      go_wp2_with fail
      refine (KI.out _).mono ?_
      rintro e w' ⟨rfl, rfl⟩
      go_wp2_with fail
      refine (X.out _).mono ?_
      rintro e w' ⟨rfl, rfl⟩
      go_wp2_with fail
      refine (K2.out _).mono ?_
      rintro e w' ⟨rfl, rfl⟩
      go_wp2
      go_ret
      exact ⟨rfl, Below.refl _ _⟩

theorem steps_walk (b n : Nat) (hb : b < 18446744073709551616) (hn : n < 256) (w : World) : StepsTrue b n w := by
  have R : Hid (∀ j, Upped (it b j) (it b (j + 1))) := Lib.hid (fun j => Lib.hid (fun w => up_any (it b j) (it_lt b hb j) w))
  have K1 : Keyed b (ky b) := Lib.hid (fun w => key_any b hb w)
  have X : Fixed := Lib.hid (fun w => fixed_any w)
  have N : NaNd := Lib.hid (fun w => nan_any w)
  have I : Infd := Lib.hid (fun w => inf_any w)
  have L : nan (it b n) = true → Classed (it b n) 4 := fun h => by
    have := fun w => class_any (it b n) (it_lt b hb n) w
    rw [cls_nan _ h] at this
    exact Lib.hid this
  cases m : nan b
  · obtain ⟨l1, l2, _⟩ := ky_num b hb m
    obtain ⟨i1, i2⟩ := it_num b hb m n
    by_cases c : ky b + n ≤ 18442240474082181120
    · have K2 : Keyed (it b n) (ky b + n) := by
        have := fun w => key_any (it b n) (it_lt b hb n) w
        rw [(i1 c).2] at this
        exact Lib.hid this
      exact steps_t3 b n (ky b) hn (by omega) R K1 X N I key_nan key_inf (by omega) c K2 w
    · exact steps_t2 b n (ky b) hn (by omega) R K1 X N I key_nan key_inf (by omega) (by omega) (L (i2 (by omega))) w
  · have k := ky_nan b m
    have l := L (it_nan b m n)
    by_cases z : n = 0
    · exact steps_t2 b n (ky b) hn (by omega) R K1 X N I key_nan key_inf (by omega) (by omega) l w
    · exact steps_t1 b n (ky b) hn (by omega) R K1 X N I key_nan key_inf (by omega) l w

theorem byte_of {a : Int} (h : (Lit.int .u8 a).wf = true) : ∃ b : Nat, a = (b : Int) ∧ b < 256 := by
  have h1 : 0 ≤ a ∧ a ≤ 255 := by simpa [Lit.wf, IntKind.min, IntKind.max, IntKind.signed, IntKind.bits] using h
  exact ⟨a.toNat, by omega, by omega⟩

set_option maxRecDepth 100000 in
theorem steps_lifted (os : Os) (started : os.Started) (H : Type) (enc : TypeId × Value → H) :
    ReturnsInHanded {} Try.checked os 8 .any (Rows.realStepsSpec.pre6 enc Try.prog Try.f8 Rows.realStepsRow.domain false) (Rows.realStepsSpec.post enc Try.prog Try.f8 false true false false) := by
  refine returnsInHanded_of_change (C := Try.checked) own started (by kernel_rfl) Try.func8
    (ChangeSpec.witness6 (enc := enc) (C := Try.checked) false ⟨#[], #[.int .u64 0, .int .u8 0], []⟩ 8 (by kernel_rfl) (by kernel_rfl) (by kernel_rfl) (by kernel_rfl)) ?_
  intro W base args ds gs before hval0 hW hcnd _
  have hval : ∀ (j : Nat) t v, Try.f8.params[j]? = some t → args[j]? = some v → Value.okWide Try.prog W .any base t v := hval0
  have hW' := hW
  obtain ⟨p, q, hA0, hV, rfl, hfz, hnd⟩ := hW
  have hA : DataW.TrodAll enc Try.prog W 0 (fun _ => true) true Try.f8.params.toList args.toList ds p := hA0
  rw [Try.params8] at hA hval
  obtain ⟨v0, vs0, d0, ds0, p0, q0, hargs, rfl, rfl, h0, r0⟩ := trodAll_cons hA
  obtain ⟨v1, vs1, d1, ds1, p1, q1, rfl, rfl, rfl, h1, r1⟩ := trodAll_cons r0
  obtain ⟨rfl, rfl, rfl⟩ := trodAll_nil r1
  obtain rfl : args = #[v0, v1] := by cases args; simp_all
  obtain ⟨rfl, rfl⟩ := trodVars_none hV
  obtain ⟨a0, rfl, rfl, rfl, w0⟩ := open_int Try.underlying22 (hval 0 22 v0 rfl rfl) h0
  obtain ⟨a1, rfl, rfl, rfl, w1⟩ := open_int Try.underlying5 (hval 1 5 v1 rfl rfl) h1
  clear hA0 hval0
  obtain ⟨b0, rfl, hb0⟩ := nat_of w0
  obtain ⟨b1, rfl, hb1⟩ := byte_of w1
  refine (steps_walk b0 b1 hb0 hb1 W).mono fun e W' ⟨he, bel⟩ => ?_
  subst he
  exact ⟨_, rfl, _, _, _, [], _, [], hW', trodAll_mk1 (shut_bool Try.underlying4 _), (trodAll_cons_mk (shut_int Try.underlying22 w0) (trodAll_cons_mk (shut_int Try.underlying5 w1) trodAll_mk0)), rfl, bel.frame _, fun h => by cases h⟩

theorem steps_holds : Rows.RealStepsSaid :=
  OpenClaim.holds_of_wide 8 Try.f8 rfl rfl rfl rfl rfl rfl rfl ⟨rfl, rfl, rfl, rfl, rfl⟩ rfl rfl rfl rfl rfl (by kernel_rfl) Try.func8 (by kernel_rfl)
    (of_decide_eq_true (by kernel_rfl)) (by unfold Func.isWrapper; first | (rw [if_pos (by decide +kernel)]; kernel_rfl) | (rw [if_neg (by decide +kernel)]; exact ⟨rfl, rfl⟩))
    (fun os started H enc _ => steps_lifted os started H enc)
#print axioms steps_holds
end Go.Proofs.Ytjbhbehjcmapeaa
