/- RealFrom holds: for every number of 64 bits the statement's function returns true. No conditions. -/
import Derived.Test.YtjbhbehjcmapeaaD
import Derived.Test.YtjbhbehjcmapeaaRows
import Derived.ProofKit
import Derived.OpenShut
namespace Go.Proofs.Ytjbhbehjcmapeaa
open Go Go.ChangeShapes Go.WideShapes Go.ChangeAt Go.RowKit Rl

theorem own : ownKnob Try.prog.godebug = none := by kernel_rfl

theorem pn_nan (b : Nat) : pn (ex b) (fr b) = nan b := by
  unfold pn ex fr nan
  rw [Bool.eq_iff_iff, decide_eq_true_iff, decide_eq_true_iff]
  omega
theorem pb_bt (b : Nat) (h : b < 18446744073709551616) : pb (neg b) (ex b) (fr b) = bt b := by
  have e := ef b
  have n := pn_nan b
  generalize ex b = E at e n
  generalize fr b = F at e n
  unfold pb bt
  rw [n]
  cases nan b
  · simp only [Bool.false_eq_true, if_false]
    unfold neg
    by_cases c : 9223372036854775808 ≤ b
    · simp only [c, decide_true, if_true]
      exact (congrArg (fun x => x + 9223372036854775808) e).trans (by clear e n; omega)
    · simp only [c, decide_false, Bool.false_eq_true, if_false]
      exact e.trans (by clear e n; omega)
  · rfl

set_option maxHeartbeats 400000 in
theorem from_walk (b : Nat) (h : b < 18446744073709551616) (w : World) :
    Calls Try.prog 3 #[.int .u64 (b : Int)] w fun e w' => e = .returned (.bool true) ∧ Below w.heap.size w w' := by
  have H1 := Lib.hid (from_any b h w)
  have H2 := Lib.hid (ofBits_any b h w)
  have P := Lib.hid (pb_bt b h)
  have e1 := ex_lt b
  have f1 := fr_lt b
  generalize neg b = s at H2 P
  generalize ex b = E at H2 P e1
  generalize fr b = F at H2 P f1
  have r13 := run13 0
  by_cases c : bt b = b
  · have H3 := Lib.hid (fun w => bits_any b h w)
    rw [if_pos c, decide_eq_true c] at H1
    rw [c] at P H3
    clear c
    go_enter Try.func3, Try.ntmps3
    go_wp2_with fail
    refine H1.out.mono ?_
    rintro e w' ⟨rfl, rfl⟩
    go_wp2_with fail
    refine H2.out.mono ?_
    rintro e w1 ⟨rfl, b1⟩
    have B1 := Lib.hid b1
    clear b1
    go_wp2_with fail
    refine (pbits_any s E F e1 f1 _).mono ?_
    rintro e w2 ⟨rfl, b2⟩
    rw [P.out]
    have B2 := Lib.hid (B1.out.trans (b2.mono B1.out.size))
    clear b2
    go_wp2_with fail
    refine (fixed_any _).mono ?_
    rintro e w' ⟨rfl, rfl⟩
    go_wp2_with fail
    refine (H3.out _).mono ?_
    rintro e w' ⟨rfl, rfl⟩
    go_wp2
    go_ret
    exact ⟨rfl, B2.out⟩
  · rw [if_neg c, decide_eq_false c] at H1
    have hc : ((bt b : Int) == (b : Int)) = false := by simp; omega
    generalize bt b = x at P hc
    clear c
    go_enter Try.func3, Try.ntmps3
    go_wp2_with fail
    refine H1.out.mono ?_
    rintro e w' ⟨rfl, rfl⟩
    go_wp2_with fail
    refine H2.out.mono ?_
    rintro e w1 ⟨rfl, b1⟩
    have B1 := Lib.hid b1
    clear b1
    go_wp2_with fail
    refine (pbits_any s E F e1 f1 _).mono ?_
    rintro e w2 ⟨rfl, b2⟩
    rw [P.out]
    have B2 := Lib.hid (B1.out.trans (b2.mono B1.out.size))
    clear b2
    go_wp2_with fail
    refine (fixed_any _).mono ?_
    rintro e w' ⟨rfl, rfl⟩
    go_wp2
    go_ret
    exact ⟨rfl, B2.out⟩

theorem nat_of {a : Int} (h : (Lit.int .u64 a).wf = true) : ∃ b : Nat, a = (b : Int) ∧ b < 18446744073709551616 := by
  have h1 : 0 ≤ a ∧ a ≤ 18446744073709551615 := by simpa [Lit.wf, IntKind.min, IntKind.max, IntKind.signed, IntKind.bits] using h
  exact ⟨a.toNat, by omega, by omega⟩

set_option maxRecDepth 100000 in
theorem from_lifted (os : Os) (started : os.Started) (H : Type) (enc : TypeId × Value → H) :
    ReturnsInHanded {} Try.checked os 3 .any (Rows.realFromSpec.pre6 enc Try.prog Try.f3 Rows.realFromRow.domain false) (Rows.realFromSpec.post enc Try.prog Try.f3 false true false false) := by
  refine returnsInHanded_of_change (C := Try.checked) own started (by kernel_rfl) Try.func3
    (ChangeSpec.witness6 (enc := enc) (C := Try.checked) false ⟨#[], #[.int .u64 0], []⟩ 8 (by kernel_rfl) (by kernel_rfl) (by kernel_rfl) (by kernel_rfl)) ?_
  intro W base args ds gs before hval0 hW hcnd _
  have hval : ∀ (j : Nat) t v, Try.f3.params[j]? = some t → args[j]? = some v → Value.okWide Try.prog W .any base t v := hval0
  have hW' := hW
  obtain ⟨p, q, hA0, hV, rfl, hfz, hnd⟩ := hW
  have hA : DataW.TrodAll enc Try.prog W 0 (fun _ => true) true Try.f3.params.toList args.toList ds p := hA0
  rw [Try.params3] at hA hval
  obtain ⟨v0, vs0, d0, ds0, p0, q0, hargs, rfl, rfl, h0, r0⟩ := trodAll_cons hA
  obtain ⟨rfl, rfl, rfl⟩ := trodAll_nil r0
  obtain rfl : args = #[v0] := by cases args; simp_all
  obtain ⟨rfl, rfl⟩ := trodVars_none hV
  obtain ⟨a0, rfl, rfl, rfl, w0⟩ := open_int Try.underlying22 (hval 0 22 v0 rfl rfl) h0
  clear hA0 hval0
  obtain ⟨b, rfl, hb⟩ := nat_of w0
  refine (from_walk b hb W).mono fun e W' ⟨he, bel⟩ => ?_
  subst he
  exact ⟨_, rfl, _, _, _, [], _, [], hW', trodAll_mk1 (shut_bool Try.underlying4 _), (trodAll_cons_mk (shut_int Try.underlying22 w0) trodAll_mk0), rfl, bel.frame _, fun h => by cases h⟩

theorem from_holds : Rows.RealFromSaid :=
  OpenClaim.holds_of_wide 3 Try.f3 rfl rfl rfl rfl rfl rfl rfl ⟨rfl, rfl, rfl, rfl, rfl⟩ rfl rfl rfl rfl rfl (by kernel_rfl) Try.func3 (by kernel_rfl)
    (of_decide_eq_true (by kernel_rfl)) (by unfold Func.isWrapper; first | (rw [if_pos (by decide +kernel)]; kernel_rfl) | (rw [if_neg (by decide +kernel)]; exact ⟨rfl, rfl⟩))
    (fun os started H enc _ => from_lifted os started H enc)
#print axioms from_holds
end Go.Proofs.Ytjbhbehjcmapeaa
