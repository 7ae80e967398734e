/- RealTwo holds: for any two numbers of 64 bits the statement's function returns true. No conditions. -/
import Derived.Test.YtjbhbehjcmapeaaTwoA
namespace Go.Proofs.Ytjbhbehjcmapeaa
open Go Go.ChangeShapes Go.WideShapes Go.ChangeAt Go.RowKit Rl

theorem six_next {w W W' : World} {n m : Nat} {s : Bool} {E F : Nat} {t : Bool} {G K : Nat}
    (h : W.cell? ⟨n, 0, none⟩ = some (.bool s) ∧ W.cell? ⟨n, 1, none⟩ = some (.int .i64 (E : Int)) ∧ W.cell? ⟨n, 2, none⟩ = some (.int .u64 (F : Int)) ∧
      W.cell? ⟨n + 1, 0, none⟩ = some (.bool t) ∧ W.cell? ⟨n + 1, 1, none⟩ = some (.int .i64 (G : Int)) ∧ W.cell? ⟨n + 1, 2, none⟩ = some (.int .u64 (K : Int)) ∧ Below m w W ∧ n + 1 < W.heap.size ∧ m ≤ W.heap.size)
    (hb : Below W.heap.size W W') :
    W'.cell? ⟨n, 0, none⟩ = some (.bool s) ∧ W'.cell? ⟨n, 1, none⟩ = some (.int .i64 (E : Int)) ∧ W'.cell? ⟨n, 2, none⟩ = some (.int .u64 (F : Int)) ∧
      W'.cell? ⟨n + 1, 0, none⟩ = some (.bool t) ∧ W'.cell? ⟨n + 1, 1, none⟩ = some (.int .i64 (G : Int)) ∧ W'.cell? ⟨n + 1, 2, none⟩ = some (.int .u64 (K : Int)) ∧ Below m w W' ∧ n + 1 < W'.heap.size ∧ m ≤ W'.heap.size := by
  obtain ⟨h1, h2, h3, h4, h5, h6, h7, h8, h9⟩ := h
  have z := hb.size
  refine ⟨?_, ?_, ?_, ?_, ?_, ?_, h7.trans (hb.mono h9), by omega, by omega⟩
  · rw [hb.cell (p := ⟨n, 0, none⟩) (by simp; omega)]; exact h1
  · rw [hb.cell (p := ⟨n, 1, none⟩) (by simp; omega)]; exact h2
  · rw [hb.cell (p := ⟨n, 2, none⟩) (by simp; omega)]; exact h3
  · rw [hb.cell (p := ⟨n + 1, 0, none⟩) (by simp; omega)]; exact h4
  · rw [hb.cell (p := ⟨n + 1, 1, none⟩) (by simp; omega)]; exact h5
  · rw [hb.cell (p := ⟨n + 1, 2, none⟩) (by simp; omega)]; exact h6

set_option maxHeartbeats 4000000 in
set_option maxRecDepth 100000 in
theorem two_walk (a b : Nat) (ha : a < 18446744073709551616) (hb : b < 18446744073709551616) (w : World) :
    Calls Try.prog 4 #[.int .u64 (a : Int), .int .u64 (b : Int)] w fun e w' => e = .returned (.bool true) ∧ Below w.heap.size w w' := by
  have r1 := run15 a
  have r2 := run15 b
  have A1 := Lib.hid (fun w => ofBits_any a ha w)
  have A2 := Lib.hid (fun w => ofBits_any b hb w)
  have C := Lib.hid (fun w => compare_any a b ha hb w)
  have D := Lib.hid (fun w => pcompare_any (neg a) (ex a) (fr a) (neg b) (ex b) (fr b) (ex_lt a) (fr_lt a) (ex_lt b) (fr_lt b) w)
  rw [pcv_cv a b ha hb, pco_co a b] at D
  have O := Lib.hid (fun w => order_any a b ha hb w)
  have Q := Lib.hid (fun w => porder_any (neg a) (ex a) (fr a) (neg b) (ex b) (fr b) (ex_lt a) (fr_lt a) (ex_lt b) (fr_lt b) w)
  rw [po_ky a b ha hb] at Q
  have P1 := Lib.hid (fun w => pbits_any (neg a) (ex a) (fr a) (ex_lt a) (fr_lt a) w)
  have P2 := Lib.hid (fun w => pbits_any (neg b) (ex b) (fr b) (ex_lt b) (fr_lt b) w)
  rw [pb_bt a ha] at P1
  rw [pb_bt b hb] at P2
  have M := Lib.hid (fun v hv w => same_any a b ha hb v hv w)
  generalize neg a = s at A1 D Q P1
  generalize ex a = E at A1 D Q P1
  generalize fr a = F at A1 D Q P1
  generalize neg b = t at A2 D Q P2
  generalize ex b = G at A2 D Q P2
  generalize fr b = K at A2 D Q P2
  generalize cv a b = cc at C D
  generalize co a b = oo at C D
  generalize c3 (ky a) (ky b) = dd at O Q
  generalize bt a = x at M P1
  generalize bt b = y at M P2
  clear ha hb
  go_enter Try.func4, Try.ntmps4
  go_wp2_with fail
  refine (A1.out _).mono ?_
  rintro e w1 ⟨rfl, b1⟩
  have B1 := Lib.hid b1
  clear b1
  go_wp2_with fail
  refine (A2.out _).mono ?_
  rintro e w2 ⟨rfl, b1⟩
  have B2 := Lib.hid (B1.out.trans (b1.mono B1.out.size))
  clear b1
  go_wp2_with fail
  refine (C.out _).mono ?_
  rintro e w' ⟨rfl, rfl⟩
  have T0 := Lib.hid (Two.start w2 s E F t G K)
  go_wp2_with fail
  refine (D.out _).mono ?_
  rintro e w3 ⟨rfl, b1⟩
  have T1 := Lib.hid (T0.out.next b1)
  clear b1
  have B3 := Lib.hid (B2.out.trans (T1.out.bel.mono B2.out.size))
  obtain ⟨c0, c1, c2⟩ := T1.out.one
  obtain ⟨d0, d1, d2⟩ := T1.out.two
  have z1 := T1.out.big
  have z2 := Nat.le_trans B2.out.size T1.out.bel.size
  go_wp2_with fail
  have M1 := Lib.hid (fun w => M.out _ rfl w)
  clear M
  go_region_held3 (fun W => W.cell? ⟨w2.heap.size, 0, none⟩ = some (.bool s) ∧ W.cell? ⟨w2.heap.size, 1, none⟩ = some (.int .i64 (E : Int)) ∧ W.cell? ⟨w2.heap.size, 2, none⟩ = some (.int .u64 (F : Int)) ∧
      W.cell? ⟨w2.heap.size + 1, 0, none⟩ = some (.bool t) ∧ W.cell? ⟨w2.heap.size + 1, 1, none⟩ = some (.int .i64 (G : Int)) ∧ W.cell? ⟨w2.heap.size + 1, 2, none⟩ = some (.int .u64 (K : Int)) ∧ Below w.heap.size w W ∧ w2.heap.size + 1 < W.heap.size ∧ w.heap.size ≤ W.heap.size)
    (first | assumption | exact ⟨c0, c1, c2, d0, d1, d2, B3.out.drew, z1, z2⟩ | exact six_next (by assumption) (by assumption))
    (first
      | (go_at_call 12; (with_reducible refine (fixed_any _).mono ?_); rintro e w' ⟨rfl, rfl⟩)
      | (go_at_call 18; (with_reducible refine (O.out _).mono ?_); rintro e w' ⟨rfl, rfl⟩)
      | (go_at_call 19; (with_reducible refine (Q.out _).mono ?_); rintro e w' ⟨rfl, b1⟩)
      | (go_at_call 20; (with_reducible refine (M1.out _).mono ?_); rintro e w' ⟨rfl, rfl⟩)
      | (go_at_call 11; (with_reducible refine (P1.out _).mono ?_); rintro e w' ⟨rfl, b1⟩)
      | (go_at_call 11; (with_reducible refine (P2.out _).mono ?_); rintro e w' ⟨rfl, b1⟩))
  rename_i hHeld
  have HB := Lib.hid hHeld.2.2.2.2.2.2.1
  clear hHeld
  have he : (decide (x = y) == ((x : Int) == (y : Int))) = true := by
    rw [beq_iff_eq, Bool.eq_iff_iff, decide_eq_true_iff, beq_iff_eq]; exact Int.ofNat_inj.symm
  go_wp2
  go_ret
  exact ⟨congrArg (fun v => Ending.returned (.bool v)) he, HB.out⟩

set_option maxRecDepth 100000 in
theorem two_lifted (os : Os) (started : os.Started) (H : Type) (enc : TypeId × Value → H) :
    ReturnsInHanded {} Try.checked os 4 .any (Rows.realTwoSpec.pre6 enc Try.prog Try.f4 Rows.realTwoRow.domain false) (Rows.realTwoSpec.post enc Try.prog Try.f4 false true false false) := by
  refine returnsInHanded_of_change (C := Try.checked) own started (by kernel_rfl) Try.func4
    (ChangeSpec.witness6 (enc := enc) (C := Try.checked) false ⟨#[], #[.int .u64 0, .int .u64 0], []⟩ 8 (by kernel_rfl) (by kernel_rfl) (by kernel_rfl) (by kernel_rfl)) ?_
  intro W base args ds gs before hval0 hW hcnd _
  have hval : ∀ (j : Nat) t v, Try.f4.params[j]? = some t → args[j]? = some v → Value.okWide Try.prog W .any base t v := hval0
  have hW' := hW
  obtain ⟨p, q, hA0, hV, rfl, hfz, hnd⟩ := hW
  have hA : DataW.TrodAll enc Try.prog W 0 (fun _ => true) true Try.f4.params.toList args.toList ds p := hA0
  rw [Try.params4] at hA hval
  obtain ⟨v0, vs0, d0, ds0, p0, q0, hargs, rfl, rfl, h0, r0⟩ := trodAll_cons hA
  obtain ⟨v1, vs1, d1, ds1, p1, q1, rfl, rfl, rfl, h1, r1⟩ := trodAll_cons r0
  obtain ⟨rfl, rfl, rfl⟩ := trodAll_nil r1
  obtain rfl : args = #[v0, v1] := by cases args; simp_all
  obtain ⟨rfl, rfl⟩ := trodVars_none hV
  obtain ⟨a0, rfl, rfl, rfl, w0⟩ := open_int Try.underlying22 (hval 0 22 v0 rfl rfl) h0
  obtain ⟨a1, rfl, rfl, rfl, w1⟩ := open_int Try.underlying22 (hval 1 22 v1 rfl rfl) h1
  clear hA0 hval0
  obtain ⟨b0, rfl, hb0⟩ := nat_of w0
  obtain ⟨b1, rfl, hb1⟩ := nat_of w1
  refine (two_walk b0 b1 hb0 hb1 W).mono fun e W' ⟨he, bel⟩ => ?_
  subst he
  exact ⟨_, rfl, _, _, _, [], _, [], hW', trodAll_mk1 (shut_bool Try.underlying4 _), (trodAll_cons_mk (shut_int Try.underlying22 w0) (trodAll_cons_mk (shut_int Try.underlying22 w1) trodAll_mk0)), rfl, bel.frame _, fun h => by cases h⟩

theorem two_holds : Rows.RealTwoSaid :=
  OpenClaim.holds_of_wide 4 Try.f4 rfl rfl rfl rfl rfl rfl rfl ⟨rfl, rfl, rfl, rfl, rfl⟩ rfl rfl rfl rfl rfl (by kernel_rfl) Try.func4 (by kernel_rfl)
    (of_decide_eq_true (by kernel_rfl)) (by unfold Func.isWrapper; first | (rw [if_pos (by decide +kernel)]; kernel_rfl) | (rw [if_neg (by decide +kernel)]; exact ⟨rfl, rfl⟩))
    (fun os started H enc _ => two_lifted os started H enc)
#print axioms two_holds
end Go.Proofs.Ytjbhbehjcmapeaa
