/- RealAgainst holds: for any whole number of 64 bits and any bits the statement's function returns true. No conditions. -/
import Derived.Test.YtjbhbehjcmapeaaN
namespace Go.Proofs.Ytjbhbehjcmapeaa
open Go Go.ChangeShapes Go.WideShapes Go.ChangeAt Go.RowKit Rl

abbrev PAg (n : Int) (s : Bool) (E F : Nat) (w : World) (c : Int) (o : Bool) : Prop := Calls Try.prog 22 #[.int .i64 n, pt s E F] w fun r w' => r = .returned (.tuple #[.int .i64 c, .bool o]) ∧ Below w.heap.size w w'
theorem pag_nan (n : Int) (s : Bool) (E F : Nat) (h : pn E F = true) (w : World) : PAg n s E F w 0 false := by
  have B0 := Lib.hid ((Below.refl w.heap.size w).alloc (Nat.le_refl _) (cells3 s E F))
  have N1 := Lib.hid (fun w => pnan_any s E F true h w)
  clear h
  go_enter Try.func22, Try.ntmps22
  go_wp2_with fail
  refine (N1.out _).mono ?_
  rintro e w1 ⟨rfl, b1⟩
  have B1 := Lib.hid (B0.out.trans (b1.mono B0.out.size))
  clear b1
  go_wp2
  go_ret2
  exact ⟨rfl, B1.out⟩
set_option maxHeartbeats 400000 in
theorem pag_up (n : Int) (s : Bool) (E F : Nat) (h : pn E F = false) (H : ∀ w, Floored s E F w 0 false 1) (w : World) : PAg n s E F w (-1) true := by
  have B0 := Lib.hid ((Below.refl w.heap.size w).alloc (Nat.le_refl _) (cells3 s E F))
  have N1 := Lib.hid (fun w => pnan_any s E F false h w)
  have F1 := Lib.hid H
  clear h H
  go_enter Try.func22, Try.ntmps22
  go_wp2_with fail
  refine (N1.out _).mono ?_
  rintro e w1 ⟨rfl, b1⟩
  have B1 := Lib.hid (B0.out.trans (b1.mono B0.out.size))
  obtain ⟨c0, c1, c2⟩ := three _ _ _ _ _ b1
  clear b1
  go_wp2_with fail
  refine (F1.out _).mono ?_
  rintro e w2 ⟨rfl, b2⟩
  have B2 := Lib.hid (B1.out.trans (b2.mono B1.out.size))
  clear b2 c0 c1 c2
  go_wp2
  go_ret2
  exact ⟨rfl, B2.out⟩
set_option maxHeartbeats 400000 in
theorem pag_down (n : Int) (s : Bool) (E F : Nat) (h : pn E F = false) (H : ∀ w, Floored s E F w 0 false (-1)) (w : World) : PAg n s E F w 1 true := by
  have B0 := Lib.hid ((Below.refl w.heap.size w).alloc (Nat.le_refl _) (cells3 s E F))
  have N1 := Lib.hid (fun w => pnan_any s E F false h w)
  have F1 := Lib.hid H
  clear h H
  go_enter Try.func22, Try.ntmps22
  go_wp2_with fail
  refine (N1.out _).mono ?_
  rintro e w1 ⟨rfl, b1⟩
  have B1 := Lib.hid (B0.out.trans (b1.mono B0.out.size))
  obtain ⟨c0, c1, c2⟩ := three _ _ _ _ _ b1
  clear b1
  go_wp2_with fail
  refine (F1.out _).mono ?_
  rintro e w2 ⟨rfl, b2⟩
  have B2 := Lib.hid (B1.out.trans (b2.mono B1.out.size))
  clear b2 c0 c1 c2
  go_wp2
  go_ret2
  exact ⟨rfl, B2.out⟩
set_option maxHeartbeats 400000 in
theorem pag_lt (n : Int) (s : Bool) (E F : Nat) (d : Int) (x : Bool) (hl : n < d) (h : pn E F = false) (H : ∀ w, Floored s E F w d x 0) (w : World) : PAg n s E F w (-1) true := by
  have B0 := Lib.hid ((Below.refl w.heap.size w).alloc (Nat.le_refl _) (cells3 s E F))
  have N1 := Lib.hid (fun w => pnan_any s E F false h w)
  have F1 := Lib.hid H
  have h1 : decide (n < d) = true := by simp; omega
  clear h H
  go_enter Try.func22, Try.ntmps22
  go_wp2_with fail
  refine (N1.out _).mono ?_
  rintro e w1 ⟨rfl, b1⟩
  have B1 := Lib.hid (B0.out.trans (b1.mono B0.out.size))
  obtain ⟨c0, c1, c2⟩ := three _ _ _ _ _ b1
  clear b1
  go_wp2_with fail
  refine (F1.out _).mono ?_
  rintro e w2 ⟨rfl, b2⟩
  have B2 := Lib.hid (B1.out.trans (b2.mono B1.out.size))
  clear b2 c0 c1 c2
  go_wp2
  go_ret2
  exact ⟨rfl, B2.out⟩
set_option maxHeartbeats 400000 in
theorem pag_gt (n : Int) (s : Bool) (E F : Nat) (d : Int) (x : Bool) (hl : d < n) (h : pn E F = false) (H : ∀ w, Floored s E F w d x 0) (w : World) : PAg n s E F w 1 true := by
  have B0 := Lib.hid ((Below.refl w.heap.size w).alloc (Nat.le_refl _) (cells3 s E F))
  have N1 := Lib.hid (fun w => pnan_any s E F false h w)
  have F1 := Lib.hid H
  have h1 : decide (n < d) = false := by simp; omega
  have h2 : decide (d < n) = true := by simp; omega
  clear h H
  go_enter Try.func22, Try.ntmps22
  go_wp2_with fail
  refine (N1.out _).mono ?_
  rintro e w1 ⟨rfl, b1⟩
  have B1 := Lib.hid (B0.out.trans (b1.mono B0.out.size))
  obtain ⟨c0, c1, c2⟩ := three _ _ _ _ _ b1
  clear b1
  go_wp2_with fail
  refine (F1.out _).mono ?_
  rintro e w2 ⟨rfl, b2⟩
  have B2 := Lib.hid (B1.out.trans (b2.mono B1.out.size))
  clear b2 c0 c1 c2
  go_wp2
  go_ret2
  exact ⟨rfl, B2.out⟩
set_option maxHeartbeats 400000 in
theorem pag_rest (n : Int) (s : Bool) (E F : Nat) (h : pn E F = false) (H : ∀ w, Floored s E F w n false 0) (w : World) : PAg n s E F w (-1) true := by
  have B0 := Lib.hid ((Below.refl w.heap.size w).alloc (Nat.le_refl _) (cells3 s E F))
  have N1 := Lib.hid (fun w => pnan_any s E F false h w)
  have F1 := Lib.hid H
  clear h H
  go_enter Try.func22, Try.ntmps22
  go_wp2_with fail
  refine (N1.out _).mono ?_
  rintro e w1 ⟨rfl, b1⟩
  have B1 := Lib.hid (B0.out.trans (b1.mono B0.out.size))
  obtain ⟨c0, c1, c2⟩ := three _ _ _ _ _ b1
  clear b1
  go_wp2_with fail
  refine (F1.out _).mono ?_
  rintro e w2 ⟨rfl, b2⟩
  have B2 := Lib.hid (B1.out.trans (b2.mono B1.out.size))
  clear b2 c0 c1 c2
  go_wp2
  go_ret2
  exact ⟨rfl, B2.out⟩
set_option maxHeartbeats 400000 in
theorem pag_eq (n : Int) (s : Bool) (E F : Nat) (h : pn E F = false) (H : ∀ w, Floored s E F w n true 0) (w : World) : PAg n s E F w 0 true := by
  have B0 := Lib.hid ((Below.refl w.heap.size w).alloc (Nat.le_refl _) (cells3 s E F))
  have N1 := Lib.hid (fun w => pnan_any s E F false h w)
  have F1 := Lib.hid H
  clear h H
  go_enter Try.func22, Try.ntmps22
  go_wp2_with fail
  refine (N1.out _).mono ?_
  rintro e w1 ⟨rfl, b1⟩
  have B1 := Lib.hid (B0.out.trans (b1.mono B0.out.size))
  obtain ⟨c0, c1, c2⟩ := three _ _ _ _ _ b1
  clear b1
  go_wp2_with fail
  refine (F1.out _).mono ?_
  rintro e w2 ⟨rfl, b2⟩
  have B2 := Lib.hid (B1.out.trans (b2.mono B1.out.size))
  clear b2 c0 c1 c2
  go_wp2
  go_ret2
  exact ⟨rfl, B2.out⟩

/- the greatest whole number that isn't above decides it, and whether that is it -/
theorem pag_floor (n : Int) (b : Nat) (d : Int) (x : Bool) (hn : nan b = false) (H : ∀ w, Floored (neg b) (ex b) (fr b) w d x 0) (h1 : d * Q ≤ S b) (h2 : S b < (d + 1) * Q) (hx : x = true ↔ d * Q = S b) (w : World) :
    PAg n (neg b) (ex b) (fr b) w (ag n b) true := by
  have p : pn (ex b) (fr b) = false := by rw [pn_nan]; exact hn
  unfold ag
  rw [hn, if_neg (by simp)]
  by_cases l : n < d
  · rw [c3_lt (by have := mulQ_lt l; omega)]
    exact pag_lt n _ _ _ d x l p H w
  · by_cases g : d < n
    · rw [c3_gt (by have := mulQ (show d + 1 ≤ n by omega); omega)]
      exact pag_gt n _ _ _ d x g p H w
    · obtain rfl : n = d := by omega
      cases x
      · have : ¬ n * Q = S b := fun e => by have := hx.2 e; cases this
        rw [c3_lt (by omega)]
        exact pag_rest n _ _ _ p H w
      · rw [← hx.1 rfl, c3_eq]
        exact pag_eq n _ _ _ p H w

theorem pagainst_any (n : Int) (b : Nat) (h1 : -9223372036854775808 ≤ n) (h2 : n ≤ 9223372036854775807) (w : World) : PAg n (neg b) (ex b) (fr b) w (ag n b) (!nan b) := by
  cases hn : nan b
  · have p : pn (ex b) (fr b) = false := by rw [pn_nan]; exact hn
    have Fl0 := floor_any (neg b) (ex b) (fr b) (ex_lt b) (fr_lt b)
    rw [ef b] at Fl0
    have d := Nat.div_add_mod (M (b % 9223372036854775808)) Q
    have m := Nat.mod_lt (M (b % 9223372036854775808)) Q_pos
    rw [Nat.mul_comm] at d
    have d' : ((M (b % 9223372036854775808) / Q : Nat) : Int) * Q + ((M (b % 9223372036854775808) % Q : Nat) : Int) = ((M (b % 9223372036854775808) : Nat) : Int) := by
      rw [← Int.natCast_mul, ← Int.natCast_add, d]
    have hS := S_eq b
    clear d
    show PAg n (neg b) (ex b) (fr b) w (ag n b) true
    generalize M (b % 9223372036854775808) / Q = t at d' Fl0
    generalize M (b % 9223372036854775808) % Q = u at d' m Fl0
    generalize M (b % 9223372036854775808) = y at d' hS
    by_cases c : 9223372036854775808 ≤ b
    · rw [if_pos c] at hS
      have hs : neg b = true := decide_eq_true c
      by_cases z : u = 0
      · rw [decide_eq_true z] at Fl0
        by_cases o : 9223372036854775808 < t
        · have a : ag n b = 1 := by
            unfold ag
            rw [hn, if_neg (by simp), c3_gt]
            have q := mulQ_lt (show (-(t : Int)) < n by omega)
            rw [Int.neg_mul] at q
            omega
          rw [a]
          exact pag_down n _ _ _ p (Fl0.minus_out hs (by simpa using o)) w
        · refine pag_floor n b _ _ hn (Fl0.minus_in hs rfl (by omega)) ?_ ?_ ?_ w
          · rw [Int.neg_mul]; omega
          · rw [Int.add_mul, Int.neg_mul]; omega
          · rw [Int.neg_mul]; simp; omega
      · rw [decide_eq_false z] at Fl0
        by_cases o : 9223372036854775808 < t + 1
        · have a : ag n b = 1 := by
            unfold ag
            rw [hn, if_neg (by simp), c3_gt]
            have q := mulQ (show (-(t : Int)) ≤ n by omega)
            rw [Int.neg_mul] at q
            omega
          rw [a]
          exact pag_down n _ _ _ p (Fl0.minus_out hs (by simpa using o)) w
        · refine pag_floor n b _ _ hn (Fl0.minus_rest hs rfl (by omega)) ?_ ?_ ?_ w
          · rw [Int.neg_mul, Int.natCast_add, Int.add_mul]; omega
          · rw [Int.natCast_add, show (-((t : Int) + ((1 : Nat) : Int)) + 1) = -(t : Int) by omega, Int.neg_mul]; omega
          · rw [Int.neg_mul, Int.natCast_add, Int.add_mul]; simp; omega
    · rw [if_neg c] at hS
      have hs : neg b = false := decide_eq_false c
      by_cases o : 9223372036854775808 ≤ t
      · have a : ag n b = -1 := by
          unfold ag
          rw [hn, if_neg (by simp), c3_lt]
          have q := mulQ_lt (show n < (t : Int) by omega)
          omega
        rw [a]
        exact pag_up n _ _ _ p (Fl0.plus_out hs o) w
      · refine pag_floor n b _ _ hn (Fl0.plus_in hs (by omega)) ?_ ?_ ?_ w
        · omega
        · rw [Int.add_mul]; omega
        · rw [decide_eq_true_iff]; omega
  · rw [show ag n b = 0 by unfold ag; rw [if_pos hn]]
    exact pag_nan n _ _ _ (by rw [pn_nan]; exact hn) w

set_option maxHeartbeats 400000 in
theorem against_walk (n : Int) (b : Nat) (h1 : -9223372036854775808 ≤ n) (h2 : n ≤ 9223372036854775807) (hb : b < 18446744073709551616) (w : World) :
    Calls Try.prog 5 #[.int .i64 n, .int .u64 (b : Int)] w fun e w' => e = .returned (.bool true) ∧ Below w.heap.size w w' := by
  have r1 := run15 b
  have A := Lib.hid (against_any n b h1 h2 hb w)
  have O := Lib.hid (ofBits_any b hb w)
  have P := Lib.hid (fun w => pagainst_any n b h1 h2 w)
  generalize ag n b = x at A P
  generalize (!nan b) = y at A P
  generalize neg b = s at O P
  generalize ex b = E at O P
  generalize fr b = F at O P
  clear h1 h2 hb
  go_enter Try.func5, Try.ntmps5
  go_wp2_with fail
  refine A.out.mono ?_
  rintro e w' ⟨rfl, rfl⟩
  go_wp2_with fail
  refine O.out.mono ?_
  rintro e w1 ⟨rfl, b1⟩
  have B1 := Lib.hid b1
  clear b1
  go_wp2_with fail
  refine (P.out _).mono ?_
  rintro e w2 ⟨rfl, b2⟩
  have B2 := Lib.hid (B1.out.trans (b2.mono B1.out.size))
  clear b2
  go_wp2_with fail
  refine (fixed_any _).mono ?_
  rintro e w' ⟨rfl, rfl⟩
  go_wp2
  go_ret
  exact ⟨rfl, B2.out⟩

theorem int_of {a : Int} (h : (Lit.int .i64 a).wf = true) : -9223372036854775808 ≤ a ∧ a ≤ 9223372036854775807 := by
  simpa [Lit.wf, IntKind.min, IntKind.max, IntKind.signed, IntKind.bits] using h

set_option maxRecDepth 100000 in
theorem against_lifted (os : Os) (started : os.Started) (H : Type) (enc : TypeId × Value → H) :
    ReturnsInHanded {} Try.checked os 5 .any (Rows.realAgainstSpec.pre6 enc Try.prog Try.f5 Rows.realAgainstRow.domain false) (Rows.realAgainstSpec.post enc Try.prog Try.f5 false true false false) := by
  refine returnsInHanded_of_change (C := Try.checked) own started (by kernel_rfl) Try.func5
    (ChangeSpec.witness6 (enc := enc) (C := Try.checked) false ⟨#[], #[.int .i64 0, .int .u64 0], []⟩ 8 (by kernel_rfl) (by kernel_rfl) (by kernel_rfl) (by kernel_rfl)) ?_
  intro W base args ds gs before hval0 hW hcnd _
  have hval : ∀ (j : Nat) t v, Try.f5.params[j]? = some t → args[j]? = some v → Value.okWide Try.prog W .any base t v := hval0
  have hW' := hW
  obtain ⟨p, q, hA0, hV, rfl, hfz, hnd⟩ := hW
  have hA : DataW.TrodAll enc Try.prog W 0 (fun _ => true) true Try.f5.params.toList args.toList ds p := hA0
  rw [Try.params5] at hA hval
  obtain ⟨v0, vs0, d0, ds0, p0, q0, hargs, rfl, rfl, h0, r0⟩ := trodAll_cons hA
  obtain ⟨v1, vs1, d1, ds1, p1, q1, rfl, rfl, rfl, h1, r1⟩ := trodAll_cons r0
  obtain ⟨rfl, rfl, rfl⟩ := trodAll_nil r1
  obtain rfl : args = #[v0, v1] := by cases args; simp_all
  obtain ⟨rfl, rfl⟩ := trodVars_none hV
  obtain ⟨a0, rfl, rfl, rfl, w0⟩ := open_int Try.underlying2 (hval 0 2 v0 rfl rfl) h0
  obtain ⟨a1, rfl, rfl, rfl, w1⟩ := open_int Try.underlying22 (hval 1 22 v1 rfl rfl) h1
  clear hA0 hval0
  obtain ⟨b1, rfl, hb1⟩ := nat_of w1
  refine (against_walk a0 b1 (int_of w0).1 (int_of w0).2 hb1 W).mono fun e W' ⟨he, bel⟩ => ?_
  subst he
  exact ⟨_, rfl, _, _, _, [], _, [], hW', trodAll_mk1 (shut_bool Try.underlying4 _), (trodAll_cons_mk (shut_int Try.underlying2 w0) (trodAll_cons_mk (shut_int Try.underlying22 w1) trodAll_mk0)), rfl, bel.frame _, fun h => by cases h⟩

theorem against_holds : Rows.RealAgainstSaid :=
  OpenClaim.holds_of_wide 5 Try.f5 rfl rfl rfl rfl rfl rfl rfl ⟨rfl, rfl, rfl, rfl, rfl⟩ rfl rfl rfl rfl rfl (by kernel_rfl) Try.func5 (by kernel_rfl)
    (of_decide_eq_true (by kernel_rfl)) (by unfold Func.isWrapper; first | (rw [if_pos (by decide +kernel)]; kernel_rfl) | (rw [if_neg (by decide +kernel)]; exact ⟨rfl, rfl⟩))
    (fun os started H enc _ => against_lifted os started H enc)
#print axioms against_holds
end Go.Proofs.Ytjbhbehjcmapeaa
