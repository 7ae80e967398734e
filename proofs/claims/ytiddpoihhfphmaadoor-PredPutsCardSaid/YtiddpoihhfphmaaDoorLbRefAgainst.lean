/- The document's Against: its contract. -/
import Derived.Test.YtiddpoihhfphmaaDoorLbRefFloor
import Derived.Test.YtiddpoihhfphmaaDoorLbAgainst
namespace Go.Proofs.YtiddpoihhfphmaaDoor
open Go Go.RowKit Rl
set_option maxRecDepth 20000

/- sizes by parts -/
theorem M_low (F : Nat) (h : F < 4503599627370496) : M F = F := by unfold M; rw [if_pos h]
theorem M_parts (E F : Nat) (hE : 0 < E) (hF : F < 4503599627370496) : M (E * 4503599627370496 + F) = (F + 4503599627370496) * 2 ^ (E - 1) := by
  unfold M
  rw [if_neg (by omega), show (E * 4503599627370496 + F) % 4503599627370496 = F by omega, show (E * 4503599627370496 + F) / 4503599627370496 = E by omega, Nat.add_comm F]
theorem cut_mod (m k j : Nat) (h : k ≤ j) : m * 2 ^ k % 2 ^ j = 0 ↔ m % 2 ^ (j - k) = 0 := by
  have e : 2 ^ j = 2 ^ (j - k) * 2 ^ k := by rw [← Nat.pow_add, Nat.sub_add_cancel h]
  rw [e, Nat.mul_mod_mul_right]
  have p := Nat.two_pow_pos k
  constructor
  · intro z
    rcases Nat.mul_eq_zero.1 z with z | z <;> omega
  · intro z; rw [z, Nat.zero_mul]

structure Fl (s : Bool) (E F T : Nat) (X : Bool) : Prop where
  plus_out : s = false → 9223372036854775808 ≤ T → ∀ w, Floored s E F w 0 false 1
  plus_in : s = false → T < 9223372036854775808 → ∀ w, Floored s E F w (T : Int) X 0
  minus_out : s = true → 9223372036854775808 < T + (if X then 0 else 1) → ∀ w, Floored s E F w 0 false (-1)
  minus_in : s = true → X = true → T ≤ 9223372036854775808 → ∀ w, Floored s E F w (-(T : Int)) true 0
  minus_rest : s = true → X = false → T < 9223372036854775808 → ∀ w, Floored s E F w (-((T + 1 : Nat) : Int)) false 0

theorem floor_small (s : Bool) (E F m0 N : Nat) (hE : E ≠ 2047) (V : Valued s E F m0 (-(N : Int))) (h0 : 0 < m0) (h1 : m0 < 9007199254740992) (hN : N ≤ 1074) :
    Fl s E F (m0 / 2 ^ N) (decide (m0 % 2 ^ N = 0)) := by
  have l : m0 / 2 ^ N < 9007199254740992 := Nat.lt_of_le_of_lt (Nat.div_le_self _ _) h1
  refine ⟨fun hs h => by omega, fun hs _ w => ?_, fun hs h => ?_, fun hs hx _ w => ?_, fun hs hx _ w => ?_⟩
  · subst hs; exact floor_down_plus E F m0 N _ _ hE V h0 h1 hN (Lib.hid rfl) (Lib.hid rfl) w
  · exfalso
    generalize m0 / 2 ^ N = t at l h
    split at h <;> omega
  · subst hs; exact floor_down_minus E F m0 N _ hE V h0 h1 hN (Lib.hid rfl) (Lib.hid hx) w
  · subst hs; exact floor_down_rest E F m0 N _ hE V h0 h1 hN (Lib.hid rfl) (Lib.hid hx) w

theorem floor_great (s : Bool) (E F m0 N : Nat) (hE : E ≠ 2047) (V : Valued s E F m0 (N : Int)) (h0 : 0 < m0) (h1 : m0 < 9007199254740992) (hN : N ≤ 1074) :
    Fl s E F (m0 * 2 ^ N) true := by
  refine ⟨fun hs h w => ?_, fun hs h w => ?_, fun hs h w => ?_, fun hs _ h w => ?_, fun _ hx => by cases hx⟩
  · subst hs; exact floor_up_out E F m0 N _ hE V h0 h1 hN (Lib.hid rfl) h w
  · subst hs; exact floor_up_in E F m0 N _ hE V h0 h1 hN (Lib.hid rfl) h w
  · subst hs; exact floor_up_outm E F m0 N _ hE V h0 h1 hN (Lib.hid rfl) (by simpa using h) w
  · subst hs; exact floor_up_inm E F m0 N _ hE V h0 h1 hN (Lib.hid rfl) h w

theorem floor_any (s : Bool) (E F : Nat) (hE : E < 2048) (hF : F < 4503599627370496) :
    Fl s E F (M (E * 4503599627370496 + F) / Q) (decide (M (E * 4503599627370496 + F) % Q = 0)) := by
  have V0 : Valued s E F (vm E F) (vx E) := Lib.hid (fun w => value_any s E F hE hF w)
  by_cases e0 : E = 0
  · subst e0
    rw [show vm 0 F = F by unfold vm; rw [if_pos rfl], show vx 0 = -((1074 : Nat) : Int) by decide] at V0
    rw [show 0 * 4503599627370496 + F = F by omega, M_low F hF]
    by_cases z : F = 0
    · subst z
      have Z := fun w => floor_zero s 0 0 _ (by omega) V0 w
      rw [Nat.zero_div, Nat.zero_mod]
      refine ⟨fun _ h => by omega, fun _ _ w => Z w, fun _ h => by simp at h, fun _ _ _ w => Z w, fun _ hx => by simp at hx⟩
    · rw [Q_K]
      exact floor_small s 0 F F K (by omega) V0 (by omega) (by omega) (Nat.le_refl _)
  · have em : vm E F = F + 4503599627370496 := by unfold vm; rw [if_neg e0]
    have ee : vx E = (E : Int) - 1075 := by unfold vx; rw [if_neg e0]
    rw [em, ee] at V0
    rw [M_parts E F (by omega) hF]
    by_cases lo : E < 1075
    · have V1 : Valued s E F (F + 4503599627370496) (-((1075 - E : Nat) : Int)) := by
        rw [show (-((1075 - E : Nat) : Int)) = (E : Int) - 1075 by omega]; exact V0
      have t := floor_small s E F (F + 4503599627370496) (1075 - E) (by omega) V1 (by omega) (by omega) (by omega)
      have a : (F + 4503599627370496) * 2 ^ (E - 1) / Q = (F + 4503599627370496) / 2 ^ (1075 - E) := by
        rw [Q_K, ← cut_scale, show E - 1 - K = 0 by unfold K; omega, show K - (E - 1) = 1075 - E by unfold K; omega, Nat.pow_zero, Nat.mul_one]
      have b : decide ((F + 4503599627370496) * 2 ^ (E - 1) % Q = 0) = decide ((F + 4503599627370496) % 2 ^ (1075 - E) = 0) := by
        rw [decide_eq_decide, Q_K, cut_mod _ _ _ (by unfold K; omega), show K - (E - 1) = 1075 - E by unfold K; omega]
      rw [a, b]
      exact t
    · have a0 : (F + 4503599627370496) * 2 ^ (E - 1) = (F + 4503599627370496) * 2 ^ (E - 1075) * Q := by
        rw [Nat.mul_assoc, Q_K, ← Nat.pow_add, show E - 1075 + K = E - 1 by unfold K; omega]
      have a : (F + 4503599627370496) * 2 ^ (E - 1) / Q = (F + 4503599627370496) * 2 ^ (E - 1075) := by rw [a0, Nat.mul_div_cancel _ Q_pos]
      have b : decide ((F + 4503599627370496) * 2 ^ (E - 1) % Q = 0) = true := by rw [a0, Nat.mul_mod_left]; rfl
      rw [a, b]
      by_cases i : E = 2047
      · subst i
        have I := fun w => floor_inf s F w
        have g : 9223372036854775808 < (F + 4503599627370496) * 2 ^ (2047 - 1075) := by
          have p := Nat.pow_le_pow_right (show 0 < 2 by omega) (show 12 ≤ 2047 - 1075 by omega)
          have q := Nat.mul_le_mul (show 4503599627370496 ≤ F + 4503599627370496 by omega) p
          generalize (F + 4503599627370496) * 2 ^ (2047 - 1075) = x at q
          omega
        generalize (F + 4503599627370496) * 2 ^ (2047 - 1075) = x at g
        refine ⟨fun hs _ w => ?_, fun _ h => by omega, fun hs _ w => ?_, fun _ _ h => by omega, fun _ hx => by cases hx⟩
        · subst hs; exact I w
        · subst hs; exact I w
      · have V1 : Valued s E F (F + 4503599627370496) ((E - 1075 : Nat) : Int) := by
          rw [show ((E - 1075 : Nat) : Int) = (E : Int) - 1075 by omega]; exact V0
        exact floor_great s E F (F + 4503599627370496) (E - 1075) i V1 (by omega) (by omega) (by omega)

abbrev PAg (n : Int) (s : Bool) (E F : Nat) (w : World) (c : Int) (o : Bool) : Prop := Calls Tryd.prog 46 #[.int .i64 n, pt s E F] w fun r w' => r = .returned (.tuple #[.int .i64 c, .bool o]) ∧ Below w.heap.size w w'
theorem pag_nan (n : Int) (s : Bool) (E F : Nat) (h : pn E F = true) (w : World) : PAg n s E F w 0 false := by
  have B0 := Lib.hid ((Below.refl w.heap.size w).alloc (Nat.le_refl _) (cells3 s E F))
  have N1 := Lib.hid (fun w => pnan_any s E F true h w)
  clear h
  go_enter Tryd.func46, Tryd.ntmps46
  go_wp2_with fail
  refine (N1.out _).mono ?_
  rintro e w1 ⟨rfl, b1⟩
  have B1 := Lib.hid (B0.out.trans (b1.mono B0.out.size))
  clear b1
  go_wp2
  go_ret2
  exact ⟨rfl, B1.out⟩
set_option maxHeartbeats 400000 in
theorem pag_up (n : Int) (s : Bool) (E F : Nat) (h : pn E F = false) (H : ∀ w, Floored s E F w 0 false 1) (w : World) : PAg n s E F w (-1) true := by
  have B0 := Lib.hid ((Below.refl w.heap.size w).alloc (Nat.le_refl _) (cells3 s E F))
  have N1 := Lib.hid (fun w => pnan_any s E F false h w)
  have F1 := Lib.hid H
  clear h H
  go_enter Tryd.func46, Tryd.ntmps46
  go_wp2_with fail
  refine (N1.out _).mono ?_
  rintro e w1 ⟨rfl, b1⟩
  have B1 := Lib.hid (B0.out.trans (b1.mono B0.out.size))
  obtain ⟨c0, c1, c2⟩ := three _ _ _ _ _ b1
  clear b1
  go_wp2_with fail
  refine (F1.out _).mono ?_
  rintro e w2 ⟨rfl, b2⟩
  have B2 := Lib.hid (B1.out.trans (b2.mono B1.out.size))
  clear b2 c0 c1 c2
  go_wp2
  go_ret2
  exact ⟨rfl, B2.out⟩
set_option maxHeartbeats 400000 in
theorem pag_down (n : Int) (s : Bool) (E F : Nat) (h : pn E F = false) (H : ∀ w, Floored s E F w 0 false (-1)) (w : World) : PAg n s E F w 1 true := by
  have B0 := Lib.hid ((Below.refl w.heap.size w).alloc (Nat.le_refl _) (cells3 s E F))
  have N1 := Lib.hid (fun w => pnan_any s E F false h w)
  have F1 := Lib.hid H
  clear h H
  go_enter Tryd.func46, Tryd.ntmps46
  go_wp2_with fail
  refine (N1.out _).mono ?_
  rintro e w1 ⟨rfl, b1⟩
  have B1 := Lib.hid (B0.out.trans (b1.mono B0.out.size))
  obtain ⟨c0, c1, c2⟩ := three _ _ _ _ _ b1
  clear b1
  go_wp2_with fail
  refine (F1.out _).mono ?_
  rintro e w2 ⟨rfl, b2⟩
  have B2 := Lib.hid (B1.out.trans (b2.mono B1.out.size))
  clear b2 c0 c1 c2
  go_wp2
  go_ret2
  exact ⟨rfl, B2.out⟩
set_option maxHeartbeats 400000 in
theorem pag_lt (n : Int) (s : Bool) (E F : Nat) (d : Int) (x : Bool) (hl : n < d) (h : pn E F = false) (H : ∀ w, Floored s E F w d x 0) (w : World) : PAg n s E F w (-1) true := by
  have B0 := Lib.hid ((Below.refl w.heap.size w).alloc (Nat.le_refl _) (cells3 s E F))
  have N1 := Lib.hid (fun w => pnan_any s E F false h w)
  have F1 := Lib.hid H
  have h1 : decide (n < d) = true := by simp; omega
  clear h H
  go_enter Tryd.func46, Tryd.ntmps46
  go_wp2_with fail
  refine (N1.out _).mono ?_
  rintro e w1 ⟨rfl, b1⟩
  have B1 := Lib.hid (B0.out.trans (b1.mono B0.out.size))
  obtain ⟨c0, c1, c2⟩ := three _ _ _ _ _ b1
  clear b1
  go_wp2_with fail
  refine (F1.out _).mono ?_
  rintro e w2 ⟨rfl, b2⟩
  have B2 := Lib.hid (B1.out.trans (b2.mono B1.out.size))
  clear b2 c0 c1 c2
  go_wp2
  go_ret2
  exact ⟨rfl, B2.out⟩
set_option maxHeartbeats 400000 in
theorem pag_gt (n : Int) (s : Bool) (E F : Nat) (d : Int) (x : Bool) (hl : d < n) (h : pn E F = false) (H : ∀ w, Floored s E F w d x 0) (w : World) : PAg n s E F w 1 true := by
  have B0 := Lib.hid ((Below.refl w.heap.size w).alloc (Nat.le_refl _) (cells3 s E F))
  have N1 := Lib.hid (fun w => pnan_any s E F false h w)
  have F1 := Lib.hid H
  have h1 : decide (n < d) = false := by simp; omega
  have h2 : decide (d < n) = true := by simp; omega
  clear h H
  go_enter Tryd.func46, Tryd.ntmps46
  go_wp2_with fail
  refine (N1.out _).mono ?_
  rintro e w1 ⟨rfl, b1⟩
  have B1 := Lib.hid (B0.out.trans (b1.mono B0.out.size))
  obtain ⟨c0, c1, c2⟩ := three _ _ _ _ _ b1
  clear b1
  go_wp2_with fail
  refine (F1.out _).mono ?_
  rintro e w2 ⟨rfl, b2⟩
  have B2 := Lib.hid (B1.out.trans (b2.mono B1.out.size))
  clear b2 c0 c1 c2
  go_wp2
  go_ret2
  exact ⟨rfl, B2.out⟩
set_option maxHeartbeats 400000 in
theorem pag_rest (n : Int) (s : Bool) (E F : Nat) (h : pn E F = false) (H : ∀ w, Floored s E F w n false 0) (w : World) : PAg n s E F w (-1) true := by
  have B0 := Lib.hid ((Below.refl w.heap.size w).alloc (Nat.le_refl _) (cells3 s E F))
  have N1 := Lib.hid (fun w => pnan_any s E F false h w)
  have F1 := Lib.hid H
  clear h H
  go_enter Tryd.func46, Tryd.ntmps46
  go_wp2_with fail
  refine (N1.out _).mono ?_
  rintro e w1 ⟨rfl, b1⟩
  have B1 := Lib.hid (B0.out.trans (b1.mono B0.out.size))
  obtain ⟨c0, c1, c2⟩ := three _ _ _ _ _ b1
  clear b1
  go_wp2_with fail
  refine (F1.out _).mono ?_
  rintro e w2 ⟨rfl, b2⟩
  have B2 := Lib.hid (B1.out.trans (b2.mono B1.out.size))
  clear b2 c0 c1 c2
  go_wp2
  go_ret2
  exact ⟨rfl, B2.out⟩
set_option maxHeartbeats 400000 in
theorem pag_eq (n : Int) (s : Bool) (E F : Nat) (h : pn E F = false) (H : ∀ w, Floored s E F w n true 0) (w : World) : PAg n s E F w 0 true := by
  have B0 := Lib.hid ((Below.refl w.heap.size w).alloc (Nat.le_refl _) (cells3 s E F))
  have N1 := Lib.hid (fun w => pnan_any s E F false h w)
  have F1 := Lib.hid H
  clear h H
  go_enter Tryd.func46, Tryd.ntmps46
  go_wp2_with fail
  refine (N1.out _).mono ?_
  rintro e w1 ⟨rfl, b1⟩
  have B1 := Lib.hid (B0.out.trans (b1.mono B0.out.size))
  obtain ⟨c0, c1, c2⟩ := three _ _ _ _ _ b1
  clear b1
  go_wp2_with fail
  refine (F1.out _).mono ?_
  rintro e w2 ⟨rfl, b2⟩
  have B2 := Lib.hid (B1.out.trans (b2.mono B1.out.size))
  clear b2 c0 c1 c2
  go_wp2
  go_ret2
  exact ⟨rfl, B2.out⟩

/- the greatest whole number that isn't above decides it, and whether that is it -/
theorem pag_floor (n : Int) (b : Nat) (d : Int) (x : Bool) (hn : nan b = false) (H : ∀ w, Floored (neg b) (ex b) (fr b) w d x 0) (h1 : d * Q ≤ S b) (h2 : S b < (d + 1) * Q) (hx : x = true ↔ d * Q = S b) (w : World) :
    PAg n (neg b) (ex b) (fr b) w (ag n b) true := by
  have p : pn (ex b) (fr b) = false := by rw [pn_nan]; exact hn
  unfold ag
  rw [hn, if_neg (by simp)]
  by_cases l : n < d
  · rw [c3_lt (by have := mulQ_lt l; omega)]
    exact pag_lt n _ _ _ d x l p H w
  · by_cases g : d < n
    · rw [c3_gt (by have := mulQ (show d + 1 ≤ n by omega); omega)]
      exact pag_gt n _ _ _ d x g p H w
    · obtain rfl : n = d := by omega
      cases x
      · have : ¬ n * Q = S b := fun e => by have := hx.2 e; cases this
        rw [c3_lt (by omega)]
        exact pag_rest n _ _ _ p H w
      · rw [← hx.1 rfl, c3_eq]
        exact pag_eq n _ _ _ p H w

theorem pagainst_any (n : Int) (b : Nat) (h1 : -9223372036854775808 ≤ n) (h2 : n ≤ 9223372036854775807) (w : World) : PAg n (neg b) (ex b) (fr b) w (ag n b) (!nan b) := by
  cases hn : nan b
  · have p : pn (ex b) (fr b) = false := by rw [pn_nan]; exact hn
    have Fl0 := floor_any (neg b) (ex b) (fr b) (ex_lt b) (fr_lt b)
    rw [ef b] at Fl0
    have d := Nat.div_add_mod (M (b % 9223372036854775808)) Q
    have m := Nat.mod_lt (M (b % 9223372036854775808)) Q_pos
    rw [Nat.mul_comm] at d
    have d' : ((M (b % 9223372036854775808) / Q : Nat) : Int) * Q + ((M (b % 9223372036854775808) % Q : Nat) : Int) = ((M (b % 9223372036854775808) : Nat) : Int) := by
      rw [← Int.natCast_mul, ← Int.natCast_add, d]
    have hS := S_eq b
    clear d
    show PAg n (neg b) (ex b) (fr b) w (ag n b) true
    generalize M (b % 9223372036854775808) / Q = t at d' Fl0
    generalize M (b % 9223372036854775808) % Q = u at d' m Fl0
    generalize M (b % 9223372036854775808) = y at d' hS
    by_cases c : 9223372036854775808 ≤ b
    · rw [if_pos c] at hS
      have hs : neg b = true := decide_eq_true c
      by_cases z : u = 0
      · rw [decide_eq_true z] at Fl0
        by_cases o : 9223372036854775808 < t
        · have a : ag n b = 1 := by
            unfold ag
            rw [hn, if_neg (by simp), c3_gt]
            have q := mulQ_lt (show (-(t : Int)) < n by omega)
            rw [Int.neg_mul] at q
            omega
          rw [a]
          exact pag_down n _ _ _ p (Fl0.minus_out hs (by simpa using o)) w
        · refine pag_floor n b _ _ hn (Fl0.minus_in hs rfl (by omega)) ?_ ?_ ?_ w
          · rw [Int.neg_mul]; omega
          · rw [Int.add_mul, Int.neg_mul]; omega
          · rw [Int.neg_mul]; simp; omega
      · rw [decide_eq_false z] at Fl0
        by_cases o : 9223372036854775808 < t + 1
        · have a : ag n b = 1 := by
            unfold ag
            rw [hn, if_neg (by simp), c3_gt]
            have q := mulQ (show (-(t : Int)) ≤ n by omega)
            rw [Int.neg_mul] at q
            omega
          rw [a]
          exact pag_down n _ _ _ p (Fl0.minus_out hs (by simpa using o)) w
        · refine pag_floor n b _ _ hn (Fl0.minus_rest hs rfl (by omega)) ?_ ?_ ?_ w
          · rw [Int.neg_mul, Int.natCast_add, Int.add_mul]; omega
          · rw [Int.natCast_add, show (-((t : Int) + ((1 : Nat) : Int)) + 1) = -(t : Int) by omega, Int.neg_mul]; omega
          · rw [Int.neg_mul, Int.natCast_add, Int.add_mul]; simp; omega
    · rw [if_neg c] at hS
      have hs : neg b = false := decide_eq_false c
      by_cases o : 9223372036854775808 ≤ t
      · have a : ag n b = -1 := by
          unfold ag
          rw [hn, if_neg (by simp), c3_lt]
          have q := mulQ_lt (show n < (t : Int) by omega)
          omega
        rw [a]
        exact pag_up n _ _ _ p (Fl0.plus_out hs o) w
      · refine pag_floor n b _ _ hn (Fl0.plus_in hs (by omega)) ?_ ?_ ?_ w
        · omega
        · rw [Int.add_mul]; omega
        · rw [decide_eq_true_iff]; omega
  · rw [show ag n b = 0 by unfold ag; rw [if_pos hn]]
    exact pag_nan n _ _ _ (by rw [pn_nan]; exact hn) w

end Go.Proofs.YtiddpoihhfphmaaDoor
