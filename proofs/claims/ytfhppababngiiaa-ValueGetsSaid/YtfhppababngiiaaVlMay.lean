/- Values: whether they may be. The program's and the document's contract. -/
import Derived.Test.YtfhppababngiiaaLbReal
import Derived.Test.YtfhppababngiiaaLbOwn
import Derived.BigQuiet
import Derived.Deep.QuietTactic
namespace Go.Proofs.Ytfhppababngiiaa
open Go Go.RowKit Rl

abbrev vl (k n : Int) (r : Nat) (s : ByteArray) : Value := .agg #[.int .u8 k, .int .i64 n, .float .f64 r, .string s]
abbrev vcells (k n : Int) (r : Nat) (s : ByteArray) : Obj := .cells #[.int .u8 k, .int .i64 n, .float .f64 r, .string s] 29
def mayB (k : Int) (bi br bs bz : Bool) : Bool :=
  if k = 0 then bi && br && bs else if k = 1 then br && bs else if k = 2 then bi && bs else if k = 3 then bi && br && bz else false
def may (k n : Int) (r : Nat) (s : ByteArray) : Bool := mayB k (decide (n = 0)) (decide (r = 0)) (decide (s.size = 0)) (decide (s.size ≤ 255))
theorem toList_nil (s : ByteArray) : (s.toList == []) = decide (s.size = 0) := by
  rw [ByteArray.toList_eq, Bool.eq_iff_iff, beq_iff_eq, decide_eq_true_iff]
  constructor
  · intro h; show s.data.size = 0; rw [← Array.length_toList, h]; rfl
  · intro h; exact List.eq_nil_of_length_eq_zero (by rw [Array.length_toList]; exact h)
theorem ret_bool {a b : Bool} (h : a = b) : Ending.returned (.bool a) = .returned (.bool b) := by rw [h]

set_option maxHeartbeats 1000000 in
theorem may_walk (k n : Int) (r x : Nat) (s : ByteArray) (bi br bs bz : Bool) (hi : (n == 0) = bi) (hr : ((x : Int) == 0) = br) (hs : (s.toList == []) = bs) (hz : decide ((s.size : Int) ≤ 255) = bz)
    (w : World) (R : Hid (∀ w, Calls Try.prog 29 #[.float .f64 r] w fun e w' => e = .returned (.int .u64 (x : Int)) ∧ w = w')) :
    Calls Try.prog 12 #[vl k n r s] w fun e w' => e = .returned (.bool (mayB k bi br bs bz)) ∧ Below w.heap.size w w' := by
  have B0 := Lib.hid ((Below.refl w.heap.size w).alloc (Nat.le_refl _) (vcells k n r s))
  go_enter Try.func12, Try.ntmps12
  go_wp2_with fail
  go_quiet (fail)
  go_wp2_with fail
  refine (R.out _).mono ?_
  rintro e w' ⟨rfl, rfl⟩
  clear R
  by_cases h0 : k = 0
  · subst h0
    cases bi <;> cases br <;> (go_wp2_with fail; go_ret; exact ⟨by simp [mayB], B0.out.trans (below_drewN _ _ _)⟩)
  have e0 : (k == 0) = false := by simp; omega
  by_cases h1 : k = 1
  · subst h1
    cases br <;> (go_wp2_with fail; go_ret; exact ⟨by simp [mayB], B0.out.trans (below_drewN _ _ _)⟩)
  have e1 : (k == 1) = false := by simp; omega
  by_cases h2 : k = 2
  · subst h2
    cases bi <;> (go_wp2_with fail; go_ret; exact ⟨by simp [mayB], B0.out.trans (below_drewN _ _ _)⟩)
  have e2 : (k == 2) = false := by simp; omega
  by_cases h3 : k = 3
  · subst h3
    cases bi <;> cases br <;> cases bz <;> (go_wp2_with fail; go_ret; exact ⟨by simp [mayB], B0.out.trans (below_drewN _ _ _)⟩)
  have e3 : (k == 3) = false := by simp; omega
  go_wp2_with fail
  go_ret
  exact ⟨ret_bool (by unfold mayB; rw [if_neg h0, if_neg h1, if_neg h2, if_neg h3]), B0.out.trans (below_drewN _ _ _)⟩

set_option maxHeartbeats 2000000 in
theorem rmay_walk (k n : Int) (r : Nat) (s : ByteArray) (bi br bs bz : Bool) (hi : (n == 0) = bi) (hr : ((r : Int) == 0) = br) (hs : (s.toList == []) = bs) (hz : decide ((s.size : Int) ≤ 255) = bz) (hq : Hid (bs = true → bz = true)) (hk : 0 ≤ k) (w : World) :
    Calls Try.prog 13 #[vl k n r s] w fun e w' => e = .returned (.bool (mayB k bi br bs bz)) ∧ Below w.heap.size w w' := by
  have B0 := Lib.hid ((Below.refl w.heap.size w).alloc (Nat.le_refl _) (vcells k n r s))
  have r13 := run13 r
  by_cases h0 : k = 0
  · subst h0
    clear hk
    cases bi <;> cases br <;> cases bs <;> cases bz <;> first | exact Bool.noConfusion (hq.out rfl) | (go_enter Try.func13, Try.ntmps13; go_wp2; go_ret; exact ⟨by simp [mayB], B0.out⟩)
  have e0 : (k == 0) = false := by simp; omega
  by_cases h1 : k = 1
  · subst h1
    clear hk h0 e0
    cases bi <;> cases br <;> cases bs <;> cases bz <;> first | exact Bool.noConfusion (hq.out rfl) | (go_enter Try.func13, Try.ntmps13; go_wp2; go_ret; exact ⟨by simp [mayB], B0.out⟩)
  have e1 : (k == 1) = false := by simp; omega
  by_cases h2 : k = 2
  · subst h2
    clear hk h0 e0 h1 e1
    cases bi <;> cases br <;> cases bs <;> cases bz <;> first | exact Bool.noConfusion (hq.out rfl) | (go_enter Try.func13, Try.ntmps13; go_wp2; go_ret; exact ⟨by simp [mayB], B0.out⟩)
  have e2 : (k == 2) = false := by simp; omega
  by_cases h3 : k = 3
  · subst h3
    clear hk h0 e0 h1 e1 h2 e2
    cases bi <;> cases br <;> cases bs <;> cases bz <;> first | exact Bool.noConfusion (hq.out rfl) | (go_enter Try.func13, Try.ntmps13; go_wp2; go_ret; exact ⟨by simp [mayB], B0.out⟩)
  have e3 : (k == 3) = false := by simp; omega
  have e4 : decide (k < 4) = false := by simp; omega
  have E := Lib.hid (show mayB k bi br bs bz = false by unfold mayB; rw [if_neg h0, if_neg h1, if_neg h2, if_neg h3])
  rw [E.out]
  clear hq hz hs E h0 h1 h2 h3 hk
  cases bi <;> cases br <;> (go_enter Try.func13, Try.ntmps13; go_wp2; all_goals (go_ret; exact ⟨rfl, B0.out⟩))

theorem bt_zero (r : Nat) : ((bt r : Int) == 0) = decide (r = 0) := by
  rw [Bool.eq_iff_iff, beq_iff_eq, decide_eq_true_iff]
  unfold bt nan
  split <;> rename_i h <;> simp at h <;> omega
theorem may_any (k n : Int) (r : Nat) (s : ByteArray) (h : r < 18446744073709551616) (w : World) :
    Calls Try.prog 12 #[vl k n r s] w fun e w' => e = .returned (.bool (may k n r s)) ∧ Below w.heap.size w w' :=
  may_walk k n r (bt r) s _ _ _ _ (by rw [Bool.eq_iff_iff]; simp) (bt_zero r) (toList_nil s) (by rw [Bool.eq_iff_iff]; simp; omega) w (Lib.hid fun w => bits_any r h w)
theorem rmay_any (k n : Int) (r : Nat) (s : ByteArray) (hk : 0 ≤ k) (w : World) :
    Calls Try.prog 13 #[vl k n r s] w fun e w' => e = .returned (.bool (may k n r s)) ∧ Below w.heap.size w w' :=
  rmay_walk k n r s _ _ _ _ (by rw [Bool.eq_iff_iff]; simp) (by rw [Bool.eq_iff_iff]; simp) (toList_nil s) (by rw [Bool.eq_iff_iff]; simp; omega) (Lib.hid (fun h => decide_eq_true (by have := of_decide_eq_true h; omega))) hk w
end Go.Proofs.Ytfhppababngiiaa
