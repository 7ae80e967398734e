/- ValueOrder: the walk, long texts and others. -/
import Derived.Test.YtfhppababngiiaaVlOrder
namespace Go.Proofs.Ytfhppababngiiaa
open Go Go.RowKit Rl

set_option maxHeartbeats 2000000 in
set_option maxRecDepth 100000 in
theorem order_great (k n : Int) (b : Nat) (s : ByteArray) (k' n' : Int) (b' : Nat) (s' : ByteArray) (k'' n'' : Int) (b'' : Nat) (s'' : ByteArray) (hG : (decide ((2000 : Int) < (s.size : Int)) || decide ((2000 : Int) < (s'.size : Int)) || decide ((2000 : Int) < (s''.size : Int))) = true) (w : World) :
    Calls Try.prog 6 #[rw4 k n b s, rw4 k' n' b' s', rw4 k'' n'' b'' s''] w fun e w' => e = .returned (.bool true) ∧ Below w.heap.size w w' := by
  have T0 := Lib.hid (start12 k n b s k' n' b' s' k'' n'' b'' s'' w _ rfl)
  have G := Lib.hid (fun g w hg c0 c1 c2 c3 c4 c5 c6 c7 c8 c9 c10 c11 => great3_any g k n b s k' n' b' s' k'' n'' b'' s'' w hg c0 c1 c2 c3 c4 c5 c6 c7 c8 c9 c10 c11)
  rw [hG] at G
  clear hG
  have FX := Lib.hid fixed_any
  go_enter Try.func6, Try.ntmps6
  go_wp2_with fail
  refine (G.out _ _ (by simp) (by simp [go_sem]) (by simp [go_sem]) (by simp [go_sem]) (by simp [go_sem]) (by simp [go_sem]) (by simp [go_sem]) (by simp [go_sem]) (by simp [go_sem]) (by simp [go_sem]) (by simp [go_sem]) (by simp [go_sem]) (by simp [go_sem])).mono ?_
  rintro e w1 ⟨rfl, hb⟩
  obtain ⟨f0, f1, f2, f3, f4, f5, f6, f7, f8, f9, f10, f11, hw1, hw2⟩ := keep12 T0.out (((Below.refl _ _).alloc (Nat.le_refl _) _).trans (hb.mono (by simp)))
  have H := Lib.hid (And.intro hw2 hw1)
  clear hw1 hw2 hb T0 G f0 f1 f2 f3 f4 f5 f6 f7 f8 f9 f10 f11
  go_wp2_with fail
  refine (FX.out _).mono ?_
  rintro e w' ⟨rfl, hb⟩
  go_wp2_with fail
  go_ret
  exact ⟨rfl, below_go H.out.2 hb⟩
theorem vcmp_cc (k n : Int) (r : Nat) (s : ByteArray) (k' n' : Int) (r' : Nat) (s' : ByteArray) (hn0 : -9223372036854775808 ≤ n) (hn1 : n ≤ 9223372036854775807) (hr : r < 18446744073709551616)
    (hm0 : -9223372036854775808 ≤ n') (hm1 : n' ≤ 9223372036854775807) (hr' : r' < 18446744073709551616) (w : World) :
    Calls Try.prog 10 #[vl k n r s, vl k' n' r' s'] w fun e w' => e = .returned (.tuple #[.int .i64 (cc (cl k n r s) (cl k' n' r' s')).1, .bool (cc (cl k n r s) (cl k' n' r' s')).2]) ∧ Below w.heap.size w w' := by
  rw [← cr_cc k n r s k' n' r' s' hr hr']
  exact vcmp_any k n r s k' n' r' s' hn0 hn1 hr hm0 hm1 hr' w
theorem order_walk (k n : Int) (b : Nat) (s : ByteArray) (k' n' : Int) (b' : Nat) (s' : ByteArray) (k'' n'' : Int) (b'' : Nat) (s'' : ByteArray) (w : World) (x0 : -9223372036854775808 ≤ n) (y0 : n ≤ 9223372036854775807) (z0 : b < 18446744073709551616) (x1 : -9223372036854775808 ≤ n') (y1 : n' ≤ 9223372036854775807) (z1 : b' < 18446744073709551616) (x2 : -9223372036854775808 ≤ n'') (y2 : n'' ≤ 9223372036854775807) (z2 : b'' < 18446744073709551616) :
    Calls Try.prog 6 #[rw4 k n b s, rw4 k' n' b' s', rw4 k'' n'' b'' s''] w fun e w' => e = .returned (.bool true) ∧ Below w.heap.size w w' := by
  cases hG : (decide ((2000 : Int) < (s.size : Int)) || decide ((2000 : Int) < (s'.size : Int)) || decide ((2000 : Int) < (s''.size : Int)))
  · simp only [Bool.or_eq_false_iff] at hG
    obtain ⟨⟨g0, g1⟩, g2⟩ := hG
    obtain ⟨e1, e2⟩ := cc_anti (cl k' n' b' s') (cl k n b s)
    exact order_small k n b s k' n' b' s' k'' n'' b'' s'' _ _ _ _ _ _ g0 g1 g2 (Lib.hid fun w => raw_any k n b s w) (Lib.hid fun w => raw_any k' n' b' s' w) (Lib.hid fun w => raw_any k'' n'' b'' s'' w)
      (Lib.hid fun w => vcmp_cc k n b s k' n' b' s' x0 y0 z0 x1 y1 z1 w) (Lib.hid fun w => by rw [← e1, ← e2]; exact vcmp_cc k' n' b' s' k n b s x1 y1 z1 x0 y0 z0 w)
      (Lib.hid fun w => vcmp_cc k' n' b' s' k'' n'' b'' s'' x1 y1 z1 x2 y2 z2 w) (Lib.hid fun w => vcmp_cc k n b s k'' n'' b'' s'' x0 y0 z0 x2 y2 z2 w)
      (cc_bounds _ _) (cc_bounds _ _) (cc_bounds _ _) (fun h g => cc_trans _ _ _ h g) w
  · exact order_great k n b s k' n' b' s' k'' n'' b'' s'' hG w
end Go.Proofs.Ytfhppababngiiaa
