/- Sameness of values, the document's. -/
import Derived.Test.YtpnllbojifnopaaGreatDoorMC
import Derived.Deep.RegionLaw
namespace Go.Proofs.YtpnllbojifnopaaGreatDoor
open Go Go.RowKit Pk Rl
set_option maxRecDepth 20000

set_option maxHeartbeats 400000 in
theorem pbits_any (s : Bool) (E F : Nat) (hE : E < 2048) (hF : F < 4503599627370496) (w : World) :
    Calls Tryz.prog 127 #[pt s E F] w fun e w' => e = .returned (.int .u64 (pb s E F : Int)) ∧ Below w.heap.size w w' := by
  have B0 := Lib.hid ((Below.refl w.heap.size w).alloc (Nat.le_refl _) (.cells #[.bool s, .int .i64 (E : Int), .int .u64 (F : Int)] 222))
  cases hn : pn E F
  · cases s
    · rw [show pb false E F = E * 4503599627370496 + F by unfold pb; rw [hn]; simp]
      go_enter Tryz.func127, Tryz.ntmps127
      go_wp2_with fail
      refine (pnan_any false E F false hn _).mono ?_
      rintro e w' ⟨rfl, hb⟩
      obtain ⟨c0, c1, c2⟩ := three _ _ _ _ _ hb
      have B1 := Lib.hid (B0.out.trans (hb.mono (by simp)))
      clear hb
      go_wp2
      go_ret
      exact ⟨ret_u64 (by omega), B1.out⟩
    · rw [show pb true E F = E * 4503599627370496 + F + 9223372036854775808 by unfold pb; rw [hn]; simp]
      go_enter Tryz.func127, Tryz.ntmps127
      go_wp2_with fail
      refine (pnan_any true E F false hn _).mono ?_
      rintro e w' ⟨rfl, hb⟩
      obtain ⟨c0, c1, c2⟩ := three _ _ _ _ _ hb
      have B1 := Lib.hid (B0.out.trans (hb.mono (by simp)))
      clear hb
      go_wp2
      go_ret
      exact ⟨ret_u64 (by omega), B1.out⟩
  · rw [show pb s E F = 9221120237041090560 by unfold pb; rw [hn]; simp]
    go_enter Tryz.func127, Tryz.ntmps127
    go_wp2_with fail
    refine (pnan_any s E F true hn _).mono ?_
    rintro e w' ⟨rfl, hb⟩
    go_wp2
    go_ret
    exact ⟨rfl, B0.out.trans (hb.mono (by simp))⟩

set_option maxRecDepth 100000 in
theorem rvsame_walk (k n : Int) (r : Nat) (s : ByteArray) (k' n' : Int) (r' : Nat) (s' : ByteArray) (x x' : Nat) (bi br bs : Bool) (hi : (n == n') = bi) (hs : (s.toList == s'.toList) = bs) (hr : ((x : Int) == (x' : Int)) = br)
    (a : Bool) (E F : Nat) (a' : Bool) (E' F' : Nat)
    (w : World) (O1 : Hid (∀ w, Calls Tryz.prog 126 #[.float .f64 r] w fun e w' => e = .returned (pt a E F) ∧ Below w.heap.size w w'))
    (O2 : Hid (∀ w, Calls Tryz.prog 126 #[.float .f64 r'] w fun e w' => e = .returned (pt a' E' F') ∧ Below w.heap.size w w'))
    (P1 : Hid (∀ w, Calls Tryz.prog 127 #[pt a E F] w fun e w' => e = .returned (.int .u64 (x : Int)) ∧ Below w.heap.size w w'))
    (P2 : Hid (∀ w, Calls Tryz.prog 127 #[pt a' E' F'] w fun e w' => e = .returned (.int .u64 (x' : Int)) ∧ Below w.heap.size w w')) :
    Calls Tryz.prog 90 #[vl k n r s, vl k' n' r' s'] w fun e w' => e = .returned (.bool (smB k k' bi br bs)) ∧ Below w.heap.size w w' := by
  have T0 := Lib.hid (TwoV.start w k n r s k' n' r' s')
  by_cases h : k = k'
  · subst h
    have hk : (k != k) = false := by simp
    by_cases h1 : k = 1
    · subst h1
      clear O1 O2 P1 P2 hk
      go_enter Tryz.func90, Tryz.ntmps90
      go_wp2_with fail
      go_ret
      exact ⟨by simp [smB], T0.out.bel⟩
    by_cases h2 : k = 2
    · subst h2
      clear hi hs hk h1
      go_enter Tryz.func90, Tryz.ntmps90
      go_wp2_with fail
      go_region_held3 (fun W => W.cell? ⟨w.heap.size, 2, none⟩ = some (.float .f64 r) ∧ W.cell? ⟨w.heap.size + 1, 2, none⟩ = some (.float .f64 r') ∧ Below w.heap.size w W ∧ w.heap.size + 1 < W.heap.size ∧ w.heap.size ≤ W.heap.size)
        (first | assumption | exact ⟨T0.out.one.2.2.1, T0.out.two.2.2.1, T0.out.bel.drew, T0.out.big, T0.out.bel.size⟩ | exact eight_next (by assumption) (by assumption))
        (first
          | (go_at_call 126; (with_reducible refine (O1.out _).mono ?_); rintro e w' ⟨rfl, b1⟩)
          | (go_at_call 126; (with_reducible refine (O2.out _).mono ?_); rintro e w' ⟨rfl, b1⟩)
          | (go_at_call 127; (with_reducible refine (P1.out _).mono ?_); rintro e w' ⟨rfl, b1⟩)
          | (go_at_call 127; (with_reducible refine (P2.out _).mono ?_); rintro e w' ⟨rfl, b1⟩))
      rename_i hHeld
      have HB := Lib.hid hHeld.2.2.1
      clear hHeld
      go_wp2
      go_ret
      exact ⟨by simp [smB], HB.out⟩
    by_cases h3 : k = 3
    · subst h3
      clear O1 O2 P1 P2 hi hk
      go_enter Tryz.func90, Tryz.ntmps90
      go_wp2_with fail
      go_ret
      exact ⟨by simp [smB], T0.out.bel⟩
    have e1 : (k == 1) = false := by simp; omega
    have e2 : (k == 2) = false := by simp; omega
    have e3 : (k == 3) = false := by simp; omega
    have E := Lib.hid (show smB k k bi br bs = true by unfold smB; rw [if_pos rfl, if_neg h1, if_neg h2, if_neg h3])
    rw [E.out]
    clear O1 O2 P1 P2 hi hs hr E h1 h2 h3
    go_enter Tryz.func90, Tryz.ntmps90
    go_wp2_with fail
    go_ret
    exact ⟨rfl, T0.out.bel⟩
  · have hk : (k != k') = true := by simp; omega
    have E := Lib.hid (show smB k k' bi br bs = false by unfold smB; rw [if_neg h])
    rw [E.out]
    clear O1 O2 P1 P2 hi hs hr E h
    go_enter Tryz.func90, Tryz.ntmps90
    go_wp2_with fail
    go_ret
    exact ⟨rfl, T0.out.bel⟩
theorem rvsame_any (k n : Int) (r : Nat) (s : ByteArray) (k' n' : Int) (r' : Nat) (s' : ByteArray) (hr : r < 18446744073709551616) (hr' : r' < 18446744073709551616) (w : World) :
    Calls Tryz.prog 90 #[vl k n r s, vl k' n' r' s'] w fun e w' => e = .returned (.bool (sm k n r s k' n' r' s')) ∧ Below w.heap.size w w' :=
  rvsame_walk k n r s k' n' r' s' (bt r) (bt r') _ _ _ (by rw [Bool.eq_iff_iff]; simp) (toList_eq_dec s s') (by rw [Bool.eq_iff_iff, beq_iff_eq, decide_eq_true_iff]; exact Int.ofNat_inj) _ _ _ _ _ _ w (Lib.hid fun w => of_any r hr w) (Lib.hid fun w => of_any r' hr' w)
    (Lib.hid fun w => by have := pbits_any (neg r) (ex r) (fr r) (ex_lt r) (fr_lt r) w; rwa [pb_bt r hr] at this) (Lib.hid fun w => by have := pbits_any (neg r') (ex r') (fr r') (ex_lt r') (fr_lt r') w; rwa [pb_bt r' hr'] at this)
theorem rvsame_v (v u : VV) (h : Okv v) (h' : Okv u) (w : World) : Calls Tryz.prog 90 #[vlOf v, vlOf u] w fun e w' => e = .returned (.bool (smv v u)) ∧ Below w.heap.size w w' := rvsame_any _ _ _ _ _ _ _ _ h.re h'.re w
end Go.Proofs.YtpnllbojifnopaaGreatDoor
