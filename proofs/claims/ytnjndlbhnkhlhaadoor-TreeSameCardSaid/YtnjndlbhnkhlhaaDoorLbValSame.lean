/- Values: whether two are the same. The program's and the document's contract. -/
import Derived.Test.YtnjndlbhnkhlhaaDoorLbVal
import Derived.Test.YtnjndlbhnkhlhaaDoorLbCmp
import Derived.Test.YtnjndlbhnkhlhaaDoorLbRealRef
import Derived.Deep.RegionHeld3
namespace Go.Proofs.YtnjndlbhnkhlhaaDoor
open Go Go.RowKit Rl
set_option maxRecDepth 20000

def smB (k k' : Int) (bi br bs : Bool) : Bool := if k = k' then (if k = 1 then bi else if k = 2 then br else if k = 3 then bs else true) else false
def sm (k n : Int) (r : Nat) (s : ByteArray) (k' n' : Int) (r' : Nat) (s' : ByteArray) : Bool := smB k k' (decide (n = n')) (decide (bt r = bt r')) (decide (s = s'))
theorem toList_eq_dec (s t : ByteArray) : (s.toList == t.toList) = decide (s = t) := by
  rw [ByteArray.toList_eq, ByteArray.toList_eq, Bool.eq_iff_iff, beq_iff_eq, decide_eq_true_iff]
  constructor
  · intro h; cases s; cases t; exact congrArg _ (Array.toList_inj.1 h)
  · intro h; rw [h]

set_option maxHeartbeats 1000000 in
theorem vsame_walk (k n : Int) (r : Nat) (s : ByteArray) (k' n' : Int) (r' : Nat) (s' : ByteArray) (bi br bs : Bool) (hi : (n == n') = bi) (hs : (s.toList == s'.toList) = bs)
    (w : World) (R : Hid (∀ w, Calls Tryd.prog 63 #[.float .f64 r, .float .f64 r'] w fun e w' => e = .returned (.bool br) ∧ w = w')) :
    Calls Tryd.prog 59 #[vl k n r s, vl k' n' r' s'] w fun e w' => e = .returned (.bool (smB k k' bi br bs)) ∧ Below w.heap.size w w' := by
  have T0 := Lib.hid (TwoV.start w k n r s k' n' r' s')
  by_cases h : k = k'
  · subst h
    have hk : (k != k) = false := by simp
    by_cases h1 : k = 1
    · subst h1
      clear R hk
      go_enter Tryd.func59, Tryd.ntmps59
      go_wp2_with fail
      go_ret
      exact ⟨by simp [smB], T0.out.bel⟩
    by_cases h2 : k = 2
    · subst h2
      clear hi hs hk
      go_enter Tryd.func59, Tryd.ntmps59
      go_wp2_with fail
      refine (R.out _).mono ?_
      rintro e w' ⟨rfl, rfl⟩
      go_wp2_with fail
      go_ret
      exact ⟨by simp [smB], T0.out.bel⟩
    by_cases h3 : k = 3
    · subst h3
      clear R hi hk
      go_enter Tryd.func59, Tryd.ntmps59
      go_wp2_with fail
      go_ret
      exact ⟨by simp [smB], T0.out.bel⟩
    have e1 : (k == 1) = false := by simp; omega
    have e2 : (k == 2) = false := by simp; omega
    have e3 : (k == 3) = false := by simp; omega
    have E := Lib.hid (show smB k k bi br bs = true by unfold smB; rw [if_pos rfl, if_neg h1, if_neg h2, if_neg h3])
    rw [E.out]
    clear R hi hs E h1 h2 h3
    go_enter Tryd.func59, Tryd.ntmps59
    go_wp2_with fail
    go_ret
    exact ⟨rfl, T0.out.bel⟩
  · have hk : (k != k') = true := by simp; omega
    have E := Lib.hid (show smB k k' bi br bs = false by unfold smB; rw [if_neg h])
    rw [E.out]
    clear R hi hs E h
    go_enter Tryd.func59, Tryd.ntmps59
    go_wp2_with fail
    go_ret
    exact ⟨rfl, T0.out.bel⟩
theorem vsame_any (k n : Int) (r : Nat) (s : ByteArray) (k' n' : Int) (r' : Nat) (s' : ByteArray) (hr : r < 18446744073709551616) (hr' : r' < 18446744073709551616) (w : World) :
    Calls Tryd.prog 59 #[vl k n r s, vl k' n' r' s'] w fun e w' => e = .returned (.bool (sm k n r s k' n' r' s')) ∧ Below w.heap.size w w' :=
  vsame_walk k n r s k' n' r' s' _ _ _ (by rw [Bool.eq_iff_iff]; simp) (toList_eq_dec s s') w (Lib.hid fun w => same_any r r' hr hr' _ rfl w)

theorem eight_next {w W W' : World} {a m r r' : Nat}
    (h : W.cell? ⟨a, 2, none⟩ = some (.float .f64 r) ∧ W.cell? ⟨a + 1, 2, none⟩ = some (.float .f64 r') ∧ Below m w W ∧ a + 1 < W.heap.size ∧ m ≤ W.heap.size)
    (hb : Below W.heap.size W W') :
    W'.cell? ⟨a, 2, none⟩ = some (.float .f64 r) ∧ W'.cell? ⟨a + 1, 2, none⟩ = some (.float .f64 r') ∧ Below m w W' ∧ a + 1 < W'.heap.size ∧ m ≤ W'.heap.size := by
  obtain ⟨h1, h2, h7, h8, h9⟩ := h
  have z := hb.size
  refine ⟨?_, ?_, h7.trans (hb.mono h9), by omega, by omega⟩
  · rw [hb.cell (p := ⟨a, 2, none⟩) (by simp; omega)]; exact h1
  · rw [hb.cell (p := ⟨a + 1, 2, none⟩) (by simp; omega)]; exact h2

set_option maxHeartbeats 2000000 in
set_option maxRecDepth 100000 in
theorem rvsame_walk (k n : Int) (r : Nat) (s : ByteArray) (k' n' : Int) (r' : Nat) (s' : ByteArray) (x x' : Nat) (bi br bs : Bool) (hi : (n == n') = bi) (hs : (s.toList == s'.toList) = bs) (hr : ((x : Int) == (x' : Int)) = br)
    (a : Bool) (E F : Nat) (a' : Bool) (E' F' : Nat)
    (w : World) (O1 : Hid (∀ w, Calls Tryd.prog 61 #[.float .f64 r] w fun e w' => e = .returned (pt a E F) ∧ Below w.heap.size w w'))
    (O2 : Hid (∀ w, Calls Tryd.prog 61 #[.float .f64 r'] w fun e w' => e = .returned (pt a' E' F') ∧ Below w.heap.size w w'))
    (P1 : Hid (∀ w, Calls Tryd.prog 62 #[pt a E F] w fun e w' => e = .returned (.int .u64 (x : Int)) ∧ Below w.heap.size w w'))
    (P2 : Hid (∀ w, Calls Tryd.prog 62 #[pt a' E' F'] w fun e w' => e = .returned (.int .u64 (x' : Int)) ∧ Below w.heap.size w w')) :
    Calls Tryd.prog 58 #[vl k n r s, vl k' n' r' s'] w fun e w' => e = .returned (.bool (smB k k' bi br bs)) ∧ Below w.heap.size w w' := by
  have T0 := Lib.hid (TwoV.start w k n r s k' n' r' s')
  by_cases h : k = k'
  · subst h
    have hk : (k != k) = false := by simp
    by_cases h1 : k = 1
    · subst h1
      clear O1 O2 P1 P2 hk
      go_enter Tryd.func58, Tryd.ntmps58
      go_wp2_with fail
      go_ret
      exact ⟨by simp [smB], T0.out.bel⟩
    by_cases h2 : k = 2
    · subst h2
      clear hi hs hk h1
      go_enter Tryd.func58, Tryd.ntmps58
      go_wp2_with fail
      go_region_held3 (fun W => W.cell? ⟨w.heap.size, 2, none⟩ = some (.float .f64 r) ∧ W.cell? ⟨w.heap.size + 1, 2, none⟩ = some (.float .f64 r') ∧ Below w.heap.size w W ∧ w.heap.size + 1 < W.heap.size ∧ w.heap.size ≤ W.heap.size)
        (first | assumption | exact ⟨T0.out.one.2.2.1, T0.out.two.2.2.1, T0.out.bel.drew, T0.out.big, T0.out.bel.size⟩ | exact eight_next (by assumption) (by assumption))
        (first
          | (go_at_call 61; (with_reducible refine (O1.out _).mono ?_); rintro e w' ⟨rfl, b1⟩)
          | (go_at_call 61; (with_reducible refine (O2.out _).mono ?_); rintro e w' ⟨rfl, b1⟩)
          | (go_at_call 62; (with_reducible refine (P1.out _).mono ?_); rintro e w' ⟨rfl, b1⟩)
          | (go_at_call 62; (with_reducible refine (P2.out _).mono ?_); rintro e w' ⟨rfl, b1⟩))
      rename_i hHeld
      have HB := Lib.hid hHeld.2.2.1
      clear hHeld
      go_wp2
      go_ret
      exact ⟨by simp [smB], HB.out⟩
    by_cases h3 : k = 3
    · subst h3
      clear O1 O2 P1 P2 hi hk
      go_enter Tryd.func58, Tryd.ntmps58
      go_wp2_with fail
      go_ret
      exact ⟨by simp [smB], T0.out.bel⟩
    have e1 : (k == 1) = false := by simp; omega
    have e2 : (k == 2) = false := by simp; omega
    have e3 : (k == 3) = false := by simp; omega
    have E := Lib.hid (show smB k k bi br bs = true by unfold smB; rw [if_pos rfl, if_neg h1, if_neg h2, if_neg h3])
    rw [E.out]
    clear O1 O2 P1 P2 hi hs hr E h1 h2 h3
    go_enter Tryd.func58, Tryd.ntmps58
    go_wp2_with fail
    go_ret
    exact ⟨rfl, T0.out.bel⟩
  · have hk : (k != k') = true := by simp; omega
    have E := Lib.hid (show smB k k' bi br bs = false by unfold smB; rw [if_neg h])
    rw [E.out]
    clear O1 O2 P1 P2 hi hs hr E h
    go_enter Tryd.func58, Tryd.ntmps58
    go_wp2_with fail
    go_ret
    exact ⟨rfl, T0.out.bel⟩
theorem rvsame_any (k n : Int) (r : Nat) (s : ByteArray) (k' n' : Int) (r' : Nat) (s' : ByteArray) (hr : r < 18446744073709551616) (hr' : r' < 18446744073709551616) (w : World) :
    Calls Tryd.prog 58 #[vl k n r s, vl k' n' r' s'] w fun e w' => e = .returned (.bool (sm k n r s k' n' r' s')) ∧ Below w.heap.size w w' :=
  rvsame_walk k n r s k' n' r' s' (bt r) (bt r') _ _ _ (by rw [Bool.eq_iff_iff]; simp) (toList_eq_dec s s') (by rw [Bool.eq_iff_iff, beq_iff_eq, decide_eq_true_iff]; exact Int.ofNat_inj) _ _ _ _ _ _ w (Lib.hid fun w => of_any r hr w) (Lib.hid fun w => of_any r' hr' w)
    (Lib.hid fun w => by have := pbits_any (neg r) (ex r) (fr r) (ex_lt r) (fr_lt r) w; rwa [pb_bt r hr] at this) (Lib.hid fun w => by have := pbits_any (neg r') (ex r') (fr r') (ex_lt r') (fr_lt r') w; rwa [pb_bt r' hr'] at this)
end Go.Proofs.YtnjndlbhnkhlhaaDoor
