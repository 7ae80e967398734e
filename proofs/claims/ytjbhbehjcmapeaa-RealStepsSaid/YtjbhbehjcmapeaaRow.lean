/- RealRow holds: for any three numbers of 64 bits the statement's function returns true. No conditions. -/
import Derived.Test.YtjbhbehjcmapeaaG
namespace Go.Proofs.Ytjbhbehjcmapeaa
open Go Go.ChangeShapes Go.WideShapes Go.ChangeAt Go.RowKit Rl

/- what the calls answer of three numbers, of which the keys stand so -/
abbrev Ord (a b : Nat) (n : Int) : Prop := Hid (∀ w : World, Calls Try.prog 18 #[.float .f64 a, .float .f64 b] w fun e w' => e = .returned (.int .i64 n) ∧ w = w')
theorem ord_lt (a b : Nat) (ha : a < 18446744073709551616) (hb : b < 18446744073709551616) (h : ky a < ky b) : Ord a b (-1) := by
  have := fun w => order_any a b ha hb w
  rw [show c3 (ky a) (ky b) = -1 by unfold c3; rw [if_pos (by omega)]] at this
  exact Lib.hid this
theorem ord_eq (a b : Nat) (ha : a < 18446744073709551616) (hb : b < 18446744073709551616) (h : ky a = ky b) : Ord a b 0 := by
  have := fun w => order_any a b ha hb w
  rw [show c3 (ky a) (ky b) = 0 by unfold c3; rw [if_neg (by omega), if_neg (by omega)]] at this
  exact Lib.hid this
theorem ord_gt (a b : Nat) (ha : a < 18446744073709551616) (hb : b < 18446744073709551616) (h : ky b < ky a) : Ord a b 1 := by
  have := fun w => order_any a b ha hb w
  rw [show c3 (ky a) (ky b) = 1 by unfold c3; rw [if_neg (by omega), if_pos (by omega)]] at this
  exact Lib.hid this
theorem ord_le (a b : Nat) (ha : a < 18446744073709551616) (hb : b < 18446744073709551616) (h : ky a ≤ ky b) : ∃ n, Ord a b n ∧ n ≤ 0 := by
  by_cases c : ky a < ky b
  · exact ⟨_, ord_lt a b ha hb c, by omega⟩
  · exact ⟨_, ord_eq a b ha hb (by omega), by omega⟩
theorem ord_ge (a b : Nat) (ha : a < 18446744073709551616) (hb : b < 18446744073709551616) (h : ky b ≤ ky a) : ∃ n, Ord a b n ∧ 0 ≤ n := by
  by_cases c : ky b < ky a
  · exact ⟨_, ord_gt a b ha hb c, by omega⟩
  · exact ⟨_, ord_eq a b ha hb (by omega), by omega⟩
theorem ord_any (a b : Nat) (ha : a < 18446744073709551616) (hb : b < 18446744073709551616) : ∃ n, Ord a b n := ⟨_, Lib.hid (fun w => order_any a b ha hb w)⟩

abbrev Keyed (a k : Nat) : Prop := Hid (∀ w : World, Calls Try.prog 23 #[.float .f64 a] w fun e w' => e = .returned (.int .u64 (k : Int)) ∧ w = w')
abbrev Sames (a b : Nat) (v : Bool) : Prop := Hid (∀ w : World, Calls Try.prog 20 #[.float .f64 a, .float .f64 b] w fun e w' => e = .returned (.bool v) ∧ w = w')
abbrev Upped (a u : Nat) : Prop := Hid (∀ w : World, Calls Try.prog 24 #[.float .f64 a] w fun e w' => e = .returned (.float .f64 u) ∧ w = w')
abbrev Classed (a : Nat) (n : Int) : Prop := Hid (∀ w : World, Calls Try.prog 25 #[.float .f64 a] w fun e w' => e = .returned (.int .i64 n) ∧ w = w')
abbrev RowTrue (a b c : Nat) (w : World) : Prop := Calls Try.prog 6 #[.int .u64 (a : Int), .int .u64 (b : Int), .int .u64 (c : Int)] w fun e w' => e = .returned (.bool true) ∧ Below w.heap.size w w'
abbrev Fixed : Prop := Hid (∀ w : World, Calls Try.prog 12 #[] w fun e w' => e = .returned (.bool true) ∧ w = w')

set_option maxHeartbeats 1000000 in
set_option maxRecDepth 100000 in
theorem row_m_hi_lt (a b c u p q : Nat) (yz xz : Int) (Oab : Ord a b (-1)) (Oba : Ord b a 1) (Obc : Ord b c yz) (Oac : Ord a c xz) (S : Sames a b false) (K1 : Keyed a p) (K2 : Keyed b q) (U : Upped a u) (X : Fixed) (hk : p < q) (qu : Int) (Obu : Ord b u qu) (hq : 0 ≤ qu) (hg : 0 < yz) (Oau : Ord a u (-1)) (w : World) : RowTrue a b c w := by
  have r1 := run15 a
  have r2 := run15 b
  have r3 := run15 c
  have h1 : decide (p < q) = true := by simp; omega
  have h2 : decide (yz ≤ 0) = false := by simp; omega
  have h4 : decide (qu < 0) = false := by simp; omega
  clear hk hg hq
  go_enter Try.func6, Try.ntmps6
  go_wp2_with fail
  refine (Oab.out _).mono ?_
  rintro e w' ⟨rfl, rfl⟩
  go_wp2_with fail
  refine (Obc.out _).mono ?_
  rintro e w' ⟨rfl, rfl⟩
  go_wp2_with fail
  refine (Oac.out _).mono ?_
  rintro e w' ⟨rfl, rfl⟩
  go_wp2_with fail
  refine (Oba.out _).mono ?_
  rintro e w' ⟨rfl, rfl⟩
  go_wp2_with fail
  refine (S.out _).mono ?_
  rintro e w' ⟨rfl, rfl⟩
  go_wp2_with fail
  refine (K1.out _).mono ?_
  rintro e w' ⟨rfl, rfl⟩
  go_wp2_with fail
  refine (K2.out _).mono ?_
  rintro e w' ⟨rfl, rfl⟩
  go_wp2_with fail
  refine (U.out _).mono ?_
  rintro e w' ⟨rfl, rfl⟩
  go_wp2_with fail
  refine (Oab.out _).mono ?_
  rintro e w' ⟨rfl, rfl⟩
  go_wp2_with fail
  refine (Obu.out _).mono ?_
  rintro e w' ⟨rfl, rfl⟩
  go_wp2_with fail
  refine (X.out _).mono ?_
  rintro e w' ⟨rfl, rfl⟩
  go_wp2_with fail
  refine (Oau.out _).mono ?_
  rintro e w' ⟨rfl, rfl⟩
  go_wp2
  go_ret
  exact ⟨rfl, Below.refl _ _⟩

set_option maxHeartbeats 1000000 in
set_option maxRecDepth 100000 in
theorem row_m_lo_lt (a b c u p q : Nat) (yz xz : Int) (Oab : Ord a b (-1)) (Oba : Ord b a 1) (Obc : Ord b c yz) (Oac : Ord a c xz) (S : Sames a b false) (K1 : Keyed a p) (K2 : Keyed b q) (U : Upped a u) (X : Fixed) (hk : p < q) (qu : Int) (Obu : Ord b u qu) (hq : 0 ≤ qu) (hg : yz ≤ 0) (hx : xz ≤ 0) (Oau : Ord a u (-1)) (w : World) : RowTrue a b c w := by
  have r1 := run15 a
  have r2 := run15 b
  have r3 := run15 c
  have h1 : decide (p < q) = true := by simp; omega
  have h2 : decide (yz ≤ 0) = true := by simp; omega
  have h3 : decide (0 < xz) = false := by simp; omega
  have h4 : decide (qu < 0) = false := by simp; omega
  clear hk hg hx hq
  go_enter Try.func6, Try.ntmps6
  go_wp2_with fail
  refine (Oab.out _).mono ?_
  rintro e w' ⟨rfl, rfl⟩
  go_wp2_with fail
  refine (Obc.out _).mono ?_
  rintro e w' ⟨rfl, rfl⟩
  go_wp2_with fail
  refine (Oac.out _).mono ?_
  rintro e w' ⟨rfl, rfl⟩
  go_wp2_with fail
  refine (Oba.out _).mono ?_
  rintro e w' ⟨rfl, rfl⟩
  go_wp2_with fail
  refine (S.out _).mono ?_
  rintro e w' ⟨rfl, rfl⟩
  go_wp2_with fail
  refine (K1.out _).mono ?_
  rintro e w' ⟨rfl, rfl⟩
  go_wp2_with fail
  refine (K2.out _).mono ?_
  rintro e w' ⟨rfl, rfl⟩
  go_wp2_with fail
  refine (U.out _).mono ?_
  rintro e w' ⟨rfl, rfl⟩
  go_wp2_with fail
  refine (Oab.out _).mono ?_
  rintro e w' ⟨rfl, rfl⟩
  go_wp2_with fail
  refine (Obu.out _).mono ?_
  rintro e w' ⟨rfl, rfl⟩
  go_wp2_with fail
  refine (X.out _).mono ?_
  rintro e w' ⟨rfl, rfl⟩
  go_wp2_with fail
  refine (Oau.out _).mono ?_
  rintro e w' ⟨rfl, rfl⟩
  go_wp2
  go_ret
  exact ⟨rfl, Below.refl _ _⟩

set_option maxHeartbeats 1000000 in
set_option maxRecDepth 100000 in
theorem row_z_hi_lt (a b c u p q : Nat) (yz xz : Int) (Oab : Ord a b 0) (Oba : Ord b a 0) (Obc : Ord b c yz) (Oac : Ord a c xz) (S : Sames a b true) (K1 : Keyed a p) (K2 : Keyed b q) (U : Upped a u) (X : Fixed) (hk : q ≤ p) (hg : 0 < yz) (Oau : Ord a u (-1)) (w : World) : RowTrue a b c w := by
  have r1 := run15 a
  have r2 := run15 b
  have r3 := run15 c
  have h1 : decide (p < q) = false := by simp; omega
  have h2 : decide (yz ≤ 0) = false := by simp; omega
  clear hk hg
  go_enter Try.func6, Try.ntmps6
  go_wp2_with fail
  refine (Oab.out _).mono ?_
  rintro e w' ⟨rfl, rfl⟩
  go_wp2_with fail
  refine (Obc.out _).mono ?_
  rintro e w' ⟨rfl, rfl⟩
  go_wp2_with fail
  refine (Oac.out _).mono ?_
  rintro e w' ⟨rfl, rfl⟩
  go_wp2_with fail
  refine (Oba.out _).mono ?_
  rintro e w' ⟨rfl, rfl⟩
  go_wp2_with fail
  refine (S.out _).mono ?_
  rintro e w' ⟨rfl, rfl⟩
  go_wp2_with fail
  refine (K1.out _).mono ?_
  rintro e w' ⟨rfl, rfl⟩
  go_wp2_with fail
  refine (K2.out _).mono ?_
  rintro e w' ⟨rfl, rfl⟩
  go_wp2_with fail
  refine (U.out _).mono ?_
  rintro e w' ⟨rfl, rfl⟩
  go_wp2_with fail
  refine (Oab.out _).mono ?_
  rintro e w' ⟨rfl, rfl⟩
  go_wp2_with fail
  refine (X.out _).mono ?_
  rintro e w' ⟨rfl, rfl⟩
  go_wp2_with fail
  refine (Oau.out _).mono ?_
  rintro e w' ⟨rfl, rfl⟩
  go_wp2
  go_ret
  exact ⟨rfl, Below.refl _ _⟩

set_option maxHeartbeats 1000000 in
set_option maxRecDepth 100000 in
theorem row_z_hi_nan (a b c u p q : Nat) (yz xz : Int) (Oab : Ord a b 0) (Oba : Ord b a 0) (Obc : Ord b c yz) (Oac : Ord a c xz) (S : Sames a b true) (K1 : Keyed a p) (K2 : Keyed b q) (U : Upped a u) (X : Fixed) (hk : q ≤ p) (hg : 0 < yz) (Oau : Ord a u 0) (L : Classed a 4) (w : World) : RowTrue a b c w := by
  have r1 := run15 a
  have r2 := run15 b
  have r3 := run15 c
  have h1 : decide (p < q) = false := by simp; omega
  have h2 : decide (yz ≤ 0) = false := by simp; omega
  clear hk hg
  go_enter Try.func6, Try.ntmps6
  go_wp2_with fail
  refine (Oab.out _).mono ?_
  rintro e w' ⟨rfl, rfl⟩
  go_wp2_with fail
  refine (Obc.out _).mono ?_
  rintro e w' ⟨rfl, rfl⟩
  go_wp2_with fail
  refine (Oac.out _).mono ?_
  rintro e w' ⟨rfl, rfl⟩
  go_wp2_with fail
  refine (Oba.out _).mono ?_
  rintro e w' ⟨rfl, rfl⟩
  go_wp2_with fail
  refine (S.out _).mono ?_
  rintro e w' ⟨rfl, rfl⟩
  go_wp2_with fail
  refine (K1.out _).mono ?_
  rintro e w' ⟨rfl, rfl⟩
  go_wp2_with fail
  refine (K2.out _).mono ?_
  rintro e w' ⟨rfl, rfl⟩
  go_wp2_with fail
  refine (U.out _).mono ?_
  rintro e w' ⟨rfl, rfl⟩
  go_wp2_with fail
  refine (Oab.out _).mono ?_
  rintro e w' ⟨rfl, rfl⟩
  go_wp2_with fail
  refine (X.out _).mono ?_
  rintro e w' ⟨rfl, rfl⟩
  go_wp2_with fail
  refine (Oau.out _).mono ?_
  rintro e w' ⟨rfl, rfl⟩
  go_wp2_with fail
  refine (L.out _).mono ?_
  rintro e w' ⟨rfl, rfl⟩
  go_wp2
  go_ret
  exact ⟨rfl, Below.refl _ _⟩

set_option maxHeartbeats 1000000 in
set_option maxRecDepth 100000 in
theorem row_z_lo_lt (a b c u p q : Nat) (yz xz : Int) (Oab : Ord a b 0) (Oba : Ord b a 0) (Obc : Ord b c yz) (Oac : Ord a c xz) (S : Sames a b true) (K1 : Keyed a p) (K2 : Keyed b q) (U : Upped a u) (X : Fixed) (hk : q ≤ p) (hg : yz ≤ 0) (hx : xz ≤ 0) (Oau : Ord a u (-1)) (w : World) : RowTrue a b c w := by
  have r1 := run15 a
  have r2 := run15 b
  have r3 := run15 c
  have h1 : decide (p < q) = false := by simp; omega
  have h2 : decide (yz ≤ 0) = true := by simp; omega
  have h3 : decide (0 < xz) = false := by simp; omega
  clear hk hg hx
  go_enter Try.func6, Try.ntmps6
  go_wp2_with fail
  refine (Oab.out _).mono ?_
  rintro e w' ⟨rfl, rfl⟩
  go_wp2_with fail
  refine (Obc.out _).mono ?_
  rintro e w' ⟨rfl, rfl⟩
  go_wp2_with fail
  refine (Oac.out _).mono ?_
  rintro e w' ⟨rfl, rfl⟩
  go_wp2_with fail
  refine (Oba.out _).mono ?_
  rintro e w' ⟨rfl, rfl⟩
  go_wp2_with fail
  refine (S.out _).mono ?_
  rintro e w' ⟨rfl, rfl⟩
  go_wp2_with fail
  refine (K1.out _).mono ?_
  rintro e w' ⟨rfl, rfl⟩
  go_wp2_with fail
  refine (K2.out _).mono ?_
  rintro e w' ⟨rfl, rfl⟩
  go_wp2_with fail
  refine (U.out _).mono ?_
  rintro e w' ⟨rfl, rfl⟩
  go_wp2_with fail
  refine (Oab.out _).mono ?_
  rintro e w' ⟨rfl, rfl⟩
  go_wp2_with fail
  refine (X.out _).mono ?_
  rintro e w' ⟨rfl, rfl⟩
  go_wp2_with fail
  refine (Oau.out _).mono ?_
  rintro e w' ⟨rfl, rfl⟩
  go_wp2
  go_ret
  exact ⟨rfl, Below.refl _ _⟩

set_option maxHeartbeats 1000000 in
set_option maxRecDepth 100000 in
theorem row_z_lo_nan (a b c u p q : Nat) (yz xz : Int) (Oab : Ord a b 0) (Oba : Ord b a 0) (Obc : Ord b c yz) (Oac : Ord a c xz) (S : Sames a b true) (K1 : Keyed a p) (K2 : Keyed b q) (U : Upped a u) (X : Fixed) (hk : q ≤ p) (hg : yz ≤ 0) (hx : xz ≤ 0) (Oau : Ord a u 0) (L : Classed a 4) (w : World) : RowTrue a b c w := by
  have r1 := run15 a
  have r2 := run15 b
  have r3 := run15 c
  have h1 : decide (p < q) = false := by simp; omega
  have h2 : decide (yz ≤ 0) = true := by simp; omega
  have h3 : decide (0 < xz) = false := by simp; omega
  clear hk hg hx
  go_enter Try.func6, Try.ntmps6
  go_wp2_with fail
  refine (Oab.out _).mono ?_
  rintro e w' ⟨rfl, rfl⟩
  go_wp2_with fail
  refine (Obc.out _).mono ?_
  rintro e w' ⟨rfl, rfl⟩
  go_wp2_with fail
  refine (Oac.out _).mono ?_
  rintro e w' ⟨rfl, rfl⟩
  go_wp2_with fail
  refine (Oba.out _).mono ?_
  rintro e w' ⟨rfl, rfl⟩
  go_wp2_with fail
  refine (S.out _).mono ?_
  rintro e w' ⟨rfl, rfl⟩
  go_wp2_with fail
  refine (K1.out _).mono ?_
  rintro e w' ⟨rfl, rfl⟩
  go_wp2_with fail
  refine (K2.out _).mono ?_
  rintro e w' ⟨rfl, rfl⟩
  go_wp2_with fail
  refine (U.out _).mono ?_
  rintro e w' ⟨rfl, rfl⟩
  go_wp2_with fail
  refine (Oab.out _).mono ?_
  rintro e w' ⟨rfl, rfl⟩
  go_wp2_with fail
  refine (X.out _).mono ?_
  rintro e w' ⟨rfl, rfl⟩
  go_wp2_with fail
  refine (Oau.out _).mono ?_
  rintro e w' ⟨rfl, rfl⟩
  go_wp2_with fail
  refine (L.out _).mono ?_
  rintro e w' ⟨rfl, rfl⟩
  go_wp2
  go_ret
  exact ⟨rfl, Below.refl _ _⟩

set_option maxHeartbeats 1000000 in
set_option maxRecDepth 100000 in
theorem row_p_none_lt (a b c u p q : Nat) (yz xz : Int) (Oab : Ord a b 1) (Oba : Ord b a (-1)) (Obc : Ord b c yz) (Oac : Ord a c xz) (S : Sames a b false) (K1 : Keyed a p) (K2 : Keyed b q) (U : Upped a u) (X : Fixed) (hk : q ≤ p) (Oau : Ord a u (-1)) (w : World) : RowTrue a b c w := by
  have r1 := run15 a
  have r2 := run15 b
  have r3 := run15 c
  have h1 : decide (p < q) = false := by simp; omega
  clear hk
  go_enter Try.func6, Try.ntmps6
  go_wp2_with fail
  refine (Oab.out _).mono ?_
  rintro e w' ⟨rfl, rfl⟩
  go_wp2_with fail
  refine (Obc.out _).mono ?_
  rintro e w' ⟨rfl, rfl⟩
  go_wp2_with fail
  refine (Oac.out _).mono ?_
  rintro e w' ⟨rfl, rfl⟩
  go_wp2_with fail
  refine (Oba.out _).mono ?_
  rintro e w' ⟨rfl, rfl⟩
  go_wp2_with fail
  refine (S.out _).mono ?_
  rintro e w' ⟨rfl, rfl⟩
  go_wp2_with fail
  refine (K1.out _).mono ?_
  rintro e w' ⟨rfl, rfl⟩
  go_wp2_with fail
  refine (K2.out _).mono ?_
  rintro e w' ⟨rfl, rfl⟩
  go_wp2_with fail
  refine (U.out _).mono ?_
  rintro e w' ⟨rfl, rfl⟩
  go_wp2_with fail
  refine (Oab.out _).mono ?_
  rintro e w' ⟨rfl, rfl⟩
  go_wp2_with fail
  refine (X.out _).mono ?_
  rintro e w' ⟨rfl, rfl⟩
  go_wp2_with fail
  refine (Oau.out _).mono ?_
  rintro e w' ⟨rfl, rfl⟩
  go_wp2
  go_ret
  exact ⟨rfl, Below.refl _ _⟩

set_option maxHeartbeats 1000000 in
set_option maxRecDepth 100000 in
theorem row_p_none_nan (a b c u p q : Nat) (yz xz : Int) (Oab : Ord a b 1) (Oba : Ord b a (-1)) (Obc : Ord b c yz) (Oac : Ord a c xz) (S : Sames a b false) (K1 : Keyed a p) (K2 : Keyed b q) (U : Upped a u) (X : Fixed) (hk : q ≤ p) (Oau : Ord a u 0) (L : Classed a 4) (w : World) : RowTrue a b c w := by
  have r1 := run15 a
  have r2 := run15 b
  have r3 := run15 c
  have h1 : decide (p < q) = false := by simp; omega
  clear hk
  go_enter Try.func6, Try.ntmps6
  go_wp2_with fail
  refine (Oab.out _).mono ?_
  rintro e w' ⟨rfl, rfl⟩
  go_wp2_with fail
  refine (Obc.out _).mono ?_
  rintro e w' ⟨rfl, rfl⟩
  go_wp2_with fail
  refine (Oac.out _).mono ?_
  rintro e w' ⟨rfl, rfl⟩
  go_wp2_with fail
  refine (Oba.out _).mono ?_
  rintro e w' ⟨rfl, rfl⟩
  go_wp2_with fail
  refine (S.out _).mono ?_
  rintro e w' ⟨rfl, rfl⟩
  go_wp2_with fail
  refine (K1.out _).mono ?_
  rintro e w' ⟨rfl, rfl⟩
  go_wp2_with fail
  refine (K2.out _).mono ?_
  rintro e w' ⟨rfl, rfl⟩
  go_wp2_with fail
  refine (U.out _).mono ?_
  rintro e w' ⟨rfl, rfl⟩
  go_wp2_with fail
  refine (Oab.out _).mono ?_
  rintro e w' ⟨rfl, rfl⟩
  go_wp2_with fail
  refine (X.out _).mono ?_
  rintro e w' ⟨rfl, rfl⟩
  go_wp2_with fail
  refine (Oau.out _).mono ?_
  rintro e w' ⟨rfl, rfl⟩
  go_wp2_with fail
  refine (L.out _).mono ?_
  rintro e w' ⟨rfl, rfl⟩
  go_wp2
  go_ret
  exact ⟨rfl, Below.refl _ _⟩

theorem row_walk (a b c : Nat) (ha : a < 18446744073709551616) (hb : b < 18446744073709551616) (hc : c < 18446744073709551616) (w : World) : RowTrue a b c w := by
  have hu := up_lt a
  have U : Upped a (up a) := Lib.hid (fun w => up_any a ha w)
  have K1 : Keyed a (ky a) := Lib.hid (fun w => key_any a ha w)
  have K2 : Keyed b (ky b) := Lib.hid (fun w => key_any b hb w)
  have X : Fixed := Lib.hid (fun w => fixed_any w)
  have E := ky_same a b ha hb
  obtain ⟨xz, Oac⟩ := ord_any a c ha hc
  obtain ⟨yz, Obc⟩ := ord_any b c hb hc
  have T : nan a = true ∨ (ky a < ky (up a) ∧ (ky a < ky b → ky (up a) ≤ ky b)) := by
    cases n : nan a
    · right
      obtain ⟨l1, l2, _⟩ := ky_num a ha n
      by_cases t : ky a < 18442240474082181120
      · have := (up_num a ha t).2
        omega
      · have e := up_end a (by omega)
        have f := ky_nan _ nan_end
        rw [e, f]
        refine ⟨by omega, fun l => ?_⟩
        cases m : nan b
        · obtain ⟨_, _, _⟩ := ky_num b hb m; omega
        · rw [ky_nan b m]; exact Nat.le_refl _
    · exact .inl rfl
  rcases T with n | ⟨l, m⟩
  · have k := ky_nan a n
    have L : Classed a 4 := by
      have := fun w => class_any a ha w
      rw [cls_nan a n] at this
      exact Lib.hid this
    have e := up_end a (by omega)
    have f := ky_nan _ nan_end
    have Oau : Ord a (up a) 0 := ord_eq a (up a) ha hu (by rw [e, f, k])
    have hl : ky b ≤ ky a := by
      rw [k]
      cases m : nan b
      · obtain ⟨_, _, _⟩ := ky_num b hb m; omega
      · rw [ky_nan b m]; exact Nat.le_refl _
    by_cases q : ky a = ky b
    · have S : Sames a b true := Lib.hid (fun w => same_any a b ha hb true (by rw [decide_eq_true_iff, E]; exact q) w)
      by_cases t : ky c < ky b
      · exact row_z_hi_nan a b c (up a) _ _ 1 xz (ord_eq a b ha hb q) (ord_eq b a hb ha q.symm) (ord_gt b c hb hc t) Oac S K1 K2 U X hl (by omega) Oau L w
      · obtain ⟨y, O1, g1⟩ := ord_le b c hb hc (by omega)
        obtain ⟨x, O2, g2⟩ := ord_le a c ha hc (by omega)
        exact row_z_lo_nan a b c (up a) _ _ y x (ord_eq a b ha hb q) (ord_eq b a hb ha q.symm) O1 O2 S K1 K2 U X hl g1 g2 Oau L w
    · have S : Sames a b false := Lib.hid (fun w => same_any a b ha hb false (by rw [decide_eq_false_iff_not, E]; exact q) w)
      exact row_p_none_nan a b c (up a) _ _ yz xz (ord_gt a b ha hb (by omega)) (ord_lt b a hb ha (by omega)) Obc Oac S K1 K2 U X hl Oau L w
  · have Oau : Ord a (up a) (-1) := ord_lt a (up a) ha hu l
    by_cases q : ky a = ky b
    · have S : Sames a b true := Lib.hid (fun w => same_any a b ha hb true (by rw [decide_eq_true_iff, E]; exact q) w)
      by_cases t : ky c < ky b
      · exact row_z_hi_lt a b c (up a) _ _ 1 xz (ord_eq a b ha hb q) (ord_eq b a hb ha q.symm) (ord_gt b c hb hc t) Oac S K1 K2 U X (by omega) (by omega) Oau w
      · obtain ⟨y, O1, g1⟩ := ord_le b c hb hc (by omega)
        obtain ⟨x, O2, g2⟩ := ord_le a c ha hc (by omega)
        exact row_z_lo_lt a b c (up a) _ _ y x (ord_eq a b ha hb q) (ord_eq b a hb ha q.symm) O1 O2 S K1 K2 U X (by omega) g1 g2 Oau w
    · have S : Sames a b false := Lib.hid (fun w => same_any a b ha hb false (by rw [decide_eq_false_iff_not, E]; exact q) w)
      by_cases r : ky a < ky b
      · obtain ⟨z, O3, g3⟩ := ord_ge b (up a) hb hu (m r)
        by_cases t : ky c < ky b
        · exact row_m_hi_lt a b c (up a) _ _ 1 xz (ord_lt a b ha hb r) (ord_gt b a hb ha r) (ord_gt b c hb hc t) Oac S K1 K2 U X r z O3 g3 (by omega) Oau w
        · obtain ⟨y, O1, g1⟩ := ord_le b c hb hc (by omega)
          obtain ⟨x, O2, g2⟩ := ord_le a c ha hc (by omega)
          exact row_m_lo_lt a b c (up a) _ _ y x (ord_lt a b ha hb r) (ord_gt b a hb ha r) O1 O2 S K1 K2 U X r z O3 g3 g1 g2 Oau w
      · exact row_p_none_lt a b c (up a) _ _ yz xz (ord_gt a b ha hb (by omega)) (ord_lt b a hb ha (by omega)) Obc Oac S K1 K2 U X (by omega) Oau w

set_option maxRecDepth 100000 in
theorem row_lifted (os : Os) (started : os.Started) (H : Type) (enc : TypeId × Value → H) :
    ReturnsInHanded {} Try.checked os 6 .any (Rows.realRowSpec.pre6 enc Try.prog Try.f6 Rows.realRowRow.domain false) (Rows.realRowSpec.post enc Try.prog Try.f6 false true false false) := by
  refine returnsInHanded_of_change (C := Try.checked) own started (by kernel_rfl) Try.func6
    (ChangeSpec.witness6 (enc := enc) (C := Try.checked) false ⟨#[], #[.int .u64 0, .int .u64 0, .int .u64 0], []⟩ 8 (by kernel_rfl) (by kernel_rfl) (by kernel_rfl) (by kernel_rfl)) ?_
  intro W base args ds gs before hval0 hW hcnd _
  have hval : ∀ (j : Nat) t v, Try.f6.params[j]? = some t → args[j]? = some v → Value.okWide Try.prog W .any base t v := hval0
  have hW' := hW
  obtain ⟨p, q, hA0, hV, rfl, hfz, hnd⟩ := hW
  have hA : DataW.TrodAll enc Try.prog W 0 (fun _ => true) true Try.f6.params.toList args.toList ds p := hA0
  rw [Try.params6] at hA hval
  obtain ⟨v0, vs0, d0, ds0, p0, q0, hargs, rfl, rfl, h0, r0⟩ := trodAll_cons hA
  obtain ⟨v1, vs1, d1, ds1, p1, q1, rfl, rfl, rfl, h1, r1⟩ := trodAll_cons r0
  obtain ⟨v2, vs2, d2, ds2, p2, q2, rfl, rfl, rfl, h2, r2⟩ := trodAll_cons r1
  obtain ⟨rfl, rfl, rfl⟩ := trodAll_nil r2
  obtain rfl : args = #[v0, v1, v2] := by cases args; simp_all
  obtain ⟨rfl, rfl⟩ := trodVars_none hV
  obtain ⟨a0, rfl, rfl, rfl, w0⟩ := open_int Try.underlying22 (hval 0 22 v0 rfl rfl) h0
  obtain ⟨a1, rfl, rfl, rfl, w1⟩ := open_int Try.underlying22 (hval 1 22 v1 rfl rfl) h1
  obtain ⟨a2, rfl, rfl, rfl, w2⟩ := open_int Try.underlying22 (hval 2 22 v2 rfl rfl) h2
  clear hA0 hval0
  obtain ⟨b0, rfl, hb0⟩ := nat_of w0
  obtain ⟨b1, rfl, hb1⟩ := nat_of w1
  obtain ⟨b2, rfl, hb2⟩ := nat_of w2
  refine (row_walk b0 b1 b2 hb0 hb1 hb2 W).mono fun e W' ⟨he, bel⟩ => ?_
  subst he
  exact ⟨_, rfl, _, _, _, [], _, [], hW', trodAll_mk1 (shut_bool Try.underlying4 _), (trodAll_cons_mk (shut_int Try.underlying22 w0) (trodAll_cons_mk (shut_int Try.underlying22 w1) (trodAll_cons_mk (shut_int Try.underlying22 w2) trodAll_mk0))), rfl, bel.frame _, fun h => by cases h⟩

theorem row_holds : Rows.RealRowSaid :=
  OpenClaim.holds_of_wide 6 Try.f6 rfl rfl rfl rfl rfl rfl rfl ⟨rfl, rfl, rfl, rfl, rfl⟩ rfl rfl rfl rfl rfl (by kernel_rfl) Try.func6 (by kernel_rfl)
    (of_decide_eq_true (by kernel_rfl)) (by unfold Func.isWrapper; first | (rw [if_pos (by decide +kernel)]; kernel_rfl) | (rw [if_neg (by decide +kernel)]; exact ⟨rfl, rfl⟩))
    (fun os started H enc _ => row_lifted os started H enc)
#print axioms row_holds
end Go.Proofs.Ytjbhbehjcmapeaa
