/- Values compared: the contract of the program's Compare. -/
import Derived.Test.YtiddpoihhfphmaaDoorLbValSame
import Derived.Test.YtiddpoihhfphmaaDoorVlText
import Derived.Test.YtiddpoihhfphmaaDoorLbAgainst
import Derived.ChangeKeysEq
namespace Go.Proofs.YtiddpoihhfphmaaDoor
open Go Go.RowKit Rl

abbrev agg2 (x y : Int) : Array Value := #[.int .u8 x, .int .u8 y]
theorem part2 (x y : Int) (w : World) : (part 5 (agg2 x y) (0 * 1)).run Tryd.prog w = .ok (.int .u8 x) w ∧ (part 5 (agg2 x y) (1 * 1)).run Tryd.prog w = .ok (.int .u8 y) w :=
  ⟨by kernel_rfl, by kernel_rfl⟩
theorem eqStep (xs ys : Array Value) (i : Nat) (is : List Nat) (a b : Int) (w : World) (ha : (part 5 xs (i * 1)).run Tryd.prog w = .ok (.int .u8 a) w) (hb : (part 5 ys (i * 1)).run Tryd.prog w = .ok (.int .u8 b) w) :
    (Op.eqItems 9999 5 1 xs ys (i :: is)).run Tryd.prog w = if a = b then (Op.eqItems 9999 5 1 xs ys is).run Tryd.prog w else .ok false w := by
  rw [Op.eqItems]
  simp only [Sem.run_bind, ha, hb, Result.andThen_ok, run_equalIn_int w 9998 5 .u8 .u8 a b Tryd.underlying5]
  by_cases h : a = b
  · simp [h]
  · simp [h]
theorem eq2 (x y a b : Int) (q : Bool) (h : decide (x = a ∧ y = b) = q) (w : World) : (Op.equalIn 10000 109 (.agg #[.int .u8 x, .int .u8 y]) (.agg #[.int .u8 a, .int .u8 b])).run Tryd.prog w = .ok q w := by
  obtain ⟨i, hi, _⟩ := info5
  rw [run_equalIn_array w 9999 _ _ Tryd.underlying109 hi, show Tryd.prog.cellsOf 5 = 1 by kernel_rfl, show List.range 2 = [0, 1] from rfl]
  obtain ⟨p0, p1⟩ := part2 x y w
  obtain ⟨q0, q1⟩ := part2 a b w
  rw [eqStep _ _ _ _ _ _ _ p0 q0, eqStep _ _ _ _ _ _ _ p1 q1, Op.eqItems, Sem.run_pure, ← h]
  by_cases h0 : x = a <;> by_cases h1 : y = b <;> simp [h0, h1]

def crB (m m' q11 q12 q21 q22 q33 : Bool) (v1 v2 v3 v4 v5 : Int) (o2 o3 o4 : Bool) : Int × Bool :=
  if m = false then (0, false) else if m' = false then (0, false) else if q11 = true then (v1, true) else if q12 = true then (v2, o2) else if q21 = true then (v3, o3) else if q22 = true then (v4, o4) else if q33 = true then (v5, true) else (0, false)
abbrev tup (p : Int × Bool) : Value := .tuple #[.int .i64 p.1, .bool p.2]

theorem ret_tup {a b : Int} {o : Bool} (h : a = b) : Ending.returned (.tuple #[.int .i64 a, .bool o]) = .returned (tup (b, o)) := by rw [h]
set_option maxHeartbeats 4000000 in
theorem vcmp_walk (k n : Int) (r : Nat) (s : ByteArray) (k' n' : Int) (r' : Nat) (s' : ByteArray) (m m' q11 q12 q21 q22 q33 : Bool) (v1 v2 v3 v4 v5 : Int) (o2 o3 o4 : Bool)
    (x11 : ∀ w, (Op.equalIn 10000 109 (.agg #[.int .u8 k, .int .u8 k']) (.agg #[.int .u8 1, .int .u8 1])).run Tryd.prog w = .ok q11 w)
    (x12 : ∀ w, (Op.equalIn 10000 109 (.agg #[.int .u8 k, .int .u8 k']) (.agg #[.int .u8 1, .int .u8 2])).run Tryd.prog w = .ok q12 w)
    (x21 : ∀ w, (Op.equalIn 10000 109 (.agg #[.int .u8 k, .int .u8 k']) (.agg #[.int .u8 2, .int .u8 1])).run Tryd.prog w = .ok q21 w)
    (x22 : ∀ w, (Op.equalIn 10000 109 (.agg #[.int .u8 k, .int .u8 k']) (.agg #[.int .u8 2, .int .u8 2])).run Tryd.prog w = .ok q22 w)
    (x33 : ∀ w, (Op.equalIn 10000 109 (.agg #[.int .u8 k, .int .u8 k']) (.agg #[.int .u8 3, .int .u8 3])).run Tryd.prog w = .ok q33 w)
    (M1 : Hid (∀ w, Calls Tryd.prog 47 #[vl k n r s] w fun e w' => e = .returned (.bool m) ∧ Below w.heap.size w w'))
    (M2 : Hid (∀ w, Calls Tryd.prog 47 #[vl k' n' r' s'] w fun e w' => e = .returned (.bool m') ∧ Below w.heap.size w w'))
    (C1 : Hid (∀ w, Calls Tryd.prog 71 #[.int .i64 n, .int .i64 n'] w fun e w' => e = .returned (.int .i64 v1) ∧ w = w'))
    (C2 : Hid (∀ w, Calls Tryd.prog 72 #[.int .i64 n, .float .f64 r'] w fun e w' => e = .returned (.tuple #[.int .i64 v2, .bool o2]) ∧ w = w'))
    (C3 : Hid (∀ w, Calls Tryd.prog 72 #[.int .i64 n', .float .f64 r] w fun e w' => e = .returned (.tuple #[.int .i64 (-v3), .bool o3]) ∧ w = w'))
    (C4 : Hid (∀ w, Calls Tryd.prog 73 #[.float .f64 r, .float .f64 r'] w fun e w' => e = .returned (.tuple #[.int .i64 v4, .bool o4]) ∧ w = w'))
    (C5 : Hid (∀ w, Calls Tryd.prog 74 #[.string s, .string s'] w fun e w' => e = .returned (.int .i64 v5) ∧ w = w'))
    (b0 : -1 ≤ v3) (b1 : v3 ≤ 1) (w : World) :
    Calls Tryd.prog 51 #[vl k n r s, vl k' n' r' s'] w fun e w' => e = .returned (tup (crB m m' q11 q12 q21 q22 q33 v1 v2 v3 v4 v5 o2 o3 o4)) ∧ Below w.heap.size w w' := by
  have T0 := Lib.hid (TwoV.start w k n r s k' n' r' s')
  cases m
  · have E := Lib.hid (show crB false m' q11 q12 q21 q22 q33 v1 v2 v3 v4 v5 o2 o3 o4 = (0, false) by simp [crB])
    rw [E.out]
    clear x11 x12 x21 x22 x33 C1 C2 C3 C4 C5 M2 E
    go_enter Tryd.func51, Tryd.ntmps51
    go_wp2_with fail
    refine (M1.out _).mono ?_
    rintro e w1 ⟨rfl, hb⟩
    have T1 := Lib.hid (T0.out.next hb)
    clear hb
    go_wp2_with fail
    go_ret2
    exact ⟨rfl, T1.out.bel⟩
  cases m'
  · have E := Lib.hid (show crB true false q11 q12 q21 q22 q33 v1 v2 v3 v4 v5 o2 o3 o4 = (0, false) by simp [crB])
    rw [E.out]
    clear x11 x12 x21 x22 x33 C1 C2 C3 C4 C5 E
    go_enter Tryd.func51, Tryd.ntmps51
    go_wp2_with fail
    refine (M1.out _).mono ?_
    rintro e w1 ⟨rfl, hb⟩
    have T1 := Lib.hid (T0.out.next hb)
    clear hb
    obtain ⟨d0, d1, d2, d3⟩ := T1.out.two
    go_wp2_with fail
    refine (M2.out _).mono ?_
    rintro e w2 ⟨rfl, hb⟩
    have T2 := Lib.hid (T1.out.next hb)
    clear hb
    go_wp2_with fail
    go_ret2
    exact ⟨rfl, T2.out.bel⟩
  cases q11
  case true =>
    have E := Lib.hid (show crB true true true q12 q21 q22 q33 v1 v2 v3 v4 v5 o2 o3 o4 = (v1, true) by simp [crB])
    rw [E.out]
    clear E x12 x21 x22 x33 C2 C3 C4 C5
    go_enter Tryd.func51, Tryd.ntmps51
    go_wp2_with fail
    refine (M1.out _).mono ?_
    rintro e w1 ⟨rfl, hb⟩
    have T1 := Lib.hid (T0.out.next hb)
    clear hb
    obtain ⟨d0, d1, d2, d3⟩ := T1.out.two
    go_wp2_with fail
    refine (M2.out _).mono ?_
    rintro e w2 ⟨rfl, hb⟩
    have T2 := Lib.hid (T1.out.next hb)
    clear hb d0 d1 d2 d3
    obtain ⟨c0, c1, c2, c3⟩ := T2.out.one
    obtain ⟨d0, d1, d2, d3⟩ := T2.out.two
    have z1 := T2.out.big
    have z0 : w.heap.size < w2.heap.size := by omega
    go_wp2_with fail
    refine (C1.out _).mono ?_
    rintro e w3 ⟨rfl, rfl⟩
    go_wp2_with fail
    go_ret2
    exact ⟨rfl, T2.out.bel.alloc T2.out.bel.size _⟩
  cases q12
  case true =>
    have E := Lib.hid (show crB true true false true q21 q22 q33 v1 v2 v3 v4 v5 o2 o3 o4 = (v2, o2) by simp [crB])
    rw [E.out]
    clear E x21 x22 x33 C1 C3 C4 C5
    go_enter Tryd.func51, Tryd.ntmps51
    go_wp2_with fail
    refine (M1.out _).mono ?_
    rintro e w1 ⟨rfl, hb⟩
    have T1 := Lib.hid (T0.out.next hb)
    clear hb
    obtain ⟨d0, d1, d2, d3⟩ := T1.out.two
    go_wp2_with fail
    refine (M2.out _).mono ?_
    rintro e w2 ⟨rfl, hb⟩
    have T2 := Lib.hid (T1.out.next hb)
    clear hb d0 d1 d2 d3
    obtain ⟨c0, c1, c2, c3⟩ := T2.out.one
    obtain ⟨d0, d1, d2, d3⟩ := T2.out.two
    have z1 := T2.out.big
    have z0 : w.heap.size < w2.heap.size := by omega
    go_wp2_with fail
    refine (C2.out _).mono ?_
    rintro e w3 ⟨rfl, rfl⟩
    go_wp2_with fail
    go_ret2
    exact ⟨rfl, T2.out.bel.alloc T2.out.bel.size _⟩
  cases q21
  case true =>
    have E := Lib.hid (show crB true true false false true q22 q33 v1 v2 v3 v4 v5 o2 o3 o4 = (v3, o3) by simp [crB])
    rw [E.out]
    clear E x22 x33 C1 C2 C4 C5
    go_enter Tryd.func51, Tryd.ntmps51
    go_wp2_with fail
    refine (M1.out _).mono ?_
    rintro e w1 ⟨rfl, hb⟩
    have T1 := Lib.hid (T0.out.next hb)
    clear hb
    obtain ⟨d0, d1, d2, d3⟩ := T1.out.two
    go_wp2_with fail
    refine (M2.out _).mono ?_
    rintro e w2 ⟨rfl, hb⟩
    have T2 := Lib.hid (T1.out.next hb)
    clear hb d0 d1 d2 d3
    obtain ⟨c0, c1, c2, c3⟩ := T2.out.one
    obtain ⟨d0, d1, d2, d3⟩ := T2.out.two
    have z1 := T2.out.big
    have z0 : w.heap.size < w2.heap.size := by omega
    go_wp2_with fail
    refine (C3.out _).mono ?_
    rintro e w3 ⟨rfl, rfl⟩
    go_wp2_with fail
    go_ret2
    exact ⟨ret_tup (by simp), T2.out.bel.alloc T2.out.bel.size _⟩
  cases q22
  case true =>
    have E := Lib.hid (show crB true true false false false true q33 v1 v2 v3 v4 v5 o2 o3 o4 = (v4, o4) by simp [crB])
    rw [E.out]
    clear E x33 C1 C2 C3 C5
    go_enter Tryd.func51, Tryd.ntmps51
    go_wp2_with fail
    refine (M1.out _).mono ?_
    rintro e w1 ⟨rfl, hb⟩
    have T1 := Lib.hid (T0.out.next hb)
    clear hb
    obtain ⟨d0, d1, d2, d3⟩ := T1.out.two
    go_wp2_with fail
    refine (M2.out _).mono ?_
    rintro e w2 ⟨rfl, hb⟩
    have T2 := Lib.hid (T1.out.next hb)
    clear hb d0 d1 d2 d3
    obtain ⟨c0, c1, c2, c3⟩ := T2.out.one
    obtain ⟨d0, d1, d2, d3⟩ := T2.out.two
    have z1 := T2.out.big
    have z0 : w.heap.size < w2.heap.size := by omega
    go_wp2_with fail
    refine (C4.out _).mono ?_
    rintro e w3 ⟨rfl, rfl⟩
    go_wp2_with fail
    go_ret2
    exact ⟨rfl, T2.out.bel.alloc T2.out.bel.size _⟩
  cases q33
  case true =>
    have E := Lib.hid (show crB true true false false false false true v1 v2 v3 v4 v5 o2 o3 o4 = (v5, true) by simp [crB])
    rw [E.out]
    clear E  C1 C2 C3 C4
    go_enter Tryd.func51, Tryd.ntmps51
    go_wp2_with fail
    refine (M1.out _).mono ?_
    rintro e w1 ⟨rfl, hb⟩
    have T1 := Lib.hid (T0.out.next hb)
    clear hb
    obtain ⟨d0, d1, d2, d3⟩ := T1.out.two
    go_wp2_with fail
    refine (M2.out _).mono ?_
    rintro e w2 ⟨rfl, hb⟩
    have T2 := Lib.hid (T1.out.next hb)
    clear hb d0 d1 d2 d3
    obtain ⟨c0, c1, c2, c3⟩ := T2.out.one
    obtain ⟨d0, d1, d2, d3⟩ := T2.out.two
    have z1 := T2.out.big
    have z0 : w.heap.size < w2.heap.size := by omega
    go_wp2_with fail
    refine (C5.out _).mono ?_
    rintro e w3 ⟨rfl, rfl⟩
    go_wp2_with fail
    go_ret2
    exact ⟨rfl, T2.out.bel.alloc T2.out.bel.size _⟩
  have E := Lib.hid (show crB true true false false false false false v1 v2 v3 v4 v5 o2 o3 o4 = (0, false) by simp [crB])
  rw [E.out]
  clear E C1 C2 C3 C4 C5
  go_enter Tryd.func51, Tryd.ntmps51
  go_wp2_with fail
  refine (M1.out _).mono ?_
  rintro e w1 ⟨rfl, hb⟩
  have T1 := Lib.hid (T0.out.next hb)
  clear hb
  obtain ⟨d0, d1, d2, d3⟩ := T1.out.two
  go_wp2_with fail
  refine (M2.out _).mono ?_
  rintro e w2 ⟨rfl, hb⟩
  have T2 := Lib.hid (T1.out.next hb)
  clear hb d0 d1 d2 d3
  obtain ⟨c0, c1, c2, c3⟩ := T2.out.one
  obtain ⟨d0, d1, d2, d3⟩ := T2.out.two
  have z1 := T2.out.big
  have z0 : w.heap.size < w2.heap.size := by omega
  go_wp2_with fail
  go_ret2
  exact ⟨rfl, T2.out.bel.alloc T2.out.bel.size _⟩

def cr (k n : Int) (r : Nat) (s : ByteArray) (k' n' : Int) (r' : Nat) (s' : ByteArray) : Int × Bool :=
  crB (may k n r s) (may k' n' r' s') (decide (k = 1 ∧ k' = 1)) (decide (k = 1 ∧ k' = 2)) (decide (k = 2 ∧ k' = 1)) (decide (k = 2 ∧ k' = 2)) (decide (k = 3 ∧ k' = 3))
    (c3 n n') (ag n r') (-ag n' r) (cv r r') (lx s.toList s'.toList) (!nan r') (!nan r) (co r r')
theorem c3_bounds (a b : Int) : -1 ≤ c3 a b ∧ c3 a b ≤ 1 := by unfold c3; split <;> (try split) <;> omega
theorem ag_bounds (n : Int) (r : Nat) : -1 ≤ ag n r ∧ ag n r ≤ 1 := by
  unfold ag
  split
  · omega
  · exact c3_bounds _ _
theorem vcmp_any (k n : Int) (r : Nat) (s : ByteArray) (k' n' : Int) (r' : Nat) (s' : ByteArray) (hn0 : -9223372036854775808 ≤ n) (hn1 : n ≤ 9223372036854775807) (hr : r < 18446744073709551616)
    (hm0 : -9223372036854775808 ≤ n') (hm1 : n' ≤ 9223372036854775807) (hr' : r' < 18446744073709551616) (w : World) :
    Calls Tryd.prog 51 #[vl k n r s, vl k' n' r' s'] w fun e w' => e = .returned (tup (cr k n r s k' n' r' s')) ∧ Below w.heap.size w w' := by
  have b := ag_bounds n' r
  exact vcmp_walk k n r s k' n' r' s' _ _ _ _ _ _ _ _ _ _ _ _ _ _ _ (eq2 k k' 1 1 _ rfl) (eq2 k k' 1 2 _ rfl) (eq2 k k' 2 1 _ rfl) (eq2 k k' 2 2 _ rfl) (eq2 k k' 3 3 _ rfl)
    (Lib.hid fun w => may_any k n r s hr w) (Lib.hid fun w => may_any k' n' r' s' hr' w) (Lib.hid fun w => cmpI_any n n' w) (Lib.hid fun w => against_any n r' hn0 hn1 hr' w)
    (Lib.hid fun w => by rw [Int.neg_neg]; exact against_any n' r hm0 hm1 hr w) (Lib.hid fun w => compare_any r r' hr hr' w) (Lib.hid fun w => cmpS_any s s' w) (by omega) (by omega) w
end Go.Proofs.YtiddpoihhfphmaaDoor
