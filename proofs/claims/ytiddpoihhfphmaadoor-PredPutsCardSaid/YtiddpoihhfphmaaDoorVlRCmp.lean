/- Values compared: the contract of the document's Compare. -/
import Derived.Test.YtiddpoihhfphmaaDoorVlCmp
import Derived.Test.YtiddpoihhfphmaaDoorLbRefAgainst
namespace Go.Proofs.YtiddpoihhfphmaaDoor
open Go Go.RowKit Rl

theorem cells_next {w W W' : World} {p q : Addr} {x y : Value} {m : Nat} (h : W.cell? p = some x ∧ W.cell? q = some y ∧ Below m w W ∧ m ≤ W.heap.size) (hb : Below W.heap.size W W') :
    W'.cell? p = some x ∧ W'.cell? q = some y ∧ Below m w W' ∧ m ≤ W'.heap.size := by
  obtain ⟨h1, h2, h7, h9⟩ := h
  have z := hb.size
  refine ⟨?_, ?_, h7.trans (hb.mono h9), by omega⟩
  · rw [hb.cell (World.block_lt_of_cell? _ _ h1)]; exact h1
  · rw [hb.cell (World.block_lt_of_cell? _ _ h2)]; exact h2

set_option maxHeartbeats 1000000 in
theorem rc_no1 (k : Int) (n : Int) (r : Nat) (s : ByteArray) (k' n' : Int) (r' : Nat) (s' : ByteArray)
    (M1 : Hid (∀ w, Calls Tryd.prog 42 #[vl k n r s] w fun e w' => e = .returned (.bool false) ∧ Below w.heap.size w w'))
    (w : World) :
    Calls Tryd.prog 22 #[vl k n r s, vl k' n' r' s'] w fun e w' => e = .returned (tup (0, false)) ∧ Below w.heap.size w w' := by
  have T0 := Lib.hid (TwoV.start w k n r s k' n' r' s')
  go_enter Tryd.func22, Tryd.ntmps22
  go_wp2_with fail
  refine (M1.out _).mono ?_
  rintro e w1 ⟨rfl, hb⟩
  have T1 := Lib.hid (T0.out.next hb)
  clear hb
  go_wp2_with fail
  go_ret2
  exact ⟨rfl, T1.out.bel⟩

set_option maxHeartbeats 2000000 in
set_option maxRecDepth 100000 in
theorem rc_no2 (k k' : Int) (n : Int) (r : Nat) (s : ByteArray) (n' : Int) (r' : Nat) (s' : ByteArray)
    (M1 : Hid (∀ w, Calls Tryd.prog 42 #[vl k n r s] w fun e w' => e = .returned (.bool true) ∧ Below w.heap.size w w'))
    (M2 : Hid (∀ w, Calls Tryd.prog 42 #[vl k' n' r' s'] w fun e w' => e = .returned (.bool false) ∧ Below w.heap.size w w'))
    (w : World) :
    Calls Tryd.prog 22 #[vl k n r s, vl k' n' r' s'] w fun e w' => e = .returned (tup (0, false)) ∧ Below w.heap.size w w' := by
  have T0 := Lib.hid (TwoV.start w k n r s k' n' r' s')
  go_enter Tryd.func22, Tryd.ntmps22
  go_wp2_with fail
  refine (M1.out _).mono ?_
  rintro e w1 ⟨rfl, hb⟩
  have T1 := Lib.hid (T0.out.next hb)
  clear hb
  obtain ⟨d0, d1, d2, d3⟩ := T1.out.two
  go_wp2_with fail
  refine (M2.out _).mono ?_
  rintro e w2 ⟨rfl, hb⟩
  have T2 := Lib.hid (T1.out.next hb)
  clear hb d0 d1 d2 d3
  obtain ⟨c0, c1, c2, c3⟩ := T2.out.one
  obtain ⟨d0, d1, d2, d3⟩ := T2.out.two
  have z1 := T2.out.big
  have z0 : w.heap.size < w2.heap.size := by omega
  go_wp2_with fail
  go_ret2
  exact ⟨rfl, T2.out.bel⟩

set_option maxHeartbeats 2000000 in
set_option maxRecDepth 100000 in
theorem rc_0y (k' : Int) (n : Int) (r : Nat) (s : ByteArray) (n' : Int) (r' : Nat) (s' : ByteArray)
    (M1 : Hid (∀ w, Calls Tryd.prog 42 #[vl 0 n r s] w fun e w' => e = .returned (.bool true) ∧ Below w.heap.size w w'))
    (M2 : Hid (∀ w, Calls Tryd.prog 42 #[vl k' n' r' s'] w fun e w' => e = .returned (.bool true) ∧ Below w.heap.size w w'))
    (w : World) :
    Calls Tryd.prog 22 #[vl 0 n r s, vl k' n' r' s'] w fun e w' => e = .returned (tup (0, false)) ∧ Below w.heap.size w w' := by
  have T0 := Lib.hid (TwoV.start w 0 n r s k' n' r' s')
  go_enter Tryd.func22, Tryd.ntmps22
  go_wp2_with fail
  refine (M1.out _).mono ?_
  rintro e w1 ⟨rfl, hb⟩
  have T1 := Lib.hid (T0.out.next hb)
  clear hb
  obtain ⟨d0, d1, d2, d3⟩ := T1.out.two
  go_wp2_with fail
  refine (M2.out _).mono ?_
  rintro e w2 ⟨rfl, hb⟩
  have T2 := Lib.hid (T1.out.next hb)
  clear hb d0 d1 d2 d3
  obtain ⟨c0, c1, c2, c3⟩ := T2.out.one
  obtain ⟨d0, d1, d2, d3⟩ := T2.out.two
  have z1 := T2.out.big
  have z0 : w.heap.size < w2.heap.size := by omega
  go_wp2_with fail
  go_ret2
  exact ⟨rfl, T2.out.bel⟩

set_option maxHeartbeats 2000000 in
set_option maxRecDepth 100000 in
theorem rc_x0 (k : Int) (n : Int) (r : Nat) (s : ByteArray) (n' : Int) (r' : Nat) (s' : ByteArray)
    (M1 : Hid (∀ w, Calls Tryd.prog 42 #[vl k n r s] w fun e w' => e = .returned (.bool true) ∧ Below w.heap.size w w'))
    (M2 : Hid (∀ w, Calls Tryd.prog 42 #[vl 0 n' r' s'] w fun e w' => e = .returned (.bool true) ∧ Below w.heap.size w w'))
    (h0 : (k == 0) = false)
    (w : World) :
    Calls Tryd.prog 22 #[vl k n r s, vl 0 n' r' s'] w fun e w' => e = .returned (tup (0, false)) ∧ Below w.heap.size w w' := by
  have T0 := Lib.hid (TwoV.start w k n r s 0 n' r' s')
  go_enter Tryd.func22, Tryd.ntmps22
  go_wp2_with fail
  refine (M1.out _).mono ?_
  rintro e w1 ⟨rfl, hb⟩
  have T1 := Lib.hid (T0.out.next hb)
  clear hb
  obtain ⟨d0, d1, d2, d3⟩ := T1.out.two
  go_wp2_with fail
  refine (M2.out _).mono ?_
  rintro e w2 ⟨rfl, hb⟩
  have T2 := Lib.hid (T1.out.next hb)
  clear hb d0 d1 d2 d3
  obtain ⟨c0, c1, c2, c3⟩ := T2.out.one
  obtain ⟨d0, d1, d2, d3⟩ := T2.out.two
  have z1 := T2.out.big
  have z0 : w.heap.size < w2.heap.size := by omega
  go_wp2_with fail
  go_ret2
  exact ⟨rfl, T2.out.bel⟩

set_option maxHeartbeats 2000000 in
set_option maxRecDepth 100000 in
theorem rc_3y (k' : Int) (n : Int) (r : Nat) (s : ByteArray) (n' : Int) (r' : Nat) (s' : ByteArray)
    (M1 : Hid (∀ w, Calls Tryd.prog 42 #[vl 3 n r s] w fun e w' => e = .returned (.bool true) ∧ Below w.heap.size w w'))
    (M2 : Hid (∀ w, Calls Tryd.prog 42 #[vl k' n' r' s'] w fun e w' => e = .returned (.bool true) ∧ Below w.heap.size w w'))
    (h0 : (k' == 0) = false) (h3 : (k' == 3) = false)
    (w : World) :
    Calls Tryd.prog 22 #[vl 3 n r s, vl k' n' r' s'] w fun e w' => e = .returned (tup (0, false)) ∧ Below w.heap.size w w' := by
  have T0 := Lib.hid (TwoV.start w 3 n r s k' n' r' s')
  go_enter Tryd.func22, Tryd.ntmps22
  go_wp2_with fail
  refine (M1.out _).mono ?_
  rintro e w1 ⟨rfl, hb⟩
  have T1 := Lib.hid (T0.out.next hb)
  clear hb
  obtain ⟨d0, d1, d2, d3⟩ := T1.out.two
  go_wp2_with fail
  refine (M2.out _).mono ?_
  rintro e w2 ⟨rfl, hb⟩
  have T2 := Lib.hid (T1.out.next hb)
  clear hb d0 d1 d2 d3
  obtain ⟨c0, c1, c2, c3⟩ := T2.out.one
  obtain ⟨d0, d1, d2, d3⟩ := T2.out.two
  have z1 := T2.out.big
  have z0 : w.heap.size < w2.heap.size := by omega
  go_wp2_with fail
  go_ret2
  exact ⟨rfl, T2.out.bel⟩

set_option maxHeartbeats 2000000 in
set_option maxRecDepth 100000 in
theorem rc_x3 (k : Int) (n : Int) (r : Nat) (s : ByteArray) (n' : Int) (r' : Nat) (s' : ByteArray)
    (M1 : Hid (∀ w, Calls Tryd.prog 42 #[vl k n r s] w fun e w' => e = .returned (.bool true) ∧ Below w.heap.size w w'))
    (M2 : Hid (∀ w, Calls Tryd.prog 42 #[vl 3 n' r' s'] w fun e w' => e = .returned (.bool true) ∧ Below w.heap.size w w'))
    (h0 : (k == 0) = false) (h3 : (k == 3) = false)
    (w : World) :
    Calls Tryd.prog 22 #[vl k n r s, vl 3 n' r' s'] w fun e w' => e = .returned (tup (0, false)) ∧ Below w.heap.size w w' := by
  have T0 := Lib.hid (TwoV.start w k n r s 3 n' r' s')
  go_enter Tryd.func22, Tryd.ntmps22
  go_wp2_with fail
  refine (M1.out _).mono ?_
  rintro e w1 ⟨rfl, hb⟩
  have T1 := Lib.hid (T0.out.next hb)
  clear hb
  obtain ⟨d0, d1, d2, d3⟩ := T1.out.two
  go_wp2_with fail
  refine (M2.out _).mono ?_
  rintro e w2 ⟨rfl, hb⟩
  have T2 := Lib.hid (T1.out.next hb)
  clear hb d0 d1 d2 d3
  obtain ⟨c0, c1, c2, c3⟩ := T2.out.one
  obtain ⟨d0, d1, d2, d3⟩ := T2.out.two
  have z1 := T2.out.big
  have z0 : w.heap.size < w2.heap.size := by omega
  go_wp2_with fail
  go_ret2
  exact ⟨rfl, T2.out.bel⟩

set_option maxHeartbeats 2000000 in
set_option maxRecDepth 100000 in
theorem rc_33 (v : Int) (n : Int) (r : Nat) (s : ByteArray) (n' : Int) (r' : Nat) (s' : ByteArray)
    (M1 : Hid (∀ w, Calls Tryd.prog 42 #[vl 3 n r s] w fun e w' => e = .returned (.bool true) ∧ Below w.heap.size w w'))
    (M2 : Hid (∀ w, Calls Tryd.prog 42 #[vl 3 n' r' s'] w fun e w' => e = .returned (.bool true) ∧ Below w.heap.size w w'))
    (C : Hid (∀ w, Calls Tryd.prog 43 #[.string s, .string s'] w fun e w' => e = .returned (.int .i64 v) ∧ Below w.heap.size w w'))
    (w : World) :
    Calls Tryd.prog 22 #[vl 3 n r s, vl 3 n' r' s'] w fun e w' => e = .returned (tup (v, true)) ∧ Below w.heap.size w w' := by
  have T0 := Lib.hid (TwoV.start w 3 n r s 3 n' r' s')
  go_enter Tryd.func22, Tryd.ntmps22
  go_wp2_with fail
  refine (M1.out _).mono ?_
  rintro e w1 ⟨rfl, hb⟩
  have T1 := Lib.hid (T0.out.next hb)
  clear hb
  obtain ⟨d0, d1, d2, d3⟩ := T1.out.two
  go_wp2_with fail
  refine (M2.out _).mono ?_
  rintro e w2 ⟨rfl, hb⟩
  have T2 := Lib.hid (T1.out.next hb)
  clear hb d0 d1 d2 d3
  obtain ⟨c0, c1, c2, c3⟩ := T2.out.one
  obtain ⟨d0, d1, d2, d3⟩ := T2.out.two
  have z1 := T2.out.big
  have z0 : w.heap.size < w2.heap.size := by omega
  go_wp2_with fail
  refine (C.out _).mono ?_
  rintro e w3 ⟨rfl, hb⟩
  have T3 := Lib.hid (T2.out.next hb)
  clear hb
  go_wp2_with fail
  go_ret2
  exact ⟨rfl, T3.out.bel⟩

set_option maxHeartbeats 2000000 in
set_option maxRecDepth 100000 in
theorem rc_22 (v : Int) (o : Bool) (a : Bool) (E F : Nat) (a' : Bool) (E' F' : Nat) (n : Int) (r : Nat) (s : ByteArray) (n' : Int) (r' : Nat) (s' : ByteArray)
    (M1 : Hid (∀ w, Calls Tryd.prog 42 #[vl 2 n r s] w fun e w' => e = .returned (.bool true) ∧ Below w.heap.size w w'))
    (M2 : Hid (∀ w, Calls Tryd.prog 42 #[vl 2 n' r' s'] w fun e w' => e = .returned (.bool true) ∧ Below w.heap.size w w'))
    (O1 : Hid (∀ w, Calls Tryd.prog 45 #[.float .f64 r] w fun e w' => e = .returned (pt a E F) ∧ Below w.heap.size w w'))
    (O2 : Hid (∀ w, Calls Tryd.prog 45 #[.float .f64 r'] w fun e w' => e = .returned (pt a' E' F') ∧ Below w.heap.size w w'))
    (C : Hid (∀ w, Calls Tryd.prog 44 #[pt a E F, pt a' E' F'] w fun e w' => e = .returned (.tuple #[.int .i64 v, .bool o]) ∧ Below w.heap.size w w'))
    (w : World) :
    Calls Tryd.prog 22 #[vl 2 n r s, vl 2 n' r' s'] w fun e w' => e = .returned (tup (v, o)) ∧ Below w.heap.size w w' := by
  have T0 := Lib.hid (TwoV.start w 2 n r s 2 n' r' s')
  go_enter Tryd.func22, Tryd.ntmps22
  go_wp2_with fail
  refine (M1.out _).mono ?_
  rintro e w1 ⟨rfl, hb⟩
  have T1 := Lib.hid (T0.out.next hb)
  clear hb
  obtain ⟨d0, d1, d2, d3⟩ := T1.out.two
  go_wp2_with fail
  refine (M2.out _).mono ?_
  rintro e w2 ⟨rfl, hb⟩
  have T2 := Lib.hid (T1.out.next hb)
  clear hb d0 d1 d2 d3
  obtain ⟨c0, c1, c2, c3⟩ := T2.out.one
  obtain ⟨d0, d1, d2, d3⟩ := T2.out.two
  have z1 := T2.out.big
  have z0 : w.heap.size < w2.heap.size := by omega
  go_wp2_with fail
  go_region_held3 (fun W => W.cell? ⟨w.heap.size, 2, none⟩ = some (.float .f64 r) ∧ W.cell? ⟨w.heap.size + 1, 2, none⟩ = some (.float .f64 r') ∧ Below w.heap.size w W ∧ w.heap.size ≤ W.heap.size)
    (first | assumption | exact ⟨c2, d2, T2.out.bel.drew, T2.out.bel.size⟩ | exact cells_next (by assumption) (by assumption))
    (first
      | (go_at_call 45; (with_reducible refine (O1.out _).mono ?_); rintro e w' ⟨rfl, b1⟩)
      | (go_at_call 45; (with_reducible refine (O2.out _).mono ?_); rintro e w' ⟨rfl, b1⟩)
      | (go_at_call 44; (with_reducible refine (C.out _).mono ?_); rintro e w' ⟨rfl, b1⟩))
  rename_i hHeld
  have HB := Lib.hid hHeld.2.2.1
  clear hHeld
  go_wp2
  go_ret2
  exact ⟨rfl, HB.out⟩

set_option maxHeartbeats 2000000 in
set_option maxRecDepth 100000 in
theorem rc_12 (v : Int) (o : Bool) (a' : Bool) (E' F' : Nat) (n : Int) (r : Nat) (s : ByteArray) (n' : Int) (r' : Nat) (s' : ByteArray)
    (M1 : Hid (∀ w, Calls Tryd.prog 42 #[vl 1 n r s] w fun e w' => e = .returned (.bool true) ∧ Below w.heap.size w w'))
    (M2 : Hid (∀ w, Calls Tryd.prog 42 #[vl 2 n' r' s'] w fun e w' => e = .returned (.bool true) ∧ Below w.heap.size w w'))
    (O2 : Hid (∀ w, Calls Tryd.prog 45 #[.float .f64 r'] w fun e w' => e = .returned (pt a' E' F') ∧ Below w.heap.size w w'))
    (C : Hid (∀ w, Calls Tryd.prog 46 #[.int .i64 n, pt a' E' F'] w fun e w' => e = .returned (.tuple #[.int .i64 v, .bool o]) ∧ Below w.heap.size w w'))
    (w : World) :
    Calls Tryd.prog 22 #[vl 1 n r s, vl 2 n' r' s'] w fun e w' => e = .returned (tup (v, o)) ∧ Below w.heap.size w w' := by
  have T0 := Lib.hid (TwoV.start w 1 n r s 2 n' r' s')
  go_enter Tryd.func22, Tryd.ntmps22
  go_wp2_with fail
  refine (M1.out _).mono ?_
  rintro e w1 ⟨rfl, hb⟩
  have T1 := Lib.hid (T0.out.next hb)
  clear hb
  obtain ⟨d0, d1, d2, d3⟩ := T1.out.two
  go_wp2_with fail
  refine (M2.out _).mono ?_
  rintro e w2 ⟨rfl, hb⟩
  have T2 := Lib.hid (T1.out.next hb)
  clear hb d0 d1 d2 d3
  obtain ⟨c0, c1, c2, c3⟩ := T2.out.one
  obtain ⟨d0, d1, d2, d3⟩ := T2.out.two
  have z1 := T2.out.big
  have z0 : w.heap.size < w2.heap.size := by omega
  go_wp2_with fail
  go_region_held3 (fun W => W.cell? ⟨w.heap.size, 1, none⟩ = some (.int .i64 n) ∧ W.cell? ⟨w.heap.size + 1, 2, none⟩ = some (.float .f64 r') ∧ Below w.heap.size w W ∧ w.heap.size ≤ W.heap.size)
    (first | assumption | exact ⟨c1, d2, T2.out.bel.drew, T2.out.bel.size⟩ | exact cells_next (by assumption) (by assumption))
    (first
      | (go_at_call 45; (with_reducible refine (O2.out _).mono ?_); rintro e w' ⟨rfl, b1⟩)
      | (go_at_call 46; (with_reducible refine (C.out _).mono ?_); rintro e w' ⟨rfl, b1⟩))
  rename_i hHeld
  have HB := Lib.hid hHeld.2.2.1
  clear hHeld
  go_wp2
  go_ret2
  exact ⟨rfl, HB.out⟩

set_option maxHeartbeats 2000000 in
set_option maxRecDepth 100000 in
theorem rc_21 (v : Int) (o : Bool) (a : Bool) (E F : Nat) (n : Int) (r : Nat) (s : ByteArray) (n' : Int) (r' : Nat) (s' : ByteArray)
    (M1 : Hid (∀ w, Calls Tryd.prog 42 #[vl 2 n r s] w fun e w' => e = .returned (.bool true) ∧ Below w.heap.size w w'))
    (M2 : Hid (∀ w, Calls Tryd.prog 42 #[vl 1 n' r' s'] w fun e w' => e = .returned (.bool true) ∧ Below w.heap.size w w'))
    (O1 : Hid (∀ w, Calls Tryd.prog 45 #[.float .f64 r] w fun e w' => e = .returned (pt a E F) ∧ Below w.heap.size w w'))
    (C : Hid (∀ w, Calls Tryd.prog 46 #[.int .i64 n', pt a E F] w fun e w' => e = .returned (.tuple #[.int .i64 (-v), .bool o]) ∧ Below w.heap.size w w'))
    (b0 : -1 ≤ v) (b1 : v ≤ 1)
    (w : World) :
    Calls Tryd.prog 22 #[vl 2 n r s, vl 1 n' r' s'] w fun e w' => e = .returned (tup (v, o)) ∧ Below w.heap.size w w' := by
  have T0 := Lib.hid (TwoV.start w 2 n r s 1 n' r' s')
  go_enter Tryd.func22, Tryd.ntmps22
  go_wp2_with fail
  refine (M1.out _).mono ?_
  rintro e w1 ⟨rfl, hb⟩
  have T1 := Lib.hid (T0.out.next hb)
  clear hb
  obtain ⟨d0, d1, d2, d3⟩ := T1.out.two
  go_wp2_with fail
  refine (M2.out _).mono ?_
  rintro e w2 ⟨rfl, hb⟩
  have T2 := Lib.hid (T1.out.next hb)
  clear hb d0 d1 d2 d3
  obtain ⟨c0, c1, c2, c3⟩ := T2.out.one
  obtain ⟨d0, d1, d2, d3⟩ := T2.out.two
  have z1 := T2.out.big
  have z0 : w.heap.size < w2.heap.size := by omega
  go_wp2_with fail
  go_region_held3 (fun W => W.cell? ⟨w.heap.size + 1, 1, none⟩ = some (.int .i64 n') ∧ W.cell? ⟨w.heap.size, 2, none⟩ = some (.float .f64 r) ∧ Below w.heap.size w W ∧ w.heap.size ≤ W.heap.size)
    (first | assumption | exact ⟨d1, c2, T2.out.bel.drew, T2.out.bel.size⟩ | exact cells_next (by assumption) (by assumption))
    (first
      | (go_at_call 45; (with_reducible refine (O1.out _).mono ?_); rintro e w' ⟨rfl, b1⟩)
      | (go_at_call 46; (with_reducible refine (C.out _).mono ?_); rintro e w' ⟨rfl, b1⟩))
  rename_i hHeld
  have HB := Lib.hid hHeld.2.2.1
  clear hHeld
  go_wp2
  go_ret2
  exact ⟨ret_tup (by simp), HB.out⟩

set_option maxHeartbeats 2000000 in
set_option maxRecDepth 100000 in
theorem rc_11l (n : Int) (r : Nat) (s : ByteArray) (n' : Int) (r' : Nat) (s' : ByteArray)
    (M1 : Hid (∀ w, Calls Tryd.prog 42 #[vl 1 n r s] w fun e w' => e = .returned (.bool true) ∧ Below w.heap.size w w'))
    (M2 : Hid (∀ w, Calls Tryd.prog 42 #[vl 1 n' r' s'] w fun e w' => e = .returned (.bool true) ∧ Below w.heap.size w w'))
    (h : n < n')
    (w : World) :
    Calls Tryd.prog 22 #[vl 1 n r s, vl 1 n' r' s'] w fun e w' => e = .returned (tup (-1, true)) ∧ Below w.heap.size w w' := by
  have T0 := Lib.hid (TwoV.start w 1 n r s 1 n' r' s')
  go_enter Tryd.func22, Tryd.ntmps22
  go_wp2_with fail
  refine (M1.out _).mono ?_
  rintro e w1 ⟨rfl, hb⟩
  have T1 := Lib.hid (T0.out.next hb)
  clear hb
  obtain ⟨d0, d1, d2, d3⟩ := T1.out.two
  go_wp2_with fail
  refine (M2.out _).mono ?_
  rintro e w2 ⟨rfl, hb⟩
  have T2 := Lib.hid (T1.out.next hb)
  clear hb d0 d1 d2 d3
  obtain ⟨c0, c1, c2, c3⟩ := T2.out.one
  obtain ⟨d0, d1, d2, d3⟩ := T2.out.two
  have z1 := T2.out.big
  have z0 : w.heap.size < w2.heap.size := by omega
  go_wp2_with fail
  go_ret2
  exact ⟨rfl, T2.out.bel⟩

set_option maxHeartbeats 2000000 in
set_option maxRecDepth 100000 in
theorem rc_11g (n : Int) (r : Nat) (s : ByteArray) (n' : Int) (r' : Nat) (s' : ByteArray)
    (M1 : Hid (∀ w, Calls Tryd.prog 42 #[vl 1 n r s] w fun e w' => e = .returned (.bool true) ∧ Below w.heap.size w w'))
    (M2 : Hid (∀ w, Calls Tryd.prog 42 #[vl 1 n' r' s'] w fun e w' => e = .returned (.bool true) ∧ Below w.heap.size w w'))
    (h : n' < n)
    (w : World) :
    Calls Tryd.prog 22 #[vl 1 n r s, vl 1 n' r' s'] w fun e w' => e = .returned (tup (1, true)) ∧ Below w.heap.size w w' := by
  have T0 := Lib.hid (TwoV.start w 1 n r s 1 n' r' s')
  go_enter Tryd.func22, Tryd.ntmps22
  go_wp2_with fail
  refine (M1.out _).mono ?_
  rintro e w1 ⟨rfl, hb⟩
  have T1 := Lib.hid (T0.out.next hb)
  clear hb
  obtain ⟨d0, d1, d2, d3⟩ := T1.out.two
  go_wp2_with fail
  refine (M2.out _).mono ?_
  rintro e w2 ⟨rfl, hb⟩
  have T2 := Lib.hid (T1.out.next hb)
  clear hb d0 d1 d2 d3
  obtain ⟨c0, c1, c2, c3⟩ := T2.out.one
  obtain ⟨d0, d1, d2, d3⟩ := T2.out.two
  have z1 := T2.out.big
  have z0 : w.heap.size < w2.heap.size := by omega
  go_wp2_with fail
  go_ret2
  exact ⟨rfl, T2.out.bel⟩

set_option maxHeartbeats 2000000 in
set_option maxRecDepth 100000 in
theorem rc_11e (n : Int) (r : Nat) (s : ByteArray) (n' : Int) (r' : Nat) (s' : ByteArray)
    (M1 : Hid (∀ w, Calls Tryd.prog 42 #[vl 1 n r s] w fun e w' => e = .returned (.bool true) ∧ Below w.heap.size w w'))
    (M2 : Hid (∀ w, Calls Tryd.prog 42 #[vl 1 n' r' s'] w fun e w' => e = .returned (.bool true) ∧ Below w.heap.size w w'))
    (h : ¬ n < n') (g : ¬ n' < n)
    (w : World) :
    Calls Tryd.prog 22 #[vl 1 n r s, vl 1 n' r' s'] w fun e w' => e = .returned (tup (0, true)) ∧ Below w.heap.size w w' := by
  have T0 := Lib.hid (TwoV.start w 1 n r s 1 n' r' s')
  go_enter Tryd.func22, Tryd.ntmps22
  go_wp2_with fail
  refine (M1.out _).mono ?_
  rintro e w1 ⟨rfl, hb⟩
  have T1 := Lib.hid (T0.out.next hb)
  clear hb
  obtain ⟨d0, d1, d2, d3⟩ := T1.out.two
  go_wp2_with fail
  refine (M2.out _).mono ?_
  rintro e w2 ⟨rfl, hb⟩
  have T2 := Lib.hid (T1.out.next hb)
  clear hb d0 d1 d2 d3
  obtain ⟨c0, c1, c2, c3⟩ := T2.out.one
  obtain ⟨d0, d1, d2, d3⟩ := T2.out.two
  have z1 := T2.out.big
  have z0 : w.heap.size < w2.heap.size := by omega
  go_wp2_with fail
  go_ret2
  exact ⟨rfl, T2.out.bel⟩

theorem may_kind {k n : Int} {r : Nat} {s : ByteArray} (h : may k n r s = true) : k = 0 ∨ k = 1 ∨ k = 2 ∨ k = 3 := by
  unfold may mayB at h
  by_cases h0 : k = 0
  · exact .inl h0
  by_cases h1 : k = 1
  · exact .inr (.inl h1)
  by_cases h2 : k = 2
  · exact .inr (.inr (.inl h2))
  by_cases h3 : k = 3
  · exact .inr (.inr (.inr h3))
  rw [if_neg h0, if_neg h1, if_neg h2, if_neg h3] at h
  cases h
theorem rcmp_any (k n : Int) (r : Nat) (s : ByteArray) (k' n' : Int) (r' : Nat) (s' : ByteArray) (hk : 0 ≤ k) (hk' : 0 ≤ k') (hn0 : -9223372036854775808 ≤ n) (hn1 : n ≤ 9223372036854775807) (hr : r < 18446744073709551616)
    (hm0 : -9223372036854775808 ≤ n') (hm1 : n' ≤ 9223372036854775807) (hr' : r' < 18446744073709551616) (hs : s.size ≤ 1000000) (hs' : s'.size ≤ 1000000) (w : World) :
    Calls Tryd.prog 22 #[vl k n r s, vl k' n' r' s'] w fun e w' => e = .returned (tup (cr k n r s k' n' r' s')) ∧ Below w.heap.size w w' := by
  have M1 := fun w => rmay_any k n r s hk w
  have M2 := fun w => rmay_any k' n' r' s' hk' w
  have O1 := Lib.hid fun w => of_any r hr w
  have O2 := Lib.hid fun w => of_any r' hr' w
  unfold cr
  cases m1 : may k n r s
  · rw [m1] at M1
    rw [show crB false _ _ _ _ _ _ _ _ _ _ _ _ _ _ = (0, false) by simp [crB]]
    exact rc_no1 k n r s k' n' r' s' (Lib.hid M1) w
  cases m2 : may k' n' r' s'
  · rw [m1] at M1
    rw [m2] at M2
    rw [show crB true false _ _ _ _ _ _ _ _ _ _ _ _ _ = (0, false) by simp [crB]]
    exact rc_no2 k k' n r s n' r' s' (Lib.hid M1) (Lib.hid M2) w
  rw [m1] at M1
  rw [m2] at M2
  rcases may_kind m1 with rfl | rfl | rfl | rfl
  · rw [show crB true true _ _ _ _ _ _ _ _ _ _ _ _ _ = (0, false) by simp [crB]]
    exact rc_0y k' n r s n' r' s' (Lib.hid M1) (Lib.hid M2) w
  · rcases may_kind m2 with rfl | rfl | rfl | rfl
    · rw [show crB true true _ _ _ _ _ _ _ _ _ _ _ _ _ = (0, false) by simp [crB]]
      exact rc_x0 1 n r s n' r' s' (Lib.hid M1) (Lib.hid M2) (by decide) w
    · rw [show crB true true _ _ _ _ _ _ _ _ _ _ _ _ _ = (c3 n n', true) by simp [crB]]
      by_cases l : n < n'
      · rw [c3_lt l]; exact rc_11l n r s n' r' s' (Lib.hid M1) (Lib.hid M2) l w
      · by_cases g : n' < n
        · rw [c3_gt g]; exact rc_11g n r s n' r' s' (Lib.hid M1) (Lib.hid M2) g w
        · rw [show c3 n n' = 0 by unfold c3; rw [if_neg l, if_neg g]]; exact rc_11e n r s n' r' s' (Lib.hid M1) (Lib.hid M2) l g w
    · rw [show crB true true _ _ _ _ _ _ _ _ _ _ _ _ _ = (ag n r', !nan r') by simp [crB]]
      exact rc_12 _ _ _ _ _ n r s n' r' s' (Lib.hid M1) (Lib.hid M2) O2 (Lib.hid fun w => pagainst_any n r' hn0 hn1 w) w
    · rw [show crB true true _ _ _ _ _ _ _ _ _ _ _ _ _ = (0, false) by simp [crB]]
      exact rc_x3 1 n r s n' r' s' (Lib.hid M1) (Lib.hid M2) (by decide) (by decide) w
  · rcases may_kind m2 with rfl | rfl | rfl | rfl
    · rw [show crB true true _ _ _ _ _ _ _ _ _ _ _ _ _ = (0, false) by simp [crB]]
      exact rc_x0 2 n r s n' r' s' (Lib.hid M1) (Lib.hid M2) (by decide) w
    · rw [show crB true true _ _ _ _ _ _ _ _ _ _ _ _ _ = (-ag n' r, !nan r) by simp [crB]]
      have b := ag_bounds n' r
      exact rc_21 _ _ _ _ _ n r s n' r' s' (Lib.hid M1) (Lib.hid M2) O1 (Lib.hid fun w => by rw [Int.neg_neg]; exact pagainst_any n' r hm0 hm1 w) (by omega) (by omega) w
    · rw [show crB true true _ _ _ _ _ _ _ _ _ _ _ _ _ = (cv r r', co r r') by simp [crB]]
      exact rc_22 _ _ _ _ _ _ _ _ n r s n' r' s' (Lib.hid M1) (Lib.hid M2) O1 O2 (Lib.hid fun w => by
        have := pcompare_any (neg r) (ex r) (fr r) (neg r') (ex r') (fr r') (ex_lt r) (fr_lt r) (ex_lt r') (fr_lt r') w
        rwa [pcv_cv r r' hr hr', pco_co r r'] at this) w
    · rw [show crB true true _ _ _ _ _ _ _ _ _ _ _ _ _ = (0, false) by simp [crB]]
      exact rc_x3 2 n r s n' r' s' (Lib.hid M1) (Lib.hid M2) (by decide) (by decide) w
  · rcases may_kind m2 with rfl | rfl | rfl | rfl
    · rw [show crB true true _ _ _ _ _ _ _ _ _ _ _ _ _ = (0, false) by simp [crB]]
      exact rc_x0 3 n r s n' r' s' (Lib.hid M1) (Lib.hid M2) (by decide) w
    · rw [show crB true true _ _ _ _ _ _ _ _ _ _ _ _ _ = (0, false) by simp [crB]]
      exact rc_3y 1 n r s n' r' s' (Lib.hid M1) (Lib.hid M2) (by decide) (by decide) w
    · rw [show crB true true _ _ _ _ _ _ _ _ _ _ _ _ _ = (0, false) by simp [crB]]
      exact rc_3y 2 n r s n' r' s' (Lib.hid M1) (Lib.hid M2) (by decide) (by decide) w
    · rw [show crB true true _ _ _ _ _ _ _ _ _ _ _ _ _ = (lx s.toList s'.toList, true) by simp [crB]]
      exact rc_33 _ n r s n' r' s' (Lib.hid M1) (Lib.hid M2) (Lib.hid fun w => texts_any s s' w hs hs') w
end Go.Proofs.YtiddpoihhfphmaaDoor
