/- What the statements are handed: a value by its bits; texts that are too long. -/
import Derived.Test.YtfhppababngiiaaVlCmp
import Derived.Deep.RegionHeld3
import Derived.Handy
namespace Go.Proofs.Ytfhppababngiiaa
open Go Go.RowKit Rl

abbrev rw4 (k n : Int) (b : Nat) (s : ByteArray) : Value := .agg #[.int .u8 k, .int .i64 n, .int .u64 (b : Int), .string s]
abbrev rcells (k n : Int) (b : Nat) (s : ByteArray) : Obj := .cells #[.int .u8 k, .int .i64 n, .int .u64 (b : Int), .string s] 24
def Rat4 (w : World) (a : Nat) (k n : Int) (b : Nat) (s : ByteArray) : Prop :=
  w.cell? ⟨a, 0, none⟩ = some (.int .u8 k) ∧ w.cell? ⟨a, 1, none⟩ = some (.int .i64 n) ∧ w.cell? ⟨a, 2, none⟩ = some (.int .u64 (b : Int)) ∧ w.cell? ⟨a, 3, none⟩ = some (.string s)

theorem run_store_float (a : Addr) (x : Nat) (m : Mode) (w : World) : (store a (.float .f64 x) m).run Try.prog w = stored Try.prog w a (.float .f64 x) m := run_store Try.prog w a _ m rfl

set_option maxHeartbeats 1000000 in
theorem raw_any (k n : Int) (b : Nat) (s : ByteArray) (w : World) :
    Calls Try.prog 9 #[rw4 k n b s] w fun e w' => e = .returned (vl k n b s) ∧ Below w.heap.size w w' := by
  have r15 := run15 b
  have sf := run_store_float
  go_enter Try.func9, Try.ntmps9
  go_wp2_with fail
  go_region
  go_wp2
  exact bodyPost_ret (v := vl k n b s) (by simp [results, Try.results9, go_sem]) rfl ⟨rfl, (((Below.refl w.heap.size w).alloc (Nat.le_refl _) _).alloc (by simp) _).drew⟩

theorem cr_a : cr 1 2 0 ⟨#[]⟩ 2 0 4612811918334230528 ⟨#[]⟩ = (-1, true) := by decide +kernel
theorem cr_b : cr 2 0 9223372036854775808 ⟨#[]⟩ 1 0 0 ⟨#[]⟩ = (0, true) := by decide +kernel
theorem may_c : may 0 0 0 ⟨#[]⟩ = true := by decide +kernel
set_option maxHeartbeats 1000000 in
theorem fixed_any (w : World) : Calls Try.prog 8 #[] w fun e w' => e = .returned (.bool true) ∧ Below w.heap.size w w' := by
  have r15 : ∀ w, (callFunc 20 #[.int .u64 9223372036854775808]).run Try.prog w = .ok (.value (.float .f64 9223372036854775808)) w := run15 9223372036854775808
  have C1 := Lib.hid (fun w => vcmp_any 1 2 0 ⟨#[]⟩ 2 0 4612811918334230528 ⟨#[]⟩ (by omega) (by omega) (by omega) (by omega) (by omega) (by omega) w)
  have C2 := Lib.hid (fun w => vcmp_any 2 0 9223372036854775808 ⟨#[]⟩ 1 0 0 ⟨#[]⟩ (by omega) (by omega) (by omega) (by omega) (by omega) (by omega) w)
  have C3 := Lib.hid (fun w => may_any 0 0 0 ⟨#[]⟩ (by omega) w)
  rw [cr_a] at C1
  rw [cr_b] at C2
  rw [may_c] at C3
  go_enter Try.func8, Try.ntmps8
  go_wp2_with fail
  refine (C1.out _).mono ?_
  rintro e w1 ⟨rfl, hb⟩
  have B1 := Lib.hid hb
  clear hb
  go_wp2_with fail
  refine (C2.out _).mono ?_
  rintro e w2 ⟨rfl, hb⟩
  have B2 := Lib.hid (below_go B1.out hb)
  clear hb
  go_wp2_with fail
  refine (C3.out _).mono ?_
  rintro e w3 ⟨rfl, hb⟩
  have B3 := Lib.hid (below_go B2.out hb)
  clear hb
  go_wp2_with fail
  go_ret
  exact ⟨rfl, B3.out⟩

set_option maxHeartbeats 1000000 in
theorem great1_0 (g : Nat) (k n : Int) (b : Nat) (s : ByteArray) (w : World) (c0 : w.cell? ⟨g, 0, none⟩ = some (.int .u8 k)) (c1 : w.cell? ⟨g, 1, none⟩ = some (.int .i64 n)) (c2 : w.cell? ⟨g, 2, none⟩ = some (.int .u64 (b : Int))) (c3 : w.cell? ⟨g, 3, none⟩ = some (.string s))
    (h0 : decide ((2000 : Int) < (s.size : Int)) = true) :
    Calls Try.prog 7 #[.slice (some ⟨g, 0, none⟩) 1 1] w fun e w' => e = .returned (.bool true) ∧ Below w.heap.size w w' := by
  go_enter Try.func7, Try.ntmps7
  go_wp2
  refine wp_loop_rounds 2 ?_
  rw [rounds_succ]
  go_wp2
  go_ret
  exact ⟨rfl, ((Below.refl w.heap.size w).alloc (Nat.le_refl _) _)⟩

set_option maxHeartbeats 1000000 in
theorem great1_1 (g : Nat) (k n : Int) (b : Nat) (s : ByteArray) (w : World) (c0 : w.cell? ⟨g, 0, none⟩ = some (.int .u8 k)) (c1 : w.cell? ⟨g, 1, none⟩ = some (.int .i64 n)) (c2 : w.cell? ⟨g, 2, none⟩ = some (.int .u64 (b : Int))) (c3 : w.cell? ⟨g, 3, none⟩ = some (.string s))
    (h0 : decide ((2000 : Int) < (s.size : Int)) = false) :
    Calls Try.prog 7 #[.slice (some ⟨g, 0, none⟩) 1 1] w fun e w' => e = .returned (.bool false) ∧ Below w.heap.size w w' := by
  go_enter Try.func7, Try.ntmps7
  go_wp2
  refine wp_loop_rounds 2 ?_
  rw [rounds_succ]
  go_wp2
  rw [rounds_succ]
  go_wp2
  go_ret
  exact ⟨rfl, ((Below.refl w.heap.size w).alloc (Nat.le_refl _) _)⟩

theorem great1_any (g : Nat) (k n : Int) (b : Nat) (s : ByteArray) (w : World) (c0 : w.cell? ⟨g, 0, none⟩ = some (.int .u8 k)) (c1 : w.cell? ⟨g, 1, none⟩ = some (.int .i64 n)) (c2 : w.cell? ⟨g, 2, none⟩ = some (.int .u64 (b : Int))) (c3 : w.cell? ⟨g, 3, none⟩ = some (.string s)) :
    Calls Try.prog 7 #[.slice (some ⟨g, 0, none⟩) 1 1] w fun e w' => e = .returned (.bool (decide ((2000 : Int) < (s.size : Int)))) ∧ Below w.heap.size w w' := by
  cases h0 : decide ((2000 : Int) < (s.size : Int))
  case true =>
    exact great1_0 g k n b s w c0 c1 c2 c3 h0
  exact great1_1 g k n b s w c0 c1 c2 c3 h0

set_option maxHeartbeats 1000000 in
theorem great2_0 (g : Nat) (k n : Int) (b : Nat) (s : ByteArray) (w : World) (c0 : w.cell? ⟨g, 0, none⟩ = some (.int .u8 k)) (c1 : w.cell? ⟨g, 1, none⟩ = some (.int .i64 n)) (c2 : w.cell? ⟨g, 2, none⟩ = some (.int .u64 (b : Int))) (c3 : w.cell? ⟨g, 3, none⟩ = some (.string s))
    (h0 : decide ((2000 : Int) < (s.size : Int)) = true) :
    Calls Try.prog 7 #[.slice (some ⟨g, 0, none⟩) 2 2] w fun e w' => e = .returned (.bool true) ∧ Below w.heap.size w w' := by
  go_enter Try.func7, Try.ntmps7
  go_wp2
  refine wp_loop_rounds 3 ?_
  rw [rounds_succ]
  go_wp2
  go_ret
  exact ⟨rfl, ((Below.refl w.heap.size w).alloc (Nat.le_refl _) _)⟩

set_option maxHeartbeats 1000000 in
theorem great2_1 (g : Nat) (k n : Int) (b : Nat) (s : ByteArray) (k' n' : Int) (b' : Nat) (s' : ByteArray) (w : World) (hg : g < w.heap.size) (c0 : w.cell? ⟨g, 0, none⟩ = some (.int .u8 k)) (c1 : w.cell? ⟨g, 1, none⟩ = some (.int .i64 n)) (c2 : w.cell? ⟨g, 2, none⟩ = some (.int .u64 (b : Int))) (c3 : w.cell? ⟨g, 3, none⟩ = some (.string s)) (c4 : w.cell? ⟨g, 4, none⟩ = some (.int .u8 k')) (c5 : w.cell? ⟨g, 5, none⟩ = some (.int .i64 n')) (c6 : w.cell? ⟨g, 6, none⟩ = some (.int .u64 (b' : Int))) (c7 : w.cell? ⟨g, 7, none⟩ = some (.string s'))
    (h0 : decide ((2000 : Int) < (s.size : Int)) = false) (h1 : decide ((2000 : Int) < (s'.size : Int)) = true) :
    Calls Try.prog 7 #[.slice (some ⟨g, 0, none⟩) 2 2] w fun e w' => e = .returned (.bool true) ∧ Below w.heap.size w w' := by
  go_enter Try.func7, Try.ntmps7
  go_wp2
  refine wp_loop_rounds 3 ?_
  rw [rounds_succ]
  go_wp2
  rw [rounds_succ]
  go_wp2
  go_ret
  exact ⟨rfl, (((Below.refl w.heap.size w).alloc (Nat.le_refl _) _).alloc (by simp) _)⟩

set_option maxHeartbeats 1000000 in
theorem great2_2 (g : Nat) (k n : Int) (b : Nat) (s : ByteArray) (k' n' : Int) (b' : Nat) (s' : ByteArray) (w : World) (hg : g < w.heap.size) (c0 : w.cell? ⟨g, 0, none⟩ = some (.int .u8 k)) (c1 : w.cell? ⟨g, 1, none⟩ = some (.int .i64 n)) (c2 : w.cell? ⟨g, 2, none⟩ = some (.int .u64 (b : Int))) (c3 : w.cell? ⟨g, 3, none⟩ = some (.string s)) (c4 : w.cell? ⟨g, 4, none⟩ = some (.int .u8 k')) (c5 : w.cell? ⟨g, 5, none⟩ = some (.int .i64 n')) (c6 : w.cell? ⟨g, 6, none⟩ = some (.int .u64 (b' : Int))) (c7 : w.cell? ⟨g, 7, none⟩ = some (.string s'))
    (h0 : decide ((2000 : Int) < (s.size : Int)) = false) (h1 : decide ((2000 : Int) < (s'.size : Int)) = false) :
    Calls Try.prog 7 #[.slice (some ⟨g, 0, none⟩) 2 2] w fun e w' => e = .returned (.bool false) ∧ Below w.heap.size w w' := by
  go_enter Try.func7, Try.ntmps7
  go_wp2
  refine wp_loop_rounds 3 ?_
  rw [rounds_succ]
  go_wp2
  rw [rounds_succ]
  go_wp2
  rw [rounds_succ]
  go_wp2
  go_ret
  exact ⟨rfl, (((Below.refl w.heap.size w).alloc (Nat.le_refl _) _).alloc (by simp) _)⟩

theorem great2_any (g : Nat) (k n : Int) (b : Nat) (s : ByteArray) (k' n' : Int) (b' : Nat) (s' : ByteArray) (w : World) (hg : g < w.heap.size) (c0 : w.cell? ⟨g, 0, none⟩ = some (.int .u8 k)) (c1 : w.cell? ⟨g, 1, none⟩ = some (.int .i64 n)) (c2 : w.cell? ⟨g, 2, none⟩ = some (.int .u64 (b : Int))) (c3 : w.cell? ⟨g, 3, none⟩ = some (.string s)) (c4 : w.cell? ⟨g, 4, none⟩ = some (.int .u8 k')) (c5 : w.cell? ⟨g, 5, none⟩ = some (.int .i64 n')) (c6 : w.cell? ⟨g, 6, none⟩ = some (.int .u64 (b' : Int))) (c7 : w.cell? ⟨g, 7, none⟩ = some (.string s')) :
    Calls Try.prog 7 #[.slice (some ⟨g, 0, none⟩) 2 2] w fun e w' => e = .returned (.bool (decide ((2000 : Int) < (s.size : Int)) || decide ((2000 : Int) < (s'.size : Int)))) ∧ Below w.heap.size w w' := by
  cases h0 : decide ((2000 : Int) < (s.size : Int))
  case true =>
    exact great2_0 g k n b s w c0 c1 c2 c3 h0
  cases h1 : decide ((2000 : Int) < (s'.size : Int))
  case true =>
    exact great2_1 g k n b s k' n' b' s' w hg c0 c1 c2 c3 c4 c5 c6 c7 h0 h1
  exact great2_2 g k n b s k' n' b' s' w hg c0 c1 c2 c3 c4 c5 c6 c7 h0 h1

set_option maxHeartbeats 1000000 in
theorem great3_0 (g : Nat) (k n : Int) (b : Nat) (s : ByteArray) (w : World) (c0 : w.cell? ⟨g, 0, none⟩ = some (.int .u8 k)) (c1 : w.cell? ⟨g, 1, none⟩ = some (.int .i64 n)) (c2 : w.cell? ⟨g, 2, none⟩ = some (.int .u64 (b : Int))) (c3 : w.cell? ⟨g, 3, none⟩ = some (.string s))
    (h0 : decide ((2000 : Int) < (s.size : Int)) = true) :
    Calls Try.prog 7 #[.slice (some ⟨g, 0, none⟩) 3 3] w fun e w' => e = .returned (.bool true) ∧ Below w.heap.size w w' := by
  go_enter Try.func7, Try.ntmps7
  go_wp2
  refine wp_loop_rounds 4 ?_
  rw [rounds_succ]
  go_wp2
  go_ret
  exact ⟨rfl, ((Below.refl w.heap.size w).alloc (Nat.le_refl _) _)⟩

set_option maxHeartbeats 1000000 in
theorem great3_1 (g : Nat) (k n : Int) (b : Nat) (s : ByteArray) (k' n' : Int) (b' : Nat) (s' : ByteArray) (w : World) (hg : g < w.heap.size) (c0 : w.cell? ⟨g, 0, none⟩ = some (.int .u8 k)) (c1 : w.cell? ⟨g, 1, none⟩ = some (.int .i64 n)) (c2 : w.cell? ⟨g, 2, none⟩ = some (.int .u64 (b : Int))) (c3 : w.cell? ⟨g, 3, none⟩ = some (.string s)) (c4 : w.cell? ⟨g, 4, none⟩ = some (.int .u8 k')) (c5 : w.cell? ⟨g, 5, none⟩ = some (.int .i64 n')) (c6 : w.cell? ⟨g, 6, none⟩ = some (.int .u64 (b' : Int))) (c7 : w.cell? ⟨g, 7, none⟩ = some (.string s'))
    (h0 : decide ((2000 : Int) < (s.size : Int)) = false) (h1 : decide ((2000 : Int) < (s'.size : Int)) = true) :
    Calls Try.prog 7 #[.slice (some ⟨g, 0, none⟩) 3 3] w fun e w' => e = .returned (.bool true) ∧ Below w.heap.size w w' := by
  go_enter Try.func7, Try.ntmps7
  go_wp2
  refine wp_loop_rounds 4 ?_
  rw [rounds_succ]
  go_wp2
  rw [rounds_succ]
  go_wp2
  go_ret
  exact ⟨rfl, (((Below.refl w.heap.size w).alloc (Nat.le_refl _) _).alloc (by simp) _)⟩

set_option maxHeartbeats 1000000 in
theorem great3_2 (g : Nat) (k n : Int) (b : Nat) (s : ByteArray) (k' n' : Int) (b' : Nat) (s' : ByteArray) (k'' n'' : Int) (b'' : Nat) (s'' : ByteArray) (w : World) (hg : g < w.heap.size) (c0 : w.cell? ⟨g, 0, none⟩ = some (.int .u8 k)) (c1 : w.cell? ⟨g, 1, none⟩ = some (.int .i64 n)) (c2 : w.cell? ⟨g, 2, none⟩ = some (.int .u64 (b : Int))) (c3 : w.cell? ⟨g, 3, none⟩ = some (.string s)) (c4 : w.cell? ⟨g, 4, none⟩ = some (.int .u8 k')) (c5 : w.cell? ⟨g, 5, none⟩ = some (.int .i64 n')) (c6 : w.cell? ⟨g, 6, none⟩ = some (.int .u64 (b' : Int))) (c7 : w.cell? ⟨g, 7, none⟩ = some (.string s')) (c8 : w.cell? ⟨g, 8, none⟩ = some (.int .u8 k'')) (c9 : w.cell? ⟨g, 9, none⟩ = some (.int .i64 n'')) (c10 : w.cell? ⟨g, 10, none⟩ = some (.int .u64 (b'' : Int))) (c11 : w.cell? ⟨g, 11, none⟩ = some (.string s''))
    (h0 : decide ((2000 : Int) < (s.size : Int)) = false) (h1 : decide ((2000 : Int) < (s'.size : Int)) = false) (h2 : decide ((2000 : Int) < (s''.size : Int)) = true) :
    Calls Try.prog 7 #[.slice (some ⟨g, 0, none⟩) 3 3] w fun e w' => e = .returned (.bool true) ∧ Below w.heap.size w w' := by
  go_enter Try.func7, Try.ntmps7
  go_wp2
  refine wp_loop_rounds 4 ?_
  rw [rounds_succ]
  go_wp2
  rw [rounds_succ]
  go_wp2
  rw [rounds_succ]
  go_wp2
  go_ret
  exact ⟨rfl, ((((Below.refl w.heap.size w).alloc (Nat.le_refl _) _).alloc (by simp) _).alloc (by simp; omega) _)⟩

set_option maxHeartbeats 1000000 in
theorem great3_3 (g : Nat) (k n : Int) (b : Nat) (s : ByteArray) (k' n' : Int) (b' : Nat) (s' : ByteArray) (k'' n'' : Int) (b'' : Nat) (s'' : ByteArray) (w : World) (hg : g < w.heap.size) (c0 : w.cell? ⟨g, 0, none⟩ = some (.int .u8 k)) (c1 : w.cell? ⟨g, 1, none⟩ = some (.int .i64 n)) (c2 : w.cell? ⟨g, 2, none⟩ = some (.int .u64 (b : Int))) (c3 : w.cell? ⟨g, 3, none⟩ = some (.string s)) (c4 : w.cell? ⟨g, 4, none⟩ = some (.int .u8 k')) (c5 : w.cell? ⟨g, 5, none⟩ = some (.int .i64 n')) (c6 : w.cell? ⟨g, 6, none⟩ = some (.int .u64 (b' : Int))) (c7 : w.cell? ⟨g, 7, none⟩ = some (.string s')) (c8 : w.cell? ⟨g, 8, none⟩ = some (.int .u8 k'')) (c9 : w.cell? ⟨g, 9, none⟩ = some (.int .i64 n'')) (c10 : w.cell? ⟨g, 10, none⟩ = some (.int .u64 (b'' : Int))) (c11 : w.cell? ⟨g, 11, none⟩ = some (.string s''))
    (h0 : decide ((2000 : Int) < (s.size : Int)) = false) (h1 : decide ((2000 : Int) < (s'.size : Int)) = false) (h2 : decide ((2000 : Int) < (s''.size : Int)) = false) :
    Calls Try.prog 7 #[.slice (some ⟨g, 0, none⟩) 3 3] w fun e w' => e = .returned (.bool false) ∧ Below w.heap.size w w' := by
  go_enter Try.func7, Try.ntmps7
  go_wp2
  refine wp_loop_rounds 4 ?_
  rw [rounds_succ]
  go_wp2
  rw [rounds_succ]
  go_wp2
  rw [rounds_succ]
  go_wp2
  rw [rounds_succ]
  go_wp2
  go_ret
  exact ⟨rfl, ((((Below.refl w.heap.size w).alloc (Nat.le_refl _) _).alloc (by simp) _).alloc (by simp; omega) _)⟩

theorem great3_any (g : Nat) (k n : Int) (b : Nat) (s : ByteArray) (k' n' : Int) (b' : Nat) (s' : ByteArray) (k'' n'' : Int) (b'' : Nat) (s'' : ByteArray) (w : World) (hg : g < w.heap.size) (c0 : w.cell? ⟨g, 0, none⟩ = some (.int .u8 k)) (c1 : w.cell? ⟨g, 1, none⟩ = some (.int .i64 n)) (c2 : w.cell? ⟨g, 2, none⟩ = some (.int .u64 (b : Int))) (c3 : w.cell? ⟨g, 3, none⟩ = some (.string s)) (c4 : w.cell? ⟨g, 4, none⟩ = some (.int .u8 k')) (c5 : w.cell? ⟨g, 5, none⟩ = some (.int .i64 n')) (c6 : w.cell? ⟨g, 6, none⟩ = some (.int .u64 (b' : Int))) (c7 : w.cell? ⟨g, 7, none⟩ = some (.string s')) (c8 : w.cell? ⟨g, 8, none⟩ = some (.int .u8 k'')) (c9 : w.cell? ⟨g, 9, none⟩ = some (.int .i64 n'')) (c10 : w.cell? ⟨g, 10, none⟩ = some (.int .u64 (b'' : Int))) (c11 : w.cell? ⟨g, 11, none⟩ = some (.string s'')) :
    Calls Try.prog 7 #[.slice (some ⟨g, 0, none⟩) 3 3] w fun e w' => e = .returned (.bool (decide ((2000 : Int) < (s.size : Int)) || decide ((2000 : Int) < (s'.size : Int)) || decide ((2000 : Int) < (s''.size : Int)))) ∧ Below w.heap.size w w' := by
  cases h0 : decide ((2000 : Int) < (s.size : Int))
  case true =>
    exact great3_0 g k n b s w c0 c1 c2 c3 h0
  cases h1 : decide ((2000 : Int) < (s'.size : Int))
  case true =>
    exact great3_1 g k n b s k' n' b' s' w hg c0 c1 c2 c3 c4 c5 c6 c7 h0 h1
  cases h2 : decide ((2000 : Int) < (s''.size : Int))
  case true =>
    exact great3_2 g k n b s k' n' b' s' k'' n'' b'' s'' w hg c0 c1 c2 c3 c4 c5 c6 c7 c8 c9 c10 c11 h0 h1 h2
  exact great3_3 g k n b s k' n' b' s' k'' n'' b'' s'' w hg c0 c1 c2 c3 c4 c5 c6 c7 c8 c9 c10 c11 h0 h1 h2
end Go.Proofs.Ytfhppababngiiaa
