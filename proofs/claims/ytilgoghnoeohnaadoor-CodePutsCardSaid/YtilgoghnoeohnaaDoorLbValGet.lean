/- Values out of bytes: the contract of the program's Get, kind by kind. -/
import Derived.Test.YtilgoghnoeohnaaDoorMB
import Derived.Test.YtilgoghnoeohnaaDoorLmGet
namespace Go.Proofs.YtilgoghnoeohnaaDoor
open Go Go.RowKit Pk Rl
set_option maxRecDepth 20000

abbrev got3 (v : Value) (k e : Int) : Value := .tuple #[v, .int .i64 k, .int .i64 e]
abbrev v0 : Value := vl 0 0 0 ⟨#[]⟩

set_option maxHeartbeats 1000000 in
theorem vget_out (a : Option Addr) (len cap : Nat) (p : Int) (w : World) (h : p < 0 ∨ (len : Int) ≤ p) :
    Calls Tryd.prog 87 #[.slice a len cap, .int .i64 p] w fun e w' => e = .returned (got3 v0 0 3) ∧ Below w.heap.size w w' := by
  have sf := run_store_float
  by_cases c : p < 0
  · clear h
    go_enter Tryd.func87, Tryd.ntmps87
    go_wp2
    refine bodyPost_ret (v := got3 v0 0 3) ?_ rfl ⟨rfl, (Below.refl w.heap.size w).alloc (Nat.le_refl _) _⟩
    simp [results, Tryd.results87, go_sem]
  · have h2 : (len : Int) ≤ p := by omega
    clear h
    go_enter Tryd.func87, Tryd.ntmps87
    go_wp2
    refine bodyPost_ret (v := got3 v0 0 3) ?_ rfl ⟨rfl, (Below.refl w.heap.size w).alloc (Nat.le_refl _) _⟩
    simp [results, Tryd.results87, go_sem]

set_option maxHeartbeats 1000000 in
set_option maxRecDepth 100000 in
theorem vget_0 (b off len cap q : Nat) (w : World) (hq : q < len) (hm : len ≤ 100000)
    (hcell : w.cell? ⟨b, off + q, none⟩ = some (.int .u8 0)) :
    Calls Tryd.prog 87 #[.slice (some ⟨b, off, none⟩) len cap, .int .i64 (q : Int)] w fun e w' => e = .returned (got3 (vl 0 0 0 ⟨#[]⟩) ((q : Int) + 1) 0) ∧ Below w.heap.size w w' := by
  have hb := World.block_lt_of_cell? _ _ hcell
  have sf := run_store_float
  have tq : decide ((q : Int) < 0) = false := by simp
  go_enter Tryd.func87, Tryd.ntmps87
  go_wp2
  refine bodyPost_ret (v := got3 (vl 0 0 0 ⟨#[]⟩) ((q : Int) + 1) 0) ?_ rfl ⟨rfl, ((Below.refl w.heap.size w).alloc (Nat.le_refl _) _).alloc (by simp) _⟩
  simp [results, Tryd.results87, go_sem]

set_option maxHeartbeats 1000000 in
set_option maxRecDepth 100000 in
theorem vget_x (b off len cap q : Nat) (k : Int) (w : World) (hq : q < len) (hm : len ≤ 100000)
    (hcell : w.cell? ⟨b, off + q, none⟩ = some (.int .u8 k)) (h0 : (k == 0) = false) (h1 : (k == 1) = false) (h2 : (k == 2) = false) (h3 : (k == 3) = false) :
    Calls Tryd.prog 87 #[.slice (some ⟨b, off, none⟩) len cap, .int .i64 (q : Int)] w fun e w' => e = .returned (got3 v0 0 11) ∧ Below w.heap.size w w' := by
  have hb := World.block_lt_of_cell? _ _ hcell
  have sf := run_store_float
  have tq : decide ((q : Int) < 0) = false := by simp
  go_enter Tryd.func87, Tryd.ntmps87
  go_wp2
  refine bodyPost_ret (v := got3 (v0) 0 11) ?_ rfl ⟨rfl, ((Below.refl w.heap.size w).alloc (Nat.le_refl _) _).alloc (by simp) _⟩
  simp [results, Tryd.results87, go_sem]

set_option maxHeartbeats 1000000 in
set_option maxRecDepth 100000 in
theorem vget_1 (b off len cap q : Nat) (n : Int) (K : Int) (w : World) (hq : q < len) (hm : len ≤ 100000)
    (hcell : w.cell? ⟨b, off + q, none⟩ = some (.int .u8 1))
    (G : Hid (∀ w1, Below w.heap.size w w1 → Calls Tryd.prog 93 #[.slice (some ⟨b, off, none⟩) len cap, .int .i64 ((q : Int) + 1)] w1 fun e w' => e = .returned (.tuple #[.int .i64 n, .int .i64 K, .int .i64 0]) ∧ w1 = w')) :
    Calls Tryd.prog 87 #[.slice (some ⟨b, off, none⟩) len cap, .int .i64 (q : Int)] w fun e w' => e = .returned (got3 (vl 1 n 0 ⟨#[]⟩) K 0) ∧ Below w.heap.size w w' := by
  have hb := World.block_lt_of_cell? _ _ hcell
  have sf := run_store_float
  have tq : decide ((q : Int) < 0) = false := by simp
  go_enter Tryd.func87, Tryd.ntmps87
  go_wp2_with fail
  refine (G.out _ (((Below.refl w.heap.size w).alloc (Nat.le_refl _) _).alloc (by simp) _)).mono ?_
  rintro e w1 ⟨rfl, rfl⟩
  go_wp2
  refine bodyPost_ret (v := got3 (vl 1 n 0 ⟨#[]⟩) K 0) ?_ rfl ⟨rfl, ((Below.refl w.heap.size w).alloc (Nat.le_refl _) _).alloc (by simp) _⟩
  simp [results, Tryd.results87, go_sem]

set_option maxHeartbeats 1000000 in
set_option maxRecDepth 100000 in
theorem vget_1e (b off len cap q : Nat) (n : Int) (K : Int) (E : Nat) (w : World) (hq : q < len) (hm : len ≤ 100000)
    (hcell : w.cell? ⟨b, off + q, none⟩ = some (.int .u8 1))
    (G : Hid (∀ w1, Below w.heap.size w w1 → Calls Tryd.prog 93 #[.slice (some ⟨b, off, none⟩) len cap, .int .i64 ((q : Int) + 1)] w1 fun e w' => e = .returned (.tuple #[.int .i64 n, .int .i64 K, .int .i64 (E : Int)]) ∧ w1 = w')) (hE : ((E : Int) != 0) = true) :
    Calls Tryd.prog 87 #[.slice (some ⟨b, off, none⟩) len cap, .int .i64 (q : Int)] w fun e w' => e = .returned (got3 v0 0 (E : Int)) ∧ Below w.heap.size w w' := by
  have hb := World.block_lt_of_cell? _ _ hcell
  have sf := run_store_float
  have tq : decide ((q : Int) < 0) = false := by simp
  go_enter Tryd.func87, Tryd.ntmps87
  go_wp2_with fail
  refine (G.out _ (((Below.refl w.heap.size w).alloc (Nat.le_refl _) _).alloc (by simp) _)).mono ?_
  rintro e w1 ⟨rfl, rfl⟩
  go_wp2
  refine bodyPost_ret (v := got3 (v0) 0 (E : Int)) ?_ rfl ⟨rfl, ((Below.refl w.heap.size w).alloc (Nat.le_refl _) _).alloc (by simp) _⟩
  simp [results, Tryd.results87, go_sem]

set_option maxHeartbeats 1000000 in
set_option maxRecDepth 100000 in
theorem vget_2 (b off len cap q : Nat) (r : Nat) (K : Int) (w : World) (hq : q < len) (hm : len ≤ 100000)
    (hcell : w.cell? ⟨b, off + q, none⟩ = some (.int .u8 2))
    (G : Hid (∀ w1, Below w.heap.size w w1 → Calls Tryd.prog 94 #[.slice (some ⟨b, off, none⟩) len cap, .int .i64 ((q : Int) + 1)] w1 fun e w' => e = .returned (.tuple #[.float .f64 r, .int .i64 K, .int .i64 0]) ∧ w1 = w')) :
    Calls Tryd.prog 87 #[.slice (some ⟨b, off, none⟩) len cap, .int .i64 (q : Int)] w fun e w' => e = .returned (got3 (vl 2 0 r ⟨#[]⟩) K 0) ∧ Below w.heap.size w w' := by
  have hb := World.block_lt_of_cell? _ _ hcell
  have sf := run_store_float
  have tq : decide ((q : Int) < 0) = false := by simp
  go_enter Tryd.func87, Tryd.ntmps87
  go_wp2_with fail
  refine (G.out _ (((Below.refl w.heap.size w).alloc (Nat.le_refl _) _).alloc (by simp) _)).mono ?_
  rintro e w1 ⟨rfl, rfl⟩
  go_wp2
  refine bodyPost_ret (v := got3 (vl 2 0 r ⟨#[]⟩) K 0) ?_ rfl ⟨rfl, ((Below.refl w.heap.size w).alloc (Nat.le_refl _) _).alloc (by simp) _⟩
  simp [results, Tryd.results87, go_sem]

set_option maxHeartbeats 1000000 in
set_option maxRecDepth 100000 in
theorem vget_2e (b off len cap q : Nat) (r : Nat) (K : Int) (E : Nat) (w : World) (hq : q < len) (hm : len ≤ 100000)
    (hcell : w.cell? ⟨b, off + q, none⟩ = some (.int .u8 2))
    (G : Hid (∀ w1, Below w.heap.size w w1 → Calls Tryd.prog 94 #[.slice (some ⟨b, off, none⟩) len cap, .int .i64 ((q : Int) + 1)] w1 fun e w' => e = .returned (.tuple #[.float .f64 r, .int .i64 K, .int .i64 (E : Int)]) ∧ w1 = w')) (hE : ((E : Int) != 0) = true) :
    Calls Tryd.prog 87 #[.slice (some ⟨b, off, none⟩) len cap, .int .i64 (q : Int)] w fun e w' => e = .returned (got3 v0 0 (E : Int)) ∧ Below w.heap.size w w' := by
  have hb := World.block_lt_of_cell? _ _ hcell
  have sf := run_store_float
  have tq : decide ((q : Int) < 0) = false := by simp
  go_enter Tryd.func87, Tryd.ntmps87
  go_wp2_with fail
  refine (G.out _ (((Below.refl w.heap.size w).alloc (Nat.le_refl _) _).alloc (by simp) _)).mono ?_
  rintro e w1 ⟨rfl, rfl⟩
  go_wp2
  refine bodyPost_ret (v := got3 (v0) 0 (E : Int)) ?_ rfl ⟨rfl, ((Below.refl w.heap.size w).alloc (Nat.le_refl _) _).alloc (by simp) _⟩
  simp [results, Tryd.results87, go_sem]

set_option maxHeartbeats 1000000 in
set_option maxRecDepth 100000 in
theorem vget_3 (b off len cap q : Nat) (s : ByteArray) (K : Int) (w : World) (hq : q < len) (hm : len ≤ 100000)
    (hcell : w.cell? ⟨b, off + q, none⟩ = some (.int .u8 3))
    (G : Hid (∀ w1, Below w.heap.size w w1 → Calls Tryd.prog 95 #[.slice (some ⟨b, off, none⟩) len cap, .int .i64 ((q : Int) + 1), .int .i64 255] w1 fun e w' => e = .returned (.tuple #[.string s, .int .i64 K, .int .i64 0]) ∧ w1 = w')) :
    Calls Tryd.prog 87 #[.slice (some ⟨b, off, none⟩) len cap, .int .i64 (q : Int)] w fun e w' => e = .returned (got3 (vl 3 0 0 s) K 0) ∧ Below w.heap.size w w' := by
  have hb := World.block_lt_of_cell? _ _ hcell
  have sf := run_store_float
  have tq : decide ((q : Int) < 0) = false := by simp
  go_enter Tryd.func87, Tryd.ntmps87
  go_wp2_with fail
  refine (G.out _ (((Below.refl w.heap.size w).alloc (Nat.le_refl _) _).alloc (by simp) _)).mono ?_
  rintro e w1 ⟨rfl, rfl⟩
  go_wp2
  refine bodyPost_ret (v := got3 (vl 3 0 0 s) K 0) ?_ rfl ⟨rfl, ((Below.refl w.heap.size w).alloc (Nat.le_refl _) _).alloc (by simp) _⟩
  simp [results, Tryd.results87, go_sem]

set_option maxHeartbeats 1000000 in
set_option maxRecDepth 100000 in
theorem vget_3e (b off len cap q : Nat) (s : ByteArray) (K : Int) (E : Nat) (w : World) (hq : q < len) (hm : len ≤ 100000)
    (hcell : w.cell? ⟨b, off + q, none⟩ = some (.int .u8 3))
    (G : Hid (∀ w1, Below w.heap.size w w1 → Calls Tryd.prog 95 #[.slice (some ⟨b, off, none⟩) len cap, .int .i64 ((q : Int) + 1), .int .i64 255] w1 fun e w' => e = .returned (.tuple #[.string s, .int .i64 K, .int .i64 (E : Int)]) ∧ w1 = w')) (hE : ((E : Int) != 0) = true) :
    Calls Tryd.prog 87 #[.slice (some ⟨b, off, none⟩) len cap, .int .i64 (q : Int)] w fun e w' => e = .returned (got3 v0 0 (E : Int)) ∧ Below w.heap.size w w' := by
  have hb := World.block_lt_of_cell? _ _ hcell
  have sf := run_store_float
  have tq : decide ((q : Int) < 0) = false := by simp
  go_enter Tryd.func87, Tryd.ntmps87
  go_wp2_with fail
  refine (G.out _ (((Below.refl w.heap.size w).alloc (Nat.le_refl _) _).alloc (by simp) _)).mono ?_
  rintro e w1 ⟨rfl, rfl⟩
  go_wp2
  refine bodyPost_ret (v := got3 (v0) 0 (E : Int)) ?_ rfl ⟨rfl, ((Below.refl w.heap.size w).alloc (Nat.le_refl _) _).alloc (by simp) _⟩
  simp [results, Tryd.results87, go_sem]
end Go.Proofs.YtilgoghnoeohnaaDoor
