/- Values out of bytes: the contract of the document's Get, kind by kind. -/
import Derived.Test.YtjpdnojkgadklaaLbValGet
import Derived.Test.YtjpdnojkgadklaaLbRGetInt
import Derived.Test.YtjpdnojkgadklaaLbRGetReal
import Derived.Test.YtjpdnojkgadklaaLbRGetText
import Derived.Handy
namespace Go.Proofs.Ytjpdnojkgadklaa
open Go Go.RowKit Pk Rl
set_option maxRecDepth 20000


theorem box3 (w w1 : World) (k : Int) (hb : Below (((w.alloc (vcells 0 0 0 ⟨#[]⟩)).alloc (vcells 0 0 0 ⟨#[]⟩)).alloc (vcells k 0 0 ⟨#[]⟩)).heap.size (((w.alloc (vcells 0 0 0 ⟨#[]⟩)).alloc (vcells 0 0 0 ⟨#[]⟩)).alloc (vcells k 0 0 ⟨#[]⟩)) w1) :
    w1.cell? ⟨w.heap.size, 0, none⟩ = some (.int .u8 0) ∧ w1.cell? ⟨w.heap.size, 1, none⟩ = some (.int .i64 0) ∧ w1.cell? ⟨w.heap.size, 2, none⟩ = some (.float .f64 0) ∧ w1.cell? ⟨w.heap.size, 3, none⟩ = some (.string ⟨#[]⟩) ∧ w1.cell? ⟨w.heap.size + 1, 0, none⟩ = some (.int .u8 0) ∧ w1.cell? ⟨w.heap.size + 1, 1, none⟩ = some (.int .i64 0) ∧ w1.cell? ⟨w.heap.size + 1, 2, none⟩ = some (.float .f64 0) ∧ w1.cell? ⟨w.heap.size + 1, 3, none⟩ = some (.string ⟨#[]⟩) ∧ w1.cell? ⟨w.heap.size + 1 + 1, 0, none⟩ = some (.int .u8 k) ∧ w1.cell? ⟨w.heap.size + 1 + 1, 1, none⟩ = some (.int .i64 0) ∧ w1.cell? ⟨w.heap.size + 1 + 1, 2, none⟩ = some (.float .f64 0) ∧ w1.cell? ⟨w.heap.size + 1 + 1, 3, none⟩ = some (.string ⟨#[]⟩) ∧ w1.frozen? ⟨w.heap.size, 0, none⟩ = false ∧ w1.frozen? ⟨w.heap.size, 1, none⟩ = false ∧ w1.frozen? ⟨w.heap.size, 2, none⟩ = false ∧ w1.frozen? ⟨w.heap.size, 3, none⟩ = false ∧ w1.frozen? ⟨w.heap.size + 1 + 1, 0, none⟩ = false ∧ w1.frozen? ⟨w.heap.size + 1 + 1, 1, none⟩ = false ∧ w1.frozen? ⟨w.heap.size + 1 + 1, 2, none⟩ = false ∧ w1.frozen? ⟨w.heap.size + 1 + 1, 3, none⟩ = false := by
  refine ⟨?_, ?_, ?_, ?_, ?_, ?_, ?_, ?_, ?_, ?_, ?_, ?_, ?_, ?_, ?_, ?_, ?_, ?_, ?_, ?_⟩
  · rw [hb.cell (p := ⟨w.heap.size, 0, none⟩) (by simp only [World.size_alloc]; omega)]; simp [go_sem]
  · rw [hb.cell (p := ⟨w.heap.size, 1, none⟩) (by simp only [World.size_alloc]; omega)]; simp [go_sem]
  · rw [hb.cell (p := ⟨w.heap.size, 2, none⟩) (by simp only [World.size_alloc]; omega)]; simp [go_sem]
  · rw [hb.cell (p := ⟨w.heap.size, 3, none⟩) (by simp only [World.size_alloc]; omega)]; simp [go_sem]
  · rw [hb.cell (p := ⟨w.heap.size + 1, 0, none⟩) (by simp only [World.size_alloc]; omega)]; simp [go_sem]
  · rw [hb.cell (p := ⟨w.heap.size + 1, 1, none⟩) (by simp only [World.size_alloc]; omega)]; simp [go_sem]
  · rw [hb.cell (p := ⟨w.heap.size + 1, 2, none⟩) (by simp only [World.size_alloc]; omega)]; simp [go_sem]
  · rw [hb.cell (p := ⟨w.heap.size + 1, 3, none⟩) (by simp only [World.size_alloc]; omega)]; simp [go_sem]
  · rw [hb.cell (p := ⟨w.heap.size + 1 + 1, 0, none⟩) (by simp only [World.size_alloc]; omega)]; simp [go_sem]
  · rw [hb.cell (p := ⟨w.heap.size + 1 + 1, 1, none⟩) (by simp only [World.size_alloc]; omega)]; simp [go_sem]
  · rw [hb.cell (p := ⟨w.heap.size + 1 + 1, 2, none⟩) (by simp only [World.size_alloc]; omega)]; simp [go_sem]
  · rw [hb.cell (p := ⟨w.heap.size + 1 + 1, 3, none⟩) (by simp only [World.size_alloc]; omega)]; simp [go_sem]
  · rw [hb.frozen (p := ⟨w.heap.size, 0, none⟩) (by simp only [World.size_alloc]; omega)]; simp [go_sem]
  · rw [hb.frozen (p := ⟨w.heap.size, 1, none⟩) (by simp only [World.size_alloc]; omega)]; simp [go_sem]
  · rw [hb.frozen (p := ⟨w.heap.size, 2, none⟩) (by simp only [World.size_alloc]; omega)]; simp [go_sem]
  · rw [hb.frozen (p := ⟨w.heap.size, 3, none⟩) (by simp only [World.size_alloc]; omega)]; simp [go_sem]
  · rw [hb.frozen (p := ⟨w.heap.size + 1 + 1, 0, none⟩) (by simp only [World.size_alloc]; omega)]; simp [go_sem]
  · rw [hb.frozen (p := ⟨w.heap.size + 1 + 1, 1, none⟩) (by simp only [World.size_alloc]; omega)]; simp [go_sem]
  · rw [hb.frozen (p := ⟨w.heap.size + 1 + 1, 2, none⟩) (by simp only [World.size_alloc]; omega)]; simp [go_sem]
  · rw [hb.frozen (p := ⟨w.heap.size + 1 + 1, 3, none⟩) (by simp only [World.size_alloc]; omega)]; simp [go_sem]

set_option maxHeartbeats 1000000 in
theorem rvget_out (a : Option Addr) (len cap : Nat) (p : Int) (w : World) (h : p < 0 ∨ (len : Int) ≤ p) :
    Calls Try.prog 36 #[.slice a len cap, .int .i64 p] w fun e w' => e = .returned (got3 v0 0 3) ∧ Below w.heap.size w w' := by
  have sf := run_store_float
  by_cases c : p < 0
  · clear h
    go_enter Try.func36, Try.ntmps36
    go_wp2
    refine bodyPost_ret (v := got3 v0 0 3) ?_ rfl ⟨rfl, ((Below.refl w.heap.size w).alloc (Nat.le_refl _) _).alloc (by simp) _⟩
    simp [results, Try.results36, go_sem]
  · have h2 : (len : Int) ≤ p := by omega
    clear h
    go_enter Try.func36, Try.ntmps36
    go_wp2
    refine bodyPost_ret (v := got3 v0 0 3) ?_ rfl ⟨rfl, ((Below.refl w.heap.size w).alloc (Nat.le_refl _) _).alloc (by simp) _⟩
    simp [results, Try.results36, go_sem]

set_option maxHeartbeats 1000000 in
set_option maxRecDepth 100000 in
theorem rvget_0 (b off len cap q : Nat) (w : World) (hq : q < len) (hm : len ≤ 100000)
    (hcell : w.cell? ⟨b, off + q, none⟩ = some (.int .u8 0)) :
    Calls Try.prog 36 #[.slice (some ⟨b, off, none⟩) len cap, .int .i64 (q : Int)] w fun e w' => e = .returned (got3 (vl 0 0 0 ⟨#[]⟩) ((q : Int) + 1) 0) ∧ Below w.heap.size w w' := by
  have hb := World.block_lt_of_cell? _ _ hcell
  have sf := run_store_float
  have tq : decide ((q : Int) < 0) = false := by simp
  go_enter Try.func36, Try.ntmps36
  go_wp2
  refine bodyPost_ret (v := got3 (vl 0 0 0 ⟨#[]⟩) ((q : Int) + 1) 0) ?_ rfl ⟨rfl, (((Below.refl w.heap.size w).alloc (Nat.le_refl _) _).alloc (by simp) _).alloc (by simp; omega) _⟩
  simp [results, Try.results36, go_sem]

set_option maxHeartbeats 1000000 in
set_option maxRecDepth 100000 in
theorem rvget_x (b off len cap q : Nat) (k : Int) (w : World) (hq : q < len) (_hm : len ≤ 100000)
    (hcell : w.cell? ⟨b, off + q, none⟩ = some (.int .u8 k)) (h0 : (k == 0) = false) (h1 : (k == 1) = false) (h2 : (k == 2) = false) (h3 : (k == 3) = false) :
    Calls Try.prog 36 #[.slice (some ⟨b, off, none⟩) len cap, .int .i64 (q : Int)] w fun e w' => e = .returned (got3 v0 0 11) ∧ Below w.heap.size w w' := by
  have hb := World.block_lt_of_cell? _ _ hcell
  have sf := run_store_float
  have tq : decide ((q : Int) < 0) = false := by simp
  go_enter Try.func36, Try.ntmps36
  go_wp2
  refine bodyPost_ret (v := got3 (v0) 0 11) ?_ rfl ⟨rfl, (((Below.refl w.heap.size w).alloc (Nat.le_refl _) _).alloc (by simp) _).alloc (by simp; omega) _⟩
  simp [results, Try.results36, go_sem]

set_option maxHeartbeats 1000000 in
set_option maxRecDepth 100000 in
theorem rvget_1 (b off len cap q : Nat) (n : Int) (K : Int) (w : World) (hq : q < len) (hm : len ≤ 100000)
    (hcell : w.cell? ⟨b, off + q, none⟩ = some (.int .u8 1))
    (G : Hid (∀ w1, Below w.heap.size w w1 → Calls Try.prog 58 #[.slice (some ⟨b, off, none⟩) len cap, .int .i64 ((q : Int) + 1)] w1 fun e w' => e = .returned (.tuple #[.int .i64 n, .int .i64 K, .int .i64 0]) ∧ w1 = w')) :
    Calls Try.prog 36 #[.slice (some ⟨b, off, none⟩) len cap, .int .i64 (q : Int)] w fun e w' => e = .returned (got3 (vl 1 n 0 ⟨#[]⟩) K 0) ∧ Below w.heap.size w w' := by
  have hb := World.block_lt_of_cell? _ _ hcell
  have sf := run_store_float
  have tq : decide ((q : Int) < 0) = false := by simp
  go_enter Try.func36, Try.ntmps36
  go_wp2_with fail
  refine (G.out _ ((((Below.refl w.heap.size w).alloc (Nat.le_refl _) _).alloc (by simp) _).alloc (by simp; omega) _)).mono ?_
  rintro e w1 ⟨rfl, rfl⟩
  go_wp2
  refine bodyPost_ret (v := got3 (vl 1 n 0 ⟨#[]⟩) K 0) ?_ rfl ⟨rfl, (((Below.refl w.heap.size w).alloc (Nat.le_refl _) _).alloc (by simp) _).alloc (by simp; omega) _⟩
  simp [results, Try.results36, go_sem]

set_option maxHeartbeats 1000000 in
set_option maxRecDepth 100000 in
theorem rvget_1e (b off len cap q : Nat) (n : Int) (K : Int) (E : Nat) (w : World) (hq : q < len) (hm : len ≤ 100000)
    (hcell : w.cell? ⟨b, off + q, none⟩ = some (.int .u8 1))
    (G : Hid (∀ w1, Below w.heap.size w w1 → Calls Try.prog 58 #[.slice (some ⟨b, off, none⟩) len cap, .int .i64 ((q : Int) + 1)] w1 fun e w' => e = .returned (.tuple #[.int .i64 n, .int .i64 K, .int .i64 (E : Int)]) ∧ w1 = w')) (hE : ((E : Int) != 0) = true) :
    Calls Try.prog 36 #[.slice (some ⟨b, off, none⟩) len cap, .int .i64 (q : Int)] w fun e w' => e = .returned (got3 v0 0 (E : Int)) ∧ Below w.heap.size w w' := by
  have hb := World.block_lt_of_cell? _ _ hcell
  have sf := run_store_float
  have tq : decide ((q : Int) < 0) = false := by simp
  go_enter Try.func36, Try.ntmps36
  go_wp2_with fail
  refine (G.out _ ((((Below.refl w.heap.size w).alloc (Nat.le_refl _) _).alloc (by simp) _).alloc (by simp; omega) _)).mono ?_
  rintro e w1 ⟨rfl, rfl⟩
  go_wp2
  refine bodyPost_ret (v := got3 (v0) 0 (E : Int)) ?_ rfl ⟨rfl, (((Below.refl w.heap.size w).alloc (Nat.le_refl _) _).alloc (by simp) _).alloc (by simp; omega) _⟩
  simp [results, Try.results36, go_sem]

set_option maxHeartbeats 1000000 in
set_option maxRecDepth 100000 in
theorem rvget_2 (b off len cap q : Nat) (r : Nat) (K : Int) (w : World) (hq : q < len) (hm : len ≤ 100000)
    (hcell : w.cell? ⟨b, off + q, none⟩ = some (.int .u8 2))
    (G : Hid (∀ w1, Below w.heap.size w w1 → Calls Try.prog 59 #[.slice (some ⟨b, off, none⟩) len cap, .int .i64 ((q : Int) + 1)] w1 fun e w' => e = .returned (.tuple #[.float .f64 r, .int .i64 K, .int .i64 0]) ∧ Below w1.heap.size w1 w')) :
    Calls Try.prog 36 #[.slice (some ⟨b, off, none⟩) len cap, .int .i64 (q : Int)] w fun e w' => e = .returned (got3 (vl 2 0 r ⟨#[]⟩) K 0) ∧ Below w.heap.size w w' := by
  have hb := World.block_lt_of_cell? _ _ hcell
  have sf := run_store_float
  have tq : decide ((q : Int) < 0) = false := by simp
  go_enter Try.func36, Try.ntmps36
  go_wp2_with fail
  refine (G.out _ ((((Below.refl w.heap.size w).alloc (Nat.le_refl _) _).alloc (by simp) _).alloc (by simp; omega) _)).mono ?_
  rintro e w1 ⟨rfl, hbl⟩
  have B1 : Below w.heap.size w w1 := ((((Below.refl w.heap.size w).alloc (Nat.le_refl _) _).alloc (by simp) _).alloc (by simp; omega) _).trans (hbl.mono (by simp; omega))
  obtain ⟨c0, c1, c2, c3, c4, c5, c6, c7, c8, c9, c10, c11, f0, f1, f2, f3, f4, f5, f6, f7⟩ := box3 w w1 2 hbl
  clear hbl
  go_wp2
  refine bodyPost_ret (v := got3 (vl 2 0 r ⟨#[]⟩) K 0) ?_ rfl ⟨rfl, ?_⟩
  · simp [results, Try.results36, go_sem, *]
  · go_grown

set_option maxHeartbeats 1000000 in
set_option maxRecDepth 100000 in
theorem rvget_2e (b off len cap q : Nat) (r : Nat) (K : Int) (E : Nat) (w : World) (hq : q < len) (hm : len ≤ 100000)
    (hcell : w.cell? ⟨b, off + q, none⟩ = some (.int .u8 2))
    (G : Hid (∀ w1, Below w.heap.size w w1 → Calls Try.prog 59 #[.slice (some ⟨b, off, none⟩) len cap, .int .i64 ((q : Int) + 1)] w1 fun e w' => e = .returned (.tuple #[.float .f64 r, .int .i64 K, .int .i64 (E : Int)]) ∧ Below w1.heap.size w1 w')) (hE : ((E : Int) != 0) = true) :
    Calls Try.prog 36 #[.slice (some ⟨b, off, none⟩) len cap, .int .i64 (q : Int)] w fun e w' => e = .returned (got3 v0 0 (E : Int)) ∧ Below w.heap.size w w' := by
  have hb := World.block_lt_of_cell? _ _ hcell
  have sf := run_store_float
  have tq : decide ((q : Int) < 0) = false := by simp
  go_enter Try.func36, Try.ntmps36
  go_wp2_with fail
  refine (G.out _ ((((Below.refl w.heap.size w).alloc (Nat.le_refl _) _).alloc (by simp) _).alloc (by simp; omega) _)).mono ?_
  rintro e w1 ⟨rfl, hbl⟩
  have B1 : Below w.heap.size w w1 := ((((Below.refl w.heap.size w).alloc (Nat.le_refl _) _).alloc (by simp) _).alloc (by simp; omega) _).trans (hbl.mono (by simp; omega))
  obtain ⟨c0, c1, c2, c3, c4, c5, c6, c7, c8, c9, c10, c11, f0, f1, f2, f3, f4, f5, f6, f7⟩ := box3 w w1 2 hbl
  clear hbl
  go_wp2
  refine bodyPost_ret (v := got3 (v0) 0 (E : Int)) ?_ rfl ⟨rfl, ?_⟩
  · simp [results, Try.results36, go_sem, *]
  · go_grown

set_option maxHeartbeats 1000000 in
set_option maxRecDepth 100000 in
theorem rvget_3 (b off len cap q : Nat) (s : ByteArray) (K : Int) (w : World) (hq : q < len) (hm : len ≤ 100000)
    (hcell : w.cell? ⟨b, off + q, none⟩ = some (.int .u8 3))
    (G : Hid (∀ w1, Below w.heap.size w w1 → Calls Try.prog 60 #[.slice (some ⟨b, off, none⟩) len cap, .int .i64 ((q : Int) + 1), .int .i64 255] w1 fun e w' => e = .returned (.tuple #[.string s, .int .i64 K, .int .i64 0]) ∧ w1 = w')) :
    Calls Try.prog 36 #[.slice (some ⟨b, off, none⟩) len cap, .int .i64 (q : Int)] w fun e w' => e = .returned (got3 (vl 3 0 0 s) K 0) ∧ Below w.heap.size w w' := by
  have hb := World.block_lt_of_cell? _ _ hcell
  have sf := run_store_float
  have tq : decide ((q : Int) < 0) = false := by simp
  go_enter Try.func36, Try.ntmps36
  go_wp2_with fail
  refine (G.out _ ((((Below.refl w.heap.size w).alloc (Nat.le_refl _) _).alloc (by simp) _).alloc (by simp; omega) _)).mono ?_
  rintro e w1 ⟨rfl, rfl⟩
  go_wp2
  refine bodyPost_ret (v := got3 (vl 3 0 0 s) K 0) ?_ rfl ⟨rfl, (((Below.refl w.heap.size w).alloc (Nat.le_refl _) _).alloc (by simp) _).alloc (by simp; omega) _⟩
  simp [results, Try.results36, go_sem]

set_option maxHeartbeats 1000000 in
set_option maxRecDepth 100000 in
theorem rvget_3e (b off len cap q : Nat) (s : ByteArray) (K : Int) (E : Nat) (w : World) (hq : q < len) (hm : len ≤ 100000)
    (hcell : w.cell? ⟨b, off + q, none⟩ = some (.int .u8 3))
    (G : Hid (∀ w1, Below w.heap.size w w1 → Calls Try.prog 60 #[.slice (some ⟨b, off, none⟩) len cap, .int .i64 ((q : Int) + 1), .int .i64 255] w1 fun e w' => e = .returned (.tuple #[.string s, .int .i64 K, .int .i64 (E : Int)]) ∧ w1 = w')) (hE : ((E : Int) != 0) = true) :
    Calls Try.prog 36 #[.slice (some ⟨b, off, none⟩) len cap, .int .i64 (q : Int)] w fun e w' => e = .returned (got3 v0 0 (E : Int)) ∧ Below w.heap.size w w' := by
  have hb := World.block_lt_of_cell? _ _ hcell
  have sf := run_store_float
  have tq : decide ((q : Int) < 0) = false := by simp
  go_enter Try.func36, Try.ntmps36
  go_wp2_with fail
  refine (G.out _ ((((Below.refl w.heap.size w).alloc (Nat.le_refl _) _).alloc (by simp) _).alloc (by simp; omega) _)).mono ?_
  rintro e w1 ⟨rfl, rfl⟩
  go_wp2
  refine bodyPost_ret (v := got3 (v0) 0 (E : Int)) ?_ rfl ⟨rfl, (((Below.refl w.heap.size w).alloc (Nat.le_refl _) _).alloc (by simp) _).alloc (by simp; omega) _⟩
  simp [results, Try.results36, go_sem]
end Go.Proofs.Ytjpdnojkgadklaa
