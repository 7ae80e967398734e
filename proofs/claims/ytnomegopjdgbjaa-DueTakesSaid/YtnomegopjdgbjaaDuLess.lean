/- The heap's Len and Less. -/
import Derived.Test.YtnomegopjdgbjaaDuMem
import Derived.Handy
import Derived.BigRegion
import Derived.RegionTactic
import Derived.ChangeAlike
import Derived.BigQuiet
import Derived.Deep.QuietTactic
namespace Go.Proofs.Ytnomegopjdgbjaa
open Go Go.RowKit
set_option maxRecDepth 20000

theorem klen0 (w : World) (d n c : Nat) (A : Option Addr) (c0 : w.cell? ⟨d, 0, none⟩ = some (.slice A n c)) :
    Calls Try.prog 22 #[.pointer (some ⟨d, 0, none⟩)] w fun e w' => e = .returned (.int .i64 (n : Int)) ∧ w' = w := by
  go_enter Try.func22, Try.ntmps22
  go_wp2
  go_ret
  exact ⟨rfl, rfl⟩
set_option maxHeartbeats 2000000 in
theorem less_a (w : World) (d n c b i j : Nat) (ki ai kj aj : Nat) (hd : d < w.heap.size) (hb : b < w.heap.size) (hi : (i : Int) < (n : Int)) (hj : (j : Int) < (n : Int)) (c0 : w.cell? ⟨d, 0, none⟩ = some (.slice (some ⟨b, 0, none⟩) n c))
    (ci : w.cell? ⟨b, i * 2, none⟩ = some (.int .u64 (ki : Int))) (di : w.cell? ⟨b, i * 2 + 1, none⟩ = some (.int .u64 (ai : Int)))
    (cj : w.cell? ⟨b, j * 2, none⟩ = some (.int .u64 (kj : Int))) (dj : w.cell? ⟨b, j * 2 + 1, none⟩ = some (.int .u64 (aj : Int))) (h : ai < aj) :
    Calls Try.prog 45 #[.pointer (some ⟨d, 0, none⟩), .int .i64 (i : Int), .int .i64 (j : Int)] w fun e w' => e = .returned (.bool true) ∧ Below w.heap.size w w' := by
  have hi0 : (0 : Int) ≤ (i : Int) := by omega
  have hj0 : (0 : Int) ≤ (j : Int) := by omega
  go_enter Try.func45, Try.ntmps45
  go_wp2
  go_region
  all_goals go_wp2
  all_goals go_ret
  all_goals exact ⟨rfl, by go_grown⟩
set_option maxHeartbeats 2000000 in
theorem less_b (w : World) (d n c b i j : Nat) (ki ai kj aj : Nat) (hd : d < w.heap.size) (hb : b < w.heap.size) (hi : (i : Int) < (n : Int)) (hj : (j : Int) < (n : Int)) (c0 : w.cell? ⟨d, 0, none⟩ = some (.slice (some ⟨b, 0, none⟩) n c))
    (ci : w.cell? ⟨b, i * 2, none⟩ = some (.int .u64 (ki : Int))) (di : w.cell? ⟨b, i * 2 + 1, none⟩ = some (.int .u64 (ai : Int)))
    (cj : w.cell? ⟨b, j * 2, none⟩ = some (.int .u64 (kj : Int))) (dj : w.cell? ⟨b, j * 2 + 1, none⟩ = some (.int .u64 (aj : Int))) (h : decide (ai < aj) = false) (h2 : ai = aj) :
    Calls Try.prog 45 #[.pointer (some ⟨d, 0, none⟩), .int .i64 (i : Int), .int .i64 (j : Int)] w fun e w' => e = .returned (.bool (decide (ki < kj))) ∧ Below w.heap.size w w' := by
  have hi0 : (0 : Int) ≤ (i : Int) := by omega
  have hj0 : (0 : Int) ≤ (j : Int) := by omega
  subst h2
  go_enter Try.func45, Try.ntmps45
  go_wp2
  go_region
  all_goals go_wp2
  all_goals go_ret
  all_goals exact ⟨rfl, by go_grown⟩
set_option maxHeartbeats 2000000 in
theorem less_c (w : World) (d n c b i j : Nat) (ki ai kj aj : Nat) (hd : d < w.heap.size) (hb : b < w.heap.size) (hi : (i : Int) < (n : Int)) (hj : (j : Int) < (n : Int)) (c0 : w.cell? ⟨d, 0, none⟩ = some (.slice (some ⟨b, 0, none⟩) n c))
    (ci : w.cell? ⟨b, i * 2, none⟩ = some (.int .u64 (ki : Int))) (di : w.cell? ⟨b, i * 2 + 1, none⟩ = some (.int .u64 (ai : Int)))
    (cj : w.cell? ⟨b, j * 2, none⟩ = some (.int .u64 (kj : Int))) (dj : w.cell? ⟨b, j * 2 + 1, none⟩ = some (.int .u64 (aj : Int))) (h : decide (ai < aj) = false) (h2 : ¬ ((ai : Int) = (aj : Int))) :
    Calls Try.prog 45 #[.pointer (some ⟨d, 0, none⟩), .int .i64 (i : Int), .int .i64 (j : Int)] w fun e w' => e = .returned (.bool false) ∧ Below w.heap.size w w' := by
  have hi0 : (0 : Int) ≤ (i : Int) := by omega
  have hj0 : (0 : Int) ≤ (j : Int) := by omega
  go_enter Try.func45, Try.ntmps45
  go_wp2
  go_region
  all_goals go_wp2
  all_goals go_ret
  all_goals exact ⟨rfl, by go_grown⟩
theorem less_any {w : World} {d m : Nat} {v : Value} {L : List E} {N : Nat} {M : Nat → Option Nat} (h : Du w d m v L N M) (i j : Nat) (hi : i < L.length) (hj : j < L.length) :
    Calls Try.prog 45 #[.pointer (some ⟨d, 0, none⟩), .int .i64 (i : Int), .int .i64 (j : Int)] w fun e w' => e = .returned (.bool (lt (g L i) (g L j))) ∧ Below w.heap.size w w' := by
  obtain ⟨A, c, rfl, hp, _⟩ := h.row.form
  obtain ⟨b, off, e, ci, di⟩ := hp i hi
  obtain ⟨b', off', e', cj, dj⟩ := hp j hj
  rw [e] at e'
  injection e' with e'
  injection e' with e1 e2
  subst e1 e2 e
  obtain ⟨b0, _, _, e0, _⟩ := h.row.block (by omega)
  injection e0 with e0
  injection e0 with e0
  injection e0 with _ e0
  subst e0
  simp only [Nat.zero_add] at ci di cj dj
  have hd := h.lt d (.inl rfl)
  have hb := (h.row.lt b rfl).2
  have c0 := h.c0
  have hi' : (i : Int) < (L.length : Int) := by omega
  have hj' : (j : Int) < (L.length : Int) := by omega
  by_cases t1 : (g L i).2 < (g L j).2
  · have r : lt (g L i) (g L j) = true := by simp [lt, t1]
    rw [r]
    exact less_a w d L.length c b i j _ _ _ _ hd hb hi' hj' c0 ci di cj dj t1
  · by_cases t2 : (g L i).2 = (g L j).2
    · have r : lt (g L i) (g L j) = decide ((g L i).1 < (g L j).1) := by simp [lt, t2]
      rw [r]
      exact less_b w d L.length c b i j _ _ _ _ hd hb hi' hj' c0 ci di cj dj (by simpa using t1) t2
    · have r : lt (g L i) (g L j) = false := by simp [lt, t1, t2]
      rw [r]
      exact less_c w d L.length c b i j _ _ _ _ hd hb hi' hj' c0 ci di cj dj (by simpa using t1) (by omega)
theorem klen_any {w : World} {d m : Nat} {v : Value} {L : List E} {N : Nat} {M : Nat → Option Nat} (h : Du w d m v L N M) :
    Calls Try.prog 22 #[.pointer (some ⟨d, 0, none⟩)] w fun e w' => e = .returned (.int .i64 (L.length : Int)) ∧ w' = w := by
  obtain ⟨A, c, rfl, _, _⟩ := h.row.form
  exact klen0 w d L.length c A h.c0
end Go.Proofs.Ytnomegopjdgbjaa
