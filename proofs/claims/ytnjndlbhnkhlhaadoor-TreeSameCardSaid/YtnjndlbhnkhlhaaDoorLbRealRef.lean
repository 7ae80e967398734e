/- The document's parts of a number, and their bits. -/
import Derived.Test.YtnjndlbhnkhlhaaDoorLbReal
namespace Go.Proofs.YtnjndlbhnkhlhaaDoor
open Go Go.RowKit Rl
set_option maxRecDepth 20000

abbrev pt (s : Bool) (E F : Nat) : Value := .agg #[.bool s, .int .i64 (E : Int), .int .u64 (F : Int)]
def ex (b : Nat) : Nat := b / 4503599627370496 % 2048
def fr (b : Nat) : Nat := b % 4503599627370496
theorem ex_lt (b : Nat) : ex b < 2048 := Nat.mod_lt _ (by omega)
theorem fr_lt (b : Nat) : fr b < 4503599627370496 := Nat.mod_lt _ (by omega)
theorem ef (b : Nat) : ex b * 4503599627370496 + fr b = b % 9223372036854775808 := by unfold ex fr; omega
set_option maxHeartbeats 400000 in
theorem ofBits_any (b : Nat) (h : b < 18446744073709551616) (w : World) :
    Calls Tryd.prog 65 #[.int .u64 (b : Int)] w fun e w' => e = .returned (pt (neg b) (ex b) (fr b)) ∧ Below w.heap.size w w' := by
  have hd : decide ((9223372036854775808 : Int) ≤ (b : Int)) = neg b := by unfold neg; rw [Bool.eq_iff_iff]; simp; omega
  have he : (b : Int) / 4503599627370496 % 2048 = (ex b : Int) := by unfold ex; omega
  have hf : (b : Int) % 4503599627370496 = (fr b : Int) := by unfold fr; omega
  have e1 := ex_lt b
  have f1 := fr_lt b
  generalize neg b = s at hd
  generalize ex b = E at he e1
  generalize fr b = F at hf f1
  go_enter Tryd.func65, Tryd.ntmps65
  go_wp2
  exact bodyPost_ret (v := pt s E F) (by simp [results, Tryd.results65, go_sem]) rfl ⟨rfl, ((Below.refl _ _).alloc (Nat.le_refl _) _)⟩

/- parts that were boxed are there behind a call that only makes memory -/
theorem three (w w1 : World) (s : Bool) (E F : Nat) (hb : Below (w.alloc (.cells #[.bool s, .int .i64 (E : Int), .int .u64 (F : Int)] 97)).heap.size (w.alloc (.cells #[.bool s, .int .i64 (E : Int), .int .u64 (F : Int)] 97)) w1) :
    w1.cell? ⟨w.heap.size, 0, none⟩ = some (.bool s) ∧ w1.cell? ⟨w.heap.size, 1, none⟩ = some (.int .i64 (E : Int)) ∧ w1.cell? ⟨w.heap.size, 2, none⟩ = some (.int .u64 (F : Int)) := by
  refine ⟨?_, ?_, ?_⟩
  · rw [hb.cell (p := ⟨w.heap.size, 0, none⟩) (by simp)]; simp [go_sem]
  · rw [hb.cell (p := ⟨w.heap.size, 1, none⟩) (by simp)]; simp [go_sem]
  · rw [hb.cell (p := ⟨w.heap.size, 2, none⟩) (by simp)]; simp [go_sem]

/- a NaN, by its parts -/
def pn (E F : Nat) : Bool := decide (E = 2047 ∧ F ≠ 0)
set_option maxHeartbeats 400000 in
theorem pnan_any (s : Bool) (E F : Nat) (v : Bool) (hv : pn E F = v) (w : World) :
    Calls Tryd.prog 66 #[pt s E F] w fun e w' => e = .returned (.bool v) ∧ Below w.heap.size w w' := by
  unfold pn at hv
  by_cases c : E = 2047
  · subst c
    by_cases d : F = 0
    · subst d
      obtain rfl : v = false := by rw [← hv]; simp
      clear hv
      go_enter Tryd.func66, Tryd.ntmps66
      go_wp2
      go_ret
      exact ⟨rfl, ((Below.refl _ _).alloc (Nat.le_refl _) _)⟩
    · obtain rfl : v = true := by rw [← hv]; simp [d]
      clear hv
      have hd : ((F : Int) != 0) = true := by simp; omega
      go_enter Tryd.func66, Tryd.ntmps66
      go_wp2
      go_ret
      exact ⟨rfl, ((Below.refl _ _).alloc (Nat.le_refl _) _)⟩
  · obtain rfl : v = false := by rw [← hv]; simp [c]
    clear hv
    have hc : ((E : Int) == 2047) = false := by simp; omega
    go_enter Tryd.func66, Tryd.ntmps66
    go_wp2
    go_ret
    exact ⟨rfl, ((Below.refl _ _).alloc (Nat.le_refl _) _)⟩

def pb (s : Bool) (E F : Nat) : Nat := if pn E F = true then 9221120237041090560 else if s then E * 4503599627370496 + F + 9223372036854775808 else E * 4503599627370496 + F
set_option maxHeartbeats 400000 in
theorem pbits_any (s : Bool) (E F : Nat) (hE : E < 2048) (hF : F < 4503599627370496) (w : World) :
    Calls Tryd.prog 62 #[pt s E F] w fun e w' => e = .returned (.int .u64 (pb s E F : Int)) ∧ Below w.heap.size w w' := by
  have B0 := Lib.hid ((Below.refl w.heap.size w).alloc (Nat.le_refl _) (.cells #[.bool s, .int .i64 (E : Int), .int .u64 (F : Int)] 97))
  cases hn : pn E F
  · cases s
    · rw [show pb false E F = E * 4503599627370496 + F by unfold pb; rw [hn]; simp]
      go_enter Tryd.func62, Tryd.ntmps62
      go_wp2_with fail
      refine (pnan_any false E F false hn _).mono ?_
      rintro e w' ⟨rfl, hb⟩
      obtain ⟨c0, c1, c2⟩ := three _ _ _ _ _ hb
      have B1 := Lib.hid (B0.out.trans (hb.mono (by simp)))
      clear hb
      go_wp2
      go_ret
      exact ⟨ret_u64 (by omega), B1.out⟩
    · rw [show pb true E F = E * 4503599627370496 + F + 9223372036854775808 by unfold pb; rw [hn]; simp]
      go_enter Tryd.func62, Tryd.ntmps62
      go_wp2_with fail
      refine (pnan_any true E F false hn _).mono ?_
      rintro e w' ⟨rfl, hb⟩
      obtain ⟨c0, c1, c2⟩ := three _ _ _ _ _ hb
      have B1 := Lib.hid (B0.out.trans (hb.mono (by simp)))
      clear hb
      go_wp2
      go_ret
      exact ⟨ret_u64 (by omega), B1.out⟩
  · rw [show pb s E F = 9221120237041090560 by unfold pb; rw [hn]; simp]
    go_enter Tryd.func62, Tryd.ntmps62
    go_wp2_with fail
    refine (pnan_any s E F true hn _).mono ?_
    rintro e w' ⟨rfl, hb⟩
    go_wp2
    go_ret
    exact ⟨rfl, B0.out.trans (hb.mono (by simp))⟩

theorem pn_nan (b : Nat) : pn (ex b) (fr b) = nan b := by
  unfold pn ex fr nan
  rw [Bool.eq_iff_iff, decide_eq_true_iff, decide_eq_true_iff]
  omega

theorem pb_bt (b : Nat) (h : b < 18446744073709551616) : pb (neg b) (ex b) (fr b) = bt b := by
  have e := ef b
  have n := pn_nan b
  generalize ex b = E at e n
  generalize fr b = F at e n
  unfold pb bt
  rw [n]
  cases nan b
  · simp only [Bool.false_eq_true, if_false]
    unfold neg
    by_cases c : 9223372036854775808 ≤ b
    · simp only [c, decide_true, if_true]
      exact (congrArg (fun x => x + 9223372036854775808) e).trans (by clear e n; omega)
    · simp only [c, decide_false, Bool.false_eq_true, if_false]
      exact e.trans (by clear e n; omega)
  · rfl

/- the parts of a number, and their bits -/
set_option maxHeartbeats 400000 in
theorem of_any (b : Nat) (h : b < 18446744073709551616) (w : World) :
    Calls Tryd.prog 61 #[.float .f64 b] w fun e w' => e = .returned (pt (neg b) (ex b) (fr b)) ∧ Below w.heap.size w w' := by
  have H := Lib.hid (fun w => ofBits_any b h w)
  have r13 := run13 b
  generalize neg b = s at H
  generalize ex b = E at H
  generalize fr b = F at H
  have B0 := Lib.hid ((Below.refl w.heap.size w).alloc (Nat.le_refl _) (.cells #[.bool false, .int .i64 0, .int .u64 0] 97))
  go_enter Tryd.func61, Tryd.ntmps61
  go_wp2_with fail
  refine (H.out _).mono ?_
  rintro e w' ⟨rfl, hb⟩
  obtain ⟨c0, c1, c2⟩ := three w w' false 0 0 hb
  have f0 : w'.frozen? ⟨w.heap.size, 0, none⟩ = false := by rw [hb.frozen (p := ⟨w.heap.size, 0, none⟩) (by simp)]; simp [go_sem]
  have f1 : w'.frozen? ⟨w.heap.size, 1, none⟩ = false := by rw [hb.frozen (p := ⟨w.heap.size, 1, none⟩) (by simp)]; simp [go_sem]
  have f2 : w'.frozen? ⟨w.heap.size, 2, none⟩ = false := by rw [hb.frozen (p := ⟨w.heap.size, 2, none⟩) (by simp)]; simp [go_sem]
  have B1 := Lib.hid (B0.out.trans (hb.mono (by simp)))
  clear hb
  go_wp2
  refine bodyPost_ret (v := pt s E F) ?_ rfl ⟨rfl, ((B1.out.setCell (Nat.le_refl _) _).setCell (Nat.le_refl _) _).setCell (Nat.le_refl _) _⟩
  simp [results, Tryd.results61, go_sem, c0, c1, c2]
end Go.Proofs.YtnjndlbhnkhlhaaDoor
