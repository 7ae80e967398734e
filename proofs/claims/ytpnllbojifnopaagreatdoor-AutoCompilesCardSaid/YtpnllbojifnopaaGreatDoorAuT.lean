/- The places of a set that is told as bits. -/
import Derived.Test.YtpnllbojifnopaaGreatDoorAuB
import Derived.Lib.TrailingZeros
import Derived.Laws.BitsAllLaws
import Derived.ProofKit
import Derived.Handy
namespace Go.Proofs.YtpnllbojifnopaaGreatDoor
open Go Go.RowKit
set_option maxRecDepth 20000

def Tab5 (w : World) : Prop := ∀ j, j < 32 → w.cell? ⟨2, j, none⟩ = some (.int .u8 (Lib.deBruijn32tab.getD j 0 : Nat))
theorem Tab5.below {w w' : World} (h : Tab5 w) (hb : Below w.heap.size w w') : Tab5 w' := fun j hj => by
  have c := h j hj
  rw [hb.cell (World.block_lt_of_cell? _ _ c)]
  exact c
theorem Tab5.belowB {B : Nat} {w w' : World} (h : Tab5 w) (hb : Below B w w') (hB : 2 < B) : Tab5 w' := fun j hj => by
  have c := h j hj
  rw [hb.cell (p := ⟨2, j, none⟩) hB]
  exact c
/- the lowest place of a set -/
def lw (x : Nat) : Nat := Lib.ctz 32 x
theorem lw_split (x : Nat) (h0 : x ≠ 0) (h : x < 4294967296) : ∃ m, x = 2 ^ (lw x + 1) * m + 2 ^ lw x ∧ lw x < 32 := by
  obtain ⟨m, hm, hk⟩ := Lib.ctzFrom_spec 32 x (by omega) h
  have e : lw x = Lib.ctzFrom 32 x := by unfold lw Lib.ctz; rw [if_neg h0]
  refine ⟨m, ?_, by omega⟩
  rw [e]
  generalize Lib.ctzFrom 32 x = k at hm
  rw [hm, Nat.pow_succ, Nat.mul_add, Nat.mul_assoc, Nat.mul_one]
theorem tb_x (k m j : Nat) : (2 ^ (k + 1) * m + 2 ^ k).testBit j = if j < k + 1 then decide (k = j) else m.testBit (j - (k + 1)) := by
  rw [Nat.testBit_two_pow_mul_add m (by rw [Nat.pow_succ]; have := Nat.two_pow_pos k; omega), Nat.testBit_two_pow]
theorem tb_x1 (k m j : Nat) : (2 ^ (k + 1) * m + (2 ^ k - 1)).testBit j = if j < k + 1 then decide (j < k) else m.testBit (j - (k + 1)) := by
  rw [Nat.testBit_two_pow_mul_add m (by rw [Nat.pow_succ]; have := Nat.two_pow_pos k; omega), Nat.testBit_two_pow_sub_one]
theorem drop_low (x : Nat) (h0 : x ≠ 0) (h : x < 4294967296) (j : Nat) : (x &&& (x - 1)).testBit j = (decide (j ≠ lw x) && x.testBit j) := by
  obtain ⟨m, hm, hk⟩ := lw_split x h0 h
  generalize lw x = k at hm hk ⊢
  have e : x - 1 = 2 ^ (k + 1) * m + (2 ^ k - 1) := by have := Nat.two_pow_pos k; omega
  rw [Nat.testBit_and, e, hm, tb_x, tb_x1]
  by_cases c : j < k + 1
  · rw [if_pos c, if_pos c]
    by_cases d : k = j
    · subst d; simp
    · simp [d]
  · rw [if_neg c, if_neg c, Bool.and_self]
    rw [decide_eq_true (show j ≠ k by omega), Bool.true_and]
theorem below_low (x : Nat) (h0 : x ≠ 0) (h : x < 4294967296) (j : Nat) (hj : j < lw x) : x.testBit j = false := by
  obtain ⟨m, hm, hk⟩ := lw_split x h0 h
  generalize lw x = k at hm hk hj ⊢
  rw [hm, tb_x, if_pos (by omega), decide_eq_false (by omega)]
theorem at_low (x : Nat) (h0 : x ≠ 0) (h : x < 4294967296) : x.testBit (lw x) = true := by
  obtain ⟨m, hm, hk⟩ := lw_split x h0 h
  generalize lw x = k at hm hk ⊢
  rw [hm, tb_x, if_pos (by omega), decide_eq_true rfl]
/- the places of a set, rising -/
def btz (x : Nat) : List Nat := (List.range 32).filter fun i => x.testBit i
theorem filter_low (n : Nat) (p q : Nat → Bool) (k : Nat) (hk : k < n) (h1 : ∀ i, i < k → p i = false) (h2 : p k = true) (h3 : ∀ i, q i = (decide (i ≠ k) && p i)) : (List.range n).filter p = k :: (List.range n).filter q := by
  obtain ⟨d, rfl⟩ : ∃ d, n = k + (d + 1) := ⟨n - k - 1, by omega⟩
  rw [List.range_eq_range', ← List.range'_append_1 (s := 0) (m := k) (n := d + 1), Nat.zero_add, List.range'_succ, List.filter_append, List.filter_append, List.filter_cons, List.filter_cons, if_pos h2, h3 k]
  have e1 : (List.range' 0 k).filter p = [] := List.filter_eq_nil_iff.2 fun i hi => by
    have := (List.mem_range'_1.1 hi).2
    rw [h1 i (by omega)]; simp
  have e2 : (List.range' 0 k).filter q = [] := List.filter_eq_nil_iff.2 fun i hi => by
    have := (List.mem_range'_1.1 hi).2
    rw [h3, h1 i (by omega), Bool.and_false]; simp
  have e3 : (List.range' (k + 1) d).filter q = (List.range' (k + 1) d).filter p := List.filter_congr fun i hi => by
    have := (List.mem_range'_1.1 hi).1
    rw [h3, decide_eq_true (by omega), Bool.true_and]
  rw [e1, e2, e3]
  simp
theorem btz_cons (x : Nat) (h0 : x ≠ 0) (h : x < 4294967296) : btz x = lw x :: btz (x &&& (x - 1)) :=
  filter_low 32 _ _ (lw x) (lw_split x h0 h).choose_spec.2 (fun i hi => below_low x h0 h i hi) (at_low x h0 h) (fun i => drop_low x h0 h i)
theorem btz_zero : btz 0 = [] := by decide
theorem btz_len (x : Nat) : (btz x).length ≤ 32 := by unfold btz; exact Nat.le_trans (List.length_filter_le _ _) (by simp)
theorem low_lt (x : Nat) (h0 : x ≠ 0) : x &&& (x - 1) < x := Nat.lt_of_le_of_lt Nat.and_le_right (by omega)
theorem tz_key (x a : Nat) (hx : x < 4294967296) (hx0 : x ≠ 0) (hlow : x &&& (4294967296 - x) = a) :
    bits BinOp.and IntKind.u32 (x : Int) (-(x : Int) % 4294967296) * 125613361 % 4294967296 / 134217728 = ((a * 125613361 % 4294967296 / 134217728 : Nat) : Int) := by
  have e1 : -(x : Int) % 4294967296 = ((4294967296 - x : Nat) : Int) := by omega
  rw [e1, u32_and_nat x _ hx (by omega), hlow]
  omega
set_option maxHeartbeats 1000000 in
theorem tz_core (x k idx : Nat) (w : World) (hx0 : ((x : Int) == 0) = false)
    (key : bits BinOp.and IntKind.u32 (x : Int) (-(x : Int) % 4294967296) * 125613361 % 4294967296 / 134217728 = (idx : Int))
    (hi : idx < 32) (hk : k < 32) (hcell : w.cell? ⟨2, idx, none⟩ = some (.int .u8 (k : Int))) :
    Calls Tryz.prog 155 #[.int .u32 (x : Int)] w fun e w' => e = .returned (.int .i64 (k : Int)) ∧ w = w' := by
  have wrap_u32' : ∀ n : Int, IntKind.u32.wrap n = n % 4294967296 := fun n => by simp [IntKind.wrap, IntKind.signed, IntKind.bits]
  go_enter Tryz.func155, Tryz.ntmps155
  go_wp2_with (simp only [key])
  go_ret
  exact ⟨rfl, rfl⟩
theorem tz_any (x : Nat) (w : World) (h0 : x ≠ 0) (hx : x < 4294967296) (hT : Tab5 w) :
    Calls Tryz.prog 155 #[.int .u32 (x : Int)] w fun e w' => e = .returned (.int .i64 (lw x : Int)) ∧ w = w' := by
  obtain ⟨hlow, hk⟩ := Lib.lowest_bit 32 x h0 hx
  obtain ⟨hi, htab⟩ := Lib.deBruijn32_at _ hk
  have hcell := hT _ hi
  rw [htab] at hcell
  exact tz_core x _ _ w (by simp; omega) (tz_key x _ hx h0 hlow) hi hk hcell
end Go.Proofs.YtpnllbojifnopaaGreatDoor
