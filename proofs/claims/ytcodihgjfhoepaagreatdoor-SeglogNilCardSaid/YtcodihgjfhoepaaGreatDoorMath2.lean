/- Plain facts: bytes of which some in a row of four are other ones have another row, whatever stands ahead of them and behind. -/
import Derived.Test.YtcodihgjfhoepaaGreatDoorMath
namespace Go.Proofs.YtcodihgjfhoepaaGreatDoor.Crc

theorem bo_bit (x : Int) (hx : x.toNat < 256) (i : Nat) : (bo x).getLsbD i = (decide (i < 8) && x.toNat.testBit i) := by
  unfold bo
  rw [BitVec.getLsbD_ofNat]
  by_cases h : i < 8
  · have : i < 32 := by omega
    simp [h, this]
  · have : x.toNat.testBit i = false := Nat.testBit_lt_two_pow (Nat.lt_of_lt_of_le hx (by
      have : 2 ^ 8 ≤ 2 ^ i := Nat.pow_le_pow_right (by omega) (by omega)
      omega))
    simp [h, this]
theorem zero_of_bits (x : Int) (h0 : 0 ≤ x) (hx : x < 256) (h : ∀ i, i < 8 → (bo x).getLsbD i = false) : x = 0 := by
  have hz : x.toNat = 0 := by
    apply Nat.eq_of_testBit_eq
    intro i
    rw [Nat.zero_testBit]
    by_cases h8 : i < 8
    · have := h i h8
      rw [bo_bit x (by omega)] at this
      simpa [h8] using this
    · exact Nat.testBit_lt_two_pow (Nat.lt_of_lt_of_le (show x.toNat < 2 ^ 8 by omega) (Nat.pow_le_pow_right (by omega) (by omega)))
  omega
def dif (a b c d : Int) : BitVec 32 := bo a ^^^ (bo b <<< 8) ^^^ (bo c <<< 16) ^^^ (bo d <<< 24)
theorem dif_zero (a b c d : Int) (ha : 0 ≤ a ∧ a < 256) (hb : 0 ≤ b ∧ b < 256) (hc : 0 ≤ c ∧ c < 256) (hd : 0 ≤ d ∧ d < 256) (h : dif a b c d = 0#32) : a = 0 ∧ b = 0 ∧ c = 0 ∧ d = 0 := by
  have hbit : ∀ n, n < 32 → ((((bo a).getLsbD n ^^ (!decide (n < 8) && (bo b).getLsbD (n - 8))) ^^ (!decide (n < 16) && (bo c).getLsbD (n - 16))) ^^ (!decide (n < 24) && (bo d).getLsbD (n - 24))) = false := by
    intro n hn
    have : (dif a b c d).getLsbD n = false := by rw [h]; simp
    unfold dif at this
    rw [BitVec.getLsbD_xor, BitVec.getLsbD_xor, BitVec.getLsbD_xor, BitVec.getLsbD_shiftLeft, BitVec.getLsbD_shiftLeft, BitVec.getLsbD_shiftLeft] at this
    simpa only [hn, decide_true, Bool.true_and] using this
  refine ⟨zero_of_bits a ha.1 ha.2 fun i hi => ?_, zero_of_bits b hb.1 hb.2 fun i hi => ?_, zero_of_bits c hc.1 hc.2 fun i hi => ?_, zero_of_bits d hd.1 hd.2 fun i hi => ?_⟩
  · have := hbit i (by omega)
    simpa [show i < 8 by omega, show i < 16 by omega, show i < 24 by omega] using this
  · have := hbit (8 + i) (by omega)
    rw [bo_bit a (by omega)] at this
    simpa [show 8 + i < 16 by omega, show 8 + i < 24 by omega, show ¬ 8 + i < 8 by omega] using this
  · have := hbit (16 + i) (by omega)
    rw [bo_bit a (by omega), bo_bit b (by omega)] at this
    simpa [show 16 + i < 24 by omega, show ¬ 16 + i < 8 by omega, show ¬ 16 + i - 8 < 8 by omega] using this
  · have := hbit (24 + i) (by omega)
    rw [bo_bit a (by omega), bo_bit b (by omega), bo_bit c (by omega)] at this
    simpa [show ¬ 24 + i < 8 by omega, show ¬ 24 + i - 8 < 8 by omega, show ¬ 24 + i - 16 < 8 by omega] using this

theorem shl_xor (x y : BitVec 32) (n : Nat) : (x ^^^ y) <<< n = (x <<< n) ^^^ (y <<< n) := BitVec.shiftLeft_xor_distrib x y n
theorem four_xor (r : BitVec 32) (b0 b1 b2 b3 x0 x1 x2 x3 e0 e1 e2 e3 : Int)
    (g1 : b1.toNat < 256) (g2 : b2.toNat < 256) (g3 : b3.toNat < 256) (k1 : e1.toNat < 256) (k2 : e2.toNat < 256) (k3 : e3.toNat < 256)
    (h0 : bo e0 = bo b0 ^^^ bo x0) (h1 : bo e1 = bo b1 ^^^ bo x1) (h2 : bo e2 = bo b2 ^^^ bo x2) (h3 : bo e3 = bo b3 ^^^ bo x3) :
    row r [e0, e1, e2, e3] = stn 32 (dif x0 x1 x2 x3) ^^^ row r [b0, b1, b2, b3] := by
  rw [four r e0 e1 e2 e3 k1 k2 k3, four r b0 b1 b2 b3 g1 g2 g3, ← stn_xor]
  congr 1
  rw [h0, h1, h2, h3, shl_xor, shl_xor, shl_xor]
  unfold dif
  generalize bo b0 = B0
  generalize bo x0 = X0
  generalize bo b1 <<< 8 = B1
  generalize bo x1 <<< 8 = X1
  generalize bo b2 <<< 16 = B2
  generalize bo x2 <<< 16 = X2
  generalize bo b3 <<< 24 = B3
  generalize bo x3 <<< 24 = X3
  ac_rfl
theorem spoilt_row (r : BitVec 32) (p s : List Int) (b0 b1 b2 b3 x0 x1 x2 x3 e0 e1 e2 e3 : Int)
    (g1 : b1.toNat < 256) (g2 : b2.toNat < 256) (g3 : b3.toNat < 256) (k1 : e1.toNat < 256) (k2 : e2.toNat < 256) (k3 : e3.toNat < 256)
    (h0 : bo e0 = bo b0 ^^^ bo x0) (h1 : bo e1 = bo b1 ^^^ bo x1) (h2 : bo e2 = bo b2 ^^^ bo x2) (h3 : bo e3 = bo b3 ^^^ bo x3)
    (hx0 : 0 ≤ x0 ∧ x0 < 256) (hx1 : 0 ≤ x1 ∧ x1 < 256) (hx2 : 0 ≤ x2 ∧ x2 < 256) (hx3 : 0 ≤ x3 ∧ x3 < 256) (hne : ¬ (x0 = 0 ∧ x1 = 0 ∧ x2 = 0 ∧ x3 = 0)) :
    sum r (p ++ [e0, e1, e2, e3] ++ s) ≠ sum r (p ++ [b0, b1, b2, b3] ++ s) := by
  intro h
  unfold sum at h
  have h' := congrArg (· ^^^ 4294967295#32) h
  simp only [BitVec.xor_assoc, BitVec.xor_self, BitVec.xor_zero] at h'
  rw [row_append, row_append, row_append, row_append, four_xor _ b0 b1 b2 b3 x0 x1 x2 x3 e0 e1 e2 e3 g1 g2 g3 k1 k2 k3 h0 h1 h2 h3, row_xor] at h'
  have h2 := congrArg (· ^^^ row (row (row (r ^^^ 4294967295#32) p) [b0, b1, b2, b3]) s) h'
  simp only [BitVec.xor_assoc, BitVec.xor_self, BitVec.xor_zero] at h2
  exact hne (dif_zero _ _ _ _ hx0 hx1 hx2 hx3 (stn_ker _ _ (stn_ker _ _ h2)))
end Go.Proofs.YtcodihgjfhoepaaGreatDoor.Crc
