/- Contracts, joined: VlText, LbFloat2, LbAgainst, VlCmp. -/
import Derived.Test.YtpnllbojifnopaaGreatDoorMB
import Derived.Test.YtpnllbojifnopaaGreatDoorMA
import Derived.Test.YtpnllbojifnopaaGreatDoorMC
import Derived.ChangeKeysEq
/- Texts compared byte by byte: the contracts of cmp.Compare at strings and of the document's texts. -/
namespace Go.Proofs.YtpnllbojifnopaaGreatDoor
open Go Go.RowKit

def lx : List UInt8 → List UInt8 → Int
  | [], [] => 0
  | [], _ :: _ => -1
  | _ :: _, [] => 1
  | a :: x, b :: y => if a < b then -1 else if b < a then 1 else lx x y
theorem lx_less : ∀ x y : List UInt8, Op.bytesLess x y = decide (lx x y = -1)
  | [], [] => by simp [Op.bytesLess, lx]
  | [], _ :: _ => by simp [Op.bytesLess, lx]
  | _ :: _, [] => by simp [Op.bytesLess, lx]
  | a :: x, b :: y => by
    rw [Op.bytesLess, lx, lx_less x y]
    by_cases h : a < b
    · simp [h]
    · by_cases g : b < a
      · have : a ≠ b := fun e => by subst e; exact h g
        simp [h, g, this]
      · have : a = b := by
          apply UInt8.le_antisymm
          · exact UInt8.not_lt.1 g
          · exact UInt8.not_lt.1 h
        simp [this]
theorem lx_self : ∀ x : List UInt8, lx x x = 0
  | [] => rfl
  | a :: x => by rw [lx, if_neg (UInt8.lt_irrefl a), if_neg (UInt8.lt_irrefl a), lx_self x]
theorem lx_zero : ∀ x y : List UInt8, lx x y = 0 → x = y
  | [], [], _ => rfl
  | [], _ :: _, h => by simp [lx] at h
  | _ :: _, [], h => by simp [lx] at h
  | a :: x, b :: y, h => by
    rw [lx] at h
    by_cases h1 : a < b
    · rw [if_pos h1] at h; omega
    · by_cases h2 : b < a
      · rw [if_neg h1, if_pos h2] at h; omega
      · rw [if_neg h1, if_neg h2] at h
        rw [lx_zero x y h, UInt8.le_antisymm (UInt8.not_lt.1 h2) (UInt8.not_lt.1 h1)]
theorem lx_cases : ∀ x y : List UInt8, lx x y = -1 ∨ lx x y = 0 ∨ lx x y = 1
  | [], [] => by simp [lx]
  | [], _ :: _ => by simp [lx]
  | _ :: _, [] => by simp [lx]
  | a :: x, b :: y => by
    rw [lx]
    split
    · simp
    · split
      · simp
      · exact lx_cases x y
theorem lx_anti : ∀ x y : List UInt8, lx x y = -lx y x
  | [], [] => by simp [lx]
  | [], _ :: _ => by simp [lx]
  | _ :: _, [] => by simp [lx]
  | a :: x, b :: y => by
    rw [lx, lx]
    by_cases h1 : a < b
    · have h2 : ¬ b < a := fun h => UInt8.lt_irrefl a (UInt8.lt_trans h1 h)
      rw [if_pos h1, if_neg h2, if_pos h1]
    · by_cases h2 : b < a
      · rw [if_neg h1, if_pos h2, if_pos h2]; rfl
      · rw [if_neg h1, if_neg h2, if_neg h2, if_neg h1, lx_anti x y]
theorem lx_trans : ∀ x y z : List UInt8, lx x y ≤ 0 → lx y z ≤ 0 → lx x z ≤ 0 ∧ (lx x y < 0 → lx x z < 0) ∧ (lx y z < 0 → lx x z < 0)
  | [], [], [], _, _ => by simp [lx]
  | [], [], _ :: _, _, _ => by simp [lx]
  | [], _ :: _, [], _, h => by simp [lx] at h
  | [], _ :: _, _ :: _, _, _ => by simp [lx]
  | _ :: _, [], _, h, _ => by simp [lx] at h
  | _ :: _, _ :: _, [], _, h => by simp [lx] at h
  | a :: x, b :: y, c :: z, h, g => by
    rw [lx] at h g
    rw [lx, lx, lx]
    have ih := lx_trans x y z
    by_cases h1 : a < b
    · by_cases g1 : b < c
      · rw [if_pos (UInt8.lt_trans h1 g1)]; simp
      · rw [if_neg g1] at g
        by_cases g2 : c < b
        · rw [if_pos g2] at g; omega
        · have : b = c := UInt8.le_antisymm (UInt8.not_lt.1 g2) (UInt8.not_lt.1 g1)
          subst this
          rw [if_pos h1]; simp
    · rw [if_neg h1] at h ⊢
      by_cases h2 : b < a
      · rw [if_pos h2] at h; omega
      · rw [if_neg h2] at h
        have : a = b := UInt8.le_antisymm (UInt8.not_lt.1 h2) (UInt8.not_lt.1 h1)
        subst this
        rw [if_neg (UInt8.lt_irrefl a)]
        by_cases g1 : a < c
        · rw [if_pos g1]; simp
        · rw [if_neg g1] at g ⊢
          by_cases g2 : c < a
          · rw [if_pos g2] at g; omega
          · rw [if_neg g2] at g ⊢
            have := ih h g
            refine ⟨this.1, ?_, ?_⟩
            · exact this.2.1
            · rw [if_neg g1, if_neg g2]; exact this.2.2
theorem lx_eq (x y : List UInt8) : (x == y) = decide (lx x y = 0) := by
  rw [Bool.eq_iff_iff, beq_iff_eq, decide_eq_true_iff]
  exact ⟨fun e => by rw [e, lx_self], lx_zero x y⟩
theorem cmpS_any (s t : ByteArray) (w : World) :
    Calls Tryz.prog 171 #[.string s, .string t] w fun e w' => e = .returned (.int .i64 (lx s.toList t.toList)) ∧ w = w' := by
  have h1 := lx_less s.toList t.toList
  have h2 := lx_eq s.toList t.toList
  have hc := Lib.hid (lx_cases s.toList t.toList)
  generalize lx s.toList t.toList = x at h1 h2 hc
  by_cases c1 : x = -1
  · subst c1
    simp only [decide_true] at h1
    clear h2 hc
    go_enter Tryz.func171, Tryz.ntmps171
    go_wp2_with go_in
    go_ret
    exact ⟨rfl, rfl⟩
  · rw [decide_eq_false c1] at h1
    by_cases c2 : x = 1
    · subst c2
      rw [decide_eq_false (by omega)] at h2
      clear hc c1
      go_enter Tryz.func171, Tryz.ntmps171
      go_wp2_with go_in
      go_ret
      exact ⟨rfl, rfl⟩
    · obtain rfl : x = 0 := by have := hc.out; omega
      rw [decide_eq_true rfl] at h2
      clear hc c1 c2
      go_enter Tryz.func171, Tryz.ntmps171
      go_wp2_with go_in
      go_ret
      exact ⟨rfl, rfl⟩
theorem lx_at (s t : ByteArray) (i : Nat) (hs : i < s.size) (ht : i < t.size) :
    lx (s.toList.drop i) (t.toList.drop i) = if s[i] < t[i] then -1 else if t[i] < s[i] then 1 else lx (s.toList.drop (i + 1)) (t.toList.drop (i + 1)) := by
  rw [ByteArray.toList_eq, ByteArray.toList_eq, List.drop_eq_getElem_cons (show i < s.data.toList.length by rw [Array.length_toList]; exact hs), List.drop_eq_getElem_cons (show i < t.data.toList.length by rw [Array.length_toList]; exact ht), lx]
  rfl
theorem lx_end (s t : ByteArray) (i : Nat) (h : s.size ≤ i ∨ t.size ≤ i) (hs : i ≤ s.size) (ht : i ≤ t.size) : lx (s.toList.drop i) (t.toList.drop i) = c3 s.size t.size := by
  rw [ByteArray.toList_eq, ByteArray.toList_eq]
  have l1 : (s.data.toList.drop i).length = s.size - i := by rw [List.length_drop, Array.length_toList]; rfl
  have l2 : (t.data.toList.drop i).length = t.size - i := by rw [List.length_drop, Array.length_toList]; rfl
  generalize s.data.toList.drop i = x at l1
  generalize t.data.toList.drop i = y at l2
  unfold c3
  rcases x with _ | ⟨a, x⟩ <;> rcases y with _ | ⟨b, y⟩
  · rw [lx]; simp at l1 l2; rw [if_neg (by omega), if_neg (by omega)]
  · rw [lx]; simp at l1 l2; rw [if_pos (by omega)]
  · rw [lx]; simp at l1 l2; rw [if_neg (by omega), if_pos (by omega)]
  · simp at l1 l2; omega
theorem run_ix (s : ByteArray) (i p : Nat) (h : i < s.size) (hp : s[i].toNat = p) (w : World) : (Instr.index 9 (.string s) (.int .i64 (i : Int))).run Tryz.prog w = .ok (.int .u8 (p : Int)) w := by
  rw [run_index_string w 9 s .i64 (i : Int) Tryz.underlying9, dif_pos ⟨by omega, by omega⟩]
  subst hp
  rfl
set_option maxHeartbeats 1000000 in
theorem texts_any (s t : ByteArray) (w : World) (hs : s.size ≤ 1000000) (ht : t.size ≤ 1000000) :
    Calls Tryz.prog 147 #[.string s, .string t] w fun e w' => e = .returned (.int .i64 (lx s.toList t.toList)) ∧ Below w.heap.size w w' := by
  obtain ⟨x, hx⟩ : ∃ x, x = lx s.toList t.toList := ⟨_, rfl⟩
  rw [← hx]
  have HX := Lib.hid hx
  clear hx
  go_enter Tryz.func147, Tryz.ntmps147
  go_wp2
  go_loopw [5] (fun v W => ∃ i : Nat, v = .int .i64 i ∧ i ≤ s.size ∧ i ≤ t.size ∧ Hid (x = lx (s.toList.drop i) (t.toList.drop i) ∧ Below w.heap.size w W)) (fun v _ => s.size - (intOf v).toNat)
  case atStart => exact ⟨0, rfl, by omega, by omega, Lib.hid ⟨by simpa using HX.out, Below.refl _ _⟩⟩
  case round =>
    obtain ⟨i, rfl, h1, h2, H⟩ := hrel
    by_cases c : i < s.size ∧ i < t.size
    · obtain ⟨d1, d2⟩ := c
      obtain ⟨p, hp⟩ : ∃ p, s[i].toNat = p := ⟨_, rfl⟩
      obtain ⟨q, hq⟩ : ∃ q, t[i].toNat = q := ⟨_, rfl⟩
      have x1 := run_ix s i p d1 hp
      have x2 := run_ix t i q d2 hq
      obtain ⟨H1, H2⟩ := H.out
      rw [lx_at s t i d1 d2] at H1
      simp only [UInt8.lt_iff_toNat_lt, hp, hq] at H1
      have HB := Lib.hid H2
      clear H H2 hp hq
      by_cases c1 : p < q
      · rw [if_pos c1] at H1
        subst H1
        go_wp2
        go_region
        go_wp2
        go_ret
        exact ⟨rfl, HB.out.drew⟩
      · rw [if_neg c1] at H1
        by_cases c2 : q < p
        · rw [if_pos c2] at H1
          subst H1
          go_wp2
          go_region
          go_wp2
          go_region
          go_wp2
          go_ret
          exact ⟨rfl, HB.out.drew.drew⟩
        · rw [if_neg c2] at H1
          have HR := Lib.hid H1
          clear H1
          go_wp2
          go_region
          go_wp2
          go_region
          go_wp2
          go_round
          case rel => exact ⟨i + 1, by go_num, by omega, by omega, Lib.hid ⟨HR.out, HB.out.drew.drew⟩⟩
          case measure => simp [intOf]; omega
    · have HE := Lib.hid (H.out.1.trans (lx_end s t i (by omega) h1 h2))
      have HB := Lib.hid H.out.2
      clear H
      by_cases c1 : s.size < t.size
      · have e := HE.out
        rw [c3_lt (by omega)] at e
        subst e
        have d1 : decide (i < s.size) = false := by simp; omega
        clear HE
        go_wp2
        go_ret
        exact ⟨rfl, HB.out⟩
      · by_cases c2 : t.size < s.size
        · have e := HE.out
          rw [c3_gt (by omega)] at e
          subst e
          have d1 : decide (i < s.size) = true := by simp; omega
          have d2 : decide (i < t.size) = false := by simp; omega
          clear HE
          go_wp2
          go_ret
          exact ⟨rfl, HB.out⟩
        · have e := HE.out
          rw [show t.size = s.size by omega, c3_eq] at e
          subst e
          have d1 : decide (i < s.size) = false := by simp; omega
          clear HE
          go_wp2
          go_ret
          exact ⟨rfl, HB.out⟩
end Go.Proofs.YtpnllbojifnopaaGreatDoor

/- Plain facts on numbers with a point that moves: cutting them to whole ones, and the nearest one of a whole number. No program. -/
namespace Rl

/- a whole one in parts of 2^-1074 -/
def K : Nat := 1074
def Q : Nat := 2 ^ K
theorem Q_pos : 0 < Q := by unfold Q; exact Nat.two_pow_pos _
theorem Q_K : Q = 2 ^ K := by unfold Q; exact Eq.refl _

theorem log_lt (n : Nat) : n < 2 ^ (n.log2 + 2) := Nat.lt_trans Nat.lt_log2_self (Nat.pow_lt_pow_right (by omega) (by omega))
theorem cut_zero (s : Bool) (n d : Nat) : Ieee.Toward.zero.cut s n d = n / 2 ^ d := by
  unfold Ieee.Toward.cut
  simp only [Nat.shiftLeft_eq, Nat.one_mul, Bool.toNat_false, Nat.add_zero]
  by_cases h : d ≤ n.log2 + 2
  · rw [Nat.min_eq_left h]
  · rw [Nat.min_eq_right (by omega), Nat.div_eq_of_lt (log_lt n), Nat.div_eq_of_lt]
    exact Nat.lt_trans (log_lt n) (Nat.pow_lt_pow_right (by omega) (by omega))

theorem cut_scale (m k j : Nat) : (m * 2 ^ (k - j)) / 2 ^ (j - k) = m * 2 ^ k / 2 ^ j := by
  by_cases h : j ≤ k
  · rw [show j - k = 0 by omega, Nat.pow_zero, Nat.div_one]
    have e : m * 2 ^ k = m * 2 ^ (k - j) * 2 ^ j := by rw [Nat.mul_assoc, ← Nat.pow_add, Nat.sub_add_cancel h]
    rw [e, Nat.mul_div_cancel _ (Nat.two_pow_pos _)]
  · rw [show k - j = 0 by omega, Nat.pow_zero, Nat.mul_one]
    have e : 2 ^ j = 2 ^ (j - k) * 2 ^ k := by rw [← Nat.pow_add, Nat.sub_add_cancel (by omega)]
    rw [e, Nat.mul_div_mul_right _ _ (Nat.two_pow_pos _)]

/- cut to a whole number -/
def tv (b : Nat) : Int := if 9223372036854775808 ≤ b then -((M (b % 9223372036854775808) / Q : Nat) : Int) else ((M (b % 9223372036854775808) / Q : Nat) : Int)
theorem toInt_eq (w : Nat) (h : w < 18446744073709551616) (hr : w % 9223372036854775808 < 9218868437227405312) : (Ieee.double.read w).toInt .zero = some (tv w) := by
  obtain ⟨m, k, e, em⟩ := read_num w h hr
  rw [e]
  unfold Ieee.Datum.toInt Ieee.Datum.integral
  simp only [cut_zero, Nat.shiftLeft_eq, signed_eq, Nat.pow_zero, Nat.mul_one, Option.some.injEq]
  rw [show (-1074 + (k : Int)).toNat = k - K by unfold K; omega, show (-(-1074 + (k : Int))).toNat = K - k by unfold K; omega, cut_scale, em, ← Q_K]
  unfold neg tv
  by_cases a : 9223372036854775808 ≤ w <;> simp [a]

theorem M_63 : M 4890909195324358656 = 9223372036854775808 * Q := by decide +kernel
theorem M_53 : M 4845873199050653696 = 9007199254740992 * Q := by decide +kernel
theorem S_eq (b : Nat) : S b = if 9223372036854775808 ≤ b then -((M (b % 9223372036854775808) : Nat) : Int) else ((M (b % 9223372036854775808) : Nat) : Int) := rfl

/- ### the nearest one of a whole number -/
theorem M_norm (e x : Nat) (h1 : 4503599627370496 ≤ x) (h2 : x < 9007199254740992) : M (e * 4503599627370496 + x) = x * 2 ^ e := by
  unfold M
  rw [if_neg (by omega), show (e * 4503599627370496 + x) % 4503599627370496 = x - 4503599627370496 by omega, show (e * 4503599627370496 + x) / 4503599627370496 - 1 = e by omega, show 4503599627370496 + (x - 4503599627370496) = x by omega]
theorem cut_even_zero (s : Bool) (n : Nat) : Ieee.Toward.even.cut s n 0 = n := by
  unfold Ieee.Toward.cut
  simp [Nat.mod_one]
theorem log_ge (n : Nat) (h : 0 < n) : 2 ^ n.log2 ≤ n := Nat.log2_self_le (by omega)

theorem near_small (s : Bool) (m : Nat) (h : 0 < m) (hL : m.log2 ≤ 52) :
    ∃ r, Ieee.double.nearest s m 0 = Ieee.double.word s r ∧ M r = m * Q ∧ r < 9218868437227405312 := by
  have g1 := log_ge m h
  have g2 := Nat.lt_log2_self (n := m)
  have x1 : 4503599627370496 ≤ m * 2 ^ (52 - m.log2) := by
    have := Nat.mul_le_mul_right (2 ^ (52 - m.log2)) g1
    rw [← Nat.pow_add, show m.log2 + (52 - m.log2) = 52 by omega] at this
    exact this
  have x2 : m * 2 ^ (52 - m.log2) < 9007199254740992 := by
    have := Nat.mul_lt_mul_of_pos_right g2 (Nat.two_pow_pos (52 - m.log2))
    rw [← Nat.pow_add, show m.log2 + 1 + (52 - m.log2) = 53 by omega] at this
    exact this
  refine ⟨(m.log2 + 1022) * 4503599627370496 + m * 2 ^ (52 - m.log2), ?_, ?_, by omega⟩
  · unfold Ieee.Format.nearest
    rw [if_neg (by omega)]
    simp only [bi, ir, lp]
    have f : (Ieee.double.fractionBits : Int) = 52 := rfl
    have l : max (0 + (m.log2 : Int) - Ieee.double.fractionBits) (-1074) = (m.log2 : Int) - 52 := by rw [f]; omega
    rw [l, show (0 - ((m.log2 : Int) - 52)).toNat = 52 - m.log2 by omega, show ((m.log2 : Int) - 52 - 0).toNat = 0 by omega, cut_even_zero, Nat.shiftLeft_eq, show ((m.log2 : Int) - 52 - -1074).toNat = m.log2 + 1022 by omega, Nat.min_eq_left (by omega)]
  · rw [M_norm _ _ x1 x2, Nat.mul_assoc, ← Nat.pow_add, show 52 - m.log2 + (m.log2 + 1022) = K by unfold K; omega, ← Q_K]

theorem near_great (s : Bool) (m : Nat) (hL : 52 < m.log2) (hM : m.log2 ≤ 63) :
    ∃ c, Ieee.double.nearest s m 0 = Ieee.double.word s ((m.log2 + 1022) * 4503599627370496 + c) ∧ 4503599627370496 ≤ m / 2 ^ (m.log2 - 52) ∧ m / 2 ^ (m.log2 - 52) < 9007199254740992 ∧
      (c = m / 2 ^ (m.log2 - 52) ∨ c = m / 2 ^ (m.log2 - 52) + 1) ∧ (m % 2 ^ (m.log2 - 52) = 0 → c = m / 2 ^ (m.log2 - 52)) := by
  have h : 0 < m := by
    by_cases z : m = 0
    · subst z; simp at hL
    · omega
  have g1 := log_ge m h
  have g2 := Nat.lt_log2_self (n := m)
  have p := Nat.two_pow_pos (m.log2 - 52)
  have x1 : 4503599627370496 ≤ m / 2 ^ (m.log2 - 52) := by
    rw [Nat.le_div_iff_mul_le p, show 4503599627370496 = 2 ^ 52 by decide, ← Nat.pow_add, show 52 + (m.log2 - 52) = m.log2 by omega]; exact g1
  have x2 : m / 2 ^ (m.log2 - 52) < 9007199254740992 := by
    rw [Nat.div_lt_iff_lt_mul p, show 9007199254740992 = 2 ^ 53 by decide, ← Nat.pow_add, show 53 + (m.log2 - 52) = m.log2 + 1 by omega]; exact g2
  have e : ∃ c, Ieee.Toward.even.cut s m (m.log2 - 52) = c ∧ (c = m / 2 ^ (m.log2 - 52) ∨ c = m / 2 ^ (m.log2 - 52) + 1) ∧ (m % 2 ^ (m.log2 - 52) = 0 → c = m / 2 ^ (m.log2 - 52)) := by
    refine ⟨_, rfl, ?_, ?_⟩
    · unfold Ieee.Toward.cut
      simp only [Nat.shiftLeft_eq, Nat.one_mul]
      rw [Nat.min_eq_left (by omega)]
      generalize (decide (2 ^ (m.log2 - 52) < 2 * (m % 2 ^ (m.log2 - 52))) || 2 ^ (m.log2 - 52) == 2 * (m % 2 ^ (m.log2 - 52)) && m / 2 ^ (m.log2 - 52) % 2 == 1) = b
      cases b
      · left; simp
      · right; simp
    · intro z
      unfold Ieee.Toward.cut
      simp only [Nat.shiftLeft_eq, Nat.one_mul]
      rw [Nat.min_eq_left (by omega), z]
      have n1 : decide (2 ^ (m.log2 - 52) < 2 * 0) = false := by simp
      have n2 : (2 ^ (m.log2 - 52) == 2 * 0) = false := by rw [beq_eq_false_iff_ne]; omega
      rw [n1, n2]; simp
  obtain ⟨c, ec, c1, c2⟩ := e
  refine ⟨c, ?_, x1, x2, c1, c2⟩
  unfold Ieee.Format.nearest
  rw [if_neg (by omega)]
  simp only [bi, ir, lp]
  have f : (Ieee.double.fractionBits : Int) = 52 := rfl
  have l : max (0 + (m.log2 : Int) - Ieee.double.fractionBits) (-1074) = (m.log2 : Int) - 52 := by rw [f]; omega
  rw [l, show (0 - ((m.log2 : Int) - 52)).toNat = 0 by omega, show ((m.log2 : Int) - 52 - 0).toNat = m.log2 - 52 by omega, Nat.shiftLeft_zero, ec, show ((m.log2 : Int) - 52 - -1074).toNat = m.log2 + 1022 by omega, Nat.min_eq_left (by omega)]

theorem near_exact (s : Bool) (m : Nat) (h : 0 < m) (hM : m.log2 ≤ 63) (hd : m.log2 ≤ 52 ∨ m % 2 ^ (m.log2 - 52) = 0) :
    ∃ r, Ieee.double.nearest s m 0 = Ieee.double.word s r ∧ M r = m * Q ∧ r < 9218868437227405312 := by
  by_cases hL : m.log2 ≤ 52
  · exact near_small s m h hL
  · obtain ⟨c, e, x1, x2, _, c2⟩ := near_great s m (by omega) hM
    have z := hd.resolve_left hL
    rw [c2 z] at e
    refine ⟨_, e, ?_, by omega⟩
    rw [M_norm _ _ x1 x2]
    have d : m = m / 2 ^ (m.log2 - 52) * 2 ^ (m.log2 - 52) := by
      have := Nat.div_add_mod m (2 ^ (m.log2 - 52))
      rw [z, Nat.mul_comm] at this; omega
    rw [show m.log2 + 1022 = (m.log2 - 52) + K by unfold K; omega, Nat.pow_add, ← Nat.mul_assoc, ← d, ← Q_K]
end Rl

/- Whole numbers against numbers with a point: the contract of real.Against. -/
namespace Go.Proofs.YtpnllbojifnopaaGreatDoor
open Go Go.RowKit Rl
set_option maxRecDepth 20000

theorem fi_of (n : Int) (r : Nat) (e : Ieee.double.nearest (decide (n < 0)) n.natAbs 0 = Ieee.double.word (decide (n < 0)) r) (hM : M r = n.natAbs * Q) (hr : r < 9218868437227405312) :
    floatOfInt .f64 n < 18446744073709551616 ∧ nan (floatOfInt .f64 n) = false ∧ S (floatOfInt .f64 n) = n * Q := by
  have e1 : floatOfInt .f64 n = Ieee.double.word (decide (n < 0)) r := e
  rw [e1]
  unfold Ieee.Format.word
  rw [sw]
  by_cases c : n < 0
  · rw [decide_eq_true c, if_pos rfl]
    refine ⟨by omega, by unfold nan; apply decide_eq_false; omega, ?_⟩
    rw [S_eq, if_pos (by omega), show (9223372036854775808 + r) % 9223372036854775808 = r by omega, hM, Int.natCast_mul, ← Int.neg_mul]
    congr 1
    omega
  · rw [decide_eq_false c, if_neg (by simp)]
    refine ⟨by omega, by unfold nan; apply decide_eq_false; omega, ?_⟩
    rw [S_eq, if_neg (by omega), show r % 9223372036854775808 = r by omega, hM, Int.natCast_mul]
    congr 1
    omega
theorem fi_zero : floatOfInt .f64 0 = 0 := by decide +kernel
theorem fi_exact (n : Int) (h : n = 0 ∨ (n.natAbs.log2 ≤ 63 ∧ (n.natAbs.log2 ≤ 52 ∨ n.natAbs % 2 ^ (n.natAbs.log2 - 52) = 0))) :
    floatOfInt .f64 n < 18446744073709551616 ∧ nan (floatOfInt .f64 n) = false ∧ S (floatOfInt .f64 n) = n * Q := by
  by_cases z : n = 0
  · subst z
    rw [fi_zero]
    refine ⟨by omega, by decide, ?_⟩
    rw [S_eq, if_neg (by omega), Nat.zero_mod, M_zero]; simp
  · obtain ⟨h1, h2⟩ := h.resolve_left z
    obtain ⟨r, e, hM, hr⟩ := near_exact (decide (n < 0)) n.natAbs (by omega) h1 h2
    exact fi_of n r e hM hr

theorem T_exact (r : Nat) (h : M r / Q ≤ 9223372036854775808) : M r / Q = 0 ∨ ((M r / Q).log2 ≤ 63 ∧ ((M r / Q).log2 ≤ 52 ∨ M r / Q % 2 ^ ((M r / Q).log2 - 52) = 0)) := by
  by_cases z : M r / Q = 0
  · exact .inl z
  · right
    by_cases s : M r / Q < 9007199254740992
    · have : (M r / Q).log2 < 53 := (Nat.log2_lt z).2 s
      exact ⟨by omega, .inl (by omega)⟩
    · have g : M 4845873199050653696 ≤ M r := by
        rw [M_53, ← Nat.le_div_iff_mul_le Q_pos]; omega
      have g2 : 4845873199050653696 ≤ r := by
        by_cases l : r < 4845873199050653696
        · have := M_lt l; omega
        · omega
      have x1 : 4503599627370496 ≤ 4503599627370496 + r % 4503599627370496 := by omega
      have x2 : 4503599627370496 + r % 4503599627370496 < 9007199254740992 := by omega
      have e : M r / Q = (4503599627370496 + r % 4503599627370496) * 2 ^ (r / 4503599627370496 - 1075) := by
        have : M r = (4503599627370496 + r % 4503599627370496) * 2 ^ (r / 4503599627370496 - 1075) * Q := by
          unfold M
          rw [if_neg (by omega), Nat.mul_assoc, Q_K, ← Nat.pow_add, show r / 4503599627370496 - 1075 + K = r / 4503599627370496 - 1 by unfold K; omega]
        rw [this, Nat.mul_div_cancel _ Q_pos]
      rw [e] at z h ⊢
      generalize 4503599627370496 + r % 4503599627370496 = x at x1 x2 z h e
      generalize r / 4503599627370496 - 1075 = j at z h e
      have L : (x * 2 ^ j).log2 = 52 + j := by
        rw [Nat.log2_eq_iff z]
        refine ⟨?_, ?_⟩
        · rw [Nat.pow_add]; exact Nat.mul_le_mul_right _ x1
        · rw [show 52 + j + 1 = 53 + j by omega, Nat.pow_add]; exact Nat.mul_lt_mul_of_pos_right x2 (Nat.two_pow_pos _)
      have l63 : (x * 2 ^ j).log2 < 64 := (Nat.log2_lt z).2 (by omega)
      refine ⟨by omega, .inr ?_⟩
      rw [L, show 52 + j - 52 = j by omega, Nat.mul_mod_left]

/- those that are whole numbers of 64 bits when they are cut -/
def Rng (b : Nat) : Prop := (b < 9223372036854775808 ∧ b < 4890909195324358656) ∨ (9223372036854775808 ≤ b ∧ b % 9223372036854775808 ≤ 4890909195324358656)
theorem Rng.size {b : Nat} (h : Rng b) : M (b % 9223372036854775808) / Q ≤ 9223372036854775808 ∧ (b < 9223372036854775808 → M (b % 9223372036854775808) / Q < 9223372036854775808) := by
  rcases h with ⟨h1, h2⟩ | ⟨h1, h2⟩
  · have := M_lt (show b % 9223372036854775808 < 4890909195324358656 by omega)
    rw [M_63] at this
    have t := (Nat.div_lt_iff_lt_mul Q_pos).2 this
    exact ⟨by omega, fun _ => t⟩
  · refine ⟨?_, fun h => by omega⟩
    have : M (b % 9223372036854775808) ≤ M 4890909195324358656 := by
      by_cases e : b % 9223372036854775808 = 4890909195324358656
      · rw [e]; exact Nat.le_refl _
      · have := M_lt (show b % 9223372036854775808 < 4890909195324358656 by omega); omega
    rw [M_63] at this
    have t := Nat.div_le_div_right (c := Q) this
    rw [Nat.mul_div_cancel _ Q_pos] at t
    exact t
theorem tv_range (b : Nat) (h : Rng b) : -9223372036854775808 ≤ tv b ∧ tv b ≤ 9223372036854775807 := by
  obtain ⟨s1, s2⟩ := h.size
  unfold tv
  generalize M (b % 9223372036854775808) / Q = t at s1 s2
  split <;> omega
theorem tv_conv (b : Nat) (hb : b < 18446744073709551616) (h : Rng b) : floatToIntVal .f64 b .i64 = some (tv b) := by
  have r := tv_range b h
  have e : (FloatKind.f64.decode b).toInt .zero = some (tv b) := toInt_eq b hb (by unfold Rng at h; omega)
  unfold floatToIntVal
  rw [e]
  simp only
  rw [if_pos]
  exact ⟨r.1, r.2⟩
theorem tv_back (b : Nat) (h : Rng b) : floatOfInt .f64 (tv b) < 18446744073709551616 ∧ nan (floatOfInt .f64 (tv b)) = false ∧ S (floatOfInt .f64 (tv b)) = tv b * Q := by
  apply fi_exact
  have t := T_exact (b % 9223372036854775808) h.size.1
  have a : (tv b).natAbs = M (b % 9223372036854775808) / Q := by
    unfold tv
    generalize M (b % 9223372036854775808) / Q = t
    split <;> omega
  rw [a]
  rcases t with t | t
  · left
    rw [t] at a
    omega
  · exact .inr t

theorem c3_S (x y : Nat) (hx : x < 18446744073709551616) (hy : y < 18446744073709551616) : c3 (sv x) (sv y) = c3 (S x) (S y) := by
  have a := S_lt x y hx hy
  have b := S_lt y x hy hx
  unfold c3
  simp only [a, b]

/- n compared with a number, exactly -/
def ag (n : Int) (b : Nat) : Int := if nan b = true then 0 else c3 (n * Q) (S b)

theorem mulQ {a b : Int} (h : a ≤ b) : a * Q ≤ b * Q := Int.mul_le_mul_of_nonneg_right h (by omega)
theorem mulQ_lt {a b : Int} (h : a < b) : a * Q < b * Q := Int.mul_lt_mul_of_pos_right h (by have := Q_pos; omega)
theorem tv_cut (b : Nat) : (0 ≤ S b ∧ b < 9223372036854775808 ∧ tv b * Q ≤ S b ∧ S b < (tv b + 1) * Q) ∨ (S b ≤ 0 ∧ 9223372036854775808 ≤ b ∧ S b ≤ tv b * Q ∧ (tv b - 1) * Q < S b) := by
  have d := Nat.div_add_mod (M (b % 9223372036854775808)) Q
  have m := Nat.mod_lt (M (b % 9223372036854775808)) Q_pos
  rw [Nat.mul_comm] at d
  have d' : ((M (b % 9223372036854775808) / Q : Nat) : Int) * Q + ((M (b % 9223372036854775808) % Q : Nat) : Int) = ((M (b % 9223372036854775808) : Nat) : Int) := by
    rw [← Int.natCast_mul, ← Int.natCast_add, d]
  rw [S_eq]
  unfold tv
  generalize M (b % 9223372036854775808) / Q = t at d'
  generalize M (b % 9223372036854775808) % Q = u at d' m
  generalize M (b % 9223372036854775808) = x at d'
  clear d
  by_cases c : 9223372036854775808 ≤ b
  · right
    rw [if_pos c, if_pos c, Int.sub_mul, Int.neg_mul]
    omega
  · left
    rw [if_neg c, if_neg c, Int.add_mul]
    omega
theorem ag_cut (n : Int) (b : Nat) (h : n ≠ tv b) (hn : nan b = false) : c3 n (tv b) = ag n b := by
  unfold ag
  rw [hn, if_neg (by simp)]
  have t := tv_cut b
  by_cases l : n < tv b
  · rw [c3_lt l, c3_lt]
    have a := mulQ (show n ≤ tv b - 1 by omega)
    have a2 := mulQ_lt l
    omega
  · rw [c3_gt (show tv b < n by omega), c3_gt]
    have a := mulQ (show tv b + 1 ≤ n by omega)
    have a2 := mulQ_lt (show tv b < n by omega)
    omega
theorem sv_63 : sv 4890909195324358656 = 4890909195324358656 := by decide
theorem sv_m63 : sv 14114281232179134464 = -4890909195324358656 := by decide
theorem ag_high (n : Int) (b : Nat) (hb : b < 18446744073709551616) (hn : nan b = false) (h1 : n ≤ 9223372036854775807) (h : 4890909195324358656 ≤ sv b) : ag n b = -1 := by
  unfold ag
  rw [hn, if_neg (by simp), c3_lt]
  have l : b < 9223372036854775808 := by unfold sv at h; split at h <;> omega
  have e : sv b = b := by unfold sv; rw [if_neg (by omega)]
  have g : M 4890909195324358656 ≤ M (b % 9223372036854775808) := by
    by_cases e : b % 9223372036854775808 = 4890909195324358656
    · rw [e]; exact Nat.le_refl _
    · have := M_lt (show 4890909195324358656 < b % 9223372036854775808 by omega); omega
  rw [M_63] at g
  rw [S_eq, if_neg (by omega)]
  have a := mulQ_lt (show n < 9223372036854775808 by omega)
  generalize M (b % 9223372036854775808) = x at g
  have g' : (9223372036854775808 : Int) * Q ≤ (x : Int) := by
    have := Int.ofNat_le.2 g
    rw [Int.natCast_mul] at this
    exact this
  omega
theorem ag_low (n : Int) (b : Nat) (hb : b < 18446744073709551616) (hn : nan b = false) (h1 : -9223372036854775808 ≤ n) (h : sv b < -4890909195324358656) : ag n b = 1 := by
  unfold ag
  rw [hn, if_neg (by simp), c3_gt]
  have l : 9223372036854775808 ≤ b := by unfold sv at h; split at h <;> omega
  have e : sv b = -((b % 9223372036854775808 : Nat) : Int) := by unfold sv; rw [if_pos l]
  have g := M_lt (show 4890909195324358656 < b % 9223372036854775808 by omega)
  rw [M_63] at g
  rw [S_eq, if_pos l]
  have a := mulQ (show -9223372036854775808 ≤ n by omega)
  rw [Int.neg_mul] at a
  generalize M (b % 9223372036854775808) = x at g
  have g' : (9223372036854775808 : Int) * Q < (x : Int) := by
    have := Int.ofNat_lt.2 g
    rw [Int.natCast_mul] at this
    exact this
  omega

theorem rng_of (b : Nat) (hb : b < 18446744073709551616) (h1 : ¬ 4890909195324358656 ≤ sv b) (h2 : ¬ sv b < -4890909195324358656) : Rng b := by
  unfold Rng
  unfold sv at h1 h2
  split at h1 <;> split at h2 <;> omega

theorem conv_any (b : Nat) (hb : b < 18446744073709551616) (h : Rng b) (w : World) : (convert 166 2 (.float .f64 b)).run Tryz.prog w = .ok (.int .i64 (tv b)) w :=
  run_convert_float_int w 166 2 .f64 .i64 b (tv b) (by kernel_rfl) Tryz.underlying2 (tv_conv b hb h)

set_option maxHeartbeats 1000000 in
theorem against_any (n : Int) (b : Nat) (h1 : -9223372036854775808 ≤ n) (h2 : n ≤ 9223372036854775807) (hb : b < 18446744073709551616) (w : World) :
    Calls Tryz.prog 169 #[.int .i64 n, .float .f64 b] w fun e w' => e = .returned (.tuple #[.int .i64 (ag n b), .bool (!nan b)]) ∧ w = w' := by
  cases hn : nan b
  · have H := Lib.hid (notOne_any b hb false hn w)
    have t1 := tgt b 4890909195324358656 hb (by omega) hn (by decide)
    have t2 := teq b 4890909195324358656 hb (by omega) hn (by decide)
    have t3 := tlt b 14114281232179134464 hb (by omega) hn (by decide)
    rw [sv_63] at t1 t2
    rw [sv_m63] at t3
    by_cases c1 : 4890909195324358656 ≤ sv b
    · rw [ag_high n b hb hn h2 c1]
      clear hn t3
      by_cases c2 : 4890909195324358656 < sv b
      · rw [decide_eq_true c2] at t1
        rw [decide_eq_false (by omega)] at t2
        clear c1 c2
        go_enter Tryz.func169, Tryz.ntmps169
        go_wp2_with fail
        refine H.out.mono ?_
        rintro e w' ⟨rfl, rfl⟩
        go_wp2
        go_ret2
        exact ⟨rfl, rfl⟩
      · rw [decide_eq_false c2] at t1
        rw [decide_eq_true (by omega)] at t2
        clear c1 c2
        go_enter Tryz.func169, Tryz.ntmps169
        go_wp2_with fail
        refine H.out.mono ?_
        rintro e w' ⟨rfl, rfl⟩
        go_wp2
        go_ret2
        exact ⟨rfl, rfl⟩
    · rw [decide_eq_false (by omega)] at t1 t2
      by_cases c2 : sv b < -4890909195324358656
      · rw [ag_low n b hb hn h1 c2]
        rw [decide_eq_true c2] at t3
        clear c1 c2 hn
        go_enter Tryz.func169, Tryz.ntmps169
        go_wp2_with fail
        refine H.out.mono ?_
        rintro e w' ⟨rfl, rfl⟩
        go_wp2
        go_ret2
        exact ⟨rfl, rfl⟩
      · rw [decide_eq_false c2] at t3
        have R := rng_of b hb c1 c2
        have hc := fun w => conv_any b hb R w
        clear c1 c2
        by_cases c3' : n = tv b
        · obtain ⟨f1, f2, f3⟩ := tv_back b R
          have C := Lib.hid (compare_any (floatOfInt .f64 (tv b)) b f1 hb w)
          have E := Lib.hid (show cv (floatOfInt .f64 (tv b)) b = ag n b by
            unfold cv ag
            rw [f2, hn, if_neg (by simp), if_neg (by simp), c3_S _ _ f1 hb, f3, c3'])
          have E2 := Lib.hid (show co (floatOfInt .f64 (tv b)) b = true by unfold co; rw [f2, hn]; rfl)
          rw [E.out, E2.out] at C
          clear f1 f2 f3 hn R E E2
          subst c3'
          generalize ag (tv b) b = z at C
          have hz : (tv b != tv b) = false := by simp
          generalize tv b = t at hc C hz
          go_enter Tryz.func169, Tryz.ntmps169
          go_wp2_with fail
          refine H.out.mono ?_
          rintro e w' ⟨rfl, rfl⟩
          go_wp2_with fail
          refine C.out.mono ?_
          rintro e w' ⟨rfl, rfl⟩
          go_wp2
          go_ret2
          exact ⟨rfl, rfl⟩
        · have E := ag_cut n b c3' hn
          have C := Lib.hid (cmpI_any n (tv b) w)
          rw [E] at C
          have hz : (n != tv b) = true := by simp [c3']
          clear E c3' hn R
          generalize ag n b = z at C
          generalize tv b = t at hc C hz
          go_enter Tryz.func169, Tryz.ntmps169
          go_wp2_with fail
          refine H.out.mono ?_
          rintro e w' ⟨rfl, rfl⟩
          go_wp2_with fail
          refine C.out.mono ?_
          rintro e w' ⟨rfl, rfl⟩
          go_wp2
          go_ret2
          exact ⟨rfl, rfl⟩
  · have H := Lib.hid (notOne_any b hb true hn w)
    rw [show ag n b = 0 by unfold ag; rw [if_pos hn]]
    clear hn
    go_enter Tryz.func169, Tryz.ntmps169
    go_wp2_with fail
    refine H.out.mono ?_
    rintro e w' ⟨rfl, rfl⟩
    go_wp2
    go_ret2
    exact ⟨rfl, rfl⟩
end Go.Proofs.YtpnllbojifnopaaGreatDoor

/- Values compared: the contract of the program's Compare. -/
namespace Go.Proofs.YtpnllbojifnopaaGreatDoor
open Go Go.RowKit Rl

abbrev agg2 (x y : Int) : Array Value := #[.int .u8 x, .int .u8 y]
theorem part2 (x y : Int) (w : World) : (part 5 (agg2 x y) (0 * 1)).run Tryz.prog w = .ok (.int .u8 x) w ∧ (part 5 (agg2 x y) (1 * 1)).run Tryz.prog w = .ok (.int .u8 y) w :=
  ⟨by kernel_rfl, by kernel_rfl⟩
theorem eqStep (xs ys : Array Value) (i : Nat) (is : List Nat) (a b : Int) (w : World) (ha : (part 5 xs (i * 1)).run Tryz.prog w = .ok (.int .u8 a) w) (hb : (part 5 ys (i * 1)).run Tryz.prog w = .ok (.int .u8 b) w) :
    (Op.eqItems 9999 5 1 xs ys (i :: is)).run Tryz.prog w = if a = b then (Op.eqItems 9999 5 1 xs ys is).run Tryz.prog w else .ok false w := by
  rw [Op.eqItems]
  simp only [Sem.run_bind, ha, hb, Result.andThen_ok, run_equalIn_int w 9998 5 .u8 .u8 a b Tryz.underlying5]
  by_cases h : a = b
  · simp [h]
  · simp [h]
theorem eq2 (x y a b : Int) (q : Bool) (h : decide (x = a ∧ y = b) = q) (w : World) : (Op.equalIn 10000 260 (.agg #[.int .u8 x, .int .u8 y]) (.agg #[.int .u8 a, .int .u8 b])).run Tryz.prog w = .ok q w := by
  obtain ⟨i, hi, _⟩ := info5
  rw [run_equalIn_array w 9999 _ _ Tryz.underlying260 hi, show Tryz.prog.cellsOf 5 = 1 by kernel_rfl, show List.range 2 = [0, 1] from rfl]
  obtain ⟨p0, p1⟩ := part2 x y w
  obtain ⟨q0, q1⟩ := part2 a b w
  rw [eqStep _ _ _ _ _ _ _ p0 q0, eqStep _ _ _ _ _ _ _ p1 q1, Op.eqItems, Sem.run_pure, ← h]
  by_cases h0 : x = a <;> by_cases h1 : y = b <;> simp [h0, h1]

def crB (m m' q11 q12 q21 q22 q33 : Bool) (v1 v2 v3 v4 v5 : Int) (o2 o3 o4 : Bool) : Int × Bool :=
  if m = false then (0, false) else if m' = false then (0, false) else if q11 = true then (v1, true) else if q12 = true then (v2, o2) else if q21 = true then (v3, o3) else if q22 = true then (v4, o4) else if q33 = true then (v5, true) else (0, false)
abbrev tup (p : Int × Bool) : Value := .tuple #[.int .i64 p.1, .bool p.2]

theorem ret_tup {a b : Int} {o : Bool} (h : a = b) : Ending.returned (.tuple #[.int .i64 a, .bool o]) = .returned (tup (b, o)) := by rw [h]
set_option maxHeartbeats 4000000 in
theorem vcmp_walk (k n : Int) (r : Nat) (s : ByteArray) (k' n' : Int) (r' : Nat) (s' : ByteArray) (m m' q11 q12 q21 q22 q33 : Bool) (v1 v2 v3 v4 v5 : Int) (o2 o3 o4 : Bool)
    (x11 : ∀ w, (Op.equalIn 10000 260 (.agg #[.int .u8 k, .int .u8 k']) (.agg #[.int .u8 1, .int .u8 1])).run Tryz.prog w = .ok q11 w)
    (x12 : ∀ w, (Op.equalIn 10000 260 (.agg #[.int .u8 k, .int .u8 k']) (.agg #[.int .u8 1, .int .u8 2])).run Tryz.prog w = .ok q12 w)
    (x21 : ∀ w, (Op.equalIn 10000 260 (.agg #[.int .u8 k, .int .u8 k']) (.agg #[.int .u8 2, .int .u8 1])).run Tryz.prog w = .ok q21 w)
    (x22 : ∀ w, (Op.equalIn 10000 260 (.agg #[.int .u8 k, .int .u8 k']) (.agg #[.int .u8 2, .int .u8 2])).run Tryz.prog w = .ok q22 w)
    (x33 : ∀ w, (Op.equalIn 10000 260 (.agg #[.int .u8 k, .int .u8 k']) (.agg #[.int .u8 3, .int .u8 3])).run Tryz.prog w = .ok q33 w)
    (M1 : Hid (∀ w, Calls Tryz.prog 98 #[vl k n r s] w fun e w' => e = .returned (.bool m) ∧ Below w.heap.size w w'))
    (M2 : Hid (∀ w, Calls Tryz.prog 98 #[vl k' n' r' s'] w fun e w' => e = .returned (.bool m') ∧ Below w.heap.size w w'))
    (C1 : Hid (∀ w, Calls Tryz.prog 168 #[.int .i64 n, .int .i64 n'] w fun e w' => e = .returned (.int .i64 v1) ∧ w = w'))
    (C2 : Hid (∀ w, Calls Tryz.prog 169 #[.int .i64 n, .float .f64 r'] w fun e w' => e = .returned (.tuple #[.int .i64 v2, .bool o2]) ∧ w = w'))
    (C3 : Hid (∀ w, Calls Tryz.prog 169 #[.int .i64 n', .float .f64 r] w fun e w' => e = .returned (.tuple #[.int .i64 (-v3), .bool o3]) ∧ w = w'))
    (C4 : Hid (∀ w, Calls Tryz.prog 170 #[.float .f64 r, .float .f64 r'] w fun e w' => e = .returned (.tuple #[.int .i64 v4, .bool o4]) ∧ w = w'))
    (C5 : Hid (∀ w, Calls Tryz.prog 171 #[.string s, .string s'] w fun e w' => e = .returned (.int .i64 v5) ∧ w = w'))
    (b0 : -1 ≤ v3) (b1 : v3 ≤ 1) (w : World) :
    Calls Tryz.prog 161 #[vl k n r s, vl k' n' r' s'] w fun e w' => e = .returned (tup (crB m m' q11 q12 q21 q22 q33 v1 v2 v3 v4 v5 o2 o3 o4)) ∧ Below w.heap.size w w' := by
  have T0 := Lib.hid (TwoV.start w k n r s k' n' r' s')
  cases m
  · have E := Lib.hid (show crB false m' q11 q12 q21 q22 q33 v1 v2 v3 v4 v5 o2 o3 o4 = (0, false) by simp [crB])
    rw [E.out]
    clear x11 x12 x21 x22 x33 C1 C2 C3 C4 C5 M2 E
    go_enter Tryz.func161, Tryz.ntmps161
    go_wp2_with fail
    refine (M1.out _).mono ?_
    rintro e w1 ⟨rfl, hb⟩
    have T1 := Lib.hid (T0.out.next hb)
    clear hb
    go_wp2_with fail
    go_ret2
    exact ⟨rfl, T1.out.bel⟩
  cases m'
  · have E := Lib.hid (show crB true false q11 q12 q21 q22 q33 v1 v2 v3 v4 v5 o2 o3 o4 = (0, false) by simp [crB])
    rw [E.out]
    clear x11 x12 x21 x22 x33 C1 C2 C3 C4 C5 E
    go_enter Tryz.func161, Tryz.ntmps161
    go_wp2_with fail
    refine (M1.out _).mono ?_
    rintro e w1 ⟨rfl, hb⟩
    have T1 := Lib.hid (T0.out.next hb)
    clear hb
    obtain ⟨d0, d1, d2, d3⟩ := T1.out.two
    go_wp2_with fail
    refine (M2.out _).mono ?_
    rintro e w2 ⟨rfl, hb⟩
    have T2 := Lib.hid (T1.out.next hb)
    clear hb
    go_wp2_with fail
    go_ret2
    exact ⟨rfl, T2.out.bel⟩
  cases q11
  case true =>
    have E := Lib.hid (show crB true true true q12 q21 q22 q33 v1 v2 v3 v4 v5 o2 o3 o4 = (v1, true) by simp [crB])
    rw [E.out]
    clear E x12 x21 x22 x33 C2 C3 C4 C5
    go_enter Tryz.func161, Tryz.ntmps161
    go_wp2_with fail
    refine (M1.out _).mono ?_
    rintro e w1 ⟨rfl, hb⟩
    have T1 := Lib.hid (T0.out.next hb)
    clear hb
    obtain ⟨d0, d1, d2, d3⟩ := T1.out.two
    go_wp2_with fail
    refine (M2.out _).mono ?_
    rintro e w2 ⟨rfl, hb⟩
    have T2 := Lib.hid (T1.out.next hb)
    clear hb d0 d1 d2 d3
    obtain ⟨c0, c1, c2, c3⟩ := T2.out.one
    obtain ⟨d0, d1, d2, d3⟩ := T2.out.two
    have z1 := T2.out.big
    have z0 : w.heap.size < w2.heap.size := by omega
    go_wp2_with fail
    refine (C1.out _).mono ?_
    rintro e w3 ⟨rfl, rfl⟩
    go_wp2_with fail
    go_ret2
    exact ⟨rfl, T2.out.bel.alloc T2.out.bel.size _⟩
  cases q12
  case true =>
    have E := Lib.hid (show crB true true false true q21 q22 q33 v1 v2 v3 v4 v5 o2 o3 o4 = (v2, o2) by simp [crB])
    rw [E.out]
    clear E x21 x22 x33 C1 C3 C4 C5
    go_enter Tryz.func161, Tryz.ntmps161
    go_wp2_with fail
    refine (M1.out _).mono ?_
    rintro e w1 ⟨rfl, hb⟩
    have T1 := Lib.hid (T0.out.next hb)
    clear hb
    obtain ⟨d0, d1, d2, d3⟩ := T1.out.two
    go_wp2_with fail
    refine (M2.out _).mono ?_
    rintro e w2 ⟨rfl, hb⟩
    have T2 := Lib.hid (T1.out.next hb)
    clear hb d0 d1 d2 d3
    obtain ⟨c0, c1, c2, c3⟩ := T2.out.one
    obtain ⟨d0, d1, d2, d3⟩ := T2.out.two
    have z1 := T2.out.big
    have z0 : w.heap.size < w2.heap.size := by omega
    go_wp2_with fail
    refine (C2.out _).mono ?_
    rintro e w3 ⟨rfl, rfl⟩
    go_wp2_with fail
    go_ret2
    exact ⟨rfl, T2.out.bel.alloc T2.out.bel.size _⟩
  cases q21
  case true =>
    have E := Lib.hid (show crB true true false false true q22 q33 v1 v2 v3 v4 v5 o2 o3 o4 = (v3, o3) by simp [crB])
    rw [E.out]
    clear E x22 x33 C1 C2 C4 C5
    go_enter Tryz.func161, Tryz.ntmps161
    go_wp2_with fail
    refine (M1.out _).mono ?_
    rintro e w1 ⟨rfl, hb⟩
    have T1 := Lib.hid (T0.out.next hb)
    clear hb
    obtain ⟨d0, d1, d2, d3⟩ := T1.out.two
    go_wp2_with fail
    refine (M2.out _).mono ?_
    rintro e w2 ⟨rfl, hb⟩
    have T2 := Lib.hid (T1.out.next hb)
    clear hb d0 d1 d2 d3
    obtain ⟨c0, c1, c2, c3⟩ := T2.out.one
    obtain ⟨d0, d1, d2, d3⟩ := T2.out.two
    have z1 := T2.out.big
    have z0 : w.heap.size < w2.heap.size := by omega
    go_wp2_with fail
    refine (C3.out _).mono ?_
    rintro e w3 ⟨rfl, rfl⟩
    go_wp2_with fail
    go_ret2
    exact ⟨ret_tup (by simp), T2.out.bel.alloc T2.out.bel.size _⟩
  cases q22
  case true =>
    have E := Lib.hid (show crB true true false false false true q33 v1 v2 v3 v4 v5 o2 o3 o4 = (v4, o4) by simp [crB])
    rw [E.out]
    clear E x33 C1 C2 C3 C5
    go_enter Tryz.func161, Tryz.ntmps161
    go_wp2_with fail
    refine (M1.out _).mono ?_
    rintro e w1 ⟨rfl, hb⟩
    have T1 := Lib.hid (T0.out.next hb)
    clear hb
    obtain ⟨d0, d1, d2, d3⟩ := T1.out.two
    go_wp2_with fail
    refine (M2.out _).mono ?_
    rintro e w2 ⟨rfl, hb⟩
    have T2 := Lib.hid (T1.out.next hb)
    clear hb d0 d1 d2 d3
    obtain ⟨c0, c1, c2, c3⟩ := T2.out.one
    obtain ⟨d0, d1, d2, d3⟩ := T2.out.two
    have z1 := T2.out.big
    have z0 : w.heap.size < w2.heap.size := by omega
    go_wp2_with fail
    refine (C4.out _).mono ?_
    rintro e w3 ⟨rfl, rfl⟩
    go_wp2_with fail
    go_ret2
    exact ⟨rfl, T2.out.bel.alloc T2.out.bel.size _⟩
  cases q33
  case true =>
    have E := Lib.hid (show crB true true false false false false true v1 v2 v3 v4 v5 o2 o3 o4 = (v5, true) by simp [crB])
    rw [E.out]
    clear E  C1 C2 C3 C4
    go_enter Tryz.func161, Tryz.ntmps161
    go_wp2_with fail
    refine (M1.out _).mono ?_
    rintro e w1 ⟨rfl, hb⟩
    have T1 := Lib.hid (T0.out.next hb)
    clear hb
    obtain ⟨d0, d1, d2, d3⟩ := T1.out.two
    go_wp2_with fail
    refine (M2.out _).mono ?_
    rintro e w2 ⟨rfl, hb⟩
    have T2 := Lib.hid (T1.out.next hb)
    clear hb d0 d1 d2 d3
    obtain ⟨c0, c1, c2, c3⟩ := T2.out.one
    obtain ⟨d0, d1, d2, d3⟩ := T2.out.two
    have z1 := T2.out.big
    have z0 : w.heap.size < w2.heap.size := by omega
    go_wp2_with fail
    refine (C5.out _).mono ?_
    rintro e w3 ⟨rfl, rfl⟩
    go_wp2_with fail
    go_ret2
    exact ⟨rfl, T2.out.bel.alloc T2.out.bel.size _⟩
  have E := Lib.hid (show crB true true false false false false false v1 v2 v3 v4 v5 o2 o3 o4 = (0, false) by simp [crB])
  rw [E.out]
  clear E C1 C2 C3 C4 C5
  go_enter Tryz.func161, Tryz.ntmps161
  go_wp2_with fail
  refine (M1.out _).mono ?_
  rintro e w1 ⟨rfl, hb⟩
  have T1 := Lib.hid (T0.out.next hb)
  clear hb
  obtain ⟨d0, d1, d2, d3⟩ := T1.out.two
  go_wp2_with fail
  refine (M2.out _).mono ?_
  rintro e w2 ⟨rfl, hb⟩
  have T2 := Lib.hid (T1.out.next hb)
  clear hb d0 d1 d2 d3
  obtain ⟨c0, c1, c2, c3⟩ := T2.out.one
  obtain ⟨d0, d1, d2, d3⟩ := T2.out.two
  have z1 := T2.out.big
  have z0 : w.heap.size < w2.heap.size := by omega
  go_wp2_with fail
  go_ret2
  exact ⟨rfl, T2.out.bel.alloc T2.out.bel.size _⟩

def cr (k n : Int) (r : Nat) (s : ByteArray) (k' n' : Int) (r' : Nat) (s' : ByteArray) : Int × Bool :=
  crB (may k n r s) (may k' n' r' s') (decide (k = 1 ∧ k' = 1)) (decide (k = 1 ∧ k' = 2)) (decide (k = 2 ∧ k' = 1)) (decide (k = 2 ∧ k' = 2)) (decide (k = 3 ∧ k' = 3))
    (c3 n n') (ag n r') (-ag n' r) (cv r r') (lx s.toList s'.toList) (!nan r') (!nan r) (co r r')
theorem c3_bounds (a b : Int) : -1 ≤ c3 a b ∧ c3 a b ≤ 1 := by unfold c3; split <;> (try split) <;> omega
theorem ag_bounds (n : Int) (r : Nat) : -1 ≤ ag n r ∧ ag n r ≤ 1 := by
  unfold ag
  split
  · omega
  · exact c3_bounds _ _
theorem vcmp_any (k n : Int) (r : Nat) (s : ByteArray) (k' n' : Int) (r' : Nat) (s' : ByteArray) (hn0 : -9223372036854775808 ≤ n) (hn1 : n ≤ 9223372036854775807) (hr : r < 18446744073709551616)
    (hm0 : -9223372036854775808 ≤ n') (hm1 : n' ≤ 9223372036854775807) (hr' : r' < 18446744073709551616) (w : World) :
    Calls Tryz.prog 161 #[vl k n r s, vl k' n' r' s'] w fun e w' => e = .returned (tup (cr k n r s k' n' r' s')) ∧ Below w.heap.size w w' := by
  have b := ag_bounds n' r
  exact vcmp_walk k n r s k' n' r' s' _ _ _ _ _ _ _ _ _ _ _ _ _ _ _ (eq2 k k' 1 1 _ rfl) (eq2 k k' 1 2 _ rfl) (eq2 k k' 2 1 _ rfl) (eq2 k k' 2 2 _ rfl) (eq2 k k' 3 3 _ rfl)
    (Lib.hid fun w => may_any k n r s hr w) (Lib.hid fun w => may_any k' n' r' s' hr' w) (Lib.hid fun w => cmpI_any n n' w) (Lib.hid fun w => against_any n r' hn0 hn1 hr' w)
    (Lib.hid fun w => by rw [Int.neg_neg]; exact against_any n' r hm0 hm1 hr w) (Lib.hid fun w => compare_any r r' hr hr' w) (Lib.hid fun w => cmpS_any s s' w) (by omega) (by omega) w
end Go.Proofs.YtpnllbojifnopaaGreatDoor
