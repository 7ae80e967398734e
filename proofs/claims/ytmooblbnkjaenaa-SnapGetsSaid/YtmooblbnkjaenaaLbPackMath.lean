/- Numbers as bytes, without any program: writing, reading, there and back. -/
import Derived.Lib.BitFns
namespace Pk

/- ### a number's writing -/
def wrt (n : Nat) : List Int := if n < 128 then [(n : Int)] else ((n % 128 + 128 : Nat) : Int) :: wrt (n / 128)
  termination_by n
  decreasing_by omega
theorem wrt_lo (n : Nat) (h : n < 128) : wrt n = [(n : Int)] := by rw [wrt, if_pos h]
theorem wrt_hi (n : Nat) (h : 128 ≤ n) : wrt n = ((n % 128 + 128 : Nat) : Int) :: wrt (n / 128) := by rw [wrt, if_neg (by omega)]

theorem wrt_range (n : Nat) : ∀ c ∈ wrt n, 0 ≤ c ∧ c < 256 := by
  induction n using Nat.strongRecOn with
  | ind n ih =>
    by_cases h : n < 128
    · rw [wrt_lo n h]
      intro c hc
      rw [List.mem_singleton] at hc
      omega
    · rw [wrt_hi n (by omega)]
      intro c hc
      rcases List.mem_cons.1 hc with rfl | hc
      · omega
      · exact ih (n / 128) (by omega) c hc

theorem wrt_len (k : Nat) : ∀ n : Nat, n < 128 ^ (k + 1) → k = 0 ∨ 128 ^ k ≤ n → (wrt n).length = k + 1 := by
  induction k with
  | zero => intro n h _; rw [wrt_lo n (by simpa using h)]; rfl
  | succ k ih =>
    intro n h h2
    have h3 : 128 ^ (k + 1) ≤ n := by rcases h2 with h2 | h2; omega; exact h2
    have e1 : 128 ^ (k + 1 + 1) = 128 ^ (k + 1) * 128 := Nat.pow_succ ..
    have e2 : 128 ^ (k + 1) = 128 ^ k * 128 := Nat.pow_succ ..
    have p : 0 < 128 ^ k := Nat.pow_pos (by omega)
    rw [e1] at h
    rw [wrt_hi n (by omega), List.length_cons, ih (n / 128) ((Nat.div_lt_iff_lt_mul (by omega)).2 h) ?_]
    by_cases hk : k = 0
    · exact .inl hk
    · right
      rw [e2] at h3
      exact (Nat.le_div_iff_mul_le (by omega)).2 h3

theorem wrt_len_le (k : Nat) : ∀ n : Nat, n < 128 ^ (k + 1) → (wrt n).length ≤ k + 1 := by
  induction k with
  | zero => intro n h; rw [wrt_lo n (by simpa using h)]; exact Nat.le_refl _
  | succ k ih =>
    intro n h
    by_cases c : n < 128
    · rw [wrt_lo n c, List.length_singleton]; omega
    · rw [Nat.pow_succ] at h
      rw [wrt_hi n (by omega), List.length_cons]
      have := ih (n / 128) ((Nat.div_lt_iff_lt_mul (by omega)).2 h)
      omega
theorem wrt_ten (n : Nat) (h : n < 18446744073709551616) : (wrt n).length ≤ 10 := wrt_len_le 9 n (by omega)
theorem wrt_pos (n : Nat) : 1 ≤ (wrt n).length := by
  by_cases c : n < 128
  · rw [wrt_lo n c]; exact Nat.le_refl _
  · rw [wrt_hi n (by omega), List.length_cons]; omega

/- ### how many bytes -/
theorem bl_zero (f : Nat) : Go.Lib.bitLenAux f 0 = 0 := by cases f <;> simp [Go.Lib.bitLenAux]
theorem bl_spec : ∀ (f x : Nat), x < 2 ^ f → x < 2 ^ (Go.Lib.bitLenAux f x) ∧ (x ≠ 0 → 1 ≤ Go.Lib.bitLenAux f x ∧ 2 ^ (Go.Lib.bitLenAux f x - 1) ≤ x)
  | 0, x, h => by
    have : x = 0 := by simpa using h
    subst this; simp [Go.Lib.bitLenAux]
  | f + 1, x, h => by
    unfold Go.Lib.bitLenAux
    by_cases c : x = 0
    · subst c; simp
    · rw [if_neg c]
      have hp : 2 ^ (f + 1) = 2 ^ f * 2 := Nat.pow_succ ..
      obtain ⟨h1, h2⟩ := bl_spec f (x / 2) (by omega)
      generalize e : Go.Lib.bitLenAux f (x / 2) = L at h1 h2
      refine ⟨?_, fun _ => ⟨by omega, ?_⟩⟩
      · rw [show 1 + L = L + 1 by omega, Nat.pow_succ]; omega
      · rw [show 1 + L - 1 = L by omega]
        by_cases d : x / 2 = 0
        · rw [d, bl_zero] at e
          subst e; simp; omega
        · obtain ⟨h3, h4⟩ := h2 d
          rw [show L = (L - 1) + 1 by omega, Nat.pow_succ]; omega

def sz (n : Nat) : Nat := (Go.Lib.bitLen (n ||| 1) + 6) / 7
theorem or_one (n : Nat) : (n ||| 1) / 2 = n / 2 ∧ (n ||| 1) % 2 = 1 := by
  constructor
  · rw [Nat.or_div_two]; simp
  · rw [Nat.or_mod_two_eq_one]; simp
theorem or_one_lt (n : Nat) (h : n < 18446744073709551616) : n ||| 1 < 18446744073709551616 := by
  have := or_one n; omega
theorem sz_eq (n : Nat) (h : n < 18446744073709551616) : sz n = (wrt n).length := by
  obtain ⟨o1, o2⟩ := or_one n
  unfold sz
  have hx := or_one_lt n h
  generalize n ||| 1 = x at o1 o2 hx
  obtain ⟨b1, b2⟩ := bl_spec 64 x (by omega)
  obtain ⟨b3, b4⟩ := b2 (by omega)
  unfold Go.Lib.bitLen
  generalize Go.Lib.bitLenAux 64 x = L at b1 b3 b4
  obtain ⟨k, hk⟩ : ∃ k, (L + 6) / 7 = k + 1 := ⟨(L + 6) / 7 - 1, by omega⟩
  have pw : ∀ j : Nat, 128 ^ j = 2 ^ (7 * j) := fun j => by rw [Nat.pow_mul]
  rw [hk, wrt_len k n ?_ ?_]
  · have : 2 ^ L ≤ 2 ^ (7 * (k + 1)) := Nat.pow_le_pow_right (by omega) (by omega)
    rw [pw]; omega
  · by_cases hz : k = 0
    · exact .inl hz
    · right
      have h1 : 2 ^ (7 * k) ≤ 2 ^ (L - 1) := Nat.pow_le_pow_right (by omega) (by omega)
      have h2 : 2 ^ (7 * k) = 2 ^ (7 * k - 1) * 2 := by rw [← Nat.pow_succ]; congr 1; omega
      rw [pw]
      generalize 2 ^ (7 * k) = M at h1 h2
      generalize 2 ^ (7 * k - 1) = M2 at h2
      generalize 2 ^ (L - 1) = M3 at h1 b4
      omega

/- ### reading: the number, how many bytes were read, the error -/
def gt : List Int → Nat → Nat → Nat × Nat × Nat
  | [], _, _ => (0, 0, 3)
  | c :: r, i, a =>
    if i = 9 ∧ 1 < c then (0, 0, 4)
    else if 128 ≤ c then gt r (i + 1) (a + c.toNat % 128 * 128 ^ i)
    else if c = 0 ∧ 0 < i then (0, 0, 2)
    else (a + c.toNat * 128 ^ i, i + 1, 0)

theorem gt_wrt (r : List Int) (n : Nat) : ∀ i a : Nat, n * 128 ^ i < 18446744073709551616 → i = 0 ∨ 0 < n → gt (wrt n ++ r) i a = (a + n * 128 ^ i, i + (wrt n).length, 0) := by
  induction n using Nat.strongRecOn with
  | ind n ih =>
    intro i a hb hp
    have i9 : i = 9 → n ≤ 1 := fun e => by subst e; omega
    by_cases h : n < 128
    · rw [wrt_lo n h]
      show gt ((n : Int) :: r) i a = _
      rw [gt, if_neg (by omega), if_neg (by omega), if_neg (by omega)]
      simp
    · rw [wrt_hi n (by omega)]
      show gt (((n % 128 + 128 : Nat) : Int) :: (wrt (n / 128) ++ r)) i a = _
      rw [gt, if_neg (by omega), if_pos (by omega)]
      have e : n * 128 ^ i = n % 128 * 128 ^ i + n / 128 * 128 ^ (i + 1) := by
        rw [Nat.pow_succ, Nat.mul_comm (128 ^ i) 128, ← Nat.mul_assoc, ← Nat.add_mul]; congr 1; omega
      rw [ih (n / 128) (by omega) (i + 1) _ (by omega) (.inr (by omega)), e]
      rw [List.length_cons, show (((n % 128 + 128 : Nat) : Int)).toNat % 128 = n % 128 by omega]
      refine Prod.ext ?_ (Prod.ext ?_ rfl)
      · show a + n % 128 * 128 ^ i + n / 128 * 128 ^ (i + 1) = _; omega
      · show i + 1 + (wrt (n / 128)).length = i + ((wrt (n / 128)).length + 1); omega

theorem gt_only : ∀ (l : List Int) (i a n k : Nat), (∀ c ∈ l, 0 ≤ c ∧ c < 256) → gt l i a = (n, k, 0) →
    ∃ m, n = a + m * 128 ^ i ∧ i < k ∧ k ≤ i + l.length ∧ l.take (k - i) = wrt m ∧ (i = 0 ∨ 0 < m)
  | [], i, a, n, k, _, h => by rw [gt] at h; simp at h
  | c :: r, i, a, n, k, hr, h => by
    have hc := hr c (by simp)
    rw [gt] at h
    by_cases c1 : i = 9 ∧ 1 < c
    · rw [if_pos c1] at h; simp at h
    · rw [if_neg c1] at h
      by_cases c2 : 128 ≤ c
      · rw [if_pos c2] at h
        obtain ⟨m, h1, h2, h3, h4, h5⟩ := gt_only r (i + 1) _ n k (fun x hx => hr x (by simp [hx])) h
        refine ⟨m * 128 + c.toNat % 128, ?_, by omega, by rw [List.length_cons]; omega, ?_, .inr (by omega)⟩
        · rw [h1, Nat.pow_succ, Nat.add_mul, Nat.mul_comm (128 ^ i) 128, Nat.mul_assoc]; omega
        · rw [show k - i = (k - (i + 1)) + 1 by omega, List.take_succ_cons, h4, wrt_hi (m * 128 + c.toNat % 128) (by omega)]
          rw [show (m * 128 + c.toNat % 128) / 128 = m by omega, show (m * 128 + c.toNat % 128) % 128 = c.toNat % 128 by omega]
          congr 1
          omega
      · rw [if_neg c2] at h
        by_cases c3 : c = 0 ∧ 0 < i
        · rw [if_pos c3] at h; simp at h
        · rw [if_neg c3] at h
          simp only [Prod.mk.injEq, and_true] at h
          obtain ⟨h1, h2⟩ := h
          refine ⟨c.toNat, h1.symm, by omega, by rw [List.length_cons]; omega, ?_, by omega⟩
          rw [← h2, show i + 1 - i = 0 + 1 by omega, List.take_succ_cons, wrt_lo _ (by omega)]
          simp; omega

/- a number that was read has room in 64 bits -/
theorem gt_room : ∀ (l : List Int) (i a n k : Nat), (∀ c ∈ l, 0 ≤ c ∧ c < 256) → i ≤ 9 → a < 128 ^ i → gt l i a = (n, k, 0) → n < 18446744073709551616
  | [], i, a, n, k, _, _, _, h => by rw [gt] at h; simp at h
  | c :: r, i, a, n, k, hr, hi, ha, h => by
    have hc := hr c (by simp)
    rw [gt] at h
    by_cases c1 : i = 9 ∧ 1 < c
    · rw [if_pos c1] at h; simp at h
    · rw [if_neg c1] at h
      by_cases c2 : 128 ≤ c
      · rw [if_pos c2] at h
        refine gt_room r (i + 1) _ n k (fun x hx => hr x (by simp [hx])) (by omega) ?_ h
        have : c.toNat % 128 * 128 ^ i ≤ 127 * 128 ^ i := Nat.mul_le_mul_right _ (by omega)
        rw [Nat.pow_succ]; omega
      · rw [if_neg c2] at h
        by_cases c3 : c = 0 ∧ 0 < i
        · rw [if_pos c3] at h; simp at h
        · rw [if_neg c3] at h
          simp only [Prod.mk.injEq, and_true] at h
          obtain ⟨h1, h2⟩ := h
          by_cases i9 : i = 9
          · subst i9
            have : c.toNat ≤ 1 := by omega
            have : c.toNat * 128 ^ 9 ≤ 1 * 128 ^ 9 := Nat.mul_le_mul_right _ this
            omega
          · have e : c.toNat * 128 ^ i ≤ 127 * 128 ^ i := Nat.mul_le_mul_right _ (by omega)
            have : 128 ^ (i + 1) ≤ 128 ^ 9 := Nat.pow_le_pow_right (by omega) (by omega)
            rw [Nat.pow_succ] at this
            omega
theorem gt_err : ∀ (l : List Int) (i a : Nat), (gt l i a).2.2 ≠ 0 → (gt l i a).1 = 0 ∧ (gt l i a).2.1 = 0
  | [], i, a, _ => by rw [gt]; exact ⟨rfl, rfl⟩
  | c :: r, i, a, h => by
    rw [gt] at h ⊢
    split
    · exact ⟨rfl, rfl⟩
    · rename_i c1
      rw [if_neg c1] at h
      split
      · rename_i c2
        rw [if_pos c2] at h
        exact gt_err r (i + 1) _ h
      · rename_i c2
        rw [if_neg c2] at h
        split
        · exact ⟨rfl, rfl⟩
        · rename_i c3
          rw [if_neg c3] at h
          exact absurd rfl h

/- ### signed numbers -/
def zig (i : Int) : Nat := if i < 0 then 2 * (-(i + 1)).toNat + 1 else 2 * i.toNat
def sg (n : Nat) : Int := if n % 2 = 1 then -((n / 2 : Nat) : Int) - 1 else ((n / 2 : Nat) : Int)
theorem sg_zig (i : Int) : sg (zig i) = i := by unfold sg zig; split <;> split <;> omega
theorem zig_lt (i : Int) (h : -9223372036854775808 ≤ i) (h2 : i ≤ 9223372036854775807) : zig i < 18446744073709551616 := by unfold zig; split <;> omega

/- ### eight bytes, the highest first -/
def w8 (n : Nat) : List Int := [((n / 72057594037927936 % 256 : Nat) : Int), ((n / 281474976710656 % 256 : Nat) : Int), ((n / 1099511627776 % 256 : Nat) : Int), ((n / 4294967296 % 256 : Nat) : Int), ((n / 16777216 % 256 : Nat) : Int), ((n / 65536 % 256 : Nat) : Int), ((n / 256 % 256 : Nat) : Int), ((n % 256 : Nat) : Int)]
def be (l : List Int) : Nat := l.foldl (fun a c => a * 256 + c.toNat) 0
theorem w8_range (n : Nat) : ∀ c ∈ w8 n, 0 ≤ c ∧ c < 256 := by
  intro c hc
  simp only [w8, List.mem_cons, List.not_mem_nil, or_false] at hc
  omega
theorem be_w8 (n : Nat) (h : n < 18446744073709551616) : be (w8 n) = n := by
  simp only [be, w8, List.foldl, Int.toNat_natCast]
  omega
theorem w8_be (l : List Int) (hl : l.length = 8) (hr : ∀ c ∈ l, 0 ≤ c ∧ c < 256) : w8 (be l) = l := by
  rcases l with _ | ⟨a, _ | ⟨b, _ | ⟨c, _ | ⟨d, _ | ⟨e, _ | ⟨f, _ | ⟨g, _ | ⟨h, l⟩⟩⟩⟩⟩⟩⟩⟩ <;> simp at hl
  subst hl
  have h1 := hr a (by simp)
  have h2 := hr b (by simp)
  have h3 := hr c (by simp)
  have h4 := hr d (by simp)
  have h5 := hr e (by simp)
  have h6 := hr f (by simp)
  have h7 := hr g (by simp)
  have h8 := hr h (by simp)
  clear hr
  obtain ⟨x1, rfl⟩ : ∃ x : Nat, a = (x : Int) := ⟨a.toNat, by omega⟩
  obtain ⟨x2, rfl⟩ : ∃ x : Nat, b = (x : Int) := ⟨b.toNat, by omega⟩
  obtain ⟨x3, rfl⟩ : ∃ x : Nat, c = (x : Int) := ⟨c.toNat, by omega⟩
  obtain ⟨x4, rfl⟩ : ∃ x : Nat, d = (x : Int) := ⟨d.toNat, by omega⟩
  obtain ⟨x5, rfl⟩ : ∃ x : Nat, e = (x : Int) := ⟨e.toNat, by omega⟩
  obtain ⟨x6, rfl⟩ : ∃ x : Nat, f = (x : Int) := ⟨f.toNat, by omega⟩
  obtain ⟨x7, rfl⟩ : ∃ x : Nat, g = (x : Int) := ⟨g.toNat, by omega⟩
  obtain ⟨x8, rfl⟩ : ∃ x : Nat, h = (x : Int) := ⟨h.toNat, by omega⟩
  have eN : be [(x1 : Int), x2, x3, x4, x5, x6, x7, x8] = x1 * 72057594037927936 + x2 * 281474976710656 + x3 * 1099511627776 + x4 * 4294967296 + x5 * 16777216 + x6 * 65536 + x7 * 256 + x8 := by
    simp only [be, List.foldl, Int.toNat_natCast]; omega
  rw [eN]
  clear eN
  generalize eN : x1 * 72057594037927936 + x2 * 281474976710656 + x3 * 1099511627776 + x4 * 4294967296 + x5 * 16777216 + x6 * 65536 + x7 * 256 + x8 = N
  unfold w8
  rw [show N / 72057594037927936 % 256 = x1 by omega, show N / 281474976710656 % 256 = x2 by omega, show N / 1099511627776 % 256 = x3 by omega, show N / 4294967296 % 256 = x4 by omega,
    show N / 16777216 % 256 = x5 by omega, show N / 65536 % 256 = x6 by omega, show N / 256 % 256 = x7 by omega, show N % 256 = x8 by omega]
theorem be_lt : ∀ (l : List Int) (a : Nat), (∀ c ∈ l, 0 ≤ c ∧ c < 256) → l.foldl (fun a c => a * 256 + c.toNat) a < (a + 1) * 256 ^ l.length
  | [], a, _ => by simp
  | c :: r, a, hr => by
    have hc := hr c (by simp)
    rw [List.foldl_cons, List.length_cons, Nat.pow_succ]
    have := be_lt r (a * 256 + c.toNat) (fun x hx => hr x (by simp [hx]))
    have e : (a * 256 + c.toNat + 1) * 256 ^ r.length ≤ ((a + 1) * 256) * 256 ^ r.length := Nat.mul_le_mul_right _ (by omega)
    rw [Nat.mul_comm (256 ^ r.length) 256, ← Nat.mul_assoc]
    omega
end Pk
