/- Contracts, joined: LbRefCmp, LbRefFloor, LbRefAgainst, VlRCmp. -/
import Derived.Test.YtccjflioaajgiaaDoorMC
import Derived.Test.YtccjflioaajgiaaDoorMB
import Derived.Deep.RegionHeld3
import Derived.Test.YtccjflioaajgiaaDoorMH
import Derived.Deep.QuietTactic
import Derived.BigQuiet
/- The document's class, order and comparison of parts: their contracts, and that its comparison is the program's. -/
namespace Go.Proofs.YtccjflioaajgiaaDoor
open Go Go.RowKit Rl
set_option maxRecDepth 20000

def At3 (w : World) (n : Nat) (s : Bool) (E F : Nat) : Prop :=
  w.cell? ⟨n, 0, none⟩ = some (.bool s) ∧ w.cell? ⟨n, 1, none⟩ = some (.int .i64 (E : Int)) ∧ w.cell? ⟨n, 2, none⟩ = some (.int .u64 (F : Int))
theorem At3.below {w w' : World} {n : Nat} {s : Bool} {E F B : Nat} (h : At3 w n s E F) (hb : Below B w w') (hn : n < B) : At3 w' n s E F := by
  obtain ⟨a, b, c⟩ := h
  exact ⟨by rw [hb.cell (p := ⟨n, 0, none⟩) hn]; exact a, by rw [hb.cell (p := ⟨n, 1, none⟩) hn]; exact b, by rw [hb.cell (p := ⟨n, 2, none⟩) hn]; exact c⟩
def pc (E F : Nat) : Int := if E = 2047 then (if F = 0 then 3 else 4) else if E = 0 then (if F = 0 then 0 else 1) else 2
def po (s : Bool) (E F : Nat) (t : Bool) (G K : Nat) : Int :=
  if pn E F = true then (if pn G K = true then 0 else 1) else if pn G K = true then -1 else
  if s = t then (if s = true then c3 ((G * 4503599627370496 + K : Nat) : Int) ((E * 4503599627370496 + F : Nat) : Int) else c3 ((E * 4503599627370496 + F : Nat) : Int) ((G * 4503599627370496 + K : Nat) : Int))
  else if s = true then -1 else 1

structure Two (w W : World) (s : Bool) (E F : Nat) (t : Bool) (G K : Nat) : Prop where
  one : At3 W w.heap.size s E F
  two : At3 W (w.heap.size + 1) t G K
  bel : Below w.heap.size w W
  big : w.heap.size + 1 < W.heap.size
theorem Two.next {w W W' : World} {s : Bool} {E F : Nat} {t : Bool} {G K : Nat} (h : Two w W s E F t G K) (hb : Below W.heap.size W W') : Two w W' s E F t G K :=
  ⟨h.one.below hb (by have := h.big; omega), h.two.below hb h.big, h.bel.trans (hb.mono h.bel.size), Nat.lt_of_lt_of_le h.big hb.size⟩

def pcv (s : Bool) (E F : Nat) (t : Bool) (G K : Nat) : Int := if (pn E F || pn G K) = true then 0 else if pc E F = 0 ∧ pc G K = 0 then 0 else po s E F t G K
def pco (E F G K : Nat) : Bool := !(pn E F || pn G K)
theorem po_ky (a b : Nat) (ha : a < 18446744073709551616) (hb : b < 18446744073709551616) : po (neg a) (ex a) (fr a) (neg b) (ex b) (fr b) = c3 (ky a) (ky b) := by
  have n1 := pn_nan a
  have n2 := pn_nan b
  have e1 := ef a
  have e2 := ef b
  unfold po
  rw [n1, n2, e1, e2]
  clear e1 e2 n1 n2
  unfold ky bt c3
  have m1 : nan a = decide (9218868437227405312 < a % 9223372036854775808) := rfl
  have m2 : nan b = decide (9218868437227405312 < b % 9223372036854775808) := rfl
  cases h1 : nan a <;> cases h2 : nan b
  · have g1 := of_decide_eq_false (m1.symm.trans h1)
    have g2 := of_decide_eq_false (m2.symm.trans h2)
    clear m1 m2 h1 h2
    simp only [Bool.false_eq_true, if_false]
    unfold neg
    by_cases s : 9223372036854775808 ≤ a <;> by_cases t : 9223372036854775808 ≤ b <;> simp only [s, t, decide_true, decide_false, if_true, if_false, Bool.false_eq_true, Bool.true_eq_false] <;> (repeat' split) <;> omega
  · have g1 := of_decide_eq_false (m1.symm.trans h1)
    clear m1 m2 h1 h2
    simp only [Bool.false_eq_true, if_false, if_true]
    (repeat' split) <;> omega
  · have g2 := of_decide_eq_false (m2.symm.trans h2)
    clear m1 m2 h1 h2
    simp only [Bool.false_eq_true, if_false, if_true]
    (repeat' split) <;> omega
  · simp
theorem pc_zero (a : Nat) (h : nan a = false) : pc (ex a) (fr a) = 0 ↔ a % 9223372036854775808 = 0 := by
  have g := of_decide_eq_false (show decide (9218868437227405312 < a % 9223372036854775808) = false from h)
  have e := ef a
  have l1 := ex_lt a
  have l2 := fr_lt a
  generalize ex a = E at e l1
  generalize fr a = F at e l2
  clear h
  unfold pc
  (repeat' split) <;> omega
theorem pcv_cv (a b : Nat) (ha : a < 18446744073709551616) (hb : b < 18446744073709551616) : pcv (neg a) (ex a) (fr a) (neg b) (ex b) (fr b) = cv a b := by
  unfold pcv
  rw [po_ky a b ha hb, pn_nan, pn_nan]
  unfold cv
  by_cases n : (nan a || nan b) = true
  · rw [if_pos n, if_pos n]
  · rw [if_neg n, if_neg n]
    have na : nan a = false := by cases h : nan a <;> simp_all
    have nb : nan b = false := by cases h : nan b <;> simp_all
    clear n
    simp only [pc_zero a na, pc_zero b nb]
    unfold c3 ky bt sv
    rw [na, nb]
    have g1 := of_decide_eq_false (show decide (9218868437227405312 < a % 9223372036854775808) = false from na)
    have g2 := of_decide_eq_false (show decide (9218868437227405312 < b % 9223372036854775808) = false from nb)
    clear na nb
    simp only [Bool.false_eq_true, if_false]
    (repeat' split) <;> omega
theorem pco_co (a b : Nat) : pco (ex a) (fr a) (ex b) (fr b) = co a b := by
  unfold pco co; rw [pn_nan, pn_nan]

end Go.Proofs.YtccjflioaajgiaaDoor

/- The document's whole number below a number: its loops. -/
namespace Go.Proofs.YtccjflioaajgiaaDoor
open Go Go.RowKit Rl
set_option maxRecDepth 20000

def vm (E F : Nat) : Nat := if E = 0 then F else F + 4503599627370496
def vx (E : Nat) : Int := if E = 0 then -1074 else (E : Int) - 1075
theorem half_ex (m i : Nat) : decide (m % 2 ^ (i + 1) = 0) = (decide (m % 2 ^ i = 0) && !decide (m / 2 ^ i % 2 = 1)) := by
  rw [Nat.pow_succ, Nat.mod_mul]
  have p := Nat.two_pow_pos i
  rcases Nat.mod_two_eq_zero_or_one (m / 2 ^ i) with h | h
  · rw [h]; simp
  · rw [h]; simp
theorem half_div (m i : Nat) : m / 2 ^ (i + 1) = m / 2 ^ i / 2 := by rw [Nat.pow_succ, Nat.div_div_eq_div_mul]
theorem ret3 {d d' : Int} {x : Bool} {k : Int} (h : d = d') : Ending.returned (.tuple #[.int .i64 d, .bool x, .int .i64 k]) = .returned (.tuple #[.int .i64 d', .bool x, .int .i64 k]) := by rw [h]

theorem neg_back (t : Nat) (h : t ≤ 9223372036854775808) : RowKit.wrap64 (IntKind.u64.wrap (-(t : Int))) = -(t : Int) := by
  rw [IntKind.wrap_u64]
  unfold RowKit.wrap64
  omega

end Go.Proofs.YtccjflioaajgiaaDoor

/- The document's Against: its contract. -/
namespace Go.Proofs.YtccjflioaajgiaaDoor
open Go Go.RowKit Rl
set_option maxRecDepth 20000

/- sizes by parts -/
theorem M_low (F : Nat) (h : F < 4503599627370496) : M F = F := by unfold M; rw [if_pos h]
theorem M_parts (E F : Nat) (hE : 0 < E) (hF : F < 4503599627370496) : M (E * 4503599627370496 + F) = (F + 4503599627370496) * 2 ^ (E - 1) := by
  unfold M
  rw [if_neg (by omega), show (E * 4503599627370496 + F) % 4503599627370496 = F by omega, show (E * 4503599627370496 + F) / 4503599627370496 = E by omega, Nat.add_comm F]
theorem cut_mod (m k j : Nat) (h : k ≤ j) : m * 2 ^ k % 2 ^ j = 0 ↔ m % 2 ^ (j - k) = 0 := by
  have e : 2 ^ j = 2 ^ (j - k) * 2 ^ k := by rw [← Nat.pow_add, Nat.sub_add_cancel h]
  rw [e, Nat.mul_mod_mul_right]
  have p := Nat.two_pow_pos k
  constructor
  · intro z
    rcases Nat.mul_eq_zero.1 z with z | z <;> omega
  · intro z; rw [z, Nat.zero_mul]

end Go.Proofs.YtccjflioaajgiaaDoor

/- Values compared: the contract of the document's Compare. -/
namespace Go.Proofs.YtccjflioaajgiaaDoor
open Go Go.RowKit Rl

theorem cells_next {w W W' : World} {p q : Addr} {x y : Value} {m : Nat} (h : W.cell? p = some x ∧ W.cell? q = some y ∧ Below m w W ∧ m ≤ W.heap.size) (hb : Below W.heap.size W W') :
    W'.cell? p = some x ∧ W'.cell? q = some y ∧ Below m w W' ∧ m ≤ W'.heap.size := by
  obtain ⟨h1, h2, h7, h9⟩ := h
  have z := hb.size
  refine ⟨?_, ?_, h7.trans (hb.mono h9), by omega⟩
  · rw [hb.cell (World.block_lt_of_cell? _ _ h1)]; exact h1
  · rw [hb.cell (World.block_lt_of_cell? _ _ h2)]; exact h2

theorem may_kind {k n : Int} {r : Nat} {s : ByteArray} (h : may k n r s = true) : k = 0 ∨ k = 1 ∨ k = 2 ∨ k = 3 := by
  unfold may mayB at h
  by_cases h0 : k = 0
  · exact .inl h0
  by_cases h1 : k = 1
  · exact .inr (.inl h1)
  by_cases h2 : k = 2
  · exact .inr (.inr (.inl h2))
  by_cases h3 : k = 3
  · exact .inr (.inr (.inr h3))
  rw [if_neg h0, if_neg h1, if_neg h2, if_neg h3] at h
  cases h
end Go.Proofs.YtccjflioaajgiaaDoor
