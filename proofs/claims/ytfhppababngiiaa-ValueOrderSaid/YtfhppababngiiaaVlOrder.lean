/- ValueOrder: which values are compared, and how, by what they hold; the walk of the statement's own function. -/
import Derived.Test.YtfhppababngiiaaVlRaw
namespace Go.Proofs.Ytfhppababngiiaa
open Go Go.RowKit Rl

/- what a value is when it is compared: a number of a size, a text, or neither -/
abbrev Cl := Int ⊕ Option (List UInt8)
def cl (k n : Int) (r : Nat) (s : ByteArray) : Cl :=
  if may k n r s = true then (if k = 1 then .inl (n * Q) else if k = 2 then (if nan r = true then .inr none else .inl (S r)) else if k = 3 then .inr (some s.toList) else .inr none) else .inr none
def cc : Cl → Cl → Int × Bool
  | .inl x, .inl y => (c3 x y, true)
  | .inr (some x), .inr (some y) => (lx x y, true)
  | _, _ => (0, false)
theorem cc_other_l (y : Cl) : cc (.inr none) y = (0, false) := by rcases y with _ | _ | _ <;> rfl
theorem cc_other_r (x : Cl) : cc x (.inr none) = (0, false) := by rcases x with _ | _ | _ <;> rfl
theorem c3_scale (a b : Int) : c3 (a * Q) (b * Q) = c3 a b := by
  rcases Int.lt_trichotomy a b with h | h | h
  · rw [c3_lt h, c3_lt (mulQ_lt h)]
  · rw [h, c3_eq, c3_eq]
  · rw [c3_gt h, c3_gt (mulQ_lt h)]
theorem c3_anti (a b : Int) : c3 a b = -c3 b a := by
  rcases Int.lt_trichotomy a b with h | h | h
  · rw [c3_lt h, c3_gt h]
  · rw [h, c3_eq]; rfl
  · rw [c3_gt h, c3_lt h]; rfl
theorem cl_kind {k n : Int} {r : Nat} {s : ByteArray} (h : may k n r s = true) : (k = 0 ∧ cl k n r s = .inr none) ∨ (k = 1 ∧ cl k n r s = .inl (n * Q)) ∨ (k = 2 ∧ nan r = true ∧ cl k n r s = .inr none) ∨ (k = 2 ∧ nan r = false ∧ cl k n r s = .inl (S r)) ∨ (k = 3 ∧ cl k n r s = .inr (some s.toList)) := by
  have hk : k = 0 ∨ k = 1 ∨ k = 2 ∨ k = 3 := by
    unfold may mayB at h
    by_cases h0 : k = 0
    · exact .inl h0
    by_cases h1 : k = 1
    · exact .inr (.inl h1)
    by_cases h2 : k = 2
    · exact .inr (.inr (.inl h2))
    by_cases h3 : k = 3
    · exact .inr (.inr (.inr h3))
    rw [if_neg h0, if_neg h1, if_neg h2, if_neg h3] at h
    cases h
  unfold cl
  rw [if_pos h]
  rcases hk with rfl | rfl | rfl | rfl
  · exact .inl ⟨rfl, by simp⟩
  · exact .inr (.inl ⟨rfl, by simp⟩)
  · cases hn : nan r
    · exact .inr (.inr (.inr (.inl ⟨rfl, rfl, by simp⟩)))
    · exact .inr (.inr (.inl ⟨rfl, rfl, by simp⟩))
  · exact .inr (.inr (.inr (.inr ⟨rfl, by simp⟩)))
theorem cr_cc (k n : Int) (r : Nat) (s : ByteArray) (k' n' : Int) (r' : Nat) (s' : ByteArray) (hr : r < 18446744073709551616) (hr' : r' < 18446744073709551616) : cr k n r s k' n' r' s' = cc (cl k n r s) (cl k' n' r' s') := by
  unfold cr
  cases m1 : may k n r s
  · rw [show cl k n r s = .inr none by unfold cl; rw [if_neg (by rw [m1]; simp)], cc_other_l]
    simp [crB]
  cases m2 : may k' n' r' s'
  · rw [show cl k' n' r' s' = .inr none by unfold cl; rw [if_neg (by rw [m2]; simp)], cc_other_r]
    simp [crB]
  rcases cl_kind m1 with ⟨rfl, e⟩ | ⟨rfl, e⟩ | ⟨rfl, hn, e⟩ | ⟨rfl, hn, e⟩ | ⟨rfl, e⟩ <;> rcases cl_kind m2 with ⟨rfl, f⟩ | ⟨rfl, f⟩ | ⟨rfl, hm, f⟩ | ⟨rfl, hm, f⟩ | ⟨rfl, f⟩ <;> rw [e, f]
  · show _ = (0, false); simp [crB]
  · show _ = (0, false); simp [crB]
  · show _ = (0, false); simp [crB]
  · show _ = (0, false); simp [crB]
  · show _ = (0, false); simp [crB]
  · show _ = (0, false); simp [crB]
  · show _ = (c3 (n * Q) (n' * Q), true); rw [c3_scale]; simp [crB]
  · rw [cc_other_r]; simp [crB, ag, hm]
  · show _ = (c3 (n * Q) (S r'), true); simp [crB, ag, hm]
  · show _ = (0, false); simp [crB]
  · show _ = (0, false); simp [crB]
  · rw [cc_other_l]; simp [crB, ag, hn]
  · rw [cc_other_l]; simp [crB, cv, co, hn]
  · rw [cc_other_l]; simp [crB, cv, co, hn]
  · show _ = (0, false); simp [crB]
  · show _ = (0, false); simp [crB]
  · show _ = (c3 (S r) (n' * Q), true); rw [c3_anti (S r) (n' * Q)]; simp [crB, ag, hn]
  · rw [cc_other_r]; simp [crB, cv, co, hm]
  · show _ = (c3 (S r) (S r'), true); rw [← c3_S r r' hr hr']; simp [crB, cv, co, hn, hm]
  · show _ = (0, false); simp [crB]
  · show _ = (0, false); simp [crB]
  · show _ = (0, false); simp [crB]
  · show _ = (0, false); simp [crB]
  · show _ = (0, false); simp [crB]
  · show _ = (lx s.toList s'.toList, true); simp [crB]
theorem cc_anti (x y : Cl) : (cc x y).1 = -(cc y x).1 ∧ (cc x y).2 = (cc y x).2 := by
  rcases x with _ | _ | _ <;> rcases y with _ | _ | _ <;> first | exact ⟨rfl, rfl⟩ | exact ⟨c3_anti _ _, rfl⟩ | exact ⟨lx_anti _ _, rfl⟩
theorem cc_bounds (x y : Cl) : (cc x y).1 = -1 ∨ (cc x y).1 = 0 ∨ (cc x y).1 = 1 := by
  rcases x with _ | _ | _ <;> rcases y with _ | _ | _ <;> first | exact .inr (.inl rfl) | exact lx_cases _ _ | (show c3 _ _ = -1 ∨ c3 _ _ = 0 ∨ c3 _ _ = 1; unfold c3; split <;> (try split) <;> omega)
theorem cc_trans (x y z : Cl) (h : (cc x y).2 = true) (g : (cc y z).2 = true) : (cc x z).2 = true ∧ ((cc x y).1 ≤ 0 → (cc y z).1 ≤ 0 → (cc x z).1 ≤ 0) ∧ ((cc x y).1 = 0 → (cc y z).1 = 0 → (cc x z).1 = 0) ∧ ((cc x y).1 < 0 → (cc y z).1 ≤ 0 → (cc x z).1 < 0) := by
  rcases x with _ | _ | _ <;> rcases y with _ | _ | _ <;> rcases z with _ | _ | _ <;> first | exact Bool.noConfusion h | exact Bool.noConfusion g | skip
  · rename_i a b c
    refine ⟨rfl, ?_⟩
    show (c3 a b ≤ 0 → c3 b c ≤ 0 → c3 a c ≤ 0) ∧ (c3 a b = 0 → c3 b c = 0 → c3 a c = 0) ∧ (c3 a b < 0 → c3 b c ≤ 0 → c3 a c < 0)
    unfold c3
    refine ⟨?_, ?_, ?_⟩ <;> (repeat' split) <;> omega
  · rename_i a b c
    refine ⟨rfl, ?_⟩
    show (lx a b ≤ 0 → lx b c ≤ 0 → lx a c ≤ 0) ∧ (lx a b = 0 → lx b c = 0 → lx a c = 0) ∧ (lx a b < 0 → lx b c ≤ 0 → lx a c < 0)
    refine ⟨fun h g => (lx_trans a b c h g).1, fun h g => ?_, fun h g => (lx_trans a b c (by omega) g).2.1 h⟩
    rw [lx_zero a b h, lx_zero b c g, lx_self]

theorem keep12 {w W W' : World} {m : Nat} {p0 p1 p2 p3 p4 p5 p6 p7 p8 p9 p10 p11 : Addr} {x0 x1 x2 x3 x4 x5 x6 x7 x8 x9 x10 x11 : Value}
    (h : W.cell? p0 = some x0 ∧ W.cell? p1 = some x1 ∧ W.cell? p2 = some x2 ∧ W.cell? p3 = some x3 ∧ W.cell? p4 = some x4 ∧ W.cell? p5 = some x5 ∧ W.cell? p6 = some x6 ∧ W.cell? p7 = some x7 ∧ W.cell? p8 = some x8 ∧ W.cell? p9 = some x9 ∧ W.cell? p10 = some x10 ∧ W.cell? p11 = some x11 ∧ Below m w W ∧ m ≤ W.heap.size) (hb : Below W.heap.size W W') :
    W'.cell? p0 = some x0 ∧ W'.cell? p1 = some x1 ∧ W'.cell? p2 = some x2 ∧ W'.cell? p3 = some x3 ∧ W'.cell? p4 = some x4 ∧ W'.cell? p5 = some x5 ∧ W'.cell? p6 = some x6 ∧ W'.cell? p7 = some x7 ∧ W'.cell? p8 = some x8 ∧ W'.cell? p9 = some x9 ∧ W'.cell? p10 = some x10 ∧ W'.cell? p11 = some x11 ∧ Below m w W' ∧ m ≤ W'.heap.size := by
  obtain ⟨h0, h1, h2, h3, h4, h5, h6, h7, h8, h9, h10, h11, hw, hz⟩ := h
  have z := hb.size
  refine ⟨?_, ?_, ?_, ?_, ?_, ?_, ?_, ?_, ?_, ?_, ?_, ?_, hw.trans (hb.mono hz), by omega⟩
  · rw [hb.cell (World.block_lt_of_cell? _ _ h0)]; exact h0
  · rw [hb.cell (World.block_lt_of_cell? _ _ h1)]; exact h1
  · rw [hb.cell (World.block_lt_of_cell? _ _ h2)]; exact h2
  · rw [hb.cell (World.block_lt_of_cell? _ _ h3)]; exact h3
  · rw [hb.cell (World.block_lt_of_cell? _ _ h4)]; exact h4
  · rw [hb.cell (World.block_lt_of_cell? _ _ h5)]; exact h5
  · rw [hb.cell (World.block_lt_of_cell? _ _ h6)]; exact h6
  · rw [hb.cell (World.block_lt_of_cell? _ _ h7)]; exact h7
  · rw [hb.cell (World.block_lt_of_cell? _ _ h8)]; exact h8
  · rw [hb.cell (World.block_lt_of_cell? _ _ h9)]; exact h9
  · rw [hb.cell (World.block_lt_of_cell? _ _ h10)]; exact h10
  · rw [hb.cell (World.block_lt_of_cell? _ _ h11)]; exact h11

theorem start12 (k n : Int) (b : Nat) (s : ByteArray) (k' n' : Int) (b' : Nat) (s' : ByteArray) (k'' n'' : Int) (b'' : Nat) (s'' : ByteArray) (w : World) (W : World) (hW : W = ((w.alloc (rcells k n b s)).alloc (rcells k' n' b' s')).alloc (rcells k'' n'' b'' s'')) :
    W.cell? ⟨w.heap.size, 0, none⟩ = some (.int .u8 k) ∧ W.cell? ⟨w.heap.size, 1, none⟩ = some (.int .i64 n) ∧ W.cell? ⟨w.heap.size, 2, none⟩ = some (.int .u64 (b : Int)) ∧ W.cell? ⟨w.heap.size, 3, none⟩ = some (.string s) ∧ W.cell? ⟨w.heap.size + 1, 0, none⟩ = some (.int .u8 k') ∧ W.cell? ⟨w.heap.size + 1, 1, none⟩ = some (.int .i64 n') ∧ W.cell? ⟨w.heap.size + 1, 2, none⟩ = some (.int .u64 (b' : Int)) ∧ W.cell? ⟨w.heap.size + 1, 3, none⟩ = some (.string s') ∧ W.cell? ⟨w.heap.size + 1 + 1, 0, none⟩ = some (.int .u8 k'') ∧ W.cell? ⟨w.heap.size + 1 + 1, 1, none⟩ = some (.int .i64 n'') ∧ W.cell? ⟨w.heap.size + 1 + 1, 2, none⟩ = some (.int .u64 (b'' : Int)) ∧ W.cell? ⟨w.heap.size + 1 + 1, 3, none⟩ = some (.string s'') ∧ Below w.heap.size w W ∧ w.heap.size ≤ W.heap.size := by
  subst hW
  refine ⟨?_, ?_, ?_, ?_, ?_, ?_, ?_, ?_, ?_, ?_, ?_, ?_, (((Below.refl w.heap.size w).alloc (Nat.le_refl _) _).alloc (by simp) _).alloc (by simp; omega) _, by simp; omega⟩ <;> simp [go_sem]

set_option maxHeartbeats 8000000 in
set_option maxRecDepth 100000 in
theorem order_small (k n : Int) (b : Nat) (s : ByteArray) (k' n' : Int) (b' : Nat) (s' : ByteArray) (k'' n'' : Int) (b'' : Nat) (s'' : ByteArray) (ab bc ac : Int) (p r t : Bool) (h0 : decide ((2000 : Int) < (s.size : Int)) = false) (h1 : decide ((2000 : Int) < (s'.size : Int)) = false) (h2 : decide ((2000 : Int) < (s''.size : Int)) = false)
    (R0 : Hid (∀ w, Calls Try.prog 9 #[rw4 k n b s] w fun e w' => e = .returned (vl k n b s) ∧ Below w.heap.size w w'))
    (R1 : Hid (∀ w, Calls Try.prog 9 #[rw4 k' n' b' s'] w fun e w' => e = .returned (vl k' n' b' s') ∧ Below w.heap.size w w'))
    (R2 : Hid (∀ w, Calls Try.prog 9 #[rw4 k'' n'' b'' s''] w fun e w' => e = .returned (vl k'' n'' b'' s'') ∧ Below w.heap.size w w'))
    (C1 : Hid (∀ w, Calls Try.prog 10 #[vl k n b s, vl k' n' b' s'] w fun e w' => e = .returned (.tuple #[.int .i64 ab, .bool p]) ∧ Below w.heap.size w w'))
    (C2 : Hid (∀ w, Calls Try.prog 10 #[vl k' n' b' s', vl k n b s] w fun e w' => e = .returned (.tuple #[.int .i64 (-ab), .bool p]) ∧ Below w.heap.size w w'))
    (C3 : Hid (∀ w, Calls Try.prog 10 #[vl k' n' b' s', vl k'' n'' b'' s''] w fun e w' => e = .returned (.tuple #[.int .i64 bc, .bool r]) ∧ Below w.heap.size w w'))
    (C4 : Hid (∀ w, Calls Try.prog 10 #[vl k n b s, vl k'' n'' b'' s''] w fun e w' => e = .returned (.tuple #[.int .i64 ac, .bool t]) ∧ Below w.heap.size w w'))
    (q1 : ab = -1 ∨ ab = 0 ∨ ab = 1) (q2 : bc = -1 ∨ bc = 0 ∨ bc = 1) (q3 : ac = -1 ∨ ac = 0 ∨ ac = 1) (qt : p = true → r = true → t = true ∧ (ab ≤ 0 → bc ≤ 0 → ac ≤ 0) ∧ (ab = 0 → bc = 0 → ac = 0) ∧ (ab < 0 → bc ≤ 0 → ac < 0)) (w : World) :
    Calls Try.prog 6 #[rw4 k n b s, rw4 k' n' b' s', rw4 k'' n'' b'' s''] w fun e w' => e = .returned (.bool true) ∧ Below w.heap.size w w' := by
  have T0 := Lib.hid (start12 k n b s k' n' b' s' k'' n'' b'' s'' w _ rfl)
  have G := Lib.hid (fun g w hg c0 c1 c2 c3 c4 c5 c6 c7 c8 c9 c10 c11 => great3_3 g k n b s k' n' b' s' k'' n'' b'' s'' w hg c0 c1 c2 c3 c4 c5 c6 c7 c8 c9 c10 c11 h0 h1 h2)
  clear h0 h1 h2
  have Q1 := Lib.hid q1
  have Q2 := Lib.hid q2
  have Q3 := Lib.hid q3
  have QT := Lib.hid qt
  clear q1 q2 q3 qt
  go_enter Try.func6, Try.ntmps6
  go_wp2_with fail
  refine (G.out _ _ (by simp) (by simp [go_sem]) (by simp [go_sem]) (by simp [go_sem]) (by simp [go_sem]) (by simp [go_sem]) (by simp [go_sem]) (by simp [go_sem]) (by simp [go_sem]) (by simp [go_sem]) (by simp [go_sem]) (by simp [go_sem]) (by simp [go_sem])).mono ?_
  rintro e w1 ⟨rfl, hb⟩
  obtain ⟨f0, f1, f2, f3, f4, f5, f6, f7, f8, f9, f10, f11, hw1, hw2⟩ := keep12 T0.out (((Below.refl _ _).alloc (Nat.le_refl _) _).trans (hb.mono (by simp)))
  have H := Lib.hid (And.intro hw2 hw1)
  clear hw1 hw2 hb T0 G
  go_wp2_with fail
  go_region_held3 (fun W => W.cell? ⟨w.heap.size, 0, none⟩ = some (.int .u8 k) ∧ W.cell? ⟨w.heap.size, 1, none⟩ = some (.int .i64 n) ∧ W.cell? ⟨w.heap.size, 2, none⟩ = some (.int .u64 (b : Int)) ∧ W.cell? ⟨w.heap.size, 3, none⟩ = some (.string s) ∧ W.cell? ⟨w.heap.size + 1, 0, none⟩ = some (.int .u8 k') ∧ W.cell? ⟨w.heap.size + 1, 1, none⟩ = some (.int .i64 n') ∧ W.cell? ⟨w.heap.size + 1, 2, none⟩ = some (.int .u64 (b' : Int)) ∧ W.cell? ⟨w.heap.size + 1, 3, none⟩ = some (.string s') ∧ W.cell? ⟨w.heap.size + 1 + 1, 0, none⟩ = some (.int .u8 k'') ∧ W.cell? ⟨w.heap.size + 1 + 1, 1, none⟩ = some (.int .i64 n'') ∧ W.cell? ⟨w.heap.size + 1 + 1, 2, none⟩ = some (.int .u64 (b'' : Int)) ∧ W.cell? ⟨w.heap.size + 1 + 1, 3, none⟩ = some (.string s'') ∧ Below w.heap.size w W ∧ w.heap.size ≤ W.heap.size)
    (first | assumption | exact ⟨f0, f1, f2, f3, f4, f5, f6, f7, f8, f9, f10, f11, H.out.2.drew, H.out.1⟩ | exact keep12 (by assumption) (by assumption))
    (first
      | (go_at_call 9; (with_reducible refine (R0.out _).mono ?_); rintro e w' ⟨rfl, b1⟩)
      | (go_at_call 9; (with_reducible refine (R1.out _).mono ?_); rintro e w' ⟨rfl, b1⟩)
      | (go_at_call 9; (with_reducible refine (R2.out _).mono ?_); rintro e w' ⟨rfl, b1⟩)
      | (go_at_call 10; (with_reducible refine (C1.out _).mono ?_); rintro e w' ⟨rfl, b1⟩))
  rename_i hHeld
  clear H f0 f1 f2 f3 f4 f5 f6 f7 f8 f9 f10 f11
  obtain ⟨f0, f1, f2, f3, f4, f5, f6, f7, f8, f9, f10, f11, hw1, hw2⟩ := hHeld
  have H := Lib.hid (And.intro hw2 hw1)
  clear hw1 hw2
  go_wp2_with fail
  go_region_held3 (fun W => W.cell? ⟨w.heap.size, 0, none⟩ = some (.int .u8 k) ∧ W.cell? ⟨w.heap.size, 1, none⟩ = some (.int .i64 n) ∧ W.cell? ⟨w.heap.size, 2, none⟩ = some (.int .u64 (b : Int)) ∧ W.cell? ⟨w.heap.size, 3, none⟩ = some (.string s) ∧ W.cell? ⟨w.heap.size + 1, 0, none⟩ = some (.int .u8 k') ∧ W.cell? ⟨w.heap.size + 1, 1, none⟩ = some (.int .i64 n') ∧ W.cell? ⟨w.heap.size + 1, 2, none⟩ = some (.int .u64 (b' : Int)) ∧ W.cell? ⟨w.heap.size + 1, 3, none⟩ = some (.string s') ∧ W.cell? ⟨w.heap.size + 1 + 1, 0, none⟩ = some (.int .u8 k'') ∧ W.cell? ⟨w.heap.size + 1 + 1, 1, none⟩ = some (.int .i64 n'') ∧ W.cell? ⟨w.heap.size + 1 + 1, 2, none⟩ = some (.int .u64 (b'' : Int)) ∧ W.cell? ⟨w.heap.size + 1 + 1, 3, none⟩ = some (.string s'') ∧ Below w.heap.size w W ∧ w.heap.size ≤ W.heap.size)
    (first | assumption | exact ⟨f0, f1, f2, f3, f4, f5, f6, f7, f8, f9, f10, f11, H.out.2.drew, H.out.1⟩ | exact keep12 (by assumption) (by assumption))
    (first
      | (go_at_call 9; (with_reducible refine (R0.out _).mono ?_); rintro e w' ⟨rfl, b1⟩)
      | (go_at_call 9; (with_reducible refine (R1.out _).mono ?_); rintro e w' ⟨rfl, b1⟩)
      | (go_at_call 9; (with_reducible refine (R2.out _).mono ?_); rintro e w' ⟨rfl, b1⟩)
      | (go_at_call 10; (with_reducible refine (C2.out _).mono ?_); rintro e w' ⟨rfl, b1⟩))
  rename_i hHeld
  clear H f0 f1 f2 f3 f4 f5 f6 f7 f8 f9 f10 f11
  obtain ⟨f0, f1, f2, f3, f4, f5, f6, f7, f8, f9, f10, f11, hw1, hw2⟩ := hHeld
  have H := Lib.hid (And.intro hw2 hw1)
  clear hw1 hw2
  go_wp2_with fail
  go_region_held3 (fun W => W.cell? ⟨w.heap.size, 0, none⟩ = some (.int .u8 k) ∧ W.cell? ⟨w.heap.size, 1, none⟩ = some (.int .i64 n) ∧ W.cell? ⟨w.heap.size, 2, none⟩ = some (.int .u64 (b : Int)) ∧ W.cell? ⟨w.heap.size, 3, none⟩ = some (.string s) ∧ W.cell? ⟨w.heap.size + 1, 0, none⟩ = some (.int .u8 k') ∧ W.cell? ⟨w.heap.size + 1, 1, none⟩ = some (.int .i64 n') ∧ W.cell? ⟨w.heap.size + 1, 2, none⟩ = some (.int .u64 (b' : Int)) ∧ W.cell? ⟨w.heap.size + 1, 3, none⟩ = some (.string s') ∧ W.cell? ⟨w.heap.size + 1 + 1, 0, none⟩ = some (.int .u8 k'') ∧ W.cell? ⟨w.heap.size + 1 + 1, 1, none⟩ = some (.int .i64 n'') ∧ W.cell? ⟨w.heap.size + 1 + 1, 2, none⟩ = some (.int .u64 (b'' : Int)) ∧ W.cell? ⟨w.heap.size + 1 + 1, 3, none⟩ = some (.string s'') ∧ Below w.heap.size w W ∧ w.heap.size ≤ W.heap.size)
    (first | assumption | exact ⟨f0, f1, f2, f3, f4, f5, f6, f7, f8, f9, f10, f11, H.out.2.drew, H.out.1⟩ | exact keep12 (by assumption) (by assumption))
    (first
      | (go_at_call 9; (with_reducible refine (R0.out _).mono ?_); rintro e w' ⟨rfl, b1⟩)
      | (go_at_call 9; (with_reducible refine (R1.out _).mono ?_); rintro e w' ⟨rfl, b1⟩)
      | (go_at_call 9; (with_reducible refine (R2.out _).mono ?_); rintro e w' ⟨rfl, b1⟩)
      | (go_at_call 10; (with_reducible refine (C3.out _).mono ?_); rintro e w' ⟨rfl, b1⟩))
  rename_i hHeld
  clear H f0 f1 f2 f3 f4 f5 f6 f7 f8 f9 f10 f11
  obtain ⟨f0, f1, f2, f3, f4, f5, f6, f7, f8, f9, f10, f11, hw1, hw2⟩ := hHeld
  have H := Lib.hid (And.intro hw2 hw1)
  clear hw1 hw2
  go_wp2_with fail
  go_region_held3 (fun W => W.cell? ⟨w.heap.size, 0, none⟩ = some (.int .u8 k) ∧ W.cell? ⟨w.heap.size, 1, none⟩ = some (.int .i64 n) ∧ W.cell? ⟨w.heap.size, 2, none⟩ = some (.int .u64 (b : Int)) ∧ W.cell? ⟨w.heap.size, 3, none⟩ = some (.string s) ∧ W.cell? ⟨w.heap.size + 1, 0, none⟩ = some (.int .u8 k') ∧ W.cell? ⟨w.heap.size + 1, 1, none⟩ = some (.int .i64 n') ∧ W.cell? ⟨w.heap.size + 1, 2, none⟩ = some (.int .u64 (b' : Int)) ∧ W.cell? ⟨w.heap.size + 1, 3, none⟩ = some (.string s') ∧ W.cell? ⟨w.heap.size + 1 + 1, 0, none⟩ = some (.int .u8 k'') ∧ W.cell? ⟨w.heap.size + 1 + 1, 1, none⟩ = some (.int .i64 n'') ∧ W.cell? ⟨w.heap.size + 1 + 1, 2, none⟩ = some (.int .u64 (b'' : Int)) ∧ W.cell? ⟨w.heap.size + 1 + 1, 3, none⟩ = some (.string s'') ∧ Below w.heap.size w W ∧ w.heap.size ≤ W.heap.size)
    (first | assumption | exact ⟨f0, f1, f2, f3, f4, f5, f6, f7, f8, f9, f10, f11, H.out.2.drew, H.out.1⟩ | exact keep12 (by assumption) (by assumption))
    (first
      | (go_at_call 9; (with_reducible refine (R0.out _).mono ?_); rintro e w' ⟨rfl, b1⟩)
      | (go_at_call 9; (with_reducible refine (R1.out _).mono ?_); rintro e w' ⟨rfl, b1⟩)
      | (go_at_call 9; (with_reducible refine (R2.out _).mono ?_); rintro e w' ⟨rfl, b1⟩)
      | (go_at_call 10; (with_reducible refine (C4.out _).mono ?_); rintro e w' ⟨rfl, b1⟩))
  rename_i hHeld
  clear H f0 f1 f2 f3 f4 f5 f6 f7 f8 f9 f10 f11
  obtain ⟨f0, f1, f2, f3, f4, f5, f6, f7, f8, f9, f10, f11, hw1, hw2⟩ := hHeld
  have H := Lib.hid (And.intro hw2 hw1)
  clear hw1 hw2
  clear R0 R1 R2 C1 C2 C3 C4 f0 f1 f2 f3 f4 f5 f6 f7 f8 f9 f10 f11
  have FX := Lib.hid fixed_any
  cases p
  · clear QT Q2 Q3
    rcases Q1.out with rfl | rfl | rfl <;> (go_wp2_with fail; refine (FX.out _).mono ?_; rintro e w' ⟨rfl, hb⟩; go_wp2_with fail; go_ret; exact ⟨rfl, below_go H.out.2 hb⟩)
  cases r
  · clear QT Q2 Q3
    rcases Q1.out with rfl | rfl | rfl <;> (go_wp2_with fail; refine (FX.out _).mono ?_; rintro e w' ⟨rfl, hb⟩; go_wp2_with fail; go_ret; exact ⟨rfl, below_go H.out.2 hb⟩)
  obtain ⟨rfl, t1, t2, t3⟩ := QT.out rfl rfl
  clear QT
  rcases Q1.out with rfl | rfl | rfl <;> rcases Q2.out with rfl | rfl | rfl <;> rcases Q3.out with rfl | rfl | rfl <;> first
    | (exfalso; revert t1 t2 t3; decide)
    | (clear t1 t2 t3 Q1 Q2 Q3; go_wp2_with fail; refine (FX.out _).mono ?_; rintro e w' ⟨rfl, hb⟩; go_wp2_with fail; go_ret; exact ⟨rfl, below_go H.out.2 hb⟩)
end Go.Proofs.Ytfhppababngiiaa
