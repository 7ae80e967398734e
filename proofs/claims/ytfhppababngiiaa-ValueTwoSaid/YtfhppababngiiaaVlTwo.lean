/- ValueTwo: the walk of the statement's own function. -/
import Derived.Test.YtfhppababngiiaaVlRaw
import Derived.Test.YtfhppababngiiaaVlRCmp
import Derived.Deep.DeepCutAuto
namespace Go.Proofs.Ytfhppababngiiaa
open Go Go.RowKit Rl

theorem keep8 {w W W' : World} {m : Nat} {p0 p1 p2 p3 p4 p5 p6 p7 : Addr} {x0 x1 x2 x3 x4 x5 x6 x7 : Value}
    (h : W.cell? p0 = some x0 ∧ W.cell? p1 = some x1 ∧ W.cell? p2 = some x2 ∧ W.cell? p3 = some x3 ∧ W.cell? p4 = some x4 ∧ W.cell? p5 = some x5 ∧ W.cell? p6 = some x6 ∧ W.cell? p7 = some x7 ∧ Below m w W ∧ m ≤ W.heap.size) (hb : Below W.heap.size W W') :
    W'.cell? p0 = some x0 ∧ W'.cell? p1 = some x1 ∧ W'.cell? p2 = some x2 ∧ W'.cell? p3 = some x3 ∧ W'.cell? p4 = some x4 ∧ W'.cell? p5 = some x5 ∧ W'.cell? p6 = some x6 ∧ W'.cell? p7 = some x7 ∧ Below m w W' ∧ m ≤ W'.heap.size := by
  obtain ⟨h0, h1, h2, h3, h4, h5, h6, h7, hw, hz⟩ := h
  have z := hb.size
  refine ⟨?_, ?_, ?_, ?_, ?_, ?_, ?_, ?_, hw.trans (hb.mono hz), by omega⟩
  · rw [hb.cell (World.block_lt_of_cell? _ _ h0)]; exact h0
  · rw [hb.cell (World.block_lt_of_cell? _ _ h1)]; exact h1
  · rw [hb.cell (World.block_lt_of_cell? _ _ h2)]; exact h2
  · rw [hb.cell (World.block_lt_of_cell? _ _ h3)]; exact h3
  · rw [hb.cell (World.block_lt_of_cell? _ _ h4)]; exact h4
  · rw [hb.cell (World.block_lt_of_cell? _ _ h5)]; exact h5
  · rw [hb.cell (World.block_lt_of_cell? _ _ h6)]; exact h6
  · rw [hb.cell (World.block_lt_of_cell? _ _ h7)]; exact h7

/- all that lies below m is as it was in w1 -/
theorem mkS {m : Nat} {w1 W : World} (h : Below m w1 W) (z : m ≤ W.heap.size) : (∀ a j, a < m → W.cell? ⟨a, j, none⟩ = w1.cell? ⟨a, j, none⟩) ∧ Hid (Below m w1 W ∧ m ≤ W.heap.size) :=
  ⟨fun a j ha => h.cell (p := ⟨a, j, none⟩) ha, Lib.hid ⟨h, z⟩⟩
theorem sB {m : Nat} {w1 W : World} (h : (∀ a j, a < m → W.cell? ⟨a, j, none⟩ = w1.cell? ⟨a, j, none⟩) ∧ Hid (Below m w1 W ∧ m ≤ W.heap.size)) : Below m w1 W := h.2.out.1
theorem sZ {m : Nat} {w1 W : World} (h : (∀ a j, a < m → W.cell? ⟨a, j, none⟩ = w1.cell? ⟨a, j, none⟩) ∧ Hid (Below m w1 W ∧ m ≤ W.heap.size)) : m ≤ W.heap.size := h.2.out.2
theorem sCall {m : Nat} {w1 W W' : World} (hb : Below W.heap.size W W') (h : (∀ a j, a < m → W.cell? ⟨a, j, none⟩ = w1.cell? ⟨a, j, none⟩) ∧ Hid (Below m w1 W ∧ m ≤ W.heap.size)) :
    (∀ a j, a < m → W'.cell? ⟨a, j, none⟩ = w1.cell? ⟨a, j, none⟩) ∧ Hid (Below m w1 W' ∧ m ≤ W'.heap.size) :=
  mkS ((sB h).trans (hb.mono (sZ h))) (Nat.le_trans (sZ h) hb.size)

theorem start8 (k n : Int) (b : Nat) (s : ByteArray) (k' n' : Int) (b' : Nat) (s' : ByteArray) (w : World) (W : World) (hW : W = (w.alloc (rcells k n b s)).alloc (rcells k' n' b' s')) :
    W.cell? ⟨w.heap.size, 0, none⟩ = some (.int .u8 k) ∧ W.cell? ⟨w.heap.size, 1, none⟩ = some (.int .i64 n) ∧ W.cell? ⟨w.heap.size, 2, none⟩ = some (.int .u64 (b : Int)) ∧ W.cell? ⟨w.heap.size, 3, none⟩ = some (.string s) ∧ W.cell? ⟨w.heap.size + 1, 0, none⟩ = some (.int .u8 k') ∧ W.cell? ⟨w.heap.size + 1, 1, none⟩ = some (.int .i64 n') ∧ W.cell? ⟨w.heap.size + 1, 2, none⟩ = some (.int .u64 (b' : Int)) ∧ W.cell? ⟨w.heap.size + 1, 3, none⟩ = some (.string s') ∧ Below w.heap.size w W ∧ w.heap.size ≤ W.heap.size := by
  subst hW
  refine ⟨?_, ?_, ?_, ?_, ?_, ?_, ?_, ?_, ((Below.refl w.heap.size w).alloc (Nat.le_refl _) _).alloc (by simp) _, by simp; omega⟩ <;> simp [go_sem]

set_option maxHeartbeats 8000000 in
set_option maxRecDepth 100000 in
theorem two_small (k n : Int) (b : Nat) (s : ByteArray) (k' n' : Int) (b' : Nat) (s' : ByteArray) (c : Int) (o m m' q : Bool) (h0 : decide ((2000 : Int) < (s.size : Int)) = false) (h1 : decide ((2000 : Int) < (s'.size : Int)) = false)
    (R0 : Hid (∀ w, Calls Try.prog 9 #[rw4 k n b s] w fun e w' => e = .returned (vl k n b s) ∧ Below w.heap.size w w'))
    (R1 : Hid (∀ w, Calls Try.prog 9 #[rw4 k' n' b' s'] w fun e w' => e = .returned (vl k' n' b' s') ∧ Below w.heap.size w w'))
    (C1 : Hid (∀ w, Calls Try.prog 10 #[vl k n b s, vl k' n' b' s'] w fun e w' => e = .returned (.tuple #[.int .i64 c, .bool o]) ∧ Below w.heap.size w w'))
    (C2 : Hid (∀ w, Calls Try.prog 11 #[vl k n b s, vl k' n' b' s'] w fun e w' => e = .returned (.tuple #[.int .i64 c, .bool o]) ∧ Below w.heap.size w w'))
    (M1 : Hid (∀ w, Calls Try.prog 12 #[vl k n b s] w fun e w' => e = .returned (.bool m) ∧ Below w.heap.size w w'))
    (M2 : Hid (∀ w, Calls Try.prog 13 #[vl k n b s] w fun e w' => e = .returned (.bool m) ∧ Below w.heap.size w w'))
    (M3 : Hid (∀ w, Calls Try.prog 12 #[vl k' n' b' s'] w fun e w' => e = .returned (.bool m') ∧ Below w.heap.size w w'))
    (M4 : Hid (∀ w, Calls Try.prog 13 #[vl k' n' b' s'] w fun e w' => e = .returned (.bool m') ∧ Below w.heap.size w w'))
    (E1 : Hid (∀ w, Calls Try.prog 14 #[vl k n b s, vl k' n' b' s'] w fun e w' => e = .returned (.bool q) ∧ Below w.heap.size w w'))
    (E2 : Hid (∀ w, Calls Try.prog 15 #[vl k n b s, vl k' n' b' s'] w fun e w' => e = .returned (.bool q) ∧ Below w.heap.size w w'))
    (w : World) :
    Calls Try.prog 3 #[rw4 k n b s, rw4 k' n' b' s'] w fun e w' => e = .returned (.bool true) ∧ Below w.heap.size w w' := by
  have T0 := Lib.hid (start8 k n b s k' n' b' s' w _ rfl)
  have G := Lib.hid (fun g w hg c0 c1 c2 c3 c4 c5 c6 c7 => great2_2 g k n b s k' n' b' s' w hg c0 c1 c2 c3 c4 c5 c6 c7 h0 h1)
  clear h0 h1
  have sf := run_store_float
  go_enter Try.func3, Try.ntmps3
  go_wp2_with fail
  refine (G.out _ _ (by simp) (by simp [go_sem]) (by simp [go_sem]) (by simp [go_sem]) (by simp [go_sem]) (by simp [go_sem]) (by simp [go_sem]) (by simp [go_sem]) (by simp [go_sem])).mono ?_
  rintro e w1 ⟨rfl, hb⟩
  obtain ⟨f0, f1, f2, f3, f4, f5, f6, f7, hw1, hw2⟩ := keep8 T0.out (((Below.refl _ _).alloc (Nat.le_refl _) _).trans (hb.mono (by simp)))
  have H := Lib.hid (And.intro hw2 hw1)
  clear hw1 hw2 hb T0 G
  have Z := Lib.hid (World.block_lt_of_cell? _ _ f7)
  go_upto_region 3 with fail
  go_cut [5, 6] from 16 to 19 (fun v5 v6 wx => ∃ g g2, v5 = .pointer (some ⟨g, 0, none⟩) ∧ v6 = .pointer (some ⟨g2, 0, none⟩) ∧ Hid ((wx.cell? ⟨g, 0, none⟩ = some (.int .u8 k) ∧ wx.cell? ⟨g, 1, none⟩ = some (.int .i64 n) ∧ wx.cell? ⟨g, 2, none⟩ = some (.float .f64 b) ∧ wx.cell? ⟨g, 3, none⟩ = some (.string s) ∧ wx.cell? ⟨g2, 0, none⟩ = some (.int .u8 k') ∧ wx.cell? ⟨g2, 1, none⟩ = some (.int .i64 n') ∧ wx.cell? ⟨g2, 2, none⟩ = some (.float .f64 b') ∧ wx.cell? ⟨g2, 3, none⟩ = some (.string s')) ∧ Below w.heap.size w wx))
  case first =>
    clear C1 C2 M1 M2 M3 M4 E1 E2
    have ZZ : Hid (w.heap.size + 1 + 1 ≤ w1.heap.size) := Lib.hid Z.out
    have kS0 := mkS (Below.refl (w.heap.size + 1 + 1) w1).drew Z.out
    go_region_held3 (fun W => (∀ a j, a < w.heap.size + 1 + 1 → W.cell? ⟨a, j, none⟩ = w1.cell? ⟨a, j, none⟩) ∧ Hid (Below (w.heap.size + 1 + 1) w1 W ∧ w.heap.size + 1 + 1 ≤ W.heap.size))
      (first
        | (with_reducible assumption)
        | (with_reducible apply sCall; assumption; assumption)
        | (refine mkS ?_ ?_ <;> repeat' (first
            | (with_reducible apply sB; assumption)
            | (with_reducible apply sZ; assumption)
            | (with_reducible refine Below.alloc ?_ ?_ _)
            | (with_reducible refine Below.setCell ?_ ?_ _)
            | (with_reducible refine Below.drew ?_)
            | (rw [World.size_alloc])
            | (rw [World.size_setCell])
            | (rw [World.size_drew])
            | (with_reducible exact Below.refl _ _)
            | (with_reducible exact ZZ.out)
            | (with_reducible refine Nat.le_add_right_of_le ?_)
            | (dsimp only))))
      (first
        | (go_at_call 9; (with_reducible refine (R0.out _).mono ?_); rintro e w' ⟨rfl, b1⟩; have kS := sCall b1 (by assumption); have qc := fun a j (h : a < _) => b1.cell (p := ⟨a, j, none⟩) h; have qf := fun a j (h : a < _) => b1.frozen (p := ⟨a, j, none⟩) h; have z4 := fun a (h : a < _) => Nat.lt_of_lt_of_le h b1.size; have z := b1.size; try (simp only [World.size_alloc, World.size_drew] at z); try (have z2 := Nat.lt_of_succ_le z; try (have z3 := Nat.lt_of_succ_lt z2)))
        | (go_at_call 9; (with_reducible refine (R1.out _).mono ?_); rintro e w' ⟨rfl, b1⟩; have kS := sCall b1 (by assumption); have qc := fun a j (h : a < _) => b1.cell (p := ⟨a, j, none⟩) h; have qf := fun a j (h : a < _) => b1.frozen (p := ⟨a, j, none⟩) h; have z4 := fun a (h : a < _) => Nat.lt_of_lt_of_le h b1.size; have z := b1.size; try (simp only [World.size_alloc] at z); try (have z2 := Nat.lt_of_succ_le z; try (have z3 := Nat.lt_of_succ_lt z2))))
    all_goals (rename_i hHeld; go_wp2_with fail; go_meet; refine ⟨_, _, rfl, rfl, Lib.hid ⟨?_, H.out.2.trans ((sB hHeld).mono (by omega))⟩⟩; refine ⟨?_, ?_, ?_, ?_, ?_, ?_, ?_, ?_⟩ <;> first | (go_simp; done) | (simp (maxDischargeDepth := 8) [go_sem, *]; done))
  case rest =>
  obtain ⟨g, g2, rfl, rfl, HC⟩ := hcut
  clear R0 R1 sf f0 f1 f2 f3 f4 f5 f6 f7 H Z
  obtain ⟨⟨e0, e1, e2, e3, e4, e5, e6, e7⟩, hbw⟩ := HC.out
  have H := Lib.hid (And.intro hbw.size hbw)
  clear hbw HC
  go_wp2_with fail
  refine (C1.out _).mono ?_
  rintro e w2 ⟨rfl, b1⟩
  obtain ⟨x0, x1, x2, x3, x4, x5, x6, x7, hw1, hw2⟩ := keep8 ⟨e0, e1, e2, e3, e4, e5, e6, e7, H.out.2, H.out.1⟩ b1
  clear b1 e0 e1 e2 e3 e4 e5 e6 e7 H
  have H := Lib.hid (And.intro hw2 hw1)
  clear hw1 hw2
  go_wp2_with fail
  refine (C2.out _).mono ?_
  rintro e w3 ⟨rfl, b1⟩
  obtain ⟨e0, e1, e2, e3, e4, e5, e6, e7, hw1, hw2⟩ := keep8 ⟨x0, x1, x2, x3, x4, x5, x6, x7, H.out.2, H.out.1⟩ b1
  clear b1 x0 x1 x2 x3 x4 x5 x6 x7 H
  have H := Lib.hid (And.intro hw2 hw1)
  clear hw1 hw2 C1 C2
  have FX := Lib.hid fixed_any
  have i1 : (m == m) = true := by simp
  have i2 : (m' == m') = true := by simp
  have i3 : (q == q) = true := by simp
  have i4 : (c == c) = true := by simp
  have i5 : (o == o) = true := by simp
  go_wp2_with fail
  go_region_held3 (fun W => W.cell? ⟨g, 0, none⟩ = some (.int .u8 k) ∧ W.cell? ⟨g, 1, none⟩ = some (.int .i64 n) ∧ W.cell? ⟨g, 2, none⟩ = some (.float .f64 b) ∧ W.cell? ⟨g, 3, none⟩ = some (.string s) ∧ W.cell? ⟨g2, 0, none⟩ = some (.int .u8 k') ∧ W.cell? ⟨g2, 1, none⟩ = some (.int .i64 n') ∧ W.cell? ⟨g2, 2, none⟩ = some (.float .f64 b') ∧ W.cell? ⟨g2, 3, none⟩ = some (.string s') ∧ Below w.heap.size w W ∧ w.heap.size ≤ W.heap.size)
    (first | (with_reducible assumption) | exact ⟨e0, e1, e2, e3, e4, e5, e6, e7, H.out.2.drew, H.out.1⟩ | (apply keep8; assumption; assumption))
    (first
      | (go_at_call 8; (with_reducible refine (FX.out _).mono ?_); rintro e w' ⟨rfl, b1⟩)
      | (go_at_call 12; (with_reducible refine (M1.out _).mono ?_); rintro e w' ⟨rfl, b1⟩)
      | (go_at_call 12; (with_reducible refine (M3.out _).mono ?_); rintro e w' ⟨rfl, b1⟩)
      | (go_at_call 13; (with_reducible refine (M2.out _).mono ?_); rintro e w' ⟨rfl, b1⟩)
      | (go_at_call 13; (with_reducible refine (M4.out _).mono ?_); rintro e w' ⟨rfl, b1⟩)
      | (go_at_call 14; (with_reducible refine (E1.out _).mono ?_); rintro e w' ⟨rfl, b1⟩)
      | (go_at_call 15; (with_reducible refine (E2.out _).mono ?_); rintro e w' ⟨rfl, b1⟩))
  rename_i hHeld
  have HB := Lib.hid hHeld.2.2.2.2.2.2.2.2.1
  clear hHeld
  go_wp2_with fail
  go_ret
  exact ⟨rfl, HB.out⟩

set_option maxHeartbeats 2000000 in
set_option maxRecDepth 100000 in
theorem two_great (k n : Int) (b : Nat) (s : ByteArray) (k' n' : Int) (b' : Nat) (s' : ByteArray) (hG : (decide ((2000 : Int) < (s.size : Int)) || decide ((2000 : Int) < (s'.size : Int))) = true) (w : World) :
    Calls Try.prog 3 #[rw4 k n b s, rw4 k' n' b' s'] w fun e w' => e = .returned (.bool true) ∧ Below w.heap.size w w' := by
  have T0 := Lib.hid (start8 k n b s k' n' b' s' w _ rfl)
  have G := Lib.hid (fun g w hg c0 c1 c2 c3 c4 c5 c6 c7 => great2_any g k n b s k' n' b' s' w hg c0 c1 c2 c3 c4 c5 c6 c7)
  rw [hG] at G
  clear hG
  have FX := Lib.hid fixed_any
  go_enter Try.func3, Try.ntmps3
  go_wp2_with fail
  refine (G.out _ _ (by simp) (by simp [go_sem]) (by simp [go_sem]) (by simp [go_sem]) (by simp [go_sem]) (by simp [go_sem]) (by simp [go_sem]) (by simp [go_sem]) (by simp [go_sem])).mono ?_
  rintro e w1 ⟨rfl, hb⟩
  obtain ⟨f0, f1, f2, f3, f4, f5, f6, f7, hw1, hw2⟩ := keep8 T0.out (((Below.refl _ _).alloc (Nat.le_refl _) _).trans (hb.mono (by simp)))
  have H := Lib.hid (And.intro hw2 hw1)
  clear hw1 hw2 hb T0 G f0 f1 f2 f3 f4 f5 f6 f7
  go_wp2_with fail
  refine (FX.out _).mono ?_
  rintro e w' ⟨rfl, hb⟩
  go_wp2_with fail
  go_ret
  exact ⟨rfl, below_go H.out.2 hb⟩
theorem two_walk (k n : Int) (b : Nat) (s : ByteArray) (k' n' : Int) (b' : Nat) (s' : ByteArray) (w : World) (k0 : 0 ≤ k) (k1 : 0 ≤ k') (x0 : -9223372036854775808 ≤ n) (y0 : n ≤ 9223372036854775807) (z0 : b < 18446744073709551616) (x1 : -9223372036854775808 ≤ n') (y1 : n' ≤ 9223372036854775807) (z1 : b' < 18446744073709551616) :
    Calls Try.prog 3 #[rw4 k n b s, rw4 k' n' b' s'] w fun e w' => e = .returned (.bool true) ∧ Below w.heap.size w w' := by
  cases hG : (decide ((2000 : Int) < (s.size : Int)) || decide ((2000 : Int) < (s'.size : Int)))
  · simp only [Bool.or_eq_false_iff] at hG
    obtain ⟨g0, g1⟩ := hG
    have l0 := of_decide_eq_false g0
    have l1 := of_decide_eq_false g1
    exact two_small k n b s k' n' b' s' _ _ _ _ _ g0 g1 (Lib.hid fun w => raw_any k n b s w) (Lib.hid fun w => raw_any k' n' b' s' w)
      (Lib.hid fun w => vcmp_any k n b s k' n' b' s' x0 y0 z0 x1 y1 z1 w) (Lib.hid fun w => rcmp_any k n b s k' n' b' s' k0 k1 x0 y0 z0 x1 y1 z1 (by omega) (by omega) w)
      (Lib.hid fun w => may_any k n b s z0 w) (Lib.hid fun w => rmay_any k n b s k0 w) (Lib.hid fun w => may_any k' n' b' s' z1 w) (Lib.hid fun w => rmay_any k' n' b' s' k1 w)
      (Lib.hid fun w => vsame_any k n b s k' n' b' s' z0 z1 w) (Lib.hid fun w => rvsame_any k n b s k' n' b' s' z0 z1 w) w
  · exact two_great k n b s k' n' b' s' hG w
end Go.Proofs.Ytfhppababngiiaa
