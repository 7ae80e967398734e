/- Whether a test may be. -/
import Derived.Test.YtnjndlbhnkhlhaaDoorPdT
namespace Go.Proofs.YtnjndlbhnkhlhaaDoor
open Go Go.RowKit Pk Rl
set_option maxRecDepth 20000

def kok (o : Nat) (k : Int) : Bool := if o = 7 then decide (k = 0) else if o = 8 then decide (k = 3) else decide (k ≠ 0)
def rgt (t : TT) : Bool := decide (1 ≤ t.2.1 ∧ t.2.1 ≤ 8) && mayv t.2.2 && kok t.2.1.toNat t.2.2.1
theorem kok_table (o : Nat) (k : Int) (ho : o < 9) : (if k = 0 then sy o 0 else if k = 3 then sy o 2 else sy o 1) = (decide (1 ≤ o ∧ o ≤ 8) && kok o k) := by
  obtain rfl | rfl | rfl | rfl | rfl | rfl | rfl | rfl | rfl : o = 0 ∨ o = 1 ∨ o = 2 ∨ o = 3 ∨ o = 4 ∨ o = 5 ∨ o = 6 ∨ o = 7 ∨ o = 8 := by omega
  all_goals
    by_cases k0 : k = 0
    · subst k0; decide
    · by_cases k3 : k = 3
      · subst k3; decide
      · simp [k0, k3, kok, sy, says]

structure Tbx (w W : World) (g : Nat) (t : TT) : Prop where
  at_ : Att W g 0 t
  bel : Below w.heap.size w W
theorem Tbx.start (w : World) (t : TT) : Tbx w (w.alloc (tobj t)) w.heap.size t := by
  refine ⟨⟨?_, ?_, ?_, ?_, ?_, ?_⟩, below_alloc w _⟩ <;> simp [go_sem]
theorem Tbx.next {w W W' : World} {g : Nat} {t : TT} (h : Tbx w W g t) (hb : Below W.heap.size W W') : Tbx w W' g t := ⟨h.at_.below hb, below_go h.bel hb⟩

set_option maxHeartbeats 1000000 in
theorem mayTest_walk (f : Int) (o : Nat) (k n : Int) (r : Nat) (s : ByteArray) (m s0 s1 s2 s3 s4 s5 : Bool) (ho : o < 9) (w : World) (hT : Tab w)
    (e0 : sy o 0 = s0) (e1 : sy o 1 = s1) (e2 : sy o 2 = s2) (e3 : sy o 3 = s3) (e4 : sy o 4 = s4) (e5 : sy o 5 = s5)
    (M : Hid (∀ w, Calls Tryd.prog 57 #[vl k n r s] w fun e w' => e = .returned (.bool m) ∧ Below w.heap.size w w')) :
    Calls Tryd.prog 51 #[tOf (f, (o : Int), k, n, r, s)] w fun e w' => e = .returned (.bool (m && (if k = 0 then s0 else if k = 3 then s2 else s1))) ∧ Below w.heap.size w w' := by
  have B0 := Lib.hid (Tbx.start w (f, (o : Int), k, n, r, s))
  have T0 := Lib.hid (hT.below (below_alloc w (tobj (f, (o : Int), k, n, r, s))))
  clear hT
  obtain ⟨R, hR⟩ : ∃ R, (m && (if k = 0 then s0 else if k = 3 then s2 else s1)) = R := ⟨_, rfl⟩
  rw [hR]
  have HR := Lib.hid hR
  clear hR
  go_enter Tryd.func51, Tryd.ntmps51
  go_wp2_with fail
  refine (M.out _).mono ?_
  rintro e w2 ⟨rfl, hb⟩
  have B2 := Lib.hid (B0.out.next hb)
  have T2 := Lib.hid (T0.out.below hb)
  clear hb M B0 T0
  obtain ⟨c0, c1, c2, c3, c4, c5⟩ := B2.out.at_
  have z0 : w.heap.size < w2.heap.size := World.block_lt_of_cell? _ _ c0
  have d0 := T2.out o 0 ho (by omega)
  have d1 := T2.out o 1 ho (by omega)
  have d2 := T2.out o 2 ho (by omega)
  have d3 := T2.out o 3 ho (by omega)
  have d4 := T2.out o 4 ho (by omega)
  have d5 := T2.out o 5 ho (by omega)
  rw [e0, Nat.add_zero] at d0
  rw [e1] at d1
  rw [e2] at d2
  rw [e3] at d3
  rw [e4] at d4
  rw [e5] at d5
  clear e0 e1 e2 e3 e4 e5 T2
  cases m
  · go_wp2_with fail
    go_ret
    exact ⟨ret_bool (by rw [← HR.out]; rfl), B2.out.bel⟩
  · rw [Bool.true_and] at HR
    have BB := Lib.hid (B2.out.bel)
    have hle : w.heap.size ≤ w2.heap.size := by omega
    by_cases k0 : k = 0
    · subst k0
      rw [if_pos rfl] at HR
      go_wp2_with fail
      go_ret
      exact ⟨ret_bool HR.out, BB.out.alloc hle _⟩
    · rw [if_neg k0] at HR
      have q0 : (k == 0) = false := by simpa using k0
      by_cases k3 : k = 3
      · subst k3
        rw [if_pos rfl] at HR
        go_wp2_with fail
        go_ret
        exact ⟨ret_bool HR.out, BB.out.alloc hle _⟩
      · rw [if_neg k3] at HR
        have q3 : (k == 3) = false := by simpa using k3
        go_wp2_with fail
        go_ret
        exact ⟨ret_bool HR.out, BB.out.alloc hle _⟩
set_option maxHeartbeats 1000000 in
theorem mayTest_big (f : Int) (o : Nat) (k n : Int) (r : Nat) (s : ByteArray) (ho : ¬ o < 9) (h256 : o < 256) (w : World) :
    Calls Tryd.prog 51 #[tOf (f, (o : Int), k, n, r, s)] w fun e w' => e = .returned (.bool false) ∧ Below w.heap.size w w' := by
  have B0 := Lib.hid (below_alloc w (tobj (f, (o : Int), k, n, r, s)))
  have t2 : (9 : Int) ≤ (o : Int) := by omega
  clear ho
  go_enter Tryd.func51, Tryd.ntmps51
  go_wp2_with fail
  go_ret
  exact ⟨rfl, B0.out⟩
theorem rgt_low (f : Int) (o : Nat) (v : VV) (ho : o < 9) : rgt (f, (o : Int), v) = (mayv v && (if v.1 = 0 then sy o 0 else if v.1 = 3 then sy o 2 else sy o 1)) := by
  rw [kok_table o v.1 ho]
  unfold rgt
  simp only [Int.toNat_natCast]
  have : (decide (1 ≤ (o : Int) ∧ (o : Int) ≤ 8)) = decide (1 ≤ o ∧ o ≤ 8) := by rw [Bool.eq_iff_iff]; simp; omega
  rw [this]
  cases decide (1 ≤ o ∧ o ≤ 8) <;> cases mayv v <;> simp
theorem rgt_big (f : Int) (o : Nat) (v : VV) (ho : ¬ o < 9) : rgt (f, (o : Int), v) = false := by
  unfold rgt
  have : (decide (1 ≤ (o : Int) ∧ (o : Int) ≤ 8)) = false := by simp; omega
  rw [this]; rfl
theorem mayTest_any (t : TT) (h : Okt t) (w : World) (hT : Tab w) :
    Calls Tryd.prog 51 #[tOf t] w fun e w' => e = .returned (.bool (rgt t)) ∧ Below w.heap.size w w' := by
  obtain ⟨f, o, k, n, r, s⟩ := t
  obtain ⟨q, rfl⟩ : ∃ q : Nat, o = (q : Int) := ⟨o.toNat, by have : 0 ≤ o := h.o0; omega⟩
  by_cases ho : q < 9
  · rw [rgt_low f q (k, n, r, s) ho]
    exact mayTest_walk f q k n r s _ _ _ _ _ _ _ ho w hT rfl rfl rfl rfl rfl rfl (Lib.hid fun w => may_any k n r s h.v.re w)
  · rw [rgt_big f q (k, n, r, s) ho]
    exact mayTest_big f q k n r s ho (by have : (q : Int) < 256 := h.o1; omega) w
set_option maxHeartbeats 1000000 in
theorem right_walk (f : Int) (o : Nat) (k n : Int) (r : Nat) (s : ByteArray) (m : Bool) (h1 : 1 ≤ o) (h8 : o ≤ 8) (w : World)
    (M : Hid (∀ w, Calls Tryd.prog 47 #[vl k n r s] w fun e w' => e = .returned (.bool m) ∧ Below w.heap.size w w')) :
    Calls Tryd.prog 37 #[tOf (f, (o : Int), k, n, r, s)] w fun e w' => e = .returned (.bool (m && kok o k)) ∧ Below w.heap.size w w' := by
  have B0 := Lib.hid (Tbx.start w (f, (o : Int), k, n, r, s))
  obtain ⟨R, hR⟩ : ∃ R, (m && kok o k) = R := ⟨_, rfl⟩
  rw [hR]
  have HR := Lib.hid hR
  clear hR
  have t1 : ¬ (o : Int) < 1 := by omega
  have t2 : ¬ (8 : Int) < (o : Int) := by omega
  go_enter Tryd.func37, Tryd.ntmps37
  go_wp2_with fail
  refine (M.out _).mono ?_
  rintro e w2 ⟨rfl, hb⟩
  have B2 := Lib.hid (B0.out.next hb)
  clear hb M B0
  obtain ⟨c0, c1, c2, c3, c4, c5⟩ := B2.out.at_
  have BB := Lib.hid (B2.out.bel)
  cases m
  · go_wp2_with fail
    go_ret
    exact ⟨ret_bool (by rw [← HR.out]; rfl), BB.out⟩
  · rw [Bool.true_and] at HR
    unfold kok at HR
    by_cases o7 : o = 7
    · subst o7
      rw [if_pos rfl] at HR
      go_wp2_with fail
      go_ret
      exact ⟨ret_bool (by rw [← HR.out, Bool.eq_iff_iff]; simp), BB.out⟩
    · rw [if_neg o7] at HR
      have q7 : ((o : Int) == 7) = false := by simp; omega
      by_cases o8 : o = 8
      · subst o8
        rw [if_pos rfl] at HR
        go_wp2_with fail
        go_ret
        exact ⟨ret_bool (by rw [← HR.out, Bool.eq_iff_iff]; simp), BB.out⟩
      · rw [if_neg o8] at HR
        have q8 : ((o : Int) == 8) = false := by simp; omega
        go_wp2_with fail
        go_ret
        exact ⟨ret_bool (by rw [← HR.out, Bool.eq_iff_iff]; simp), BB.out⟩
set_option maxHeartbeats 1000000 in
theorem right_out (f : Int) (o : Nat) (k n : Int) (r : Nat) (s : ByteArray) (h : ¬ (1 ≤ o ∧ o ≤ 8)) (w : World) :
    Calls Tryd.prog 37 #[tOf (f, (o : Int), k, n, r, s)] w fun e w' => e = .returned (.bool false) ∧ Below w.heap.size w w' := by
  have B0 := Lib.hid (below_alloc w (tobj (f, (o : Int), k, n, r, s)))
  by_cases h1 : o < 1
  · clear h
    go_enter Tryd.func37, Tryd.ntmps37
    go_wp2_with fail
    go_ret
    exact ⟨rfl, B0.out⟩
  · have t1 : ¬ (o : Int) < 1 := by omega
    have t2 : (8 : Int) < (o : Int) := by omega
    clear h
    go_enter Tryd.func37, Tryd.ntmps37
    go_wp2_with fail
    go_ret
    exact ⟨rfl, B0.out⟩
theorem right_any (t : TT) (h : Okt t) (w : World) :
    Calls Tryd.prog 37 #[tOf t] w fun e w' => e = .returned (.bool (rgt t)) ∧ Below w.heap.size w w' := by
  obtain ⟨f, o, k, n, r, s⟩ := t
  obtain ⟨q, rfl⟩ : ∃ q : Nat, o = (q : Int) := ⟨o.toNat, by have : 0 ≤ o := h.o0; omega⟩
  by_cases ho : 1 ≤ q ∧ q ≤ 8
  · have e : rgt (f, (q : Int), k, n, r, s) = (mayv (k, n, r, s) && kok q k) := by
      unfold rgt
      simp only [Int.toNat_natCast]
      have : (decide (1 ≤ (q : Int) ∧ (q : Int) ≤ 8)) = true := by simp; omega
      rw [this, Bool.true_and]
    rw [e]
    exact right_walk f q k n r s _ ho.1 ho.2 w (Lib.hid fun w => rmay_any k n r s h.v.k0 w)
  · have e : rgt (f, (q : Int), k, n, r, s) = false := by
      unfold rgt
      have : (decide (1 ≤ (q : Int) ∧ (q : Int) ≤ 8)) = false := by simp; omega
      rw [this]; rfl
    rw [e]
    exact right_out f q k n r s ho w
end Go.Proofs.YtnjndlbhnkhlhaaDoor
