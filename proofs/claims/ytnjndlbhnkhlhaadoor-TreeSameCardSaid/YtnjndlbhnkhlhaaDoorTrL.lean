/- The document's Tree, Depth and Places of trees. -/
import Derived.Test.YtnjndlbhnkhlhaaDoorTrK
namespace Go.Proofs.YtnjndlbhnkhlhaaDoor
open Go Go.RowKit Pk Rl
set_option maxRecDepth 20000

theorem foldl_mem (F G : Int → List Nd → Int) (ps : List (List Nd)) (h : ∀ m, ∀ p ∈ ps, F m p = G m p) (m : Int) : ps.foldl F m = ps.foldl G m := by
  induction ps generalizing m with
  | nil => rfl
  | cons p ps ih => rw [List.foldl_cons, List.foldl_cons, h m p (by simp), ih (fun m q hq => h m q (by simp [hq]))]
theorem dpt_fuel (k : Nat) (l : List Nd) (h : l.length < k) : dpt (k + 1) l = dpt k l := by
  induction k generalizing l with
  | zero => omega
  | succ k ih =>
    show (pts l).foldl (fun m p => max m (1 + dpt (k + 1) p)) 0 = (pts l).foldl (fun m p => max m (1 + dpt k p)) 0
    exact foldl_mem _ _ _ (fun m p hp => by rw [ih p (by have := (pts_mem p hp).2.2.1; omega)]) _
theorem plT_fuel (k : Nat) (l : List Nd) (h : l.length < k) : plT (k + 1) l = plT k l := by
  induction k generalizing l with
  | zero => omega
  | succ k ih =>
    have e : (pts l).foldl (fun m p => wrap64 (m + plT (k + 1) p)) 0 = (pts l).foldl (fun m p => wrap64 (m + plT k p)) 0 :=
      foldl_mem _ _ _ (fun m p hp => by rw [ih p (by have := (pts_mem p hp).2.2.1; omega)]) _
    rw [plT, plT, e]
theorem all_mem (F G : List Nd → Bool) (ps : List (List Nd)) (h : ∀ p ∈ ps, F p = G p) : ps.all F = ps.all G := by
  induction ps with
  | nil => rfl
  | cons p ps ih => rw [List.all_cons, List.all_cons, h p (by simp), ih (fun q hq => h q (by simp [hq]))]
theorem fmT_fuel (k : Nat) (l : List Nd) (h : l.length < k) : fmT (k + 1) l = fmT k l := by
  induction k generalizing l with
  | zero => omega
  | succ k ih =>
    rw [fmT, fmT, all_mem (fmT (k + 1)) (fmT k) (pts l) (fun p hp => ih p (by have := (pts_mem p hp).2.2.1; omega))]
/- what Tree answers -/
def TR (k : Nat) (w : World) (n : Nat) (L : List Nd) (e : Ending) (w' : World) : Prop :=
  ∃ nd A m C, e = .returned (.tuple #[tOfT nd A m C, .bool (bld k L && decide ((frn L).length = n))]) ∧
    (bld k L = true → nd = L.headD nz ∧ m = (pts L).length ∧ Trs k w' (fun b => w.heap.size ≤ b ∧ b < w'.heap.size) A (pts L)) ∧ Below w.heap.size w w'
set_option maxHeartbeats 2000000 in
theorem rtree_any (k : Nat) (a : Option Addr) (n c : Nat) (L : List Nd) (w : World) (hk : n < k) (hP : Pt w a n c L) :
    Calls Tryd.prog 12 #[.slice a n c] w (TR k w n L) := by
  have B0 := Lib.hid (below_alloc w (tobjT nz none 0 0))
  have I := Lib.hid (build_any k a n c L (w.alloc (tobjT nz none 0 0)) 0 n (by omega) (Nat.le_refl _) (by omega) (hP.below B0.out))
  have e0 : sub L 0 n = L := by unfold sub; rw [List.drop_zero, List.take_of_length_le (by rw [hP.len]; exact Nat.le_refl _)]
  rw [e0] at I
  have R0 := Lib.hid (Trb.start w nz none 0 0)
  obtain ⟨z, hz0⟩ : ∃ z, bld k L = z := ⟨_, rfl⟩
  obtain ⟨q, hq⟩ : ∃ q, (frn L).length = q := ⟨_, rfl⟩
  have I2 : Hid (Calls Tryd.prog 29 #[.slice a n c, .int .i64 0, .int .i64 (n : Int)] (w.alloc (tobjT nz none 0 0)) fun e w' => ∃ nd A m C N, e = .returned (.tuple #[tOfT nd A m C, .int .i64 (N : Int), .bool z]) ∧ Hid (z = true → nd = L.headD nz ∧ m = (pts L).length ∧ N = (q : Int) ∧ Trs k w' (fun b => w.heap.size + 1 ≤ b ∧ b < w'.heap.size) A (pts L)) ∧ Below (w.alloc (tobjT nz none 0 0)).heap.size (w.alloc (tobjT nz none 0 0)) w') := Lib.hid (I.out.mono (by
    rintro e w' ⟨⟨nd', A', m', C', N, e1, h2⟩, hb⟩
    rw [hz0] at e1 h2
    refine ⟨nd', A', m', C', N, e1, Lib.hid (fun hzt => ?_), hb⟩
    obtain ⟨g1, g2, g3, g4⟩ := h2 hzt
    refine ⟨g1, g2, by rw [g3, hq]; omega, g4.same (fun _ _ => rfl) (fun b hb => ⟨?_, hb.2⟩)⟩
    have := hb.1
    rw [World.size_alloc] at this
    exact this))
  have NO : Hid (z = false → ∀ nd A m C w', Below w.heap.size w w' → TR k w n L (.returned (.tuple #[tOfT nd A m C, .bool false])) w') := Lib.hid fun h nd A m C w' hb => ⟨nd, A, m, C, by rw [hz0, h]; rfl, fun h2 => by (rw [hz0, h] at h2; cases h2), hb⟩
  have YES : Hid (z = true → ∀ nd A m C w', nd = L.headD nz → m = (pts L).length → Trs k w' (fun b => w.heap.size ≤ b ∧ b < w'.heap.size) A (pts L) → Below w.heap.size w w' → TR k w n L (.returned (.tuple #[tOfT nd A m C, .bool ((q : Int) == (n : Int))])) w') := Lib.hid fun h nd A m C w' g1 g2 g3 hb =>
    ⟨nd, A, m, C, by rw [hz0, h, hq, show ((q : Int) == (n : Int)) = decide (q = n) by rw [Bool.eq_iff_iff]; simp; omega]; rfl, fun _ => ⟨g1, g2, g3⟩, hb⟩
  clear I hP e0 hz0 hq
  go_enter Tryd.func12, Tryd.ntmps12
  go_wp2_with fail
  refine I2.out.mono ?_
  rintro e w4 ⟨nd4, A4, m4, C4, N4, rfl, HT, hb⟩
  have B4 := Lib.hid (below_go B0.out hb)
  have RB := R0.out.below hb (by simp)
  obtain ⟨⟨f0, f1, f2, f3, f4, f5, f6, f7, f8, f9, f10⟩, f11⟩ := RB.cells
  have lt4 := RB.lt
  have g0 := RB.free 0
  have g1 := RB.free 1
  have g2 := RB.free 2
  have g3 := RB.free 3
  have g4 := RB.free 4
  have g5 := RB.free 5
  have g6 := RB.free 6
  have g7 := RB.free 7
  have g8 := RB.free 8
  have g9 := RB.free 9
  have g10 := RB.free 10
  have g11 := RB.free 11
  clear RB R0 I2 hb
  cases z
  · go_wp2_with fail
    exact bodyPost_ret (v := .tuple #[tOfT nd4 A4 m4 C4, .bool false]) (by simp [results, Tryd.results12, go_sem, *]) rfl (NO.out (by first | rfl | trivial) _ _ _ _ _ (by refine Below.alloc ?_ (by simp only [World.size_setCell]; exact B4.out.size) _; (repeat (with_reducible refine Below.setCell ?_ (by exact Nat.le_refl _) _)); exact B4.out))
  · obtain ⟨t1, t2, t3, t4⟩ := HT.out (by first | rfl | trivial)
    subst t3
    have H1 := Lib.hid t1
    have H2 := Lib.hid t2
    have H4 := Lib.hid t4
    clear t1 t2 t4 HT
    go_wp2_with fail
    refine bodyPost_ret (v := .tuple #[tOfT nd4 A4 m4 C4, .bool ((q : Int) == (n : Int))]) (by simp [results, Tryd.results12, go_sem, *]) rfl (YES.out (by first | rfl | trivial) _ _ _ _ _ H1.out H2.out (H4.out.same (fun b hb => ?_) (fun b hb => ⟨by have := hb.1; omega, by simp; have := hb.2; omega⟩)) (by refine Below.alloc ?_ (by simp only [World.size_setCell]; exact B4.out.size) _; (repeat (with_reducible refine Below.setCell ?_ (by exact Nat.le_refl _) _)); exact B4.out))
    refine Eq.trans (heap_alloc_old _ _ (by simp only [World.size_setCell]; exact hb.2)) ?_
    repeat (with_reducible refine Eq.trans (heap_setCell_other _ _ _ _ (by show b ≠ w.heap.size; have := hb.1; omega)) ?_)
    rfl
end Go.Proofs.YtnjndlbhnkhlhaaDoor
