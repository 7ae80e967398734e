/- PredThree, walked. -/
import Derived.Test.YtiddpoihhfphmaaDoorPdK
import Derived.Test.YtiddpoihhfphmaaDoorPdX
import Derived.Test.YtiddpoihhfphmaaDoorPdRH
import Derived.Deep.RegionHeld3
import Derived.Deep.DeepCutAuto
namespace Go.Proofs.YtiddpoihhfphmaaDoor
open Go Go.RowKit Pk Rl
set_option maxRecDepth 20000

/- what is asked of each Op -/
def h3 (v u : VV) (o : Nat) : Bool := phold true 0 [(0, (o : Int), u)] 0 [v]
theorem crv_may {v u : VV} (h : (crv v u).2 = true) : mayv v = true ∧ mayv u = true ∧ u.1 ≠ 0 := by
  obtain ⟨k, n, r, s⟩ := v
  obtain ⟨k', n', r', s'⟩ := u
  unfold crv cr crB at h
  by_cases c1 : may k n r s = true
  · by_cases c2 : may k' n' r' s' = true
    · refine ⟨c1, c2, fun h0 => ?_⟩
      have h0' : k' = 0 := h0
      subst h0'
      simp [c1, c2] at h
    · have c2' : may k' n' r' s' = false := by simpa using c2
      simp [c1, c2'] at h
  · have c1' : may k n r s = false := by simpa using c1
    simp [c1'] at h
theorem h3_zero (v u : VV) : h3 v u 0 = false := by
  unfold h3 phold pmay
  simp [rgt]
theorem h3_eq (v u : VV) (o : Nat) (h1 : 1 ≤ o) (h6 : o ≤ 6) : h3 v u o = ((crv v u).2 && cmo o (crv v u).1) := by
  have e1 : hdf (0, (o : Int), u) [v] = ((crv v u).2 && cmo o (crv v u).1) := by
    unfold hdf hdv
    simp only [Int.toNat_natCast]
    rw [if_pos (by simp), if_neg (by omega), if_neg (by omega)]
    rfl
  unfold h3 phold
  simp only [List.all_cons, List.all_nil, Bool.and_true, e1]
  by_cases ok : (crv v u).2 = true
  · obtain ⟨m1, m2, m3⟩ := crv_may ok
    have e2 : pmay true 0 [(0, (o : Int), u)] = true := by
      unfold pmay rgt kok
      simp only [List.all_cons, List.all_nil, Bool.and_true, Int.toNat_natCast]
      rw [if_neg (by omega), if_neg (by omega), m2]
      simp [m3]
      omega
    have e3 : emay [v] = true := by
      unfold emay
      simp only [List.all_cons, List.all_nil, Bool.and_true, m1]
      simp
    rw [e2, e3]
    simp
  · have ok' : (crv v u).2 = false := by simpa using ok
    rw [ok']
    simp
def cnt (f : Nat → Bool) (j : Nat) : Nat := ((List.range j).filter f).length
theorem cnt_succ (f : Nat → Bool) (j : Nat) : cnt f (j + 1) = cnt f j + (if f j then 1 else 0) := by
  unfold cnt
  rw [List.range_succ, List.filter_append, List.length_append]
  cases h : f j <;> simp [h]
theorem cnt_le (f : Nat → Bool) (j : Nat) : cnt f j ≤ j := by
  unfold cnt
  have := List.length_filter_le f (List.range j)
  simpa using this
/- an array of seven bools -/
def Arr (W : World) (G : Nat) (f : Nat → Bool) : Prop := W.heap[G]? = some (.cells ((List.range 7).map fun i => Value.bool (f i)).toArray 59 (0, 0))
theorem Arr.cell {W : World} {G : Nat} {f : Nat → Bool} (h : Arr W G f) (i : Nat) (hi : i < 7) : W.cell? ⟨G, i, none⟩ = some (.bool (f i)) := by
  rw [cell_of_row W G i _ _ _ h]
  simp [hi]
theorem Arr.free {W : World} {G : Nat} {f : Nat → Bool} (h : Arr W G f) (i : Nat) : W.frozen? ⟨G, i, none⟩ = false := by
  unfold Arr at h
  simp [World.frozen?, h]
theorem Arr.set {W : World} {G : Nat} {f : Nat → Bool} (h : Arr W G f) (j : Nat) (b : Bool) : Arr (W.setCell ⟨G, j, none⟩ (.bool b)) G (fun i => if i = j then b else f i) := by
  unfold Arr
  rw [heap_setCell_same W G j _ _ _ h]
  congr 2
  apply Array.ext'
  rw [Array.toList_setIfInBounds]
  apply List.ext_getElem?
  intro i
  rw [List.getElem?_set]
  by_cases hi : i < 7
  · by_cases e : j = i
    · subst e
      simp [hi]
    · have e' : ¬ i = j := fun h => e h.symm
      simp [e, e', hi]
  · have : ¬ (j = i ∧ i < 7) := by omega
    by_cases e : j = i
    · simp [e, hi]
    · simp [e, hi]
theorem Arr.below {W W' : World} {G : Nat} {f : Nat → Bool} (h : Arr W G f) (hb : Below W.heap.size W W') : Arr W' G f := by
  have hlt : G < W.heap.size := World.block_lt_of_cell? _ _ (h.cell 0 (by omega))
  unfold Arr
  rw [hb.block G hlt]
  exact h
theorem Arr.start (W : World) : Arr (W.alloc (.cells #[.bool false, .bool false, .bool false, .bool false, .bool false, .bool false, .bool false] 59)) W.heap.size (fun _ => false) := heap_alloc_new W _
theorem Arr.congr {W : World} {G : Nat} {f g : Nat → Bool} (h : Arr W G f) (e : ∀ i, i < 7 → f i = g i) : Arr W G g := by
  have : ((List.range 7).map fun i => Value.bool (f i)) = (List.range 7).map fun i => Value.bool (g i) := List.map_congr_left fun i hi => by rw [e i (List.mem_range.1 hi)]
  unfold Arr at h ⊢
  rw [← this]
  exact h
theorem Arr.lt {W : World} {G : Nat} {f : Nat → Bool} (h : Arr W G f) : G < W.heap.size := World.block_lt_of_cell? _ _ (h.cell 0 (by omega))
def Ab (W : World) (g : Nat) (v : VV) : Prop := At4 W g v.1 v.2.1 v.2.2.1 v.2.2.2
structure Th (w W : World) (g g2 : Nat) (v u : VV) : Prop where
  one : Ab W g v
  two : Ab W g2 u
  tab : Tab W
  bel : Below w.heap.size w W
theorem Th.next {w W W' : World} {g g2 : Nat} {v u : VV} (h : Th w W g g2 v u) (hb : Below W.heap.size W W') : Th w W' g g2 v u := ⟨At4.next h.one hb, At4.next h.two hb, h.tab.below hb, below_go h.bel hb⟩
structure Th7 (w W : World) (g g2 G : Nat) (v u : VV) (f : Nat → Bool) : Prop where
  th : Th w W g g2 v u
  arr : Arr W G f
  g1 : g < G
  g2' : g2 < G
  g3 : 0 < G
  g4 : w.heap.size ≤ G
theorem Th7.next {w W W' : World} {g g2 G : Nat} {v u : VV} {f : Nat → Bool} (h : Th7 w W g g2 G v u f) (hb : Below W.heap.size W W') : Th7 w W' g g2 G v u f := ⟨h.th.next hb, h.arr.below hb, h.g1, h.g2', h.g3, h.g4⟩
theorem Th7.set {w W : World} {g g2 G : Nat} {v u : VV} {f : Nat → Bool} (h : Th7 w W g g2 G v u f) (j : Nat) (b : Bool) : Th7 w (W.setCell ⟨G, j, none⟩ (.bool b)) g g2 G v u (fun i => if i = j then b else f i) := by
  have ne : ∀ r i, r < G → (W.setCell ⟨G, j, none⟩ (.bool b)).cell? ⟨r, i, none⟩ = W.cell? ⟨r, i, none⟩ := fun r i hr => cell_set_ne W G j _ r i (by omega)
  obtain ⟨a0, a1, a2, a3⟩ := h.th.one
  obtain ⟨b0, b1, b2, b3⟩ := h.th.two
  refine ⟨⟨⟨?_, ?_, ?_, ?_⟩, ⟨?_, ?_, ?_, ?_⟩, fun o i ho hi => ?_, h.th.bel.setCell (p := ⟨G, j, none⟩) h.g4 _⟩, h.arr.set j b, h.g1, h.g2', h.g3, h.g4⟩
  · rw [ne _ _ h.g1]; exact a0
  · rw [ne _ _ h.g1]; exact a1
  · rw [ne _ _ h.g1]; exact a2
  · rw [ne _ _ h.g1]; exact a3
  · rw [ne _ _ h.g2']; exact b0
  · rw [ne _ _ h.g2']; exact b1
  · rw [ne _ _ h.g2']; exact b2
  · rw [ne _ _ h.g2']; exact b3
  · rw [ne _ _ h.g3]; exact h.th.tab o i ho hi
theorem Th7.congr {w W : World} {g g2 G : Nat} {v u : VV} {f f' : Nat → Bool} (h : Th7 w W g g2 G v u f) (e : ∀ i, i < 7 → f i = f' i) : Th7 w W g g2 G v u f' := ⟨h.th, h.arr.congr e, h.g1, h.g2', h.g3, h.g4⟩
theorem cnt_none (f : Nat → Bool) (h : ∀ i, i < 7 → f i = false) : cnt f 7 = 0 := by
  unfold cnt
  rw [List.length_eq_zero_iff, List.filter_eq_nil_iff]
  intro i hi
  rw [h i (List.mem_range.1 hi)]
  simp
theorem ask3 (o : Nat) (ho : o < 7) (v u : VV) (hv : Okv v) (hu : Okv u) (W : World) (g1 m : Nat) (hm : W.heap.size = m) (hT : Tab W) (h1 : Tsts W (some ⟨g1, 0, none⟩) [(0, (o : Int), u)]) :
    Calls Tryd.prog 14 #[pv true 0 (some ⟨g1, 0, none⟩) 1 1, ev 0 (some ⟨m, 0, none⟩) 1 1] (W.alloc (.cells #[.int .u8 v.1, .int .i64 v.2.1, .float .f64 v.2.2.1, .string v.2.2.2] 57)) fun e w' => e = .returned (.bool (h3 v u o)) ∧ Below (W.alloc (.cells #[.int .u8 v.1, .int .i64 v.2.1, .float .f64 v.2.2.1, .string v.2.2.2] 57)).heap.size (W.alloc (.cells #[.int .u8 v.1, .int .i64 v.2.1, .float .f64 v.2.2.1, .string v.2.2.2] 57)) w' := by
  subst hm
  have B := below_alloc W (.cells #[.int .u8 v.1, .int .i64 v.2.1, .float .f64 v.2.2.1, .string v.2.2.2] 57)
  have hb := phold_any true 0 (some ⟨g1, 0, none⟩) 1 1 [(0, (o : Int), u)] 0 (some ⟨W.heap.size, 0, none⟩) 1 1 [v] _ rfl (by omega) rfl (by omega) (h1.below B) (fun t ht => by
      obtain rfl := List.mem_singleton.1 ht
      exact ⟨by show (0 : Int) ≤ 0; decide, by show (0 : Int) < 256; decide, by show (0 : Int) ≤ (o : Int); omega, by show (o : Int) < 256; omega, hu⟩) (Vals.one W v) (fun t ht => by
      obtain rfl := List.mem_singleton.1 ht
      exact hv) (hT.below B)
  exact hb

set_option maxHeartbeats 8000000 in
set_option maxRecDepth 100000 in
theorem three_walk (k n : Int) (r : Nat) (s0 : ByteArray) (k' n' : Int) (r' : Nat) (s' : ByteArray) (w : World) (hT : Tab w) (hv : Okv (k, n, r, s0)) (hu : Okv (k', n', r', s')) (hs : s0.size ≤ maxLen) (hs' : s'.size ≤ maxLen) :
    Calls Tryd.prog 6 #[rw4 k n r s0, rw4 k' n' r' s'] w fun e w' => e = .returned (.bool true) ∧ Below w.heap.size w w' := by
  unfold maxLen at hs hs'
  have B0 := Lib.hid (below_go (below_alloc w (rcells k n r s0)) (below_alloc _ (rcells k' n' r' s')))
  have T0 := Lib.hid (show Rat4 ((w.alloc (rcells k n r s0)).alloc (rcells k' n' r' s')) w.heap.size k n r s0 ∧ Rat4 ((w.alloc (rcells k n r s0)).alloc (rcells k' n' r' s')) (w.heap.size + 1) k' n' r' s' ∧ ((w.alloc (rcells k n r s0)).alloc (rcells k' n' r' s')).heap.size = w.heap.size + 1 + 1 from ⟨⟨by simp [go_sem], by simp [go_sem], by simp [go_sem], by simp [go_sem]⟩, ⟨by simp [go_sem], by simp [go_sem], by simp [go_sem], by simp [go_sem]⟩, by simp⟩)
  have FX := Lib.hid fixed_any
  have HT := Lib.hid (hT.below B0.out)
  have sf := run_store_float
  clear hT
  by_cases cA : s0.size ≤ 2000
  case neg =>
    have uA : (2000 : Int) < (s0.size : Int) := by omega
    clear T0 hv hu sf
    go_enter Tryd.func6, Tryd.ntmps6
    go_wp2_with fail
    refine (FX.out _ HT.out).mono ?_
    rintro e w2 ⟨rfl, hbl⟩
    have B2 := Lib.hid (below_go B0.out hbl)
    clear hbl
    go_wp2_with fail
    go_ret
    exact ⟨rfl, B2.out⟩
  have uA : ¬ (2000 : Int) < (s0.size : Int) := by omega
  by_cases cB : s'.size ≤ 2000
  case neg =>
    have uB : (2000 : Int) < (s'.size : Int) := by omega
    clear T0 hv hu sf
    go_enter Tryd.func6, Tryd.ntmps6
    go_wp2_with fail
    refine (FX.out _ HT.out).mono ?_
    rintro e w2 ⟨rfl, hbl⟩
    have B2 := Lib.hid (below_go B0.out hbl)
    clear hbl
    go_wp2_with fail
    go_ret
    exact ⟨rfl, B2.out⟩
  have uB : ¬ (2000 : Int) < (s'.size : Int) := by omega
  have RC := Lib.hid (rcmp_any k n r s0 k' n' r' s' hv.k0 hu.k0 hv.n0 hv.n1 hv.re hu.n0 hu.n1 hu.re (by omega) (by omega))
  have AS := Lib.hid (fun o ho W g1 m hm hT h1 => ask3 o ho (k, n, r, s0) (k', n', r', s') hv hu W g1 m hm hT h1)
  have HQ := Lib.hid (fun o h1 h6 => h3_eq (k, n, r, s0) (k', n', r', s') o h1 h6)
  have H0 := Lib.hid (h3_zero (k, n, r, s0) (k', n', r', s'))
  have EX := Lib.hid (raw_any k n r s0)
  have EY := Lib.hid (raw_any k' n' r' s')
  clear hv hu
  obtain ⟨hf, hhf⟩ : ∃ hf, h3 (k, n, r, s0) (k', n', r', s') = hf := ⟨_, rfl⟩
  simp only [hhf] at AS HQ H0
  obtain ⟨X, hX⟩ : ∃ X, cr k n r s0 k' n' r' s' = X := ⟨_, rfl⟩
  obtain ⟨y, ok⟩ := X
  simp only [hX] at RC HQ
  clear hhf hX
  go_enter Tryd.func6, Tryd.ntmps6
  go_upto_region 3 with fail
  generalize (w.alloc (rcells k n r s0)).alloc (rcells k' n' r' s') = w1 at B0 T0 HT ⊢
  obtain ⟨f0, f1, f2, f3⟩ := T0.out.1
  obtain ⟨f4, f5, f6, f7⟩ := T0.out.2.1
  have SZ := Lib.hid T0.out.2.2
  clear T0
  have Z := Lib.hid (show w.heap.size + 1 < w1.heap.size by have := SZ.out; omega)
  have HT2 := Lib.hid (fun W (h : (∀ a j, a < w.heap.size + 1 + 1 → W.cell? ⟨a, j, none⟩ = w1.cell? ⟨a, j, none⟩) ∧ Hid (Below (w.heap.size + 1 + 1) w1 W ∧ w.heap.size + 1 + 1 ≤ W.heap.size)) => HT.out.below (by rw [SZ.out]; exact sB h))
  go_cut [5, 6] from 25 to 28 (fun v5 v6 wx => ∃ g g2, v5 = .pointer (some ⟨g, 0, none⟩) ∧ v6 = .pointer (some ⟨g2, 0, none⟩) ∧ Hid (Th w wx g g2 (k, n, r, s0) (k', n', r', s')))
  case first =>
    clear FX RC AS HQ H0
    have ZZ : Hid (w.heap.size + 1 + 1 ≤ w1.heap.size) := Lib.hid Z.out
    have kS0 := mkS (Below.refl (w.heap.size + 1 + 1) w1).drew Z.out
    go_region_held3 (fun W => (∀ a j, a < w.heap.size + 1 + 1 → W.cell? ⟨a, j, none⟩ = w1.cell? ⟨a, j, none⟩) ∧ Hid (Below (w.heap.size + 1 + 1) w1 W ∧ w.heap.size + 1 + 1 ≤ W.heap.size))
      (first
        | (with_reducible assumption)
        | (with_reducible apply sCall; assumption; assumption)
        | (refine mkS ?_ ?_ <;> repeat' (first
            | (with_reducible apply sB; assumption)
            | (with_reducible apply sZ; assumption)
            | (with_reducible refine Below.alloc ?_ ?_ _)
            | (with_reducible refine Below.setCell ?_ ?_ _)
            | (with_reducible refine Below.drew ?_)
            | (rw [World.size_alloc])
            | (rw [World.size_setCell])
            | (rw [World.size_drew])
            | (with_reducible exact Below.refl _ _)
            | (with_reducible exact ZZ.out)
            | (with_reducible refine Nat.le_add_right_of_le ?_)
            | (dsimp only))))
      (first
        | (go_at_call 21; (with_reducible refine Calls.mono (EX.out _) ?_); rintro e wx ⟨rfl, bx⟩; have kS := sCall bx (by assumption); have qc := fun a j (h : a < _) => bx.cell (p := ⟨a, j, none⟩) h; have qf := fun a j (h : a < _) => bx.frozen (p := ⟨a, j, none⟩) h; have z4 := fun a (h : a < _) => Nat.lt_of_lt_of_le h bx.size; have z := bx.size; try (simp only [World.size_alloc, World.size_drew] at z); try (have z2 := Nat.lt_of_succ_le z; try (have z3 := Nat.lt_of_succ_lt z2)))
        | (go_at_call 21; (with_reducible refine Calls.mono (EY.out _) ?_); rintro e wy ⟨rfl, yb⟩; have kS := sCall yb (by assumption); have qc := fun a j (h : a < _) => yb.cell (p := ⟨a, j, none⟩) h; have qf := fun a j (h : a < _) => yb.frozen (p := ⟨a, j, none⟩) h; have z4 := fun a (h : a < _) => Nat.lt_of_lt_of_le h yb.size; have z := yb.size; try (simp only [World.size_alloc] at z); try (have z2 := Nat.lt_of_succ_le z; try (have z3 := Nat.lt_of_succ_lt z2))))
    all_goals (rename_i hHeld; go_wp2_with fail; go_meet; have zx := bx.size; have zy := yb.size; (try (rw [World.size_drew] at zx)); (try (rw [World.size_alloc] at zx)); (try (rw [World.size_alloc] at zx)); (try (rw [World.size_drew] at zy)); (try (rw [World.size_alloc] at zy)); (try (rw [World.size_alloc] at zy)); refine ⟨_, _, rfl, rfl, Lib.hid ⟨⟨?_, ?_, ?_, ?_⟩, ⟨?_, ?_, ?_, ?_⟩, HT2.out _ hHeld, B0.out.trans ((sB hHeld).mono (by omega))⟩⟩)
    all_goals first
      | (go_simp; done)
      | (simp (maxDischargeDepth := 8) [go_sem, *]; done)
  case rest =>
  obtain ⟨g, g2, rfl, rfl, H⟩ := hcut
  clear EX EY HT2 HT f0 f1 f2 f3 f4 f5 f6 f7 SZ Z B0
  have K0 := Lib.hid (show Th7 w (wc.alloc (.cells #[.bool false, .bool false, .bool false, .bool false, .bool false, .bool false, .bool false] 59)) g g2 wc.heap.size (k, n, r, s0) (k', n', r', s') (fun i => decide (i < 0) && hf i) from
    ⟨H.out.next (below_alloc _ _), (Arr.start wc).congr (fun i _ => by simp), World.block_lt_of_cell? _ _ H.out.one.1, World.block_lt_of_cell? _ _ H.out.two.1, World.block_lt_of_cell? _ _ (H.out.tab 0 0 (by omega) (by omega)), H.out.bel.size⟩)
  clear H
  go_wp2_with fail
  go_loopw [29, 8] (fun i s W => ∃ (j c : Nat), i = .int .u8 (j : Int) ∧ s = .int .i64 (c : Int) ∧ j ≤ 7 ∧ c ≤ j ∧ Hid (Th7 w W g g2 wc.heap.size (k, n, r, s0) (k', n', r', s') (fun i => decide (i < j) && hf i) ∧ cnt hf j = c)) (fun i _ _ => 7 - (intOf i).toNat)
  case atStart => exact ⟨0, 0, rfl, rfl, by omega, by omega, Lib.hid ⟨K0.out, rfl⟩⟩
  case round =>
    obtain ⟨j, c, rfl, rfl, hj, hc, H⟩ := hrel
    by_cases cj : j < 7
    · have K1 := Lib.hid H.out.1
      have HC := Lib.hid (show cnt hf (j + 1) = c + (if hf j then 1 else 0) by rw [cnt_succ, H.out.2])
      obtain ⟨a0, a1, a2, a3⟩ := K1.out.th.one
      obtain ⟨b0, b1, b2, b3⟩ := K1.out.th.two
      have zg : g < wr.heap.size := World.block_lt_of_cell? _ _ a0
      have zg2 : g2 < wr.heap.size := World.block_lt_of_cell? _ _ b0
      have B2 := below_go (below_alloc wr (tobj (0, (j : Int), k', n', r', s'))) (below_alloc _ (pcells true 0 (some ⟨wr.heap.size, 0, none⟩) 1 1))
      have A1 := Lib.hid (AS.out j cj ((wr.alloc (tobj (0, (j : Int), k', n', r', s'))).alloc (pcells true 0 (some ⟨wr.heap.size, 0, none⟩) 1 1)) wr.heap.size (wr.heap.size + 1 + 1) (by simp) (K1.out.th.tab.below B2) ((Tsts.one wr (0, (j : Int), k', n', r', s')).below (below_alloc _ _)))
      have K2 := Lib.hid (K1.out.next (below_go B2 (below_alloc _ (vcells k n r s0))))
      have FE := Lib.hid (fun (q : Bool) (hq : hf j = q) i (_ : i < 7) => show (if i = j then q else decide (i < j) && hf i) = (decide (i < j + 1) && hf i) by
        by_cases e : i = j
        · subst e; simp [hq]
        · have : decide (i < j) = decide (i < j + 1) := by rw [Bool.eq_iff_iff]; simp; omega
          rw [if_neg e, this])
      obtain ⟨q, hq⟩ : ∃ q, hf j = q := ⟨_, rfl⟩
      have FE2 := Lib.hid (FE.out q hq)
      simp only [hq] at A1 HC
      clear K0 H K1 B2 AS FE hq HQ H0 RC FX
      go_wp2_with fail
      refine A1.out.mono ?_
      rintro e w2 ⟨rfl, hb⟩
      have K3 := Lib.hid (K2.out.next hb)
      have ac := K3.out.arr.cell j cj
      have af := K3.out.arr.free j
      have zG := K3.out.arr.lt
      have K4 := Lib.hid ((K3.out.set j q).congr FE2.out)
      clear hb A1 K2 K3 FE2 a0 a1 a2 a3 b0 b1 b2 b3 zg zg2
      cases q
      · simp only [Bool.false_eq_true, if_false, Nat.add_zero] at HC
        go_wp2_with fail
        go_roundw
        case rel => exact ⟨j + 1, c, by go_num, rfl, by omega, by omega, Lib.hid ⟨K4.out, HC.out⟩⟩
        case measure => simp [intOf]; omega
      · simp only [if_true] at HC
        go_wp2_with fail
        go_roundw
        case rel => exact ⟨j + 1, c + 1, by go_num, by go_num, by omega, by omega, Lib.hid ⟨K4.out, HC.out⟩⟩
        case measure => simp [intOf]; omega
    · obtain rfl : j = 7 := by omega
      have K1 := Lib.hid (H.out.1.congr (f' := hf) fun i hi => by simp [hi])
      have HC := Lib.hid H.out.2
      clear H K0 AS
      obtain ⟨a0, a1, a2, a3⟩ := K1.out.th.one
      obtain ⟨b0, b1, b2, b3⟩ := K1.out.th.two
      cases ok
      · have hz : c = 0 := by
          rw [← HC.out]
          refine cnt_none hf fun i hi => ?_
          rcases Nat.eq_zero_or_pos i with rfl | h
          · exact H0.out
          · rw [HQ.out i h (by omega)]; rfl
        subst hz
        clear HQ H0 HC hc hj cj
        go_wp2_with fail
        refine (RC.out _).mono ?_
        rintro e w2 ⟨rfl, hb⟩
        have K2 := Lib.hid (K1.out.next hb)
        clear hb RC K1 a0 a1 a2 a3 b0 b1 b2 b3
        go_wp2_with fail
        refine (FX.out _ K2.out.th.tab).mono ?_
        rintro e w3 ⟨rfl, hb⟩
        have B3 := Lib.hid (K2.out.next hb).th.bel
        clear hb FX K2
        go_wp2_with fail
        go_ret
        exact ⟨rfl, B3.out⟩
      · have q1 := HQ.out 1 (by omega) (by omega)
        have q2 := HQ.out 2 (by omega) (by omega)
        have q3 := HQ.out 3 (by omega) (by omega)
        have q4 := HQ.out 4 (by omega) (by omega)
        have q5 := HQ.out 5 (by omega) (by omega)
        have q6 := HQ.out 6 (by omega) (by omega)
        have RC2 := Lib.hid RC.out
        have KA := Lib.hid (fun W (h : Th7 w W g g2 wc.heap.size (k, n, r, s0) (k', n', r', s') hf) => And.intro (h.arr.cell 0 (by omega)) (And.intro (h.arr.cell 1 (by omega)) (And.intro (h.arr.cell 2 (by omega)) (And.intro (h.arr.cell 3 (by omega)) (And.intro (h.arr.cell 4 (by omega)) (And.intro (h.arr.cell 5 (by omega)) (h.arr.cell 6 (by omega))))))))
        rw [H0.out, q1, q2, q3, q4, q5, q6] at KA
        have HY := Lib.hid (show (cmo 1 y = decide (y = 0) ∧ cmo 2 y = decide (y ≠ 0)) ∧ (cmo 3 y = decide (y < 0) ∧ cmo 4 y = decide (y ≤ 0)) ∧ cmo 5 y = decide (0 < y) ∧ cmo 6 y = decide (0 ≤ y) from ⟨⟨rfl, rfl⟩, ⟨rfl, rfl⟩, rfl, rfl⟩)
        rw [HY.out.1.1, HY.out.1.2, HY.out.2.1.1, HY.out.2.1.2, HY.out.2.2.1, HY.out.2.2.2] at KA
        clear q1 q2 q3 q4 q5 q6 HQ H0 HC hc hj cj RC HY
        have Y3 : y < 0 ∨ y = 0 ∨ 0 < y := by omega
        rcases Y3 with hy | hy | hy
        · rw [decide_eq_false (by omega : ¬ y = 0), decide_eq_true (by omega : y ≠ 0), decide_eq_true hy, decide_eq_true (by omega : y ≤ 0), decide_eq_false (by omega : ¬ 0 < y), decide_eq_false (by omega : ¬ 0 ≤ y)] at KA
          go_wp2_with fail
          refine (RC2.out _).mono ?_
          rintro e w2 ⟨rfl, hb⟩
          have K2 := Lib.hid (K1.out.next hb)
          clear hb RC2 K1 a0 a1 a2 a3 b0 b1 b2 b3
          obtain ⟨h0, h1, h2, h3, h4, h5, h6⟩ := KA.out _ K2.out
          go_wp2_with fail
          refine (FX.out _ K2.out.th.tab).mono ?_
          rintro e w3 ⟨rfl, hb⟩
          have K3 := Lib.hid (K2.out.next hb)
          clear hb FX K2 h0 h1 h2 h3 h4 h5 h6
          obtain ⟨h0, h1, h2, h3, h4, h5, h6⟩ := KA.out _ K3.out
          have B3 := Lib.hid K3.out.th.bel
          clear KA K3
          go_wp2_with fail
          go_ret
          exact ⟨rfl, B3.out⟩
        · subst hy
          rw [decide_eq_true (rfl : (0 : Int) = 0), decide_eq_false (by omega : ¬ (0 : Int) ≠ 0), decide_eq_false (by omega : ¬ (0 : Int) < 0), decide_eq_true (by omega : (0 : Int) ≤ 0)] at KA
          go_wp2_with fail
          refine (RC2.out _).mono ?_
          rintro e w2 ⟨rfl, hb⟩
          have K2 := Lib.hid (K1.out.next hb)
          clear hb RC2 K1 a0 a1 a2 a3 b0 b1 b2 b3
          obtain ⟨h0, h1, h2, h3, h4, h5, h6⟩ := KA.out _ K2.out
          go_wp2_with fail
          refine (FX.out _ K2.out.th.tab).mono ?_
          rintro e w3 ⟨rfl, hb⟩
          have K3 := Lib.hid (K2.out.next hb)
          clear hb FX K2 h0 h1 h2 h3 h4 h5 h6
          obtain ⟨h0, h1, h2, h3, h4, h5, h6⟩ := KA.out _ K3.out
          have B3 := Lib.hid K3.out.th.bel
          clear KA K3
          go_wp2_with fail
          go_ret
          exact ⟨rfl, B3.out⟩
        · rw [decide_eq_false (by omega : ¬ y = 0), decide_eq_true (by omega : y ≠ 0), decide_eq_false (by omega : ¬ y < 0), decide_eq_false (by omega : ¬ y ≤ 0), decide_eq_true hy, decide_eq_true (by omega : 0 ≤ y)] at KA
          go_wp2_with fail
          refine (RC2.out _).mono ?_
          rintro e w2 ⟨rfl, hb⟩
          have K2 := Lib.hid (K1.out.next hb)
          clear hb RC2 K1 a0 a1 a2 a3 b0 b1 b2 b3
          obtain ⟨h0, h1, h2, h3, h4, h5, h6⟩ := KA.out _ K2.out
          go_wp2_with fail
          refine (FX.out _ K2.out.th.tab).mono ?_
          rintro e w3 ⟨rfl, hb⟩
          have K3 := Lib.hid (K2.out.next hb)
          clear hb FX K2 h0 h1 h2 h3 h4 h5 h6
          obtain ⟨h0, h1, h2, h3, h4, h5, h6⟩ := KA.out _ K3.out
          have B3 := Lib.hid K3.out.th.bel
          clear KA K3
          go_wp2_with fail
          go_ret
          exact ⟨rfl, B3.out⟩
end Go.Proofs.YtiddpoihhfphmaaDoor
