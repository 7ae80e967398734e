/- Whether two events are the same. -/
import Derived.Test.YtjpdnojkgadklaaEvMay
import Derived.Deep.RegionHeld3
import Derived.Deep.DeepCutAuto
namespace Go.Proofs.Ytjpdnojkgadklaa
open Go Go.RowKit Pk Rl
set_option maxRecDepth 20000

abbrev VV2 (L M : List VV) (j : Nat) : Bool := smv (L.getD j vz) (M.getD j vz)
def esm (t : Int) (L : List VV) (t' : Int) (M : List VV) : Bool := decide (t = t') && decide (L.length = M.length) && (List.range L.length).all (VV2 L M)
structure Ten (w W : World) (g g2 : Nat) (t t' : Int) (a a' : Option Addr) (n c n' c' : Nat) : Prop where
  one : Evt W g t a n c
  sec : Evt W g2 t' a' n' c'
  bel : Below w.heap.size w W
theorem Ten.next {w W W' : World} {g g2 : Nat} {t t' : Int} {a a' : Option Addr} {n c n' c' : Nat} (h : Ten w W g g2 t t' a a' n c n' c') (hb : Below W.heap.size W W') : Ten w W' g g2 t t' a a' n c n' c' :=
  ⟨h.one.next hb, h.sec.next hb, below_go h.bel hb⟩
theorem Ten.start (w : World) (t t' : Int) (a a' : Option Addr) (n c n' c' : Nat) : Ten w ((w.alloc (ecells t a n c)).alloc (ecells t' a' n' c')) w.heap.size (w.heap.size + 1) t t' a a' n c n' c' := by
  have h1 := (Evt.alloc w t a n c).next (below_alloc _ (ecells t' a' n' c'))
  have h2 := Evt.alloc (w.alloc (ecells t a n c)) t' a' n' c'
  rw [World.size_alloc] at h2
  exact ⟨h1, h2, below_go (below_alloc w _) (below_alloc _ _)⟩

theorem keep10 {w W W' : World} {m : Nat} {p0 p1 p2 p3 p4 p5 p6 p7 p8 p9 : Addr} {x0 x1 x2 x3 x4 x5 x6 x7 x8 x9 : Value}
    (h : W.cell? p0 = some x0 ∧ W.cell? p1 = some x1 ∧ W.cell? p2 = some x2 ∧ W.cell? p3 = some x3 ∧ W.cell? p4 = some x4 ∧ W.cell? p5 = some x5 ∧ W.cell? p6 = some x6 ∧ W.cell? p7 = some x7 ∧ W.cell? p8 = some x8 ∧ W.cell? p9 = some x9 ∧ Below m w W ∧ m ≤ W.heap.size) (hb : Below W.heap.size W W') :
    W'.cell? p0 = some x0 ∧ W'.cell? p1 = some x1 ∧ W'.cell? p2 = some x2 ∧ W'.cell? p3 = some x3 ∧ W'.cell? p4 = some x4 ∧ W'.cell? p5 = some x5 ∧ W'.cell? p6 = some x6 ∧ W'.cell? p7 = some x7 ∧ W'.cell? p8 = some x8 ∧ W'.cell? p9 = some x9 ∧ Below m w W' ∧ m ≤ W'.heap.size := by
  obtain ⟨h0, h1, h2, h3, h4, h5, h6, h7, h8, h9, hw, hz⟩ := h
  have z := hb.size
  refine ⟨?_, ?_, ?_, ?_, ?_, ?_, ?_, ?_, ?_, ?_, hw.trans (hb.mono hz), by omega⟩
  · rw [hb.cell (World.block_lt_of_cell? _ _ h0)]; exact h0
  · rw [hb.cell (World.block_lt_of_cell? _ _ h1)]; exact h1
  · rw [hb.cell (World.block_lt_of_cell? _ _ h2)]; exact h2
  · rw [hb.cell (World.block_lt_of_cell? _ _ h3)]; exact h3
  · rw [hb.cell (World.block_lt_of_cell? _ _ h4)]; exact h4
  · rw [hb.cell (World.block_lt_of_cell? _ _ h5)]; exact h5
  · rw [hb.cell (World.block_lt_of_cell? _ _ h6)]; exact h6
  · rw [hb.cell (World.block_lt_of_cell? _ _ h7)]; exact h7
  · rw [hb.cell (World.block_lt_of_cell? _ _ h8)]; exact h8
  · rw [hb.cell (World.block_lt_of_cell? _ _ h9)]; exact h9

set_option maxHeartbeats 2000000 in
theorem rsame1_any (g g2 : Nat) (t t' : Int) (a a' : Option Addr) (n c c' : Nat) (L M : List VV) (j : Nat) (w : World) (hn : L.length = n) (hn' : M.length = n) (_hm : n ≤ 1000) (hj : j < n) (hv : Vals w a L) (hv' : Vals w a' M) (hk : ∀ v ∈ L, Okv v) (hk' : ∀ v ∈ M, Okv v)
    (he : Evt w g t a n c) (he' : Evt w g2 t' a' n c') :
    Calls Try.prog 43 #[.int .i64 (j : Int), .pointer (some ⟨g, 0, none⟩), .pointer (some ⟨g2, 0, none⟩)] w fun e w' => e = .returned (.bool (VV2 L M j)) ∧ Below w.heap.size w w' := by
  obtain ⟨b, off, rfl, c0, c1, c2, c3⟩ := hv j (by omega)
  obtain ⟨b', off', rfl, d0, d1, d2, d3⟩ := hv' j (by omega)
  obtain ⟨e0, e1⟩ := he
  obtain ⟨f0, f1⟩ := he'
  have S := Lib.hid (vsame_v (L.getD j vz) (M.getD j vz) (hk _ (getD_mem L j (by omega))) (hk' _ (getD_mem M j (by omega))))
  clear hn hv hk hn' hv' hk'
  unfold VV2
  generalize L.getD j vz = v at S c0 c1 c2 c3
  generalize M.getD j vz = u at S d0 d1 d2 d3
  obtain ⟨k, m, r, s⟩ := v
  obtain ⟨k', m', r', s'⟩ := u
  generalize smv (k, m, r, s) (k', m', r', s') = q at S
  go_enter Try.func43, Try.ntmps43
  go_wp2_with fail
  go_region_held3 (fun W => W.cell? ⟨g, 1, none⟩ = some (.slice (some ⟨b, off, none⟩) n c) ∧ W.cell? ⟨g2, 1, none⟩ = some (.slice (some ⟨b', off', none⟩) n c') ∧ W.cell? ⟨b, off + j * 4, none⟩ = some (.int .u8 k) ∧ W.cell? ⟨b, off + j * 4 + 1, none⟩ = some (.int .i64 m) ∧ W.cell? ⟨b, off + j * 4 + 2, none⟩ = some (.float .f64 r) ∧ W.cell? ⟨b, off + j * 4 + 3, none⟩ = some (.string s) ∧ W.cell? ⟨b', off' + j * 4, none⟩ = some (.int .u8 k') ∧ W.cell? ⟨b', off' + j * 4 + 1, none⟩ = some (.int .i64 m') ∧ W.cell? ⟨b', off' + j * 4 + 2, none⟩ = some (.float .f64 r') ∧ W.cell? ⟨b', off' + j * 4 + 3, none⟩ = some (.string s') ∧ Below w.heap.size w W ∧ w.heap.size ≤ W.heap.size)
    (first | (with_reducible assumption) | exact ⟨e1, f1, c0, c1, c2, c3, d0, d1, d2, d3, (Below.refl _ _).drew, Nat.le_refl _⟩ | (apply keep10; assumption; assumption))
    (first | (go_at_call 44; (with_reducible refine (S.out _).mono ?_); rintro e w' ⟨rfl, b1⟩))
  rename_i hHeld
  have HB := Lib.hid hHeld.2.2.2.2.2.2.2.2.2.2.1
  clear hHeld
  go_wp2_with fail
  go_ret
  exact ⟨rfl, HB.out⟩
set_option maxHeartbeats 2000000 in
theorem esame_any (t t' : Int) (a a' : Option Addr) (n c n' c' : Nat) (L M : List VV) (w : World) (hn : L.length = n) (hn' : M.length = n') (hm : n ≤ 1000) (hv : Vals w a L) (hv' : Vals w a' M) (hk : ∀ v ∈ L, Okv v) (hk' : ∀ v ∈ M, Okv v) :
    Calls Try.prog 25 #[ev t a n c, ev t' a' n' c'] w fun e w' => e = .returned (.bool (esm t L t' M)) ∧ Below w.heap.size w w' := by
  have T := Lib.hid (Ten.start w t t' a a' n c n' c')
  have E := Lib.hid (fun (h : n = n') => each_same n hm w.heap.size (w.heap.size + 1) (VV2 L M) ((w.alloc (ecells t a n c)).alloc (ecells t' a' n' c')) (Lib.hid fun j hj W hW => by
    subst h
    exact rsame1_any w.heap.size (w.heap.size + 1) t t' a a' n c c' L M j W hn hn' hm hj ((hv.below T.out.bel).below hW) ((hv'.below T.out.bel).below hW) hk hk' (T.out.one.next hW) (T.out.sec.next hW)))
  have HC := Lib.hid (show (decide (t = t') && decide (n = n') && (List.range n).all (VV2 L M)) = esm t L t' M by unfold esm; rw [hn, hn'])
  clear hn hn' hv hv' hk hk'
  generalize (List.range n).all (VV2 L M) = q at E HC
  by_cases c1 : t = t'
  · have e1 : (t == t') = true := by simpa using c1
    by_cases c2 : n = n'
    · have E2 := Lib.hid (E.out c2)
      have e2 : ((n : Int) == (n' : Int)) = true := by simp; omega
      rw [decide_eq_true c1, decide_eq_true c2, Bool.true_and, Bool.true_and] at HC
      clear c1 c2 E
      go_enter Try.func25, Try.ntmps25
      go_wp2_with fail
      refine E2.out.mono ?_
      rintro e w2 ⟨rfl, hb⟩
      have B2 := Lib.hid (below_go T.out.bel hb)
      clear hb
      go_wp2_with fail
      go_ret
      exact ⟨ret_bool HC.out, B2.out⟩
    · have e2 : ((n : Int) == (n' : Int)) = false := by simp; omega
      rw [decide_eq_false c2, Bool.and_false, Bool.false_and] at HC
      clear c1 c2 E
      go_enter Try.func25, Try.ntmps25
      go_wp2_with fail
      go_ret
      exact ⟨ret_bool HC.out, T.out.bel⟩
  · have e1 : (t == t') = false := by simpa using c1
    rw [decide_eq_false c1, Bool.false_and, Bool.false_and] at HC
    clear c1 E
    go_enter Try.func25, Try.ntmps25
    go_wp2_with fail
    go_ret
    exact ⟨ret_bool HC.out, T.out.bel⟩

set_option maxHeartbeats 4000000 in
theorem resame_eq (t : Int) (a a' : Option Addr) (n c c' : Nat) (L M : List VV) (w : World) (hn : L.length = n) (hn' : M.length = n) (hm : n ≤ 1000) (hv : Vals w a L) (hv' : Vals w a' M) (hk : ∀ v ∈ L, Okv v) (hk' : ∀ v ∈ M, Okv v) :
    Calls Try.prog 15 #[ev t a n c, ev t a' n c'] w fun e w' => e = .returned (.bool ((List.range n).all (VV2 L M))) ∧ Below w.heap.size w w' := by
  have T := Lib.hid (Ten.start w t t a a' n c n c')
  have HN := Lib.hid hn
  have HN' := Lib.hid hn'
  have HV := Lib.hid hv
  have HV' := Lib.hid hv'
  have HK := Lib.hid hk
  have HK' := Lib.hid hk'
  clear hn hn' hv hv' hk hk'
  go_enter Try.func15, Try.ntmps15
  go_wp2
  go_loopw [23] (fun i W => ∃ (j : Nat), i = .int .i64 j ∧ j ≤ n ∧ Hid (Ten w W w.heap.size (w.heap.size + 1) t t a a' n c n c' ∧ (List.range j).all (VV2 L M) = true)) (fun i _ => n - (intOf i).toNat)
  case atStart => exact ⟨0, rfl, by omega, Lib.hid ⟨T.out, rfl⟩⟩
  case round =>
    obtain ⟨j, rfl, hj, H⟩ := hrel
    by_cases hjn : j < n
    · have T1 := Lib.hid H.out.1
      have HD := Lib.hid H.out.2
      obtain ⟨b, off, rfl, c0, c1, c2, c3⟩ := (HV.out.below T1.out.bel) j (by have := HN.out; omega)
      obtain ⟨b', off', rfl, d0, d1, d2, d3⟩ := (HV'.out.below T1.out.bel) j (by have := HN'.out; omega)
      obtain ⟨e0, e1⟩ := T1.out.one
      obtain ⟨f0, f1⟩ := T1.out.sec
      obtain ⟨q, hq⟩ : ∃ q, VV2 L M j = q := ⟨_, rfl⟩
      have S : Hid (∀ w, Calls Try.prog 24 #[vlOf (L.getD j vz), vlOf (M.getD j vz)] w fun e w' => e = .returned (.bool q) ∧ Below w.heap.size w w') := Lib.hid fun w => by
        rw [← hq]; exact rvsame_v (L.getD j vz) (M.getD j vz) (HK.out _ (getD_mem L j (by have := HN.out; omega))) (HK'.out _ (getD_mem M j (by have := HN'.out; omega))) w
      have PJ := Lib.hid (show q = false → (List.range n).all (VV2 L M) = false from fun h => by
        rw [List.all_eq_false]; exact ⟨j, List.mem_range.2 hjn, by rw [hq, h]; decide⟩)
      have PS := Lib.hid (show q = true → (List.range (j + 1)).all (VV2 L M) = true from fun h => by rw [List.range_succ, List.all_append, HD.out]; simp only [List.all_cons, List.all_nil, hq, h]; rfl)
      clear H HD T hq
      generalize L.getD j vz = v at S c0 c1 c2 c3
      generalize M.getD j vz = u at S d0 d1 d2 d3
      obtain ⟨k, m, r, s⟩ := v
      obtain ⟨k', m', r', s'⟩ := u
      go_wp2_with fail
      go_region_held3 (fun W => W.cell? ⟨w.heap.size, 1, none⟩ = some (.slice (some ⟨b, off, none⟩) n c) ∧ W.cell? ⟨w.heap.size + 1, 1, none⟩ = some (.slice (some ⟨b', off', none⟩) n c') ∧ W.cell? ⟨b, off + j * 4, none⟩ = some (.int .u8 k) ∧ W.cell? ⟨b, off + j * 4 + 1, none⟩ = some (.int .i64 m) ∧ W.cell? ⟨b, off + j * 4 + 2, none⟩ = some (.float .f64 r) ∧ W.cell? ⟨b, off + j * 4 + 3, none⟩ = some (.string s) ∧ W.cell? ⟨b', off' + j * 4, none⟩ = some (.int .u8 k') ∧ W.cell? ⟨b', off' + j * 4 + 1, none⟩ = some (.int .i64 m') ∧ W.cell? ⟨b', off' + j * 4 + 2, none⟩ = some (.float .f64 r') ∧ W.cell? ⟨b', off' + j * 4 + 3, none⟩ = some (.string s') ∧ Below wr.heap.size wr W ∧ wr.heap.size ≤ W.heap.size)
        (first | (with_reducible assumption) | exact ⟨e1, f1, c0, c1, c2, c3, d0, d1, d2, d3, (Below.refl _ _).drew, Nat.le_refl _⟩ | (apply keep10; assumption; assumption))
        (first | (go_at_call 24; (with_reducible refine (S.out _).mono ?_); rintro e w' ⟨rfl, b1⟩))
      rename_i hHeld
      have T2 := Lib.hid (T1.out.next hHeld.2.2.2.2.2.2.2.2.2.2.1)
      clear hHeld T1 e0 e1 f0 f1 c0 c1 c2 c3 d0 d1 d2 d3 S
      cases q
      · go_wp2_with fail
        go_ret
        exact ⟨ret_bool (PJ.out (by first | rfl | trivial)).symm, T2.out.bel⟩
      · go_wp2_with fail
        go_roundw
        case rel => exact ⟨j + 1, by go_num, by omega, Lib.hid ⟨T2.out, PS.out (by first | rfl | trivial)⟩⟩
        case measure => simp [intOf]; omega
    · obtain rfl : j = n := by omega
      have HD := Lib.hid H.out.2
      have T1 := Lib.hid H.out.1
      clear H
      go_wp2_with fail
      go_ret
      exact ⟨ret_bool HD.out.symm, T1.out.bel⟩

set_option maxHeartbeats 2000000 in
theorem resame_any (t t' : Int) (a a' : Option Addr) (n c n' c' : Nat) (L M : List VV) (w : World) (hn : L.length = n) (hn' : M.length = n') (hm : n ≤ 1000) (hv : Vals w a L) (hv' : Vals w a' M) (hk : ∀ v ∈ L, Okv v) (hk' : ∀ v ∈ M, Okv v) :
    Calls Try.prog 15 #[ev t a n c, ev t' a' n' c'] w fun e w' => e = .returned (.bool (esm t L t' M)) ∧ Below w.heap.size w w' := by
  by_cases c1 : t = t'
  · by_cases c2 : n = n'
    · subst c1
      subst c2
      have := resame_eq t a a' n c c' L M w hn hn' hm hv hv' hk hk'
      unfold esm
      rw [hn, hn', decide_eq_true rfl, decide_eq_true rfl, Bool.true_and, Bool.true_and]
      exact this
    · have T := Lib.hid (Ten.start w t t' a a' n c n' c')
      have HC : esm t L t' M = false := by unfold esm; rw [hn, hn', decide_eq_false c2]; simp
      rw [HC]
      have e2 : (n = n') = False := by simpa using c2
      subst c1
      clear hn hn' hv hv' hk hk' HC
      go_enter Try.func15, Try.ntmps15
      go_wp2_with fail
      go_ret
      exact ⟨rfl, T.out.bel⟩
  · have T := Lib.hid (Ten.start w t t' a a' n c n' c')
    have HC : esm t L t' M = false := by unfold esm; rw [decide_eq_false c1]; simp
    rw [HC]
    clear hn hn' hv hv' hk hk' HC
    go_enter Try.func15, Try.ntmps15
    go_wp2_with fail
    go_ret
    exact ⟨rfl, T.out.bel⟩
end Go.Proofs.Ytjpdnojkgadklaa
