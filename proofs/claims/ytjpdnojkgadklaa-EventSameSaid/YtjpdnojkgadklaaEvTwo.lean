/- EventSame: both events are made, in whatever order. -/
import Derived.Test.YtjpdnojkgadklaaEvFix
import Derived.Test.YtjpdnojkgadklaaLbKeep
import Derived.Deep.RegionHeld3
import Derived.Deep.DeepCutAuto
namespace Go.Proofs.Ytjpdnojkgadklaa
open Go Go.RowKit Pk Rl
set_option maxRecDepth 20000

theorem OwnV.keep {w : World} {B : Nat} {A : Option Addr} {k c : Nat} {L : List VV} (h : OwnV w B (.slice A k c) L) (F : World) (hF : ∀ r j, B ≤ r → r < w.heap.size → F.cell? ⟨r, j, none⟩ = w.cell? ⟨r, j, none⟩) : Vals F A L := by
  intro i hi
  obtain ⟨b, off, e, c0, c1, c2, c3⟩ := h.vals i hi
  have hB : B ≤ b := by
    rcases h.2 with ⟨h', _⟩ | ⟨g, cap, cur, h', hg, _⟩
    · injection h' with e1 _ _
      rw [e1] at e
      cases e
    · injection h' with e1 _ _
      rw [e1] at e
      injection e with e
      injection e with e
      omega
  have hb : b < w.heap.size := World.block_lt_of_cell? _ _ c0
  exact ⟨b, off, e, by rw [hF b _ hB hb]; exact c0, by rw [hF b _ hB hb]; exact c1, by rw [hF b _ hB hb]; exact c2, by rw [hF b _ hB hb]; exact c3⟩

theorem cell_set_ne (w : World) (g i : Nat) (x : Value) (r j : Nat) (h : r ≠ g) : (w.setCell ⟨g, i, none⟩ x).cell? ⟨r, j, none⟩ = w.cell? ⟨r, j, none⟩ := World.cell?_of_block (heap_setCell_other w ⟨g, i, none⟩ r x h)
theorem cell_alloc_lt (w : World) (o : Obj) (r j : Nat) (h : r < w.heap.size) : (w.alloc o).cell? ⟨r, j, none⟩ = w.cell? ⟨r, j, none⟩ := (below_alloc w o).cell (p := ⟨r, j, none⟩) h
theorem cell_drew (w : World) (p : Addr) : w.drew.cell? p = w.cell? p := rfl
/- what both events are, and where -/
structure Both (w W : World) (g g2 : Nat) (t : Int) (A : Option Addr) (k c : Nat) (L : List VV) (t' : Int) (A' : Option Addr) (k' c' : Nat) (L' : List VV) (a : Option Addr) (n cp : Nat) : Prop where
  one : Evt W g t A k c
  two : Evt W g2 t' A' k' c'
  box : Evt W w.heap.size t a n cp
  v1 : Vals W A L
  v2 : Vals W A' L'
  bel : Below w.heap.size w W
theorem Both.next {w W W' : World} {g g2 : Nat} {t : Int} {A : Option Addr} {k c : Nat} {L : List VV} {t' : Int} {A' : Option Addr} {k' c' : Nat} {L' : List VV} {a : Option Addr} {n cp : Nat}
    (h : Both w W g g2 t A k c L t' A' k' c' L' a n cp) (hb : Below W.heap.size W W') : Both w W' g g2 t A k c L t' A' k' c' L' a n cp :=
  ⟨h.one.next hb, h.two.next hb, h.box.next hb, h.v1.below hb, h.v2.below hb, below_go h.bel hb⟩

abbrev Kb (w W : World) (g g2 : Nat) (t : Int) (A : Option Addr) (k c : Nat) (L : List VV) (t' : Int) (A' : Option Addr) (k' c' : Nat) (L' : List VV) (a : Option Addr) (n cp : Nat) : Prop :=
  W.cell? ⟨g, 0, none⟩ = some (.int .u8 t) ∧ W.cell? ⟨g, 1, none⟩ = some (.slice A k c) ∧ W.cell? ⟨g2, 0, none⟩ = some (.int .u8 t') ∧ W.cell? ⟨g2, 1, none⟩ = some (.slice A' k' c') ∧ W.cell? ⟨w.heap.size, 0, none⟩ = some (.int .u8 t) ∧ W.cell? ⟨w.heap.size, 1, none⟩ = some (.slice a n cp) ∧ Hid (Both w W g g2 t A k c L t' A' k' c' L' a n cp)
theorem kb_of {w W : World} {g g2 : Nat} {t : Int} {A : Option Addr} {k c : Nat} {L : List VV} {t' : Int} {A' : Option Addr} {k' c' : Nat} {L' : List VV} {a : Option Addr} {n cp : Nat}
    (h : Both w W g g2 t A k c L t' A' k' c' L' a n cp) : Kb w W g g2 t A k c L t' A' k' c' L' a n cp := ⟨h.one.1, h.one.2, h.two.1, h.two.2, h.box.1, h.box.2, Lib.hid h⟩
theorem kb_next {w W W' : World} {g g2 : Nat} {t : Int} {A : Option Addr} {k c : Nat} {L : List VV} {t' : Int} {A' : Option Addr} {k' c' : Nat} {L' : List VV} {a : Option Addr} {n cp : Nat}
    (hb : Below W.heap.size W W') (h : Kb w W g g2 t A k c L t' A' k' c' L' a n cp) : Kb w W' g g2 t A k c L t' A' k' c' L' a n cp := kb_of (h.2.2.2.2.2.2.out.next hb)
theorem sm_nine (m : Int) (r : Nat) (s : ByteArray) : smv (9, m, r, s) (9, 0, 0, ⟨#[]⟩) = true := by
  unfold smv sm smB
  simp
/- one's own list, whatever stands in it -/
structure Mine (w3 W : World) (T : Nat) (t : Int) (A : Option Addr) (k c : Nat) : Prop where
  bel : Below w3.heap.size w3 W
  evt : Evt W T t A k c
  row : ∀ j, j < k → ∃ r cur, A = some ⟨r, 0, none⟩ ∧ w3.heap.size ≤ r ∧ r < T ∧ W.heap[r]? = some (.cells cur 60 (0, 0)) ∧ k * 4 ≤ cur.size
theorem Mine.start {w3 w4 : World} {t : Int} {A : Option Addr} {k c : Nat} {L : List VV} (ho : OwnV w4 w3.heap.size (.slice A k c) L) (hb : Below w3.heap.size w3 w4) : Mine w3 (w4.alloc (ecells t A k c)) w4.heap.size t A k c := by
  refine ⟨below_go hb (below_alloc _ _), Evt.alloc w4 t A k c, fun j hj => ?_⟩
  rcases ho.2 with ⟨h, _⟩ | ⟨g, cap, cur, h, hg, hh, h1, _, h2, _⟩
  · injection h with _ e _
    omega
  · injection h with e1 e2 e3
    have hlt : g < w4.heap.size := by
      rcases Nat.lt_or_ge g w4.heap.size with h | h
      · exact h
      · rw [Array.getElem?_eq_none h] at hh; cases hh
    refine ⟨g, cur, e1, hg, hlt, ?_, by rw [h2]; omega⟩
    rw [Below.heap_alloc w4 _ g hlt]
    exact hh
theorem Mine.cell {w3 W : World} {T : Nat} {t : Int} {A : Option Addr} {k c : Nat} (h : Mine w3 W T t A k c) {j r : Nat} (hj : j < k) (hA : A = some ⟨r, 0, none⟩) (i : Nat) (hi : i < 4) : (∃ x, W.cell? ⟨r, j * 4 + i, none⟩ = some x) ∧ W.frozen? ⟨r, j * 4 + i, none⟩ = false := by
  obtain ⟨r', cur, e, _, _, hh, hs⟩ := h.row j hj
  rw [hA] at e
  injection e with e
  injection e with e
  subst e
  have hlt : j * 4 + i < cur.size := by omega
  refine ⟨⟨cur[j * 4 + i], ?_⟩, ?_⟩
  · rw [cell_of_row W r _ cur _ _ hh]
    simp [hlt]
  · simp [World.frozen?, hh]
theorem Mine.set {w3 W : World} {T : Nat} {t : Int} {A : Option Addr} {k c : Nat} (h : Mine w3 W T t A k c) {r : Nat} (hA : A = some ⟨r, 0, none⟩) (hr : w3.heap.size ≤ r) (hT : r < T) (o : Nat) (x : Value) : Mine w3 (W.setCell ⟨r, o, none⟩ x) T t A k c := by
  refine ⟨h.bel.setCell (p := ⟨r, o, none⟩) hr x, ?_, fun j hj => ?_⟩
  · exact ⟨by rw [cell_set_ne _ _ _ _ _ _ (by omega)]; exact h.evt.1, by rw [cell_set_ne _ _ _ _ _ _ (by omega)]; exact h.evt.2⟩
  · obtain ⟨r', cur, e, h1, h2, hh, hs⟩ := h.row j hj
    rw [hA] at e
    injection e with e
    injection e with e
    subst e
    refine ⟨r, _, hA, h1, h2, heap_setCell_same W r o cur _ x hh, ?_⟩
    rw [Array.size_setIfInBounds]
    exact hs

set_option maxHeartbeats 8000000 in
set_option maxRecDepth 100000 in
theorem same_try (t : Int) (a : Option Addr) (n c : Nat) (R L : List VV) (t' : Int) (a' : Option Addr) (n' c' : Nat) (R' L' : List VV) (w : World)
    (hx : Raws w a R) (hL : R.take 30 = L) (hn : R.length = n) (hmx : n ≤ maxLen) (hx' : Raws w a' R') (hL' : R'.take 30 = L') (hn' : R'.length = n') (hmx' : n' ≤ maxLen)
    (hk : ∀ v ∈ L, Okv v) (hz : ∀ v ∈ L, v.2.2.2.size ≤ maxLen) (hk' : ∀ v ∈ L', Okv v) (hz' : ∀ v ∈ L', v.2.2.2.size ≤ maxLen) :
    Calls Try.prog 7 #[ev t a n c, ev t' a' n' c'] w fun e w' => e = .returned (.bool true) ∧ Below w.heap.size w w' := by
  have B0 := Lib.hid (below_go (below_alloc w (xcells t a n c)) (below_alloc _ (xcells t' a' n' c')))
  have T0 := Lib.hid (show Evt ((w.alloc (xcells t a n c)).alloc (xcells t' a' n' c')) w.heap.size t a n c ∧ Evt ((w.alloc (xcells t a n c)).alloc (xcells t' a' n' c')) (w.heap.size + 1) t' a' n' c' ∧ ((w.alloc (xcells t a n c)).alloc (xcells t' a' n' c')).heap.size = w.heap.size + 1 + 1 from ⟨⟨by simp [go_sem], by simp [go_sem]⟩, ⟨by simp [go_sem], by simp [go_sem]⟩, by simp⟩)
  have h30 : L.length ≤ 30 := by rw [← hL]; exact List.length_take_le 30 R
  have h30' : L'.length ≤ 30 := by rw [← hL']; exact List.length_take_le 30 R'
  have FX := Lib.hid fixed_any
  have GR1 := Lib.hid (fun A k c w (h1 : L.length = k) h2 => great_any t A k c L w h1 (by omega) h2 hz)
  have GR2 := Lib.hid (fun A k c w (h1 : L'.length = k) h2 => great_any t' A k c L' w h1 (by omega) h2 hz')
  have OW := Lib.hid (fun A k c w (h1 : L.length = k) h2 => own_any t A k c L w h1 (by omega) h2)
  have HK := Lib.hid hk
  have H30 := Lib.hid h30
  have HXX := Lib.hid hx
  have EV := Lib.hid (fun W (h : Raws W a R) => event_any t a n c R W hn hmx h)
  rw [hL] at EV
  have S1 := Lib.hid (fun A k c A' k' c' w (h1 : L.length = k) (h2 : L'.length = k') h3 h4 => esame_any t t' A A' k c k' c' L L' w h1 h2 (by omega) h3 h4 hk hk')
  have S2 := Lib.hid (fun A k c A' k' c' w (h1 : L.length = k) (h2 : L'.length = k') h3 h4 => resame_any t t' A A' k c k' c' L L' w h1 h2 (by omega) h3 h4 hk hk')
  have S3 := Lib.hid (fun A k c A' k' c' w (h1 : L.length = k) (h2 : L.length = k') h3 h4 => resame_any t t A A' k c k' c' L L w h1 h2 (by omega) h3 h4 hk hk)
  have S4 := Lib.hid (fun A k c A' k' c' w (h1 : L.length = k) (h2 : L.length = k') h3 h4 => esame_any t t A A' k c k' c' L L w h1 h2 (by omega) h3 h4 hk hk)
  rw [esm_self] at S3 S4
  generalize egr L = G1 at GR1
  generalize egr L' = G2 at GR2
  generalize esm t L t' L' = q at S1 S2
  have HX := Lib.hid (hx.below B0.out)
  have HX' := Lib.hid (hx'.below B0.out)
  go_enter Try.func7, Try.ntmps7
  go_upto_region 1 with fail
  generalize (w.alloc (xcells t a n c)).alloc (xcells t' a' n' c') = w1 at B0 T0 HX HX' ⊢
  obtain ⟨f0, f1⟩ := T0.out.1
  obtain ⟨f2, f3⟩ := T0.out.2.1
  have SZ := Lib.hid T0.out.2.2
  have EX := Lib.hid (fun W (h : (∀ a j, a < w.heap.size + 1 + 1 → W.cell? ⟨a, j, none⟩ = w1.cell? ⟨a, j, none⟩) ∧ Hid (Below (w.heap.size + 1 + 1) w1 W ∧ w.heap.size + 1 + 1 ≤ W.heap.size)) => event_any t a n c R W hn hmx (HX.out.below (by rw [SZ.out]; exact sB h)))
  have EY := Lib.hid (fun W (h : (∀ a j, a < w.heap.size + 1 + 1 → W.cell? ⟨a, j, none⟩ = w1.cell? ⟨a, j, none⟩) ∧ Hid (Below (w.heap.size + 1 + 1) w1 W ∧ w.heap.size + 1 + 1 ≤ W.heap.size)) => event_any t' a' n' c' R' W hn' hmx' (HX'.out.below (by rw [SZ.out]; exact sB h)))
  rw [hL] at EX
  rw [hL'] at EY
  clear hx hL hn hmx hx' hL' hn' hmx' HX HX' T0 hk hz hk' hz' h30 h30'
  have Z := Lib.hid (show w.heap.size + 1 < w1.heap.size by have := SZ.out; omega)
  go_cut [5, 6] from 11 to 14 (fun v5 v6 wx => ∃ g g2 A k cc A' k' cc', v5 = .pointer (some ⟨g, 0, none⟩) ∧ v6 = .pointer (some ⟨g2, 0, none⟩) ∧ Hid (Both w wx g g2 t A k cc L t' A' k' cc' L' a n c ∧ L.length = k ∧ L'.length = k'))
  case first =>
    clear FX GR1 GR2 OW HK H30 HXX EV S1 S2 S3 S4
    have ZZ : Hid (w.heap.size + 1 + 1 ≤ w1.heap.size) := Lib.hid Z.out
    have kS0 := mkS (Below.refl (w.heap.size + 1 + 1) w1).drew Z.out
    go_region_held3 (fun W => (∀ a j, a < w.heap.size + 1 + 1 → W.cell? ⟨a, j, none⟩ = w1.cell? ⟨a, j, none⟩) ∧ Hid (Below (w.heap.size + 1 + 1) w1 W ∧ w.heap.size + 1 + 1 ≤ W.heap.size))
      (first
        | (with_reducible assumption)
        | (with_reducible apply sCall; assumption; assumption)
        | (refine mkS ?_ ?_ <;> repeat' (first
            | (with_reducible apply sB; assumption)
            | (with_reducible apply sZ; assumption)
            | (with_reducible refine Below.alloc ?_ ?_ _)
            | (with_reducible refine Below.setCell ?_ ?_ _)
            | (with_reducible refine Below.drew ?_)
            | (rw [World.size_alloc])
            | (rw [World.size_setCell])
            | (rw [World.size_drew])
            | (with_reducible exact Below.refl _ _)
            | (with_reducible exact ZZ.out)
            | (with_reducible refine Nat.le_add_right_of_le ?_)
            | (dsimp only))))
      (first
        | (go_at_call 8; (with_reducible refine Calls.mono (EX.out _ ?_) ?_); (with_reducible assumption); rintro e wx ⟨Ax, kx, cx, rfl, hkx, hox, bx⟩; have KX := Lib.hid hkx; have OX := Lib.hid hox; clear hkx hox; have kS := sCall bx (by assumption); have qc := fun a j (h : a < _) => bx.cell (p := ⟨a, j, none⟩) h; have qf := fun a j (h : a < _) => bx.frozen (p := ⟨a, j, none⟩) h; have z4 := fun a (h : a < _) => Nat.lt_of_lt_of_le h bx.size; have z := bx.size; try (simp only [World.size_alloc, World.size_drew] at z); try (have z2 := Nat.lt_of_succ_le z; try (have z3 := Nat.lt_of_succ_lt z2)))
        | (go_at_call 8; (with_reducible refine Calls.mono (EY.out _ ?_) ?_); (with_reducible assumption); rintro e wy ⟨Ay, ky, cy, rfl, hky, hoy, yb⟩; have KY := Lib.hid hky; have OY := Lib.hid hoy; clear hky hoy; have kS := sCall yb (by assumption); have qc := fun a j (h : a < _) => yb.cell (p := ⟨a, j, none⟩) h; have qf := fun a j (h : a < _) => yb.frozen (p := ⟨a, j, none⟩) h; have z4 := fun a (h : a < _) => Nat.lt_of_lt_of_le h yb.size; have z := yb.size; try (simp only [World.size_alloc] at z); try (have z2 := Nat.lt_of_succ_le z; try (have z3 := Nat.lt_of_succ_lt z2))))
    all_goals (rename_i hHeld; go_wp2_with fail; go_meet; have zx := bx.size; have zy := yb.size; (try (rw [World.size_drew] at zx)); (try (rw [World.size_alloc] at zx)); (try (rw [World.size_alloc] at zx)); (try (rw [World.size_drew] at zy)); (try (rw [World.size_alloc] at zy)); (try (rw [World.size_alloc] at zy)); refine ⟨_, _, Ax, kx, cx, Ay, ky, cy, rfl, rfl, Lib.hid ⟨⟨⟨?_, ?_⟩, ⟨?_, ?_⟩, ⟨(hHeld.1 w.heap.size 0 (by omega)).trans f0, (hHeld.1 w.heap.size 1 (by omega)).trans f1⟩, OX.out.keep _ (fun r j h1 h2 => ?_), OY.out.keep _ (fun r j h1 h2 => ?_), B0.out.trans ((sB hHeld).mono (by omega))⟩, KX.out, KY.out⟩⟩)
    all_goals first
      | (have hh := h1
         clear hh
         (try (rw [World.size_drew] at h1))
         (try (rw [World.size_alloc] at h1))
         (try (rw [World.size_alloc] at h1))
         repeat (first
           | (with_reducible rfl)
           | (with_reducible refine Eq.trans (cell_drew _ _) ?_)
           | (with_reducible refine Eq.trans (cell_set_ne _ _ _ _ _ _ (by omega)) ?_)
           | (with_reducible refine Eq.trans (cell_alloc_lt _ _ _ _ (by first | omega | ((repeat (first | rw [World.size_setCell] | rw [World.size_alloc] | rw [World.size_drew])); omega))) ?_)
           | (with_reducible refine Eq.trans (bx.cell (p := ⟨r, j, none⟩) (by show r < _; first | omega | ((repeat (first | rw [World.size_setCell] | rw [World.size_alloc] | rw [World.size_drew])); omega))) ?_)
           | (with_reducible refine Eq.trans (yb.cell (p := ⟨r, j, none⟩) (by show r < _; first | omega | ((repeat (first | rw [World.size_setCell] | rw [World.size_alloc] | rw [World.size_drew])); omega))) ?_))
         done)
      | (go_simp; done)
      | (simp (maxDischargeDepth := 8) [go_sem, *]; done)
  case rest =>
  obtain ⟨g, g2, A, k, cc, A', k', cc', rfl, rfl, HC⟩ := hcut
  have H := Lib.hid HC.out.1
  have K1 := Lib.hid HC.out.2.1
  have K2 := Lib.hid HC.out.2.2
  clear HC EX EY f0 f1 f2 f3 SZ Z B0
  obtain ⟨c0, d1⟩ := H.out.one
  go_wp2_with fail
  refine (GR1.out A k cc _ K1.out H.out.v1).mono ?_
  rintro e w2 ⟨rfl, hbl⟩
  have H2 := Lib.hid (H.out.next hbl)
  clear hbl H GR1 c0 d1
  cases G1
  · obtain ⟨c0, d1⟩ := H2.out.two
    go_wp2_with fail
    refine (GR2.out A' k' cc' _ K2.out H2.out.v2).mono ?_
    rintro e w3 ⟨rfl, hbl⟩
    have H3 := Lib.hid (H2.out.next hbl)
    clear hbl H2 GR2 c0 d1
    cases G2
    · obtain ⟨c0, d1⟩ := H3.out.one
      go_wp2_with fail
      refine (OW.out A k cc w3 K1.out H3.out.v1).mono ?_
      rintro e w4 ⟨A7, c7, rfl, hO7, hbl⟩
      have M4 := Lib.hid (Mine.start (t := t) hO7 hbl)
      clear hbl hO7 OW c0 d1
      have hk30 : k ≤ 30 := by have := K1.out; have := H30.out; omega
      go_wp2_with fail
      go_loopw [27] (fun i W => ∃ (j : Nat), i = .int .i64 j ∧ j ≤ k ∧ Hid (Mine w3 W w4.heap.size t A7 k c7)) (fun i _ => k - (intOf i).toNat)
      case atStart => exact ⟨0, rfl, by omega, Lib.hid M4.out⟩
      case round =>
        obtain ⟨j, rfl, hj, M⟩ := hrel
        clear M4
        by_cases hjk : j < k
        · obtain ⟨r, cur, rfl, hr1, hr2, _, _⟩ := M.out.row j hjk
          obtain ⟨⟨x0, q0⟩, u0⟩ := M.out.cell hjk rfl 0 (by omega)
          obtain ⟨⟨x1, q1⟩, u1⟩ := M.out.cell hjk rfl 1 (by omega)
          obtain ⟨⟨x2, q2⟩, u2⟩ := M.out.cell hjk rfl 2 (by omega)
          obtain ⟨⟨x3, q3⟩, u3⟩ := M.out.cell hjk rfl 3 (by omega)
          rw [Nat.add_zero] at q0 u0
          obtain ⟨e0, e1⟩ := M.out.evt
          have M2 := Lib.hid ((((M.out.set rfl hr1 hr2 (j * 4) (.int .u8 9)).set rfl hr1 hr2 (j * 4 + 1) (.int .i64 0)).set rfl hr1 hr2 (j * 4 + 2) (.float .f64 0)).set rfl hr1 hr2 (j * 4 + 3) (.string ⟨#[]⟩))
          have sf := run_store_float
          clear M hr1 hr2
          go_wp2_with fail
          go_roundw
          case rel => exact ⟨j + 1, by go_num, by omega, Lib.hid M2.out⟩
          case measure => simp [intOf]; omega
        · have H6 := Lib.hid (H3.out.next M.out.bel)
          obtain rfl : j = k := by omega
          clear M H3 hj hjk
          obtain ⟨c0, d1⟩ := H6.out.one
          go_wp2_with fail
          go_loopw [39] (fun i W => ∃ (m : Nat), i = .int .i64 m ∧ m ≤ j ∧ Hid (Both w W g g2 t A j cc L t' A' k' cc' L' a n c)) (fun i _ => j - (intOf i).toNat)
          case atStart => exact ⟨0, rfl, by omega, Lib.hid H6.out⟩
          case round =>
            obtain ⟨m, rfl, hm, H7⟩ := hrel
            clear H6 c0 d1
            by_cases hmj : m < j
            · obtain ⟨b, off, rfl, v0, v1, v2, v3⟩ := H7.out.v1 m (by have := K1.out; omega)
              have hok := Lib.hid (HK.out _ (getD_mem L m (by have := K1.out; omega)))
              generalize L.getD m vz = v at v0 v1 v2 v3 hok
              obtain ⟨vk, vn, vr, vs⟩ := v
              have sf := run_store_float
              have H8 := Lib.hid (H7.out.next (below_alloc wr (vcells vk vn vr vs)))
              by_cases h9 : vk = 9
              · subst h9
                have SV := Lib.hid (rvsame_v (9, vn, vr, vs) (9, 0, 0, ⟨#[]⟩) hok.out ⟨by decide, by decide, by decide, by decide, by decide⟩)
                rw [sm_nine] at SV
                clear H7 hok
                go_wp2_with fail
                refine (SV.out _).mono ?_
                rintro e w9 ⟨rfl, hbl⟩
                have H9 := Lib.hid (H8.out.next hbl)
                clear hbl H8 SV v0 v1 v2 v3
                go_wp2_with fail
                go_roundw
                case rel => exact ⟨m + 1, by go_num, by omega, Lib.hid H9.out⟩
                case measure => simp [intOf]; omega
              · have t9 : (vk == 9) = false := by simpa using h9
                clear H7 hok
                go_wp2_with fail
                go_roundw
                case rel => exact ⟨m + 1, by go_num, by omega, Lib.hid H8.out⟩
                case measure => simp [intOf]; omega
            · have KD := Lib.hid (kb_of (H7.out.next (Below.refl _ wr).drew))
              have S1' := Lib.hid (fun W (h : Kb w W g g2 t A j cc L t' A' k' cc' L' a n c) => S1.out A j cc A' k' cc' W K1.out K2.out h.2.2.2.2.2.2.out.v1 h.2.2.2.2.2.2.out.v2)
              have S2' := Lib.hid (fun W (h : Kb w W g g2 t A j cc L t' A' k' cc' L' a n c) => S2.out A j cc A' k' cc' W K1.out K2.out h.2.2.2.2.2.2.out.v1 h.2.2.2.2.2.2.out.v2)
              have S3' := Lib.hid (fun A6 k6 c6 B W (hk6 : L.length = k6) (ho6 : OwnV W B (.slice A6 k6 c6) L) (h : Kb w W g g2 t A j cc L t' A' k' cc' L' a n c) => S3.out A j cc A6 k6 c6 W K1.out hk6 h.2.2.2.2.2.2.out.v1 ho6.vals)
              have S4' := Lib.hid (fun W (h : Kb w W g g2 t A j cc L t' A' k' cc' L' a n c) => S4.out A j cc A j cc W K1.out K1.out h.2.2.2.2.2.2.out.v1 h.2.2.2.2.2.2.out.v1)
              have EV' := Lib.hid (fun W (h : Kb w W g g2 t A j cc L t' A' k' cc' L' a n c) => EV.out W (HXX.out.below h.2.2.2.2.2.2.out.bel))
              obtain ⟨c0, d1⟩ := H7.out.one
              obtain ⟨c2, d2⟩ := H7.out.two
              obtain ⟨c3, d3⟩ := H7.out.box
              have i1 : (q == q) = true := by simp
              clear H7 S1 S2 S3 S4 EV HXX
              go_wp2_with fail
              go_region_held3 (fun W => W.cell? ⟨g, 0, none⟩ = some (.int .u8 t) ∧ W.cell? ⟨g, 1, none⟩ = some (.slice A j cc) ∧ W.cell? ⟨g2, 0, none⟩ = some (.int .u8 t') ∧ W.cell? ⟨g2, 1, none⟩ = some (.slice A' k' cc') ∧ W.cell? ⟨w.heap.size, 0, none⟩ = some (.int .u8 t) ∧ W.cell? ⟨w.heap.size, 1, none⟩ = some (.slice a n c) ∧ Hid (Both w W g g2 t A j cc L t' A' k' cc' L' a n c))
                (first | (with_reducible assumption) | (with_reducible exact KD.out) | (with_reducible exact kb_next b1 (by assumption)))
                (first
                  | (go_at_call 10; (with_reducible refine (FX.out _).mono ?_); rintro e w' ⟨rfl, b1⟩)
                  | (go_at_call 25; (with_reducible refine Calls.mono (S1'.out _ ?_) ?_); (with_reducible assumption); rintro e w' ⟨rfl, b1⟩)
                  | (go_at_call 25; (with_reducible refine Calls.mono (S4'.out _ ?_) ?_); (with_reducible assumption); rintro e w' ⟨rfl, b1⟩)
                  | (go_at_call 8; (with_reducible refine Calls.mono (EV'.out _ ?_) ?_); (with_reducible assumption); rintro e w' ⟨A6, k6, c6, rfl, hk6, ho6, b1⟩; have K6 := Lib.hid hk6; have O6 := Lib.hid ho6; clear hk6 ho6)
                  | (go_at_call 15; (with_reducible refine Calls.mono (S2'.out _ ?_) ?_); (with_reducible assumption); rintro e w' ⟨rfl, b1⟩)
                  | (go_at_call 15; (with_reducible refine Calls.mono (S3'.out _ _ _ _ _ K6.out O6.out ?_) ?_); (with_reducible assumption); rintro e w' ⟨rfl, b1⟩))
              all_goals (rename_i hHeld; have HB := Lib.hid hHeld.2.2.2.2.2.2.out.bel; clear hHeld; go_wp2_with fail; go_ret; exact ⟨rfl, HB.out⟩)
    · go_wp2_with fail
      refine (FX.out _).mono ?_
      rintro e w4 ⟨rfl, hbl⟩
      have B4 := Lib.hid (below_go H3.out.bel hbl)
      clear hbl
      go_wp2_with fail
      go_ret
      exact ⟨rfl, B4.out⟩
  · go_wp2_with fail
    refine (FX.out _).mono ?_
    rintro e w4 ⟨rfl, hbl⟩
    have B4 := Lib.hid (below_go H2.out.bel hbl)
    clear hbl
    go_wp2_with fail
    go_ret
    exact ⟨rfl, B4.out⟩
end Go.Proofs.Ytjpdnojkgadklaa
