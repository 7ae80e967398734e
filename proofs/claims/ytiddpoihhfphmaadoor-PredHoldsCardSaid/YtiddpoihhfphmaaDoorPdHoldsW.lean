/- PredHolds, walked. -/
import Derived.Test.YtiddpoihhfphmaaDoorPdK
import Derived.Test.YtiddpoihhfphmaaDoorPdX
import Derived.Test.YtiddpoihhfphmaaDoorPdRHo
import Derived.Test.YtiddpoihhfphmaaDoorPdE
import Derived.Test.YtiddpoihhfphmaaDoorEvOwn
import Derived.Deep.RegionHeld3
import Derived.Deep.DeepCutAuto
namespace Go.Proofs.YtiddpoihhfphmaaDoor
open Go Go.RowKit Pk Rl
set_option maxRecDepth 20000

abbrev Khw (w W : World) (g g2 : Nat) (x : Bool) (t : Int) (A : Option Addr) (k c : Nat) (L : List TT) (y : Int) (A' : Option Addr) (k' c' : Nat) (E : List VV) : Prop :=
  W.cell? ⟨g, 0, none⟩ = some (.bool x) ∧ W.cell? ⟨g, 1, none⟩ = some (.int .u8 t) ∧ W.cell? ⟨g, 2, none⟩ = some (.slice A k c) ∧ W.cell? ⟨g2, 0, none⟩ = some (.int .u8 y) ∧ W.cell? ⟨g2, 1, none⟩ = some (.slice A' k' c') ∧ Hid (HB w W g g2 x t A k c L y A' k' c' E)
theorem khw_of {w W : World} {g g2 : Nat} {x : Bool} {t : Int} {A : Option Addr} {k c : Nat} {L : List TT} {y : Int} {A' : Option Addr} {k' c' : Nat} {E : List VV} (h : HB w W g g2 x t A k c L y A' k' c' E) : Khw w W g g2 x t A k c L y A' k' c' E :=
  ⟨h.one.1, h.one.2.1, h.one.2.2, h.two.1, h.two.2, Lib.hid h⟩
theorem khw_next {w W W' : World} {g g2 : Nat} {x : Bool} {t : Int} {A : Option Addr} {k c : Nat} {L : List TT} {y : Int} {A' : Option Addr} {k' c' : Nat} {E : List VV} (hb : Below W.heap.size W W') (h : Khw w W g g2 x t A k c L y A' k' c' E) : Khw w W' g g2 x t A k c L y A' k' c' E :=
  khw_of (h.2.2.2.2.2.out.next hb)
set_option maxHeartbeats 8000000 in
set_option maxRecDepth 100000 in
theorem holds_walk (x : Bool) (t : Int) (a : Option Addr) (n c : Nat) (R L : List TT) (y : Int) (b : Option Addr) (m d : Nat) (S E : List VV) (w : World) (hT : Tab w)
    (hx : Rawts w a R) (hL : R.take 10 = L) (hn : R.length = n) (hmx : n ≤ maxLen) (hk : ∀ v ∈ L, Okt v) (hz : ∀ v ∈ L, v.2.2.2.2.2.size ≤ maxLen)
    (hx' : Raws w b S) (hE : S.take 30 = E) (hm : S.length = m) (hmx' : m ≤ maxLen) (hk' : ∀ v ∈ E, Okv v) (hz' : ∀ v ∈ E, v.2.2.2.size ≤ maxLen) :
    Calls Tryd.prog 3 #[pv x t a n c, ev y b m d] w fun e w' => e = .returned (.bool true) ∧ Below w.heap.size w w' := by
  have B0 := Lib.hid (below2 w (xpcells x t a n c) (xcells y b m d))
  have T0 := Lib.hid (show Pdt ((w.alloc (xpcells x t a n c)).alloc (xcells y b m d)) w.heap.size x t a n c ∧ Evt ((w.alloc (xpcells x t a n c)).alloc (xcells y b m d)) (w.heap.size + 1) y b m d ∧ ((w.alloc (xpcells x t a n c)).alloc (xcells y b m d)).heap.size = w.heap.size + 1 + 1 from ⟨⟨by simp [go_sem], by simp [go_sem], by simp [go_sem]⟩, ⟨by simp [go_sem], by simp [go_sem]⟩, by simp⟩)
  have h10 : L.length ≤ 10 := by rw [← hL]; exact List.length_take_le 10 R
  have h30 : E.length ≤ 30 := by rw [← hE]; exact List.length_take_le 30 S
  have FX := Lib.hid fixed_any
  have GR1 := Lib.hid (fun A k c w (h1 : L.length = k) h2 => pgreat_any x t A k c L w h1 (by omega) h2 hz)
  have GR2 := Lib.hid (fun A k c w (h1 : E.length = k) h2 => great_any y A k c E w h1 (by omega) h2 hz')
  have M1 := Lib.hid (fun A k c w (h1 : L.length = k) h3 h5 => pmay_any x t A k c L w h1 (by omega) h3 hk h5)
  have M2 := Lib.hid (fun A k c w (h1 : L.length = k) h3 => rpmay_any x t A k c L w h1 (by omega) h3 hk)
  have S1 := Lib.hid (fun A k c A' k' c' w (h1 : L.length = k) (h2 : E.length = k') h3 h4 h5 => phold_any x t A k c L y A' k' c' E w h1 (by omega) h2 (by omega) h3 hk h4 hk' h5)
  have S2 := Lib.hid (fun A k c A' k' c' w (h1 : L.length = k) (h2 : E.length = k') h3 h4 h5 => rphold_any x t A k c L y A' k' c' E w h1 (by omega) h2 (by omega) h3 hk h4 hk' h5)
  generalize pgreat L = G1 at GR1
  generalize egr E = G2 at GR2
  generalize phold x t L y E = q at S1 S2
  generalize pmay x t L = p at M1 M2
  have HX := Lib.hid (hx.below B0.out)
  have HX' := Lib.hid (hx'.below B0.out)
  have HT := Lib.hid (hT.below B0.out)
  go_enter Tryd.func3, Tryd.ntmps3
  go_upto_region 1 with fail
  generalize (w.alloc (xpcells x t a n c)).alloc (xcells y b m d) = w1 at B0 T0 HX HX' HT ⊢
  obtain ⟨f0, f1, f2⟩ := T0.out.1
  obtain ⟨f3, f4⟩ := T0.out.2.1
  have SZ := Lib.hid T0.out.2.2
  have EX := Lib.hid (fun W (h : (∀ a j, a < w.heap.size + 1 + 1 → W.cell? ⟨a, j, none⟩ = w1.cell? ⟨a, j, none⟩) ∧ Hid (Below (w.heap.size + 1 + 1) w1 W ∧ w.heap.size + 1 + 1 ≤ W.heap.size)) => pred_any x t a n c R W hn hmx (HX.out.below (by rw [SZ.out]; exact sB h)))
  have EY := Lib.hid (fun W (h : (∀ a j, a < w.heap.size + 1 + 1 → W.cell? ⟨a, j, none⟩ = w1.cell? ⟨a, j, none⟩) ∧ Hid (Below (w.heap.size + 1 + 1) w1 W ∧ w.heap.size + 1 + 1 ≤ W.heap.size)) => event_any y b m d S W hm hmx' (HX'.out.below (by rw [SZ.out]; exact sB h)))
  rw [hL] at EX
  rw [hE] at EY
  clear hx hL hn hmx hx' hE hm hmx' HX HX' T0 hk hz hk' hz' hT
  have Z := Lib.hid (show w.heap.size + 1 < w1.heap.size by have := SZ.out; omega)
  have HT2 := Lib.hid (fun W (h : (∀ a j, a < w.heap.size + 1 + 1 → W.cell? ⟨a, j, none⟩ = w1.cell? ⟨a, j, none⟩) ∧ Hid (Below (w.heap.size + 1 + 1) w1 W ∧ w.heap.size + 1 + 1 ≤ W.heap.size)) => HT.out.below (by rw [SZ.out]; exact sB h))
  go_cut [5, 6] from 7 to 10 (fun v5 v6 wx => ∃ g g2 A k cc A' k' cc', v5 = .pointer (some ⟨g, 0, none⟩) ∧ v6 = .pointer (some ⟨g2, 0, none⟩) ∧ Hid (HB w wx g g2 x t A k cc L y A' k' cc' E ∧ L.length = k ∧ E.length = k'))
  case first =>
    clear FX GR1 GR2 S1 S2 M1 M2 h10 h30
    have ZZ : Hid (w.heap.size + 1 + 1 ≤ w1.heap.size) := Lib.hid Z.out
    have kS0 := mkS (Below.refl (w.heap.size + 1 + 1) w1).drew Z.out
    go_region_held3 (fun W => (∀ a j, a < w.heap.size + 1 + 1 → W.cell? ⟨a, j, none⟩ = w1.cell? ⟨a, j, none⟩) ∧ Hid (Below (w.heap.size + 1 + 1) w1 W ∧ w.heap.size + 1 + 1 ≤ W.heap.size))
      (first
        | (with_reducible assumption)
        | (with_reducible apply sCall; assumption; assumption)
        | (refine mkS ?_ ?_ <;> repeat' (first
            | (with_reducible apply sB; assumption)
            | (with_reducible apply sZ; assumption)
            | (with_reducible refine Below.alloc ?_ ?_ _)
            | (with_reducible refine Below.setCell ?_ ?_ _)
            | (with_reducible refine Below.drew ?_)
            | (rw [World.size_alloc])
            | (rw [World.size_setCell])
            | (rw [World.size_drew])
            | (with_reducible exact Below.refl _ _)
            | (with_reducible exact ZZ.out)
            | (with_reducible refine Nat.le_add_right_of_le ?_)
            | (dsimp only))))
      (first
        | (go_at_call 7; (with_reducible refine Calls.mono (EX.out _ ?_) ?_); (with_reducible assumption); rintro e wx ⟨Ax, kx, cx, rfl, hkx, hox, bx⟩; have KX := Lib.hid hkx; have OX := Lib.hid hox; clear hkx hox; have kS := sCall bx (by assumption); have qc := fun a j (h : a < _) => bx.cell (p := ⟨a, j, none⟩) h; have qf := fun a j (h : a < _) => bx.frozen (p := ⟨a, j, none⟩) h; have z4 := fun a (h : a < _) => Nat.lt_of_lt_of_le h bx.size; have z := bx.size; try (simp only [World.size_alloc, World.size_drew] at z); try (have z2 := Nat.lt_of_succ_le z; try (have z3 := Nat.lt_of_succ_lt z2)))
        | (go_at_call 8; (with_reducible refine Calls.mono (EY.out _ ?_) ?_); (with_reducible assumption); rintro e wy ⟨Ay, ky, cy, rfl, hky, hoy, yb⟩; have KY := Lib.hid hky; have OY := Lib.hid hoy; clear hky hoy; have kS := sCall yb (by assumption); have qc := fun a j (h : a < _) => yb.cell (p := ⟨a, j, none⟩) h; have qf := fun a j (h : a < _) => yb.frozen (p := ⟨a, j, none⟩) h; have z4 := fun a (h : a < _) => Nat.lt_of_lt_of_le h yb.size; have z := yb.size; try (simp only [World.size_alloc] at z); try (have z2 := Nat.lt_of_succ_le z; try (have z3 := Nat.lt_of_succ_lt z2))))
    all_goals (rename_i hHeld; go_wp2_with fail; go_meet; have zx := bx.size; have zy := yb.size; (try (rw [World.size_drew] at zx)); (try (rw [World.size_alloc] at zx)); (try (rw [World.size_alloc] at zx)); (try (rw [World.size_drew] at zy)); (try (rw [World.size_alloc] at zy)); (try (rw [World.size_alloc] at zy)); refine ⟨_, _, Ax, kx, cx, Ay, ky, cy, rfl, rfl, Lib.hid ⟨⟨⟨?_, ?_, ?_⟩, ⟨?_, ?_⟩, OX.out.keep _ (fun r j h1 h2 => ?_), OY.out.keep _ (fun r j h1 h2 => ?_), HT2.out _ hHeld, B0.out.trans ((sB hHeld).mono (by omega))⟩, KX.out, KY.out⟩⟩)
    all_goals first
      | (have hh := h1
         clear hh
         (try (rw [World.size_drew] at h1))
         (try (rw [World.size_alloc] at h1))
         (try (rw [World.size_alloc] at h1))
         repeat (first
           | (with_reducible rfl)
           | (with_reducible refine Eq.trans (cell_drew _ _) ?_)
           | (with_reducible refine Eq.trans (cell_set_ne _ _ _ _ _ _ (by omega)) ?_)
           | (with_reducible refine Eq.trans (cell_alloc_lt _ _ _ _ (by first | omega | ((repeat (first | rw [World.size_setCell] | rw [World.size_alloc] | rw [World.size_drew])); omega))) ?_)
           | (with_reducible refine Eq.trans (bx.cell (p := ⟨r, j, none⟩) (by show r < _; first | omega | ((repeat (first | rw [World.size_setCell] | rw [World.size_alloc] | rw [World.size_drew])); omega))) ?_)
           | (with_reducible refine Eq.trans (yb.cell (p := ⟨r, j, none⟩) (by show r < _; first | omega | ((repeat (first | rw [World.size_setCell] | rw [World.size_alloc] | rw [World.size_drew])); omega))) ?_))
         done)
      | (go_simp; done)
      | (simp (maxDischargeDepth := 8) [go_sem, *]; done)
  case rest =>
  obtain ⟨g, g2, A, k, cc, A', k', cc', rfl, rfl, HC⟩ := hcut
  have H := Lib.hid HC.out.1
  have K1 := Lib.hid HC.out.2.1
  have K2 := Lib.hid HC.out.2.2
  clear HC EX EY HT2 HT f0 f1 f2 f3 f4  SZ Z B0
  obtain ⟨c0, c1, c2⟩ := H.out.one
  go_wp2_with fail
  refine (GR1.out A k cc _ K1.out H.out.tst).mono ?_
  rintro e w2 ⟨rfl, hbl⟩
  have H2 := Lib.hid (H.out.next hbl)
  clear hbl H GR1 c0 c1 c2
  cases G1
  · obtain ⟨d0, d1⟩ := H2.out.two
    go_wp2_with fail
    refine (GR2.out A' k' cc' _ K2.out H2.out.val).mono ?_
    rintro e w3 ⟨rfl, hbl⟩
    have H3 := Lib.hid (H2.out.next hbl)
    clear hbl H2 GR2 d0 d1
    cases G2
    · have KD := Lib.hid (khw_next (Below.refl _ _).drew (khw_of H3.out))
      have FX' := Lib.hid (fun W (h : Khw w W g g2 x t A k cc L y A' k' cc' E) => FX.out W h.2.2.2.2.2.out.tab)
      have M1' := Lib.hid (fun W (h : Khw w W g g2 x t A k cc L y A' k' cc' E) => M1.out A k cc W K1.out h.2.2.2.2.2.out.tst h.2.2.2.2.2.out.tab)
      have M2' := Lib.hid (fun W (h : Khw w W g g2 x t A k cc L y A' k' cc' E) => M2.out A k cc W K1.out h.2.2.2.2.2.out.tst)
      have S1' := Lib.hid (fun W (h : Khw w W g g2 x t A k cc L y A' k' cc' E) => S1.out A k cc A' k' cc' W K1.out K2.out h.2.2.2.2.2.out.tst h.2.2.2.2.2.out.val h.2.2.2.2.2.out.tab)
      have S2' := Lib.hid (fun W (h : Khw w W g g2 x t A k cc L y A' k' cc' E) => S2.out A k cc A' k' cc' W K1.out K2.out h.2.2.2.2.2.out.tst h.2.2.2.2.2.out.val h.2.2.2.2.2.out.tab)
      obtain ⟨c0, c1, c2, d0, d1, _⟩ := khw_of H3.out
      have i1 : (q == q) = true := by simp
      have i2 : (p == p) = true := by simp
      clear H3 S1 S2 M1 M2 FX
      go_wp2_with fail
      go_region_held3 (fun W => W.cell? ⟨g, 0, none⟩ = some (.bool x) ∧ W.cell? ⟨g, 1, none⟩ = some (.int .u8 t) ∧ W.cell? ⟨g, 2, none⟩ = some (.slice A k cc) ∧ W.cell? ⟨g2, 0, none⟩ = some (.int .u8 y) ∧ W.cell? ⟨g2, 1, none⟩ = some (.slice A' k' cc') ∧ Hid (HB w W g g2 x t A k cc L y A' k' cc' E))
        (first | (with_reducible assumption) | (with_reducible exact KD.out) | (with_reducible exact khw_next b1 (by assumption)))
        (first
          | (go_at_call 11; (with_reducible refine Calls.mono (FX'.out _ ?_) ?_); (with_reducible assumption); rintro e w' ⟨rfl, b1⟩)
          | (go_at_call 12; (with_reducible refine Calls.mono (M1'.out _ ?_) ?_); (with_reducible assumption); rintro e w' ⟨rfl, b1⟩)
          | (go_at_call 13; (with_reducible refine Calls.mono (M2'.out _ ?_) ?_); (with_reducible assumption); rintro e w' ⟨rfl, b1⟩)
          | (go_at_call 14; (with_reducible refine Calls.mono (S1'.out _ ?_) ?_); (with_reducible assumption); rintro e w' ⟨rfl, b1⟩)
          | (go_at_call 15; (with_reducible refine Calls.mono (S2'.out _ ?_) ?_); (with_reducible assumption); rintro e w' ⟨rfl, b1⟩))
      all_goals (rename_i hHeld; have HB2 := Lib.hid hHeld.2.2.2.2.2.out.bel; clear hHeld; go_wp2_with fail; go_ret; exact ⟨rfl, HB2.out⟩)
    · go_wp2_with fail
      refine (FX.out _ H3.out.tab).mono ?_
      rintro e w4 ⟨rfl, hbl⟩
      have B4 := Lib.hid (H3.out.next hbl)
      clear hbl H3 FX
      go_wp2_with fail
      go_ret
      exact ⟨rfl, B4.out.bel⟩
  · go_wp2_with fail
    refine (FX.out _ H2.out.tab).mono ?_
    rintro e w4 ⟨rfl, hbl⟩
    have B4 := Lib.hid (H2.out.next hbl)
    clear hbl H2 FX
    go_wp2_with fail
    go_ret
    exact ⟨rfl, B4.out.bel⟩
end Go.Proofs.YtiddpoihhfphmaaDoor
