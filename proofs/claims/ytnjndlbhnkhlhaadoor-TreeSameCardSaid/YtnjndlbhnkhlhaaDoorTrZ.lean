/- TreeSame, walked. -/
import Derived.Test.YtnjndlbhnkhlhaaDoorTrZa
namespace Go.Proofs.YtnjndlbhnkhlhaaDoor
open Go Go.RowKit Pk Rl
set_option maxRecDepth 100000

theorem tail_of (w : World) (a : Option Addr) (n c : Nat) (win : Int) (b : Option Addr) (m d : Nat) (win' : Int) :
    (((w.alloc (xpobj a n c win)).alloc (xpobj b m d win')).cell? ⟨w.heap.size, 0, none⟩ = some (.slice a n c) ∧ ((w.alloc (xpobj a n c win)).alloc (xpobj b m d win')).cell? ⟨w.heap.size, 1, none⟩ = some (.int .u64 win)) ∧
    (((w.alloc (xpobj a n c win)).alloc (xpobj b m d win')).cell? ⟨w.heap.size + 1, 0, none⟩ = some (.slice b m d) ∧ ((w.alloc (xpobj a n c win)).alloc (xpobj b m d win')).cell? ⟨w.heap.size + 1, 1, none⟩ = some (.int .u64 win')) ∧
    ((w.alloc (xpobj a n c win)).alloc (xpobj b m d win')).heap.size = w.heap.size + 1 + 1 := by
  refine ⟨⟨?_, ?_⟩, ⟨?_, ?_⟩, ?_⟩ <;> simp [go_sem]
theorem map_getD {f : Nd → Int × (Bool × Int × List TT) × Bool × (Bool × Int × List TT) × Int × Int × Int} {D E : List Nd} (h : D.map f = E.map f) : D.length = E.length ∧ ∀ i, i < D.length → f (D.getD i nz) = f (E.getD i nz) := by
  have hl := congrArg List.length h
  rw [List.length_map, List.length_map] at hl
  refine ⟨hl, fun i hi => ?_⟩
  have := congrArg (fun l => l[i]?) h
  simp only [List.getElem?_map] at this
  rw [List.getElem?_eq_getElem hi, List.getElem?_eq_getElem (by omega)] at this
  rw [List.getD_eq_getElem?_getD, List.getD_eq_getElem?_getD, List.getElem?_eq_getElem hi, List.getElem?_eq_getElem (by omega)]
  simpa using this
theorem ssn_map {D E : List Nd} {W W' : World} {A A' : Option Addr} {k c k' c' : Nat} (h : D.map (cn 10) = E.map (cn 10)) (hp : Pt W A k c D) (hq : Pt W' A' k' c' E) : ssn D E = true := by
  obtain ⟨h1, h2⟩ := map_getD h
  exact ssn_cn rfl h1.symm h2 (fun v hv => by have := hp.ok v hv; exact ⟨by rw [this.p.len]; exact this.p.few, by rw [this.g.len]; exact this.g.few⟩) (fun v hv => by have := hq.ok v hv; exact ⟨by rw [this.p.len]; exact this.p.few, by rw [this.g.len]; exact this.g.few⟩)
set_option maxHeartbeats 16000000 in
theorem tsame_walk (a : Option Addr) (n c : Nat) (L : List Nd) (win : Int) (b : Option Addr) (m d : Nat) (M : List Nd) (win' : Int) (w : World)
    (hn : L.length = n) (hmx : n ≤ maxLen) (hx : RN w a L) (hs : ∀ v ∈ L, Sm v) (_ : 0 ≤ win) (hm : M.length = m) (hmx' : m ≤ maxLen) (hx' : RN w b M) (hs' : ∀ v ∈ M, Sm v) (_ : 0 ≤ win') (hT : Tab w) :
    Calls Tryd.prog 4 #[ptv a n c win, ptv b m d win'] w fun e w' => e = .returned (.bool true) ∧ Below w.heap.size w w' := by
  have B0 := Lib.hid (below2 w (xpobj a n c win) (xpobj b m d win'))
  have T0 := Lib.hid (tail_of w a n c win b m d win')
  have FX := Lib.hid tfixed_any
  have HX := Lib.hid (hx.below B0.out)
  have HX' := Lib.hid (hx'.below B0.out)
  have HT := Lib.hid (hT.below B0.out)
  have HS := Lib.hid hs
  have HS' := Lib.hid hs'

  go_enter Tryd.func4, Tryd.ntmps4
  go_upto_region 1 with fail
  generalize (w.alloc (xpobj a n c win)).alloc (xpobj b m d win') = w1 at B0 T0 HX HX' HT ⊢
  obtain ⟨f0, f1⟩ := T0.out.1
  obtain ⟨f2, f3⟩ := T0.out.2.1
  have SZ := Lib.hid T0.out.2.2
  have EX := Lib.hid (fun W (h : ((∀ a j, a < w.heap.size + 1 + 1 → W.cell? ⟨a, j, none⟩ = w1.cell? ⟨a, j, none⟩) ∧ Hid (Below (w.heap.size + 1 + 1) w1 W ∧ w.heap.size + 1 + 1 ≤ W.heap.size))) => pattern_any a n c L win W hn hmx (HX.out.below (by rw [SZ.out]; exact sB h)))
  have EY := Lib.hid (fun W (h : ((∀ a j, a < w.heap.size + 1 + 1 → W.cell? ⟨a, j, none⟩ = w1.cell? ⟨a, j, none⟩) ∧ Hid (Below (w.heap.size + 1 + 1) w1 W ∧ w.heap.size + 1 + 1 ≤ W.heap.size))) => pattern_any b m d M win' W hm hmx' (HX'.out.below (by rw [SZ.out]; exact sB h)))
  have Z := Lib.hid (show w.heap.size + 1 < w1.heap.size by have := SZ.out; omega)
  have HT2 := Lib.hid (fun W (h : ((∀ a j, a < w.heap.size + 1 + 1 → W.cell? ⟨a, j, none⟩ = w1.cell? ⟨a, j, none⟩) ∧ Hid (Below (w.heap.size + 1 + 1) w1 W ∧ w.heap.size + 1 + 1 ≤ W.heap.size))) => HT.out.below (by rw [SZ.out]; exact sB h))
  have HX2 := Lib.hid (fun W (h : ((∀ a j, a < w.heap.size + 1 + 1 → W.cell? ⟨a, j, none⟩ = w1.cell? ⟨a, j, none⟩) ∧ Hid (Below (w.heap.size + 1 + 1) w1 W ∧ w.heap.size + 1 + 1 ≤ W.heap.size))) => HX.out.below (w' := W) (by rw [SZ.out]; exact sB h))
  have LP := Lib.hid (fun W (hW : RN W a L) => pattern_any a n c L win W hn hmx hW)
  clear hx hn hmx hx' hm hmx' hs hs' hT HX HX' T0 HT
  go_cut [5, 6] from 11 to 14 (fun v5 v6 wx => ∃ g g2 A k cc D A' k' cc' E, v5 = .pointer (some ⟨g, 0, none⟩) ∧ v6 = .pointer (some ⟨g2, 0, none⟩) ∧ Hid (SX w wx g g2 a n c L win A k cc D A' k' cc' E win' ∧ (D.length = k ∧ D.map (cn 10) = (L.take 40).map (cn 10)) ∧ (E.length = k' ∧ E.map (cn 10) = (M.take 40).map (cn 10))))
  case first =>
    clear FX HS HS' LP
    have ZZ : Hid (w.heap.size + 1 + 1 ≤ w1.heap.size) := Lib.hid Z.out
    have kS0 := mkS (Below.refl (w.heap.size + 1 + 1) w1).drew Z.out
    go_region_held3 (fun W => (∀ a j, a < w.heap.size + 1 + 1 → W.cell? ⟨a, j, none⟩ = w1.cell? ⟨a, j, none⟩) ∧ Hid (Below (w.heap.size + 1 + 1) w1 W ∧ w.heap.size + 1 + 1 ≤ W.heap.size))
      (first
        | (with_reducible assumption)
        | (with_reducible apply sCall; assumption; assumption)
        | (refine mkS ?_ ?_ <;> repeat' (first
            | (with_reducible apply sB; assumption)
            | (with_reducible apply sZ; assumption)
            | (with_reducible refine Below.alloc ?_ ?_ _)
            | (with_reducible refine Below.setCell ?_ ?_ _)
            | (with_reducible refine Below.drew ?_)
            | (rw [World.size_alloc])
            | (rw [World.size_setCell])
            | (rw [World.size_drew])
            | (with_reducible exact Below.refl _ _)
            | (with_reducible exact ZZ.out)
            | (with_reducible refine Nat.le_add_right_of_le ?_)
            | (dsimp only))))
      (first
        | (go_at_call 5; (with_reducible refine Calls.mono (EX.out _ ?_) ?_); (with_reducible assumption); rintro e wx ⟨Ax, kx, cx, Dx, rfl, hlx, hcx, hox, bx⟩; have KX := Lib.hid (And.intro hlx hcx); have OX := Lib.hid hox; clear hlx hcx hox; have kS := sCall bx (by assumption); have qc := fun a j (h : a < _) => bx.cell (p := ⟨a, j, none⟩) h; have qf := fun a j (h : a < _) => bx.frozen (p := ⟨a, j, none⟩) h; have z4 := fun a (h : a < _) => Nat.lt_of_lt_of_le h bx.size; have z := bx.size; try (simp only [World.size_alloc, World.size_drew] at z); try (have z2 := Nat.lt_of_succ_le z; try (have z3 := Nat.lt_of_succ_lt z2)))
        | (go_at_call 5; (with_reducible refine Calls.mono (EY.out _ ?_) ?_); (with_reducible assumption); rintro e wy ⟨Ay, ky, cy, Dy, rfl, hly, hcy, hoy, yb⟩; have KY := Lib.hid (And.intro hly hcy); have OY := Lib.hid hoy; clear hly hcy hoy; have kS := sCall yb (by assumption); have qc := fun a j (h : a < _) => yb.cell (p := ⟨a, j, none⟩) h; have qf := fun a j (h : a < _) => yb.frozen (p := ⟨a, j, none⟩) h; have z4 := fun a (h : a < _) => Nat.lt_of_lt_of_le h yb.size; have z := yb.size; try (simp only [World.size_alloc] at z); try (have z2 := Nat.lt_of_succ_le z; try (have z3 := Nat.lt_of_succ_lt z2))))
    all_goals (rename_i hHeld; go_wp2_with fail; go_meet; have zx := bx.size; have zy := yb.size; (try (rw [World.size_drew] at zx)); (try (rw [World.size_alloc] at zx)); (try (rw [World.size_alloc] at zx)); (try (rw [World.size_drew] at zy)); (try (rw [World.size_alloc] at zy)); (try (rw [World.size_alloc] at zy)); refine ⟨_, _, Ax, kx, cx, Dx, Ay, ky, cy, Dy, rfl, rfl, Lib.hid ⟨⟨(hHeld.1 _ 0 (by omega)).trans f0, (hHeld.1 _ 1 (by omega)).trans f1, ?_, ?_, ?_, ?_, OX.out.keep KX.out.1 (by have h1 := congrArg List.length KX.out.2; have h2 := KX.out.1; simp at h1; omega) _ (fun r j h1 h2 => ?_), OY.out.keep KY.out.1 (by have h1 := congrArg List.length KY.out.2; have h2 := KY.out.1; simp at h1; omega) _ (fun r j h1 h2 => ?_), HX2.out _ hHeld, HT2.out _ hHeld, B0.out.trans ((sB hHeld).mono (by omega))⟩, KX.out, KY.out⟩⟩)
    all_goals first
      | (have hh := h1
         clear hh
         (try (rw [World.size_drew] at h1))
         (try (rw [World.size_alloc] at h1))
         (try (rw [World.size_alloc] at h1))
         repeat (first
           | (with_reducible rfl)
           | (with_reducible refine Eq.trans (cell_drew _ _) ?_)
           | (with_reducible refine Eq.trans (cell_set_ne _ _ _ _ _ _ (by omega)) ?_)
           | (with_reducible refine Eq.trans (cell_alloc_lt _ _ _ _ (by first | omega | ((repeat (first | rw [World.size_setCell] | rw [World.size_alloc] | rw [World.size_drew])); omega))) ?_)
           | (with_reducible refine Eq.trans (bx.cell (p := ⟨r, j, none⟩) (by show r < _; first | omega | ((repeat (first | rw [World.size_setCell] | rw [World.size_alloc] | rw [World.size_drew])); omega))) ?_)
           | (with_reducible refine Eq.trans (yb.cell (p := ⟨r, j, none⟩) (by show r < _; first | omega | ((repeat (first | rw [World.size_setCell] | rw [World.size_alloc] | rw [World.size_drew])); omega))) ?_))
         done)
      | (go_simp; done)
      | (simp (maxDischargeDepth := 8) [go_sem, *]; done)
  case rest =>
  obtain ⟨g, g2, A, k, cc, D, A', k', cc', E, rfl, rfl, HC⟩ := hcut
  have H0 := Lib.hid HC.out.1
  have KD := Lib.hid HC.out.2.1
  have KE := Lib.hid HC.out.2.2
  have k40 : k ≤ 40 := by have h1 := congrArg List.length KD.out.2; have h2 := KD.out.1; simp at h1; omega
  have k40' : k' ≤ 40 := by have h1 := congrArg List.length KE.out.2; have h2 := KE.out.1; simp at h1; omega
  have SD := Lib.hid (sm_of KD.out.2 HS.out (fun v hv => by have := H0.out.pt.ok v hv; exact ⟨by rw [this.p.len]; exact this.p.few, by rw [this.g.len]; exact this.g.few⟩))
  have SE := Lib.hid (sm_of KE.out.2 HS'.out (fun v hv => by have := H0.out.qt.ok v hv; exact ⟨by rw [this.p.len]; exact this.p.few, by rw [this.g.len]; exact this.g.few⟩))
  clear HC EX EY HT2 HX2 HS HS' f0 f1 f2 f3 SZ Z B0
  have G1 := Lib.hid (fun W (h : SX w W g g2 a n c L win A k cc D A' k' cc' E win') => rtgreat_any A k cc D win W h.pt SD.out (by omega))
  have G2 := Lib.hid (fun W (h : SX w W g g2 a n c L win A k cc D A' k' cc' E win') => rtgreat_any A' k' cc' E win' W h.qt SE.out (by omega))
  have OW := Lib.hid (fun W (h : SX w W g g2 a n c L win A k cc D A' k' cc' E win') => town_any A k cc D win W h.pt)
  obtain ⟨r1, hr1⟩ : ∃ z, D.any gr = z := ⟨_, rfl⟩
  obtain ⟨r2, hr2⟩ : ∃ z, E.any gr = z := ⟨_, rfl⟩
  rw [hr1] at G1
  rw [hr2] at G2
  clear hr1 hr2 SD SE
  have p0 := H0.out.p0
  have p1 := H0.out.p1
  go_wp2_with fail
  refine (G1.out _ H0.out).mono ?_
  rintro e w2 ⟨rfl, hb⟩
  have H2 := Lib.hid (H0.out.next hb)
  clear hb H0 G1 p0 p1
  cases r1
  · have p0 := H2.out.q0
    have p1 := H2.out.q1
    go_wp2_with fail
    refine (G2.out _ H2.out).mono ?_
    rintro e w3 ⟨rfl, hb⟩
    have H3 := Lib.hid (H2.out.next hb)
    clear hb H2 G2 p0 p1
    cases r2
    · have p0 := H3.out.p0
      have p1 := H3.out.p1
      go_wp2_with fail
      refine (OW.out _ H3.out).mono ?_
      rintro e w5 ⟨A0, c0, D0, rfl, hl0, her, hpt0, hown, hb⟩
      have X7 := Lib.hid (PtB.alloc w5 A0 k c0 win)
      have B7 := Lib.hid (below_go hb (below_alloc w5 (ptobj A0 k c0 win)))
      have H7 := Lib.hid (H3.out.next B7.out)
      have P7 := Lib.hid (hpt0.below (below_alloc w5 (ptobj A0 k c0 win)))
      have WR : Hid (WS w3 (w5.alloc (ptobj A0 k c0 win)) w5.heap.size A0 k c0 win D0) := Lib.hid ⟨B7.out, X7.out, hb.size, fun h0 => by
        obtain ⟨g0, e, o⟩ := hown h0
        exact ⟨g0, e, (o.wr hl0 (fun v hv => ⟨(hpt0.ok v hv).p.len, (hpt0.ok v hv).g.len⟩)).next o.lt (below_alloc _ _)⟩⟩
      have LL := Lib.hid hl0
      have NN : Hid (∀ i, i < k → (D0.getD i nz).p.n ≤ 10 ∧ (D0.getD i nz).g.n ≤ 10) := Lib.hid fun i hi => by have := hpt0.ok _ (ngetD_mem D0 i (by omega)); exact ⟨this.p.few, this.g.few⟩
      have RS := Lib.hid (rtsame_any A0 k c0 D0 win A k cc D win (w5.alloc (ptobj A0 k c0 win)) P7.out H7.out.pt)
      have e1 : ssn D0 D = true := ssn_cn hl0 KD.out.1 (fun i hi => er_cn (her i hi)) (fun v hv => by have := hpt0.ok v hv; exact ⟨by rw [this.p.len]; exact this.p.few, by rw [this.g.len]; exact this.g.few⟩) (fun v hv => by have := H3.out.pt.ok v hv; exact ⟨by rw [this.p.len]; exact this.p.few, by rw [this.g.len]; exact this.g.few⟩)
      rw [e1, Bool.and_true, show (win == win) = true by simp] at RS
      have g5 : g < w5.heap.size := Nat.lt_of_lt_of_le (World.block_lt_of_cell? _ _ p0) hb.size
      have p0 := (hb.cell (p := ⟨g, 0, none⟩) (World.block_lt_of_cell? _ _ p0)).trans p0
      have p1 := (hb.cell (p := ⟨g, 1, none⟩) (World.block_lt_of_cell? _ _ p1)).trans p1
      clear OW hl0 her hpt0 hown hb e1 P7 B7
      go_wp2_with fail
      refine RS.out.mono ?_
      rintro e w7 ⟨rfl, hb⟩
      have WR8 : Hid (WS w3 w7 w5.heap.size A0 k c0 win D0) := Lib.hid ⟨below_go WR.out.bel hb |>.trans (Below.refl _ _), WR.out.box.next hb, WR.out.big, fun h0 => by
        obtain ⟨g0, e, o⟩ := WR.out.wr h0
        exact ⟨g0, e, o.next (Nat.lt_trans o.lt (by rw [World.size_alloc]; omega)) hb⟩⟩
      have b0 := WR8.out.box.c0
      clear hb WR H7 X7 RS
      go_wp2_with fail
      clear b0
      go_loopw [31] (fun v W => ∃ (i : Nat), v = .int .i64 (i : Int) ∧ i ≤ k ∧ Hid (WS w3 W w5.heap.size A0 k c0 win D0)) (fun v _ => k - (intOf v).toNat)
      case atStart => exact ⟨0, rfl, by omega, Lib.hid WR8.out⟩
      case round =>
        obtain ⟨i, rfl, hi, HR⟩ := hrel
        have V1 := Lib.hid HR.out
        clear HR WR8
        by_cases ci : i < k
        · obtain ⟨g0, rfl, hwr⟩ := V1.out.wr (by omega)
          have U0 : Hid (W1 w3 wr w5.heap.size g0 k c0 win D0) := Lib.hid ⟨V1.out.bel, V1.out.box, V1.out.big, hwr⟩
          have N1 := (NN.out i ci).1
          have N2 := (NN.out i ci).2
          obtain ⟨⟨u, z0⟩, z3, z7, t3, t7⟩ := hwr.at_ i (by rw [LL.out]; exact ci)
          have WQ := Lib.hid (fun W (h : W1 w3 W w5.heap.size g0 k c0 win D0) => h.wr.at_ i (by rw [LL.out]; exact ci))
          have b0 := V1.out.box.c0
          clear V1 hwr t3 t7
          generalize D0.getD i nz = x at N1 N2 z3 z7 WQ
          obtain ⟨xk, ⟨xx, xt, xa, xn, xc, xL⟩, xy, ⟨yx, yt, ya, yn, yc, yL⟩, xlo, xhi, xs⟩ := x
          simp only at N1 N2 z3 z7 WQ
          go_wp2_with fail
          clear b0 z0 z3 z7
          go_loopw [42] (fun v W => ∃ (j : Nat), v = .int .i64 (j : Int) ∧ j ≤ xn ∧ Hid (W1 w3 W w5.heap.size g0 k c0 win D0)) (fun v _ => xn - (intOf v).toNat)
          case atStart => exact ⟨0, rfl, by omega, Lib.hid U0.out⟩
          case round =>
            obtain ⟨j, rfl, hj, HH⟩ := hrel
            have U1 := Lib.hid HH.out
            clear HH U0
            have b0 := U1.out.box.c0
            obtain ⟨⟨u, z0⟩, z3, z7, t3, t7⟩ := WQ.out _ U1.out
            by_cases cj : j < xn
            · obtain ⟨tb, u2, rfl, h1, h2, h3, h4, h5⟩ := t3.at_ j cj
              have NX := Lib.hid (U1.out.setT tb (j * 6) 77 h1 h2 h3)
              have h6 := h4 (j * 6)
              clear h4 t3 t7 U1 z0
              go_wp2_with fail
              go_roundw
              case rel => exact ⟨j + 1, by go_num, by omega, Lib.hid NX.out⟩
              case measure => simp [intOf]; omega
            · obtain rfl : j = xn := by omega
              clear t3 t7 z0
              go_wp2_with fail
              clear b0 z3 z7
              go_loopw [64] (fun v W => ∃ (j : Nat), v = .int .i64 (j : Int) ∧ j ≤ yn ∧ Hid (W1 w3 W w5.heap.size g0 k c0 win D0)) (fun v _ => yn - (intOf v).toNat)
              case atStart => exact ⟨0, rfl, by omega, Lib.hid U1.out⟩
              case round =>
                obtain ⟨j, rfl, hj, HH⟩ := hrel
                have U2 := Lib.hid HH.out
                clear HH U1
                have b0 := U2.out.box.c0
                obtain ⟨⟨u, z0⟩, z3, z7, t3, t7⟩ := WQ.out _ U2.out
                by_cases cj : j < yn
                · obtain ⟨tb, u2, rfl, h1, h2, h3, h4, h5⟩ := t7.at_ j cj
                  have NX := Lib.hid (U2.out.setT tb (j * 6) 77 h1 h2 h3)
                  have h6 := h4 (j * 6)
                  clear h4 t3 t7 U2 z0
                  go_wp2_with fail
                  go_roundw
                  case rel => exact ⟨j + 1, by go_num, by omega, Lib.hid NX.out⟩
                  case measure => simp [intOf]; omega
                · obtain rfl : j = yn := by omega
                  have NX := Lib.hid (U2.out.setK i 99).ws
                  have h6 := U2.out.wr.fr (i * 11)
                  clear t3 t7 U2
                  go_wp2_with fail
                  go_roundw
                  case rel => exact ⟨i + 1, by go_num, by omega, Lib.hid NX.out⟩
                  case measure => simp [intOf]; omega
        · obtain rfl : i = k := by omega
          have H9 := Lib.hid (H3.out.next V1.out.bel)
          have KK := Lib.hid (ksx_next (Below.refl _ _).drew (ksx_of H9.out))
          have FX' := Lib.hid (fun W (h : Ksx w W g g2 a n c L win A i cc D A' k' cc' E win') => FX.out W h.2.2.2.2.2.2.out.tab)
          have LP' := Lib.hid (fun W (h : Ksx w W g g2 a n c L win A i cc D A' k' cc' E win') => LP.out W h.2.2.2.2.2.2.out.rn)
          have S1 := Lib.hid (fun W (h : Ksx w W g g2 a n c L win A i cc D A' k' cc' E win') => tsame_any A i cc D win A' k' cc' E win' W h.2.2.2.2.2.2.out.pt h.2.2.2.2.2.2.out.qt)
          have S2 := Lib.hid (fun W (h : Ksx w W g g2 a n c L win A i cc D A' k' cc' E win') => rtsame_any A i cc D win A' k' cc' E win' W h.2.2.2.2.2.2.out.pt h.2.2.2.2.2.2.out.qt)
          have S3 : Hid (∀ A4 k4 c4 D4 W, Ksx w W g g2 a n c L win A i cc D A' k' cc' E win' → (Pt W A4 k4 c4 D4 ∧ D4.map (cn 10) = (L.take 40).map (cn 10)) → Calls Tryd.prog 17 #[ptv A i cc win, ptv A4 k4 c4 win] W fun e w' => e = .returned (.bool true) ∧ Below W.heap.size W w') := Lib.hid fun A4 k4 c4 D4 W h h4 => by
            have := tsame_any A i cc D win A4 k4 c4 D4 win W h.2.2.2.2.2.2.out.pt h4.1
            rw [ssn_map (KD.out.2.trans h4.2.symm) h.2.2.2.2.2.2.out.pt h4.1, Bool.and_true, show (win == win) = true by simp] at this
            exact this
          have S4 : Hid (∀ A4 k4 c4 D4 W, Ksx w W g g2 a n c L win A i cc D A' k' cc' E win' → (Pt W A4 k4 c4 D4 ∧ D4.map (cn 10) = (L.take 40).map (cn 10)) → Calls Tryd.prog 16 #[ptv A i cc win, ptv A4 k4 c4 win] W fun e w' => e = .returned (.bool true) ∧ Below W.heap.size W w') := Lib.hid fun A4 k4 c4 D4 W h h4 => by
            have := rtsame_any A i cc D win A4 k4 c4 D4 win W h.2.2.2.2.2.2.out.pt h4.1
            rw [ssn_map (KD.out.2.trans h4.2.symm) h.2.2.2.2.2.2.out.pt h4.1, Bool.and_true, show (win == win) = true by simp] at this
            exact this
          obtain ⟨q, hq⟩ : ∃ q, ((win == win') && ssn D E) = q := ⟨_, rfl⟩
          rw [hq] at S1 S2
          have i1 : (q == q) = true := by simp
          have PL := Lib.hid (fun (k4 : Nat) (D4 : List Nd) (h : D4.length = k4) (h2 : D4.map (cn 10) = (L.take 40).map (cn 10)) => (show k4 ≤ 1000 by have h1 := congrArg List.length h2; simp at h1; omega))
          obtain ⟨c0, c1, c2, c3, c4, c5, _⟩ := ksx_of H9.out
          clear hq H3 V1 FX LP KD KE NN LL k40 k40' H9
          go_wp2_with fail
          go_region_held3 (fun W => W.cell? ⟨w.heap.size, 0, none⟩ = some (.slice a n c) ∧ W.cell? ⟨w.heap.size, 1, none⟩ = some (.int .u64 win) ∧ W.cell? ⟨g, 0, none⟩ = some (.slice A i cc) ∧ W.cell? ⟨g, 1, none⟩ = some (.int .u64 win) ∧ W.cell? ⟨g2, 0, none⟩ = some (.slice A' k' cc') ∧ W.cell? ⟨g2, 1, none⟩ = some (.int .u64 win') ∧ Hid (SX w W g g2 a n c L win A i cc D A' k' cc' E win'))
            (first | (with_reducible assumption) | (with_reducible exact KK.out) | (with_reducible exact ksx_next b1 (by assumption)))
            (first
              | (go_at_call 7; (with_reducible refine Calls.mono (FX'.out _ ?_) ?_); (with_reducible assumption); rintro e w' ⟨rfl, b1⟩)
              | (go_at_call 5; (with_reducible refine Calls.mono (LP'.out _ ?_) ?_); (with_reducible assumption); rintro e w' ⟨A4, k4, c4, D4, rfl, h4, m4, o4, b1⟩; have P4 := Lib.hid (And.intro (o4.pt h4 (PL.out _ _ h4 m4)) m4); clear h4 m4 o4)
              | (go_at_call 17; (with_reducible refine Calls.mono (S1.out _ ?_) ?_); (with_reducible assumption); rintro e w' ⟨rfl, b1⟩)
              | (go_at_call 16; (with_reducible refine Calls.mono (S2.out _ ?_) ?_); (with_reducible assumption); rintro e w' ⟨rfl, b1⟩)
              | (go_at_call 17; (with_reducible refine Calls.mono (S3.out _ _ _ _ _ ?_ P4.out) ?_); (with_reducible assumption); rintro e w' ⟨rfl, b1⟩)
              | (go_at_call 16; (with_reducible refine Calls.mono (S4.out _ _ _ _ _ ?_ P4.out) ?_); (with_reducible assumption); rintro e w' ⟨rfl, b1⟩))
          all_goals (rename_i hHeld; have HB2 := Lib.hid hHeld.2.2.2.2.2.2.out.bel; clear hHeld; go_wp2_with fail; go_ret; exact ⟨rfl, HB2.out⟩)
    · go_wp2_with fail
      refine (FX.out _ H3.out.tab).mono ?_
      rintro e w4 ⟨rfl, hb⟩
      have B4 := Lib.hid (below_go H3.out.bel hb)
      clear hb H3
      go_wp2_with fail
      go_ret
      exact ⟨rfl, B4.out⟩
  · go_wp2_with fail
    refine (FX.out _ H2.out.tab).mono ?_
    rintro e w4 ⟨rfl, hb⟩
    have B4 := Lib.hid (below_go H2.out.bel hb)
    clear hb H2
    go_wp2_with fail
    go_ret
    exact ⟨rfl, B4.out⟩
end Go.Proofs.YtnjndlbhnkhlhaaDoor
