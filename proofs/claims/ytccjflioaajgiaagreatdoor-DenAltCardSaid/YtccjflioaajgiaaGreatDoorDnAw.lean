/- DenAlt, walked. -/
import Derived.Test.YtccjflioaajgiaaGreatDoorDnAx
import Derived.Test.YtccjflioaajgiaaGreatDoorDnAl
namespace Go.Proofs.YtccjflioaajgiaaGreatDoor
open Go Go.RowKit Go.Maps Pk Rl
set_option maxRecDepth 100000

set_option maxHeartbeats 16000000 in
theorem alt_walk (a : Option Addr) (n c : Nat) (L : List Nd) (wn : Nat) (b : Option Addr) (m d : Nat) (M : List Nd) (wm : Nat) (hA : Option Addr) (hN hC : Nat) (H : List Hp) (w : World)
    (hn : L.length = n) (hmx : n ≤ maxLen) (hx : RN w a L) (hs : ∀ v ∈ L, Sm v) (hwn : wn < 18446744073709551616) (hm : M.length = m) (hmx' : m ≤ maxLen) (hx' : RN w b M) (hs' : ∀ v ∈ M, Sm v) (hwm : wm < 18446744073709551616)
    (hH : Hps w hA H) (hHn : H.length = hN) (hHm : hN ≤ maxLen) (hT : Tab w) :
    Calls Tryz.prog 5 #[ptv a n c (wn : Int), ptv b m d (wm : Int), .slice hA hN hC] w fun e w' => e = .returned (.bool true) ∧ Below w.heap.size w w' := by
  have B0 := Lib.hid (below2 w (xpobj a n c (wn : Int)) (xpobj b m d (wm : Int)))
  have T0 := Lib.hid (tail_of w a n c (wn : Int) b m d (wm : Int))
  have FX := Lib.hid fixed_any
  have HX := Lib.hid (hx.below B0.out)
  have HX' := Lib.hid (hx'.below B0.out)
  have HH := Lib.hid (hH.below B0.out)
  have HT := Lib.hid hT
  have HS := Lib.hid hs
  have HS' := Lib.hid hs'
  have HW := Lib.hid (And.intro hwn hwm)
  go_enter Tryz.func5, Tryz.ntmps5
  go_upto_region 1 with fail
  generalize (w.alloc (xpobj a n c (wn : Int))).alloc (xpobj b m d (wm : Int)) = w1 at B0 T0 HX HX' HH ⊢
  obtain ⟨f0, f1⟩ := T0.out.1
  obtain ⟨f2, f3⟩ := T0.out.2.1
  have SZ := Lib.hid T0.out.2.2
  have EX := Lib.hid (fun W (h : ((∀ a j, a < w.heap.size + 1 + 1 → W.cell? ⟨a, j, none⟩ = w1.cell? ⟨a, j, none⟩) ∧ Hid (Below (w.heap.size + 1 + 1) w1 W ∧ w.heap.size + 1 + 1 ≤ W.heap.size))) => pattern_any a n c L (wn : Int) W hn hmx (HX.out.below (by rw [SZ.out]; exact sB h)))
  have EY := Lib.hid (fun W (h : ((∀ a j, a < w.heap.size + 1 + 1 → W.cell? ⟨a, j, none⟩ = w1.cell? ⟨a, j, none⟩) ∧ Hid (Below (w.heap.size + 1 + 1) w1 W ∧ w.heap.size + 1 + 1 ≤ W.heap.size))) => pattern_any b m d M (wm : Int) W hm hmx' (HX'.out.below (by rw [SZ.out]; exact sB h)))
  have EZ : Hid (∀ W, ((∀ a j, a < w.heap.size + 1 + 1 → W.cell? ⟨a, j, none⟩ = w1.cell? ⟨a, j, none⟩) ∧ Hid (Below (w.heap.size + 1 + 1) w1 W ∧ w.heap.size + 1 + 1 ≤ W.heap.size)) → Calls Tryz.prog 9 #[.slice hA hN hC, .int .i64 14] W fun e w' => (∃ A c R, e = .returned (.slice A R.length c) ∧ R.length ≤ 14 ∧ OwnLg w' W.heap.size (.slice A R.length c) R) ∧ Below W.heap.size W w') := Lib.hid (fun W h => events_any hA hN hC H 14 W (HH.out.below (by rw [SZ.out]; exact sB h)) hHn (by omega) hHm)
  have Z := Lib.hid (show w.heap.size + 1 < w1.heap.size by have := SZ.out; omega)
  clear hx hn hmx hx' hm hmx' hs hs' hT HX HX' T0 hH HH hHn hHm hwn hwm
  go_cut [7, 8, 9] from 16 to 21 (fun v7 v8 v9 wx => ∃ g g2 A k cc D A' k' cc' E rA rc R, v7 = .pointer (some ⟨g, 0, none⟩) ∧ v8 = .pointer (some ⟨g2, 0, none⟩) ∧ v9 = .slice rA R.length rc ∧ Hid (AX w wx g g2 A k cc wn D A' k' cc' wm E rA rc R ∧ R.length ≤ 14 ∧ (D.length = k ∧ D.map (cn 10) = (L.take 40).map (cn 10)) ∧ (E.length = k' ∧ E.map (cn 10) = (M.take 40).map (cn 10))))
  case first =>
    clear FX HS HS'
    have ZZ : Hid (w.heap.size + 1 + 1 ≤ w1.heap.size) := Lib.hid Z.out
    have kS0 := mkS (Below.refl (w.heap.size + 1 + 1) w1).drew Z.out
    go_region_held3 (fun W => (∀ a j, a < w.heap.size + 1 + 1 → W.cell? ⟨a, j, none⟩ = w1.cell? ⟨a, j, none⟩) ∧ Hid (Below (w.heap.size + 1 + 1) w1 W ∧ w.heap.size + 1 + 1 ≤ W.heap.size))
      (first
        | (with_reducible assumption)
        | (with_reducible apply sCall; assumption; assumption)
        | (refine mkS ?_ ?_ <;> repeat' (first
            | (with_reducible apply sB; assumption)
            | (with_reducible apply sZ; assumption)
            | (with_reducible refine Below.alloc ?_ ?_ _)
            | (with_reducible refine Below.setCell ?_ ?_ _)
            | (with_reducible refine Below.drew ?_)
            | (rw [World.size_alloc])
            | (rw [World.size_setCell])
            | (rw [World.size_drew])
            | (with_reducible exact Below.refl _ _)
            | (with_reducible exact ZZ.out)
            | (with_reducible refine Nat.le_add_right_of_le ?_)
            | (dsimp only))))
      (first
        | (go_at_call 8; (with_reducible refine Calls.mono (EX.out _ ?_) ?_); (with_reducible assumption); rintro e wx ⟨Ax, kx, cx, Dx, rfl, hlx, hcx, hox, bx⟩; have KX := Lib.hid (And.intro hlx hcx); have OX := Lib.hid hox; have BX := Lib.hid bx; clear hlx hcx hox; have kS := sCall bx (by assumption); have qc := fun a j (h : a < _) => bx.cell (p := ⟨a, j, none⟩) h; have qf := fun a j (h : a < _) => bx.frozen (p := ⟨a, j, none⟩) h; have z := bx.size; try (simp only [World.size_alloc, World.size_drew] at z); try (have z2 := Nat.lt_of_succ_le z; try (have z3 := Nat.lt_of_succ_lt z2)))
        | (go_at_call 8; (with_reducible refine Calls.mono (EY.out _ ?_) ?_); (with_reducible assumption); rintro e wy ⟨Ay, ky, cy, Dy, rfl, hly, hcy, hoy, yb⟩; have KY := Lib.hid (And.intro hly hcy); have OY := Lib.hid hoy; have YB := Lib.hid yb; clear hly hcy hoy; have kS := sCall yb (by assumption); have UY : Hid (Up wx wy) := Lib.hid (by first | exact Up.of yb | exact Up.of (below_go (bal _ _) yb) | exact Up.of (below_go (below_go (bal _ _) (bal _ _)) yb)); have yc := UY.out.c; have yf := UY.out.f; have yl := UY.out.lt; have qc := fun a j (h : a < _) => yb.cell (p := ⟨a, j, none⟩) h; have qf := fun a j (h : a < _) => yb.frozen (p := ⟨a, j, none⟩) h; have z := yb.size; try (simp only [World.size_alloc] at z); try (have z2 := Nat.lt_of_succ_le z; try (have z3 := Nat.lt_of_succ_lt z2)))
        | (go_at_call 9; (with_reducible refine Calls.mono (EZ.out _ ?_) ?_); (with_reducible assumption); rintro e wz ⟨⟨Az, cz, Rz, rfl, hlz, hoz⟩, zb⟩; have KZ := Lib.hid hlz; have OZ := Lib.hid hoz; have ZB := Lib.hid zb; clear hlz hoz; have kS := sCall zb (by assumption); have UZ : Hid (Up wy wz) := Lib.hid (by first | exact Up.of zb | exact Up.of (below_go (bal _ _) zb) | exact Up.of (below_go (below_go (bal _ _) (bal _ _)) zb)); have zc := UZ.out.c; have zf := UZ.out.f; have zl := UZ.out.lt; have VZ : Hid (Up wx wz) := Lib.hid (UY.out.trans UZ.out); have vc := VZ.out.c; have vf := VZ.out.f; have vl := VZ.out.lt; have qc := fun a j (h : a < _) => zb.cell (p := ⟨a, j, none⟩) h; have qf := fun a j (h : a < _) => zb.frozen (p := ⟨a, j, none⟩) h; have z := zb.size; try (simp only [World.size_alloc] at z); try (have z2 := Nat.lt_of_succ_le z; try (have z3 := Nat.lt_of_succ_lt z2))))
    all_goals (rename_i hHeld; go_wp2_with fail; go_meet)
    all_goals (
      have zw : w.heap.size < w1.heap.size := by have := Z.out; omega
      have bxx : Below w1.heap.size w1 wx := by first | exact below_go (Below.refl _ _).drew bx | exact below_go (bal _ _).drew bx | exact below_go (below_go (bal _ _) (bal _ _)).drew bx
      have byy : Below wx.heap.size wx wy := by first | exact yb | exact below_go (bal _ _) yb | exact below_go (below_go (bal _ _) (bal _ _)) yb
      have bzz : Below wy.heap.size wy wz := by first | exact zb | exact below_go (bal _ _) zb | exact below_go (below_go (bal _ _) (bal _ _)) zb
      have hd := exN (exN ⟨_, OX.out⟩ byy) bzz
      have he := exN ⟨_, OY.out⟩ bzz
      have hr : ∃ B, OwnLg wz B (.slice Az Rz.length cz) Rz := ⟨_, OZ.out⟩
      have hb := below_go (below_go (below_go B0.out bxx) byy) bzz
      have sx := bxx.size
      have sy := byy.size
      have sz := bzz.size
      refine ⟨_, _, Ax, kx, cx, Dx, Ay, ky, cy, Dy, Az, cz, Rz, rfl, rfl, rfl, Lib.hid ⟨?_, KZ.out, KX.out, KY.out⟩⟩
      first
        | exact axA hd he hr hb
        | exact axA2 hd he hr hb
        | (refine axB (by omega) ?_ hd he hr hb)
        | (refine axB2 (by omega) ?_ hd he hr hb)
        | (refine axC (by omega) (by omega) (by omega) ?_ ?_ hd he hr hb))
    all_goals first
      | exact (PtB.alloc wy none 0 0 0).next zb
      | exact ((PtB.alloc wy none 0 0 0).next (bal _ _)).next zb
      | exact (PtB.alloc' (w := wy.alloc _) (by simp)).next zb
      | exact ((PtB.alloc wx none 0 0 0).next yb).next bzz
      | exact (((PtB.alloc wx none 0 0 0).next (bal _ _)).next yb).next bzz
      | exact ((PtB.alloc' (w := wx.alloc _) (by simp)).next yb).next bzz
      | exact (((PtB.alloc w1 none 0 0 0).drewn.next bx).next byy).next bzz
      | exact ((((PtB.alloc w1 none 0 0 0).next (bal _ _)).drewn.next bx).next byy).next bzz
      | exact (((PtB.alloc' (w := w1.alloc _) (by simp)).drewn.next bx).next byy).next bzz
  case rest =>
    obtain ⟨g, g2, A, k, cc, D, A', k', cc', E, rA, rc, R, rfl, rfl, rfl, HC⟩ := hcut
    obtain ⟨hX, hR14, ⟨hDk, hDc⟩, ⟨hEk, hEc⟩⟩ := HC.out
    have k40 := len40 hDk hDc
    have k41 := len40 hEk hEc
    have SD := Lib.hid (hX.sm hDk (by omega) hDc HS.out)
    have SE := Lib.hid (hX.smq hEk (by omega) hEc HS'.out)
    have LD := Lib.hid hDk
    have LE := Lib.hid hEk
    have K40 := Lib.hid (And.intro k40 k41)
    have R14 := Lib.hid hR14
    have X3 := Lib.hid hX
    have TB : Hid (∀ W, Below w.heap.size w W → Tab W) := Lib.hid (fun W h => HT.out.below h)
    clear HC hX hR14 hDk hDc hEk hEc HS HS' HT B0 EX EY EZ f0 f1 f2 f3 SZ Z
    have G1 := Lib.hid (fun x W (h : AX w W g g2 A k cc wn D A' k' cc' x E rA rc R) => rtgreat_any A k cc D (wn : Int) W (h.pt LD.out (by have := K40.out; omega)) SD.out (by have := K40.out; omega))
    have G2 := Lib.hid (fun x W (h : AX w W g g2 A k cc wn D A' k' cc' x E rA rc R) => rtgreat_any A' k' cc' E (x : Int) W (h.qt LE.out (by have := K40.out; omega)) SE.out (by have := K40.out; omega))
    have G3 := Lib.hid (fun x W (h : AX w W g g2 A k cc wn D A' k' cc' x E rA rc R) => lgreat_any rA R.length rc R W h.lr h.szs rfl (by have := R14.out; omega))
    have F1 := Lib.hid (fun x W (h : AX w W g g2 A k cc wn D A' k' cc' x E rA rc R) => FX.out W (TB.out W h.bel))
    have M1 := Lib.hid (fun x W (h : AX w W g g2 A k cc wn D A' k' cc' x E rA rc R) => rtmay_any A k cc D (wn : Int) W (h.pt LD.out (by have := K40.out; omega)) (by omega))
    have M2 := Lib.hid (fun x W (h : AX w W g g2 A k cc wn D A' k' cc' x E rA rc R) => rtmay_any A' k' cc' E (x : Int) W (h.qt LE.out (by have := K40.out; omega)) (by omega))
    have WH := Lib.hid (fun x W (h : AX w W g g2 A k cc wn D A' k' cc' x E rA rc R) y W' hb hx b f0 f1 f2 f3 => two_whole h LD.out K40.out.1 LE.out K40.out.2 y W' hb hx b f0 f1 f2 f3)
    have MW := Lib.hid (fun x W (h : AX w W g g2 A k cc wn D A' k' cc' x E rA rc R) A2 n2 c2 L2 (hp : Pt W A2 n2 c2 L2) => matches_any A2 n2 c2 L2 wn rA R.length rc R W hp h.lr rfl (by have := R14.out; omega) HW.out.1 (TB.out W h.bel))
    have MD := Lib.hid (fun x W (h : AX w W g g2 A k cc wn D A' k' cc' x E rA rc R) => MW.out x W h A k cc D (h.pt LD.out (by have := K40.out; omega)))
    have ME := Lib.hid (fun x W (h : AX w W g g2 A k cc wn D A' k' cc' x E rA rc R) => MW.out x W h A' k' cc' E (h.qt LE.out (by have := K40.out; omega)))
    obtain ⟨gt, hgt⟩ : ∃ z, D.any gr = z := ⟨_, rfl⟩
    obtain ⟨gu, hgu⟩ : ∃ z, E.any gr = z := ⟨_, rfl⟩
    obtain ⟨gl, hgl⟩ : ∃ z, lgr R = z := ⟨_, rfl⟩
    rw [hgt] at G1
    rw [hgu] at G2
    rw [hgl] at G3
    clear hgt hgu hgl SD SE FX
    have p0 := X3.out.p.c0
    have p1 := X3.out.p.c1
    have q0 := X3.out.q.c0
    have q1 := X3.out.q.c1
    go_wp2_with fail
    refine (G1.out _ _ X3.out).mono ?_
    rintro e w4 ⟨rfl, hb⟩
    have X4 := Lib.hid (X3.out.next hb)
    clear hb X3 G1 p0 p1 q0 q1
    have p0 := X4.out.p.c0
    have p1 := X4.out.p.c1
    have q0 := X4.out.q.c0
    have q1 := X4.out.q.c1
    cases gt
    case true =>
      go_wp2_with fail
      refine (F1.out _ _ X4.out).mono ?_
      rintro e w6 ⟨rfl, hb⟩
      have BB := Lib.hid (below_go X4.out.bel hb)
      clear hb
      go_wp2_with fail
      go_ret
      exact ⟨rfl, BB.out⟩
    go_wp2_with fail
    refine (G2.out _ _ X4.out).mono ?_
    rintro e w5 ⟨rfl, hb⟩
    have X5 := Lib.hid (X4.out.next hb)
    clear hb X4 G2 p0 p1 q0 q1
    have p0 := X5.out.p.c0
    have p1 := X5.out.p.c1
    have q0 := X5.out.q.c0
    have q1 := X5.out.q.c1
    cases gu
    case true =>
      go_wp2_with fail
      refine (F1.out _ _ X5.out).mono ?_
      rintro e w6 ⟨rfl, hb⟩
      have BB := Lib.hid (below_go X5.out.bel hb)
      clear hb
      go_wp2_with fail
      go_ret
      exact ⟨rfl, BB.out⟩
    go_wp2_with fail
    refine (G3.out _ _ X5.out).mono ?_
    rintro e w6 ⟨rfl, hb⟩
    have X6 := Lib.hid (X5.out.next hb)
    clear hb X5 G3 p0 p1 q0 q1
    have p0 := X6.out.p.c0
    have p1 := X6.out.p.c1
    have q0 := X6.out.q.c0
    have q1 := X6.out.q.c1
    have fz := X6.out.q.free 1
    have lt := X6.out.q.lt
    have ltp := X6.out.p.lt
    have ne := X6.out.ne
    have ne' := X6.out.ne.symm
    cases gl
    case true =>
      go_wp2_with fail
      refine (F1.out _ _ X6.out).mono ?_
      rintro e w7 ⟨rfl, hb⟩
      have BB := Lib.hid (below_go X6.out.bel hb)
      clear hb
      go_wp2_with fail
      go_ret
      exact ⟨rfl, BB.out⟩
    have X7 := Lib.hid (X6.out.setw wn)
    obtain ⟨m1, hm1⟩ : ∃ z, mp D (wn : Int) = z := ⟨_, rfl⟩
    obtain ⟨m2, hm2⟩ : ∃ z, mp E (wn : Int) = z := ⟨_, rfl⟩
    have M3 := Lib.hid (M2.out wn)
    rw [hm1] at M1
    rw [hm2] at M3
    have ALT : Hid (m1 = 0 → m2 = 0 → dme (alx ((D ++ E).length : Int) :: (D ++ E)) wn R = 0 → dme D wn R = 0 ∧ dme E wn R = 0 ∧ wth (dmt D wn R) (dmt (alx ((D ++ E).length : Int) :: (D ++ E)) wn R) = true ∧ wth (dmt E wn R) (dmt (alx ((D ++ E).length : Int) :: (D ++ E)) wn R) = true ∧ wth (dmt (alx ((D ++ E).length : Int) :: (D ++ E)) wn R) (dmt D wn R ++ dmt E wn R) = true) := Lib.hid (by subst hm1 hm2; exact alt_in)
    have DL : Hid (∀ L, (dmt L wn R).length ≤ 12600) := Lib.hid (fun L => by have := dmt_len L wn R (by have := R14.out; omega); have := R14.out; omega)
    clear hm1 hm2 M2
    obtain ⟨QL, hQL⟩ : ∃ z, alx ((D ++ E).length : Int) :: (D ++ E) = z := ⟨_, rfl⟩
    have W7 := Lib.hid (fun W (h : AX w W g g2 A k cc wn D A' k' cc' wn E rA rc R) => WH.out wn W h (alx 0) (W.alloc (ptob2 A k cc (wn : Int) A' k' cc' (wn : Int))) (bal _ _) (nok_free _ _ rfl rfl (by show (0 : Int) ≤ 3; omega) (by show (3 : Int) < 256; omega) rfl rfl rfl) W.heap.size (by simp [go_sem]) (by simp [go_sem]) (by simp [go_sem]) (by simp [go_sem]))
    have W8 : Hid (∀ W (h : AX w W g g2 A k cc wn D A' k' cc' wn E rA rc R), Calls Tryz.prog 20 #[nOf (alx 0), .slice (some ⟨W.heap.size, 0, none⟩) 2 2] (W.alloc (ptob2 A k cc (wn : Int) A' k' cc' (wn : Int))) fun e w' => (∃ A2 c2, e = .returned (ptv A2 (k + k' + 1) c2 (wn : Int)) ∧ Pt w' A2 (k + k' + 1) c2 QL) ∧ Below (W.alloc (ptob2 A k cc (wn : Int) A' k' cc' (wn : Int))).heap.size (W.alloc (ptob2 A k cc (wn : Int) A' k' cc' (wn : Int))) w') := Lib.hid (fun W h => by have := W7.out W h; rw [hQL] at this; exact this)
    rw [hQL] at ALT
    clear hQL W7 WH
    have MA := Lib.hid (fun W (h : AX w W g g2 A k cc wn D A' k' cc' wn E rA rc R) A2 n2 c2 (hp : Pt W A2 n2 c2 QL) => MW.out wn W h A2 n2 c2 QL hp)
    have DL1 := Lib.hid (And.intro (DL.out QL) (And.intro (DL.out D) (DL.out E)))
    have ME2 := Lib.hid (ME.out wn)
    have MD2 := Lib.hid (MD.out wn)
    clear ME MD MW DL
    generalize dme QL wn R = ea at ALT MA
    generalize dmt QL wn R = ML at ALT MA DL1
    generalize dme D wn R = ed at ALT MD2
    generalize dmt D wn R = Md at ALT MD2 DL1
    generalize dme E wn R = ee at ALT ME2
    generalize dmt E wn R = Me at ALT ME2 DL1
    go_wp2_with fail
    refine (M1.out _ _ X7.out).mono ?_
    rintro e w8 ⟨rfl, hb⟩
    have X8 := Lib.hid (X7.out.next hb)
    clear hb X7 X6 M1 fz lt ltp ne ne' p0 p1 q0 q1
    have p0 := X8.out.p.c0
    have p1 := X8.out.p.c1
    have q0 := X8.out.q.c0
    have q1 := X8.out.q.c1
    by_cases hm1 : m1 = 0
    case neg =>
      have h1 : (m1 != 0) = true := by simp [hm1]
      go_wp2_with fail
      refine (F1.out _ _ X8.out).mono ?_
      rintro e w9 ⟨rfl, hb⟩
      have BB := Lib.hid (below_go X8.out.bel hb)
      clear hb
      go_wp2_with fail
      go_ret
      exact ⟨rfl, BB.out⟩
    subst hm1
    go_wp2_with fail
    refine (M3.out _ X8.out).mono ?_
    rintro e w9 ⟨rfl, hb⟩
    have X9 := Lib.hid (X8.out.next hb)
    clear hb X8 M3 p0 p1 q0 q1
    have p0 := X9.out.p.c0
    have p1 := X9.out.p.c1
    have q0 := X9.out.q.c0
    have q1 := X9.out.q.c1
    by_cases hm2 : m2 = 0
    case neg =>
      have h1 : (m2 != 0) = true := by simp [hm2]
      go_wp2_with fail
      refine (F1.out _ _ X9.out).mono ?_
      rintro e w10 ⟨rfl, hb⟩
      have BB := Lib.hid (below_go X9.out.bel hb)
      clear hb
      go_wp2_with fail
      go_ret
      exact ⟨rfl, BB.out⟩
    subst hm2
    have AL2 := Lib.hid (ALT.out (by first | rfl | trivial) (by first | rfl | trivial))
    have WX := Lib.hid (W8.out _ X9.out)
    clear ALT W8
    go_wp2_with fail
    refine WX.out.mono ?_
    rintro e w10 ⟨⟨A2, c2, rfl, hp2⟩, hb⟩
    have X10 := Lib.hid ((X9.out.next (bal _ _)).next hb)
    have MX := Lib.hid (MA.out _ X10.out A2 _ c2 hp2)
    clear hb hp2 X9 WX MA p0 p1 q0 q1
    go_wp2_with fail
    refine MX.out.mono ?_
    rintro e w11 ⟨⟨A3, c3, rfl, hr3⟩, hb⟩
    have X11 := Lib.hid (X10.out.next hb)
    have R3 := Lib.hid hr3
    clear hb hr3 MX X10
    have p0 := X11.out.p.c0
    have p1 := X11.out.p.c1
    have q0 := X11.out.q.c0
    have q1 := X11.out.q.c1
    by_cases hea : ea = 0
    case neg =>
      have h1 : (ea != 0) = true := by simp [hea]
      go_wp2_with fail
      refine (F1.out _ _ X11.out).mono ?_
      rintro e w12 ⟨rfl, hb⟩
      have BB := Lib.hid (below_go X11.out.bel hb)
      clear hb
      go_wp2_with fail
      go_ret
      exact ⟨rfl, BB.out⟩
    subst hea
    obtain ⟨a1, a2, a3, a4, a5⟩ := AL2.out (by first | rfl | trivial)
    subst a1 a2
    have A3' := Lib.hid a3
    have A4' := Lib.hid a4
    have A5' := Lib.hid a5
    clear AL2 a3 a4 a5
    go_wp2_with fail
    refine (MD2.out _ X11.out).mono ?_
    rintro e w12 ⟨⟨A4, c4, rfl, hr4⟩, hb⟩
    have X12 := Lib.hid (X11.out.next hb)
    have R4 := Lib.hid hr4
    have R3 := Lib.hid (R3.out.ck (Ck.of_below hb))
    clear hb hr4 MD2 X11 p0 p1 q0 q1
    have p0 := X12.out.p.c0
    have p1 := X12.out.p.c1
    have q0 := X12.out.q.c0
    have q1 := X12.out.q.c1
    go_wp2_with fail
    refine (ME2.out _ X12.out).mono ?_
    rintro e w13 ⟨⟨A5, c5, rfl, hr5⟩, hb⟩
    have X13 := Lib.hid (X12.out.next hb)
    have R5 := Lib.hid hr5
    have R3 := Lib.hid (R3.out.ck (Ck.of_below hb))
    have R4 := Lib.hid (R4.out.ck (Ck.of_below hb))
    clear hb hr5 ME2 X12 p0 p1 q0 q1
    go_wp2_with fail
    refine (F1.out _ _ X13.out).mono ?_
    rintro e w14 ⟨rfl, hb⟩
    have X14 := Lib.hid (X13.out.next hb)
    have R3 := Lib.hid (R3.out.ck (Ck.of_below hb))
    have R4 := Lib.hid (R4.out.ck (Ck.of_below hb))
    have R5 := Lib.hid (R5.out.ck (Ck.of_below hb))
    have D1 := DL1.out.1
    have D2 := DL1.out.2.1
    have D3 := DL1.out.2.2
    have V1 : Hid (Calls Tryz.prog 21 #[.slice A4 Md.length c4, .slice A3 ML.length c3] w14 fun e w' => e = .returned (.bool true) ∧ Below w14.heap.size w14 w') := Lib.hid (by
      have := within_any A4 Md.length c4 Md A3 ML.length c3 ML w14 R4.out R3.out rfl rfl (by omega) (by omega)
      rw [A3'.out] at this
      exact this)
    clear hb X13 F1
    go_wp2_with fail
    refine V1.out.mono ?_
    rintro e w15 ⟨rfl, hb⟩
    have X15 := Lib.hid (X14.out.next hb)
    have R3 := Lib.hid (R3.out.ck (Ck.of_below hb))
    have R4 := Lib.hid (R4.out.ck (Ck.of_below hb))
    have R5 := Lib.hid (R5.out.ck (Ck.of_below hb))
    have V2 : Hid (Calls Tryz.prog 21 #[.slice A5 Me.length c5, .slice A3 ML.length c3] w15 fun e w' => e = .returned (.bool true) ∧ Below w15.heap.size w15 w') := Lib.hid (by
      have := within_any A5 Me.length c5 Me A3 ML.length c3 ML w15 R5.out R3.out rfl rfl (by omega) (by omega)
      rw [A4'.out] at this
      exact this)
    clear hb V1 X14
    go_wp2_with fail
    refine V2.out.mono ?_
    rintro e w16 ⟨rfl, hb⟩
    have X16 := Lib.hid (X15.out.next hb)
    have R3 := Lib.hid (R3.out.ck (Ck.of_below hb))
    have R4 := Lib.hid (R4.out.ck (Ck.of_below hb))
    have R5 := Lib.hid (R5.out.ck (Ck.of_below hb))
    clear hb V2 X15
    have O0 := Lib.hid (ownMt_empty w16 w16.heap.size (Nat.le_refl _))
    have B17 := Lib.hid (bal w16 (.cells #[] 46 (0, 0)))
    have EL : Hid (([] ++ Md : List Mt).length = Md.length ∧ (([] ++ Md : List Mt) ++ Me).length = Md.length + Me.length ∧ wth ML (([] ++ Md : List Mt) ++ Me) = true) := Lib.hid ⟨rfl, by rw [List.length_append]; rfl, A5'.out⟩
    go_wp2_with (first
      | ((with_reducible show wpList _ _ _ (Oper.mk (some 93) _ _ _ _ _ :: _) _ _); refine wp_appMsG (.tmp 91) (.tmp 92) _ rfl rfl w16.heap.size _ [] rfl O0.out A4 Md.length c4 Md rfl rfl (R4.out.ck (Ck.of_below B17.out)) Md.length EL.out.1 (by omega) B17.out.size ?_; intro A6 c6 w17 hO hb17; have O1 := Lib.hid hO; have C1 := Lib.hid (B17.out.trans hb17); clear hO hb17)
      | ((with_reducible show wpList _ _ _ (Oper.mk (some 95) _ _ _ _ _ :: _) _ _); refine wp_appMsG (.tmp 93) (.tmp 94) _ rfl rfl w16.heap.size _ ([] ++ Md) rfl O1.out A5 Me.length c5 Me rfl rfl (R5.out.ck (Ck.of_below C1.out)) (Md.length + Me.length) EL.out.2.1 (by omega) C1.out.size ?_; intro A7 c7 w18 hO hb18; have O2 := Lib.hid hO; have C2 := Lib.hid (C1.out.trans hb18); clear hO hb18))
    have V3 : Hid (Calls Tryz.prog 21 #[.slice A3 ML.length c3, .slice A7 (Md.length + Me.length) c7] w18 fun e w' => e = .returned (.bool true) ∧ Below w18.heap.size w18 w') := Lib.hid (by
      obtain ⟨A8, c8, e8, m8, _⟩ := O2.out.form
      rw [EL.out.2.1] at e8
      injection e8 with e81 e82 e83
      subst e81 e83
      have := within_any A3 ML.length c3 ML A7 (Md.length + Me.length) c7 (([] ++ Md) ++ Me) w18 (R3.out.ck (Ck.of_below C2.out)) m8 rfl EL.out.2.1 (by omega) (by omega)
      rw [EL.out.2.2] at this
      exact this)
    refine V3.out.mono ?_
    rintro e w19 ⟨rfl, hb⟩
    have BB := Lib.hid (below_go (below_go X16.out.bel C2.out) hb)
    clear hb
    go_wp2_with fail
    go_ret
    exact ⟨rfl, BB.out⟩
end Go.Proofs.YtccjflioaajgiaaGreatDoor
