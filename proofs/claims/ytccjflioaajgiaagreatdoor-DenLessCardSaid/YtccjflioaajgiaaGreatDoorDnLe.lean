/- DenLess, walked. -/
import Derived.Test.YtccjflioaajgiaaGreatDoorDnAx
import Derived.Test.YtccjflioaajgiaaGreatDoorDnLm
namespace Go.Proofs.YtccjflioaajgiaaGreatDoor
open Go Go.RowKit Go.Maps Pk Rl
set_option maxRecDepth 100000

theorem AX.setO {w W : World} {g g2 : Nat} {A : Option Addr} {k c : Nat} {wn : Nat} {D : List Nd} {A' : Option Addr} {k' c' : Nat} {wm : Nat} {E : List Nd} {rA : Option Addr} {rc : Nat} {R : List Lg} (h : AX w W g g2 A k c wn D A' k' c' wm E rA rc R) {sb : Nat} {a : Option Addr} {n d : Nat} {win : Int} (hp : PtB W sb a n d win) (hB : w.heap.size ≤ sb) (n1 : g ≠ sb) (n2 : g2 ≠ sb) (j : Nat) (x : Value) : AX w (W.setCell ⟨sb, j, none⟩ x) g g2 A k c wn D A' k' c' wm E rA rc R :=
  ⟨h.p.other _ _ _ n1, h.q.other _ _ _ n2, exNs h.d hp j x, exNs h.e hp j x, exGs h.r hp j x, h.bel.setCell (p := ⟨sb, j, none⟩) hB x, h.ne, h.b2⟩
theorem ck_setO {w w' : World} (h : Ck w w') {b : Nat} (hb : w.heap.size ≤ b) (j : Nat) (v : Value) : Ck w (w'.setCell ⟨b, j, none⟩ v) := fun x i u hu => by
  rw [cell_set_ne _ _ _ _ _ _ (by have : x < w.heap.size := World.block_lt_of_cell? _ _ hu; omega)]
  exact h x i u hu
theorem nok_gd (w : World) (x : Nd) (hp : x.p = qz) (hg : Qok w x.g) (h1 : 0 ≤ x.k) (h2 : x.k < 256) (h3 : x.lo = 0) (h4 : x.hi = 0) (h5 : x.s = 0) : Nok w x := by
  obtain ⟨k, p, y, g, lo, hi, s⟩ := x
  simp only at hp hg h1 h2 h3 h4 h5
  subst hp h3 h4 h5
  exact ⟨⟨rfl, by show (0 : Nat) ≤ 10; omega, fun i hi => absurd hi (by simp), by simp⟩, hg, h1, h2, by show (0 : Int) ≤ 0; omega, by show (0 : Int) < 256; omega, by show (0 : Int) ≤ 0; omega, by show (0 : Int) < 256; omega, by show (-9223372036854775808 : Int) ≤ 0; omega, by show (0 : Int) ≤ 9223372036854775807; omega⟩
theorem qok_top (w : World) : Qok w qtop := ⟨rfl, by show (0 : Nat) ≤ 10; omega, fun i hi => absurd hi (by simp), by simp⟩
theorem okt9 : Okt t9 := ⟨by show (0 : Int) ≤ 9; omega, by show (9 : Int) < 256; omega, by show (0 : Int) ≤ 7; omega, by show (7 : Int) < 256; omega, ⟨by show (0 : Int) ≤ 0; omega, by show (0 : Int) < 256; omega, by show (-9223372036854775808 : Int) ≤ 0; omega, by show (0 : Int) ≤ 9223372036854775807; omega, by show (0 : Nat) < 18446744073709551616; omega⟩⟩
theorem qok_nine (w : World) : Qok (w.alloc (tobj t9)) (q9 w.heap.size) := ⟨rfl, by show (1 : Nat) ≤ 10; omega, fun i hi => by
  have hi : i < 1 := hi
  obtain rfl : i = 0 := by omega
  refine ⟨w.heap.size, 0, rfl, ?_⟩
  refine ⟨?_, ?_, ?_, ?_, ?_, ?_⟩ <;> simp [go_sem], fun v hv => by
  rw [List.mem_singleton] at hv
  subst hv
  exact okt9⟩
set_option maxHeartbeats 16000000 in
theorem less_walk (a : Option Addr) (n c : Nat) (L : List Nd) (wn : Nat) (b : Option Addr) (m d : Nat) (M : List Nd) (wm : Nat) (hA : Option Addr) (hN hC : Nat) (H : List Hp) (u0 : Nat) (w : World)
    (hn : L.length = n) (hmx : n ≤ maxLen) (hx : RN w a L) (hs : ∀ v ∈ L, Sm v) (hwn : wn < 18446744073709551616) (hm : M.length = m) (hmx' : m ≤ maxLen) (hx' : RN w b M) (hs' : ∀ v ∈ M, Sm v) (hwm : wm < 18446744073709551616)
    (hH : Hps w hA H) (hHn : H.length = hN) (hHm : hN ≤ maxLen) (hu0 : u0 < 4294967296) (hT : Tab w) :
    Calls Tryz.prog 7 #[ptv a n c (wn : Int), ptv b m d (wm : Int), .slice hA hN hC, .int .u32 (u0 : Int)] w fun e w' => e = .returned (.bool true) ∧ Below w.heap.size w w' := by
  have B0 := Lib.hid (below2 w (xpobj a n c (wn : Int)) (xpobj b m d (wm : Int)))
  have T0 := Lib.hid (tail_of w a n c (wn : Int) b m d (wm : Int))
  have FX := Lib.hid fixed_any
  have HX := Lib.hid (hx.below B0.out)
  have HX' := Lib.hid (hx'.below B0.out)
  have HH := Lib.hid (hH.below B0.out)
  have HT := Lib.hid hT
  have HS := Lib.hid hs
  have HS' := Lib.hid hs'
  have HW := Lib.hid (And.intro hwn hwm)
  go_enter Tryz.func7, Tryz.ntmps7
  go_upto_region 1 with fail
  generalize (w.alloc (xpobj a n c (wn : Int))).alloc (xpobj b m d (wm : Int)) = w1 at B0 T0 HX HX' HH ⊢
  obtain ⟨f0, f1⟩ := T0.out.1
  obtain ⟨f2, f3⟩ := T0.out.2.1
  have SZ := Lib.hid T0.out.2.2
  have EX := Lib.hid (fun W (h : ((∀ a j, a < w.heap.size + 1 + 1 → W.cell? ⟨a, j, none⟩ = w1.cell? ⟨a, j, none⟩) ∧ Hid (Below (w.heap.size + 1 + 1) w1 W ∧ w.heap.size + 1 + 1 ≤ W.heap.size))) => pattern_any a n c L (wn : Int) W hn hmx (HX.out.below (by rw [SZ.out]; exact sB h)))
  have EY := Lib.hid (fun W (h : ((∀ a j, a < w.heap.size + 1 + 1 → W.cell? ⟨a, j, none⟩ = w1.cell? ⟨a, j, none⟩) ∧ Hid (Below (w.heap.size + 1 + 1) w1 W ∧ w.heap.size + 1 + 1 ≤ W.heap.size))) => pattern_any b m d M (wm : Int) W hm hmx' (HX'.out.below (by rw [SZ.out]; exact sB h)))
  have EZ : Hid (∀ W, ((∀ a j, a < w.heap.size + 1 + 1 → W.cell? ⟨a, j, none⟩ = w1.cell? ⟨a, j, none⟩) ∧ Hid (Below (w.heap.size + 1 + 1) w1 W ∧ w.heap.size + 1 + 1 ≤ W.heap.size)) → Calls Tryz.prog 9 #[.slice hA hN hC, .int .i64 14] W fun e w' => (∃ A c R, e = .returned (.slice A R.length c) ∧ R.length ≤ 14 ∧ OwnLg w' W.heap.size (.slice A R.length c) R) ∧ Below W.heap.size W w') := Lib.hid (fun W h => events_any hA hN hC H 14 W (HH.out.below (by rw [SZ.out]; exact sB h)) hHn (by omega) hHm)
  have Z := Lib.hid (show w.heap.size + 1 < w1.heap.size by have := SZ.out; omega)
  clear hx hn hmx hx' hm hmx' hs hs' hT HX HX' T0 hH HH hHn hHm hwn hwm
  go_cut [9, 10, 11] from 22 to 27 (fun v7 v8 v9 wx => ∃ g g2 A k cc D A' k' cc' E rA rc R, v7 = .pointer (some ⟨g, 0, none⟩) ∧ v8 = .pointer (some ⟨g2, 0, none⟩) ∧ v9 = .slice rA R.length rc ∧ Hid (AX w wx g g2 A k cc wn D A' k' cc' wm E rA rc R ∧ R.length ≤ 14 ∧ (D.length = k ∧ D.map (cn 10) = (L.take 40).map (cn 10)) ∧ (E.length = k' ∧ E.map (cn 10) = (M.take 40).map (cn 10))))
  case first =>
    clear FX HS HS'
    have ZZ : Hid (w.heap.size + 1 + 1 ≤ w1.heap.size) := Lib.hid Z.out
    have kS0 := mkS (Below.refl (w.heap.size + 1 + 1) w1).drew Z.out
    go_region_held3 (fun W => (∀ a j, a < w.heap.size + 1 + 1 → W.cell? ⟨a, j, none⟩ = w1.cell? ⟨a, j, none⟩) ∧ Hid (Below (w.heap.size + 1 + 1) w1 W ∧ w.heap.size + 1 + 1 ≤ W.heap.size))
      (first
        | (with_reducible assumption)
        | (with_reducible apply sCall; assumption; assumption)
        | (refine mkS ?_ ?_ <;> repeat' (first
            | (with_reducible apply sB; assumption)
            | (with_reducible apply sZ; assumption)
            | (with_reducible refine Below.alloc ?_ ?_ _)
            | (with_reducible refine Below.setCell ?_ ?_ _)
            | (with_reducible refine Below.drew ?_)
            | (rw [World.size_alloc])
            | (rw [World.size_setCell])
            | (rw [World.size_drew])
            | (with_reducible exact Below.refl _ _)
            | (with_reducible exact ZZ.out)
            | (with_reducible refine Nat.le_add_right_of_le ?_)
            | (dsimp only))))
      (first
        | (go_at_call 8; (with_reducible refine Calls.mono (EX.out _ ?_) ?_); (with_reducible assumption); rintro e wx ⟨Ax, kx, cx, Dx, rfl, hlx, hcx, hox, bx⟩; have KX := Lib.hid (And.intro hlx hcx); have OX := Lib.hid hox; have BX := Lib.hid bx; clear hlx hcx hox; have kS := sCall bx (by assumption); have qc := fun a j (h : a < _) => bx.cell (p := ⟨a, j, none⟩) h; have qf := fun a j (h : a < _) => bx.frozen (p := ⟨a, j, none⟩) h; have z := bx.size; try (simp only [World.size_alloc, World.size_drew] at z); try (have z2 := Nat.lt_of_succ_le z; try (have z3 := Nat.lt_of_succ_lt z2)))
        | (go_at_call 8; (with_reducible refine Calls.mono (EY.out _ ?_) ?_); (with_reducible assumption); rintro e wy ⟨Ay, ky, cy, Dy, rfl, hly, hcy, hoy, yb⟩; have KY := Lib.hid (And.intro hly hcy); have OY := Lib.hid hoy; have YB := Lib.hid yb; clear hly hcy hoy; have kS := sCall yb (by assumption); have UY : Hid (Up wx wy) := Lib.hid (by first | exact Up.of yb | exact Up.of (below_go (bal _ _) yb) | exact Up.of (below_go (below_go (bal _ _) (bal _ _)) yb)); have yc := UY.out.c; have yf := UY.out.f; have yl := UY.out.lt; have qc := fun a j (h : a < _) => yb.cell (p := ⟨a, j, none⟩) h; have qf := fun a j (h : a < _) => yb.frozen (p := ⟨a, j, none⟩) h; have z := yb.size; try (simp only [World.size_alloc] at z); try (have z2 := Nat.lt_of_succ_le z; try (have z3 := Nat.lt_of_succ_lt z2)))
        | (go_at_call 9; (with_reducible refine Calls.mono (EZ.out _ ?_) ?_); (with_reducible assumption); rintro e wz ⟨⟨Az, cz, Rz, rfl, hlz, hoz⟩, zb⟩; have KZ := Lib.hid hlz; have OZ := Lib.hid hoz; have ZB := Lib.hid zb; clear hlz hoz; have kS := sCall zb (by assumption); have UZ : Hid (Up wy wz) := Lib.hid (by first | exact Up.of zb | exact Up.of (below_go (bal _ _) zb) | exact Up.of (below_go (below_go (bal _ _) (bal _ _)) zb)); have zc := UZ.out.c; have zf := UZ.out.f; have zl := UZ.out.lt; have VZ : Hid (Up wx wz) := Lib.hid (UY.out.trans UZ.out); have vc := VZ.out.c; have vf := VZ.out.f; have vl := VZ.out.lt; have qc := fun a j (h : a < _) => zb.cell (p := ⟨a, j, none⟩) h; have qf := fun a j (h : a < _) => zb.frozen (p := ⟨a, j, none⟩) h; have z := zb.size; try (simp only [World.size_alloc] at z); try (have z2 := Nat.lt_of_succ_le z; try (have z3 := Nat.lt_of_succ_lt z2))))
    all_goals (rename_i hHeld; go_wp2_with fail; go_meet)
    all_goals (
      have zw : w.heap.size < w1.heap.size := by have := Z.out; omega
      have bxx : Below w1.heap.size w1 wx := by first | exact below_go (Below.refl _ _).drew bx | exact below_go (bal _ _).drew bx | exact below_go (below_go (bal _ _) (bal _ _)).drew bx
      have byy : Below wx.heap.size wx wy := by first | exact yb | exact below_go (bal _ _) yb | exact below_go (below_go (bal _ _) (bal _ _)) yb
      have bzz : Below wy.heap.size wy wz := by first | exact zb | exact below_go (bal _ _) zb | exact below_go (below_go (bal _ _) (bal _ _)) zb
      have hd := exN (exN ⟨_, OX.out⟩ byy) bzz
      have he := exN ⟨_, OY.out⟩ bzz
      have hr : ∃ B, OwnLg wz B (.slice Az Rz.length cz) Rz := ⟨_, OZ.out⟩
      have hb := below_go (below_go (below_go B0.out bxx) byy) bzz
      have sx := bxx.size
      have sy := byy.size
      have sz := bzz.size
      refine ⟨_, _, Ax, kx, cx, Dx, Ay, ky, cy, Dy, Az, cz, Rz, rfl, rfl, rfl, Lib.hid ⟨?_, KZ.out, KX.out, KY.out⟩⟩
      first
        | exact axA hd he hr hb
        | exact axA2 hd he hr hb
        | (refine axB (by omega) ?_ hd he hr hb)
        | (refine axB2 (by omega) ?_ hd he hr hb)
        | (refine axC (by omega) (by omega) (by omega) ?_ ?_ hd he hr hb))
    all_goals first
      | exact (PtB.alloc wy none 0 0 0).next zb
      | exact ((PtB.alloc wy none 0 0 0).next (bal _ _)).next zb
      | exact (PtB.alloc' (w := wy.alloc _) (by simp)).next zb
      | exact ((PtB.alloc wx none 0 0 0).next yb).next bzz
      | exact (((PtB.alloc wx none 0 0 0).next (bal _ _)).next yb).next bzz
      | exact ((PtB.alloc' (w := wx.alloc _) (by simp)).next yb).next bzz
      | exact (((PtB.alloc w1 none 0 0 0).drewn.next bx).next byy).next bzz
      | exact ((((PtB.alloc w1 none 0 0 0).next (bal _ _)).drewn.next bx).next byy).next bzz
      | exact (((PtB.alloc' (w := w1.alloc _) (by simp)).drewn.next bx).next byy).next bzz
  case rest =>
    obtain ⟨g, g2, A, k, cc, D, A', k', cc', E, rA, rc, R, rfl, rfl, rfl, HC⟩ := hcut
    obtain ⟨hX, hR14, ⟨hDk, hDc⟩, ⟨hEk, hEc⟩⟩ := HC.out
    have k40 := len40 hDk hDc
    have k41 := len40 hEk hEc
    have SD := Lib.hid (hX.sm hDk (by omega) hDc HS.out)
    have SE := Lib.hid (hX.smq hEk (by omega) hEc HS'.out)
    have LD := Lib.hid hDk
    have LE := Lib.hid hEk
    have K40 := Lib.hid (And.intro k40 k41)
    have R14 := Lib.hid hR14
    have X3 := Lib.hid hX
    have TB : Hid (∀ W, Below w.heap.size w W → Tab W) := Lib.hid (fun W h => HT.out.below h)
    clear HC hX hR14 hDk hDc hEk hEc HS HS' HT B0 EX EY EZ f0 f1 f2 f3 SZ Z
    have G1 := Lib.hid (fun x W (h : AX w W g g2 A k cc wn D A' k' cc' x E rA rc R) => rtgreat_any A k cc D (wn : Int) W (h.pt LD.out (by have := K40.out; omega)) SD.out (by have := K40.out; omega))
    have G2 := Lib.hid (fun x W (h : AX w W g g2 A k cc wn D A' k' cc' x E rA rc R) => rtgreat_any A' k' cc' E (x : Int) W (h.qt LE.out (by have := K40.out; omega)) SE.out (by have := K40.out; omega))
    have G3 := Lib.hid (fun x W (h : AX w W g g2 A k cc wn D A' k' cc' x E rA rc R) => lgreat_any rA R.length rc R W h.lr h.szs rfl (by have := R14.out; omega))
    have F1 := Lib.hid (fun x W (h : AX w W g g2 A k cc wn D A' k' cc' x E rA rc R) => FX.out W (TB.out W h.bel))
    have WH := Lib.hid (fun x W (h : AX w W g g2 A k cc wn D A' k' cc' x E rA rc R) y W' hb hx b f0 f1 f2 f3 => two_whole h LD.out K40.out.1 LE.out K40.out.2 y W' hb hx b f0 f1 f2 f3)
    have MW := Lib.hid (fun x W (h : AX w W g g2 A k cc wn D A' k' cc' x E rA rc R) A2 n2 c2 L2 (ws : Nat) (hws : ws < 18446744073709551616) (hp : Pt W A2 n2 c2 L2) => matches_any A2 n2 c2 L2 ws rA R.length rc R W hp h.lr rfl (by have := R14.out; omega) hws (TB.out W h.bel))
    obtain ⟨gt, hgt⟩ : ∃ z, D.any gr = z := ⟨_, rfl⟩
    obtain ⟨gu, hgu⟩ : ∃ z, E.any gr = z := ⟨_, rfl⟩
    obtain ⟨gl, hgl⟩ : ∃ z, lgr R = z := ⟨_, rfl⟩
    rw [hgt] at G1
    rw [hgu] at G2
    rw [hgl] at G3
    clear hgt hgu hgl SD SE FX
    have p0 := X3.out.p.c0
    have p1 := X3.out.p.c1
    have q0 := X3.out.q.c0
    have q1 := X3.out.q.c1
    go_wp2_with fail
    refine (G1.out _ _ X3.out).mono ?_
    rintro e w4 ⟨rfl, hb⟩
    have X4 := Lib.hid (X3.out.next hb)
    clear hb X3 G1 p0 p1 q0 q1
    have p0 := X4.out.p.c0
    have p1 := X4.out.p.c1
    have q0 := X4.out.q.c0
    have q1 := X4.out.q.c1
    cases gt
    case true =>
      go_wp2_with fail
      refine (F1.out _ _ X4.out).mono ?_
      rintro e w6 ⟨rfl, hb⟩
      have BB := Lib.hid (below_go X4.out.bel hb)
      clear hb
      go_wp2_with fail
      go_ret
      exact ⟨rfl, BB.out⟩
    go_wp2_with fail
    refine (G2.out _ _ X4.out).mono ?_
    rintro e w5 ⟨rfl, hb⟩
    have X5 := Lib.hid (X4.out.next hb)
    clear hb X4 G2 p0 p1 q0 q1
    have p0 := X5.out.p.c0
    have p1 := X5.out.p.c1
    have q0 := X5.out.q.c0
    have q1 := X5.out.q.c1
    cases gu
    case true =>
      go_wp2_with fail
      refine (F1.out _ _ X5.out).mono ?_
      rintro e w6 ⟨rfl, hb⟩
      have BB := Lib.hid (below_go X5.out.bel hb)
      clear hb
      go_wp2_with fail
      go_ret
      exact ⟨rfl, BB.out⟩
    go_wp2_with fail
    refine (G3.out _ _ X5.out).mono ?_
    rintro e w6 ⟨rfl, hb⟩
    have X6 := Lib.hid (X5.out.next hb)
    clear hb X5 G3 p0 p1 q0 q1
    have p0 := X6.out.p.c0
    have p1 := X6.out.p.c1
    have q0 := X6.out.q.c0
    have q1 := X6.out.q.c1
    have fz := X6.out.q.free 1
    have lt := X6.out.q.lt
    have ltp := X6.out.p.lt
    have ne := X6.out.ne
    have ne' := X6.out.ne.symm
    cases gl
    case true =>
      go_wp2_with fail
      refine (F1.out _ _ X6.out).mono ?_
      rintro e w7 ⟨rfl, hb⟩
      have BB := Lib.hid (below_go X6.out.bel hb)
      clear hb
      go_wp2_with fail
      go_ret
      exact ⟨rfl, BB.out⟩
    by_cases hk0 : k = 0
    case pos =>
      subst hk0
      go_wp2_with fail
      refine (F1.out _ _ X6.out).mono ?_
      rintro e w7 ⟨rfl, hb⟩
      have BB := Lib.hid (below_go X6.out.bel hb)
      clear hb
      go_wp2_with fail
      go_ret
      exact ⟨rfl, BB.out⟩
    have hk1 : ((k : Int) == 0) = false := by simp; omega
    by_cases hk2 : k' = 0
    case pos =>
      subst hk2
      go_wp2_with fail
      refine (F1.out _ _ X6.out).mono ?_
      rintro e w7 ⟨rfl, hb⟩
      have BB := Lib.hid (below_go X6.out.bel hb)
      clear hb
      go_wp2_with fail
      go_ret
      exact ⟨rfl, BB.out⟩
    have hk3 : ((k' : Int) == 0) = false := by simp; omega
    have X7 := Lib.hid (X6.out.setw wn)
    obtain ⟨s0, hs0⟩ : ∃ z : Int, ((D ++ E).length : Int) = z := ⟨_, rfl⟩
    obtain ⟨FF, hFF⟩ : ∃ z, D ++ E = z := ⟨_, rfl⟩
    have W9 : Hid (∀ W (h : AX w W g g2 A k cc wn D A' k' cc' wn E rA rc R) x W' (hb : Below W.heap.size W W') (hx : Nok W' x) b (f0 : W'.cell? ⟨b, 0, none⟩ = some (.slice A k cc)) (f1 : W'.cell? ⟨b, 1, none⟩ = some (.int .u64 (wn : Int))) (f2 : W'.cell? ⟨b, 2, none⟩ = some (.slice A' k' cc')) (f3 : W'.cell? ⟨b, 3, none⟩ = some (.int .u64 (wn : Int))), Calls Tryz.prog 20 #[nOf x, .slice (some ⟨b, 0, none⟩) 2 2] W' fun e w' => (∃ A2 c2, e = .returned (ptv A2 (k + k' + 1) c2 (wn : Int)) ∧ Pt w' A2 (k + k' + 1) c2 (⟨x.k, x.p, x.y, x.g, x.lo, x.hi, s0⟩ :: FF)) ∧ Below W'.heap.size W' w') := Lib.hid (by have := WH.out wn; rw [hs0, hFF] at this; exact this)
    clear hs0 hFF WH
    have W8 : Hid (∀ W (h : AX w W g g2 A k cc wn D A' k' cc' wn E rA rc R), Calls Tryz.prog 20 #[nOf (sqx 0), .slice (some ⟨W.heap.size, 0, none⟩) 2 2] (W.alloc (ptob2 A k cc (wn : Int) A' k' cc' (wn : Int))) fun e w' => (∃ A2 c2, e = .returned (ptv A2 (k + k' + 1) c2 (wn : Int)) ∧ Pt w' A2 (k + k' + 1) c2 (sqx s0 :: FF)) ∧ Below (W.alloc (ptob2 A k cc (wn : Int) A' k' cc' (wn : Int))).heap.size (W.alloc (ptob2 A k cc (wn : Int) A' k' cc' (wn : Int))) w') := Lib.hid (fun W h => W9.out W h (sqx 0) (W.alloc (ptob2 A k cc (wn : Int) A' k' cc' (wn : Int))) (bal _ _) (nok_free _ _ rfl rfl (by show (0 : Int) ≤ 2; omega) (by show (2 : Int) < 256; omega) rfl rfl rfl) W.heap.size (by simp [go_sem]) (by simp [go_sem]) (by simp [go_sem]) (by simp [go_sem]))
    have DL : Hid (∀ L W, (dmt L W R).length ≤ 12600) := Lib.hid (fun L W => by have := dmt_len L W R (by have := R14.out; omega); have := R14.out; omega)
    go_upto_region 5 with fail
    generalize w6.setCell ⟨g2, 1, none⟩ (.int .u64 (wn : Int)) = w7 at X7 ⊢
    clear X6 p0 p1 q0 q1 fz lt ltp ne ne'
    have p0 := X7.out.p.c0
    have p1 := X7.out.p.c1
    have q0 := X7.out.q.c0
    have q1 := X7.out.q.c1
    have C8 := Lib.hid (W8.out _ X7.out)
    go_wp2_with fail
    refine C8.out.mono ?_
    rintro e w10 ⟨⟨A2, c2, rfl, hp2⟩, hb⟩
    have X10 := Lib.hid ((X7.out.next (bal _ _)).next hb)
    have P2 := Lib.hid hp2
    clear hb hp2 X7 W8 C8 p0 p1 q0 q1
    have p0 := X10.out.p.c0
    have p1 := X10.out.p.c1
    have q0 := X10.out.q.c0
    have q1 := X10.out.q.c1
    have X11 := Lib.hid (X10.out.next (bal w10 (ptobj A2 (k + k' + 1) c2 (wn : Int))))
    have P11 := Lib.hid (P2.out.ck (Ck.of_below (bal w10 (ptobj A2 (k + k' + 1) c2 (wn : Int)))))
    have FB := Lib.hid (PtB.alloc w10 A2 (k + k' + 1) c2 (wn : Int))
    clear X10 P2 p0 p1 q0 q1
    go_upto_region 6 with fail
    generalize w10.alloc (ptobj A2 (k + k' + 1) c2 (wn : Int)) = w11 at X11 P11 FB ⊢
    generalize w10.heap.size = fb at FB ⊢
    have LL : Hid (dme (sqx s0 :: FF) wn R = 0 → (1 ≤ wn ∧ wn ≤ 1048576) ∧ (∀ ws, 1 ≤ ws → ws ≤ wn → dme (sqx s0 :: FF) ws R = 0 ∧ wth (dmt (sqx s0 :: FF) ws R) (dmt (sqx s0 :: FF) wn R) = true) ∧ (dme (tqx s0 :: FF) wn R = 0 ∧ wth (dmt (tqx s0 :: FF) wn R) (dmt (sqx s0 :: FF) wn R) = true) ∧ ∀ b, dme (lqx b s0 :: FF) wn R = 0 ∧ dmt (lqx b s0 :: FF) wn R = dmt (sqx s0 :: FF) wn R) := Lib.hid (fun h => ⟨by have := mp_win (dme_iff.1 h).1; omega, fun ws h1 h2 => less_in h h1 h2, tight_in h, fun b => loose_in (by rfl) h⟩)
    have L11 := Lib.hid (MW.out wn w11 X11.out A2 (k + k' + 1) c2 (sqx s0 :: FF) wn HW.out.1 P11.out)
    have DL1 := Lib.hid (DL.out (sqx s0 :: FF) wn)
    generalize dme (sqx s0 :: FF) wn R = ea at LL L11
    generalize dmt (sqx s0 :: FF) wn R = ML at LL L11 DL1
    have f0 := FB.out.c0
    have f1 := FB.out.c1
    go_wp2_with fail
    refine L11.out.mono ?_
    rintro e w12 ⟨⟨A3, c3, rfl, hr3⟩, hb⟩
    have X12 := Lib.hid (X11.out.next hb)
    have R3 := Lib.hid hr3
    have P12 := Lib.hid (P11.out.ck (Ck.of_below hb))
    have FB2 := Lib.hid (FB.out.next hb)
    clear hb hr3 X11 P11 FB L11 f0 f1
    have p0 := X12.out.p.c0
    have p1 := X12.out.p.c1
    have q0 := X12.out.q.c0
    have q1 := X12.out.q.c1
    have f0 := FB2.out.c0
    have f1 := FB2.out.c1
    by_cases hea : ea = 0
    case neg =>
      have h1 : (ea != 0) = true := by simp [hea]
      go_wp2_with fail
      refine (F1.out _ _ X12.out).mono ?_
      rintro e w13 ⟨rfl, hb⟩
      have BB := Lib.hid (below_go X12.out.bel hb)
      clear hb
      go_wp2_with fail
      go_ret
      exact ⟨rfl, BB.out⟩
    subst hea
    obtain ⟨⟨hw1, hw2⟩, hless, ⟨ht1, ht2⟩, hloose⟩ := LL.out (by first | rfl | trivial)
    have T1 := Lib.hid ht1
    have T2 := Lib.hid ht2
    have O1 := Lib.hid hloose
    obtain ⟨um, hum⟩ : ∃ z, u0 % wn = z := ⟨_, rfl⟩
    have hul : um < wn := by rw [← hum]; exact Nat.mod_lt _ (by omega)
    have tm : Int.tmod (u0 : Int) (wn : Int) = (um : Int) := by rw [Int.tmod_eq_emod_of_nonneg (by omega)]; omega
    obtain ⟨ws, hws⟩ : ∃ z, 1 + um = z := ⟨_, rfl⟩
    have tw : (1 : Int) + (um : Int) = (ws : Int) := by omega
    have wsb : 1 ≤ ws ∧ ws ≤ wn := by omega
    obtain ⟨hl1, hl2⟩ := hless ws wsb.1 wsb.2
    have S1 := Lib.hid hl1
    have S2 := Lib.hid hl2
    have WS : Hid (ws < 18446744073709551616) := Lib.hid (by omega)
    have wz : ¬ (wn : Int) = 0 := by omega
    clear hum hws LL ht1 ht2 hloose hless hl1 hl2
    have b12 := bal w12 (ptobj A2 (k + k' + 1) c2 (wn : Int))
    have X13 := Lib.hid (X12.out.next b12)
    have C13 := Lib.hid (Ck.of_below b12)
    have SB := Lib.hid (PtB.alloc w12 A2 (k + k' + 1) c2 (wn : Int))
    have SG : Hid (w.heap.size ≤ w12.heap.size) := Lib.hid X12.out.bel.size
    have NE : Hid (g ≠ w12.heap.size ∧ g2 ≠ w12.heap.size) := Lib.hid (by have h1 := X12.out.p.lt; have h2 := X12.out.q.lt; omega)
    have XB : Hid (w12.heap.size ≤ w12.heap.size) := Lib.hid (Nat.le_refl _)
    clear b12
    go_upto_region 10 with fail
    generalize w12.alloc (ptobj A2 (k + k' + 1) c2 (wn : Int)) = w13 at X13 C13 SB ⊢
    obtain ⟨sb, hsb⟩ : ∃ z, w12.heap.size = z := ⟨_, rfl⟩
    have XB2 : Hid (w12.heap.size ≤ sb) := Lib.hid (by omega)
    rw [hsb] at SB SG NE ⊢
    clear X12 p0 p1 q0 q1 f0 f1 FB2 XB hsb
    have p0 := X13.out.p.c0
    have p1 := X13.out.p.c1
    have s0' := SB.out.c0
    have s1' := SB.out.c1
    have sf := SB.out.free 1
    have sl := SB.out.lt
    have X14 := Lib.hid (X13.out.setO SB.out SG.out NE.out.1 NE.out.2 1 (.int .u64 (ws : Int)))
    have C14 := Lib.hid (ck_setO C13.out XB2.out 1 (.int .u64 (ws : Int)))
    have SB2 := Lib.hid (SB.out.set1 (ws : Int))
    go_upto_region 11 with fail
    generalize w13.setCell ⟨sb, 1, none⟩ (.int .u64 (ws : Int)) = w14 at X14 C14 SB2 ⊢
    have P14 := Lib.hid (P12.out.ck C14.out)
    have R14 := Lib.hid (R3.out.ck C14.out)
    clear X13 C13 SB p0 p1 s0' s1' sf sl C14 XB2 P12 R3 tm tw wz
    have s0' := SB2.out.c0
    have s1' := SB2.out.c1
    have p0 := X14.out.p.c0
    have p1 := X14.out.p.c1
    have q0 := X14.out.q.c0
    have q1 := X14.out.q.c1
    have L14 := Lib.hid (MW.out wn w14 X14.out A2 (k + k' + 1) c2 (sqx s0 :: FF) ws WS.out P14.out)
    rw [S1.out] at L14
    have DL2 := Lib.hid (DL.out (sqx s0 :: FF) ws)
    generalize dmt (sqx s0 :: FF) ws R = MS at L14 S2 DL2
    go_wp2_with fail
    refine L14.out.mono ?_
    rintro e w15 ⟨⟨A5, c5, rfl, hr5⟩, hb⟩
    have X15 := Lib.hid (X14.out.next hb)
    have RS := Lib.hid hr5
    have RA := Lib.hid (R14.out.ck (Ck.of_below hb))
    clear hb hr5 X14 L14 SB2 P14 s0' s1' p0 p1 q0 q1
    have p0 := X15.out.p.c0
    have p1 := X15.out.p.c1
    have q0 := X15.out.q.c0
    have q1 := X15.out.q.c1
    have C15 := Lib.hid (W9.out _ X15.out (tqx 0) (w15.alloc (ptob2 A k cc (wn : Int) A' k' cc' (wn : Int))) (bal _ _) (nok_gd _ _ rfl (qok_top _) (by show (0 : Int) ≤ 2; omega) (by show (2 : Int) < 256; omega) rfl rfl rfl) w15.heap.size (by simp [go_sem]) (by simp [go_sem]) (by simp [go_sem]) (by simp [go_sem]))
    go_wp2_with fail
    refine C15.out.mono ?_
    rintro e w16 ⟨⟨A6, c6, rfl, hp6⟩, hb⟩
    have b15 := bal w15 (ptob2 A k cc (wn : Int) A' k' cc' (wn : Int))
    have X16 := Lib.hid ((X15.out.next b15).next hb)
    have RA2 := Lib.hid ((RA.out.ck (Ck.of_below b15)).ck (Ck.of_below hb))
    have RS2 := Lib.hid ((RS.out.ck (Ck.of_below b15)).ck (Ck.of_below hb))
    have L16 := Lib.hid (MW.out wn w16 X16.out A6 (k + k' + 1) c6 (tqx s0 :: FF) wn HW.out.1 hp6)
    rw [T1.out] at L16
    have DL3 := Lib.hid (DL.out (tqx s0 :: FF) wn)
    generalize dmt (tqx s0 :: FF) wn R = MT at L16 T2 DL3
    clear hb hp6 X15 RA RS C15 b15 p0 p1 q0 q1
    go_wp2_with fail
    refine L16.out.mono ?_
    rintro e w17 ⟨⟨A7, c7, rfl, hr7⟩, hb⟩
    have X17 := Lib.hid (X16.out.next hb)
    have RA3 := Lib.hid (RA2.out.ck (Ck.of_below hb))
    have RS3 := Lib.hid (RS2.out.ck (Ck.of_below hb))
    have RT := Lib.hid hr7
    clear hb hr7 X16 RA2 RS2 L16
    have p0 := X17.out.p.c0
    have p1 := X17.out.p.c1
    have q0 := X17.out.q.c0
    have q1 := X17.out.q.c1
    have pl := X17.out.p.lt
    have ql := X17.out.q.lt
    have Q9 := Lib.hid (qok_nine w17)
    have b17 := bal w17 (tobj t9)
    have X18 := Lib.hid (X17.out.next b17)
    have C18 := Lib.hid (W9.out _ X18.out (lqx w17.heap.size 0) ((w17.alloc (tobj t9)).alloc (ptob2 A k cc (wn : Int) A' k' cc' (wn : Int))) (bal _ _) (nok_gd _ _ rfl (Q9.out.below (bal _ _)) (by show (0 : Int) ≤ 2; omega) (by show (2 : Int) < 256; omega) rfl rfl rfl) (w17.heap.size + 1) (by simp [go_sem]) (by simp [go_sem]) (by simp [go_sem]) (by simp [go_sem]))
    go_wp2_with fail
    refine C18.out.mono ?_
    rintro e w19 ⟨⟨A8, c8, rfl, hp8⟩, hb⟩
    have b18 := bal (w17.alloc (tobj t9)) (ptob2 A k cc (wn : Int) A' k' cc' (wn : Int))
    have b19 := below_go (below_go b17 b18) hb
    have X19 := Lib.hid (X17.out.next b19)
    have RA4 := Lib.hid (RA3.out.ck (Ck.of_below b19))
    have RS4 := Lib.hid (RS3.out.ck (Ck.of_below b19))
    have RT4 := Lib.hid (RT.out.ck (Ck.of_below b19))
    have L19 := Lib.hid (MW.out wn w19 X19.out A8 (k + k' + 1) c8 (lqx w17.heap.size s0 :: FF) wn HW.out.1 hp8)
    obtain ⟨o1, o2⟩ := O1.out w17.heap.size
    rw [o1, o2] at L19
    clear hb hp8 b17 b18 b19 X17 X18 RA3 RS3 RT C18 Q9 o1 o2 O1 p0 p1 q0 q1 pl ql W9
    go_wp2_with fail
    refine L19.out.mono ?_
    rintro e w20 ⟨⟨A9, c9, rfl, hr9⟩, hb⟩
    have X20 := Lib.hid (X19.out.next hb)
    have RA5 := Lib.hid (RA4.out.ck (Ck.of_below hb))
    have RS5 := Lib.hid (RS4.out.ck (Ck.of_below hb))
    have RT5 := Lib.hid (RT4.out.ck (Ck.of_below hb))
    have RL5 := Lib.hid hr9
    clear hb hr9 X19 RA4 RS4 RT4 L19
    go_wp2_with fail
    refine (F1.out _ _ X20.out).mono ?_
    rintro e w21 ⟨rfl, hb⟩
    have X21 := Lib.hid (X20.out.next hb)
    have RA6 := Lib.hid (RA5.out.ck (Ck.of_below hb))
    have RS6 := Lib.hid (RS5.out.ck (Ck.of_below hb))
    have RT6 := Lib.hid (RT5.out.ck (Ck.of_below hb))
    have RL6 := Lib.hid (RL5.out.ck (Ck.of_below hb))
    have V1 : Hid (Calls Tryz.prog 21 #[.slice A5 MS.length c5, .slice A3 ML.length c3] w21 fun e w' => e = .returned (.bool true) ∧ Below w21.heap.size w21 w') := Lib.hid (by
      have h1 := DL1.out
      have h2 := DL2.out
      have := within_any A5 MS.length c5 MS A3 ML.length c3 ML w21 RS6.out RA6.out rfl rfl (by omega) (by omega)
      rw [S2.out] at this
      exact this)
    clear hb X20 RA5 RS5 RT5 RL5 F1 MW
    go_wp2_with fail
    refine V1.out.mono ?_
    rintro e w22 ⟨rfl, hb⟩
    have X22 := Lib.hid (X21.out.next hb)
    have RA7 := Lib.hid (RA6.out.ck (Ck.of_below hb))
    have RT7 := Lib.hid (RT6.out.ck (Ck.of_below hb))
    have RL7 := Lib.hid (RL6.out.ck (Ck.of_below hb))
    have V2 : Hid (Calls Tryz.prog 21 #[.slice A7 MT.length c7, .slice A3 ML.length c3] w22 fun e w' => e = .returned (.bool true) ∧ Below w22.heap.size w22 w') := Lib.hid (by
      have h1 := DL1.out
      have h2 := DL3.out
      have := within_any A7 MT.length c7 MT A3 ML.length c3 ML w22 RT7.out RA7.out rfl rfl (by omega) (by omega)
      rw [T2.out] at this
      exact this)
    clear hb X21 RA6 RS6 RT6 RL6 V1
    go_wp2_with fail
    refine V2.out.mono ?_
    rintro e w23 ⟨rfl, hb⟩
    have X23 := Lib.hid (X22.out.next hb)
    have RA8 := Lib.hid (RA7.out.ck (Ck.of_below hb))
    have RL8 := Lib.hid (RL7.out.ck (Ck.of_below hb))
    have V3 : Hid (Calls Tryz.prog 15 #[.slice A9 ML.length c9, .slice A3 ML.length c3] w23 fun e w' => e = .returned (.bool true) ∧ Below w23.heap.size w23 w') := Lib.hid (by
      have h1 := DL1.out
      have := msame_any A9 ML.length c9 ML A3 ML.length c3 ML w23 RL8.out RA8.out rfl rfl (by omega) (by omega)
      rw [decide_eq_true rfl] at this
      exact this)
    clear hb X22 RA7 RT7 RL7 V2
    go_wp2_with fail
    refine V3.out.mono ?_
    rintro e w24 ⟨rfl, hb⟩
    have BB := Lib.hid (below_go X23.out.bel hb)
    clear hb
    go_wp2_with fail
    go_ret
    exact ⟨rfl, BB.out⟩
end Go.Proofs.YtccjflioaajgiaaGreatDoor
