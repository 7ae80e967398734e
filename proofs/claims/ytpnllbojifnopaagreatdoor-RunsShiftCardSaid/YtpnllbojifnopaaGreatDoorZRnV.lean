/- RunsShift: the walk. -/
import Derived.Test.YtpnllbojifnopaaGreatDoorZRnT
import Derived.Test.YtpnllbojifnopaaGreatDoorZDX
import Derived.Test.YtpnllbojifnopaaGreatDoorZNC
import Derived.Test.YtpnllbojifnopaaGreatDoorZRnJ
namespace Go.Proofs.YtpnllbojifnopaaGreatDoor
open Go Go.RowKit Go.Maps Pk Rl
set_option maxRecDepth 20000
set_option maxHeartbeats 16000000 in
theorem shift_walk (a : Option Addr) (n c : Nat) (L : List Nd) (win : Nat) (hA : Option Addr) (hN hC : Nat) (H : List Hp) (by_ later : Nat) (hby : by_ < 4294967296) (hla : later < 4294967296) (w : World) (hn : L.length = n) (hm : n ≤ maxLen) (hv : RN w a L) (hs : ∀ v ∈ L, Sm v) (hw0 : win < 18446744073709551616) (hT : Tab w) (hT5 : Tab5 w)
    (hH : Hps w hA H) (hHn : H.length = hN) (hHm : hN ≤ maxLen) :
    Calls Tryz.prog 10 #[ptv a n c (win : Int), .slice hA hN hC, .int .u32 (by_ : Int), .int .u32 (later : Int)] w fun e w' => e = .returned (.bool true) ∧ Below w.heap.size w w' := by
  have B0 := Lib.hid (below_alloc w (xpobj a n c (win : Int)))
  have PA := Lib.hid (pattern_any a n c L (win : Int) (w.alloc (xpobj a n c (win : Int))) hn hm (hv.below B0.out))
  have EA : Hid (∀ W, Below w.heap.size w W → Calls Tryz.prog 18 #[.slice hA hN hC, .int .i64 40] W fun e w' => (∃ A c R, e = .returned (.slice A R.length c) ∧ R.length ≤ 40 ∧ OwnLg w' W.heap.size (.slice A R.length c) R) ∧ Below W.heap.size W w') := Lib.hid (fun W hb => events_any hA hN hC H 40 W (hH.below hb) hHn (by omega) hHm)
  have T0 := Lib.hid hT
  have T5 := Lib.hid hT5
  have HS := Lib.hid hs
  have FX := Lib.hid rfixed_any
  have HW := Lib.hid hw0
  clear hn hm hv hs hT hT5 hH hHn hHm hw0
  go_enter Tryz.func10, Tryz.ntmps10
  go_wp2_with fail
  refine PA.out.mono ?_
  rintro e w2 ⟨A, k, c', D, rfl, hDk, hDc, hDo, hb⟩
  have k40 : k ≤ 40 := by have h1 := congrArg List.length hDc; simp at h1; omega
  have pt2 := hDo.pt hDk (by omega)
  have B2 := Lib.hid (below_go B0.out hb)
  have SD := Lib.hid (csz_of hDc HS.out (fun v hv => by have := pt2.ok v hv; exact ⟨by rw [this.p.len]; exact this.p.few, by rw [this.g.len]; exact this.g.few⟩))
  have P2 := Lib.hid pt2
  have K40 := Lib.hid k40
  clear PA hDc hDo hb pt2 HS hDk B0
  go_wp2_with fail
  refine (EA.out _ B2.out).mono ?_
  rintro e w3 ⟨⟨rA, rc, R, rfl, hR14, hRo⟩, hb⟩
  obtain ⟨A1, c1, e1, hA1, hc1, hLr⟩ := hRo.form
  injection e1 with e2 e3 e4
  subst e2 e4
  have SZ : Hid (Szs R) := Lib.hid (fun x hx => (hRo.ev x hx).sz)
  have B3 := Lib.hid (below_go B2.out hb)
  have X0 : Hid (IY w (w3.alloc (ptobj A k c' (win : Int))) w3.heap.size A k c' (win : Int) D rA R) := Lib.hid (by
    have b1 := below_alloc w3 (ptobj A k c' (win : Int))
    exact ⟨PtB.alloc _ _ _ _ _, (P2.out.below hb).below b1, hLr.ck (Ck.of_below b1), (T0.out.below B3.out).below b1, (T5.out.below B3.out).below b1, below_go B3.out b1⟩)
  have HR40 := Lib.hid hR14
  clear hRo hLr e3 hb EA B2 P2 hc1 hA1
  obtain ⟨g1, hg1⟩ : ∃ g, w3.heap.size = g := ⟨_, rfl⟩
  rw [hg1] at X0
  have G1 := Lib.hid (fun W (h : IY w W g1 A k c' (win : Int) D rA R) => rtgreat_any A k c' D (win : Int) W h.pt SD.out (by have := K40.out; omega))
  have G2 := Lib.hid (fun W (h : IY w W g1 A k c' (win : Int) D rA R) => lgreat_any rA R.length rc R W h.lr SZ.out rfl (by have := HR40.out; omega))
  have F1 := Lib.hid (fun W (h : IY w W g1 A k c' (win : Int) D rA R) => FX.out W h.tab h.tab5)
  have G3 := Lib.hid (fun W (h : IY w W g1 A k c' (win : Int) D rA R) => rlmay_any rA R.length rc R W h.lr rfl (by have := HR40.out; omega))
  obtain ⟨gm', hgm⟩ : ∃ z, dm 0 R = z := ⟨_, rfl⟩
  have DM := Lib.hid hgm
  rw [hgm] at G3
  clear hgm
  obtain ⟨gt, hgt⟩ : ∃ z, D.any gr = z := ⟨_, rfl⟩
  obtain ⟨gl, hgl⟩ : ∃ z, lgr R = z := ⟨_, rfl⟩
  rw [hgt] at G1
  rw [hgl] at G2
  clear hgt hgl SD SZ FX T0 T5 B3 hR14
  obtain ⟨bad, hbad⟩ : ∃ z, (gt || (gl || (!gm' || (decide (0 < R.length) && decide (549755813888 < (R.getD (R.length - 1) lz).at_))))) = z := ⟨_, rfl⟩
  have HBAD := Lib.hid hbad
  clear hbad
  obtain ⟨len, hlen⟩ : ∃ len, R.length = len := ⟨_, rfl⟩
  have HLEN := Lib.hid hlen
  rw [hlen] at G2 G3 HBAD HR40 ⊢
  clear hlen
  go_upto_region 2 with fail
  generalize (w3.alloc (.cells #[.slice A k c', .int .u64 (win : Int)] 28)) = w4 at X0 ⊢
  go_cut [51] from 26 to 51 (fun v W => v = .bool bad ∧ Hid (IY w W g1 A k c' (win : Int) D rA R))
  case first =>
    have q0 := X0.out.p.c0
    have q1 := X0.out.p.c1
    go_wp2_with fail
    refine (G1.out _ X0.out).mono ?_
    rintro e w4 ⟨rfl, hb⟩
    have X4 := Lib.hid (X0.out.next hb)
    clear hb X0 G1 q0 q1
    cases gt
    case true =>
      go_wp2_with fail
      go_meet
      exact ⟨by rw [← HBAD.out]; rfl, Lib.hid X4.out⟩
    go_wp2_with fail
    refine (G2.out _ X4.out).mono ?_
    rintro e w5 ⟨rfl, hb⟩
    have X5 := Lib.hid (X4.out.next hb)
    clear hb X4 G2
    cases gl
    case true =>
      go_wp2_with fail
      go_meet
      exact ⟨by rw [← HBAD.out]; rfl, Lib.hid X5.out⟩
    go_wp2_with fail
    refine (G3.out _ X5.out).mono ?_
    rintro e w6 ⟨rfl, hb⟩
    have X6 := Lib.hid (X5.out.next hb)
    clear hb X5 G3
    cases gm'
    case false =>
      go_wp2_with fail
      go_meet
      exact ⟨by rw [← HBAD.out]; rfl, Lib.hid X6.out⟩
    rcases len with _ | j
    · have d1 : decide (0 < 0) = false := by simp
      rw [d1] at HBAD
      go_wp2_with fail
      go_meet
      exact ⟨by rw [← HBAD.out]; rfl, Lib.hid X6.out⟩
    · obtain ⟨bb, off, rfl, k0, k1, k2, k3, k4⟩ := X6.out.lr.row j (by have := HLEN.out; omega)
      obtain ⟨x, hx⟩ : ∃ x, (R.getD j lz).at_ = x := ⟨_, rfl⟩
      rw [Nat.add_sub_cancel, hx, decide_eq_true (p := 0 < j + 1) (by omega)] at HBAD
      rw [hx] at k2
      have hw : wrap64 (j : Int) = (j : Int) := by unfold wrap64; have := HR40.out; omega
      have d1 : decide ((0 : Int) < ((j + 1 : Nat) : Int)) = true := decide_eq_true (by omega)
      have XH := Lib.hid X6.out
      clear k0 k1 k3 k4 X6 hx
      by_cases ct : 549755813888 < x
      · have d2 : decide ((549755813888 : Int) < (x : Int)) = true := decide_eq_true (by omega)
        have d2' : decide (549755813888 < x) = true := decide_eq_true ct
        rw [d2'] at HBAD
        go_wp2_with fail
        go_meet
        exact ⟨by rw [← HBAD.out]; rfl, Lib.hid XH.out⟩
      · have d2 : decide ((549755813888 : Int) < (x : Int)) = false := decide_eq_false (by omega)
        have d2' : decide (549755813888 < x) = false := decide_eq_false ct
        rw [d2'] at HBAD
        go_wp2_with fail
        go_meet
        exact ⟨by rw [← HBAD.out]; rfl, Lib.hid XH.out⟩
  case rest =>
  obtain ⟨rfl, HC⟩ := hcut
  have X6 := Lib.hid HC.out
  clear HC X0
  cases bad
  case true =>
    go_wp2_with fail
    refine (F1.out _ X6.out).mono ?_
    rintro e w6 ⟨rfl, hb⟩
    have BB := Lib.hid (below_go X6.out.bel hb)
    clear hb
    go_wp2_with fail
    go_ret
    exact ⟨rfl, BB.out⟩
  have HH := Lib.hid (show gm' = true ∧ ∀ i, i < len → (R.getD i lz).at_ ≤ 549755813888 by
    have hb := HBAD.out
    simp only [Bool.or_eq_false_iff, Bool.and_eq_false_iff, decide_eq_false_iff_not, Bool.not_eq_false'] at hb
    obtain ⟨_, _, h3, h4⟩ := hb
    refine ⟨h3, fun i hi => ?_⟩
    have DA := (dm_all (DM.out.trans h3)).2
    have hl := HLEN.out
    have h1 := DA i (len - 1) (by omega) (by omega)
    unfold lat at h1
    omega)
  have N1 : Hid (∀ W, IY w W g1 A k c' (win : Int) D rA R → Calls Tryz.prog 26 #[ptv A k c' (win : Int), .int .u64 0] W fun en W' => NeX D win 0 W en W') := Lib.hid (fun W h => newe_any A k c' D win 0 W h.pt h.tab h.tab5 HW.out)
  have N2 : Hid (∀ W, IY w W g1 A k c' (win : Int) D rA R → Calls Tryz.prog 26 #[ptv A k c' (win : Int), .int .u64 (by_ : Int)] W fun en W' => NeX D win by_ W en W') := Lib.hid (fun W h => newe_any A k c' D win by_ W h.pt h.tab h.tab5 HW.out)
  have q0 := X6.out.p.c0
  have q1 := X6.out.p.c1
  have HBY := Lib.hid hby
  have HLA := Lib.hid hla
  have hcv : IntKind.u64.wrap (by_ : Int) = (by_ : Int) := by rw [IntKind.wrap_u64]; omega
  have hcl : IntKind.u64.wrap (later : Int) = (later : Int) := by rw [IntKind.wrap_u64]; omega
  clear hby hla HBAD
  go_wp2_with fail
  refine (N1.out _ X6.out).mono ?_
  rintro e v1 hn1
  rcases hn1 with ⟨h0, m1, hm1, hm2, rfl, hb1⟩ | ⟨h0, hnx, d1, e1, Ps1, Es1, rfl, hd1, hz1, hv1, hb1⟩
  · have hc0 : (cov D (win : Int)).m ≠ 0 := by rcases h0 with h | h; exact h; omega
    have X7 := Lib.hid (X6.out.next hb1)
    have M1 := Lib.hid (hm2 hc0)
    have MN := Lib.hid hm1
    have C0 := Lib.hid hc0
    clear h0 hm2 hm1 hc0 hb1 X6 q0 q1
    have q0 := X7.out.p.c0
    have q1 := X7.out.p.c1
    go_wp2_with fail
    refine (N2.out _ X7.out).mono ?_
    rintro e v2 hn2
    rcases hn2 with ⟨h0, m2, hm1, hm2, rfl, hb2⟩ | ⟨h0, _⟩
    · obtain rfl : m2 = m1 := (hm2 C0.out).trans M1.out.symm
      have X8 := Lib.hid (X7.out.next hb2)
      have n1 : (m2 == 0) = false := by simp [MN.out]
      have n2 : (m2 != 0) = true := by simp [MN.out]
      clear h0 hm2 hm1 hb2 X7 q0 q1
      go_wp2_with fail
      refine (F1.out _ X8.out).mono ?_
      rintro e w6 ⟨rfl, hb⟩
      have BB := Lib.hid (below_go X8.out.bel hb)
      clear hb
      go_wp2_with fail
      go_ret
      exact ⟨rfl, BB.out⟩
    · exact absurd h0 C0.out
  have X7 := Lib.hid (X6.out.next hb1)
  have Z1 := Lib.hid hz1.out
  have V1 := Lib.hid hv1.out
  have D1 := Lib.hid hd1
  have B1 := Lib.hid hb1
  have C0 := Lib.hid h0
  clear h0 hnx hd1 hz1 hv1 hb1 q0 q1
  have q0 := X7.out.p.c0
  have q1 := X7.out.p.c1
  go_wp2_with fail
  refine (N2.out _ X7.out).mono ?_
  rintro e v2 hn2
  rcases hn2 with ⟨h0, _⟩ | ⟨h0, hnx, d2, e2, Ps2, Es2, rfl, hd2, hz2, hv2, hb2⟩
  · exact absurd C0.out (by rcases h0 with h | h; exact h; have := HBY.out; omega)
  have W0 : Hid (Wz wc v2 by_ later d1 d2 e1 e2 Ps1 Es1 [] Ps2 Es2 [] 0) := Lib.hid (by
    obtain ⟨a1, a2, a3, a4, a5, a6, a7, a8, a9, _⟩ := V1.out
    obtain ⟨b1, b2, b3, b4, b5, b6, b7, b8, b9, _⟩ := hv2.out
    have l1 := Z1.out.eb.lt
    exact ⟨below_go B1.out hb2, D1.out, Nat.le_trans B1.out.size hd2, by omega, Z1.out.below hb2, hz2.out, a1.trans b1.symm, a2.trans b2.symm, ⟨b8.trans a8.symm, by rw [b6, a6]; omega, Or.inr ⟨a7, b7⟩, b3.trans a3.symm, b4.trans a4.symm, b5.trans a5.symm, rfl⟩, by omega, fun r hr => by cases hr⟩)
  have LR := Lib.hid X6.out.lr
  have TB := Lib.hid (And.intro X6.out.tab X6.out.tab5)
  have BW := Lib.hid X6.out.bel
  clear h0 hnx hd2 hz2 hv2 hb2 q0 q1 X6 X7 Z1 V1 D1 B1 C0 N1 N2 F1
  go_upto_region 9 with fail
  go_loopw [83] (fun v W => ∃ (i : Nat) (e1 : En) (R1 : List Ru) (e2 : En) (R2 : List Ru), v = .int .i64 (i : Int) ∧ i ≤ len ∧ Hid (Wz wc W by_ later d1 d2 e1 e2 Ps1 Es1 R1 Ps2 Es2 R2 i)) (fun v _ => len - (intOf v).toNat)
  case atStart => exact ⟨0, e1, [], e2, [], rfl, by omega, Lib.hid W0.out⟩
  case round =>
    obtain ⟨i, e1, R1, e2, R2, rfl, hi, H⟩ := hrel
    clear W0
    by_cases ci : i < len
    · have hl : i < R.length := by have := HLEN.out; omega
      obtain ⟨bb, off, rfl, k0, k1, k2, k3, k4⟩ := (LR.out.ck (Ck.of_below H.out.bb)).row i hl
      have LK := Lib.hid (LR.out.ok (R.getD i lz) (by rw [List.getD_eq_getElem?_getD, List.getElem?_eq_getElem hl]; exact List.getElem_mem _))
      have AT := Lib.hid (HH.out.2 i ci)
      obtain ⟨x, hx⟩ : ∃ x, R.getD i lz = x := ⟨_, rfl⟩
      rw [hx] at k0 k1 k2 k3 k4 LK AT
      clear hx
      obtain ⟨xp, xs, xat, xt, xA, xn, xc, xE⟩ := x
      simp only at k0 k1 k2 k3 k4 AT
      have NB := Lib.hid (below_alloc wr (lobj ⟨xp, xs, xat, xt, xA, xn, xc, xE⟩))
      have W1 := Lib.hid (H.out.below NB.out)
      have BX := Lib.hid (heap_alloc_new wr (lobj ⟨xp, xs, xat, xt, xA, xn, xc, xE⟩))
      have L1 := Lib.hid (LK.out.ck (Ck.of_below W1.out.bb))
      have GW := Lib.hid H.out.bb.size
      have I40 := Lib.hid (show i ≤ 40 by have := HR40.out; omega)
      clear H NB
      go_upto_region 11 with fail
      generalize wr.alloc (.cells #[.int .u32 xp, .int .u64 xs, .int .u64 (xat : Int), .int .u8 xt, .slice xA xn xc] 81) = u1 at W1 BX L1 ⊢
      generalize wr.heap.size = gb at BX GW ⊢
      clear k0 k1 k2 k3 k4
      have FE1 := Lib.hid (feedu_any u1 d1 e1 Ps1 Es1 R1 ⟨xp, xs, xat, xt, xA, xn, xc, xE⟩ W1.out.z1 (TB.out.1.below W1.out.bb) L1.out)
      obtain ⟨k0, k1, k2, k3, k4, _⟩ := lg_cells BX.out
      simp only at k0 k1 k2 k3 k4
      go_wp2_with fail
      refine FE1.out.mono ?_
      rintro en u2 ⟨A1, c1, f1, S1, he1, hk1, hz1, ho1, hfo1⟩
      have BB2 := Lib.hid (keep_bel W1.out.bb W1.out.f1 hk1)
      have ZA := Lib.hid hz1.out
      have ZB := Lib.hid (W1.out.z2.keep hk1 W1.out.z1.eb (Ne.symm W1.out.ne))
      have BX2 := Lib.hid (lg_keep BX.out hk1 W1.out.z1.eb)
      have FO1 := Lib.hid hfo1
      have OM := Lib.hid ho1.out
      have GL := Lib.hid (show gb < u1.heap.size from (Array.getElem?_eq_some_iff.1 BX.out).1)
      have SM := Lib.hid (fun (l' : Lg) (h1 : l'.t = xt) (h2 : l'.E = xE) (h3 : l'.at_ = xat + later) => W1.out.sh.same (l := ⟨xp, xs, xat, xt, xA, xn, xc, xE⟩) (l' := l') W1.out.hP W1.out.hE (by have := W1.out.nx; have := I40.out; omega) HBY.out HLA.out h1 h2 h3 AT.out)
      have ST := Lib.hid (fun (l' : Lg) (h1 : l'.t = xt) (h2 : l'.E = xE) (h3 : l'.at_ = xat + later) (f' : En) (S' : List Ru) (hf : Fo Ps2 Es2 e2 R2 l' f' S') => W1.out.sh.step (l := ⟨xp, xs, xat, xt, xA, xn, xc, xE⟩) (l' := l') W1.out.hP W1.out.hE (by have := W1.out.nx; have := I40.out; omega) HBY.out HLA.out h1 h2 h3 AT.out hfo1 hf)
      have FW := Lib.hid (hfo1.few W1.out.nx W1.out.st)
      have MS := Lib.hid (fms_s (Ps := Ps1) (Es := Es1) (l := ⟨xp, xs, xat, xt, xA, xn, xc, xE⟩) W1.out.nx W1.out.st)
      have WS := Lib.hid (And.intro W1.out.f1 (And.intro W1.out.f2 (And.intro W1.out.ne (And.intro W1.out.hP W1.out.hE))))
      obtain ⟨M, hM⟩ : ∃ M, fms Ps1 Es1 e1 R1 ⟨xp, xs, xat, xt, xA, xn, xc, xE⟩ = M := ⟨_, rfl⟩
      obtain ⟨cd, hcd⟩ : ∃ cd, fcd Ps1 Es1 e1 R1 ⟨xp, xs, xat, xt, xA, xn, xc, xE⟩ = cd := ⟨_, rfl⟩
      rw [hM, hcd] at he1
      have ML : Hid (M.length ≤ 65) := Lib.hid (by have := fms_len Ps1 Es1 e1 R1 ⟨xp, xs, xat, xt, xA, xn, xc, xE⟩; rw [hM] at this; have := W1.out.z1.n; have := W1.out.z1.few; omega)
      rw [hM] at OM MS
      rw [hM, hcd] at SM
      subst he1
      clear hM hcd hk1 hz1 ho1 hfo1 FE1 W1 BX k0 k1 k2 k3 k4
      obtain ⟨k0, k1, k2, k3, k4, kf⟩ := lg_cells BX2.out
      simp only at k0 k1 k2 k3 k4
      have kf2 := kf 2
      obtain ⟨y, hy⟩ : ∃ y, xat + later = y := ⟨_, rfl⟩
      have HY := Lib.hid hy
      have hadd : IntKind.u64.wrap ((xat : Int) + (later : Int)) = (y : Int) := by have := AT.out; have := HLA.out; rw [IntKind.wrap_u64]; omega
      clear kf hy
      go_upto_region 13 with fail
      have KG := Lib.hid (lg_set (W := u2) (g := gb) 2 (.int .u64 (y : Int)))
      have ZA3 := Lib.hid (ZA.out.keepL KG.out BX2.out)
      have ZB3 := Lib.hid (ZB.out.keepL KG.out BX2.out)
      have BX3 := Lib.hid (lg_later BX2.out y)
      have BB3 := Lib.hid (BB2.out.setCell (p := ⟨gb, 2, none⟩) GW.out (.int .u64 (y : Int)))
      have OM3 := Lib.hid (row_cell OM.out GL.out 2 (.int .u64 (y : Int)))
      have L3 : Hid (Lok (u2.setCell ⟨gb, 2, none⟩ (.int .u64 (y : Int))) ⟨xp, xs, y, xt, xA, xn, xc, xE⟩) := Lib.hid ⟨LK.out.len, LK.out.few, LK.out.row.ck (Ck.of_below BB3.out), LK.out.ok, by have := AT.out; have := HLA.out; have := HY.out; show y < _; omega⟩
      clear ZA ZB BB2 OM KG BX2 k0 k1 k2 k3 k4 kf2
      generalize u2.setCell ⟨gb, 2, none⟩ (.int .u64 (y : Int)) = u3 at ZA3 ZB3 BX3 BB3 OM3 L3 ⊢
      have FE2 := Lib.hid (feedu_any u3 d2 e2 Ps2 Es2 R2 ⟨xp, xs, y, xt, xA, xn, xc, xE⟩ ZB3.out (TB.out.1.below BB3.out) L3.out)
      obtain ⟨k0, k1, k2, k3, k4, _⟩ := lg_cells BX3.out
      simp only at k0 k1 k2 k3 k4
      go_wp2_with fail
      refine FE2.out.mono ?_
      rintro en u4 ⟨A2, c2, f2, S2, he2, hk2, hz2, ho2, hfo2⟩
      obtain ⟨hs1, hs2⟩ := SM.out ⟨xp, xs, y, xt, xA, xn, xc, xE⟩ rfl rfl HY.out.symm
      rw [hs1, hs2, List.length_map] at he2
      have Q0 : Hid (Wz wc u4 by_ later d1 d2 f1 f2 Ps1 Es1 S1 Ps2 Es2 S2 (i + 1) ∧ Mrs u4 A1 M ∧ Mrs u4 A2 (M.map (shm by_))) := Lib.hid (by
        have hsh := ST.out ⟨xp, xs, y, xt, xA, xn, xc, xE⟩ rfl rfl HY.out.symm f2 S2 hfo2
        obtain ⟨w1, w2, w3, w4, w5⟩ := WS.out
        have om := row_keep OM3.out hk2 ZB3.out.eb (by decide)
        have ho2' := ho2.out
        rw [hs2, List.length_map] at ho2'
        obtain ⟨A5, c5, q5, m5, _⟩ := OwnMt.form om
        obtain ⟨A6, c6, q6, m6, _⟩ := OwnMt.form ho2'
        injection q5 with q5 _ _
        injection q6 with q6 _ _
        subst q5 q6
        exact ⟨⟨keep_bel BB3.out w2 hk2, w1, w2, w3, ZA3.out.keep hk2 ZB3.out.eb w3, hz2.out, w4, w5, hsh, FW.out.1, fun r hr => by have := FW.out.2 r hr; omega⟩, m5, m6⟩)
      subst he2
      clear hs1 hs2 hk2 hz2 ho2 hfo2 HY FE2 SM ST FW WS ZA3 ZB3 BX3 BB3 OM3 L3 k0 k1 k2 k3 k4 L1 LK FO1 GL GW AT
      have i1 : (cd != cd) = false := by simp
      have i2 : ((M.length : Int) != (M.length : Int)) = false := by simp
      go_wp2_with fail
      go_loopw [117] (fun v W => ∃ (j : Nat), v = .int .i64 (j : Int) ∧ j ≤ M.length ∧ Hid (Wz wc W by_ later d1 d2 f1 f2 Ps1 Es1 S1 Ps2 Es2 S2 (i + 1) ∧ Mrs W A1 M ∧ Mrs W A2 (M.map (shm by_)))) (fun v _ => M.length - (intOf v).toNat)
      case atStart => exact ⟨0, rfl, by omega, Lib.hid Q0.out⟩
      case round =>
        obtain ⟨j, rfl, hj, Q⟩ := hrel
        clear Q0
        by_cases cj : j < M.length
        · obtain ⟨mb, mo, rfl, m0, m1⟩ := Q.out.2.1 j cj
          obtain ⟨nb, no, rfl, n0, n1⟩ := Q.out.2.2 j (by rw [List.length_map]; exact cj)
          have hg : gm (M.map (shm by_)) j = shm by_ (gm M j) := by
            unfold gm
            rw [List.getD_eq_getElem?_getD, List.getD_eq_getElem?_getD, List.getElem?_map, List.getElem?_eq_getElem cj]
            rfl
          have MB := MS.out (gm M j) (by unfold gm; rw [List.getD_eq_getElem?_getD, List.getElem?_eq_getElem cj]; exact List.getElem_mem _)
          rw [hg] at n0 n1
          obtain ⟨⟨p, q⟩, hpq⟩ : ∃ m, gm M j = m := ⟨_, rfl⟩
          rw [hpq] at m0 m1 n0 n1 MB
          unfold shm at n0 n1
          simp only at m0 m1 n0 n1 MB
          have w1 : IntKind.u64.wrap ((p : Int) + (by_ : Int)) = ((p + by_ : Nat) : Int) := by have := HBY.out; have := I40.out; rw [IntKind.wrap_u64]; omega
          have w2 : IntKind.u64.wrap ((q : Int) + (by_ : Int)) = ((q + by_ : Nat) : Int) := by have := HBY.out; have := I40.out; rw [IntKind.wrap_u64]; omega
          have QD := Lib.hid (fun m => (show Wz wc (wr.drewN m) by_ later d1 d2 f1 f2 Ps1 Es1 S1 Ps2 Es2 S2 (i + 1) ∧ Mrs (wr.drewN m) (some ⟨mb, mo, none⟩) M ∧ Mrs (wr.drewN m) (some ⟨nb, no, none⟩) (M.map (shm by_)) from ⟨Q.out.1.below (below_drewN wr.heap.size wr m), Q.out.2.1.ck (Ck.of_below (below_drewN wr.heap.size wr m)), Q.out.2.2.ck (Ck.of_below (below_drewN wr.heap.size wr m))⟩))
          clear hg hpq MB Q
          go_upto_region 19 with fail
          go_quiet (fail)
          go_wp2_with fail
          have ew : wrap64 ((j : Int) + 1) = ((j + 1 : Nat) : Int) := by unfold wrap64; have := ML.out; omega
          rw [ew]
          have j1 : j + 1 ≤ M.length := cj
          refine ⟨⟨j + 1, rfl, j1, ?_⟩, ?_⟩
          · exact Lib.hid (QD.out _)
          · show M.length - (((j + 1 : Nat) : Int)).toNat < M.length - ((j : Int)).toNat
            rw [Int.toNat_natCast, Int.toNat_natCast]
            exact Nat.sub_lt_sub_left cj (Nat.lt_succ_self j)
        · obtain rfl : j = M.length := by omega
          have QE := Lib.hid Q.out.1
          clear Q
          have d9 : decide ((M.length : Int) < (M.length : Int)) = false := by simp
          go_wp2_with fail
          have ew : wrap64 ((i : Int) + 1) = ((i + 1 : Nat) : Int) := by unfold wrap64; have := I40.out; omega
          rw [ew]
          have i1 : i + 1 ≤ len := ci
          refine ⟨⟨i + 1, f1, S1, f2, S2, rfl, i1, ?_⟩, ?_⟩
          · exact Lib.hid QE.out
          · show len - (((i + 1 : Nat) : Int)).toNat < len - ((i : Int)).toNat
            rw [Int.toNat_natCast, Int.toNat_natCast]
            exact Nat.sub_lt_sub_left ci (Nat.lt_succ_self i)
    · obtain rfl : i = len := by omega
      have d9 : decide ((i : Int) < (i : Int)) = false := by simp
      have FX2 := Lib.hid (rfixed_any wr (TB.out.1.below H.out.bb) (TB.out.2.below H.out.bb))
      have HZ := Lib.hid (H.out.sh.hz)
      have HZB := Lib.hid (show hzn e1 R1 ≤ 40 by
        unfold hzn
        have h1 := H.out.nx
        have h2 := HR40.out
        split
        · omega
        · rename_i hne
          have := H.out.st (R1.getD 0 rz) (by rw [List.getD_eq_getElem?_getD, List.getElem?_eq_getElem (by omega)]; exact List.getElem_mem _)
          omega)
      have W9 := Lib.hid H.out
      clear H
      go_wp2_with fail
      refine FX2.out.mono ?_
      rintro en u1 ⟨rfl, hb⟩
      have W2 := Lib.hid (W9.out.below hb)
      have H1 := Lib.hid (horizon_any d1 e1 R1 u1 W2.out.z1.eb W2.out.z1.rus W2.out.z1.n)
      clear hb W9 FX2
      go_wp2_with fail
      refine H1.out.mono ?_
      rintro en u2 ⟨rfl, hb⟩
      have W3 := Lib.hid (W2.out.below hb)
      have H2 := Lib.hid (horizon_any d2 e2 R2 u2 W3.out.z2.eb W3.out.z2.rus W3.out.z2.n)
      rw [← HZ.out] at H2
      obtain ⟨h, hh⟩ : ∃ h, hzn e1 R1 = h := ⟨_, rfl⟩
      rw [hh] at H2 HZB ⊢
      have w1 : IntKind.u64.wrap ((h : Int) + (by_ : Int)) = ((h + by_ : Nat) : Int) := by have := HBY.out; have := HZB.out; rw [IntKind.wrap_u64]; omega
      have i3 : (((h + by_ : Nat) : Int) == ((h + by_ : Nat) : Int)) = true := by simp
      clear hb W2 H1 HZ hh
      go_wp2_with fail
      refine H2.out.mono ?_
      rintro en u3 ⟨rfl, hb⟩
      have B4 := Lib.hid (below_go BW.out (W3.out.below hb).bb)
      clear hb W3 H2
      go_wp2_with fail
      go_ret
      exact ⟨by first | rfl | simp, B4.out⟩
theorem shift_int (a : Option Addr) (n c : Nat) (L : List Nd) (win : Int) (hA : Option Addr) (hN hC : Nat) (H : List Hp) (by_ later : Nat) (hby : by_ < 4294967296) (hla : later < 4294967296) (w : World) (hn : L.length = n) (hm : n ≤ maxLen) (hv : RN w a L) (hs : ∀ v ∈ L, Sm v) (h0 : 0 ≤ win) (h1 : win < 18446744073709551616) (hT : Tab w) (hT5 : Tab5 w)
    (hH : Hps w hA H) (hHn : H.length = hN) (hHm : hN ≤ maxLen) :
    Calls Tryz.prog 10 #[ptv a n c win, .slice hA hN hC, .int .u32 (by_ : Int), .int .u32 (later : Int)] w fun e w' => e = .returned (.bool true) ∧ Below w.heap.size w w' := by
  obtain ⟨u, rfl⟩ := Int.eq_ofNat_of_zero_le h0
  exact shift_walk a n c L u hA hN hC H by_ later hby hla w hn hm hv hs (by omega) hT hT5 hH hHn hHm
end Go.Proofs.YtpnllbojifnopaaGreatDoor
