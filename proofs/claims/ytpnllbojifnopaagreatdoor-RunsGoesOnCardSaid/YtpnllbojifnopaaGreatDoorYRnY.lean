/- RunsGoesOn: the walk. -/
import Derived.Test.YtpnllbojifnopaaGreatDoorYRnZ
import Derived.Test.YtpnllbojifnopaaGreatDoorYDX
import Derived.Test.YtpnllbojifnopaaGreatDoorYRnJ
namespace Go.Proofs.YtpnllbojifnopaaGreatDoor
open Go Go.RowKit Go.Maps Pk Rl
set_option maxRecDepth 20000
set_option maxHeartbeats 16000000 in
theorem goeson_walk (a : Option Addr) (n c : Nat) (L : List Nd) (win : Nat) (hA : Option Addr) (hN hC : Nat) (H : List Hp) (mA : Option Addr) (mN mC : Nat) (HM : List Hp) (w : World) (hn : L.length = n) (hm : n ≤ maxLen) (hv : RN w a L) (hs : ∀ v ∈ L, Sm v) (hw0 : win < 18446744073709551616) (hT : Tab w) (hT5 : Tab5 w)
    (hH : Hps w hA H) (hHn : H.length = hN) (hHm : hN ≤ maxLen) (mH : Hps w mA HM) (mHn : HM.length = mN) (mHm : mN ≤ maxLen) :
    Calls Tryz.prog 8 #[ptv a n c (win : Int), .slice hA hN hC, .slice mA mN mC] w fun e w' => e = .returned (.bool true) ∧ Below w.heap.size w w' := by
  have B0 := Lib.hid (below_alloc w (xpobj a n c (win : Int)))
  have PA := Lib.hid (pattern_any a n c L (win : Int) (w.alloc (xpobj a n c (win : Int))) hn hm (hv.below B0.out))
  have EA : Hid (∀ W, Below w.heap.size w W → Calls Tryz.prog 18 #[.slice hA hN hC, .int .i64 40] W fun e w' => (∃ A c R, e = .returned (.slice A R.length c) ∧ R.length ≤ 40 ∧ OwnLg w' W.heap.size (.slice A R.length c) R) ∧ Below W.heap.size W w') := Lib.hid (fun W hb => events_any hA hN hC H 40 W (hH.below hb) hHn (by omega) hHm)
  have EB : Hid (∀ W, Below w.heap.size w W → Calls Tryz.prog 18 #[.slice mA mN mC, .int .i64 20] W fun e w' => (∃ A c R, e = .returned (.slice A R.length c) ∧ R.length ≤ 20 ∧ OwnLg w' W.heap.size (.slice A R.length c) R) ∧ Below W.heap.size W w') := Lib.hid (fun W hb => events_any mA mN mC HM 20 W (mH.below hb) mHn (by omega) mHm)
  have T0 := Lib.hid hT
  have T5 := Lib.hid hT5
  have HS := Lib.hid hs
  have FX := Lib.hid rfixed_any
  have HW := Lib.hid hw0
  clear hn hm hv hs hT hT5 hH hHn hHm mH mHn mHm hw0
  go_enter Tryz.func8, Tryz.ntmps8
  go_wp2_with fail
  refine PA.out.mono ?_
  rintro e w2 ⟨A, k, c', D, rfl, hDk, hDc, hDo, hb⟩
  have k40 : k ≤ 40 := by have h1 := congrArg List.length hDc; simp at h1; omega
  have pt2 := hDo.pt hDk (by omega)
  have B2 := Lib.hid (below_go B0.out hb)
  have SD := Lib.hid (csz_of hDc HS.out (fun v hv => by have := pt2.ok v hv; exact ⟨by rw [this.p.len]; exact this.p.few, by rw [this.g.len]; exact this.g.few⟩))
  have P2 := Lib.hid pt2
  have K40 := Lib.hid k40
  clear PA hDc hDo hb pt2 HS hDk B0
  go_wp2_with fail
  refine (EA.out _ B2.out).mono ?_
  rintro e w3 ⟨⟨rA, rc, R, rfl, hR40, hRo⟩, hb⟩
  obtain ⟨A1, c1, e1, _, _, hLr⟩ := hRo.form
  injection e1 with e2 e3 e4
  subst e2 e4
  have SZ : Hid (Szs R) := Lib.hid (fun x hx => (hRo.ev x hx).sz)
  have B3 := Lib.hid (below_go B2.out hb)
  have P3 := Lib.hid (P2.out.below hb)
  have LR3 := Lib.hid hLr
  have HR40 := Lib.hid hR40
  clear hRo hLr e3 hb EA B2 P2 hR40
  go_wp2_with fail
  refine (EB.out _ B3.out).mono ?_
  rintro e w3' ⟨⟨sA, sc, S, rfl, hS20, hSo⟩, hb⟩
  obtain ⟨A1, c1, e1, _, _, hLs⟩ := hSo.form
  injection e1 with e2 e3 e4
  subst e2 e4
  have SZ' : Hid (Szs S) := Lib.hid (fun x hx => (hSo.ev x hx).sz)
  have B4 := Lib.hid (below_go B3.out hb)
  have X0 : Hid (IV w (w3'.alloc (ptobj A k c' (win : Int))) w3'.heap.size A k c' (win : Int) D rA R sA S) := Lib.hid (by
    have b1 := below_alloc w3' (ptobj A k c' (win : Int))
    exact ⟨PtB.alloc _ _ _ _ _, (P3.out.below hb).below b1, (LR3.out.ck (Ck.of_below hb)).ck (Ck.of_below b1), hLs.ck (Ck.of_below b1), (T0.out.below B4.out).below b1, (T5.out.below B4.out).below b1, below_go B4.out b1⟩)
  have HS20 := Lib.hid hS20
  clear hSo hLs e3 hb EB B3 P3 LR3 hS20
  obtain ⟨g1, hg1⟩ : ∃ g, w3'.heap.size = g := ⟨_, rfl⟩
  rw [hg1] at X0
  have G1 := Lib.hid (fun W (h : IV w W g1 A k c' (win : Int) D rA R sA S) => rtgreat_any A k c' D (win : Int) W h.pt SD.out (by have := K40.out; omega))
  have G2 := Lib.hid (fun W (h : IV w W g1 A k c' (win : Int) D rA R sA S) => lgreat_any rA R.length rc R W h.lr SZ.out rfl (by have := HR40.out; omega))
  have G3 := Lib.hid (fun W (h : IV w W g1 A k c' (win : Int) D rA R sA S) => lgreat_any sA S.length sc S W h.ls SZ'.out rfl (by have := HS20.out; omega))
  have F1 := Lib.hid (fun W (h : IV w W g1 A k c' (win : Int) D rA R sA S) => FX.out W h.tab h.tab5)
  obtain ⟨gt, hgt⟩ : ∃ z, D.any gr = z := ⟨_, rfl⟩
  obtain ⟨gl, hgl⟩ : ∃ z, lgr R = z := ⟨_, rfl⟩
  obtain ⟨gs, hgs⟩ : ∃ z, lgr S = z := ⟨_, rfl⟩
  rw [hgt] at G1
  rw [hgl] at G2
  rw [hgs] at G3
  clear hgt hgl hgs SD SZ SZ' FX T0 T5 B4
  obtain ⟨bad, hbad⟩ : ∃ z, (gt || (gl || gs)) = z := ⟨_, rfl⟩
  have HBAD := Lib.hid hbad
  clear hbad
  obtain ⟨len, hlen⟩ : ∃ len, R.length = len := ⟨_, rfl⟩
  have HLEN := Lib.hid hlen
  obtain ⟨lem, hlem⟩ : ∃ lem, S.length = lem := ⟨_, rfl⟩
  have HLEM := Lib.hid hlem
  rw [hlen] at G2 HR40 ⊢
  rw [hlem] at G3 HS20 ⊢
  clear hlen hlem
  go_upto_region 2 with fail
  generalize (w3'.alloc (.cells #[.slice A k c', .int .u64 (win : Int)] 28)) = w4 at X0 ⊢
  go_cut [38] from 29 to 38 (fun v W => v = .bool bad ∧ Hid (IV w W g1 A k c' (win : Int) D rA R sA S))
  case first =>
    have q0 := X0.out.p.c0
    have q1 := X0.out.p.c1
    go_wp2_with fail
    refine (G1.out _ X0.out).mono ?_
    rintro e w4 ⟨rfl, hb⟩
    have X4 := Lib.hid (X0.out.next hb)
    clear hb X0 G1 q0 q1
    cases gt
    case true =>
      go_wp2_with fail
      go_meet
      exact ⟨by rw [← HBAD.out]; rfl, Lib.hid X4.out⟩
    go_wp2_with fail
    refine (G2.out _ X4.out).mono ?_
    rintro e w5 ⟨rfl, hb⟩
    have X5 := Lib.hid (X4.out.next hb)
    clear hb X4 G2
    cases gl
    case true =>
      go_wp2_with fail
      go_meet
      exact ⟨by rw [← HBAD.out]; rfl, Lib.hid X5.out⟩
    go_wp2_with fail
    refine (G3.out _ X5.out).mono ?_
    rintro e w6 ⟨rfl, hb⟩
    have X6 := Lib.hid (X5.out.next hb)
    clear hb X5 G3
    cases gs
    · go_wp2_with fail
      go_meet
      exact ⟨by rw [← HBAD.out]; rfl, Lib.hid X6.out⟩
    · go_wp2_with fail
      go_meet
      exact ⟨by rw [← HBAD.out]; rfl, Lib.hid X6.out⟩
  case rest =>
  obtain ⟨rfl, HC⟩ := hcut
  have X6 := Lib.hid HC.out
  clear HC X0 G1 G2 G3
  cases bad
  case true =>
    go_wp2_with fail
    refine (F1.out _ X6.out).mono ?_
    rintro e w6 ⟨rfl, hb⟩
    have BB := Lib.hid (below_go X6.out.bel hb)
    clear hb
    go_wp2_with fail
    go_ret
    exact ⟨rfl, BB.out⟩
  clear HBAD
  have N1 : Hid (∀ W, IV w W g1 A k c' (win : Int) D rA R sA S → Calls Tryz.prog 26 #[ptv A k c' (win : Int), .int .u64 5] W fun en W' => NeX D win 5 W en W') := Lib.hid (fun W h => newe_any A k c' D win 5 W h.pt h.tab h.tab5 HW.out)
  have q0 := X6.out.p.c0
  have q1 := X6.out.p.c1
  go_wp2_with fail
  refine (N1.out _ X6.out).mono ?_
  rintro e v1 hn1
  rcases hn1 with ⟨h0, m1, hm1, hm2, rfl, hb1⟩ | ⟨h0, hnx, d1, e1, Ps1, Es1, rfl, hd1, hz1, hv1, hb1⟩
  · have X8 := Lib.hid (X6.out.next hb1)
    clear h0 hm2 hb1 X6 q0 q1 N1
    go_wp2_with fail
    refine (F1.out _ X8.out).mono ?_
    rintro e w6 ⟨rfl, hb⟩
    have BB := Lib.hid (below_go X8.out.bel hb)
    clear hb
    go_wp2_with fail
    go_ret
    exact ⟨rfl, BB.out⟩
  have Z0 : Hid (Below wc.heap.size wc v1 ∧ wc.heap.size ≤ d1 ∧ Ez v1 d1 e1 Ps1 Es1 [] ∧ Okn e1.next e1.last e1.win Es1.length e1.fl e1.fat []) := Lib.hid (by
    obtain ⟨_, _, _, _, a5, a6, a7, a8, a9, _⟩ := hv1.out
    exact ⟨hb1, hd1, hz1.out, Or.inl ⟨a8, a9, Rgd.nil _ _ _ _⟩⟩)
  have V1 : Hid (Ps1.map vq = (cov D (win : Int)).P ∧ Es1.map ve = (cov D (win : Int)).E ∧ e1.a = (cov D (win : Int)).a ∧ e1.b = (cov D (win : Int)).b ∧ e1.win = win) := Lib.hid (by
    obtain ⟨a1, a2, a3, a4, a5, _⟩ := hv1.out
    exact ⟨a1, a2, a3, a4, a5⟩)
  have CM := Lib.hid h0
  have LR := Lib.hid X6.out.lr
  have LS := Lib.hid X6.out.ls
  have TB := Lib.hid (And.intro X6.out.tab X6.out.tab5)
  have BW := Lib.hid X6.out.bel
  have XP := Lib.hid (And.intro X6.out.p X6.out.pt)
  clear h0 hnx hd1 hz1 hv1 hb1 q0 q1 X6 N1 F1
  go_upto_region 8 with fail
  go_loopw [54] (fun v W => ∃ (i : Nat) (e : En) (R1 : List Ru), v = .int .i64 (i : Int) ∧ i ≤ len ∧ Hid (Below wc.heap.size wc W ∧ wc.heap.size ≤ d1 ∧ Ez W d1 e Ps1 Es1 R1 ∧ Okn e.next e.last e.win Es1.length e.fl e.fat R1 ∧ e.a = e1.a ∧ e.b = e1.b ∧ e.win = e1.win)) (fun v _ => len - (intOf v).toNat)
  case atStart => exact ⟨0, e1, [], rfl, by omega, Lib.hid ⟨Z0.out.1, Z0.out.2.1, Z0.out.2.2.1, Z0.out.2.2.2, rfl, rfl, rfl⟩⟩
  case round =>
    obtain ⟨i, e, R1, rfl, hi, H⟩ := hrel
    clear Z0
    by_cases ci : i < len
    · have hl : i < R.length := by have := HLEN.out; omega
      obtain ⟨bb, off, rfl, k0, k1, k2, k3, k4⟩ := (LR.out.ck (Ck.of_below H.out.1)).row i hl
      have LK := Lib.hid (LR.out.ok (R.getD i lz) (by rw [List.getD_eq_getElem?_getD, List.getElem?_eq_getElem hl]; exact List.getElem_mem _))
      obtain ⟨x, hx⟩ : ∃ x, R.getD i lz = x := ⟨_, rfl⟩
      rw [hx] at k0 k1 k2 k3 k4 LK
      clear hx
      obtain ⟨xp, xs, xat, xt, xA, xn, xc, xE⟩ := x
      simp only at k0 k1 k2 k3 k4
      have NB := Lib.hid (below_alloc wr (lobj ⟨xp, xs, xat, xt, xA, xn, xc, xE⟩))
      have Z1 := Lib.hid (And.intro (below_go H.out.1 NB.out) (H.out.2.2.1.below NB.out))
      have BX := Lib.hid (heap_alloc_new wr (lobj ⟨xp, xs, xat, xt, xA, xn, xc, xE⟩))
      have OK := Lib.hid (And.intro H.out.2.1 H.out.2.2.2)
      have I40 := Lib.hid (show i ≤ 40 by have := HR40.out; omega)
      clear H NB
      go_upto_region 10 with fail
      generalize wr.alloc (.cells #[.int .u32 xp, .int .u64 xs, .int .u64 (xat : Int), .int .u8 xt, .slice xA xn xc] 81) = u1 at Z1 BX ⊢
      generalize wr.heap.size = gb at BX ⊢
      clear k0 k1 k2 k3 k4
      have FE1 := Lib.hid (feedu_any u1 d1 e Ps1 Es1 R1 ⟨xp, xs, xat, xt, xA, xn, xc, xE⟩ Z1.out.2 (TB.out.1.below Z1.out.1) (LK.out.ck (Ck.of_below Z1.out.1)))
      obtain ⟨k0, k1, k2, k3, k4, _⟩ := lg_cells BX.out
      simp only at k0 k1 k2 k3 k4
      go_wp2_with fail
      refine FE1.out.mono ?_
      rintro en u2 ⟨A1, c1, f1, S1, rfl, hk1, hz1, ho1, hfo1⟩
      have Z2 : Hid (Below wc.heap.size wc u2 ∧ wc.heap.size ≤ d1 ∧ Ez u2 d1 f1 Ps1 Es1 S1 ∧ Okn f1.next f1.last f1.win Es1.length f1.fl f1.fat S1 ∧ f1.a = e1.a ∧ f1.b = e1.b ∧ f1.win = e1.win) := Lib.hid
        ⟨keep_bel Z1.out.1 OK.out.1 hk1, OK.out.1, hz1.out, hfo1.okn OK.out.2.1, hfo1.a.trans OK.out.2.2.1, hfo1.b.trans OK.out.2.2.2.1, hfo1.win.trans OK.out.2.2.2.2⟩
      clear hk1 hz1 ho1 hfo1 FE1 Z1 BX k0 k1 k2 k3 k4 OK LK
      go_wp2_with fail
      have ew : wrap64 ((i : Int) + 1) = ((i + 1 : Nat) : Int) := by unfold wrap64; have := I40.out; omega
      rw [ew]
      have i1 : i + 1 ≤ len := ci
      refine ⟨⟨i + 1, f1, S1, rfl, i1, ?_⟩, ?_⟩
      · exact Lib.hid Z2.out
      · show len - (((i + 1 : Nat) : Int)).toNat < len - ((i : Int)).toNat
        rw [Int.toNat_natCast, Int.toNat_natCast]
        exact Nat.sub_lt_sub_left ci (Nat.lt_succ_self i)
    · obtain rfl : i = len := by omega
      have d9 : decide ((i : Int) < (i : Int)) = false := by simp
      have EF := Lib.hid H.out
      clear H
      have ST := Lib.hid (state_any d1 e R1 wr EF.out.2.2.1.eb EF.out.2.2.1.rus EF.out.2.2.1.n (by have := EF.out.2.2.1.few; omega))
      go_wp2_with fail
      refine ST.out.mono ?_
      rintro en u1 ⟨As, cs, rfl, hos, hb⟩
      obtain ⟨sn, hsn⟩ : ∃ x, e.next = x := ⟨_, rfl⟩
      obtain ⟨sl, hsl⟩ : ∃ x, e.last = x := ⟨_, rfl⟩
      obtain ⟨sf, hsf⟩ : ∃ x, e.fl = x := ⟨_, rfl⟩
      obtain ⟨sa, hsa⟩ : ∃ x, e.fat = x := ⟨_, rfl⟩
      rw [hsn, hsl, hsf, hsa]
      have HSV := Lib.hid (And.intro hsn (And.intro hsl (And.intro hsf hsa)))
      have NB := Lib.hid (below_alloc u1 (sto sn sl sf sa As R1.length cs))
      have S2 : Hid ((u1.alloc (.cells #[.int .u64 (sn : Int), .int .u64 (sl : Int), .bool sf, .int .u64 (sa : Int), .slice As R1.length cs] 91)).heap[u1.heap.size]? = some (sto sn sl sf sa As R1.length cs)) := Lib.hid (heap_alloc_new u1 _)
      have E2 : Hid (Below wc.heap.size wc (u1.alloc (.cells #[.int .u64 (sn : Int), .int .u64 (sl : Int), .bool sf, .int .u64 (sa : Int), .slice As R1.length cs] 91)) ∧ Ez (u1.alloc (.cells #[.int .u64 (sn : Int), .int .u64 (sl : Int), .bool sf, .int .u64 (sa : Int), .slice As R1.length cs] 91)) d1 e Ps1 Es1 R1 ∧ Rus (u1.alloc (.cells #[.int .u64 (sn : Int), .int .u64 (sl : Int), .bool sf, .int .u64 (sa : Int), .slice As R1.length cs] 91)) As R1) := Lib.hid (by
        obtain ⟨A5, c5, q5, m5, _⟩ := OwnRu.form hos.out
        injection q5 with q5 _ _
        subst q5
        exact ⟨below_go (below_go EF.out.1 hb) NB.out, (EF.out.2.2.1.below hb).below NB.out, m5.below NB.out⟩)
      clear hsn hsl hsf hsa hos hb NB ST
      go_upto_region 13 with fail
      generalize (u1.alloc (.cells #[.int .u64 (sn : Int), .int .u64 (sl : Int), .bool sf, .int .u64 (sa : Int), .slice As R1.length cs] 91)) = u2 at S2 E2 ⊢
      generalize u1.heap.size = gs at S2 ⊢
      have RE := Lib.hid (restore_yes A k c' D win sn sl sf sa As R1.length cs R1 u2 (XP.out.2.below E2.out.1) (TB.out.1.below E2.out.1) (TB.out.2.below E2.out.1) HW.out CM.out E2.out.2.2 rfl (by have := E2.out.2.1.n; have := E2.out.2.1.few; omega) (by have := E2.out.2.1.x; rwa [HSV.out.2.1] at this) (by have := E2.out.2.1.next; rwa [HSV.out.1] at this) (by have := E2.out.2.1.last; rwa [HSV.out.2.1] at this) (by
        have h := EF.out.2.2.2.1
        rw [HSV.out.1, HSV.out.2.1, HSV.out.2.2.1, HSV.out.2.2.2, EF.out.2.2.2.2.2.2, V1.out.2.2.2.2] at h
        have hl : Es1.length = (cov D (win : Int)).E.length := by rw [← V1.out.2.1, List.length_map]
        rwa [hl] at h))
      have q0 := (XP.out.1.below E2.out.1 XP.out.1.lt).c0
      have q1 := (XP.out.1.below E2.out.1 XP.out.1.lt).c1
      obtain ⟨b0, b1, b2, b3, b4, _⟩ := sto_cells S2.out
      go_wp2_with fail
      refine RE.out.mono ?_
      rintro en u3 ⟨d2, e2, Ps2, Es2, rfl, hd2, hz2, hv2, hb⟩
      have W0 : Hid (Wq wc u3 d1 d2 e e2 Ps1 Es1 R1 Ps2 Es2 R1 ∧ u3.heap[gs]? = some (sto sn sl sf sa As R1.length cs)) := Lib.hid (by
        obtain ⟨c1, c2, c3, c4, c5, c6, c7, c8, c9⟩ := hv2.out
        obtain ⟨h1, h2, h3, h4⟩ := HSV.out
        obtain ⟨p1, p2, p3, p4, p5⟩ := V1.out
        obtain ⟨_, f1, _, _, f2, f3, f4⟩ := EF.out
        have l1 := E2.out.2.1.eb.lt
        exact ⟨⟨below_go E2.out.1 hb, f1, Nat.le_trans E2.out.1.size hd2, by omega, E2.out.2.1.below hb, hz2.out, p1.trans c1.symm, p2.trans c2.symm, ⟨c8.trans h3.symm, c6.trans h1.symm, c7.trans h2.symm, by rw [c3, f2, p3], by rw [c4, f3, p4], by rw [c5, f4, p5], c9.trans h4.symm, rfl⟩⟩, (hb.block _ (Array.getElem?_eq_some_iff.1 S2.out).1).trans S2.out⟩)
      clear hd2 hz2 hv2 hb RE q0 q1 b0 b1 b2 b3 b4 E2 S2 EF HSV V1 XP CM
      go_upto_region 17 with fail
      go_loopw [78] (fun v W => ∃ (j : Nat) (f1 : En) (S1 : List Ru) (f2 : En) (S2 : List Ru), v = .int .i64 (j : Int) ∧ j ≤ lem ∧ Hid (Wq wc W d1 d2 f1 f2 Ps1 Es1 S1 Ps2 Es2 S2 ∧ W.heap[gs]? = some (sto sn sl sf sa As R1.length cs))) (fun v _ => lem - (intOf v).toNat)
      case atStart => exact ⟨0, e, R1, e2, R1, rfl, by omega, Lib.hid W0.out⟩
      case round =>
        obtain ⟨j, f1, T1, f2, T2, rfl, hj, H⟩ := hrel
        clear W0
        by_cases cj : j < lem
        · have hl : j < S.length := by have := HLEM.out; omega
          obtain ⟨bb, off, rfl, k0, k1, k2, k3, k4⟩ := (LS.out.ck (Ck.of_below H.out.1.bb)).row j hl
          have LK := Lib.hid (LS.out.ok (S.getD j lz) (by rw [List.getD_eq_getElem?_getD, List.getElem?_eq_getElem hl]; exact List.getElem_mem _))
          obtain ⟨x, hx⟩ : ∃ x, S.getD j lz = x := ⟨_, rfl⟩
          rw [hx] at k0 k1 k2 k3 k4 LK
          clear hx
          obtain ⟨xp, xs, xat, xt, xA, xn, xc, xE⟩ := x
          simp only at k0 k1 k2 k3 k4
          have NB := Lib.hid (below_alloc wr (lobj ⟨xp, xs, xat, xt, xA, xn, xc, xE⟩))
          have W1 := Lib.hid (And.intro (H.out.1.below NB.out) ((NB.out.block _ (Array.getElem?_eq_some_iff.1 H.out.2).1).trans H.out.2))
          have BX := Lib.hid (heap_alloc_new wr (lobj ⟨xp, xs, xat, xt, xA, xn, xc, xE⟩))
          have GW := Lib.hid H.out.1.bb.size
          have GS := Lib.hid (show gs < wr.heap.size from (Array.getElem?_eq_some_iff.1 H.out.2).1)
          have I40 := Lib.hid (show j ≤ 40 by have := HS20.out; omega)
          clear H NB
          go_upto_region 19 with fail
          generalize wr.alloc (.cells #[.int .u32 xp, .int .u64 xs, .int .u64 (xat : Int), .int .u8 xt, .slice xA xn xc] 81) = u4 at W1 BX ⊢
          generalize wr.heap.size = gb at BX GW GS ⊢
          clear k0 k1 k2 k3 k4
          obtain ⟨k0, k1, k2, k3, k4, kf⟩ := lg_cells BX.out
          simp only at k0 k1 k2 k3 k4
          have kf2 := kf 2
          obtain ⟨_, b1, _, _, _, _⟩ := sto_cells W1.out.2
          obtain ⟨y, hy⟩ : ∃ y, (xat + sl) % 18446744073709551616 = y := ⟨_, rfl⟩
          have hadd : IntKind.u64.wrap ((xat : Int) + (sl : Int)) = (y : Int) := by rw [IntKind.wrap_u64]; omega
          have Y64 := Lib.hid (show y < 18446744073709551616 by omega)
          clear kf hy
          go_upto_region 20 with fail
          have KG := Lib.hid (lg_set (W := u4) (g := gb) 2 (.int .u64 (y : Int)))
          have V3 : Hid (Below wc.heap.size wc (u4.setCell ⟨gb, 2, none⟩ (.int .u64 (y : Int))) ∧ Ez (u4.setCell ⟨gb, 2, none⟩ (.int .u64 (y : Int))) d1 f1 Ps1 Es1 T1 ∧ Ez (u4.setCell ⟨gb, 2, none⟩ (.int .u64 (y : Int))) d2 f2 Ps2 Es2 T2 ∧ (u4.setCell ⟨gb, 2, none⟩ (.int .u64 (y : Int))).heap[gb]? = some (lobj ⟨xp, xs, y, xt, xA, xn, xc, xE⟩) ∧ (u4.setCell ⟨gb, 2, none⟩ (.int .u64 (y : Int))).heap[gs]? = some (sto sn sl sf sa As R1.length cs)) := Lib.hid
            ⟨W1.out.1.bb.setCell (p := ⟨gb, 2, none⟩) GW.out (.int .u64 (y : Int)), W1.out.1.z1.keepL KG.out BX.out, W1.out.1.z2.keepL KG.out BX.out, lg_later BX.out y, (heap_setCell_other u4 ⟨gb, 2, none⟩ gs _ (by have := GS.out; show gs ≠ gb; omega)).trans W1.out.2⟩
          have WS := Lib.hid (And.intro W1.out.1.f1 (And.intro W1.out.1.f2 (And.intro W1.out.1.ne (And.intro W1.out.1.hP (And.intro W1.out.1.hE W1.out.1.se)))))
          clear KG BX W1 k0 k1 k2 k3 k4 kf2 b1 GW
          generalize u4.setCell ⟨gb, 2, none⟩ (.int .u64 (y : Int)) = u5 at V3 ⊢
          have L5 : Hid (∀ W, Below wc.heap.size wc W → Lok W ⟨xp, xs, y, xt, xA, xn, xc, xE⟩) := Lib.hid (fun W hb => ⟨LK.out.len, LK.out.few, LK.out.row.ck (Ck.of_below hb), LK.out.ok, Y64.out⟩)
          have FE1 := Lib.hid (feedu_any u5 d1 f1 Ps1 Es1 T1 ⟨xp, xs, y, xt, xA, xn, xc, xE⟩ V3.out.2.1 (TB.out.1.below V3.out.1) (L5.out _ V3.out.1))
          obtain ⟨k0, k1, k2, k3, k4, _⟩ := lg_cells V3.out.2.2.2.1
          simp only at k0 k1 k2 k3 k4
          go_wp2_with fail
          refine FE1.out.mono ?_
          rintro en u6 ⟨A1, c1, h1, U1, he1, hk1, hz1, ho1, hfo1⟩
          obtain ⟨M, hM⟩ : ∃ M, fms Ps1 Es1 f1 T1 ⟨xp, xs, y, xt, xA, xn, xc, xE⟩ = M := ⟨_, rfl⟩
          obtain ⟨cd, hcd⟩ : ∃ cd, fcd Ps1 Es1 f1 T1 ⟨xp, xs, y, xt, xA, xn, xc, xE⟩ = cd := ⟨_, rfl⟩
          have SM := Lib.hid (WS.out.2.2.2.2.2.same WS.out.2.2.2.1 WS.out.2.2.2.2.1 ⟨xp, xs, y, xt, xA, xn, xc, xE⟩)
          rw [hM, hcd] at he1 SM
          have OM : Hid (OwnMt u6 u5.heap.size (.slice A1 M.length c1) M ∧ M.length ≤ 65) := Lib.hid (by
            have h2 := ho1.out
            rw [hM] at h2
            have h3 := fms_len Ps1 Es1 f1 T1 ⟨xp, xs, y, xt, xA, xn, xc, xE⟩
            rw [hM] at h3
            have := V3.out.2.1.n
            have := V3.out.2.1.few
            exact ⟨h2, by omega⟩)
          have V6 : Hid (Below wc.heap.size wc u6 ∧ Ez u6 d1 h1 Ps1 Es1 U1 ∧ Ez u6 d2 f2 Ps2 Es2 T2 ∧ u6.heap[gb]? = some (lobj ⟨xp, xs, y, xt, xA, xn, xc, xE⟩) ∧ u6.heap[gs]? = some (sto sn sl sf sa As R1.length cs)) := Lib.hid
            ⟨keep_bel V3.out.1 WS.out.1 hk1, hz1.out, V3.out.2.2.1.keep hk1 V3.out.2.1.eb (Ne.symm WS.out.2.2.1), lg_keep V3.out.2.2.2.1 hk1 V3.out.2.1.eb, sto_keep V3.out.2.2.2.2 hk1 V3.out.2.1.eb⟩
          have FO1 := Lib.hid hfo1
          subst he1
          clear hM hcd hk1 hz1 ho1 hfo1 FE1 V3 k0 k1 k2 k3 k4
          have FE2 := Lib.hid (feedu_any u6 d2 f2 Ps2 Es2 T2 ⟨xp, xs, y, xt, xA, xn, xc, xE⟩ V6.out.2.2.1 (TB.out.1.below V6.out.1) (L5.out _ V6.out.1))
          obtain ⟨k0, k1, k2, k3, k4, _⟩ := lg_cells V6.out.2.2.2.1
          simp only at k0 k1 k2 k3 k4
          go_wp2_with fail
          refine FE2.out.mono ?_
          rintro en u7 ⟨A2, c2, h2, U2, he2, hk2, hz2, ho2, hfo2⟩
          rw [SM.out.1, SM.out.2] at he2
          have Q0 : Hid (Wq wc u7 d1 d2 h1 h2 Ps1 Es1 U1 Ps2 Es2 U2 ∧ u7.heap[gs]? = some (sto sn sl sf sa As R1.length cs) ∧ Mrs u7 A1 M ∧ Mrs u7 A2 M) := Lib.hid (by
            obtain ⟨w1, w2, w3, w4, w5, w6⟩ := WS.out
            have om := row_keep OM.out.1 hk2 V6.out.2.2.1.eb (by decide)
            have ho2' := ho2.out
            rw [SM.out.2] at ho2'
            obtain ⟨A5, c5, q5, m5, _⟩ := OwnMt.form om
            obtain ⟨A6, c6, q6, m6, _⟩ := OwnMt.form ho2'
            injection q5 with q5 _ _
            injection q6 with q6 _ _
            subst q5 q6
            exact ⟨⟨keep_bel V6.out.1 w2 hk2, w1, w2, w3, V6.out.2.1.keep hk2 V6.out.2.2.1.eb w3, hz2.out, w4, w5, w6.step w4 w5 FO1.out hfo2⟩, sto_keep V6.out.2.2.2.2 hk2 V6.out.2.2.1.eb, m5, m6⟩)
          subst he2
          have ML := Lib.hid OM.out.2
          clear hk2 hz2 ho2 hfo2 FE2 SM WS V6 OM FO1 L5 LK k0 k1 k2 k3 k4 Y64 GS
          have SA := Lib.hid (msame_any A1 M.length c1 M A2 M.length c2 M u7 Q0.out.2.2.1 Q0.out.2.2.2 rfl rfl (by have := ML.out; omega) (by have := ML.out; omega))
          have dm : decide (M = M) = true := decide_eq_true rfl
          rw [dm] at SA
          have i1 : (cd != cd) = false := by simp
          go_wp2_with fail
          refine SA.out.mono ?_
          rintro en u8 ⟨rfl, hb⟩
          have Q1 := Lib.hid (And.intro (Q0.out.1.below hb) ((hb.block _ (Array.getElem?_eq_some_iff.1 Q0.out.2.1).1).trans Q0.out.2.1))
          clear hb SA Q0 dm
          go_wp2_with fail
          have ew : wrap64 ((j : Int) + 1) = ((j + 1 : Nat) : Int) := by unfold wrap64; have := I40.out; omega
          rw [ew]
          have i1 : j + 1 ≤ lem := cj
          refine ⟨⟨j + 1, h1, U1, h2, U2, rfl, i1, ?_⟩, ?_⟩
          · exact Lib.hid Q1.out
          · show lem - (((j + 1 : Nat) : Int)).toNat < lem - ((j : Int)).toNat
            rw [Int.toNat_natCast, Int.toNat_natCast]
            exact Nat.sub_lt_sub_left cj (Nat.lt_succ_self j)
        · obtain rfl : j = lem := by omega
          have d9 : decide ((j : Int) < (j : Int)) = false := by simp
          have FX2 := Lib.hid (rfixed_any wr (TB.out.1.below H.out.1.bb) (TB.out.2.below H.out.1.bb))
          have W9 := Lib.hid H.out.1
          clear H
          go_wp2_with fail
          refine FX2.out.mono ?_
          rintro en u4 ⟨rfl, hb⟩
          have W2 := Lib.hid (W9.out.below hb)
          have H1 := Lib.hid (state_any d1 f1 T1 u4 W2.out.z1.eb W2.out.z1.rus W2.out.z1.n (by have := W2.out.z1.few; omega))
          clear hb W9 FX2
          go_wp2_with fail
          refine H1.out.mono ?_
          rintro en u5 ⟨A5, c5, rfl, ho5, hb⟩
          have W3 := Lib.hid (W2.out.below hb)
          have R5 : Hid (Rus u5 A5 T1 ∧ T1.length ≤ 64) := Lib.hid (by
            obtain ⟨A7, c7, q7, m7, _⟩ := OwnRu.form ho5.out
            injection q7 with q7 _ _
            subst q7
            have := W3.out.z1.n
            have := W3.out.z1.few
            exact ⟨m7, by omega⟩)
          have H2 := Lib.hid (state_any d2 f2 T2 u5 W3.out.z2.eb W3.out.z2.rus W3.out.z2.n (by have := W3.out.z2.few; omega))
          clear hb W2 H1 ho5
          go_wp2_with fail
          refine H2.out.mono ?_
          rintro en u6 ⟨A6, c6, he6, ho6, hb⟩
          rw [W3.out.se.nx, W3.out.se.la, W3.out.se.fl, W3.out.se.fat, W3.out.se.r] at he6
          have R6 : Hid (Rus u6 A6 T1 ∧ Rus u6 A5 T1) := Lib.hid (by
            have h7 := ho6.out
            rw [W3.out.se.r] at h7
            obtain ⟨A7, c7, q7, m7, _⟩ := OwnRu.form h7
            injection q7 with q7 _ _
            subst q7
            exact ⟨m7, R5.out.1.below hb⟩)
          have W4 := Lib.hid (W3.out.below hb)
          subst he6
          have SE := Lib.hid (rsame15_eq f1.next f1.last f1.fl f1.fat A5 T1.length c5 A6 c6 T1 u6 R6.out.2 R6.out.1 rfl (by have := R5.out.2; omega))
          clear hb W3 H2 ho6 R6 R5
          go_wp2_with fail
          refine SE.out.mono ?_
          rintro en u7 ⟨rfl, hb⟩
          have B9 := Lib.hid (below_go BW.out (W4.out.below hb).bb)
          clear hb W4 SE
          go_wp2_with fail
          go_ret
          exact ⟨by first | rfl | simp, B9.out⟩
theorem goeson_int (a : Option Addr) (n c : Nat) (L : List Nd) (win : Int) (hA : Option Addr) (hN hC : Nat) (H : List Hp) (mA : Option Addr) (mN mC : Nat) (HM : List Hp) (w : World) (hn : L.length = n) (hm : n ≤ maxLen) (hv : RN w a L) (hs : ∀ v ∈ L, Sm v) (h0 : 0 ≤ win) (h1 : win < 18446744073709551616) (hT : Tab w) (hT5 : Tab5 w)
    (hH : Hps w hA H) (hHn : H.length = hN) (hHm : hN ≤ maxLen) (mH : Hps w mA HM) (mHn : HM.length = mN) (mHm : mN ≤ maxLen) :
    Calls Tryz.prog 8 #[ptv a n c win, .slice hA hN hC, .slice mA mN mC] w fun e w' => e = .returned (.bool true) ∧ Below w.heap.size w w' := by
  obtain ⟨u, rfl⟩ := Int.eq_ofNat_of_zero_le h0
  exact goeson_walk a n c L u hA hN hC H mA mN mC HM w hn hm hv hs (by omega) hT hT5 hH hHn hHm mH mHn mHm
end Go.Proofs.YtpnllbojifnopaaGreatDoor
