/- Segments go. -/
import Derived.Test.YtcodihgjfhoepaaGreatDoorSgUW
namespace Go.Proofs.YtcodihgjfhoepaaGreatDoor
open Go Go.RowKit Crc Pk
set_option maxRecDepth 20000

section
variable {B : Nat} {w w' : World} {d m : Nat} {V V' : ByteArray → Value} {S T : St} {g : Nat} {nm : ByteArray} {most : Nat} {sv rv sv' rv' : Value} {P P' : Nat → Prop} {L L' : Lg}
def trmK (nm : ByteArray) (L : Lg) (S : St) (n : Nat) : Rs3 :=
  if goN L.st n = 0 then ⟨0, L, S⟩ else
  if (tel nm (L.st.drop (goN L.st n)) S).1 ≠ 0 then
    ⟨(tel nm (L.st.drop (goN L.st n)) S).1, L.go (decide ((tel nm (L.st.drop (goN L.st n)) S).1 = 9)), (tel nm (L.st.drop (goN L.st n)) S).2⟩ else
  ⟨(dls nm (L.st.take (goN L.st n)) (tel nm (L.st.drop (goN L.st n)) S).2).1,
    (L.cut (goN L.st n)).go (decide ((dls nm (L.st.take (goN L.st n)) (tel nm (L.st.drop (goN L.st n)) S).2).1 = 9)),
    (dls nm (L.st.take (goN L.st n)) (tel nm (L.st.drop (goN L.st n)) S).2).2⟩
theorem trmL_is (nm : ByteArray) (L : Lg) (S : St) (n : Nat) (h : L.gn = false) : trmL nm L S n = trmK nm L S n := by unfold trmL trmK; rw [if_neg (by rw [h]; decide)]
/- the rows are other ones, and the struct says so -/
theorem Lo.cutTo {w4 : World} (h : Lp B w4 d m V S g nm most sv rv P L) (k : Nat) (hk : k < L.st.length) (v5 s5 : Value) (hrc : OwnP w4 P v5 (L.rc.drop (L.st.getD k 0 - L.bas))) (hst : OwnU w4 s5 (L.st.drop k))
    (hv : ∀ x, v5.ownBlock = some x → B ≤ x ∧ ¬ P x) :
    Lp B ((w4.setCell ⟨g, 4, none⟩ v5).setCell ⟨g, 3, none⟩ s5) d m V S g nm most s5 v5 P (L.cut k) := by
  have k2 : Keep (fun x => x = g) w4 ((w4.setCell ⟨g, 4, none⟩ v5).setCell ⟨g, 3, none⟩ s5) := (Keep.set (fun x => x = g) _ ⟨g, 4, none⟩ _ rfl).tr (Keep.set (fun x => x = g) _ ⟨g, 3, none⟩ _ rfl)
  have hb1 := block_set (w4.setCell ⟨g, 4, none⟩ v5) g 3 s5 _ _ _ (block_set w4 g 4 v5 _ _ _ h.blk)
  refine h.turn k2 (by rw [hb1]; rfl) hst hrc (fun x hx => ⟨fun e => ?_, (h.far x hx).2⟩) (h.wf.cut k hk L.gn) (fun x e => (hv x e).1)
  rcases e with e | e | e
  · exact (h.far x hx).1 (.inl e)
  · exact (h.far x hx).1 (.inr (.inl e))
  · exact (hv x e).2 hx
theorem take_drop_cons (l : List Nat) (i j : Nat) (hi : i < l.length) (hj : j < i) : (l.take i).drop j = l.getD j 0 :: (l.take i).drop (j + 1) := by
  have h : j < (l.take i).length := by rw [List.length_take]; omega
  rw [List.drop_eq_getElem_cons h, List.getD_eq_getElem?_getD, List.getElem?_eq_getElem (by omega)]
  simp
set_option maxHeartbeats 16000000 in
theorem trim_log (h : Lp B w d m V S g nm most sv rv P L) (hgn : L.gn = false) (n : Nat) (hn : n < 18446744073709551616) (R : Rs3) (hR : trmK nm L S n = R) :
    Calls Tryz.prog 51 #[ptr g, .int .u64 (n : Int)] w (PA B w d m V S g nm most rv P R) := by
  have HH := Lib.hid h
  have HR := Lib.hid hR
  have HG := Lib.hid hgn
  have c3 := h.c3
  obtain ⟨A, c, hsv, hu, hc, hz, hx⟩ := h.st.form
  have hl := h.wf.len
  obtain ⟨b, off, rfl, -⟩ := hu 0 (by omega)
  rw [hsv] at c3
  have HSV := Lib.hid hsv
  have HU := Lib.hid hu
  obtain ⟨q, hq⟩ : ∃ q, L.st.length = q := ⟨_, rfl⟩
  rw [hq] at c3 hc hl
  have HQ := Lib.hid hq
  have SM := Lib.hid (h.wf.st1000)
  obtain ⟨hl1, hl2⟩ := hl
  clear h hgn hR hsv hu hz hx hq
  go_enter Tryz.func51, Tryz.ntmps51
  go_wp2_with fail
  go_loopw [5] (fun s wr => ∃ (i : Nat), s = .int .i64 i ∧ i + 1 ≤ q ∧ wr = w ∧ Hid (∀ j, j < i → L.st.getD (j + 1) 0 ≤ n)) (fun s _ => q - (intOf s).toNat)
  case atStart => exact ⟨0, rfl, by omega, rfl, fun j hj => by omega⟩
  case round =>
    obtain ⟨i, rfl, hi, hwr, H⟩ := hrel
    have hwr2 := hwr.symm
    subst hwr2
    have i0 : (0 : Int) ≤ (i : Int) := by omega
    have i1 : (i : Int) + 1 ≤ (q : Int) := by omega
    have ST := Lib.hid (fun (hx : i + 1 = L.st.length ∨ n < L.st.getD (i + 1) 0) => goN_is L.st i (by rw [HQ.out]; omega) H.out hx)
    have NX := Lib.hid (fun (hle : L.st.getD (i + 1) 0 ≤ n) => (show ∀ j, j < i + 1 → L.st.getD (j + 1) 0 ≤ n from fun j hj => by
      rcases Nat.lt_or_ge j i with e | e
      · exact H.out j e
      · have : j = i := by omega
        subst this
        exact hle))
    have CE := Lib.hid (fun (hx : i + 1 < q) => HU.out (i + 1) (by rw [HQ.out]; exact hx))
    obtain ⟨v, hv⟩ : ∃ v, L.st.getD (i + 1) 0 = v := ⟨_, rfl⟩
    rw [hv] at NX ST CE
    rw [HQ.out] at ST
    clear H hv
    go_upto_region 2 with fail
    go_cut [31] from 12 to 31 (fun s w' => s = .bool (decide (i + 1 < q ∧ v ≤ n)) ∧ w' = w)
    case first =>
      by_cases ci : i + 1 < q
      · have ci' : (i : Int) + 1 < (q : Int) := by omega
        have cic : (i : Int) + 1 ≤ (c : Int) := by omega
        obtain ⟨b', off', e, x0⟩ := CE.out ci
        injection e with e
        cases e
        have g1 : decide ((v : Int) ≤ (n : Int)) = decide (v ≤ n) := by rw [decide_eq_decide]; omega
        have g2 : decide (i + 1 < q ∧ v ≤ n) = decide (v ≤ n) := by rw [decide_eq_decide]; omega
        go_wp2_with fail
        go_meet
        exact ⟨by rw [g2], rfl⟩
      · have ci' : ¬ ((i : Int) + 1 < (q : Int)) := by omega
        have g2 : decide (i + 1 < q ∧ v ≤ n) = false := by simp; omega
        go_wp2_with fail
        go_meet
        exact ⟨by rw [g2], rfl⟩
    case rest =>
    obtain ⟨rfl, hw⟩ := hcut
    have hw2 := hw.symm
    subst hw2
    by_cases cv : i + 1 < q ∧ v ≤ n
    · rw [decide_eq_true cv]
      go_wp2_with fail
      go_roundw
      case rel => exact ⟨i + 1, by go_num, by omega, by first | rfl | trivial, NX.out cv.2⟩
      case measure => simp [intOf]; omega
    · rw [decide_eq_false cv]
      have GN := Lib.hid (ST.out (by omega))
      clear ST NX CE cv
      by_cases hz : i = 0
      · subst hz
        have XE := Lib.hid (show R = ⟨0, L, S⟩ by rw [← HR.out]; unfold trmK; rw [if_pos GN.out])
        go_wp2_with fail
        go_ret
        rw [XE.out]
        exact ⟨rfl, L.gn, .inl rfl, HH.out.stay (Below.refl _ _)⟩
      · have hz' : ¬ ((i : Int) = 0) := by omega
        have hiq : i < L.st.length := by rw [HQ.out]; omega
        have HIQ := Lib.hid hiq
        have ic : (i : Int) ≤ (c : Int) := by omega
        have X1 := Lib.hid (fun (t : Nat × St) (ht : tel nm (L.st.drop i) S = t) (h1 : t.1 ≠ 0) => (show R = ⟨t.1, L.go (decide (t.1 = 9)), t.2⟩ by
          rw [← HR.out]; unfold trmK; rw [GN.out, if_neg hz, ht, if_pos h1]))
        have X2 := Lib.hid (fun (t : Nat × St) (ht : tel nm (L.st.drop i) S = t) (h1 : t.1 = 0) (u : Nat × St) (hu : dls nm (L.st.take i) t.2 = u) => (show R = ⟨u.1, (L.cut i).go (decide (u.1 = 9)), u.2⟩ by
          rw [← HR.out]; unfold trmK; rw [GN.out, if_neg hz, ht, if_neg (by omega), hu]))
        have CL := Lib.hid (fun W (hb : Below w.heap.size w W) => uclone_any W (some (shA b off c i)) (q - i) (c - i) (L.st.drop i) (by rw [List.length_drop, HQ.out]) ((HU.out.from_ (by rw [HQ.out]; exact hc)).below hb) (by intro h; cases h) (by omega))
        have e1 := fun W => run_toU b off q c i (by omega) W
        have e2 := fun W => run_fromU b off q c i (by omega) W
        have C3 := Lib.hid (fun W (hb : Below w.heap.size w W) => (show W.cell? ⟨g, 3, none⟩ = some (.slice (some ⟨b, off, none⟩) q c) from by rw [(HH.out.below hb).c3, HSV.out, HQ.out]))
        clear hz
        go_wp2_with fail
        go_upto_region 6 with fail
        go_cut [6, 7] from 36 to 48 (fun s t w' => s = .slice (some ⟨b, off, none⟩) i c ∧ Hid (OwnU w' t (L.st.drop i) ∧ (∀ x, t.ownBlock = some x → w.heap.size ≤ x) ∧ Below w.heap.size w w'))
        case first =>
          go_region_law (go_simp; go_at_call 45; refine (CL.out _ (below_drewN _ _ _)).mono ?_; rintro e wq ⟨v1, rfl, o1, n1, b1⟩; have BQ := Lib.hid ((below_drewN w.heap.size w 1).trans b1); have c3q := C3.out _ BQ.out; have RES := Lib.hid (And.intro o1 (And.intro n1 BQ.out)); clear o1 n1 b1)
          all_goals
            go_wp2_with fail
            go_meet
            exact ⟨rfl, RES⟩
        case rest =>
        obtain ⟨rfl, HC⟩ := hcut
        obtain ⟨w2, hw2⟩ : ∃ w2, w2 = wc := ⟨_, rfl⟩
        subst hw2
        obtain ⟨o2, n2, b2⟩ := HC.out
        obtain ⟨A1, c1, hv1, hu1, hc1, hz1, hx1⟩ := o2.form
        subst hv1
        have NL : Hid ((L.st.drop i).length = q - i) := Lib.hid (by rw [List.length_drop, HQ.out])
        obtain ⟨tn, tS, hT⟩ : ∃ tn tS, tel nm (L.st.drop i) S = (tn, tS) := ⟨_, _, rfl⟩
        have TT := Lib.hid hT
        have TE := Lib.hid (tell_any (HH.out.below b2) A1 (L.st.drop i).length c1 (L.st.drop i) rfl (by rw [NL.out]; omega) hu1 hc1 (fun x hx => by have := SM.out x (List.mem_of_mem_drop hx); omega))
        rw [hT] at TE
        have O2 := Lib.hid o2
        have N2 := Lib.hid n2
        have Y2 := Lib.hid b2
        have lq : (L.st.drop i).length ≤ 1002 := by rw [NL.out]; omega
        have lq1 : 1 ≤ (L.st.drop i).length := by rw [NL.out]; omega
        obtain ⟨nl1, hnl⟩ : ∃ nl1, (L.st.drop i).length = nl1 := ⟨_, rfl⟩
        rw [hnl] at TE O2 N2 lq lq1 hc1
        have NLL := Lib.hid hnl
        clear HC o2 n2 b2 hu1 hz1 hx1 hT CL e1 e2 C3
        rw [hnl]
        clear hnl
        go_wp2_with fail
        refine TE.out.mono ?_
        rintro e w5 ⟨bb, hb, rfl, V5, h5, k5, m5⟩
        have HB := Lib.hid hb
        have K5 : Hid (Keep (Mu d m V S.fs g rv) w w5) := Lib.hid ((Keep.of_below _ Y2.out).tr k5)
        have M5 : Hid (∀ x, Mu d m V5 tS.fs g rv x → Mu d m V S.fs g rv x ∨ w.heap.size ≤ x) := Lib.hid (fun x hx => (m5 x hx).imp id (fun e => Nat.le_trans Y2.out.size e))
        have O5 := Lib.hid (O2.out.same (fun k hk => k5.block k (O2.out.lt k hk) ((HH.out.below Y2.out).sM O2.out hk)))
        have H5 := Lib.hid h5
        clear hb k5 m5 h5 TE O2
        by_cases ct : tn = 0
        · subst ct
          have hbg : bb = L.gn := by
            rcases HB.out with h | h
            · exact h
            · exact absurd (show (0 : Nat) = 9 from h) (by decide)
          subst hbg
          have H5' : Hid (Lp B w5 d m V5 tS g nm most sv rv P L) := Lib.hid H5.out
          have X := Lib.hid (X2.out (0, tS) TT.out rfl)
          obtain ⟨a1, a2, a3⟩ := H5'.out.wf.at_ i HIQ.out
          have f1 := H5'.out.few
          obtain ⟨Ar, cr, hrv, hrq, hr1, hr2, hr3⟩ := H5'.out.rc.form
          obtain ⟨b1, o1, hA1, x1⟩ := O5.out.us 0 (by rw [NLL.out]; omega)
          subst hA1
          rw [Nat.add_zero, show (L.st.drop i).getD 0 0 = L.st.getD i 0 by rw [headD_get, head_drop]] at x1
          have XX1 := Lib.hid (fun W (hb : Below w5.heap.size w5 W) => (hb.cell (World.block_lt_of_cell? _ _ x1)).trans x1)
          have C45 := Lib.hid (fun W (hb : Below w5.heap.size w5 W) => (H5'.out.below hb).c4)
          have HRV := Lib.hid hrv
          have BS := Lib.hid (base_q H5'.out)
          have BS2 := Lib.hid (fun W (hb : Below w5.heap.size w5 W) => base_any (H5'.out.below hb))
          have e3 := fun W => run_fromS Ar L.rc.length cr (L.st.getD i 0 - L.bas) a2 W
          have RC := Lib.hid (fun W (hb : Below w5.heap.size w5 W) => rclone_any W P (if cr = L.st.getD i 0 - L.bas then Ar else Ar.map (·.add (L.st.getD i 0 - L.bas))) (L.rc.length - (L.st.getD i 0 - L.bas)) (cr - (L.st.getD i 0 - L.bas)) (L.rc.drop (L.st.getD i 0 - L.bas)) (by rw [List.length_drop]) ((hrq.from_ hr1).below hb) (from_none hr2) (by omega) (fun x hx => Nat.lt_of_lt_of_le (H5'.out.far x hx).2 hb.size))
          have GB := Lib.hid (fun W (hb : Below w5.heap.size w5 W) => (H5'.out.below hb).free 4)
          rw [hrv] at C45
          have wsub : IntKind.u64.wrap ((L.st.getD i 0 : Int) - (L.bas : Int)) = ((L.st.getD i 0 - L.bas : Nat) : Int) := by rw [IntKind.wrap_u64]; omega
          have CUT := Lib.hid (fun (w6 : World) (v6 : Value) (hb : Below w5.heap.size w5 w6) (ho : OwnP w6 P v6 (L.rc.drop (L.st.getD i 0 - L.bas))) (hn : ∀ x, v6.ownBlock = some x → w5.heap.size ≤ x) =>
            (H5'.out.below hb).cutTo i HIQ.out v6 (.slice (some ⟨b1, o1, none⟩) nl1 c1) ho (O5.out.same (fun k hk => hb.block k (O5.out.lt k hk))) (fun x e => ⟨Nat.le_trans H5'.out.bw (hn x e), fun hp => by have := (H5'.out.far x hp).2; have := hn x e; omega⟩))
          obtain ⟨si, hsi⟩ : ∃ si, L.st.getD i 0 = si := ⟨_, rfl⟩
          obtain ⟨bas, hbas⟩ : ∃ bas, L.bas = bas := ⟨_, rfl⟩
          obtain ⟨nr, hnr⟩ : ∃ nr, L.rc.length = nr := ⟨_, rfl⟩
          rw [hnr] at C45 a2 hr1
          rw [hsi, hbas, hnr] at e3 RC
          rw [hsi, hbas] at wsub CUT a1 a2
          rw [hbas] at BS BS2
          rw [hsi] at XX1
          obtain ⟨dd, hdd⟩ : ∃ dd, si - bas = dd := ⟨_, rfl⟩
          rw [hdd] at wsub e3 RC CUT a2
          obtain ⟨AQ, hAQ⟩ : ∃ AQ, (if cr = dd then Ar else Ar.map (·.add dd)) = AQ := ⟨_, rfl⟩
          rw [hAQ] at e3 RC
          clear hAQ
          obtain ⟨f11, f12, f13, f14⟩ := f1
          have si0 : (0 : Int) ≤ (si : Int) := by omega
          clear hrv hrq hr2 hr3 x1 hsi hbas hnr a3 f13 f14
          go_wp2_with fail
          go_upto_region 10 with fail
          go_cut [8] from 55 to 69 (fun s w' => s = .int .i64 0 ∧ Hid (∃ w6 v6, Below w5.heap.size w5 w6 ∧ OwnP w6 P v6 (L.rc.drop dd) ∧ (∀ x, v6.ownBlock = some x → w5.heap.size ≤ x) ∧ w' = w6.setCell ⟨g, 4, none⟩ v6))
          case first =>
            have x5 := XX1.out w5 (Below.refl _ _)
            have c45 := C45.out w5 (Below.refl _ _)
            have nl0 : (0 : Int) < (nl1 : Int) := by omega
            have nlN : 0 < nl1 := by omega
            have nlc : (0 : Int) < (c1 : Int) := by omega
            go_region_law (first
              | (go_simp; go_at_call 11; refine (BS2.out _ (below_drewN _ _ _)).mono ?_; rintro e wq ⟨rfl, rfl⟩)
              | (go_simp; go_at_call 78; refine (RC.out _ (below_drewN _ _ _)).mono ?_; rintro e w6 ⟨v6, rfl, o6, n6, b6⟩; have B6 := Lib.hid ((below_drewN w5.heap.size w5 1).trans b6); have c46 := C45.out _ B6.out; have f46 := GB.out _ B6.out; obtain ⟨A6, c6, hv6, g1, g2, g3, g4⟩ := o6.form; clear g1 g2 g3 g4; rw [List.length_drop] at hv6; have RES := Lib.hid (And.intro o6 n6); clear o6 n6 b6; rw [hv6] at RES ⊢; clear hv6)
              | (go_show; fail))
            all_goals
              go_wp2_with fail
              go_meet
              exact ⟨rfl, _, _, B6.out, RES.out.1, RES.out.2, rfl⟩
          case rest =>
          obtain ⟨rfl, HC2⟩ := hcut
          obtain ⟨w6, v6, b6, o6, n6, hw⟩ := HC2.out
          subst hw
          have Q7 := Lib.hid (CUT.out w6 v6 b6 o6 n6)
          have c36 := (H5'.out.below b6).c3
          have f36 := (H5'.out.below b6).free 3
          have glt6 := (H5'.out.below b6).glt
          have K7 : Hid (Keep (Mu d m V S.fs g rv) w ((w6.setCell ⟨g, 4, none⟩ v6).setCell ⟨g, 3, none⟩ (.slice (some ⟨b1, o1, none⟩) nl1 c1))) :=
            Lib.hid (K5.out.trans ((Keep.of_below (Mu d m V5 tS.fs g rv) b6).tr ((Keep.set _ _ ⟨g, 4, none⟩ _ (.inr (.inl rfl))).tr (Keep.set _ _ ⟨g, 3, none⟩ _ (.inr (.inl rfl))))) (fun k hk e => (M5.out k e).resolve_right (by omega)))
          have M7 : Hid (∀ x, Mu d m V5 tS.fs g v6 x → Mu d m V S.fs g rv x ∨ w.heap.size ≤ x) := Lib.hid (fun x hx => by
            rcases hx with e | e | e
            · exact M5.out x (.inl e)
            · exact M5.out x (.inr (.inl e))
            · have := n6 x e
              have := K5.out.size
              exact .inr (by omega))
          have OS7 : Hid (OwnU ((w6.setCell ⟨g, 4, none⟩ v6).setCell ⟨g, 3, none⟩ (.slice (some ⟨b1, o1, none⟩) nl1 c1)) sv L.st) := Lib.hid (H5'.out.st.same (fun k hk => by
            have hs := H5'.out.sM H5'.out.st hk
            have hkk := H5'.out.st.lt k hk
            have kg : k ≠ g := fun e => hs (.inr (.inl e))
            rw [← b6.block k hkk]
            exact (Below.heap_setCell _ _ _ _ (fun e => kg e)).trans (Below.heap_setCell _ _ _ _ (fun e => kg e))))
          obtain ⟨u, hU⟩ : ∃ u, dls nm (L.st.take i) tS = u := ⟨_, rfl⟩
          have UU := Lib.hid hU
          have X9 := Lib.hid (X.out u hU)
          clear b6 o6 n6 HC2 hU X
          go_wp2_with fail
          go_loopw [76] (fun s wr => ∃ (j : Nat) (Vj : ByteArray → Value) (Sj : St), s = .int .i64 j ∧ j ≤ i ∧ Hid (Lp B wr d m Vj Sj g nm most (.slice (some ⟨b1, o1, none⟩) nl1 c1) v6 P (L.cut i) ∧ Keep (Mu d m V S.fs g rv) w wr ∧ (∀ x, Mu d m Vj Sj.fs g v6 x → Mu d m V S.fs g rv x ∨ w.heap.size ≤ x) ∧ dls nm ((L.st.take i).drop j) Sj = u ∧ OwnU wr sv L.st)) (fun s _ => i - (intOf s).toNat)
          case atStart => exact ⟨0, V5, tS, rfl, Nat.zero_le _, Q7.out, K7.out, M7.out, by rw [List.drop_zero]; exact UU.out, OS7.out⟩
          case round =>
            obtain ⟨j, Vj, Sj, rfl, hj, HJ⟩ := hrel
            clear c36 f36 glt6
            by_cases cj : j < i
            · have cj' : (j : Int) < (i : Int) := by omega
              have cj0 : (0 : Int) ≤ (j : Int) := by omega
              have cjc : (j : Int) ≤ (c : Int) := by omega
              have hos := HJ.out.2.2.2.2
              have hos2 := hos
              rw [HSV.out] at hos
              obtain ⟨b', off', e, x0⟩ := hos.us j (by have := HIQ.out; omega)
              injection e with e
              cases e
              have SG := Lib.hid (seg_any HJ.out.1 (L.st.getD j 0) (by have := SM.out _ (getD_mem L.st j (by have := HIQ.out; omega)); omega))
              have DR := Lib.hid (fun W (hb : Below wr.heap.size wr W) => drop_any (HJ.out.1.below hb) (fS nm (L.st.getD j 0)) (fS_small HJ.out.1.cf.nm (by have := SM.out _ (getD_mem L.st j (by have := HIQ.out; omega)); omega)))
              have DD := Lib.hid (take_drop_cons L.st i j HIQ.out cj)
              obtain ⟨v, hv⟩ : ∃ v, L.st.getD j 0 = v := ⟨_, rfl⟩
              rw [hv] at x0 SG DR DD
              obtain ⟨nd, hnd⟩ : ∃ nd, drp Sj (fS nm v) = nd := ⟨_, rfl⟩
              obtain ⟨Sd, hSd⟩ : ∃ Sd, delS Sj (fS nm v) = Sd := ⟨_, rfl⟩
              have DL := Lib.hid HJ.out.2.2.2.1
              rw [DD.out] at DL
              have DL1 := Lib.hid (fun (hz : nd ≠ 0) => (show u = (nd, Sd) by rw [← DL.out]; show (if _ then _ else _) = _; rw [hnd, if_pos hz, hSd]))
              have DL2 := Lib.hid (fun (hz : nd = 0) => (show dls nm ((L.st.take i).drop (j + 1)) Sd = u by rw [← DL.out]; show _ = (if _ then _ else _); rw [hnd, if_neg (by omega), hSd]))
              rw [hnd, hSd] at DR
              have HOS := Lib.hid hos2
              clear hos hos2 hv hnd hSd DL
              go_wp2_with fail
              refine SG.out.mono ?_
              rintro e w8 ⟨rfl, b8⟩
              have B8 := Lib.hid b8
              clear b8 SG
              go_wp2_with fail
              refine (DR.out _ B8.out).mono ?_
              rintro e w9 ⟨rfl, V9, h9, k9, m9⟩
              have H9 := Lib.hid h9
              have K9 : Hid (Keep (Mu d m V S.fs g rv) w w9) := Lib.hid (HJ.out.2.1.trans ((Keep.of_below _ B8.out).tr k9) (fun k hk e => (HJ.out.2.2.1 k e).resolve_right (by omega)))
              have M9 : Hid (∀ x, Mu d m V9 Sd.fs g v6 x → Mu d m V S.fs g rv x ∨ w.heap.size ≤ x) := Lib.hid (fun x hx => by
                have s1 := HJ.out.2.1.size
                have s2 := B8.out.size
                rcases m9 x hx with h | h
                · exact HJ.out.2.2.1 x h
                · exact .inr (by omega))
              have O9 := Lib.hid (HOS.out.same (fun k hk => ((Keep.of_below _ B8.out).tr k9).block k (HOS.out.lt k hk) (HJ.out.1.sM HOS.out hk)))
              clear h9 k9 m9 DR
              by_cases cd : nd = 0
              · have cd' : (nd : Int) = 0 := by omega
                have DN := Lib.hid (DL2.out cd)
                clear DL1 DL2
                go_wp2_with fail
                go_roundw
                case rel => exact ⟨j + 1, V9, Sd, by go_num, by omega, H9.out, K9.out, M9.out, DN.out, O9.out⟩
                case measure => simp [intOf]; omega
              · have cd' : ¬ ((nd : Int) = 0) := by omega
                have DN := Lib.hid (DL1.out cd)
                clear DL1 DL2
                go_wp2_with fail
                go_ret
                rw [X9.out, DN.out]
                refine ⟨rfl, L.gn, ?_, V9, _, v6, P, H9.out, K9.out, M9.out, fun x hx => .inl hx⟩
                by_cases c9 : nd = 9
                · exact .inr c9
                · refine .inl ?_
                  rw [HG.out]
                  show false = decide _
                  rw [decide_eq_false c9]
            · obtain rfl : j = i := by omega
              have DL := Lib.hid HJ.out.2.2.2.1
              have e0 : (L.st.take j).drop j = [] := List.eq_nil_of_length_eq_zero (by rw [List.length_drop, List.length_take]; omega)
              rw [e0] at DL
              have DN := Lib.hid (show u = (0, Sj) from DL.out.symm)
              clear DL e0
              go_wp2_with fail
              go_ret
              rw [X9.out, DN.out]
              refine ⟨rfl, L.gn, .inl ?_, Vj, _, v6, P, HJ.out.1, HJ.out.2.1, HJ.out.2.2.1, fun x hx => .inl hx⟩
              rw [HG.out]
              rfl
        · have ct' : ¬ ((tn : Int) = 0) := by omega
          have X := Lib.hid (X1.out (tn, tS) TT.out ct)
          go_wp2_with fail
          go_ret
          rw [X.out]
          refine ⟨rfl, bb, ?_, V5, sv, rv, P, H5.out, K5.out, M5.out, fun x hx => .inl hx⟩
          by_cases c9 : tn = 9
          · exact .inr c9
          · refine .inl ?_
            rcases HB.out with h | h
            · rw [h, HG.out]
              show false = decide _
              rw [decide_eq_false c9]
            · exact absurd h c9
end
end Go.Proofs.YtcodihgjfhoepaaGreatDoor
