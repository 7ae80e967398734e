/- Contracts, joined: SgJ, SgK. -/
import Derived.Test.YtcodihgjfhoepaaGreatDoorSgI
/- A segment is read. -/
namespace Go.Proofs.YtcodihgjfhoepaaGreatDoor
open Go Go.RowKit Crc Pk
set_option maxRecDepth 20000

theorem sc_recs (n : Nat) : ∀ b, Rng b → ∀ r ∈ (sc n b).1, Rng r ∧ r.length ≤ 65536 := by
  induction n with
  | zero => intro b _ r hr; simp [sc] at hr
  | succ n ih =>
    intro b hb r hr
    by_cases h : fE b = 0
    · rw [sc_step n b h] at hr
      obtain ⟨_, h2, _, _, h5⟩ := fE_ok h
      rcases List.mem_cons.1 hr with rfl | hr
      · exact ⟨Rng.take (Rng.drop hb 8) _, by rw [h5]; exact h2⟩
      · exact ih _ (Rng.drop hb _) r hr
    · rw [sc_stop n b h] at hr; simp at hr
theorem scan_recs {b : List Int} (hb : Rng b) : ∀ r ∈ (scan b).1, Rng r ∧ r.length ≤ 65536 := sc_recs _ b hb
theorem sc_count (n : Nat) : ∀ b : List Int, (sc n b).1.length ≤ b.length ∧ (sc n b).2 ≤ b.length := by
  induction n with
  | zero => intro b; simp [sc]
  | succ n ih =>
    intro b
    by_cases h : fE b = 0
    · rw [sc_step n b h]
      obtain ⟨_, _, h3, _⟩ := fE_ok h
      have := ih (b.drop (8 + nm b))
      rw [List.length_drop] at this
      simp only [List.length_cons]
      omega
    · rw [sc_stop n b h]; simp
theorem scan_count (b : List Int) : (scan b).1.length ≤ b.length ∧ (scan b).2 ≤ b.length := sc_count _ b
def rd2 (nm : ByteArray) (L : Lg) (S : St) (i : Nat) (rs : List (List Int)) (en : Nat) : Rs3 :=
  if (old S (fS nm (L.st.getD i 0))).sf < en ∧ synE S (fS nm (L.st.getD i 0)) ≠ 0 then ⟨synE S (fS nm (L.st.getD i 0)), L.go true, synS S (fS nm (L.st.getD i 0))⟩ else
  ⟨0, ⟨L.st, L.rc ++ rs, en, L.sf, L.gn⟩, if (old S (fS nm (L.st.getD i 0))).sf < en then synS S (fS nm (L.st.getD i 0)) else S⟩
def rd1 (nm : ByteArray) (L : Lg) (S : St) (i : Nat) : Rs3 :=
  if fitB L.st i (scan (old S (fS nm (L.st.getD i 0))).bs).1.length (decide ((scan (old S (fS nm (L.st.getD i 0))).bs).2 < (old S (fS nm (L.st.getD i 0))).bs.length)) = false then ⟨2, L, S⟩ else
  if (scan (old S (fS nm (L.st.getD i 0))).bs).2 < (old S (fS nm (L.st.getD i 0))).bs.length ∧ truE S (fS nm (L.st.getD i 0)) ((scan (old S (fS nm (L.st.getD i 0))).bs).2 : Int) ≠ 0 then
    ⟨truE S (fS nm (L.st.getD i 0)) ((scan (old S (fS nm (L.st.getD i 0))).bs).2 : Int), L, truS S (fS nm (L.st.getD i 0)) ((scan (old S (fS nm (L.st.getD i 0))).bs).2 : Int)⟩ else
  rd2 nm L (if (scan (old S (fS nm (L.st.getD i 0))).bs).2 < (old S (fS nm (L.st.getD i 0))).bs.length then truS S (fS nm (L.st.getD i 0)) ((scan (old S (fS nm (L.st.getD i 0))).bs).2 : Int) else S) i
    (scan (old S (fS nm (L.st.getD i 0))).bs).1 (scan (old S (fS nm (L.st.getD i 0))).bs).2
section
variable {B : Nat} {w w' : World} {d m : Nat} {V V' : ByteArray → Value} {S T : St} {g : Nat} {nm : ByteArray} {most : Nat} {sv rv sv' rv' : Value} {P P' : Nat → Prop} {L L' : Lg}
set_option maxHeartbeats 16000000 in
theorem read_seg (h : Lo Qo B w d m V S g nm most sv rv P L) (hu : S.up = true) (hrm : S.room ≤ 20000) (hup : L.st.Pairwise (· < ·)) (hrc : L.rc.length ≤ 20000) (i : Nat) (hi : i < L.st.length) (R : Rs3) (hR : rd1 nm L S i = R) :
    Calls Tryz.prog 72 #[ptr g, .int .i64 (i : Int)] w (FO B w d m V S g nm most rv P R.e R.s R.l) := by
  have c3 := h.c3
  obtain ⟨A, c, hsv, hu0, hcp, hz, hx⟩ := h.st.form
  obtain ⟨b, off, rfl, x0⟩ := hu0 i hi
  rw [hsv] at c3
  have v0 := h.wf.nums _ (getD_mem L.st i hi)
  have HH := Lib.hid h
  have SG := Lib.hid (seg_any h (L.st.getD i 0) (by omega))
  have FSZ := fS_small (n := L.st.getD i 0) h.cf.nm (by omega)
  have RD := Lib.hid (fun (W : World) (hb : Below w.heap.size w W) => read_o (h.below hb).dk (fS nm (L.st.getD i 0)) (big_of FSZ (by omega)) hu)
  have hok := (old_ok h.dk.ok (fS nm (L.st.getD i 0)))
  have FT := Lib.hid (fun (W : World) (hb : Below w.heap.size w W) (cnt : Nat) (hc : cnt ≤ 100000) (mo : Bool) => fits_any (h.below hb) h.wf.nums hup i cnt hi h.wf.len hc mo)
  have SCN := Lib.hid (fun (W : World) (hb : Below w.heap.size w W) (a : Option Addr) (cap : Nat) (hy : Byt W a (old S (fS nm (L.st.getD i 0))).bs) (hc : (old S (fS nm (L.st.getD i 0))).bs.length ≤ cap) => scan_any a (old S (fS nm (L.st.getD i 0))).bs.length cap _ W rfl (by omega) hc hy (h.tb.up hb).crc)
  have TRU := Lib.hid (fun (W : World) (hb : Below w.heap.size w W) (k : Int) => truncate_any (h.below hb).dk (fS nm (L.st.getD i 0)) k (big_of FSZ (by omega)))
  have RR := Lib.hid (scan_recs hok.1)
  have CC := scan_count (old S (fS nm (L.st.getD i 0))).bs
  have QN := Lib.hid (fun (z : Nat) => (show Qo ⟨L.st, L.rc ++ (scan (old S (fS nm (L.st.getD i 0))).bs).1, z, L.sf, L.gn⟩ from ⟨h.wf.nums, h.wf.len, fun r hr => by
    rcases List.mem_append.1 hr with e | e
    · exact h.wf.recs r e
    · exact RR.out r e, by show (L.rc ++ _).length ≤ 50000; rw [List.length_append]; omega⟩))
  have RNG := Lib.hid hok.1
  have R1 := Lib.hid (show (if fitB L.st i (scan (old S (fS nm (L.st.getD i 0))).bs).1.length (decide ((scan (old S (fS nm (L.st.getD i 0))).bs).2 < (old S (fS nm (L.st.getD i 0))).bs.length)) = false then (⟨2, L, S⟩ : Rs3) else
    if (scan (old S (fS nm (L.st.getD i 0))).bs).2 < (old S (fS nm (L.st.getD i 0))).bs.length ∧ truE S (fS nm (L.st.getD i 0)) ((scan (old S (fS nm (L.st.getD i 0))).bs).2 : Int) ≠ 0 then
      ⟨truE S (fS nm (L.st.getD i 0)) ((scan (old S (fS nm (L.st.getD i 0))).bs).2 : Int), L, truS S (fS nm (L.st.getD i 0)) ((scan (old S (fS nm (L.st.getD i 0))).bs).2 : Int)⟩ else
    rd2 nm L (if (scan (old S (fS nm (L.st.getD i 0))).bs).2 < (old S (fS nm (L.st.getD i 0))).bs.length then truS S (fS nm (L.st.getD i 0)) ((scan (old S (fS nm (L.st.getD i 0))).bs).2 : Int) else S) i
      (scan (old S (fS nm (L.st.getD i 0))).bs).1 (scan (old S (fS nm (L.st.getD i 0))).bs).2) = R from hR)
  obtain ⟨bs, hbs⟩ : ∃ bs, (old S (fS nm (L.st.getD i 0))).bs = bs := ⟨_, rfl⟩
  rw [hbs] at RD hok SCN RR CC QN RNG R1
  obtain ⟨nb, hnb⟩ : ∃ nb, bs.length = nb := ⟨_, rfl⟩
  rw [hnb] at RD hok SCN CC R1
  obtain ⟨rs, hrs⟩ : ∃ rs, (scan bs).1 = rs := ⟨_, rfl⟩
  obtain ⟨en, hen⟩ : ∃ en, (scan bs).2 = en := ⟨_, rfl⟩
  rw [hrs, hen] at SCN CC R1
  rw [hrs] at RR QN
  obtain ⟨nr, hnr⟩ : ∃ nr, rs.length = nr := ⟨_, rfl⟩
  rw [hnr] at CC R1
  have NR := Lib.hid hnr
  have NB := Lib.hid hnb
  obtain ⟨q, hq⟩ : ∃ q, L.st.length = q := ⟨_, rfl⟩
  rw [hq] at c3 hcp hi
  obtain ⟨CC1, CC2⟩ := CC
  have RM : nb ≤ 20000 := by omega
  have RC := Lib.hid hrc
  have ci0 : (0 : Int) ≤ (i : Int) := by omega
  have ci1 : (i : Int) < (q : Int) := by omega
  have cic : (i : Int) ≤ (c : Int) := by omega
  obtain ⟨a, ha⟩ : ∃ a, L.st.getD i 0 = a := ⟨_, rfl⟩
  have AA := Lib.hid ha
  rw [ha] at x0 SG RD TRU R1 FSZ
  obtain ⟨f, hf⟩ : ∃ f, fS nm a = f := ⟨_, rfl⟩
  have FF := Lib.hid hf
  rw [hf] at SG RD TRU R1 FSZ
  clear h hsv hu0 hcp hz hx hup hok hbs hrs hen hnr hR hq ha hf hnb v0 hrc hrm hu
  go_enter Tryz.func72, Tryz.ntmps72
  go_wp2_with fail
  refine SG.out.mono ?_
  rintro e w1 ⟨rfl, b1⟩
  have B1 := Lib.hid b1
  have c01 := (HH.out.below b1).c0
  clear SG b1
  go_wp2_with fail
  refine (RD.out _ B1.out).mono ?_
  rintro e w2 ⟨A2, c2, e0, he0, rfl, o2, b2⟩
  have B2 := Lib.hid (B1.out.trans (b2.mono B1.out.size))
  have cap2 := Own.le o2 NB.out
  have SC := Lib.hid (SCN.out w2 B2.out A2 c2 (o2.byt RNG.out) cap2)
  clear RD SCN o2 b2
  go_upto_region 3 with fail
  go_cut [35] from 30 to 35 (fun s w' => s = .bool false ∧ w' = w2)
  case first =>
    rcases he0 with rfl | rfl
    · go_wp2_with fail
      go_meet
      exact ⟨rfl, rfl⟩
    · go_wp2_with fail
      go_meet
      exact ⟨rfl, rfl⟩
  case rest =>
  obtain ⟨rfl, hw⟩ := hcut
  have hw2 := hw.symm
  subst hw2
  go_wp2_with fail
  refine SC.out.mono ?_
  rintro e w3 ⟨v, rfl, o3, b3⟩
  have B3 := Lib.hid (B2.out.trans (b3.mono B2.out.size))
  obtain ⟨ox, on⟩ := o3.ownP (fun r hr => (RR.out r hr).1)
  have OX := Lib.hid ox
  have ON := Lib.hid on
  obtain ⟨A3, c3', hv, z1, z2, z3, z4⟩ := ox.form
  clear z1 z2 z3 z4
  subst hv
  rw [NR.out] at OX ON ⊢
  have RSZ : Hid (w.heap.size ≤ w2.heap.size ∧ w2.heap.size ≤ w3.heap.size) := Lib.hid ⟨B2.out.size, b3.size⟩
  clear o3 b3 SC ox on
  have wn : IntKind.u64.wrap (nr : Int) = (nr : Int) := by rw [IntKind.wrap_u64]; omega
  have en0 : (0 : Int) ≤ (en : Int) := by omega
  by_cases ce : en < nb
  · have ce' : ((en : Int) < (nb : Int)) := by omega
    have F3 := Lib.hid (FT.out w3 B3.out nr (by omega) true)
    rw [decide_eq_true ce] at R1
    obtain ⟨fb, hfb⟩ : ∃ fb, fitB L.st i nr true = fb := ⟨_, rfl⟩
    rw [hfb] at F3 R1
    clear FT hfb
    go_wp2_with fail
    refine F3.out.mono ?_
    rintro e w4 ⟨rfl, b4⟩
    have B4 := Lib.hid (B3.out.trans (b4.mono B3.out.size))
    have B34 := Lib.hid b4
    clear b4 F3
    cases fb
    · have RE : Hid (R = ⟨2, L, S⟩) := Lib.hid (by rw [← R1.out, if_pos rfl])
      go_wp2_with fail
      go_ret
      rw [RE.out]
      exact ⟨rfl, V, sv, rv, P, L, HH.out.below B4.out, Keep.of_below _ B4.out, fun x hx => .inl hx, fun x hx => .inl hx, fun h => by cases h⟩
    · rw [if_neg (by decide), if_pos ce] at R1
      have TR := Lib.hid (TRU.out w4 B4.out (en : Int))
      have H4 := Lib.hid (HH.out.below B4.out)
      have c04 := H4.out.c0
      obtain ⟨nt, hnt⟩ : ∃ nt, truE S f (en : Int) = nt := ⟨_, rfl⟩
      obtain ⟨S5, hS5⟩ : ∃ S5, truS S f (en : Int) = S5 := ⟨_, rfl⟩
      rw [hnt, hS5] at TR R1
      clear hnt hS5 TRU
      go_wp2_with fail
      refine TR.out.mono ?_
      intro e w5 ha
      obtain ⟨rfl, V5, h5, k5, m5⟩ := H4.out.acted ha
      have H5 := Lib.hid h5
      have K5 : Hid (Keep (Mu d m V S.fs g rv) w w5) := Lib.hid ((Keep.of_below _ B4.out).tr k5)
      have M5 : Hid (∀ x, Mu d m V5 S5.fs g rv x → Mu d m V S.fs g rv x ∨ w4.heap.size ≤ x) := Lib.hid m5
      have SZ5 : Hid (w.heap.size ≤ w4.heap.size ∧ w3.heap.size ≤ w4.heap.size ∧ w4.heap.size ≤ w5.heap.size) := Lib.hid ⟨B4.out.size, B34.out.size, k5.size⟩
      have O5 := Lib.hid (OX.out.keep ((Keep.of_below _ B34.out).tr k5) (fun x hx f => by have := HH.out.mlt x f; have := RSZ.out; omega) (fun x e f => by have := HH.out.mlt x f; have := ON.out x e; have := RSZ.out; omega))
      have OLT : Hid (∀ x, (Value.slice A3 nr c3').ownBlock = some x → x < w3.heap.size) := Lib.hid (OX.out.lt)
      clear h5 k5 m5 ha TR OX
      by_cases ct : nt = 0
      · subst ct
        have RE : Hid (R = rd2 nm L S5 i rs en) := Lib.hid (by rw [← R1.out, if_neg (by simp)])
        have c05 := H5.out.c0
        have SF := Lib.hid (safe_o H5.out.dk f (big_of FSZ (by omega)))
        have MS := Lib.hid (fun (W : World) (hb : Below w5.heap.size w5 W) => msafe_o (H5.out.below hb) f FSZ (H5.out.wf.go true))
        have RX := Lib.hid (show (if (old S5 f).sf < en ∧ synE S5 f ≠ 0 then (⟨synE S5 f, L.go true, synS S5 f⟩ : Rs3) else ⟨0, ⟨L.st, L.rc ++ rs, en, L.sf, L.gn⟩, if (old S5 f).sf < en then synS S5 f else S5⟩) = R by rw [RE.out]; unfold rd2; rw [AA.out, FF.out])
        obtain ⟨sf, hsf⟩ : ∃ sf, (old S5 f).sf = sf := ⟨_, rfl⟩
        obtain ⟨ns, hns⟩ : ∃ ns, synE S5 f = ns := ⟨_, rfl⟩
        obtain ⟨S6, hS6⟩ : ∃ S6, synS S5 f = S6 := ⟨_, rfl⟩
        rw [hsf] at SF RX
        rw [hns, hS6] at MS RX
        clear hsf hns hS6 RE
        go_wp2_with fail
        refine SF.out.mono ?_
        rintro e w5' ⟨rfl, hw5⟩
        subst hw5
        clear SF
        by_cases cs : sf < en
        · have cs' : ((sf : Int) < (en : Int)) := by omega
          rw [if_pos cs] at RX
          go_wp2_with fail
          refine (MS.out _ (Below.refl _ _)).mono ?_
          rintro e w6 ⟨rfl, V6, h6, k6, m6⟩
          have H6 := Lib.hid h6
          have K6 : Hid (Keep (Mu d m V S.fs g rv) w w6) := Lib.hid (K5.out.trans k6 (fun x hx e => (M5.out x e).resolve_right (by have := SZ5.out; omega)))
          have M6 : Hid (∀ x, Mu d m V6 S6.fs g rv x → Mu d m V S.fs g rv x ∨ w4.heap.size ≤ x) := Lib.hid (fun x hx => by
            have := SZ5.out
            rcases m6 x hx with h | h
            · exact M5.out x h
            · exact .inr (by omega))
          have SZ6 : Hid (w5.heap.size ≤ w6.heap.size) := Lib.hid k6.size
          have O6 := Lib.hid (O5.out.keep k6 (fun x hx f => by
            have := RSZ.out
            have := SZ5.out
            rcases M5.out x f with h | h
            · have := HH.out.mlt x h; omega
            · omega) (fun x e f => by
            have := RSZ.out
            have := SZ5.out
            have := OLT.out x e
            have := ON.out x e
            rcases M5.out x f with h | h
            · have := HH.out.mlt x h; omega
            · omega))
          clear h6 k6 m6 MS O5
          by_cases cn : ns = 0
          · subst cn
            rw [if_pos rfl] at H6
            have RE : Hid (R = ⟨0, ⟨L.st, L.rc ++ rs, en, L.sf, L.gn⟩, S6⟩) := Lib.hid (by rw [← RX.out, if_neg (by simp)])
            have SZK6 := SZ6
            have c46 := H6.out.c4
            have f46 := H6.out.free 4
            have gl6 := H6.out.glt
            obtain ⟨Aq, cq, hrv, hrq, hq1, hq2, hq3⟩ := O6.out.form
            have LN := Lib.hid (show L.rc.length + nr ≤ 100000 by have := RC.out; omega)
            have HNO : Hid (∀ x, P x ∨ (w2.heap.size ≤ x ∧ x < w3.heap.size) → rv.ownBlock ≠ some x) := Lib.hid (fun x hx e => by
              rcases hx with h | h
              · exact (H6.out.far x h).1 (.inr (.inr e))
              · have := HH.out.rc.lt x e
                have := RSZ.out
                omega)
            have RQ3 := Lib.hid hrq
            injection hrv with e1 e2 e3
            subst e1
            subst e3
            clear hrq hq1 hq2 hq3
            have ZZ : Hid (A3 = none → c3' = 0) := Lib.hid (by
              obtain ⟨A9, c9, h9, _, _, hz9, _⟩ := O6.out.form
              injection h9 with e1 e2 e3
              subst e1 e3
              exact hz9)
            clear e2
            go_wp2_with (at_builtin; refine wp_apprs _ rfl _ _ rfl P _ rv L.rc rfl H6.out.rc A3 nr c3' rs rfl NR.out RQ3.out ZZ.out LN.out HNO.out ?_; intro v7 w7 hO7 hg7 hw7; obtain ⟨A7, c7, hv7, z1, z2, z3, z4⟩ := hO7.form; clear z1 z2 z3 z4; have gb := ((Keep.grown (F := fun x => rv.ownBlock = some x) hg7 (fun k e => e)).block g gl6 (fun e => H6.out.rg e rfl)).trans H6.out.blk; have c47 := cell_in gb 4; have f47 := free_in gb 4; have c57 := cell_in gb 5; have f57 := free_in gb 5; have gl7 : g < w7.heap.size := (Array.getElem?_eq_some_iff.1 gb).1; rw [List.length_append, NR.out] at hv7; have HO7 := Lib.hid hO7; have HG7 := Lib.hid hg7; have HW7 := Lib.hid hw7; clear gb hO7 hg7 hw7; rw [hv7] at HO7 HW7 ⊢; clear hv7)
            go_ret
            have q := H6.out.addQ (.slice A7 (L.rc.length + nr) c7) HG7.out HW7.out (L.rc ++ rs) HO7.out (fun x hx => by
              rcases hx with h | h
              · exact .inl h
              · have h1 := SZ5.out
                have h2 := RSZ.out
                have h3 := SZK6.out
                exact .inr ⟨fun f => by
                  rcases M6.out x f with h4 | h4
                  · have := HH.out.mlt x h4; omega
                  · omega, by omega⟩) en (QN.out en)
            rw [RE.out]
            refine ⟨rfl, V6, sv, _, _, _, q, ?_, fun x hx => ?_, fun x hx => ?_, fun _ => rfl⟩
            · have k4 : Keep (Mu d m V6 S6.fs g rv) w6 w7 := Keep.grown HG7.out (fun k e => .inr (.inr e))
              exact K6.out.trans (k4.tr ((Keep.set _ _ ⟨g, 4, none⟩ _ (.inr (.inl rfl))).tr (Keep.set _ _ ⟨g, 5, none⟩ _ (.inr (.inl rfl))))) (fun x hx e => (M6.out x e).resolve_right (by have := SZ5.out; omega))
            · have s1 := SZ5.out
              have s2 := SZK6.out
              have up : ∀ y, Mu d m V6 S6.fs g rv y → Mu d m V S.fs g rv y ∨ w.heap.size ≤ y := fun y hy => (M6.out y hy).imp id (fun e => Nat.le_trans s1.1 e)
              rcases hx with e | e | e
              · exact up x (.inl e)
              · exact up x (.inr (.inl e))
              · rcases HW7.out with h1 | h1
                · rw [h1] at e; exact up x (.inr (.inr e))
                · rw [h1] at e; injection e with e; exact .inr (by omega)
            · rcases hx with h | h
              · exact .inl h
              · have := RSZ.out; exact .inr (by omega)
          · have cn' : ¬ ((ns : Int) = 0) := by omega
            rw [if_neg cn] at H6
            have RE : Hid (R = ⟨ns, L.go true, S6⟩) := Lib.hid (by rw [← RX.out, if_pos ⟨cs, cn⟩])
            go_wp2_with fail
            go_ret
            rw [RE.out]
            exact ⟨rfl, V6, sv, rv, P, _, H6.out, K6.out, fun x hx => (M6.out x hx).imp id (fun e => Nat.le_trans SZ5.out.1 e), fun x hx => .inl hx, fun h => absurd h cn⟩
        · have cs' : ¬ ((sf : Int) < (en : Int)) := by omega
          rw [if_neg cs, if_neg (fun h => cs h.1)] at RX
          have RE : Hid (R = ⟨0, ⟨L.st, L.rc ++ rs, en, L.sf, L.gn⟩, S5⟩) := Lib.hid RX.out.symm
          have SZK5 : Hid (w5.heap.size ≤ w5.heap.size) := Lib.hid (Nat.le_refl _)
          have c45 := H5.out.c4
          have f45 := H5.out.free 4
          have gl5 := H5.out.glt
          obtain ⟨Aq, cq, hrv, hrq, hq1, hq2, hq3⟩ := O5.out.form
          have LN := Lib.hid (show L.rc.length + nr ≤ 100000 by have := RC.out; omega)
          have HNO : Hid (∀ x, P x ∨ (w2.heap.size ≤ x ∧ x < w3.heap.size) → rv.ownBlock ≠ some x) := Lib.hid (fun x hx e => by
            rcases hx with h | h
            · exact (H5.out.far x h).1 (.inr (.inr e))
            · have := HH.out.rc.lt x e
              have := RSZ.out
              omega)
          have RQ3 := Lib.hid hrq
          injection hrv with e1 e2 e3
          subst e1
          subst e3
          clear hrq hq1 hq2 hq3
          have ZZ : Hid (A3 = none → c3' = 0) := Lib.hid (by
            obtain ⟨A9, c9, h9, _, _, hz9, _⟩ := O5.out.form
            injection h9 with e1 e2 e3
            subst e1 e3
            exact hz9)
          clear e2
          go_wp2_with (at_builtin; refine wp_apprs _ rfl _ _ rfl P _ rv L.rc rfl H5.out.rc A3 nr c3' rs rfl NR.out RQ3.out ZZ.out LN.out HNO.out ?_; intro v7 w7 hO7 hg7 hw7; obtain ⟨A7, c7, hv7, z1, z2, z3, z4⟩ := hO7.form; clear z1 z2 z3 z4; have gb := ((Keep.grown (F := fun x => rv.ownBlock = some x) hg7 (fun k e => e)).block g gl5 (fun e => H5.out.rg e rfl)).trans H5.out.blk; have c47 := cell_in gb 4; have f47 := free_in gb 4; have c57 := cell_in gb 5; have f57 := free_in gb 5; have gl7 : g < w7.heap.size := (Array.getElem?_eq_some_iff.1 gb).1; rw [List.length_append, NR.out] at hv7; have HO7 := Lib.hid hO7; have HG7 := Lib.hid hg7; have HW7 := Lib.hid hw7; clear gb hO7 hg7 hw7; rw [hv7] at HO7 HW7 ⊢; clear hv7)
          go_ret
          have q := H5.out.addQ (.slice A7 (L.rc.length + nr) c7) HG7.out HW7.out (L.rc ++ rs) HO7.out (fun x hx => by
            rcases hx with h | h
            · exact .inl h
            · have h1 := SZ5.out
              have h2 := RSZ.out
              have h3 := SZK5.out
              exact .inr ⟨fun f => by
                rcases M5.out x f with h4 | h4
                · have := HH.out.mlt x h4; omega
                · omega, by omega⟩) en (QN.out en)
          rw [RE.out]
          refine ⟨rfl, V5, sv, _, _, _, q, ?_, fun x hx => ?_, fun x hx => ?_, fun _ => rfl⟩
          · have k4 : Keep (Mu d m V5 S5.fs g rv) w5 w7 := Keep.grown HG7.out (fun k e => .inr (.inr e))
            exact K5.out.trans (k4.tr ((Keep.set _ _ ⟨g, 4, none⟩ _ (.inr (.inl rfl))).tr (Keep.set _ _ ⟨g, 5, none⟩ _ (.inr (.inl rfl))))) (fun x hx e => (M5.out x e).resolve_right (by have := SZ5.out; omega))
          · have s1 := SZ5.out
            have s2 := SZK5.out
            have up : ∀ y, Mu d m V5 S5.fs g rv y → Mu d m V S.fs g rv y ∨ w.heap.size ≤ y := fun y hy => (M5.out y hy).imp id (fun e => Nat.le_trans s1.1 e)
            rcases hx with e | e | e
            · exact up x (.inl e)
            · exact up x (.inr (.inl e))
            · rcases HW7.out with h1 | h1
              · rw [h1] at e; exact up x (.inr (.inr e))
              · rw [h1] at e; injection e with e; exact .inr (by omega)
          · rcases hx with h | h
            · exact .inl h
            · have := RSZ.out; exact .inr (by omega)
      · have ct' : ¬ ((nt : Int) = 0) := by omega
        have RE : Hid (R = ⟨nt, L, S5⟩) := Lib.hid (by rw [← R1.out, if_pos ⟨ce, ct⟩])
        go_wp2_with fail
        go_ret
        rw [RE.out]
        exact ⟨rfl, V5, sv, rv, P, L, H5.out, K5.out, fun x hx => (M5.out x hx).imp id (fun e => Nat.le_trans SZ5.out.1 e), fun x hx => .inl hx, fun h => absurd h ct⟩
  · have ce' : ¬ ((en : Int) < (nb : Int)) := by omega
    have F3 := Lib.hid (FT.out w3 B3.out nr (by omega) false)
    rw [decide_eq_false ce] at R1
    obtain ⟨fb, hfb⟩ : ∃ fb, fitB L.st i nr false = fb := ⟨_, rfl⟩
    rw [hfb] at F3 R1
    clear FT hfb
    go_wp2_with fail
    refine F3.out.mono ?_
    rintro e w4 ⟨rfl, b4⟩
    have B4 := Lib.hid (B3.out.trans (b4.mono B3.out.size))
    have B34 := Lib.hid b4
    clear b4 F3
    cases fb
    · have RE : Hid (R = ⟨2, L, S⟩) := Lib.hid (by rw [← R1.out, if_pos rfl])
      go_wp2_with fail
      go_ret
      rw [RE.out]
      exact ⟨rfl, V, sv, rv, P, L, HH.out.below B4.out, Keep.of_below _ B4.out, fun x hx => .inl hx, fun x hx => .inl hx, fun h => by cases h⟩
    · rw [if_neg (by decide), if_neg (fun h => ce h.1), if_neg ce] at R1
      have RE : Hid (R = rd2 nm L S i rs en) := Lib.hid R1.out.symm
      obtain ⟨w5, hw5⟩ : ∃ w5, w5 = w4 := ⟨_, rfl⟩
      subst hw5
      have H5 := Lib.hid (HH.out.below B4.out)
      have K5 : Hid (Keep (Mu d m V S.fs g rv) w w5) := Lib.hid (Keep.of_below _ B4.out)
      have M5 : Hid (∀ x, Mu d m V S.fs g rv x → Mu d m V S.fs g rv x ∨ w5.heap.size ≤ x) := Lib.hid (fun x hx => .inl hx)
      have SZ5 : Hid (w.heap.size ≤ w5.heap.size ∧ w3.heap.size ≤ w5.heap.size ∧ w5.heap.size ≤ w5.heap.size) := Lib.hid ⟨B4.out.size, B34.out.size, Nat.le_refl _⟩
      have O5 := Lib.hid (OX.out.keep (Keep.of_below (fun _ => False) B34.out) (fun x hx f => f) (fun x e f => f))
      have OLT : Hid (∀ x, (Value.slice A3 nr c3').ownBlock = some x → x < w3.heap.size) := Lib.hid (OX.out.lt)
      clear OX TRU
      have c05 := H5.out.c0
      have SF := Lib.hid (safe_o H5.out.dk f (big_of FSZ (by omega)))
      have MS := Lib.hid (fun (W : World) (hb : Below w5.heap.size w5 W) => msafe_o (H5.out.below hb) f FSZ (H5.out.wf.go true))
      have RX := Lib.hid (show (if (old S f).sf < en ∧ synE S f ≠ 0 then (⟨synE S f, L.go true, synS S f⟩ : Rs3) else ⟨0, ⟨L.st, L.rc ++ rs, en, L.sf, L.gn⟩, if (old S f).sf < en then synS S f else S⟩) = R by rw [RE.out]; unfold rd2; rw [AA.out, FF.out])
      obtain ⟨sf, hsf⟩ : ∃ sf, (old S f).sf = sf := ⟨_, rfl⟩
      obtain ⟨ns, hns⟩ : ∃ ns, synE S f = ns := ⟨_, rfl⟩
      obtain ⟨S6, hS6⟩ : ∃ S6, synS S f = S6 := ⟨_, rfl⟩
      rw [hsf] at SF RX
      rw [hns, hS6] at MS RX
      clear hsf hns hS6 RE
      go_wp2_with fail
      refine SF.out.mono ?_
      rintro e w5' ⟨rfl, hw5⟩
      subst hw5
      clear SF
      by_cases cs : sf < en
      · have cs' : ((sf : Int) < (en : Int)) := by omega
        rw [if_pos cs] at RX
        go_wp2_with fail
        refine (MS.out _ (Below.refl _ _)).mono ?_
        rintro e w6 ⟨rfl, V6, h6, k6, m6⟩
        have H6 := Lib.hid h6
        have K6 : Hid (Keep (Mu d m V S.fs g rv) w w6) := Lib.hid (K5.out.trans k6 (fun x hx e => (M5.out x e).resolve_right (by have := SZ5.out; omega)))
        have M6 : Hid (∀ x, Mu d m V6 S6.fs g rv x → Mu d m V S.fs g rv x ∨ w5.heap.size ≤ x) := Lib.hid (fun x hx => by
          have := SZ5.out
          rcases m6 x hx with h | h
          · exact M5.out x h
          · exact .inr (by omega))
        have SZ6 : Hid (w5.heap.size ≤ w6.heap.size) := Lib.hid k6.size
        have O6 := Lib.hid (O5.out.keep k6 (fun x hx f => by
          have := RSZ.out
          have := SZ5.out
          rcases M5.out x f with h | h
          · have := HH.out.mlt x h; omega
          · omega) (fun x e f => by
          have := RSZ.out
          have := SZ5.out
          have := OLT.out x e
          have := ON.out x e
          rcases M5.out x f with h | h
          · have := HH.out.mlt x h; omega
          · omega))
        clear h6 k6 m6 MS O5
        by_cases cn : ns = 0
        · subst cn
          rw [if_pos rfl] at H6
          have RE : Hid (R = ⟨0, ⟨L.st, L.rc ++ rs, en, L.sf, L.gn⟩, S6⟩) := Lib.hid (by rw [← RX.out, if_neg (by simp)])
          have SZK6 := SZ6
          have c46 := H6.out.c4
          have f46 := H6.out.free 4
          have gl6 := H6.out.glt
          obtain ⟨Aq, cq, hrv, hrq, hq1, hq2, hq3⟩ := O6.out.form
          have LN := Lib.hid (show L.rc.length + nr ≤ 100000 by have := RC.out; omega)
          have HNO : Hid (∀ x, P x ∨ (w2.heap.size ≤ x ∧ x < w3.heap.size) → rv.ownBlock ≠ some x) := Lib.hid (fun x hx e => by
            rcases hx with h | h
            · exact (H6.out.far x h).1 (.inr (.inr e))
            · have := HH.out.rc.lt x e
              have := RSZ.out
              omega)
          have RQ3 := Lib.hid hrq
          injection hrv with e1 e2 e3
          subst e1
          subst e3
          clear hrq hq1 hq2 hq3
          have ZZ : Hid (A3 = none → c3' = 0) := Lib.hid (by
            obtain ⟨A9, c9, h9, _, _, hz9, _⟩ := O6.out.form
            injection h9 with e1 e2 e3
            subst e1 e3
            exact hz9)
          clear e2
          go_wp2_with (at_builtin; refine wp_apprs _ rfl _ _ rfl P _ rv L.rc rfl H6.out.rc A3 nr c3' rs rfl NR.out RQ3.out ZZ.out LN.out HNO.out ?_; intro v7 w7 hO7 hg7 hw7; obtain ⟨A7, c7, hv7, z1, z2, z3, z4⟩ := hO7.form; clear z1 z2 z3 z4; have gb := ((Keep.grown (F := fun x => rv.ownBlock = some x) hg7 (fun k e => e)).block g gl6 (fun e => H6.out.rg e rfl)).trans H6.out.blk; have c47 := cell_in gb 4; have f47 := free_in gb 4; have c57 := cell_in gb 5; have f57 := free_in gb 5; have gl7 : g < w7.heap.size := (Array.getElem?_eq_some_iff.1 gb).1; rw [List.length_append, NR.out] at hv7; have HO7 := Lib.hid hO7; have HG7 := Lib.hid hg7; have HW7 := Lib.hid hw7; clear gb hO7 hg7 hw7; rw [hv7] at HO7 HW7 ⊢; clear hv7)
          go_ret
          have q := H6.out.addQ (.slice A7 (L.rc.length + nr) c7) HG7.out HW7.out (L.rc ++ rs) HO7.out (fun x hx => by
            rcases hx with h | h
            · exact .inl h
            · have h1 := SZ5.out
              have h2 := RSZ.out
              have h3 := SZK6.out
              exact .inr ⟨fun f => by
                rcases M6.out x f with h4 | h4
                · have := HH.out.mlt x h4; omega
                · omega, by omega⟩) en (QN.out en)
          rw [RE.out]
          refine ⟨rfl, V6, sv, _, _, _, q, ?_, fun x hx => ?_, fun x hx => ?_, fun _ => rfl⟩
          · have k4 : Keep (Mu d m V6 S6.fs g rv) w6 w7 := Keep.grown HG7.out (fun k e => .inr (.inr e))
            exact K6.out.trans (k4.tr ((Keep.set _ _ ⟨g, 4, none⟩ _ (.inr (.inl rfl))).tr (Keep.set _ _ ⟨g, 5, none⟩ _ (.inr (.inl rfl))))) (fun x hx e => (M6.out x e).resolve_right (by have := SZ5.out; omega))
          · have s1 := SZ5.out
            have s2 := SZK6.out
            have up : ∀ y, Mu d m V6 S6.fs g rv y → Mu d m V S.fs g rv y ∨ w.heap.size ≤ y := fun y hy => (M6.out y hy).imp id (fun e => Nat.le_trans s1.1 e)
            rcases hx with e | e | e
            · exact up x (.inl e)
            · exact up x (.inr (.inl e))
            · rcases HW7.out with h1 | h1
              · rw [h1] at e; exact up x (.inr (.inr e))
              · rw [h1] at e; injection e with e; exact .inr (by omega)
          · rcases hx with h | h
            · exact .inl h
            · have := RSZ.out; exact .inr (by omega)
        · have cn' : ¬ ((ns : Int) = 0) := by omega
          rw [if_neg cn] at H6
          have RE : Hid (R = ⟨ns, L.go true, S6⟩) := Lib.hid (by rw [← RX.out, if_pos ⟨cs, cn⟩])
          go_wp2_with fail
          go_ret
          rw [RE.out]
          exact ⟨rfl, V6, sv, rv, P, _, H6.out, K6.out, fun x hx => (M6.out x hx).imp id (fun e => Nat.le_trans SZ5.out.1 e), fun x hx => .inl hx, fun h => absurd h cn⟩
      · have cs' : ¬ ((sf : Int) < (en : Int)) := by omega
        rw [if_neg cs, if_neg (fun h => cs h.1)] at RX
        have RE : Hid (R = ⟨0, ⟨L.st, L.rc ++ rs, en, L.sf, L.gn⟩, S⟩) := Lib.hid RX.out.symm
        have SZK5 : Hid (w5.heap.size ≤ w5.heap.size) := Lib.hid (Nat.le_refl _)
        have c45 := H5.out.c4
        have f45 := H5.out.free 4
        have gl5 := H5.out.glt
        obtain ⟨Aq, cq, hrv, hrq, hq1, hq2, hq3⟩ := O5.out.form
        have LN := Lib.hid (show L.rc.length + nr ≤ 100000 by have := RC.out; omega)
        have HNO : Hid (∀ x, P x ∨ (w2.heap.size ≤ x ∧ x < w3.heap.size) → rv.ownBlock ≠ some x) := Lib.hid (fun x hx e => by
          rcases hx with h | h
          · exact (H5.out.far x h).1 (.inr (.inr e))
          · have := HH.out.rc.lt x e
            have := RSZ.out
            omega)
        have RQ3 := Lib.hid hrq
        injection hrv with e1 e2 e3
        subst e1
        subst e3
        clear hrq hq1 hq2 hq3
        have ZZ : Hid (A3 = none → c3' = 0) := Lib.hid (by
          obtain ⟨A9, c9, h9, _, _, hz9, _⟩ := O5.out.form
          injection h9 with e1 e2 e3
          subst e1 e3
          exact hz9)
        clear e2
        go_wp2_with (at_builtin; refine wp_apprs _ rfl _ _ rfl P _ rv L.rc rfl H5.out.rc A3 nr c3' rs rfl NR.out RQ3.out ZZ.out LN.out HNO.out ?_; intro v7 w7 hO7 hg7 hw7; obtain ⟨A7, c7, hv7, z1, z2, z3, z4⟩ := hO7.form; clear z1 z2 z3 z4; have gb := ((Keep.grown (F := fun x => rv.ownBlock = some x) hg7 (fun k e => e)).block g gl5 (fun e => H5.out.rg e rfl)).trans H5.out.blk; have c47 := cell_in gb 4; have f47 := free_in gb 4; have c57 := cell_in gb 5; have f57 := free_in gb 5; have gl7 : g < w7.heap.size := (Array.getElem?_eq_some_iff.1 gb).1; rw [List.length_append, NR.out] at hv7; have HO7 := Lib.hid hO7; have HG7 := Lib.hid hg7; have HW7 := Lib.hid hw7; clear gb hO7 hg7 hw7; rw [hv7] at HO7 HW7 ⊢; clear hv7)
        go_ret
        have q := H5.out.addQ (.slice A7 (L.rc.length + nr) c7) HG7.out HW7.out (L.rc ++ rs) HO7.out (fun x hx => by
          rcases hx with h | h
          · exact .inl h
          · have h1 := SZ5.out
            have h2 := RSZ.out
            have h3 := SZK5.out
            exact .inr ⟨fun f => by
              rcases M5.out x f with h4 | h4
              · have := HH.out.mlt x h4; omega
              · omega, by omega⟩) en (QN.out en)
        rw [RE.out]
        refine ⟨rfl, V, sv, _, _, _, q, ?_, fun x hx => ?_, fun x hx => ?_, fun _ => rfl⟩
        · have k4 : Keep (Mu d m V S.fs g rv) w5 w7 := Keep.grown HG7.out (fun k e => .inr (.inr e))
          exact K5.out.trans (k4.tr ((Keep.set _ _ ⟨g, 4, none⟩ _ (.inr (.inl rfl))).tr (Keep.set _ _ ⟨g, 5, none⟩ _ (.inr (.inl rfl))))) (fun x hx e => (M5.out x e).resolve_right (by have := SZ5.out; omega))
        · have s1 := SZ5.out
          have s2 := SZK5.out
          have up : ∀ y, Mu d m V S.fs g rv y → Mu d m V S.fs g rv y ∨ w.heap.size ≤ y := fun y hy => (M5.out y hy).imp id (fun e => Nat.le_trans s1.1 e)
          rcases hx with e | e | e
          · exact up x (.inl e)
          · exact up x (.inr (.inl e))
          · rcases HW7.out with h1 | h1
            · rw [h1] at e; exact up x (.inr (.inr e))
            · rw [h1] at e; injection e with e; exact .inr (by omega)
        · rcases hx with h | h
          · exact .inl h
          · have := RSZ.out; exact .inr (by omega)
end
end Go.Proofs.YtcodihgjfhoepaaGreatDoor

/- All segments are read. -/
namespace Go.Proofs.YtcodihgjfhoepaaGreatDoor
open Go Go.RowKit Crc Pk
set_option maxRecDepth 20000

def rdsF (nm : ByteArray) : Nat → Nat → Lg → St → Rs3
  | 0, _, L, S => ⟨0, L, S⟩
  | k + 1, i, L, S => if (rd1 nm L S i).e ≠ 0 then rd1 nm L S i else rdsF nm k (i + 1) (rd1 nm L S i).l (rd1 nm L S i).s
def rdsL (nm : ByteArray) (L : Lg) (S : St) : Rs3 :=
  if (rdsF nm L.st.length 0 L S).e ≠ 0 then rdsF nm L.st.length 0 L S else
  ⟨0, ⟨(rdsF nm L.st.length 0 L S).l.st, (rdsF nm L.st.length 0 L S).l.rc, (rdsF nm L.st.length 0 L S).l.sz, (rdsF nm L.st.length 0 L S).l.fin, (rdsF nm L.st.length 0 L S).l.gn⟩, (rdsF nm L.st.length 0 L S).s⟩
theorem goes_up {S : St} (h : goes S = true) : (begun S).up = true := by
  unfold goes at h
  simp only [Bool.and_eq_true, Bool.not_eq_true'] at h
  rw [begun_up h.1]
  unfold tick
  split
  · rename_i hl
    split
    · rename_i h0
      have : cutOff S = true := by unfold cutOff; rw [hl, decide_eq_true h0]; rfl
      rw [this] at h; exact absurd h.2 (by decide)
    · exact h.1
  · exact h.1
theorem tru_up {S : St} {f : ByteArray} {k : Int} (h : truE S f k = 0) : (truS S f k).up = true := by
  unfold truE at h
  split at h
  · rename_i hg
    have hu := goes_up hg
    unfold truS
    rw [if_pos hg]
    split
    · split
      · exact hu
      · exact hu
    · exact hu
  · cases h
theorem syn_up {S : St} {f : ByteArray} (h : synE S f = 0) : (synS S f).up = true := by
  unfold synE at h
  split at h
  · rename_i hg
    have hu := goes_up hg
    unfold synS
    rw [if_pos hg]
    split
    · exact hu
    · exact hu
  · cases h
theorem rd2_up {nm : ByteArray} {L : Lg} {S : St} {i : Nat} {rs : List (List Int)} {en : Nat} (h : (rd2 nm L S i rs en).e = 0) (hu : S.up = true) :
    (rd2 nm L S i rs en).s.up = true ∧ (rd2 nm L S i rs en).s.room = S.room ∧ (rd2 nm L S i rs en).l = ⟨L.st, L.rc ++ rs, en, L.sf, L.gn⟩ := by
  unfold rd2 at *
  split
  · rename_i c
    rw [if_pos c] at h
    exact absurd h c.2
  · rename_i c
    refine ⟨?_, ?_, rfl⟩
    · show (if _ then _ else _ : St).up = true
      split
      · rename_i c2
        exact syn_up (Decidable.not_not.1 (fun h2 => c ⟨c2, h2⟩))
      · exact hu
    · show (if _ then _ else _ : St).room = S.room
      split
      · exact syn_room _ _
      · rfl
theorem rd1_ok {nm : ByteArray} {L : Lg} {S : St} {i : Nat} (h : (rd1 nm L S i).e = 0) (hu : S.up = true) :
    (rd1 nm L S i).s.up = true ∧ (rd1 nm L S i).s.room = S.room ∧
    (rd1 nm L S i).l = ⟨L.st, L.rc ++ (scan (old S (fS nm (L.st.getD i 0))).bs).1, (scan (old S (fS nm (L.st.getD i 0))).bs).2, L.sf, L.gn⟩ ∧
    fitB L.st i (scan (old S (fS nm (L.st.getD i 0))).bs).1.length (decide ((scan (old S (fS nm (L.st.getD i 0))).bs).2 < (old S (fS nm (L.st.getD i 0))).bs.length)) = true := by
  unfold rd1 at *
  split
  · rename_i c
    rw [if_pos c] at h
    exact absurd (show (2 : Nat) = 0 from h) (by decide)
  · rename_i c
    rw [if_neg c] at h
    split
    · rename_i c2
      rw [if_pos c2] at h
      exact absurd h c2.2
    · rename_i c2
      rw [if_neg c2] at h
      have hu2 : (if (scan (old S (fS nm (L.st.getD i 0))).bs).2 < (old S (fS nm (L.st.getD i 0))).bs.length then truS S (fS nm (L.st.getD i 0)) ((scan (old S (fS nm (L.st.getD i 0))).bs).2 : Int) else S).up = true ∧
          (if (scan (old S (fS nm (L.st.getD i 0))).bs).2 < (old S (fS nm (L.st.getD i 0))).bs.length then truS S (fS nm (L.st.getD i 0)) ((scan (old S (fS nm (L.st.getD i 0))).bs).2 : Int) else S).room = S.room := by
        split
        · rename_i c3
          exact ⟨tru_up (Decidable.not_not.1 (fun h2 => c2 ⟨c3, h2⟩)), tru_room _ _ _⟩
        · exact ⟨hu, rfl⟩
      obtain ⟨a1, a2, a3⟩ := rd2_up h hu2.1
      exact ⟨a1, a2.trans hu2.2, a3, by simpa using c⟩
section
variable {B : Nat} {w w' : World} {d m : Nat} {V V' : ByteArray → Value} {S T : St} {g : Nat} {nm : ByteArray} {most : Nat} {sv rv sv' rv' : Value} {P P' : Nat → Prop} {L L' : Lg}
theorem Lo.to {Q Q' : Lg → Prop} (h : Lo Q B w d m V S g nm most sv rv P L) (hq : Q' L) : Lo Q' B w d m V S g nm most sv rv P L := ⟨h.dk, h.blk, h.st, h.rc, h.far, hq, h.cf, h.from_, h.tb, h.gl, h.bw⟩
set_option maxHeartbeats 8000000 in
theorem reads_any (h : Lo Qo B w d m V S g nm most sv rv P L) (hu : S.up = true) (hrm : S.room ≤ 20000) (hup : L.st.Pairwise (· < ·)) (hrc : L.rc = []) (hsf : L.sf = 0) (R : Rs3) (hR : rdsL nm L S = R) (hwf : R.e = 0 → Wf R.l) :
    Calls Tryz.prog 44 #[ptr g] w (FO B w d m V S g nm most rv P R.e R.s R.l) := by
  have c3 := h.c3
  obtain ⟨A, c, hsv, hu0, hcp, hz, hx⟩ := h.st.form
  rw [hsv] at c3
  have HH := Lib.hid h
  have HUP := Lib.hid hup
  obtain ⟨q, hq⟩ : ∃ q, L.st.length = q := ⟨_, rfl⟩
  obtain ⟨RF, hRF⟩ : ∃ RF, rdsF nm L.st.length 0 L S = RF := ⟨_, rfl⟩
  have R1 := Lib.hid (fun (hz : RF.e ≠ 0) => (show R = RF by rw [← hR]; unfold rdsL; rw [hRF, if_pos hz]))
  have R2 := Lib.hid (fun (hz : RF.e = 0) => (show R = ⟨0, ⟨RF.l.st, RF.l.rc, RF.l.sz, RF.l.fin, RF.l.gn⟩, RF.s⟩ by rw [← hR]; unfold rdsL; rw [hRF, if_neg (by omega)]))
  have HW := Lib.hid hwf
  rw [hq] at c3 hRF hcp
  have FF := Lib.hid hRF
  have QQ := Lib.hid hq
  have ln := h.wf.len
  rw [hq] at ln
  have US := Lib.hid hu
  have RM := Lib.hid hrm
  have RC0 := Lib.hid hrc
  have SF0 := Lib.hid hsf
  clear h hu hrm hup hrc hR hwf hsv hu0 hz hx hq hRF hsf
  go_enter Tryz.func44, Tryz.ntmps44
  go_wp2_with fail
  go_loopw [10] (fun s wr => ∃ (i : Nat) (Vi : ByteArray → Value) (Si : St) (svi rvi : Value) (Pi : Nat → Prop) (Li : Lg), s = .int .i64 i ∧ i ≤ q ∧ Hid (Lo Qo B wr d m Vi Si g nm most svi rvi Pi Li ∧ Keep (Mu d m V S.fs g rv) w wr ∧ (∀ x, Mu d m Vi Si.fs g rvi x → Mu d m V S.fs g rv x ∨ w.heap.size ≤ x) ∧ (∀ x, Pi x → P x ∨ w.heap.size ≤ x) ∧
    Li.st = L.st ∧ Li.sf = 0 ∧ (i < q → Li.rc.length ≤ L.st.getD i 0) ∧ Si.up = true ∧ Si.room ≤ 20000 ∧ rdsF nm (q - i) i Li Si = RF)) (fun s _ => q - (intOf s).toNat)
  case atStart => exact ⟨0, V, S, sv, rv, P, L, rfl, Nat.zero_le _, HH.out, Keep.refl _ _, fun x hx => .inl hx, fun x hx => .inl hx, rfl, SF0.out, fun _ => by rw [RC0.out]; exact Nat.zero_le _, US.out, RM.out, FF.out⟩
  case round =>
    obtain ⟨i, Vi, Si, svi, rvi, Pi, Li, rfl, hi, HJ⟩ := hrel
    obtain ⟨lo, kk, mm, pp, e1, e2, e3, e4, e5, e6⟩ := HJ.out
    by_cases ci : i < q
    · have ci' : (i : Int) < (q : Int) := by omega
      have v0 := HH.out.wf.nums _ (getD_mem L.st i (by rw [QQ.out]; exact ci))
      have e30 := e3 ci
      have RS := Lib.hid (read_seg lo e4 e5 (by rw [e1]; exact HUP.out) (by omega) i (by rw [e1, QQ.out]; exact ci) _ rfl)
      obtain ⟨k, hk⟩ : ∃ k, q - i = k + 1 := ⟨q - i - 1, by omega⟩
      rw [hk] at e6
      have N1 := Lib.hid (fun (hz : (rd1 nm Li Si i).e ≠ 0) => (show RF = rd1 nm Li Si i by rw [← e6]; show (if _ then _ else _) = _; rw [if_pos hz]))
      have N2 := Lib.hid (fun (hz : (rd1 nm Li Si i).e = 0) => (show rdsF nm (q - (i + 1)) (i + 1) (rd1 nm Li Si i).l (rd1 nm Li Si i).s = RF by rw [← e6, show q - (i + 1) = k by omega]; show _ = (if _ then _ else _); rw [if_neg (by omega)]))
      have OKK := Lib.hid (fun (hz : (rd1 nm Li Si i).e = 0) => rd1_ok hz e4)
      have UPI := Lib.hid (fun (hlt : i + 1 < q) => up_at HUP.out i (by rw [QQ.out]; exact hlt))
      obtain ⟨rr, hrr⟩ : ∃ rr, rd1 nm Li Si i = rr := ⟨_, rfl⟩
      rw [hrr] at RS N1 N2 OKK
      have KK := Lib.hid kk
      have MM := Lib.hid mm
      have PP := Lib.hid pp
      have E := Lib.hid (And.intro e1 (And.intro e2 (And.intro e30 e5)))
      clear lo kk mm pp e1 e2 e3 e30 e4 e5 e6 HJ hk hrr v0
      obtain ⟨re, rl, rs⟩ := rr
      simp only at RS N1 N2 OKK
      go_wp2_with fail
      refine RS.out.mono ?_
      rintro e w2 ⟨rfl, V2, sv2, rv2, P2, L2, l2, k2, m2, p2, z2⟩
      have L2H := Lib.hid l2
      have K2 : Hid (Keep (Mu d m V S.fs g rv) w w2) := Lib.hid (KK.out.trans k2 (fun x hx e => (MM.out x e).resolve_right (by omega)))
      have M2 : Hid (∀ x, Mu d m V2 rs.fs g rv2 x → Mu d m V S.fs g rv x ∨ w.heap.size ≤ x) := Lib.hid (fun x hx => by
        have := KK.out.size
        rcases m2 x hx with h | h
        · exact MM.out x h
        · exact .inr (by omega))
      have P2H : Hid (∀ x, P2 x → P x ∨ w.heap.size ≤ x) := Lib.hid (fun x hx => by
        have := KK.out.size
        rcases p2 x hx with h | h
        · exact PP.out x h
        · exact .inr (by omega))
      have Z2 := Lib.hid z2
      clear l2 k2 m2 p2 z2 RS
      by_cases cr : re = 0
      · subst cr
        have LE : L2 = rl := Z2.out rfl
        subst LE
        obtain ⟨o1, o2, o3, o4⟩ := OKK.out rfl
        have NN := Lib.hid (N2.out rfl)
        have ST : Hid (L2.st = L.st) := Lib.hid (by rw [o3]; exact E.out.1)
        have SF : Hid (L2.sf = 0) := Lib.hid (by rw [o3]; exact E.out.2.1)
        have LEN : Hid (i + 1 < q → L2.rc.length ≤ L.st.getD (i + 1) 0) := Lib.hid (fun hlt => by
          rw [o3]
          show (Li.rc ++ _).length ≤ _
          rw [List.length_append]
          unfold fitB at o4
          rw [if_neg (by rw [E.out.1, QQ.out]; omega), Bool.and_eq_true] at o4
          have h5 := of_decide_eq_true o4.2
          have g0 : Li.st.getD i 0 = L.st.getD i 0 := by rw [E.out.1]
          have g1 : Li.st.getD (i + 1) 0 = L.st.getD (i + 1) 0 := by rw [E.out.1]
          have h6 := E.out.2.2.1
          have h7 := UPI.out hlt
          omega)
        have UPS := Lib.hid o1
        have RMS : Hid (rs.room ≤ 20000) := Lib.hid (by rw [o2]; exact E.out.2.2.2)
        clear o1 o2 o3 o4 OKK N1 N2 Z2
        go_wp2_with fail
        go_roundw
        case rel => exact ⟨i + 1, V2, rs, sv2, rv2, P2, L2, by go_num, by omega, L2H.out, K2.out, M2.out, P2H.out, ST.out, SF.out, LEN.out, UPS.out, RMS.out, NN.out⟩
        case measure => simp [intOf]; omega
      · have cr' : ¬ ((re : Int) = 0) := by omega
        have RE := Lib.hid (R1.out (by rw [N1.out cr]; exact cr))
        have RE2 : Hid (R = ⟨re, rl, rs⟩) := Lib.hid (by rw [RE.out, N1.out cr])
        clear OKK N1 N2 Z2 RE
        go_wp2_with fail
        go_ret
        rw [RE2.out]
        exact ⟨rfl, V2, sv2, rv2, P2, L2, L2H.out, K2.out, M2.out, P2H.out, fun h => absurd h cr⟩
    · obtain rfl : i = q := by omega
      rw [Nat.sub_self] at e6
      have RFE : RF = ⟨0, Li, Si⟩ := e6.symm
      have RE : Hid (R = ⟨0, ⟨Li.st, Li.rc, Li.sz, Li.fin, Li.gn⟩, Si⟩) := Lib.hid (by rw [R2.out (by rw [RFE]), RFE])
      have WL : Wf ⟨Li.st, Li.rc, Li.sz, Li.fin, Li.gn⟩ := by have := HW.out (by rw [RE.out]); rw [RE.out] at this; exact this
      have WI : Wf Li := ⟨WL.ne, WL.up, WL.lst, WL.sz, by rw [e2]; exact Nat.zero_le _, WL.recs, WL.few⟩
      have LP := Lib.hid (lo.to (Q' := Wf) WI)
      have LOH := Lib.hid lo
      have EN := Lib.hid (end_any LP.out)
      have KK := Lib.hid kk
      have MM := Lib.hid mm
      have PP := Lib.hid pp
      have c6 := lo.c6
      have f6 := lo.free 6
      have gl := lo.glt
      have fw := WI.few
      have QF : Hid (Qo ⟨Li.st, Li.rc, Li.sz, Li.fin, Li.gn⟩) := Lib.hid ⟨lo.wf.nums, lo.wf.len, lo.wf.recs, lo.wf.many⟩
      obtain ⟨fin, hfin⟩ : ∃ fin, Li.fin = fin := ⟨_, rfl⟩
      rw [hfin] at EN RE QF fw
      have FIN := Lib.hid hfin
      clear lo kk mm pp e1 e2 e3 e4 e5 e6 HJ RFE WL WI hfin R1 R2
      go_wp2_with fail
      refine EN.out.mono ?_
      rintro e w3 ⟨rfl, jj, rfl⟩
      go_wp2_with fail
      go_ret
      have H3 := LOH.out.below (below_drewN wr.heap.size wr jj)
      have hb1 := block_set (wr.drewN jj) g 6 (.int .u64 (fin : Int)) _ _ _ H3.blk
      have H4 := H3.turn (L' := ⟨Li.st, Li.rc, Li.sz, fin, Li.gn⟩) (Keep.set (fun x => x = g) _ ⟨g, 6, none⟩ (.int .u64 (fin : Int)) rfl) (by rw [hb1]; rfl) H3.st H3.rc H3.far QF.out (fun x e => H3.from_ x (.inr (.inr e)))
      rw [RE.out]
      exact ⟨rfl, Vi, svi, rvi, Pi, _, H4, KK.out.trans ((Keep.of_below (Mu d m Vi Si.fs g rvi) (below_drewN _ _ jj)).tr (Keep.set _ _ ⟨g, 6, none⟩ _ (.inr (.inl rfl)))) (fun x hx e => (MM.out x e).resolve_right (by omega)), MM.out, PP.out, fun _ => rfl⟩
end
end Go.Proofs.YtcodihgjfhoepaaGreatDoor
