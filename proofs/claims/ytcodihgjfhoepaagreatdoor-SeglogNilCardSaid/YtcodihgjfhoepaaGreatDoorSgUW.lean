/- Contracts, joined: SgU, SgW. -/
import Derived.Test.YtcodihgjfhoepaaGreatDoorSgL
import Derived.Test.YtcodihgjfhoepaaGreatDoorDkIn
/- A record is put. -/
namespace Go.Proofs.YtcodihgjfhoepaaGreatDoor
open Go Go.RowKit Crc Pk
set_option maxRecDepth 20000

theorem fin_app (L : Lg) (r : List Int) (z s : Nat) (b : Bool) (h : L.st ≠ []) : (⟨L.st, L.rc ++ [r], z, s, b⟩ : Lg).fin = L.fin + 1 := by
  show L.st.headD 0 + (L.rc ++ [r]).length = L.st.headD 0 + L.rc.length + 1
  rw [List.length_append]; rfl
theorem Wf.add {L : Lg} (h : Wf L) (r : List Int) (hr : Rng r) (hl : r.length ≤ 65536) (hf : L.fin < 1000) (b : Bool) : Wf ⟨L.st, L.rc ++ [r], L.sz + (8 + r.length), L.sf, b⟩ := by
  have e := fin_app L r (L.sz + (8 + r.length)) L.sf b h.ne
  have e2 : (⟨L.st, L.rc ++ [r], L.sz + (8 + r.length), L.sf, b⟩ : Lg).lst = L.lst := rfl
  have h1 := h.lst
  have h2 := h.sz
  have h3 := h.sf
  refine ⟨h.ne, h.up, ?_, ?_, ?_, fun x hx => ?_, ?_⟩
  · rw [e, e2]; omega
  · rw [e, e2]
    show L.sz + (8 + r.length) ≤ _
    omega
  · rw [e]
    show L.sf ≤ _
    omega
  · rcases List.mem_append.1 hx with e | e
    · exact h.recs x e
    · rw [List.mem_singleton.1 e]; exact ⟨hr, hl⟩
  · rw [e]; omega
section
variable {B : Nat} {w w' : World} {d m : Nat} {V V' : ByteArray → Value} {S T : St} {g : Nat} {nm : ByteArray} {most : Nat} {sv rv sv' rv' : Value} {P P' : Nat → Prop} {L L' : Lg}
/- what a call answers, the flag as it will be -/
def PA (B : Nat) (w : World) (d m : Nat) (V : ByteArray → Value) (S : St) (g : Nat) (nm : ByteArray) (most : Nat) (rv : Value) (P : Nat → Prop) (R : Rs3) (e : Ending) (w' : World) : Prop :=
  e = .returned (.int .i64 (R.e : Int)) ∧ ∃ b, (b = R.l.gn ∨ R.e = 9) ∧ Lstep B w d m V S g nm most rv P R.s (R.l.go b) w'
def putK (nm : ByteArray) (most : Nat) (L : Lg) (S : St) (r : List Int) : Rs3 :=
  if most ≤ L.sz then (if (begL nm L S).e ≠ 0 then begL nm L S else addL nm (begL nm L S).l (begL nm L S).s r) else addL nm L S r
theorem putL_is (nm : ByteArray) (most : Nat) (L : Lg) (S : St) (r : List Int) (h : L.gn = false) : putL nm most L S r = putK nm most L S r := by unfold putL putK; rw [if_neg (by rw [h]; decide)]
theorem LA.bel {w1 w2 : World} {n : Nat} {e : Ending} (hb : Below w.heap.size w w1) (h : LA B w1 d m V S g nm most sv rv P n T L' e w2) : LA B w d m V S g nm most sv rv P n T L' e w2 :=
  LAo.then_ (Keep.of_below _ hb) (fun x hx => .inl hx) h
/- the row of records grew, and the struct says so -/
theorem Lo.addTo {w4 w5 : World} (h : Lp B w4 d m V S g nm most sv rv P L) (v5 : Value) (hg : w4.grownBy w5 rv.ownBlock) (hv : v5.ownBlock = rv.ownBlock ∨ v5.ownBlock = some w4.heap.size)
    (M : List (List Int)) (hrc : OwnP w5 P' v5 M) (hP : ∀ x, P' x → P x ∨ (¬ Mu d m V S.fs g rv x ∧ x < w4.heap.size)) (z : Nat) (hwf : Wf ⟨L.st, M, z, L.sf, L.gn⟩) :
    Lp B ((w5.setCell ⟨g, 4, none⟩ v5).setCell ⟨g, 5, none⟩ (.int .i64 (z : Int))) d m V S g nm most sv v5 P' ⟨L.st, M, z, L.sf, L.gn⟩ := by
  have hsz : w4.heap.size ≤ w5.heap.size := hg.size
  have k1 : Keep (fun x => rv.ownBlock = some x) w4 w5 := Keep.grown hg (fun k e => e)
  have k2 : Keep (fun x => x = g) w5 ((w5.setCell ⟨g, 4, none⟩ v5).setCell ⟨g, 5, none⟩ (.int .i64 (z : Int))) := (Keep.set (fun x => x = g) _ ⟨g, 4, none⟩ _ rfl).tr (Keep.set (fun x => x = g) _ ⟨g, 5, none⟩ _ rfl)
  have kk : Keep (fun x => rv.ownBlock = some x ∨ x = g) w4 ((w5.setCell ⟨g, 4, none⟩ v5).setCell ⟨g, 5, none⟩ (.int .i64 (z : Int))) := (k1.wide (fun i _ e => .inl e)).tr (k2.wide (fun i _ e => .inr e))
  have hb5 : w5.heap[g]? = some (.cells (lcs d nm most sv rv L) 77 (0, 0)) := (k1.block g h.glt (fun e => h.rg e rfl)).trans h.blk
  have hb1 := block_set (w5.setCell ⟨g, 4, none⟩ v5) g 5 (.int .i64 (z : Int)) _ _ _ (block_set w5 g 4 v5 _ _ _ hb5)
  have fr : ∀ x, v5.ownBlock = some x → rv.ownBlock = some x ∨ w4.heap.size ≤ x := fun x e => by
    rcases hv with h1 | h1
    · rw [h1] at e; exact .inl e
    · rw [h1] at e; injection e with e; exact .inr (by omega)
  have nf : ∀ x, Mu d m V S.fs g v5 x → Mu d m V S.fs g rv x ∨ w4.heap.size ≤ x := fun x e => by
    rcases e with e | e | e
    · exact .inl (.inl e)
    · exact .inl (.inr (.inl e))
    · exact (fr x e).imp (fun e => .inr (.inr e)) id
  refine ⟨h.dk.keep kk (fun k hk e => ?_), ?_, h.st.same (fun k e => kk.block k (h.st.lt k e) (fun e1 => h.sM h.st e (e1.elim (fun e => .inr (.inr e)) (fun e => .inr (.inl e))))), hrc.keep k2 (fun x hx e => ?_) (fun x e e1 => ?_), fun x hx => ⟨fun e => ?_, ?_⟩, hwf, h.cf, fun x hx => ?_, h.tb.keep kk (fun x e => Nat.le_trans h.gl (h.from_ x (e.elim (fun e => .inr (.inr e)) (fun e => .inr (.inl e))))), h.gl, Nat.le_trans h.bw kk.size⟩
  · rcases e with e | e
    · exact h.rd e hk
    · exact h.gd (e ▸ hk)
  · rw [hb1]; rfl
  · rcases hP x hx with h1 | h1
    · exact (h.far x h1).1 (.inr (.inl e))
    · exact h1.1 (.inr (.inl e))
  · obtain ⟨c, e2⟩ := hrc.is e
    exact cells_ne e2 hb5 (by decide) e1
  · rcases nf x e with e | e
    · rcases hP x hx with h1 | h1
      · exact (h.far x h1).1 e
      · exact h1.1 e
    · rcases hP x hx with h1 | h1
      · have := (h.far x h1).2; omega
      · omega
  · have := kk.size
    rcases hP x hx with h1 | h1
    · have := (h.far x h1).2; omega
    · omega
  · rcases nf x hx with e | e
    · exact h.from_ x e
    · exact Nat.le_trans h.bw e
set_option maxHeartbeats 16000000 in
theorem put_log (h : Lp B w d m V S g nm most sv rv P L) (hgn : L.gn = false) (Ar : Option Addr) (n cr : Nat) (r : List Int) (hl : r.length = n) (hn : n ≤ 65536) (hb : Byt w Ar r) (hz : Ar = none → cr = 0) (hc : n ≤ cr)
    (hfar : ∀ x, Ar = some x → ¬ Mu d m V S.fs g rv x.block ∧ x.block < w.heap.size) (hf : L.fin < 1000) (R : Rs3) (hR : putK nm most L S r = R) :
    Calls Tryz.prog 48 #[ptr g, .slice Ar n cr] w (PA B w d m V S g nm most rv P R) := by
  have HR := Lib.hid hR
  have P1 := Lib.hid (put_ok none Ar 0 0 n cr [] r w rfl (by omega) (Byt.nil w) hl hn hb h.tb.crc)
  have HH := Lib.hid h
  have RB := Lib.hid hb
  have RF := Lib.hid hfar
  have RZ := Lib.hid hz
  have HL := Lib.hid hl
  have HF := Lib.hid hf
  have HG := Lib.hid hgn
  have w0 : IntKind.u64.wrap (n : Int) = (n : Int) := by rw [IntKind.wrap_u64]; omega
  clear h hb hfar hz hl hf hgn hR
  go_enter Tryz.func48, Tryz.ntmps48
  go_wp2_with fail
  refine P1.out.mono ?_
  rintro e w1 ⟨A2, T2, hT2, rfl, o1, y1, b1⟩
  rw [List.nil_append] at o1 y1
  have B1 := Lib.hid b1
  have H1 := Lib.hid (HH.out.below b1)
  have Y1 := Lib.hid y1
  have FR1 : Hid (∀ x, A2 = some x → w.heap.size ≤ x.block ∧ x.block < w1.heap.size) := Lib.hid (fun x e => by subst e; exact o1.lt x.block rfl)
  have FZ : Hid (A2 = none → T2 = 0) := Lib.hid (fun e => by subst e; exact Own.capz o1 rfl)
  have FL : Hid ((fr r).length = T2) := Lib.hid (by rw [fr_len, hT2, HL.out]; omega)
  have T8 : Hid (T2 = 8 + r.length) := Lib.hid (by rw [HL.out]; omega)
  have TB : T2 ≤ 70000 := by omega
  have R1 := Lib.hid (RB.out.below b1)
  have E1 := Lib.hid (end_any H1.out)
  obtain ⟨fin, hfin⟩ : ∃ fin, L.fin = fin := ⟨_, rfl⟩
  rw [hfin] at E1
  have hf1 : fin < 1000 := by rw [← hfin]; exact HF.out
  have hfm : ¬ ((fin : Int) = 18446744073709551615) := by omega
  have g2 : ((fin : Int) == 18446744073709551615) = false := by simp; omega
  have FF := Lib.hid hfin
  clear o1 y1 b1 hfin hT2 P1
  go_wp2_with fail
  refine E1.out.mono ?_
  rintro e w1' ⟨rfl, j1, rfl⟩
  have c2 := H1.out.c2
  have c5 := H1.out.c5
  clear E1
  by_cases cm : most ≤ L.sz
  · have cm' : ((most : Int) ≤ (L.sz : Int)) := by omega
    have hsz := H1.out.wf.sz
    have hlo := H1.out.cf.lo
    have hlt : L.lst < L.fin := by
      rcases Nat.lt_or_ge L.lst L.fin with e | e
      · exact e
      · have e2 : L.fin - L.lst = 0 := by omega
        rw [e2] at hsz; omega
    have BG := Lib.hid (fun W (hb : Below w1.heap.size w1 W) => begin_log (H1.out.below hb) hlt)
    have X1 := Lib.hid (fun (hz : (begL nm L S).e ≠ 0) => (show R = begL nm L S by rw [← HR.out]; unfold putK; rw [if_pos cm, if_pos hz]))
    have X2 := Lib.hid (fun (hz : (begL nm L S).e = 0) => (show R = addL nm (begL nm L S).l (begL nm L S).s r by rw [← HR.out]; unfold putK; rw [if_pos cm, if_neg (by omega)]))
    have BF := Lib.hid (begL_fin nm L S H1.out.wf.ne)
    have BN := Lib.hid (begL_gn nm L S HG.out)
    obtain ⟨sz, hsz'⟩ : ∃ sz, L.sz = sz := ⟨_, rfl⟩
    rw [hsz'] at c5 cm'
    have sz0 : (0 : Int) ≤ (sz : Int) := by omega
    clear hsz' cm hsz hlt
    obtain ⟨RR, hRR⟩ : ∃ RR, begL nm L S = RR := ⟨_, rfl⟩
    rw [hRR] at BG X1 X2 BF BN
    clear hRR
    obtain ⟨nb, Lb, Sb⟩ := RR
    simp only at BG X1 X2 BF BN
    go_wp2_with fail
    go_region
    have B2 := Lib.hid (below_drewN w1.heap.size w1 (j1 + 1))
    go_wp2_with fail
    refine (BG.out _ B2.out).mono ?_
    rintro e w2 ⟨b, hbb, hbt, rfl, V2, sv2, rv2, P2, h2, k2, m2, p2⟩
    have K2 : Hid (Keep (Mu d m V S.fs g rv) w w2) := Lib.hid (((Keep.of_below _ B1.out).tr (Keep.of_below _ (B2.out))).tr k2)
    have SZ : Hid (w.heap.size ≤ w1.heap.size ∧ w1.heap.size ≤ w2.heap.size) := Lib.hid ⟨B1.out.size, k2.size⟩
    have M2 : Hid (∀ x, Mu d m V2 Sb.fs g rv2 x → Mu d m V S.fs g rv x ∨ w1.heap.size ≤ x) := Lib.hid m2
    have PP2 : Hid (∀ x, P2 x → P x ∨ w.heap.size ≤ x) := Lib.hid (fun x hx => (p2 x hx).imp id (fun e => Nat.le_trans B1.out.size e))
    have BB := Lib.hid (BN.out b hbb hbt)
    have H2 := Lib.hid h2
    have FRM : Hid (∀ x, A2 = some x → ¬ Mu d m V S.fs g rv x.block) := Lib.hid (fun x e f => by have := FR1.out x e; have := HH.out.mlt _ f; omega)
    have Y2 := Lib.hid ((Y1.out.below B2.out).keep k2 FRM.out)
    have R2 := Lib.hid ((R1.out.below B2.out).keep k2 (fun x e => (RF.out x e).1))
    have FAR2 : Hid (∀ x, A2 = some x → ¬ Fp d m V2 Sb.fs x.block) := Lib.hid (fun x e f => by
      rcases M2.out x.block (.inl f) with h | h
      · exact FRM.out x e h
      · have := FR1.out x e; omega)
    have RF2 : Hid (∀ x, Ar = some x → ¬ Mu d m V2 Sb.fs g rv2 x.block) := Lib.hid (fun x e f => by
      rcases M2.out x.block f with h | h
      · exact (RF.out x e).1 h
      · have := (RF.out x e).2; have := B1.out.size; omega)
    clear h2 k2 m2 p2 hbb hbt BG BN
    by_cases cb : nb = 0
    · have hg2 : Lb.gn = false := by rw [BF.out.2 cb]; exact HG.out
      have hbg : b = Lb.gn := by
        rcases BB.out with h | h
        · exact h
        · rw [cb] at h; exact absurd h (by decide)
      subst hbg
      have hfb : Lb.fin < 1000 := by rw [BF.out.1]; exact HF.out
      have XE := Lib.hid (X2.out cb)
      subst cb
      have HX : Hid (Lp B w2 d m V2 Sb g nm most sv2 rv2 P2 Lb) := Lib.hid H2.out
      clear H2 BF X1 X2 BB
      have f4 := HX.out.few.2.2.2
      have LAST := Lib.hid (fun W' (hb : Below w2.heap.size w2 W') => last_any (HX.out.below hb))
      have APP := Lib.hid (fun W' (hb : Below w2.heap.size w2 W') => append_any (HX.out.below hb).dk (fS nm Lb.lst) (big_of (fS_small HX.out.cf.nm (by omega)) (by omega)) A2 T2 T2 (fr r) FL.out (Y2.out.below hb) FZ.out FAR2.out (Nat.le_refl _) (by omega))
      have ACT := Lib.hid (fun W' (hb : Below w2.heap.size w2 W') e w' (ha : Acted W' d m V2 Sb (appE Sb (fS nm Lb.lst) (fr r)) (appS Sb (fS nm Lb.lst) (fr r)) e w') =>
        LA.bel hb (show LA B W' d m V2 Sb g nm most sv2 rv2 P2 (appE Sb (fS nm Lb.lst) (fr r)) (appS Sb (fS nm Lb.lst) (fr r)) Lb e w' from (HX.out.below hb).acted ha))
      have XA := Lib.hid (fun (hz : appE Sb (fS nm Lb.lst) (fr r) ≠ 0) => (show addL nm Lb Sb r = ⟨appE Sb (fS nm Lb.lst) (fr r), Lb.go (decide (appE Sb (fS nm Lb.lst) (fr r) = 9)), appS Sb (fS nm Lb.lst) (fr r)⟩ by unfold addL; rw [if_pos hz]))
      have XB := Lib.hid (fun (hz : appE Sb (fS nm Lb.lst) (fr r) = 0) => (show addL nm Lb Sb r = ⟨0, ⟨Lb.st, Lb.rc ++ [r], Lb.sz + (8 + r.length), Lb.sf, Lb.gn⟩, appS Sb (fS nm Lb.lst) (fr r)⟩ by unfold addL; rw [if_neg (by omega)]))
      obtain ⟨na, hna⟩ : ∃ na, appE Sb (fS nm Lb.lst) (fr r) = na := ⟨_, rfl⟩
      obtain ⟨Sa, hSa⟩ : ∃ Sa, appS Sb (fS nm Lb.lst) (fr r) = Sa := ⟨_, rfl⟩
      rw [hna, hSa] at APP ACT XA XB
      clear hna hSa
      have c0 := HX.out.c0
      have HGB := Lib.hid hg2
      have HFB := Lib.hid hfb
      clear hg2 hfb
      obtain ⟨lst, hlst⟩ : ∃ lst, Lb.lst = lst := ⟨_, rfl⟩
      rw [hlst] at LAST APP
      clear hlst f4
      go_upto_region 10 with fail
      go_cut [8] from 34 to 41 (fun v wq => v = .int .i64 (na : Int) ∧ Hid (LA B w2 d m V2 Sb g nm most sv2 rv2 P2 na Sa Lb (.returned (.int .i64 (na : Int))) wq))
      case first =>
        go_region_law (first
          | (go_simp; go_at_call 76; refine (LAST.out _ (below_drewN _ _ _)).mono ?_; rintro e wq ⟨rfl, hq⟩; have HQ := Lib.hid ((below_drewN w2.heap.size w2 1).trans hq); have c0q := (HX.out.below HQ.out).c0; clear hq)
          | (go_simp; go_at_call 75; refine (APP.out _ HQ.out).mono ?_; intro e wr ha; have hres := ACT.out _ HQ.out e wr ha; have he := hres.1; subst he; have RES := Lib.hid hres; clear hres ha))
        all_goals
          go_wp2_with fail
          go_meet
          exact ⟨rfl, RES⟩
      case rest =>
      obtain ⟨rfl, HC⟩ := hcut
      obtain ⟨w3, hw3⟩ : ∃ w3, w3 = wc := ⟨_, rfl⟩
      subst hw3
      obtain ⟨_, V3, h3, k3, m3⟩ := HC.out
      have H3 := Lib.hid h3
      have K3 : Hid (Keep (Mu d m V S.fs g rv) w w3) := Lib.hid (K2.out.trans k3 (fun i hi e => by
        rcases M2.out i e with h | h
        · exact h
        · have := SZ.out; omega))
      have S3 : Hid (w2.heap.size ≤ w3.heap.size) := Lib.hid k3.size
      have M3 : Hid (∀ x, Mu d m V3 Sa.fs g rv2 x → Mu d m V S.fs g rv x ∨ w.heap.size ≤ x) := Lib.hid (fun x hx => by
        have := SZ.out
        rcases m3 x hx with h | h
        · rcases M2.out x h with h | h
          · exact .inl h
          · exact .inr (by omega)
        · exact .inr (by omega))
      have R3 := Lib.hid (R2.out.keep k3 RF2.out)
      clear h3 k3 m3 HC APP ACT LAST c0 HX Y2 FAR2
      by_cases ca : na = 0
      · subst ca
        have XX := Lib.hid (XB.out rfl)
        clear XA XB
        obtain ⟨Aq, cq, hrv, hrq, hq1, hq2, hq3⟩ := H3.out.rc.form
        have c43 := H3.out.c4
        have c53 := H3.out.c5
        have f53 := H3.out.free 5
        have glt := H3.out.glt
        have hsz3 := H3.out.wf.sz
        have hfew := H3.out.wf.few
        have CLN := Lib.hid (fun W' (hb : Below w3.heap.size w3 W') => bclone_any W' Ar n cr r HL.out (R3.out.below hb) RZ.out (by omega))
        have W3 := Lib.hid (H3.out.wf.add r RB.out.2 (by rw [HL.out]; exact hn) HFB.out Lb.gn)
        have RLEN : Hid (Lb.rc.length + 1 ≤ 100000) := Lib.hid (by have := H3.out.few.2.1; omega)
        obtain ⟨sz3, hsz'⟩ : ∃ sz3, Lb.sz = sz3 := ⟨_, rfl⟩
        rw [hsz'] at c53 hsz3
        have hz70 : sz3 ≤ 70000 * 1000 := Nat.le_trans hsz3 (Nat.mul_le_mul_left _ (by omega))
        have SZZ := Lib.hid hsz'
        clear hrv hrq hq1 hq2 hq3 hsz3 hsz'
        go_upto_region 13 with fail
        go_cut [8] from 45 to 55 (fun v wq => v = .int .i64 0 ∧ Hid (∃ w4 w5 v5 A4, Below w3.heap.size w3 w4 ∧ w4.grownBy w5 (rv2).ownBlock ∧ (v5.ownBlock = (rv2).ownBlock ∨ v5.ownBlock = some w4.heap.size) ∧ OwnP w5 (fun x => P2 x ∨ ∃ a : Addr, A4 = some a ∧ a.block = x) v5 (Lb.rc ++ [r]) ∧ (∀ x, A4 = some x → w3.heap.size ≤ x.block ∧ x.block < w4.heap.size) ∧ wq = w5.setCell ⟨g, 4, none⟩ v5))
        case first =>
          clear c53 f53
          go_region_law (first
            | (refine step_apprs _ (by rfl) (.tmp 49) (.tmp 52) (by rfl) P2 (fun x => ∃ a : Addr, A4 = some a ∧ a.block = x) rv2 Lb.rc (by rfl) RW.out (some ⟨w4.heap.size, 0, none⟩) 1 1 [r] (by rfl) rfl RO.out (by intro h; cases h) RLEN.out PV.out ?_; intro v5 w5 hO5 hg5 hw5; obtain ⟨A5, c5q, hv5, hv51, hv52, hv53, hv54⟩ := hO5.form; clear hv51 hv52 hv53 hv54; rw [List.length_append, List.length_singleton] at hv5; have gb : w5.heap[g]? = some (.cells (lcs d nm most sv2 rv2 Lb) 77 (0, 0)) := GB.out w5 hg5; have c45 := cell_in gb 4; have f45 := free_in gb 4; have RES := Lib.hid (And.intro hg5 (And.intro hw5 hO5)); clear hg5 hw5 hO5 gb; rw [hv5] at RES ⊢; clear hv5)
            | (go_simp; go_at_call 37; refine (CLN.out _ (below_drewN _ _ _)).mono ?_; rintro e w4 ⟨A4, c4, rfl, o4, b4⟩; have B4 := Lib.hid ((below_drewN w3.heap.size w3 1).trans b4); have LT4 : Hid (∀ x, A4 = some x → w3.heap.size ≤ x.block ∧ x.block < w4.heap.size) := Lib.hid (fun x e => by subst e; exact o4.lt x.block rfl); have RO := Lib.hid (RQ.one w4 (fun x => ∃ a : Addr, A4 = some a ∧ a.block = x) A4 r c4 (o4.byt RB.out.2) (fun e => by subst e; exact Own.capz o4 rfl) (fun x e => ⟨x, e, rfl⟩)); rw [HL.out] at RO; have BA := Lib.hid (B4.out.trans ((below_alloc w4 (.cells #[.slice A4 n c4] 29)).mono B4.out.size)); have RW := Lib.hid ((H3.out.below BA.out).rc); have PV : Hid (∀ x, P2 x ∨ (∃ a : Addr, A4 = some a ∧ a.block = x) → (rv2).ownBlock ≠ some x) := Lib.hid (fun x hx e => by rcases hx with h | ⟨a, h, rfl⟩; exact (H3.out.far x h).1 (.inr (.inr e)); have := (LT4.out a h).1; have := H3.out.rc.lt _ e; omega); have GB : Hid (∀ w5, (w4.alloc (.cells #[.slice A4 n c4] 29)).grownBy w5 (rv2).ownBlock → w5.heap[g]? = some (.cells (lcs d nm most sv2 rv2 Lb) 77 (0, 0))) := Lib.hid (fun w5 hg => ((Keep.grown (F := fun x => (rv2).ownBlock = some x) hg (fun k e => e)).block g (H3.out.below BA.out).glt (fun e => H3.out.rg e rfl)).trans (H3.out.below BA.out).blk); have c44 := (H3.out.below B4.out).c4; have c45q := (H3.out.below BA.out).c4; clear o4 b4))
          all_goals
            go_wp2_with fail
            go_meet
            exact ⟨rfl, _, w5, _, A4, BA.out, RES.out.1, RES.out.2.1, RES.out.2.2, fun x e => ⟨(LT4.out x e).1, Nat.lt_of_lt_of_le (LT4.out x e).2 (by simp)⟩, rfl⟩
        case rest =>
        obtain ⟨rfl, HC⟩ := hcut
        obtain ⟨w4, w5, v5, A4, bA, hg, hv, hO, hA, hw⟩ := HC.out
        subst hw
        have gb : w5.heap[g]? = some (.cells (lcs d nm most sv2 rv2 Lb) 77 (0, 0)) := ((Keep.grown (F := fun x => (rv2).ownBlock = some x) hg (fun k e => e)).block g (H3.out.below bA).glt (fun e => H3.out.rg e rfl)).trans (H3.out.below bA).blk
        have c55 : w5.cell? ⟨g, 5, none⟩ = some (.int .i64 (sz3 : Int)) := by rw [cell_in gb 5, ← SZZ.out]; rfl
        have f55 := free_in gb 5
        have glt5 : g < w5.heap.size := (Array.getElem?_eq_some_iff.1 gb).1
        have BAH := Lib.hid bA
        have HGH := Lib.hid hg
        have HVH := Lib.hid hv
        have HOH := Lib.hid hO
        have HAH := Lib.hid hA
        clear bA hg hv hO hA HC gb c43 c53 f53
        go_wp2_with fail
        go_ret
        have q := (H3.out.below BAH.out).addTo v5 HGH.out HVH.out (Lb.rc ++ [r]) HOH.out (fun x hx => by
          rcases hx with h | ⟨a, h, rfl⟩
          · exact .inl h
          · have h1 := HAH.out a h
            exact .inr ⟨fun f => by have := H3.out.mlt _ f; omega, h1.2⟩) (Lb.sz + (8 + r.length)) W3.out
        have hz : ((((Lb.sz + (8 + r.length) : Nat)) : Int)) = (sz3 : Int) + (T2 : Int) := by rw [SZZ.out, T8.out]; omega
        rw [hz] at q
        rw [XE.out, XX.out]
        refine ⟨rfl, Lb.gn, .inl rfl, V3, sv2, v5, _, q, ?_, fun x hx => ?_, fun x hx => ?_⟩
        · have k4 : Keep (Mu d m V3 Sa.fs g rv2) w3 w5 := (Keep.of_below _ BAH.out).tr (Keep.grown HGH.out (fun k e => .inr (.inr e)))
          exact K3.out.trans (k4.tr ((Keep.set _ _ ⟨g, 4, none⟩ _ (.inr (.inl rfl))).tr (Keep.set _ _ ⟨g, 5, none⟩ _ (.inr (.inl rfl))))) (fun i hi e => (M3.out i e).resolve_right (by omega))
        · have s1 := BAH.out.size
          have s2 := K3.out.size
          rcases hx with e | e | e
          · exact M3.out x (.inl e)
          · exact M3.out x (.inr (.inl e))
          · rcases HVH.out with h1 | h1
            · rw [h1] at e; exact M3.out x (.inr (.inr e))
            · rw [h1] at e; injection e with e; exact .inr (by omega)
        · rcases hx with h | ⟨a, h, rfl⟩
          · exact PP2.out x h
          · have := (HAH.out a h).1
            have := K3.out.size
            exact .inr (by omega)
      · have ca' : ¬ ((na : Int) = 0) := by omega
        have XX := Lib.hid (XA.out ca)
        go_wp2_with fail
        go_ret
        rw [XE.out, XX.out]
        refine ⟨rfl, Lb.gn, ?_, V3, sv2, rv2, P2, H3.out, K3.out, M3.out, PP2.out⟩
        by_cases c9 : na = 9
        · exact .inr c9
        · refine .inl ?_
          rw [HGB.out]
          show false = decide _
          rw [decide_eq_false c9]
    · have cb' : ¬ ((nb : Int) = 0) := by omega
      have XE := Lib.hid (X1.out cb)
      go_wp2_with fail
      go_ret
      rw [XE.out]
      exact ⟨rfl, b, BB.out, V2, sv2, rv2, P2, H2.out, K2.out, fun x hx => (M2.out x hx).imp id (fun e => Nat.le_trans SZ.out.1 e), PP2.out⟩
  · have cm' : ¬ ((most : Int) ≤ (L.sz : Int)) := by omega
    have XE := Lib.hid (show R = addL nm L S r by rw [← HR.out]; unfold putK; rw [if_neg cm])
    obtain ⟨sz, hsz'⟩ : ∃ sz, L.sz = sz := ⟨_, rfl⟩
    rw [hsz'] at c5 cm'
    have g1 : decide (most ≤ sz) = false := by simp; omega
    have g3 : decide ((most : Int) ≤ (sz : Int)) = false := by simp; omega
    clear hsz' cm
    have B2 := Lib.hid (below_drewN w1.heap.size w1 (j1 + 1))
    go_wp2_with fail
    go_region
    obtain ⟨w2, hw2⟩ : ∃ w2, w1.drewN (j1 + 1) = w2 := ⟨_, rfl⟩
    rw [hw2] at B2 ⊢
    have HX := Lib.hid (H1.out.below B2.out)
    have K2 : Hid (Keep (Mu d m V S.fs g rv) w w2) := Lib.hid ((Keep.of_below _ B1.out).tr (Keep.of_below _ B2.out))
    have SZ : Hid (w.heap.size ≤ w1.heap.size ∧ w1.heap.size ≤ w2.heap.size) := Lib.hid ⟨B1.out.size, B2.out.size⟩
    have M2 : Hid (∀ x, Mu d m V S.fs g rv x → Mu d m V S.fs g rv x ∨ w1.heap.size ≤ x) := Lib.hid (fun x hx => .inl hx)
    have PP2 : Hid (∀ x, P x → P x ∨ w.heap.size ≤ x) := Lib.hid (fun x hx => .inl hx)
    have FRM : Hid (∀ x, A2 = some x → ¬ Mu d m V S.fs g rv x.block) := Lib.hid (fun x e f => by have := FR1.out x e; have := HH.out.mlt _ f; omega)
    have Y2 := Lib.hid (Y1.out.below B2.out)
    have R2 := Lib.hid (R1.out.below B2.out)
    have FAR2 : Hid (∀ x, A2 = some x → ¬ Fp d m V S.fs x.block) := Lib.hid (fun x e f => FRM.out x e (.inl f))
    have RF2 : Hid (∀ x, Ar = some x → ¬ Mu d m V S.fs g rv x.block) := Lib.hid (fun x e => (RF.out x e).1)
    have hg2 := HG.out
    have hfb := HF.out
    clear hw2
    have f4 := HX.out.few.2.2.2
    have LAST := Lib.hid (fun W' (hb : Below w2.heap.size w2 W') => last_any (HX.out.below hb))
    have APP := Lib.hid (fun W' (hb : Below w2.heap.size w2 W') => append_any (HX.out.below hb).dk (fS nm L.lst) (big_of (fS_small HX.out.cf.nm (by omega)) (by omega)) A2 T2 T2 (fr r) FL.out (Y2.out.below hb) FZ.out FAR2.out (Nat.le_refl _) (by omega))
    have ACT := Lib.hid (fun W' (hb : Below w2.heap.size w2 W') e w' (ha : Acted W' d m V S (appE S (fS nm L.lst) (fr r)) (appS S (fS nm L.lst) (fr r)) e w') =>
      LA.bel hb (show LA B W' d m V S g nm most sv rv P (appE S (fS nm L.lst) (fr r)) (appS S (fS nm L.lst) (fr r)) L e w' from (HX.out.below hb).acted ha))
    have XA := Lib.hid (fun (hz : appE S (fS nm L.lst) (fr r) ≠ 0) => (show addL nm L S r = ⟨appE S (fS nm L.lst) (fr r), L.go (decide (appE S (fS nm L.lst) (fr r) = 9)), appS S (fS nm L.lst) (fr r)⟩ by unfold addL; rw [if_pos hz]))
    have XB := Lib.hid (fun (hz : appE S (fS nm L.lst) (fr r) = 0) => (show addL nm L S r = ⟨0, ⟨L.st, L.rc ++ [r], L.sz + (8 + r.length), L.sf, L.gn⟩, appS S (fS nm L.lst) (fr r)⟩ by unfold addL; rw [if_neg (by omega)]))
    obtain ⟨na, hna⟩ : ∃ na, appE S (fS nm L.lst) (fr r) = na := ⟨_, rfl⟩
    obtain ⟨Sa, hSa⟩ : ∃ Sa, appS S (fS nm L.lst) (fr r) = Sa := ⟨_, rfl⟩
    rw [hna, hSa] at APP ACT XA XB
    clear hna hSa
    have c0 := HX.out.c0
    have HGB := Lib.hid hg2
    have HFB := Lib.hid hfb
    clear hg2 hfb
    obtain ⟨lst, hlst⟩ : ∃ lst, L.lst = lst := ⟨_, rfl⟩
    rw [hlst] at LAST APP
    clear hlst f4
    go_upto_region 10 with fail
    go_cut [8] from 34 to 41 (fun v wq => v = .int .i64 (na : Int) ∧ Hid (LA B w2 d m V S g nm most sv rv P na Sa L (.returned (.int .i64 (na : Int))) wq))
    case first =>
      go_region_law (first
        | (go_simp; go_at_call 76; refine (LAST.out _ (below_drewN _ _ _)).mono ?_; rintro e wq ⟨rfl, hq⟩; have HQ := Lib.hid ((below_drewN w2.heap.size w2 1).trans hq); have c0q := (HX.out.below HQ.out).c0; clear hq)
        | (go_simp; go_at_call 75; refine (APP.out _ HQ.out).mono ?_; intro e wr ha; have hres := ACT.out _ HQ.out e wr ha; have he := hres.1; subst he; have RES := Lib.hid hres; clear hres ha))
      all_goals
        go_wp2_with fail
        go_meet
        exact ⟨rfl, RES⟩
    case rest =>
    obtain ⟨rfl, HC⟩ := hcut
    obtain ⟨w3, hw3⟩ : ∃ w3, w3 = wc := ⟨_, rfl⟩
    subst hw3
    obtain ⟨_, V3, h3, k3, m3⟩ := HC.out
    have H3 := Lib.hid h3
    have K3 : Hid (Keep (Mu d m V S.fs g rv) w w3) := Lib.hid (K2.out.trans k3 (fun i hi e => by
      rcases M2.out i e with h | h
      · exact h
      · have := SZ.out; omega))
    have S3 : Hid (w2.heap.size ≤ w3.heap.size) := Lib.hid k3.size
    have M3 : Hid (∀ x, Mu d m V3 Sa.fs g rv x → Mu d m V S.fs g rv x ∨ w.heap.size ≤ x) := Lib.hid (fun x hx => by
      have := SZ.out
      rcases m3 x hx with h | h
      · rcases M2.out x h with h | h
        · exact .inl h
        · exact .inr (by omega)
      · exact .inr (by omega))
    have R3 := Lib.hid (R2.out.keep k3 RF2.out)
    clear h3 k3 m3 HC APP ACT LAST c0 HX Y2 FAR2
    by_cases ca : na = 0
    · subst ca
      have XX := Lib.hid (XB.out rfl)
      clear XA XB
      obtain ⟨Aq, cq, hrv, hrq, hq1, hq2, hq3⟩ := H3.out.rc.form
      have c43 := H3.out.c4
      have c53 := H3.out.c5
      have f53 := H3.out.free 5
      have glt := H3.out.glt
      have hsz3 := H3.out.wf.sz
      have hfew := H3.out.wf.few
      have CLN := Lib.hid (fun W' (hb : Below w3.heap.size w3 W') => bclone_any W' Ar n cr r HL.out (R3.out.below hb) RZ.out (by omega))
      have W3 := Lib.hid (H3.out.wf.add r RB.out.2 (by rw [HL.out]; exact hn) HFB.out L.gn)
      have RLEN : Hid (L.rc.length + 1 ≤ 100000) := Lib.hid (by have := H3.out.few.2.1; omega)
      obtain ⟨sz3, hsz'⟩ : ∃ sz3, L.sz = sz3 := ⟨_, rfl⟩
      rw [hsz'] at c53 hsz3
      have hz70 : sz3 ≤ 70000 * 1000 := Nat.le_trans hsz3 (Nat.mul_le_mul_left _ (by omega))
      have SZZ := Lib.hid hsz'
      clear hrv hrq hq1 hq2 hq3 hsz3 hsz'
      go_upto_region 13 with fail
      go_cut [8] from 45 to 55 (fun v wq => v = .int .i64 0 ∧ Hid (∃ w4 w5 v5 A4, Below w3.heap.size w3 w4 ∧ w4.grownBy w5 (rv).ownBlock ∧ (v5.ownBlock = (rv).ownBlock ∨ v5.ownBlock = some w4.heap.size) ∧ OwnP w5 (fun x => P x ∨ ∃ a : Addr, A4 = some a ∧ a.block = x) v5 (L.rc ++ [r]) ∧ (∀ x, A4 = some x → w3.heap.size ≤ x.block ∧ x.block < w4.heap.size) ∧ wq = w5.setCell ⟨g, 4, none⟩ v5))
      case first =>
        clear c53 f53
        go_region_law (first
          | (refine step_apprs _ (by rfl) (.tmp 49) (.tmp 52) (by rfl) P (fun x => ∃ a : Addr, A4 = some a ∧ a.block = x) rv L.rc (by rfl) RW.out (some ⟨w4.heap.size, 0, none⟩) 1 1 [r] (by rfl) rfl RO.out (by intro h; cases h) RLEN.out PV.out ?_; intro v5 w5 hO5 hg5 hw5; obtain ⟨A5, c5q, hv5, hv51, hv52, hv53, hv54⟩ := hO5.form; clear hv51 hv52 hv53 hv54; rw [List.length_append, List.length_singleton] at hv5; have gb : w5.heap[g]? = some (.cells (lcs d nm most sv rv L) 77 (0, 0)) := GB.out w5 hg5; have c45 := cell_in gb 4; have f45 := free_in gb 4; have RES := Lib.hid (And.intro hg5 (And.intro hw5 hO5)); clear hg5 hw5 hO5 gb; rw [hv5] at RES ⊢; clear hv5)
          | (go_simp; go_at_call 37; refine (CLN.out _ (below_drewN _ _ _)).mono ?_; rintro e w4 ⟨A4, c4, rfl, o4, b4⟩; have B4 := Lib.hid ((below_drewN w3.heap.size w3 1).trans b4); have LT4 : Hid (∀ x, A4 = some x → w3.heap.size ≤ x.block ∧ x.block < w4.heap.size) := Lib.hid (fun x e => by subst e; exact o4.lt x.block rfl); have RO := Lib.hid (RQ.one w4 (fun x => ∃ a : Addr, A4 = some a ∧ a.block = x) A4 r c4 (o4.byt RB.out.2) (fun e => by subst e; exact Own.capz o4 rfl) (fun x e => ⟨x, e, rfl⟩)); rw [HL.out] at RO; have BA := Lib.hid (B4.out.trans ((below_alloc w4 (.cells #[.slice A4 n c4] 29)).mono B4.out.size)); have RW := Lib.hid ((H3.out.below BA.out).rc); have PV : Hid (∀ x, P x ∨ (∃ a : Addr, A4 = some a ∧ a.block = x) → (rv).ownBlock ≠ some x) := Lib.hid (fun x hx e => by rcases hx with h | ⟨a, h, rfl⟩; exact (H3.out.far x h).1 (.inr (.inr e)); have := (LT4.out a h).1; have := H3.out.rc.lt _ e; omega); have GB : Hid (∀ w5, (w4.alloc (.cells #[.slice A4 n c4] 29)).grownBy w5 (rv).ownBlock → w5.heap[g]? = some (.cells (lcs d nm most sv rv L) 77 (0, 0))) := Lib.hid (fun w5 hg => ((Keep.grown (F := fun x => (rv).ownBlock = some x) hg (fun k e => e)).block g (H3.out.below BA.out).glt (fun e => H3.out.rg e rfl)).trans (H3.out.below BA.out).blk); have c44 := (H3.out.below B4.out).c4; have c45q := (H3.out.below BA.out).c4; clear o4 b4))
        all_goals
          go_wp2_with fail
          go_meet
          exact ⟨rfl, _, w5, _, A4, BA.out, RES.out.1, RES.out.2.1, RES.out.2.2, fun x e => ⟨(LT4.out x e).1, Nat.lt_of_lt_of_le (LT4.out x e).2 (by simp)⟩, rfl⟩
      case rest =>
      obtain ⟨rfl, HC⟩ := hcut
      obtain ⟨w4, w5, v5, A4, bA, hg, hv, hO, hA, hw⟩ := HC.out
      subst hw
      have gb : w5.heap[g]? = some (.cells (lcs d nm most sv rv L) 77 (0, 0)) := ((Keep.grown (F := fun x => (rv).ownBlock = some x) hg (fun k e => e)).block g (H3.out.below bA).glt (fun e => H3.out.rg e rfl)).trans (H3.out.below bA).blk
      have c55 : w5.cell? ⟨g, 5, none⟩ = some (.int .i64 (sz3 : Int)) := by rw [cell_in gb 5, ← SZZ.out]; rfl
      have f55 := free_in gb 5
      have glt5 : g < w5.heap.size := (Array.getElem?_eq_some_iff.1 gb).1
      have BAH := Lib.hid bA
      have HGH := Lib.hid hg
      have HVH := Lib.hid hv
      have HOH := Lib.hid hO
      have HAH := Lib.hid hA
      clear bA hg hv hO hA HC gb c43 c53 f53
      go_wp2_with fail
      go_ret
      have q := (H3.out.below BAH.out).addTo v5 HGH.out HVH.out (L.rc ++ [r]) HOH.out (fun x hx => by
        rcases hx with h | ⟨a, h, rfl⟩
        · exact .inl h
        · have h1 := HAH.out a h
          exact .inr ⟨fun f => by have := H3.out.mlt _ f; omega, h1.2⟩) (L.sz + (8 + r.length)) W3.out
      have hz : ((((L.sz + (8 + r.length) : Nat)) : Int)) = (sz3 : Int) + (T2 : Int) := by rw [SZZ.out, T8.out]; omega
      rw [hz] at q
      rw [XE.out, XX.out]
      refine ⟨rfl, L.gn, .inl rfl, V3, sv, v5, _, q, ?_, fun x hx => ?_, fun x hx => ?_⟩
      · have k4 : Keep (Mu d m V3 Sa.fs g rv) w3 w5 := (Keep.of_below _ BAH.out).tr (Keep.grown HGH.out (fun k e => .inr (.inr e)))
        exact K3.out.trans (k4.tr ((Keep.set _ _ ⟨g, 4, none⟩ _ (.inr (.inl rfl))).tr (Keep.set _ _ ⟨g, 5, none⟩ _ (.inr (.inl rfl))))) (fun i hi e => (M3.out i e).resolve_right (by omega))
      · have s1 := BAH.out.size
        have s2 := K3.out.size
        rcases hx with e | e | e
        · exact M3.out x (.inl e)
        · exact M3.out x (.inr (.inl e))
        · rcases HVH.out with h1 | h1
          · rw [h1] at e; exact M3.out x (.inr (.inr e))
          · rw [h1] at e; injection e with e; exact .inr (by omega)
      · rcases hx with h | ⟨a, h, rfl⟩
        · exact PP2.out x h
        · have := (HAH.out a h).1
          have := K3.out.size
          exact .inr (by omega)
    · have ca' : ¬ ((na : Int) = 0) := by omega
      have XX := Lib.hid (XA.out ca)
      go_wp2_with fail
      go_ret
      rw [XE.out, XX.out]
      refine ⟨rfl, L.gn, ?_, V3, sv, rv, P, H3.out, K3.out, M3.out, PP2.out⟩
      by_cases c9 : na = 9
      · exact .inr c9
      · refine .inl ?_
        rw [HGB.out]
        show false = decide _
        rw [decide_eq_false c9]
end
end Go.Proofs.YtcodihgjfhoepaaGreatDoor

/- Segments go: plain facts; rows cut from a place on. -/
namespace Go.Proofs.YtcodihgjfhoepaaGreatDoor
open Go Go.RowKit Crc Pk
set_option maxRecDepth 20000

theorem goN_is {n : Nat} : ∀ (st : List Nat) (i : Nat), i + 1 ≤ st.length → (∀ j, j < i → st.getD (j + 1) 0 ≤ n) → (i + 1 = st.length ∨ n < st.getD (i + 1) 0) → goN st n = i := by
  intro st
  induction st with
  | nil => intro i hi; simp at hi
  | cons a t ih =>
    intro i hi h1 h2
    rcases t with _ | ⟨b, t⟩
    · have : i = 0 := by simp at hi; omega
      subst this
      rfl
    · rcases i with _ | i
      · show (if b ≤ n then _ else 0) = 0
        rw [if_neg]
        rcases h2 with h | h
        · simp at h
        · simp at h; omega
      · have hb := h1 0 (by omega)
        simp at hb
        show (if b ≤ n then goN (b :: t) n + 1 else 0) = i + 1
        rw [if_pos hb, ih i (by simpa using hi) (fun j hj => by have := h1 (j + 1) (by omega); simpa using this) (by
          rcases h2 with h | h
          · exact .inl (by simpa using h)
          · exact .inr (by simpa using h))]
theorem goN_lt {n : Nat} : ∀ (st : List Nat), st ≠ [] → goN st n + 1 ≤ st.length := by
  intro st
  induction st with
  | nil => intro h; exact absurd rfl h
  | cons a t ih =>
    intro _
    rcases t with _ | ⟨b, t⟩
    · show 0 + 1 ≤ _; simp
    · show (if b ≤ n then goN (b :: t) n + 1 else 0) + 1 ≤ _
      have := ih (by simp)
      split
      · simp at this ⊢; omega
      · simp
theorem last_drop (l : List Nat) (k : Nat) (h : k < l.length) : (l.drop k).getLastD 0 = l.getLastD 0 := by
  rw [List.getLastD_eq_getLast?, List.getLastD_eq_getLast?, List.getLast?_drop, if_neg (by omega)]
theorem head_drop (l : List Nat) (k : Nat) : (l.drop k).headD 0 = l.getD k 0 := by
  rw [← headD_get, List.getD_eq_getElem?_getD, List.getD_eq_getElem?_getD, List.getElem?_drop, Nat.add_zero]
theorem getD_mem (l : List Nat) (k : Nat) (h : k < l.length) : l.getD k 0 ∈ l := by
  rw [List.getD_eq_getElem?_getD, List.getElem?_eq_getElem h]; exact List.getElem_mem _
theorem head_le {l : List Nat} (h : l.Pairwise (· < ·)) (x : Nat) (hx : x ∈ l) : l.headD 0 ≤ x := by
  rcases l with _ | ⟨a, t⟩
  · cases hx
  · rcases List.mem_cons.1 hx with rfl | hx
    · exact Nat.le_refl _
    · exact Nat.le_of_lt ((List.pairwise_cons.1 h).1 x hx)
theorem Wf.at_ {L : Lg} (h : Wf L) (k : Nat) (hk : k < L.st.length) : L.bas ≤ L.st.getD k 0 ∧ L.st.getD k 0 - L.bas ≤ L.rc.length ∧ L.st.getD k 0 ≤ L.lst := by
  have h1 := head_le h.up _ (getD_mem L.st k hk)
  have h2 := last_ge h.up _ (getD_mem L.st k hk)
  have h3 := h.lst
  unfold Lg.lst at h3
  unfold Lg.fin Lg.bas at h3
  unfold Lg.bas Lg.lst
  refine ⟨h1, by omega, h2⟩
theorem cut_fin {L : Lg} (h : Wf L) (k : Nat) (hk : k < L.st.length) : (L.cut k).fin = L.fin ∧ (L.cut k).bas = L.st.getD k 0 ∧ (L.cut k).lst = L.lst := by
  obtain ⟨h1, h2, h3⟩ := h.at_ k hk
  have e1 : (L.cut k).bas = L.st.getD k 0 := head_drop L.st k
  refine ⟨?_, e1, last_drop L.st k hk⟩
  show (L.cut k).bas + (L.rc.drop (L.st.getD k 0 - L.bas)).length = L.bas + L.rc.length
  rw [e1, List.length_drop]; omega
theorem Wf.cut {L : Lg} (h : Wf L) (k : Nat) (hk : k < L.st.length) (b : Bool) : Wf ((L.cut k).go b) := by
  obtain ⟨e1, e2, e3⟩ := cut_fin h k hk
  have e1' : ((L.cut k).go b).fin = L.fin := e1
  have e3' : ((L.cut k).go b).lst = L.lst := e3
  refine ⟨?_, h.up.sublist (List.drop_sublist _ _), by rw [e1', e3']; exact h.lst, by rw [e1', e3']; exact h.sz, by rw [e1']; exact h.sf, fun r hr => h.recs r (List.mem_of_mem_drop hr), by rw [e1']; exact h.few⟩
  show L.st.drop k ≠ []
  intro e
  have := congrArg List.length e
  rw [List.length_drop] at this
  simp at this
  omega
/- rows cut -/
theorem elemU : Tryz.prog.elem 39 = 30 := by kernel_rfl
theorem elemS : Tryz.prog.elem 40 = 29 := by kernel_rfl
theorem run_toU (b off len cap k : Nat) (hk : k ≤ cap) (w : World) :
    (Instr.slice 39 (.slice (some ⟨b, off, none⟩) len cap) none (some (.int .i64 (k : Int))) none).run Tryz.prog w = .ok (.slice (some ⟨b, off, none⟩) k cap) w := by
  have ts : Tryz.t30.size = 1 := by kernel_rfl
  rw [run_slice_h (P := Tryz.prog) (w := w) 39 (some ⟨b, off, none⟩) len cap (by rw [elemU]; exact Tryz.underlying39) .i64 (k : Int) (by omega) (by omega), elemU]
  simp [sizeOf, go_sem, ts]
def shA (b off cap k : Nat) : Addr := if cap = k then ⟨b, off, none⟩ else ⟨b, off + k, none⟩
theorem run_fromU (b off len cap k : Nat) (hk : k ≤ len) (w : World) :
    (Instr.slice 39 (.slice (some ⟨b, off, none⟩) len cap) (some (.int .i64 (k : Int))) none none).run Tryz.prog w = .ok (.slice (some (shA b off cap k)) (len - k) (cap - k)) w := by
  have ts : Tryz.t30.size = 1 := by kernel_rfl
  rw [run_slice_l (P := Tryz.prog) (w := w) 39 (some ⟨b, off, none⟩) len cap (by rw [elemU]; exact Tryz.underlying39) .i64 (k : Int) (by omega) (by omega), elemU]
  simp [sizeOf, go_sem, ts, shA, add_plain]
  split <;> rfl
theorem run_fromS (a : Option Addr) (len cap k : Nat) (hk : k ≤ len) (w : World) :
    (Instr.slice 40 (.slice a len cap) (some (.int .u64 (k : Int))) none none).run Tryz.prog w = .ok (.slice (if cap = k then a else a.map (·.add k)) (len - k) (cap - k)) w := by
  have ts : Tryz.t29.size = 1 := by kernel_rfl
  rw [run_slice_l (P := Tryz.prog) (w := w) 40 a len cap (by rw [elemS]; exact Tryz.underlying40) .u64 (k : Int) (by omega) (by omega), elemS]
  simp [sizeOf, go_sem, ts]
theorem Us.from_ {w : World} {b off cap k : Nat} {l : List Nat} (h : Us w (some ⟨b, off, none⟩) l) (hc : l.length ≤ cap) : Us w (some (shA b off cap k)) (l.drop k) := fun i hi => by
  rw [List.length_drop] at hi
  obtain ⟨b', off', e, hx⟩ := h (k + i) (by omega)
  injection e with e
  cases e
  refine ⟨b, off + k, by unfold shA; rw [if_neg (by omega)], ?_⟩
  rw [Nat.add_assoc, hx]
  simp [List.getD_eq_getElem?_getD, List.getElem?_drop]
theorem Us.take {w : World} {A : Option Addr} {l : List Nat} (h : Us w A l) (k : Nat) : Us w A (l.take k) := fun i hi => by
  rw [List.length_take] at hi
  obtain ⟨b, off, e, hx⟩ := h i (by omega)
  refine ⟨b, off, e, ?_⟩
  rw [hx]
  have : i < k := by omega
  simp [List.getD_eq_getElem?_getD, List.getElem?_take, this]
theorem RQ.from_ {w : World} {P : Nat → Prop} {a : Option Addr} {cap k : Nat} {L : List (List Int)} (h : RQ w P a L) (hc : L.length ≤ cap) : RQ w P (if cap = k then a else a.map (·.add k)) (L.drop k) := fun i hi => by
  rw [List.length_drop] at hi
  obtain ⟨b, off, A', C, e, hx, r⟩ := h (k + i) (by omega)
  subst e
  refine ⟨b, off + k, A', C, by rw [if_neg (by omega), Option.map_some, add_plain], ?_, ?_⟩
  · rw [Nat.add_assoc, hx, g0_drop]
  · rw [g0_drop]; exact r
theorem OwnU.us {w : World} {A : Option Addr} {n c : Nat} {l : List Nat} (h : OwnU w (.slice A n c) l) : Us w A l := by
  obtain ⟨A', c', e, hu, _⟩ := h.form
  injection e with e1 _ _
  subst e1
  exact hu
theorem OwnU.cap {w : World} {A : Option Addr} {n c : Nat} {l : List Nat} (h : OwnU w (.slice A n c) l) : n = l.length ∧ n ≤ c := by
  obtain ⟨A', c', e, _, hc, _⟩ := h.form
  injection e with e1 e2 e3
  subst e2 e3
  exact ⟨rfl, hc⟩
theorem from_none {a : Option Addr} {cap k : Nat} (hz : a = none → cap = 0) : (if cap = k then a else a.map (·.add k)) = none → cap - k = 0 := fun h => by
  by_cases e : cap = k
  · omega
  · rw [if_neg e] at h
    have : a = none := by simpa using h
    have := hz this
    omega
end Go.Proofs.YtcodihgjfhoepaaGreatDoor
