/- Making the log safe; beginning a segment. -/
import Derived.Test.YtcodihgjfhoepaaGreatDoorSgQC
import Derived.Test.YtcodihgjfhoepaaGreatDoorSgT
namespace Go.Proofs.YtcodihgjfhoepaaGreatDoor
open Go Go.RowKit Crc Pk
set_option maxRecDepth 20000

section
variable {B : Nat} {w w' : World} {d m : Nat} {V V' : ByteArray → Value} {S T : St} {g : Nat} {nm : ByteArray} {most : Nat} {sv rv sv' rv' : Value} {P P' : Nat → Prop} {L L' : Lg}
theorem Lo.safeTo (h : Lp B w d m V S g nm most sv rv P L) (n : Nat) (hn : n ≤ L.fin) :
    Lp B (w.setCell ⟨g, 6, none⟩ (.int .u64 (n : Int))) d m V S g nm most sv rv P ⟨L.st, L.rc, L.sz, n, L.gn⟩ ∧ Keep (Mu d m V S.fs g rv) w (w.setCell ⟨g, 6, none⟩ (.int .u64 (n : Int))) :=
  ⟨h.turn (Keep.set _ _ _ _ rfl) (block_set w g 6 (.int .u64 (n : Int)) _ _ _ h.blk) h.st h.rc h.far ⟨h.wf.ne, h.wf.up, h.wf.lst, h.wf.sz, hn, h.wf.recs, h.wf.few⟩ (fun x e => h.from_ x (.inr (.inr e))), Keep.set _ _ _ _ (.inr (.inl rfl))⟩
theorem LA.intro {n : Nat} {e : Ending} (he : e = .returned (.int .i64 (n : Int))) (h : Lp B w' d m V' T g nm most sv rv P L') (hk : Keep (Mu d m V S.fs g rv) w w') (hm : ∀ x, Mu d m V' T.fs g rv x → Mu d m V S.fs g rv x ∨ w.heap.size ≤ x) :
    LA B w d m V S g nm most sv rv P n T L' e w' := ⟨he, V', h, hk, hm⟩
set_option maxHeartbeats 4000000 in
theorem lsync_any (h : Lp B w d m V S g nm most sv rv P L) :
    Calls Tryz.prog 49 #[ptr g] w (LA B w d m V S g nm most sv rv P (synL nm L S).e (synL nm L S).s (synL nm L S).l) := by
  have c6 := h.c6
  have E := Lib.hid (end_q h)
  have HH := Lib.hid h
  by_cases c : L.sf = L.fin
  · have e0 : synL nm L S = ⟨0, L, S⟩ := by unfold synL; rw [if_pos c]
    have X := Lib.hid e0
    have c' : ((L.sf : Nat) : Int) = (L.fin : Int) := by omega
    generalize L.sf = sf at *
    generalize L.fin = fin at *
    clear h e0 c
    go_enter Tryz.func49, Tryz.ntmps49
    go_wp2_with fail
    go_quiet (first | (go_at_call 13; exact (E.out _)))
    go_wp2_with fail
    go_ret
    rw [X.out]
    exact LA.intro rfl (HH.out.below (below_drewN _ _ _)) (Keep.of_below _ (below_drewN _ _ _)) (fun x hx => .inl hx)
  · have c' : ¬ (((L.sf : Nat) : Int) = (L.fin : Int)) := by omega
    have f1 := h.few.2.2.2
    have LL := Lib.hid (fun W (hb : Below w.heap.size w W) => last_any (h.below hb))
    have MS := Lib.hid (fun W (hb : Below w.heap.size w W) => msafe_any (h.below hb) (fS nm L.lst) (fS_small h.cf.nm (by omega)))
    obtain ⟨n, hn⟩ : ∃ n, synE S (fS nm L.lst) = n := ⟨_, rfl⟩
    obtain ⟨S1, hS⟩ : ∃ S1, synS S (fS nm L.lst) = S1 := ⟨_, rfl⟩
    have X1 := Lib.hid (fun (hz : n ≠ 0) => (show synL nm L S = ⟨n, L.go true, S1⟩ by unfold synL; rw [if_neg c, hn, hS, if_pos hz]))
    have X2 := Lib.hid (fun (hz : n = 0) => (show synL nm L S = ⟨0, ⟨L.st, L.rc, L.sz, L.fin, L.gn⟩, S1⟩ by unfold synL; rw [if_neg c, hn, hS, if_neg (by omega)]))
    rw [hn, hS] at MS
    obtain ⟨sf, hsf⟩ : ∃ sf, L.sf = sf := ⟨_, rfl⟩
    obtain ⟨fin, hfin⟩ : ∃ fin, L.fin = fin := ⟨_, rfl⟩
    rw [hsf] at c6 c'
    rw [hfin] at E c' X2
    have HF := Lib.hid hfin
    clear h c hn hS hsf hfin f1
    go_enter Tryz.func49, Tryz.ntmps49
    go_wp2_with fail
    go_quiet (first | (go_at_call 13; exact (E.out _)))
    go_wp2_with fail
    refine (LL.out _ (below_drewN _ _ _)).mono ?_
    rintro e w1 ⟨rfl, b1⟩
    have B1 := Lib.hid ((below_drewN w.heap.size w _).trans b1)
    clear b1 LL
    go_wp2_with fail
    refine (MS.out _ B1.out).mono ?_
    rintro e w2 ⟨rfl, V2, h2, k2, m2⟩
    have K2 : Hid (Keep (Mu d m V S.fs g rv) w w2) := Lib.hid ((Keep.of_below _ B1.out).tr k2)
    have M2 : Hid (∀ x, Mu d m V2 S1.fs g rv x → Mu d m V S.fs g rv x ∨ w.heap.size ≤ x) := Lib.hid (fun x hx => (m2 x hx).imp id (fun e => Nat.le_trans B1.out.size e))
    have H2 := Lib.hid h2
    clear h2 k2 m2 MS
    by_cases cz : n = 0
    · subst cz
      rw [if_pos rfl] at H2
      have E2 := Lib.hid (end_any H2.out)
      rw [HF.out] at E2
      have c62 := H2.out.c6
      have f62 := H2.out.free 6
      go_wp2_with fail
      refine E2.out.mono ?_
      rintro e w3 ⟨rfl, j, rfl⟩
      go_wp2_with fail
      go_ret
      obtain ⟨q1, q2⟩ := (H2.out.below (below_drewN _ _ j)).safeTo fin (by rw [HF.out]; exact Nat.le_refl _)
      rw [X2.out trivial]
      exact LA.intro rfl q1 (K2.out.trans ((Keep.of_below _ (below_drewN _ _ j)).tr q2) (fun i hi e => (M2.out i e).resolve_right (by omega))) M2.out
    · have cz' : ¬ ((n : Int) = 0) := by omega
      rw [if_neg cz] at H2
      go_wp2_with fail
      go_ret
      rw [X1.out cz]
      exact LA.intro rfl H2.out K2.out M2.out
theorem Us.one (w : World) (n : Nat) : Us (w.alloc (.cells #[.int .u64 (n : Int)] 30)) (some ⟨w.heap.size, 0, none⟩) [n] := fun i hi => by
  have : i = 0 := by simpa using hi
  subst this
  exact ⟨w.heap.size, 0, rfl, by simp [go_sem]⟩
theorem synL_ok (h : (synL nm L S).e = 0) : (synL nm L S).l = ⟨L.st, L.rc, L.sz, L.fin, L.gn⟩ := by
  unfold synL at *
  split
  · rename_i c
    obtain ⟨st, rc, sz, sf, gn⟩ := L
    have c : sf = _ := c
    rw [← c]
  · rename_i c
    rw [if_neg c] at h
    split
    · rename_i c2
      rw [if_pos c2] at h
      exact absurd h c2
    · rfl
theorem synL_bad (h : (synL nm L S).e ≠ 0) : (synL nm L S).l = L.go true := by
  unfold synL at *
  split
  · rename_i c
    rw [if_pos c] at h
    exact absurd rfl h
  · rename_i c
    rw [if_neg c] at h
    split
    · rfl
    · rename_i c2
      rw [if_neg c2] at h
      exact absurd rfl h
theorem head_app (l : List Nat) (x : Nat) (h : l ≠ []) : (l ++ [x]).headD 0 = l.headD 0 := by
  rcases l with _ | ⟨a, t⟩
  · exact absurd rfl h
  · rfl
theorem Wf.beg (h : Wf L) (hs : L.lst < L.fin) (b : Bool) : Wf ⟨L.st ++ [L.fin], L.rc, 0, L.fin, b⟩ := by
  have e : (⟨L.st ++ [L.fin], L.rc, 0, L.fin, b⟩ : Lg).fin = L.fin := by
    show (L.st ++ [L.fin]).headD 0 + L.rc.length = _
    rw [head_app _ _ h.ne]; rfl
  refine ⟨by simp, ?_, ?_, Nat.zero_le _, ?_, h.recs, ?_⟩
  · refine List.pairwise_append.2 ⟨h.up, List.pairwise_singleton _ _, fun a ha b hb => ?_⟩
    rw [List.mem_singleton.1 hb]
    have := last_ge h.up a ha
    unfold Lg.lst at hs
    omega
  · rw [e]
    show (L.st ++ [L.fin]).getLastD 0 ≤ _
    simp
  · rw [e]; exact Nat.le_refl _
  · rw [e]; exact h.few
theorem begL_fin (nm : ByteArray) (L : Lg) (S : St) (h : L.st ≠ []) : (begL nm L S).l.fin = L.fin ∧ ((begL nm L S).e = 0 → (begL nm L S).l.gn = L.gn) := by
  unfold begL
  split
  · rename_i c
    refine ⟨?_, fun h => absurd h c⟩
    rw [synL_bad c]; rfl
  · rename_i c
    have e := synL_ok (Decidable.not_not.1 c)
    split
    · rename_i c2
      refine ⟨?_, fun h => absurd h c2⟩
      rw [e]; rfl
    · refine ⟨?_, fun _ => rfl⟩
      show (L.st ++ [L.fin]).headD 0 + L.rc.length = _
      rw [head_app _ _ h]; rfl
/- what the flag is behind it -/
theorem begL_gn (nm : ByteArray) (L : Lg) (S : St) (h : L.gn = false) (b : Bool) (hb : b = L.gn ∨ (begL nm L S).e = 9 ∨ (synL nm L S).e ≠ 0) (hs : (synL nm L S).e ≠ 0 → b = true) : b = (begL nm L S).l.gn ∨ (begL nm L S).e = 9 := by
  by_cases c : (synL nm L S).e ≠ 0
  · refine .inl ?_
    rw [hs c]
    unfold begL
    rw [if_pos c, synL_bad c]; rfl
  · rcases hb with hb | hb | hb
    · by_cases c2 : (tel nm (L.st ++ [L.fin]) (synL nm L S).s).1 ≠ 0
      · have e : begL nm L S = ⟨(tel nm (L.st ++ [L.fin]) (synL nm L S).s).1, (synL nm L S).l.go (decide ((tel nm (L.st ++ [L.fin]) (synL nm L S).s).1 = 9)), (tel nm (L.st ++ [L.fin]) (synL nm L S).s).2⟩ := by
          unfold begL; rw [if_neg c, if_pos c2]
        rw [e]
        by_cases c3 : (tel nm (L.st ++ [L.fin]) (synL nm L S).s).1 = 9
        · exact .inr c3
        · refine .inl ?_
          rw [hb, h]
          show false = decide _
          rw [decide_eq_false c3]
      · refine .inl ?_
        unfold begL
        rw [if_neg c, if_neg c2, hb]
    · exact .inr hb
    · exact absurd hb c
set_option maxHeartbeats 4000000 in
theorem begin_log (h : Lp B w d m V S g nm most sv rv P L) (hs : L.lst < L.fin) :
    Calls Tryz.prog 74 #[ptr g] w fun e w' => ∃ b, (b = L.gn ∨ (begL nm L S).e = 9 ∨ (synL nm L S).e ≠ 0) ∧ ((synL nm L S).e ≠ 0 → b = true) ∧ e = .returned (.int .i64 ((begL nm L S).e : Int)) ∧ Lstep B w d m V S g nm most rv P (begL nm L S).s ((begL nm L S).l.go b) w' := by
  have SY := Lib.hid (lsync_any h)
  have HH := Lib.hid h
  have B1 := Lib.hid (fun (hz : (synL nm L S).e ≠ 0) => (show begL nm L S = synL nm L S by unfold begL; rw [if_pos hz]))
  have LB := Lib.hid (synL_bad (nm := nm) (L := L) (S := S))
  have LO := Lib.hid (synL_ok (nm := nm) (L := L) (S := S))
  have B2 := Lib.hid (fun (hz : (synL nm L S).e = 0) (t : Nat × St) (ht : tel nm (L.st ++ [L.fin]) (synL nm L S).s = t) (h1 : t.1 ≠ 0) => (show begL nm L S = ⟨t.1, (synL nm L S).l.go (decide (t.1 = 9)), t.2⟩ by unfold begL; rw [if_neg (by omega), ht, if_pos h1]))
  have B3 := Lib.hid (fun (hz : (synL nm L S).e = 0) (t : Nat × St) (ht : tel nm (L.st ++ [L.fin]) (synL nm L S).s = t) (h1 : t.1 = 0) => (show begL nm L S = ⟨0, ⟨L.st ++ [L.fin], L.rc, 0, L.fin, L.gn⟩, t.2⟩ by unfold begL; rw [if_neg (by omega), ht, if_neg (by omega)]))
  obtain ⟨R1, hR1⟩ : ∃ R1, synL nm L S = R1 := ⟨_, rfl⟩
  rw [hR1] at SY B1 LB LO B2 B3 ⊢
  obtain ⟨n1, L1, S1⟩ := R1
  simp only at SY B1 LB LO B2 B3 ⊢
  obtain ⟨RB, hRB⟩ : ∃ RB, begL nm L S = RB := ⟨_, rfl⟩
  rw [hRB] at B1 B2 B3 ⊢
  clear h hR1 hRB
  go_enter Tryz.func74, Tryz.ntmps74
  go_wp2_with fail
  refine SY.out.mono ?_
  rintro e w1 ⟨rfl, V1, h1, k1, m1⟩
  have K1 := Lib.hid k1
  have M1 := Lib.hid m1
  have H1 := Lib.hid h1
  clear h1 k1 m1 SY
  by_cases c1 : n1 = 0
  · have hL1 := LO.out c1
    subst hL1
    subst c1
    obtain ⟨A, c, hsv, hu, hc, hz, hx⟩ := H1.out.st.form
    have c3 := H1.out.c3
    rw [hsv] at c3
    have hq := H1.out.wf.len.2
    simp only at hq hu hsv c3
    have CL := Lib.hid (uclone_any w1 A L.st.length c L.st rfl hu hz (by omega))
    have LEN : L.st.length ≤ 1001 := hq
    have E2 := Lib.hid (fun W (hb : Below w1.heap.size w1 W) => end_any (H1.out.below hb))
    have HFE : Hid ((⟨L.st, L.rc, L.sz, L.fin, L.gn⟩ : Lg).fin = L.fin) := Lib.hid rfl
    rw [HFE.out] at E2
    have B2' := Lib.hid (B2.out rfl)
    have B3' := Lib.hid (B3.out rfl)
    have NUM : Hid (∀ x ∈ L.st ++ [L.fin], x < 18446744073709551616) := Lib.hid (fun x hx => by
      rcases List.mem_append.1 hx with e | e
      · have := HH.out.wf.st1000 x e; omega
      · rw [List.mem_singleton.1 e]; have := HH.out.wf.few; omega)
    obtain ⟨t, hT⟩ : ∃ t, tel nm (L.st ++ [L.fin]) S1 = t := ⟨_, rfl⟩
    have TT := Lib.hid hT
    obtain ⟨fin, hfin⟩ : ∃ fin, L.fin = fin := ⟨_, rfl⟩
    have FF := Lib.hid hfin
    rw [hfin] at E2 NUM hT
    have WF := Lib.hid (HH.out.wf.beg hs L.gn)
    rw [hfin] at WF
    obtain ⟨q, hqq⟩ : ∃ q, L.st.length = q := ⟨_, rfl⟩
    rw [hqq] at c3 CL LEN hc
    have QQ := Lib.hid hqq
    clear hu hx hq hsv hT hfin hqq hz hs
    go_wp2_with fail
    refine CL.out.mono ?_
    rintro e w2 ⟨v1, rfl, o2, n2, b2⟩
    have O2 := Lib.hid o2
    have N2 := Lib.hid n2
    have Y2 := Lib.hid b2
    clear o2 n2 b2 CL
    go_wp2_with fail
    refine (E2.out _ Y2.out).mono ?_
    rintro e w3 ⟨rfl, jj, rfl⟩
    clear E2
    have Y3 := Lib.hid (show Below w1.heap.size w1 ((w2.drewN jj).alloc (.cells #[.int .u64 (fin : Int)] 30)) from Y2.out.trans (((below_drewN w2.heap.size w2 jj).trans (below_alloc (w2.drewN jj) _)).mono Y2.out.size))
    have O3 := Lib.hid (show OwnU ((w2.drewN jj).alloc (.cells #[.int .u64 (fin : Int)] 30)) v1 L.st from O2.out.same (fun k hk => (below_alloc (w2.drewN jj) (.cells #[.int .u64 (fin : Int)] 30)).block k (O2.out.lt k hk)))
    have U3 := Lib.hid (Us.one (w2.drewN jj) fin)
    go_wp2_with (at_builtin; refine wp_appu _ rfl _ _ rfl v1 L.st rfl O3.out (some ⟨w2.heap.size, 0, none⟩) 1 1 [fin] rfl rfl U3.out (by intro h; cases h) (by rw [QQ.out]; omega) ?_; intro v2 w4 hO4 hg4 hw4)
    have Y4 := Lib.hid (Y3.out.trans ((Below.refl w1.heap.size _).grown hg4 Y3.out.size (fun k hk => N2.out k hk)))
    obtain ⟨A4, c4, rfl, hu4, hc4, hz4, hx4⟩ := hO4.form
    have TE := Lib.hid (tell_any (H1.out.below Y4.out) A4 (L.st ++ [fin]).length c4 (L.st ++ [fin]) rfl (by rw [List.length_append, QQ.out]; simp; omega) hu4 hc4 NUM.out)
    have TF := TT.out
    rw [FF.out] at TF
    rw [TF] at TE
    clear TF
    have O4 := Lib.hid hO4
    have N4 : Hid (∀ x, (Value.slice A4 (L.st ++ [fin]).length c4).ownBlock = some x → w1.heap.size ≤ x) := Lib.hid (fun x e => by
      rcases hw4 with h | h
      · rw [h] at e; exact N2.out x e
      · rw [h] at e; injection e with e; subst e; exact Y3.out.size)
    obtain ⟨n4, hn4⟩ : ∃ n4, (L.st ++ [fin]).length = n4 := ⟨_, rfl⟩
    rw [hn4] at TE N4 O4
    clear hO4 hg4 hw4 hu4 hc4 hz4 hx4
    rw [hn4]
    clear hn4
    go_wp2_with fail
    refine TE.out.mono ?_
    rintro e w5 ⟨b, hb, rfl, V5, h5, k5, m5⟩
    have HB := Lib.hid hb
    have K5 : Hid (Keep (Mu d m V S.fs g rv) w w5) := Lib.hid (K1.out.trans ((Keep.of_below _ Y4.out).tr k5) (fun i hi e => (M1.out i e).resolve_right (by omega)))
    have M5 : Hid (∀ x, Mu d m V5 t.2.fs g rv x → Mu d m V S.fs g rv x ∨ w.heap.size ≤ x) := Lib.hid (fun x hx => by
      have := K1.out.size
      have := Y4.out.size
      rcases m5 x hx with h | h
      · exact M1.out x h
      · exact .inr (by omega))
    have O5 : Hid (OwnU w5 (.slice A4 n4 c4) (L.st ++ [fin])) := Lib.hid (O4.out.same (fun k hk => k5.block k (O4.out.lt k hk) ((H1.out.below Y4.out).sM O4.out hk)))
    have H5 := Lib.hid h5
    clear hb k5 m5 h5 TE
    by_cases ct : t.1 = 0
    · have ct' : (t.1 : Int) = 0 := by omega
      have c35 := H5.out.c3
      have f35 := H5.out.free 3
      have c55 := H5.out.c5
      have f55 := H5.out.free 5
      have gl := H5.out.glt
      have X := Lib.hid (B3'.out t TT.out ct)
      go_wp2_with fail
      go_ret
      have hbg : b = L.gn := by
        rcases HB.out with h | h
        · exact h
        · rw [ct] at h; exact absurd h (by decide)
      subst hbg
      have hk1 : Keep (fun x => x = g) w5 ((w5.setCell ⟨g, 3, none⟩ (.slice A4 n4 c4)).setCell ⟨g, 5, none⟩ (.int .i64 0)) := (Keep.set (fun x => x = g) _ ⟨g, 3, none⟩ _ rfl).tr (Keep.set (fun x => x = g) _ ⟨g, 5, none⟩ _ rfl)
      have hb1 := block_set (w5.setCell ⟨g, 3, none⟩ (.slice A4 n4 c4)) g 5 (.int .i64 0) _ _ _ (block_set w5 g 3 (.slice A4 n4 c4) _ _ _ H5.out.blk)
      have q1 := H5.out.turn (sv' := .slice A4 n4 c4) (rv' := rv) (P' := P) (L' := ⟨L.st ++ [fin], L.rc, 0, fin, L.gn⟩) hk1 (by rw [hb1, ← FF.out]; rfl) O5.out H5.out.rc H5.out.far WF.out (fun x e => H5.out.from_ x (.inr (.inr e)))
      rw [← FF.out] at q1
      refine ⟨L.gn, .inl rfl, fun h => absurd rfl h, by rw [X.out]; rfl, V5, _, rv, P, by rw [X.out]; exact q1, ?_, by rw [X.out]; exact M5.out, fun x hx => .inl hx⟩
      exact K5.out.trans (hk1.wide (F' := Mu d m V5 t.2.fs g rv) (fun i _ e => .inr (.inl e))) (fun i hi e => (M5.out i e).resolve_right (by omega))
    · have ct' : ¬ ((t.1 : Int) = 0) := by omega
      have X := Lib.hid (B2'.out t TT.out ct)
      go_wp2_with fail
      go_ret
      refine ⟨b, ?_, fun h => absurd rfl h, by rw [X.out]; rfl, V5, sv, rv, P, by rw [X.out]; exact H5.out, K5.out, by rw [X.out]; exact M5.out, fun x hx => .inl hx⟩
      rcases HB.out with h | h
      · exact .inl h
      · exact .inr (.inl (by rw [X.out]; exact h))
  · have c1' : ¬ ((n1 : Int) = 0) := by omega
    have hL1 := LB.out c1
    have X := Lib.hid (B1.out c1)
    subst hL1
    go_wp2_with fail
    go_ret
    refine ⟨true, .inr (.inr c1), fun _ => rfl, by rw [X.out]; rfl, V1, sv, rv, P, ?_, K1.out, ?_, fun x hx => .inl hx⟩
    · rw [X.out]; exact H1.out
    · rw [X.out]; exact M1.out
end
end Go.Proofs.YtcodihgjfhoepaaGreatDoor
