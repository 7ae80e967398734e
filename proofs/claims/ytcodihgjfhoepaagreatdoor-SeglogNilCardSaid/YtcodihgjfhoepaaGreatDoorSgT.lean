/- The manifest is written. -/
import Derived.Test.YtcodihgjfhoepaaGreatDoorSgQC
import Derived.Test.YtcodihgjfhoepaaGreatDoorLbPut
namespace Go.Proofs.YtcodihgjfhoepaaGreatDoor
open Go Go.RowKit Crc Pk
set_option maxRecDepth 20000

def TAo (Q : Lg → Prop) (B : Nat) (w : World) (d m : Nat) (V : ByteArray → Value) (S : St) (g : Nat) (nm : ByteArray) (most : Nat) (sv rv : Value) (P : Nat → Prop) (L : Lg) (R : Nat × St) (e : Ending) (w' : World) : Prop :=
  ∃ b, (b = L.gn ∨ R.1 = 9) ∧ LAo Q B w d m V S g nm most sv rv P R.1 R.2 (L.go b) e w'
abbrev TA := TAo Wf
def pre (l : List Nat) (i : Nat) : List Int := wrt l.length ++ (l.take i).flatMap wrt
theorem pre_rng (l : List Nat) (i : Nat) : ∀ c ∈ pre l i, 0 ≤ c ∧ c < 256 := fun c hc => by
  rcases List.mem_append.1 hc with h | h
  · exact wrt_range _ c h
  · obtain ⟨n, _, h⟩ := List.mem_flatMap.1 h
    exact wrt_range _ c h
theorem pre_next (l : List Nat) (i : Nat) (hi : i < l.length) : pre l (i + 1) = pre l i ++ wrt (l.getD i 0) := by
  unfold pre
  rw [List.take_succ_eq_append_getElem hi, List.flatMap_append, List.append_assoc, List.getD_eq_getElem?_getD, List.getElem?_eq_getElem hi]
  simp
theorem pre_all (l : List Nat) : pre l l.length = man l := by unfold pre man; rw [List.take_length]
theorem pre_len (l : List Nat) (hb : ∀ x ∈ l, x < 18446744073709551616) (hl : l.length ≤ 1002) (i : Nat) : (pre l i).length ≤ 10030 := by
  have h1 := wrt_ten l.length (by omega)
  have h2 := flat_len (l.take i) (fun n hn => hb n (List.mem_of_mem_take hn))
  have h3 : (l.take i).length ≤ l.length := by rw [List.length_take]; omega
  unfold pre
  rw [List.length_append]; omega
theorem getD_lt (l : List Nat) (hb : ∀ x ∈ l, x < 18446744073709551616) (i : Nat) : l.getD i 0 < 18446744073709551616 := by
  rw [List.getD_eq_getElem?_getD]
  cases h : l[i]? with
  | none => simp
  | some x => exact hb x (List.mem_of_getElem? h)
/- behind an Append that was answered OK there is a file -/
theorem syn_nine (S : St) (f : ByteArray) (b : List Int) (hr : Rise S.fs) (h0 : appE S f b = 0) (h : synE (appS S f b) f ≠ 0) : synE (appS S f b) f = 9 := by
  unfold synE at *
  split
  · rename_i hg
    rw [if_pos hg] at h
    have hu : S.up = true := by
      unfold appE at h0
      split at h0
      · rename_i h; exact h
      · cases h0
    have hre : refuse S f b.length = 0 := by
      unfold appE at h0
      rw [if_pos hu] at h0
      split at h0
      · cases h0
      · exact h0
    have hfs : (appS S f b).fs = wi S.fs (appF S f b) := by
      unfold appS
      rw [if_pos hu, if_pos hre]
      rfl
    rw [hfs, fnd_wi hr] at h
    simp [appF] at h
  · rfl
theorem tel_1 {nm : ByteArray} {l : List Nat} {S : St} (h : drp S (fT nm) ≠ 0) : tel nm l S = (drp S (fT nm), delS S (fT nm)) := by unfold tel; rw [if_pos h]
theorem tel_2 {nm : ByteArray} {l : List Nat} {S S1 : St} (h0 : drp S (fT nm) = 0) (e1 : delS S (fT nm) = S1) (h : appE S1 (fT nm) (fr (man l)) ≠ 0) :
    tel nm l S = (appE S1 (fT nm) (fr (man l)), appS S1 (fT nm) (fr (man l))) := by
  subst e1; unfold tel; rw [if_neg (by rw [h0]; simp), if_pos h]
theorem tel_3 {nm : ByteArray} {l : List Nat} {S S1 S2 : St} (h0 : drp S (fT nm) = 0) (e1 : delS S (fT nm) = S1) (h1 : appE S1 (fT nm) (fr (man l)) = 0) (e2 : appS S1 (fT nm) (fr (man l)) = S2) (h : synE S2 (fT nm) ≠ 0) :
    tel nm l S = (synE S2 (fT nm), synS S2 (fT nm)) := by
  subst e1; subst e2; unfold tel; rw [if_neg (by rw [h0]; simp), if_neg (by rw [h1]; simp), if_pos h]
theorem tel_4 {nm : ByteArray} {l : List Nat} {S S1 S2 S3 : St} (h0 : drp S (fT nm) = 0) (e1 : delS S (fT nm) = S1) (h1 : appE S1 (fT nm) (fr (man l)) = 0) (e2 : appS S1 (fT nm) (fr (man l)) = S2) (h2 : synE S2 (fT nm) = 0) (e3 : synS S2 (fT nm) = S3) :
    tel nm l S = (renE S3 (fT nm) (fM nm), renS S3 (fT nm) (fM nm)) := by
  subst e1; subst e2; subst e3; unfold tel; rw [if_neg (by rw [h0]; simp), if_neg (by rw [h1]; simp), if_neg (by rw [h2]; simp)]
theorem fT_small {nm : ByteArray} (h : nm.size ≤ 8) : (fT nm).size ≤ 100 := by have e2 : (fT nm).size = nm.size + 1 + 1 := size_fn nm sT; omega
theorem fM_small {nm : ByteArray} (h : nm.size ≤ 8) : (fM nm).size ≤ 100 := by have e2 : (fM nm).size = nm.size + 1 + 1 := size_fn nm sM; omega
theorem fS_small {nm : ByteArray} {n : Nat} (h : nm.size ≤ 8) (hn : n < 18446744073709551616) : (fS nm n).size ≤ 100 := by
  have e2 : (fS nm n).size = nm.size + 1 + (dc n).size := size_fn nm (dc n)
  have := dec_len n hn
  rw [size_dc] at e2; omega
section
variable {Q : Lg → Prop} {B : Nat} {w w' : World} {d m : Nat} {V V' : ByteArray → Value} {S T : St} {g : Nat} {nm : ByteArray} {most : Nat} {sv rv sv' rv' : Value} {P P' : Nat → Prop} {L L' : Lg}
theorem LAo.then_ {w1 w2 : World} {V1 : ByteArray → Value} {S1 S2 : St} {L2 : Lg} {n : Nat} {e : Ending}
    (hk : Keep (Mu d m V S.fs g rv) w w1) (hm : ∀ x, Mu d m V1 S1.fs g rv x → Mu d m V S.fs g rv x ∨ w.heap.size ≤ x)
    (h2 : LAo Q B w1 d m V1 S1 g nm most sv rv P n S2 L2 e w2) : LAo Q B w d m V S g nm most sv rv P n S2 L2 e w2 := by
  obtain ⟨e1, V', a, b, c⟩ := h2
  have hs := hk.size
  refine ⟨e1, V', a, hk.trans b (fun i hi h => ?_), fun x hx => ?_⟩
  · rcases hm i h with h | h
    · exact h
    · omega
  · rcases c x hx with h | h
    · exact hm x h
    · exact .inr (Nat.le_trans hs h)
/- from the frame on -/
set_option maxHeartbeats 4000000 in
theorem tell_o (h : Lo Q B w d m V S g nm most sv rv P L) (hq : ∀ b, Q (L.go b)) (A : Option Addr) (n c : Nat) (l : List Nat) (hl : l.length = n) (hn : n ≤ 1002) (hu : Us w A l) (hc : n ≤ c) (hb : ∀ x ∈ l, x < 18446744073709551616) :
    Calls Tryz.prog 66 #[ptr g, .slice A n c] w (TAo Q B w d m V S g nm most sv rv P L (tel nm l S)) := by
  have C1 := Lib.hid (put_any none 0 0 [] n w rfl (by omega) (by omega) (Byt.nil w))
  have C2 := Lib.hid (fun (W : World) (a : Option Addr) (k cc i : Nat) (hk : (pre l i).length = k) (hW : Byt W a (pre l i)) => put_any a k cc (pre l i) (l.getD i 0) W hk (by have := pre_len l hb (by omega) i; omega) (getD_lt l hb i) hW)
  have PL := Lib.hid (pre_len l hb (by omega))
  have HU := Lib.hid hu
  have HH := Lib.hid h
  have HQQ := Lib.hid hq
  have HT := Lib.hid h.tb
  have HL := Lib.hid hl
  have w0 : IntKind.u64.wrap (n : Int) = (n : Int) := by rw [IntKind.wrap_u64]; omega
  have z0 : Hid (([] : List Int) ++ wrt n = pre l 0) := Lib.hid (by unfold pre; rw [hl]; simp)
  clear hu h hb hl hq
  go_enter Tryz.func66, Tryz.ntmps66
  go_wp2_with fail
  refine C1.out.mono ?_
  rintro e w1 ⟨A1, k1, c1, rfl, q1, o1, b1⟩
  rw [z0.out] at q1 o1
  have Q1 := Lib.hid q1
  have O1 := Lib.hid o1
  have B1 := Lib.hid b1
  clear q1 o1 b1 C1 z0
  go_wp2_with fail
  go_loopw [5, 20] (fun s t wr => ∃ (i k : Nat) (a : Option Addr) (cc : Nat), s = .slice a k cc ∧ t = .int .i64 i ∧ i ≤ n ∧ Hid ((pre l i).length = k ∧ Own wr w.heap.size (.slice a k cc) (pre l i) ∧ Below w.heap.size w wr)) (fun _ t _ => n - (intOf t).toNat)
  case atStart => exact ⟨0, k1, A1, c1, rfl, rfl, by omega, Q1.out, O1.out, B1.out⟩
  case round =>
    obtain ⟨i, k, a, cc, rfl, rfl, hi, H⟩ := hrel
    by_cases ci : i < n
    · obtain ⟨b, off, rfl, x0⟩ := (HU.out.below H.out.2.2) i (by rw [HL.out]; exact ci)
      have C3 := Lib.hid (C2.out wr a k cc i H.out.1 (H.out.2.1.byt (pre_rng l i)))
      have N := Lib.hid (pre_next l i (by rw [HL.out]; exact ci))
      have BB := Lib.hid H.out.2.2
      have ci' : (i : Int) < (n : Int) := by omega
      have ci0 : (0 : Int) ≤ (i : Int) := by omega
      have cic : (i : Int) ≤ (c : Int) := by omega
      clear H
      obtain ⟨v, hv⟩ : ∃ v, l.getD i 0 = v := ⟨_, rfl⟩
      rw [hv] at x0 C3 N
      go_wp2_with fail
      refine C3.out.mono ?_
      rintro e w2 ⟨A2, k2, c2, rfl, q2, o2, b2⟩
      have Q2 := Lib.hid q2
      have O2 := Lib.hid o2
      have B2 := Lib.hid b2
      clear q2 o2 b2 C3
      go_wp2_with fail
      go_roundw
      case rel => exact ⟨i + 1, k2, A2, c2, rfl, by go_num, by omega, by rw [N.out]; exact Q2.out, by rw [N.out]; exact O2.out.mono BB.out.size, BB.out.trans (B2.out.mono BB.out.size)⟩
      case measure => simp [intOf]; omega
    · obtain rfl : i = n := by omega
      have hk := PL.out i
      rw [H.out.1] at hk
      have e1 : pre l i = man l := by rw [← HL.out]; exact pre_all l
      obtain ⟨y1, y2, y3⟩ := H.out
      rw [e1] at y1 y2
      have P1 := Lib.hid (put_ok none a 0 0 k cc [] (man l) wr rfl (by omega) (Byt.nil wr) y1 (by omega) (y2.byt (man_rng l)) (HT.out.up y3).crc)
      have BB := Lib.hid y3
      have Y1 := Lib.hid y1
      clear H y1 y2 y3 e1 C2 PL HU HL
      go_wp2_with fail
      refine P1.out.mono ?_
      rintro e w2 ⟨A2, T2, hT2, rfl, o2, b2, q2⟩
      have O2 := Lib.hid o2
      have Y2 := Lib.hid b2
      have BW := Lib.hid (BB.out.trans (q2.mono BB.out.size))
      have LT := Lib.hid (And.intro BB.out.size q2.size)
      have HT2 := Lib.hid hT2
      have TB2 : Hid (T2 ≤ 20000) := Lib.hid (by omega)
      have H2 := Lib.hid (HH.out.below BW.out)
      have F1 := Lib.hid (file_any H2.out ⟨#[116]⟩ (by decide))
      clear o2 b2 q2 hT2 P1
      go_wp2_with fail
      refine F1.out.mono ?_
      rintro e w2' ⟨rfl, rfl⟩
      clear F1
      have D1 := Lib.hid (drop_any H2.out (fT nm) (fT_small H2.out.cf.nm))
      obtain ⟨n1, hn1⟩ : ∃ n1, drp S (fT nm) = n1 := ⟨_, rfl⟩
      obtain ⟨S1, hS1⟩ : ∃ S1, delS S (fT nm) = S1 := ⟨_, rfl⟩
      have N1 := Lib.hid hn1
      have E1 := Lib.hid hS1
      rw [hn1, hS1] at D1
      clear hn1 hS1
      go_wp2_with fail
      refine D1.out.mono ?_
      rintro e w3 ⟨rfl, V3, h3, k3, m3⟩
      have K3 : Hid (Keep (Mu d m V S.fs g rv) w w3) := Lib.hid ((Keep.of_below _ BW.out).trans k3 (fun i _ e => e))
      have M3 := Lib.hid m3
      have SZ3 : Hid (w.heap.size ≤ wr.heap.size ∧ wr.heap.size ≤ w2.heap.size ∧ w2.heap.size ≤ w3.heap.size) := Lib.hid ⟨LT.out.1, LT.out.2, k3.size⟩
      have FR : Hid (∀ x, A2 = some x → wr.heap.size ≤ x.block ∧ x.block < w2.heap.size) := Lib.hid (fun x e => by subst e; exact O2.out.lt x.block rfl)
      have FAR : Hid (∀ x, A2 = some x → ¬ Fp d m V3 S1.fs x.block) := Lib.hid (fun x e f => by
        have h1 := FR.out x e
        have h2 := SZ3.out
        rcases M3.out x.block (.inl f) with h | h
        · have := HH.out.mlt _ h; omega
        · omega)
      have Y3 := Lib.hid (Y2.out.keep k3 (fun x e f => by
        have h1 := FR.out x e
        have h2 := SZ3.out
        have := HH.out.mlt _ f; omega))
      have H3 := Lib.hid h3
      clear h3 k3 m3 D1
      by_cases d1 : n1 = 0
      · subst d1
        have c0 := H3.out.c0
        have A3 := Lib.hid (append_any H3.out.dk (fT nm) (big_of (fT_small H3.out.cf.nm) (by omega)) A2 T2 T2 (fr (man l)) (by rw [fr_len, HT2.out, ← Y1.out]; omega) (by have := Y3.out; rwa [List.nil_append] at this) (fun e => by rw [e] at O2; exact Own.capz O2.out rfl) FAR.out (Nat.le_refl _) (by have := TB2.out; omega))
        obtain ⟨n2, hn2⟩ : ∃ n2, appE S1 (fT nm) (fr (man l)) = n2 := ⟨_, rfl⟩
        obtain ⟨S2, hS2⟩ : ∃ S2, appS S1 (fT nm) (fr (man l)) = S2 := ⟨_, rfl⟩
        have N2 := Lib.hid hn2
        have E2 := Lib.hid hS2
        rw [hn2, hS2] at A3
        clear hn2 hS2 Y3 FAR FR O2 Y2
        go_wp2_with fail
        refine A3.out.mono ?_
        intro e w4 ha
        obtain ⟨rfl, V4, h4, k4, m4⟩ := H3.out.acted ha
        have K4 : Hid (Keep (Mu d m V S.fs g rv) w w4) := Lib.hid (K3.out.trans k4 (fun i hi e => by
          rcases M3.out i e with h | h
          · exact h
          · have := SZ3.out; omega))
        have M4 : Hid (∀ x, Mu d m V4 S2.fs g rv x → Mu d m V S.fs g rv x ∨ w.heap.size ≤ x) := Lib.hid (fun x hx => by
          have := SZ3.out
          rcases m4 x hx with h | h
          · rcases M3.out x h with h | h
            · exact .inl h
            · exact .inr (by omega)
          · exact .inr (by omega))
        have H4 := Lib.hid h4
        clear h4 k4 m4 ha A3
        by_cases d2 : n2 = 0
        · subst d2
          have S4 := Lib.hid (msafe_o H4.out (fT nm) (fT_small H4.out.cf.nm) (HQQ.out true))
          obtain ⟨n3, hn3⟩ : ∃ n3, synE S2 (fT nm) = n3 := ⟨_, rfl⟩
          obtain ⟨S3, hS3⟩ : ∃ S3, synS S2 (fT nm) = S3 := ⟨_, rfl⟩
          have N3 := Lib.hid hn3
          have E3 := Lib.hid hS3
          rw [hn3, hS3] at S4
          clear hn3 hS3
          go_wp2_with fail
          refine S4.out.mono ?_
          rintro e w5 ⟨rfl, V5, h5, k5, m5⟩
          have K5 : Hid (Keep (Mu d m V S.fs g rv) w w5) := Lib.hid (K4.out.trans k5 (fun i hi e => by
            rcases M4.out i e with h | h
            · exact h
            · omega))
          have M5 : Hid (∀ x, Mu d m V5 S3.fs g rv x → Mu d m V S.fs g rv x ∨ w.heap.size ≤ x) := Lib.hid (fun x hx => by
            have := K4.out.size
            rcases m5 x hx with h | h
            · exact M4.out x h
            · exact .inr (by omega))
          have H5 := Lib.hid h5
          clear h5 k5 m5 S4
          by_cases d3 : n3 = 0
          · rw [if_pos d3] at H5
            subst d3
            have c05 := H5.out.c0
            have F5 := Lib.hid (fun W (hb : Below w5.heap.size w5 W) => file_any (H5.out.below hb) ⟨#[109]⟩ (by decide))
            have R5 := Lib.hid (fun W (hb : Below w5.heap.size w5 W) => rename_any (H5.out.below hb).dk (fT nm) (fM nm) (big_of (fT_small H5.out.cf.nm) (by omega)) (big_of (fM_small H5.out.cf.nm) (by omega)))
            have G5 := Lib.hid (fun W (hb : Below w5.heap.size w5 W) e w' (ha : Acted W d m V5 S3 (renE S3 (fT nm) (fM nm)) (renS S3 (fT nm) (fM nm)) e w') =>
              LAo.then_ (K5.out.trans (Keep.of_below (fun _ => False) hb) (fun _ _ h => h.elim)) M5.out (show LAo Q B W d m V5 S3 g nm most sv rv P (renE S3 (fT nm) (fM nm)) (renS S3 (fT nm) (fM nm)) L e w' from (H5.out.below hb).acted ha))
            have TE := Lib.hid (tel_4 N1.out E1.out N2.out E2.out N3.out E3.out)
            obtain ⟨n4, hn4⟩ : ∃ n4, renE S3 (fT nm) (fM nm) = n4 := ⟨_, rfl⟩
            obtain ⟨S4, hS4⟩ : ∃ S4, renS S3 (fT nm) (fM nm) = S4 := ⟨_, rfl⟩
            rw [hn4, hS4] at R5 TE G5
            clear hn4 hS4
            go_wp2_with fail
            go_region_law (first
              | (go_simp; go_at_call 64; refine (F5.out _ (below_drewN _ _ _)).mono ?_; rintro e wq ⟨rfl, rfl⟩)
              | (go_simp; go_at_call 100; refine (R5.out _ (below_drewN _ _ _)).mono ?_; intro e w6 ha; obtain ⟨rfl, hq⟩ := G5.out _ (below_drewN _ _ _) e w6 ha))
            all_goals
              go_wp2_with fail
              go_ret
              exact ⟨L.gn, .inl rfl, by rw [TE.out]; rfl, by rw [TE.out]; exact hq⟩
          · have d3' : ¬ ((n3 : Int) = 0) := by omega
            have X := Lib.hid (tel_3 N1.out E1.out N2.out E2.out (by rw [N3.out]; exact d3))
            have NI := Lib.hid (syn_nine S1 (fT nm) (fr (man l)) H3.out.dk.ok.rise N2.out (by rw [E2.out, N3.out]; exact d3))
            rw [N3.out, E3.out] at X
            rw [E2.out, N3.out] at NI
            rw [if_neg d3] at H5
            go_wp2_with fail
            go_ret
            exact ⟨true, .inr (by rw [X.out]; exact NI.out), by rw [X.out]; rfl, V5, by rw [X.out]; exact H5.out, K5.out, by rw [X.out]; exact M5.out⟩
        · have d2' : ¬ ((n2 : Int) = 0) := by omega
          have X := Lib.hid (tel_2 N1.out E1.out (by rw [N2.out]; exact d2))
          rw [N2.out, E2.out] at X
          go_wp2_with fail
          go_ret
          exact ⟨L.gn, .inl rfl, by rw [X.out]; rfl, V4, by rw [X.out]; exact H4.out, K4.out, by rw [X.out]; exact M4.out⟩
      · have d1' : ¬ ((n1 : Int) = 0) := by omega
        have X := Lib.hid (tel_1 (l := l) (by rw [N1.out]; exact d1))
        rw [N1.out, E1.out] at X
        go_wp2_with fail
        go_ret
        exact ⟨L.gn, .inl rfl, by rw [X.out]; rfl, V3, by rw [X.out]; exact H3.out, K3.out, by rw [X.out]; exact fun x hx => (M3.out x hx).imp id (fun e => by have := SZ3.out; omega)⟩
theorem tell_any (h : Lp B w d m V S g nm most sv rv P L) (A : Option Addr) (n c : Nat) (l : List Nat) (hl : l.length = n) (hn : n ≤ 1002) (hu : Us w A l) (hc : n ≤ c) (hb : ∀ x ∈ l, x < 18446744073709551616) :
    Calls Tryz.prog 66 #[ptr g, .slice A n c] w (TA B w d m V S g nm most sv rv P L (tel nm l S)) := tell_o h h.wf.go A n c l hl hn hu hc hb
end
end Go.Proofs.YtcodihgjfhoepaaGreatDoor
