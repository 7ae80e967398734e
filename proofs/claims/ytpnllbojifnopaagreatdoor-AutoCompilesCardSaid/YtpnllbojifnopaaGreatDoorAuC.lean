/- Parts one behind the other: the program's chain. -/
import Derived.Test.YtpnllbojifnopaaGreatDoorAuE
namespace Go.Proofs.YtpnllbojifnopaaGreatDoor
open Go Go.RowKit Pk Rl
set_option maxRecDepth 20000

/- between two parts -/
structure Ch (wb w W : World) (r : Nat) (x : Nd) (A : Option Addr) (ps : List (List Nd)) (fi la af al : Nat) (P : List VQ) (E : List EV) : Prop where
  mkk : Mk W r P E
  ndb : NB W w.heap.size x
  res : EB W (w.heap.size + 1) 0 0
  all : EB W (w.heap.size + 2) fi la
  ahd : EB W (w.heap.size + 3) af al
  row : PrT wb W A ps
  kr : Ka r w W
  b0 : fi < 4294967296
  b1 : la < 4294967296
  b2 : af < 4294967296
  b3 : al < 4294967296
theorem Ch.next {wb w W W' : World} {r : Nat} {x : Nd} {A : Option Addr} {ps : List (List Nd)} {fi la af al : Nat} {P : List VQ} {E : List EV} (h : Ch wb w W r x A ps fi la af al P E) (hb : Below W.heap.size W W') : Ch wb w W' r x A ps fi la af al P E :=
  ⟨Mk.next h.mkk hb, h.ndb.next hb, h.res.next hb, h.all.next hb, h.ahd.next hb, h.row.next hb, h.kr.next hb (Nat.le_of_lt (Mk.lt h.mkk)), h.b0, h.b1, h.b2, h.b3⟩
theorem Ch.ka {wb w W W' : World} {r : Nat} {x : Nd} {A : Option Addr} {ps : List (List Nd)} {fi la af al : Nat} {P P' : List VQ} {E E' : List EV} (h : Ch wb w W r x A ps fi la af al P E) (hk : Ka r W W') (hr : r < w.heap.size) (hm : Mk W' r P' E') : Ch wb w W' r x A ps fi la af al P' E' :=
  ⟨hm, h.ndb.ka hk (by omega), h.res.ka hk (by omega), h.all.ka hk (by omega), h.ahd.ka hk (by omega), h.row.ka hk h.mkk, h.kr.trans hk, h.b0, h.b1, h.b2, h.b3⟩
theorem NB.other {w : World} {g : Nat} {nd : Nd} (h : NB w g nd) (g' j : Nat) (v : Value) (hne : g ≠ g') : NB (w.setCell ⟨g', j, none⟩ v) g nd := by
  unfold NB
  rw [heap_setCell_other w ⟨g', j, none⟩ g v hne]
  exact h
theorem Ch.fst {wb w W : World} {r : Nat} {x : Nd} {A : Option Addr} {ps : List (List Nd)} {fi la af al : Nat} {P : List VQ} {E : List EV} (h : Ch wb w W r x A ps fi la af al P E) (hr : r < w.heap.size) (c : Nat) (hc : c < 4294967296) : Ch wb w (W.setCell ⟨w.heap.size + 2, 0, none⟩ (.int .u32 (c : Int))) r x A ps c la af al P E :=
  ⟨Mk.eset h.mkk h.all 0 _, h.ndb.other _ _ _ (by omega), h.res.other _ _ _ (by omega), h.all.set0 c, h.ahd.other _ _ _ (by omega), h.row.eset h.all 0 _, h.kr.loc _ 0 _ (by omega) (by omega), hc, h.b1, h.b2, h.b3⟩
theorem Ch.lst {wb w W : World} {r : Nat} {x : Nd} {A : Option Addr} {ps : List (List Nd)} {fi la af al : Nat} {P : List VQ} {E : List EV} (h : Ch wb w W r x A ps fi la af al P E) (hr : r < w.heap.size) (c : Nat) (hc : c < 4294967296) : Ch wb w (W.setCell ⟨w.heap.size + 2, 1, none⟩ (.int .u32 (c : Int))) r x A ps fi c af al P E :=
  ⟨Mk.eset h.mkk h.all 1 _, h.ndb.other _ _ _ (by omega), h.res.other _ _ _ (by omega), h.all.set1 c, h.ahd.other _ _ _ (by omega), h.row.eset h.all 1 _, h.kr.loc _ 1 _ (by omega) (by omega), h.b0, hc, h.b2, h.b3⟩
theorem Ch.ahds {wb w W : World} {r : Nat} {x : Nd} {A : Option Addr} {ps : List (List Nd)} {fi la af al : Nat} {P : List VQ} {E : List EV} (h : Ch wb w W r x A ps fi la af al P E) (hr : r < w.heap.size) (c d : Nat) (hc : c < 4294967296) (hd : d < 4294967296) :
    Ch wb w ((W.setCell ⟨w.heap.size + 3, 0, none⟩ (.int .u32 (c : Int))).setCell ⟨w.heap.size + 3, 1, none⟩ (.int .u32 (d : Int))) r x A ps fi la c d P E :=
  have h0 := h.ahd.set0 c
  ⟨Mk.eset (Mk.eset h.mkk h.ahd 0 _) h0 1 _, (h.ndb.other _ _ _ (by omega)).other _ _ _ (by omega), (h.res.other _ _ _ (by omega)).other _ _ _ (by omega), (h.all.other _ _ _ (by omega)).other _ _ _ (by omega), h0.set1 d, (h.row.eset h.ahd 0 _).eset h0 1 _, (h.kr.loc _ 0 _ (by omega) (by omega)).loc _ 1 _ (by omega) (by omega), h.b0, h.b1, hc, hd⟩
set_option maxHeartbeats 16000000 in
theorem chain_any (wb : World) (r : Nat) (f : List Nd → Nat → Res) (x : Nd) (least : Nat) (hle : least ≤ 256) (ps : List (List Nd)) (hne : ps ≠ []) (hlen : ps.length ≤ 256) (IH : ∀ p ∈ ps, AC wb r f p) (HB : ∀ p ∈ ps, ∀ n, n + (f p n).2.2.1.length ≤ 32 → (f p n).1 < 4294967296 ∧ (f p n).2.1 < 4294967296)
    (w : World) (A : Option Addr) (C : Nat) (P : List VQ) (E : List EV) (h : Mk w r P E) (hwb : Below wb.heap.size wb w) (hrb : wb.heap.size ≤ r) (hT : Tab5 wb) (hx : Nok wb x) (hp : PrT wb w A ps) (hP : P.length + (ch f P.length x.y (vq x.g) least ps).2.2.1.length ≤ 32) (hE : E.length + (ch f P.length x.y (vq x.g) least ps).2.2.2.length ≤ 1000000000) :
    Calls Tryz.prog 82 #[.pointer (some ⟨r, 0, none⟩), nOf x, .slice A ps.length C, .int .i64 (least : Int)] w fun e w' => PtR r w (ch f P.length x.y (vq x.g) least ps) P E e w' := by
  have zr := Mk.lt h
  obtain ⟨N, hN⟩ : ∃ N, ps.length = N := ⟨_, rfl⟩
  obtain ⟨Y, hY⟩ : ∃ Y, x.y = Y := ⟨_, rfl⟩
  obtain ⟨G, hG⟩ : ∃ G, vq x.g = G := ⟨_, rfl⟩
  rw [hY, hG] at hP hE ⊢
  obtain ⟨w1, hw1⟩ : ∃ X, (((w.alloc (nobj x)).alloc (.cells #[.int .u32 0, .int .u32 0] 121)).alloc (.cells #[.int .u32 0, .int .u32 0] 121)).alloc (.cells #[.int .u32 0, .int .u32 0] 121) = X := ⟨_, rfl⟩
  have b1 : Below w.heap.size w w1 := hw1 ▸ below_go (below_go (below_go (below_alloc w _) (below_alloc _ _)) (below_alloc _ _)) (below_alloc _ _)
  have I0 := Lib.hid (show Ch wb w w1 r x A ps 0 0 0 0 (P ++ []) (E ++ []) from by
    refine ⟨by simpa using Mk.next h b1, ?_, ?_, ?_, ?_, hp.next b1, Ka.of_below b1 (Nat.le_of_lt zr), by decide, by decide, by decide, by decide⟩
    · rw [← hw1]; exact (NB.alloc w x).next (below_go (below_go (below_alloc _ _) (below_alloc _ _)) (below_alloc _ _))
    · rw [← hw1]; have := (EB.alloc (w.alloc (nobj x)) 0 0).next (below_go (below_alloc _ (.cells #[.int .u32 0, .int .u32 0] 121)) (below_alloc _ (.cells #[.int .u32 0, .int .u32 0] 121))); rw [World.size_alloc] at this; exact this
    · rw [← hw1]; have := (EB.alloc ((w.alloc (nobj x)).alloc (.cells #[.int .u32 0, .int .u32 0] 121)) 0 0).next (below_alloc _ (.cells #[.int .u32 0, .int .u32 0] 121)); rw [World.size_alloc, World.size_alloc] at this; exact this
    · rw [← hw1]; have := EB.alloc (((w.alloc (nobj x)).alloc (.cells #[.int .u32 0, .int .u32 0] 121)).alloc (.cells #[.int .u32 0, .int .u32 0] 121)) 0 0; rw [World.size_alloc, World.size_alloc, World.size_alloc] at this; exact this)
  have FS := Lib.hid (fun i (hi : i < N) => foldl_snoc (cst f P.length Y G least) cs0 ps [] i (by omega))
  have FP := Lib.hid (fun i => foldl_part (cst f P.length Y G least) (fun s => s.P.length) (fun s p => cst_P f P.length Y G least s p) ps cs0 i)
  have FE := Lib.hid (fun i => foldl_part (cst f P.length Y G least) (fun s => s.E.length) (fun s p => cst_E f P.length Y G least s p) ps cs0 i)
  have FI := Lib.hid (fun i (hi : i ≤ N) => (show ((ps.take i).foldl (cst f P.length Y G least) cs0).i = i by rw [cst_i, List.length_take]; show 0 + _ = i; omega))
  obtain ⟨RR, hRR⟩ : ∃ R, chf f P.length Y G least ps = R := ⟨_, rfl⟩
  have FN : Hid ((ps.take N).foldl (cst f P.length Y G least) cs0 = RR) := Lib.hid (by rw [← hN, List.take_length, ← hRR]; rfl)
  have eR : ch f P.length Y G least ps = (RR.fi, RR.la, RR.P, RR.E) := by unfold ch; rw [hRR]
  rw [eR] at hP hE ⊢
  simp only at hP hE
  obtain ⟨PT, hPT⟩ : ∃ n, RR.P.length = n := ⟨_, rfl⟩
  obtain ⟨ET, hET⟩ : ∃ n, RR.E.length = n := ⟨_, rfl⟩
  have HP1 : Hid ((chf f P.length Y G least ps).P.length = PT) := Lib.hid (by rw [hRR]; exact hPT)
  have HE1 : Hid ((chf f P.length Y G least ps).E.length = ET) := Lib.hid (by rw [hRR]; exact hET)
  rw [hPT] at hP
  rw [hET] at hE
  obtain ⟨x1, x2, x3, x4, xP, xE, xi⟩ := RR
  have HIH := Lib.hid IH
  have HHB := Lib.hid HB
  have PM := Lib.hid (fun i (hi : i < N) => pgetD_mem ps i (by omega))
  have JN := Lib.hid (fun W a1 a2 n1 n2 P E (hC : Mk W r P E) h1 h2 hb hE => join_any r x a1 a2 n1 n2 P E wb W hC h1 h2 hx hT hb hrb hE)
  rw [hY, hG] at JN
  rw [hN] at hlen ⊢
  have HW := Lib.hid hwb
  have HNE := Lib.hid hne
  have HN := Lib.hid hN
  clear h b1 hp IH HB hN hPT hET hwb hne hRR eR hY hG hT hx
  obtain ⟨k, ⟨px, pt, pa, pn, pc, pL⟩, y, ⟨gx, gt, ga, gn, gc, gL⟩, lo, hi0, s0⟩ := x
  go_enter Tryz.func82, Tryz.ntmps82
  go_upto_region 2 with fail
  clear hw1
  go_wp2_with fail
  go_loopw [11, 12, 13, 16] (fun _ _ _ t W => ∃ (i : Nat) (s : Cs), i ≤ N ∧ t = .int .i64 (i : Int) ∧ Hid ((ps.take i).foldl (cst f P.length Y G least) cs0 = s ∧ Ch wb w W r ⟨k, ⟨px, pt, pa, pn, pc, pL⟩, y, ⟨gx, gt, ga, gn, gc, gL⟩, lo, hi0, s0⟩ A ps s.fi s.la s.af s.al (P ++ s.P) (E ++ s.E))) (fun _ _ _ t _ => N - (intOf t).toNat)
  case atStart => exact ⟨0, cs0, Nat.zero_le _, rfl, Lib.hid ⟨rfl, I0.out⟩⟩
  case round =>
    obtain ⟨i, s, hi, rfl, II⟩ := hrel
    have SE := Lib.hid II.out.1
    have I := Lib.hid II.out.2
    clear II I0
    by_cases hlt : i < N
    · have hs := FS.out i hlt
      have hpm := PM.out i hlt
      have hsi := FI.out i hi
      obtain ⟨g, rfl, zg, hat⟩ := I.out.row.at HNE.out
      obtain ⟨A', C', hcell, hPt⟩ := hat i (by rw [HN.out]; exact hlt)
      have hFP := FP.out (i + 1)
      have hFE := FE.out (i + 1)
      rw [hs] at hFP hFE
      rw [SE.out] at hs hFP hFE hsi
      generalize ps.getD i [] = p at hs hpm hcell hPt hFP hFE
      have hP2 : P.length + s.P.length + (f p (P.length + s.P.length)).2.2.1.length ≤ 32 := by
        have h1 : (cst f P.length Y G least s p).P.length = s.P.length + (f p (P.length + s.P.length)).2.2.1.length := by unfold cst; simp
        have h2 := HP1.out
        unfold chf at h2
        omega
      have hE2 : E.length + s.E.length + (f p (P.length + s.P.length)).2.2.2.length ≤ 1000000000 := by
        have h1 : s.E.length + (f p (P.length + s.P.length)).2.2.2.length ≤ (cst f P.length Y G least s p).E.length := by unfold cst; simp
        have h2 := HE1.out
        unfold chf at h2
        omega
      have CA := HIH.out p hpm wr A' p.length C' (P ++ s.P) (E ++ s.E) I.out.mkk (HW.out.trans (I.out.kr.o.mono hrb)) hPt (by rw [List.length_append]; exact hP2) (by rw [List.length_append, List.length_append]; exact hE2)
      have hb := HHB.out p hpm (P.length + s.P.length) hP2
      rw [List.length_append] at CA
      obtain ⟨t1, t2, t3, t4, tP, tE, ti⟩ := s
      simp only at I CA hb hs hsi hE2
      subst hsi
      obtain ⟨R, hR⟩ : ∃ R, f p (P.length + tP.length) = R := ⟨_, rfl⟩
      have hs2 : Hid ((ps.take (ti + 1)).foldl (cst f P.length Y G least) cs0 = ⟨if ti = 0 then R.1 else t1, if least ≤ ti + 1 then t2 ||| R.2.1 else t2, R.1, R.2.1, tP ++ R.2.2.1, tE ++ R.2.2.2 ++ jn Y G t4 R.1, ti + 1⟩) := Lib.hid (by rw [hs, ← hR]; rfl)
      rw [hR] at CA hb hE2
      obtain ⟨r1, r2, rP, rE⟩ := R
      simp only at hb hs2 hE2
      have HCA := Lib.hid CA
      have o2 := u32_or_nat t2 r2 I.out.b1 hb.2
      have hb1 := hb.1
      have hb2 := hb.2
      have HE2 := Lib.hid hE2
      clear hs hpm hat hPt hFP hFE hP2 hE2 CA hb hR SE
      go_wp2_with fail
      refine HCA.out.mono ?_
      rintro e w2 ⟨rfl, hMk, hKa⟩
      have n3 := below_alloc w2 (eobj r1 r2)
      have C3 := Lib.hid ((I.out.ka hKa zr hMk).next n3)
      have N3 := Lib.hid (EB.alloc w2 r1 r2)
      have Z3 := Lib.hid (show w.heap.size + 3 < w2.heap.size by have := (I.out.ka hKa zr hMk).ahd.lt; omega)
      clear hMk hKa n3 I HCA
      go_upto_region 6 with fail
      generalize w2.alloc (eobj r1 r2) = w3 at C3 N3 ⊢
      generalize w2.heap.size = b8 at N3 Z3 ⊢
      obtain ⟨n0, n1, _⟩ := N3.out.cells
      obtain ⟨a0, a1, af⟩ := C3.out.all.cells
      have f0 := af 0
      have za := C3.out.all.lt
      have zd := Z3.out
      clear af
      by_cases ci : ti = 0
      · have CI : Hid (ti = 0) := Lib.hid ci
        have ci1 : ((ti : Int) == 0) = true := by simp [ci]
        have ci2 : decide ((ti : Int) = 0) = true := by simp [ci]
        have C4 := Lib.hid (C3.out.fst zr r1 hb1)
        have N4 := Lib.hid (N3.out.other (w.heap.size + 2) 0 (.int .u32 (r1 : Int)) (by omega))
        clear C3 N3 ci
        go_upto_region 8 with fail
        generalize w3.setCell ⟨w.heap.size + 2, 0, none⟩ (.int .u32 (r1 : Int)) = w4 at C4 N4 ⊢
        clear a0 a1 f0 za n0 n1 ci1 ci2
        obtain ⟨a0, a1, af⟩ := C4.out.all.cells
        have f1 := af 1
        have za := C4.out.all.lt
        obtain ⟨n0, n1, _⟩ := N4.out.cells
        clear af
        by_cases cl : least ≤ ti + 1
        · have cl1 : ((least : Int) ≤ (ti : Int) + 1) := by omega
          have NX : Hid ((ps.take (ti + 1)).foldl (cst f P.length Y G least) cs0 = ⟨r1, t2 ||| r2, r1, r2, tP ++ rP, tE ++ rE ++ jn Y G t4 r1, ti + 1⟩) := Lib.hid (by rw [hs2.out, if_pos CI.out, if_pos cl])
          have C5 := Lib.hid (C4.out.lst zr (t2 ||| r2) (or32 C4.out.b1 hb2))
          have N5 := Lib.hid (N4.out.other (w.heap.size + 2) 1 (.int .u32 ((t2 ||| r2 : Nat) : Int)) (by omega))
          clear C4 N4 hs2 CI
          go_upto_region 10 with fail
          generalize w4.setCell ⟨w.heap.size + 2, 1, none⟩ (.int .u32 ((t2 ||| r2 : Nat) : Int)) = w5 at C5 N5 ⊢
          clear a0 a1 f1 za n0 n1 cl cl1
          obtain ⟨n0, n1, _⟩ := N5.out.cells
          obtain ⟨d0, d1, d2, d3, d4, d5, d6, d7, d8, d9, d10⟩ := C5.out.ndb.atn
          simp only [Nat.zero_add] at d0 d1 d2 d3 d4 d5 d6 d7 d8 d9 d10
          obtain ⟨e0, e1, _⟩ := C5.out.ahd.cells
          have ze := C5.out.ahd.lt
          have zn := N5.out.lt
          have JJ := Lib.hid (JN.out _ t3 t4 r1 r2 _ _ C5.out.mkk C5.out.b3 hb1 (HW.out.trans (C5.out.kr.o.mono hrb)) (by rw [List.length_append, List.length_append]; exact HE2.out))
          go_wp2_with fail
          refine JJ.out.mono ?_
          rintro e w6 ⟨⟨v, rfl⟩, hMk, hKa⟩
          have C6 := Lib.hid (C5.out.ka hKa zr hMk)
          have N6 := Lib.hid (N5.out.ka hKa (by omega))
          clear hMk hKa C5 N5 JJ n0 n1 d0 d1 d2 d3 d4 d5 d6 d7 d8 d9 d10 e0 e1 ze zn
          obtain ⟨n0, n1, _⟩ := N6.out.cells
          obtain ⟨e0, e1, ef⟩ := C6.out.ahd.cells
          have f0 := ef 0
          have f1 := ef 1
          have ze := C6.out.ahd.lt
          have zn := N6.out.lt
          have C7 := Lib.hid (C6.out.ahds zr r1 r2 hb1 hb2)
          clear ef C6 N6
          go_wp2_with fail
          exact ⟨⟨ti + 1, _, by omega, by go_num, Lib.hid ⟨NX.out, by simpa [List.append_assoc] using C7.out⟩⟩, by simp [intOf]; omega⟩
        · have cl1 : ¬ ((least : Int) ≤ (ti : Int) + 1) := by omega
          have NX : Hid ((ps.take (ti + 1)).foldl (cst f P.length Y G least) cs0 = ⟨r1, t2, r1, r2, tP ++ rP, tE ++ rE ++ jn Y G t4 r1, ti + 1⟩) := Lib.hid (by rw [hs2.out, if_pos CI.out, if_neg cl])
          have C5 := Lib.hid C4.out
          have N5 := Lib.hid N4.out
          clear C4 N4 hs2 CI
          go_upto_region 10 with fail
          obtain ⟨w5, hw5⟩ : ∃ W, W = w4 := ⟨_, rfl⟩
          subst hw5
          clear a0 a1 f1 za n0 n1 cl cl1
          obtain ⟨n0, n1, _⟩ := N5.out.cells
          obtain ⟨d0, d1, d2, d3, d4, d5, d6, d7, d8, d9, d10⟩ := C5.out.ndb.atn
          simp only [Nat.zero_add] at d0 d1 d2 d3 d4 d5 d6 d7 d8 d9 d10
          obtain ⟨e0, e1, _⟩ := C5.out.ahd.cells
          have ze := C5.out.ahd.lt
          have zn := N5.out.lt
          have JJ := Lib.hid (JN.out _ t3 t4 r1 r2 _ _ C5.out.mkk C5.out.b3 hb1 (HW.out.trans (C5.out.kr.o.mono hrb)) (by rw [List.length_append, List.length_append]; exact HE2.out))
          go_wp2_with fail
          refine JJ.out.mono ?_
          rintro e w6 ⟨⟨v, rfl⟩, hMk, hKa⟩
          have C6 := Lib.hid (C5.out.ka hKa zr hMk)
          have N6 := Lib.hid (N5.out.ka hKa (by omega))
          clear hMk hKa C5 N5 JJ n0 n1 d0 d1 d2 d3 d4 d5 d6 d7 d8 d9 d10 e0 e1 ze zn
          obtain ⟨n0, n1, _⟩ := N6.out.cells
          obtain ⟨e0, e1, ef⟩ := C6.out.ahd.cells
          have f0 := ef 0
          have f1 := ef 1
          have ze := C6.out.ahd.lt
          have zn := N6.out.lt
          have C7 := Lib.hid (C6.out.ahds zr r1 r2 hb1 hb2)
          clear ef C6 N6
          go_wp2_with fail
          exact ⟨⟨ti + 1, _, by omega, by go_num, Lib.hid ⟨NX.out, by simpa [List.append_assoc] using C7.out⟩⟩, by simp [intOf]; omega⟩

      · have CI : Hid (¬ ti = 0) := Lib.hid ci
        have ci1 : ((ti : Int) == 0) = false := by simp [ci]
        have ci2 : decide ((ti : Int) = 0) = false := by simp [ci]
        have C4 := Lib.hid C3.out
        have N4 := Lib.hid N3.out
        clear C3 N3 ci
        go_upto_region 8 with fail
        obtain ⟨w4, hw4⟩ : ∃ W, W = w3 := ⟨_, rfl⟩
        subst hw4
        clear a0 a1 f0 za n0 n1 ci1 ci2
        obtain ⟨a0, a1, af⟩ := C4.out.all.cells
        have f1 := af 1
        have za := C4.out.all.lt
        obtain ⟨n0, n1, _⟩ := N4.out.cells
        clear af
        by_cases cl : least ≤ ti + 1
        · have cl1 : ((least : Int) ≤ (ti : Int) + 1) := by omega
          have NX : Hid ((ps.take (ti + 1)).foldl (cst f P.length Y G least) cs0 = ⟨t1, t2 ||| r2, r1, r2, tP ++ rP, tE ++ rE ++ jn Y G t4 r1, ti + 1⟩) := Lib.hid (by rw [hs2.out, if_neg CI.out, if_pos cl])
          have C5 := Lib.hid (C4.out.lst zr (t2 ||| r2) (or32 C4.out.b1 hb2))
          have N5 := Lib.hid (N4.out.other (w.heap.size + 2) 1 (.int .u32 ((t2 ||| r2 : Nat) : Int)) (by omega))
          clear C4 N4 hs2 CI
          go_upto_region 10 with fail
          generalize w4.setCell ⟨w.heap.size + 2, 1, none⟩ (.int .u32 ((t2 ||| r2 : Nat) : Int)) = w5 at C5 N5 ⊢
          clear a0 a1 f1 za n0 n1 cl cl1
          obtain ⟨n0, n1, _⟩ := N5.out.cells
          obtain ⟨d0, d1, d2, d3, d4, d5, d6, d7, d8, d9, d10⟩ := C5.out.ndb.atn
          simp only [Nat.zero_add] at d0 d1 d2 d3 d4 d5 d6 d7 d8 d9 d10
          obtain ⟨e0, e1, _⟩ := C5.out.ahd.cells
          have ze := C5.out.ahd.lt
          have zn := N5.out.lt
          have JJ := Lib.hid (JN.out _ t3 t4 r1 r2 _ _ C5.out.mkk C5.out.b3 hb1 (HW.out.trans (C5.out.kr.o.mono hrb)) (by rw [List.length_append, List.length_append]; exact HE2.out))
          go_wp2_with fail
          refine JJ.out.mono ?_
          rintro e w6 ⟨⟨v, rfl⟩, hMk, hKa⟩
          have C6 := Lib.hid (C5.out.ka hKa zr hMk)
          have N6 := Lib.hid (N5.out.ka hKa (by omega))
          clear hMk hKa C5 N5 JJ n0 n1 d0 d1 d2 d3 d4 d5 d6 d7 d8 d9 d10 e0 e1 ze zn
          obtain ⟨n0, n1, _⟩ := N6.out.cells
          obtain ⟨e0, e1, ef⟩ := C6.out.ahd.cells
          have f0 := ef 0
          have f1 := ef 1
          have ze := C6.out.ahd.lt
          have zn := N6.out.lt
          have C7 := Lib.hid (C6.out.ahds zr r1 r2 hb1 hb2)
          clear ef C6 N6
          go_wp2_with fail
          exact ⟨⟨ti + 1, _, by omega, by go_num, Lib.hid ⟨NX.out, by simpa [List.append_assoc] using C7.out⟩⟩, by simp [intOf]; omega⟩
        · have cl1 : ¬ ((least : Int) ≤ (ti : Int) + 1) := by omega
          have NX : Hid ((ps.take (ti + 1)).foldl (cst f P.length Y G least) cs0 = ⟨t1, t2, r1, r2, tP ++ rP, tE ++ rE ++ jn Y G t4 r1, ti + 1⟩) := Lib.hid (by rw [hs2.out, if_neg CI.out, if_neg cl])
          have C5 := Lib.hid C4.out
          have N5 := Lib.hid N4.out
          clear C4 N4 hs2 CI
          go_upto_region 10 with fail
          obtain ⟨w5, hw5⟩ : ∃ W, W = w4 := ⟨_, rfl⟩
          subst hw5
          clear a0 a1 f1 za n0 n1 cl cl1
          obtain ⟨n0, n1, _⟩ := N5.out.cells
          obtain ⟨d0, d1, d2, d3, d4, d5, d6, d7, d8, d9, d10⟩ := C5.out.ndb.atn
          simp only [Nat.zero_add] at d0 d1 d2 d3 d4 d5 d6 d7 d8 d9 d10
          obtain ⟨e0, e1, _⟩ := C5.out.ahd.cells
          have ze := C5.out.ahd.lt
          have zn := N5.out.lt
          have JJ := Lib.hid (JN.out _ t3 t4 r1 r2 _ _ C5.out.mkk C5.out.b3 hb1 (HW.out.trans (C5.out.kr.o.mono hrb)) (by rw [List.length_append, List.length_append]; exact HE2.out))
          go_wp2_with fail
          refine JJ.out.mono ?_
          rintro e w6 ⟨⟨v, rfl⟩, hMk, hKa⟩
          have C6 := Lib.hid (C5.out.ka hKa zr hMk)
          have N6 := Lib.hid (N5.out.ka hKa (by omega))
          clear hMk hKa C5 N5 JJ n0 n1 d0 d1 d2 d3 d4 d5 d6 d7 d8 d9 d10 e0 e1 ze zn
          obtain ⟨n0, n1, _⟩ := N6.out.cells
          obtain ⟨e0, e1, ef⟩ := C6.out.ahd.cells
          have f0 := ef 0
          have f1 := ef 1
          have ze := C6.out.ahd.lt
          have zn := N6.out.lt
          have C7 := Lib.hid (C6.out.ahds zr r1 r2 hb1 hb2)
          clear ef C6 N6
          go_wp2_with fail
          exact ⟨⟨ti + 1, _, by omega, by go_num, Lib.hid ⟨NX.out, by simpa [List.append_assoc] using C7.out⟩⟩, by simp [intOf]; omega⟩

    · obtain rfl : i = N := by omega
      have J := I.out
      have hfn := SE.out
      rw [FN.out] at hfn
      subst hfn
      obtain ⟨a0, a1, af⟩ := J.all.cells
      obtain ⟨c0, c1, cf⟩ := J.res.cells
      have f0 := cf 0
      have f1 := cf 1
      have za := J.all.lt
      have MF := Lib.hid (Mk.eset (Mk.eset J.mkk J.res 0 (.int .u32 (x1 : Int))) (J.res.set0 x1) 1 (.int .u32 (x2 : Int)))
      have KF := Lib.hid ((J.kr.loc (w.heap.size + 1) 0 (.int .u32 (x1 : Int)) (by omega) (by omega)).loc (w.heap.size + 1) 1 (.int .u32 (x2 : Int)) (by omega) (by omega))
      clear af cf J I SE
      go_wp2_with fail
      refine bodyPost_ret (v := ev2 x1 x2) (by simp [results, Tryz.results82, go_sem, *]) rfl ⟨rfl, MF.out, KF.out⟩
end Go.Proofs.YtpnllbojifnopaaGreatDoor
