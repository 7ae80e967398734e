/- Contracts, joined: AuE, AuC, AuM, AuPt, AuQ, AuS. -/
import Derived.Test.YtpnllbojifnopaaGreatDoorYB1
import Derived.Deep.RegionHeld3
import Derived.Test.YtpnllbojifnopaaGreatDoorDnLay
import Derived.LoopN
namespace Go.Proofs.YtpnllbojifnopaaGreatDoor
open Go Go.RowKit Pk Rl
set_option maxRecDepth 20000
structure Ei (wb w W : World) (r : Nat) (A : Option Addr) (ps : List (List Nd)) (s : Res) (P : List VQ) (E : List EV) : Prop where
  mkk : Mk W r (P ++ s.2.2.1) (E ++ s.2.2.2)
  res : EB W w.heap.size 0 0
  all : EB W (w.heap.size + 1) s.1 s.2.1
  row : PrT wb W A ps
  kr : Ka r w W
  b0 : s.1 < 4294967296
  b1 : s.2.1 < 4294967296
theorem or32 {a b : Nat} (ha : a < 4294967296) (hb : b < 4294967296) : a ||| b < 4294967296 := Nat.or_lt_two_pow (n := 32) ha hb
set_option maxHeartbeats 8000000 in
theorem either_any (wb : World) (r : Nat) (f : List Nd → Nat → Res) (ps : List (List Nd)) (hne : ps ≠ []) (hlen : ps.length ≤ 256) (IH : ∀ p ∈ ps, AC wb r f p) (HB : ∀ p ∈ ps, ∀ n, n + (f p n).2.2.1.length ≤ 32 → (f p n).1 < 4294967296 ∧ (f p n).2.1 < 4294967296)
    (w : World) (A : Option Addr) (C : Nat) (P : List VQ) (E : List EV) (h : Mk w r P E) (hwb : Below wb.heap.size wb w) (hrb : wb.heap.size ≤ r) (hp : PrT wb w A ps) (hP : P.length + (ei f P.length ps).2.2.1.length ≤ 32) (hE : E.length + (ei f P.length ps).2.2.2.length ≤ 1000000000) :
    Calls Tryz.prog 83 #[.pointer (some ⟨r, 0, none⟩), .slice A ps.length C] w fun e w' => PtR r w (ei f P.length ps) P E e w' := by
  have zr := Mk.lt h
  obtain ⟨N, hN⟩ : ∃ N, ps.length = N := ⟨_, rfl⟩
  obtain ⟨w1, hw1⟩ : ∃ X, (w.alloc (.cells #[.int .u32 0, .int .u32 0] 121)).alloc (.cells #[.int .u32 0, .int .u32 0] 121) = X := ⟨_, rfl⟩
  have b1 : Below w.heap.size w w1 := hw1 ▸ below_go (below_alloc w _) (below_alloc _ _)
  have I0 := Lib.hid (show Ei wb w w1 r A ps (0, 0, [], []) P E from by
    refine ⟨by simpa using Mk.next h b1, ?_, ?_, hp.next b1, Ka.of_below b1 (Nat.le_of_lt zr), by decide, by decide⟩
    · rw [← hw1]; exact (EB.alloc w 0 0).next (below_alloc _ _)
    · rw [← hw1, ← World.size_alloc w (.cells #[.int .u32 0, .int .u32 0] 121)]; exact EB.alloc _ 0 0)
  have FS := Lib.hid (fun i (hi : i < N) => foldl_snoc (eis f P.length) (0, 0, [], []) ps [] i (by omega))
  have FP := Lib.hid (fun i => foldl_part (eis f P.length) (fun s => s.2.2.1.length) (fun s p => eis_P f P.length s p) ps (0, 0, [], []) i)
  have FE := Lib.hid (fun i => foldl_part (eis f P.length) (fun s => s.2.2.2.length) (fun s p => eis_E f P.length s p) ps (0, 0, [], []) i)
  obtain ⟨RR, hRR⟩ : ∃ R, ei f P.length ps = R := ⟨_, rfl⟩
  obtain ⟨x1, x2, xP, xE⟩ := RR
  have FN : Hid ((ps.take N).foldl (eis f P.length) (0, 0, [], []) = (x1, x2, xP, xE)) := Lib.hid (by rw [← hN, List.take_length, ← hRR]; rfl)
  have HIH := Lib.hid IH
  have HHB := Lib.hid HB
  have PM := Lib.hid (fun i (hi : i < N) => pgetD_mem ps i (by omega))
  obtain ⟨PT, hPT⟩ : ∃ n, (ei f P.length ps).2.2.1.length = n := ⟨_, rfl⟩
  obtain ⟨ET, hET⟩ : ∃ n, (ei f P.length ps).2.2.2.length = n := ⟨_, rfl⟩
  have HP1 := Lib.hid hPT
  have HE1 := Lib.hid hET
  rw [hPT] at hP
  rw [hET] at hE
  rw [hRR]
  rw [hN] at hlen ⊢
  have HW := Lib.hid hwb
  have HNE := Lib.hid hne
  have HN := Lib.hid hN
  clear h b1 hp IH HB hN hPT hET hwb hne hRR
  go_enter Tryz.func83, Tryz.ntmps83
  go_upto_region 2 with fail
  clear hw1
  go_wp2_with fail
  go_loopw [7, 8, 11] (fun _ _ t W => ∃ i : Nat, i ≤ N ∧ t = .int .i64 (i : Int) ∧ Hid (Ei wb w W r A ps ((ps.take i).foldl (eis f P.length) (0, 0, [], [])) P E)) (fun _ _ t _ => N - (intOf t).toNat)
  case atStart => exact ⟨0, Nat.zero_le _, rfl, I0.out |> Lib.hid⟩
  case round =>
    obtain ⟨i, hi, rfl, I⟩ := hrel
    by_cases hlt : i < N
    · have hs := FS.out i hlt
      have hpm := PM.out i hlt
      obtain ⟨g, rfl, zg, hat⟩ := I.out.row.at HNE.out
      obtain ⟨A', C', hcell, hPt⟩ := hat i (by rw [HN.out]; exact hlt)
      have hFP := FP.out (i + 1)
      have hFE := FE.out (i + 1)
      rw [hs] at hFP hFE
      generalize (ps.take i).foldl (eis f P.length) (0, 0, [], []) = s at I hs hFP hFE
      generalize ps.getD i [] = p at hs hpm hcell hPt hFP hFE
      have hP2 : P.length + s.2.2.1.length + (f p (P.length + s.2.2.1.length)).2.2.1.length ≤ 32 := by
        have h1 : (eis f P.length s p).2.2.1.length = s.2.2.1.length + (f p (P.length + s.2.2.1.length)).2.2.1.length := by unfold eis; simp
        have h2 := HP1.out
        unfold ei at h2
        omega
      have hE2 : E.length + s.2.2.2.length + (f p (P.length + s.2.2.1.length)).2.2.2.length ≤ 1000000000 := by
        have h1 : (eis f P.length s p).2.2.2.length = s.2.2.2.length + (f p (P.length + s.2.2.1.length)).2.2.2.length := by unfold eis; simp
        have h2 := HE1.out
        unfold ei at h2
        omega
      have CA := HIH.out p hpm wr A' p.length C' (P ++ s.2.2.1) (E ++ s.2.2.2) I.out.mkk (HW.out.trans (I.out.kr.o.mono hrb)) hPt (by rw [List.length_append]; exact hP2) (by rw [List.length_append, List.length_append]; exact hE2)
      have hb := HHB.out p hpm (P.length + s.2.2.1.length) hP2
      rw [List.length_append] at CA
      obtain ⟨t1, t2, tP, tE⟩ := s
      simp only at I CA hb hs
      obtain ⟨R, hR⟩ : ∃ R, f p (P.length + tP.length) = R := ⟨_, rfl⟩
      have hs2 : Hid ((ps.take (i + 1)).foldl (eis f P.length) (0, 0, [], []) = (t1 ||| R.1, t2 ||| R.2.1, tP ++ R.2.2.1, tE ++ R.2.2.2)) := Lib.hid (by rw [hs, ← hR]; rfl)
      rw [hR] at CA hb
      obtain ⟨r1, r2, rP, rE⟩ := R
      simp only at hb hs2
      have HCA := Lib.hid CA
      have o1 := u32_or_nat t1 r1 I.out.b0 hb.1
      have o2 := u32_or_nat t2 r2 I.out.b1 hb.2
      have hb1 := hb.1
      have hb2 := hb.2
      clear hs hpm hat hPt hFP hFE hP2 hE2 CA hb hR
      go_wp2_with fail
      refine HCA.out.mono ?_
      rintro e w2 ⟨rfl, hMk, hKa⟩
      have n3 := below_alloc w2 (eobj r1 r2)
      have zA := I.out.all.lt
      have zr2 : r < wr.heap.size := Mk.lt I.out.mkk
      have zk := hKa.z
      have zw := I.out.kr.z
      have M3 := Lib.hid (Mk.next hMk n3)
      have K3 := Lib.hid ((I.out.kr.trans hKa).next n3 (by omega))
      have E3 := Lib.hid ((I.out.all.ka hKa (by omega)).next n3)
      have R3 := Lib.hid ((I.out.res.ka hKa (by omega)).next n3)
      have T3 := Lib.hid ((I.out.row.ka hKa I.out.mkk).next n3)
      have N3 := Lib.hid (EB.alloc w2 r1 r2)
      have B0 := Lib.hid I.out.b0
      have B1 := Lib.hid I.out.b1
      have Z3 := Lib.hid (show w.heap.size + 1 < w2.heap.size by omega)
      clear hMk hKa n3 I HCA
      go_upto_region 6 with fail
      generalize w2.alloc (eobj r1 r2) = w3 at M3 K3 E3 R3 T3 N3 ⊢
      generalize w2.heap.size = b8 at N3 Z3 ⊢
      obtain ⟨a0, a1, af⟩ := E3.out.cells
      obtain ⟨n0, n1, _⟩ := N3.out.cells
      have f0 := af 0
      have f1 := af 1
      have za := E3.out.lt
      have zn := N3.out.lt
      have zd := Z3.out
      have EF := Lib.hid ((E3.out.set0 (t1 ||| r1)).set1 (t2 ||| r2))
      have MF := Lib.hid (Mk.eset (Mk.eset M3.out E3.out 0 (.int .u32 ((t1 ||| r1 : Nat) : Int))) (E3.out.set0 (t1 ||| r1)) 1 (.int .u32 ((t2 ||| r2 : Nat) : Int)))
      have RF := Lib.hid ((R3.out.other (w.heap.size + 1) 0 (.int .u32 ((t1 ||| r1 : Nat) : Int)) (by omega)).other (w.heap.size + 1) 1 (.int .u32 ((t2 ||| r2 : Nat) : Int)) (by omega))
      have TF := Lib.hid ((T3.out.eset E3.out 0 (.int .u32 ((t1 ||| r1 : Nat) : Int))).eset (E3.out.set0 (t1 ||| r1)) 1 (.int .u32 ((t2 ||| r2 : Nat) : Int)))
      have KF := Lib.hid ((K3.out.loc (w.heap.size + 1) 0 (.int .u32 ((t1 ||| r1 : Nat) : Int)) (by omega) (by omega)).loc (w.heap.size + 1) 1 (.int .u32 ((t2 ||| r2 : Nat) : Int)) (by omega) (by omega))
      have OB := Lib.hid (And.intro (or32 B0.out hb1) (or32 B1.out hb2))
      clear af M3 K3 E3 R3 T3 N3 Z3 B0 B1 hcell zA zr2 zk zw
      go_wp2_with fail
      exact ⟨⟨i + 1, by omega, by go_num, Lib.hid (by rw [hs2.out]; exact ⟨by rw [← List.append_assoc, ← List.append_assoc]; exact MF.out, RF.out, EF.out, TF.out, KF.out, OB.out.1, OB.out.2⟩)⟩, by simp [intOf]; omega⟩
    · obtain rfl : i = N := by omega
      have J := I.out
      rw [FN.out] at J
      obtain ⟨a0, a1, af⟩ := J.all.cells
      obtain ⟨c0, c1, cf⟩ := J.res.cells
      have f0 := cf 0
      have f1 := cf 1
      have za := J.all.lt
      have MF := Lib.hid (Mk.eset (Mk.eset J.mkk J.res 0 (.int .u32 (x1 : Int))) (J.res.set0 x1) 1 (.int .u32 (x2 : Int)))
      have KF := Lib.hid ((J.kr.loc w.heap.size 0 (.int .u32 (x1 : Int)) (Nat.le_refl _) zr).loc w.heap.size 1 (.int .u32 (x2 : Int)) (Nat.le_refl _) zr)
      clear af cf J I
      go_wp2_with fail
      refine bodyPost_ret (v := ev2 x1 x2) (by simp [results, Tryz.results83, go_sem, *]) rfl ⟨rfl, MF.out, KF.out⟩
end Go.Proofs.YtpnllbojifnopaaGreatDoor
namespace Go.Proofs.YtpnllbojifnopaaGreatDoor
open Go Go.RowKit Pk Rl
set_option maxRecDepth 20000
structure Ch (wb w W : World) (r : Nat) (x : Nd) (A : Option Addr) (ps : List (List Nd)) (fi la af al : Nat) (P : List VQ) (E : List EV) : Prop where
  mkk : Mk W r P E
  ndb : NB W w.heap.size x
  res : EB W (w.heap.size + 1) 0 0
  all : EB W (w.heap.size + 2) fi la
  ahd : EB W (w.heap.size + 3) af al
  row : PrT wb W A ps
  kr : Ka r w W
  b0 : fi < 4294967296
  b1 : la < 4294967296
  b2 : af < 4294967296
  b3 : al < 4294967296
theorem Ch.next {wb w W W' : World} {r : Nat} {x : Nd} {A : Option Addr} {ps : List (List Nd)} {fi la af al : Nat} {P : List VQ} {E : List EV} (h : Ch wb w W r x A ps fi la af al P E) (hb : Below W.heap.size W W') : Ch wb w W' r x A ps fi la af al P E :=
  ⟨Mk.next h.mkk hb, h.ndb.next hb, h.res.next hb, h.all.next hb, h.ahd.next hb, h.row.next hb, h.kr.next hb (Nat.le_of_lt (Mk.lt h.mkk)), h.b0, h.b1, h.b2, h.b3⟩
theorem Ch.ka {wb w W W' : World} {r : Nat} {x : Nd} {A : Option Addr} {ps : List (List Nd)} {fi la af al : Nat} {P P' : List VQ} {E E' : List EV} (h : Ch wb w W r x A ps fi la af al P E) (hk : Ka r W W') (hr : r < w.heap.size) (hm : Mk W' r P' E') : Ch wb w W' r x A ps fi la af al P' E' :=
  ⟨hm, h.ndb.ka hk (by omega), h.res.ka hk (by omega), h.all.ka hk (by omega), h.ahd.ka hk (by omega), h.row.ka hk h.mkk, h.kr.trans hk, h.b0, h.b1, h.b2, h.b3⟩
theorem NB.other {w : World} {g : Nat} {nd : Nd} (h : NB w g nd) (g' j : Nat) (v : Value) (hne : g ≠ g') : NB (w.setCell ⟨g', j, none⟩ v) g nd := by
  unfold NB
  rw [heap_setCell_other w ⟨g', j, none⟩ g v hne]
  exact h
theorem Ch.fst {wb w W : World} {r : Nat} {x : Nd} {A : Option Addr} {ps : List (List Nd)} {fi la af al : Nat} {P : List VQ} {E : List EV} (h : Ch wb w W r x A ps fi la af al P E) (hr : r < w.heap.size) (c : Nat) (hc : c < 4294967296) : Ch wb w (W.setCell ⟨w.heap.size + 2, 0, none⟩ (.int .u32 (c : Int))) r x A ps c la af al P E :=
  ⟨Mk.eset h.mkk h.all 0 _, h.ndb.other _ _ _ (by omega), h.res.other _ _ _ (by omega), h.all.set0 c, h.ahd.other _ _ _ (by omega), h.row.eset h.all 0 _, h.kr.loc _ 0 _ (by omega) (by omega), hc, h.b1, h.b2, h.b3⟩
theorem Ch.lst {wb w W : World} {r : Nat} {x : Nd} {A : Option Addr} {ps : List (List Nd)} {fi la af al : Nat} {P : List VQ} {E : List EV} (h : Ch wb w W r x A ps fi la af al P E) (hr : r < w.heap.size) (c : Nat) (hc : c < 4294967296) : Ch wb w (W.setCell ⟨w.heap.size + 2, 1, none⟩ (.int .u32 (c : Int))) r x A ps fi c af al P E :=
  ⟨Mk.eset h.mkk h.all 1 _, h.ndb.other _ _ _ (by omega), h.res.other _ _ _ (by omega), h.all.set1 c, h.ahd.other _ _ _ (by omega), h.row.eset h.all 1 _, h.kr.loc _ 1 _ (by omega) (by omega), h.b0, hc, h.b2, h.b3⟩
theorem Ch.ahds {wb w W : World} {r : Nat} {x : Nd} {A : Option Addr} {ps : List (List Nd)} {fi la af al : Nat} {P : List VQ} {E : List EV} (h : Ch wb w W r x A ps fi la af al P E) (hr : r < w.heap.size) (c d : Nat) (hc : c < 4294967296) (hd : d < 4294967296) :
    Ch wb w ((W.setCell ⟨w.heap.size + 3, 0, none⟩ (.int .u32 (c : Int))).setCell ⟨w.heap.size + 3, 1, none⟩ (.int .u32 (d : Int))) r x A ps fi la c d P E :=
  have h0 := h.ahd.set0 c
  ⟨Mk.eset (Mk.eset h.mkk h.ahd 0 _) h0 1 _, (h.ndb.other _ _ _ (by omega)).other _ _ _ (by omega), (h.res.other _ _ _ (by omega)).other _ _ _ (by omega), (h.all.other _ _ _ (by omega)).other _ _ _ (by omega), h0.set1 d, (h.row.eset h.ahd 0 _).eset h0 1 _, (h.kr.loc _ 0 _ (by omega) (by omega)).loc _ 1 _ (by omega) (by omega), h.b0, h.b1, hc, hd⟩
set_option maxHeartbeats 16000000 in
theorem chain_any (wb : World) (r : Nat) (f : List Nd → Nat → Res) (x : Nd) (least : Nat) (hle : least ≤ 256) (ps : List (List Nd)) (hne : ps ≠ []) (hlen : ps.length ≤ 256) (IH : ∀ p ∈ ps, AC wb r f p) (HB : ∀ p ∈ ps, ∀ n, n + (f p n).2.2.1.length ≤ 32 → (f p n).1 < 4294967296 ∧ (f p n).2.1 < 4294967296)
    (w : World) (A : Option Addr) (C : Nat) (P : List VQ) (E : List EV) (h : Mk w r P E) (hwb : Below wb.heap.size wb w) (hrb : wb.heap.size ≤ r) (hT : Tab5 wb) (hx : Nok wb x) (hp : PrT wb w A ps) (hP : P.length + (ch f P.length x.y (vq x.g) least ps).2.2.1.length ≤ 32) (hE : E.length + (ch f P.length x.y (vq x.g) least ps).2.2.2.length ≤ 1000000000) :
    Calls Tryz.prog 82 #[.pointer (some ⟨r, 0, none⟩), nOf x, .slice A ps.length C, .int .i64 (least : Int)] w fun e w' => PtR r w (ch f P.length x.y (vq x.g) least ps) P E e w' := by
  have zr := Mk.lt h
  obtain ⟨N, hN⟩ : ∃ N, ps.length = N := ⟨_, rfl⟩
  obtain ⟨Y, hY⟩ : ∃ Y, x.y = Y := ⟨_, rfl⟩
  obtain ⟨G, hG⟩ : ∃ G, vq x.g = G := ⟨_, rfl⟩
  rw [hY, hG] at hP hE ⊢
  obtain ⟨w1, hw1⟩ : ∃ X, (((w.alloc (nobj x)).alloc (.cells #[.int .u32 0, .int .u32 0] 121)).alloc (.cells #[.int .u32 0, .int .u32 0] 121)).alloc (.cells #[.int .u32 0, .int .u32 0] 121) = X := ⟨_, rfl⟩
  have b1 : Below w.heap.size w w1 := hw1 ▸ below_go (below_go (below_go (below_alloc w _) (below_alloc _ _)) (below_alloc _ _)) (below_alloc _ _)
  have I0 := Lib.hid (show Ch wb w w1 r x A ps 0 0 0 0 (P ++ []) (E ++ []) from by
    refine ⟨by simpa using Mk.next h b1, ?_, ?_, ?_, ?_, hp.next b1, Ka.of_below b1 (Nat.le_of_lt zr), by decide, by decide, by decide, by decide⟩
    · rw [← hw1]; exact (NB.alloc w x).next (below_go (below_go (below_alloc _ _) (below_alloc _ _)) (below_alloc _ _))
    · rw [← hw1]; have := (EB.alloc (w.alloc (nobj x)) 0 0).next (below_go (below_alloc _ (.cells #[.int .u32 0, .int .u32 0] 121)) (below_alloc _ (.cells #[.int .u32 0, .int .u32 0] 121))); rw [World.size_alloc] at this; exact this
    · rw [← hw1]; have := (EB.alloc ((w.alloc (nobj x)).alloc (.cells #[.int .u32 0, .int .u32 0] 121)) 0 0).next (below_alloc _ (.cells #[.int .u32 0, .int .u32 0] 121)); rw [World.size_alloc, World.size_alloc] at this; exact this
    · rw [← hw1]; have := EB.alloc (((w.alloc (nobj x)).alloc (.cells #[.int .u32 0, .int .u32 0] 121)).alloc (.cells #[.int .u32 0, .int .u32 0] 121)) 0 0; rw [World.size_alloc, World.size_alloc, World.size_alloc] at this; exact this)
  have FS := Lib.hid (fun i (hi : i < N) => foldl_snoc (cst f P.length Y G least) cs0 ps [] i (by omega))
  have FP := Lib.hid (fun i => foldl_part (cst f P.length Y G least) (fun s => s.P.length) (fun s p => cst_P f P.length Y G least s p) ps cs0 i)
  have FE := Lib.hid (fun i => foldl_part (cst f P.length Y G least) (fun s => s.E.length) (fun s p => cst_E f P.length Y G least s p) ps cs0 i)
  have FI := Lib.hid (fun i (hi : i ≤ N) => (show ((ps.take i).foldl (cst f P.length Y G least) cs0).i = i by rw [cst_i, List.length_take]; show 0 + _ = i; omega))
  obtain ⟨RR, hRR⟩ : ∃ R, chf f P.length Y G least ps = R := ⟨_, rfl⟩
  have FN : Hid ((ps.take N).foldl (cst f P.length Y G least) cs0 = RR) := Lib.hid (by rw [← hN, List.take_length, ← hRR]; rfl)
  have eR : ch f P.length Y G least ps = (RR.fi, RR.la, RR.P, RR.E) := by unfold ch; rw [hRR]
  rw [eR] at hP hE ⊢
  simp only at hP hE
  obtain ⟨PT, hPT⟩ : ∃ n, RR.P.length = n := ⟨_, rfl⟩
  obtain ⟨ET, hET⟩ : ∃ n, RR.E.length = n := ⟨_, rfl⟩
  have HP1 : Hid ((chf f P.length Y G least ps).P.length = PT) := Lib.hid (by rw [hRR]; exact hPT)
  have HE1 : Hid ((chf f P.length Y G least ps).E.length = ET) := Lib.hid (by rw [hRR]; exact hET)
  rw [hPT] at hP
  rw [hET] at hE
  obtain ⟨x1, x2, x3, x4, xP, xE, xi⟩ := RR
  have HIH := Lib.hid IH
  have HHB := Lib.hid HB
  have PM := Lib.hid (fun i (hi : i < N) => pgetD_mem ps i (by omega))
  have JN := Lib.hid (fun W a1 a2 n1 n2 P E (hC : Mk W r P E) h1 h2 hb hE => join_any r x a1 a2 n1 n2 P E wb W hC h1 h2 hx hT hb hrb hE)
  rw [hY, hG] at JN
  rw [hN] at hlen ⊢
  have HW := Lib.hid hwb
  have HNE := Lib.hid hne
  have HN := Lib.hid hN
  clear h b1 hp IH HB hN hPT hET hwb hne hRR eR hY hG hT hx
  obtain ⟨k, ⟨px, pt, pa, pn, pc, pL⟩, y, ⟨gx, gt, ga, gn, gc, gL⟩, lo, hi0, s0⟩ := x
  go_enter Tryz.func82, Tryz.ntmps82
  go_upto_region 2 with fail
  clear hw1
  go_wp2_with fail
  go_loopw [11, 12, 13, 16] (fun _ _ _ t W => ∃ (i : Nat) (s : Cs), i ≤ N ∧ t = .int .i64 (i : Int) ∧ Hid ((ps.take i).foldl (cst f P.length Y G least) cs0 = s ∧ Ch wb w W r ⟨k, ⟨px, pt, pa, pn, pc, pL⟩, y, ⟨gx, gt, ga, gn, gc, gL⟩, lo, hi0, s0⟩ A ps s.fi s.la s.af s.al (P ++ s.P) (E ++ s.E))) (fun _ _ _ t _ => N - (intOf t).toNat)
  case atStart => exact ⟨0, cs0, Nat.zero_le _, rfl, Lib.hid ⟨rfl, I0.out⟩⟩
  case round =>
    obtain ⟨i, s, hi, rfl, II⟩ := hrel
    have SE := Lib.hid II.out.1
    have I := Lib.hid II.out.2
    clear II I0
    by_cases hlt : i < N
    · have hs := FS.out i hlt
      have hpm := PM.out i hlt
      have hsi := FI.out i hi
      obtain ⟨g, rfl, zg, hat⟩ := I.out.row.at HNE.out
      obtain ⟨A', C', hcell, hPt⟩ := hat i (by rw [HN.out]; exact hlt)
      have hFP := FP.out (i + 1)
      have hFE := FE.out (i + 1)
      rw [hs] at hFP hFE
      rw [SE.out] at hs hFP hFE hsi
      generalize ps.getD i [] = p at hs hpm hcell hPt hFP hFE
      have hP2 : P.length + s.P.length + (f p (P.length + s.P.length)).2.2.1.length ≤ 32 := by
        have h1 : (cst f P.length Y G least s p).P.length = s.P.length + (f p (P.length + s.P.length)).2.2.1.length := by unfold cst; simp
        have h2 := HP1.out
        unfold chf at h2
        omega
      have hE2 : E.length + s.E.length + (f p (P.length + s.P.length)).2.2.2.length ≤ 1000000000 := by
        have h1 : s.E.length + (f p (P.length + s.P.length)).2.2.2.length ≤ (cst f P.length Y G least s p).E.length := by unfold cst; simp
        have h2 := HE1.out
        unfold chf at h2
        omega
      have CA := HIH.out p hpm wr A' p.length C' (P ++ s.P) (E ++ s.E) I.out.mkk (HW.out.trans (I.out.kr.o.mono hrb)) hPt (by rw [List.length_append]; exact hP2) (by rw [List.length_append, List.length_append]; exact hE2)
      have hb := HHB.out p hpm (P.length + s.P.length) hP2
      rw [List.length_append] at CA
      obtain ⟨t1, t2, t3, t4, tP, tE, ti⟩ := s
      simp only at I CA hb hs hsi hE2
      subst hsi
      obtain ⟨R, hR⟩ : ∃ R, f p (P.length + tP.length) = R := ⟨_, rfl⟩
      have hs2 : Hid ((ps.take (ti + 1)).foldl (cst f P.length Y G least) cs0 = ⟨if ti = 0 then R.1 else t1, if least ≤ ti + 1 then t2 ||| R.2.1 else t2, R.1, R.2.1, tP ++ R.2.2.1, tE ++ R.2.2.2 ++ jn Y G t4 R.1, ti + 1⟩) := Lib.hid (by rw [hs, ← hR]; rfl)
      rw [hR] at CA hb hE2
      obtain ⟨r1, r2, rP, rE⟩ := R
      simp only at hb hs2 hE2
      have HCA := Lib.hid CA
      have o2 := u32_or_nat t2 r2 I.out.b1 hb.2
      have hb1 := hb.1
      have hb2 := hb.2
      have HE2 := Lib.hid hE2
      clear hs hpm hat hPt hFP hFE hP2 hE2 CA hb hR SE
      go_wp2_with fail
      refine HCA.out.mono ?_
      rintro e w2 ⟨rfl, hMk, hKa⟩
      have n3 := below_alloc w2 (eobj r1 r2)
      have C3 := Lib.hid ((I.out.ka hKa zr hMk).next n3)
      have N3 := Lib.hid (EB.alloc w2 r1 r2)
      have Z3 := Lib.hid (show w.heap.size + 3 < w2.heap.size by have := (I.out.ka hKa zr hMk).ahd.lt; omega)
      clear hMk hKa n3 I HCA
      go_upto_region 6 with fail
      generalize w2.alloc (eobj r1 r2) = w3 at C3 N3 ⊢
      generalize w2.heap.size = b8 at N3 Z3 ⊢
      obtain ⟨n0, n1, _⟩ := N3.out.cells
      obtain ⟨a0, a1, af⟩ := C3.out.all.cells
      have f0 := af 0
      have za := C3.out.all.lt
      have zd := Z3.out
      clear af
      by_cases ci : ti = 0
      · have CI : Hid (ti = 0) := Lib.hid ci
        have ci1 : ((ti : Int) == 0) = true := by simp [ci]
        have ci2 : decide ((ti : Int) = 0) = true := by simp [ci]
        have C4 := Lib.hid (C3.out.fst zr r1 hb1)
        have N4 := Lib.hid (N3.out.other (w.heap.size + 2) 0 (.int .u32 (r1 : Int)) (by omega))
        clear C3 N3 ci
        go_upto_region 8 with fail
        generalize w3.setCell ⟨w.heap.size + 2, 0, none⟩ (.int .u32 (r1 : Int)) = w4 at C4 N4 ⊢
        clear a0 a1 f0 za n0 n1 ci1 ci2
        obtain ⟨a0, a1, af⟩ := C4.out.all.cells
        have f1 := af 1
        have za := C4.out.all.lt
        obtain ⟨n0, n1, _⟩ := N4.out.cells
        clear af
        by_cases cl : least ≤ ti + 1
        · have cl1 : ((least : Int) ≤ (ti : Int) + 1) := by omega
          have NX : Hid ((ps.take (ti + 1)).foldl (cst f P.length Y G least) cs0 = ⟨r1, t2 ||| r2, r1, r2, tP ++ rP, tE ++ rE ++ jn Y G t4 r1, ti + 1⟩) := Lib.hid (by rw [hs2.out, if_pos CI.out, if_pos cl])
          have C5 := Lib.hid (C4.out.lst zr (t2 ||| r2) (or32 C4.out.b1 hb2))
          have N5 := Lib.hid (N4.out.other (w.heap.size + 2) 1 (.int .u32 ((t2 ||| r2 : Nat) : Int)) (by omega))
          clear C4 N4 hs2 CI
          go_upto_region 10 with fail
          generalize w4.setCell ⟨w.heap.size + 2, 1, none⟩ (.int .u32 ((t2 ||| r2 : Nat) : Int)) = w5 at C5 N5 ⊢
          clear a0 a1 f1 za n0 n1 cl cl1
          obtain ⟨n0, n1, _⟩ := N5.out.cells
          obtain ⟨d0, d1, d2, d3, d4, d5, d6, d7, d8, d9, d10⟩ := C5.out.ndb.atn
          simp only [Nat.zero_add] at d0 d1 d2 d3 d4 d5 d6 d7 d8 d9 d10
          obtain ⟨e0, e1, _⟩ := C5.out.ahd.cells
          have ze := C5.out.ahd.lt
          have zn := N5.out.lt
          have JJ := Lib.hid (JN.out _ t3 t4 r1 r2 _ _ C5.out.mkk C5.out.b3 hb1 (HW.out.trans (C5.out.kr.o.mono hrb)) (by rw [List.length_append, List.length_append]; exact HE2.out))
          go_wp2_with fail
          refine JJ.out.mono ?_
          rintro e w6 ⟨⟨v, rfl⟩, hMk, hKa⟩
          have C6 := Lib.hid (C5.out.ka hKa zr hMk)
          have N6 := Lib.hid (N5.out.ka hKa (by omega))
          clear hMk hKa C5 N5 JJ n0 n1 d0 d1 d2 d3 d4 d5 d6 d7 d8 d9 d10 e0 e1 ze zn
          obtain ⟨n0, n1, _⟩ := N6.out.cells
          obtain ⟨e0, e1, ef⟩ := C6.out.ahd.cells
          have f0 := ef 0
          have f1 := ef 1
          have ze := C6.out.ahd.lt
          have zn := N6.out.lt
          have C7 := Lib.hid (C6.out.ahds zr r1 r2 hb1 hb2)
          clear ef C6 N6
          go_wp2_with fail
          exact ⟨⟨ti + 1, _, by omega, by go_num, Lib.hid ⟨NX.out, by simpa [List.append_assoc] using C7.out⟩⟩, by simp [intOf]; omega⟩
        · have cl1 : ¬ ((least : Int) ≤ (ti : Int) + 1) := by omega
          have NX : Hid ((ps.take (ti + 1)).foldl (cst f P.length Y G least) cs0 = ⟨r1, t2, r1, r2, tP ++ rP, tE ++ rE ++ jn Y G t4 r1, ti + 1⟩) := Lib.hid (by rw [hs2.out, if_pos CI.out, if_neg cl])
          have C5 := Lib.hid C4.out
          have N5 := Lib.hid N4.out
          clear C4 N4 hs2 CI
          go_upto_region 10 with fail
          obtain ⟨w5, hw5⟩ : ∃ W, W = w4 := ⟨_, rfl⟩
          subst hw5
          clear a0 a1 f1 za n0 n1 cl cl1
          obtain ⟨n0, n1, _⟩ := N5.out.cells
          obtain ⟨d0, d1, d2, d3, d4, d5, d6, d7, d8, d9, d10⟩ := C5.out.ndb.atn
          simp only [Nat.zero_add] at d0 d1 d2 d3 d4 d5 d6 d7 d8 d9 d10
          obtain ⟨e0, e1, _⟩ := C5.out.ahd.cells
          have ze := C5.out.ahd.lt
          have zn := N5.out.lt
          have JJ := Lib.hid (JN.out _ t3 t4 r1 r2 _ _ C5.out.mkk C5.out.b3 hb1 (HW.out.trans (C5.out.kr.o.mono hrb)) (by rw [List.length_append, List.length_append]; exact HE2.out))
          go_wp2_with fail
          refine JJ.out.mono ?_
          rintro e w6 ⟨⟨v, rfl⟩, hMk, hKa⟩
          have C6 := Lib.hid (C5.out.ka hKa zr hMk)
          have N6 := Lib.hid (N5.out.ka hKa (by omega))
          clear hMk hKa C5 N5 JJ n0 n1 d0 d1 d2 d3 d4 d5 d6 d7 d8 d9 d10 e0 e1 ze zn
          obtain ⟨n0, n1, _⟩ := N6.out.cells
          obtain ⟨e0, e1, ef⟩ := C6.out.ahd.cells
          have f0 := ef 0
          have f1 := ef 1
          have ze := C6.out.ahd.lt
          have zn := N6.out.lt
          have C7 := Lib.hid (C6.out.ahds zr r1 r2 hb1 hb2)
          clear ef C6 N6
          go_wp2_with fail
          exact ⟨⟨ti + 1, _, by omega, by go_num, Lib.hid ⟨NX.out, by simpa [List.append_assoc] using C7.out⟩⟩, by simp [intOf]; omega⟩
      · have CI : Hid (¬ ti = 0) := Lib.hid ci
        have ci1 : ((ti : Int) == 0) = false := by simp [ci]
        have ci2 : decide ((ti : Int) = 0) = false := by simp [ci]
        have C4 := Lib.hid C3.out
        have N4 := Lib.hid N3.out
        clear C3 N3 ci
        go_upto_region 8 with fail
        obtain ⟨w4, hw4⟩ : ∃ W, W = w3 := ⟨_, rfl⟩
        subst hw4
        clear a0 a1 f0 za n0 n1 ci1 ci2
        obtain ⟨a0, a1, af⟩ := C4.out.all.cells
        have f1 := af 1
        have za := C4.out.all.lt
        obtain ⟨n0, n1, _⟩ := N4.out.cells
        clear af
        by_cases cl : least ≤ ti + 1
        · have cl1 : ((least : Int) ≤ (ti : Int) + 1) := by omega
          have NX : Hid ((ps.take (ti + 1)).foldl (cst f P.length Y G least) cs0 = ⟨t1, t2 ||| r2, r1, r2, tP ++ rP, tE ++ rE ++ jn Y G t4 r1, ti + 1⟩) := Lib.hid (by rw [hs2.out, if_neg CI.out, if_pos cl])
          have C5 := Lib.hid (C4.out.lst zr (t2 ||| r2) (or32 C4.out.b1 hb2))
          have N5 := Lib.hid (N4.out.other (w.heap.size + 2) 1 (.int .u32 ((t2 ||| r2 : Nat) : Int)) (by omega))
          clear C4 N4 hs2 CI
          go_upto_region 10 with fail
          generalize w4.setCell ⟨w.heap.size + 2, 1, none⟩ (.int .u32 ((t2 ||| r2 : Nat) : Int)) = w5 at C5 N5 ⊢
          clear a0 a1 f1 za n0 n1 cl cl1
          obtain ⟨n0, n1, _⟩ := N5.out.cells
          obtain ⟨d0, d1, d2, d3, d4, d5, d6, d7, d8, d9, d10⟩ := C5.out.ndb.atn
          simp only [Nat.zero_add] at d0 d1 d2 d3 d4 d5 d6 d7 d8 d9 d10
          obtain ⟨e0, e1, _⟩ := C5.out.ahd.cells
          have ze := C5.out.ahd.lt
          have zn := N5.out.lt
          have JJ := Lib.hid (JN.out _ t3 t4 r1 r2 _ _ C5.out.mkk C5.out.b3 hb1 (HW.out.trans (C5.out.kr.o.mono hrb)) (by rw [List.length_append, List.length_append]; exact HE2.out))
          go_wp2_with fail
          refine JJ.out.mono ?_
          rintro e w6 ⟨⟨v, rfl⟩, hMk, hKa⟩
          have C6 := Lib.hid (C5.out.ka hKa zr hMk)
          have N6 := Lib.hid (N5.out.ka hKa (by omega))
          clear hMk hKa C5 N5 JJ n0 n1 d0 d1 d2 d3 d4 d5 d6 d7 d8 d9 d10 e0 e1 ze zn
          obtain ⟨n0, n1, _⟩ := N6.out.cells
          obtain ⟨e0, e1, ef⟩ := C6.out.ahd.cells
          have f0 := ef 0
          have f1 := ef 1
          have ze := C6.out.ahd.lt
          have zn := N6.out.lt
          have C7 := Lib.hid (C6.out.ahds zr r1 r2 hb1 hb2)
          clear ef C6 N6
          go_wp2_with fail
          exact ⟨⟨ti + 1, _, by omega, by go_num, Lib.hid ⟨NX.out, by simpa [List.append_assoc] using C7.out⟩⟩, by simp [intOf]; omega⟩
        · have cl1 : ¬ ((least : Int) ≤ (ti : Int) + 1) := by omega
          have NX : Hid ((ps.take (ti + 1)).foldl (cst f P.length Y G least) cs0 = ⟨t1, t2, r1, r2, tP ++ rP, tE ++ rE ++ jn Y G t4 r1, ti + 1⟩) := Lib.hid (by rw [hs2.out, if_neg CI.out, if_neg cl])
          have C5 := Lib.hid C4.out
          have N5 := Lib.hid N4.out
          clear C4 N4 hs2 CI
          go_upto_region 10 with fail
          obtain ⟨w5, hw5⟩ : ∃ W, W = w4 := ⟨_, rfl⟩
          subst hw5
          clear a0 a1 f1 za n0 n1 cl cl1
          obtain ⟨n0, n1, _⟩ := N5.out.cells
          obtain ⟨d0, d1, d2, d3, d4, d5, d6, d7, d8, d9, d10⟩ := C5.out.ndb.atn
          simp only [Nat.zero_add] at d0 d1 d2 d3 d4 d5 d6 d7 d8 d9 d10
          obtain ⟨e0, e1, _⟩ := C5.out.ahd.cells
          have ze := C5.out.ahd.lt
          have zn := N5.out.lt
          have JJ := Lib.hid (JN.out _ t3 t4 r1 r2 _ _ C5.out.mkk C5.out.b3 hb1 (HW.out.trans (C5.out.kr.o.mono hrb)) (by rw [List.length_append, List.length_append]; exact HE2.out))
          go_wp2_with fail
          refine JJ.out.mono ?_
          rintro e w6 ⟨⟨v, rfl⟩, hMk, hKa⟩
          have C6 := Lib.hid (C5.out.ka hKa zr hMk)
          have N6 := Lib.hid (N5.out.ka hKa (by omega))
          clear hMk hKa C5 N5 JJ n0 n1 d0 d1 d2 d3 d4 d5 d6 d7 d8 d9 d10 e0 e1 ze zn
          obtain ⟨n0, n1, _⟩ := N6.out.cells
          obtain ⟨e0, e1, ef⟩ := C6.out.ahd.cells
          have f0 := ef 0
          have f1 := ef 1
          have ze := C6.out.ahd.lt
          have zn := N6.out.lt
          have C7 := Lib.hid (C6.out.ahds zr r1 r2 hb1 hb2)
          clear ef C6 N6
          go_wp2_with fail
          exact ⟨⟨ti + 1, _, by omega, by go_num, Lib.hid ⟨NX.out, by simpa [List.append_assoc] using C7.out⟩⟩, by simp [intOf]; omega⟩
    · obtain rfl : i = N := by omega
      have J := I.out
      have hfn := SE.out
      rw [FN.out] at hfn
      subst hfn
      obtain ⟨a0, a1, af⟩ := J.all.cells
      obtain ⟨c0, c1, cf⟩ := J.res.cells
      have f0 := cf 0
      have f1 := cf 1
      have za := J.all.lt
      have MF := Lib.hid (Mk.eset (Mk.eset J.mkk J.res 0 (.int .u32 (x1 : Int))) (J.res.set0 x1) 1 (.int .u32 (x2 : Int)))
      have KF := Lib.hid ((J.kr.loc (w.heap.size + 1) 0 (.int .u32 (x1 : Int)) (by omega) (by omega)).loc (w.heap.size + 1) 1 (.int .u32 (x2 : Int)) (by omega) (by omega))
      clear af cf J I SE
      go_wp2_with fail
      refine bodyPost_ret (v := ev2 x1 x2) (by simp [results, Tryz.results82, go_sem, *]) rfl ⟨rfl, MF.out, KF.out⟩
end Go.Proofs.YtpnllbojifnopaaGreatDoor
namespace Go.Proofs.YtpnllbojifnopaaGreatDoor
open Go Go.RowKit Pk Rl
set_option maxRecDepth 20000
theorem pow_up {a b c : Nat} (h : a < 2 ^ b) (hb : b ≤ c) : a < 2 ^ c := Nat.lt_of_lt_of_le h (Nat.pow_le_pow_right (by omega) hb)
def Lt2 (n : Nat) (s : Res) : Prop := s.1 < 2 ^ (n + s.2.2.1.length) ∧ s.2.1 < 2 ^ (n + s.2.2.1.length)
theorem ei_lt (f : List Nd → Nat → Res) (n : Nat) (ps : List (List Nd)) (h : ∀ p ∈ ps, ∀ n, Lt2 n (f p n)) : ∀ s : Res, Lt2 n s → Lt2 n (ps.foldl (eis f n) s) := by
  induction ps with
  | nil => intro s hs; exact hs
  | cons p ps ih =>
    intro s hs
    refine ih (fun q hq => h q (List.mem_cons_of_mem _ hq)) _ ?_
    have hp := h p (List.mem_cons_self ..) (n + s.2.2.1.length)
    unfold Lt2 eis at *
    simp only [List.length_append] at *
    rw [← Nat.add_assoc]
    exact ⟨Nat.or_lt_two_pow (pow_up hs.1 (by omega)) hp.1, Nat.or_lt_two_pow (pow_up hs.2 (by omega)) hp.2⟩
theorem ch_lt (f : List Nd → Nat → Res) (n : Nat) (y : Bool) (g : VQ) (least : Nat) (ps : List (List Nd)) (h : ∀ p ∈ ps, ∀ n, Lt2 n (f p n)) : ∀ s : Cs, (s.fi < 2 ^ (n + s.P.length) ∧ s.la < 2 ^ (n + s.P.length)) →
    ((ps.foldl (cst f n y g least) s).fi < 2 ^ (n + (ps.foldl (cst f n y g least) s).P.length) ∧ (ps.foldl (cst f n y g least) s).la < 2 ^ (n + (ps.foldl (cst f n y g least) s).P.length)) := by
  induction ps with
  | nil => intro s hs; exact hs
  | cons p ps ih =>
    intro s hs
    refine ih (fun q hq => h q (List.mem_cons_of_mem _ hq)) _ ?_
    have hp := h p (List.mem_cons_self ..) (n + s.P.length)
    unfold Lt2 at hp
    unfold cst
    simp only [List.length_append]
    rw [← Nat.add_assoc]
    refine ⟨?_, ?_⟩
    · by_cases c : s.i = 0
      · rw [if_pos c]; exact hp.1
      · rw [if_neg c]; exact pow_up hs.1 (by omega)
    · by_cases c : least ≤ s.i + 1
      · rw [if_pos c]; exact Nat.or_lt_two_pow (pow_up hs.2 (by omega)) hp.2
      · rw [if_neg c]; exact pow_up hs.2 (by omega)
theorem au_lt (k : Nat) : ∀ (l : List Nd) (n : Nat), Lt2 n (au k l n) := by
  induction k with
  | zero => intro l n; unfold au Lt2; simp [Nat.two_pow_pos]
  | succ k ih =>
    intro l n
    have h0 : ∀ m : Nat, 0 < 2 ^ m := Nat.two_pow_pos
    unfold au
    split
    · exact ch_lt (au k) n _ _ _ _ (fun p _ n => ih p n) cs0 ⟨h0 _, h0 _⟩
    · split
      · exact ei_lt (au k) n _ (fun p _ n => ih p n) _ ⟨h0 _, h0 _⟩
      · split
        · exact ch_lt (au k) n _ _ _ _ (fun p _ n => ih p n) cs0 ⟨h0 _, h0 _⟩
        · unfold Lt2; simp; exact Nat.pow_lt_pow_right (by omega) (by omega)
theorem au_32 (k : Nat) (l : List Nd) (n : Nat) (h : n + (au k l n).2.2.1.length ≤ 32) : (au k l n).1 < 4294967296 ∧ (au k l n).2.1 < 4294967296 :=
  ⟨pow_up (au_lt k l n).1 h, pow_up (au_lt k l n).2 h⟩
end Go.Proofs.YtpnllbojifnopaaGreatDoor
namespace Go.Proofs.YtpnllbojifnopaaGreatDoor
open Go Go.RowKit Pk Rl
set_option maxRecDepth 20000
theorem ofp_spl {F : List Nd → Bool} {l : List Nd} (h : ofp F l = true) : ∃ x r ps, frn l = x :: r ∧ spl r = some ps ∧ pts l = ps ∧ ps.all F = true := by
  by_cases hf : frn l = []
  · rw [ofp_nil hf] at h; cases h
  · rw [ofp_cons hf] at h
    rcases hl : frn l with _ | ⟨x, r⟩
    · exact absurd hl hf
    · rw [hl, List.tail_cons] at h
      rcases hs : spl r with _ | ps
      · rw [hs] at h; cases h
      · rw [hs] at h
        exact ⟨x, r, ps, rfl, hs, by unfold pts; rw [hl, List.tail_cons, hs]; rfl, h⟩
theorem kd_k {n : Nd} {m : Nat} (h : kd n m = true) : n.k = 1 ∨ n.k = 2 ∨ n.k = 3 ∨ n.k = 4 := by
  unfold kd at h
  by_cases k1 : n.k = 1
  · exact .inl k1
  rw [if_neg k1] at h
  by_cases k2 : n.k = 2
  · exact .inr (.inl k2)
  rw [if_neg k2] at h
  by_cases k3 : n.k = 3
  · exact .inr (.inr (.inl k3))
  rw [if_neg k3] at h
  by_cases k4 : n.k = 4
  · exact .inr (.inr (.inr k4))
  rw [if_neg k4] at h
  cases h
theorem kd_m2 {n : Nd} {m : Nat} (h : kd n m = true) (hk : n.k = 2 ∨ n.k = 3) : 2 ≤ m := by
  unfold kd at h
  rcases hk with hk | hk <;> simp [hk] at h <;> omega
theorem kd_rep {n : Nd} {m : Nat} (h : kd n m = true) (hk : n.k = 4) : m = 1 ∧ 1 ≤ n.lo ∧ n.lo ≤ n.hi ∧ n.hi ≤ 8 := by
  unfold kd at h
  simp [hk] at h
  omega
set_option maxHeartbeats 2000000 in
theorem partsT_any (w0 : World) (a : Option Addr) (n c : Nat) (L : List Nd) (w : World) (hP : Pt w0 a n c L) (h01 : Below w0.heap.size w0 w) :
    Calls Tryz.prog 81 #[.slice a n c] w fun e w' => (∃ A C, e = .returned (.slice A (pts L).length C) ∧ (pts L ≠ [] → PrT w0 w' A (pts L))) ∧ Below w.heap.size w w' := by
  have B0 := Lib.hid (below_alloc w (.cells #[.slice none 0 0] 178))
  have O := Lib.hid (ofp_parts (fun _ => true) (fun W D => ∃ v, SBox W w.heap.size v ∧ OwnP w0 W (w.heap.size + 1) v D) w0 w h01 w.heap.size n
    (Lib.hid fun D p A n' c' W hJ hPp _ hnn hD hB => by
      obtain ⟨v, h1, h2⟩ := hJ
      refine (parts1_any w0 w w.heap.size D hD p A n' c' v W h1 h2 hPp hB (Nat.le_refl _)).mono ?_
      rintro e w' ⟨rfl, h2, h3⟩
      exact ⟨rfl, fun _ => h2, h3⟩)
    a n c L _ hP (Nat.le_refl _) ⟨_, SBox.start w _, OwnP.nil _ _ _⟩ B0.out)
  have HE := Lib.hid (show ofp (fun _ => true) L = false → pts L = [] from fun h => by
    by_cases h0 : frn L = []
    · unfold pts; rw [h0, List.tail_nil, spl_nil]; rfl
    · rw [ofp_cons h0] at h
      unfold pts
      rcases hs : spl (frn L).tail with _ | ps
      · rfl
      · rw [hs] at h; simp at h)
  generalize ofp (fun _ => true) L = b at O HE
  clear hP
  generalize pts L = R at O HE
  go_enter Tryz.func81, Tryz.ntmps81
  go_wp2_with fail
  refine O.out.mono ?_
  rintro e w2 ⟨rfl, hJ, hB⟩
  have HJ := Lib.hid hJ
  have B2 := Lib.hid hB
  clear hJ hB O
  cases b
  · have e0 : R = [] := HE.out (by first | rfl | trivial)
    subst e0
    go_wp2_with fail
    go_ret
    exact ⟨⟨none, 0, rfl, fun h => absurd rfl h⟩, B2.out⟩
  · obtain ⟨v, h1, h2⟩ := HJ.out (by first | rfl | trivial)
    have H2 := Lib.hid h2
    obtain ⟨A, C, rfl, h3⟩ := h2.form
    have c1 := h1.cell
    clear h1 h2 h3 HE HJ
    go_wp2_with fail
    go_ret
    refine ⟨⟨A, C, rfl, fun hne => ?_⟩, B2.out⟩
    obtain ⟨cs, h1, h2, h3⟩ := H2.out
    rcases h1.2 with ⟨_, h0⟩ | ⟨g, cap, cur, e, _, hh, hcap, hmx, hsz, ht⟩
    · exact absurd (List.eq_nil_of_length_eq_zero h0) hne
    · injection e with e1 e2 e3
      refine ⟨g, cur, e1, hh, fun i hi => ?_⟩
      obtain ⟨A', C', k1, k2⟩ := h3 i hi
      refine ⟨A', C', ?_, k2⟩
      rw [← ht, List.getElem?_take_of_lt (by omega), Array.getElem?_toList] at k1
      exact k1
structure Pn (w W : World) (r : Nat) (x : Nd) (P : List VQ) (E : List EV) : Prop where
  mkk : Mk W r P E
  res : EB W w.heap.size 0 0
  ndb : NB W (w.heap.size + 1) x
  kr : Ka r w W
theorem Pn.next {w W W' : World} {r : Nat} {x : Nd} {P : List VQ} {E : List EV} (h : Pn w W r x P E) (hb : Below W.heap.size W W') : Pn w W' r x P E :=
  ⟨Mk.next h.mkk hb, h.res.next hb, h.ndb.next hb, h.kr.next hb (Nat.le_of_lt (Mk.lt h.mkk))⟩
theorem Pn.ka {w W W' : World} {r : Nat} {x : Nd} {P P' : List VQ} {E E' : List EV} (h : Pn w W r x P E) (hk : Ka r W W') (hr : r < w.heap.size) (hm : Mk W' r P' E') : Pn w W' r x P' E' :=
  ⟨hm, h.res.ka hk (by omega), h.ndb.ka hk (by omega), h.kr.trans hk⟩
theorem PrT.rep {wb w w' : World} {A : Option Addr} {p : List Nd} (T : Nat) (A0 : Option Addr) (C0 : Nat) (_ : PrT wb w A [p]) (hp : Pt wb A0 p.length C0 p) (h : Rv w' w.heap.size (.slice A0 p.length C0) T T) : PrT wb w' (some ⟨w.heap.size, 0, none⟩) (List.replicate T p) := by
  refine ⟨_, _, rfl, h, fun i hi => ?_⟩
  rw [List.length_replicate] at hi
  have e : (List.replicate T p).getD i [] = p := by rw [List.getD_eq_getElem?_getD, List.getElem?_replicate, if_pos hi]; rfl
  rw [e]
  refine ⟨A0, C0, ?_, hp⟩
  rw [List.getElem?_toArray]
  unfold rwv
  rw [List.getElem?_append_left (by simpa using hi), List.getElem?_replicate, if_pos hi]
set_option maxHeartbeats 16000000 in
theorem pat1 (wb : World) (r : Nat) (kf : Nat) (x : Nd) (q : List Nd) (hkd : kd x (pts (x :: q)).length = true) (hlen : (pts (x :: q)).length ≤ 256) (hrb : wb.heap.size ≤ r) (hT : Tab5 wb) (IH : ∀ p ∈ pts (x :: q), AC wb r (au kf) p) : AC wb r (au (kf + 1)) (x :: q) := by
  intro w A n c P E h hwb hPt hP hE
  have zr := Mk.lt h
  have hx : Nok wb x := hPt.ok x (List.mem_cons_self ..)
  have hn := hPt.len
  obtain ⟨pb, po, rfl, hat⟩ := hPt.row 0 (by simp)
  rw [Nat.zero_mul, Nat.add_zero] at hat
  have hat2 := (show Atn wb pb po x from hat).below hwb hat.lt
  have eA : au (kf + 1) (x :: q) P.length = if x.k = 2 then ch (au kf) P.length x.y (vq x.g) (pts (x :: q)).length (pts (x :: q)) else if x.k = 3 then ei (au kf) P.length (pts (x :: q)) else if x.k = 4 then ch (au kf) P.length x.y (vq x.g) x.lo.toNat (List.replicate x.hi.toNat ((pts (x :: q)).headD [])) else (2 ^ P.length, 2 ^ P.length, [vq x.p], []) := rfl
  rw [eA] at hP hE ⊢
  have PA := Lib.hid (fun W (hW : Below wb.heap.size wb W) => partsT_any wb (some ⟨pb, po, none⟩) n c (x :: q) W hPt hW)
  have HB := Lib.hid (fun (p : List Nd) (_ : p ∈ pts (x :: q)) n hn => au_32 kf p n hn)
  generalize pts (x :: q) = ps at PA HB hkd hlen IH hP hE ⊢
  have X0 := Lib.hid (show Pn w ((w.alloc (.cells #[.int .u32 0, .int .u32 0] 121)).alloc (nobj x)) r x P E from
    ⟨Mk.next h (below_go (below_alloc w _) (below_alloc _ _)), (EB.alloc w 0 0).next (below_alloc _ _), by have := NB.alloc (w.alloc (.cells #[.int .u32 0, .int .u32 0] 121)) x; rw [World.size_alloc] at this; exact this, Ka.of_below (below_go (below_alloc w _) (below_alloc _ _)) (Nat.le_of_lt zr)⟩)
  have HW := Lib.hid hwb
  have HX := Lib.hid hx
  have HT := Lib.hid hT
  have HI := Lib.hid IH
  have HQ := Lib.hid hPt
  have hn1 : 0 < n := by rw [← hn]; simp
  have hn2 : (0 : Int) < (n : Int) := by omega
  have z0 := hat2.lt
  obtain ⟨k0, k1, k2, k3, k4, k5, k6, k7, k8, k9, k10⟩ := hat2
  clear h hwb hPt hat hx hn IH hT eA
  obtain ⟨k, ⟨px, pt, pa, pn, pc, pL⟩, y, ⟨gx, gt, ga, gn, gc, gL⟩, lo, hi, s⟩ := x
  simp only at hP hE hkd k0 k1 k2 k3 k4 k5 k6 k7 k8 k9 k10
  have hk4 := kd_k hkd
  simp only at hk4
  dsimp only
  rcases hk4 with hk | hk | hk | hk
  · subst hk
    rw [if_neg (show ¬ (1 : Int) = 2 by decide), if_neg (show ¬ (1 : Int) = 3 by decide), if_neg (show ¬ (1 : Int) = 4 by decide)] at hP hE ⊢
    simp only [List.length_singleton] at hP
    have CC := Lib.hid (fun W (hW : Below wb.heap.size wb W) (hM : Mk W r P E) => place_any r ⟨px, pt, pa, pn, pc, pL⟩ P E W hM (by omega) (HX.out.p.below hW))
    obtain ⟨r1, hr1⟩ : ∃ z, 2 ^ P.length = z := ⟨_, rfl⟩
    rw [hr1]
    have CP := Lib.hid (fun W hW hM => (CC.out W hW hM).mono fun e w' h => (show PtR r W (r1, r1, [vq ⟨px, pt, pa, pn, pc, pL⟩], []) P E e w' from ⟨by rw [← hr1]; exact h.1, by simpa using h.2.1, h.2.2⟩))
    clear CC hr1
    clear hkd hP hE HI HB
    go_enter Tryz.func44, Tryz.ntmps44
    go_upto_region 2 with fail
    generalize (w.alloc (.cells #[.int .u32 0, .int .u32 0] 121)).alloc (nobj ⟨1, ⟨px, pt, pa, pn, pc, pL⟩, y, ⟨gx, gt, ga, gn, gc, gL⟩, lo, hi, s⟩) = w1 at X0 ⊢
    clear k0 k1 k2 k3 k4 k5 k6 k7 k8 k9 k10 z0
    have PB := Lib.hid (PA.out w1 (HW.out.trans (X0.out.kr.o.mono hrb)))
    go_wp2_with fail
    refine PB.out.mono ?_
    rintro e w2 ⟨⟨A2, C2, rfl, hpr⟩, hb⟩
    have X2 := Lib.hid (X0.out.next hb)
    have PR := Lib.hid hpr
    clear hb hpr PA PB X0
    obtain ⟨v0, v1, v2, v3, v4, v5, v6, v7, v8, v9, v10⟩ := X2.out.ndb.atn
    simp only [Nat.zero_add] at v0 v1 v2 v3 v4 v5 v6 v7 v8 v9 v10
    have zN := X2.out.ndb.lt
    have CD := Lib.hid (CP.out w2 (HW.out.trans (X2.out.kr.o.mono hrb)) X2.out.mkk)
    clear CP
    go_wp2_with fail
    refine CD.out.mono ?_
    rintro e w3 ⟨rfl, hMk, hKa⟩
    have X3 := Lib.hid (X2.out.ka hKa zr hMk)
    clear hMk hKa X2 PR v0 v1 v2 v3 v4 v5 v6 v7 v8 v9 v10 zN
    obtain ⟨c0, c1, cf⟩ := X3.out.res.cells
    have f0 := cf 0
    have f1 := cf 1
    have z3 := X3.out.res.lt
    have MF := Lib.hid (Mk.eset (Mk.eset X3.out.mkk X3.out.res 0 (.int .u32 (r1 : Int))) (X3.out.res.set0 r1) 1 (.int .u32 (r1 : Int)))
    have KF := Lib.hid ((X3.out.kr.loc w.heap.size 0 (.int .u32 (r1 : Int)) (Nat.le_refl _) zr).loc w.heap.size 1 (.int .u32 (r1 : Int)) (Nat.le_refl _) zr)
    clear cf X3
    go_wp2_with fail
    refine bodyPost_ret (v := ev2 r1 r1) (by simp [results, Tryz.results44, go_sem, *]) rfl ⟨rfl, MF.out, KF.out⟩
  · subst hk
    rw [if_pos rfl] at hP hE ⊢
    have hm := kd_m2 hkd (.inl rfl)
    have hne : ps ≠ [] := fun e => by subst e; simp at hm
    have CC := Lib.hid (fun W A C (hW : Below wb.heap.size wb W) (hM : Mk W r P E) hp => chain_any wb r (au kf) ⟨2, ⟨px, pt, pa, pn, pc, pL⟩, y, ⟨gx, gt, ga, gn, gc, gL⟩, lo, hi, s⟩ ps.length (by omega) ps hne hlen HI.out HB.out W A C P E hM hW hrb HT.out HX.out hp hP hE)
    generalize ch (au kf) P.length y (vq ⟨gx, gt, ga, gn, gc, gL⟩) ps.length ps = R at CC ⊢
    obtain ⟨r1, r2, rP, rE⟩ := R
    (try dsimp only at CC)
    clear hkd hP hE HI HB hne
    go_enter Tryz.func44, Tryz.ntmps44
    go_upto_region 2 with fail
    generalize (w.alloc (.cells #[.int .u32 0, .int .u32 0] 121)).alloc (nobj ⟨2, ⟨px, pt, pa, pn, pc, pL⟩, y, ⟨gx, gt, ga, gn, gc, gL⟩, lo, hi, s⟩) = w1 at X0 ⊢
    clear k0 k1 k2 k3 k4 k5 k6 k7 k8 k9 k10 z0
    have PB := Lib.hid (PA.out w1 (HW.out.trans (X0.out.kr.o.mono hrb)))
    go_wp2_with fail
    refine PB.out.mono ?_
    rintro e w2 ⟨⟨A2, C2, rfl, hpr⟩, hb⟩
    have X2 := Lib.hid (X0.out.next hb)
    have PR := Lib.hid hpr
    clear hb hpr PA PB X0
    obtain ⟨v0, v1, v2, v3, v4, v5, v6, v7, v8, v9, v10⟩ := X2.out.ndb.atn
    simp only [Nat.zero_add] at v0 v1 v2 v3 v4 v5 v6 v7 v8 v9 v10
    have zN := X2.out.ndb.lt
    have CD := Lib.hid (CC.out w2 A2 C2 (HW.out.trans (X2.out.kr.o.mono hrb)) X2.out.mkk (PR.out (fun e => by subst e; simp at hm)))
    clear CC
    go_wp2_with fail
    refine CD.out.mono ?_
    rintro e w3 ⟨rfl, hMk, hKa⟩
    have X3 := Lib.hid (X2.out.ka hKa zr hMk)
    clear hMk hKa X2 PR v0 v1 v2 v3 v4 v5 v6 v7 v8 v9 v10 zN
    obtain ⟨c0, c1, cf⟩ := X3.out.res.cells
    have f0 := cf 0
    have f1 := cf 1
    have z3 := X3.out.res.lt
    have MF := Lib.hid (Mk.eset (Mk.eset X3.out.mkk X3.out.res 0 (.int .u32 (r1 : Int))) (X3.out.res.set0 r1) 1 (.int .u32 (r2 : Int)))
    have KF := Lib.hid ((X3.out.kr.loc w.heap.size 0 (.int .u32 (r1 : Int)) (Nat.le_refl _) zr).loc w.heap.size 1 (.int .u32 (r2 : Int)) (Nat.le_refl _) zr)
    clear cf X3
    go_wp2_with fail
    refine bodyPost_ret (v := ev2 r1 r2) (by simp [results, Tryz.results44, go_sem, *]) rfl ⟨rfl, MF.out, KF.out⟩
  · subst hk
    rw [if_neg (show ¬ (3 : Int) = 2 by decide), if_pos rfl] at hP hE ⊢
    have hm := kd_m2 hkd (.inr rfl)
    have hne : ps ≠ [] := fun e => by subst e; simp at hm
    have CC := Lib.hid (fun W A C (hW : Below wb.heap.size wb W) (hM : Mk W r P E) hp => either_any wb r (au kf) ps hne hlen HI.out HB.out W A C P E hM hW hrb hp hP hE)
    generalize ei (au kf) P.length ps = R at CC ⊢
    obtain ⟨r1, r2, rP, rE⟩ := R
    (try dsimp only at CC)
    clear hkd hP hE HI HB hne
    go_enter Tryz.func44, Tryz.ntmps44
    go_upto_region 2 with fail
    generalize (w.alloc (.cells #[.int .u32 0, .int .u32 0] 121)).alloc (nobj ⟨3, ⟨px, pt, pa, pn, pc, pL⟩, y, ⟨gx, gt, ga, gn, gc, gL⟩, lo, hi, s⟩) = w1 at X0 ⊢
    clear k0 k1 k2 k3 k4 k5 k6 k7 k8 k9 k10 z0
    have PB := Lib.hid (PA.out w1 (HW.out.trans (X0.out.kr.o.mono hrb)))
    go_wp2_with fail
    refine PB.out.mono ?_
    rintro e w2 ⟨⟨A2, C2, rfl, hpr⟩, hb⟩
    have X2 := Lib.hid (X0.out.next hb)
    have PR := Lib.hid hpr
    clear hb hpr PA PB X0
    obtain ⟨v0, v1, v2, v3, v4, v5, v6, v7, v8, v9, v10⟩ := X2.out.ndb.atn
    simp only [Nat.zero_add] at v0 v1 v2 v3 v4 v5 v6 v7 v8 v9 v10
    have zN := X2.out.ndb.lt
    have CD := Lib.hid (CC.out w2 A2 C2 (HW.out.trans (X2.out.kr.o.mono hrb)) X2.out.mkk (PR.out (fun e => by subst e; simp at hm)))
    clear CC
    go_wp2_with fail
    refine CD.out.mono ?_
    rintro e w3 ⟨rfl, hMk, hKa⟩
    have X3 := Lib.hid (X2.out.ka hKa zr hMk)
    clear hMk hKa X2 PR v0 v1 v2 v3 v4 v5 v6 v7 v8 v9 v10 zN
    obtain ⟨c0, c1, cf⟩ := X3.out.res.cells
    have f0 := cf 0
    have f1 := cf 1
    have z3 := X3.out.res.lt
    have MF := Lib.hid (Mk.eset (Mk.eset X3.out.mkk X3.out.res 0 (.int .u32 (r1 : Int))) (X3.out.res.set0 r1) 1 (.int .u32 (r2 : Int)))
    have KF := Lib.hid ((X3.out.kr.loc w.heap.size 0 (.int .u32 (r1 : Int)) (Nat.le_refl _) zr).loc w.heap.size 1 (.int .u32 (r2 : Int)) (Nat.le_refl _) zr)
    clear cf X3
    go_wp2_with fail
    refine bodyPost_ret (v := ev2 r1 r2) (by simp [results, Tryz.results44, go_sem, *]) rfl ⟨rfl, MF.out, KF.out⟩
  · subst hk
    rw [if_neg (show ¬ (4 : Int) = 2 by decide), if_neg (show ¬ (4 : Int) = 3 by decide), if_pos rfl] at hP hE ⊢
    obtain ⟨hm, hl1, hl2, hl3⟩ := kd_rep hkd rfl
    simp only at hl1 hl2 hl3
    obtain ⟨p0, rfl⟩ : ∃ p, ps = [p] := List.length_eq_one_iff.1 hm
    rw [List.headD_cons] at hP hE ⊢
    obtain ⟨ho, rfl⟩ := Int.eq_ofNat_of_zero_le (show 0 ≤ hi by omega)
    obtain ⟨lu, rfl⟩ := Int.eq_ofNat_of_zero_le (show 0 ≤ lo by omega)
    rw [Int.toNat_natCast, Int.toNat_natCast] at hP hE ⊢
    have hne : List.replicate ho p0 ≠ [] := fun e => by have := congrArg List.length e; simp at this; omega
    have hin : ∀ p ∈ List.replicate ho p0, p = p0 := fun p hp => (List.mem_replicate.1 hp).2
    have hrl : (List.replicate ho p0).length = ho := List.length_replicate ..
    have CC := Lib.hid (fun W A C (hW : Below wb.heap.size wb W) (hM : Mk W r P E) hp => (by have := chain_any wb r (au kf) ⟨4, ⟨px, pt, pa, pn, pc, pL⟩, y, ⟨gx, gt, ga, gn, gc, gL⟩, (lu : Int), (ho : Int), s⟩ lu (by omega) (List.replicate ho p0) hne (by rw [hrl]; omega) (fun p hp => HI.out p (by rw [hin p hp]; simp)) (fun p hp => HB.out p (by rw [hin p hp]; simp)) W A C P E hM hW hrb HT.out HX.out hp hP hE; rwa [hrl] at this : Calls Tryz.prog 82 #[.pointer (some ⟨r, 0, none⟩), nOf ⟨4, ⟨px, pt, pa, pn, pc, pL⟩, y, ⟨gx, gt, ga, gn, gc, gL⟩, (lu : Int), (ho : Int), s⟩, .slice A ho C, .int .i64 (lu : Int)] W fun e w' => PtR r W (ch (au kf) P.length y (vq ⟨gx, gt, ga, gn, gc, gL⟩) lu (List.replicate ho p0)) P E e w'))
    generalize ch (au kf) P.length y (vq ⟨gx, gt, ga, gn, gc, gL⟩) lu (List.replicate ho p0) = R at CC ⊢
    obtain ⟨r1, r2, rP, rE⟩ := R
    (try dsimp only at CC)
    clear hkd hP hE HI HB hne hin hrl
    go_enter Tryz.func44, Tryz.ntmps44
    go_upto_region 2 with fail
    generalize (w.alloc (.cells #[.int .u32 0, .int .u32 0] 121)).alloc (nobj ⟨4, ⟨px, pt, pa, pn, pc, pL⟩, y, ⟨gx, gt, ga, gn, gc, gL⟩, (lu : Int), (ho : Int), s⟩) = w1 at X0 ⊢
    clear k0 k1 k2 k3 k4 k5 k6 k7 k8 k9 k10 z0
    have PB := Lib.hid (PA.out w1 (HW.out.trans (X0.out.kr.o.mono hrb)))
    go_wp2_with fail
    refine PB.out.mono ?_
    rintro e w2 ⟨⟨A2, C2, rfl, hpr⟩, hb⟩
    have X2 := Lib.hid (X0.out.next hb)
    have PR := Lib.hid hpr
    clear hb hpr PA PB X0
    obtain ⟨v0, v1, v2, v3, v4, v5, v6, v7, v8, v9, v10⟩ := X2.out.ndb.atn
    simp only [Nat.zero_add] at v0 v1 v2 v3 v4 v5 v6 v7 v8 v9 v10
    have zN := X2.out.ndb.lt
    obtain ⟨g2, e2, zg, hat⟩ := (PR.out (by simp)).at (by simp)
    obtain ⟨A0, C0, hc0, hp0⟩ := hat 0 (by simp)
    subst e2
    simp only [List.getD_cons_zero] at hc0 hp0
    have PRR := Lib.hid (PR.out (by simp))
    have HP0 := Lib.hid hp0
    have RP := Lib.hid (fun m => repeat1_any ⟨g2, 0, none⟩ C2 A0 p0.length C0 ho (w2.drewN m) (by omega) (by omega) hc0)
    clear hat hp0 hm
    simp only [List.length_singleton]
    have SK : Hid (∀ W, NB W (w.heap.size + 1) ⟨4, ⟨px, pt, pa, pn, pc, pL⟩, y, ⟨gx, gt, ga, gn, gc, gL⟩, (lu : Int), (ho : Int), s⟩ → (fun W => W.cell? ⟨w.heap.size + 1, 0, none⟩ = some (.int .u8 4) ∧ W.cell? ⟨w.heap.size + 1, 1, none⟩ = some (.bool px) ∧ W.cell? ⟨w.heap.size + 1, 2, none⟩ = some (.int .u8 pt) ∧ W.cell? ⟨w.heap.size + 1, 3, none⟩ = some (.slice pa pn pc) ∧ W.cell? ⟨w.heap.size + 1, 4, none⟩ = some (.bool y) ∧ W.cell? ⟨w.heap.size + 1, 5, none⟩ = some (.bool gx) ∧ W.cell? ⟨w.heap.size + 1, 6, none⟩ = some (.int .u8 gt) ∧ W.cell? ⟨w.heap.size + 1, 7, none⟩ = some (.slice ga gn gc) ∧ W.cell? ⟨w.heap.size + 1, 8, none⟩ = some (.int .u8 (lu : Int)) ∧ W.cell? ⟨w.heap.size + 1, 9, none⟩ = some (.int .u8 (ho : Int)) ∧ W.cell? ⟨w.heap.size + 1, 10, none⟩ = some (.int .i64 s)) W) := Lib.hid (fun W hW => by
      obtain ⟨u0, u1, u2, u3, u4, u5, u6, u7, u8, u9, u10⟩ := hW.atn
      simp only [Nat.zero_add] at u0 u1 u2 u3 u4 u5 u6 u7 u8 u9 u10
      exact ⟨u0, u1, u2, u3, u4, u5, u6, u7, u8, u9, u10⟩)
    have wl : IntKind.i64.wrap (lu : Int) = (lu : Int) := by rw [IntKind.wrap_i64]; omega
    have wh : IntKind.i64.wrap (ho : Int) = (ho : Int) := by rw [IntKind.wrap_i64]; omega
    go_upto_region 9 with fail
    refine wp_region_noPanic ?_
    refine wp_region_held_drew (S := (fun W => W.cell? ⟨w.heap.size + 1, 0, none⟩ = some (.int .u8 4) ∧ W.cell? ⟨w.heap.size + 1, 1, none⟩ = some (.bool px) ∧ W.cell? ⟨w.heap.size + 1, 2, none⟩ = some (.int .u8 pt) ∧ W.cell? ⟨w.heap.size + 1, 3, none⟩ = some (.slice pa pn pc) ∧ W.cell? ⟨w.heap.size + 1, 4, none⟩ = some (.bool y) ∧ W.cell? ⟨w.heap.size + 1, 5, none⟩ = some (.bool gx) ∧ W.cell? ⟨w.heap.size + 1, 6, none⟩ = some (.int .u8 gt) ∧ W.cell? ⟨w.heap.size + 1, 7, none⟩ = some (.slice ga gn gc) ∧ W.cell? ⟨w.heap.size + 1, 8, none⟩ = some (.int .u8 (lu : Int)) ∧ W.cell? ⟨w.heap.size + 1, 9, none⟩ = some (.int .u8 (ho : Int)) ∧ W.cell? ⟨w.heap.size + 1, 10, none⟩ = some (.int .i64 s))) (by kernel_rfl) (SK.out _ (X2.out.ndb.next ((Below.refl _ _).drew))) (fun hHeld => ?_)
    clear v0 v1 v2 v3 v4 v5 v6 v7 v8 v9 v10 zN
    refine wpAnyH_take (i := 0) (v := ?_) rfl (by kernel_rfl) (by kernel_rfl) (by kernel_rfl) (fun _ _ _ h => h) (Or.inl ⟨by rfl, ?_⟩) (by assumption) ?_
    rotate_left
    · (intro W hSw; simp only [List.getElem_toArray, List.getElem_cons_zero]; (try dsimp only at hSw); go_simp; with_reducible rfl)
    (try simp only [List.getElem_toArray, List.getElem_cons_zero, Act.put, List.setIfInBounds_toArray, List.set_cons_zero, List.set_cons_succ])
    refine wpAnyH_take (i := 1) (v := ?_) rfl (by kernel_rfl) (by kernel_rfl) (by kernel_rfl) (fun _ _ _ h => h) (Or.inl ⟨by rfl, ?_⟩) (by assumption) ?_
    rotate_left
    · (intro W hSw; simp only [List.getElem_toArray, List.getElem_cons_succ, List.getElem_cons_zero]; (try dsimp only at hSw); go_simp; with_reducible rfl)
    (try simp only [List.getElem_toArray, List.getElem_cons_succ, List.getElem_cons_zero, Act.put, List.setIfInBounds_toArray, List.set_cons_zero, List.set_cons_succ])
    refine wpAnyH_take (i := 2) (v := ?_) rfl (by kernel_rfl) (by kernel_rfl) (by kernel_rfl) (fun _ _ _ h => h) (Or.inl ⟨by rfl, ?_⟩) (by assumption) ?_
    rotate_left
    · (intro W hSw; simp only [List.getElem_toArray, List.getElem_cons_succ, List.getElem_cons_zero]; (try dsimp only at hSw); go_simp; with_reducible rfl)
    (try simp only [List.getElem_toArray, List.getElem_cons_succ, List.getElem_cons_zero, Act.put, List.setIfInBounds_toArray, List.set_cons_zero, List.set_cons_succ])
    refine wpAnyH_take (i := 3) (v := ?_) rfl (by kernel_rfl) (by kernel_rfl) (by kernel_rfl) (fun _ _ _ h => h) (Or.inl ⟨by rfl, ?_⟩) (by assumption) ?_
    rotate_left
    · (intro W hSw; simp only [List.getElem_toArray, List.getElem_cons_succ, List.getElem_cons_zero]; (try dsimp only at hSw); go_simp; with_reducible rfl)
    (try simp only [List.getElem_toArray, List.getElem_cons_succ, List.getElem_cons_zero, Act.put, List.setIfInBounds_toArray, List.set_cons_zero, List.set_cons_succ])
    refine wpAnyH_take (i := 4) (v := ?_) rfl (by kernel_rfl) (by kernel_rfl) (by kernel_rfl) (fun _ _ _ h => h) (Or.inl ⟨by rfl, ?_⟩) (by assumption) ?_
    rotate_left
    · (intro W hSw; simp only [List.getElem_toArray, List.getElem_cons_succ, List.getElem_cons_zero]; (try dsimp only at hSw); go_simp; with_reducible rfl)
    (try simp only [List.getElem_toArray, List.getElem_cons_succ, List.getElem_cons_zero, Act.put, List.setIfInBounds_toArray, List.set_cons_zero, List.set_cons_succ])
    refine wpAnyH_take (i := 5) (v := ?_) rfl (by kernel_rfl) (by kernel_rfl) (by kernel_rfl) (fun _ _ _ h => h) (Or.inl ⟨by rfl, ?_⟩) (by assumption) ?_
    rotate_left
    · (intro W hSw; simp only [List.getElem_toArray, List.getElem_cons_succ, List.getElem_cons_zero]; (try dsimp only at hSw); go_simp; with_reducible rfl)
    (try simp only [List.getElem_toArray, List.getElem_cons_succ, List.getElem_cons_zero, Act.put, List.setIfInBounds_toArray, List.set_cons_zero, List.set_cons_succ])
    refine wpAnyH_take (i := 7) (v := ?_) rfl (by kernel_rfl) (by kernel_rfl) (by kernel_rfl) (fun _ _ _ h => h) (Or.inl ⟨by rfl, ?_⟩) (by assumption) ?_
    rotate_left
    · (intro W hSw; simp only [List.getElem_toArray, List.getElem_cons_succ, List.getElem_cons_zero]; (try dsimp only at hSw); go_simp; with_reducible rfl)
    (try simp only [List.getElem_toArray, List.getElem_cons_succ, List.getElem_cons_zero, Act.put, List.setIfInBounds_toArray, List.set_cons_zero, List.set_cons_succ])
    refine wpAnyH_take (i := 8) (v := ?_) rfl (by kernel_rfl) (by kernel_rfl) (by kernel_rfl) (fun _ _ _ h => h) (Or.inl ⟨by rfl, ?_⟩) (by assumption) ?_
    rotate_left
    · (intro W hSw; simp only [List.getElem_toArray, List.getElem_cons_succ, List.getElem_cons_zero]; (try dsimp only at hSw); go_simp; with_reducible rfl)
    (try simp only [List.getElem_toArray, List.getElem_cons_succ, List.getElem_cons_zero, Act.put, List.setIfInBounds_toArray, List.set_cons_zero, List.set_cons_succ])
    refine wpAnyH_take (i := 9) (v := ?_) rfl (by kernel_rfl) (by kernel_rfl) (by kernel_rfl) (fun _ _ _ h => h) (Or.inl ⟨by rfl, ?_⟩) (by assumption) ?_
    rotate_left
    · (intro W hSw; simp only [List.getElem_toArray, List.getElem_cons_succ, List.getElem_cons_zero]; (try dsimp only at hSw); go_simp; with_reducible rfl)
    (try simp only [List.getElem_toArray, List.getElem_cons_succ, List.getElem_cons_zero, Act.put, List.setIfInBounds_toArray, List.set_cons_zero, List.set_cons_succ])
    refine wpAnyH_ready (rs := [6]) (by kernel_rfl) (by simp) ?_
    refine AllReadyH.cons rfl (fun K hK => ?_) AllReadyH.nil
    (try simp only [List.getElem_toArray, List.getElem_cons_succ, List.getElem_cons_zero])
    go_simp
    go_at_call 84
    refine (RP.out 1).mono ?_
    rintro e w3 ⟨rfl, hv, hb⟩
    have X3 := Lib.hid (X2.out.next ((below_drewN w2.heap.size w2 1).trans hb))
    have PR3 := Lib.hid (PrT.rep ho A0 C0 PRR.out HP0.out hv)
    have CD := Lib.hid (CC.out w3 _ ho (HW.out.trans (X3.out.kr.o.mono hrb)) X3.out.mkk PR3.out)
    clear hv hb RP CC
    refine hK.out _ _ (SK.out _ X3.out.ndb) (fun hHeld => ?_)
    (try simp only [List.getElem_toArray, List.getElem_cons_succ, List.getElem_cons_zero, Act.put, List.setIfInBounds_toArray, List.set_cons_zero, List.set_cons_succ])
    refine wpAnyH_ready (rs := [10]) (by kernel_rfl) (by simp) ?_
    refine AllReadyH.cons rfl (fun K hK => ?_) AllReadyH.nil
    (try simp only [List.getElem_toArray, List.getElem_cons_succ, List.getElem_cons_zero])
    go_simp
    go_at_call 82
    refine CD.out.mono ?_
    rintro e w4 ⟨rfl, hMk, hKa⟩
    have X4 := Lib.hid (X3.out.ka hKa zr hMk)
    clear hMk hKa CD PR3
    refine hK.out _ _ (SK.out _ X4.out.ndb) (fun hHeld => ?_)
    obtain ⟨c0, c1, cf⟩ := X4.out.res.cells
    have f0 := cf 0
    have f1 := cf 1
    have z3 := X4.out.res.lt
    have NF := Lib.hid ((X4.out.ndb.other w.heap.size 0 (.int .u32 (r1 : Int)) (by omega)).other w.heap.size 1 (.int .u32 (r2 : Int)) (by omega))
    have MF := Lib.hid (Mk.eset (Mk.eset X4.out.mkk X4.out.res 0 (.int .u32 (r1 : Int))) (X4.out.res.set0 r1) 1 (.int .u32 (r2 : Int)))
    have KF := Lib.hid ((X4.out.kr.loc w.heap.size 0 (.int .u32 (r1 : Int)) (Nat.le_refl _) zr).loc w.heap.size 1 (.int .u32 (r2 : Int)) (Nat.le_refl _) zr)
    clear cf
    refine wpAnyH_ready (rs := [11]) (by kernel_rfl) (by simp) ?_
    refine AllReadyH.cons rfl (fun K hK => ?_) AllReadyH.nil
    (try simp only [List.getElem_toArray, List.getElem_cons_succ, List.getElem_cons_zero])
    go_simp
    refine hK.out _ _ (SK.out _ NF.out) (fun hHeld => ?_)
    refine wpAnyH_done (by kernel_rfl) ?_ _
    refine NoPanic.normal ?_
    clear X4 X3 X2 SK NF hHeld hK
    go_wp2_with fail
    refine bodyPost_ret (v := ev2 r1 r2) (by simp [results, Tryz.results44, go_sem, *]) rfl ⟨rfl, MF.out, KF.out⟩
theorem pat_any (wb : World) (r : Nat) (hrb : wb.heap.size ≤ r) (hT : Tab5 wb) (k : Nat) : ∀ (l : List Nd), fmd k l = true → frn l = l → l.length ≤ 256 → AC wb r (au k) l := by
  induction k with
  | zero => intro l h; cases h
  | succ k ih =>
    intro l h hf hl
    unfold fmd at h
    rw [Bool.and_eq_true] at h
    obtain ⟨x, q, ps, h1, h2, h3, h4⟩ := ofp_spl h.1
    rw [hf] at h1
    subst h1
    refine pat1 wb r k x q h.2 (Nat.le_trans (pts_len _) hl) hrb hT fun p hp => ?_
    have hm := pts_mem p hp
    exact ih p (List.all_eq_true.1 h4 p (by rw [← h3]; exact hp)) hm.2.1 (by have := hm.2.2.1; omega)
end Go.Proofs.YtpnllbojifnopaaGreatDoor
namespace Go.Proofs.YtpnllbojifnopaaGreatDoor
open Go Go.RowKit Pk Rl
open Go.Sort (grow)
set_option maxRecDepth 20000
def cfo (x y : Int) : Int := if x = 0 then y else x
set_option maxHeartbeats 1000000 in
theorem or_any (b : Nat) (x y : Int) (w : World) (h0 : w.cell? ⟨b, 0, none⟩ = some (.int .i64 x)) (h1 : w.cell? ⟨b, 1, none⟩ = some (.int .i64 y)) :
    Calls Tryz.prog 88 #[.slice (some ⟨b, 0, none⟩) 2 2] w fun e w' => e = .returned (.int .i64 (cfo x y)) ∧ w' = w := by
  by_cases hx : x = 0
  · have E := Lib.hid (show cfo x y = y from if_pos hx)
    subst hx
    by_cases hy : y = 0
    · subst hy
      go_enter Tryz.func88, Tryz.ntmps88
      go_wp2
      refine wp_loop_rounds 3 ?_
      rw [rounds_succ]
      go_wp2
      rw [rounds_succ]
      go_wp2
      rw [rounds_succ]
      go_wp2
      go_ret
      exact ⟨by rw [E.out]; rfl, rfl⟩
    · have e1 : (y != 0) = true := by simpa using hy
      go_enter Tryz.func88, Tryz.ntmps88
      go_wp2
      refine wp_loop_rounds 3 ?_
      rw [rounds_succ]
      go_wp2
      rw [rounds_succ]
      go_wp2
      go_ret
      exact ⟨by rw [E.out]; rfl, rfl⟩
  · have E := Lib.hid (show cfo x y = x from if_neg hx)
    have e1 : (x != 0) = true := by simpa using hx
    go_enter Tryz.func88, Tryz.ntmps88
    go_wp2
    refine wp_loop_rounds 3 ?_
    rw [rounds_succ]
    go_wp2
    go_ret
    exact ⟨by rw [E.out]; rfl, rfl⟩
theorem cmp8_any (x y : Nat) (w : World) :
    Calls Tryz.prog 89 #[.int .u8 (x : Int), .int .u8 (y : Int)] w fun e w' => e = .returned (.int .i64 (c3 x y)) ∧ w = w' := by
  unfold c3
  by_cases a : (x : Int) < y
  · rw [if_pos a]
    have h1 : decide (x < y) = true := by simp; omega
    go_enter Tryz.func89, Tryz.ntmps89
    go_wp2_with go_in
    go_ret
    exact ⟨rfl, rfl⟩
  · have h1 : decide (x < y) = false := by simp; omega
    rw [if_neg a]
    by_cases c : (y : Int) < x
    · rw [if_pos c]
      have h2 : decide (y < x) = true := by simp; omega
      go_enter Tryz.func89, Tryz.ntmps89
      go_wp2_with go_in
      go_ret
      exact ⟨rfl, rfl⟩
    · rw [if_neg c]
      have h2 : decide (y < x) = false := by simp; omega
      go_enter Tryz.func89, Tryz.ntmps89
      go_wp2_with go_in
      go_ret
      exact ⟨rfl, rfl⟩
def Gw (w W : World) : Prop := ∃ q os, W = grow (w.drewN q) os
theorem Gw.alloc {w W : World} (h : Gw w W) (o : Obj) : Gw w (W.alloc o) := by
  obtain ⟨q, os, rfl⟩ := h
  exact ⟨q, os ++ #[o], by rw [Go.Sort.alloc_eq_grow, Go.Sort.grow_grow]⟩
theorem Gw.drew {w W : World} (h : Gw w W) : Gw w W.drew := by
  obtain ⟨q, os, rfl⟩ := h
  exact ⟨q + 1, os, rfl⟩
theorem Gw.refl (w : World) : Gw w w := ⟨0, #[], by rw [Go.Sort.grow_empty]; rfl⟩
def cfE (x y : Ed) : Int := cfo (c3 x.f y.f) (c3 x.t y.t)
abbrev eobjE (e : Ed) : Obj := .cells #[.int .u8 (e.f : Int), .int .u8 (e.t : Int), .bool e.y, .bool e.g.x, .int .u8 e.g.t, .slice e.g.a e.g.n e.g.c] 47
abbrev Ko (w W : World) (h a1 a2 b1 b2 : Nat) : Prop := W.cell? ⟨h, 0, none⟩ = some (.int .u8 (a1 : Int)) ∧ W.cell? ⟨h, 1, none⟩ = some (.int .u8 (a2 : Int)) ∧ W.cell? ⟨h + 1, 0, none⟩ = some (.int .u8 (b1 : Int)) ∧ W.cell? ⟨h + 1, 1, none⟩ = some (.int .u8 (b2 : Int)) ∧ Hid (Gw w W)
theorem ko_alloc {w W : World} {h a1 a2 b1 b2 : Nat} (o : Obj) (K : Ko w W h a1 a2 b1 b2) : Ko w (W.alloc o) h a1 a2 b1 b2 := by
  have hb := below_alloc W o
  have k : ∀ (g j : Nat) v, W.cell? ⟨g, j, none⟩ = some v → (W.alloc o).cell? ⟨g, j, none⟩ = some v := fun g j v hv => (hb.cell (p := ⟨g, j, none⟩) (World.block_lt_of_cell? _ _ hv)).trans hv
  exact ⟨k _ _ _ K.1, k _ _ _ K.2.1, k _ _ _ K.2.2.1, k _ _ _ K.2.2.2.1, Lib.hid (K.2.2.2.2.out.alloc o)⟩
set_option maxHeartbeats 4000000 in
theorem inOrder_any (x y : Ed) (w : World) :
    Calls Tryz.prog 46 #[eOf x, eOf y] w fun e w' => e = .returned (.int .i64 (cfE x y)) ∧ ∃ q os, w' = grow (w.drewN q) os := by
  obtain ⟨a1, a2, ay, ⟨agx, agt, aga, agn, agc, agL⟩⟩ := x
  obtain ⟨b1, b2, b_y, ⟨bgx, bgt, bga, bgn, bgc, bgL⟩⟩ := y
  have C := Lib.hid (fun (p q : Nat) W => cmp8_any p q W)
  have O := Lib.hid (fun (p q : Int) (X : World) => or_any X.heap.size p q (X.alloc (.cells #[.int .i64 p, .int .i64 q] 3)).drew (by simp [go_sem]) (by simp [go_sem]))
  obtain ⟨w2, hw2⟩ : ∃ W, (w.alloc (eobjE ⟨a1, a2, ay, ⟨agx, agt, aga, agn, agc, agL⟩⟩)).alloc (eobjE ⟨b1, b2, b_y, ⟨bgx, bgt, bga, bgn, bgc, bgL⟩⟩) = W := ⟨_, rfl⟩
  have K2 : Ko w w2 w.heap.size a1 a2 b1 b2 := by
    rw [← hw2]
    exact ⟨by simp [go_sem], by simp [go_sem], by simp [go_sem], by simp [go_sem], Lib.hid (((Gw.refl w).alloc _).alloc _)⟩
  have KD : Hid (Ko w w2.drew w.heap.size a1 a2 b1 b2) := Lib.hid ⟨K2.1, K2.2.1, K2.2.2.1, K2.2.2.2.1, Lib.hid K2.2.2.2.2.out.drew⟩
  have KD2 : Hid (∀ o, Ko w (w2.alloc o).drew w.heap.size a1 a2 b1 b2) := Lib.hid (fun o => by
    have K3 := ko_alloc o K2
    exact ⟨K3.1, K3.2.1, K3.2.2.1, K3.2.2.2.1, Lib.hid K3.2.2.2.2.out.drew⟩)
  show Calls _ _ _ _ fun e w' => e = .returned (.int .i64 (cfo (c3 a1 b1) (c3 a2 b2))) ∧ _
  go_enter Tryz.func46, Tryz.ntmps46
  go_wp2_with fail
  go_region_held3 (fun X => X.cell? ⟨w.heap.size, 0, none⟩ = some (.int .u8 (a1 : Int)) ∧ X.cell? ⟨w.heap.size, 1, none⟩ = some (.int .u8 (a2 : Int)) ∧ X.cell? ⟨w.heap.size + 1, 0, none⟩ = some (.int .u8 (b1 : Int)) ∧ X.cell? ⟨w.heap.size + 1, 1, none⟩ = some (.int .u8 (b2 : Int)) ∧ Hid (Gw w X))
    (first | (with_reducible assumption) | (with_reducible exact KD.out) | (with_reducible exact KD2.out _))
    (first
      | (go_at_call 89; refine Calls.mono (C.out _ _ _) ?_; rintro e w3 ⟨rfl, rfl⟩)
      | (go_at_call 88; refine Calls.mono (O.out _ _ _) ?_; rintro e w4 ⟨rfl, rfl⟩))
  rename_i hHeld
  have G := Lib.hid hHeld.2.2.2.2.out
  clear hHeld
  go_wp2_with fail
  go_ret
  exact ⟨rfl, G.out⟩
end Go.Proofs.YtpnllbojifnopaaGreatDoor
namespace Go.Proofs.YtpnllbojifnopaaGreatDoor
open Go Go.RowKit Pk Rl
open Go.Lib Go.Sort Go.Shelf
set_option maxRecDepth 20000
abbrev ed0 : Ed := ⟨0, 0, false, qz⟩
instance : Inhabited Ed := ⟨ed0⟩
theorem ecls_get (D : List Ed) (i : Nat) (hi : i < D.length) (j : Nat) (hj : j < 6) : (D.flatMap ecl)[i * 6 + j]? = (ecl (D.getD i ed0))[j]? := by
  induction D generalizing i with
  | nil => simp at hi
  | cons v D ih =>
    rw [List.flatMap_cons]
    rcases i with _ | i
    · rw [List.getElem?_append_left (by show 0 * 6 + j < 6; omega), Nat.zero_mul, Nat.zero_add]
      rfl
    · rw [List.getElem?_append_right (by show 6 ≤ (i + 1) * 6 + j; omega), show (i + 1) * 6 + j - (ecl v).length = i * 6 + j by show (i + 1) * 6 + j - 6 = _; omega, ih i (by simpa using hi), List.getD_cons_succ]
theorem ltE (x y : Ed) : ltOf cfE x y = decide (x.f < y.f ∨ x.f = y.f ∧ x.t < y.t) := by
  show decide (cfo (c3 x.f y.f) (c3 x.t y.t) < 0) = _
  unfold cfo c3
  congr 1
  apply propext
  repeat' split
  all_goals omega
theorem swoE : SWO (ltOf cfE) where
  irrefl x := by rw [ltE]; simp
  trans x y z h1 h2 := by rw [ltE] at *; simp only [decide_eq_true_eq] at *; omega
  ntrans x y z h1 h2 := by rw [ltE] at *; simp only [decide_eq_false_iff_not] at *; omega
theorem holdsE {w : World} {B b c : Nat} {L : List Ed} (h : OwnE w B (.slice (some ⟨b, 0, none⟩) L.length c) L) : HoldsK ecl 6 w b 0 L.toArray := by
  rcases h.2 with ⟨e, _⟩ | ⟨g, cap, cur, e, _, hh, hcap, _, hsz, ht⟩
  · cases e
  · injection e with e _ _
    injection e with e
    injection e with e _ _
    subst e
    intro j hj
    rw [size_flatK] at hj
    rw [get_flatK _ _ _ _ hj]
    have hj2 : j < L.length * 6 := by simpa using hj
    have eg : L.toArray[j / 6]! = L.getD (j / 6) ed0 := by
      have : j / 6 < L.length := by omega
      simp [List.getD_eq_getElem?_getD, this]
    refine ⟨?_, ?_⟩
    · rw [Nat.zero_add, cell_of_row w b j _ _ _ hh, eg]
      have h1 := ecls_get L (j / 6) (by omega) (j % 6) (by omega)
      rw [show j / 6 * 6 + j % 6 = j by omega, ← ht, List.getElem?_take_of_lt (by omega), Array.getElem?_toList] at h1
      rw [h1]
      have hl : j % 6 < (ecl (L.getD (j / 6) ed0)).length := by show j % 6 < 6; omega
      rw [List.getElem?_eq_getElem hl]
      show _ = some ((ecl (L.getD (j / 6) ed0))[j % 6]!)
      rw [getElem!_pos (ecl (L.getD (j / 6) ed0)) (j % 6) hl]
    · simp [World.frozen?, hh]
theorem ownE_sorted {w : World} {B b c n : Nat} {L L' : List Ed} (os : Array Obj) (h : OwnE w B (.slice (some ⟨b, 0, none⟩) L.length c) L) (hl : L'.length = L.length) : OwnE (sortWorldK ecl 6 w b 0 n L'.toArray os) B (.slice (some ⟨b, 0, none⟩) L'.length c) L' := by
  refine ⟨by rw [ecls_len], ?_⟩
  rcases h.2 with ⟨e, _⟩ | ⟨g, cap, cur, e, hB, hh, hcap, hmx, hsz, ht⟩
  · cases e
  · injection e with e _ ec
    injection e with e
    injection e with e _ _
    subst e ec
    have hlt := (Array.getElem?_eq_some_iff.1 hh).1
    refine .inr ⟨b, c, putCells id 0 (flatK ecl 6 L'.toArray) cur, rfl, hB, ?_, by omega, hmx, by unfold putCells; rw [Array.size_mapIdx]; exact hsz, ?_⟩
    · unfold sortWorldK grow putRowK putRow mapBlock
      simp only
      have hs : b < ((Sort.ahead w n).heap.modify b (onCells (putCells id 0 (flatK ecl 6 L'.toArray)))).size := by simpa [Sort.ahead] using hlt
      rw [Array.getElem?_append_left hs, Array.getElem?_modify, if_pos rfl]
      show Option.map _ w.heap[b]? = _
      rw [hh]
      rfl
    · refine List.ext_getElem? fun j => ?_
      by_cases hj : j < L'.length * 6
      · rw [List.getElem?_take_of_lt hj, Array.getElem?_toList]
        have hjc : j < cur.size := by rw [hsz]; omega
        unfold putCells
        rw [Array.getElem?_mapIdx, Array.getElem?_eq_getElem hjc]
        have hc : 0 ≤ j ∧ j < 0 + (flatK ecl 6 L'.toArray).size := by rw [size_flatK]; simp; omega
        simp only [Option.map_some, if_pos hc, id_eq, Nat.sub_zero]
        rw [get_flatK _ _ _ _ (by simpa using hj)]
        have eg : L'.toArray[j / 6]! = L'.getD (j / 6) ed0 := by
          have : j / 6 < L'.length := by omega
          simp [List.getD_eq_getElem?_getD, this]
        have h1 := ecls_get L' (j / 6) (by omega) (j % 6) (by omega)
        rw [show j / 6 * 6 + j % 6 = j by omega] at h1
        rw [h1, eg]
        have hl : j % 6 < (ecl (L'.getD (j / 6) ed0)).length := by show j % 6 < 6; omega
        rw [List.getElem?_eq_getElem hl, getElem!_pos (ecl (L'.getD (j / 6) ed0)) (j % 6) hl]
      · rw [List.getElem?_eq_none (by rw [List.length_take]; omega), List.getElem?_eq_none (by rw [ecls_len]; omega)]
theorem ka_sort {r b n : Nat} {w : World} {d : Array Ed} {os : Array Obj} {cur : Array Value} (hb : r < b) (hh : w.heap[b]? = some (.cells cur 47 (0, 0))) : Ka r w (sortWorldK ecl 6 w b 0 n d os) ∧ ∀ x, x < w.heap.size → x ≠ b → (sortWorldK ecl 6 w b 0 n d os).heap[x]? = w.heap[x]? := by
  have key : ∀ x, x < w.heap.size → x ≠ b → (sortWorldK ecl 6 w b 0 n d os).heap[x]? = w.heap[x]? := fun x hx hn => by
    unfold sortWorldK grow putRowK putRow mapBlock
    simp only
    have hs : x < ((Sort.ahead w n).heap.modify b (onCells (putCells id 0 (flatK ecl 6 d)))).size := by simpa [Sort.ahead] using hx
    rw [Array.getElem?_append_left hs, Array.getElem?_modify, if_neg (fun e => hn e.symm)]
    rfl
  have hlt := (Array.getElem?_eq_some_iff.1 hh).1
  refine ⟨⟨⟨rfl, rfl, rfl, size_sortWorldK_c ecl 6 w b 0 n d os, fun x hx => key x (by omega) (by omega)⟩, fun x o hx _ hf => ?_⟩, key⟩
  rw [key x (Array.getElem?_eq_some_iff.1 hx).1 (fun e => ?_)]
  · exact hx
  · subst e
    rw [hh] at hx
    injection hx with hx
    exact (hf _ _ _ hx.symm).2 rfl
def Kyl (L : List Ed) : Prop := ∀ i j, i < j → j < L.length → ¬ ((L.getD j ed0).f < (L.getD i ed0).f ∨ (L.getD j ed0).f = (L.getD i ed0).f ∧ (L.getD j ed0).t < (L.getD i ed0).t)
def SoR (r : Nat) (Ap : Option Addr) (kp cp : Nat) (Ae : Option Addr) (ke ce : Nat) (Ps : List Qu) (Es : List Ed) (w : World) (e : Ending) (w' : World) : Prop :=
  (∃ v, e = .returned v) ∧ ∃ Es', Es'.Perm Es ∧ Kyl Es' ∧ Mi w' r Ap kp cp Ae ke ce Ps Es' ∧ Ka r w w'
set_option maxHeartbeats 1000000 in
theorem sortE_any (r : Nat) (Ap : Option Addr) (kp cp : Nat) (Ae : Option Addr) (ke ce : Nat) (Ps : List Qu) (Es : List Ed) (w : World) (h : Mi w r Ap kp cp Ae ke ce Ps Es) (hs : ke ≤ 1000000) :
    Calls Tryz.prog 45 #[.slice Ae ke ce, .func (.func 46) #[] #[]] w fun e w' => SoR r Ap kp cp Ae ke ce Ps Es w e w' := by
  rcases h.re.2 with ⟨e, h0⟩ | ⟨g, cap, cur, e, hB, hh, hcap, hmx, hsz, ht⟩
  · injection e with e1 e2 e3
    subst e1 e2 e3
    have hE : Es = [] := List.eq_nil_of_length_eq_zero h0
    subst hE
    refine (AnyF.slices_SortFunc_none Tryz.sort none 0 (.func (.func 46) #[] #[]) w).mono ?_
    rintro e w' ⟨rfl, rfl⟩
    exact ⟨⟨_, rfl⟩, [], List.Perm.refl _, fun i j _ hj => by simp at hj, h, Ka.refl _ _⟩
  · injection e with e1 e2 e3
    subst e1 e3
    have hl := h.le
    subst hl
    have eg : ∀ args w, (callFunc 46 args).run Tryz.prog w = .ok (.enter 46 args) w := enters_of Tryz.func46 (by kernel_rfl) rfl
    have hlt := (Array.getElem?_eq_some_iff.1 hh).1
    have hcon := AnyQ.slices_SortFunc Tryz.sort 6 Tryz.isAgg47 Tryz.sizeOf47 ecl (fun _ => rfl) (fun x v hv => by simp [ecl] at hv; rcases hv with rfl | rfl | rfl | rfl | rfl | rfl <;> rfl) cfE swoE 46 #[] g 0 ce Es.toArray w eg
      (fun _ _ _ _ x y => inOrder_any x y _) (holdsE h.re) hlt (by simp; omega)
    change Calls Tryz.prog 45 _ _ _ at hcon
    rw [List.size_toArray] at hcon
    refine hcon.mono ?_
    rintro e w' ⟨rfl, d', n, os, ⟨p1, _, p3⟩, hso, rfl⟩
    obtain ⟨L', rfl⟩ : ∃ L : List Ed, d' = L.toArray := ⟨d'.toList, rfl⟩
    have hl' : L'.length = Es.length := by simpa using p1
    have hperm : L'.Perm Es := by
      have p4 : (L'.take Es.length).Perm Es := by simpa using p3
      rwa [List.take_of_length_le (by omega)] at p4
    obtain ⟨hka, hoth⟩ := ka_sort (r := r) (n := n) (d := L'.toArray) (os := os) (by omega) hh
    have hsm : ∀ (x : Nat) (o : Obj), w.heap[x]? = some o → (∀ cur ty fr, o = .cells cur ty fr → ty ≠ 47) → (sortWorldK ecl 6 w g 0 n L'.toArray os).heap[x]? = some o := fun x o hx ho => by
      rw [hoth x (Array.getElem?_eq_some_iff.1 hx).1 (fun e => ?_)]
      · exact hx
      · subst e
        rw [hh] at hx
        injection hx with hx
        exact ho _ _ _ hx.symm rfl
    have tq : ∀ q, Qm w (r + 1) q → Qm (sortWorldK ecl 6 w g 0 n L'.toArray os) (r + 1) q := fun q hq => qm_same hq (fun x cur hx => hsm x _ hx (fun _ _ _ e => by injection e with _ e _; rw [← e]; decide))
    refine ⟨⟨_, rfl⟩, L', hperm, fun i j hij hj => ?_, ⟨hsm _ _ h.box (fun _ _ _ e => by injection e with _ e _; rw [← e]; decide), row_same h.rp (fun x cur _ hx => hsm x _ hx (fun _ _ _ e => by injection e with _ e _; rw [← e]; decide)), by have := ownE_sorted (n := n) os h.re hl'; rwa [hl'] at this, h.lp, hl', fun q hq => tq q (h.qp q hq), fun d hd => tq _ (h.qe d (hperm.mem_iff.1 hd))⟩, hka⟩
    have h2 := hso i j (Nat.zero_le _) hij (by omega)
    rw [ltE] at h2
    have e1 : L'.toArray[i]! = L'.getD i ed0 := by
      have : i < L'.length := by omega
      simp [List.getD_eq_getElem?_getD, this]
    have e2 : L'.toArray[j]! = L'.getD j ed0 := by simp [List.getD_eq_getElem?_getD, hj]
    rw [e1, e2] at h2
    simpa using h2
end Go.Proofs.YtpnllbojifnopaaGreatDoor
