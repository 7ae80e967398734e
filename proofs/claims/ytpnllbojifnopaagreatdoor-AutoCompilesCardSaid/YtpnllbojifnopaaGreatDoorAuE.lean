/- One of the parts: the program's either. -/
import Derived.Test.YtpnllbojifnopaaGreatDoorAuD
namespace Go.Proofs.YtpnllbojifnopaaGreatDoor
open Go Go.RowKit Pk Rl
set_option maxRecDepth 20000

/- between two parts -/
structure Ei (wb w W : World) (r : Nat) (A : Option Addr) (ps : List (List Nd)) (s : Res) (P : List VQ) (E : List EV) : Prop where
  mkk : Mk W r (P ++ s.2.2.1) (E ++ s.2.2.2)
  res : EB W w.heap.size 0 0
  all : EB W (w.heap.size + 1) s.1 s.2.1
  row : PrT wb W A ps
  kr : Ka r w W
  b0 : s.1 < 4294967296
  b1 : s.2.1 < 4294967296
theorem or32 {a b : Nat} (ha : a < 4294967296) (hb : b < 4294967296) : a ||| b < 4294967296 := Nat.or_lt_two_pow (n := 32) ha hb
set_option maxHeartbeats 8000000 in
theorem either_any (wb : World) (r : Nat) (f : List Nd → Nat → Res) (ps : List (List Nd)) (hne : ps ≠ []) (hlen : ps.length ≤ 256) (IH : ∀ p ∈ ps, AC wb r f p) (HB : ∀ p ∈ ps, ∀ n, n + (f p n).2.2.1.length ≤ 32 → (f p n).1 < 4294967296 ∧ (f p n).2.1 < 4294967296)
    (w : World) (A : Option Addr) (C : Nat) (P : List VQ) (E : List EV) (h : Mk w r P E) (hwb : Below wb.heap.size wb w) (hrb : wb.heap.size ≤ r) (hp : PrT wb w A ps) (hP : P.length + (ei f P.length ps).2.2.1.length ≤ 32) (hE : E.length + (ei f P.length ps).2.2.2.length ≤ 1000000000) :
    Calls Tryz.prog 83 #[.pointer (some ⟨r, 0, none⟩), .slice A ps.length C] w fun e w' => PtR r w (ei f P.length ps) P E e w' := by
  have zr := Mk.lt h
  obtain ⟨N, hN⟩ : ∃ N, ps.length = N := ⟨_, rfl⟩
  obtain ⟨w1, hw1⟩ : ∃ X, (w.alloc (.cells #[.int .u32 0, .int .u32 0] 121)).alloc (.cells #[.int .u32 0, .int .u32 0] 121) = X := ⟨_, rfl⟩
  have b1 : Below w.heap.size w w1 := hw1 ▸ below_go (below_alloc w _) (below_alloc _ _)
  have I0 := Lib.hid (show Ei wb w w1 r A ps (0, 0, [], []) P E from by
    refine ⟨by simpa using Mk.next h b1, ?_, ?_, hp.next b1, Ka.of_below b1 (Nat.le_of_lt zr), by decide, by decide⟩
    · rw [← hw1]; exact (EB.alloc w 0 0).next (below_alloc _ _)
    · rw [← hw1, ← World.size_alloc w (.cells #[.int .u32 0, .int .u32 0] 121)]; exact EB.alloc _ 0 0)
  have FS := Lib.hid (fun i (hi : i < N) => foldl_snoc (eis f P.length) (0, 0, [], []) ps [] i (by omega))
  have FP := Lib.hid (fun i => foldl_part (eis f P.length) (fun s => s.2.2.1.length) (fun s p => eis_P f P.length s p) ps (0, 0, [], []) i)
  have FE := Lib.hid (fun i => foldl_part (eis f P.length) (fun s => s.2.2.2.length) (fun s p => eis_E f P.length s p) ps (0, 0, [], []) i)
  obtain ⟨RR, hRR⟩ : ∃ R, ei f P.length ps = R := ⟨_, rfl⟩
  obtain ⟨x1, x2, xP, xE⟩ := RR
  have FN : Hid ((ps.take N).foldl (eis f P.length) (0, 0, [], []) = (x1, x2, xP, xE)) := Lib.hid (by rw [← hN, List.take_length, ← hRR]; rfl)
  have HIH := Lib.hid IH
  have HHB := Lib.hid HB
  have PM := Lib.hid (fun i (hi : i < N) => pgetD_mem ps i (by omega))
  obtain ⟨PT, hPT⟩ : ∃ n, (ei f P.length ps).2.2.1.length = n := ⟨_, rfl⟩
  obtain ⟨ET, hET⟩ : ∃ n, (ei f P.length ps).2.2.2.length = n := ⟨_, rfl⟩
  have HP1 := Lib.hid hPT
  have HE1 := Lib.hid hET
  rw [hPT] at hP
  rw [hET] at hE
  rw [hRR]
  rw [hN] at hlen ⊢
  have HW := Lib.hid hwb
  have HNE := Lib.hid hne
  have HN := Lib.hid hN
  clear h b1 hp IH HB hN hPT hET hwb hne hRR
  go_enter Tryz.func83, Tryz.ntmps83
  go_upto_region 2 with fail
  clear hw1
  go_wp2_with fail
  go_loopw [7, 8, 11] (fun _ _ t W => ∃ i : Nat, i ≤ N ∧ t = .int .i64 (i : Int) ∧ Hid (Ei wb w W r A ps ((ps.take i).foldl (eis f P.length) (0, 0, [], [])) P E)) (fun _ _ t _ => N - (intOf t).toNat)
  case atStart => exact ⟨0, Nat.zero_le _, rfl, I0.out |> Lib.hid⟩
  case round =>
    obtain ⟨i, hi, rfl, I⟩ := hrel
    by_cases hlt : i < N
    · have hs := FS.out i hlt
      have hpm := PM.out i hlt
      obtain ⟨g, rfl, zg, hat⟩ := I.out.row.at HNE.out
      obtain ⟨A', C', hcell, hPt⟩ := hat i (by rw [HN.out]; exact hlt)
      have hFP := FP.out (i + 1)
      have hFE := FE.out (i + 1)
      rw [hs] at hFP hFE
      generalize (ps.take i).foldl (eis f P.length) (0, 0, [], []) = s at I hs hFP hFE
      generalize ps.getD i [] = p at hs hpm hcell hPt hFP hFE
      have hP2 : P.length + s.2.2.1.length + (f p (P.length + s.2.2.1.length)).2.2.1.length ≤ 32 := by
        have h1 : (eis f P.length s p).2.2.1.length = s.2.2.1.length + (f p (P.length + s.2.2.1.length)).2.2.1.length := by unfold eis; simp
        have h2 := HP1.out
        unfold ei at h2
        omega
      have hE2 : E.length + s.2.2.2.length + (f p (P.length + s.2.2.1.length)).2.2.2.length ≤ 1000000000 := by
        have h1 : (eis f P.length s p).2.2.2.length = s.2.2.2.length + (f p (P.length + s.2.2.1.length)).2.2.2.length := by unfold eis; simp
        have h2 := HE1.out
        unfold ei at h2
        omega
      have CA := HIH.out p hpm wr A' p.length C' (P ++ s.2.2.1) (E ++ s.2.2.2) I.out.mkk (HW.out.trans (I.out.kr.o.mono hrb)) hPt (by rw [List.length_append]; exact hP2) (by rw [List.length_append, List.length_append]; exact hE2)
      have hb := HHB.out p hpm (P.length + s.2.2.1.length) hP2
      rw [List.length_append] at CA
      obtain ⟨t1, t2, tP, tE⟩ := s
      simp only at I CA hb hs
      obtain ⟨R, hR⟩ : ∃ R, f p (P.length + tP.length) = R := ⟨_, rfl⟩
      have hs2 : Hid ((ps.take (i + 1)).foldl (eis f P.length) (0, 0, [], []) = (t1 ||| R.1, t2 ||| R.2.1, tP ++ R.2.2.1, tE ++ R.2.2.2)) := Lib.hid (by rw [hs, ← hR]; rfl)
      rw [hR] at CA hb
      obtain ⟨r1, r2, rP, rE⟩ := R
      simp only at hb hs2
      have HCA := Lib.hid CA
      have o1 := u32_or_nat t1 r1 I.out.b0 hb.1
      have o2 := u32_or_nat t2 r2 I.out.b1 hb.2
      have hb1 := hb.1
      have hb2 := hb.2
      clear hs hpm hat hPt hFP hFE hP2 hE2 CA hb hR
      go_wp2_with fail
      refine HCA.out.mono ?_
      rintro e w2 ⟨rfl, hMk, hKa⟩
      have n3 := below_alloc w2 (eobj r1 r2)
      have zA := I.out.all.lt
      have zr2 : r < wr.heap.size := Mk.lt I.out.mkk
      have zk := hKa.z
      have zw := I.out.kr.z
      have M3 := Lib.hid (Mk.next hMk n3)
      have K3 := Lib.hid ((I.out.kr.trans hKa).next n3 (by omega))
      have E3 := Lib.hid ((I.out.all.ka hKa (by omega)).next n3)
      have R3 := Lib.hid ((I.out.res.ka hKa (by omega)).next n3)
      have T3 := Lib.hid ((I.out.row.ka hKa I.out.mkk).next n3)
      have N3 := Lib.hid (EB.alloc w2 r1 r2)
      have B0 := Lib.hid I.out.b0
      have B1 := Lib.hid I.out.b1
      have Z3 := Lib.hid (show w.heap.size + 1 < w2.heap.size by omega)
      clear hMk hKa n3 I HCA
      go_upto_region 6 with fail
      generalize w2.alloc (eobj r1 r2) = w3 at M3 K3 E3 R3 T3 N3 ⊢
      generalize w2.heap.size = b8 at N3 Z3 ⊢
      obtain ⟨a0, a1, af⟩ := E3.out.cells
      obtain ⟨n0, n1, _⟩ := N3.out.cells
      have f0 := af 0
      have f1 := af 1
      have za := E3.out.lt
      have zn := N3.out.lt
      have zd := Z3.out
      have EF := Lib.hid ((E3.out.set0 (t1 ||| r1)).set1 (t2 ||| r2))
      have MF := Lib.hid (Mk.eset (Mk.eset M3.out E3.out 0 (.int .u32 ((t1 ||| r1 : Nat) : Int))) (E3.out.set0 (t1 ||| r1)) 1 (.int .u32 ((t2 ||| r2 : Nat) : Int)))
      have RF := Lib.hid ((R3.out.other (w.heap.size + 1) 0 (.int .u32 ((t1 ||| r1 : Nat) : Int)) (by omega)).other (w.heap.size + 1) 1 (.int .u32 ((t2 ||| r2 : Nat) : Int)) (by omega))
      have TF := Lib.hid ((T3.out.eset E3.out 0 (.int .u32 ((t1 ||| r1 : Nat) : Int))).eset (E3.out.set0 (t1 ||| r1)) 1 (.int .u32 ((t2 ||| r2 : Nat) : Int)))
      have KF := Lib.hid ((K3.out.loc (w.heap.size + 1) 0 (.int .u32 ((t1 ||| r1 : Nat) : Int)) (by omega) (by omega)).loc (w.heap.size + 1) 1 (.int .u32 ((t2 ||| r2 : Nat) : Int)) (by omega) (by omega))
      have OB := Lib.hid (And.intro (or32 B0.out hb1) (or32 B1.out hb2))
      clear af M3 K3 E3 R3 T3 N3 Z3 B0 B1 hcell zA zr2 zk zw
      go_wp2_with fail
      exact ⟨⟨i + 1, by omega, by go_num, Lib.hid (by rw [hs2.out]; exact ⟨by rw [← List.append_assoc, ← List.append_assoc]; exact MF.out, RF.out, EF.out, TF.out, KF.out, OB.out.1, OB.out.2⟩)⟩, by simp [intOf]; omega⟩
    · obtain rfl : i = N := by omega
      have J := I.out
      rw [FN.out] at J
      obtain ⟨a0, a1, af⟩ := J.all.cells
      obtain ⟨c0, c1, cf⟩ := J.res.cells
      have f0 := cf 0
      have f1 := cf 1
      have za := J.all.lt
      have MF := Lib.hid (Mk.eset (Mk.eset J.mkk J.res 0 (.int .u32 (x1 : Int))) (J.res.set0 x1) 1 (.int .u32 (x2 : Int)))
      have KF := Lib.hid ((J.kr.loc w.heap.size 0 (.int .u32 (x1 : Int)) (Nat.le_refl _) zr).loc w.heap.size 1 (.int .u32 (x2 : Int)) (Nat.le_refl _) zr)
      clear af cf J I
      go_wp2_with fail
      refine bodyPost_ret (v := ev2 x1 x2) (by simp [results, Tryz.results83, go_sem, *]) rfl ⟨rfl, MF.out, KF.out⟩
end Go.Proofs.YtpnllbojifnopaaGreatDoor
