/- What was put is got, with bytes behind the question: pred.Get. -/
import Derived.Test.YtilgoghnoeohnaaDoorCdT
import Derived.Test.YtilgoghnoeohnaaDoorPG
namespace Go.Proofs.YtilgoghnoeohnaaDoor
open Go Go.RowKit Pk Rl
set_option maxRecDepth 20000

set_option maxHeartbeats 8000000 in
theorem pgetz_ok (b off len cap ee : Nat) (l z : List Int) (x : Bool) (t : Int) (n : Nat) (L : List TT) (w : World) (hee : (l ++ wpd x t L).length = ee) (hlen : (l ++ (wpd x t L ++ z)).length = len) (hm : len ≤ 100000) (hc : len ≤ cap) (hb : Byt w (some ⟨b, off, none⟩) (l ++ (wpd x t L ++ z)))
    (hn : L.length = n) (hk : ∀ v ∈ L, Okt v) (hT : Tab w) (h : pmay x t L = true) :
    Calls Tryd.prog 62 #[.slice (some ⟨b, off, none⟩) len cap, .int .i64 (l.length : Int)] w fun e w' => ∃ A k c', e = .returned (got3 (pv x t A k c') (ee : Int) 0) ∧ (L.map nt).length = k ∧ OwnT w' w.heap.size (.slice A k c') (L.map nt) ∧ Below w.heap.size w w' := by
  have h4 : n ≤ 4 := hn ▸ pmay_len h
  have hr := pmay_rgt' h
  obtain ⟨q, hq⟩ : ∃ q, l.length = q := ⟨_, rfl⟩
  rw [hq]
  obtain ⟨fl, hfl⟩ : ∃ fl, (fr0 x t n).length = fl := ⟨_, rfl⟩
  have hfl2 : (fl : Int) = if x then 1 else 2 := by rw [← hfl]; unfold fr0; cases x <;> rfl
  have hlen1 : q + fl + (wts L).length = ee := by rw [← hee, wpd, List.length_append, List.length_append, hn, hq, hfl]; omega
  have hel : ee ≤ len := by rw [← hee, ← hlen]; simp only [List.length_append]; omega
  have hfp : 1 ≤ fl ∧ fl ≤ 2 := by cases x <;> simp at hfl2 <;> omega
  have hg0 : (l ++ (wpd x t L ++ z)).getD q 0 = 16 * (n : Int) + (if x then 1 else 0) := by
    rw [List.getD_eq_getElem?_getD, List.getElem?_append_right (by omega), hq, Nat.sub_self, wpd, hn]
    unfold fr0
    cases x <;> simp
  have hg1 : x = false → (l ++ (wpd x t L ++ z)).getD (q + 1) 0 = t := fun hx => by
    subst hx
    rw [List.getD_eq_getElem?_getD, List.getElem?_append_right (by omega), hq, show q + 1 - q = 1 by omega, wpd, hn]
    simp [fr0]
  obtain ⟨b1, o1, e1, x0⟩ := hb.1 q (by omega)
  injection e1 with e1
  injection e1 with e1 e2
  subst e1 e2
  rw [hg0] at x0
  have B00 := below_alloc w (pcells false 0 none 0 0)
  have GF := Lib.hid (getFront_ok b off len cap q n x t _ (w.alloc (pcells false 0 none 0 0)) (by omega) hm h4 rfl ((B00.cell (World.block_lt_of_cell? _ _ x0)).trans x0) (fun hx => by
    have h2 : fl = 2 := by subst hx; simp at hfl2; omega
    obtain ⟨b1, o1, e1, x1⟩ := hb.1 (q + 1) (by omega)
    injection e1 with e1
    injection e1 with e1 e2
    subst e1 e2
    rw [hg1 hx] at x1
    exact ⟨by omega, (B00.cell (World.block_lt_of_cell? _ _ x1)).trans x1⟩) (pmay_any0 h))
  rw [← hfl2] at GF
  have HB := Lib.hid hb
  have HN := Lib.hid hn
  have GT := Lib.hid (fun j (hj : j < L.length) W (hW : Byt W (some ⟨b, off, none⟩) (l ++ (wpd x t L ++ z))) => getTest_ok b off len cap (l ++ fr0 x t L.length ++ wts (L.take j)) (wts (L.drop (j + 1)) ++ z) (L.getD j tz) W _ hlen (by have e1 := wpd_split x t L l j hj; rw [← List.append_assoc, e1]; simp only [List.append_assoc]) hm hc hW (hk _ (tgetD_mem L j hj)) (hr _ (tgetD_mem L j hj)))
  have PL := Lib.hid (show ∀ j, (l ++ fr0 x t L.length ++ wts (L.take j)).length = q + fl + (wts (L.take j)).length from fun j => by rw [List.length_append, List.length_append, hn, hq, hfl])
  have PS := Lib.hid (show ∀ j, j < L.length → (l ++ fr0 x t L.length ++ wts (L.take j) ++ wt (L.getD j tz)).length = q + fl + (wts (L.take (j + 1))).length from fun j hj => by rw [List.append_assoc _ (wts _) _, ← wts_snoc L j hj, List.length_append, List.length_append, hn, hq, hfl])
  have PM := Lib.hid (fun A k c W (h1 : (L.map nt).length = k) h2 h3 => pmay_any x t A k c (L.map nt) W h1 (by rw [List.length_map, hn] at h1; omega) h2 (fun v hv => by obtain ⟨u, hu, rfl⟩ := List.mem_map.1 hv; exact nt_ok (hk u hu)) h3)
  rw [pmay_nt, h] at PM
  have HT := Lib.hid hT
  have WM := Lib.hid (show ∀ j, (wts (L.take j)).length ≤ 1300 from fun j => by
    have h1 := wts_len (L.take j) (fun v hv => hk v (List.mem_of_mem_take hv)) (fun v hv => hr v (List.mem_of_mem_take hv))
    have h3 := List.length_take_le' j L
    omega)
  have hqm : q ≤ 100000 := by omega
  have HL1 := Lib.hid hlen1
  have HB00 := Lib.hid B00
  clear hb x0 hg0 hg1 hlen hee hc hn hk hT h hr hfl hfl2 hq hlen1 B00
  have sf := run_store_float
  have R0 := Lib.hid (Pdb.alloc w false 0 none 0 0)
  go_enter Tryd.func62, Tryd.ntmps62
  go_wp2_with fail
  refine GF.out.mono ?_
  rintro e w2 ⟨rfl, hb2⟩
  have RR := Lib.hid (R0.out.next hb2)
  have B2 := Lib.hid (below_go HB00.out hb2)
  have G0 := Lib.hid (show GrowP w (w2.alloc (pcells x t none 0 0)) w.heap.size w2.heap.size (w2.heap.size + 1) x t none 0 0 [] from
    ⟨RR.out.next (below_alloc _ _), Pdb.alloc w2 x t none 0 0, OwnT.nil _ _, below_go B2.out (below_alloc _ _), by have := RR.out.lt; omega, by omega, by have := RR.out.lt; omega, by omega, by have := RR.out.lt; omega, by have := RR.out.lt; omega, by simp⟩)
  clear hb2 GF R0 RR HB00
  go_wp2_with fail
  go_loopw [27, 9] (fun i v W => ∃ (j p : Nat) (A : Option Addr) (k c' : Nat), i = .int .i64 j ∧ v = .int .i64 p ∧ j ≤ n ∧ k ≤ n ∧ Hid (GrowP w W w.heap.size w2.heap.size (w2.heap.size + 1) x t A k c' ((L.take j).map nt) ∧ ((L.take j).map nt).length = k ∧ p = q + fl + (wts (L.take j)).length)) (fun i _ _ => n - (intOf i).toNat)
  case atStart => exact ⟨0, q + fl, none, 0, 0, rfl, by simp, by omega, by omega, Lib.hid ⟨G0.out, rfl, by simp [wts]⟩⟩
  case round =>
    obtain ⟨j, p, A, k, c', rfl, rfl, hj, hk, H⟩ := hrel
    clear G0
    have G1 := Lib.hid H.out.1
    have K1 := Lib.hid H.out.2.1
    have P1 := Lib.hid H.out.2.2
    clear H
    by_cases hjn : j < n
    · have hjl : j < L.length := by have := HN.out; omega
      have V := GT.out j hjl wr (HB.out.below G1.out.bel)
      rw [PL.out j, PS.out j hjl, ← P1.out] at V
      have LT := Lib.hid (show (L.take (j + 1)).map nt = (L.take j).map nt ++ [nt (L.getD j tz)] by rw [ttake_snoc L j hjl, List.map_append]; rfl)
      have W1 := WM.out (j + 1)
      obtain ⟨p2, hp2⟩ : ∃ p2, q + fl + (wts (L.take (j + 1))).length = p2 := ⟨_, rfl⟩
      rw [hp2] at V
      have P2 := Lib.hid hp2
      have VH := Lib.hid V
      have hp3 : p2 ≤ 200000 := by omega
      generalize L.getD j tz = v at VH LT
      obtain ⟨f, o, qk, m, r, s⟩ := v
      have K2 := Lib.hid (show ((L.take j).map nt ++ [nt (f, o, qk, m, r, s)]).length = k + 1 by rw [List.length_append, K1.out]; rfl)
      generalize (L.take j).map nt = M at G1 K1 LT K2
      clear V hp2 W1
      go_wp2_with fail
      refine VH.out.mono ?_
      rintro e w3 ⟨rfl, hb3⟩
      have G2 := Lib.hid (G1.out.next hb3)
      have G3 := Lib.hid (G2.out.next (below_alloc w3 (tobj (nt (f, o, qk, m, r, s)))))
      have G4 := Lib.hid (G3.out.next (below_alloc _ (tobj (nt (f, o, qk, m, r, s)))))
      have e1 := G2.out.loc.pdt.2.2
      have z1 : w2.heap.size < w3.heap.size := G2.out.loc.lt
      have T1 := Lib.hid (Tsts.one (w3.alloc (tobj (nt (f, o, qk, m, r, s)))) (nt (f, o, qk, m, r, s)))
      rw [World.size_alloc] at T1
      clear hb3 VH G1
      go_wp2_with (at_builtin; refine wp_appt (.tmp 41) (.tmp 43) _ rfl rfl (w2.heap.size + 1) _ M rfl G4.out.own _ 1 1 [nt (f, o, qk, m, r, s)] rfl rfl T1.out (by intro h; cases h) (k + 1) K2.out (by omega) G4.out.big ?_; intro A5 c5 w5 hO5 hb5; have G5 := Lib.hid (G4.out.step hO5 hb5); have L5 := G4.out.loc.below hb5 (by omega); have y1 := L5.pdt.2.2; have y2 := L5.free 2; clear L5 hO5 hb5)
      clear y1 y2 G2 G3 G4 T1 e1 z1
      rw [← LT.out] at G5 K2
      go_roundw
      case rel => exact ⟨j + 1, p2, A5, k + 1, c5, by go_num, rfl, by omega, by (have := K2.out; have h3 := List.length_take_le' (j + 1) L; have h5 := List.length_take_le (j + 1) L; rw [List.length_map] at this; omega), Lib.hid ⟨G5.out, K2.out, P2.out.symm⟩⟩
      case measure => simp [intOf]; omega
    · obtain rfl : j = n := by omega
      rw [List.take_of_length_le (by have := HN.out; omega)] at G1 K1 P1
      have hpl : p = ee := by have := P1.out; have := HL1.out; omega
      subst hpl
      have HT1 := Lib.hid (HT.out.below G1.out.bel)
      have PM1 := Lib.hid (PM.out A k c' wr K1.out G1.out.own.vals HT1.out)
      clear HB GT PL PS PM WM HL1 P1
      obtain ⟨e0, e1, e2⟩ := G1.out.loc.pdt
      go_wp2_with fail
      refine PM1.out.mono ?_
      rintro e w3 ⟨rfl, hb3⟩
      have G2 := Lib.hid (G1.out.next hb3)
      clear hb3 PM1 G1 e0 e1 e2
      obtain ⟨e0, e1, e2⟩ := G2.out.loc.pdt
      obtain ⟨r0, r1, r2⟩ := G2.out.res.pdt
      have f0 := G2.out.res.free 0
      have f1 := G2.out.res.free 1
      have f2 := G2.out.res.free 2
      have DD := Lib.hid (G2.out.done (.bool x) (.int .u8 t) (.slice A k c'))
      have z1 : w.heap.size < w3.heap.size := G2.out.res.lt
      clear G2
      go_wp2_with fail
      exact bodyPost_ret (v := got3 (pv x t A k c') (p : Int) 0) (by simp [results, Tryd.results62, go_sem, *]) rfl ⟨A, k, c', rfl, K1.out, DD.out.1, DD.out.2⟩
end Go.Proofs.YtilgoghnoeohnaaDoor
