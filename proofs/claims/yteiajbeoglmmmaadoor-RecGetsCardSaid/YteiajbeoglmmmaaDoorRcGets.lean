/- The contract of the document's Scan; RecGets: the walk of the statement's own function. -/
import Derived.Test.YteiajbeoglmmmaaDoorRcJ
import Derived.Test.YteiajbeoglmmmaaDoorRcG
namespace Go.Proofs.YteiajbeoglmmmaaDoor
open Go Go.RowKit Crc
set_option maxRecDepth 20000

set_option maxHeartbeats 2000000 in
theorem rscan_any (a : Option Addr) (len cap : Nat) (l : List Int) (w : World) (hl : l.length = len) (hm : len ≤ 90000) (hc : len ≤ cap) (hz0 : a = none → cap = 0) (hb : Byt w a l) :
    Calls Tryd.prog 14 #[.slice a len cap] w fun e w' => ∃ v, e = .returned (.tuple #[v, .int .i64 ((scan l).2 : Int)]) ∧ OwnR w' w.heap.size v (scan l).1 ∧ Below w.heap.size w w' := by
  have HL := Lib.hid hl
  have HB := Lib.hid hb
  have HZ := Lib.hid hz0
  clear hl hb hz0
  have BE := Lib.hid (below_alloc w (.cells #[] 22))
  go_enter Tryd.func14, Tryd.ntmps14
  go_wp2
  go_loopw [4, 5] (fun v i wr => ∃ (k g : Nat) (L : List (List Int)), k ≤ len ∧ i = .int .i64 k ∧ Hid (Sc l k g L ∧ OwnR wr w.heap.size v L ∧ Below w.heap.size w wr)) (fun _ i _ => len - (intOf i).toNat)
  case atStart => exact ⟨0, len + 1, [], Nat.zero_le _, rfl, Lib.hid ⟨by rw [← HL.out]; exact Sc.start l, OwnR.empty w, BE.out⟩⟩
  case round =>
    obtain ⟨k, g, L, hk, rfl, H⟩ := hrel
    have G := Lib.hid (rget_in a len cap l k wr HL.out hm hc HZ.out hk (HB.out.below H.out.2.2))
    go_wp2_with fail
    refine G.out.mono ?_
    rintro e w2 (⟨h0, ⟨A0, rfl⟩, hb0⟩ | ⟨h0, A, C, rfl, hO, hb2⟩)
    · obtain ⟨e1, e2⟩ := H.out.1.done h0
      have hz : ((fE (l.drop k) : Int) != 0) = true := by rw [bne_iff_ne]; omega
      have E := Lib.hid (And.intro e1 e2)
      have R0 := Lib.hid (H.out.2.1.below hb0)
      have B0 := Lib.hid (below_go H.out.2.2 hb0)
      clear e1 e2 h0 G hb0
      generalize fE (l.drop k) = z at hz
      go_wp2
      go_ret2
      exact ⟨u4, by rw [← E.out.2]; rfl, by rw [← E.out.1]; exact R0.out, B0.out⟩
    · have M := Lib.hid (H.out.1.more h0)
      have F := Lib.hid (fE_ok h0)
      have B2 := Lib.hid (below_go H.out.2.2 hb2)
      have D2 := Lib.hid (below_alloc w2 (.cells #[.slice A (nm (l.drop k)) C] 22))
      have R2 := Lib.hid ((H.out.2.1.below hb2).below D2.out)
      have O2 := Lib.hid ((hO.mono H.out.2.2.size).below D2.out)
      have KL := Lib.hid (show L.length ≤ 90000 by have := H.out.1.2.2.1; omega)
      have hkn : k + (8 + nm (l.drop k)) ≤ len := by have := M.out.2; rw [HL.out] at this; exact this
      clear h0 hO hb2 G
      generalize fR (l.drop k) = r at M F O2
      generalize nm (l.drop k) = n at M F O2 R2 D2 hkn
      go_wp2_with ((with_reducible show wpList _ _ _ (Oper.mk (some 24) _ _ _ _ _ :: _) _ _); refine wp_appr (.tmp 21) (.tmp 23) _ rfl rfl w.heap.size u4 L rfl R2.out ⟨w2.heap.size, 0, none⟩ rfl A n C r F.out.2.2.2.2 (by simp [go_sem]) O2.out (by have := KL.out; omega) (Nat.le_trans B2.out.size D2.out.size) ?_; intro v3 w3 hR3 hb3)
      have B3 := Lib.hid ((below_go B2.out D2.out).trans hb3)
      have R3 := Lib.hid hR3
      clear hR3 hb3
      go_wp2_with fail
      go_roundw
      case rel => exact ⟨k + (8 + n), g - 1, L ++ [r], hkn, by go_num, Lib.hid ⟨M.out.1, R3.out, B3.out⟩⟩
      case measure => simp [intOf]; omega
theorem sc_rng (g : Nat) (b : List Int) (hb : Rng b) : ∀ l ∈ (sc g b).1, Rng l := by
  induction g generalizing b with
  | zero => simp [sc]
  | succ g ih =>
    by_cases h : fE b = 0
    · rw [sc_step _ _ h]
      intro l hl
      rcases List.mem_cons.1 hl with rfl | hl
      · exact (hb.drop 8).take _
      · exact ih _ (hb.drop _) l hl
    · rw [sc_stop _ _ h]; simp
theorem sc_len (g : Nat) (b : List Int) : (sc g b).1.length ≤ b.length ∧ (sc g b).2 ≤ b.length := by
  induction g generalizing b with
  | zero => simp [sc]
  | succ g ih =>
    by_cases h : fE b = 0
    · rw [sc_step _ _ h]
      have := ih (b.drop (8 + nm b))
      obtain ⟨_, _, h3, _, _⟩ := fE_ok h
      rw [List.length_drop] at this
      simp only [List.length_cons]
      omega
    · rw [sc_stop _ _ h]; simp
/- what both Gets answer, at any place -/
def gR (l : List Int) (p : Int) : List Int := if gE l p = 0 then fR (l.drop p.toNat) else []
def gK (l : List Int) (p : Int) : Int := if gE l p = 0 then p + (8 + nm (l.drop p.toNat)) else 0
def Gt (w : World) (l : List Int) (p : Int) (e : Ending) (w' : World) : Prop := ∃ A C, e = .returned (.tuple #[.slice A (gR l p).length C, .int .i64 (gK l p), .int .i64 (gE l p : Int)]) ∧ Byt w' A (gR l p) ∧ Below w.heap.size w w'
theorem gt_bad {w w' : World} {l : List Int} {p : Int} {A : Option Addr} {z : Nat} (hz : gE l p = z) (h0 : z ≠ 0) (hb : Below w.heap.size w w') : Gt w l p (.returned (.tuple #[.slice A 0 0, .int .i64 0, .int .i64 (z : Int)])) w' := by
  have e1 : gR l p = [] := by unfold gR; rw [if_neg (by omega)]
  have e2 : gK l p = 0 := by unfold gK; rw [if_neg (by omega)]
  unfold Gt
  rw [e1, e2, hz]
  exact ⟨A, 0, rfl, ⟨fun i hi => absurd hi (by simp), by simp⟩, hb⟩
theorem gt_ok {w w' : World} {l : List Int} {p : Int} {A : Option Addr} {C : Nat} (hr : Rng l) (hz : gE l p = 0) (ho : Own w' w.heap.size (.slice A (nm (l.drop p.toNat)) C) (fR (l.drop p.toNat))) (hb : Below w.heap.size w w') : Gt w l p (.returned (.tuple #[.slice A (nm (l.drop p.toNat)) C, .int .i64 ((p.toNat + (8 + nm (l.drop p.toNat)) : Nat) : Int), .int .i64 0])) w' := by
  obtain ⟨p0, p1, f0⟩ := gE_ok hz
  have e1 : gR l p = fR (l.drop p.toNat) := by unfold gR; rw [if_pos hz]
  have e2 : gK l p = ((p.toNat + (8 + nm (l.drop p.toNat)) : Nat) : Int) := by unfold gK; rw [if_pos hz]; omega
  unfold Gt
  rw [e1, e2, hz, (fE_ok f0).2.2.2.2]
  exact ⟨A, C, rfl, ho.byt ((Rng.drop (Rng.drop hr _) 8).take _), hb⟩
theorem gE_at (l : List Int) (k : Nat) (hk : k ≤ l.length) : gE l (k : Int) = fE (l.drop k) := by
  unfold gE
  rw [if_neg (by omega), Int.toNat_natCast]
theorem get_gt (a : Option Addr) (len cap : Nat) (l : List Int) (p : Int) (w : World) (hl : l.length = len) (hm : len ≤ 90000) (hc : len ≤ cap) (hb : Byt w a l) (ht : Tab w) :
    Calls Tryd.prog 10 #[.slice a len cap, .int .i64 p] w (Gt w l p) := by
  by_cases h : p < 0 ∨ (len : Int) < p
  · have e : gE l p = 3 := by unfold gE; rw [if_pos (by rw [hl]; exact h)]
    refine (get_out a len cap p w h).mono ?_
    rintro e' w' ⟨rfl, rfl⟩
    exact gt_bad (z := 3) e (by decide) (Below.refl _ _)
  · obtain ⟨k, rfl⟩ : ∃ k : Nat, p = k := ⟨p.toNat, by omega⟩
    have hk : k ≤ len := by omega
    have eg := gE_at l k (by omega)
    refine (get_in a len cap l k w hl (by omega) hc hk hb ht).mono ?_
    rintro e' w' (⟨h0, rfl, rfl⟩ | ⟨h0, A, C, rfl, ho, hb'⟩)
    · exact gt_bad eg h0 (Below.refl _ _)
    · exact gt_ok (p := (k : Int)) hb.2 (eg.trans h0) ho hb'
theorem rget_gt (a : Option Addr) (len cap : Nat) (l : List Int) (p : Int) (w : World) (hl : l.length = len) (hm : len ≤ 90000) (hc : len ≤ cap) (hz : a = none → cap = 0) (hb : Byt w a l) :
    Calls Tryd.prog 12 #[.slice a len cap, .int .i64 p] w (Gt w l p) := by
  by_cases h : p < 0 ∨ (len : Int) < p
  · have e : gE l p = 3 := by unfold gE; rw [if_pos (by rw [hl]; exact h)]
    refine (rget_out a len cap p w h).mono ?_
    rintro e' w' ⟨A, rfl, hb'⟩
    exact gt_bad (z := 3) e (by decide) hb'
  · obtain ⟨k, rfl⟩ : ∃ k : Nat, p = k := ⟨p.toNat, by omega⟩
    have hk : k ≤ len := by omega
    have eg := gE_at l k (by omega)
    refine (rget_in a len cap l k w hl hm hc hz hk hb).mono ?_
    rintro e' w' (⟨h0, ⟨A, rfl⟩, hb'⟩ | ⟨h0, A, C, rfl, ho, hb'⟩)
    · exact gt_bad eg h0 hb'
    · exact gt_ok (p := (k : Int)) hb.2 (eg.trans h0) ho hb'
set_option maxHeartbeats 400000 in
theorem gets_great (a : Option Addr) (n c : Nat) (p : Int) (w : World) (ht : Tab w) (h5 : 5000 < n) :
    Calls Tryd.prog 4 #[.slice a n c, .int .i64 p] w fun e w' => e = .returned (.bool true) ∧ Below w.heap.size w w' := by
  have F := Lib.hid (fixed_any w ht)
  have d5 : decide ((5000 : Int) < (n : Int)) = true := by simp; omega
  clear ht
  go_enter Tryd.func4, Tryd.ntmps4
  go_wp2_with fail
  refine F.out.mono ?_
  rintro e w1 ⟨rfl, hb1⟩
  go_wp2
  go_ret
  exact ⟨rfl, hb1⟩
set_option maxHeartbeats 2000000 in
theorem gets_small (a : Option Addr) (n c : Nat) (l : List Int) (p : Int) (w : World) (hl : l.length = n) (hc : n ≤ c) (hb : Byt w a l) (hz : a = none → c = 0) (ht : Tab w) (h5 : n ≤ 5000) :
    Calls Tryd.prog 4 #[.slice a n c, .int .i64 p] w fun e w' => e = .returned (.bool true) ∧ Below w.heap.size w w' := by
  have d5 : decide ((5000 : Int) < (n : Int)) = false := by simp; omega
  have HL := Lib.hid hl
  have HB := Lib.hid hb
  have HZ := Lib.hid hz
  have HT := Lib.hid ht
  have HC := Lib.hid hc
  have G1 := Lib.hid (get_gt a n c l p w hl (by omega) hc hb ht)
  have SR := Lib.hid (show ∀ x ∈ (scan l).1, Rng x from sc_rng _ _ hb.2)
  have SL := Lib.hid (show (scan l).1.length ≤ n from by rw [← hl]; exact (sc_len _ _).1)
  clear hl hb hz ht hc
  go_enter Tryd.func4, Tryd.ntmps4
  go_wp2_with fail
  refine G1.out.mono ?_
  rintro e w1 ⟨A1, C1, rfl, hY1, hb1⟩
  have G2 := Lib.hid (rget_gt a n c l p w1 HL.out (by omega) HC.out HZ.out (HB.out.below hb1))
  have B1 := Lib.hid hb1
  have Y1 := Lib.hid hY1
  clear hb1 hY1 G1
  obtain ⟨R, hR⟩ : ∃ R, gR l p = R := ⟨_, rfl⟩
  have HRR := Lib.hid hR
  rw [hR] at Y1
  rw [hR]
  unfold Gt at G2
  rw [hR] at G2
  obtain ⟨E, hE⟩ : ∃ E, gE l p = E := ⟨_, rfl⟩
  rw [hE] at G2
  rw [hE]
  generalize gK l p = K at G2
  clear hR hE
  go_wp2_with fail
  refine G2.out.mono ?_
  rintro e w2 ⟨A2, C2, rfl, hY2, hb2⟩
  have B2 := Lib.hid (below_go B1.out hb2)
  have Y2 := Lib.hid hY2
  have Y1b := Lib.hid (Y1.out.below hb2)
  clear hb2 hY2 G2 Y1
  have S1 := Lib.hid (scan_any a n c l w2 HL.out (by omega) HC.out (HB.out.below B2.out) (HT.out.below B2.out HT.out.lt))
  go_wp2_with fail
  refine S1.out.mono ?_
  rintro e w3 ⟨v3, rfl, hR3, hb3⟩
  obtain ⟨A3, c3, rfl, hW3⟩ := hR3.form SR.out
  have B3 := Lib.hid (below_go B2.out hb3)
  have Y1c := Lib.hid (Y1b.out.below hb3)
  have Y2c := Lib.hid (Y2.out.below hb3)
  have R3 := Lib.hid hW3
  have S2 := Lib.hid (rscan_any a n c l w3 HL.out (by omega) HC.out HZ.out (HB.out.below B3.out))
  clear hb3 hR3 hW3 S1 Y1b Y2
  obtain ⟨LL, hLL⟩ : ∃ LL, (scan l).1 = LL := ⟨_, rfl⟩
  obtain ⟨EE, hEE⟩ : ∃ EE, (scan l).2 = EE := ⟨_, rfl⟩
  rw [hLL] at R3 S2 SR SL
  rw [hLL]
  rw [hEE] at S2
  rw [hEE]
  clear hLL hEE
  obtain ⟨N, hN⟩ : ∃ N, LL.length = N := ⟨_, rfl⟩
  have HN := Lib.hid hN
  rw [hN] at SL
  rw [hN]
  clear hN
  go_wp2_with fail
  refine S2.out.mono ?_
  rintro e w4 ⟨v4, rfl, hR4, hb4⟩
  obtain ⟨A4, c4, rfl, hW4⟩ := hR4.form SR.out
  rw [HN.out]
  have B4 := Lib.hid (below_go B3.out hb4)
  have Y1d := Lib.hid (Y1c.out.below hb4)
  have Y2d := Lib.hid (Y2c.out.below hb4)
  have R3b := Lib.hid (R3.out.below hb4)
  have R4 := Lib.hid hW4
  clear hb4 hR4 hW4 S2 Y1c Y2c R3
  go_wp2_with fail
  refine (fixed_any w4 (HT.out.below B4.out HT.out.lt)).mono ?_
  rintro e w5 ⟨rfl, hb5⟩
  have B5 := Lib.hid (below_go B4.out hb5)
  have st1 := run_str w5 A1 R.length C1 R rfl (Y1d.out.below hb5)
  have st2 := run_str w5 A2 R.length C2 R rfl (Y2d.out.below hb5)
  have SM := Lib.hid (same_eq A3 A4 N c3 c4 LL w5 HN.out (by have := SL.out; omega) (R3b.out.below hb5) (R4.out.below hb5))
  clear hb5 Y1d Y2d R3b R4
  generalize strOfNums R = Z at st1 st2
  go_wp2_with fail
  refine SM.out.mono ?_
  rintro e w6 ⟨rfl, hb6⟩
  go_wp2
  go_ret
  exact ⟨rfl, below_go B5.out hb6⟩
theorem gets_walk (a : Option Addr) (n c : Nat) (l : List Int) (p : Int) (w : World) (hl : l.length = n) (hc : n ≤ c) (hb : Byt w a l) (hz : a = none → c = 0) (ht : Tab w) :
    Calls Tryd.prog 4 #[.slice a n c, .int .i64 p] w fun e w' => e = .returned (.bool true) ∧ Below w.heap.size w w' := by
  by_cases h : 5000 < n
  · exact gets_great a n c p w ht h
  · exact gets_small a n c l p w hl hc hb hz ht (by omega)
end Go.Proofs.YteiajbeoglmmmaaDoor
