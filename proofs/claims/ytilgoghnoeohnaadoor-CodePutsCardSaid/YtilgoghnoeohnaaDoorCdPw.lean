/- CodePuts, walked. -/
import Derived.Test.YtilgoghnoeohnaaDoorCdGt
import Derived.Test.YtilgoghnoeohnaaDoorCdFx
import Derived.Test.YtilgoghnoeohnaaDoorCdT
import Derived.Test.YtilgoghnoeohnaaDoorMV
namespace Go.Proofs.YtilgoghnoeohnaaDoor
open Go Go.RowKit Pk Rl
set_option maxRecDepth 20000

structure CX (w W : World) (g1 : Nat) (A : Option Addr) (k c : Nat) (win : Int) (D : List Nd) : Prop where
  p : PtB W g1 A k c win
  pt : Pt W A k c D
  tab : Tab W
  bel : Below w.heap.size w W
theorem CX.next {w W W' : World} {g1 : Nat} {A : Option Addr} {k c : Nat} {win : Int} {D : List Nd} (h : CX w W g1 A k c win D) (hb : Below W.heap.size W W') : CX w W' g1 A k c win D :=
  ⟨h.p.next hb, h.pt.below hb, h.tab.below hb, below_go h.bel hb⟩
theorem cwz_range {w : World} {a : Option Addr} {n c : Nat} {L : List Nd} (hP : Pt w a n c L) (ht : Tps L) (W : Nat) : ∀ c ∈ cwz L W, 0 ≤ c ∧ c < 256 := by
  unfold cwz
  by_cases h : mp L (W : Int) = 0
  · rw [if_pos h]
    exact range_app (wrt_range W) (wL_range hP (mp_fit h).1 ht _ (Nat.le_refl _))
  · rw [if_neg h]; simp
theorem nfits {w : World} {a : Option Addr} {n c : Nat} {L : List Nd} (hP : Pt w a n c L) (hF : Fit L) (ht : Tps L) : ∀ v ∈ L, Nfit w v := fun v hv => by
  obtain ⟨i, hi, rfl⟩ := List.getElem_of_mem hv
  have := nfit_of hP hF ht i hi
  rwa [List.getD_eq_getElem?_getD, List.getElem?_eq_getElem hi] at this
/- Get of what Put wrote, wherever it lies -/
theorem cget_own (A2 : Option Addr) (k2 c2 : Nat) (B : Nat) (A : Option Addr) (k c : Nat) (L : List Nd) (W : Nat) (w : World) (hm : mp L (W : Int) = 0) (hP : Pt w A k c L) (ht : Tps L) (hW : W < 18446744073709551616) (hl : (cwz L W).length = k2) (ho : Own w B (.slice A2 k2 c2) (cwz L W)) (hT : Tab w) :
    Calls Tryd.prog 9 #[.slice A2 k2 c2] w fun e w' => CG w (W : Int) L e w' := by
  have hF := (mp_fit hm).1
  have hr := cwz_range hP ht W
  have hb := ho.byt hr
  have hc := ho.le hl
  have e : cwz L W = cwr L W := by unfold cwz; rw [if_pos hm]
  rw [e] at hl hb
  have h1 := wrt_pos W
  have h2 := wrt_ten W hW
  have h3 := wL_len hP hF ht L.length (Nat.le_refl _)
  have h4 := hF.len
  have h5 : (cwr L W).length = (wrt W).length + (wL L L.length).length := by unfold cwr; rw [List.length_append]
  obtain ⟨b, off, rfl, hcell⟩ := hb.1 0 (by omega)
  exact cget_ok b off k2 c2 L W w hm (nfits hP hF ht) hl (by omega) hc hb (World.block_lt_of_cell? _ _ hcell) hT hW
set_option maxHeartbeats 8000000 in
theorem cputs_walk (a : Option Addr) (n c : Nat) (L : List Nd) (win : Int) (w : World) (hn : L.length = n) (hm : n ≤ maxLen) (hv : RN w a L) (hs : ∀ v ∈ L, Sm v) (ht : Tps L) (hw0 : 0 ≤ win) (hw1 : win < 18446744073709551616) (hT : Tab w) :
    Calls Tryd.prog 3 #[ptv a n c win] w fun e w' => e = .returned (.bool true) ∧ Below w.heap.size w w' := by
  obtain ⟨W, rfl⟩ := Int.eq_ofNat_of_zero_le hw0
  have hW : W < 18446744073709551616 := by omega
  have B0 := Lib.hid (below_alloc w (xpobj a n c (W : Int)))
  have PA := Lib.hid (pattern_any a n c L (W : Int) (w.alloc (xpobj a n c (W : Int))) hn hm (hv.below B0.out))
  have T0 := Lib.hid (hT.below B0.out)
  have HS := Lib.hid hs
  have HTp := Lib.hid ht
  have HW := Lib.hid hW
  have FX := Lib.hid cfixed_any
  clear hn hm hv hs hT ht hW hw0 hw1
  go_enter Tryd.func3, Tryd.ntmps3
  go_wp2_with fail
  refine PA.out.mono ?_
  rintro e w2 ⟨A, k, c', D, rfl, hDk, hDc, hDo, hb⟩
  have k40 : k ≤ 40 := by have h1 := congrArg List.length hDc; simp at h1; omega
  have pt2 := hDo.pt hDk (by omega)
  have X0 : Hid (CX w (w2.alloc (ptobj A k c' (W : Int))) w2.heap.size A k c' (W : Int) D) := Lib.hid ⟨PtB.alloc _ _ _ _ _, pt2.below (below_alloc _ _), (T0.out.below hb).below (below_alloc _ _), below_go (below_go B0.out hb) (below_alloc _ _)⟩
  have SD := Lib.hid (csm_of hDc HS.out (fun v hv => by have := pt2.ok v hv; exact ⟨by rw [this.p.len]; exact this.p.few, by rw [this.g.len]; exact this.g.few⟩))
  have TD := Lib.hid (tps_of hDc HTp.out)
  have K40 := Lib.hid k40
  have ZR := Lib.hid (cwz_range pt2 TD.out W)
  obtain ⟨g1, hg1⟩ : ∃ g, w2.heap.size = g := ⟨_, rfl⟩
  rw [hg1] at X0
  clear PA hDc hDo hb pt2 B0 T0 HS HTp k40 hDk
  have G1 := Lib.hid (fun X (h : CX w X g1 A k c' (W : Int) D) => rtgreat_any A k c' D (W : Int) X h.pt SD.out (by have := K40.out; omega))
  have M1 := Lib.hid (fun X (h : CX w X g1 A k c' (W : Int) D) => cput_any A k c' D W X h.pt h.tab TD.out HW.out)
  have M2 := Lib.hid (fun X (h : CX w X g1 A k c' (W : Int) D) => rcput_any A k c' D W X h.pt TD.out HW.out)
  have GT := Lib.hid (fun A2 k2 c2 B X (h : CX w X g1 A k c' (W : Int) D) (h0 : mp D (W : Int) = 0) h1 h2 => cget_own A2 k2 c2 B A k c' D W X h0 h.pt TD.out HW.out h1 h2 h.tab)
  have SN := Lib.hid (fun A2 k2 c2 E X (h : CX w X g1 A k c' (W : Int) D) (hE : E.map vn = D.map zn) hP => rtsame_any A2 k2 c2 E (W : Int) A k c' D (W : Int) X hP h.pt)
  obtain ⟨gt, hgt⟩ : ∃ z, D.any gr = z := ⟨_, rfl⟩
  rw [hgt] at G1
  obtain ⟨Z, hZ⟩ : ∃ z, cwz D W = z := ⟨_, rfl⟩
  rw [show (if mp D (W : Int) = 0 then cwr D W else []) = Z from hZ] at M1
  rw [hZ] at M2 GT ZR
  obtain ⟨m, hm⟩ : ∃ z, mp D (W : Int) = z := ⟨_, rfl⟩
  rw [hm] at M1 M2 GT
  clear hgt hZ hm SD TD K40 HW
  go_wp2_with fail
  refine (G1.out _ X0.out).mono ?_
  rintro e w3 ⟨rfl, hb⟩
  have X3 := Lib.hid (X0.out.next hb)
  have q0 := X3.out.p.c0
  have q1 := X3.out.p.c1
  clear hb X0 G1
  cases gt
  · go_wp2_with fail
    refine (M1.out _ X3.out).mono ?_
    rintro e w4 ⟨⟨A4, k4, c4, rfl, hl4, ho4⟩, hb⟩
    have X4 := Lib.hid (X3.out.next hb)
    have O4 := Lib.hid ho4
    have L4 := Lib.hid hl4
    clear hb X3 M1 q0 q1 ho4 hl4
    have q0 := X4.out.p.c0
    have q1 := X4.out.p.c1
    go_wp2_with fail
    refine (M2.out _ X4.out).mono ?_
    rintro e w5 ⟨⟨A5, k5, c5, rfl, hl5, ho5⟩, hb⟩
    have X5 := Lib.hid (X4.out.next hb)
    have O5 := Lib.hid ho5
    have L5 := Lib.hid hl5
    have O4' := Lib.hid (O4.out.below hb)
    clear hb X4 M2 q0 q1 ho5 hl5 O4
    go_wp2_with fail
    refine (FX.out _ X5.out.tab).mono ?_
    rintro e w6 ⟨rfl, hb⟩
    have X6 := Lib.hid (X5.out.next hb)
    have O6 := Lib.hid (O4'.out.below hb)
    have s1 := O6.out.str ZR.out L4.out
    have s2 := (O5.out.below hb).str ZR.out L5.out
    clear hb X5 O5 O4' FX
    by_cases h0 : m = 0
    · subst h0
      have GG := Lib.hid (GT.out A4 k4 c4 _ _ X6.out rfl L4.out O6.out)
      clear GT
      go_wp2_with fail
      refine GG.out.mono ?_
      rintro e w7 ⟨A7, k7, c7, E, rfl, hP7, hE7, hb⟩
      have X7 := Lib.hid ((X6.out.next hb).next (below_alloc w7 (ptobj A7 k7 c7 (W : Int))))
      have P7 := Lib.hid (PtB.alloc w7 A7 k7 c7 (W : Int))
      have SF := Lib.hid (SN.out A7 k7 c7 E _ X7.out hE7 (hP7.below (below_alloc w7 (ptobj A7 k7 c7 (W : Int)))))
      rw [ssn_zn hE7, beq_self_eq_true, Bool.true_and] at SF
      have q0 := X7.out.p.c0
      have q1 := X7.out.p.c1
      have z7 : g1 < w7.heap.size := (X6.out.next hb).p.lt
      have r0 := (X6.out.next hb).p.c0
      have r1 := (X6.out.next hb).p.c1
      clear hb hP7 hE7 GG SN s1 s2 X6 O6
      go_wp2_with fail
      refine SF.out.mono ?_
      rintro e w8 ⟨rfl, hb⟩
      have B8 := Lib.hid (below_go X7.out.bel hb)
      clear hb SF q0 q1 r0 r1
      go_wp2_with fail
      go_ret
      exact ⟨rfl, B8.out⟩
    · have h1 : (m != 0) = true := by simp [h0]
      clear GT SN
      go_wp2_with fail
      go_ret
      exact ⟨rfl, X6.out.bel⟩
  · go_wp2_with fail
    refine (FX.out _ X3.out.tab).mono ?_
    rintro e w4 ⟨rfl, hb⟩
    have B4 := Lib.hid (below_go X3.out.bel hb)
    clear hb X3
    go_wp2_with fail
    go_ret
    exact ⟨rfl, B4.out⟩
end Go.Proofs.YtilgoghnoeohnaaDoor
