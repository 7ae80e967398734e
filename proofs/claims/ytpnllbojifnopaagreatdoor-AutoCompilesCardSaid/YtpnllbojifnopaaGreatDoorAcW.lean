/- AutoCompiles, walked. -/
import Derived.Test.YtpnllbojifnopaaGreatDoorAcL
import Derived.Test.YtpnllbojifnopaaGreatDoorAuF
import Derived.BigQuiet
import Derived.Deep.RegionHeld3
namespace Go.Proofs.YtpnllbojifnopaaGreatDoor
open Go Go.RowKit Pk Rl
set_option maxRecDepth 20000

theorem csm_of {L D : List Nd} {m : Nat} (h : D.map (cn 10) = (L.take m).map (cn 10)) (hs : ∀ v ∈ L, Sm v) (hl : ∀ v ∈ D, v.p.L.length ≤ 10 ∧ v.g.L.length ≤ 10) : ∀ v ∈ D, Sm v := by
  intro v hv
  have : cn 10 v ∈ (L.take m).map (cn 10) := by rw [← h]; exact List.mem_map.2 ⟨v, hv, rfl⟩
  obtain ⟨u, hu, e⟩ := List.mem_map.1 this
  have hs := hs u (List.mem_of_mem_take hu)
  unfold cn cq at e
  simp only [Prod.mk.injEq] at e
  obtain ⟨_, ⟨_, _, e1⟩, _, ⟨_, _, e2⟩, _⟩ := e
  have hl := hl v hv
  rw [List.take_of_length_le hl.1] at e1
  rw [List.take_of_length_le hl.2] at e2
  refine ⟨fun t ht => hs.1 t ?_, fun t ht => hs.2 t ?_⟩
  · rw [← e1] at ht; exact List.mem_of_mem_take ht
  · rw [← e2] at ht; exact List.mem_of_mem_take ht
theorem map_getDc {f : Nd → Int × (Bool × Int × List TT) × Bool × (Bool × Int × List TT) × Int × Int × Int} {D E : List Nd} (h : D.map f = E.map f) : D.length = E.length ∧ ∀ i, i < D.length → f (D.getD i nz) = f (E.getD i nz) := by
  have hl := congrArg List.length h
  rw [List.length_map, List.length_map] at hl
  refine ⟨hl, fun i hi => ?_⟩
  have := congrArg (fun l => l[i]?) h
  simp only [List.getElem?_map] at this
  rw [List.getElem?_eq_getElem hi, List.getElem?_eq_getElem (by omega)] at this
  rw [List.getD_eq_getElem?_getD, List.getD_eq_getElem?_getD, List.getElem?_eq_getElem hi, List.getElem?_eq_getElem (by omega)]
  simpa using this
theorem ssn_mapc {D E : List Nd} {W W' : World} {A A' : Option Addr} {k c k' c' : Nat} (h : D.map (cn 10) = E.map (cn 10)) (hp : Pt W A k c D) (hq : Pt W' A' k' c' E) : ssn D E = true := by
  obtain ⟨h1, h2⟩ := map_getDc h
  exact ssn_cn rfl h1.symm h2 (fun v hv => by have := hp.ok v hv; exact ⟨by rw [this.p.len]; exact this.p.few, by rw [this.g.len]; exact this.g.few⟩) (fun v hv => by have := hq.ok v hv; exact ⟨by rw [this.p.len]; exact this.p.few, by rw [this.g.len]; exact this.g.few⟩)
structure CX (w W : World) (a : Option Addr) (n c : Nat) (L : List Nd) (g1 : Nat) (A : Option Addr) (k c' : Nat) (win : Int) (D : List Nd) : Prop where
  x0 : W.cell? ⟨w.heap.size, 0, none⟩ = some (.slice a n c)
  x1 : W.cell? ⟨w.heap.size, 1, none⟩ = some (.int .u64 win)
  rn : RN W a L
  p : PtB W g1 A k c' win
  pt : Pt W A k c' D
  tab : Tab W
  tab5 : Tab5 W
  bel : Below w.heap.size w W
theorem CX.next {w W W' : World} {a : Option Addr} {n c : Nat} {L : List Nd} {g1 : Nat} {A : Option Addr} {k c' : Nat} {win : Int} {D : List Nd} (h : CX w W a n c L g1 A k c' win D) (hb : Below W.heap.size W W') : CX w W' a n c L g1 A k c' win D :=
  ⟨(hb.cell (World.block_lt_of_cell? _ _ h.x0)).trans h.x0, (hb.cell (World.block_lt_of_cell? _ _ h.x1)).trans h.x1, h.rn.below hb, h.p.next hb, h.pt.below hb, h.tab.below hb, h.tab5.below hb, below_go h.bel hb⟩
abbrev Kcx (w W : World) (a : Option Addr) (n c : Nat) (L : List Nd) (g1 : Nat) (A : Option Addr) (k c' : Nat) (win : Int) (D : List Nd) : Prop :=
  W.cell? ⟨w.heap.size, 0, none⟩ = some (.slice a n c) ∧ W.cell? ⟨w.heap.size, 1, none⟩ = some (.int .u64 win) ∧ W.cell? ⟨g1, 0, none⟩ = some (.slice A k c') ∧ W.cell? ⟨g1, 1, none⟩ = some (.int .u64 win) ∧ Hid (CX w W a n c L g1 A k c' win D)
theorem kcx_of {w W : World} {a : Option Addr} {n c : Nat} {L : List Nd} {g1 : Nat} {A : Option Addr} {k c' : Nat} {win : Int} {D : List Nd} (h : CX w W a n c L g1 A k c' win D) : Kcx w W a n c L g1 A k c' win D := ⟨h.x0, h.x1, h.p.c0, h.p.c1, Lib.hid h⟩
theorem kcx_next {w W W' : World} {a : Option Addr} {n c : Nat} {L : List Nd} {g1 : Nat} {A : Option Addr} {k c' : Nat} {win : Int} {D : List Nd} (hb : Below W.heap.size W W') (h : Kcx w W a n c L g1 A k c' win D) : Kcx w W' a n c L g1 A k c' win D := kcx_of (h.2.2.2.2.out.next hb)
set_option maxHeartbeats 16000000 in
theorem acomp_walk (a : Option Addr) (n c : Nat) (L : List Nd) (win : Int) (w : World) (hn : L.length = n) (hm : n ≤ maxLen) (hv : RN w a L) (hs : ∀ v ∈ L, Sm v) (hw0 : 0 ≤ win) (hT : Tab w) (hT5 : Tab5 w) :
    Calls Tryz.prog 3 #[ptv a n c win] w fun e w' => e = .returned (.bool true) ∧ Below w.heap.size w w' := by
  have B0 := Lib.hid (below_alloc w (xpobj a n c win))
  have PA := Lib.hid (pattern_any a n c L win (w.alloc (xpobj a n c win)) hn hm (hv.below B0.out))
  have LP := Lib.hid (fun W (hW : RN W a L) => pattern_any a n c L win W hn hm hW)
  have T0 := Lib.hid (hT.below B0.out)
  have T5 := Lib.hid (hT5.below B0.out)
  have R0 := Lib.hid (hv.below B0.out)
  have HS := Lib.hid hs
  have FX := Lib.hid afixed_any
  have x0 : (w.alloc (xpobj a n c win)).cell? ⟨w.heap.size, 0, none⟩ = some (.slice a n c) := by simp [go_sem]
  have x1 : (w.alloc (xpobj a n c win)).cell? ⟨w.heap.size, 1, none⟩ = some (.int .u64 win) := by simp [go_sem]
  have XX := Lib.hid (And.intro x0 x1)
  have HW := Lib.hid hw0
  clear hn hm hv hs hT hT5 x0 x1
  go_enter Tryz.func3, Tryz.ntmps3
  go_wp2_with fail
  refine PA.out.mono ?_
  rintro e w2 ⟨A, k, c', D, rfl, hDk, hDc, hDo, hb⟩
  have k40 : k ≤ 40 := by have h1 := congrArg List.length hDc; simp at h1; omega
  have pt2 := hDo.pt hDk (by omega)
  have hb2 := below_go hb (below_alloc w2 (ptobj A k c' win))
  have X0 : Hid (CX w (w2.alloc (ptobj A k c' win)) a n c L w2.heap.size A k c' win D) := Lib.hid
    ⟨(hb2.cell (World.block_lt_of_cell? _ _ XX.out.1)).trans XX.out.1, (hb2.cell (World.block_lt_of_cell? _ _ XX.out.2)).trans XX.out.2, R0.out.below hb2, PtB.alloc _ _ _ _ _, pt2.below (below_alloc _ _), T0.out.below hb2, T5.out.below hb2, below_go B0.out hb2⟩
  have SD := Lib.hid (csm_of hDc HS.out (fun v hv => by have := pt2.ok v hv; exact ⟨by rw [this.p.len]; exact this.p.few, by rw [this.g.len]; exact this.g.few⟩))
  have K40 := Lib.hid k40
  have HC := Lib.hid hDc
  obtain ⟨g1, hg1⟩ : ∃ g, w2.heap.size = g := ⟨_, rfl⟩
  rw [hg1] at X0
  have PL := Lib.hid (fun (k4 : Nat) (D4 : List Nd) (h : D4.length = k4) (h2 : D4.map (cn 10) = (L.take 40).map (cn 10)) => (show k4 ≤ 1000 by have h1 := congrArg List.length h2; simp at h1; omega))
  clear PA hDo hb hb2 pt2 B0 T0 T5 HS k40 hDk hDc XX R0
  have G1 := Lib.hid (fun X (h : CX w X a n c L g1 A k c' win D) => rtgreat_any A k c' D win X h.pt SD.out (by have := K40.out; omega))
  have C1 := Lib.hid (fun X (h : CX w X a n c L g1 A k c' win D) => cv_any A k c' D win X h.pt h.tab h.tab5)
  have C2 := Lib.hid (fun X (h : CX w X a n c L g1 A k c' win D) => rcv_any A k c' D win X h.pt HW.out)
  have CF := Lib.hid (cov_few (L := D) (win := win))
  obtain ⟨gt, hgt⟩ : ∃ z, D.any gr = z := ⟨_, rfl⟩
  rw [hgt] at G1
  generalize cov D win = V at C1 C2 CF
  obtain ⟨vm, va, vb, vP, vE⟩ := V
  unfold CvX at C1
  unfold RvX at C2
  simp only at C1 C2 CF
  clear hgt SD
  go_wp2_with fail
  refine (G1.out _ X0.out).mono ?_
  rintro e w3 ⟨rfl, hb⟩
  have X3 := Lib.hid (X0.out.next hb)
  have q0 := X3.out.p.c0
  have q1 := X3.out.p.c1
  clear hb X0 G1
  cases gt
  case true =>
    go_wp2_with fail
    refine (FX.out _ X3.out.tab X3.out.tab5).mono ?_
    rintro e w4 ⟨rfl, hb⟩
    have B4 := Lib.hid (below_go X3.out.bel hb)
    clear hb X3
    go_wp2_with fail
    go_ret
    exact ⟨rfl, B4.out⟩
  case false =>
    go_wp2_with fail
    refine (C1.out _ X3.out).mono ?_
    rintro e w4 ⟨Ap, kp, cp, Ae, ke, ce, Ps, Es, B, rfl, HZ, hb⟩
    have n5 := below_alloc w4 (.cells #[.slice Ap kp cp, .int .u32 (va : Int), .int .u32 (vb : Int), .slice Ae ke ce] 36)
    have A5 : Hid (AB (w4.alloc (.cells #[.slice Ap kp cp, .int .u32 (va : Int), .int .u32 (vb : Int), .slice Ae ke ce] 36)) w4.heap.size Ap kp cp (va : Int) (vb : Int) Ae ke ce) := Lib.hid (heap_alloc_new w4 _)
    have Z5 := Lib.hid (HZ.out.1.below n5)
    have ZV := Lib.hid HZ.out.2
    have X5 := Lib.hid (X3.out.next (below_go hb n5))
    have B5 := Lib.hid (below_go hb n5)
    clear hb n5 HZ C1 q0 q1
    go_upto_region 5 with fail
    generalize w4.alloc (.cells #[.slice Ap kp cp, .int .u32 (va : Int), .int .u32 (vb : Int), .slice Ae ke ce] 36) = w5 at A5 Z5 X5 B5 ⊢
    generalize w4.heap.size = g4 at A5 ⊢
    have q0 := X5.out.p.c0
    have q1 := X5.out.p.c1
    go_wp2_with fail
    refine (C2.out _ X5.out).mono ?_
    rintro e w6 ⟨Ap', kp', cp', Ae', ke', ce', Ps', Es', rfl, HR, hb⟩
    have n7 := below_alloc w6 (.cells #[.slice Ap' kp' cp', .int .u32 (va : Int), .int .u32 (vb : Int), .slice Ae' ke' ce'] 36)
    have A7 := Lib.hid ((A5.out.below hb A5.out.lt).below n7 (Nat.lt_of_lt_of_le A5.out.lt hb.size))
    have A8 : Hid (AB (w6.alloc (.cells #[.slice Ap' kp' cp', .int .u32 (va : Int), .int .u32 (vb : Int), .slice Ae' ke' ce'] 36)) w6.heap.size Ap' kp' cp' (va : Int) (vb : Int) Ae' ke' ce') := Lib.hid (heap_alloc_new w6 _)
    have Z7 := Lib.hid (Z5.out.below (below_go hb n7))
    have R7 := Lib.hid (HR.out.1.below n7)
    have RV := Lib.hid HR.out.2
    have X7 := Lib.hid (X5.out.next (below_go hb n7))
    have B7 := Lib.hid (below_go B5.out (below_go hb n7))
    have hkp : kp' = kp := by
      have h1 := congrArg List.length ZV.out.1
      have h2 := congrArg List.length RV.out.1
      have h3 := Z7.out.lp
      have h4 := R7.out.lp
      rw [List.length_map] at h1 h2
      omega
    have hke : ke' = ke := by
      have h1 := congrArg List.length ZV.out.2.1
      have h2 := congrArg List.length RV.out.2
      have h3 := Z7.out.le
      have h4 := R7.out.le
      rw [List.length_map] at h1 h2
      omega
    subst hkp hke
    have k32 : kp' ≤ 32 ∧ ke' ≤ 64 := by
      have f := CF.out
      have h1 := congrArg List.length ZV.out.1
      have h2 := congrArg List.length ZV.out.2.1
      have h3 := Z7.out.lp
      have h4 := Z7.out.le
      rw [List.length_map] at h1 h2
      omega
    obtain ⟨k32, k64⟩ := k32
    have S9 : Hid (∀ W, Below (w6.alloc (.cells #[.slice Ap' kp' cp', .int .u32 (va : Int), .int .u32 (vb : Int), .slice Ae' ke' ce'] 36)).heap.size (w6.alloc (.cells #[.slice Ap' kp' cp', .int .u32 (va : Int), .int .u32 (vb : Int), .slice Ae' ke' ce'] 36)) W → Calls Tryz.prog 16 #[autv Ap kp' cp va vb Ae ke' ce, autv Ap' kp' cp' va vb Ae' ke' ce'] W fun e w' => e = .returned (.bool true) ∧ Below W.heap.size W w') := Lib.hid (fun W hW => by
      have r1 := Z7.out.read.below hW
      have r2 := R7.out.below hW
      have f := CF.out
      have h1 := congrArg List.length ZV.out.1
      have h2 := congrArg List.length ZV.out.2.1
      rw [List.length_map, r1.lp] at h1
      rw [List.length_map, r1.le] at h2
      exact rsame14_any Ap kp' cp va vb Ae ke' ce Ap' cp' Ae' ce' Ps Ps' Es Es' W r1.lp r1.le (ZV.out.1.trans RV.out.1.symm) (ZV.out.2.1.trans RV.out.2.symm) r1.rp r2.rp r1.re r2.re r1.qp r2.qp r1.qe r2.qe (by omega) (by omega))
    clear hb n7 HR C2 q0 q1 A5 Z5 X5 B5 R7 RV
    go_upto_region 6 with fail
    generalize w6.alloc (.cells #[.slice Ap' kp' cp', .int .u32 (va : Int), .int .u32 (vb : Int), .slice Ae' ke' ce'] 36) = w7 at A7 A8 Z7 X7 B7 S9 ⊢
    generalize w6.heap.size = g6 at A8 ⊢
    obtain ⟨a0, a1, a2, a3, _⟩ := A7.out.cells
    obtain ⟨b0, b1, b2, b3, _⟩ := A8.out.cells
    have nm : (vm != vm) = false := by simp
    go_wp2_with fail
    refine (S9.out w7 (Below.refl _ _)).mono ?_
    rintro e w8 ⟨rfl, hb⟩
    have A9 := Lib.hid (A7.out.below hb A7.out.lt)
    have X9 := Lib.hid (X7.out.next hb)
    have Z9 := Lib.hid (Z7.out.below hb)
    have WB := Lib.hid (And.intro (below_go B7.out hb) ZV.out.2.2)
    have LP1 := Lib.hid Z9.out.lp
    have LE1 := Lib.hid Z9.out.le
    have I0 : Hid (Ci w3 w8 g4 B Ap kp' cp va vb Ae ke' ce Ps Es) := Lib.hid ⟨A9.out, Z9.out.rp, Z9.out.re, fun q hq => (Z9.out.qp q hq).tc, fun d hd => (Z9.out.qe d hd).tc, WB.out.1, WB.out.2⟩
    clear hb S9 A7 A8 Z7 X7 B7 A9 Z9 WB X9 ZV CF a0 a1 a2 a3 b0 b1 b2 b3
    obtain ⟨a0, a1, a2, a3, _⟩ := I0.out.ab.cells
    go_wp2_with fail
    clear a0 a1 a2 a3
    go_loopw [37] (fun v W => ∃ (i : Nat), v = .int .i64 (i : Int) ∧ i ≤ kp' ∧ Hid (Ci w3 W g4 B Ap kp' cp va vb Ae ke' ce Ps Es)) (fun v _ => kp' - (intOf v).toNat)
    case atStart => exact ⟨0, rfl, by omega, I0⟩
    case round =>
      obtain ⟨i, rfl, hi, I⟩ := hrel
      clear I0
      obtain ⟨a0, a1, a2, a3, _⟩ := I.out.ab.cells
      by_cases ci : i < kp'
      · obtain ⟨g, rfl, c0, c1, c2⟩ := (OwnQ'.row I.out.rp) i (by have := LP1.out; omega)
        obtain ⟨W', hcl, hS⟩ := run_clear_t wr B (Ps.getD i qz) (I.out.tp _ (qgetD_mem Ps i (by have := LP1.out; omega)))
        have I2 := Lib.hid (I.out.step hS)
        obtain ⟨x, hx⟩ : ∃ x, Ps.getD i qz = x := ⟨_, rfl⟩
        rw [hx] at c0 c1 c2 hcl
        obtain ⟨xx, xt, xa, xn, xc, xL⟩ := x
        simp only at c0 c1 c2 hcl
        clear hx hS I
        go_wp2_with fail
        go_roundw
        case rel => exact ⟨i + 1, by go_num, by omega, I2⟩
        case measure => simp [intOf]; omega
      · obtain rfl : i = kp' := by omega
        go_wp2_with fail
        clear a0 a1 a2 a3
        go_loopw [50] (fun v W => ∃ (j : Nat), v = .int .i64 (j : Int) ∧ j ≤ ke' ∧ Hid (Ci w3 W g4 B Ap i cp va vb Ae ke' ce Ps Es)) (fun v _ => ke' - (intOf v).toNat)
        case atStart => exact ⟨0, rfl, by omega, I⟩
        case round =>
          obtain ⟨j, rfl, hj, J⟩ := hrel
          clear I
          obtain ⟨a0, a1, a2, a3, _⟩ := J.out.ab.cells
          by_cases cj : j < ke'
          · obtain ⟨g, rfl, c0, c1, c2, c3, c4, c5⟩ := (OwnE.row J.out.re) j (by have := LE1.out; omega)
            obtain ⟨W', hcl, hS⟩ := run_clear_t wr B (Es.getD j ed0').g (J.out.te _ (egetD_mem Es j (by have := LE1.out; omega)))
            have J2 := Lib.hid (J.out.step hS)
            obtain ⟨x, hx⟩ : ∃ x, Es.getD j ed0' = x := ⟨_, rfl⟩
            rw [hx] at c0 c1 c2 c3 c4 c5 hcl
            obtain ⟨xf, xg, xy, ⟨xx, xt, xa, xn, xc, xL⟩⟩ := x
            simp only at c0 c1 c2 c3 c4 c5 hcl
            clear hx hS J
            go_wp2_with fail
            go_roundw
            case rel => exact ⟨j + 1, by go_num, by omega, J2⟩
            case measure => simp [intOf]; omega
          · obtain rfl : j = ke' := by omega
            have X9 := Lib.hid (X3.out.next J.out.bel)
            clear J a0 a1 a2 a3 X3 LP1 LE1
            have KK := Lib.hid (kcx_next (Below.refl _ _).drew (kcx_of X9.out))
            have FX' := Lib.hid (fun W (h : Kcx w W a n c L g1 A k c' win D) => FX.out W h.2.2.2.2.out.tab h.2.2.2.2.out.tab5)
            have LP' := Lib.hid (fun W (h : Kcx w W a n c L g1 A k c' win D) => LP.out W h.2.2.2.2.out.rn)
            have S4 : Hid (∀ A4 k4 c4 D4 W, Kcx w W a n c L g1 A k c' win D → (Pt W A4 k4 c4 D4 ∧ D4.map (cn 10) = (L.take 40).map (cn 10)) → Calls Tryz.prog 17 #[ptv A k c' win, ptv A4 k4 c4 win] W fun e w' => e = .returned (.bool true) ∧ Below W.heap.size W w') := Lib.hid fun A4 k4 c4 D4 W h h4 => by
              have := rtsame_any A k c' D win A4 k4 c4 D4 win W h.2.2.2.2.out.pt h4.1
              rw [ssn_mapc (HC.out.trans h4.2.symm) h.2.2.2.2.out.pt h4.1, Bool.and_true, show (win == win) = true by simp] at this
              exact this
            obtain ⟨f0, f1, f2, f3, _⟩ := kcx_of X9.out
            clear FX LP HC K40 X9
            go_wp2_with fail
            go_region_held3 (fun W => W.cell? ⟨w.heap.size, 0, none⟩ = some (.slice a n c) ∧ W.cell? ⟨w.heap.size, 1, none⟩ = some (.int .u64 win) ∧ W.cell? ⟨g1, 0, none⟩ = some (.slice A k c') ∧ W.cell? ⟨g1, 1, none⟩ = some (.int .u64 win) ∧ Hid (CX w W a n c L g1 A k c' win D))
              (first | (with_reducible assumption) | (with_reducible exact KK.out) | (with_reducible exact kcx_next b1 (by assumption)))
              (first
                | (go_at_call 13; (with_reducible refine Calls.mono (FX'.out _ ?_) ?_); (with_reducible assumption); rintro e w' ⟨rfl, b1⟩)
                | (go_at_call 11; (with_reducible refine Calls.mono (LP'.out _ ?_) ?_); (with_reducible assumption); rintro e w' ⟨A4, k4, c4, D4, rfl, h4, m4, o4, b1⟩; have P4 := Lib.hid (And.intro (o4.pt h4 (PL.out _ _ h4 m4)) m4); clear h4 m4 o4)
                | (go_at_call 17; (with_reducible refine Calls.mono (S4.out _ _ _ _ _ ?_ P4.out) ?_); (with_reducible assumption); rintro e w' ⟨rfl, b1⟩))
            all_goals (rename_i hHeld; have HB2 := Lib.hid hHeld.2.2.2.2.out.bel; clear hHeld; go_wp2_with fail; go_ret; exact ⟨rfl, HB2.out⟩)
end Go.Proofs.YtpnllbojifnopaaGreatDoor
