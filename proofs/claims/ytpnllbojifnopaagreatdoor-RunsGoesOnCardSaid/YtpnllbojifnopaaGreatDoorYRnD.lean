/- What holds of an event: the places' questions, and the edges' guards. -/
import Derived.Test.YtpnllbojifnopaaGreatDoorYRnC
import Derived.Test.YtpnllbojifnopaaGreatDoorYMLV
namespace Go.Proofs.YtpnllbojifnopaaGreatDoor
open Go Go.RowKit Go.Maps Pk Rl
set_option maxRecDepth 20000
def hpl (Ps : List Qu) (l : Lg) (i : Nat) : Bool := phold (Ps.getD i qz).x (Ps.getD i qz).t (Ps.getD i qz).L l.t l.E
def hgd (Es : List Ed) (l : Lg) (i : Nat) : Bool := (Es.getD i ed0').y && phold (Es.getD i ed0').g.x (Es.getD i ed0').g.t (Es.getD i ed0').g.L l.t l.E
def plc_ (Ps : List Qu) (l : Lg) : Nat := sbt (hpl Ps l) Ps.length
def brd (Es : List Ed) (l : Lg) : Nat := sbt (hgd Es l) Es.length
structure Fh (w W : World) (d : Nat) (Ap : Option Addr) (kp cp a b : Nat) (Ae : Option Addr) (ke ce win : Nat) (Ps : List Qu) (Es : List Ed) (l : Lg) : Prop where
  g : Eg W d Ap kp cp a b Ae ke ce win Ps Es
  bel : Below w.heap.size w W
  tab : Tab W
  lk : Lok W l
  e : Evb W w.heap.size l.t l.a l.n l.c
theorem Fh.next {w W W' : World} {d : Nat} {Ap : Option Addr} {kp cp a b : Nat} {Ae : Option Addr} {ke ce win : Nat} {Ps : List Qu} {Es : List Ed} {l : Lg} (h : Fh w W d Ap kp cp a b Ae ke ce win Ps Es l) (hb : Below W.heap.size W W') : Fh w W' d Ap kp cp a b Ae ke ce win Ps Es l := ⟨h.g.below hb, below_go h.bel hb, h.tab.below hb, h.lk.ck (Ck.of_below hb), h.e.next hb⟩
theorem Fh.start {w : World} {d : Nat} {Ap : Option Addr} {kp cp a b : Nat} {Ae : Option Addr} {ke ce win : Nat} {Ps : List Qu} {Es : List Ed} {l : Lg} (hG : Eg w d Ap kp cp a b Ae ke ce win Ps Es) (hT : Tab w) (hl : Lok w l) : Fh w (w.alloc (ecells l.t l.a l.n l.c)) d Ap kp cp a b Ae ke ce win Ps Es l :=
  ⟨hG.below (below_alloc _ _), below_alloc _ _, hT.below (below_alloc _ _), hl.ck (Ck.of_below (below_alloc _ _)), Evb.alloc _ _ _ _ _⟩
theorem Fh.holds {w W : World} {d : Nat} {Ap : Option Addr} {kp cp a b : Nat} {Ae : Option Addr} {ke ce win : Nat} {Ps : List Qu} {Es : List Ed} {l : Lg} (h : Fh w W d Ap kp cp a b Ae ke ce win Ps Es l) (q : Qu) (hq : Qok W q) :
    Calls Tryz.prog 131 #[pv q.x q.t q.a q.n q.c, ev l.t l.a l.n l.c] W fun e w' => e = .returned (.bool (phold q.x q.t q.L l.t l.E)) ∧ Below W.heap.size W w' :=
  phold_any _ _ _ _ _ _ _ _ _ _ _ W hq.len (by have := hq.few; omega) h.lk.len h.lk.few hq.row hq.ok h.lk.row h.lk.ok h.tab
theorem qu_mem {Ps : List Qu} {i : Nat} (h : i < Ps.length) : Ps.getD i qz ∈ Ps := by
  rw [List.getD_eq_getElem?_getD, List.getElem?_eq_getElem h]; exact List.getElem_mem h
set_option maxHeartbeats 8000000 in
theorem holding_any (d : Nat) (Ap : Option Addr) (kp cp a b : Nat) (Ae : Option Addr) (ke ce win : Nat) (Ps : List Qu) (Es : List Ed) (l : Lg) (w : World) (h : Eg w d Ap kp cp a b Ae ke ce win Ps Es) (hT : Tab w) (hl : Lok w l) :
    Calls Tryz.prog 101 #[.pointer (some ⟨d, 0, none⟩), ev l.t l.a l.n l.c] w fun e w' => e = .returned (.tuple #[.int .u32 (plc_ Ps l : Int), .int .u64 (brd Es l : Int)]) ∧ Below w.heap.size w w' := by
  have K0 := Lib.hid (Fh.start h hT hl)
  have hkp := h.kp
  have hke := h.ke
  have lp : Ps.length = kp := h.cr.lp
  have le : Es.length = ke := h.cr.le
  have LP := Lib.hid lp
  have LE := Lib.hid le
  obtain ⟨P, hP⟩ : ∃ B : Nat → Bool, hpl Ps l = B := ⟨_, rfl⟩
  obtain ⟨G, hG⟩ : ∃ B : Nat → Bool, hgd Es l = B := ⟨_, rfl⟩
  have HP := Lib.hid hP
  have HG := Lib.hid hG
  have RS : plc_ Ps l = sbt P kp := by unfold plc_; rw [hP, lp]
  have RG : brd Es l = sbt G ke := by unfold brd; rw [hG, le]
  rw [RS, RG]
  clear h hP hG RS RG lp le hT hl
  go_enter Tryz.func101, Tryz.ntmps101
  go_upto_region 1 with fail
  generalize w.alloc (ecells l.t l.a l.n l.c) = w1 at K0 ⊢
  have c0 := K0.out.g.c0
  go_wp2_with fail
  go_loopw [4, 16] (fun v4 v16 W => ∃ (i : Nat), v4 = .int .u32 ((sbt P i : Nat) : Int) ∧ v16 = .int .i64 (i : Int) ∧ i ≤ kp ∧ Hid (Fh w W d Ap kp cp a b Ae ke ce win Ps Es l)) (fun _ v16 _ => kp - (intOf v16).toNat)
  case atStart => exact ⟨0, rfl, rfl, by omega, Lib.hid K0.out⟩
  case round =>
    obtain ⟨i, rfl, rfl, hi, H⟩ := hrel
    clear c0
    by_cases ci : i < kp
    · have hl : i < Ps.length := by have := LP.out; omega
      obtain ⟨g, rfl, e0, e1, e2⟩ := H.out.g.cr.rp i hl
      have HQ := Lib.hid (H.out.g.cr.qp _ (qu_mem hl))
      have HPi := Lib.hid (congrFun HP.out i)
      unfold hpl at HPi
      obtain ⟨x, hx⟩ : ∃ x, Ps.getD i qz = x := ⟨_, rfl⟩
      rw [hx] at e0 e1 e2 HQ HPi
      obtain ⟨qx, qt, qa, qn, qc, qL⟩ := x
      have BX := Lib.hid (Pdt.alloc wr qx qt qa qn qc)
      have nb := below_alloc wr (pcells qx qt qa qn qc)
      have HX := Lib.hid (H.out.next nb)
      have HQ2 := Lib.hid (HQ.out.below nb)
      simp only at e0 e1 e2
      clear H hx nb
      go_upto_region 4 with fail
      generalize wr.alloc (pcells qx qt qa qn qc) = w2 at BX HX HQ2 ⊢
      generalize wr.heap.size = gb at BX ⊢
      obtain ⟨b0, b1, b2⟩ := BX.out
      obtain ⟨k0, k1⟩ := HX.out.e.evt
      have CH := Lib.hid (HX.out.holds _ HQ2.out)
      rw [HPi.out] at CH
      clear e0 e1 e2
      go_wp2_with fail
      refine CH.out.mono ?_
      rintro e w3 ⟨rfl, hb⟩
      have H3 := Lib.hid (HX.out.next hb)
      clear hb CH k0 k1 b0 b1 b2 HX HQ HQ2 BX
      have h32 : sbt P i < 4294967296 := sbt_lt32 P i (by omega)
      cases hb : P i
      · have SB := Lib.hid (show sbt P (i + 1) = sbt P i by rw [sbt_step, hb]; simp)
        clear hb
        go_wp2_with fail
        exact ⟨⟨i + 1, by rw [SB.out], by go_num, by omega, Lib.hid H3.out⟩, by simp [intOf]; omega⟩
      · have SB := Lib.hid (show sbt P (i + 1) = sbt P i ||| 2 ^ i by rw [sbt_or, sbt_step, hb]; simp)
        clear hb
        go_wp2_with fail
        exact ⟨⟨i + 1, by rw [SB.out, orW32 _ _ h32 (by omega)], by go_num, by omega, Lib.hid H3.out⟩, by simp [intOf]; omega⟩
    · obtain rfl : i = kp := by omega
      have H1 := Lib.hid H.out
      have c3 := H1.out.g.c3
      clear H K0
      go_wp2_with fail
      go_loopw [5, 35] (fun v5 v35 W => ∃ (j : Nat), v5 = .int .u64 ((sbt G j : Nat) : Int) ∧ v35 = .int .i64 (j : Int) ∧ j ≤ ke ∧ Hid (Fh w W d Ap i cp a b Ae ke ce win Ps Es l)) (fun _ v35 _ => ke - (intOf v35).toNat)
      case atStart => exact ⟨0, rfl, rfl, by omega, Lib.hid H1.out⟩
      case round =>
        obtain ⟨j, rfl, rfl, hj, H⟩ := hrel
        clear c3 H1
        by_cases cj : j < ke
        · have hl : j < Es.length := by have := LE.out; omega
          obtain ⟨g, rfl, e0, e1, e2, e3, e4, e5⟩ := H.out.g.cr.re j hl
          have HQ := Lib.hid (H.out.g.cr.qe _ (ed_mem hl))
          have HGi := Lib.hid (congrFun HG.out j)
          unfold hgd at HGi
          obtain ⟨x, hx⟩ : ∃ x, Es.getD j ed0' = x := ⟨_, rfl⟩
          rw [hx] at e0 e1 e2 e3 e4 e5 HQ HGi
          obtain ⟨xf, xt, xy, ⟨gx, gt, ga, gn, gc, gL⟩⟩ := x
          simp only at HQ HGi e0 e1 e2 e3 e4 e5
          have nb := below_alloc wr (eobr ⟨xf, xt, xy, ⟨gx, gt, ga, gn, gc, gL⟩⟩)
          have BX := Lib.hid (heap_alloc_new wr (eobr ⟨xf, xt, xy, ⟨gx, gt, ga, gn, gc, gL⟩⟩))
          have HX := Lib.hid (H.out.next nb)
          have HQ2 := Lib.hid (HQ.out.below nb)
          clear H hx nb
          go_upto_region 10 with fail
          generalize wr.alloc (eobr ⟨xf, xt, xy, ⟨gx, gt, ga, gn, gc, gL⟩⟩) = w2 at BX HX HQ2 ⊢
          generalize wr.heap.size = gb at BX ⊢
          obtain ⟨b0, b1, b2, b3, b4, b5⟩ := ebox_cells _ _ _ BX.out
          simp only at b2 b3 b4 b5
          obtain ⟨k0, k1⟩ := HX.out.e.evt
          have CH := Lib.hid (HX.out.holds _ HQ2.out)
          simp only at CH
          clear e0 e1 e2 e3 e4 e5 b0 b1
          have h64 : sbt G j < 18446744073709551616 := sbt_le64 G j (by omega)
          cases xy
          · have SB := Lib.hid (show sbt G (j + 1) = sbt G j by rw [sbt_step, ← HGi.out]; simp)
            clear CH
            have KX := Lib.hid HX.out
            go_wp2_with fail
            exact ⟨⟨j + 1, by rw [SB.out], by go_num, by omega, Lib.hid KX.out⟩, by simp [intOf]; omega⟩
          · rw [Bool.true_and] at HGi
            rw [HGi.out] at CH
            go_wp2_with fail
            refine CH.out.mono ?_
            rintro e w3 ⟨rfl, hb⟩
            have H3 := Lib.hid (HX.out.next hb)
            clear hb CH k0 k1 b2 b3 b4 b5 HX HQ HQ2 BX
            cases hb : G j
            · have SB := Lib.hid (show sbt G (j + 1) = sbt G j by rw [sbt_step, hb]; simp)
              clear hb
              go_wp2_with fail
              exact ⟨⟨j + 1, by rw [SB.out], by go_num, by omega, Lib.hid H3.out⟩, by simp [intOf]; omega⟩
            · have SB := Lib.hid (show sbt G (j + 1) = sbt G j ||| 2 ^ j by rw [sbt_or, sbt_step, hb]; simp)
              clear hb
              go_wp2_with fail
              exact ⟨⟨j + 1, by rw [SB.out, orW64 _ _ h64 (by omega)], by go_num, by omega, Lib.hid H3.out⟩, by simp [intOf]; omega⟩
        · obtain rfl : j = ke := by omega
          have KX := Lib.hid H.out.bel
          clear H
          go_wp2_with fail
          exact bodyPost_ret (results_tmp2 rfl _ _ _) rfl ⟨rfl, KX.out⟩
end Go.Proofs.YtpnllbojifnopaaGreatDoor
