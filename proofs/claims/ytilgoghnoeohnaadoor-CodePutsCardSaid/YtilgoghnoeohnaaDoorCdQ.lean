/- The program's Put of a pattern. -/
import Derived.Test.YtilgoghnoeohnaaDoorCdP
import Derived.Test.YtilgoghnoeohnaaDoorCdN
namespace Go.Proofs.YtilgoghnoeohnaaDoor
open Go Go.RowKit Pk Rl
set_option maxRecDepth 20000

theorem Pt.mid {w : World} {a : Option Addr} {n c : Nat} {L : List Nd} (h : Pt w a n c L) (i j : Nat) (hi : i < j) (hj : j ≤ n) :
    ∃ A, (∀ W, (Instr.slice 26 (.slice a n c) (some (.int .i64 (i : Int))) (some (.int .i64 (j : Int))) none).run Tryd.prog W = .ok (.slice A (j - i) (c - i)) W) ∧ ∀ w, Pt w a n c L → Pt w A (j - i) (c - i) ((L.drop i).take (j - i)) := by
  have hl := h.len
  have hc := h.cap
  have hf := h.few
  obtain ⟨b, off, rfl, _⟩ := h.row 0 (by omega)
  clear h
  refine ⟨some ⟨b, off + i * 11, none⟩, fun W => ?_, fun w h => ?_⟩
  · rw [run_slice_lh (P := Tryd.prog) (w := W) 26 (some ⟨b, off, none⟩) n c (by rw [elemN]; exact Tryd.underlying26) .i64 .i64 (i : Int) (j : Int) (by omega) (by omega) (by omega), elemN]
    simp [sizeOf, go_sem, tsN, sliced, add_plain]
    omega
  · exact ⟨by rw [List.length_take, List.length_drop]; omega, by omega, by omega, (h.row.drop i).take (j - i), fun v hv => h.ok v (List.mem_of_mem_drop (List.mem_of_mem_take hv))⟩
/- topics are bytes -/
def Tps (L : List Nd) : Prop := ∀ v ∈ L, (0 ≤ v.p.t ∧ v.p.t < 256) ∧ (0 ≤ v.g.t ∧ v.g.t < 256)
theorem nfit_of {w : World} {a : Option Addr} {n c : Nat} {L : List Nd} (hP : Pt w a n c L) (hF : Fit L) (ht : Tps L) (i : Nat) (hi : i < L.length) : Nfit w (L.getD i nz) := by
  have hm := ngetD_mem L i hi
  have hk := kd_k (hF.ak i hi)
  have hb : bad (L.getD i nz) = false := by
    have := hF.qs
    rw [List.any_eq_false] at this
    simpa using this _ hm
  unfold bad at hb
  rw [Bool.or_eq_false_iff, Bool.not_eq_false', Bool.not_eq_false'] at hb
  exact ⟨hP.ok _ hm, hk.1, hk.2, (ht _ hm).1, (ht _ hm).2, hb.1, hb.2⟩
theorem ngrd_len {w : World} {x : Nd} (h : Nfit w x) : (ngrd x).length ≤ 1210 := by
  unfold ngrd
  cases x.y
  · rw [if_neg (by simp)]; simp
  · rw [if_pos rfl]; exact wpd_len h.ok.g.ok h.gm
theorem ngrd_range {w : World} {x : Nd} (h : Nfit w x) : ∀ c ∈ ngrd x, 0 ≤ c ∧ c < 256 := by
  unfold ngrd
  cases x.y
  · rw [if_neg (by simp)]; simp
  · rw [if_pos rfl]; exact wpd_range h.gt h.ok.g.ok h.gm
theorem nbs_len {w : World} {x : Nd} (h : Nfit w x) (m : Nat) : (nbs x m).length ≤ 2421 := by
  have e := nbs_split x m []
  have h1 := nmid_len h m
  have h2 := ngrd_len h
  rw [List.nil_append] at e
  rw [e]
  simp only [List.length_append, List.length_cons, List.length_nil]
  omega
theorem nbs_range {w : World} {x : Nd} (h : Nfit w x) (m : Nat) (hm : m < 256) : ∀ c ∈ nbs x m, 0 ≤ c ∧ c < 256 := by
  have e := nbs_split x m []
  rw [List.nil_append] at e
  rw [e]
  exact range_app (range_app (fun c hc => by simp at hc; subst hc; exact fb_range h) (nmid_range h m hm)) (ngrd_range h)
/- a pattern's writing -/
def cwr (L : List Nd) (W : Nat) : List Int := wrt W ++ wL L L.length
theorem wL_len {w : World} {a : Option Addr} {n c : Nat} {L : List Nd} (hP : Pt w a n c L) (hF : Fit L) (ht : Tps L) (i : Nat) (hi : i ≤ L.length) : (wL L i).length ≤ 2421 * i := by
  induction i with
  | zero => rw [wL_zero]; simp
  | succ i ih =>
    have h1 := ih (by omega)
    have h2 := nbs_len (nfit_of hP hF ht i (by omega)) (pts (L.drop i)).length
    rw [wL_succ, List.length_append]
    omega
theorem wL_range {w : World} {a : Option Addr} {n c : Nat} {L : List Nd} (hP : Pt w a n c L) (hF : Fit L) (ht : Tps L) (i : Nat) (hi : i ≤ L.length) : ∀ c ∈ wL L i, 0 ≤ c ∧ c < 256 := by
  induction i with
  | zero => rw [wL_zero]; simp
  | succ i ih =>
    rw [wL_succ]
    refine range_app (ih (by omega)) (nbs_range (nfit_of hP hF ht i (by omega)) _ ?_)
    have h1 := pts_len (L.drop i)
    have h2 := hF.len
    rw [List.length_drop] at h1
    omega
theorem sub_head {L : List Nd} {i s : Nat} (hi : i < L.length) (hf : frn (L.drop i) = (L.drop i).take (1 + s)) : (L.drop i).take (1 + s) ≠ [] ∧ ((L.drop i).take (1 + s)).headD nz = L.getD i nz ∧ pts ((L.drop i).take (1 + s)) = pts (L.drop i) := by
  have e : L.drop i = L.getD i nz :: L.drop (i + 1) := by
    rw [List.drop_eq_getElem_cons hi, List.getD_eq_getElem?_getD, List.getElem?_eq_getElem hi]; rfl
  refine ⟨?_, ?_, by rw [← hf, pts_frn]⟩
  · rw [e, Nat.add_comm, List.take_succ_cons]; simp
  · rw [e, Nat.add_comm, List.take_succ_cons]; rfl
set_option maxHeartbeats 4000000 in
theorem cput_any (pA : Option Addr) (pn pc : Nat) (L : List Nd) (W : Nat) (w : World) (hP : Pt w pA pn pc L) (hT : Tab w) (ht : Tps L) (hW : W < 18446744073709551616) :
    Calls Tryd.prog 7 #[ptv pA pn pc (W : Int)] w fun e w' => (∃ A' k' c', e = .returned (.tuple #[.slice A' k' c', .int .i64 (mp L W)]) ∧ (if mp L W = 0 then cwr L W else []).length = k' ∧ Own w' w.heap.size (.slice A' k' c') (if mp L W = 0 then cwr L W else [])) ∧ Below w.heap.size w w' := by
  obtain ⟨w1, hw1⟩ : ∃ X, w.alloc (ptobj pA pn pc (W : Int)) = X := ⟨_, rfl⟩
  have b1 : Below w.heap.size w w1 := hw1 ▸ below_alloc w _
  have k0 : w1.cell? ⟨w.heap.size, 0, none⟩ = some (.slice pA pn pc) := by rw [← hw1]; simp [go_sem]
  have k1 : w1.cell? ⟨w.heap.size, 1, none⟩ = some (.int .u64 (W : Int)) := by rw [← hw1]; simp [go_sem]
  have K0 := Lib.hid k0
  have K1 := Lib.hid k1
  have B1 := Lib.hid b1
  have TM := Lib.hid (tmay_any pA pn pc L (W : Int) w1 (hP.below b1) (hT.below b1))
  have HP := Lib.hid (hP.below b1)
  have HT := Lib.hid (hT.below b1)
  have HL := Lib.hid hP.len
  have HTp := Lib.hid ht
  have HW := Lib.hid hW
  obtain ⟨m, hm⟩ : ∃ z, mp L (W : Int) = z := ⟨_, rfl⟩
  obtain ⟨Z, hZ⟩ : ∃ z, (if mp L (W : Int) = 0 then cwr L W else []) = z := ⟨_, rfl⟩
  rw [hZ]
  rw [hm] at hZ TM ⊢
  have HM := Lib.hid hm
  have HZ := Lib.hid hZ
  clear hP hT ht b1 hm hZ hW
  go_enter Tryd.func7, Tryd.ntmps7
  go_upto_region 1 with fail
  clear hw1
  go_wp2_with fail
  refine TM.out.mono ?_
  rintro e w2 ⟨rfl, hb⟩
  have B2 := Lib.hid hb
  have e0 := (hb.cell (p := ⟨w.heap.size, 0, none⟩) (World.block_lt_of_cell? _ _ k0)).trans k0
  have e1 := (hb.cell (p := ⟨w.heap.size, 1, none⟩) (World.block_lt_of_cell? _ _ k1)).trans k1
  have S12 := Lib.hid hb.size
  clear hb TM k0 k1
  by_cases hm0 : m = 0
  case neg =>
    have h1 : (m != 0) = true := by simp [hm0]
    have HZ0 : Hid (Z = []) := Lib.hid (by rw [← HZ.out, if_neg hm0])
    obtain rfl := HZ0.out
    have BB := Lib.hid (B1.out.trans (B2.out.mono B1.out.size))
    clear HZ HZ0
    go_wp2_with fail
    go_ret2
    exact ⟨⟨none, 0, 0, rfl, rfl, World.ownsRow_nil _ _ 5 1⟩, BB.out⟩
  subst hm0
  obtain ⟨hF, hw1, hw2⟩ := mp_fit HM.out
  have FF := Lib.hid hF
  have L33 := Lib.hid hF.len
  have HZ1 : Hid (Z = wrt W ++ wL L L.length) := Lib.hid (by rw [← HZ.out, if_pos rfl]; rfl)
  have PU := Lib.hid (put_any none 0 0 [] W w2 rfl (by omega) HW.out (Byt.nil w2))
  clear hF hw1 hw2 HZ
  go_wp2_with fail
  refine PU.out.mono ?_
  rintro e w3 ⟨A3, k3, c3, rfl, hk3, ho3, hb3⟩
  rw [List.nil_append] at hk3 ho3
  have O3 := Lib.hid (ho3.mono S12.out)
  have B3 := Lib.hid (below_go B2.out hb3)
  have W10 := Lib.hid (wrt_ten W HW.out)
  have WR := Lib.hid (wrt_range W)
  have e00 := (hb3.cell (p := ⟨w.heap.size, 0, none⟩) (World.block_lt_of_cell? _ _ e0)).trans e0
  have hpn := HL.out
  have hpn33 : pn < 33 := by have := L33.out; omega
  have SB := Lib.hid (fun i (hi : i < L.length) => FF.out.af.sub i hi)
  have KL := Lib.hid (fun i (hi : i ≤ L.length) => wL_len HP.out FF.out HTp.out i hi)
  have KR := Lib.hid (fun i (hi : i ≤ L.length) => wL_range HP.out FF.out HTp.out i hi)
  have NF := Lib.hid (fun i (hi : i < L.length) => nfit_of HP.out FF.out HTp.out i hi)
  have AFF := Lib.hid FF.out.af
  have WS := Lib.hid (wL_succ L)
  have KK3 := Lib.hid hk3
  have MID := Lib.hid (fun i j h1 h2 => HP.out.mid i j h1 h2)
  have K00 := Lib.hid e0
  have SH := Lib.hid (fun i s (hi : i < L.length) (hf : frn (L.drop i) = (L.drop i).take (1 + s)) => sub_head hi hf)
  clear hk3 ho3 hb3 e0 e1 PU FF HTp
  go_wp2_with fail
  clear e00
  go_loopw [5, 19] (fun v t X => ∃ (i : Nat) (A : Option Addr) (k c : Nat), i ≤ pn ∧ t = .int .i64 (i : Int) ∧ v = .slice A k c ∧ k ≤ 10 + 2421 * i ∧ Hid (Own X w1.heap.size (.slice A k c) (wrt W ++ wL L i) ∧ (wrt W ++ wL L i).length = k ∧ Below w1.heap.size w1 X)) (fun _ t _ => pn - (intOf t).toNat)
  case atStart => exact ⟨0, A3, k3, c3, Nat.zero_le _, rfl, rfl, by have h1 := W10.out; have h2 := KK3.out; omega, Lib.hid ⟨by rw [wL_zero, List.append_nil]; exact O3.out, by rw [wL_zero, List.append_nil]; exact KK3.out, B3.out⟩⟩
  case round =>
    obtain ⟨i, A, k, c, hi, rfl, rfl, hk9, I⟩ := hrel
    by_cases hlt : i < pn
    · have hlt2 : (i : Int) < (pn : Int) := by omega
      obtain ⟨pb, po, rfl, hat⟩ := HP.out.row i (by omega)
      obtain ⟨sn, hs1, hs2, hs3⟩ := SB.out i (by omega)
      obtain ⟨j, hj⟩ : ∃ j, i + 1 + sn = j := ⟨_, rfl⟩
      have hji : (i : Int) + 1 + (sn : Int) = (j : Int) := by omega
      have hsn : (sn : Int) ≤ 33 := by omega
      obtain ⟨A2, hr2, hp2⟩ := MID.out i j (by omega) (by omega)
      have hjs : j - i = 1 + sn := by omega
      obtain ⟨h1, h2, h3⟩ := SH.out i sn (by omega) hs3
      have P2 := hp2 w1 HP.out
      rw [hjs] at P2 hr2
      have m9 : (pts (L.drop i)).length < 256 := by have h4 := pts_len (L.drop i); rw [List.length_drop] at h4; omega
      have hat2 := hat.below I.out.2.2 hat.lt
      obtain ⟨k0, k1, k2, k3', k4, k5, k6, k7, k8, k9, k10⟩ := hat2
      have kp := (I.out.2.2.cell (p := ⟨w.heap.size, 0, none⟩) (World.block_lt_of_cell? _ _ K0.out)).trans K0.out
      have zp : w.heap.size < wr.heap.size := World.block_lt_of_cell? _ _ kp
      have PN1 := Lib.hid (putNode_any w1 A2 (1 + sn) (pc - i) ((L.drop i).take (1 + sn)) (L.getD i nz) (pts (L.drop i)).length A k c (wrt W ++ wL L i) (wr.alloc (nobj (L.getD i nz))) P2 h1 h2 (by rw [h3]) m9 (NF.out i (by omega)) HT.out (I.out.1.below (below_alloc _ _)) I.out.2.1 (by omega) (range_app WR.out (KR.out i (by omega))) (below_go I.out.2.2 (below_alloc _ _)))
      have E1 : Hid ((wrt W ++ wL L i) ++ nbs (L.getD i nz) (pts (L.drop i)).length = wrt W ++ wL L (i + 1)) := Lib.hid (by rw [WS.out, List.append_assoc])
      rw [E1.out] at PN1
      have KL1 := Lib.hid (KL.out (i + 1) (by omega))
      generalize L.getD i nz = x at k0 k1 k2 k3' k4 k5 k6 k7 k8 k9 k10 hs1 PN1
      obtain ⟨nk, ⟨px, pt, pa, pn', pc', pL⟩, ny, ⟨gx, gt, ga, gn, gc, gL⟩, lo, hi', xs⟩ := x
      simp only at hs1
      subst hs1
      clear hat hp2 P2 h1 h2 h3 hs3 m9 E1 hs2 hj hjs
      have wj : IntKind.i64.wrap (j : Int) = (j : Int) := by rw [IntKind.wrap_i64]; omega
      go_wp2_with fail
      refine PN1.out.mono ?_
      rintro e w5 ⟨⟨A5, k5', c5, rfl, hl5, ho5⟩, hb5⟩
      have N5 := Lib.hid (And.intro ho5 (And.intro hl5 hb5))
      have hk5 : k5' ≤ 10 + 2421 * (i + 1) := by have h1 := KL1.out; have h2 := W10.out; rw [← hl5, List.length_append]; omega
      clear ho5 hl5 hb5 PN1 k0 k1 k2 k3' k4 k5 k6 k7 k8 k9 k10 kp zp
      go_wp2_with fail
      exact ⟨⟨i + 1, A5, k5', c5, by omega, by go_num, rfl, hk5, N5⟩, by simp [intOf]; omega⟩
    · obtain rfl : i = pn := by omega
      have HZ2 : Hid (Z = wrt W ++ wL L i) := Lib.hid (by rw [HZ1.out, HL.out])
      obtain rfl := HZ2.out
      have OO := Lib.hid (I.out.1.mono B1.out.size)
      have LL := Lib.hid I.out.2.1
      have BB := Lib.hid (B1.out.trans (I.out.2.2.mono B1.out.size))
      clear I
      go_wp2_with fail
      go_ret2
      exact ⟨⟨_, _, _, rfl, by first | exact LL.out | simpa using LL.out, OO.out⟩, BB.out⟩
end Go.Proofs.YtilgoghnoeohnaaDoor
