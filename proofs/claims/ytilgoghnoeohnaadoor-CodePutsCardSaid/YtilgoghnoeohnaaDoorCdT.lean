/- The document's Put of a pattern. -/
import Derived.Test.YtilgoghnoeohnaaDoorCdS
import Derived.Test.YtilgoghnoeohnaaDoorLmRPut
import Derived.Test.YtilgoghnoeohnaaDoorME
import Derived.Deep.RegionHeld3
namespace Go.Proofs.YtilgoghnoeohnaaDoor
open Go Go.RowKit Pk Rl
set_option maxRecDepth 20000

def cwz (L : List Nd) (W : Nat) : List Int := if mp L W = 0 then cwr L W else []
set_option maxHeartbeats 16000000 in
theorem rcput_any (pA : Option Addr) (pn pc : Nat) (L : List Nd) (W : Nat) (w : World) (hP : Pt w pA pn pc L) (ht : Tps L) (hW : W < 18446744073709551616) :
    Calls Tryd.prog 8 #[ptv pA pn pc (W : Int)] w fun e w' => (∃ A' k' c', e = .returned (.tuple #[.slice A' k' c', .int .i64 (mp L W)]) ∧ (cwz L W).length = k' ∧ Own w' w.heap.size (.slice A' k' c') (cwz L W)) ∧ Below w.heap.size w w' := by
  obtain ⟨w1, hw1⟩ : ∃ X, w.alloc (ptobj pA pn pc (W : Int)) = X := ⟨_, rfl⟩
  have b1 : Below w.heap.size w w1 := hw1 ▸ below_alloc w _
  have k0 : w1.cell? ⟨w.heap.size, 0, none⟩ = some (.slice pA pn pc) := by rw [← hw1]; simp [go_sem]
  have k1 : w1.cell? ⟨w.heap.size, 1, none⟩ = some (.int .u64 (W : Int)) := by rw [← hw1]; simp [go_sem]
  have B1 := Lib.hid b1
  have PW1 := Lib.hid (fun X (hX : Below w.heap.size w X) => hP.below hX)
  have TM := Lib.hid (rtmay_any pA pn pc L (W : Int) w1 (PW1.out _ b1) (by omega))
  have HL := Lib.hid hP.len
  have HTp := Lib.hid ht
  have HW := Lib.hid hW
  obtain ⟨m, hm⟩ : ∃ z, mp L (W : Int) = z := ⟨_, rfl⟩
  obtain ⟨Z, hZ⟩ : ∃ z, cwz L W = z := ⟨_, rfl⟩
  rw [hZ]
  have HZ : Hid ((if mp L (W : Int) = 0 then cwr L W else []) = Z) := Lib.hid hZ
  rw [hm] at HZ TM ⊢
  have HM := Lib.hid hm
  clear hP ht b1 hm hZ hW
  go_enter Tryd.func8, Tryd.ntmps8
  go_upto_region 1 with fail
  clear hw1
  go_wp2_with fail
  refine TM.out.mono ?_
  rintro e w2 ⟨rfl, hb⟩
  have B2 := Lib.hid (below_go B1.out hb)
  have e0 := (hb.cell (p := ⟨w.heap.size, 0, none⟩) (World.block_lt_of_cell? _ _ k0)).trans k0
  have e1 := (hb.cell (p := ⟨w.heap.size, 1, none⟩) (World.block_lt_of_cell? _ _ k1)).trans k1
  clear hb TM k0 k1
  by_cases hm0 : m = 0
  case neg =>
    have h1 : (m != 0) = true := by simp [hm0]
    have HZ0 : Hid (Z = []) := Lib.hid (by rw [← HZ.out, if_neg hm0])
    obtain rfl := HZ0.out
    have O2 := Lib.hid ((Own.empty w2).mono B2.out.size)
    have BB := Lib.hid (below_go B2.out (below_alloc w2 (.cells #[] 5)))
    clear HZ HZ0
    go_wp2_with fail
    go_ret2
    exact ⟨⟨_, 0, 0, rfl, rfl, O2.out⟩, BB.out⟩
  subst hm0
  obtain ⟨hF, _, _⟩ := mp_fit HM.out
  have FF := Lib.hid hF
  have L33 := Lib.hid hF.len
  have HZ1 : Hid (Z = wrt W ++ wT 34 L) := Lib.hid (by rw [← HZ.out, if_pos rfl, wT_fuel 33 L hF.len, hF.wr]; rfl)
  have TR2 := Lib.hid (rtree_any 33 pA pn pc L w2 (by rw [← HL.out]; exact hF.len) (PW1.out _ B2.out))
  clear hF HZ
  go_wp2_with fail
  refine TR2.out.mono ?_
  rintro e w5 ⟨nd, Aq, mm, C, rfl, hbt, hb⟩
  obtain ⟨hnd, hmm, htr⟩ := hbt FF.out.bl
  have b5 := below_alloc w5 (tobjT nd Aq mm C)
  have B6 := Lib.hid (below_go (below_go B2.out hb) b5)
  have T6 := Lib.hid (Trb.start w5 nd Aq mm C)
  have e11 := (b5.cell (p := ⟨w.heap.size, 1, none⟩) (World.block_lt_of_cell? _ _ ((hb.cell (p := ⟨w.heap.size, 1, none⟩) (World.block_lt_of_cell? _ _ e1)).trans e1))).trans ((hb.cell (p := ⟨w.heap.size, 1, none⟩) (World.block_lt_of_cell? _ _ e1)).trans e1)
  have GW6 : Hid (GW (w5.alloc (tobjT nd Aq mm C)) (wT 34) nd Aq mm C L) := Lib.hid (by
    subst hmm
    exact rwrite_any (w5.alloc (tobjT nd Aq (pts L).length C)) 33 nd Aq C L _ FF.out.ne (by have := L33.out; omega) hnd (fun v hv => by
      obtain ⟨i, hi, rfl⟩ := List.getElem_of_mem hv
      have := nfit_of (PW1.out _ B6.out) FF.out HTp.out i hi
      rwa [List.getD_eq_getElem?_getD, List.getElem?_eq_getElem hi] at this) (htr.below b5 (fun b hb => hb.2)) (fun b hb => by rw [World.size_alloc]; exact Nat.lt_succ_of_lt hb.2))
  have KT : Hid ((wrt W).length + (wT 34 L).length ≤ 90000) := Lib.hid (by
    have h1 := wrt_ten W HW.out
    have h2 := wL_len (PW1.out _ B6.out) FF.out HTp.out L.length (Nat.le_refl _)
    have h3 := L33.out
    rw [wT_fuel 33 L h3, FF.out.wr]
    omega)
  have RP : Hid (∀ (X : World) (a : Option Addr), Calls Tryd.prog 19 #[.slice a 0 0, .int .u64 (W : Int)] X fun e w' => ∃ A' k' c', e = .returned (.slice A' k' c') ∧ (wrt W).length = k' ∧ Own w' X.heap.size (.slice A' k' c') (wrt W) ∧ Below X.heap.size X w') := Lib.hid (fun X a => by have := rput_any a 0 0 [] W X rfl (by omega) (fun _ => rfl) HW.out ⟨fun i hi => absurd hi (by simp), by simp⟩; simpa using this)
  clear hb hbt hnd hmm htr b5 TR2 e0 e1 PW1 FF
  go_upto_region 5 with fail
  generalize w5.alloc (tobjT nd Aq mm C) = w6 at B6 T6 e11 GW6 ⊢
  generalize w5.heap.size = h at T6 ⊢
  obtain ⟨x0, x1, x2, x3, x4, x5, x6, x7, x8, x9, x10⟩ := T6.out.cells.1
  have x11 := T6.out.cells.2
  simp only [Nat.zero_add] at x0 x1 x2 x3 x4 x5 x6 x7 x8 x9 x10
  have zh : h < w6.heap.size := World.block_lt_of_cell? _ _ x0
  have zg : w.heap.size < w6.heap.size := World.block_lt_of_cell? _ _ e11
  have WRG := Lib.hid (wrt_range W)
  have ZZ : Hid (w6.heap.size ≤ w6.heap.size) := Lib.hid (Nat.le_refl _)
  have kS0 := mkS (Below.refl w6.heap.size w6).drew (Nat.le_refl w6.heap.size)
  go_region_held3 (fun W => (∀ a j, a < w6.heap.size → W.cell? ⟨a, j, none⟩ = w6.cell? ⟨a, j, none⟩) ∧ Hid (Below w6.heap.size w6 W ∧ w6.heap.size ≤ W.heap.size))
    (first
      | (with_reducible assumption)
      | (with_reducible apply sCall; assumption; assumption)
      | (refine mkS ?_ ?_ <;> repeat' (first
          | (with_reducible apply sB; assumption)
          | (with_reducible apply sZ; assumption)
          | (with_reducible refine Below.alloc ?_ ?_ _)
          | (with_reducible refine Below.drew ?_)
          | (rw [World.size_alloc])
          | (rw [World.size_drew])
          | (with_reducible exact Below.refl _ _)
          | (with_reducible exact ZZ.out)
          | (with_reducible refine Nat.le_add_right_of_le ?_)
          | (dsimp only))))
    (first
      | (go_at_call 19; (with_reducible refine Calls.mono (RP.out _ _) ?_); rintro e wa ⟨Ap, kp, cp, rfl, hkp, hop, hbp⟩; have OA := Lib.hid (hop.mono (sZ (by assumption))); have KA := Lib.hid hkp; have kA := sCall hbp (by assumption); clear hop hkp)
      | (go_at_call 18; (with_reducible refine Calls.mono (GW6.out Ap kp cp (wrt W) wa OA.out KA.out (by rw [← KA.out]; exact KT.out) WRG.out (sB kA)) ?_); rintro e wz ⟨⟨Az, kz, cz, rfl, hkz, hoz⟩, hbz, hlz, _⟩; have OZ := Lib.hid hoz; have KZ := Lib.hid hkz; have BZ := Lib.hid hbz; have kZ := mkS (hbz) (hbz.size); clear hoz hkz))
  all_goals go_show
  obtain rfl := HZ1.out
  go_wp2_with fail
  go_ret2
  exact ⟨⟨_, _, _, rfl, by rw [← List.length_append]; exact KZ.out, OZ.out.mono B6.out.size⟩, below_go B6.out BZ.out⟩
end Go.Proofs.YtilgoghnoeohnaaDoor
