/- The chapter's example. -/
import Derived.Test.YtpnllbojifnopaaGreatDoorAuY
import Derived.Test.YtpnllbojifnopaaGreatDoorMY
namespace Go.Proofs.YtpnllbojifnopaaGreatDoor
open Go Go.RowKit Pk Rl
set_option maxRecDepth 20000

theorem au_one (k n : Nat) (t : Int) : au (k + 1) [one t] n = (2 ^ n, 2 ^ n, [(false, t, [])], []) := by
  unfold au
  have h : ([one t].headD nz).k = 1 := rfl
  rw [if_neg (by rw [h]; decide), if_neg (by rw [h]; decide), if_neg (by rw [h]; decide)]
  rfl
theorem btz1 : btz 1 = [0] := by decide
theorem btz2 : btz 2 = [1] := by decide
theorem btz0 : btz 0 = [] := by decide
theorem au_two : au 33 two 0 = (1, 2, [(false, 1, []), (false, 2, [])], [(0, 1, false, vq qz)]) := by
  unfold au
  rw [if_pos (show (two.headD nz).k = 2 by decide), pts_two]
  unfold ch chf
  simp only [List.foldl_cons, List.foldl_nil, List.length_cons, List.length_nil]
  have h1 : cst (au 32) 0 (two.headD nz).y (vq (two.headD nz).g) 2 cs0 [one 1] = ⟨1, 0, 1, 1, [(false, 1, [])], [], 1⟩ := by
    unfold cst cs0
    rw [show (0 : Nat) + ([] : List VQ).length = 0 from rfl, au_one 31]
    simp [jn, jnO, btz0]
  rw [h1]
  have h2 : cst (au 32) 0 (two.headD nz).y (vq (two.headD nz).g) 2 ⟨1, 0, 1, 1, [(false, 1, [])], [], 1⟩ [one 2] = ⟨1, 2, 2, 2, [(false, 1, []), (false, 2, [])], [(0, 1, false, vq qz)], 2⟩ := by
    unfold cst
    rw [show (0 : Nat) + ([(false, (1 : Int), [])] : List VQ).length = 1 from rfl, au_one 31]
    simp [jn, jnO, jnI, btz1, btz2]
  rw [h2]
theorem two_any (w : World) : Calls Tryz.prog 42 #[.int .u8 1, .int .u8 2] w fun e w' => (∃ g, e = .returned (ptv (some ⟨g, 0, none⟩) 3 3 10) ∧ Nds w' (some ⟨g, 0, none⟩) two) ∧ Below w.heap.size w w' := by
  go_enter Tryz.func42, Tryz.ntmps42
  go_wp2_with fail
  refine bodyPost_ret (v := ptv (some ⟨w.heap.size + 1, 0, none⟩) 3 3 10) (by simp [results, Tryz.results42, go_sem, *]) rfl ⟨⟨_, rfl, fun i hi => ⟨_, _, rfl, ?_⟩⟩, below_go (below_alloc w _) (below_alloc _ _)⟩
  have : i = 0 ∨ i = 1 ∨ i = 2 := by simp [two] at hi; omega
  rcases this with rfl | rfl | rfl <;> (refine ⟨?_, ?_, ?_, ?_, ?_, ?_, ?_, ?_, ?_, ?_, ?_⟩ <;> simp [go_sem])
theorem mp_two10 : mp two 10 = 0 := mp_two0
set_option maxHeartbeats 2000000 in
theorem afixed_any (w : World) (hT : Tab w) (hT5 : Tab5 w) : Calls Tryz.prog 13 #[] w fun e w' => e = .returned (.bool true) ∧ Below w.heap.size w w' := by
  have C0 := Lib.hid (two_any w)
  have C1 := Lib.hid (fun A W (hW : Below w.heap.size w W) (hN : Nds W A two) => comp_yes A 3 3 two 10 W (pln_two.pt rfl (by omega) (by omega) hN) (hT.below hW) (hT5.below hW) mp_two10)
  rw [au_two] at C1
  clear hT hT5
  go_enter Tryz.func13, Tryz.ntmps13
  go_wp2_with fail
  refine C0.out.mono ?_
  rintro e w2 ⟨⟨g, rfl, hN⟩, hb⟩
  have B2 := Lib.hid hb
  have K1 := Lib.hid (C1.out (some ⟨g, 0, none⟩) w2 hb hN)
  clear hb hN C0 C1
  go_wp2_with fail
  refine K1.out.mono ?_
  rintro e w3 (⟨h0, _⟩ | ⟨_, r, Ap, kp, cp, Ae, ke, ce, Ps, Es, rfl, hMi, hPs, hEs, _, _, hb⟩)
  · simp at h0
  have hk : kp = 2 := by rw [← hMi.lp]; have := congrArg List.length hPs; simpa using this
  have hel : Es.length = 1 := by have := hEs.length_eq; simpa using this
  have hke : ke = 1 := by rw [← hMi.le]; exact hel
  obtain ⟨d, rfl⟩ := List.length_eq_one_iff.1 hel
  have hd : d.f = 0 ∧ d.t = 1 := by
    have : ve d ∈ [((0, 1, false, vq qz) : EV)] := hEs.mem_iff.1 (by simp)
    simp only [List.mem_singleton, ve, Prod.mk.injEq] at this
    exact ⟨this.1, this.2.1⟩
  subst hk hke
  have B3 := Lib.hid (below_go (below_go B2.out hb) (below_alloc w3 (.cells #[.slice Ap 2 cp, .int .u32 1, .int .u32 2, .slice Ae 1 ce] 36)))
  obtain ⟨g2, e2, c0, c1⟩ : ∃ g2, Ae = some ⟨g2, 0, none⟩ ∧ w3.cell? ⟨g2, 0, none⟩ = some (.int .u8 0) ∧ w3.cell? ⟨g2, 1, none⟩ = some (.int .u8 1) := by
    have hre := hMi.re
    rcases hre.2 with ⟨e, h0⟩ | ⟨g2, cap, cur, e, _⟩
    · simp at h0
    · injection e with e1 _ _
      refine ⟨g2, e1, ?_, ?_⟩
      · have := World.ownsRow.cells hre (g := g2) (by rw [e1]; rfl) 0 (.int .u8 (d.f : Int)) rfl
        rw [add_plain, hd.1] at this
        exact this
      · have := World.ownsRow.cells hre (g := g2) (by rw [e1]; rfl) 1 (.int .u8 (d.t : Int)) rfl
        rw [add_plain, hd.2] at this
        exact this
  subst e2
  have z2 : g2 < w3.heap.size := World.block_lt_of_cell? _ _ c0
  clear hMi hPs hEs hb K1 B2 hel hd
  go_wp2_with fail
  go_ret
  exact ⟨rfl, B3.out⟩
end Go.Proofs.YtpnllbojifnopaaGreatDoor
