/- A nil engine. -/
import Derived.Test.YtpnllbojifnopaaGreatDoorZRnJ
import Derived.Test.YtpnllbojifnopaaGreatDoorMS
namespace Go.Proofs.YtpnllbojifnopaaGreatDoor
open Go Go.RowKit Go.Maps Pk Rl
set_option maxRecDepth 20000
abbrev zst : Value := .agg #[.int .u64 0, .int .u64 0, .bool false, .int .u64 0, .slice none 0 0]
abbrev zsto : Obj := .cells #[.int .u64 0, .int .u64 0, .bool false, .int .u64 0, .slice none 0 0] 91
set_option maxHeartbeats 2000000 in
theorem horizon_nil (w : World) : Calls Tryz.prog 36 #[.pointer none] w fun en w' => en = .returned (.int .u64 0) ∧ Below w.heap.size w w' := by
  have NC := Lib.hid (next_nil w)
  go_enter Tryz.func36, Tryz.ntmps36
  go_wp2_with (go_at_call 31; refine NC.out.mono ?_; rintro e w2 ⟨rfl, hb⟩; have HB := Lib.hid hb; clear hb)
  go_ret
  exact ⟨rfl, HB.out⟩
set_option maxHeartbeats 2000000 in
theorem state_nil (w : World) : Calls Tryz.prog 35 #[.pointer none] w fun en w' => en = .returned zst ∧ Below w.heap.size w w' := by
  have HB := Lib.hid (below_alloc w zsto)
  go_enter Tryz.func35, Tryz.ntmps35
  go_wp2_with fail
  refine bodyPost_ret (v := zst) ?_ rfl ⟨rfl, HB.out⟩
  simp [results, Tryz.results35, go_sem, *]
set_option maxHeartbeats 4000000 in
theorem rsame15_nil (w : World) : Calls Tryz.prog 34 #[zst, zst] w fun en w' => en = .returned (.bool true) ∧ Below w.heap.size w w' := by
  have HB := Lib.hid (below_go (below_alloc w zsto) (below_alloc _ zsto))
  go_enter Tryz.func34, Tryz.ntmps34
  go_wp2_with fail
  go_loopw [44] (fun v W => v = .int .i64 0 ∧ Hid (Below w.heap.size w W)) (fun _ _ => 0)
  case atStart => exact ⟨rfl, HB⟩
  case round =>
    obtain ⟨rfl, H⟩ := hrel
    go_wp2_with fail
    go_ret
    exact ⟨rfl, H.out⟩
set_option maxHeartbeats 8000000 in
theorem rnil_walk (hA : Option Addr) (hN hC : Nat) (H : List Hp) (w : World) (hT : Tab w) (hT5 : Tab5 w) (hH : Hps w hA H) (hHn : H.length = hN) (hHm : hN ≤ maxLen) :
    Calls Tryz.prog 9 #[.slice hA hN hC] w fun e w' => e = .returned (.bool true) ∧ Below w.heap.size w w' := by
  have EA := Lib.hid (events_any hA hN hC H 1 w hH hHn (by omega) hHm)
  have FX := Lib.hid (fun W (hb : Below w.heap.size w W) => rfixed_any W (hT.below hb) (fun j hj => (hb.cell (World.block_lt_of_cell? _ _ (hT5 j hj))).trans (hT5 j hj)))
  clear hT hT5 hH hHn hHm
  go_enter Tryz.func9, Tryz.ntmps9
  go_wp2_with fail
  refine EA.out.mono ?_
  rintro e w3 ⟨⟨rA, rc, R, rfl, hR1, hRo⟩, hb⟩
  obtain ⟨A1, c1, e1, hA1, hc1, hLr⟩ := hRo.form
  injection e1 with e2 e3 e4
  subst e2 e4
  have SZ : Szs R := fun x hx => (hRo.ev x hx).sz
  have B3 := Lib.hid hb
  have G2 := Lib.hid (lgreat_any rA R.length rc R w3 hLr SZ rfl (by omega))
  have LR := Lib.hid hLr
  clear hRo hLr e3 hb EA hc1 hA1 SZ
  obtain ⟨bg, hbg⟩ : ∃ b, lgr R = b := ⟨_, rfl⟩
  rw [hbg] at G2
  clear hbg
  go_wp2_with fail
  refine G2.out.mono ?_
  rintro e w4 ⟨rfl, hb⟩
  have B4 := Lib.hid (below_go B3.out hb)
  have LR4 : Hid (Lr w4 rA R) := Lib.hid (LR.out.ck (Ck.of_below hb))
  have F4 := Lib.hid (FX.out w4 B4.out)
  clear G2 hb B3 LR
  have hlen : R.length = 0 ∨ R.length = 1 := by omega
  cases bg
  · rcases hlen with h0 | h1
    · rw [h0]
      go_wp2_with fail
      refine F4.out.mono ?_
      rintro e w5 ⟨rfl, hb⟩
      have B5 := Lib.hid (below_go B4.out hb)
      clear hb F4
      go_wp2_with fail
      go_ret
      exact ⟨rfl, B5.out⟩
    · obtain ⟨b, off, rfl, k0, k1, k2, k3, k4⟩ := LR4.out.row 0 (by omega)
      obtain ⟨x, hx⟩ : ∃ x, R.getD 0 lz = x := ⟨_, rfl⟩
      rw [hx] at k0 k1 k2 k3 k4
      simp only [Nat.zero_mul, Nat.add_zero] at k0 k1 k2 k3 k4
      have FN := Lib.hid (feed_nil x w4)
      rw [h1]
      clear hx LR4 F4
      go_wp2_with fail
      refine FN.out.mono ?_
      rintro e w5 ⟨rfl, hb⟩
      have B5 := Lib.hid (below_go B4.out hb)
      have FA := Lib.hid (failed_nil w5)
      clear hb FN k0 k1 k2 k3 k4 B4
      go_wp2_with fail
      refine FA.out.mono ?_
      rintro e w6 ⟨rfl, hb⟩
      have B6 := Lib.hid (below_go B5.out hb)
      have F6 := Lib.hid (FX.out w6 B6.out)
      clear hb FA B5 FX
      go_wp2_with fail
      refine F6.out.mono ?_
      rintro e w7 ⟨rfl, hb⟩
      have B7 := Lib.hid (below_go B6.out hb)
      have N7 := Lib.hid (next_nil w7)
      clear hb F6 B6
      go_wp2_with fail
      refine N7.out.mono ?_
      rintro e w8 ⟨rfl, hb⟩
      have B8 := Lib.hid (below_go B7.out hb)
      have H8 := Lib.hid (horizon_nil w8)
      clear hb N7 B7
      go_wp2_with fail
      refine H8.out.mono ?_
      rintro e w9 ⟨rfl, hb⟩
      have B9 := Lib.hid (below_go B8.out hb)
      have S9 := Lib.hid (state_nil w9)
      clear hb H8 B8
      go_wp2_with fail
      refine S9.out.mono ?_
      rintro e w10 ⟨rfl, hb⟩
      have B10 := Lib.hid (below_go B9.out hb)
      have S10 := Lib.hid (rsame15_nil w10)
      clear hb S9 B9
      go_wp2_with fail
      refine S10.out.mono ?_
      rintro e w11 ⟨rfl, hb⟩
      have B11 := Lib.hid (below_go B10.out hb)
      clear hb S10 B10
      go_wp2_with fail
      go_ret
      exact ⟨rfl, B11.out⟩
  · go_wp2_with fail
    refine F4.out.mono ?_
    rintro e w5 ⟨rfl, hb⟩
    have B5 := Lib.hid (below_go B4.out hb)
    clear hb F4
    go_wp2_with fail
    go_ret
    exact ⟨rfl, B5.out⟩
end Go.Proofs.YtpnllbojifnopaaGreatDoor
