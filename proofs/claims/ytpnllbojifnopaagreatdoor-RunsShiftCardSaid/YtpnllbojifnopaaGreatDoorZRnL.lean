/- Where an engine is: Failed, Horizon. -/
import Derived.Test.YtpnllbojifnopaaGreatDoorZRnI
import Derived.BigQuiet
namespace Go.Proofs.YtpnllbojifnopaaGreatDoor
open Go Go.RowKit Go.Maps Pk Rl
set_option maxRecDepth 20000
def hzn (e : En) (R : List Ru) : Nat := if R.length = 0 then e.next else (R.getD 0 rz).s
set_option maxHeartbeats 4000000 in
theorem horizon_any (d : Nat) (e : En) (R : List Ru) (w : World) (h : EnB w d e) (hr : Rus w e.Ar R) (hn : R.length = e.nr) : Calls Tryz.prog 36 #[.pointer (some ⟨d, 0, none⟩)] w fun en w' => en = .returned (.int .u64 (hzn e R : Int)) ∧ Below w.heap.size w w' := by
  have NC := Lib.hid (next_any d e w h)
  obtain ⟨_, _, _, _, _, c5, _, _, _, c9, _⟩ := h.cells
  have HB := Lib.hid (Below.refl w.heap.size w)
  by_cases h0 : e.nr = 0
  · have e1 : hzn e R = e.next := by unfold hzn; rw [if_pos (by omega)]
    rw [e1]
    rw [h0] at c9
    clear h hr hn h0 e1
    go_enter Tryz.func36, Tryz.ntmps36
    go_wp2_with fail
    refine NC.out.mono ?_
    rintro en w2 ⟨rfl, hb⟩
    have B2 := Lib.hid hb
    clear hb NC
    go_wp2_with fail
    go_ret
    exact ⟨rfl, B2.out⟩
  · have e1 : hzn e R = (R.getD 0 rz).s := by unfold hzn; rw [if_neg (by omega)]
    obtain ⟨g, o, he, k0, k1, k2⟩ := hr 0 (by omega)
    simp only [Nat.zero_mul, Nat.add_zero] at k0 k1 k2
    rw [e1]
    rw [he] at c9
    have n0 : ((e.nr : Int) == 0) = false := by simp; omega
    have n1 : decide (0 < e.nr) = true := by simp; omega
    have n2 : 0 < e.nr := by omega
    clear h hr hn h0 e1 NC k1 k2
    go_enter Tryz.func36, Tryz.ntmps36
    go_wp2_with fail
    go_ret
    exact ⟨rfl, HB.out⟩
end Go.Proofs.YtpnllbojifnopaaGreatDoor
