/- The chapter's example. -/
import Derived.Test.YtmooblbnkjaenaaSnF
namespace Go.Proofs.Ytmooblbnkjaenaa
open Go Go.RowKit Pk
set_option maxRecDepth 20000

set_option maxHeartbeats 4000000 in
theorem sfixed_any (w : World) : Calls Try.prog 6 #[] w fun e w' => e = .returned (.bool true) ∧ Below w.heap.size w w' := by
  have P := Lib.hid (sput_any 0 0 false 0 none 0 0 [] w rfl (by omega) (Rus.nil _ _) (by simp) (by omega) (by omega) (by omega))
  have HW := Lib.hid (show wr 0 0 false 0 [] = true by decide)
  have HS := Lib.hid (show wst 0 0 false 0 [] = [0, 0, 0, 0] by unfold wst; simp [wrt_lo, wrs])
  go_enter Try.func6, Try.ntmps6
  go_wp2_with fail
  refine P.out.mono ?_
  rintro _ w1 ⟨A, k, c, X, rfl, hX, hk, hc, hb, bel⟩
  rw [HW.out, if_pos rfl, HS.out] at hX
  subst hX
  rw [HW.out, if_pos rfl]
  have B1 := Lib.hid bel
  have S1 := Lib.hid (fun W (h : Byt W A [0, 0, 0, 0]) => run_str W A k c [0, 0, 0, 0] hk h)
  have s1 := S1.out w1 hb.out
  have e1 : strOfNums [0, 0, 0, 0] = ⟨#[0, 0, 0, 0]⟩ := by decide
  rw [e1] at s1
  clear bel hb hk hc P HW HS S1
  go_wp2_with fail
  go_ret
  exact ⟨rfl, B1.out⟩
end Go.Proofs.Ytmooblbnkjaenaa
