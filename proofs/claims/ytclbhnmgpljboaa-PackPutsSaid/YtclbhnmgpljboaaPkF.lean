/- The chapter's examples hold. -/
import Derived.Test.YtclbhnmgpljboaaPkQ2
namespace Go.Proofs.Ytclbhnmgpljboaa
open Go Go.RowKit Pk Rl

theorem wrt300 : wrt 300 = [172, 2] := by rw [wrt_hi 300 (by omega), wrt_lo (300 / 128) (by omega)]; rfl
theorem zig1 : wrt (zig (-1)) = [1] := by rw [show zig (-1) = 1 from rfl, wrt_lo 1 (by omega)]; rfl
theorem Byt.nil (w : World) : Byt w none [] := ⟨fun i hi => absurd hi (by simp), by simp⟩
/- what a row of one's own is as a string -/
theorem Own.str {w : World} {B : Nat} {A : Option Addr} {k c : Nat} {l : List Int} (h : Own w B (.slice A k c) l) (hr : ∀ c ∈ l, 0 ≤ c ∧ c < 256) (hk : l.length = k) : (convert 22 9 (.slice A k c)).run Try.prog w = .ok (.string (strOfNums l)) w := by
  obtain ⟨A', c', e, hb⟩ := h.form hr
  injection e with e1 e2 e3
  subst e1
  exact run_str w A k c l hk hb

set_option maxHeartbeats 400000 in
theorem fixed_any (w : World) : Calls Try.prog 7 #[] w fun e w' => e = .returned (.bool true) ∧ Below w.heap.size w w' := by
  have P := Lib.hid (put_any none 0 0 [] 300 w rfl (by omega) (by omega) (Byt.nil w))
  have I := Lib.hid (fun w => putInt_any none 0 0 [] (-1) w rfl (by omega) (by omega) (by omega) (Byt.nil w))
  have S := Lib.hid (fun w => size_any 300 (by omega) w)
  rw [wrt300] at P S
  rw [zig1] at I
  have q1 : ((strOfNums [172, 2]).toList == [172, 2]) = true := by decide +kernel
  have q2 : ((strOfNums [1]).toList == [1]) = true := by decide +kernel
  go_enter Try.func7, Try.ntmps7
  go_wp2_with fail
  refine P.out.mono ?_
  rintro e w1 ⟨A', k', c', rfl, hk, ho, hb⟩
  have s1 := ho.str (by simp) hk
  have B1 := Lib.hid hb
  clear hk ho hb
  go_wp2_with fail
  refine (I.out _).mono ?_
  rintro e w2 ⟨A2, k2, c2, rfl, hk, ho, hb⟩
  have s2 := ho.str (by simp) hk
  have B2 := Lib.hid (B1.out.trans (hb.mono B1.out.size))
  clear hk ho hb
  go_wp2_with fail
  refine (S.out _).mono ?_
  rintro e w' ⟨rfl, rfl⟩
  go_wp2
  go_ret
  exact ⟨rfl, B2.out⟩
end Go.Proofs.Ytclbhnmgpljboaa
