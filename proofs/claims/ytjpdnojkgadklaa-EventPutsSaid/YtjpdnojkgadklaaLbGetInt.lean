/- The contract of pack.GetInt. -/
import Derived.Test.YtjpdnojkgadklaaLbGet
namespace Go.Proofs.Ytjpdnojkgadklaa
open Go Go.RowKit Pk
set_option maxRecDepth 20000

set_option maxHeartbeats 400000 in
theorem getInt_any (a : Option Addr) (len cap : Nat) (l : List Int) (p : Int) (w : World) (hl : l.length = len) (hm : len ≤ 100000) (hc : len ≤ cap) (hb : Byt w a l) :
    Calls Try.prog 55 #[.slice a len cap, .int .i64 p] w fun e w' => e = .returned (.tuple #[.int .i64 (sg (gN l p)), .int .i64 (gK l p), .int .i64 (gE l p : Int)]) ∧ w = w' := by
  have G := Lib.hid (get_any a len cap l p w hl hm hc hb)
  have lt := g_lt l p hb.2
  by_cases c : gE l p = 0
  · rw [c] at G ⊢
    generalize gN l p = n at G lt
    generalize gK l p = k at G
    clear hl hb hc hm
    have an := and64_one n lt
    by_cases c2 : n % 2 = 1
    · have E := Lib.hid (show sg n = -((n / 2 : Nat) : Int) - 1 by unfold sg; rw [if_pos c2])
      rw [c2] at an
      obtain ⟨m, hm⟩ : ∃ m : Nat, m = n / 2 := ⟨_, rfl⟩
      have e1 : (n : Int) / 2 = (m : Int) := by omega
      have nt := not_i64 (m : Int) (by omega) (by omega)
      have hm3 : m < 9223372036854775808 := by omega
      rw [← hm] at E
      rw [E.out]
      clear hm c2
      go_enter Try.func55, Try.ntmps55
      go_wp2_with fail
      refine G.out.mono ?_
      rintro e w' ⟨rfl, rfl⟩
      go_wp2
      go_ret3
      exact ⟨rfl, rfl⟩
    · have E := Lib.hid (show sg n = ((n / 2 : Nat) : Int) by unfold sg; rw [if_neg c2])
      rw [show n % 2 = 0 by omega] at an
      obtain ⟨m, hm⟩ : ∃ m : Nat, m = n / 2 := ⟨_, rfl⟩
      have e1 : (n : Int) / 2 = (m : Int) := by omega
      have hm3 : m < 9223372036854775808 := by omega
      rw [← hm] at E
      rw [E.out]
      clear hm c2
      go_enter Try.func55, Try.ntmps55
      go_wp2_with fail
      refine G.out.mono ?_
      rintro e w' ⟨rfl, rfl⟩
      go_wp2
      go_ret3
      exact ⟨rfl, rfl⟩
  · obtain ⟨z1, z2⟩ := g_err l p c
    rw [z1, z2] at G ⊢
    rw [show sg 0 = 0 from rfl]
    generalize gE l p = z at G c
    have hz : ((z : Int) != 0) = true := by simp; omega
    clear hl hb hc hm c z1 z2 lt
    go_enter Try.func55, Try.ntmps55
    go_wp2_with fail
    refine G.out.mono ?_
    rintro e w' ⟨rfl, rfl⟩
    go_wp2
    go_ret3
    exact ⟨rfl, rfl⟩
end Go.Proofs.Ytjpdnojkgadklaa
