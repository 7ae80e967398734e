/- The contract of the document's GetInt. -/
import Derived.Test.YtjpdnojkgadklaaLbRGet
namespace Go.Proofs.Ytjpdnojkgadklaa
open Go Go.RowKit Pk
set_option maxRecDepth 20000

set_option maxHeartbeats 400000 in
theorem rgetInt_any (a : Option Addr) (len cap : Nat) (l : List Int) (p : Int) (w : World) (hl : l.length = len) (hm : len ≤ 100000) (hb : Byt w a l) :
    Calls Try.prog 58 #[.slice a len cap, .int .i64 p] w fun e w' => e = .returned (.tuple #[.int .i64 (sg (gN l p)), .int .i64 (gK l p), .int .i64 (gE l p : Int)]) ∧ w = w' := by
  have G := Lib.hid (rget_any a len cap l p w hl hm hb)
  have lt := g_lt l p hb.2
  generalize gN l p = n at G lt
  generalize gK l p = k at G
  generalize gE l p = z at G
  clear hl hb hm
  by_cases c2 : n % 2 = 1
  · have E := Lib.hid (show sg n = -((n / 2 : Nat) : Int) - 1 by unfold sg; rw [if_pos c2])
    have c3 : ((n : Int) % 2 == 0) = false := by simp; omega
    obtain ⟨m, hm⟩ : ∃ m : Nat, m = n / 2 := ⟨_, rfl⟩
    have e1 : (n : Int) / 2 = (m : Int) := by omega
    have hm3 : m < 9223372036854775808 := by omega
    rw [← hm] at E
    rw [E.out]
    clear hm c2
    go_enter Try.func58, Try.ntmps58
    go_wp2_with fail
    refine G.out.mono ?_
    rintro e w' ⟨rfl, rfl⟩
    go_wp2
    go_ret3
    exact ⟨rfl, rfl⟩
  · have E := Lib.hid (show sg n = ((n / 2 : Nat) : Int) by unfold sg; rw [if_neg c2])
    have c3 : ((n : Int) % 2 == 0) = true := by simp; omega
    obtain ⟨m, hm⟩ : ∃ m : Nat, m = n / 2 := ⟨_, rfl⟩
    have e1 : (n : Int) / 2 = (m : Int) := by omega
    have hm3 : m < 9223372036854775808 := by omega
    rw [← hm] at E
    rw [E.out]
    clear hm c2
    go_enter Try.func58, Try.ntmps58
    go_wp2_with fail
    refine G.out.mono ?_
    rintro e w' ⟨rfl, rfl⟩
    go_wp2
    go_ret3
    exact ⟨rfl, rfl⟩
end Go.Proofs.Ytjpdnojkgadklaa
