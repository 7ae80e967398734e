/- The contract of the document's PutInt. -/
import Derived.Test.YtjpdnojkgadklaaLbRPut
namespace Go.Proofs.Ytjpdnojkgadklaa
open Go Go.RowKit Pk
set_option maxRecDepth 20000

set_option maxHeartbeats 400000 in
theorem rputInt_any (a : Option Addr) (len cap : Nat) (l : List Int) (n : Int) (w : World) (hl : l.length = len) (hm : len ≤ 90000) (hcap : a = none → cap = 0) (h0 : -9223372036854775808 ≤ n) (h1 : n ≤ 9223372036854775807) (hb : Byt w a l) :
    Calls Try.prog 50 #[.slice a len cap, .int .i64 n] w fun e w' => ∃ A' k' c', e = .returned (.slice A' k' c') ∧ (l ++ wrt (zig n)).length = k' ∧ Own w' w.heap.size (.slice A' k' c') (l ++ wrt (zig n)) ∧ Below w.heap.size w w' := by
  have P := Lib.hid (rput_any a len cap l (zig n) w hl hm hcap (zig_lt n h0 h1) hb)
  clear hl hb
  by_cases c : n < 0
  · obtain ⟨m, hm2⟩ : ∃ m : Nat, -(n + 1) = (m : Int) := ⟨(-(n + 1)).toNat, by omega⟩
    rw [show zig n = 2 * m + 1 by unfold zig; rw [if_pos c]; omega] at P ⊢
    have e3 : IntKind.u64.wrap (-(n + 1)) = (m : Int) := by rw [hm2, IntKind.wrap_u64]; omega
    have hm3 : m < 9223372036854775808 := by omega
    rw [Int.natCast_add, Int.natCast_mul] at P
    go_enter Try.func50, Try.ntmps50
    go_wp2_with fail
    refine P.out.mono ?_
    rintro e w2 ⟨A', k', c', rfl, hk, ho2, hb2⟩
    have O2 := Lib.hid ho2
    have B2 := Lib.hid hb2
    have K2 := Lib.hid hk
    clear hk ho2 hb2
    go_wp2
    go_ret
    exact ⟨A', k', c', rfl, K2.out, O2.out, B2.out⟩
  · obtain ⟨m, rfl⟩ : ∃ m : Nat, n = (m : Int) := ⟨n.toNat, by omega⟩
    rw [show zig (m : Int) = 2 * m by unfold zig; rw [if_neg c]; omega] at P ⊢
    rw [Int.natCast_mul] at P
    go_enter Try.func50, Try.ntmps50
    go_wp2_with fail
    refine P.out.mono ?_
    rintro e w2 ⟨A', k', c', rfl, hk, ho2, hb2⟩
    have O2 := Lib.hid ho2
    have B2 := Lib.hid hb2
    have K2 := Lib.hid hk
    clear hk ho2 hb2
    go_wp2
    go_ret
    exact ⟨A', k', c', rfl, K2.out, O2.out, B2.out⟩
end Go.Proofs.Ytjpdnojkgadklaa
