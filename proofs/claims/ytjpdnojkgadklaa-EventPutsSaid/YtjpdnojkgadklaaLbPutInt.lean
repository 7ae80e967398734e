/- The contract of pack.PutInt. -/
import Derived.Test.YtjpdnojkgadklaaLbPut
namespace Go.Proofs.Ytjpdnojkgadklaa
open Go Go.RowKit Pk
set_option maxRecDepth 20000

theorem or_dbl (m : Nat) (h : m < 9223372036854775808) : bits .or .u64 ((m : Int) * 2) 1 = ((2 * m + 1 : Nat) : Int) := by
  have e := or64 (2 * m) 1 (by omega) (by omega)
  have o := or_one (2 * m)
  rw [show ((m : Int) * 2) = ((2 * m : Nat) : Int) by omega]
  exact e.trans (by omega)

set_option maxHeartbeats 400000 in
theorem putInt_any (a : Option Addr) (len cap : Nat) (l : List Int) (n : Int) (w : World) (hl : l.length = len) (hm : len ≤ 90000) (h0 : -9223372036854775808 ≤ n) (h1 : n ≤ 9223372036854775807) (hb : Byt w a l) :
    Calls Try.prog 47 #[.slice a len cap, .int .i64 n] w fun e w' => ∃ A' k' c', e = .returned (.slice A' k' c') ∧ (l ++ wrt (zig n)).length = k' ∧ Own w' w.heap.size (.slice A' k' c') (l ++ wrt (zig n)) ∧ Below w.heap.size w w' := by
  have P := Lib.hid (put_any a len cap l (zig n) w hl hm (zig_lt n h0 h1) hb)
  clear hl hb
  by_cases c : n < 0
  · obtain ⟨m, hm2⟩ : ∃ m : Nat, -n - 1 = (m : Int) := ⟨(-n - 1).toNat, by omega⟩
    have e1 := (not_i64 n h0 h1).trans hm2
    have e2 := or_dbl m (by omega)
    rw [show zig n = 2 * m + 1 by unfold zig; rw [if_pos c]; omega] at P ⊢
    generalize 2 * m + 1 = z at P e2
    have e3 : IntKind.u64.wrap (m : Int) = (m : Int) := by rw [IntKind.wrap_u64]; omega
    have e4 : IntKind.u64.wrap ((m : Int) * 2) = (m : Int) * 2 := by rw [IntKind.wrap_u64]; omega
    clear hm2
    go_enter Try.func47, Try.ntmps47
    go_wp2_with fail
    refine P.out.mono ?_
    rintro e w2 ⟨A', k', c', rfl, hk, ho2, hb2⟩
    have O2 := Lib.hid ho2
    have B2 := Lib.hid hb2
    have K2 := Lib.hid hk
    clear hk ho2 hb2
    go_wp2
    go_ret
    exact ⟨A', k', c', rfl, K2.out, O2.out, B2.out⟩
  · obtain ⟨m, rfl⟩ : ∃ m : Nat, n = (m : Int) := ⟨n.toNat, by omega⟩
    rw [show zig (m : Int) = m * 2 by unfold zig; rw [if_neg c]; omega] at P ⊢
    rw [Int.natCast_mul] at P
    go_enter Try.func47, Try.ntmps47
    go_wp2_with fail
    refine P.out.mono ?_
    rintro e w2 ⟨A', k', c', rfl, hk, ho2, hb2⟩
    have O2 := Lib.hid ho2
    have B2 := Lib.hid hb2
    have K2 := Lib.hid hk
    clear hk ho2 hb2
    go_wp2
    go_ret
    exact ⟨A', k', c', rfl, K2.out, O2.out, B2.out⟩
end Go.Proofs.Ytjpdnojkgadklaa
