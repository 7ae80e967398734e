/- The contracts of real.Bits and real.From; a number by its bits. -/
import Derived.Test.YtnjndlbhnkhlhaaDoorLbFloat
import Derived.Test.YtnjndlbhnkhlhaaDoorLbBits
namespace Go.Proofs.YtnjndlbhnkhlhaaDoor
open Go Go.RowKit Rl
set_option maxRecDepth 20000

/- ### what the calls answer, as plain functions of the bits -/
def bt (b : Nat) : Nat := if nan b then 9221120237041090560 else b
theorem bt_lt (b : Nat) (h : b < 18446744073709551616) : bt b < 18446744073709551616 := by unfold bt; split <;> omega
theorem ne_nan (b : Nat) (h : b < 18446744073709551616) (n : nan b = true) : (FloatKind.f64.format.order b b != some .eq) = true := by
  rw [show FloatKind.f64.format.order b b = none from order_nan_l b b h n]; rfl
theorem ne_num (b : Nat) (h : b < 18446744073709551616) (n : nan b = false) : (FloatKind.f64.format.order b b != some .eq) = false := by
  rw [show FloatKind.f64.format.order b b = _ from order_eq b b h h n n]; simp
theorem run13 (b : Nat) (w : World) : (callFunc 56 #[.float .f64 b]).run Tryd.prog w = .ok (.value (.int .u64 b)) w := by
  rw [run_callFunc_extern Tryd.func56 (by kernel_rfl) (by kernel_rfl) (by kernel_rfl) (e := Extern.MathFloatBits.float64bits) (by kernel_rfl)]; rfl
theorem run15 (b : Nat) (w : World) : (callFunc 46 #[.int .u64 (b : Int)]).run Tryd.prog w = .ok (.value (.float .f64 b)) w := by
  rw [run_callFunc_extern Tryd.func46 (by kernel_rfl) (by kernel_rfl) (by kernel_rfl) (e := Extern.MathFloatBits.float64frombits) (by kernel_rfl)]; rfl
theorem notOne_any (b : Nat) (h : b < 18446744073709551616) (v : Bool) (hv : nan b = v) (w : World) :
    Calls Tryd.prog 64 #[.float .f64 b] w fun e w' => e = .returned (.bool v) ∧ w = w' := by
  cases v
  · have hn := ne_num b h hv
    clear hv
    go_enter Tryd.func64, Tryd.ntmps64
    go_wp2
    go_ret
    exact ⟨rfl, rfl⟩
  · have hn := ne_nan b h hv
    clear hv
    go_enter Tryd.func64, Tryd.ntmps64
    go_wp2
    go_ret
    exact ⟨rfl, rfl⟩

theorem bits_any (b : Nat) (h : b < 18446744073709551616) (w : World) :
    Calls Tryd.prog 60 #[.float .f64 b] w fun e w' => e = .returned (.int .u64 (bt b : Int)) ∧ w = w' := by
  cases hv : nan b
  · have H := Lib.hid (notOne_any b h false hv w)
    have E := Lib.hid (show bt b = b by unfold bt; rw [hv]; simp)
    clear hv
    rw [E.out]
    have r13 := run13 b
    go_enter Tryd.func60, Tryd.ntmps60
    go_wp2_with fail
    refine H.out.mono ?_
    rintro e w' ⟨rfl, rfl⟩
    go_wp2
    go_ret
    exact ⟨rfl, rfl⟩
  · have H := Lib.hid (notOne_any b h true hv w)
    have E := Lib.hid (show bt b = 9221120237041090560 by unfold bt; rw [hv]; simp)
    clear hv
    rw [E.out]
    go_enter Tryd.func60, Tryd.ntmps60
    go_wp2_with fail
    refine H.out.mono ?_
    rintro e w' ⟨rfl, rfl⟩
    go_wp2
    go_ret
    exact ⟨rfl, rfl⟩


theorem bt_bt (b : Nat) : bt (bt b) = bt b := by
  by_cases h : nan b = true
  · rw [show bt b = 9221120237041090560 by unfold bt; rw [if_pos h]]; decide +kernel
  · rw [show bt b = b by unfold bt; rw [if_neg h]]; unfold bt; rw [if_neg h]
end Go.Proofs.YtnjndlbhnkhlhaaDoor
