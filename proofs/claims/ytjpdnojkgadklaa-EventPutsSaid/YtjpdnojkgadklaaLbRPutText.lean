/- The contract of the document's PutText. -/
import Derived.Test.YtjpdnojkgadklaaLbRPut
namespace Go.Proofs.Ytjpdnojkgadklaa
open Go Go.RowKit Pk
set_option maxRecDepth 20000

set_option maxHeartbeats 400000 in
theorem rputText_any (a : Option Addr) (len cap : Nat) (l : List Int) (s : ByteArray) (w : World) (hl : l.length = len) (hm : len ≤ 50000) (hcap : a = none → cap = 0) (hs : s.size ≤ 40000) (hb : Byt w a l) :
    Calls Try.prog 52 #[.slice a len cap, .string s] w fun e w' => ∃ A' k' c', e = .returned (.slice A' k' c') ∧ (l ++ wrt s.size ++ txt s).length = k' ∧ Own w' w.heap.size (.slice A' k' c') (l ++ wrt s.size ++ txt s) ∧ Below w.heap.size w w' := by
  have P := Lib.hid (rput_any a len cap l s.size w hl (by omega) hcap (by omega) hb)
  have HX := Lib.hid (range_app hb.2 (wrt_range s.size))
  have h10 := wrt_ten s.size (by omega)
  have HL := Lib.hid hl
  clear hl hb hcap
  generalize wrt s.size = q at P HX h10
  go_enter Try.func52, Try.ntmps52
  go_wp2_with fail
  refine P.out.mono ?_
  rintro e w2 ⟨A', k', c', rfl, hk, ho2, hb2⟩
  have O2 := Lib.hid ho2
  have B2 := Lib.hid hb2
  have hk3 : k' + s.size ≤ 100000 := by rw [← hk, List.length_append, HL.out]; omega
  have K3 := Lib.hid (show (l ++ q ++ txt s).length = k' + s.size by rw [List.length_append, hk, txt_length])
  clear hk ho2 hb2
  go_wp2_with (at_builtin; refine wp_appstr (.tmp 11) (.tmp 12) _ rfl rfl w.heap.size _ (l ++ q) rfl O2.out s rfl HX.out (k' + s.size) K3.out (by omega) B2.out.size ?_; intro A2 c2 w3 hO3 _ hb3; have O3 := Lib.hid hO3; have B3 := Lib.hid (B2.out.trans hb3); clear hO3 hb3)
  go_ret
  exact ⟨A2, k' + s.size, c2, rfl, K3.out, O3.out, B3.out⟩
end Go.Proofs.Ytjpdnojkgadklaa
