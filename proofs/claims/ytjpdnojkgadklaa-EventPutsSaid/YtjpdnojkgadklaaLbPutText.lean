/- The contract of pack.PutText. -/
import Derived.Test.YtjpdnojkgadklaaLbPut
namespace Go.Proofs.Ytjpdnojkgadklaa
open Go Go.RowKit Pk
set_option maxRecDepth 20000

set_option maxHeartbeats 400000 in
theorem putText_any (a : Option Addr) (len cap : Nat) (l : List Int) (s : ByteArray) (w : World) (hl : l.length = len) (hm : len ≤ 50000) (hs : s.size ≤ 40000) (hb : Byt w a l) :
    Calls Try.prog 49 #[.slice a len cap, .string s] w fun e w' => ∃ A' k' c', e = .returned (.slice A' k' c') ∧ (l ++ wrt s.size ++ txt s).length = k' ∧ Own w' w.heap.size (.slice A' k' c') (l ++ wrt s.size ++ txt s) ∧ Below w.heap.size w w' := by
  have S := Lib.hid (fun w => size_any s.size (by omega) w)
  have R := Lib.hid (room_any a len cap l ((wrt s.size).length + s.size) w hl (by omega) (by have := wrt_ten s.size (by omega); omega) hb)
  have W := Lib.hid (fun A k c xs w' hk hm ho hr hB => write_any A k c w.heap.size xs s.size w' hk hm (by omega) ho hr hB)
  have HL := Lib.hid hl
  have HR := Lib.hid hb.2
  have HQ := Lib.hid (wrt_range s.size)
  have h10 := wrt_ten s.size (by omega)
  rw [Int.natCast_add] at R
  clear hl hb
  generalize wrt s.size = q at S R W HQ h10
  go_enter Try.func49, Try.ntmps49
  go_wp2_with fail
  refine (S.out _).mono ?_
  rintro e w' ⟨rfl, rfl⟩
  go_wp2_with fail
  refine R.out.mono ?_
  rintro e w1 ⟨rfl, ho, hb⟩
  have hz := hb.size
  go_wp2_with fail
  refine (W.out _ _ _ l _ HL.out (by omega) ho HR.out hb.size).mono ?_
  rintro e w2 ⟨A', k', c', rfl, hk, ho2, hb2⟩
  have O2 := Lib.hid ho2
  have B2 := Lib.hid (hb.trans hb2)
  have hk3 : k' + s.size ≤ 100000 := by rw [← hk, List.length_append, HL.out]; omega
  have K3 := Lib.hid (show (l ++ q ++ txt s).length = k' + s.size by rw [List.length_append, hk, txt_length])
  have HX := Lib.hid (range_app HR.out HQ.out)
  clear hk ho hb ho2 hb2
  go_wp2_with (at_builtin; refine wp_appstr (.tmp 17) (.tmp 18) _ rfl rfl w.heap.size _ (l ++ q) rfl O2.out s rfl HX.out (k' + s.size) K3.out (by omega) B2.out.size ?_; intro A2 c2 w3 hO3 _ hb3; have O3 := Lib.hid hO3; have B3 := Lib.hid (B2.out.trans hb3); clear hO3 hb3)
  go_ret
  exact ⟨A2, k' + s.size, c2, rfl, K3.out, O3.out, B3.out⟩
end Go.Proofs.Ytjpdnojkgadklaa
