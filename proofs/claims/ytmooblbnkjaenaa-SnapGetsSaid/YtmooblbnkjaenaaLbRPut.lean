/- The contract of the document's Put. -/
import Derived.Test.YtmooblbnkjaenaaLbOwn
import Derived.Test.YtmooblbnkjaenaaLbBits
import Derived.Test.YtmooblbnkjaenaaLbPackMath
namespace Go.Proofs.Ytmooblbnkjaenaa
open Go Go.RowKit Pk
set_option maxRecDepth 20000


set_option maxHeartbeats 400000 in
theorem rput_any (a : Option Addr) (len cap : Nat) (l : List Int) (n : Nat) (w : World) (hl : l.length = len) (hm : len ≤ 90000) (hcap : a = none → cap = 0) (hn : n < 18446744073709551616) (hb : Byt w a l) :
    Calls Try.prog 17 #[.slice a len cap, .int .u64 (n : Int)] w fun e w' => ∃ A' k' c', e = .returned (.slice A' k' c') ∧ (l ++ wrt n).length = k' ∧ Own w' w.heap.size (.slice A' k' c') (l ++ wrt n) ∧ Below w.heap.size w w' := by
  have h10 := Lib.hid (show (l ++ wrt n).length ≤ 100010 by have := wrt_ten n hn; rw [List.length_append]; omega)
  have HL := Lib.hid hl
  have HN := Lib.hid hcap
  have HY := Lib.hid hb
  have HR := Lib.hid hb.2
  have B1 := Lib.hid ((Below.refl w.heap.size w).alloc (Nat.le_refl _) (.cells #[] 5))
  clear hl hcap hb
  go_enter Try.func17, Try.ntmps17
  go_wp2_with (at_builtin; refine wp_app (.tmp 7) (.tmp 8) _ rfl rfl w.heap.size _ [] rfl (Own.empty w) a len cap l rfl HL.out (HY.out.below B1.out) HN.out (by simp) len (by simpa using HL.out) (by omega) (by simp) ?_; intro A' c' w1 hO1 _ hbel; rw [List.nil_append] at hO1; have O1 := Lib.hid hO1; have B2 := Lib.hid (B1.out.trans hbel); clear hO1 hbel)
  go_loopw [5, 1] (fun v i W => ∃ (m : Nat) (ys : List Int) (A' : Option Addr) (k' c' : Nat), i = .int .u64 m ∧ v = .slice A' k' c' ∧ m < 18446744073709551616 ∧ Hid (ys.length = k' ∧ Own W w.heap.size (.slice A' k' c') ys ∧ Below w.heap.size w W ∧ ys ++ wrt m = l ++ wrt n ∧ (∀ c ∈ ys, 0 ≤ c ∧ c < 256) ∧ k' ≤ 100100)) (fun _ i _ => (intOf i).toNat)
  case atStart => exact ⟨n, l, A', len, c', rfl, rfl, hn, Lib.hid ⟨HL.out, O1.out, B2.out, rfl, HR.out, by omega⟩⟩
  case round =>
    obtain ⟨m, ys, A', k', c', rfl, rfl, hm2, H⟩ := hrel
    obtain ⟨hk, ho, hb, he, hr, hl⟩ := H.out
    have Z1 := Lib.hid (hb.size)
    by_cases c1 : 128 ≤ m
    · have e2 := wrt_hi m c1
      obtain ⟨x, hx⟩ : ∃ x : Nat, x = m % 128 + 128 := ⟨_, rfl⟩
      rw [← hx] at e2
      have e1 : (m : Int) % 128 + 128 = (x : Int) := by omega
      have e3 : (x : Int) % 256 = (x : Int) := by omega
      have HX := Lib.hid (show 0 ≤ (x : Int) ∧ (x : Int) < 256 by omega)
      have HE := Lib.hid (show (ys ++ [(x : Int)]) ++ wrt (m / 128) = l ++ wrt n by rw [← he, e2]; simp)
      have HK := Lib.hid (show (ys ++ [(x : Int)]).length = k' + 1 by rw [List.length_append, hk]; rfl)
      have HM := Lib.hid (show k' + 1 ≤ 100100 by have := congrArg List.length HE.out; rw [List.length_append, HK.out] at this; have := wrt_pos (m / 128); have := h10.out; omega)
      have hd : decide ((128 : Int) ≤ (m : Int)) = true := by simp; omega
      have B2 := Lib.hid ((Below.refl wr.heap.size wr).alloc (Nat.le_refl _) (.cells #[.int .u8 (x : Int)] 5))
      have HO := Lib.hid (ho.below B2.out)
      have HB := Lib.hid hb
      have HR := Lib.hid hr
      clear hk ho hb he hr e2 hx H
      go_wp2_with (at_builtin; refine wp_app (.tmp 12) (.tmp 17) _ rfl rfl w.heap.size _ ys rfl HO.out _ 1 1 [(x : Int)] rfl rfl (Byt.one wr x HX.out) (by intro h; cases h) HR.out (k' + 1) HK.out (by have := HM.out; omega) (by have := Z1.out; have := B2.out.size; omega) ?_; intro A2 c2 w2 hO2 _ hb2; have O2 := Lib.hid hO2; have B3 := Lib.hid ((HB.out.trans (B2.out.mono (by have := Z1.out; omega))).trans hb2); clear hO2 hb2)
      go_roundw
      case rel => exact ⟨m / 128, _, A2, k' + 1, c2, by go_num, rfl, by omega, Lib.hid ⟨HK.out, O2.out, B3.out, HE.out, range_snoc HR.out HX.out, HM.out⟩⟩
      case measure => simp [intOf]; omega
    · have e2 := wrt_lo m (by omega)
      have HX := Lib.hid (show 0 ≤ (m : Int) ∧ (m : Int) < 256 by omega)
      have e1 : (m : Int) % 256 = (m : Int) := by omega
      have HE := Lib.hid (show (ys ++ [(m : Int)]) = l ++ wrt n by rw [← he, e2])
      have HK := Lib.hid (show (ys ++ [(m : Int)]).length = k' + 1 by rw [List.length_append, hk]; rfl)
      have hd : decide ((128 : Int) ≤ (m : Int)) = false := by simp; omega
      have B2 := Lib.hid ((Below.refl wr.heap.size wr).alloc (Nat.le_refl _) (.cells #[.int .u8 (m : Int)] 5))
      have HO := Lib.hid (ho.below B2.out)
      have HB := Lib.hid hb
      have HR := Lib.hid hr
      clear hk ho hb he hr e2 H
      go_wp2_with (at_builtin; refine wp_app (.tmp 21) (.tmp 24) _ rfl rfl w.heap.size _ ys rfl HO.out _ 1 1 [(m : Int)] rfl rfl (Byt.one wr m HX.out) (by intro h; cases h) HR.out (k' + 1) HK.out (by omega) (by have := Z1.out; have := B2.out.size; omega) ?_; intro A2 c2 w2 hO2 _ hb2; have O2 := Lib.hid hO2; have B3 := Lib.hid ((HB.out.trans (B2.out.mono (by have := Z1.out; omega))).trans hb2); clear hO2 hb2)
      go_ret
      exact ⟨A2, k' + 1, c2, rfl, by rw [← HE.out]; exact HK.out, by rw [← HE.out]; exact O2.out, B3.out⟩
end Go.Proofs.Ytmooblbnkjaenaa
