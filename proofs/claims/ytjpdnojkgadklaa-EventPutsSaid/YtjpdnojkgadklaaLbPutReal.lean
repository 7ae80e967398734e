/- The contract of pack.PutReal. -/
import Derived.Test.YtjpdnojkgadklaaLbPut
import Derived.Test.YtjpdnojkgadklaaLbReal
namespace Go.Proofs.Ytjpdnojkgadklaa
open Go Go.RowKit Pk Rl
set_option maxRecDepth 20000


theorem w8_get (n k : Nat) (hk : k < 8) : ∃ x : Nat, (n : Int) / 2 ^ (8 * (7 - k)) % 256 = (x : Int) ∧ (w8 n).take (k + 1) = (w8 n).take k ++ [(x : Int)] ∧ x < 256 := by
  have e : k = 0 ∨ k = 1 ∨ k = 2 ∨ k = 3 ∨ k = 4 ∨ k = 5 ∨ k = 6 ∨ k = 7 := by omega
  rcases e with rfl | rfl | rfl | rfl | rfl | rfl | rfl | rfl
  · exact ⟨n / 72057594037927936 % 256, by rw [show (2 : Int) ^ (8 * (7 - 0)) = 72057594037927936 by simp]; omega, rfl, by omega⟩
  · exact ⟨n / 281474976710656 % 256, by rw [show (2 : Int) ^ (8 * (7 - 1)) = 281474976710656 by simp]; omega, rfl, by omega⟩
  · exact ⟨n / 1099511627776 % 256, by rw [show (2 : Int) ^ (8 * (7 - 2)) = 1099511627776 by simp]; omega, rfl, by omega⟩
  · exact ⟨n / 4294967296 % 256, by rw [show (2 : Int) ^ (8 * (7 - 3)) = 4294967296 by simp]; omega, rfl, by omega⟩
  · exact ⟨n / 16777216 % 256, by rw [show (2 : Int) ^ (8 * (7 - 4)) = 16777216 by simp]; omega, rfl, by omega⟩
  · exact ⟨n / 65536 % 256, by rw [show (2 : Int) ^ (8 * (7 - 5)) = 65536 by simp]; omega, rfl, by omega⟩
  · exact ⟨n / 256 % 256, by rw [show (2 : Int) ^ (8 * (7 - 6)) = 256 by simp]; omega, rfl, by omega⟩
  · exact ⟨n % 256, by rw [show (2 : Int) ^ (8 * (7 - 7)) = 1 by simp]; omega, rfl, by omega⟩

set_option maxHeartbeats 400000 in
theorem putReal_any (a : Option Addr) (len cap : Nat) (l : List Int) (b : Nat) (w : World) (hl : l.length = len) (hm : len ≤ 90000) (h : b < 18446744073709551616) (hb : Byt w a l) :
    Calls Try.prog 48 #[.slice a len cap, .float .f64 b] w fun e w' => ∃ A' k' c', e = .returned (.slice A' k' c') ∧ (l ++ w8 (bt b)).length = k' ∧ Own w' w.heap.size (.slice A' k' c') (l ++ w8 (bt b)) ∧ Below w.heap.size w w' := by
  have R := Lib.hid (room_any a len cap l 8 w hl (by omega) (by omega) hb)
  have S := Lib.hid (fun w => bits_any b h w)
  have hn := bt_lt b h
  have HL := Lib.hid hl
  have HR := Lib.hid hb.2
  clear hl hb
  generalize bt b = n at S hn
  go_enter Try.func48, Try.ntmps48
  go_wp2_with fail
  refine R.out.mono ?_
  rintro e w1 ⟨rfl, ho, hb⟩
  have O1 := Lib.hid ho
  have B1 := Lib.hid hb
  clear ho hb
  go_wp2_with fail
  refine (S.out _).mono ?_
  rintro e w' ⟨rfl, rfl⟩
  go_wp2_with fail
  go_loopw [5, 12] (fun v i W => ∃ (k : Nat) (A' : Option Addr) (c' : Nat), k ≤ 8 ∧ i = .int .i64 k ∧ v = .slice A' (len + k) c' ∧ Hid (Own W w.heap.size (.slice A' (len + k) c') (l ++ (w8 n).take k) ∧ Below w.heap.size w W)) (fun _ i _ => 8 - (intOf i).toNat)
  case atStart => exact ⟨0, _, _, by omega, rfl, rfl, Lib.hid ⟨by simpa using O1.out, B1.out⟩⟩
  case round =>
    obtain ⟨k, A', c', hk, rfl, rfl, H⟩ := hrel
    obtain ⟨ho, hb⟩ := H.out
    by_cases c1 : k < 8
    · obtain ⟨x, hx, et, x1⟩ := w8_get n k c1
      have hd : decide ((k : Int) < 8) = true := by simp; omega
      have HX := Lib.hid (show 0 ≤ (x : Int) ∧ (x : Int) < 256 by omega)
      have ET := Lib.hid (show l ++ (w8 n).take (k + 1) = l ++ (w8 n).take k ++ [(x : Int)] by rw [et, List.append_assoc])
      have HK := Lib.hid (show (l ++ (w8 n).take k ++ [(x : Int)]).length = len + k + 1 by rw [← ET.out, List.length_append, HL.out, List.length_take, show (w8 n).length = 8 from rfl]; omega)
      have HRR := Lib.hid (range_app HR.out (fun c hc => w8_range n c (List.mem_of_mem_take hc) : ∀ c ∈ (w8 n).take k, 0 ≤ c ∧ c < 256))
      have B2 := Lib.hid ((Below.refl wr.heap.size wr).alloc (Nat.le_refl _) (.cells #[.int .u8 (x : Int)] 5))
      have HO := Lib.hid (ho.below B2.out)
      have HB := Lib.hid hb
      have HZ := Lib.hid hb.size
      clear et x1 H ho hb
      go_wp2_with (at_builtin; refine wp_app (.tmp 15) (.tmp 22) _ rfl rfl w.heap.size _ (l ++ (w8 n).take k) rfl HO.out _ 1 1 [(x : Int)] rfl rfl (Byt.one wr x HX.out) (by intro h; cases h) HRR.out (len + k + 1) HK.out (by omega) (by have := HZ.out; have := B2.out.size; omega) ?_; intro A2 c2 w2 hO2 _ hb2; have O2 := Lib.hid hO2; have B3 := Lib.hid ((HB.out.trans (B2.out.mono (by have := HZ.out; omega))).trans hb2); clear hO2 hb2)
      go_roundw
      case rel => exact ⟨k + 1, A2, c2, by omega, by go_num, rfl, Lib.hid ⟨by rw [ET.out]; exact O2.out, B3.out⟩⟩
      case measure => simp [intOf]; omega
    · have hd : decide ((k : Int) < 8) = false := by simp; omega
      obtain rfl : k = 8 := by omega
      have O2 := Lib.hid ho
      have B2 := Lib.hid hb
      clear H ho hb
      go_wp2
      go_ret
      exact ⟨A', _, c', rfl, by rw [List.length_append, HL.out]; rfl, O2.out, B2.out⟩
end Go.Proofs.Ytjpdnojkgadklaa
