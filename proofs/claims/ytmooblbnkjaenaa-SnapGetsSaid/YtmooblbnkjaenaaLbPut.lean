/- The contracts of pack.Size and pack.Put, and of what they call. -/
import Derived.Test.YtmooblbnkjaenaaLbOwn
import Derived.Test.YtmooblbnkjaenaaLbBits
import Derived.Test.YtmooblbnkjaenaaLbPackMath
import Derived.Test.YtmooblbnkjaenaaLbLen
namespace Go.Proofs.Ytmooblbnkjaenaa
open Go Go.RowKit Pk
set_option maxRecDepth 20000

set_option maxHeartbeats 400000 in
theorem room_any (a : Option Addr) (len cap : Nat) (l : List Int) (n : Nat) (w : World) (hl : l.length = len) (hm : len ≤ 100000) (hn : n ≤ 100000) (hb : Byt w a l) :
    Calls Try.prog 24 #[.slice a len cap, .int .i64 (n : Int)] w fun e w' => e = .returned (.slice (some ⟨w.heap.size, 0, none⟩) len (len + n)) ∧ Own w' w.heap.size (.slice (some ⟨w.heap.size, 0, none⟩) len (len + n)) l ∧ Below w.heap.size w w' := by
  have HL := Lib.hid hl
  have HB := Lib.hid hb
  have B0 := Lib.hid ((Below.refl w.heap.size w).alloc (Nat.le_refl _) (.cells (madeCells #[.int .u8 0] (len + n)) 5))
  clear hl hb
  go_enter Try.func24, Try.ntmps24
  have mk := run_mk w len (len + n) (by omega) (by omega) ((len : Int) + (n : Int)) (by omega)
  go_wp2_with ((with_reducible show wpList _ _ _ (Oper.mk (some 15) _ _ _ _ _ :: _) _ _); refine wp_copy (.tmp 13) (.tmp 14) _ rfl rfl w.heap.size len (len + n) a cap l rfl rfl HL.out (heap_alloc_new w _) (HB.out.below B0.out) (by omega) (by omega) w.heap.size w B0.out (Nat.le_refl _) ?_; intro w1 ho1 hb1)
  go_ret
  exact ⟨rfl, ho1, hb1⟩

set_option maxHeartbeats 400000 in
theorem write_any (A : Option Addr) (k c B : Nat) (xs : List Int) (n : Nat) (w : World) (hk : xs.length = k) (hm : k ≤ 100000) (hn : n < 18446744073709551616) (ho : Own w B (.slice A k c) xs) (hr : ∀ c ∈ xs, 0 ≤ c ∧ c < 256) (hB : B ≤ w.heap.size) :
    Calls Try.prog 23 #[.slice A k c, .int .u64 (n : Int)] w fun e w' => ∃ A' k' c', e = .returned (.slice A' k' c') ∧ (xs ++ wrt n).length = k' ∧ Own w' B (.slice A' k' c') (xs ++ wrt n) ∧ Below B w w' := by
  have h10 := Lib.hid (show (xs ++ wrt n).length ≤ 100010 by have := wrt_ten n hn; rw [List.length_append]; omega)
  go_enter Try.func23, Try.ntmps23
  go_wp2
  go_loopw [0, 1] (fun v i W => ∃ (m : Nat) (ys : List Int) (A' : Option Addr) (k' c' : Nat), i = .int .u64 m ∧ v = .slice A' k' c' ∧ m < 18446744073709551616 ∧ Hid (ys.length = k' ∧ Own W B (.slice A' k' c') ys ∧ Below B w W ∧ ys ++ wrt m = xs ++ wrt n ∧ (∀ c ∈ ys, 0 ≤ c ∧ c < 256) ∧ k' ≤ 100100)) (fun _ i _ => (intOf i).toNat)
  case atStart => exact ⟨n, xs, A, k, c, rfl, rfl, hn, Lib.hid ⟨hk, ho, Below.refl _ _, rfl, hr, by omega⟩⟩
  case round =>
    obtain ⟨m, ys, A', k', c', rfl, rfl, hm2, H⟩ := hrel
    clear hk ho hr
    obtain ⟨hk, ho, hb, he, hr, hl⟩ := H.out
    have B1 := Lib.hid (hb.size)
    by_cases c1 : 128 ≤ m
    · have e1 := or_u8 m
      have e2 := wrt_hi m c1
      obtain ⟨x, hx⟩ : ∃ x : Nat, x = m % 128 + 128 := ⟨_, rfl⟩
      rw [← hx] at e1 e2
      have HX := Lib.hid (show 0 ≤ (x : Int) ∧ (x : Int) < 256 by omega)
      have HE := Lib.hid (show (ys ++ [(x : Int)]) ++ wrt (m / 128) = xs ++ wrt n by rw [← he, e2]; simp)
      have HK := Lib.hid (show (ys ++ [(x : Int)]).length = k' + 1 by rw [List.length_append, hk]; rfl)
      have HM := Lib.hid (show k' + 1 ≤ 100100 by have := congrArg List.length HE.out; rw [List.length_append, HK.out] at this; have := wrt_pos (m / 128); have := h10.out; omega)
      have hd : decide ((128 : Int) ≤ (m : Int)) = true := by simp; omega
      have B2 := Lib.hid ((Below.refl wr.heap.size wr).alloc (Nat.le_refl _) (.cells #[.int .u8 (x : Int)] 5))
      have HO := Lib.hid (ho.below B2.out)
      have HB := Lib.hid hb
      have HR := Lib.hid hr
      clear hk ho hb he hr e2 hx
      go_wp2_with (at_builtin; refine wp_app (.tmp 9) (.tmp 13) _ rfl rfl B _ ys rfl HO.out _ 1 1 [(x : Int)] rfl rfl (Byt.one wr x HX.out) (by intro h; cases h) HR.out (k' + 1) HK.out (by have := HM.out; omega) (by have := B1.out; have := B2.out.size; omega) ?_; intro A2 c2 w2 hO2 _ hb2; have O2 := Lib.hid hO2; have B3 := Lib.hid ((HB.out.trans (B2.out.mono (by have := B1.out; omega))).trans hb2); clear hO2 hb2)
      go_roundw
      case rel => exact ⟨m / 128, _, A2, k' + 1, c2, by go_num, rfl, by omega, Lib.hid ⟨HK.out, O2.out, B3.out, HE.out, range_snoc HR.out HX.out, HM.out⟩⟩
      case measure => simp [intOf]; omega
    · have e2 := wrt_lo m (by omega)
      have HX := Lib.hid (show 0 ≤ (m : Int) ∧ (m : Int) < 256 by omega)
      have e1 : (m : Int) % 256 = (m : Int) := by omega
      have HE := Lib.hid (show (ys ++ [(m : Int)]) = xs ++ wrt n by rw [← he, e2])
      have HK := Lib.hid (show (ys ++ [(m : Int)]).length = k' + 1 by rw [List.length_append, hk]; rfl)
      have hd : decide ((128 : Int) ≤ (m : Int)) = false := by simp; omega
      have B2 := Lib.hid ((Below.refl wr.heap.size wr).alloc (Nat.le_refl _) (.cells #[.int .u8 (m : Int)] 5))
      have HO := Lib.hid (ho.below B2.out)
      have HB := Lib.hid hb
      have HR := Lib.hid hr
      clear hk ho hb he hr e2
      go_wp2_with (at_builtin; refine wp_app (.tmp 15) (.tmp 18) _ rfl rfl B _ ys rfl HO.out _ 1 1 [(m : Int)] rfl rfl (Byt.one wr m HX.out) (by intro h; cases h) HR.out (k' + 1) HK.out (by omega) (by have := B1.out; have := B2.out.size; omega) ?_; intro A2 c2 w2 hO2 _ hb2; have O2 := Lib.hid hO2; have B3 := Lib.hid ((HB.out.trans (B2.out.mono (by have := B1.out; omega))).trans hb2); clear hO2 hb2)
      go_ret
      exact ⟨A2, k' + 1, c2, rfl, by rw [← HE.out]; exact HK.out, by rw [← HE.out]; exact O2.out, B3.out⟩

set_option maxHeartbeats 400000 in
theorem size_any (n : Nat) (h : n < 18446744073709551616) (w : World) :
    Calls Try.prog 25 #[.int .u64 (n : Int)] w fun e w' => e = .returned (.int .i64 (((wrt n).length : Nat) : Int)) ∧ w = w' := by
  have e1 := or64_one n h
  have H := Lib.hid (len64_any (n ||| 1) (or_one_lt n h) w)
  have E := Lib.hid (sz_eq n h)
  rw [← E.out]
  unfold sz
  have hl : Lib.bitLen (n ||| 1) ≤ 64 := Lib.bitLen_le _ 64 (by omega) (or_one_lt n h)
  generalize n ||| 1 = x at e1 H hl
  generalize Lib.bitLen x = L at H hl
  clear E
  go_enter Try.func25, Try.ntmps25
  go_wp2_with fail
  refine H.out.mono ?_
  rintro e w' ⟨rfl, rfl⟩
  go_wp2
  go_ret
  exact ⟨ret_i64 (by omega), rfl⟩

set_option maxHeartbeats 400000 in
theorem put_any (a : Option Addr) (len cap : Nat) (l : List Int) (n : Nat) (w : World) (hl : l.length = len) (hm : len ≤ 90000) (hn : n < 18446744073709551616) (hb : Byt w a l) :
    Calls Try.prog 14 #[.slice a len cap, .int .u64 (n : Int)] w fun e w' => ∃ A' k' c', e = .returned (.slice A' k' c') ∧ (l ++ wrt n).length = k' ∧ Own w' w.heap.size (.slice A' k' c') (l ++ wrt n) ∧ Below w.heap.size w w' := by
  have S := Lib.hid (fun w => size_any n hn w)
  have R := Lib.hid (room_any a len cap l (wrt n).length w hl (by omega) (by have := wrt_ten n hn; omega) hb)
  have W := Lib.hid (fun A k c xs w' hk hm ho hr hB => write_any A k c w.heap.size xs n w' hk hm hn ho hr hB)
  have HL := Lib.hid hl
  have HR := Lib.hid hb.2
  clear hl hb
  generalize wrt n = q at S R W
  generalize q.length = z at S R
  go_enter Try.func14, Try.ntmps14
  go_wp2_with fail
  refine (S.out _).mono ?_
  rintro e w' ⟨rfl, rfl⟩
  go_wp2_with fail
  refine R.out.mono ?_
  rintro e w1 ⟨rfl, ho, hb⟩
  go_wp2_with fail
  refine (W.out _ _ _ l _ HL.out (by omega) ho HR.out hb.size).mono ?_
  rintro e w2 ⟨A', k', c', rfl, hk, ho2, hb2⟩
  have O2 := Lib.hid ho2
  have B2 := Lib.hid (hb.trans hb2)
  have K2 := Lib.hid hk
  clear hk ho hb ho2 hb2
  go_wp2
  go_ret
  exact ⟨A', k', c', rfl, K2.out, O2.out, B2.out⟩
end Go.Proofs.Ytmooblbnkjaenaa
