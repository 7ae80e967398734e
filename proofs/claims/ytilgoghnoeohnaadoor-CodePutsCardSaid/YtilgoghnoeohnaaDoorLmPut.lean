/- Contracts, joined: LbPut, LbPutInt, LbPutText, LbPutReal. -/
import Derived.Test.YtilgoghnoeohnaaDoorMB
import Derived.Test.YtilgoghnoeohnaaDoorMA
import Derived.Test.YtilgoghnoeohnaaDoorLbLen
/- The contracts of pack.Size and pack.Put, and of what they call. -/
namespace Go.Proofs.YtilgoghnoeohnaaDoor
open Go Go.RowKit Pk
set_option maxRecDepth 20000

set_option maxHeartbeats 400000 in
theorem room_any (a : Option Addr) (len cap : Nat) (l : List Int) (n : Nat) (w : World) (hl : l.length = len) (hm : len ≤ 200000) (hn : n ≤ 200000) (hb : Byt w a l) :
    Calls Tryd.prog 31 #[.slice a len cap, .int .i64 (n : Int)] w fun e w' => e = .returned (.slice (some ⟨w.heap.size, 0, none⟩) len (len + n)) ∧ Own w' w.heap.size (.slice (some ⟨w.heap.size, 0, none⟩) len (len + n)) l ∧ Below w.heap.size w w' := by
  have HL := Lib.hid hl
  have HB := Lib.hid hb
  have B0 := Lib.hid ((Below.refl w.heap.size w).alloc (Nat.le_refl _) (.cells (madeCells #[.int .u8 0] (len + n)) 5))
  clear hl hb
  go_enter Tryd.func31, Tryd.ntmps31
  have mk := run_mk w len (len + n) (by omega) (by omega) ((len : Int) + (n : Int)) (by omega)
  go_wp2_with ((with_reducible show wpList _ _ _ (Oper.mk (some 15) _ _ _ _ _ :: _) _ _); refine wp_copy (.tmp 13) (.tmp 14) _ rfl rfl w.heap.size len (len + n) a cap l rfl rfl HL.out (heap_alloc_new w _) (HB.out.below B0.out) (by omega) (by omega) w.heap.size w B0.out (Nat.le_refl _) ?_; intro w1 ho1 hb1)
  go_ret
  exact ⟨rfl, ho1, hb1⟩

set_option maxHeartbeats 400000 in
theorem write_any (A : Option Addr) (k c B : Nat) (xs : List Int) (n : Nat) (w : World) (hk : xs.length = k) (hm : k ≤ 200000) (hn : n < 18446744073709551616) (ho : Own w B (.slice A k c) xs) (hr : ∀ c ∈ xs, 0 ≤ c ∧ c < 256) (hB : B ≤ w.heap.size) :
    Calls Tryd.prog 30 #[.slice A k c, .int .u64 (n : Int)] w fun e w' => ∃ A' k' c', e = .returned (.slice A' k' c') ∧ (xs ++ wrt n).length = k' ∧ Own w' B (.slice A' k' c') (xs ++ wrt n) ∧ Below B w w' := by
  have h10 := Lib.hid (show (xs ++ wrt n).length ≤ 200010 by have := wrt_ten n hn; rw [List.length_append]; omega)
  go_enter Tryd.func30, Tryd.ntmps30
  go_wp2
  go_loopw [0, 1] (fun v i W => ∃ (m : Nat) (ys : List Int) (A' : Option Addr) (k' c' : Nat), i = .int .u64 m ∧ v = .slice A' k' c' ∧ m < 18446744073709551616 ∧ Hid (ys.length = k' ∧ Own W B (.slice A' k' c') ys ∧ Below B w W ∧ ys ++ wrt m = xs ++ wrt n ∧ (∀ c ∈ ys, 0 ≤ c ∧ c < 256) ∧ k' ≤ 200100)) (fun _ i _ => (intOf i).toNat)
  case atStart => exact ⟨n, xs, A, k, c, rfl, rfl, hn, Lib.hid ⟨hk, ho, Below.refl _ _, rfl, hr, by omega⟩⟩
  case round =>
    obtain ⟨m, ys, A', k', c', rfl, rfl, hm2, H⟩ := hrel
    clear hk ho hr
    obtain ⟨hk, ho, hb, he, hr, hl⟩ := H.out
    have B1 := Lib.hid (hb.size)
    by_cases c1 : 128 ≤ m
    · have e1 := or_u8 m
      have e2 := wrt_hi m c1
      obtain ⟨x, hx⟩ : ∃ x : Nat, x = m % 128 + 128 := ⟨_, rfl⟩
      rw [← hx] at e1 e2
      have HX := Lib.hid (show 0 ≤ (x : Int) ∧ (x : Int) < 256 by omega)
      have HE := Lib.hid (show (ys ++ [(x : Int)]) ++ wrt (m / 128) = xs ++ wrt n by rw [← he, e2]; simp)
      have HK := Lib.hid (show (ys ++ [(x : Int)]).length = k' + 1 by rw [List.length_append, hk]; rfl)
      have HM := Lib.hid (show k' + 1 ≤ 200100 by have := congrArg List.length HE.out; rw [List.length_append, HK.out] at this; have := wrt_pos (m / 128); have := h10.out; omega)
      have hd : decide ((128 : Int) ≤ (m : Int)) = true := by simp; omega
      have B2 := Lib.hid ((Below.refl wr.heap.size wr).alloc (Nat.le_refl _) (.cells #[.int .u8 (x : Int)] 5))
      have HO := Lib.hid (ho.below B2.out)
      have HB := Lib.hid hb
      have HR := Lib.hid hr
      clear hk ho hb he hr e2 hx
      go_wp2_with (at_builtin; refine wp_app (.tmp 9) (.tmp 13) _ rfl rfl B _ ys rfl HO.out _ 1 1 [(x : Int)] rfl rfl (Byt.one wr x HX.out) (by intro h; cases h) HR.out (k' + 1) HK.out (by have := HM.out; omega) (by have := B1.out; have := B2.out.size; omega) ?_; intro A2 c2 w2 hO2 _ hb2; have O2 := Lib.hid hO2; have B3 := Lib.hid ((HB.out.trans (B2.out.mono (by have := B1.out; omega))).trans hb2); clear hO2 hb2)
      go_roundw
      case rel => exact ⟨m / 128, _, A2, k' + 1, c2, by go_num, rfl, by omega, Lib.hid ⟨HK.out, O2.out, B3.out, HE.out, range_snoc HR.out HX.out, HM.out⟩⟩
      case measure => simp [intOf]; omega
    · have e2 := wrt_lo m (by omega)
      have HX := Lib.hid (show 0 ≤ (m : Int) ∧ (m : Int) < 256 by omega)
      have e1 : (m : Int) % 256 = (m : Int) := by omega
      have HE := Lib.hid (show (ys ++ [(m : Int)]) = xs ++ wrt n by rw [← he, e2])
      have HK := Lib.hid (show (ys ++ [(m : Int)]).length = k' + 1 by rw [List.length_append, hk]; rfl)
      have hd : decide ((128 : Int) ≤ (m : Int)) = false := by simp; omega
      have B2 := Lib.hid ((Below.refl wr.heap.size wr).alloc (Nat.le_refl _) (.cells #[.int .u8 (m : Int)] 5))
      have HO := Lib.hid (ho.below B2.out)
      have HB := Lib.hid hb
      have HR := Lib.hid hr
      clear hk ho hb he hr e2
      go_wp2_with (at_builtin; refine wp_app (.tmp 15) (.tmp 18) _ rfl rfl B _ ys rfl HO.out _ 1 1 [(m : Int)] rfl rfl (Byt.one wr m HX.out) (by intro h; cases h) HR.out (k' + 1) HK.out (by omega) (by have := B1.out; have := B2.out.size; omega) ?_; intro A2 c2 w2 hO2 _ hb2; have O2 := Lib.hid hO2; have B3 := Lib.hid ((HB.out.trans (B2.out.mono (by have := B1.out; omega))).trans hb2); clear hO2 hb2)
      go_ret
      exact ⟨A2, k' + 1, c2, rfl, by rw [← HE.out]; exact HK.out, by rw [← HE.out]; exact O2.out, B3.out⟩

set_option maxHeartbeats 400000 in
theorem size_any (n : Nat) (h : n < 18446744073709551616) (w : World) :
    Calls Tryd.prog 32 #[.int .u64 (n : Int)] w fun e w' => e = .returned (.int .i64 (((wrt n).length : Nat) : Int)) ∧ w = w' := by
  have e1 := or64_one n h
  have H := Lib.hid (len64_any (n ||| 1) (or_one_lt n h) w)
  have E := Lib.hid (sz_eq n h)
  rw [← E.out]
  unfold sz
  have hl : Lib.bitLen (n ||| 1) ≤ 64 := Lib.bitLen_le _ 64 (by omega) (or_one_lt n h)
  generalize n ||| 1 = x at e1 H hl
  generalize Lib.bitLen x = L at H hl
  clear E
  go_enter Tryd.func32, Tryd.ntmps32
  go_wp2_with fail
  refine H.out.mono ?_
  rintro e w' ⟨rfl, rfl⟩
  go_wp2
  go_ret
  exact ⟨ret_i64 (by omega), rfl⟩

set_option maxHeartbeats 400000 in
theorem put_any (a : Option Addr) (len cap : Nat) (l : List Int) (n : Nat) (w : World) (hl : l.length = len) (hm : len ≤ 180000) (hn : n < 18446744073709551616) (hb : Byt w a l) :
    Calls Tryd.prog 14 #[.slice a len cap, .int .u64 (n : Int)] w fun e w' => ∃ A' k' c', e = .returned (.slice A' k' c') ∧ (l ++ wrt n).length = k' ∧ Own w' w.heap.size (.slice A' k' c') (l ++ wrt n) ∧ Below w.heap.size w w' := by
  have S := Lib.hid (fun w => size_any n hn w)
  have R := Lib.hid (room_any a len cap l (wrt n).length w hl (by omega) (by have := wrt_ten n hn; omega) hb)
  have W := Lib.hid (fun A k c xs w' hk hm ho hr hB => write_any A k c w.heap.size xs n w' hk hm hn ho hr hB)
  have HL := Lib.hid hl
  have HR := Lib.hid hb.2
  clear hl hb
  generalize wrt n = q at S R W
  generalize q.length = z at S R
  go_enter Tryd.func14, Tryd.ntmps14
  go_wp2_with fail
  refine (S.out _).mono ?_
  rintro e w' ⟨rfl, rfl⟩
  go_wp2_with fail
  refine R.out.mono ?_
  rintro e w1 ⟨rfl, ho, hb⟩
  go_wp2_with fail
  refine (W.out _ _ _ l _ HL.out (by omega) ho HR.out hb.size).mono ?_
  rintro e w2 ⟨A', k', c', rfl, hk, ho2, hb2⟩
  have O2 := Lib.hid ho2
  have B2 := Lib.hid (hb.trans hb2)
  have K2 := Lib.hid hk
  clear hk ho hb ho2 hb2
  go_wp2
  go_ret
  exact ⟨A', k', c', rfl, K2.out, O2.out, B2.out⟩
end Go.Proofs.YtilgoghnoeohnaaDoor

/- The contract of pack.PutInt. -/
namespace Go.Proofs.YtilgoghnoeohnaaDoor
open Go Go.RowKit Pk
set_option maxRecDepth 20000

theorem or_dbl (m : Nat) (h : m < 9223372036854775808) : bits .or .u64 ((m : Int) * 2) 1 = ((2 * m + 1 : Nat) : Int) := by
  have e := or64 (2 * m) 1 (by omega) (by omega)
  have o := or_one (2 * m)
  rw [show ((m : Int) * 2) = ((2 * m : Nat) : Int) by omega]
  exact e.trans (by omega)

set_option maxHeartbeats 400000 in
theorem putInt_any (a : Option Addr) (len cap : Nat) (l : List Int) (n : Int) (w : World) (hl : l.length = len) (hm : len ≤ 180000) (h0 : -9223372036854775808 ≤ n) (h1 : n ≤ 9223372036854775807) (hb : Byt w a l) :
    Calls Tryd.prog 81 #[.slice a len cap, .int .i64 n] w fun e w' => ∃ A' k' c', e = .returned (.slice A' k' c') ∧ (l ++ wrt (zig n)).length = k' ∧ Own w' w.heap.size (.slice A' k' c') (l ++ wrt (zig n)) ∧ Below w.heap.size w w' := by
  have P := Lib.hid (put_any a len cap l (zig n) w hl hm (zig_lt n h0 h1) hb)
  clear hl hb
  by_cases c : n < 0
  · obtain ⟨m, hm2⟩ : ∃ m : Nat, -n - 1 = (m : Int) := ⟨(-n - 1).toNat, by omega⟩
    have e1 := (not_i64 n h0 h1).trans hm2
    have e2 := or_dbl m (by omega)
    rw [show zig n = 2 * m + 1 by unfold zig; rw [if_pos c]; omega] at P ⊢
    generalize 2 * m + 1 = z at P e2
    have e3 : IntKind.u64.wrap (m : Int) = (m : Int) := by rw [IntKind.wrap_u64]; omega
    have e4 : IntKind.u64.wrap ((m : Int) * 2) = (m : Int) * 2 := by rw [IntKind.wrap_u64]; omega
    clear hm2
    go_enter Tryd.func81, Tryd.ntmps81
    go_wp2_with fail
    refine P.out.mono ?_
    rintro e w2 ⟨A', k', c', rfl, hk, ho2, hb2⟩
    have O2 := Lib.hid ho2
    have B2 := Lib.hid hb2
    have K2 := Lib.hid hk
    clear hk ho2 hb2
    go_wp2
    go_ret
    exact ⟨A', k', c', rfl, K2.out, O2.out, B2.out⟩
  · obtain ⟨m, rfl⟩ : ∃ m : Nat, n = (m : Int) := ⟨n.toNat, by omega⟩
    rw [show zig (m : Int) = m * 2 by unfold zig; rw [if_neg c]; omega] at P ⊢
    rw [Int.natCast_mul] at P
    go_enter Tryd.func81, Tryd.ntmps81
    go_wp2_with fail
    refine P.out.mono ?_
    rintro e w2 ⟨A', k', c', rfl, hk, ho2, hb2⟩
    have O2 := Lib.hid ho2
    have B2 := Lib.hid hb2
    have K2 := Lib.hid hk
    clear hk ho2 hb2
    go_wp2
    go_ret
    exact ⟨A', k', c', rfl, K2.out, O2.out, B2.out⟩
end Go.Proofs.YtilgoghnoeohnaaDoor

/- The contract of pack.PutText. -/
namespace Go.Proofs.YtilgoghnoeohnaaDoor
open Go Go.RowKit Pk
set_option maxRecDepth 20000

set_option maxHeartbeats 400000 in
theorem putText_any (a : Option Addr) (len cap : Nat) (l : List Int) (s : ByteArray) (w : World) (hl : l.length = len) (hm : len ≤ 150000) (hs : s.size ≤ 40000) (hb : Byt w a l) :
    Calls Tryd.prog 83 #[.slice a len cap, .string s] w fun e w' => ∃ A' k' c', e = .returned (.slice A' k' c') ∧ (l ++ wrt s.size ++ txt s).length = k' ∧ Own w' w.heap.size (.slice A' k' c') (l ++ wrt s.size ++ txt s) ∧ Below w.heap.size w w' := by
  have S := Lib.hid (fun w => size_any s.size (by omega) w)
  have R := Lib.hid (room_any a len cap l ((wrt s.size).length + s.size) w hl (by omega) (by have := wrt_ten s.size (by omega); omega) hb)
  have W := Lib.hid (fun A k c xs w' hk hm ho hr hB => write_any A k c w.heap.size xs s.size w' hk hm (by omega) ho hr hB)
  have HL := Lib.hid hl
  have HR := Lib.hid hb.2
  have HQ := Lib.hid (wrt_range s.size)
  have h10 := wrt_ten s.size (by omega)
  rw [Int.natCast_add] at R
  clear hl hb
  generalize wrt s.size = q at S R W HQ h10
  go_enter Tryd.func83, Tryd.ntmps83
  go_wp2_with fail
  refine (S.out _).mono ?_
  rintro e w' ⟨rfl, rfl⟩
  go_wp2_with fail
  refine R.out.mono ?_
  rintro e w1 ⟨rfl, ho, hb⟩
  have hz := hb.size
  go_wp2_with fail
  refine (W.out _ _ _ l _ HL.out (by omega) ho HR.out hb.size).mono ?_
  rintro e w2 ⟨A', k', c', rfl, hk, ho2, hb2⟩
  have O2 := Lib.hid ho2
  have B2 := Lib.hid (hb.trans hb2)
  have hk3 : k' + s.size ≤ 200000 := by rw [← hk, List.length_append, HL.out]; omega
  have K3 := Lib.hid (show (l ++ q ++ txt s).length = k' + s.size by rw [List.length_append, hk, txt_length])
  have HX := Lib.hid (range_app HR.out HQ.out)
  clear hk ho hb ho2 hb2
  go_wp2_with (at_builtin; refine wp_appstr (.tmp 17) (.tmp 18) _ rfl rfl w.heap.size _ (l ++ q) rfl O2.out s rfl HX.out (k' + s.size) K3.out (by omega) B2.out.size ?_; intro A2 c2 w3 hO3 _ hb3; have O3 := Lib.hid hO3; have B3 := Lib.hid (B2.out.trans hb3); clear hO3 hb3)
  go_ret
  exact ⟨A2, k' + s.size, c2, rfl, K3.out, O3.out, B3.out⟩
end Go.Proofs.YtilgoghnoeohnaaDoor

/- The contract of pack.PutReal. -/
namespace Go.Proofs.YtilgoghnoeohnaaDoor
open Go Go.RowKit Pk Rl
set_option maxRecDepth 20000


theorem w8_get (n k : Nat) (hk : k < 8) : ∃ x : Nat, (n : Int) / 2 ^ (8 * (7 - k)) % 256 = (x : Int) ∧ (w8 n).take (k + 1) = (w8 n).take k ++ [(x : Int)] ∧ x < 256 := by
  have e : k = 0 ∨ k = 1 ∨ k = 2 ∨ k = 3 ∨ k = 4 ∨ k = 5 ∨ k = 6 ∨ k = 7 := by omega
  rcases e with rfl | rfl | rfl | rfl | rfl | rfl | rfl | rfl
  · exact ⟨n / 72057594037927936 % 256, by rw [show (2 : Int) ^ (8 * (7 - 0)) = 72057594037927936 by simp]; omega, rfl, by omega⟩
  · exact ⟨n / 281474976710656 % 256, by rw [show (2 : Int) ^ (8 * (7 - 1)) = 281474976710656 by simp]; omega, rfl, by omega⟩
  · exact ⟨n / 1099511627776 % 256, by rw [show (2 : Int) ^ (8 * (7 - 2)) = 1099511627776 by simp]; omega, rfl, by omega⟩
  · exact ⟨n / 4294967296 % 256, by rw [show (2 : Int) ^ (8 * (7 - 3)) = 4294967296 by simp]; omega, rfl, by omega⟩
  · exact ⟨n / 16777216 % 256, by rw [show (2 : Int) ^ (8 * (7 - 4)) = 16777216 by simp]; omega, rfl, by omega⟩
  · exact ⟨n / 65536 % 256, by rw [show (2 : Int) ^ (8 * (7 - 5)) = 65536 by simp]; omega, rfl, by omega⟩
  · exact ⟨n / 256 % 256, by rw [show (2 : Int) ^ (8 * (7 - 6)) = 256 by simp]; omega, rfl, by omega⟩
  · exact ⟨n % 256, by rw [show (2 : Int) ^ (8 * (7 - 7)) = 1 by simp]; omega, rfl, by omega⟩

set_option maxHeartbeats 400000 in
theorem putReal_any (a : Option Addr) (len cap : Nat) (l : List Int) (b : Nat) (w : World) (hl : l.length = len) (hm : len ≤ 180000) (h : b < 18446744073709551616) (hb : Byt w a l) :
    Calls Tryd.prog 82 #[.slice a len cap, .float .f64 b] w fun e w' => ∃ A' k' c', e = .returned (.slice A' k' c') ∧ (l ++ w8 (bt b)).length = k' ∧ Own w' w.heap.size (.slice A' k' c') (l ++ w8 (bt b)) ∧ Below w.heap.size w w' := by
  have R := Lib.hid (room_any a len cap l 8 w hl (by omega) (by omega) hb)
  have S := Lib.hid (fun w => bits_any b h w)
  have hn := bt_lt b h
  have HL := Lib.hid hl
  have HR := Lib.hid hb.2
  clear hl hb
  generalize bt b = n at S hn
  go_enter Tryd.func82, Tryd.ntmps82
  go_wp2_with fail
  refine R.out.mono ?_
  rintro e w1 ⟨rfl, ho, hb⟩
  have O1 := Lib.hid ho
  have B1 := Lib.hid hb
  clear ho hb
  go_wp2_with fail
  refine (S.out _).mono ?_
  rintro e w' ⟨rfl, rfl⟩
  go_wp2_with fail
  go_loopw [5, 12] (fun v i W => ∃ (k : Nat) (A' : Option Addr) (c' : Nat), k ≤ 8 ∧ i = .int .i64 k ∧ v = .slice A' (len + k) c' ∧ Hid (Own W w.heap.size (.slice A' (len + k) c') (l ++ (w8 n).take k) ∧ Below w.heap.size w W)) (fun _ i _ => 8 - (intOf i).toNat)
  case atStart => exact ⟨0, _, _, by omega, rfl, rfl, Lib.hid ⟨by simpa using O1.out, B1.out⟩⟩
  case round =>
    obtain ⟨k, A', c', hk, rfl, rfl, H⟩ := hrel
    obtain ⟨ho, hb⟩ := H.out
    by_cases c1 : k < 8
    · obtain ⟨x, hx, et, x1⟩ := w8_get n k c1
      have hd : decide ((k : Int) < 8) = true := by simp; omega
      have HX := Lib.hid (show 0 ≤ (x : Int) ∧ (x : Int) < 256 by omega)
      have ET := Lib.hid (show l ++ (w8 n).take (k + 1) = l ++ (w8 n).take k ++ [(x : Int)] by rw [et, List.append_assoc])
      have HK := Lib.hid (show (l ++ (w8 n).take k ++ [(x : Int)]).length = len + k + 1 by rw [← ET.out, List.length_append, HL.out, List.length_take, show (w8 n).length = 8 from rfl]; omega)
      have HRR := Lib.hid (range_app HR.out (fun c hc => w8_range n c (List.mem_of_mem_take hc) : ∀ c ∈ (w8 n).take k, 0 ≤ c ∧ c < 256))
      have B2 := Lib.hid ((Below.refl wr.heap.size wr).alloc (Nat.le_refl _) (.cells #[.int .u8 (x : Int)] 5))
      have HO := Lib.hid (ho.below B2.out)
      have HB := Lib.hid hb
      have HZ := Lib.hid hb.size
      clear et x1 H ho hb
      go_wp2_with (at_builtin; refine wp_app (.tmp 15) (.tmp 22) _ rfl rfl w.heap.size _ (l ++ (w8 n).take k) rfl HO.out _ 1 1 [(x : Int)] rfl rfl (Byt.one wr x HX.out) (by intro h; cases h) HRR.out (len + k + 1) HK.out (by omega) (by have := HZ.out; have := B2.out.size; omega) ?_; intro A2 c2 w2 hO2 _ hb2; have O2 := Lib.hid hO2; have B3 := Lib.hid ((HB.out.trans (B2.out.mono (by have := HZ.out; omega))).trans hb2); clear hO2 hb2)
      go_roundw
      case rel => exact ⟨k + 1, A2, c2, by omega, by go_num, rfl, Lib.hid ⟨by rw [ET.out]; exact O2.out, B3.out⟩⟩
      case measure => simp [intOf]; omega
    · have hd : decide ((k : Int) < 8) = false := by simp; omega
      obtain rfl : k = 8 := by omega
      have O2 := Lib.hid ho
      have B2 := Lib.hid hb
      clear H ho hb
      go_wp2
      go_ret
      exact ⟨A', _, c', rfl, by rw [List.length_append, HL.out]; rfl, O2.out, B2.out⟩
end Go.Proofs.YtilgoghnoeohnaaDoor
