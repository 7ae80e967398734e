/- Contracts, joined: LbRPut, LbRPutInt, LbRPutText, LbRPutReal. -/
import Derived.Test.YtilgoghnoeohnaaDoorMB
import Derived.Test.YtilgoghnoeohnaaDoorMA
import Derived.Test.YtilgoghnoeohnaaDoorMC
/- The contract of the document's Put. -/
namespace Go.Proofs.YtilgoghnoeohnaaDoor
open Go Go.RowKit Pk
set_option maxRecDepth 20000


set_option maxHeartbeats 400000 in
theorem rput_any (a : Option Addr) (len cap : Nat) (l : List Int) (n : Nat) (w : World) (hl : l.length = len) (hm : len ≤ 180000) (hcap : a = none → cap = 0) (hn : n < 18446744073709551616) (hb : Byt w a l) :
    Calls Tryd.prog 19 #[.slice a len cap, .int .u64 (n : Int)] w fun e w' => ∃ A' k' c', e = .returned (.slice A' k' c') ∧ (l ++ wrt n).length = k' ∧ Own w' w.heap.size (.slice A' k' c') (l ++ wrt n) ∧ Below w.heap.size w w' := by
  have h10 := Lib.hid (show (l ++ wrt n).length ≤ 200010 by have := wrt_ten n hn; rw [List.length_append]; omega)
  have HL := Lib.hid hl
  have HN := Lib.hid hcap
  have HY := Lib.hid hb
  have HR := Lib.hid hb.2
  have B1 := Lib.hid ((Below.refl w.heap.size w).alloc (Nat.le_refl _) (.cells #[] 5))
  clear hl hcap hb
  go_enter Tryd.func19, Tryd.ntmps19
  go_wp2_with (at_builtin; refine wp_app (.tmp 7) (.tmp 8) _ rfl rfl w.heap.size _ [] rfl (Own.empty w) a len cap l rfl HL.out (HY.out.below B1.out) HN.out (by simp) len (by simpa using HL.out) (by omega) (by simp) ?_; intro A' c' w1 hO1 _ hbel; rw [List.nil_append] at hO1; have O1 := Lib.hid hO1; have B2 := Lib.hid (B1.out.trans hbel); clear hO1 hbel)
  go_loopw [5, 1] (fun v i W => ∃ (m : Nat) (ys : List Int) (A' : Option Addr) (k' c' : Nat), i = .int .u64 m ∧ v = .slice A' k' c' ∧ m < 18446744073709551616 ∧ Hid (ys.length = k' ∧ Own W w.heap.size (.slice A' k' c') ys ∧ Below w.heap.size w W ∧ ys ++ wrt m = l ++ wrt n ∧ (∀ c ∈ ys, 0 ≤ c ∧ c < 256) ∧ k' ≤ 200100)) (fun _ i _ => (intOf i).toNat)
  case atStart => exact ⟨n, l, A', len, c', rfl, rfl, hn, Lib.hid ⟨HL.out, O1.out, B2.out, rfl, HR.out, by omega⟩⟩
  case round =>
    obtain ⟨m, ys, A', k', c', rfl, rfl, hm2, H⟩ := hrel
    obtain ⟨hk, ho, hb, he, hr, hl⟩ := H.out
    have Z1 := Lib.hid (hb.size)
    by_cases c1 : 128 ≤ m
    · have e2 := wrt_hi m c1
      obtain ⟨x, hx⟩ : ∃ x : Nat, x = m % 128 + 128 := ⟨_, rfl⟩
      rw [← hx] at e2
      have e1 : (m : Int) % 128 + 128 = (x : Int) := by omega
      have e3 : (x : Int) % 256 = (x : Int) := by omega
      have HX := Lib.hid (show 0 ≤ (x : Int) ∧ (x : Int) < 256 by omega)
      have HE := Lib.hid (show (ys ++ [(x : Int)]) ++ wrt (m / 128) = l ++ wrt n by rw [← he, e2]; simp)
      have HK := Lib.hid (show (ys ++ [(x : Int)]).length = k' + 1 by rw [List.length_append, hk]; rfl)
      have HM := Lib.hid (show k' + 1 ≤ 200100 by have := congrArg List.length HE.out; rw [List.length_append, HK.out] at this; have := wrt_pos (m / 128); have := h10.out; omega)
      have hd : decide ((128 : Int) ≤ (m : Int)) = true := by simp; omega
      have B2 := Lib.hid ((Below.refl wr.heap.size wr).alloc (Nat.le_refl _) (.cells #[.int .u8 (x : Int)] 5))
      have HO := Lib.hid (ho.below B2.out)
      have HB := Lib.hid hb
      have HR := Lib.hid hr
      clear hk ho hb he hr e2 hx H
      go_wp2_with (at_builtin; refine wp_app (.tmp 12) (.tmp 17) _ rfl rfl w.heap.size _ ys rfl HO.out _ 1 1 [(x : Int)] rfl rfl (Byt.one wr x HX.out) (by intro h; cases h) HR.out (k' + 1) HK.out (by have := HM.out; omega) (by have := Z1.out; have := B2.out.size; omega) ?_; intro A2 c2 w2 hO2 _ hb2; have O2 := Lib.hid hO2; have B3 := Lib.hid ((HB.out.trans (B2.out.mono (by have := Z1.out; omega))).trans hb2); clear hO2 hb2)
      go_roundw
      case rel => exact ⟨m / 128, _, A2, k' + 1, c2, by go_num, rfl, by omega, Lib.hid ⟨HK.out, O2.out, B3.out, HE.out, range_snoc HR.out HX.out, HM.out⟩⟩
      case measure => simp [intOf]; omega
    · have e2 := wrt_lo m (by omega)
      have HX := Lib.hid (show 0 ≤ (m : Int) ∧ (m : Int) < 256 by omega)
      have e1 : (m : Int) % 256 = (m : Int) := by omega
      have HE := Lib.hid (show (ys ++ [(m : Int)]) = l ++ wrt n by rw [← he, e2])
      have HK := Lib.hid (show (ys ++ [(m : Int)]).length = k' + 1 by rw [List.length_append, hk]; rfl)
      have hd : decide ((128 : Int) ≤ (m : Int)) = false := by simp; omega
      have B2 := Lib.hid ((Below.refl wr.heap.size wr).alloc (Nat.le_refl _) (.cells #[.int .u8 (m : Int)] 5))
      have HO := Lib.hid (ho.below B2.out)
      have HB := Lib.hid hb
      have HR := Lib.hid hr
      clear hk ho hb he hr e2 H
      go_wp2_with (at_builtin; refine wp_app (.tmp 21) (.tmp 24) _ rfl rfl w.heap.size _ ys rfl HO.out _ 1 1 [(m : Int)] rfl rfl (Byt.one wr m HX.out) (by intro h; cases h) HR.out (k' + 1) HK.out (by omega) (by have := Z1.out; have := B2.out.size; omega) ?_; intro A2 c2 w2 hO2 _ hb2; have O2 := Lib.hid hO2; have B3 := Lib.hid ((HB.out.trans (B2.out.mono (by have := Z1.out; omega))).trans hb2); clear hO2 hb2)
      go_ret
      exact ⟨A2, k' + 1, c2, rfl, by rw [← HE.out]; exact HK.out, by rw [← HE.out]; exact O2.out, B3.out⟩
end Go.Proofs.YtilgoghnoeohnaaDoor

/- The contract of the document's PutInt. -/
namespace Go.Proofs.YtilgoghnoeohnaaDoor
open Go Go.RowKit Pk
set_option maxRecDepth 20000

set_option maxHeartbeats 400000 in
theorem rputInt_any (a : Option Addr) (len cap : Nat) (l : List Int) (n : Int) (w : World) (hl : l.length = len) (hm : len ≤ 180000) (hcap : a = none → cap = 0) (h0 : -9223372036854775808 ≤ n) (h1 : n ≤ 9223372036854775807) (hb : Byt w a l) :
    Calls Tryd.prog 72 #[.slice a len cap, .int .i64 n] w fun e w' => ∃ A' k' c', e = .returned (.slice A' k' c') ∧ (l ++ wrt (zig n)).length = k' ∧ Own w' w.heap.size (.slice A' k' c') (l ++ wrt (zig n)) ∧ Below w.heap.size w w' := by
  have P := Lib.hid (rput_any a len cap l (zig n) w hl hm hcap (zig_lt n h0 h1) hb)
  clear hl hb
  by_cases c : n < 0
  · obtain ⟨m, hm2⟩ : ∃ m : Nat, -(n + 1) = (m : Int) := ⟨(-(n + 1)).toNat, by omega⟩
    rw [show zig n = 2 * m + 1 by unfold zig; rw [if_pos c]; omega] at P ⊢
    have e3 : IntKind.u64.wrap (-(n + 1)) = (m : Int) := by rw [hm2, IntKind.wrap_u64]; omega
    have hm3 : m < 9223372036854775808 := by omega
    rw [Int.natCast_add, Int.natCast_mul] at P
    go_enter Tryd.func72, Tryd.ntmps72
    go_wp2_with fail
    refine P.out.mono ?_
    rintro e w2 ⟨A', k', c', rfl, hk, ho2, hb2⟩
    have O2 := Lib.hid ho2
    have B2 := Lib.hid hb2
    have K2 := Lib.hid hk
    clear hk ho2 hb2
    go_wp2
    go_ret
    exact ⟨A', k', c', rfl, K2.out, O2.out, B2.out⟩
  · obtain ⟨m, rfl⟩ : ∃ m : Nat, n = (m : Int) := ⟨n.toNat, by omega⟩
    rw [show zig (m : Int) = 2 * m by unfold zig; rw [if_neg c]; omega] at P ⊢
    rw [Int.natCast_mul] at P
    go_enter Tryd.func72, Tryd.ntmps72
    go_wp2_with fail
    refine P.out.mono ?_
    rintro e w2 ⟨A', k', c', rfl, hk, ho2, hb2⟩
    have O2 := Lib.hid ho2
    have B2 := Lib.hid hb2
    have K2 := Lib.hid hk
    clear hk ho2 hb2
    go_wp2
    go_ret
    exact ⟨A', k', c', rfl, K2.out, O2.out, B2.out⟩
end Go.Proofs.YtilgoghnoeohnaaDoor

/- The contract of the document's PutText. -/
namespace Go.Proofs.YtilgoghnoeohnaaDoor
open Go Go.RowKit Pk
set_option maxRecDepth 20000

set_option maxHeartbeats 400000 in
theorem rputText_any (a : Option Addr) (len cap : Nat) (l : List Int) (s : ByteArray) (w : World) (hl : l.length = len) (hm : len ≤ 150000) (hcap : a = none → cap = 0) (hs : s.size ≤ 40000) (hb : Byt w a l) :
    Calls Tryd.prog 74 #[.slice a len cap, .string s] w fun e w' => ∃ A' k' c', e = .returned (.slice A' k' c') ∧ (l ++ wrt s.size ++ txt s).length = k' ∧ Own w' w.heap.size (.slice A' k' c') (l ++ wrt s.size ++ txt s) ∧ Below w.heap.size w w' := by
  have P := Lib.hid (rput_any a len cap l s.size w hl (by omega) hcap (by omega) hb)
  have HX := Lib.hid (range_app hb.2 (wrt_range s.size))
  have h10 := wrt_ten s.size (by omega)
  have HL := Lib.hid hl
  clear hl hb hcap
  generalize wrt s.size = q at P HX h10
  go_enter Tryd.func74, Tryd.ntmps74
  go_wp2_with fail
  refine P.out.mono ?_
  rintro e w2 ⟨A', k', c', rfl, hk, ho2, hb2⟩
  have O2 := Lib.hid ho2
  have B2 := Lib.hid hb2
  have hk3 : k' + s.size ≤ 200000 := by rw [← hk, List.length_append, HL.out]; omega
  have K3 := Lib.hid (show (l ++ q ++ txt s).length = k' + s.size by rw [List.length_append, hk, txt_length])
  clear hk ho2 hb2
  go_wp2_with (at_builtin; refine wp_appstr (.tmp 11) (.tmp 12) _ rfl rfl w.heap.size _ (l ++ q) rfl O2.out s rfl HX.out (k' + s.size) K3.out (by omega) B2.out.size ?_; intro A2 c2 w3 hO3 _ hb3; have O3 := Lib.hid hO3; have B3 := Lib.hid (B2.out.trans hb3); clear hO3 hb3)
  go_ret
  exact ⟨A2, k' + s.size, c2, rfl, K3.out, O3.out, B3.out⟩
end Go.Proofs.YtilgoghnoeohnaaDoor

/- The contract of the document's PutReal. -/
namespace Go.Proofs.YtilgoghnoeohnaaDoor
open Go Go.RowKit Pk Rl
set_option maxRecDepth 20000

/- eight bytes that are filled from behind: the first k are zeros yet -/
def z8 (n k : Nat) : List Int := List.replicate k 0 ++ (w8 n).drop k
theorem z8_len (n k : Nat) (hk : k ≤ 8) : (z8 n k).length = 8 := by
  unfold z8
  rw [List.length_append, List.length_replicate, List.length_drop, show (w8 n).length = 8 from rfl]; omega
theorem z8_step (n k : Nat) (hk : k < 8) : ∃ m x : Nat, m = n / 256 ^ (7 - k) ∧ x = m % 256 ∧ (z8 n (k + 1)).set k (x : Int) = z8 n k ∧ m / 256 = n / 256 ^ (8 - k) := by
  have e : k = 0 ∨ k = 1 ∨ k = 2 ∨ k = 3 ∨ k = 4 ∨ k = 5 ∨ k = 6 ∨ k = 7 := by omega
  rcases e with rfl | rfl | rfl | rfl | rfl | rfl | rfl | rfl <;> refine ⟨_, _, rfl, rfl, ?_, by rw [Nat.div_div_eq_div_mul]⟩ <;> simp [z8, w8]
theorem run_mk8 (w : World) : (Instr.makeSlice 32 (.int .i64 8) (.int .i64 8)).run Tryd.prog w = .ok (.slice (some ⟨w.heap.size, 0, none⟩) 8 8) (w.alloc (.cells (madeCells #[.int .u8 0] 8) 5)) := run_mk w 8 8 (by omega) (by omega) 8 rfl
theorem Own.made8 (n : Nat) (w : World) : Own (w.alloc (.cells (madeCells #[.int .u8 0] 8) 5)) w.heap.size (.slice (some ⟨w.heap.size, 0, none⟩) 8 8) (z8 n 8) := by
  refine Own.made _ w.heap.size 8 8 w.heap.size (Nat.le_refl _) (z8 n 8) (z8_len n 8 (by omega)) (by omega) (by omega) ?_
  rw [heap_alloc_new w, ← made_zeros]
  rfl

set_option maxHeartbeats 400000 in
theorem rputReal_any (a : Option Addr) (len cap : Nat) (l : List Int) (b : Nat) (w : World) (hl : l.length = len) (hm : len ≤ 180000) (hcap : a = none → cap = 0) (h : b < 18446744073709551616) (hb : Byt w a l) :
    Calls Tryd.prog 73 #[.slice a len cap, .float .f64 b] w fun e w' => ∃ A' k' c', e = .returned (.slice A' k' c') ∧ (l ++ w8 (bt b)).length = k' ∧ Own w' w.heap.size (.slice A' k' c') (l ++ w8 (bt b)) ∧ Below w.heap.size w w' := by
  have S := Lib.hid (fun w => of_any b h w)
  have P := Lib.hid (pb_bt b h)
  have e1 := ex_lt b
  have f1 := fr_lt b
  have hn := bt_lt b h
  have HL := Lib.hid hl
  have HN := Lib.hid hcap
  have HY := Lib.hid hb
  have HR := Lib.hid hb.2
  have B1 := Lib.hid ((Below.refl w.heap.size w).alloc (Nat.le_refl _) (.cells #[] 5))
  have mk := run_mk8
  clear hl hcap hb
  generalize bt b = n at P hn
  generalize neg b = sb at S P
  generalize ex b = E at S P e1
  generalize fr b = F at S P f1
  go_enter Tryd.func73, Tryd.ntmps73
  go_wp2_with (at_builtin; refine wp_app (.tmp 10) (.tmp 11) _ rfl rfl w.heap.size _ [] rfl (Own.empty w) a len cap l rfl HL.out (HY.out.below B1.out) HN.out (by simp) len (by simpa using HL.out) (by omega) (by simp) ?_; intro A' c' w1 hO1 _ hbel; rw [List.nil_append] at hO1; have O1 := Lib.hid hO1; have B2 := Lib.hid (B1.out.trans hbel); clear hO1 hbel)
  refine (S.out _).mono ?_
  rintro e w2 ⟨rfl, b1⟩
  have O2 := Lib.hid (O1.out.below b1)
  have B3 := Lib.hid (B2.out.trans (b1.mono B2.out.size))
  clear b1 O1 B2
  go_wp2_with fail
  refine (pbits_any sb E F e1 f1 _).mono ?_
  rintro e w3 ⟨rfl, b1⟩
  rw [P.out]
  have O3 := Lib.hid (O2.out.below b1)
  have B4 := Lib.hid (B3.out.trans (b1.mono B3.out.size))
  clear b1 O2 B3
  have B5 := Lib.hid ((Below.refl w3.heap.size w3).alloc (Nat.le_refl _) (.cells (madeCells #[.int .u8 0] 8) 5))
  have M8 := Lib.hid (Own.made8 n w3)
  go_wp2_with fail
  go_loopw [6, 8] (fun m i W => ∃ k : Nat, k ≤ 8 ∧ i = .int .i64 ((k : Int) - 1) ∧ m = .int .u64 ((n / 256 ^ (8 - k) : Nat) : Int) ∧ Hid (Own W w3.heap.size (.slice (some ⟨w3.heap.size, 0, none⟩) 8 8) (z8 n k) ∧ Below w3.heap.size w3 W)) (fun _ i _ => ((intOf i) + 1).toNat)
  case atStart => exact ⟨8, by omega, rfl, by simp, Lib.hid ⟨M8.out, B5.out⟩⟩
  case round =>
    obtain ⟨k, hk, rfl, rfl, H⟩ := hrel
    by_cases c1 : k = 0
    · subst c1
      obtain ⟨ho, hb⟩ := H.out
      obtain ⟨A8, c8, e8, Y8⟩ := ho.form (w8_range n)
      injection e8 with e8 _ _
      subst e8
      have O4 := Lib.hid (O3.out.below hb)
      have B6 := Lib.hid (B4.out.trans (hb.mono B4.out.size))
      have HY8 := Lib.hid Y8
      have HK := Lib.hid (show (l ++ w8 n).length = len + 8 by rw [List.length_append, HL.out]; rfl)
      clear ho hb H Y8
      go_wp2_with (at_builtin; refine wp_app (.tmp 29) (.tmp 30) _ rfl rfl w.heap.size _ l rfl O4.out _ 8 8 (w8 n) rfl rfl HY8.out (by intro h; cases h) HR.out (len + 8) HK.out (by omega) B6.out.size ?_; intro A2 c2 w5 hO5 _ hb5; have O5 := Lib.hid hO5; have B7 := Lib.hid (B6.out.trans hb5); clear hO5 hb5)
      go_ret
      exact ⟨A2, len + 8, c2, rfl, HK.out, O5.out, B7.out⟩
    · obtain ⟨j, rfl⟩ : ∃ j, k = j + 1 := ⟨k - 1, by omega⟩
      obtain ⟨m, x, hm2, hx, hs, hq⟩ := z8_step n j (by omega)
      rw [show 8 - (j + 1) = 7 - j by omega, ← hm2]
      have ei : ((j + 1 : Nat) : Int) - 1 = (j : Int) := by omega
      rw [ei]
      obtain ⟨ho, hb⟩ := H.out
      have hc := ho.cell (z8_len n (j + 1) hk) j (by omega)
      have hf := ho.frozen (z8_len n (j + 1) hk) j
      have HO := Lib.hid (ho.stored (z8_len n (j + 1) hk) j (x : Int))
      have HB := Lib.hid hb
      have hx2 : (m : Int) % 256 = (x : Int) := by omega
      have hx3 : (x : Int) % 256 = (x : Int) := by omega
      have hmm : m < 18446744073709551616 := by rw [hm2]; exact Nat.lt_of_le_of_lt (Nat.div_le_self _ _) hn
      have HS := Lib.hid hs
      have HQ := Lib.hid hq
      clear ho hb H hs hq hm2 hx
      generalize (z8 n (j + 1)).getD j 0 = old at hc
      go_wp2
      go_roundw
      case rel => exact ⟨j, by omega, rfl, by rw [← HQ.out, Int.natCast_ediv]; rfl, Lib.hid ⟨by rw [← HS.out]; exact HO.out, HB.out.setCell (Nat.le_refl _) _⟩⟩
      case measure => simp [intOf]
end Go.Proofs.YtilgoghnoeohnaaDoor
