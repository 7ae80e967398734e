/- The contracts of pack's functions that put: signed numbers, texts, real numbers. -/
import Derived.Test.YtclbhnmgpljboaaPkP
namespace Go.Proofs.Ytclbhnmgpljboaa
open Go Go.RowKit Pk

theorem not_i64 (n : Int) (h0 : -9223372036854775808 ≤ n) (h1 : n ≤ 9223372036854775807) : bits .xor .i64 (-1) n = -n - 1 := by
  show IntKind.i64.wrap ((BitVec.ofInt 64 (-1) ^^^ BitVec.ofInt 64 n).toNat : Int) = _
  have e1 : BitVec.ofInt 64 (-1) = BitVec.allOnes 64 := by decide
  rw [e1, BitVec.allOnes_xor, BitVec.toNat_not, BitVec.toNat_ofInt]
  simp [IntKind.wrap, IntKind.bits, IntKind.signed]
  omega
theorem or_dbl (m : Nat) (h : m < 9223372036854775808) : bits .or .u64 ((m : Int) * 2) 1 = ((2 * m + 1 : Nat) : Int) := by
  have e := or64 (2 * m) 1 (by omega) (by omega)
  have o := or_one (2 * m)
  rw [show ((m : Int) * 2) = ((2 * m : Nat) : Int) by omega]
  exact e.trans (by omega)
set_option maxHeartbeats 400000 in
theorem putInt_any (a : Option Addr) (len cap : Nat) (l : List Int) (n : Int) (w : World) (hl : l.length = len) (hm : len ≤ 90000) (h0 : -9223372036854775808 ≤ n) (h1 : n ≤ 9223372036854775807) (hb : Byt w a l) :
    Calls Try.prog 10 #[.slice a len cap, .int .i64 n] w fun e w' => ∃ A' k' c', e = .returned (.slice A' k' c') ∧ (l ++ wrt (zig n)).length = k' ∧ Own w' w.heap.size (.slice A' k' c') (l ++ wrt (zig n)) ∧ Below w.heap.size w w' := by
  have P := Lib.hid (put_any a len cap l (zig n) w hl hm (zig_lt n h0 h1) hb)
  clear hl hb
  by_cases c : n < 0
  · obtain ⟨m, hm2⟩ : ∃ m : Nat, -n - 1 = (m : Int) := ⟨(-n - 1).toNat, by omega⟩
    have e1 := (not_i64 n h0 h1).trans hm2
    have e2 := or_dbl m (by omega)
    rw [show zig n = 2 * m + 1 by unfold zig; rw [if_pos c]; omega] at P ⊢
    generalize 2 * m + 1 = z at P e2
    have e3 : IntKind.u64.wrap (m : Int) = (m : Int) := by rw [IntKind.wrap_u64]; omega
    have e4 : IntKind.u64.wrap ((m : Int) * 2) = (m : Int) * 2 := by rw [IntKind.wrap_u64]; omega
    clear hm2
    go_enter Try.func10, Try.ntmps10
    go_wp2_with fail
    refine P.out.mono ?_
    rintro e w2 ⟨A', k', c', rfl, hk, ho2, hb2⟩
    have O2 := Lib.hid ho2
    have B2 := Lib.hid hb2
    have K2 := Lib.hid hk
    clear hk ho2 hb2
    go_wp2
    go_ret
    exact ⟨A', k', c', rfl, K2.out, O2.out, B2.out⟩
  · obtain ⟨m, rfl⟩ : ∃ m : Nat, n = (m : Int) := ⟨n.toNat, by omega⟩
    rw [show zig (m : Int) = m * 2 by unfold zig; rw [if_neg c]; omega] at P ⊢
    rw [Int.natCast_mul] at P
    go_enter Try.func10, Try.ntmps10
    go_wp2_with fail
    refine P.out.mono ?_
    rintro e w2 ⟨A', k', c', rfl, hk, ho2, hb2⟩
    have O2 := Lib.hid ho2
    have B2 := Lib.hid hb2
    have K2 := Lib.hid hk
    clear hk ho2 hb2
    go_wp2
    go_ret
    exact ⟨A', k', c', rfl, K2.out, O2.out, B2.out⟩

theorem range_app {l r : List Int} (h : ∀ c ∈ l, 0 ≤ c ∧ c < 256) (hx : ∀ c ∈ r, 0 ≤ c ∧ c < 256) : ∀ c ∈ l ++ r, 0 ≤ c ∧ c < 256 := by
  intro c hc
  rcases List.mem_append.1 hc with hc | hc
  · exact h c hc
  · exact hx c hc

set_option maxHeartbeats 400000 in
theorem putText_any (a : Option Addr) (len cap : Nat) (l : List Int) (s : ByteArray) (w : World) (hl : l.length = len) (hm : len ≤ 50000) (hs : s.size ≤ 40000) (hb : Byt w a l) :
    Calls Try.prog 11 #[.slice a len cap, .string s] w fun e w' => ∃ A' k' c', e = .returned (.slice A' k' c') ∧ (l ++ wrt s.size ++ txt s).length = k' ∧ Own w' w.heap.size (.slice A' k' c') (l ++ wrt s.size ++ txt s) ∧ Below w.heap.size w w' := by
  have S := Lib.hid (fun w => size_any s.size (by omega) w)
  have R := Lib.hid (room_any a len cap l ((wrt s.size).length + s.size) w hl (by omega) (by have := wrt_ten s.size (by omega); omega) hb)
  have W := Lib.hid (fun A k c xs w' hk hm ho hr hB => write_any A k c w.heap.size xs s.size w' hk hm (by omega) ho hr hB)
  have HL := Lib.hid hl
  have HR := Lib.hid hb.2
  have HQ := Lib.hid (wrt_range s.size)
  have h10 := wrt_ten s.size (by omega)
  rw [Int.natCast_add] at R
  clear hl hb
  generalize wrt s.size = q at S R W HQ h10
  go_enter Try.func11, Try.ntmps11
  go_wp2_with fail
  refine (S.out _).mono ?_
  rintro e w' ⟨rfl, rfl⟩
  go_wp2_with fail
  refine R.out.mono ?_
  rintro e w1 ⟨rfl, ho, hb⟩
  have hz := hb.size
  go_wp2_with fail
  refine (W.out _ _ _ l _ HL.out (by omega) ho HR.out hb.size).mono ?_
  rintro e w2 ⟨A', k', c', rfl, hk, ho2, hb2⟩
  have O2 := Lib.hid ho2
  have B2 := Lib.hid (hb.trans hb2)
  have hk3 : k' + s.size ≤ 100000 := by rw [← hk, List.length_append, HL.out]; omega
  have K3 := Lib.hid (show (l ++ q ++ txt s).length = k' + s.size by rw [List.length_append, hk, txt_length])
  have HX := Lib.hid (range_app HR.out HQ.out)
  clear hk ho hb ho2 hb2
  go_wp2_with (at_builtin; refine wp_appstr (.tmp 17) (.tmp 18) _ rfl rfl w.heap.size _ (l ++ q) rfl O2.out s rfl HX.out (k' + s.size) K3.out (by omega) B2.out.size ?_; intro A2 c2 w3 hO3 _ hb3; have O3 := Lib.hid hO3; have B3 := Lib.hid (B2.out.trans hb3); clear hO3 hb3)
  go_ret
  exact ⟨A2, k' + s.size, c2, rfl, K3.out, O3.out, B3.out⟩
end Go.Proofs.Ytclbhnmgpljboaa
