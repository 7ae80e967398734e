/- CrcParts: the walk of the statement's own function. -/
import Derived.Test.YtbhbgdohpjcmmaaDoorC
namespace Go.Proofs.YtbhbgdohpjcmmaaDoor
open Go Go.RowKit Crc

set_option maxHeartbeats 400000 in
theorem parts_walk (a : Option Addr) (len cap : Nat) (l : List Int) (a2 : Option Addr) (len2 cap2 : Nat) (l2 : List Int) (w : World)
    (hl : l.length = len) (hm : len ≤ maxLen) (hn : a = none → cap = 0) (hb : Byt w a l)
    (hl2 : l2.length = len2) (hm2 : len2 ≤ maxLen) (hn2 : a2 = none → cap2 = 0) (hb2 : Byt w a2 l2) (ht : Tab w) :
    Calls Tryd.prog 4 #[.slice a len cap, .slice a2 len2 cap2] w fun e w' => e = .returned (.bool true) ∧ Below w.heap.size w w' := by
  have HL := Lib.hid hl
  have HN := Lib.hid hn
  have HM := Lib.hid hm
  have HY := Lib.hid hb
  have HL2 := Lib.hid hl2
  have HN2 := Lib.hid hn2
  have HM2 := Lib.hid hm2
  have HY2 := Lib.hid hb2
  have HT := Lib.hid ht
  clear hl hm hn hb ht hl2 hm2 hn2 hb2
  by_cases h5 : 5000 < len
  · have hd : decide ((5000 : Int) < (len : Int)) = true := by simp; omega
    go_enter Tryd.func4, Tryd.ntmps4
    go_wp2_with (go_at_call 6; refine (fixed_any _ HT.out).mono ?_; rintro e w' ⟨rfl, hbel⟩)
    go_ret
    exact ⟨rfl, hbel⟩
  have hd : decide ((5000 : Int) < (len : Int)) = false := by simp; omega
  by_cases h6 : 5000 < len2
  · have hd2 : decide ((5000 : Int) < (len2 : Int)) = true := by simp; omega
    go_enter Tryd.func4, Tryd.ntmps4
    go_wp2_with (go_at_call 6; refine (fixed_any _ HT.out).mono ?_; rintro e w' ⟨rfl, hbel⟩)
    go_ret
    exact ⟨rfl, hbel⟩
  have hd2 : decide ((5000 : Int) < (len2 : Int)) = false := by simp; omega
  have B1 := Lib.hid ((Below.refl w.heap.size w).alloc (Nat.le_refl _) (.cells #[] 5))
  obtain ⟨N, hN⟩ : ∃ N, (l ++ l2).length = N := ⟨_, rfl⟩
  have HK := Lib.hid hN
  have HK2 := Lib.hid (show N ≤ 10000 by rw [← hN, List.length_append, HL.out, HL2.out]; omega)
  clear hN
  go_enter Tryd.func4, Tryd.ntmps4
  go_wp2_with (first | (at_builtin; refine wp_app (.tmp 16) (.tmp 17) _ rfl rfl w.heap.size _ [] rfl (Own.empty w) a len cap l rfl HL.out (HY.out.below B1.out) HN.out (by simp) len (by simpa using HL.out) (by omega) (by simp) ?_; intro A1 c1 w1 ho hY1 hbel; rw [List.nil_append] at ho; have O1 := Lib.hid ho; have B2 := Lib.hid (B1.out.trans hbel); clear ho hY1 hbel) | (at_builtin; refine wp_app (.tmp 18) (.tmp 19) _ rfl rfl w.heap.size _ l rfl O1.out a2 len2 cap2 l2 rfl HL2.out (HY2.out.below B2.out) HN2.out HY.out.2 N HK.out (Nat.le_trans HK2.out (by omega)) B2.out.size ?_; intro A3 c3 w3 ho hY1 hbel; have Y3 := Lib.hid hY1; have B3 := Lib.hid (B2.out.trans hbel); clear ho hY1 hbel))
  have T3 := Lib.hid (HT.out.below B3.out HT.out.lt)
  have Y1 := Lib.hid (HY.out.below B3.out)
  have Y2 := Lib.hid (HY2.out.below B3.out)
  have HN4 : N ≤ maxLen := Nat.le_trans HK2.out (by decide)
  have HN5 := Lib.hid HN4
  clear HN4
  refine (sum_any A3 N c3 (l ++ l2) _ HK.out HN5.out Y3.out T3.out).mono ?_
  rintro e w' ⟨rfl, rfl⟩
  go_wp2_with fail
  refine (fixed_any _ T3.out).mono ?_
  rintro e w4 ⟨rfl, hb4⟩
  have T4 := Lib.hid (T3.out.below hb4 T3.out.lt)
  have Y5 := Lib.hid (Y1.out.below hb4)
  have Y6 := Lib.hid (Y2.out.below hb4)
  have B4 := Lib.hid (B3.out.trans (hb4.mono B3.out.size))
  clear hb4
  obtain ⟨sa, SA⟩ : ∃ s, sum 0#32 l = s := ⟨_, rfl⟩
  obtain ⟨sb, SB⟩ : ∃ s, sum 0#32 l2 = s := ⟨_, rfl⟩
  have E1 := Lib.hid (show sum sa l2 = sum 0#32 (l ++ l2) by rw [← SA, sum_append])
  have E2 := Lib.hid (show stn (8 * len2) sa ^^^ sb = sum 0#32 (l ++ l2) by rw [← SA, ← SB, ← HL2.out, sum_join])
  have C1 := sum_any a len cap l _ HL.out HM.out Y5.out T4.out
  have C2 := more_any a2 len2 cap2 l2 sa _ HL2.out HM2.out Y6.out T4.out
  have C3 := sum_any a2 len2 cap2 l2 _ HL2.out HM2.out Y6.out T4.out
  have C4 := join_any sa sb len2 (by omega) w4
  rw [SA] at C1
  rw [E1.out] at C2
  rw [SB] at C3
  rw [E2.out] at C4
  have D1 := Lib.hid C1
  have D2 := Lib.hid C2
  have D3 := Lib.hid C3
  have D4 := Lib.hid C4
  clear C1 C2 C3 C4 SA SB
  generalize sum 0#32 (l ++ l2) = S at *
  go_wp2_with fail
  refine D1.out.mono ?_
  rintro e w' ⟨rfl, rfl⟩
  go_wp2_with fail
  refine D2.out.mono ?_
  rintro e w' ⟨rfl, rfl⟩
  go_wp2_with fail
  refine D1.out.mono ?_
  rintro e w' ⟨rfl, rfl⟩
  go_wp2_with fail
  refine D3.out.mono ?_
  rintro e w' ⟨rfl, rfl⟩
  go_wp2_with fail
  refine D4.out.mono ?_
  rintro e w' ⟨rfl, rfl⟩
  go_wp2
  go_ret
  exact ⟨rfl, B4.out⟩
end Go.Proofs.YtbhbgdohpjcmmaaDoor
