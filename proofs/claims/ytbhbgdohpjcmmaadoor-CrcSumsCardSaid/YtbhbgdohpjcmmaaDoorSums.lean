/- CrcSums: the walk of the statement's own function. -/
import Derived.Test.YtbhbgdohpjcmmaaDoorC
namespace Go.Proofs.YtbhbgdohpjcmmaaDoor
open Go Go.RowKit Crc

set_option maxHeartbeats 400000 in
theorem sums_walk (a : Option Addr) (len cap : Nat) (l : List Int) (r : BitVec 32) (w : World) (hl : l.length = len) (hm : len ≤ maxLen) (hn : a = none → cap = 0) (hb : Byt w a l) (ht : Tab w) :
    Calls Tryd.prog 3 #[.slice a len cap, .int .u32 (r.toNat : Int)] w fun e w' => e = .returned (.bool true) ∧ Below w.heap.size w w' := by
  have HL := Lib.hid hl
  have HN := Lib.hid hn
  have HM := Lib.hid hm
  have HY := Lib.hid hb
  have HT := Lib.hid ht
  clear hl hm hn hb ht
  by_cases h5 : 5000 < len
  · go_enter Tryd.func3, Tryd.ntmps3
    go_wp2_with (go_at_call 6; refine (fixed_any _ HT.out).mono ?_; rintro e w' ⟨rfl, hbel⟩)
    go_ret
    exact ⟨rfl, hbel⟩
  · have B1 := Lib.hid ((Below.refl w.heap.size w).alloc (Nat.le_refl _) (.cells #[] 5))
    have hd : decide ((5000 : Int) < (len : Int)) = false := by simp; omega
    go_enter Tryd.func3, Tryd.ntmps3
    go_wp2_with (at_builtin; refine wp_app (.tmp 10) (.tmp 11) _ rfl rfl w.heap.size _ [] rfl (Own.empty w) a len cap l rfl HL.out (HY.out.below B1.out) HN.out (by simp) len (by simpa using HL.out) (by omega) (by simp) ?_; intro A' c' w1 _ hY1 hbel; rw [List.nil_append] at hY1; have Y1 := Lib.hid hY1; have B2 := Lib.hid (B1.out.trans hbel); clear hY1 hbel)
    have T1 := Lib.hid (HT.out.below B2.out HT.out.lt)
    have Y2 := Lib.hid (HY.out.below B2.out)
    refine (fixed_any _ T1.out).mono ?_
    rintro e w2 ⟨rfl, hb2⟩
    have T2 := Lib.hid (T1.out.below hb2 T1.out.lt)
    have Y3 := Lib.hid (Y1.out.below hb2)
    have Y4 := Lib.hid (Y2.out.below hb2)
    have B3 := Lib.hid (B2.out.trans (hb2.mono B2.out.size))
    have hs1 := run_str w2 A' len c' l HL.out Y3.out
    have hs2 := run_str w2 a len cap l HL.out Y4.out
    clear hb2
    go_wp2_with fail
    refine (sum_any A' len c' l _ HL.out HM.out Y3.out T2.out).mono ?_
    rintro e w' ⟨rfl, rfl⟩
    go_wp2_with fail
    refine (rsum_any a len cap l _ HL.out HM.out Y4.out).mono ?_
    rintro e w' ⟨rfl, rfl⟩
    go_wp2_with fail
    refine (more_any A' len c' l r _ HL.out HM.out Y3.out T2.out).mono ?_
    rintro e w' ⟨rfl, rfl⟩
    go_wp2_with fail
    refine (rmore_any a len cap l r _ HL.out HM.out Y4.out).mono ?_
    rintro e w' ⟨rfl, rfl⟩
    go_wp2
    go_ret
    exact ⟨rfl, B3.out⟩
end Go.Proofs.YtbhbgdohpjcmmaaDoor
