/- ValuePuts: values that are refused, long ones, and the walk whole. -/
import Derived.Test.YtfhppababngiiaaVlPuts
namespace Go.Proofs.Ytfhppababngiiaa
open Go Go.RowKit Pk Rl

set_option maxHeartbeats 4000000 in
set_option maxRecDepth 100000 in
theorem puts_no (a : Option Addr) (len cap : Nat) (l : List Int) (k n : Int) (b : Nat) (s : ByteArray) (w : World) (hl : l.length = len) (hm : len ≤ 2000) (hn : a = none → cap = 0) (hb : Byt w a l)
    (hG : decide ((2000 : Int) < (s.size : Int)) = false) (hmay : may k n b s = false) (k0 : 0 ≤ k) (hr : b < 18446744073709551616) :
    Calls Try.prog 4 #[.slice a len cap, rw4 k n b s] w fun e w' => e = .returned (.bool true) ∧ Below w.heap.size w w' := by
  have A0 := Lib.hid (Rat4.alloc w k n b s)
  have B0 := Lib.hid ((Below.refl w.heap.size w).alloc (Nat.le_refl _) (rcells k n b s))
  have G := Lib.hid (fun g w c0 c1 c2 c3 => great1_1 g k n b s w c0 c1 c2 c3 hG)
  have R := Lib.hid (fun w => raw_any k n b s w)
  have P := Lib.hid (fun v w => vput_no v k n b s (Lib.hid fun w => by rw [← hmay]; exact may_any k n b s hr w) w)
  have P' := Lib.hid (fun v w => rvput_no v k n b s (Lib.hid fun w => by rw [← hmay]; exact rmay_any k n b s k0 w) w)
  have FX := Lib.hid fixed_any
  have HL := Lib.hid hl
  have HB := Lib.hid hb
  have HN := Lib.hid hn
  have sf := run_store_float
  have hd : decide ((2000 : Int) < (len : Int)) = false := by simp; omega
  clear hl hb hn hG hmay k0 hr
  go_enter Try.func4, Try.ntmps4
  go_wp2_with fail
  refine (G.out _ _ (by simp [go_sem]) (by simp [go_sem]) (by simp [go_sem]) (by simp [go_sem])).mono ?_
  rintro e w1 ⟨rfl, hbl⟩
  have hbl' := ((Below.refl _ _).alloc (Nat.le_refl _) _).trans (hbl.mono (by simp))
  have A1 := Lib.hid (A0.out.next hbl')
  have B1 := Lib.hid (B0.out.trans (hbl'.mono (by simp)))
  clear hbl hbl' G A0 B0
  obtain ⟨c0, c1, c2, c3⟩ := A1.out
  go_wp2_with fail
  refine (R.out _).mono ?_
  rintro e w2 ⟨rfl, hbl⟩
  have B2 := Lib.hid (below_go B1.out hbl)
  clear hbl R A1 B1 c0 c1 c2 c3
  have V2 := Lib.hid (At4.alloc w2 k n b s)
  have BV := Lib.hid (B2.out.alloc B2.out.size (vcells k n b s))
  have O1 := Lib.hid (show Own ((w2.alloc (vcells k n b s)).alloc (.cells #[] 5)) (w2.heap.size + 1) (.slice (some ⟨w2.heap.size + 1, 0, none⟩) 0 0) [] from by have := Own.empty (w2.alloc (vcells k n b s)); simp only [World.size_alloc] at this; exact this)
  have BE := Lib.hid ((Below.refl (w2.heap.size + 1) (w2.alloc (vcells k n b s))).alloc (by simp) (.cells #[] 5))
  have ZE := Lib.hid (show w2.heap.size + 1 ≤ ((w2.alloc (vcells k n b s)).alloc (.cells #[] 5)).heap.size by simp)
  have ZV := Lib.hid (show (w2.alloc (vcells k n b s)).heap.size ≤ w2.heap.size + 1 by simp)
  have K1 := Lib.hid (show ([] ++ l).length = len by rw [List.nil_append]; exact HL.out)
  have R0 := Lib.hid (show ∀ c ∈ ([] : List Int), 0 ≤ c ∧ c < 256 by simp)
  go_wp2_with (at_builtin; refine wp_app (.tmp 25) (.tmp 26) _ rfl rfl (w2.heap.size + 1) _ [] rfl O1.out a len cap l rfl HL.out ((HB.out.below BV.out).below (BE.out.mono ZV.out)) HN.out R0.out len K1.out (by omega) ZE.out ?_; intro A3 cp3 w3 hO3 _ hb3; have O3 := Lib.hid hO3; have BX := Lib.hid ((BE.out.trans hb3).mono ZV.out); have V3 := Lib.hid (V2.out.next BX.out); have B3 := Lib.hid (below_go BV.out BX.out); clear hO3 hb3 O1 BE V2 BV BX K1 R0 ZE ZV; obtain ⟨c0, c1, c2, c3⟩ := V3.out)
  have OW := Lib.hid (show Own w3 w.heap.size (.slice A3 len cp3) l from by have := O3.out.mono (show w.heap.size ≤ _ from Nat.le_succ_of_le B2.out.size); rwa [List.nil_append] at this)
  clear O3
  refine (P.out _ w3).mono ?_
  rintro e w4 ⟨rfl, hbl⟩
  have B4 := Lib.hid (below_go B3.out hbl)
  have V4 := Lib.hid (V3.out.next hbl)
  have OW4 := Lib.hid (OW.out.below hbl)
  clear hbl OW V3 c0 c1 c2 c3 P
  obtain ⟨c0, c1, c2, c3⟩ := V4.out
  go_wp2_with fail
  refine (P'.out _ w4).mono ?_
  rintro e w5 ⟨A5, cp5, rfl, ho5, hbl⟩
  have B5 := Lib.hid (below_go B4.out hbl)
  have O5 := Lib.hid ho5
  have OW5 := Lib.hid (OW4.out.below hbl)
  clear ho5 hbl OW4 V4 c0 c1 c2 c3 P' B4 B3
  go_wp2_with fail
  refine (FX.out _).mono ?_
  rintro e w6 ⟨rfl, hbl⟩
  have B6 := Lib.hid (below_go B5.out hbl)
  have s1 := run_str w6 none 0 0 [] rfl (Byt.nil w6)
  have s2 := (O5.out.below hbl).str (by simp) rfl
  have s3 := (OW5.out.below hbl).str HB.out.2 HL.out
  have s4 := run_str w6 a len cap l HL.out (HB.out.below B6.out)
  clear hbl OW5 O5
  go_wp2_with fail
  go_ret
  exact ⟨rfl, B6.out⟩

set_option maxHeartbeats 2000000 in
theorem puts_great (a : Option Addr) (len cap : Nat) (k n : Int) (b : Nat) (s : ByteArray) (w : World) (hx : len ≤ 9223372036854775807) (hG : decide ((2000 : Int) < (s.size : Int)) = true ∨ 2000 < len) :
    Calls Try.prog 4 #[.slice a len cap, rw4 k n b s] w fun e w' => e = .returned (.bool true) ∧ Below w.heap.size w w' := by
  have B0 := Lib.hid ((Below.refl w.heap.size w).alloc (Nat.le_refl _) (rcells k n b s))
  have FX := Lib.hid fixed_any
  cases c : decide ((2000 : Int) < (s.size : Int))
  · have hd : decide ((2000 : Int) < (len : Int)) = true := by
      rcases hG with h | h
      · rw [c] at h; cases h
      · simp; omega
    have G := Lib.hid (fun g w c0 c1 c2 c3 => great1_1 g k n b s w c0 c1 c2 c3 c)
    clear hG c
    go_enter Try.func4, Try.ntmps4
    go_wp2_with fail
    refine (G.out _ _ (by simp [go_sem]) (by simp [go_sem]) (by simp [go_sem]) (by simp [go_sem])).mono ?_
    rintro e w1 ⟨rfl, hbl⟩
    have B1 := Lib.hid (B0.out.trans ((((Below.refl _ _).alloc (Nat.le_refl _) _).trans (hbl.mono (by simp))).mono (by simp)))
    clear hbl G
    go_wp2_with fail
    refine (FX.out _).mono ?_
    rintro e w' ⟨rfl, hb⟩
    go_wp2_with fail
    go_ret
    exact ⟨rfl, below_go B1.out hb⟩
  · have G := Lib.hid (fun g w c0 c1 c2 c3 => great1_0 g k n b s w c0 c1 c2 c3 c)
    clear hG c
    go_enter Try.func4, Try.ntmps4
    go_wp2_with fail
    refine (G.out _ _ (by simp [go_sem]) (by simp [go_sem]) (by simp [go_sem]) (by simp [go_sem])).mono ?_
    rintro e w1 ⟨rfl, hbl⟩
    have B1 := Lib.hid (B0.out.trans ((((Below.refl _ _).alloc (Nat.le_refl _) _).trans (hbl.mono (by simp))).mono (by simp)))
    clear hbl G
    go_wp2_with fail
    refine (FX.out _).mono ?_
    rintro e w' ⟨rfl, hb⟩
    go_wp2_with fail
    go_ret
    exact ⟨rfl, below_go B1.out hb⟩
theorem puts_walk (a : Option Addr) (len cap : Nat) (l : List Int) (k n : Int) (b : Nat) (s : ByteArray) (w : World) (hl : l.length = len) (hx : len ≤ maxLen) (hn : a = none → cap = 0) (hb : Byt w a l)
    (k0 : 0 ≤ k) (n0 : -9223372036854775808 ≤ n) (n1 : n ≤ 9223372036854775807) (hr : b < 18446744073709551616) :
    Calls Try.prog 4 #[.slice a len cap, rw4 k n b s] w fun e w' => e = .returned (.bool true) ∧ Below w.heap.size w w' := by
  unfold maxLen at hx
  by_cases c : decide ((2000 : Int) < (s.size : Int)) = true ∨ 2000 < len
  · exact puts_great a len cap k n b s w (by omega) c
  · have g : decide ((2000 : Int) < (s.size : Int)) = false := by
      cases h : decide ((2000 : Int) < (s.size : Int))
      · rfl
      · exact absurd (.inl h) c
    have hm : len ≤ 2000 := by
      rcases Nat.lt_or_ge 2000 len with h | h
      · exact absurd (.inr h) c
      · exact h
    cases hmay : may k n b s
    · exact puts_no a len cap l k n b s w hl hm hn hb g hmay k0 hr
    · exact puts_ok a len cap l k n b s w hl hm hn hb g hmay n0 n1 hr
end Go.Proofs.Ytfhppababngiiaa
