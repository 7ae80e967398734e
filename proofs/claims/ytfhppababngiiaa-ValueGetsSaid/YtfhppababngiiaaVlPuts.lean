/- ValuePuts: the walk of the statement's own function. -/
import Derived.Test.YtfhppababngiiaaVlOnly
namespace Go.Proofs.Ytfhppababngiiaa
open Go Go.RowKit Pk Rl

theorem Rat4.alloc (w : World) (k n : Int) (b : Nat) (s : ByteArray) : Rat4 (w.alloc (rcells k n b s)) w.heap.size k n b s := by
  refine ⟨?_, ?_, ?_, ?_⟩ <;> simp [go_sem]
theorem Rat4.next {w w' : World} {a : Nat} {k n : Int} {b : Nat} {s : ByteArray} (h : Rat4 w a k n b s) (hb : Below w.heap.size w w') : Rat4 w' a k n b s := by
  obtain ⟨h0, h1, h2, h3⟩ := h
  refine ⟨?_, ?_, ?_, ?_⟩
  · rw [hb.cell (World.block_lt_of_cell? _ _ h0)]; exact h0
  · rw [hb.cell (World.block_lt_of_cell? _ _ h1)]; exact h1
  · rw [hb.cell (World.block_lt_of_cell? _ _ h2)]; exact h2
  · rw [hb.cell (World.block_lt_of_cell? _ _ h3)]; exact h3
theorem wv_range (k n : Int) (r : Nat) (s : ByteArray) (hk : 0 ≤ k ∧ k < 256) : ∀ c ∈ wv k n r s, 0 ≤ c ∧ c < 256 := by
  unfold wv
  refine range_app (fun c hc => by rw [List.mem_singleton] at hc; subst hc; exact hk) ?_
  split
  · exact wrt_range _
  · split
    · exact w8_range _
    · split
      · exact range_app (wrt_range _) (txt_range _)
      · simp

set_option maxHeartbeats 4000000 in
set_option maxRecDepth 100000 in
theorem puts_ok (a : Option Addr) (len cap : Nat) (l : List Int) (k n : Int) (b : Nat) (s : ByteArray) (w : World) (hl : l.length = len) (hm : len ≤ 2000) (hn : a = none → cap = 0) (hb : Byt w a l)
    (hG : decide ((2000 : Int) < (s.size : Int)) = false) (hmay : may k n b s = true) (n0 : -9223372036854775808 ≤ n) (n1 : n ≤ 9223372036854775807) (hr : b < 18446744073709551616) :
    Calls Try.prog 4 #[.slice a len cap, rw4 k n b s] w fun e w' => e = .returned (.bool true) ∧ Below w.heap.size w w' := by
  have A0 := Lib.hid (Rat4.alloc w k n b s)
  have B0 := Lib.hid ((Below.refl w.heap.size w).alloc (Nat.le_refl _) (rcells k n b s))
  have G := Lib.hid (fun g w c0 c1 c2 c3 => great1_1 g k n b s w c0 c1 c2 c3 hG)
  have R := Lib.hid (fun w => raw_any k n b s w)
  have P := Lib.hid (fun a len cap w hl hm hn hb => vput_any a len cap l k n b s w hmay n0 n1 hr hl hm hn hb)
  have P' := Lib.hid (fun w hb => rvput_any a len cap l k n b s w hmay n0 n1 hr hl (by omega) hn hb)
  have kb : 0 ≤ k ∧ k < 256 := by rcases may_facts hmay with ⟨rfl, _⟩ | ⟨rfl, _⟩ | ⟨rfl, _⟩ | ⟨rfl, _⟩ <;> omega
  have RW := Lib.hid (range_app hb.2 (wv_range k n b s kb))
  have VG := Lib.hid (vg_back l k n b s hmay n0 n1 hr)
  have SM := Lib.hid (fun w => rvsame_any k n (bt b) s k n b s (bt_lt b hr) hr w)
  rw [sm_bt] at SM
  have KW := Lib.hid (show (l ++ wv k n b s).length ≤ 90000 by
    have : (wv k n b s).length ≤ 300 := by
      unfold wv
      rcases may_facts hmay with ⟨rfl, _⟩ | ⟨rfl, _⟩ | ⟨rfl, _⟩ | ⟨rfl, _, _, h5⟩
      · simp
      · have := wrt_ten (zig n) (zig_lt n n0 n1); simp; omega
      · simp [show (w8 (bt b)).length = 8 from rfl]
      · have := wrt_ten s.size (by omega); simp [txt_length]; omega
    rw [List.length_append]; omega)
  have FX := Lib.hid fixed_any
  have HL := Lib.hid hl
  have HB := Lib.hid hb
  have HN := Lib.hid hn
  have sf := run_store_float
  have hd : decide ((2000 : Int) < (len : Int)) = false := by simp; omega
  clear hl hb hn hG hmay n0 n1 hr kb
  generalize wv k n b s = q at P P' RW VG KW
  generalize bt b = b' at VG SM
  go_enter Try.func4, Try.ntmps4
  go_wp2_with fail
  refine (G.out _ _ (by simp [go_sem]) (by simp [go_sem]) (by simp [go_sem]) (by simp [go_sem])).mono ?_
  rintro e w1 ⟨rfl, hbl⟩
  have hbl' := ((Below.refl _ _).alloc (Nat.le_refl _) _).trans (hbl.mono (by simp))
  have A1 := Lib.hid (A0.out.next hbl')
  have B1 := Lib.hid (B0.out.trans (hbl'.mono (by simp)))
  clear hbl hbl' G A0 B0
  obtain ⟨c0, c1, c2, c3⟩ := A1.out
  go_wp2_with fail
  refine (R.out _).mono ?_
  rintro e w2 ⟨rfl, hbl⟩
  have B2 := Lib.hid (below_go B1.out hbl)
  clear hbl R A1 B1 c0 c1 c2 c3
  have V2 := Lib.hid (At4.alloc w2 k n b s)
  have BV := Lib.hid (B2.out.alloc B2.out.size (vcells k n b s))
  have O1 := Lib.hid (show Own ((w2.alloc (vcells k n b s)).alloc (.cells #[] 5)) (w2.heap.size + 1) (.slice (some ⟨w2.heap.size + 1, 0, none⟩) 0 0) [] from by have := Own.empty (w2.alloc (vcells k n b s)); simp only [World.size_alloc] at this; exact this)
  have BE := Lib.hid ((Below.refl (w2.heap.size + 1) (w2.alloc (vcells k n b s))).alloc (by simp) (.cells #[] 5))
  have ZE := Lib.hid (show w2.heap.size + 1 ≤ ((w2.alloc (vcells k n b s)).alloc (.cells #[] 5)).heap.size by simp)
  have ZV := Lib.hid (show (w2.alloc (vcells k n b s)).heap.size ≤ w2.heap.size + 1 by simp)
  have K1 := Lib.hid (show ([] ++ l).length = len by rw [List.nil_append]; exact HL.out)
  have R0 := Lib.hid (show ∀ c ∈ ([] : List Int), 0 ≤ c ∧ c < 256 by simp)
  go_wp2_with (at_builtin; refine wp_app (.tmp 25) (.tmp 26) _ rfl rfl (w2.heap.size + 1) _ [] rfl O1.out a len cap l rfl HL.out ((HB.out.below BV.out).below (BE.out.mono ZV.out)) HN.out R0.out len K1.out (by omega) ZE.out ?_; intro A3 cp3 w3 hO3 _ hb3; have O3 := Lib.hid hO3; have BX := Lib.hid ((BE.out.trans hb3).mono ZV.out); have V3 := Lib.hid (V2.out.next BX.out); have B3 := Lib.hid (below_go BV.out BX.out); clear hO3 hb3 O1 BE V2 BV BX K1 R0 ZE ZV; obtain ⟨c0, c1, c2, c3⟩ := V3.out)
  have OW := Lib.hid (show Own w3 w.heap.size (.slice A3 len cp3) l from by have := O3.out.mono (show w.heap.size ≤ _ from Nat.le_succ_of_le B2.out.size); rwa [List.nil_append] at this)
  clear O3
  refine (P.out A3 len cp3 w3 HL.out (by omega) OW.out.capz (OW.out.byt HB.out.2)).mono ?_
  rintro e w4 ⟨A4, k4, cp4, rfl, hk4, ho4, hbl⟩
  have B4 := Lib.hid (below_go B3.out hbl)
  have V4 := Lib.hid (V3.out.next hbl)
  have O4 := Lib.hid ho4
  have K4 := Lib.hid hk4
  have OW4 := Lib.hid (OW.out.below hbl)
  clear ho4 hk4 hbl OW V3 c0 c1 c2 c3 P
  obtain ⟨c0, c1, c2, c3⟩ := V4.out
  go_wp2_with fail
  refine (P'.out w4 (HB.out.below B4.out)).mono ?_
  rintro e w5 ⟨A5, k5, cp5, rfl, hk5, ho5, hbl⟩
  have B5 := Lib.hid (below_go B4.out hbl)
  have V5 := Lib.hid (V4.out.next hbl)
  have O5 := Lib.hid ho5
  have K5 := Lib.hid hk5
  have OS5 := Lib.hid (O4.out.below hbl)
  have OW5 := Lib.hid (OW4.out.below hbl)
  clear ho5 hk5 hbl OW4 O4 V4 c0 c1 c2 c3 P' B4 B3
  go_wp2_with fail
  refine (FX.out _).mono ?_
  rintro e w6 ⟨rfl, hbl⟩
  have B6 := Lib.hid (below_go B5.out hbl)
  have V6 := Lib.hid (V5.out.next hbl)
  have OS6 := Lib.hid (OS5.out.below hbl)
  have s1 := (OS6.out).str RW.out K4.out
  have s2 := (O5.out.below hbl).str RW.out K5.out
  have s3 := (OW5.out.below hbl).str HB.out.2 HL.out
  have s4 := run_str w6 a len cap l HL.out (HB.out.below B6.out)
  clear hbl V5 OS5 OW5 O5
  obtain ⟨c0, c1, c2, c3⟩ := V6.out
  have GT := Lib.hid (fun p hp => vget_any A4 k4 cp4 (l ++ q) p w6 K4.out (by have := KW.out; have := K4.out; omega) (OS6.out.le K4.out) hp (OS6.out.byt RW.out))
  have GT2 := Lib.hid (GT.out (l.length : Int) (by have := HL.out; omega))
  have VG2 := Lib.hid VG.out
  rw [VG.out, HL.out, K4.out] at GT2
  clear GT
  go_wp2_with fail
  refine GT2.out.mono ?_
  rintro e w7 ⟨rfl, hbl⟩
  have B7 := Lib.hid (below_go B6.out hbl)
  have V7 := Lib.hid (V6.out.next hbl)
  have z7 := World.block_lt_of_cell? _ _ V7.out.1
  clear hbl V6 c0 c1 c2 c3 s1 s2 s3 s4
  obtain ⟨c0, c1, c2, c3⟩ := V7.out
  have BZ := Lib.hid (B7.out.alloc B7.out.size (vcells k n b' s))
  go_wp2_with fail
  refine (SM.out _).mono ?_
  rintro e w8 ⟨rfl, hbl⟩
  have B8 := Lib.hid (below_go BZ.out hbl)
  clear hbl
  go_wp2_with fail
  go_ret
  exact ⟨rfl, B8.out⟩
end Go.Proofs.Ytfhppababngiiaa
