/- RecPuts: the walk of the statement's own function. -/
import Derived.Test.YteiajbeoglmmmaaDoorRcG
namespace Go.Proofs.YteiajbeoglmmmaaDoor
open Go Go.RowKit Crc
set_option maxRecDepth 20000

theorem Got.of {w : World} {l : List Int} {k : Nat} {e : Ending} {w' : World} (h : Got w l k e w') (r : List Int) (m : Nat) (h0 : fE l = 0) (h1 : nm l = m) (h2 : fR l = r) :
    ∃ A C, e = .returned (.tuple #[.slice A m C, .int .i64 ((k + (8 + m) : Nat) : Int), .int .i64 0]) ∧ Own w' w.heap.size (.slice A m C) r ∧ Below w.heap.size w w' := by
  rcases h with ⟨h, _⟩ | ⟨_, A, C, e, o, b⟩
  · exact absurd h0 h
  · rw [h1] at e o
    rw [h2] at o
    exact ⟨A, C, e, o, b⟩
theorem zeros_rng (n : Nat) : Rng (List.replicate n (0 : Int)) := by intro c hc; rw [List.mem_replicate] at hc; omega
set_option maxHeartbeats 2000000 in
theorem puts_short (a a2 : Option Addr) (n c m c2 : Nat) (l r0 : List Int) (w : World) (hl : l.length = n) (hb : Byt w a l) (hz : a = none → c = 0) (hr0 : r0.length = m) (hb2 : Byt w a2 r0) (hz2 : a2 = none → c2 = 0) (ht : Tab w) (h5 : n ≤ 5000) (h6 : m ≤ 5000) :
    Calls Tryd.prog 3 #[.slice a n c, .slice a2 m c2, .bool false] w fun e w' => e = .returned (.bool true) ∧ Below w.heap.size w w' := by
  have HL := Lib.hid hl
  have HB := Lib.hid hb
  have HZ := Lib.hid hz
  have HT := Lib.hid ht
  have d5 : decide ((5000 : Int) < (n : Int)) = false := by simp; omega
  have d6 : decide ((5000 : Int) < (m : Int)) = false := by simp; omega
  have HR2 := Lib.hid hb2
  have HZ2 := Lib.hid hz2
  have hrl := hr0
  have B0 := Lib.hid (Below.refl w.heap.size w)
  clear hr0 hb2 hz2
  have HRL := Lib.hid hrl
  clear hl hb hz ht hrl
  have B1 := Lib.hid (below_go B0.out (below_alloc w (.cells #[] 5)))
  have D1 := Lib.hid (below_alloc w (.cells #[] 5))
  have K1 := Lib.hid (show ([] ++ l).length = n by simp [HL.out])
  go_enter Tryd.func3, Tryd.ntmps3
  go_wp2_with ((with_reducible show wpList _ _ _ (Oper.mk (some 32) _ _ _ _ _ :: _) _ _); refine wp_app (.tmp 30) (.tmp 31) _ rfl rfl w.heap.size _ [] rfl (Own.empty w) a n c l rfl HL.out (HB.out.below B1.out) HZ.out (by simp) n K1.out (by omega) D1.out.size ?_; intro A1 c1 w1 hO1 hY1 hb1)
  have D2 := Lib.hid (D1.out.trans hb1)
  have B2 := Lib.hid (below_go B0.out D2.out)
  have Y1 := Lib.hid (show Byt w1 A1 l from hY1)
  have Z1 := Lib.hid hO1.capz
  clear hO1 hb1 hY1
  have P1 := Lib.hid (put_ok A1 a2 n c1 m c2 l r0 w1 HL.out (by omega) Y1.out HRL.out (by omega) (HR2.out.below D2.out) (HT.out.below B2.out HT.out.lt))
  refine P1.out.mono ?_
  rintro e w3 ⟨A3, T, hT, rfl, hO3, hY3, hb3⟩
  have B3 := Lib.hid (below_go B2.out hb3)
  have D3 := Lib.hid (below_go D2.out hb3)
  have Y3 := Lib.hid hY3
  have Y1b := Lib.hid (Y1.out.below hb3)
  have HTT := Lib.hid hT
  clear hO3 hY3 hb3 hT P1
  have P2 := Lib.hid (rput_ok a a2 n c m c2 l r0 w3 HL.out (by omega) (HB.out.below B3.out) HZ.out HRL.out (by omega) (HR2.out.below D3.out) HZ2.out)
  go_wp2_with fail
  refine P2.out.mono ?_
  rintro e w4 ⟨A4, T4, C4, hT4, rfl, hO4, hY4, hb4⟩
  obtain rfl : T4 = T := hT4.trans HTT.out.symm
  have B4 := Lib.hid (below_go B3.out hb4)
  have D4 := Lib.hid (below_go D3.out hb4)
  have Y3b := Lib.hid (Y3.out.below hb4)
  have Y1c := Lib.hid (Y1b.out.below hb4)
  have Y4 := Lib.hid hY4
  clear hO4 hY4 hb4 hT4 P2 Y1b
  go_wp2_with fail
  refine (fixed_any w4 (HT.out.below B4.out HT.out.lt)).mono ?_
  rintro e w5 ⟨rfl, hb5⟩
  have B5 := Lib.hid (below_go B4.out hb5)
  have LX := Lib.hid (show (l ++ fr r0).length = T4 by rw [List.length_append, fr_len, HL.out, HRL.out, HTT.out])
  have st1 := run_str w5 A3 T4 T4 (l ++ fr r0) LX.out (Y3b.out.below hb5)
  have st2 := run_str w5 A4 T4 C4 (l ++ fr r0) LX.out (Y4.out.below hb5)
  have st3 := run_str w5 A1 n c1 l HL.out (Y1c.out.below hb5)
  have st4 := run_str w5 a n c l HL.out (HB.out.below B5.out)
  have D5 := Lib.hid (below_go D4.out hb5)
  have G := get_in A3 T4 T4 (l ++ fr r0) n w5 LX.out (by have := HTT.out; omega) (Nat.le_refl _) (by have := HTT.out; omega) (Y3b.out.below hb5) (HT.out.below B5.out HT.out.lt)
  rw [List.drop_left' HL.out] at G
  have HG := Lib.hid G
  clear hb5 G Y3b Y4 Y1c
  generalize strOfNums (l ++ fr r0) = X at st1 st2
  generalize strOfNums l = Y at st3 st4
  go_wp2_with fail
  refine HG.out.mono ?_
  intro e w6 hg
  obtain ⟨f1, f2, f3, -⟩ := fr_found r0 [] (by rw [HRL.out]; omega)
  rw [List.append_nil] at f1 f2 f3
  obtain ⟨A6, C6, rfl, hO6, hb6⟩ := hg.of r0 m f2 (by rw [f1, HRL.out]) f3
  have B6 := Lib.hid (below_go B5.out hb6)
  have st5 := hO6.str HR2.out.2 HRL.out
  have st6 := run_str w6 a2 m c2 r0 HRL.out (HR2.out.below (below_go D5.out hb6))
  have SZ := Lib.hid (size_any a2 m c2 w6 (by omega))
  have eT : (T4 : Int) = (n : Int) + (8 + (m : Int)) := by have := HTT.out; omega
  clear hg f1 f2 f3 hO6 hb6 HG st1 st2 st3 st4
  generalize strOfNums r0 = Z at st5 st6
  go_wp2_with fail
  refine SZ.out.mono ?_
  rintro e w' ⟨rfl, rfl⟩
  go_wp2
  go_ret
  exact ⟨by simp, B6.out⟩
set_option maxHeartbeats 2000000 in
theorem puts_even (a a2 : Option Addr) (n c m c2 : Nat) (l : List Int) (w : World) (hl : l.length = n) (hb : Byt w a l) (hz : a = none → c = 0) (ht : Tab w) (h5 : n ≤ 5000) (h6 : m ≤ 5000) (hq : m % 2 = 0) :
    Calls Tryd.prog 3 #[.slice a n c, .slice a2 m c2, .bool true] w fun e w' => e = .returned (.bool true) ∧ Below w.heap.size w w' := by
  have HL := Lib.hid hl
  have HB := Lib.hid hb
  have HZ := Lib.hid hz
  have HT := Lib.hid ht
  have d5 : decide ((5000 : Int) < (n : Int)) = false := by simp; omega
  have d6 : decide ((5000 : Int) < (m : Int)) = false := by simp; omega
  obtain ⟨M, hM⟩ : ∃ M : Nat, M = 65536 := ⟨_, rfl⟩
  have B0 := Lib.hid (below_alloc w (.cells (madeCells #[.int .u8 0] M) 5))
  obtain ⟨W, hW⟩ : ∃ W, w.alloc (.cells (madeCells #[.int .u8 0] M) 5) = W := ⟨_, rfl⟩
  have mk : (Instr.makeSlice 22 (.int .i64 65536) (.int .i64 65536)).run Tryd.prog w = .ok (.slice (some ⟨w.heap.size, 0, none⟩) M M) (w.alloc (.cells (madeCells #[.int .u8 0] M) 5)) := by
    rw [show (65536 : Int) = (M : Int) by omega]
    exact run_mk w M M (Nat.le_refl _) (by omega) (M : Int) rfl
  obtain ⟨r, hr⟩ : ∃ r, List.replicate M (0 : Int) = r := ⟨_, rfl⟩
  have hrl : r.length = M := by rw [← hr, List.length_replicate]
  have HR2 := Lib.hid (show Byt W (some ⟨w.heap.size, 0, none⟩) r by rw [← hW, ← hr]; exact (made_ex w M).byt (zeros_rng _))
  rw [hW] at B0 mk
  have HZ2 := Lib.hid (show (some (⟨w.heap.size, 0, none⟩ : Addr)) = none → M = 0 from fun h => by cases h)
  have q1 : (m : Int) % 2 = 0 := by omega
  have M1 : M ≤ 65537 := by omega
  have M2 : M ≤ 65536 := by omega
  clear hr hW hq hM
  have HRL := Lib.hid hrl
  clear hl hb hz ht hrl
  have B1 := Lib.hid (below_go B0.out (below_alloc W (.cells #[] 5)))
  have D1 := Lib.hid (below_alloc W (.cells #[] 5))
  have K1 := Lib.hid (show ([] ++ l).length = n by simp [HL.out])
  go_enter Tryd.func3, Tryd.ntmps3
  go_wp2_with ((with_reducible show wpList _ _ _ (Oper.mk (some 32) _ _ _ _ _ :: _) _ _); refine wp_app (.tmp 30) (.tmp 31) _ rfl rfl W.heap.size _ [] rfl (Own.empty W) a n c l rfl HL.out (HB.out.below B1.out) HZ.out (by simp) n K1.out (by omega) D1.out.size ?_; intro A1 c1 w1 hO1 hY1 hb1)
  have D2 := Lib.hid (D1.out.trans hb1)
  have B2 := Lib.hid (below_go B0.out D2.out)
  have Y1 := Lib.hid (show Byt w1 A1 l from hY1)
  have Z1 := Lib.hid hO1.capz
  clear hO1 hb1 hY1
  have P1 := Lib.hid (put_ok A1 (some ⟨w.heap.size, 0, none⟩) n c1 M M l r w1 HL.out (by omega) Y1.out HRL.out (by omega) (HR2.out.below D2.out) (HT.out.below B2.out HT.out.lt))
  refine P1.out.mono ?_
  rintro e w3 ⟨A3, T, hT, rfl, hO3, hY3, hb3⟩
  have B3 := Lib.hid (below_go B2.out hb3)
  have D3 := Lib.hid (below_go D2.out hb3)
  have Y3 := Lib.hid hY3
  have Y1b := Lib.hid (Y1.out.below hb3)
  have HTT := Lib.hid hT
  clear hO3 hY3 hb3 hT P1
  have P2 := Lib.hid (rput_ok a (some ⟨w.heap.size, 0, none⟩) n c M M l r w3 HL.out (by omega) (HB.out.below B3.out) HZ.out HRL.out (by omega) (HR2.out.below D3.out) HZ2.out)
  go_wp2_with fail
  refine P2.out.mono ?_
  rintro e w4 ⟨A4, T4, C4, hT4, rfl, hO4, hY4, hb4⟩
  obtain rfl : T4 = T := hT4.trans HTT.out.symm
  have B4 := Lib.hid (below_go B3.out hb4)
  have D4 := Lib.hid (below_go D3.out hb4)
  have Y3b := Lib.hid (Y3.out.below hb4)
  have Y1c := Lib.hid (Y1b.out.below hb4)
  have Y4 := Lib.hid hY4
  clear hO4 hY4 hb4 hT4 P2 Y1b
  go_wp2_with fail
  refine (fixed_any w4 (HT.out.below B4.out HT.out.lt)).mono ?_
  rintro e w5 ⟨rfl, hb5⟩
  have B5 := Lib.hid (below_go B4.out hb5)
  have LX := Lib.hid (show (l ++ fr r).length = T4 by rw [List.length_append, fr_len, HL.out, HRL.out, HTT.out])
  have st1 := run_str w5 A3 T4 T4 (l ++ fr r) LX.out (Y3b.out.below hb5)
  have st2 := run_str w5 A4 T4 C4 (l ++ fr r) LX.out (Y4.out.below hb5)
  have st3 := run_str w5 A1 n c1 l HL.out (Y1c.out.below hb5)
  have st4 := run_str w5 a n c l HL.out (HB.out.below B5.out)
  have D5 := Lib.hid (below_go D4.out hb5)
  have G := get_in A3 T4 T4 (l ++ fr r) n w5 LX.out (by have := HTT.out; omega) (Nat.le_refl _) (by have := HTT.out; omega) (Y3b.out.below hb5) (HT.out.below B5.out HT.out.lt)
  rw [List.drop_left' HL.out] at G
  have HG := Lib.hid G
  clear hb5 G Y3b Y4 Y1c
  generalize strOfNums (l ++ fr r) = X at st1 st2
  generalize strOfNums l = Y at st3 st4
  go_wp2_with fail
  refine HG.out.mono ?_
  intro e w6 hg
  obtain ⟨f1, f2, f3, -⟩ := fr_found r [] (by rw [HRL.out]; omega)
  rw [List.append_nil] at f1 f2 f3
  obtain ⟨A6, C6, rfl, hO6, hb6⟩ := hg.of r M f2 (by rw [f1, HRL.out]) f3
  have B6 := Lib.hid (below_go B5.out hb6)
  have st5 := hO6.str HR2.out.2 HRL.out
  have st6 := run_str w6 (some ⟨w.heap.size, 0, none⟩) M M r HRL.out (HR2.out.below (below_go D5.out hb6))
  have SZ := Lib.hid (size_any (some ⟨w.heap.size, 0, none⟩) M M w6 (by omega))
  have eT : (T4 : Int) = (n : Int) + (8 + (M : Int)) := by have := HTT.out; omega
  clear hg f1 f2 f3 hO6 hb6 HG st1 st2 st3 st4
  generalize strOfNums r = Z at st5 st6
  go_wp2_with fail
  refine SZ.out.mono ?_
  rintro e w' ⟨rfl, rfl⟩
  go_wp2
  go_ret
  exact ⟨by simp, B6.out⟩
set_option maxHeartbeats 2000000 in
theorem puts_odd (a a2 : Option Addr) (n c m c2 : Nat) (l : List Int) (w : World) (hl : l.length = n) (hb : Byt w a l) (hz : a = none → c = 0) (ht : Tab w) (h5 : n ≤ 5000) (h6 : m ≤ 5000) (hq : m % 2 = 1) :
    Calls Tryd.prog 3 #[.slice a n c, .slice a2 m c2, .bool true] w fun e w' => e = .returned (.bool true) ∧ Below w.heap.size w w' := by
  have HL := Lib.hid hl
  have HB := Lib.hid hb
  have HZ := Lib.hid hz
  have HT := Lib.hid ht
  have d5 : decide ((5000 : Int) < (n : Int)) = false := by simp; omega
  have d6 : decide ((5000 : Int) < (m : Int)) = false := by simp; omega
  obtain ⟨M, hM⟩ : ∃ M : Nat, M = 65537 := ⟨_, rfl⟩
  have B0 := Lib.hid (below_alloc w (.cells (madeCells #[.int .u8 0] M) 5))
  obtain ⟨W, hW⟩ : ∃ W, w.alloc (.cells (madeCells #[.int .u8 0] M) 5) = W := ⟨_, rfl⟩
  have mk : (Instr.makeSlice 22 (.int .i64 65537) (.int .i64 65537)).run Tryd.prog w = .ok (.slice (some ⟨w.heap.size, 0, none⟩) M M) (w.alloc (.cells (madeCells #[.int .u8 0] M) 5)) := by
    rw [show (65537 : Int) = (M : Int) by omega]
    exact run_mk w M M (Nat.le_refl _) (by omega) (M : Int) rfl
  obtain ⟨r, hr⟩ : ∃ r, List.replicate M (0 : Int) = r := ⟨_, rfl⟩
  have hrl : r.length = M := by rw [← hr, List.length_replicate]
  have HR2 := Lib.hid (show Byt W (some ⟨w.heap.size, 0, none⟩) r by rw [← hW, ← hr]; exact (made_ex w M).byt (zeros_rng _))
  rw [hW] at B0 mk
  have HZ2 := Lib.hid (show (some (⟨w.heap.size, 0, none⟩ : Addr)) = none → M = 0 from fun h => by cases h)
  have q1 : (m : Int) % 2 = 1 := by omega
  have d7 : decide ((65536 : Int) < (M : Int)) = true := by simp; omega
  have M2 : 65536 < M := by omega
  clear hr hW hq hM
  have HRL := Lib.hid hrl
  clear hl hb hz ht hrl
  have B1 := Lib.hid (below_go B0.out (below_alloc W (.cells #[] 5)))
  have D1 := Lib.hid (below_alloc W (.cells #[] 5))
  have K1 := Lib.hid (show ([] ++ l).length = n by simp [HL.out])
  go_enter Tryd.func3, Tryd.ntmps3
  go_wp2_with ((with_reducible show wpList _ _ _ (Oper.mk (some 32) _ _ _ _ _ :: _) _ _); refine wp_app (.tmp 30) (.tmp 31) _ rfl rfl W.heap.size _ [] rfl (Own.empty W) a n c l rfl HL.out (HB.out.below B1.out) HZ.out (by simp) n K1.out (by omega) D1.out.size ?_; intro A1 c1 w1 hO1 hY1 hb1)
  have D2 := Lib.hid (D1.out.trans hb1)
  have B2 := Lib.hid (below_go B0.out D2.out)
  have Y1 := Lib.hid (show Byt w1 A1 l from hY1)
  have Z1 := Lib.hid hO1.capz
  clear hO1 hb1 hY1
  refine (put_long A1 (some ⟨w.heap.size, 0, none⟩) n c1 M M w1 (by omega)).mono ?_
  rintro e w' ⟨rfl, rfl⟩
  go_wp2_with fail
  refine (rput_long a (some ⟨w.heap.size, 0, none⟩) n c M M w1 (by omega)).mono ?_
  rintro e w4 ⟨rfl, hb4⟩
  have B4 := Lib.hid (below_go B2.out hb4)
  have Y1c := Lib.hid (Y1.out.below hb4)
  clear hb4
  go_wp2_with fail
  refine (fixed_any w4 (HT.out.below B4.out HT.out.lt)).mono ?_
  rintro e w5 ⟨rfl, hb5⟩
  have B5 := Lib.hid (below_go B4.out hb5)
  have st1 := run_str w5 none 0 0 [] rfl (Byt.nil _)
  have st2 := run_str w5 (some ⟨w1.heap.size, 0, none⟩) 0 0 [] rfl ⟨fun i hi => absurd hi (by simp), by simp⟩
  have st3 := run_str w5 A1 n c1 l HL.out (Y1c.out.below hb5)
  have st4 := run_str w5 a n c l HL.out (HB.out.below B5.out)
  clear hb5 Y1c
  generalize strOfNums [] = X at st1 st2
  generalize strOfNums l = Y at st3 st4
  go_wp2_with fail
  go_ret
  exact ⟨rfl, B5.out⟩
set_option maxHeartbeats 1000000 in
theorem puts_great (a a2 : Option Addr) (n c m c2 : Nat) (w : World) (lg : Bool) (ht : Tab w) (h5 : 5000 < n ∨ 5000 < m) :
    Calls Tryd.prog 3 #[.slice a n c, .slice a2 m c2, .bool lg] w fun e w' => e = .returned (.bool true) ∧ Below w.heap.size w w' := by
  have F := Lib.hid (fixed_any w ht)
  clear ht
  by_cases h : 5000 < n
  · have d5 : decide ((5000 : Int) < (n : Int)) = true := by simp; omega
    clear h5 h
    go_enter Tryd.func3, Tryd.ntmps3
    go_wp2_with fail
    refine F.out.mono ?_
    rintro e w1 ⟨rfl, hb1⟩
    go_wp2
    go_ret
    exact ⟨rfl, hb1⟩
  · have d5 : decide ((5000 : Int) < (n : Int)) = false := by simp; omega
    have d6 : decide ((5000 : Int) < (m : Int)) = true := by simp; omega
    clear h5 h
    go_enter Tryd.func3, Tryd.ntmps3
    go_wp2_with fail
    refine F.out.mono ?_
    rintro e w1 ⟨rfl, hb1⟩
    go_wp2
    go_ret
    exact ⟨rfl, hb1⟩
theorem puts_walk (a a2 : Option Addr) (n c m c2 : Nat) (l r0 : List Int) (lg : Bool) (w : World) (hl : l.length = n) (hb : Byt w a l) (hz : a = none → c = 0) (hr0 : r0.length = m) (hb2 : Byt w a2 r0) (hz2 : a2 = none → c2 = 0) (ht : Tab w) :
    Calls Tryd.prog 3 #[.slice a n c, .slice a2 m c2, .bool lg] w fun e w' => e = .returned (.bool true) ∧ Below w.heap.size w w' := by
  by_cases h : 5000 < n ∨ 5000 < m
  · exact puts_great a a2 n c m c2 w lg ht h
  · cases lg
    · exact puts_short a a2 n c m c2 l r0 w hl hb hz hr0 hb2 hz2 ht (by omega) (by omega)
    · by_cases hq : m % 2 = 0
      · exact puts_even a a2 n c m c2 l w hl hb hz ht (by omega) (by omega) hq
      · exact puts_odd a a2 n c m c2 l w hl hb hz ht (by omega) (by omega) (by omega)
end Go.Proofs.YteiajbeoglmmmaaDoor
