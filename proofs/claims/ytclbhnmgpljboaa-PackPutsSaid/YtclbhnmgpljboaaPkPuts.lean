/- PackPuts: the walk of the statement's own function. -/
import Derived.Test.YtclbhnmgpljboaaPkFit
import Derived.Deep.RegionHeld
namespace Go.Proofs.Ytclbhnmgpljboaa
open Go Go.RowKit Pk Rl

theorem below_go {w5 W W' : World} (h : Below w5.heap.size w5 W) (k : Below W.heap.size W W') : Below w5.heap.size w5 W' := h.trans (k.mono h.size)

set_option maxHeartbeats 2000000 in
set_option maxRecDepth 100000 in
theorem puts_walk (a : Option Addr) (len cap : Nat) (l : List Int) (n : Nat) (i : Int) (s : ByteArray) (x : Nat) (w : World)
    (hl : l.length = len) (hx : len ≤ maxLen) (hcap : a = none → cap = 0) (hn : n < 18446744073709551616) (i0 : -9223372036854775808 ≤ i) (i1 : i ≤ 9223372036854775807) (hs : s.size ≤ maxLen) (hbx : x < 18446744073709551616) (hb : Byt w a l) :
    Calls Try.prog 3 #[.slice a len cap, .int .u64 (n : Int), .int .i64 i, .string s, .int .u64 (x : Int)] w fun e w' => e = .returned (.bool true) ∧ Below w.heap.size w w' := by
  unfold maxLen at hx hs
  by_cases h5 : 2000 < len ∨ 2000 < s.size
  · clear hl hb hcap
    by_cases h6 : 2000 < len
    · go_enter Try.func3, Try.ntmps3
      go_wp2_with fail
      refine (fixed_any _).mono ?_
      rintro e w1 ⟨rfl, hb⟩
      have B1 := Lib.hid hb
      clear hb
      go_wp2
      go_ret
      exact ⟨rfl, B1.out⟩
    · have h8 : 2000 < s.size := by omega
      go_enter Try.func3, Try.ntmps3
      go_wp2_with fail
      refine (fixed_any _).mono ?_
      rintro e w1 ⟨rfl, hb⟩
      have B1 := Lib.hid hb
      clear hb
      go_wp2
      go_ret
      exact ⟨rfl, B1.out⟩
  · have t1 : len ≤ 2000 := by omega
    have t3 : s.size ≤ 2000 := by omega
    have d1 : decide ((2000 : Int) < (len : Int)) = false := by simp; omega
    have d3 : decide ((2000 : Int) < (s.size : Int)) = false := by simp; omega
    clear h5 hx hs
    have r15 := run15 x
    have P1 := Lib.hid (fun A c w hb => put_any A len c l n w hl (by omega) hn hb)
    have P2 := Lib.hid (fun A c w hb => putInt_any A len c l i w hl (by omega) i0 i1 hb)
    have P3 := Lib.hid (fun A c w hb => putText_any A len c l s w hl (by omega) (by omega) hb)
    have P4 := Lib.hid (fun A c w hb => putReal_any A len c l x w hl (by omega) hbx hb)
    have Q1 := Lib.hid (fun w hb => rput_any a len cap l n w hl (by omega) hcap hn hb)
    have Q2 := Lib.hid (fun w hb => rputInt_any a len cap l i w hl (by omega) hcap i0 i1 hb)
    have Q3 := Lib.hid (fun w hb => rputText_any a len cap l s w hl (by omega) hcap (by omega) hb)
    have Q4 := Lib.hid (fun w hb => rputReal_any a len cap l x w hl (by omega) hcap hbx hb)
    have S1 := Lib.hid (fun w => size_any n hn w)
    have R1 := Lib.hid (range_app hb.2 (wrt_range n))
    have R2 := Lib.hid (range_app hb.2 (wrt_range (zig i)))
    have R3 := Lib.hid (range_app (range_app hb.2 (wrt_range s.size)) (txt_range s))
    have R4 := Lib.hid (range_app hb.2 (w8_range (bt x)))
    have K1 := Lib.hid (show (l ++ wrt n).length = len + (wrt n).length by rw [List.length_append, hl])
    have z1 := wrt_ten n hn
    have HY := Lib.hid hb
    have HL := Lib.hid hl
    have HN := Lib.hid hcap
    clear hl hb hcap
    generalize l ++ wrt n = m1 at P1 Q1 R1 K1
    generalize (wrt n).length = k1 at S1 K1 z1
    generalize l ++ wrt (zig i) = m2 at P2 Q2 R2
    generalize l ++ wrt s.size ++ txt s = m3 at P3 Q3 R3
    generalize l ++ w8 (bt x) = m4 at P4 Q4 R4
    have mk := run_mk w 0 (len + 64) (by omega) (by omega) ((len : Int) + 64) (by omega)
    rw [Int.natCast_zero] at mk
    have B0 := Lib.hid ((Below.refl w.heap.size w).alloc (Nat.le_refl _) (.cells (madeCells #[.int .u8 0] (len + 64)) 5))
    go_enter Try.func3, Try.ntmps3
    go_wp2_with (at_builtin; refine wp_fit (.tmp 34) (.tmp 35) _ rfl rfl w.heap.size (len + 64) a len cap l rfl rfl HL.out (heap_alloc_new w _) (HY.out.below B0.out) HN.out (by omega) (by omega) w.heap.size w B0.out (Nat.le_refl _) ?_; intro w1 hr hb1; have RW := Lib.hid hr; have B1 := Lib.hid hb1; clear hr hb1)
    have OW := Own.made w1 w.heap.size len (len + 64) w.heap.size (Nat.le_refl _) l HL.out (by omega) (by omega) RW.out
    have Y1 := Lib.hid (OW.byt HY.out.2)
    have LT := Lib.hid (show w.heap.size < w1.heap.size from World.block_lt_of_cell? _ ⟨w.heap.size, len, none⟩ (RW.out.zero len (by rw [HL.out]; omega) (by omega)))
    clear OW
    refine (P1.out _ _ _ Y1.out).mono ?_
    rintro e w2 ⟨A1, j1, c1, rfl, hk, ho, hb⟩
    obtain rfl := hk.symm.trans K1.out
    have H1 := Lib.hid hk
    have O1 := Lib.hid ho
    have Y2 := Lib.hid (Y1.out.below hb)
    have RW2 := Lib.hid (RW.out.below hb LT.out)
    have B2 := Lib.hid (B1.out.trans (hb.mono B1.out.size))
    have LT2 := Lib.hid (Nat.lt_of_lt_of_le LT.out hb.size)
    clear hk ho hb Y1 RW B1 LT
    go_wp2_with fail
    refine (P2.out _ _ _ Y2.out).mono ?_
    rintro e w3 ⟨A2, j2, c2, rfl, hk, ho, hb⟩
    have H2 := Lib.hid hk
    have O1 := Lib.hid (O1.out.below hb)
    have O2 := Lib.hid ho
    have Y3 := Lib.hid (Y2.out.below hb)
    have RW3 := Lib.hid (RW2.out.below hb LT2.out)
    have B3 := Lib.hid (B2.out.trans (hb.mono B2.out.size))
    have LT3 := Lib.hid (Nat.lt_of_lt_of_le LT2.out hb.size)
    clear hk ho hb Y2 RW2 B2 LT2
    go_wp2_with fail
    refine (P3.out _ _ _ Y3.out).mono ?_
    rintro e w4 ⟨A3, j3, c3, rfl, hk, ho, hb⟩
    have H3 := Lib.hid hk
    have O1 := Lib.hid (O1.out.below hb)
    have O2 := Lib.hid (O2.out.below hb)
    have O3 := Lib.hid ho
    have Y4 := Lib.hid (Y3.out.below hb)
    have RW4 := Lib.hid (RW3.out.below hb LT3.out)
    have B4 := Lib.hid (B3.out.trans (hb.mono B3.out.size))
    have LT4 := Lib.hid (Nat.lt_of_lt_of_le LT3.out hb.size)
    clear hk ho hb Y3 RW3 B3 LT3
    go_wp2_with fail
    refine (P4.out _ _ _ Y4.out).mono ?_
    rintro e w5 ⟨A4, j4, c4, rfl, hk, ho, hb⟩
    have H4 := Lib.hid hk
    have O1 := Lib.hid (O1.out.below hb)
    have O2 := Lib.hid (O2.out.below hb)
    have O3 := Lib.hid (O3.out.below hb)
    have O4 := Lib.hid ho
    have RW5 := Lib.hid (RW4.out.below hb LT4.out)
    have B5 := Lib.hid (B4.out.trans (hb.mono B4.out.size))
    clear hk ho hb Y4 RW4 B4 LT4 P1 P2 P3 P4
    go_wp2_with fail
    have C1 := Lib.hid (fun W (h : Below w5.heap.size w5 W) => (O1.out.below h).str R1.out H1.out)
    have C2 := Lib.hid (fun W (h : Below w5.heap.size w5 W) => (O2.out.below h).str R2.out H2.out)
    have C3 := Lib.hid (fun W (h : Below w5.heap.size w5 W) => (O3.out.below h).str R3.out H3.out)
    have C4 := Lib.hid (fun W (h : Below w5.heap.size w5 W) => (O4.out.below h).str R4.out H4.out)
    have T1 := Lib.hid (fun W (h : Below w5.heap.size w5 W) => Q1.out W (HY.out.below (B5.out.trans (h.mono B5.out.size))))
    have T2 := Lib.hid (fun W (h : Below w5.heap.size w5 W) => Q2.out W (HY.out.below (B5.out.trans (h.mono B5.out.size))))
    have T3 := Lib.hid (fun W (h : Below w5.heap.size w5 W) => Q3.out W (HY.out.below (B5.out.trans (h.mono B5.out.size))))
    have T4 := Lib.hid (fun W (h : Below w5.heap.size w5 W) => Q4.out W (HY.out.below (B5.out.trans (h.mono B5.out.size))))
    clear O1 O2 O3 O4 Q1 Q2 Q3 Q4 H1 H2 H3 H4 K1 HN
    go_loop [58] (fun i => ∃ k : Nat, k ≤ 64 ∧ i = .int .i64 k) (fun i => 64 - (intOf i).toNat)
    case atStart => exact ⟨0, by omega, rfl⟩
    case round =>
      obtain ⟨k, hk, rfl⟩ := hrel
      by_cases ck : k < 64
      · have hcell := RW5.out.zero (len + k) (by rw [HL.out]; omega) (by omega)
        have hd : decide ((k : Int) < 64) = true := by simp; omega
        go_wp2_with fail
        go_round
        case rel => exact ⟨k + 1, by omega, by go_num⟩
        case measure => simp [intOf]; omega
      · have hd : decide ((k : Int) < 64) = false := by simp; omega
        have ew : IntKind.i64.wrap ((len : Int) + (k1 : Int)) = (len : Int) + (k1 : Int) := by rw [IntKind.wrap_i64]; omega
        go_wp2_with fail
        go_region_held (fun W => (convert 22 9 (.slice A1 (len + k1) c1)).run Try.prog W = .ok (.string (strOfNums m1)) W ∧ (convert 22 9 (.slice A2 j2 c2)).run Try.prog W = .ok (.string (strOfNums m2)) W ∧ (convert 22 9 (.slice A3 j3 c3)).run Try.prog W = .ok (.string (strOfNums m3)) W ∧ (convert 22 9 (.slice A4 j4 c4)).run Try.prog W = .ok (.string (strOfNums m4)) W ∧ Below w5.heap.size w5 W)
          (first | assumption | exact ⟨C1.out _ (Below.refl _ _).drew, C2.out _ (Below.refl _ _).drew, C3.out _ (Below.refl _ _).drew, C4.out _ (Below.refl _ _).drew, (Below.refl _ _).drew⟩ | exact ⟨C1.out _ (by assumption), C2.out _ (by assumption), C3.out _ (by assumption), C4.out _ (by assumption), by assumption⟩)
          (first
            | (go_at_call 7; (with_reducible refine (fixed_any _).mono ?_); rintro e w6 ⟨rfl, hbl⟩; have hb6 := ((Below.refl w5.heap.size w5).drew).trans hbl; clear hbl)
            | (go_at_call 13; (with_reducible refine (T1.out _ (by assumption)).mono ?_); rintro e w7 ⟨A', k', c', rfl, hk, ho, hbl⟩; have s7 := ho.str R1.out hk; have hb7 := below_go hb6 hbl; clear hk ho hbl)
            | (go_at_call 14; (with_reducible refine (T2.out _ (by assumption)).mono ?_); rintro e w8 ⟨A', k', c', rfl, hk, ho, hbl⟩; have s8 := ho.str R2.out hk; have hb8 := below_go hb7 hbl; clear hk ho hbl)
            | (go_at_call 15; (with_reducible refine (T3.out _ (by assumption)).mono ?_); rintro e w9 ⟨A', k', c', rfl, hk, ho, hbl⟩; have s9 := ho.str R3.out hk; have hb9 := below_go hb8 hbl; clear hk ho hbl)
            | (go_at_call 16; (with_reducible refine (T4.out _ (by assumption)).mono ?_); rintro e w10 ⟨A', k', c', rfl, hk, ho, hbl⟩; have s10 := ho.str R4.out hk; have hb10 := below_go hb9 hbl; clear hk ho hbl)
            | (go_at_call 17; (with_reducible refine (S1.out _).mono ?_); rintro e w' ⟨rfl, rfl⟩))
        rename_i hHeld
        have HB := Lib.hid (B5.out.trans (hHeld.2.2.2.2.mono B5.out.size))
        clear hHeld
        go_wp2
        go_ret
        exact ⟨rfl, HB.out⟩
end Go.Proofs.Ytclbhnmgpljboaa
