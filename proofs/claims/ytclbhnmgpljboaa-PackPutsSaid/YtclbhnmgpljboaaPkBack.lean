/- PackBack: the walk of the statement's own function. -/
import Derived.Test.YtclbhnmgpljboaaPkR3
namespace Go.Proofs.Ytclbhnmgpljboaa
open Go Go.RowKit Pk Rl

/- ### what was put is got -/
theorem got (pre post : List Int) (n : Nat) (hn : n < 18446744073709551616) (L : List Int) (hL : L = pre ++ (wrt n ++ post)) (p : Int) (hp : p = (pre.length : Int)) :
    gN L p = n ∧ gK L p = p + ((wrt n).length : Int) ∧ gE L p = 0 := by
  have e : gv L p = (n, (wrt n).length, 0) := by
    unfold gv
    rw [if_neg (by rw [hL, hp, List.length_append]; omega), hp, Int.toNat_natCast, hL, List.drop_left, gt_wrt post n 0 0 (by simpa using hn) (.inl rfl)]
    simp
  unfold gN gK gE
  rw [e]
  exact ⟨rfl, rfl, rfl⟩
theorem gotText (pre post : List Int) (s : ByteArray) (hs : s.size < 9223372036854775808) (L : List Int) (hL : L = pre ++ (wrt s.size ++ (txt s ++ post))) (p : Int) (hp : p = (pre.length : Int)) :
    tL L p (s.size : Int) = txt s ∧ tK L p (s.size : Int) = p + ((wrt s.size).length : Int) + (s.size : Int) ∧ tE L p (s.size : Int) = 0 := by
  obtain ⟨g1, g2, g3⟩ := got pre (txt s ++ post) s.size (by omega) L hL p hp
  have hlen : (L.length : Int) = (pre.length : Int) + ((wrt s.size).length : Int) + (s.size : Int) + (post.length : Int) := by
    rw [hL, List.length_append, List.length_append, List.length_append, txt_length]; omega
  have e : tE L p (s.size : Int) = 0 := by
    unfold tE
    rw [g1, g2, g3, if_neg (by omega), if_neg (by omega), if_neg (by omega)]
  unfold tL tK
  rw [if_pos e, if_pos e, g1, g2]
  refine ⟨?_, rfl, e⟩
  rw [hp, show ((pre.length : Int) + ((wrt s.size).length : Int)).toNat = (pre ++ wrt s.size).length by rw [List.length_append]; omega, hL, ← List.append_assoc, List.drop_left, ← txt_length, List.take_left]
theorem bt_bt (b : Nat) : bt (bt b) = bt b := by
  by_cases h : nan b = true
  · rw [show bt b = 9221120237041090560 by unfold bt; rw [if_pos h]]; decide +kernel
  · rw [show bt b = b by unfold bt; rw [if_neg h]]; unfold bt; rw [if_neg h]
theorem gotReal (pre post : List Int) (r : Nat) (hr : r < 18446744073709551616) (hb : bt r = r) (L : List Int) (hL : L = pre ++ (w8 r ++ post)) (p : Int) (hp : p = (pre.length : Int)) :
    rB L p = r ∧ rK L p = p + 8 ∧ rE L p = 0 := by
  have e1 : rR L p = r := by
    unfold rR
    rw [hp, Int.toNat_natCast, hL, List.drop_left, show 8 = (w8 r).length from rfl, List.take_left, be_w8 r hr]
  have e : rE L p = 0 := by
    unfold rE
    rw [e1, if_neg ?_, if_pos hb]
    rw [hL, hp, List.length_append, List.length_append, show (w8 r).length = 8 from rfl]; omega
  unfold rB rK
  rw [if_pos e, if_pos e]
  exact ⟨e1, rfl, e⟩
theorem Own.byt {w : World} {B : Nat} {A : Option Addr} {k c : Nat} {l : List Int} (h : Own w B (.slice A k c) l) (hr : ∀ c ∈ l, 0 ≤ c ∧ c < 256) : Byt w A l := by
  obtain ⟨A', c', e, hb⟩ := h.form hr
  injection e with e1 e2 e3
  subst e1
  exact hb
theorem Own.le {w : World} {B : Nat} {A : Option Addr} {k c : Nat} {l : List Int} (h : Own w B (.slice A k c) l) (hk : l.length = k) : k ≤ c := by
  rcases h.2 with ⟨h', h0⟩ | ⟨g, cap, cur, h', _, _, hn, _⟩
  · omega
  · injection h' with e1 e2 e3
    omega

set_option maxHeartbeats 1000000 in
theorem back_walk (a : Option Addr) (len cap : Nat) (l : List Int) (a2 : Option Addr) (len2 cap2 : Nat) (l2 : List Int) (n : Nat) (i : Int) (s : ByteArray) (x : Nat) (w : World)
    (hl : l.length = len) (hx : len ≤ maxLen) (hb : Byt w a l) (hl2 : l2.length = len2) (hx2 : len2 ≤ maxLen) (hcap2 : a2 = none → cap2 = 0) (hb2 : Byt w a2 l2)
    (hn : n < 18446744073709551616) (i0 : -9223372036854775808 ≤ i) (i1 : i ≤ 9223372036854775807) (hs : s.size ≤ maxLen) (hbx : x < 18446744073709551616) :
    Calls Try.prog 5 #[.slice a len cap, .slice a2 len2 cap2, .int .u64 (n : Int), .int .i64 i, .string s, .int .u64 (x : Int)] w fun e w' => e = .returned (.bool true) ∧ Below w.heap.size w w' := by
  unfold maxLen at hx hx2 hs
  by_cases h5 : 1000 < len ∨ 1000 < len2 ∨ 1000 < s.size
  · clear hl hb hl2 hb2 hcap2
    by_cases h6 : 1000 < len
    · go_enter Try.func5, Try.ntmps5
      go_wp2_with fail
      refine (fixed_any _).mono ?_
      rintro e w1 ⟨rfl, hb⟩
      have B1 := Lib.hid hb
      clear hb
      go_wp2
      go_ret
      exact ⟨rfl, B1.out⟩
    · by_cases h7 : 1000 < len2
      · go_enter Try.func5, Try.ntmps5
        go_wp2_with fail
        refine (fixed_any _).mono ?_
        rintro e w1 ⟨rfl, hb⟩
        have B1 := Lib.hid hb
        clear hb
        go_wp2
        go_ret
        exact ⟨rfl, B1.out⟩
      · have h8 : 1000 < s.size := by omega
        go_enter Try.func5, Try.ntmps5
        go_wp2_with fail
        refine (fixed_any _).mono ?_
        rintro e w1 ⟨rfl, hb⟩
        have B1 := Lib.hid hb
        clear hb
        go_wp2
        go_ret
        exact ⟨rfl, B1.out⟩
  · have t1 : len ≤ 1000 := by omega
    have t2 : len2 ≤ 1000 := by omega
    have t3 : s.size ≤ 1000 := by omega
    have d1 : decide ((1000 : Int) < (len : Int)) = false := by simp; omega
    have d2 : decide ((1000 : Int) < (len2 : Int)) = false := by simp; omega
    have d3 : decide ((1000 : Int) < (s.size : Int)) = false := by simp; omega
    clear h5 hx hx2 hs
    have r15 := run15 x
    have P1 := Lib.hid (put_any a len cap l n w hl (by omega) hn hb)
    have P2 := Lib.hid (fun A k c w hk hm hb => putInt_any A k c (l ++ wrt n) i w hk hm i0 i1 hb)
    have P3 := Lib.hid (fun A k c w hk hm hb => putText_any A k c (l ++ wrt n ++ wrt (zig i)) s w hk hm (by omega) hb)
    have P4 := Lib.hid (fun A k c w hk hm hb => putReal_any A k c (l ++ wrt n ++ wrt (zig i) ++ wrt s.size ++ txt s) x w hk hm hbx hb)
    have R1 := Lib.hid (range_app hb.2 (wrt_range n))
    have R2 := Lib.hid (range_app R1.out (wrt_range (zig i)))
    have R3 := Lib.hid (range_app (range_app R2.out (wrt_range s.size)) (txt_range s))
    have R4 := Lib.hid (range_app R3.out (w8_range (bt x)))
    have R5 := Lib.hid (range_app R4.out hb2.2)
    have z1 := wrt_ten n hn
    have z2 := wrt_ten (zig i) (zig_lt i i0 i1)
    have z3 := wrt_ten s.size (by omega)
    have Y2 := Lib.hid hb2
    have K1 := Lib.hid (show (l ++ wrt n).length = len + (wrt n).length by rw [List.length_append, hl])
    have K2 := Lib.hid (show (l ++ wrt n ++ wrt (zig i)).length = len + (wrt n).length + (wrt (zig i)).length by rw [List.length_append, K1.out])
    have K3 := Lib.hid (show (l ++ wrt n ++ wrt (zig i) ++ wrt s.size ++ txt s).length = len + (wrt n).length + (wrt (zig i)).length + (wrt s.size).length + s.size by rw [List.length_append, List.length_append, K2.out, txt_length])
    have K4 := Lib.hid (show (l ++ wrt n ++ wrt (zig i) ++ wrt s.size ++ txt s ++ w8 (bt x)).length = len + (wrt n).length + (wrt (zig i)).length + (wrt s.size).length + s.size + 8 by rw [List.length_append, K3.out]; rfl)
    have K5 := Lib.hid (show (l ++ wrt n ++ wrt (zig i) ++ wrt s.size ++ txt s ++ w8 (bt x) ++ l2).length = len + (wrt n).length + (wrt (zig i)).length + (wrt s.size).length + s.size + 8 + len2 by rw [List.length_append, K4.out, hl2])
    have L2 := Lib.hid hl2
    have C2 := Lib.hid hcap2
    have G1 := Lib.hid (fun A c w hc hb => get_any A _ c (l ++ wrt n ++ wrt (zig i) ++ wrt s.size ++ txt s ++ w8 (bt x) ++ l2) (len : Int) w K5.out (by omega) hc hb)
    have G2 := Lib.hid (fun A c w hc hb => getInt_any A _ c (l ++ wrt n ++ wrt (zig i) ++ wrt s.size ++ txt s ++ w8 (bt x) ++ l2) ((len : Int) + ((wrt n).length : Int)) w K5.out (by omega) hc hb)
    have G3 := Lib.hid (fun A c w hc hb => getText_any A _ c (l ++ wrt n ++ wrt (zig i) ++ wrt s.size ++ txt s ++ w8 (bt x) ++ l2) ((len : Int) + ((wrt n).length : Int) + ((wrt (zig i)).length : Int)) (s.size : Int) w K5.out (by omega) hc (by omega) (by omega) hb)
    have G4 := Lib.hid (fun A c w hc hb => getReal_any A _ c (l ++ wrt n ++ wrt (zig i) ++ wrt s.size ++ txt s ++ w8 (bt x) ++ l2) ((len : Int) + ((wrt n).length : Int) + ((wrt (zig i)).length : Int) + ((wrt s.size).length : Int) + (s.size : Int)) w K5.out (by omega) hc (by omega) (by omega) hb)
    obtain ⟨g1, g2, g3⟩ := got l (wrt (zig i) ++ (wrt s.size ++ (txt s ++ (w8 (bt x) ++ l2)))) n hn (l ++ wrt n ++ wrt (zig i) ++ wrt s.size ++ txt s ++ w8 (bt x) ++ l2) (by simp) (len : Int) (by rw [hl])
    obtain ⟨g4, g5, g6⟩ := got (l ++ wrt n) (wrt s.size ++ (txt s ++ (w8 (bt x) ++ l2))) (zig i) (zig_lt i i0 i1) (l ++ wrt n ++ wrt (zig i) ++ wrt s.size ++ txt s ++ w8 (bt x) ++ l2) (by simp) ((len : Int) + ((wrt n).length : Int)) (by rw [K1.out]; omega)
    obtain ⟨g7, g8, g9⟩ := gotText (l ++ wrt n ++ wrt (zig i)) (w8 (bt x) ++ l2) s (by omega) (l ++ wrt n ++ wrt (zig i) ++ wrt s.size ++ txt s ++ w8 (bt x) ++ l2) (by simp) ((len : Int) + ((wrt n).length : Int) + ((wrt (zig i)).length : Int)) (by rw [K2.out]; omega)
    obtain ⟨g10, g11, g12⟩ := gotReal (l ++ wrt n ++ wrt (zig i) ++ wrt s.size ++ txt s) l2 (bt x) (bt_lt x hbx) (bt_bt x) (l ++ wrt n ++ wrt (zig i) ++ wrt s.size ++ txt s ++ w8 (bt x) ++ l2) (by simp) ((len : Int) + ((wrt n).length : Int) + ((wrt (zig i)).length : Int) + ((wrt s.size).length : Int) + (s.size : Int)) (by rw [K3.out]; omega)
    rw [g1, g2, g3] at G1
    rw [g4, g5, g6, sg_zig] at G2
    rw [g7, g8, g9, str_txt] at G3
    rw [g10, g11, g12] at G4
    have O1 := Lib.hid (fun w => of_any (bt x) (bt_lt x hbx) w)
    have O2 := Lib.hid (fun w => of_any x hbx w)
    have Q1 := Lib.hid (fun w => pbits_any (neg (bt x)) (ex (bt x)) (fr (bt x)) (ex_lt _) (fr_lt _) w)
    have Q2 := Lib.hid (fun w => pbits_any (neg x) (ex x) (fr x) (ex_lt _) (fr_lt _) w)
    rw [pb_bt _ (bt_lt x hbx), bt_bt] at Q1
    rw [pb_bt x hbx] at Q2
    clear g1 g2 g3 g4 g5 g6 g7 g8 g9 g10 g11 g12 hl hb hl2 hb2 hcap2
    generalize neg (bt x) = sa at O1 Q1
    generalize ex (bt x) = Ea at O1 Q1
    generalize fr (bt x) = Fa at O1 Q1
    generalize neg x = sb at O2 Q2
    generalize ex x = Eb at O2 Q2
    generalize fr x = Fb at O2 Q2
    generalize wrt n = q1 at *
    generalize wrt (zig i) = q2 at *
    generalize wrt s.size = q3 at *
    generalize bt x = r at *
    generalize q1.length = k1 at *
    generalize q2.length = k2 at *
    generalize q3.length = k3 at *
    go_enter Try.func5, Try.ntmps5
    go_wp2_with fail
    refine P1.out.mono ?_
    rintro e w1 ⟨A1, j1, c1, rfl, hk, ho, hbl⟩
    obtain rfl := hk.symm.trans K1.out
    have Y1 := Lib.hid (ho.byt R1.out)
    have B1 := Lib.hid hbl
    have H1 := Lib.hid hk
    clear hk ho hbl
    go_wp2_with fail
    refine (P2.out A1 _ c1 _ H1.out (by omega) Y1.out).mono ?_
    rintro e w2 ⟨A2, j2, c2, rfl, hk, ho, hbl⟩
    obtain rfl := hk.symm.trans K2.out
    have Y3 := Lib.hid (ho.byt R2.out)
    have B2 := Lib.hid (B1.out.trans (hbl.mono B1.out.size))
    have H2 := Lib.hid hk
    clear hk ho hbl Y1 B1 H1
    go_wp2_with fail
    refine (P3.out A2 _ c2 _ H2.out (by omega) Y3.out).mono ?_
    rintro e w3 ⟨A3, j3, c3, rfl, hk, ho, hbl⟩
    obtain rfl := hk.symm.trans K3.out
    have Y4 := Lib.hid (ho.byt R3.out)
    have B3 := Lib.hid (B2.out.trans (hbl.mono B2.out.size))
    have H3 := Lib.hid hk
    clear hk ho hbl Y3 B2 H2
    go_wp2_with fail
    refine (P4.out A3 _ c3 _ H3.out (by omega) Y4.out).mono ?_
    rintro e w4 ⟨A4, j4, c4, rfl, hk, ho, hbl⟩
    obtain rfl := hk.symm.trans K4.out
    have O4 := Lib.hid ho
    have BZ := Lib.hid hbl.size
    have B4 := Lib.hid (B3.out.trans (hbl.mono B3.out.size))
    have BW := Lib.hid B3.out.size
    have H4 := Lib.hid hk
    have Y5 := Lib.hid (Y2.out.below B4.out)
    clear hk ho hbl Y4 B3 H3
    go_wp2_with (at_builtin; refine wp_app (.tmp 52) (.tmp 53) _ rfl rfl w3.heap.size _ (l ++ q1 ++ q2 ++ q3 ++ txt s ++ w8 r) rfl O4.out a2 len2 cap2 l2 rfl L2.out Y5.out C2.out R4.out _ K5.out (by omega) BZ.out ?_; intro A5 c5 w5 hO5 hY5 hb5; have LE := hO5.le K5.out; have Y6 := Lib.hid hY5; have B5 := Lib.hid (B4.out.trans (hb5.mono BW.out)); clear hO5 hY5 hb5)
    refine (G1.out A5 c5 _ LE Y6.out).mono ?_
    rintro e w' ⟨rfl, rfl⟩
    go_wp2_with fail
    refine (G2.out A5 c5 _ LE Y6.out).mono ?_
    rintro e w' ⟨rfl, rfl⟩
    go_wp2_with fail
    refine (G3.out A5 c5 _ LE Y6.out).mono ?_
    rintro e w' ⟨rfl, rfl⟩
    go_wp2_with fail
    refine (G4.out A5 c5 _ LE Y6.out).mono ?_
    rintro e w' ⟨rfl, rfl⟩
    go_wp2_with fail
    refine (fixed_any _).mono ?_
    rintro e w6 ⟨rfl, hbl⟩
    have B6 := Lib.hid (B5.out.trans (hbl.mono B5.out.size))
    clear hbl
    go_wp2_with fail
    refine (O1.out _).mono ?_
    rintro e w7 ⟨rfl, hbl⟩
    have B7 := Lib.hid (B6.out.trans (hbl.mono B6.out.size))
    clear hbl
    go_wp2_with fail
    refine (Q1.out _).mono ?_
    rintro e w8 ⟨rfl, hbl⟩
    have B8 := Lib.hid (B7.out.trans (hbl.mono B7.out.size))
    clear hbl
    go_wp2_with fail
    refine (O2.out _).mono ?_
    rintro e w9 ⟨rfl, hbl⟩
    have B9 := Lib.hid (B8.out.trans (hbl.mono B8.out.size))
    clear hbl
    go_wp2_with fail
    refine (Q2.out _).mono ?_
    rintro e w10 ⟨rfl, hbl⟩
    have B10 := Lib.hid (B9.out.trans (hbl.mono B9.out.size))
    clear hbl
    go_wp2
    go_ret
    exact ⟨rfl, B10.out⟩
end Go.Proofs.Ytclbhnmgpljboaa
