/- DenMatches, walked. -/
import Derived.Test.YtccjflioaajgiaaGreatDoorNC
import Derived.Test.YtccjflioaajgiaaGreatDoorMS
import Derived.Test.YtccjflioaajgiaaGreatDoorMT
import Derived.Test.YtccjflioaajgiaaGreatDoorDnRw
namespace Go.Proofs.YtccjflioaajgiaaGreatDoor
open Go Go.RowKit Go.Maps Pk Rl
set_option maxRecDepth 20000

set_option maxHeartbeats 8000000 in
theorem matches_walk (a : Option Addr) (n c : Nat) (L : List Nd) (wn : Nat) (hA : Option Addr) (hN hC : Nat) (H : List Hp) (w : World) (hn : L.length = n) (hm : n ≤ maxLen) (hv : RN w a L) (hs : ∀ v ∈ L, Sm v) (hwn : wn < 18446744073709551616)
    (hH : Hps w hA H) (hHn : H.length = hN) (hHm : hN ≤ maxLen) (hT : Tab w) :
    Calls Tryz.prog 3 #[ptv a n c (wn : Int), .slice hA hN hC] w fun e w' => e = .returned (.bool true) ∧ Below w.heap.size w w' := by
  have B0 := Lib.hid (below_alloc w (xpobj a n c (wn : Int)))
  have PA := Lib.hid (pattern_any a n c L (wn : Int) (w.alloc (xpobj a n c (wn : Int))) hn hm (hv.below B0.out))
  have EA : Hid (∀ W, Below w.heap.size w W → Calls Tryz.prog 9 #[.slice hA hN hC, .int .i64 18] W fun e w' => (∃ A c R, e = .returned (.slice A R.length c) ∧ R.length ≤ 18 ∧ OwnLg w' W.heap.size (.slice A R.length c) R) ∧ Below W.heap.size W w') := Lib.hid (fun W hb => events_any hA hN hC H 18 W (hH.below hb) hHn (by omega) hHm)
  have T0 := Lib.hid hT
  have HS := Lib.hid hs
  have HW := Lib.hid hwn
  have FX := Lib.hid fixed_any
  clear hn hm hv hs hT hH hHn hHm hwn
  go_enter Tryz.func3, Tryz.ntmps3
  go_wp2_with fail
  refine PA.out.mono ?_
  rintro e w2 ⟨A, k, c', D, rfl, hDk, hDc, hDo, hb⟩
  have k40 : k ≤ 40 := by have h1 := congrArg List.length hDc; simp at h1; omega
  have pt2 := hDo.pt hDk (by omega)
  have NCP := Lib.hid hDo.nocap
  have B2 := Lib.hid (below_go B0.out hb)
  have SD := Lib.hid (sm_of hDc HS.out (fun v hv => by have := pt2.ok v hv; exact ⟨by rw [this.p.len]; exact this.p.few, by rw [this.g.len]; exact this.g.few⟩))
  have P2 := Lib.hid pt2
  have K40 := Lib.hid k40
  clear PA hDc hDo hb pt2 HS hDk B0
  go_wp2_with fail
  refine (EA.out _ B2.out).mono ?_
  rintro e w3 ⟨⟨rA, rc, R, rfl, hR18, hRo⟩, hb⟩
  obtain ⟨A1, c1, e1, hA1, hc1, hLr⟩ := hRo.form
  injection e1 with e2 e3 e4
  subst e2 e4
  have SZ : Hid (Szs R) := Lib.hid (fun x hx => (hRo.ev x hx).sz)
  have B3 := Lib.hid (below_go B2.out hb)
  have X0 : Hid (LX w (w3.alloc (ptobj A k c' (wn : Int))) w3.heap.size A k c' (wn : Int) D rA R) := Lib.hid (by
    have b1 := bal w3 (ptobj A k c' (wn : Int))
    exact ⟨by simp [go_sem], by simp [go_sem], (P2.out.below hb).ck (Ck.of_below b1), hLr.ck (Ck.of_below b1), (T0.out.below B3.out).ck (Ck.of_below b1), below_go B3.out b1⟩)
  clear hRo hLr e3 hb EA B2 P2 hc1 hA1
  have G1 := Lib.hid (fun W (h : LX w W w3.heap.size A k c' (wn : Int) D rA R) => rtgreat_any A k c' D (wn : Int) W h.pt SD.out (by have := K40.out; omega))
  have G2 := Lib.hid (fun W (h : LX w W w3.heap.size A k c' (wn : Int) D rA R) => lgreat_any rA R.length rc R W h.lr SZ.out rfl (by omega))
  have F1 := Lib.hid (fun W (h : LX w W w3.heap.size A k c' (wn : Int) D rA R) => FX.out W h.tab)
  obtain ⟨gt, hgt⟩ : ∃ z, D.any gr = z := ⟨_, rfl⟩
  obtain ⟨gl, hgl⟩ : ∃ z, lgr R = z := ⟨_, rfl⟩
  rw [hgt] at G1
  rw [hgl] at G2
  clear hgt hgl SD SZ FX T0 B3
  have P1 := Lib.hid (fun W (h : LX w W w3.heap.size A k c' (wn : Int) D rA R) => matches_any A k c' D wn rA R.length rc R W h.pt h.lr rfl (by omega) HW.out h.tab)
  have P2 : Hid (∀ W (h : LX w W w3.heap.size A k c' (wn : Int) D rA R), Calls Tryz.prog 14 #[ptv A k c' (wn : Int), .slice rA R.length rc] W fun e w' => (∃ A c, e = .returned (.tuple #[.slice A (dmt D wn R).length c, .int .i64 (dme D wn R)]) ∧ Mrs w' A (dmt D wn R)) ∧ Below W.heap.size W w') := Lib.hid (fun W h => by
    have := rmatches_any A k c' D wn rA R.length rc R W h.pt h.lr rfl (by omega) HW.out h.tab
    rw [rmt_eq] at this
    exact this)
  have Y1 := Lib.hid (fun W (h : LX w W w3.heap.size A k c' (wn : Int) D rA R) => dmay_any rA R.length rc R W h.lr rfl (by omega))
  have Y2 := Lib.hid (fun W (h : LX w W w3.heap.size A k c' (wn : Int) D rA R) => rlmay_any rA R.length rc R W h.lr rfl (by omega))
  have DL : Hid ((dmt D wn R).length ≤ 16200) := Lib.hid (by have := dmt_len D wn R (by omega); omega)
  generalize dme D wn R = e0 at P1 P2
  generalize dmt D wn R = M0 at P1 P2 DL
  obtain ⟨dv, hdv⟩ : ∃ z, dm 0 R = z := ⟨_, rfl⟩
  rw [hdv] at Y1 Y2
  clear hdv
  have q0 := X0.out.c0
  have q1 := X0.out.c1
  go_wp2_with fail
  refine (G1.out _ X0.out).mono ?_
  rintro e w4 ⟨rfl, hb⟩
  have X4 := Lib.hid (X0.out.next hb)
  clear hb X0 G1 q0 q1
  have q0 := X4.out.c0
  have q1 := X4.out.c1
  cases gt
  case true =>
    go_wp2_with fail
    refine (F1.out _ X4.out).mono ?_
    rintro e w6 ⟨rfl, hb⟩
    have BB := Lib.hid (below_go X4.out.bel hb)
    clear hb
    go_wp2_with fail
    go_ret
    exact ⟨rfl, BB.out⟩
  go_wp2_with fail
  refine (G2.out _ X4.out).mono ?_
  rintro e w5 ⟨rfl, hb⟩
  have X5 := Lib.hid (X4.out.next hb)
  clear hb X4 G2 q0 q1
  have q0 := X5.out.c0
  have q1 := X5.out.c1
  cases gl
  case true =>
    go_wp2_with fail
    refine (F1.out _ X5.out).mono ?_
    rintro e w6 ⟨rfl, hb⟩
    have BB := Lib.hid (below_go X5.out.bel hb)
    clear hb
    go_wp2_with fail
    go_ret
    exact ⟨rfl, BB.out⟩
  go_wp2_with fail
  refine (P1.out _ X5.out).mono ?_
  rintro e w6 ⟨⟨A6, c6, rfl, hm6⟩, hb⟩
  have X6 := Lib.hid (X5.out.next hb)
  have R6 := Lib.hid hm6
  clear hb hm6 X5 q0 q1 P1
  have q0 := X6.out.c0
  have q1 := X6.out.c1
  go_wp2_with fail
  refine (P2.out _ X6.out).mono ?_
  rintro e w7 ⟨⟨A7, c7, rfl, hm7⟩, hb⟩
  have X7 := Lib.hid (X6.out.next hb)
  have R7 := Lib.hid hm7
  have R67 := Lib.hid (R6.out.ck (Ck.of_below hb))
  clear hb hm7 X6 q0 q1 P2 R6
  go_wp2_with fail
  refine (F1.out _ X7.out).mono ?_
  rintro e w8 ⟨rfl, hb⟩
  have X8 := Lib.hid (X7.out.next hb)
  have V1 : Hid (Calls Tryz.prog 15 #[.slice A6 M0.length c6, .slice A7 M0.length c7] w8 fun e w' => e = .returned (.bool true) ∧ Below w8.heap.size w8 w') := Lib.hid (by
    have h1 := DL.out
    have := msame_any A6 M0.length c6 M0 A7 M0.length c7 M0 w8 (R67.out.ck (Ck.of_below hb)) (R7.out.ck (Ck.of_below hb)) rfl rfl (by omega) (by omega)
    rw [decide_eq_true rfl] at this
    exact this)
  clear hb X7 F1
  go_wp2_with fail
  refine V1.out.mono ?_
  rintro e w9 ⟨rfl, hb⟩
  have X9 := Lib.hid (X8.out.next hb)
  clear hb X8 V1
  go_wp2_with fail
  refine (Y1.out _ X9.out).mono ?_
  rintro e w10 ⟨rfl, hb⟩
  have X10 := Lib.hid (X9.out.next hb)
  clear hb X9 Y1
  go_wp2_with fail
  refine (Y2.out _ X10.out).mono ?_
  rintro e w11 ⟨rfl, hb⟩
  have BB := Lib.hid (below_go X10.out.bel hb)
  clear hb Y2
  go_wp2_with fail
  go_ret
  exact ⟨by cases dv <;> rfl, BB.out⟩
end Go.Proofs.YtccjflioaajgiaaGreatDoor
