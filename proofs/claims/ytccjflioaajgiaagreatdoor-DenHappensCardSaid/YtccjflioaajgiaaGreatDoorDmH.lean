/- DenHappens, walked. -/
import Derived.Test.YtccjflioaajgiaaGreatDoorDmI
import Derived.Test.YtccjflioaajgiaaGreatDoorMS
import Derived.Test.YtccjflioaajgiaaGreatDoorMT
import Derived.Test.YtccjflioaajgiaaGreatDoorDnRw
namespace Go.Proofs.YtccjflioaajgiaaGreatDoor
open Go Go.RowKit Go.Maps Pk Rl
set_option maxRecDepth 20000

/- whether a place and another one are one of the matches -/
def isv (L : List Mt) (i j : Int) : Bool := L.any fun m => decide (0 ≤ i) && (decide (0 ≤ j) && decide (m = (i.toNat, j.toNat)))
theorem isv_take (L : List Mt) (k : Nat) (h : k < L.length) (i j : Int) : isv (L.take (k + 1)) i j = (isv (L.take k) i j || (decide (0 ≤ i) && (decide (0 ≤ j) && decide (gm L k = (i.toNat, j.toNat))))) := by
  unfold isv
  rw [mtake L k h, List.any_append]; simp
theorem isv_hpv (L : List Nd) (W : Nat) (R : List Lg) (i j : Int) : isv (dmt L W R) i j = hpv L W R i j := by
  by_cases h : dme L W R = 0
  · rw [Bool.eq_iff_iff]
    unfold hpv isv has
    rw [decide_eq_true h, Bool.true_and, List.any_eq_true, Bool.and_eq_true, Bool.and_eq_true, decide_eq_true_eq, decide_eq_true_eq, List.any_eq_true]
    have hg : ∀ m, m ∈ dmt L W R ↔ m ∈ gen L W R R.length := fun m => by
      unfold dmt
      rw [if_pos h]
      exact (List.mergeSort_perm _ _).mem_iff
    constructor
    · rintro ⟨m, hm, hc⟩
      simp only [Bool.and_eq_true, decide_eq_true_eq] at hc
      obtain ⟨c1, c2, rfl⟩ := hc
      rw [hg] at hm
      unfold gen at hm
      obtain ⟨a, ha, hb⟩ := List.mem_flatMap.1 hm
      obtain ⟨b, hb, e⟩ := List.mem_map.1 hb
      injection e with e1 e2
      subst e1 e2
      have := List.mem_range.1 ha
      exact ⟨⟨c1, by omega⟩, j.toNat, hb, by rw [decide_eq_true_eq]; omega⟩
    · rintro ⟨⟨c1, c2⟩, b, hb, e⟩
      rw [decide_eq_true_eq] at e
      refine ⟨(i.toNat, j.toNat), ?_, by simp only [Bool.and_eq_true, decide_eq_true_eq]; exact ⟨c1, by omega, trivial⟩⟩
      rw [hg]
      unfold gen
      refine List.mem_flatMap.2 ⟨i.toNat, List.mem_range.2 (by omega), List.mem_map.2 ⟨b, hb, ?_⟩⟩
      congr 1
      omega
  · unfold hpv dmt
    rw [decide_eq_false h, if_neg h]; rfl
theorem LX.start {w w3 : World} {A : Option Addr} {k c' : Nat} {wn : Int} {D : List Nd} {rA : Option Addr} {R : List Lg} (h1 : Pt w3 A k c' D) (h2 : Lr w3 rA R) (h3 : Tab w3) (h4 : Below w.heap.size w w3) : LX w (w3.alloc (ptobj A k c' wn)) w3.heap.size A k c' wn D rA R := by
  have b1 := bal w3 (ptobj A k c' wn)
  exact ⟨by simp [go_sem], by simp [go_sem], h1.ck (Ck.of_below b1), h2.ck (Ck.of_below b1), h3.ck (Ck.of_below b1), below_go h4 b1⟩
set_option maxHeartbeats 8000000 in
theorem happens_walk (a : Option Addr) (n c : Nat) (L : List Nd) (wn : Nat) (hA : Option Addr) (hN hC : Nat) (H : List Hp) (i j : Int) (w : World) (hn : L.length = n) (hm : n ≤ maxLen) (hv : RN w a L) (hs : ∀ v ∈ L, Sm v) (hwn : wn < 18446744073709551616)
    (hH : Hps w hA H) (hHn : H.length = hN) (hHm : hN ≤ maxLen) (hi : -9223372036854775808 ≤ i ∧ i ≤ 9223372036854775807) (hj : -9223372036854775808 ≤ j ∧ j ≤ 9223372036854775807) (hT : Tab w) :
    Calls Tryz.prog 4 #[ptv a n c (wn : Int), .slice hA hN hC, .int .i64 i, .int .i64 j] w fun e w' => e = .returned (.bool true) ∧ Below w.heap.size w w' := by
  have B0 := Lib.hid (below_alloc w (xpobj a n c (wn : Int)))
  have PA := Lib.hid (pattern_any a n c L (wn : Int) (w.alloc (xpobj a n c (wn : Int))) hn hm (hv.below B0.out))
  have EA : Hid (∀ W, Below w.heap.size w W → Calls Tryz.prog 9 #[.slice hA hN hC, .int .i64 12] W fun e w' => (∃ A c R, e = .returned (.slice A R.length c) ∧ R.length ≤ 12 ∧ OwnLg w' W.heap.size (.slice A R.length c) R) ∧ Below W.heap.size W w') := Lib.hid (fun W hb => events_any hA hN hC H 12 W (hH.below hb) hHn (by omega) hHm)
  have T0 := Lib.hid hT
  have HS := Lib.hid hs
  have HW := Lib.hid hwn
  have FX := Lib.hid fixed_any
  clear hn hm hv hs hT hH hHn hHm hwn
  go_enter Tryz.func4, Tryz.ntmps4
  go_wp2_with fail
  refine PA.out.mono ?_
  rintro e w2 ⟨A, k, c', D, rfl, hDk, hDc, hDo, hb⟩
  have k40 : k ≤ 40 := by have h1 := congrArg List.length hDc; simp at h1; omega
  have pt2 := hDo.pt hDk (by omega)
  have NCP := Lib.hid hDo.nocap
  have B2 := Lib.hid (below_go B0.out hb)
  have SD := Lib.hid (sm_of hDc HS.out (fun v hv => by have := pt2.ok v hv; exact ⟨by rw [this.p.len]; exact this.p.few, by rw [this.g.len]; exact this.g.few⟩))
  have P2 := Lib.hid pt2
  have K40 := Lib.hid k40
  clear PA hDc hDo hb pt2 HS hDk B0
  go_wp2_with fail
  refine (EA.out _ B2.out).mono ?_
  rintro e w3 ⟨⟨rA, rc, R, rfl, hR12, hRo⟩, hb⟩
  obtain ⟨A1, c1, e1, hA1, hc1, hLr⟩ := hRo.form
  injection e1 with e2 e3 e4
  subst e2 e4
  have SZ : Hid (Szs R) := Lib.hid (fun x hx => (hRo.ev x hx).sz)
  have B3 := Lib.hid (below_go B2.out hb)
  have X0 : Hid (LX w (w3.alloc (ptobj A k c' (wn : Int))) w3.heap.size A k c' (wn : Int) D rA R) := Lib.hid (by
    have b1 := bal w3 (ptobj A k c' (wn : Int))
    exact ⟨by simp [go_sem], by simp [go_sem], (P2.out.below hb).ck (Ck.of_below b1), hLr.ck (Ck.of_below b1), (T0.out.below B3.out).ck (Ck.of_below b1), below_go B3.out b1⟩)
  clear hRo hLr e3 hb EA B2 P2 hc1 hA1
  have G1 := Lib.hid (fun W (h : LX w W w3.heap.size A k c' (wn : Int) D rA R) => rtgreat_any A k c' D (wn : Int) W h.pt SD.out (by have := K40.out; omega))
  have G2 := Lib.hid (fun W (h : LX w W w3.heap.size A k c' (wn : Int) D rA R) => lgreat_any rA R.length rc R W h.lr SZ.out rfl (by omega))
  have F1 := Lib.hid (fun W (h : LX w W w3.heap.size A k c' (wn : Int) D rA R) => FX.out W h.tab)
  obtain ⟨gt, hgt⟩ : ∃ z, D.any gr = z := ⟨_, rfl⟩
  obtain ⟨gl, hgl⟩ : ∃ z, lgr R = z := ⟨_, rfl⟩
  rw [hgt] at G1
  rw [hgl] at G2
  clear hgt hgl SD SZ FX T0 B3
  have P2 : Hid (∀ W (h : LX w W w3.heap.size A k c' (wn : Int) D rA R), Calls Tryz.prog 14 #[ptv A k c' (wn : Int), .slice rA R.length rc] W fun e w' => (∃ A c, e = .returned (.tuple #[.slice A (dmt D wn R).length c, .int .i64 (dme D wn R)]) ∧ Mrs w' A (dmt D wn R)) ∧ Below W.heap.size W w') := Lib.hid (fun W h => by
    have := rmatches_any A k c' D wn rA R.length rc R W h.pt h.lr rfl (by omega) HW.out h.tab
    rw [rmt_eq] at this
    exact this)
  have P3 := Lib.hid (fun W (h : LX w W w3.heap.size A k c' (wn : Int) D rA R) => dhappens_any A k c' D wn rA R.length rc R i j W h.pt h.lr rfl (by omega) HW.out h.tab)
  have DL : Hid ((dmt D wn R).length ≤ 16200) := Lib.hid (by have := dmt_len D wn R (by omega); omega)
  have IS := Lib.hid (isv_hpv D wn R i j)
  generalize hpv D wn R i j = hv at P3 IS
  generalize dme D wn R = e0 at P2
  generalize dmt D wn R = M0 at P2 DL IS
  have q0 := X0.out.c0
  have q1 := X0.out.c1
  go_wp2_with fail
  refine (G1.out _ X0.out).mono ?_
  rintro e w4 ⟨rfl, hb⟩
  have X4 := Lib.hid (X0.out.next hb)
  clear hb X0 G1 q0 q1
  have q0 := X4.out.c0
  have q1 := X4.out.c1
  cases gt
  case true =>
    go_wp2_with fail
    refine (F1.out _ X4.out).mono ?_
    rintro e w6 ⟨rfl, hb⟩
    have BB := Lib.hid (below_go X4.out.bel hb)
    clear hb
    go_wp2_with fail
    go_ret
    exact ⟨rfl, BB.out⟩
  go_wp2_with fail
  refine (G2.out _ X4.out).mono ?_
  rintro e w5 ⟨rfl, hb⟩
  have X5 := Lib.hid (X4.out.next hb)
  clear hb X4 G2 q0 q1
  have q0 := X5.out.c0
  have q1 := X5.out.c1
  cases gl
  case true =>
    go_wp2_with fail
    refine (F1.out _ X5.out).mono ?_
    rintro e w6 ⟨rfl, hb⟩
    have BB := Lib.hid (below_go X5.out.bel hb)
    clear hb
    go_wp2_with fail
    go_ret
    exact ⟨rfl, BB.out⟩
  go_wp2_with fail
  refine (P2.out _ X5.out).mono ?_
  rintro e w6 ⟨⟨A6, c6, rfl, hm6⟩, hb⟩
  have X6 := Lib.hid (X5.out.next hb)
  have R6 := Lib.hid hm6
  clear hb hm6 X5 q0 q1 P2
  obtain ⟨q, hq⟩ : ∃ q, M0.length = q := ⟨_, rfl⟩
  have HQ := Lib.hid hq
  have hq9 : q ≤ 16200 := by rw [← hq]; exact DL.out
  rw [hq]
  clear hq DL
  have IT := Lib.hid (isv_take M0)
  go_wp2_with fail
  go_loopw [13, 35] (fun f t W => ∃ (k1 : Nat) (b : Bool), k1 ≤ q ∧ t = .int .i64 (k1 : Int) ∧ f = .bool b ∧ Hid (b = isv (M0.take k1) i j ∧ Below w6.heap.size w6 W)) (fun _ t _ => q - (intOf t).toNat)
  case atStart => exact ⟨0, false, Nat.zero_le _, rfl, rfl, Lib.hid ⟨rfl, Below.refl _ _⟩⟩
  case round =>
    obtain ⟨k1, fb, hk1, rfl, rfl, I⟩ := hrel
    by_cases hlt : k1 < q
    · have hlt2 : (k1 : Int) < (q : Int) := by omega
      obtain ⟨b, off, rfl, f1, f2⟩ := R6.out k1 (by rw [HQ.out]; exact hlt)
      have g1 := Ck.of_below I.out.2 _ _ _ f1
      have g2 := Ck.of_below I.out.2 _ _ _ f2
      have TK := Lib.hid (IT.out k1 (by rw [HQ.out]; exact hlt) i j)
      have FB := Lib.hid I.out.1
      have N9 := Lib.hid (fun o => below_go I.out.2 (bal wr o))
      generalize gm M0 k1 = x at g1 g2 TK
      clear f1 f2 I
      cases fb
      case true =>
        have N8 : Hid (true = isv (M0.take (k1 + 1)) i j) := Lib.hid (by rw [TK.out, ← FB.out]; rfl)
        go_wp2_with fail
        exact ⟨⟨k1 + 1, true, by omega, by go_num, rfl, Lib.hid ⟨N8.out, N9.out _⟩⟩, by simp [intOf]; omega⟩
      by_cases hi0 : 0 ≤ i
      case neg =>
        have N8 : Hid (false = isv (M0.take (k1 + 1)) i j) := Lib.hid (by rw [TK.out, ← FB.out, decide_eq_false hi0]; rfl)
        go_wp2_with fail
        exact ⟨⟨k1 + 1, false, by omega, by go_num, rfl, Lib.hid ⟨N8.out, N9.out _⟩⟩, by simp [intOf]; omega⟩
      by_cases hj0 : 0 ≤ j
      case neg =>
        have N8 : Hid (false = isv (M0.take (k1 + 1)) i j) := Lib.hid (by rw [TK.out, ← FB.out, decide_eq_false hj0]; simp)
        go_wp2_with fail
        exact ⟨⟨k1 + 1, false, by omega, by go_num, rfl, Lib.hid ⟨N8.out, N9.out _⟩⟩, by simp [intOf]; omega⟩
      obtain ⟨ia, rfl⟩ := Int.eq_ofNat_of_zero_le hi0
      obtain ⟨ja, rfl⟩ := Int.eq_ofNat_of_zero_le hj0
      have ui : IntKind.u64.wrap (ia : Int) = (ia : Int) := by rw [IntKind.wrap_u64]; omega
      have uj : IntKind.u64.wrap (ja : Int) = (ja : Int) := by rw [IntKind.wrap_u64]; omega
      rw [Int.toNat_natCast, Int.toNat_natCast, decide_eq_true hi0, decide_eq_true hj0] at TK
      have ME := meq x (ia, ja)
      have hm := hgM
      by_cases hz : x = (ia, ja)
      · have e1 : decide (x = (ia, ja)) = true := decide_eq_true hz
        have N8 : Hid (true = isv (M0.take (k1 + 1)) (ia : Int) (ja : Int)) := Lib.hid (by rw [TK.out, e1]; simp)
        rw [e1] at ME
        clear hz e1
        go_wp2_with fail
        exact ⟨⟨k1 + 1, true, by omega, by go_num, rfl, Lib.hid ⟨N8.out, N9.out _⟩⟩, by simp [intOf]; omega⟩
      · have e1 : decide (x = (ia, ja)) = false := decide_eq_false hz
        have N8 : Hid (false = isv (M0.take (k1 + 1)) (ia : Int) (ja : Int)) := Lib.hid (by rw [TK.out, ← FB.out, e1]; rfl)
        rw [e1] at ME
        clear hz e1
        go_wp2_with fail
        exact ⟨⟨k1 + 1, false, by omega, by go_num, rfl, Lib.hid ⟨N8.out, N9.out _⟩⟩, by simp [intOf]; omega⟩
    · obtain rfl : k1 = q := by omega
      have FB : Hid (fb = hv) := Lib.hid (by rw [I.out.1, List.take_of_length_le (by rw [HQ.out]; exact Nat.le_refl _), IS.out])
      have X7 := Lib.hid (X6.out.next I.out.2)
      obtain rfl := FB.out
      clear I X6 FB
      have q0 := X7.out.c0
      have q1 := X7.out.c1
      go_wp2_with fail
      refine (F1.out _ X7.out).mono ?_
      rintro e w8 ⟨rfl, hb⟩
      have X8 := Lib.hid (X7.out.next hb)
      clear hb X7 q0 q1
      have q0 := X8.out.c0
      have q1 := X8.out.c1
      go_wp2_with fail
      refine (P3.out _ X8.out).mono ?_
      rintro e w9 ⟨rfl, hb⟩
      have BB := Lib.hid (below_go X8.out.bel hb)
      clear hb X8 q0 q1
      go_wp2_with fail
      go_ret
      exact ⟨by cases fb <;> rfl, BB.out⟩
end Go.Proofs.YtccjflioaajgiaaGreatDoor
