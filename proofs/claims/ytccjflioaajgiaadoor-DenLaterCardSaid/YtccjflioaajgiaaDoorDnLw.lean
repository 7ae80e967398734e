/- DenLater, walked. -/
import Derived.Test.YtccjflioaajgiaaDoorMS
import Derived.Test.YtccjflioaajgiaaDoorMT
import Derived.Test.YtccjflioaajgiaaDoorMU
namespace Go.Proofs.YtccjflioaajgiaaDoor
open Go Go.RowKit Go.Maps Pk Rl
set_option maxRecDepth 20000

theorem sm_of {L D : List Nd} {m : Nat} (h : D.map (cn 10) = (L.take m).map (cn 10)) (hs : ∀ v ∈ L, Sm v) (hl : ∀ v ∈ D, v.p.L.length ≤ 10 ∧ v.g.L.length ≤ 10) : ∀ v ∈ D, Sm v := by
  intro v hv
  have : cn 10 v ∈ (L.take m).map (cn 10) := by rw [← h]; exact List.mem_map.2 ⟨v, hv, rfl⟩
  obtain ⟨u, hu, e⟩ := List.mem_map.1 this
  have hs := hs u (List.mem_of_mem_take hu)
  unfold cn cq at e
  simp only [Prod.mk.injEq] at e
  obtain ⟨_, ⟨_, _, e1⟩, _, ⟨_, _, e2⟩, _⟩ := e
  have hl := hl v hv
  rw [List.take_of_length_le hl.1] at e1
  rw [List.take_of_length_le hl.2] at e2
  refine ⟨fun t ht => hs.1 t ?_, fun t ht => hs.2 t ?_⟩
  · rw [← e1] at ht; exact List.mem_of_mem_take ht
  · rw [← e2] at ht; exact List.mem_of_mem_take ht
theorem Hps.below {w w' : World} {A : Option Addr} {H : List Hp} (h : Hps w A H) (hb : Below w.heap.size w w') : Hps w' A H := ⟨fun i hi => by
  obtain ⟨b, off, e, h0, h1, h2⟩ := h.row i hi
  have ck := Ck.of_below hb
  exact ⟨b, off, e, ck _ _ _ h0, ck _ _ _ h1, ck _ _ _ h2⟩, fun x hx => (h.ok x hx).below hb⟩
theorem Lr.take {w : World} {A : Option Addr} {R : List Lg} (h : Lr w A R) (k : Nat) : Lr w A (R.take k) := by
  refine ⟨fun i hi => ?_, fun x hx => h.ok x (List.mem_of_mem_take hx)⟩
  rw [List.length_take] at hi
  obtain ⟨b, off, e, h1⟩ := h.row i (by omega)
  exact ⟨b, off, e, by rw [getD_take_l R k i (by omega)]; exact h1⟩
theorem dmt_len (L : List Nd) (W : Nat) (R : List Lg) (h : R.length ≤ 900) : (dmt L W R).length ≤ 900 * R.length := by
  unfold dmt
  by_cases c : dme L W R = 0
  · rw [if_pos c]; unfold srt; rw [List.length_mergeSort]; exact gen_len L W R h _
  · rw [if_neg c]; simp
structure LX (w W : World) (g : Nat) (A : Option Addr) (k c : Nat) (win : Int) (D : List Nd) (rA : Option Addr) (R : List Lg) : Prop where
  c0 : W.cell? ⟨g, 0, none⟩ = some (.slice A k c)
  c1 : W.cell? ⟨g, 1, none⟩ = some (.int .u64 win)
  pt : Pt W A k c D
  lr : Lr W rA R
  tab : Tab W
  bel : Below w.heap.size w W
theorem LX.next {w W W' : World} {g : Nat} {A : Option Addr} {k c : Nat} {win : Int} {D : List Nd} {rA : Option Addr} {R : List Lg} (h : LX w W g A k c win D rA R) (hb : Below W.heap.size W W') : LX w W' g A k c win D rA R :=
  ⟨Ck.of_below hb _ _ _ h.c0, Ck.of_below hb _ _ _ h.c1, h.pt.ck (Ck.of_below hb), h.lr.ck (Ck.of_below hb), h.tab.ck (Ck.of_below hb), below_go h.bel hb⟩
def lf (k : Nat) (M : List Mt) : List Mt := M.filter fun m => decide (m.2 < k)
theorem lf_next (k : Nat) (M : List Mt) (i : Nat) (h : i < M.length) : lf k (M.take (i + 1)) = if (gm M i).2 < k then lf k (M.take i) ++ [gm M i] else lf k (M.take i) := by
  have e : M.take (i + 1) = M.take i ++ [gm M i] := by
    rw [List.take_add_one, List.getElem?_eq_getElem h]
    unfold gm
    rw [List.getD_eq_getElem?_getD, List.getElem?_eq_getElem h]; rfl
  unfold lf
  rw [e, List.filter_append]
  by_cases c : (gm M i).2 < k
  · rw [if_pos c, List.filter_cons_of_pos (by simpa using c), List.filter_nil]
  · rw [if_neg c, List.filter_cons_of_neg (by simpa using c), List.filter_nil, List.append_nil]
theorem lf_len (k : Nat) (M : List Mt) : (lf k M).length ≤ M.length := List.length_filter_le _ _
theorem elemLg : Tryd.prog.elem 32 = 67 := by kernel_rfl
theorem tsLg : Tryd.t67.size = 5 := by kernel_rfl
theorem run_uptoL (a : Option Addr) (len cap k : Nat) (hk : k ≤ cap) (w : World) :
    (Instr.slice 32 (.slice a len cap) none (some (.int .i64 (k : Int))) none).run Tryd.prog w = .ok (.slice a k cap) w := by
  rw [run_slice_h (P := Tryd.prog) (w := w) 32 a len cap (by rw [elemLg]; exact Tryd.underlying32) .i64 (k : Int) (by omega) (by omega), elemLg]
  simp [sizeOf, go_sem, tsLg, sliced]
set_option maxHeartbeats 8000000 in
theorem later_walk (a : Option Addr) (n c : Nat) (L : List Nd) (wn : Nat) (hA : Option Addr) (hN hC : Nat) (H : List Hp) (nn : Nat) (w : World) (hn : L.length = n) (hm : n ≤ maxLen) (hv : RN w a L) (hs : ∀ v ∈ L, Sm v) (hwn : wn < 18446744073709551616)
    (hH : Hps w hA H) (hHn : H.length = hN) (hHm : hN ≤ maxLen) (hnn : nn < 256) (hT : Tab w) :
    Calls Tryd.prog 3 #[ptv a n c (wn : Int), .slice hA hN hC, .int .u8 (nn : Int)] w fun e w' => e = .returned (.bool true) ∧ Below w.heap.size w w' := by
  have B0 := Lib.hid (below_alloc w (xpobj a n c (wn : Int)))
  have PA := Lib.hid (pattern_any a n c L (wn : Int) (w.alloc (xpobj a n c (wn : Int))) hn hm (hv.below B0.out))
  have EA : Hid (∀ W, Below w.heap.size w W → Calls Tryd.prog 5 #[.slice hA hN hC, .int .i64 15] W fun e w' => (∃ A c R, e = .returned (.slice A R.length c) ∧ R.length ≤ 15 ∧ OwnLg w' W.heap.size (.slice A R.length c) R) ∧ Below W.heap.size W w') := Lib.hid (fun W hb => events_any hA hN hC H 15 W (hH.below hb) hHn (by omega) hHm)
  have T0 := Lib.hid hT
  have HS := Lib.hid hs
  have HW := Lib.hid hwn
  have FX := Lib.hid fixed_any
  clear hn hm hv hs hT hH hHn hHm hwn
  go_enter Tryd.func3, Tryd.ntmps3
  go_wp2_with fail
  refine PA.out.mono ?_
  rintro e w2 ⟨A, k, c', D, rfl, hDk, hDc, hDo, hb⟩
  have k40 : k ≤ 40 := by have h1 := congrArg List.length hDc; simp at h1; omega
  have pt2 := hDo.pt hDk (by omega)
  have B2 := Lib.hid (below_go B0.out hb)
  have SD := Lib.hid (sm_of hDc HS.out (fun v hv => by have := pt2.ok v hv; exact ⟨by rw [this.p.len]; exact this.p.few, by rw [this.g.len]; exact this.g.few⟩))
  have P2 := Lib.hid pt2
  have K40 := Lib.hid k40
  clear PA hDc hDo hb pt2 HS k40 hDk B0
  go_wp2_with fail
  refine (EA.out _ B2.out).mono ?_
  rintro e w3 ⟨⟨rA, rc, R, rfl, hR15, hRo⟩, hb⟩
  obtain ⟨A1, c1, e1, hA1, hc1, hLr⟩ := hRo.form
  injection e1 with e2 e3 e4
  subst e2 e4
  have SZ : Hid (Szs R) := Lib.hid (fun x hx => (hRo.ev x hx).sz)
  have B3 := Lib.hid (below_go B2.out hb)
  have X0 : Hid (LX w (w3.alloc (ptobj A k c' (wn : Int))) w3.heap.size A k c' (wn : Int) D rA R) := Lib.hid (by
    have b1 := bal w3 (ptobj A k c' (wn : Int))
    exact ⟨by simp [go_sem], by simp [go_sem], (P2.out.below hb).ck (Ck.of_below b1), hLr.ck (Ck.of_below b1), (T0.out.below B3.out).ck (Ck.of_below b1), below_go B3.out b1⟩)
  have HC := Lib.hid hc1
  have HA := Lib.hid hA1
  clear hRo hLr e3 hb EA B2 P2 hc1 hA1
  have G1 := Lib.hid (fun W (h : LX w W w3.heap.size A k c' (wn : Int) D rA R) => rtgreat_any A k c' D (wn : Int) W h.pt SD.out (by have := K40.out; omega))
  have G2 := Lib.hid (fun W (h : LX w W w3.heap.size A k c' (wn : Int) D rA R) => lgreat_any rA R.length rc R W h.lr SZ.out rfl (by omega))
  have F1 := Lib.hid (fun W (h : LX w W w3.heap.size A k c' (wn : Int) D rA R) => FX.out W h.tab)
  obtain ⟨gt, hgt⟩ : ∃ z, D.any gr = z := ⟨_, rfl⟩
  obtain ⟨gl, hgl⟩ : ∃ z, lgr R = z := ⟨_, rfl⟩
  rw [hgt] at G1
  rw [hgl] at G2
  clear hgt hgl SD SZ FX T0 B3
  have q0 := X0.out.c0
  have q1 := X0.out.c1
  go_wp2_with fail
  refine (G1.out _ X0.out).mono ?_
  rintro e w4 ⟨rfl, hb⟩
  have X4 := Lib.hid (X0.out.next hb)
  clear hb X0 G1 q0 q1
  have q0 := X4.out.c0
  have q1 := X4.out.c1
  cases gt
  · go_wp2_with fail
    refine (G2.out _ X4.out).mono ?_
    rintro e w5 ⟨rfl, hb⟩
    have X5 := Lib.hid (X4.out.next hb)
    clear hb X4 G2 q0 q1
    have q0 := X5.out.c0
    have q1 := X5.out.c1
    cases gl
    · obtain ⟨kk, hkk⟩ : ∃ kk, nn % (R.length + 1) = kk := ⟨_, rfl⟩
      have hkl : kk ≤ R.length := by have := Nat.mod_lt nn (show 0 < R.length + 1 by omega); omega
      have ht : Int.tmod (nn : Int) ((R.length : Int) + 1) = (kk : Int) := by
        rw [Int.tmod_eq_emod_of_nonneg (by omega), ← hkk, Int.natCast_emod, Int.natCast_add]; rfl
      have M1 := Lib.hid (fun W (h : LX w W w3.heap.size A k c' (wn : Int) D rA R) => matches_any A k c' D wn rA R.length rc R W h.pt h.lr rfl (by omega) HW.out h.tab)
      have M2 := Lib.hid (fun W (h : LX w W w3.heap.size A k c' (wn : Int) D rA R) => matches_any A k c' D wn rA kk rc (R.take kk) W h.pt (h.lr.take kk) (by rw [List.length_take]; omega) (by omega) HW.out h.tab)
      have E1 := Lib.hid (fun (h : dme D wn R = 0) => And.intro (dme_later h kk) (dmt_later h kk hkl))
      have E0 : Hid (dme D wn R ≠ 0 → dmt D wn R = []) := Lib.hid (fun h => by unfold dmt; rw [if_neg h])
      have DL : Hid ((dmt D wn R).length ≤ 1000000) := Lib.hid (by have := dmt_len D wn R (by omega); omega)
      have DL2 : Hid ((dmt D wn (R.take kk)).length ≤ 1000000) := Lib.hid (by have := dmt_len D wn (R.take kk) (by rw [List.length_take]; omega); rw [List.length_take] at this; omega)
      have hSl := run_uptoL rA R.length rc kk (by have := HC.out; omega)
      generalize dme D wn R = e0 at M1 E1 E0
      generalize dmt D wn R = M0 at M1 E1 E0 DL
      generalize dme D wn (R.take kk) = e1 at M2 E1
      generalize dmt D wn (R.take kk) = N0 at M2 E1 DL2
      clear hkk
      go_wp2_with fail
      refine (M1.out _ X5.out).mono ?_
      rintro e w6 ⟨⟨A6, c6, rfl, hm6⟩, hb⟩
      have X6 := Lib.hid (X5.out.next hb)
      have R6 := Lib.hid hm6
      clear hb hm6 X5 M1 q0 q1 ht HC HA HW
      have K6 : Hid (Kz w6 w6.drew w3.heap.size A k c' wn) := Lib.hid ⟨X6.out.c0, X6.out.c1, Lib.hid (Below.refl _ _).drew⟩
      have M3 := Lib.hid (fun W (h : Kz w6 W w3.heap.size A k c' wn) => M2.out W (X6.out.next h.2.2.out))
      clear M2
      go_wp2_with fail
      go_region_held3 (fun X => X.cell? ⟨w3.heap.size, 0, none⟩ = some (.slice A k c') ∧ X.cell? ⟨w3.heap.size, 1, none⟩ = some (.int .u64 (wn : Int)) ∧ Hid (Below w6.heap.size w6 X))
        (first | (with_reducible assumption) | (with_reducible exact K6.out))
        (first
          | (go_at_call 9; (with_reducible refine Calls.mono (M3.out _ ?_) ?_); (with_reducible assumption); rintro e w7 ⟨⟨A7, c7, rfl, hm7⟩, hb⟩; have R7 := Lib.hid hm7; have KK : Kz w6 w7 w3.heap.size A k c' wn := (by refine kz_next hb ?_; with_reducible assumption)))
      have X7 := Lib.hid (X6.out.next KK.2.2.out)
      have Q7 := Lib.hid (R6.out.ck (Ck.of_below KK.2.2.out))
      clear KK K6 M3 R6 X6 hSl hb hm7
      by_cases h0 : e0 = 0
      · subst h0
        obtain ⟨rfl, hN⟩ := E1.out rfl
        have EN : Hid (N0 = lf kk M0) := Lib.hid hN
        clear hN E0 E1
        go_wp2_with fail
        go_loopw [14, 58] (fun v t W => ∃ (i : Nat) (A2 : Option Addr) (n2 c2 : Nat), i ≤ M0.length ∧ t = .int .i64 (i : Int) ∧ v = .slice A2 n2 c2 ∧ Hid (OwnMt W w7.heap.size (.slice A2 n2 c2) (lf kk (M0.take i)) ∧ Below w7.heap.size w7 W ∧ (lf kk (M0.take i)).length = n2)) (fun _ t _ => M0.length - (intOf t).toNat)
        case atStart => exact ⟨0, none, 0, 0, Nat.zero_le _, rfl, rfl, Lib.hid ⟨OwnMt.nil _ _, Below.refl _ _, rfl⟩⟩
        case round =>
          obtain ⟨i, A2, n2, c2, hi, rfl, rfl, I⟩ := hrel
          have hdl := DL.out
          by_cases hlt : i < M0.length
          · obtain ⟨b, off, rfl, f0, f1⟩ := Q7.out i hlt
            have ck := Ck.of_below I.out.2.1
            have g0 := ck _ _ _ f0
            have g1 := ck _ _ _ f1
            have LN := Lib.hid (lf_next kk M0 i hlt)
            clear f0 f1 ck
            generalize gm M0 i = x at g0 g1 LN
            by_cases hk : x.2 < kk
            · have hk' : (x.2 : Int) < (kk : Int) := by omega
              have LN' : Hid (lf kk (M0.take (i + 1)) = lf kk (M0.take i) ++ [x]) := Lib.hid (by rw [LN.out, if_pos hk])
              have LL : Hid ((lf kk (M0.take i)).length ≤ 1000000) := Lib.hid (Nat.le_trans (lf_len _ _) (by rw [List.length_take]; omega))
              clear LN
              go_wp2_with ((with_reducible show wpList _ _ _ (Oper.mk (some 70) _ _ _ _ _ :: _) _ _); refine wp_appM (.tmp 67) (.tmp 69) _ rfl rfl w7.heap.size _ (lf kk (M0.take i)) rfl ((I.out.1.below (bal _ _)).below (bal _ _)) _ rfl x (by simp [go_sem]) (by simp [go_sem]) (by have := LL.out; omega) (Nat.le_trans I.out.2.1.size (Nat.le_trans (bal _ _).size (bal _ _).size)) (n2 + 1) (by rw [I.out.2.2]) ?_; intro A8 c8 w8 hO hci hb8; have N8 : Hid (OwnMt w8 w7.heap.size (.slice A8 (n2 + 1) c8) (lf kk (M0.take (i + 1))) ∧ Below w7.heap.size w7 w8 ∧ (lf kk (M0.take (i + 1))).length = n2 + 1) := Lib.hid ⟨by rw [LN'.out]; exact hO, I.out.2.1.trans (((bal wr _).mono I.out.2.1.size).trans (((bal _ _).mono (Nat.le_trans I.out.2.1.size (bal _ _).size)).trans hb8)), by rw [LN'.out, List.length_append, I.out.2.2]; rfl⟩; clear hO hci hb8)
              exact ⟨⟨i + 1, A8, n2 + 1, c8, by omega, by go_num, rfl, N8⟩, by simp [intOf]; omega⟩
            · have hk' : ¬ (x.2 : Int) < (kk : Int) := by omega
              have N8 := Lib.hid (fun o => (show OwnMt (wr.alloc o) w7.heap.size (.slice A2 n2 c2) (lf kk (M0.take (i + 1))) ∧ Below w7.heap.size w7 (wr.alloc o) ∧ (lf kk (M0.take (i + 1))).length = n2 from by rw [LN.out, if_neg hk]; exact ⟨I.out.1.below (bal _ _), I.out.2.1.trans ((bal wr _).mono I.out.2.1.size), I.out.2.2⟩))
              clear LN
              go_wp2_with fail
              exact ⟨⟨i + 1, A2, n2, c2, by omega, by go_num, rfl, Lib.hid (N8.out _)⟩, by simp [intOf]; omega⟩
          · obtain rfl : i = M0.length := by omega
            have X8 := Lib.hid (X7.out.next I.out.2.1)
            have O8 : Hid (OwnMt wr w7.heap.size (.slice A2 n2 c2) (lf kk M0)) := Lib.hid (by have := I.out.1; rwa [List.take_of_length_le (Nat.le_refl _)] at this)
            have L8 : Hid ((lf kk M0).length = n2) := Lib.hid (by have := I.out.2.2; rwa [List.take_of_length_le (Nat.le_refl _)] at this)
            have N7 := Lib.hid (R7.out.ck (Ck.of_below I.out.2.1))
            clear I hi hlt Q7 R7 X7
            go_wp2_with fail
            refine (F1.out _ X8.out).mono ?_
            rintro e w9 ⟨rfl, hb⟩
            have X9 := Lib.hid (X8.out.next hb)
            have N9 := Lib.hid (N7.out.ck (Ck.of_below hb))
            have O9 := Lib.hid (O8.out.below hb)
            clear hb X8 N7 O8
            have SM : Hid (Calls Tryd.prog 10 #[.slice A7 N0.length c7, .slice A2 n2 c2] w9 fun e w' => e = .returned (.bool true) ∧ Below w9.heap.size w9 w') := Lib.hid (by
              obtain ⟨A9, c9, e9, m9, _⟩ := O9.out.form
              injection e9 with e91 e92 e93
              subst e91 e93
              have h1 := DL2.out
              have h2 := lf_len kk M0
              have := msame_any A7 N0.length c7 N0 A2 n2 c2 (lf kk M0) w9 N9.out m9 rfl L8.out (by omega) (by rw [← L8.out]; omega)
              rw [decide_eq_true EN.out] at this
              exact this)
            go_wp2_with fail
            refine SM.out.mono ?_
            rintro e w10 ⟨rfl, hb⟩
            have BB := Lib.hid (below_go X9.out.bel hb)
            clear hb
            go_wp2_with fail
            go_ret
            exact ⟨rfl, BB.out⟩
      · have hM := E0.out h0
        subst hM
        have h1 : (e0 != 0) = true := by simp [h0]
        clear E0 E1
        go_wp2_with fail
        refine (F1.out _ X7.out).mono ?_
        rintro e w8 ⟨rfl, hb⟩
        have BB := Lib.hid (below_go X7.out.bel hb)
        clear hb
        go_wp2_with fail
        go_ret
        exact ⟨rfl, BB.out⟩
    · go_wp2_with fail
      refine (F1.out _ X5.out).mono ?_
      rintro e w6 ⟨rfl, hb⟩
      have X6 := Lib.hid (X5.out.next hb)
      clear hb X5 q0 q1
      go_wp2_with fail
      go_ret
      exact ⟨rfl, X6.out.bel⟩
  · go_wp2_with fail
    refine (F1.out _ X4.out).mono ?_
    rintro e w6 ⟨rfl, hb⟩
    have X6 := Lib.hid (X4.out.next hb)
    clear hb X4 q0 q1
    go_wp2_with fail
    go_ret
    exact ⟨rfl, X6.out.bel⟩
end Go.Proofs.YtccjflioaajgiaaDoor
