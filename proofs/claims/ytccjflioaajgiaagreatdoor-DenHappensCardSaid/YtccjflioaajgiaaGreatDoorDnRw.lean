/- DenRep, walked. -/
import Derived.Test.YtccjflioaajgiaaGreatDoorMS
import Derived.Test.YtccjflioaajgiaaGreatDoorMT
import Derived.Test.YtccjflioaajgiaaGreatDoorDnWh
import Derived.Test.YtccjflioaajgiaaGreatDoorDnAm
import Derived.Test.YtccjflioaajgiaaGreatDoorDnRp
namespace Go.Proofs.YtccjflioaajgiaaGreatDoor
open Go Go.RowKit Go.Maps Pk Rl
set_option maxRecDepth 20000

theorem sm_of {L D : List Nd} {m : Nat} (h : D.map (cn 10) = (L.take m).map (cn 10)) (hs : ∀ v ∈ L, Sm v) (hl : ∀ v ∈ D, v.p.L.length ≤ 10 ∧ v.g.L.length ≤ 10) : ∀ v ∈ D, Sm v := by
  intro v hv
  have : cn 10 v ∈ (L.take m).map (cn 10) := by rw [← h]; exact List.mem_map.2 ⟨v, hv, rfl⟩
  obtain ⟨u, hu, e⟩ := List.mem_map.1 this
  have hs := hs u (List.mem_of_mem_take hu)
  unfold cn cq at e
  simp only [Prod.mk.injEq] at e
  obtain ⟨_, ⟨_, _, e1⟩, _, ⟨_, _, e2⟩, _⟩ := e
  have hl := hl v hv
  rw [List.take_of_length_le hl.1] at e1
  rw [List.take_of_length_le hl.2] at e2
  refine ⟨fun t ht => hs.1 t ?_, fun t ht => hs.2 t ?_⟩
  · rw [← e1] at ht; exact List.mem_of_mem_take ht
  · rw [← e2] at ht; exact List.mem_of_mem_take ht
theorem Hps.below {w w' : World} {A : Option Addr} {H : List Hp} (h : Hps w A H) (hb : Below w.heap.size w w') : Hps w' A H := ⟨fun i hi => by
  obtain ⟨b, off, e, h0, h1, h2⟩ := h.row i hi
  have ck := Ck.of_below hb
  exact ⟨b, off, e, ck _ _ _ h0, ck _ _ _ h1, ck _ _ _ h2⟩, fun x hx => (h.ok x hx).below hb⟩
theorem dmt_len (L : List Nd) (W : Nat) (R : List Lg) (h : R.length ≤ 900) : (dmt L W R).length ≤ 900 * R.length := by
  unfold dmt
  by_cases c : dme L W R = 0
  · rw [if_pos c]; unfold srt; rw [List.length_mergeSort]; exact gen_len L W R h _
  · rw [if_neg c]; simp
structure LX (w W : World) (g : Nat) (A : Option Addr) (k c : Nat) (win : Int) (D : List Nd) (rA : Option Addr) (R : List Lg) : Prop where
  c0 : W.cell? ⟨g, 0, none⟩ = some (.slice A k c)
  c1 : W.cell? ⟨g, 1, none⟩ = some (.int .u64 win)
  pt : Pt W A k c D
  lr : Lr W rA R
  tab : Tab W
  bel : Below w.heap.size w W
theorem LX.next {w W W' : World} {g : Nat} {A : Option Addr} {k c : Nat} {win : Int} {D : List Nd} {rA : Option Addr} {R : List Lg} (h : LX w W g A k c win D rA R) (hb : Below W.heap.size W W') : LX w W' g A k c win D rA R :=
  ⟨Ck.of_below hb _ _ _ h.c0, Ck.of_below hb _ _ _ h.c1, h.pt.ck (Ck.of_below hb), h.lr.ck (Ck.of_below hb), h.tab.ck (Ck.of_below hb), below_go h.bel hb⟩
theorem OwnN.nocap {w : World} {B : Nat} {A : Option Addr} {k c : Nat} {D : List Nd} (h : OwnN w B (.slice A k c) D) : A = none → c = 0 := by
  rintro rfl
  rcases h.1.2 with ⟨e, _⟩ | ⟨g, cap, cur, e, _⟩
  · injection e
  · injection e with e _ _; cases e
theorem rep_whole {w W : World} {g : Nat} {A : Option Addr} {k c : Nat} {wn : Nat} {D : List Nd} {rA : Option Addr} {R : List Lg} (h : LX w W g A k c (wn : Int) D rA R) (hc : A = none → c = 0) (hk : k ≤ 40) (lo hi : Nat) (h1 : lo < 256) (h2 : hi < 256) :
    Calls Tryz.prog 20 #[nOf (rpx (lo : Int) (hi : Int) 0), .slice (some ⟨W.heap.size, 0, none⟩) 1 1] (W.alloc (ptobj A k c (wn : Int))) fun e w' => (∃ A2 c2, e = .returned (ptv A2 (k + 1) c2 (wn : Int)) ∧ Pt w' A2 (k + 1) c2 (rpx (lo : Int) (hi : Int) (k : Int) :: D)) ∧ Below (W.alloc (ptobj A k c (wn : Int))).heap.size (W.alloc (ptobj A k c (wn : Int))) w' := by
  have hfl : flt [⟨A, k, c, wn, D⟩] = D := by simp [flt]
  have hl := h.pt.len
  have := whole_any (rpx (lo : Int) (hi : Int) 0) (some ⟨W.heap.size, 0, none⟩) [⟨A, k, c, wn, D⟩] 1 1 (W.alloc (ptobj A k c (wn : Int))) ⟨fun i hi => by
      have : i = 0 := by simpa using hi
      subst this
      exact ⟨_, 0, rfl, by simp [go_sem], by simp [go_sem]⟩, fun x hx => by
      rw [List.mem_singleton] at hx
      subst hx
      exact ⟨h.pt.ck (Ck.of_below (bal _ _)), hc⟩⟩ rfl (by omega) (by omega) (by rw [hfl, hl]; omega)
    ⟨⟨rfl, by show (0 : Nat) ≤ 10; omega, fun i hi => absurd hi (by simp), by simp⟩, ⟨rfl, by show (0 : Nat) ≤ 10; omega, fun i hi => absurd hi (by simp), by simp⟩, by show (0 : Int) ≤ 4; omega, by show (4 : Int) < 256; omega, by show (0 : Int) ≤ lo; omega, by show (lo : Int) < 256; omega, by show (0 : Int) ≤ hi; omega, by show (hi : Int) < 256; omega, by show (-9223372036854775808 : Int) ≤ 0; omega, by show (0 : Int) ≤ 9223372036854775807; omega⟩
  rw [hfl, hl] at this
  exact this
set_option maxHeartbeats 8000000 in
theorem rep_walk (a : Option Addr) (n c : Nat) (L : List Nd) (wn : Nat) (hA : Option Addr) (hN hC : Nat) (H : List Hp) (l0 h0 : Nat) (w : World) (hn : L.length = n) (hm : n ≤ maxLen) (hv : RN w a L) (hs : ∀ v ∈ L, Sm v) (hwn : wn < 18446744073709551616)
    (hH : Hps w hA H) (hHn : H.length = hN) (hHm : hN ≤ maxLen) (hl0 : l0 < 256) (hh0 : h0 < 256) (hT : Tab w) :
    Calls Tryz.prog 6 #[ptv a n c (wn : Int), .slice hA hN hC, .int .u8 (l0 : Int), .int .u8 (h0 : Int)] w fun e w' => e = .returned (.bool true) ∧ Below w.heap.size w w' := by
  have B0 := Lib.hid (below_alloc w (xpobj a n c (wn : Int)))
  have PA := Lib.hid (pattern_any a n c L (wn : Int) (w.alloc (xpobj a n c (wn : Int))) hn hm (hv.below B0.out))
  have EA : Hid (∀ W, Below w.heap.size w W → Calls Tryz.prog 9 #[.slice hA hN hC, .int .i64 12] W fun e w' => (∃ A c R, e = .returned (.slice A R.length c) ∧ R.length ≤ 12 ∧ OwnLg w' W.heap.size (.slice A R.length c) R) ∧ Below W.heap.size W w') := Lib.hid (fun W hb => events_any hA hN hC H 12 W (hH.below hb) hHn (by omega) hHm)
  have T0 := Lib.hid hT
  have HS := Lib.hid hs
  have HW := Lib.hid hwn
  have FX := Lib.hid fixed_any
  clear hn hm hv hs hT hH hHn hHm hwn
  go_enter Tryz.func6, Tryz.ntmps6
  go_wp2_with fail
  refine PA.out.mono ?_
  rintro e w2 ⟨A, k, c', D, rfl, hDk, hDc, hDo, hb⟩
  have k40 : k ≤ 40 := by have h1 := congrArg List.length hDc; simp at h1; omega
  have pt2 := hDo.pt hDk (by omega)
  have NCP := Lib.hid hDo.nocap
  have B2 := Lib.hid (below_go B0.out hb)
  have SD := Lib.hid (sm_of hDc HS.out (fun v hv => by have := pt2.ok v hv; exact ⟨by rw [this.p.len]; exact this.p.few, by rw [this.g.len]; exact this.g.few⟩))
  have P2 := Lib.hid pt2
  have K40 := Lib.hid k40
  clear PA hDc hDo hb pt2 HS hDk B0
  go_wp2_with fail
  refine (EA.out _ B2.out).mono ?_
  rintro e w3 ⟨⟨rA, rc, R, rfl, hR12, hRo⟩, hb⟩
  obtain ⟨A1, c1, e1, hA1, hc1, hLr⟩ := hRo.form
  injection e1 with e2 e3 e4
  subst e2 e4
  have SZ : Hid (Szs R) := Lib.hid (fun x hx => (hRo.ev x hx).sz)
  have B3 := Lib.hid (below_go B2.out hb)
  have X0 : Hid (LX w (w3.alloc (ptobj A k c' (wn : Int))) w3.heap.size A k c' (wn : Int) D rA R) := Lib.hid (by
    have b1 := bal w3 (ptobj A k c' (wn : Int))
    exact ⟨by simp [go_sem], by simp [go_sem], (P2.out.below hb).ck (Ck.of_below b1), hLr.ck (Ck.of_below b1), (T0.out.below B3.out).ck (Ck.of_below b1), below_go B3.out b1⟩)
  clear hRo hLr e3 hb EA B2 P2 hc1 hA1
  have G1 := Lib.hid (fun W (h : LX w W w3.heap.size A k c' (wn : Int) D rA R) => rtgreat_any A k c' D (wn : Int) W h.pt SD.out (by have := K40.out; omega))
  have G2 := Lib.hid (fun W (h : LX w W w3.heap.size A k c' (wn : Int) D rA R) => lgreat_any rA R.length rc R W h.lr SZ.out rfl (by omega))
  have F1 := Lib.hid (fun W (h : LX w W w3.heap.size A k c' (wn : Int) D rA R) => FX.out W h.tab)
  obtain ⟨gt, hgt⟩ : ∃ z, D.any gr = z := ⟨_, rfl⟩
  obtain ⟨gl, hgl⟩ : ∃ z, lgr R = z := ⟨_, rfl⟩
  rw [hgt] at G1
  rw [hgl] at G2
  clear hgt hgl SD SZ FX T0 B3
  obtain ⟨l4, hl4⟩ : ∃ z, l0 % 4 = z := ⟨_, rfl⟩
  obtain ⟨h5, hh5⟩ : ∃ z, h0 % 5 = z := ⟨_, rfl⟩
  have t4 : Int.tmod (l0 : Int) 4 = (l4 : Int) := by rw [Int.tmod_eq_emod_of_nonneg (by omega)]; omega
  have t5 : Int.tmod (h0 : Int) 5 = (h5 : Int) := by rw [Int.tmod_eq_emod_of_nonneg (by omega)]; omega
  obtain ⟨lo, hlo⟩ : ∃ z, 1 + l4 = z := ⟨_, rfl⟩
  obtain ⟨hi, hhi⟩ : ∃ z, 1 + h5 = z := ⟨_, rfl⟩
  have u4 : (1 : Int) + (l4 : Int) = (lo : Int) := by omega
  have u5 : (1 : Int) + (h5 : Int) = (hi : Int) := by omega
  have b4 : 1 ≤ lo ∧ lo ≤ 4 := by omega
  have b5 : 1 ≤ hi ∧ hi ≤ 5 := by omega
  have b6 : l4 < 4 := by omega
  have b7 : h5 < 5 := by omega
  clear hl4 hh5 hlo hhi
  have q0 := X0.out.c0
  have q1 := X0.out.c1
  go_wp2_with fail
  refine (G1.out _ X0.out).mono ?_
  rintro e w4 ⟨rfl, hb⟩
  have X4 := Lib.hid (X0.out.next hb)
  clear hb X0 G1 q0 q1
  have q0 := X4.out.c0
  have q1 := X4.out.c1
  cases gt
  · go_wp2_with fail
    refine (G2.out _ X4.out).mono ?_
    rintro e w5 ⟨rfl, hb⟩
    have X5 := Lib.hid (X4.out.next hb)
    clear hb X4 G2 q0 q1
    have q0 := X5.out.c0
    have q1 := X5.out.c1
    cases gl
    · by_cases hk0 : k = 0
      · subst hk0
        go_wp2_with fail
        refine (F1.out _ X5.out).mono ?_
        rintro e w6 ⟨rfl, hb⟩
        have X6 := Lib.hid (X5.out.next hb)
        clear hb X5 q0 q1
        go_wp2_with fail
        go_ret
        exact ⟨rfl, X6.out.bel⟩
      have hk1 : ((k : Int) == 0) = false := by simp; omega
      by_cases hlt : hi < lo
      · have hlt' : (hi : Int) < (lo : Int) := by omega
        go_wp2_with fail
        refine (F1.out _ X5.out).mono ?_
        rintro e w6 ⟨rfl, hb⟩
        have X6 := Lib.hid (X5.out.next hb)
        clear hb X5 q0 q1
        go_wp2_with fail
        go_ret
        exact ⟨rfl, X6.out.bel⟩
      have hlt' : ¬ (hi : Int) < (lo : Int) := by omega
      have WH := Lib.hid (fun W (h : LX w W w3.heap.size A k c' (wn : Int) D rA R) lo hi h1 h2 => rep_whole h NCP.out K40.out lo hi h1 h2)
      have MW := Lib.hid (fun W (h : LX w W w3.heap.size A k c' (wn : Int) D rA R) lo hi A2 c2 (hp : Pt W A2 (k + 1) c2 (rpx (lo : Int) (hi : Int) (k : Int) :: D)) => matches_any A2 (k + 1) c2 (rpx (lo : Int) (hi : Int) (k : Int) :: D) wn rA R.length rc R W hp h.lr rfl (by omega) HW.out h.tab)
      have W5 := Lib.hid (WH.out w5 X5.out lo hi (by omega) (by omega))
      go_wp2_with fail
      refine W5.out.mono ?_
      rintro e w6 ⟨⟨A2, c2, rfl, hp2⟩, hb⟩
      have X6 := Lib.hid ((X5.out.next (bal _ _)).next hb)
      have M6 := Lib.hid (MW.out w6 X6.out lo hi A2 c2 hp2)
      clear hb hp2 X5 W5 q0 q1
      have DL : Hid (∀ m : Nat, (dmt (rpx (m : Int) (m : Int) (k : Int) :: D) wn R).length ≤ 10800) := Lib.hid (fun m => by have := dmt_len (rpx (m : Int) (m : Int) (k : Int) :: D) wn R (by omega); omega)
      have DL1 : Hid ((dmt (rpx (lo : Int) (hi : Int) (k : Int) :: D) wn R).length ≤ 10800) := Lib.hid (by have := dmt_len (rpx (lo : Int) (hi : Int) (k : Int) :: D) wn R (by omega); omega)
      have RI : Hid (dme (rpx (lo : Int) (hi : Int) (k : Int) :: D) wn R = 0 → ∀ m, lo ≤ m → m ≤ hi → dme (rpx (m : Int) (m : Int) (k : Int) :: D) wn R = 0 ∧ wth (dmt (rpx (m : Int) (m : Int) (k : Int) :: D) wn R) (dmt (rpx (lo : Int) (hi : Int) (k : Int) :: D) wn R) = true) := Lib.hid (fun h m h1 h2 => by
        have := rep_in (n := m) h b4.1 h1 h2
        exact ⟨this.1, wth_iff.2 this.2⟩)
      have RO : Hid (dme (rpx (lo : Int) (hi : Int) (k : Int) :: D) wn R = 0 → ∀ S : List Mt, (∀ q, lo ≤ q → q < hi + 1 → ∀ x ∈ dmt (rpx (q : Int) (q : Int) (k : Int) :: D) wn R, x ∈ S) → wth (dmt (rpx (lo : Int) (hi : Int) (k : Int) :: D) wn R) S = true) := Lib.hid (fun h S hS => wth_iff.2 (fun x hx => by
        obtain ⟨q, h1, h2, h3⟩ := rep_of h b4.1 hx
        exact hS q h1 (by omega) x h3))
      obtain ⟨DM, hDM⟩ : ∃ f : Nat → List Mt, ∀ m : Nat, dmt (rpx (m : Int) (m : Int) (k : Int) :: D) wn R = f m := ⟨_, fun _ => rfl⟩
      have DMH := Lib.hid hDM
      simp only [hDM] at DL RI RO
      clear hDM
      generalize dme (rpx (lo : Int) (hi : Int) (k : Int) :: D) wn R = e0 at M6 RI RO
      generalize dmt (rpx (lo : Int) (hi : Int) (k : Int) :: D) wn R = M0 at M6 RI RO DL1
      go_wp2_with fail
      refine M6.out.mono ?_
      rintro e w7 ⟨⟨A7, c7, rfl, hm7⟩, hb⟩
      have X7 := Lib.hid (X6.out.next hb)
      have R7 := Lib.hid hm7
      clear hb hm7 X6 M6
      by_cases he0 : e0 = 0
      · subst he0
        have RI0 := Lib.hid (RI.out rfl)
        have RO0 := Lib.hid (RO.out rfl)
        clear RI RO
        go_wp2_with fail
        go_loopw [13, 14] (fun v nv W => ∃ (m : Nat) (A8 : Option Addr) (n8 c8 : Nat), lo ≤ m ∧ m ≤ hi + 1 ∧ nv = .int .u8 (m : Int) ∧ v = .slice A8 n8 c8 ∧ n8 ≤ 10800 * m ∧ Hid (∃ S, OwnMt W w7.heap.size (.slice A8 n8 c8) S ∧ Below w7.heap.size w7 W ∧ S.length = n8 ∧ ∀ q, lo ≤ q → q < m → ∀ x ∈ DM q, x ∈ S)) (fun _ nv _ => hi + 1 - (intOf nv).toNat)
        case atStart => exact ⟨lo, none, 0, 0, Nat.le_refl _, by omega, rfl, rfl, by omega, Lib.hid ⟨[], OwnMt.nil _ _, Below.refl _ _, rfl, fun q h1 h2 => by omega⟩⟩
        case round =>
          obtain ⟨m, A8, n8, c8, hm1, hm2, rfl, rfl, hn8, I⟩ := hrel
          obtain ⟨S, hS1, hS2, hS3, hS4⟩ := I.out
          have S1 := Lib.hid hS1
          have S2 := Lib.hid hS2
          have S3 := Lib.hid hS3
          have S4 := Lib.hid hS4
          have X8 := Lib.hid (X7.out.next hS2)
          clear hS1 hS2 hS3 hS4 I
          have q0 := X8.out.c0
          have q1 := X8.out.c1
          by_cases hlt : m ≤ hi
          · have hlt2 : (m : Int) ≤ (hi : Int) := by omega
            have W8 := Lib.hid (WH.out wr X8.out m m (by omega) (by omega))
            go_wp2_with fail
            refine W8.out.mono ?_
            rintro e w9 ⟨⟨A9, c9, rfl, hp9⟩, hb⟩
            have B9 := Lib.hid (Below.trans (bal wr (ptobj A k c' (wn : Int))) (hb.mono (bal wr (ptobj A k c' (wn : Int))).size))
            have X9 := Lib.hid (X8.out.next B9.out)
            have M9 := Lib.hid (MW.out w9 X9.out m m A9 c9 hp9)
            obtain ⟨ri1, ri2⟩ := RI0.out m hm1 hlt
            rw [DMH.out m, ri1] at M9
            have dl := DL.out m
            have RW := Lib.hid ri2
            obtain ⟨Mm, hMm⟩ : ∃ z, DM m = z := ⟨_, rfl⟩
            have EM := Lib.hid hMm
            rw [hMm] at M9 dl RW
            clear hb hp9 W8 q0 q1 ri1 ri2 hMm
            go_wp2_with fail
            refine M9.out.mono ?_
            rintro e w10 ⟨⟨A10, c10, rfl, hm10⟩, hb⟩
            have X10 := Lib.hid (X9.out.next hb)
            have D10 := Lib.hid (B9.out.trans (hb.mono B9.out.size))
            have C10 := Lib.hid (S2.out.trans (D10.out.mono S2.out.size))
            have WN : Hid (Calls Tryz.prog 21 #[.slice A10 Mm.length c10, .slice A7 M0.length c7] w10 fun e w' => e = .returned (.bool true) ∧ Below w10.heap.size w10 w') := Lib.hid (by
              have h1 := DL1.out
              have := within_any A10 Mm.length c10 Mm A7 M0.length c7 M0 w10 hm10 (R7.out.ck (Ck.of_below C10.out)) rfl rfl (by omega) (by omega)
              rw [RW.out] at this
              exact this)
            have R10 := Lib.hid hm10
            clear hb hm10 X9 M9 RW
            go_wp2_with fail
            refine WN.out.mono ?_
            rintro e w11 ⟨rfl, hb⟩
            have D11 := Lib.hid (D10.out.trans (hb.mono D10.out.size))
            have C11 := Lib.hid (S2.out.trans (D11.out.mono S2.out.size))
            have R11 := Lib.hid (R10.out.ck (Ck.of_below hb))
            clear hb WN R10 X10
            go_wp2_with ((with_reducible show wpList _ _ _ (Oper.mk (some 86) _ _ _ _ _ :: _) _ _); refine wp_appMs (.tmp 84) (.tmp 85) _ rfl rfl w7.heap.size _ S rfl (S1.out.below D11.out) A10 Mm.length c10 Mm rfl rfl R11.out (n8 + Mm.length) (by rw [List.length_append, S3.out]) (by omega) C11.out.size ?_; intro A12 c12 w12 hO hb12; have N12 : Hid (∃ S, OwnMt w12 w7.heap.size (.slice A12 (n8 + Mm.length) c12) S ∧ Below w7.heap.size w7 w12 ∧ S.length = n8 + Mm.length ∧ ∀ q, lo ≤ q → q < m + 1 → ∀ x ∈ DM q, x ∈ S) := Lib.hid ⟨S ++ Mm, hO, C11.out.trans hb12, by rw [List.length_append, S3.out], fun q h1 h2 x hx => by
              rcases Nat.lt_or_ge q m with h3 | h3
              · exact List.mem_append_left _ (S4.out q h1 h3 x hx)
              · obtain rfl : q = m := by omega
                rw [EM.out] at hx
                exact List.mem_append_right _ hx⟩; clear hO hb12)
            exact ⟨⟨m + 1, A12, _, c12, by omega, by omega, by go_num, rfl, by omega, N12⟩, by simp [intOf]; omega⟩
          · have hmm : Hid (m = hi + 1) := Lib.hid (by omega)
            have hlt2 : ¬ (m : Int) ≤ (hi : Int) := by omega
            have RW : Hid (wth M0 S = true) := Lib.hid (RO0.out S (by have := S4.out; rw [hmm.out] at this; exact this))
            clear S4
            go_wp2_with fail
            refine (F1.out _ X8.out).mono ?_
            rintro e w9 ⟨rfl, hb⟩
            have X9 := Lib.hid (X8.out.next hb)
            have C9 := Lib.hid (S2.out.trans (hb.mono S2.out.size))
            have WN : Hid (Calls Tryz.prog 21 #[.slice A7 M0.length c7, .slice A8 n8 c8] w9 fun e w' => e = .returned (.bool true) ∧ Below w9.heap.size w9 w') := Lib.hid (by
              have h1 := DL1.out
              obtain ⟨A13, c13, e13, m13, _⟩ := (S1.out.below hb).form
              injection e13 with e131 e132 e133
              subst e131 e133
              have := within_any A7 M0.length c7 M0 A8 n8 c8 S w9 (R7.out.ck (Ck.of_below C9.out)) m13 rfl S3.out (by omega) (by omega)
              rw [RW.out] at this
              exact this)
            clear hb X8 q0 q1
            go_wp2_with fail
            refine WN.out.mono ?_
            rintro e w10 ⟨rfl, hb⟩
            have BB := Lib.hid (below_go X9.out.bel hb)
            clear hb
            go_wp2_with fail
            go_ret
            exact ⟨rfl, BB.out⟩
      · have h1 : (e0 != 0) = true := by simp [he0]
        go_wp2_with fail
        refine (F1.out _ X7.out).mono ?_
        rintro e w8 ⟨rfl, hb⟩
        have BB := Lib.hid (below_go X7.out.bel hb)
        clear hb
        go_wp2_with fail
        go_ret
        exact ⟨rfl, BB.out⟩
    · go_wp2_with fail
      refine (F1.out _ X5.out).mono ?_
      rintro e w6 ⟨rfl, hb⟩
      have X6 := Lib.hid (X5.out.next hb)
      clear hb X5 q0 q1
      go_wp2_with fail
      go_ret
      exact ⟨rfl, X6.out.bel⟩
  · go_wp2_with fail
    refine (F1.out _ X4.out).mono ?_
    rintro e w6 ⟨rfl, hb⟩
    have X6 := Lib.hid (X4.out.next hb)
    clear hb X4 q0 q1
    go_wp2_with fail
    go_ret
    exact ⟨rfl, X6.out.bel⟩
end Go.Proofs.YtccjflioaajgiaaGreatDoor
