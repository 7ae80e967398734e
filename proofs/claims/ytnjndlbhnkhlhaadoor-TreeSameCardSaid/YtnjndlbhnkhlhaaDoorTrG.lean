/- places, asksWrong, ContainsFunc: the program's. -/
import Derived.Test.YtnjndlbhnkhlhaaDoorTrF
namespace Go.Proofs.YtnjndlbhnkhlhaaDoor
open Go Go.RowKit Pk Rl
set_option maxRecDepth 20000

set_option maxHeartbeats 2000000 in
theorem places_any (k : Nat) : ∀ (a : Option Addr) (n c : Nat) (L : List Nd) (w : World), n < k → L ≠ [] → Pt w a n c L →
    Calls Tryd.prog 28 #[.slice a n c] w fun e w' => e = .returned (.int .i64 (plc k L)) ∧ Below w.heap.size w w' := by
  induction k with
  | zero => intro a n c L w h; exact absurd h (by omega)
  | succ k ih =>
    intro a n c L w hn hne hP
    rcases L with _ | ⟨nd, r0⟩
    · exact absurd rfl hne
    · have IH := Lib.hid ih
      clear ih
      obtain ⟨b, off, rfl, hat⟩ := hP.row 0 (by simp)
      simp only [Nat.zero_mul, Nat.add_zero, List.getD_cons_zero] at hat
      have PA := Lib.hid (fun W (hW : Below w.heap.size w W) => parts_any w (some ⟨b, off, none⟩) n c (nd :: r0) W hP hW)
      have l1 : (0 : Int) < (n : Int) := by have := hP.len; simp at this; omega
      have l2 : 0 < n := by omega
      have MEM := Lib.hid (show ∀ p ∈ pts (nd :: r0), p.length < k ∧ p ≠ [] from fun p hp => by have := (pts_mem p hp).2.2.1; have := hP.len; exact ⟨by omega, (pts_mem p hp).1⟩)
      have PL := Lib.hid (show (pts (nd :: r0)).length ≤ 1000 by have := pts_len (nd :: r0); have := hP.len; have := hP.few; omega)
      have NK := hP.ok nd (by simp)
      have hk0 := NK.k0
      have hk1 := NK.k1
      have hh0 := NK.h0
      have hh1 := NK.h1
      have A1 := Lib.hid (Atn.alloc w nd)
      have B1 := Lib.hid (below_alloc w (nobj nd))
      obtain ⟨r, hr⟩ : ∃ r, plc (k + 1) (nd :: r0) = r := ⟨_, rfl⟩
      rw [hr]
      have HR : Hid ((if nd.k = 1 then (1 : Int) else if nd.k = 4 then wrap64 ((pts (nd :: r0)).foldl (fun m p => wrap64 (m + plc k p)) 0 * nd.hi) else (pts (nd :: r0)).foldl (fun m p => wrap64 (m + plc k p)) 0) = r) := Lib.hid hr
      clear hr hP hn hne NK
      generalize pts (nd :: r0) = R at PA MEM PL HR
      obtain ⟨q, hq⟩ : ∃ q, R.length = q := ⟨_, rfl⟩
      rw [hq] at PA PL
      have HQ := Lib.hid hq
      clear hq
      obtain ⟨f, hf⟩ : ∃ f, R.foldl (fun m p => wrap64 (m + plc k p)) 0 = f := ⟨_, rfl⟩
      rw [hf] at HR
      have HF := Lib.hid hf
      clear hf
      obtain ⟨kk, ⟨x, t, a', qn, c', L'⟩, y, ⟨x2, t2, a2, q2, c2, L2⟩, lo, hi, s⟩ := nd
      simp only at HR hk0 hk1 hh0 hh1 hat
      obtain ⟨e0, e1, e2, e3, e4, e5, e6, e7, e8, e9, e10⟩ := hat
      simp only at e0 e1 e2 e3 e4 e5 e6 e7 e8 e9 e10
      by_cases k1 : kk = 1
      · subst k1
        have HR1 := HR.out
        rw [if_pos rfl] at HR1
        subst HR1
        clear IH PA MEM PL HF
        go_enter Tryd.func28, Tryd.ntmps28
        go_wp2_with fail
        go_ret
        exact ⟨rfl, B1.out⟩
      · have kb1 := ne_beq k1
        have HR2 := Lib.hid (HR.out)
        rw [if_neg k1] at HR2
        clear HR
        have kz : ∃ z, (kk == 4) = z := ⟨_, rfl⟩
        obtain ⟨z, hz⟩ := kz
        have HZ := Lib.hid (show (if z = true then wrap64 (f * hi) else f) = r by
          rw [← HR2.out]
          by_cases k4 : kk = 4
          · rw [if_pos k4, if_pos (by rw [← hz]; simp [k4])]
          · rw [if_neg k4, if_neg (by rw [← hz]; simp [k4])])
        clear HR2 k1
        go_enter Tryd.func28, Tryd.ntmps28
        go_wp2_with fail
        refine (PA.out _ B1.out).mono ?_
        rintro e w2 ⟨⟨A, C, rfl, hr⟩, hb⟩
        have HW := Lib.hid hr
        have B2 := Lib.hid (below_go B1.out hb)
        have A2 := Lib.hid (A1.out.below hb A1.out.lt)
        have hql := PL.out
        clear hr hb PA e0 e1 e2 e3 e4 e5 e6 e7 e8 e9 e10
        go_wp2_with fail
        go_loopw [4, 16] (fun v4 v16 W => ∃ (m : Int) (i : Nat), v4 = .int .i64 m ∧ v16 = .int .i64 (i : Int) ∧ i ≤ q ∧ Hid (m = (R.take i).foldl (fun m p => wrap64 (m + plc k p)) 0 ∧ Prow w W A R ∧ Below w.heap.size w W ∧ Atn W w.heap.size 0 ⟨kk, ⟨x, t, a', qn, c', L'⟩, y, ⟨x2, t2, a2, q2, c2, L2⟩, lo, hi, s⟩)) (fun _ v16 _ => q - (intOf v16).toNat)
        case atStart => exact ⟨0, 0, rfl, rfl, by omega, Lib.hid ⟨rfl, HW.out, B2.out, A2.out⟩⟩
        case round =>
          obtain ⟨m, i, rfl, rfl, hi', H⟩ := hrel
          have HM := Lib.hid H.out.1
          have HW1 := Lib.hid H.out.2.1
          have B1' := Lib.hid H.out.2.2.1
          have A1' := Lib.hid H.out.2.2.2
          clear H HW B2 A2 A1 B1
          by_cases ci : i < q
          · obtain ⟨b', off', A', C', rfl, hcell, hpt⟩ := HW1.out i (by have := HQ.out; omega)
            have HG := Lib.hid (MEM.out _ (pgetD_mem R i (by have := HQ.out; omega)))
            have TS := Lib.hid (ptake_snoc R i (by have := HQ.out; omega))
            obtain ⟨p, hp⟩ : ∃ p, R.getD i [] = p := ⟨_, rfl⟩
            rw [hp] at hcell hpt HG TS
            clear hp
            obtain ⟨pl, hpl⟩ : ∃ pl, p.length = pl := ⟨_, rfl⟩
            rw [hpl] at hcell hpt HG
            have I := Lib.hid (IH.out A' pl C' p wr HG.out.1 HG.out.2 (hpt.below B1'.out))
            obtain ⟨u, hu⟩ : ∃ u, plc k p = u := ⟨_, rfl⟩
            have TX := Lib.hid (show (R.take (i + 1)).foldl (fun m p => wrap64 (m + plc k p)) 0 = wrap64 (m + u) by rw [TS.out, List.foldl_append, List.foldl_cons, List.foldl_nil, ← HM.out, hu])
            rw [hu] at I
            clear hu hpt hpl TS HM
            go_wp2_with fail
            refine I.out.mono ?_
            rintro e w3 ⟨rfl, hb⟩
            have B3 := Lib.hid (below_go B1'.out hb)
            have HW3 := Lib.hid (HW1.out.below hb)
            have A3 := Lib.hid (A1'.out.below hb A1'.out.lt)
            clear hb I HW1 B1' A1' hcell
            go_wp2_with fail
            go_roundw
            case rel => exact ⟨_, i + 1, rfl, by go_num, by omega, Lib.hid ⟨TX.out.symm, HW3.out, B3.out, A3.out⟩⟩
            case measure => simp [intOf]; omega
          · obtain rfl : i = q := by omega
            have EM := Lib.hid (show m = f by rw [HM.out, ← HF.out, List.take_of_length_le (by have := HQ.out; omega)])
            have em := EM.out
            subst em
            obtain ⟨e0, e1, e2, e3, e4, e5, e6, e7, e8, e9, e10⟩ := A1'.out
            simp only at e0 e9
            have HZ1 := HZ.out
            clear HZ e1 e2 e3 e4 e5 e6 e7 e8 e10 HM HW1 EM
            cases z
            · rw [if_neg (by simp)] at HZ1
              subst HZ1
              go_wp2_with fail
              go_ret
              exact ⟨rfl, B1'.out⟩
            · rw [if_pos rfl] at HZ1
              subst HZ1
              go_wp2_with fail
              go_ret
              exact ⟨rfl, B1'.out⟩
end Go.Proofs.YtnjndlbhnkhlhaaDoor
