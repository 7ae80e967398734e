/- Contracts, joined: TrG, TrH. -/
import Derived.Test.YtpnllbojifnopaaGreatDoorTrF
/- places, asksWrong, ContainsFunc: the program's. -/
namespace Go.Proofs.YtpnllbojifnopaaGreatDoor
open Go Go.RowKit Pk Rl
set_option maxRecDepth 20000

set_option maxHeartbeats 2000000 in
theorem places_any (k : Nat) : ∀ (a : Option Addr) (n c : Nat) (L : List Nd) (w : World), n < k → L ≠ [] → Pt w a n c L →
    Calls Tryz.prog 80 #[.slice a n c] w fun e w' => e = .returned (.int .i64 (plc k L)) ∧ Below w.heap.size w w' := by
  induction k with
  | zero => intro a n c L w h; exact absurd h (by omega)
  | succ k ih =>
    intro a n c L w hn hne hP
    rcases L with _ | ⟨nd, r0⟩
    · exact absurd rfl hne
    · have IH := Lib.hid ih
      clear ih
      obtain ⟨b, off, rfl, hat⟩ := hP.row 0 (by simp)
      simp only [Nat.zero_mul, Nat.add_zero, List.getD_cons_zero] at hat
      have PA := Lib.hid (fun W (hW : Below w.heap.size w W) => parts_any w (some ⟨b, off, none⟩) n c (nd :: r0) W hP hW)
      have l1 : (0 : Int) < (n : Int) := by have := hP.len; simp at this; omega
      have l2 : 0 < n := by omega
      have MEM := Lib.hid (show ∀ p ∈ pts (nd :: r0), p.length < k ∧ p ≠ [] from fun p hp => by have := (pts_mem p hp).2.2.1; have := hP.len; exact ⟨by omega, (pts_mem p hp).1⟩)
      have PL := Lib.hid (show (pts (nd :: r0)).length ≤ 1000 by have := pts_len (nd :: r0); have := hP.len; have := hP.few; omega)
      have NK := hP.ok nd (by simp)
      have hk0 := NK.k0
      have hk1 := NK.k1
      have hh0 := NK.h0
      have hh1 := NK.h1
      have A1 := Lib.hid (Atn.alloc w nd)
      have B1 := Lib.hid (below_alloc w (nobj nd))
      obtain ⟨r, hr⟩ : ∃ r, plc (k + 1) (nd :: r0) = r := ⟨_, rfl⟩
      rw [hr]
      have HR : Hid ((if nd.k = 1 then (1 : Int) else if nd.k = 4 then wrap64 ((pts (nd :: r0)).foldl (fun m p => wrap64 (m + plc k p)) 0 * nd.hi) else (pts (nd :: r0)).foldl (fun m p => wrap64 (m + plc k p)) 0) = r) := Lib.hid hr
      clear hr hP hn hne NK
      generalize pts (nd :: r0) = R at PA MEM PL HR
      obtain ⟨q, hq⟩ : ∃ q, R.length = q := ⟨_, rfl⟩
      rw [hq] at PA PL
      have HQ := Lib.hid hq
      clear hq
      obtain ⟨f, hf⟩ : ∃ f, R.foldl (fun m p => wrap64 (m + plc k p)) 0 = f := ⟨_, rfl⟩
      rw [hf] at HR
      have HF := Lib.hid hf
      clear hf
      obtain ⟨kk, ⟨x, t, a', qn, c', L'⟩, y, ⟨x2, t2, a2, q2, c2, L2⟩, lo, hi, s⟩ := nd
      simp only at HR hk0 hk1 hh0 hh1 hat
      obtain ⟨e0, e1, e2, e3, e4, e5, e6, e7, e8, e9, e10⟩ := hat
      simp only at e0 e1 e2 e3 e4 e5 e6 e7 e8 e9 e10
      by_cases k1 : kk = 1
      · subst k1
        have HR1 := HR.out
        rw [if_pos rfl] at HR1
        subst HR1
        clear IH PA MEM PL HF
        go_enter Tryz.func80, Tryz.ntmps80
        go_wp2_with fail
        go_ret
        exact ⟨rfl, B1.out⟩
      · have kb1 := ne_beq k1
        have HR2 := Lib.hid (HR.out)
        rw [if_neg k1] at HR2
        clear HR
        have kz : ∃ z, (kk == 4) = z := ⟨_, rfl⟩
        obtain ⟨z, hz⟩ := kz
        have HZ := Lib.hid (show (if z = true then wrap64 (f * hi) else f) = r by
          rw [← HR2.out]
          by_cases k4 : kk = 4
          · rw [if_pos k4, if_pos (by rw [← hz]; simp [k4])]
          · rw [if_neg k4, if_neg (by rw [← hz]; simp [k4])])
        clear HR2 k1
        go_enter Tryz.func80, Tryz.ntmps80
        go_wp2_with fail
        refine (PA.out _ B1.out).mono ?_
        rintro e w2 ⟨⟨A, C, rfl, hr⟩, hb⟩
        have HW := Lib.hid hr
        have B2 := Lib.hid (below_go B1.out hb)
        have A2 := Lib.hid (A1.out.below hb A1.out.lt)
        have hql := PL.out
        clear hr hb PA e0 e1 e2 e3 e4 e5 e6 e7 e8 e9 e10
        go_wp2_with fail
        go_loopw [4, 16] (fun v4 v16 W => ∃ (m : Int) (i : Nat), v4 = .int .i64 m ∧ v16 = .int .i64 (i : Int) ∧ i ≤ q ∧ Hid (m = (R.take i).foldl (fun m p => wrap64 (m + plc k p)) 0 ∧ Prow w W A R ∧ Below w.heap.size w W ∧ Atn W w.heap.size 0 ⟨kk, ⟨x, t, a', qn, c', L'⟩, y, ⟨x2, t2, a2, q2, c2, L2⟩, lo, hi, s⟩)) (fun _ v16 _ => q - (intOf v16).toNat)
        case atStart => exact ⟨0, 0, rfl, rfl, by omega, Lib.hid ⟨rfl, HW.out, B2.out, A2.out⟩⟩
        case round =>
          obtain ⟨m, i, rfl, rfl, hi', H⟩ := hrel
          have HM := Lib.hid H.out.1
          have HW1 := Lib.hid H.out.2.1
          have B1' := Lib.hid H.out.2.2.1
          have A1' := Lib.hid H.out.2.2.2
          clear H HW B2 A2 A1 B1
          by_cases ci : i < q
          · obtain ⟨b', off', A', C', rfl, hcell, hpt⟩ := HW1.out i (by have := HQ.out; omega)
            have HG := Lib.hid (MEM.out _ (pgetD_mem R i (by have := HQ.out; omega)))
            have TS := Lib.hid (ptake_snoc R i (by have := HQ.out; omega))
            obtain ⟨p, hp⟩ : ∃ p, R.getD i [] = p := ⟨_, rfl⟩
            rw [hp] at hcell hpt HG TS
            clear hp
            obtain ⟨pl, hpl⟩ : ∃ pl, p.length = pl := ⟨_, rfl⟩
            rw [hpl] at hcell hpt HG
            have I := Lib.hid (IH.out A' pl C' p wr HG.out.1 HG.out.2 (hpt.below B1'.out))
            obtain ⟨u, hu⟩ : ∃ u, plc k p = u := ⟨_, rfl⟩
            have TX := Lib.hid (show (R.take (i + 1)).foldl (fun m p => wrap64 (m + plc k p)) 0 = wrap64 (m + u) by rw [TS.out, List.foldl_append, List.foldl_cons, List.foldl_nil, ← HM.out, hu])
            rw [hu] at I
            clear hu hpt hpl TS HM
            go_wp2_with fail
            refine I.out.mono ?_
            rintro e w3 ⟨rfl, hb⟩
            have B3 := Lib.hid (below_go B1'.out hb)
            have HW3 := Lib.hid (HW1.out.below hb)
            have A3 := Lib.hid (A1'.out.below hb A1'.out.lt)
            clear hb I HW1 B1' A1' hcell
            go_wp2_with fail
            go_roundw
            case rel => exact ⟨_, i + 1, rfl, by go_num, by omega, Lib.hid ⟨TX.out.symm, HW3.out, B3.out, A3.out⟩⟩
            case measure => simp [intOf]; omega
          · obtain rfl : i = q := by omega
            have EM := Lib.hid (show m = f by rw [HM.out, ← HF.out, List.take_of_length_le (by have := HQ.out; omega)])
            have em := EM.out
            subst em
            obtain ⟨e0, e1, e2, e3, e4, e5, e6, e7, e8, e9, e10⟩ := A1'.out
            simp only at e0 e9
            have HZ1 := HZ.out
            clear HZ e1 e2 e3 e4 e5 e6 e7 e8 e10 HM HW1 EM
            cases z
            · rw [if_neg (by simp)] at HZ1
              subst HZ1
              go_wp2_with fail
              go_ret
              exact ⟨rfl, B1'.out⟩
            · rw [if_pos rfl] at HZ1
              subst HZ1
              go_wp2_with fail
              go_ret
              exact ⟨rfl, B1'.out⟩
end Go.Proofs.YtpnllbojifnopaaGreatDoor

/- May, Places, Depth: the program's. -/
namespace Go.Proofs.YtpnllbojifnopaaGreatDoor
open Go Go.RowKit Pk Rl
set_option maxRecDepth 20000

def bad (n : Nd) : Bool := !pmay n.p.x n.p.t n.p.L || !pmay n.g.x n.g.t n.g.L
set_option maxHeartbeats 1000000 in
theorem asks_any (nd : Nd) (w : World) (h : Nok w nd) (hT : Tab w) :
    Calls Tryz.prog 78 #[nOf nd] w fun e w' => e = .returned (.bool (bad nd)) ∧ Below w.heap.size w w' := by
  have A0 := Lib.hid (Atn.alloc w nd)
  have B0 := Lib.hid (below_alloc w (nobj nd))
  have M1 := Lib.hid (fun W (hW : Below w.heap.size w W) => pmay_any nd.p.x nd.p.t nd.p.a nd.p.n nd.p.c nd.p.L W h.p.len (by have := h.p.few; omega) (h.p.row.below hW) h.p.ok (hT.below hW))
  have M2 := Lib.hid (fun W (hW : Below w.heap.size w W) => pmay_any nd.g.x nd.g.t nd.g.a nd.g.n nd.g.c nd.g.L W h.g.len (by have := h.g.few; omega) (h.g.row.below hW) h.g.ok (hT.below hW))
  unfold bad
  clear h hT
  generalize pmay nd.p.x nd.p.t nd.p.L = r1 at M1
  generalize pmay nd.g.x nd.g.t nd.g.L = r2 at M2
  obtain ⟨kk, ⟨x, t, a', qn, c', L'⟩, y, ⟨x2, t2, a2, q2, c2, L2⟩, lo, hi, s⟩ := nd
  go_enter Tryz.func78, Tryz.ntmps78
  go_wp2_with fail
  refine (M1.out _ B0.out).mono ?_
  rintro e w2 ⟨rfl, hb⟩
  have B2 := Lib.hid (below_go B0.out hb)
  obtain ⟨e0, e1, e2, e3, e4, e5, e6, e7, e8, e9, e10⟩ := A0.out.below hb A0.out.lt
  simp only at e5 e6 e7
  clear hb e0 e1 e2 e3 e4 e8 e9 e10 M1 A0 B0
  cases r1
  · go_wp2_with fail
    go_ret
    exact ⟨rfl, B2.out⟩
  · go_wp2_with fail
    refine (M2.out _ B2.out).mono ?_
    rintro e w3 ⟨rfl, hb⟩
    have B3 := Lib.hid (below_go B2.out hb)
    clear hb
    go_wp2_with fail
    go_ret
    exact ⟨rfl, B3.out⟩
set_option maxHeartbeats 2000000 in
theorem index_any (a : Option Addr) (n c : Nat) (L : List Nd) (w : World) (hP : Pt w a n c L) (hT : Tab w) :
    Calls Tryz.prog 109 #[.slice a n c, .func (.func 78) #[] #[]] w fun e w' => (∃ i : Int, e = .returned (.int .i64 i) ∧ decide (0 ≤ i) = L.any bad) ∧ Below w.heap.size w w' := by
  have HP := Lib.hid hP
  have HT := Lib.hid hT
  have hfew := hP.few
  clear hP hT
  go_enter Tryz.func109, Tryz.ntmps109
  go_wp2_with fail
  go_loopw [8] (fun v8 W => ∃ (i : Nat), v8 = .int .i64 (i : Int) ∧ i ≤ n ∧ Hid (Below w.heap.size w W ∧ (L.take i).any bad = false)) (fun v8 _ => n - (intOf v8).toNat)
  case atStart => exact ⟨0, rfl, by omega, Lib.hid ⟨Below.refl _ _, rfl⟩⟩
  case round =>
    obtain ⟨i, rfl, hi, H⟩ := hrel
    have B1 := Lib.hid H.out.1
    have HD := Lib.hid H.out.2
    clear H
    by_cases ci : i < n
    · obtain ⟨b, off, rfl, hat⟩ := (HP.out.row.below B1.out) i (by have := HP.out.len; omega)
      have S := Lib.hid (asks_any (L.getD i nz) wr ((HP.out.ok _ (ngetD_mem L i (by have := HP.out.len; omega))).below B1.out) (HT.out.below B1.out))
      have TS := Lib.hid (show L.take (i + 1) = L.take i ++ [L.getD i nz] by
        rw [List.take_succ_eq_append_getElem (by have := HP.out.len; omega), List.getD_eq_getElem?_getD, List.getElem?_eq_getElem (by have := HP.out.len; omega)]; rfl)
      have ME := Lib.hid (ngetD_mem L i (by have := HP.out.len; omega))
      obtain ⟨nd, hnd⟩ : ∃ nd, L.getD i nz = nd := ⟨_, rfl⟩
      rw [hnd] at S hat TS ME
      obtain ⟨z, hz⟩ : ∃ z, bad nd = z := ⟨_, rfl⟩
      rw [hz] at S
      have HZ := Lib.hid hz
      clear hnd hz
      have TA := Lib.hid (show z = false → (L.take (i + 1)).any bad = false from fun h => by rw [TS.out, List.any_append, HD.out, List.any_cons, HZ.out, h]; rfl)
      have TB := Lib.hid (show z = true → L.any bad = true from fun h => List.any_eq_true.2 ⟨nd, ME.out, by rw [HZ.out, h]⟩)
      obtain ⟨kk, ⟨x, t, a', qn, c', L'⟩, y, ⟨x2, t2, a2, q2, c2, L2⟩, lo, hi', s⟩ := nd
      obtain ⟨e0, e1, e2, e3, e4, e5, e6, e7, e8, e9, e10⟩ := hat
      simp only at e0 e1 e2 e3 e4 e5 e6 e7 e8 e9 e10
      clear TS HD
      go_wp2_with fail
      refine S.out.mono ?_
      rintro e w2 ⟨rfl, hb⟩
      have B2 := Lib.hid (below_go B1.out hb)
      clear hb e0 e1 e2 e3 e4 e5 e6 e7 e8 e9 e10 S B1
      cases z
      · go_wp2_with fail
        go_roundw
        case rel => exact ⟨i + 1, by go_num, by omega, Lib.hid ⟨B2.out, TA.out (by first | rfl | trivial)⟩⟩
        case measure => simp [intOf]; omega
      · go_wp2_with fail
        go_ret
        exact ⟨⟨_, rfl, by rw [TB.out (by first | rfl | trivial)]; simp⟩, B2.out⟩
    · obtain rfl : i = n := by omega
      have E := Lib.hid (show L.any bad = false by have := HD.out; rwa [List.take_of_length_le (by have := HP.out.len; omega)] at this)
      go_wp2_with fail
      go_ret
      exact ⟨⟨_, rfl, by rw [E.out]; rfl⟩, B1.out⟩
set_option maxHeartbeats 1000000 in
theorem contains_any (a : Option Addr) (n c : Nat) (L : List Nd) (w : World) (hP : Pt w a n c L) (hT : Tab w) :
    Calls Tryz.prog 77 #[.slice a n c, .func (.func 78) #[] #[]] w fun e w' => e = .returned (.bool (L.any bad)) ∧ Below w.heap.size w w' := by
  have I := Lib.hid (index_any a n c L w hP hT)
  generalize L.any bad = r at I
  clear hP hT
  go_enter Tryz.func77, Tryz.ntmps77
  go_wp2_with fail
  refine I.out.mono ?_
  rintro e w2 ⟨⟨i, rfl, hi⟩, hb⟩
  have HI := Lib.hid hi
  have B2 := Lib.hid hb
  clear hi hb
  go_wp2_with fail
  go_ret
  exact ⟨ret_bool HI.out, B2.out⟩
def mp (L : List Nd) (win : Int) : Int :=
  if 32 < L.length then 12
  else if (frn L).length < L.length ∨ fmd 33 L = false then 2
  else if L.any bad = true then 1
  else if 8 < dpt 33 L then 16
  else if win < 1 ∨ 1048576 < win then 5
  else if 32 < plc 33 L then 4
  else 0
theorem fmd_ne {k : Nat} {l : List Nd} (h : fmd k l = true) : l ≠ [] := fun e => by
  subst e
  cases k with
  | zero => simp [fmd] at h
  | succ k => simp [fmd, ofp, frn] at h
abbrev ptv (a : Option Addr) (n c : Nat) (win : Int) : Value := .agg #[.slice a n c, .int .u64 win]
abbrev ptobj (a : Option Addr) (n c : Nat) (win : Int) : Obj := .cells #[.slice a n c, .int .u64 win] 28
/- a pattern in a box of its own -/
structure Pbx (w W : World) (g : Nat) (a : Option Addr) (n c : Nat) (win : Int) : Prop where
  c0 : W.cell? ⟨g, 0, none⟩ = some (.slice a n c)
  c1 : W.cell? ⟨g, 1, none⟩ = some (.int .u64 win)
  bel : Below w.heap.size w W
theorem Pbx.next {w W W' : World} {g : Nat} {a : Option Addr} {n c : Nat} {win : Int} (h : Pbx w W g a n c win) (hb : Below W.heap.size W W') : Pbx w W' g a n c win :=
  ⟨by rw [hb.cell (World.block_lt_of_cell? _ _ h.c0)]; exact h.c0, by rw [hb.cell (World.block_lt_of_cell? _ _ h.c1)]; exact h.c1, below_go h.bel hb⟩
theorem Pbx.start (w : World) (a : Option Addr) (n c : Nat) (win : Int) : Pbx w (w.alloc (ptobj a n c win)) w.heap.size a n c win := ⟨by simp [go_sem], by simp [go_sem], below_alloc w _⟩
set_option maxHeartbeats 4000000 in
theorem tmay_any (a : Option Addr) (n c : Nat) (L : List Nd) (win : Int) (w : World) (hP : Pt w a n c L) (hT : Tab w) :
    Calls Tryz.prog 43 #[ptv a n c win] w fun e w' => e = .returned (.int .i64 (mp L win)) ∧ Below w.heap.size w w' := by
  have K0 := Lib.hid (Pbx.start w a n c win)
  have HN := Lib.hid hP.len
  have hfl := frn_len L
  have hll := hP.len
  have C1 := Lib.hid (fun W (hW : Below w.heap.size w W) => front_any a n c L W (hP.below hW))
  have C2 := Lib.hid (fun W (hW : Below w.heap.size w W) (h : n < 33) => formed_any 33 a n c L W h (hP.below hW))
  have C3 := Lib.hid (fun W (hW : Below w.heap.size w W) => contains_any a n c L W (hP.below hW) (hT.below hW))
  have C4 := Lib.hid (fun W (hW : Below w.heap.size w W) (h : n < 33) => depth_any 33 (by omega) a n c L W h (hP.below hW))
  have C5 := Lib.hid (fun W (hW : Below w.heap.size w W) (h : n < 33) (hne : L ≠ []) => places_any 33 a n c L W h hne (hP.below hW))
  have NE := Lib.hid (fun h : fmd 33 L = true => fmd_ne h)
  obtain ⟨r, hr⟩ : ∃ r, mp L win = r := ⟨_, rfl⟩
  rw [hr]
  unfold mp at hr
  rw [hll] at hr hfl
  obtain ⟨q, hq⟩ : ∃ q, (frn L).length = q := ⟨_, rfl⟩
  rw [hq] at hr hfl
  have HQ := Lib.hid hq
  have HR := Lib.hid hr
  clear hr hP hT hll hq
  generalize fmd 33 L = z1 at C2 HR NE
  generalize L.any bad = z2 at C3 HR
  generalize dpt 33 L = d at C4 HR
  generalize plc 33 L = pl at C5 HR
  by_cases c1 : 32 < n
  · have HR1 := HR.out
    rw [if_pos c1] at HR1
    subst HR1
    have c1' : (32 : Int) < (n : Int) := by omega
    clear C1 C2 C3 C4 C5 HR
    go_enter Tryz.func43, Tryz.ntmps43
    go_wp2_with fail
    go_ret
    exact ⟨rfl, K0.out.bel⟩
  · rw [if_neg c1] at HR
    have c1' : ¬ (32 : Int) < (n : Int) := by omega
    have n33 : Hid (n < 33) := Lib.hid (by omega)
    by_cases c2 : q < n
    · have HR1 := HR.out
      rw [if_pos (.inl c2)] at HR1
      subst HR1
      have c2' : (q : Int) < (n : Int) := by omega
      clear C2 C3 C4 C5 HR
      go_enter Tryz.func43, Tryz.ntmps43
      go_wp2_with fail
      refine (C1.out _ K0.out.bel).mono ?_
      rintro e w2 ⟨⟨A, C, rfl, _⟩, rfl⟩
      rw [HQ.out]
      go_wp2_with fail
      go_ret
      exact ⟨rfl, K0.out.bel⟩
    · have c2' : ¬ (q : Int) < (n : Int) := by omega
      go_enter Tryz.func43, Tryz.ntmps43
      go_wp2_with fail
      refine (C1.out _ K0.out.bel).mono ?_
      rintro e w2 ⟨⟨A, C, rfl, _⟩, rfl⟩
      rw [HQ.out]
      go_wp2_with fail
      refine (C2.out _ K0.out.bel n33.out).mono ?_
      rintro e w2 ⟨rfl, hb⟩
      have K2 := Lib.hid (K0.out.next hb)
      clear hb K0 C1 C2
      cases z1
      · have HR1 := HR.out
        rw [if_pos (.inr rfl)] at HR1
        subst HR1
        go_wp2_with fail
        go_ret
        exact ⟨rfl, K2.out.bel⟩
      · rw [if_neg (by simp [c2])] at HR
        go_wp2_with fail
        refine (C3.out _ K2.out.bel).mono ?_
        rintro e w3 ⟨rfl, hb⟩
        have K3 := Lib.hid (K2.out.next hb)
        clear hb K2 C3
        cases z2
        · rw [if_neg (by simp)] at HR
          go_wp2_with fail
          refine (C4.out _ K3.out.bel n33.out).mono ?_
          rintro e w4 ⟨rfl, hb⟩
          have K4 := Lib.hid (K3.out.next hb)
          clear hb K3 C4
          by_cases c4 : 8 < d
          · have HR1 := HR.out
            rw [if_pos c4] at HR1
            subst HR1
            go_wp2_with fail
            go_ret
            exact ⟨rfl, K4.out.bel⟩
          · rw [if_neg c4] at HR
            have g1 := K4.out.c1
            by_cases c5 : win < 1
            · have HR1 := HR.out
              rw [if_pos (.inl c5)] at HR1
              subst HR1
              go_wp2_with fail
              go_ret
              exact ⟨rfl, K4.out.bel⟩
            · by_cases c6 : 1048576 < win
              · have HR1 := HR.out
                rw [if_pos (.inr c6)] at HR1
                subst HR1
                go_wp2_with fail
                go_ret
                exact ⟨rfl, K4.out.bel⟩
              · rw [if_neg (by omega)] at HR
                have LN := Lib.hid (NE.out (by first | rfl | trivial))
                go_wp2_with fail
                refine (C5.out _ K4.out.bel n33.out LN.out).mono ?_
                rintro e w5 ⟨rfl, hb⟩
                have K5 := Lib.hid (K4.out.next hb)
                clear hb K4 C5
                by_cases c7 : 32 < pl
                · have HR1 := HR.out
                  rw [if_pos c7] at HR1
                  subst HR1
                  go_wp2_with fail
                  go_ret
                  exact ⟨rfl, K5.out.bel⟩
                · have HR1 := HR.out
                  rw [if_neg c7] at HR1
                  subst HR1
                  go_wp2_with fail
                  go_ret
                  exact ⟨rfl, K5.out.bel⟩
        · have HR1 := HR.out
          rw [if_pos rfl] at HR1
          subst HR1
          go_wp2_with fail
          go_ret
          exact ⟨rfl, K3.out.bel⟩
end Go.Proofs.YtpnllbojifnopaaGreatDoor
