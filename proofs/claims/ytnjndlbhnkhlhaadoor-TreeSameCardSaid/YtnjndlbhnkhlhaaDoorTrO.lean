/- The document's May of a pattern. -/
import Derived.Test.YtnjndlbhnkhlhaaDoorTrN
namespace Go.Proofs.YtnjndlbhnkhlhaaDoor
open Go Go.RowKit Pk Rl
set_option maxRecDepth 20000

theorem mp_two (L : List Nd) (win : Int) (n : Nat) (hn : L.length = n) (h0 : 0 ≤ win) :
    mp L win = if 32 < n then 12 else if (bld 33 L && decide ((frn L).length = n)) = false ∨ fmT 33 L = false then 2 else if L.any bad = true then 1 else if 8 < dpt 33 L then 16 else if win = 0 ∨ 1048576 < win then 5 else if 32 < plT 33 L then 4 else 0 := by
  have hq := frn_len L
  unfold mp
  rw [hn] at hq ⊢
  by_cases c1 : 32 < n
  · rw [if_pos c1, if_pos c1]
  rw [if_neg c1, if_neg c1, fmd_eq]
  by_cases c2 : (frn L).length = n
  · by_cases c3 : bld 33 L = true
    · by_cases c4 : fmT 33 L = true
      · rw [if_neg (show ¬((frn L).length < n ∨ (bld 33 L && fmT 33 L) = false) by rw [c2, c3, c4]; simp), if_neg (show ¬((bld 33 L && decide ((frn L).length = n)) = false ∨ fmT 33 L = false) by rw [c2, c3, c4]; simp), plT_eq 33 L c4]
        have e : (win < 1 ∨ 1048576 < win) ↔ (win = 0 ∨ 1048576 < win) := by omega
        simp only [e]
      · have c4' : fmT 33 L = false := by simpa using c4
        rw [if_pos (by rw [c4']; simp), if_pos (by rw [c4']; simp)]
    · have c3' : bld 33 L = false := by simpa using c3
      rw [if_pos (by rw [c3']; simp), if_pos (by rw [c3']; simp)]
  · rw [if_pos (.inl (by omega)), if_pos (.inl (by simp [c2]))]
set_option maxHeartbeats 8000000 in
theorem rtmay_any (a : Option Addr) (n c : Nat) (L : List Nd) (win : Int) (w : World) (hP : Pt w a n c L) (hw0 : 0 ≤ win) :
    Calls Tryd.prog 8 #[ptv a n c win] w fun e w' => e = .returned (.int .i64 (mp L win)) ∧ Below w.heap.size w w' := by
  have K0 := Lib.hid (Pbx.start w a n c win)
  have HN := Lib.hid hP.len
  have HP := Lib.hid hP
  have hll := hP.len
  have LL : Hid (L.length ≤ 1000) := Lib.hid (by rw [hP.len]; exact hP.few)
  have C1 := Lib.hid (fun W (hW : Below w.heap.size w W) (h : n < 33) => rtree_any 33 a n c L W h (hP.below hW))
  have HV := Lib.hid (show ∀ v ∈ L, 0 ≤ v.hi ∧ v.hi < 256 from fun v hv => ⟨(hP.ok v hv).h0, (hP.ok v hv).h1⟩)
  have D1 := Lib.hid (fun (h : n < 33) => dpt_fuel 33 L (by rw [hll]; exact h))
  have D2 := Lib.hid (fun (h : n < 33) => plT_fuel 33 L (by rw [hll]; exact h))
  have D3 := Lib.hid (fun (h : n < 33) => fmT_fuel 33 L (by rw [hll]; exact h))
  obtain ⟨r, hr⟩ : ∃ r, mp L win = r := ⟨_, rfl⟩
  rw [hr]
  rw [mp_two L win n hP.len hw0] at hr
  obtain ⟨ok, hok⟩ : ∃ ok, (bld 33 L && decide ((frn L).length = n)) = ok := ⟨_, rfl⟩
  rw [hok] at hr
  have HOK := Lib.hid hok
  have HR := Lib.hid hr
  clear hr hok hll hP
  by_cases c1 : 32 < n
  · have HR1 := HR.out
    rw [if_pos c1] at HR1
    subst HR1
    have c1' : (32 : Int) < (n : Int) := by omega
    clear C1 HR HP HV D1 D2 D3
    go_enter Tryd.func8, Tryd.ntmps8
    go_wp2_with fail
    go_ret
    exact ⟨rfl, K0.out.bel⟩
  rw [if_neg c1] at HR
  have c1' : ¬ (32 : Int) < (n : Int) := by omega
  have n33 : Hid (n < 33) := Lib.hid (by omega)
  have D1' := Lib.hid (D1.out n33.out)
  have D2' := Lib.hid (D2.out n33.out)
  have D3' := Lib.hid (D3.out n33.out)
  clear D1 D2 D3
  go_enter Tryd.func8, Tryd.ntmps8
  go_wp2_with fail
  refine (C1.out _ K0.out.bel n33.out).mono ?_
  rintro e w2 ⟨nd, A, m, C, rfl, hbt, hb⟩
  have HT := Lib.hid hbt
  rw [HOK.out]
  have K2 := Lib.hid (K0.out.next hb)
  have K3 := Lib.hid (K2.out.next (below_alloc w2 (tobjT nd A m C)))
  have T3 := Lib.hid (Trb.start w2 nd A m C)
  have B3 := Lib.hid (below_alloc w2 (tobjT nd A m C))
  have hsz : Hid (w.heap.size + 1 ≤ w2.heap.size) := Lib.hid (by have := hb.size; rw [World.size_alloc] at this; exact this)
  clear hb hbt C1 K0 K2
  cases ok
  · have HR1 := HR.out
    rw [if_pos (.inl rfl)] at HR1
    subst HR1
    go_wp2_with fail
    go_ret
    exact ⟨rfl, K3.out.bel⟩
  have hb33 : bld 33 L = true := by have := HOK.out; simp at this; exact this.1
  obtain ⟨hnd, hm, htr⟩ := HT.out hb33
  have HND := Lib.hid hnd
  have HTR := Lib.hid (htr.below B3.out (fun b hb => hb.2))
  have HM := Lib.hid hm
  clear hnd hm htr hb33 HT HOK
  obtain ⟨fT, hfT⟩ : ∃ fT, fmT 33 L = fT := ⟨_, rfl⟩
  obtain ⟨d, hd⟩ : ∃ d, dpt 33 L = d := ⟨_, rfl⟩
  obtain ⟨pl, hpl⟩ : ∃ pl, plT 33 L = pl := ⟨_, rfl⟩
  have SZ := Lib.hid (show ∀ W, Below w2.heap.size (w2.alloc (tobjT nd A m C)) W → ∀ b, (w.heap.size + 1 ≤ b ∧ b < w2.heap.size) → b < W.heap.size from fun W hW b hb => by have := hW.size; have := hb.2; rw [World.size_alloc] at *; omega)
  have TS := Lib.hid (fun W (hW : Below w2.heap.size (w2.alloc (tobjT nd A m C)) W) => HTR.out.same (F := _) (G := fun b => w.heap.size + 1 ≤ b ∧ b < w2.heap.size) (fun b hb => hW.block b hb.2) (fun b hb => by have := hb.1; rw [World.size_alloc] at this; exact ⟨this, hb.2⟩))
  have I1 : Hid (∀ W, Below w2.heap.size (w2.alloc (tobjT nd A m C)) W → Calls Tryd.prog 21 #[tOfT nd A m C] W fun e w' => e = .returned (.bool fT) ∧ Below W.heap.size W w') := Lib.hid (fun W hW => by
    have := rformed_any 33 nd A C L _ W LL.out HND.out (TS.out W hW) (SZ.out W hW) (by have := HN.out; have := n33.out; omega)
    rw [GF, D3'.out, hfT, ← HM.out] at this
    exact this)
  have I2 : Hid (∀ W, Below w2.heap.size (w2.alloc (tobjT nd A m C)) W → Calls Tryd.prog 14 #[tOfT nd A m C] W fun e w' => e = .returned (.int .i64 d) ∧ Below W.heap.size W w') := Lib.hid (fun W hW => by
    have := rdepth_any 33 (by omega) nd A C L _ W LL.out (TS.out W hW) (SZ.out W hW)
    rw [GD, D1'.out, hd, ← HM.out] at this
    exact this)
  have I3 : Hid (∀ W, Below w2.heap.size (w2.alloc (tobjT nd A m C)) W → Calls Tryd.prog 13 #[tOfT nd A m C] W fun e w' => e = .returned (.int .i64 pl) ∧ Below W.heap.size W w') := Lib.hid (fun W hW => by
    have := rplaces_any 33 nd A C L _ W LL.out HND.out HV.out (TS.out W hW) (SZ.out W hW)
    rw [GP, D2'.out, hpl, ← HM.out] at this
    exact this)
  rw [hfT, hd, hpl] at HR
  clear hfT hd hpl TS SZ HTR D1' D2' D3' HV HND LL HM
  obtain ⟨nk, ⟨px, pt, pa, pn, pc, pL⟩, ny, ⟨gx, gt, ga, gn, gc, gL⟩, nlo, nhi, ns⟩ := nd
  go_wp2_with fail
  refine (I1.out _ (Below.refl _ _)).mono ?_
  rintro e w4 ⟨rfl, hb⟩
  have B4 := Lib.hid (hb.mono (by simp) : Below w2.heap.size _ w4)
  have K4 := Lib.hid (K3.out.next hb)
  have T4 := Lib.hid (T3.out.below hb (by simp))
  clear hb I1 K3 T3 B3
  cases fT
  · have HR1 := HR.out
    rw [if_pos (.inr rfl)] at HR1
    subst HR1
    go_wp2_with fail
    go_ret
    exact ⟨rfl, K4.out.bel⟩
  rw [if_neg (by simp)] at HR
  have p0 := K4.out.c0
  go_wp2_with fail
  clear p0
  go_loopw [26] (fun v26 W => ∃ (i : Nat), v26 = .int .i64 (i : Int) ∧ i ≤ n ∧ Hid (Pbx w W w.heap.size a n c win ∧ Below w2.heap.size (w2.alloc (tobjT ⟨nk, ⟨px, pt, pa, pn, pc, pL⟩, ny, ⟨gx, gt, ga, gn, gc, gL⟩, nlo, nhi, ns⟩ A m C)) W ∧ Trb W w2.heap.size ⟨nk, ⟨px, pt, pa, pn, pc, pL⟩, ny, ⟨gx, gt, ga, gn, gc, gL⟩, nlo, nhi, ns⟩ A m C ∧ (L.take i).any bad = false)) (fun v26 _ => n - (intOf v26).toNat)
  case atStart => exact ⟨0, rfl, by omega, Lib.hid ⟨K4.out, B4.out, T4.out, rfl⟩⟩
  case round =>
    obtain ⟨i, rfl, hi, H⟩ := hrel
    have K1 := Lib.hid H.out.1
    have B1 := Lib.hid H.out.2.1
    have T1 := Lib.hid H.out.2.2.1
    have HD := Lib.hid H.out.2.2.2
    clear H K4 B4 T4
    have p0 := K1.out.c0
    by_cases ci : i < n
    · obtain ⟨b, off, rfl, hat⟩ := (HP.out.row.below K1.out.bel) i (by have := HN.out; omega)
      have ME := Lib.hid (ngetD_mem L i (by have := HN.out; omega))
      have TS := Lib.hid (show L.take (i + 1) = L.take i ++ [L.getD i nz] by
        rw [List.take_succ_eq_append_getElem (by have := HN.out; omega), List.getD_eq_getElem?_getD, List.getElem?_eq_getElem (by have := HN.out; omega)]; rfl)
      obtain ⟨x, hx⟩ : ∃ x, L.getD i nz = x := ⟨_, rfl⟩
      rw [hx] at hat TS ME
      have NK := HP.out.ok x ME.out
      have M1 := Lib.hid (fun W (hW : Below w.heap.size w W) => rpmay_any x.p.x x.p.t x.p.a x.p.n x.p.c x.p.L W NK.p.len (by have := NK.p.few; omega) (NK.p.row.below hW) NK.p.ok)
      have M2 := Lib.hid (fun W (hW : Below w.heap.size w W) => rpmay_any x.g.x x.g.t x.g.a x.g.n x.g.c x.g.L W NK.g.len (by have := NK.g.few; omega) (NK.g.row.below hW) NK.g.ok)
      obtain ⟨z1, hz1⟩ : ∃ z, pmay x.p.x x.p.t x.p.L = z := ⟨_, rfl⟩
      obtain ⟨z2, hz2⟩ : ∃ z, pmay x.g.x x.g.t x.g.L = z := ⟨_, rfl⟩
      rw [hz1] at M1
      rw [hz2] at M2
      have HZ := Lib.hid (show bad x = (!z1 || !z2) by unfold bad; rw [hz1, hz2])
      have TA := Lib.hid (show (!z1 || !z2) = false → (L.take (i + 1)).any bad = false from fun h => by rw [TS.out, List.any_append, HD.out, List.any_cons, HZ.out, h]; rfl)
      have TB := Lib.hid (show (!z1 || !z2) = true → L.any bad = true from fun h => List.any_eq_true.2 ⟨x, ME.out, by rw [HZ.out, h]⟩)
      clear hx hz1 hz2 NK ME TS HZ HD
      obtain ⟨xk, ⟨xx, xt, xa, xn, xc, xL⟩, xy, ⟨yx, yt, ya, yn, yc, yL⟩, xlo, xhi, xs⟩ := x
      have X1 := Lib.hid hat
      obtain ⟨e0, e1, e2, e3, e4, e5, e6, e7, e8, e9, e10⟩ := hat
      simp only at e0 e1 e2 e3 e4 e5 e6 e7 e8 e9 e10 M1 M2
      go_wp2_with fail
      refine (M1.out _ K1.out.bel).mono ?_
      rintro e w5 ⟨rfl, hb⟩
      have K5 := Lib.hid (K1.out.next hb)
      have B5 := Lib.hid (B1.out.trans (hb.mono (by have := B1.out.size; rw [World.size_alloc] at this; omega)))
      have T5 := Lib.hid (T1.out.below hb T1.out.lt)
      have X5 := Lib.hid (X1.out.below hb X1.out.lt)
      clear hb K1 B1 T1 X1 M1 p0 e0 e1 e2 e3 e4 e5 e6 e7 e8 e9 e10
      have p0 := K5.out.c0
      obtain ⟨e0, e1, e2, e3, e4, e5, e6, e7, e8, e9, e10⟩ := X5.out
      simp only at e0 e1 e2 e3 e4 e5 e6 e7 e8 e9 e10
      cases z1
      · have HR1 := HR.out
        rw [if_pos (TB.out (by first | rfl | trivial))] at HR1
        subst HR1
        clear TA TB
        go_wp2_with fail
        go_ret
        exact ⟨rfl, K5.out.bel⟩
      · go_wp2_with fail
        refine (M2.out _ K5.out.bel).mono ?_
        rintro e w6 ⟨rfl, hb⟩
        have K6 := Lib.hid (K5.out.next hb)
        have B6 := Lib.hid (B5.out.trans (hb.mono (by have := B5.out.size; rw [World.size_alloc] at this; omega)))
        have T6 := Lib.hid (T5.out.below hb T5.out.lt)
        clear hb K5 B5 T5 X5 M2 p0 e0 e1 e2 e3 e4 e5 e6 e7 e8 e9 e10
        cases z2
        · have HR1 := HR.out
          rw [if_pos (TB.out (by first | rfl | trivial))] at HR1
          subst HR1
          clear TA TB
          go_wp2_with fail
          go_ret
          exact ⟨rfl, K6.out.bel⟩
        · have TA2 := Lib.hid (TA.out (by first | rfl | trivial))
          clear TA TB
          go_wp2_with fail
          go_roundw
          case rel => exact ⟨i + 1, by go_num, by omega, Lib.hid ⟨K6.out, B6.out, T6.out, TA2.out⟩⟩
          case measure => simp [intOf]; omega
    · obtain rfl : i = n := by omega
      have E : L.any bad = false := by have := HD.out; rwa [List.take_of_length_le (by have := HN.out; omega)] at this
      rw [if_neg (by rw [E]; simp)] at HR
      clear E HD HN HP p0
      obtain ⟨⟨e0, e1, e2, e3, e4, e5, e6, e7, e8, e9, e10⟩, e11⟩ := T1.out.cells
      simp only at e0 e1 e2 e3 e4 e5 e6 e7 e8 e9 e10
      go_wp2_with fail
      refine (I2.out _ B1.out).mono ?_
      rintro e w5 ⟨rfl, hb⟩
      have K5 := Lib.hid (K1.out.next hb)
      have B5 := Lib.hid (B1.out.trans (hb.mono (by have := B1.out.size; rw [World.size_alloc] at this; omega)))
      have T5 := Lib.hid (T1.out.below hb T1.out.lt)
      clear hb K1 B1 T1 e0 e1 e2 e3 e4 e5 e6 e7 e8 e9 e10 e11 I2
      by_cases c4 : 8 < d
      · have HR1 := HR.out
        rw [if_pos c4] at HR1
        subst HR1
        go_wp2_with fail
        go_ret
        exact ⟨rfl, K5.out.bel⟩
      · rw [if_neg c4] at HR
        have g1 := K5.out.c1
        by_cases c5 : win = 0
        · have HR1 := HR.out
          rw [if_pos (.inl c5)] at HR1
          subst HR1
          subst c5
          go_wp2_with fail
          go_ret
          exact ⟨rfl, K5.out.bel⟩
        · have c5b : (win == 0) = false := by simp [c5]
          by_cases c6 : 1048576 < win
          · have HR1 := HR.out
            rw [if_pos (.inr c6)] at HR1
            subst HR1
            go_wp2_with fail
            go_ret
            exact ⟨rfl, K5.out.bel⟩
          · rw [if_neg (by omega)] at HR
            obtain ⟨⟨e0, e1, e2, e3, e4, e5, e6, e7, e8, e9, e10⟩, e11⟩ := T5.out.cells
            simp only at e0 e1 e2 e3 e4 e5 e6 e7 e8 e9 e10
            go_wp2_with fail
            refine (I3.out _ B5.out).mono ?_
            rintro e w6 ⟨rfl, hb⟩
            have K6 := Lib.hid (K5.out.next hb)
            clear hb K5 B5 T5 e0 e1 e2 e3 e4 e5 e6 e7 e8 e9 e10 e11 I3
            by_cases c7 : 32 < pl
            · have HR1 := HR.out
              rw [if_pos c7] at HR1
              subst HR1
              go_wp2_with fail
              go_ret
              exact ⟨rfl, K6.out.bel⟩
            · have HR1 := HR.out
              rw [if_neg c7] at HR1
              subst HR1
              go_wp2_with fail
              go_ret
              exact ⟨rfl, K6.out.bel⟩
end Go.Proofs.YtnjndlbhnkhlhaaDoor
