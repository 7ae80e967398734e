/- Contracts, joined: MCx, PdRE. -/
import Derived.Test.YtpnllbojifnopaaGreatDoorMC
import Derived.Deep.RegionLaw
import Derived.Test.YtpnllbojifnopaaGreatDoorMD
/- Sameness of values, the document's. -/
namespace Go.Proofs.YtpnllbojifnopaaGreatDoor
open Go Go.RowKit Pk Rl
set_option maxRecDepth 20000

set_option maxHeartbeats 400000 in
theorem pbits_any (s : Bool) (E F : Nat) (hE : E < 2048) (hF : F < 4503599627370496) (w : World) :
    Calls Tryz.prog 127 #[pt s E F] w fun e w' => e = .returned (.int .u64 (pb s E F : Int)) ∧ Below w.heap.size w w' := by
  have B0 := Lib.hid ((Below.refl w.heap.size w).alloc (Nat.le_refl _) (.cells #[.bool s, .int .i64 (E : Int), .int .u64 (F : Int)] 222))
  cases hn : pn E F
  · cases s
    · rw [show pb false E F = E * 4503599627370496 + F by unfold pb; rw [hn]; simp]
      go_enter Tryz.func127, Tryz.ntmps127
      go_wp2_with fail
      refine (pnan_any false E F false hn _).mono ?_
      rintro e w' ⟨rfl, hb⟩
      obtain ⟨c0, c1, c2⟩ := three _ _ _ _ _ hb
      have B1 := Lib.hid (B0.out.trans (hb.mono (by simp)))
      clear hb
      go_wp2
      go_ret
      exact ⟨ret_u64 (by omega), B1.out⟩
    · rw [show pb true E F = E * 4503599627370496 + F + 9223372036854775808 by unfold pb; rw [hn]; simp]
      go_enter Tryz.func127, Tryz.ntmps127
      go_wp2_with fail
      refine (pnan_any true E F false hn _).mono ?_
      rintro e w' ⟨rfl, hb⟩
      obtain ⟨c0, c1, c2⟩ := three _ _ _ _ _ hb
      have B1 := Lib.hid (B0.out.trans (hb.mono (by simp)))
      clear hb
      go_wp2
      go_ret
      exact ⟨ret_u64 (by omega), B1.out⟩
  · rw [show pb s E F = 9221120237041090560 by unfold pb; rw [hn]; simp]
    go_enter Tryz.func127, Tryz.ntmps127
    go_wp2_with fail
    refine (pnan_any s E F true hn _).mono ?_
    rintro e w' ⟨rfl, hb⟩
    go_wp2
    go_ret
    exact ⟨rfl, B0.out.trans (hb.mono (by simp))⟩

set_option maxRecDepth 100000 in
theorem rvsame_walk (k n : Int) (r : Nat) (s : ByteArray) (k' n' : Int) (r' : Nat) (s' : ByteArray) (x x' : Nat) (bi br bs : Bool) (hi : (n == n') = bi) (hs : (s.toList == s'.toList) = bs) (hr : ((x : Int) == (x' : Int)) = br)
    (a : Bool) (E F : Nat) (a' : Bool) (E' F' : Nat)
    (w : World) (O1 : Hid (∀ w, Calls Tryz.prog 126 #[.float .f64 r] w fun e w' => e = .returned (pt a E F) ∧ Below w.heap.size w w'))
    (O2 : Hid (∀ w, Calls Tryz.prog 126 #[.float .f64 r'] w fun e w' => e = .returned (pt a' E' F') ∧ Below w.heap.size w w'))
    (P1 : Hid (∀ w, Calls Tryz.prog 127 #[pt a E F] w fun e w' => e = .returned (.int .u64 (x : Int)) ∧ Below w.heap.size w w'))
    (P2 : Hid (∀ w, Calls Tryz.prog 127 #[pt a' E' F'] w fun e w' => e = .returned (.int .u64 (x' : Int)) ∧ Below w.heap.size w w')) :
    Calls Tryz.prog 90 #[vl k n r s, vl k' n' r' s'] w fun e w' => e = .returned (.bool (smB k k' bi br bs)) ∧ Below w.heap.size w w' := by
  have T0 := Lib.hid (TwoV.start w k n r s k' n' r' s')
  by_cases h : k = k'
  · subst h
    have hk : (k != k) = false := by simp
    by_cases h1 : k = 1
    · subst h1
      clear O1 O2 P1 P2 hk
      go_enter Tryz.func90, Tryz.ntmps90
      go_wp2_with fail
      go_ret
      exact ⟨by simp [smB], T0.out.bel⟩
    by_cases h2 : k = 2
    · subst h2
      clear hi hs hk h1
      go_enter Tryz.func90, Tryz.ntmps90
      go_wp2_with fail
      go_region_held3 (fun W => W.cell? ⟨w.heap.size, 2, none⟩ = some (.float .f64 r) ∧ W.cell? ⟨w.heap.size + 1, 2, none⟩ = some (.float .f64 r') ∧ Below w.heap.size w W ∧ w.heap.size + 1 < W.heap.size ∧ w.heap.size ≤ W.heap.size)
        (first | assumption | exact ⟨T0.out.one.2.2.1, T0.out.two.2.2.1, T0.out.bel.drew, T0.out.big, T0.out.bel.size⟩ | exact eight_next (by assumption) (by assumption))
        (first
          | (go_at_call 126; (with_reducible refine (O1.out _).mono ?_); rintro e w' ⟨rfl, b1⟩)
          | (go_at_call 126; (with_reducible refine (O2.out _).mono ?_); rintro e w' ⟨rfl, b1⟩)
          | (go_at_call 127; (with_reducible refine (P1.out _).mono ?_); rintro e w' ⟨rfl, b1⟩)
          | (go_at_call 127; (with_reducible refine (P2.out _).mono ?_); rintro e w' ⟨rfl, b1⟩))
      rename_i hHeld
      have HB := Lib.hid hHeld.2.2.1
      clear hHeld
      go_wp2
      go_ret
      exact ⟨by simp [smB], HB.out⟩
    by_cases h3 : k = 3
    · subst h3
      clear O1 O2 P1 P2 hi hk
      go_enter Tryz.func90, Tryz.ntmps90
      go_wp2_with fail
      go_ret
      exact ⟨by simp [smB], T0.out.bel⟩
    have e1 : (k == 1) = false := by simp; omega
    have e2 : (k == 2) = false := by simp; omega
    have e3 : (k == 3) = false := by simp; omega
    have E := Lib.hid (show smB k k bi br bs = true by unfold smB; rw [if_pos rfl, if_neg h1, if_neg h2, if_neg h3])
    rw [E.out]
    clear O1 O2 P1 P2 hi hs hr E h1 h2 h3
    go_enter Tryz.func90, Tryz.ntmps90
    go_wp2_with fail
    go_ret
    exact ⟨rfl, T0.out.bel⟩
  · have hk : (k != k') = true := by simp; omega
    have E := Lib.hid (show smB k k' bi br bs = false by unfold smB; rw [if_neg h])
    rw [E.out]
    clear O1 O2 P1 P2 hi hs hr E h
    go_enter Tryz.func90, Tryz.ntmps90
    go_wp2_with fail
    go_ret
    exact ⟨rfl, T0.out.bel⟩
theorem rvsame_any (k n : Int) (r : Nat) (s : ByteArray) (k' n' : Int) (r' : Nat) (s' : ByteArray) (hr : r < 18446744073709551616) (hr' : r' < 18446744073709551616) (w : World) :
    Calls Tryz.prog 90 #[vl k n r s, vl k' n' r' s'] w fun e w' => e = .returned (.bool (sm k n r s k' n' r' s')) ∧ Below w.heap.size w w' :=
  rvsame_walk k n r s k' n' r' s' (bt r) (bt r') _ _ _ (by rw [Bool.eq_iff_iff]; simp) (toList_eq_dec s s') (by rw [Bool.eq_iff_iff, beq_iff_eq, decide_eq_true_iff]; exact Int.ofNat_inj) _ _ _ _ _ _ w (Lib.hid fun w => of_any r hr w) (Lib.hid fun w => of_any r' hr' w)
    (Lib.hid fun w => by have := pbits_any (neg r) (ex r) (fr r) (ex_lt r) (fr_lt r) w; rwa [pb_bt r hr] at this) (Lib.hid fun w => by have := pbits_any (neg r') (ex r') (fr r') (ex_lt r') (fr_lt r') w; rwa [pb_bt r' hr'] at this)
theorem rvsame_v (v u : VV) (h : Okv v) (h' : Okv u) (w : World) : Calls Tryz.prog 90 #[vlOf v, vlOf u] w fun e w' => e = .returned (.bool (smv v u)) ∧ Below w.heap.size w w' := rvsame_any _ _ _ _ _ _ _ _ h.re h'.re w
end Go.Proofs.YtpnllbojifnopaaGreatDoor

/- Whether two questions are the same: the document's. -/
namespace Go.Proofs.YtpnllbojifnopaaGreatDoor
open Go Go.RowKit Pk Rl
set_option maxRecDepth 20000

set_option maxHeartbeats 4000000 in
theorem rpsame_eq (x : Bool) (t : Int) (a : Option Addr) (n c : Nat) (L : List TT) (a' : Option Addr) (c' : Nat) (M : List TT) (w : World) (hn : L.length = n) (hn' : M.length = n) (hm : n ≤ 1000)
    (hv : Tsts w a L) (hv' : Tsts w a' M) (hk : ∀ v ∈ L, Okt v) (hk' : ∀ v ∈ M, Okt v) :
    Calls Tryz.prog 52 #[pv x t a n c, pv x t a' n c'] w fun e w' => e = .returned (.bool ((List.range n).all (TT2 L M))) ∧ Below w.heap.size w w' := by
  have K0 := Lib.hid (SB.start w x t a n c L x t a' n c' M hv hv')
  have SV := Lib.hid (fun j (hj : j < n) => rvsame_v (L.getD j tz).2.2 (M.getD j tz).2.2 (hk _ (tgetD_mem L j (by omega))).v (hk' _ (tgetD_mem M j (by omega))).v)
  have HN := Lib.hid hn
  have HN' := Lib.hid hn'
  obtain ⟨R, hR⟩ : ∃ R, (List.range n).all (TT2 L M) = R := ⟨_, rfl⟩
  rw [hR]
  have HR := Lib.hid hR
  clear hn hn' hv hv' hk hk' hR
  have ex : (x == x) = true := by simp
  have et : (t == t) = true := by simp
  have en : ((n : Int) == (n : Int)) = true := by simp
  go_enter Tryz.func52, Tryz.ntmps52
  go_wp2
  go_loopw [30] (fun i W => ∃ (j : Nat), i = .int .i64 j ∧ j ≤ n ∧ Hid (SB w W w.heap.size (w.heap.size + 1) x t a n c L x t a' n c' M ∧ (List.range j).all (TT2 L M) = true)) (fun i _ => n - (intOf i).toNat)
  case atStart => exact ⟨0, rfl, by omega, Lib.hid ⟨K0.out, rfl⟩⟩
  case round =>
    obtain ⟨j, rfl, hj, H⟩ := hrel
    by_cases hjn : j < n
    · have HD := Lib.hid H.out.2
      obtain ⟨b, off, rfl, -⟩ := H.out.1.v1 j (by have := HN.out; omega)
      obtain ⟨b', off', rfl, -⟩ := H.out.1.v2 j (by have := HN'.out; omega)
      have S1 := Lib.hid (SV.out j hjn)
      obtain ⟨v, hv⟩ : ∃ v, L.getD j tz = v := ⟨_, rfl⟩
      obtain ⟨u, hu⟩ : ∃ u, M.getD j tz = u := ⟨_, rfl⟩
      have HQ := Lib.hid (show TT2 L M j = smt v u by unfold TT2; rw [hv, hu])
      rw [hv, hu] at S1
      obtain ⟨f, o, k, i, r, s⟩ := v
      obtain ⟨f', o', k', i', r', s'⟩ := u
      obtain ⟨q, hq⟩ : ∃ q, TT2 L M j = q := ⟨_, rfl⟩
      have PJ := Lib.hid (show q = false → R = false from fun h => by
        rw [← HR.out, List.all_eq_false]; exact ⟨j, List.mem_range.2 hjn, by rw [hq, h]; decide⟩)
      have PS := Lib.hid (show q = true → (List.range (j + 1)).all (TT2 L M) = true from fun h => by rw [List.range_succ, List.all_append, HD.out]; simp only [List.all_cons, List.all_nil, hq, h]; rfl)
      rw [hq] at HQ
      have KJ : Hid ((j < L.length ∧ L.getD j tz = (f, o, k, i, r, s)) ∧ j < M.length ∧ M.getD j tz = (f', o', k', i', r', s')) := Lib.hid ⟨⟨by have := HN.out; omega, hv⟩, by have := HN'.out; omega, hu⟩
      have KN := Lib.hid (ks_of KJ.out H.out.1)
      have KD := Lib.hid (ks_next KJ (Below.refl _ _).drew KN.out)
      have BW := Lib.hid H.out.1.bel
      obtain ⟨c0, c1, c2, c3, c4, c5, c6, c7, d0, d1, d2, d3, d4, d5, -⟩ := KN.out
      clear H HD hv hu hq KN K0 SV HR
      by_cases cf : f = f'
      · subst cf
        have ef : (f == f) = true := by simp
        by_cases co : o = o'
        · subst co
          have eo : (o == o) = true := by simp
          have HQ2 := Lib.hid (show q = smv (k, i, r, s) (k', i', r', s') by rw [HQ.out]; unfold smt; simp)
          rw [← HQ2.out] at S1
          clear HQ HQ2
          go_wp2_with fail
          go_region_held3 (fun W => W.cell? ⟨w.heap.size, 2, none⟩ = some (.slice (some ⟨b, off, none⟩) n c) ∧ W.cell? ⟨w.heap.size + 1, 2, none⟩ = some (.slice (some ⟨b', off', none⟩) n c') ∧
            W.cell? ⟨b, off + j * 6, none⟩ = some (.int .u8 f) ∧ W.cell? ⟨b, off + j * 6 + 1, none⟩ = some (.int .u8 o) ∧ W.cell? ⟨b, off + j * 6 + 2, none⟩ = some (.int .u8 k) ∧ W.cell? ⟨b, off + j * 6 + 3, none⟩ = some (.int .i64 i) ∧
            W.cell? ⟨b, off + j * 6 + 4, none⟩ = some (.float .f64 r) ∧ W.cell? ⟨b, off + j * 6 + 5, none⟩ = some (.string s) ∧
            W.cell? ⟨b', off' + j * 6, none⟩ = some (.int .u8 f) ∧ W.cell? ⟨b', off' + j * 6 + 1, none⟩ = some (.int .u8 o) ∧ W.cell? ⟨b', off' + j * 6 + 2, none⟩ = some (.int .u8 k') ∧ W.cell? ⟨b', off' + j * 6 + 3, none⟩ = some (.int .i64 i') ∧
            W.cell? ⟨b', off' + j * 6 + 4, none⟩ = some (.float .f64 r') ∧ W.cell? ⟨b', off' + j * 6 + 5, none⟩ = some (.string s') ∧ Hid (SB w W w.heap.size (w.heap.size + 1) x t (some ⟨b, off, none⟩) n c L x t (some ⟨b', off', none⟩) n c' M))
            (first | (with_reducible assumption) | (with_reducible exact KD.out) | (with_reducible exact ks_next KJ b1 (by assumption)))
            (first | (go_at_call 90; (with_reducible refine (S1.out _).mono ?_); rintro e w' ⟨rfl, b1⟩))
          rename_i hHeld
          have K4 := Lib.hid (hHeld.2.2.2.2.2.2.2.2.2.2.2.2.2.2.out)
          clear hHeld c0 c1 c2 c3 c4 c5 c6 c7 d0 d1 d2 d3 d4 d5 S1 KD KJ
          cases q
          · go_wp2_with fail
            go_ret
            exact ⟨ret_bool (PJ.out (by first | rfl | trivial)).symm, K4.out.bel⟩
          · go_wp2_with fail
            go_roundw
            case rel => exact ⟨j + 1, by go_num, by omega, Lib.hid ⟨K4.out, PS.out (by first | rfl | trivial)⟩⟩
            case measure => simp [intOf]; omega
        · have eo : (o == o') = false := by simpa using co
          have HP := Lib.hid (PJ.out (by rw [HQ.out]; unfold smt; simp [co]))
          have nf : (o != o') = true := by simpa using co
          have n2 : (f != f) = false := by simp
          clear S1 HQ PJ PS KJ KD c4 c5 c6 c7 d2 d3 d4 d5 ex et en co eo ef
          go_wp2_with fail
          go_quiet (fail)
          go_wp2_with fail
          go_ret
          exact ⟨ret_bool HP.out.symm, by first | exact BW.out.drewN _ | exact below_go BW.out (below_drewN _ _ _)⟩
      · have ef : (f == f') = false := by simpa using cf
        have HP := Lib.hid (PJ.out (by rw [HQ.out]; unfold smt; simp [cf]))
        have nf : (f != f') = true := by simpa using cf
        clear S1 HQ PJ PS KJ KD c3 c4 c5 c6 c7 d1 d2 d3 d4 d5 ex et en cf ef
        go_wp2_with fail
        go_quiet (fail)
        go_wp2_with fail
        go_ret
        exact ⟨ret_bool HP.out.symm, by first | exact BW.out.drewN _ | exact below_go BW.out (below_drewN _ _ _)⟩
    · obtain rfl : j = n := by omega
      have HD := Lib.hid H.out.2
      have B1 := Lib.hid H.out.1.bel
      clear H
      go_wp2_with fail
      go_ret
      exact ⟨ret_bool (by rw [← HR.out, HD.out]), B1.out⟩
set_option maxHeartbeats 2000000 in
theorem rpsame_any (x : Bool) (t : Int) (a : Option Addr) (n c : Nat) (L : List TT) (x' : Bool) (t' : Int) (a' : Option Addr) (n' c' : Nat) (M : List TT) (w : World) (hn : L.length = n) (hn' : M.length = n') (hm : n ≤ 1000)
    (hv : Tsts w a L) (hv' : Tsts w a' M) (hk : ∀ v ∈ L, Okt v) (hk' : ∀ v ∈ M, Okt v) :
    Calls Tryz.prog 52 #[pv x t a n c, pv x' t' a' n' c'] w fun e w' => e = .returned (.bool (psm x t L x' t' M)) ∧ Below w.heap.size w w' := by
  have BB := Lib.hid (below2 w (pcells x t a n c) (pcells x' t' a' n' c'))
  by_cases cx : x = x'
  · by_cases ct : t = t'
    · by_cases cn : n = n'
      · subst cx ct cn
        have := rpsame_eq x t a n c L a' c' M w hn hn' hm hv hv' hk hk'
        unfold psm
        rw [hn, hn', decide_eq_true rfl, decide_eq_true rfl, decide_eq_true rfl, Bool.true_and, Bool.true_and, Bool.true_and]
        exact this
      · have HC : psm x t L x' t' M = false := by unfold psm; rw [hn, hn', decide_eq_false cn]; simp
        rw [HC]
        subst cx ct
        have ex : (x == x) = true := by simp
        have et : (t == t) = true := by simp
        have en : ((n : Int) == (n' : Int)) = false := by simp; omega
        clear HC hn hn' hv hv' hk hk' cn
        go_enter Tryz.func52, Tryz.ntmps52
        go_wp2_with fail
        go_ret
        exact ⟨rfl, BB.out⟩
    · have HC : psm x t L x' t' M = false := by unfold psm; rw [decide_eq_false ct]; simp
      rw [HC]
      subst cx
      have ex : (x == x) = true := by simp
      have et : (t == t') = false := by simpa using ct
      clear HC hn hn' hv hv' hk hk'
      go_enter Tryz.func52, Tryz.ntmps52
      go_wp2_with fail
      go_ret
      exact ⟨rfl, BB.out⟩
  · have HC : psm x t L x' t' M = false := by unfold psm; rw [decide_eq_false cx]; simp
    rw [HC]
    have ex : (x == x') = false := by simpa using cx
    clear HC hn hn' hv hv' hk hk'
    go_enter Tryz.func52, Tryz.ntmps52
    go_wp2_with fail
    go_ret
    exact ⟨rfl, BB.out⟩
end Go.Proofs.YtpnllbojifnopaaGreatDoor
