/- Whether two questions are the same: the document's. -/
import Derived.Test.YtpnllbojifnopaaGreatDoorMD
import Derived.Test.YtpnllbojifnopaaGreatDoorMCx
namespace Go.Proofs.YtpnllbojifnopaaGreatDoor
open Go Go.RowKit Pk Rl
set_option maxRecDepth 20000

set_option maxHeartbeats 4000000 in
theorem rpsame_eq (x : Bool) (t : Int) (a : Option Addr) (n c : Nat) (L : List TT) (a' : Option Addr) (c' : Nat) (M : List TT) (w : World) (hn : L.length = n) (hn' : M.length = n) (hm : n ≤ 1000)
    (hv : Tsts w a L) (hv' : Tsts w a' M) (hk : ∀ v ∈ L, Okt v) (hk' : ∀ v ∈ M, Okt v) :
    Calls Tryz.prog 52 #[pv x t a n c, pv x t a' n c'] w fun e w' => e = .returned (.bool ((List.range n).all (TT2 L M))) ∧ Below w.heap.size w w' := by
  have K0 := Lib.hid (SB.start w x t a n c L x t a' n c' M hv hv')
  have SV := Lib.hid (fun j (hj : j < n) => rvsame_v (L.getD j tz).2.2 (M.getD j tz).2.2 (hk _ (tgetD_mem L j (by omega))).v (hk' _ (tgetD_mem M j (by omega))).v)
  have HN := Lib.hid hn
  have HN' := Lib.hid hn'
  obtain ⟨R, hR⟩ : ∃ R, (List.range n).all (TT2 L M) = R := ⟨_, rfl⟩
  rw [hR]
  have HR := Lib.hid hR
  clear hn hn' hv hv' hk hk' hR
  have ex : (x == x) = true := by simp
  have et : (t == t) = true := by simp
  have en : ((n : Int) == (n : Int)) = true := by simp
  go_enter Tryz.func52, Tryz.ntmps52
  go_wp2
  go_loopw [30] (fun i W => ∃ (j : Nat), i = .int .i64 j ∧ j ≤ n ∧ Hid (SB w W w.heap.size (w.heap.size + 1) x t a n c L x t a' n c' M ∧ (List.range j).all (TT2 L M) = true)) (fun i _ => n - (intOf i).toNat)
  case atStart => exact ⟨0, rfl, by omega, Lib.hid ⟨K0.out, rfl⟩⟩
  case round =>
    obtain ⟨j, rfl, hj, H⟩ := hrel
    by_cases hjn : j < n
    · have HD := Lib.hid H.out.2
      obtain ⟨b, off, rfl, -⟩ := H.out.1.v1 j (by have := HN.out; omega)
      obtain ⟨b', off', rfl, -⟩ := H.out.1.v2 j (by have := HN'.out; omega)
      have S1 := Lib.hid (SV.out j hjn)
      obtain ⟨v, hv⟩ : ∃ v, L.getD j tz = v := ⟨_, rfl⟩
      obtain ⟨u, hu⟩ : ∃ u, M.getD j tz = u := ⟨_, rfl⟩
      have HQ := Lib.hid (show TT2 L M j = smt v u by unfold TT2; rw [hv, hu])
      rw [hv, hu] at S1
      obtain ⟨f, o, k, i, r, s⟩ := v
      obtain ⟨f', o', k', i', r', s'⟩ := u
      obtain ⟨q, hq⟩ : ∃ q, TT2 L M j = q := ⟨_, rfl⟩
      have PJ := Lib.hid (show q = false → R = false from fun h => by
        rw [← HR.out, List.all_eq_false]; exact ⟨j, List.mem_range.2 hjn, by rw [hq, h]; decide⟩)
      have PS := Lib.hid (show q = true → (List.range (j + 1)).all (TT2 L M) = true from fun h => by rw [List.range_succ, List.all_append, HD.out]; simp only [List.all_cons, List.all_nil, hq, h]; rfl)
      rw [hq] at HQ
      have KJ : Hid ((j < L.length ∧ L.getD j tz = (f, o, k, i, r, s)) ∧ j < M.length ∧ M.getD j tz = (f', o', k', i', r', s')) := Lib.hid ⟨⟨by have := HN.out; omega, hv⟩, by have := HN'.out; omega, hu⟩
      have KN := Lib.hid (ks_of KJ.out H.out.1)
      have KD := Lib.hid (ks_next KJ (Below.refl _ _).drew KN.out)
      have BW := Lib.hid H.out.1.bel
      obtain ⟨c0, c1, c2, c3, c4, c5, c6, c7, d0, d1, d2, d3, d4, d5, -⟩ := KN.out
      clear H HD hv hu hq KN K0 SV HR
      by_cases cf : f = f'
      · subst cf
        have ef : (f == f) = true := by simp
        by_cases co : o = o'
        · subst co
          have eo : (o == o) = true := by simp
          have HQ2 := Lib.hid (show q = smv (k, i, r, s) (k', i', r', s') by rw [HQ.out]; unfold smt; simp)
          rw [← HQ2.out] at S1
          clear HQ HQ2
          go_wp2_with fail
          go_region_held3 (fun W => W.cell? ⟨w.heap.size, 2, none⟩ = some (.slice (some ⟨b, off, none⟩) n c) ∧ W.cell? ⟨w.heap.size + 1, 2, none⟩ = some (.slice (some ⟨b', off', none⟩) n c') ∧
            W.cell? ⟨b, off + j * 6, none⟩ = some (.int .u8 f) ∧ W.cell? ⟨b, off + j * 6 + 1, none⟩ = some (.int .u8 o) ∧ W.cell? ⟨b, off + j * 6 + 2, none⟩ = some (.int .u8 k) ∧ W.cell? ⟨b, off + j * 6 + 3, none⟩ = some (.int .i64 i) ∧
            W.cell? ⟨b, off + j * 6 + 4, none⟩ = some (.float .f64 r) ∧ W.cell? ⟨b, off + j * 6 + 5, none⟩ = some (.string s) ∧
            W.cell? ⟨b', off' + j * 6, none⟩ = some (.int .u8 f) ∧ W.cell? ⟨b', off' + j * 6 + 1, none⟩ = some (.int .u8 o) ∧ W.cell? ⟨b', off' + j * 6 + 2, none⟩ = some (.int .u8 k') ∧ W.cell? ⟨b', off' + j * 6 + 3, none⟩ = some (.int .i64 i') ∧
            W.cell? ⟨b', off' + j * 6 + 4, none⟩ = some (.float .f64 r') ∧ W.cell? ⟨b', off' + j * 6 + 5, none⟩ = some (.string s') ∧ Hid (SB w W w.heap.size (w.heap.size + 1) x t (some ⟨b, off, none⟩) n c L x t (some ⟨b', off', none⟩) n c' M))
            (first | (with_reducible assumption) | (with_reducible exact KD.out) | (with_reducible exact ks_next KJ b1 (by assumption)))
            (first | (go_at_call 90; (with_reducible refine (S1.out _).mono ?_); rintro e w' ⟨rfl, b1⟩))
          rename_i hHeld
          have K4 := Lib.hid (hHeld.2.2.2.2.2.2.2.2.2.2.2.2.2.2.out)
          clear hHeld c0 c1 c2 c3 c4 c5 c6 c7 d0 d1 d2 d3 d4 d5 S1 KD KJ
          cases q
          · go_wp2_with fail
            go_ret
            exact ⟨ret_bool (PJ.out (by first | rfl | trivial)).symm, K4.out.bel⟩
          · go_wp2_with fail
            go_roundw
            case rel => exact ⟨j + 1, by go_num, by omega, Lib.hid ⟨K4.out, PS.out (by first | rfl | trivial)⟩⟩
            case measure => simp [intOf]; omega
        · have eo : (o == o') = false := by simpa using co
          have HP := Lib.hid (PJ.out (by rw [HQ.out]; unfold smt; simp [co]))
          have nf : (o != o') = true := by simpa using co
          have n2 : (f != f) = false := by simp
          clear S1 HQ PJ PS KJ KD c4 c5 c6 c7 d2 d3 d4 d5 ex et en co eo ef
          go_wp2_with fail
          go_quiet (fail)
          go_wp2_with fail
          go_ret
          exact ⟨ret_bool HP.out.symm, by first | exact BW.out.drewN _ | exact below_go BW.out (below_drewN _ _ _)⟩
      · have ef : (f == f') = false := by simpa using cf
        have HP := Lib.hid (PJ.out (by rw [HQ.out]; unfold smt; simp [cf]))
        have nf : (f != f') = true := by simpa using cf
        clear S1 HQ PJ PS KJ KD c3 c4 c5 c6 c7 d1 d2 d3 d4 d5 ex et en cf ef
        go_wp2_with fail
        go_quiet (fail)
        go_wp2_with fail
        go_ret
        exact ⟨ret_bool HP.out.symm, by first | exact BW.out.drewN _ | exact below_go BW.out (below_drewN _ _ _)⟩
    · obtain rfl : j = n := by omega
      have HD := Lib.hid H.out.2
      have B1 := Lib.hid H.out.1.bel
      clear H
      go_wp2_with fail
      go_ret
      exact ⟨ret_bool (by rw [← HR.out, HD.out]), B1.out⟩
set_option maxHeartbeats 2000000 in
theorem rpsame_any (x : Bool) (t : Int) (a : Option Addr) (n c : Nat) (L : List TT) (x' : Bool) (t' : Int) (a' : Option Addr) (n' c' : Nat) (M : List TT) (w : World) (hn : L.length = n) (hn' : M.length = n') (hm : n ≤ 1000)
    (hv : Tsts w a L) (hv' : Tsts w a' M) (hk : ∀ v ∈ L, Okt v) (hk' : ∀ v ∈ M, Okt v) :
    Calls Tryz.prog 52 #[pv x t a n c, pv x' t' a' n' c'] w fun e w' => e = .returned (.bool (psm x t L x' t' M)) ∧ Below w.heap.size w w' := by
  have BB := Lib.hid (below2 w (pcells x t a n c) (pcells x' t' a' n' c'))
  by_cases cx : x = x'
  · by_cases ct : t = t'
    · by_cases cn : n = n'
      · subst cx ct cn
        have := rpsame_eq x t a n c L a' c' M w hn hn' hm hv hv' hk hk'
        unfold psm
        rw [hn, hn', decide_eq_true rfl, decide_eq_true rfl, decide_eq_true rfl, Bool.true_and, Bool.true_and, Bool.true_and]
        exact this
      · have HC : psm x t L x' t' M = false := by unfold psm; rw [hn, hn', decide_eq_false cn]; simp
        rw [HC]
        subst cx ct
        have ex : (x == x) = true := by simp
        have et : (t == t) = true := by simp
        have en : ((n : Int) == (n' : Int)) = false := by simp; omega
        clear HC hn hn' hv hv' hk hk' cn
        go_enter Tryz.func52, Tryz.ntmps52
        go_wp2_with fail
        go_ret
        exact ⟨rfl, BB.out⟩
    · have HC : psm x t L x' t' M = false := by unfold psm; rw [decide_eq_false ct]; simp
      rw [HC]
      subst cx
      have ex : (x == x) = true := by simp
      have et : (t == t') = false := by simpa using ct
      clear HC hn hn' hv hv' hk hk'
      go_enter Tryz.func52, Tryz.ntmps52
      go_wp2_with fail
      go_ret
      exact ⟨rfl, BB.out⟩
  · have HC : psm x t L x' t' M = false := by unfold psm; rw [decide_eq_false cx]; simp
    rw [HC]
    have ex : (x == x') = false := by simpa using cx
    clear HC hn hn' hv hv' hk hk'
    go_enter Tryz.func52, Tryz.ntmps52
    go_wp2_with fail
    go_ret
    exact ⟨rfl, BB.out⟩
end Go.Proofs.YtpnllbojifnopaaGreatDoor
